import PyProof.Rows.All
import Wide.All
import OpenK.AllK
import Wide.FinOn
import Lean
import PyProof.EqAt
import PyProof.EqKinds
import PyProof.TupleCall
import PySem.Challenge.RW_namepaths_k17_whole_nets_judged
set_option Elab.async false
set_option linter.all false
set_option maxRecDepth 100000
set_option maxHeartbeats 1000000
set_option Elab.async false
set_option linter.all false
set_option maxRecDepth 100000
/-! THE HAND LAYER, for ints, bools, texts, own classes, LISTS and tuples (index, slices, in, append, pop ..), calls, loops. Paste it whole ahead of your own text; what your proof does not reach may be deleted. -/
namespace L2
open PySem PySem.Spec PyProof.Rows

/-- a key: an int or a str -/
abbrev Key := Sum Int Str
def keyIs : Key → Value → Bool
  | .inl k, v => Value.isInt k v
  | .inr x, v => Value.isStrOf x v
def keyH (w : World) : Key → Int
  | .inl k => hashInt k
  | .inr x => hashStr w x
theorem keyIs_shape : ∀ {k : Key} {v : Value}, keyIs k v = true → (∃ i t, k = Sum.inl i ∧ v = Value.int i t) ∨ (∃ x t, k = Sum.inr x ∧ v = Value.str x t)
  | .inl i, v, h => by
    obtain ⟨t, e⟩ := Value.isInt_shape (k := i) (v := v) h
    exact .inl ⟨i, t, rfl, e⟩
  | .inr x, v, h => by
    obtain ⟨t, e⟩ := Value.isStrOf_shape (x := x) (v := v) h
    exact .inr ⟨x, t, rfl, e⟩
theorem keyIs_int (i : Int) (t : Tok) : keyIs (.inl i) (.int i t) = true := by simp [keyIs, Value.isInt]
theorem keyIs_str (x : Str) (t : Tok) : keyIs (.inr x) (.str x t) = true := by simp [keyIs, Value.isStrOf]
theorem key_ll (a b : Int) : decide ((Sum.inl a : Key) = Sum.inl b) = (a == b) := by
  by_cases e : a = b
  · subst e; simp
  · have h : ¬ (Sum.inl a : Key) = Sum.inl b := fun q => e (Sum.inl.inj q)
    rw [decide_eq_false h]
    exact (beq_eq_false_iff_ne.mpr e).symm
theorem key_rr (a b : Str) : decide ((Sum.inr a : Key) = Sum.inr b) = decide (a = b) := by
  by_cases e : a = b
  · subst e; simp
  · have h : ¬ (Sum.inr a : Key) = Sum.inr b := fun q => e (Sum.inr.inj q)
    rw [decide_eq_false h, decide_eq_false e]
theorem key_lr (a : Int) (b : Str) : decide ((Sum.inl a : Key) = Sum.inr b) = false := decide_eq_false (fun q => nomatch q)
theorem key_rl (a : Str) (b : Int) : decide ((Sum.inr a : Key) = Sum.inl b) = false := decide_eq_false (fun q => nomatch q)

def mixKind (prog : Program) (w : World) : PySem.KeyKind prog w Key where
  is := keyIs
  hash := keyH w
  inj := fun v a b ha hb => by
    rcases keyIs_shape ha with ⟨i, t, rfl, rfl⟩ | ⟨x, t, rfl, rfl⟩
    · rcases keyIs_shape hb with ⟨j, u, rfl, e⟩ | ⟨y, u, rfl, e⟩
      · injection e with e1 _; rw [e1]
      · exact nomatch e
    · rcases keyIs_shape hb with ⟨j, u, rfl, e⟩ | ⟨y, u, rfl, e⟩
      · exact nomatch e
      · injection e with e1 _; rw [e1]
  byValue := fun k v h => by
    rcases keyIs_shape h with ⟨i, t, rfl, rfl⟩ | ⟨x, t, rfl, rfl⟩ <;> rfl
  pyHash := fun hv h => by
    rcases keyIs_shape hv with ⟨i, t, rfl, rfl⟩ | ⟨x, t, rfl, rfl⟩
    · exact wpAny_pyHash_int h
    · exact wpAny_pyHash_str h
  eqBool := fun hu hv h => by
    rcases keyIs_shape hu with ⟨i, t, rfl, rfl⟩ | ⟨x, t, rfl, rfl⟩
    · rcases keyIs_shape hv with ⟨j, u, rfl, rfl⟩ | ⟨y, u, rfl, rfl⟩
      · rw [key_ll] at h; exact wpAny_eqBool_int h
      · rw [key_lr] at h; exact SeqAt.EqAt.int_str i t y u _ _ _ _ h
    · rcases keyIs_shape hv with ⟨j, u, rfl, rfl⟩ | ⟨y, u, rfl, rfl⟩
      · rw [key_rl] at h; exact SeqAt.EqAt.str_int x t j u _ _ _ _ h
      · rw [key_rr] at h; exact wpAny_eqBool_str h
  «strs» := fun k x t v h => by
    rcases keyIs_shape h with ⟨i, u, rfl, e⟩ | ⟨y, u, rfl, e⟩
    · exact nomatch e
    · injection e with e1 _
      subst e1
      cases v <;> rfl

theorem mixKind_int (prog : Program) (w : World) (i : Int) (t : Tok) : (mixKind prog w).is (.inl i) (.int i t) = true := keyIs_int i t
theorem mixKind_str (prog : Program) (w : World) (x : Str) (t : Tok) : (mixKind prog w).is (.inr x) (.str x t) = true := keyIs_str x t
end L2

namespace L2
open PySem PySem.Spec PyProof.Rows

/-- a value, without the heap -/
inductive V where
  | non | bl (b : Bool) | int (i : Int) | str (x : Str) | byt (b : Array UInt8) | flt (b : UInt64) | ref (a : Addr) | ty (n : String)
  deriving DecidableEq

def RelV : V → Value → Prop
  | .non, u => u = Value.none
  | .bl b, u => u = Value.bool b
  | .int i, u => ∃ t, u = Value.int i t
  | .str x, u => ∃ t, u = Value.str x t
  | .byt b, u => ∃ t, u = Value.bytes b t
  | .flt b, u => ∃ t, u = Value.float b t
  | .ref a, u => u = Value.ref a
  | .ty n, u => u = Value.type n

abbrev Vals : List V → List Value → Prop := Paired RelV
theorem Vals.length {xs : List V} {us : List Value} (r : Vals xs us) : xs.length = us.length := Paired.length r
theorem Vals.get : ∀ {xs : List V} {us : List Value} {i : Nat} {x : V}, Vals xs us → xs[i]? = some x → ∃ u, us[i]? = some u ∧ RelV x u
  | _, _, _, _, .nil, e => by simp at e
  | _, _, 0, _, .cons r _, e => by simp at e; subst e; exact ⟨_, rfl, r⟩
  | _, _, i + 1, x, .cons _ t, e => by
    obtain ⟨u, h1, h2⟩ := Vals.get (i := i) (x := x) t (by simpa using e)
    exact ⟨u, by simpa using h1, h2⟩
theorem Vals.set {x : V} {u : Value} (r : RelV x u) : ∀ {xs : List V} {us : List Value} (i : Nat), Vals xs us → Vals (xs.set i x) (us.set i u)
  | _, _, _, .nil => .nil
  | _, _, 0, .cons _ t => .cons r t
  | _, _, i + 1, .cons q t => .cons q (Vals.set r i t)
theorem Vals.append : ∀ {xs ys : List V} {us ws : List Value}, Vals xs us → Vals ys ws → Vals (xs ++ ys) (us ++ ws)
  | _, _, _, _, .nil, s => s
  | _, _, _, _, .cons r t, s => .cons r (Vals.append t s)
theorem Vals.take : ∀ {xs : List V} {us : List Value} (n : Nat), Vals xs us → Vals (xs.take n) (us.take n)
  | _, _, 0, _ => .nil
  | _, _, _ + 1, .nil => .nil
  | _, _, n + 1, .cons r t => .cons r (Vals.take n t)
theorem Vals.drop : ∀ {xs : List V} {us : List Value} (n : Nat), Vals xs us → Vals (xs.drop n) (us.drop n)
  | _, _, 0, r => r
  | _, _, _ + 1, .nil => .nil
  | _, _, n + 1, .cons _ t => Vals.drop n t

def RelO : Option V → Option Value → Prop
  | some v, some u => RelV v u
  | none, none => True
  | _, _ => False
def KV {κ : Type} : List (κ × V) → List (κ × Value) → Prop := Paired fun (p : κ × V) (q : κ × Value) => p.1 = q.1 ∧ RelV p.2 q.2

/-- a key of a dict (00_mix): an int or a text -/
def kV : Key → V
  | .inl i => .int i
  | .inr x => .str x

/-- what stands at a tracked address -/
inductive HO where
  /-- a list -/
  | lst (xs : List V)
  /-- a tuple (never changes) -/
  | tup (xs : List V)
  /-- a dict whose keys are ints and texts; one whose keys are tuples of ints and texts (the empty one is both) -/
  | dK (kvs : List (Key × V)) | dT (kvs : List (List Key × V))
  /-- a set of ints: its members, its size -/
  | set (S : Int → Bool) (n : Nat)
  /-- an instance of the class at C, its dict at dx, its attributes -/
  | ins (C dx : Addr) (fs : List (Str × V))
  /-- the dict of the instance at x -/
  | own (x : Addr)
  /-- the dict of an exception -/
  | xd (fs : List (Str × V))
  /-- a bound method, f of x -/
  | met (f x : Addr)
  /-- a range object lo, lo + 1, .. below hi -/
  | rng (lo hi : Int)
  /-- a thing that is known to the object (the script; a dict while a loop walks it): read, never written while it is so -/
  | frz (o : Obj) (u : HO)
  /-- a code object's table -/
  | tbl (ps : Array Value)
  /-- any other thing, by what is true of its one object (a def of one's own: SetO a S n := HO.ext fun h => ..) -/
  | ext (φ : Heap → Prop)

abbrev Hp := Addr → Option HO
def upd (H : Hp) (a : Addr) (o : HO) : Hp := fun b => if b = a then some o else H b
theorem upd_same {H : Hp} {a : Addr} {o : HO} : upd H a o a = some o := by unfold upd; rw [if_pos rfl]
theorem upd_ne {H : Hp} {a b : Addr} {o : HO} (h : b ≠ a) : upd H a o b = H b := by unfold upd; rw [if_neg h]
theorem ne_of_none {H : Hp} {a b : Addr} {o : HO} (h : H a = some o) (h' : H b = none) : a ≠ b := by
  intro e; subst e; rw [h] at h'; cases h'

section
variable (P : Program) (w : World)
def ObjOk (H : Hp) (h : Heap) (a : Addr) : HO → Prop
  | .lst xs => xs.length ≤ sizeLine ∧ ∃ (its : List Value) (n : Nat), Vals xs its ∧ h.get? a = some { cls := .type "list", data := .seq its.toArray n }
  | .tup xs => xs.length ≤ sizeLine ∧ ∃ its : List Value, Vals xs its ∧ IsTup h a its.toArray
  | .dK kvs => kvs.length ≤ sizeLine ∧ (a == sysModules) = false ∧ ∃ vs, KV kvs vs ∧ h.DictOf (mixKind P w) a vs
  | .dT kvs => kvs.length ≤ sizeLine ∧ (a == sysModules) = false ∧ ∃ xs : List (List Key × Addr × Value),
      Paired (fun (p : List Key × V) (q : List Key × Addr × Value) => p.1 = q.1 ∧ H q.2.1 = some (.tup (p.1.map kV)) ∧ RelV p.2 q.2.2) kvs xs ∧
      ∃ o es ep, h.get? a = some o ∧ o.ExactDict ∧ o.data = .dict es ep ∧ es.toList = xs.map (entryOfKey (tupleKind (mixKind P w))) ∧ (xs.map (·.1)).Nodup
  | .set S n => h.SetOf (intKind P w) a S n
  | .ins C dx fs => H dx = some (.own a) ∧ fs.length ≤ 1000 ∧ dx ≠ a ∧ h.get? a = some (PySem.W.instObj C dx) ∧
      ∃ mA, h.Ns1 dx mA ∧ (∀ f, RelO (fs.lookup f) (mA f)) ∧ PySem.Within mA (fs.map (·.1))
  | .own _ => ∃ o, h.get? a = some o
  | .xd fs => ∃ mA, h.Ns1 a mA ∧ ∀ f, RelO (fs.lookup f) (mA f)
  | .rng lo hi => ∃ t u v, h.get? a = some { cls := .type "range", data := .fields #[.int lo t, .int hi u, .int 1 v] }
  | .frz o u => h.get? a = some o ∧ ObjOk H h a u
  | .tbl ps => h.get? a = some { cls := .none, data := .fields ps }
  | .met f x => h.get? a = some (PySem.W.methodObj (.ref f) (.ref x))
  | .ext φ => φ h ∧ (∃ o, h.get? a = some o) ∧ ∀ h1 h2 : Heap, φ h1 → (∀ o, h1.get? a = some o → h2.get? a = some o) → φ h2
/-- the abstract heap is held -/
def HOk (H : Hp) (h : Heap) : Prop := ∀ a o, H a = some o → ObjOk P w H h a o
end

section
variable {P : Program} {w : World} {H H' : Hp} {h h' : Heap} {a : Addr} {o : HO}
theorem ObjOk.lt (x : ObjOk P w H h a o) : a < h.objs.size := by
  cases o with
  | lst xs => obtain ⟨_, _, _, _, e⟩ := x; exact Heap.lt_size e
  | tup xs => obtain ⟨_, _, _, p⟩ := x; exact p.lt
  | dK kvs => obtain ⟨_, _, _, _, o, _, _, e, _⟩ := x; exact Heap.lt_size e
  | dT kvs => obtain ⟨_, _, _, _, o, _, _, e, _⟩ := x; exact Heap.lt_size e
  | set S n => obtain ⟨o, _, _, _, e, _⟩ := x; exact Heap.lt_size e
  | ins C dx fs => obtain ⟨_, _, _, e, _⟩ := x; exact Heap.lt_size e
  | own y => obtain ⟨_, e⟩ := x; exact Heap.lt_size e
  | xd fs => obtain ⟨_, ⟨_, _, _, e, _⟩, _⟩ := x; exact Heap.lt_size e
  | rng lo hi => obtain ⟨_, _, _, e⟩ := x; exact Heap.lt_size e
  | frz ob u => obtain ⟨e, _⟩ := x; exact Heap.lt_size e
  | tbl ps => exact Heap.lt_size (show h.get? a = some _ from x)
  | met f y => exact Heap.lt_size (show h.get? a = some _ from x)
  | ext φ => obtain ⟨_, ⟨_, e⟩, _⟩ := x; exact Heap.lt_size e
theorem Paired.mapP {α β : Type} {F G : α → β → Prop} : ∀ {l₁ : List α} {l₂ : List β}, Paired F l₁ l₂ → (∀ a b, F a b → G a b) → Paired G l₁ l₂
  | _, _, .nil, _ => .nil
  | _, _, .cons r t, f => .cons (f _ _ r) (Paired.mapP t f)
/-- what an object's description leans on: its own object, its own dict, the tuples -/
theorem ObjOk.stay (x : ObjOk P w H h a o) (k : ∀ b u, (b = a ∨ H b = some (.own a)) → h.get? b = some u → h'.get? b = some u)
    (ho : ∀ b, H b = some (.own a) → H' b = some (.own a)) (ht : ∀ b xs, H b = some (.tup xs) → H' b = some (.tup xs)) : ObjOk P w H' h' a o := by
  induction o with
  | lst xs => obtain ⟨z, its, n, r, e⟩ := x; exact ⟨z, its, n, r, k _ _ (.inl rfl) e⟩
  | tup xs => obtain ⟨z, its, r, ob, e, c⟩ := x; exact ⟨z, its, r, ob, k _ _ (.inl rfl) e, c⟩
  | dK kvs => obtain ⟨z, y, vs, r, ob, es, ep, e, c⟩ := x; exact ⟨z, y, vs, r, ob, es, ep, k _ _ (.inl rfl) e, c⟩
  | dT kvs =>
    obtain ⟨z, y, xs, r, ob, es, ep, e, c⟩ := x
    exact ⟨z, y, xs, Paired.mapP r fun p q z => ⟨z.1, ht _ _ z.2.1, z.2.2⟩, ob, es, ep, k _ _ (.inl rfl) e, c⟩
  | set S n => obtain ⟨ob, es, ep, t, e, c⟩ := x; exact ⟨ob, es, ep, t, k _ _ (.inl rfl) e, c⟩
  | ins C dx fs =>
    obtain ⟨d, z, ne, e, mA, ⟨od, es, ep, e2, c⟩, r⟩ := x
    exact ⟨ho _ d, z, ne, k _ _ (.inl rfl) e, mA, ⟨od, es, ep, k _ _ (.inr d) e2, c⟩, r⟩
  | own y => obtain ⟨ob, e⟩ := x; exact ⟨ob, k _ _ (.inl rfl) e⟩
  | xd fs => obtain ⟨mA, ⟨od, es, ep, e, c⟩, r⟩ := x; exact ⟨mA, ⟨od, es, ep, k _ _ (.inl rfl) e, c⟩, r⟩
  | rng lo hi => obtain ⟨t, u, v, e⟩ := x; exact ⟨t, u, v, k _ _ (.inl rfl) e⟩
  | frz ob u ih => obtain ⟨e, q⟩ := x; exact ⟨k _ _ (.inl rfl) e, ih q⟩
  | tbl ps =>
    have e : h.get? a = some { cls := .none, data := .fields ps } := x
    show h'.get? a = some { cls := .none, data := .fields ps }
    exact k a _ (.inl rfl) e
  | met f y =>
    have e : h.get? a = some (PySem.W.methodObj (.ref f) (.ref y)) := x
    show h'.get? a = some (PySem.W.methodObj (.ref f) (.ref y))
    exact k a _ (.inl rfl) e
  | ext φ => obtain ⟨p, ⟨o, e⟩, st⟩ := x; exact ⟨st _ _ p fun o q => k _ _ (.inl rfl) q, ⟨o, k _ _ (.inl rfl) e⟩, st⟩
theorem HOk.lt (x : HOk P w H h) (e : H a = some o) : a < h.objs.size := (x a o e).lt
theorem HOk.fresh (x : HOk P w H h) (e : h.objs.size ≤ a) : H a = none := by
  cases q : H a with
  | none => rfl
  | some u => exact absurd (Nat.lt_of_lt_of_le (x.lt q) e) (Nat.lt_irrefl _)
/-- every object of the heap is kept -/
theorem HOk.kept (x : HOk P w H h) (k : ∀ b u, h.get? b = some u → h'.get? b = some u) : HOk P w H h' := fun a o e =>
  (x a o e).stay (fun b u _ q => k b u q) (fun _ q => q) fun _ _ q => q
/-- a new object is laid and tracked -/
theorem HOk.laid (x : HOk P w H h) (k : ∀ b u, h.get? b = some u → h'.get? b = some u) (hp : h.objs.size ≤ a) (new : ObjOk P w (upd H a o) h' a o) : HOk P w (upd H a o) h' := fun b u e => by
  have hn := x.fresh hp
  by_cases hb : b = a
  · subst hb; rw [upd_same] at e; cases e; exact new
  · rw [upd_ne hb] at e
    exact (x b u e).stay (fun c v _ q => k c v q) (fun c q => by rw [upd_ne (ne_of_none q hn)]; exact q) fun c xs q => by rw [upd_ne (ne_of_none q hn)]; exact q
end

/-- what may be read as u: it is u, or a known u -/
def Rd (H : Hp) (a : Addr) (u : HO) : Prop := H a = some u ∨ ∃ o, H a = some (.frz o u)
theorem Rd.ok {P : Program} {w : World} {H : Hp} {h : Heap} {a : Addr} {u : HO} (r : Rd H a u) (x : HOk P w H h) : ObjOk P w H h a u := by
  rcases r with r | ⟨o, r⟩
  · exact x a u r
  · obtain ⟨_, q⟩ := x a _ r
    exact q
/-- what may be written -/
def Mut : Option HO → Prop
  | some (.lst _) => True
  | some (.dK _) => True
  | some (.dT _) => True
  | some (.set _ _) => True
  | some (.ins _ _ _) => True
  | some (.ext _) => True
  | _ => False
section
variable {P : Program} {w : World} {H : Hp} {h h' : Heap} {x e : Addr} {o' : HO}
/-- the object at e is changed: x itself, or the dict of the instance x -/
theorem HOk.write (ok : HOk P w H h) (mu : Mut (H x)) (he : e = x ∨ H e = some (.own x)) (k : ∀ b u, b ≠ e → h.get? b = some u → h'.get? b = some u) (heo : ∃ u, h'.get? e = some u)
    (new : ObjOk P w (upd H x o') h' x o') : HOk P w (upd H x o') h' := fun b u q => by
  have nown : ∀ c y, H c = some (.own y) → c ≠ x := fun c y r z => by subst z; rw [r] at mu; exact mu
  have ntup : ∀ c xs, H c = some (.tup xs) → c ≠ x := fun c xs r z => by subst z; rw [r] at mu; exact mu
  by_cases hb : b = x
  · subst hb; rw [upd_same] at q; cases q; exact new
  · rw [upd_ne hb] at q
    by_cases hbe : b = e
    · have q' : H b = some (.own x) := by
        rcases he with z | z
        · exact absurd (hbe.trans z) hb
        · rw [hbe]; exact z
      rw [q] at q'; cases q'
      obtain ⟨v, hv⟩ := heo
      exact ⟨v, by rw [hbe]; exact hv⟩
    · refine (ok b u q).stay (fun c v hc r => k c v ?_ r) (fun c r => by rw [upd_ne (nown c b r)]; exact r) fun c xs r => by rw [upd_ne (ntup c xs r)]; exact r
      rcases hc with rfl | hc
      · exact hbe
      · rintro rfl
        rcases he with z | z
        · exact nown c b hc z
        · rw [hc] at z; cases z; exact hb rfl
end

/-! ### kept unless tracked; of the frames at fs (the callers') the slots may change (an exception that passes writes there); of the records at ex (iterators) nothing is said -/
structure Un (fs ex : List Addr) (H H' : Hp) (h h' : Heap) : Prop where
  keep : ∀ b o, h.get? b = some o → H b = none → b ∉ fs → b ∉ ex → h'.get? b = some o
  slot : ∀ b o, h.get? b = some o → H b = none → b ∈ fs → b ∉ ex → ∃ sl, h'.get? b = some { o with slots := sl }
  free : ∀ b o, h.get? b = some o → H b = none → b ∉ ex → H' b = none
  there : ∀ b o, h.get? b = some o → b ∉ ex → ∃ o', h'.get? b = some o'
  tups : ∀ b xs, H b = some (.tup xs) → H' b = some (.tup xs)
  frzs : ∀ b o u, H b = some (.frz o u) → H' b = some (.frz o u)
  tbls : ∀ b ps, H b = some (.tbl ps) → ∃ more, H' b = some (.tbl (ps ++ more))
section
variable {fs fs' ex ex' : List Addr} {H H1 H2 : Hp} {h h1 h2 h' : Heap} {a x e : Addr} {o : HO}
theorem Un.any (u : Un fs ex H H1 h h1) {b : Addr} {ob : Obj} (q : h.get? b = some ob) (n : H b = none) (hx : b ∉ ex) : ∃ sl, h1.get? b = some { ob with slots := sl } := by
  by_cases hb : b ∈ fs
  · exact u.slot b ob q n hb hx
  · exact ⟨ob.slots, u.keep b ob q n hb hx⟩
theorem Un.kept (k : ∀ b u, h.get? b = some u → h'.get? b = some u) : Un fs ex H H h h' :=
  ⟨fun b ob q _ _ _ => k b ob q, fun b ob q _ _ _ => ⟨ob.slots, k b ob q⟩, fun _ _ _ n _ => n, fun b ob q _ => ⟨ob, k b ob q⟩, fun _ _ q => q, fun _ _ _ q => q, fun _ ps q => ⟨#[], by rw [q]; simp⟩⟩
theorem Un.refl : Un fs ex H H h h := Un.kept fun _ _ q => q
theorem Un.laid (k : ∀ b u, h.get? b = some u → h'.get? b = some u) (hp : h.objs.size ≤ a) (hn : H a = none) : Un fs ex H (upd H a o) h h' where
  keep := fun b u q _ _ _ => k b u q
  slot := fun b u q _ _ _ => ⟨u.slots, k b u q⟩
  free := fun b u q n _ => by rw [upd_ne (Nat.ne_of_lt (Nat.lt_of_lt_of_le (Heap.lt_size q) hp))]; exact n
  there := fun b u q _ => ⟨u, k b u q⟩
  tups := fun b xs q => by rw [upd_ne (ne_of_none q hn)]; exact q
  frzs := fun b u xs q => by rw [upd_ne (ne_of_none q hn)]; exact q
  tbls := fun b ps q => ⟨#[], by rw [upd_ne (ne_of_none q hn), q]; simp⟩
theorem Un.write (mu : Mut (H x)) (he : e = x ∨ H e = some (.own x)) (k : ∀ b u, b ≠ e → h.get? b = some u → h'.get? b = some u) (heo : ∃ u, h'.get? e = some u) : Un fs ex H (upd H x o) h h' := by
  have hx : ∀ b, H b = none → b ≠ x := fun b n z => by subst z; rw [n] at mu; exact mu
  have hb : ∀ b, H b = none → b ≠ e := fun b n z => by
    subst z
    rcases he with r | r
    · exact hx b n r
    · rw [n] at r; cases r
  have hm : ∀ b u, H b = some u → ¬ Mut (some u) → b ≠ x := fun b u q nm z => by subst z; rw [q] at mu; exact nm mu
  refine ⟨fun b u q n _ _ => k b u (hb b n) q, fun b u q n _ _ => ⟨u.slots, k b u (hb b n) q⟩, fun b u q n _ => by rw [upd_ne (hx b n)]; exact n, fun b u q _ => ?_,
    fun b xs q => by rw [upd_ne (hm b _ q fun z => z)]; exact q, fun b u xs q => by rw [upd_ne (hm b _ q fun z => z)]; exact q, fun b ps q => ⟨#[], by rw [upd_ne (hm b _ q fun z => z), q]; simp⟩⟩
  by_cases hbe : b = e
  · subst hbe; exact heo
  · exact ⟨u, k b u hbe q⟩
end

/-! ### the heap without what is tracked -/
def trk (h : Heap) (H : Hp) : List Addr := (List.range h.objs.size).filter fun a => (H a).isSome
def hidT (h : Heap) (H : Hp) : Heap := PySem.W.hideAll h (trk h H)
theorem hidT_size (h : Heap) (H : Hp) : (hidT h H).objs.size = h.objs.size := PySem.W.hideAll_size _ _
theorem hidT_get {h : Heap} {H : Hp} {b : Addr} {o : Obj} (e : h.get? b = some o) (n : H b = none) : (hidT h H).get? b = some o :=
  PySem.W.hideAll_get _ e fun hm => by
    have q : (H b).isSome = true := (List.mem_filter.mp hm).2
    rw [n] at q; simp at q
theorem of_hidT {h : Heap} {H : Hp} {b : Addr} {o : Obj} (e : (hidT h H).get? b = some o) : h.get? b = some o ∧ H b = none := by
  have e' : h.get? b = some o := PySem.W.of_hideAll (trk h H) e
  refine ⟨e', ?_⟩
  cases q : H b with
  | none => rfl
  | some x =>
    have hm : b ∈ trk h H := List.mem_filter.mpr ⟨List.mem_range.mpr (Heap.lt_size e'), by simp [q]⟩
    have z : (hidT h H).get? b = none := PySem.W.hideAll_none (trk h H) hm
    rw [z] at e; cases e

/-! ### OpenK's ledger, filled with every new object but one -/
end L2

namespace L2
open PySem PySem.Spec PyProof.Rows

/-- the module's facts, over the base: the heap at the law's entry without what is tracked there -/
structure Mod (K : PySem.W.Frag) (mg : Str → Option Value) (base : Heap) : Prop where
  kin : K.In base
  glob : base.Ns mainGlobals mg
  blt : ∃ mb, base.Ns builtinsNs mb ∧ ∀ x : Str, x ≠ "__name__" → mb x = bootBuiltins x
  nolimit : base.NoLimit

/-- the context: a def's body (or a comprehension's block) running. base: fixed through the whole law; s₀, H₀: the entry; outer: the frames whose slots others may change (a def's callers); stack: all frames that run;
   ex: iterators that were made ahead of the entry and are walked here (a comprehension's); fn: the names whose cells were made at the entry (a def: all; a comprehension's block: its own); calm: not within an except suite; pn: pins that every state bears; xe: what is wanted of an exception that leaves the code -/
structure Cx where
  prog : Program
  w : World
  K : PySem.W.Frag
  mg : Str → Option Value
  base : Heap
  A : Around
  N : List Str
  s₀ : Shared
  H₀ : Hp
  env : Env
  outer : List Env
  stack : List Env
  ex : List Addr
  fn : Str → Bool
  calm : Bool
  pn : List (Addr × Obj)
  xe : Value → Shared → Prop
/-- the callers' frames -/
def frs (l : List Env) : List Addr := l.filterMap (·.frame)
abbrev Cx.fs (X : Cx) : List Addr := frs X.outer

def Vis (sc : Scope) (x : Str) : Prop := sc.names.lookup x = some .local ∨ sc.names.lookup x = some .cell ∨ sc.names.lookup x = some .free
def Loc (sc : Scope) (x : Str) : Prop := sc.names.lookup x = some .local ∨ sc.names.lookup x = some .cell
def Look (env : Env) (h : Heap) (m : Str → Option Value) (x : Str) (u : Value) : Prop :=
  (env.kindOf x = some .local ∧ m x = some u) ∨ ((env.kindOf x = some .cell ∨ env.kindOf x = some .free) ∧ ∃ c, env.cells.lookup x = some c ∧ h.IsCell c (some u))

structure Cx.Ok (X : Cx) : Prop where
  mod : Mod X.K X.mg X.base
  kind : X.env.scope.kind = .function
  glob : X.env.globals = mainGlobals
  blt : X.env.builtins = builtinsNs
  above : X.s₀.heap.objs.size ≤ X.env.locals
  inj : ∀ x y c, X.env.cells.lookup x = some c → X.env.cells.lookup y = some c → x = y
  has : ∀ x, (X.env.kindOf x = some .cell ∨ X.env.kindOf x = some .free) → ∃ c, X.env.cells.lookup x = some c
  cab : ∀ x c, X.fn x = true → X.env.cells.lookup x = some c → X.s₀.heap.objs.size ≤ c
  hd : X.calm = true → X.A.handled = none
  frames : X.A.frames = some X.stack
  stk : X.stack = X.outer ∨ (X.stack = X.env :: X.outer ∧ X.env.frame = some X.env.locals)
  exf : ∀ b ∈ X.ex, b ≠ X.env.locals ∧ ∀ x c, X.env.cells.lookup x = some c → c ≠ b
  bs : ∀ b o, X.base.get? b = some o → X.s₀.heap.get? b = some o ∧ X.H₀ b = none
  bsz : X.base.objs.size ≤ X.s₀.heap.objs.size
  noex : ∀ b o, X.base.get? b = some o → b ∉ X.ex
  exfs : ∀ b ∈ X.ex, b ∉ X.fs
  funs : X.s₀.heap.FunFrames X.base X.outer
  frf : ∀ b ∈ X.fs, X.H₀ b = none

structure Inv (X : Cx) (pins : List (Addr × Obj)) (σ : List (Option V)) (H : Hp) (s : Shared) : Prop where
  ok : X.Ok
  os : s.os = X.s₀.os
  bare : AllBare s.gens
  base : Un X.fs X.ex X.H₀ H X.s₀.heap s.heap
  loc : ∃ m, s.heap.Ns X.env.locals m ∧ ∀ (i : Nat) (x : Str) (v : V), X.N[i]? = some x → σ[i]? = some (some v) → Vis X.env.scope x → ∃ u, RelV v u ∧ Look X.env s.heap m x u
  cell : ∀ x c, X.env.cells.lookup x = some c → ∃ v, s.heap.IsCell c v
  free : H X.env.locals = none
  freeC : ∀ x c, X.env.cells.lookup x = some c → H c = none
  pin : ∀ p ∈ X.pn ++ pins, s.heap.get? p.1 = some p.2 ∧ H p.1 = none ∧ p.1 ≠ X.env.locals ∧ p.1 ∉ X.fs ∧ ∀ v, p.2.data ≠ .cell v
  hok : HOk X.prog X.w H s.heap
  len : σ.length = X.N.length

section
variable {X : Cx} {pins : List (Addr × Obj)} {σ : List (Option V)} {H H' : Hp} {s : Shared} {h' : Heap}

theorem Cx.Ok.nofr (ok : X.Ok) {b : Addr} {o : Obj} (e : X.base.get? b = some o) : b ∉ X.fs := fun hb => by
  have := (ok.funs.mem hb).1
  rw [e] at this; cases this
theorem Inv.bs (I : Inv X pins σ H s) : ∀ b o, X.base.get? b = some o → s.heap.get? b = some o ∧ H b = none := fun b o e =>
  ⟨I.base.keep b o (I.ok.bs b o e).1 (I.ok.bs b o e).2 (I.ok.nofr e) (I.ok.noex b o e), I.base.free b o (I.ok.bs b o e).1 (I.ok.bs b o e).2 (I.ok.noex b o e)⟩
theorem Inv.bk (I : Inv X pins σ H s) : ∀ b o, X.base.get? b = some o → s.heap.get? b = some o := fun b o e => (I.bs b o e).1
theorem Inv.mod (I : Inv X pins σ H s) : Mod X.K X.mg X.base := I.ok.mod
theorem Inv.kIn (I : Inv X pins σ H s) : X.K.In s.heap := I.ok.mod.kin.keeps I.bk
theorem Inv.lt (I : Inv X pins σ H s) : X.env.locals < s.heap.objs.size := let ⟨_, hn, _⟩ := I.loc; hn.lt
theorem Inv.sz (I : Inv X pins σ H s) : X.s₀.heap.objs.size ≤ s.heap.objs.size := Nat.le_trans I.ok.above (Nat.le_of_lt I.lt)
theorem Inv.nofs (I : Inv X pins σ H s) {a : Addr} (h : s.heap.objs.size ≤ a) : a ∉ X.fs := fun hb => by
  obtain ⟨_, o, ho, _⟩ := I.ok.funs.mem hb
  exact absurd (Nat.lt_of_lt_of_le (Heap.lt_size ho) (Nat.le_trans I.sz h)) (Nat.lt_irrefl _)
theorem Inv.cne (I : Inv X pins σ H s) : ∀ x c, X.env.cells.lookup x = some c → c ≠ X.env.locals := fun x c e z => by
  obtain ⟨v, o, ho, hd⟩ := I.cell x c e
  obtain ⟨m, ⟨o', es, ep, ho', hd', _⟩, _⟩ := I.loc
  rw [z, ho'] at ho; cases ho; rw [hd'] at hd; cases hd
theorem Inv.funs (I : Inv X pins σ H s) : s.heap.FunFrames X.base X.outer := by
  have all : ∀ (l : List Env), (∀ b ∈ frs l, b ∈ X.fs) → X.s₀.heap.FunFrames X.base l → s.heap.FunFrames X.base l := by
    intro l
    induction l with
    | nil => intro _ _; trivial
    | cons env r ih =>
      intro hs hl
      obtain ⟨hk, ⟨L, o, hf, hn, ho, hd⟩, hr⟩ := hl
      have hL : L ∈ X.fs := hs L (by unfold frs; rw [List.filterMap_cons, hf]; exact List.mem_cons_self)
      obtain ⟨sl, e⟩ := I.base.slot L o ho (I.ok.frf L hL) hL fun z => I.ok.exfs L z hL
      exact ⟨hk, ⟨L, _, hf, hn, e, hd⟩, ih (fun b hb => hs b (by unfold frs; rw [List.filterMap_cons, hf]; exact List.mem_cons_of_mem _ hb)) hr⟩
  exact all X.outer (fun _ hb => hb) I.ok.funs

/-- the frames that run, for a call -/
theorem Inv.stack (I : Inv X pins σ H s) : s.heap.FunFrames X.base X.stack := by
  rcases I.ok.stk with e | ⟨e, hf⟩
  · rw [e]; exact I.funs
  · rw [e]
    obtain ⟨m, hn, _⟩ := I.loc
    refine .cons (by rw [I.ok.kind]; decide) hf hn ?_ I.funs
    exact Heap.get?_none_of_le (Nat.le_trans I.ok.bsz I.ok.above)
theorem Inv.stkSub (I : Inv X pins σ H s) : ∀ b ∈ frs X.stack, b ∈ X.env.locals :: X.fs := fun b hb => by
  rcases I.ok.stk with e | ⟨e, hf⟩
  · rw [e] at hb; exact List.mem_cons_of_mem _ hb
  · rw [e] at hb
    unfold frs at hb
    rw [List.filterMap_cons, hf] at hb
    exact hb
theorem Inv.stkFree (I : Inv X pins σ H s) : ∀ b ∈ frs X.stack, H b = none := fun b hb => by
  rcases List.mem_cons.mp (I.stkSub b hb) with e | hb
  · rw [e]; exact I.free
  · obtain ⟨_, o, ho, _⟩ := I.ok.funs.mem hb
    exact I.base.free b o ho (I.ok.frf b hb) fun z => I.ok.exfs b z hb

/-- THE STEP: the untracked objects but the frame and the records at ch are kept (the callers' frames up to slots), the frame's map is kept, the new abstract heap is held -/
theorem Inv.step {g' : Array GenState} {t' : Nat} {d' : Drawn} {ch : List Addr} (I : Inv X pins σ H s)
    (hch : ∀ b ∈ ch, (b ∈ X.ex ∨ X.s₀.heap.objs.size ≤ b) ∧ b ≠ X.env.locals ∧ (∀ x c, X.env.cells.lookup x = some c → c ≠ b) ∧ ∀ p ∈ X.pn ++ pins, p.1 ≠ b)
    (keep : ∀ b o, b ≠ X.env.locals → b ∉ X.fs → b ∉ ch → s.heap.get? b = some o → H b = none → h'.get? b = some o)
    (slot : ∀ b o, b ≠ X.env.locals → b ∈ X.fs → b ∉ ch → s.heap.get? b = some o → H b = none → ∃ sl, h'.get? b = some { o with slots := sl }) (free : ∀ b o, b ∉ ch → s.heap.get? b = some o → H b = none → H' b = none)
    (there : ∀ b o, b ∉ ch → s.heap.get? b = some o → ∃ o', h'.get? b = some o')
    (tups : ∀ b xs, H b = some (.tup xs) → H' b = some (.tup xs)) (frzs : ∀ b o u, H b = some (.frz o u) → H' b = some (.frz o u)) (tbls : ∀ b ps, H b = some (.tbl ps) → ∃ more, H' b = some (.tbl (ps ++ more)))
    (ns : ∀ m, s.heap.Ns X.env.locals m → h'.Ns X.env.locals m) (hok : HOk X.prog X.w H' h') (hg : AllBare g') :
    Inv X pins σ H' { s with heap := h', gens := g', drawn := d', toks := t' } := by
  have neL : ∀ b o, X.s₀.heap.get? b = some o → b ≠ X.env.locals := fun b o e => Nat.ne_of_lt (Nat.lt_of_lt_of_le (Heap.lt_size e) I.ok.above)
  have neC : ∀ b o, X.s₀.heap.get? b = some o → b ∉ X.ex → b ∉ ch := fun b o e hx hb => by
    rcases (hch b hb).1 with z | z
    · exact hx z
    · exact absurd (Nat.lt_of_lt_of_le (Heap.lt_size e) z) (Nat.lt_irrefl _)
  have cellK : ∀ x c, X.env.cells.lookup x = some c → ∀ v, s.heap.IsCell c v → h'.IsCell c v := fun x c e v ⟨o, ho, hd⟩ => by
    have nch : c ∉ ch := fun z => (hch c z).2.2.1 x c e rfl
    by_cases hc : c ∈ X.fs
    · obtain ⟨sl, q⟩ := slot c o (I.cne x c e) hc nch ho (I.freeC x c e)
      exact ⟨_, q, hd⟩
    · exact ⟨o, keep c o (I.cne x c e) hc nch ho (I.freeC x c e), hd⟩
  refine ⟨I.ok, I.os, hg, ⟨fun b o e n hb hx => ?_, fun b o e n hb hx => ?_, fun b o e n hx => ?_, fun b o e hx => ?_, fun b xs e => tups b xs (I.base.tups b xs e), fun b o xs e => frzs b o xs (I.base.frzs b o xs e), fun b ps e => ?_⟩, ?_, fun x c e => ?_, ?_, fun x c e => ?_, fun p hp => ?_, hok, I.len⟩
  · exact keep b o (neL b o e) hb (neC b o e hx) (I.base.keep b o e n hb hx) (I.base.free b o e n hx)
  · obtain ⟨sl, e1⟩ := I.base.slot b o e n hb hx
    obtain ⟨sl', e2⟩ := slot b _ (neL b o e) hb (neC b o e hx) e1 (I.base.free b o e n hx)
    exact ⟨sl', e2⟩
  · obtain ⟨o', e1⟩ := I.base.there b o e hx
    exact free b o' (neC b o e hx) e1 (I.base.free b o e n hx)
  · obtain ⟨o', e1⟩ := I.base.there b o e hx
    exact there b o' (neC b o e hx) e1
  · obtain ⟨m1, e1⟩ := I.base.tbls b ps e
    obtain ⟨m2, e2⟩ := tbls b _ e1
    exact ⟨m1 ++ m2, by rw [e2, Array.append_assoc]⟩
  · obtain ⟨m, hn, hl⟩ := I.loc
    refine ⟨m, ns m hn, fun i x v e1 e2 e3 => ?_⟩
    obtain ⟨u, r, l⟩ := hl i x v e1 e2 e3
    refine ⟨u, r, ?_⟩
    rcases l with l | ⟨k, c, e, z⟩
    · exact .inl l
    · exact .inr ⟨k, c, e, cellK x c e _ z⟩
  · obtain ⟨v, z⟩ := I.cell x c e
    exact ⟨v, cellK x c e v z⟩
  · obtain ⟨m, ⟨o, _, _, ho, _⟩, _⟩ := I.loc
    exact free _ o (fun z => (hch _ z).2.1 rfl) ho I.free
  · obtain ⟨v, o, ho, hd⟩ := I.cell x c e
    exact free c o (fun z => (hch c z).2.2.1 x c e rfl) ho (I.freeC x c e)
  · obtain ⟨e, n, ne, nf, d⟩ := I.pin p hp
    have nch : p.1 ∉ ch := fun z => (hch p.1 z).2.2.2 p hp rfl
    exact ⟨keep p.1 p.2 ne nf nch e n, free p.1 p.2 nch e n, ne, nf, d⟩
/-- .. where the frame's own object is kept too -/
theorem Inv.un {t' : Nat} (I : Inv X pins σ H s) (u : Un X.fs [] H H' s.heap h') (hok : HOk X.prog X.w H' h') : Inv X pins σ H' { s with heap := h', toks := t' } := by
  obtain ⟨m, ⟨o, es, ep, ho, r⟩, _⟩ := id I.loc
  obtain ⟨sl, hL⟩ := u.any ho I.free (by simp)
  exact I.step (g' := s.gens) (d' := s.drawn) (ch := []) (fun _ z => nomatch z) (fun b o _ hb _ e n => u.keep b o e n hb (by simp)) (fun b o _ hb _ e n => u.slot b o e n hb (by simp)) (fun b o _ e n => u.free b o e n (by simp)) (fun b o _ e => u.there b o e (by simp)) u.tups u.frzs u.tbls (fun m' hm => by
    obtain ⟨o', es', ep', ho', r'⟩ := hm
    rw [ho] at ho'; cases ho'
    exact ⟨_, es', ep', hL, r'⟩) hok I.bare
/-- behind a call (or a comprehension's block): the slots of this frame may have changed too, the records at ch may have turned -/
theorem Inv.call {g' : Array GenState} {t' : Nat} {d' : Drawn} {ch : List Addr} (I : Inv X pins σ H s) (u : Un (frs X.stack) ch H H' s.heap h') (hok : HOk X.prog X.w H' h') (hg : AllBare g')
    (hch : ∀ b ∈ ch, (b ∈ X.ex ∨ X.s₀.heap.objs.size ≤ b) ∧ b ≠ X.env.locals ∧ (∀ x c, X.env.cells.lookup x = some c → c ≠ b) ∧ ∀ p ∈ X.pn ++ pins, p.1 ≠ b) :
    Inv X pins σ H' { s with heap := h', gens := g', drawn := d', toks := t' } := by
  obtain ⟨m, ⟨o, es, ep, ho, r⟩, _⟩ := id I.loc
  obtain ⟨sl, hL⟩ := u.any ho I.free fun z => (hch _ z).2.1 rfl
  exact I.step (ch := ch) hch (fun b o hL hb hc e n => u.keep b o e n (fun z => (List.mem_cons.mp (I.stkSub b z)).elim hL hb) hc) (fun b o _ _ hc e n => u.any e n hc) (fun b o hc e n => u.free b o e n hc) (fun b o hc e => u.there b o e hc) u.tups u.frzs u.tbls (fun m' hm => by
    obtain ⟨o', es', ep', ho', r'⟩ := hm
    rw [ho] at ho'; cases ho'
    exact ⟨_, es', ep', hL, r'⟩) hok hg
/-- an untracked record of ours (an iterator) has turned -/
theorem Inv.turned {t' : Nat} {it : Addr} (I : Inv X pins σ H s) (k : ∀ b o, b ≠ it → s.heap.get? b = some o → h'.get? b = some o) (hn : H it = none) (hL : it ≠ X.env.locals)
    (h1 : it ∈ X.ex ∨ X.s₀.heap.objs.size ≤ it) (h2 : ∀ x c, X.env.cells.lookup x = some c → c ≠ it) (h3 : ∀ p ∈ X.pn ++ pins, p.1 ≠ it) : Inv X pins σ H { s with heap := h', toks := t' } := by
  have nit : ∀ b u, H b = some u → b ≠ it := fun b u e z => by rw [z, hn] at e; cases e
  refine I.step (g' := s.gens) (d' := s.drawn) (ch := [it]) (fun b hb => ?_) (fun b o _ _ hc e _ => k b o (fun z => hc (by simp [z])) e) (fun b o _ _ hc e _ => ⟨o.slots, k b o (fun z => hc (by simp [z])) e⟩) (fun _ _ _ _ n => n)
    (fun b o hc e => ⟨o, k b o (fun z => hc (by simp [z])) e⟩) (fun _ _ e => e) (fun _ _ _ e => e) (fun b ps e => ⟨#[], by rw [e]; simp⟩) (fun m hm => ?_) (fun b u e => ?_) I.bare
  · have e : b = it := by simpa using hb
    subst e
    exact ⟨h1, hL, h2, h3⟩
  · obtain ⟨o, es, ep, ho, r⟩ := hm
    exact ⟨o, es, ep, k _ o (Ne.symm hL) ho, r⟩
  · refine (I.hok b u e).stay (fun c v hc q => k c v ?_ q) (fun _ q => q) fun _ _ q => q
    rcases hc with z | z
    · rw [z]; exact nit b u e
    · exact nit c _ z
theorem Inv.tok (I : Inv X pins σ H s) (t : Nat) : Inv X pins σ H { s with toks := t } := I.un (h' := s.heap) (t' := t) Un.refl I.hok
/-- all objects kept -/
theorem Inv.kept {t' : Nat} (I : Inv X pins σ H s) (k : ∀ b u, s.heap.get? b = some u → h'.get? b = some u) : Inv X pins σ H { s with heap := h', toks := t' } := I.un (Un.kept k) (I.hok.kept k)
/-- a new object laid and tracked -/
theorem Inv.laid {a : Addr} {o : HO} {t' : Nat} (I : Inv X pins σ H s) (k : ∀ b u, s.heap.get? b = some u → h'.get? b = some u) (hp : s.heap.objs.size ≤ a) (new : ObjOk X.prog X.w (upd H a o) h' a o) :
    Inv X pins σ (upd H a o) { s with heap := h', toks := t' } := I.un (Un.laid k hp (I.hok.fresh hp)) (I.hok.laid k hp new)
/-- an object written -/
theorem Inv.write {x e : Addr} {o : HO} {t' : Nat} (I : Inv X pins σ H s) (mu : Mut (H x)) (he : e = x ∨ H e = some (.own x)) (k : ∀ b u, b ≠ e → s.heap.get? b = some u → h'.get? b = some u) (heo : ∃ u, h'.get? e = some u)
    (new : ObjOk X.prog X.w (upd H x o) h' x o) : Inv X pins σ (upd H x o) { s with heap := h', toks := t' } := I.un (Un.write mu he k heo) (I.hok.write mu he k heo new)
theorem Inv.pins_of {pins' : List (Addr × Obj)} (I : Inv X pins σ H s) (h : ∀ p ∈ pins', s.heap.get? p.1 = some p.2 ∧ H p.1 = none ∧ p.1 ≠ X.env.locals ∧ p.1 ∉ X.fs ∧ ∀ v, p.2.data ≠ .cell v) : Inv X pins' σ H s :=
  ⟨I.ok, I.os, I.bare, I.base, I.loc, I.cell, I.free, I.freeC, fun p hp => (List.mem_append.mp hp).elim (fun z => I.pin p (List.mem_append_left _ z)) (h p), I.hok, I.len⟩

theorem nodup_ix {N : List Str} (hN : N.Nodup) {i j : Nat} {x : Str} (a : N[i]? = some x) (b : N[j]? = some x) : i = j := by
  obtain ⟨h1, e1⟩ := List.getElem?_eq_some_iff.mp a
  obtain ⟨h2, e2⟩ := List.getElem?_eq_some_iff.mp b
  exact (List.getElem_inj hN).mp (e1.trans e2.symm)

/-- a name is stored; what changed -/
theorem store_ok2 {M : Model} {A : Around} {E : Value → Shared → Prop} {i : Nat} {x : Str} {v : V} {u : Value} {Q : Unit → Shared → Prop} (I : Inv X pins σ H s) (hN : X.N.Nodup) (hi : X.N[i]? = some x) (hx : Loc X.env.scope x) (r : RelV v u)
    (h : ∀ s', Inv X pins (σ.set i (some v)) H s' → (∃ a, Heap.SameBut a s.heap s'.heap ∧ (a = X.env.locals ∨ X.env.cells.lookup x = some a)) → Q () s') (hf : X.fn x = true ∨ X.env.scope.names.lookup x = some .local := by first | exact .inl rfl | exact .inr rfl | assumption) : wpAny M A (storeName X.env x u) Q E s := by
  obtain ⟨m, hn, hl⟩ := id I.loc
  have hcls : (X.env.scope.kind == .class || (X.env.scope.kind == .module && X.env.locals != X.env.globals)) = false := by rw [I.ok.kind]; rfl
  have hiσ : i < σ.length := by rw [I.len]; exact (List.getElem?_eq_some_iff.mp hi).1
  have cne := I.cne
  have tracked : ∀ {a : Addr} {h' : Heap}, (∃ o, s.heap.get? a = some o ∧ H a = none) → Heap.SameBut a s.heap h' → HOk X.prog X.w H h' := fun {a h'} ha hs b ob e => by
    obtain ⟨_, _, hfree⟩ := ha
    refine (I.hok b ob e).stay (fun c w' hc q => (hs.2 c ?_).trans q) (fun _ q => q) fun _ _ q => q
    rintro rfl
    rcases hc with rfl | hc
    · rw [hfree] at e; cases e
    · rw [hfree] at hc; cases hc
  rcases hx with hk | hk
  · refine wpAny_storeName_local hk hn (fun h' hn' hs => ?_) hcls
    obtain ⟨oL, _, _, hoL, _⟩ := id hn
    refine h _ ⟨I.ok, I.os, I.bare, ⟨fun b o e n hb hx => ?_, fun b o e n hb hx => ?_, I.base.free, fun b o e hx => ?_, I.base.tups, I.base.frzs, I.base.tbls⟩, ⟨_, hn', fun j y v' e1 e2 e3 => ?_⟩, fun y c e => ?_, I.free, I.freeC, fun p hp => ?_, tracked ⟨oL, hoL, I.free⟩ hs, by simpa using I.len⟩ ⟨_, hs, .inl rfl⟩
    · exact (hs.2 b (Nat.ne_of_lt (Nat.lt_of_lt_of_le (Heap.lt_size e) I.ok.above))).trans (I.base.keep b o e n hb hx)
    · obtain ⟨sl, e1⟩ := I.base.slot b o e n hb hx
      exact ⟨sl, (hs.2 b (Nat.ne_of_lt (Nat.lt_of_lt_of_le (Heap.lt_size e) I.ok.above))).trans e1⟩
    · obtain ⟨o', e1⟩ := I.base.there b o e hx
      exact ⟨o', (hs.2 b (Nat.ne_of_lt (Nat.lt_of_lt_of_le (Heap.lt_size e) I.ok.above))).trans e1⟩
    · by_cases hj : j = i
      · subst hj
        rw [hi] at e1; cases e1
        rw [List.getElem?_set_self hiσ] at e2
        cases e2
        exact ⟨u, r, .inl ⟨hk, by simp⟩⟩
      · rw [List.getElem?_set_ne (Ne.symm hj)] at e2
        obtain ⟨u', r', q⟩ := hl j y v' e1 e2 e3
        refine ⟨u', r', ?_⟩
        rcases q with ⟨k, e⟩ | ⟨k, c, e, z⟩
        · refine .inl ⟨k, ?_⟩
          have : y ≠ x := fun e => hj (nodup_ix hN e1 (e ▸ hi))
          simp [this, e]
        · exact .inr ⟨k, c, e, z.sameBut hs (cne y c e)⟩
    · obtain ⟨w', z⟩ := I.cell y c e
      exact ⟨w', z.sameBut hs (cne y c e)⟩
    · obtain ⟨e, n, ne, nf, d⟩ := I.pin p hp
      exact ⟨(hs.2 p.1 ne).trans e, n, ne, nf, d⟩
  · have hfn : X.fn x = true := by
      rcases hf with z | z
      · exact z
      · rw [z] at hk; cases hk
    obtain ⟨c, hc⟩ := I.ok.has x (.inl hk)
    obtain ⟨w', z⟩ := I.cell x c hc
    refine wpAny_storeName_cell I.ok.kind hk hc z (fun h' hc' hs => ?_)
    obtain ⟨oc, hoc, hocd⟩ := id z
    refine h { s with heap := h' } ⟨I.ok, I.os, I.bare, ⟨fun b o e n hb hx => ?_, fun b o e n hb hx => ?_, I.base.free, fun b o e hx => ?_, I.base.tups, I.base.frzs, I.base.tbls⟩, ⟨m, hn.sameBut hs (Ne.symm (cne x c hc)), fun j y v' e1 e2 e3 => ?_⟩, fun y c' e => ?_, I.free, I.freeC, fun p hp => ?_, tracked ⟨oc, hoc, I.freeC x c hc⟩ hs, by simpa using I.len⟩ ⟨c, hs, .inr hc⟩
    · exact (hs.2 b (Nat.ne_of_lt (Nat.lt_of_lt_of_le (Heap.lt_size e) (I.ok.cab x c hfn hc)))).trans (I.base.keep b o e n hb hx)
    · obtain ⟨sl, e1⟩ := I.base.slot b o e n hb hx
      exact ⟨sl, (hs.2 b (Nat.ne_of_lt (Nat.lt_of_lt_of_le (Heap.lt_size e) (I.ok.cab x c hfn hc)))).trans e1⟩
    · obtain ⟨o', e1⟩ := I.base.there b o e hx
      exact ⟨o', (hs.2 b (Nat.ne_of_lt (Nat.lt_of_lt_of_le (Heap.lt_size e) (I.ok.cab x c hfn hc)))).trans e1⟩
    · by_cases hj : j = i
      · subst hj
        rw [hi] at e1; cases e1
        rw [List.getElem?_set_self hiσ] at e2
        cases e2
        exact ⟨u, r, .inr ⟨.inl hk, c, hc, hc'⟩⟩
      · rw [List.getElem?_set_ne (Ne.symm hj)] at e2
        obtain ⟨u', r', q⟩ := hl j y v' e1 e2 e3
        refine ⟨u', r', ?_⟩
        rcases q with q | ⟨k, c', e, z'⟩
        · exact .inl q
        · refine .inr ⟨k, c', e, z'.sameBut hs ?_⟩
          rintro rfl
          exact hj (nodup_ix hN e1 (I.ok.inj _ _ _ e hc ▸ hi))
    · by_cases hcc : c' = c
      · subst hcc; exact ⟨_, hc'⟩
      · obtain ⟨w2, z2⟩ := I.cell y c' e
        exact ⟨w2, z2.sameBut hs hcc⟩
    · obtain ⟨e, n, ne, nf, d⟩ := I.pin p hp
      refine ⟨(hs.2 p.1 ?_).trans e, n, ne, nf, d⟩
      intro q
      rw [q, hoc] at e
      have q' : oc = p.2 := Option.some.inj e
      exact d w' (by rw [← q']; exact hocd)
theorem store_ok {M : Model} {A : Around} {E : Value → Shared → Prop} {i : Nat} {x : Str} {v : V} {u : Value} {Q : Unit → Shared → Prop} (I : Inv X pins σ H s) (hN : X.N.Nodup) (hi : X.N[i]? = some x) (hx : Loc X.env.scope x) (r : RelV v u)
    (h : ∀ s', Inv X pins (σ.set i (some v)) H s' → Q () s') (hf : X.fn x = true ∨ X.env.scope.names.lookup x = some .local := by first | exact .inl rfl | exact .inr rfl | assumption) : wpAny M A (storeName X.env x u) Q E s :=
  store_ok2 I hN hi hx r (fun s' I' _ => h s' I') hf
/-- behind a call or a block, the state as it is -/
theorem Inv.call' {s' : Shared} {ch : List Addr} (I : Inv X pins σ H s) (ho : s'.os = s.os) (u : Un (frs X.stack) ch H H' s.heap s'.heap) (hok : HOk X.prog X.w H' s'.heap) (hg : AllBare s'.gens)
    (hch : ∀ b ∈ ch, (b ∈ X.ex ∨ X.s₀.heap.objs.size ≤ b) ∧ b ≠ X.env.locals ∧ (∀ x c, X.env.cells.lookup x = some c → c ≠ b) ∧ ∀ p ∈ X.pn ++ pins, p.1 ≠ b) : Inv X pins σ H' s' := by
  obtain ⟨h', g', d', t', o'⟩ := s'
  have e : o' = s.os := ho
  subst e
  exact I.call (g' := g') (t' := t') (d' := d') u hok hg hch
end

/-! ### the judgements -/
/-- an exception: its class, its own dict's address (where it has one), the abstract heap behind it -/
abbrev XK := Value → Option Addr → Hp → Prop
abbrev St := List (Option V)
abbrev VK := V → Hp → Prop
/-- an expression's reading; a test's; an argument list's -/
abbrev TE := St → Hp → VK → Prop
abbrev TT := St → Hp → (Bool → Hp → Prop) → Prop
abbrev TA := St → Hp → (List V → Hp → Prop) → Prop
/-- what is wanted behind a statement -/
structure Ends where
  nx : St → Hp → Prop
  rt : VK
  bk : St → Hp → Prop := fun _ _ => False
  ct : St → Hp → Prop := fun _ _ => False
abbrev TS := Ends → St → Hp → Prop

def EP (X : Cx) (pins : List (Addr × Obj)) (σ : St) (Q : VK) (u : Value) (s' : Shared) : Prop := ∃ v H', Inv X pins σ H' s' ∧ RelV v u ∧ Q v H'
def TP (X : Cx) (pins : List (Addr × Obj)) (σ : St) (Q : Bool → Hp → Prop) (b : Bool) (s' : Shared) : Prop := ∃ H', Inv X pins σ H' s' ∧ Q b H'
def AP (X : Cx) (pins : List (Addr × Obj)) (σ : St) (Q : List V → Hp → Prop) (us : List Value) (s' : Shared) : Prop := ∃ vs H', Inv X pins σ H' s' ∧ Vals vs us ∧ Q vs H'
def SP (X : Cx) (pins : List (Addr × Obj)) (D : Ends) (f : Flow) (s' : Shared) : Prop :=
  match f with
  | .next => ∃ σ' H', Inv X pins σ' H' s' ∧ D.nx σ' H'
  | .brk => ∃ σ' H', Inv X pins σ' H' s' ∧ D.bk σ' H'
  | .cont => ∃ σ' H', Inv X pins σ' H' s' ∧ D.ct σ' H'
  | .ret u => ∃ v σ' H', Inv X pins σ' H' s' ∧ RelV v u ∧ D.rt v H'

def PE (X : Cx) (e : Expr) (t : TE) : Prop :=
  ∀ (pins : List (Addr × Obj)) (s : Shared) (σ : St) (H : Hp) (Q : VK), Inv X pins σ H s → t σ H Q → wpAny (model X.prog X.w) X.A (eval e X.env) (EP X pins σ Q) X.xe s
def PT (X : Cx) (e : Expr) (t : TT) : Prop :=
  ∀ (pins : List (Addr × Obj)) (s : Shared) (σ : St) (H : Hp) (Q : Bool → Hp → Prop), Inv X pins σ H s → t σ H Q → wpAny (model X.prog X.w) X.A (isTrue e X.env (eval e X.env)) (TP X pins σ Q) X.xe s
/-- a test whatever its 'whole' is (and, or) -/
def PW (X : Cx) (e : Expr) (t : TT) : Prop :=
  ∀ (whole : Sem Value) (pins : List (Addr × Obj)) (s : Shared) (σ : St) (H : Hp) (Q : Bool → Hp → Prop), Inv X pins σ H s → t σ H Q → wpAny (model X.prog X.w) X.A (isTrue e X.env whole) (TP X pins σ Q) X.xe s
theorem PW.pt {X : Cx} {e : Expr} {t : TT} (h : PW X e t) : PT X e t := h _
/-- an argument list (no star), from the left -/
def PA (X : Cx) (es : List Expr) (t : TA) : Prop :=
  ∀ (pos : Pos) (pins : List (Addr × Obj)) (s : Shared) (σ : St) (H : Hp) (Q : List V → Hp → Prop), Inv X pins σ H s → t σ H Q → wpAny (model X.prog X.w) X.A (spliced (backTo pos (starEach es X.env))) (AP X pins σ Q) X.xe s
def PS (X : Cx) (st : Stmt) (t : TS) : Prop :=
  ∀ (pins : List (Addr × Obj)) (s : Shared) (σ : St) (H : Hp) (D : Ends), Inv X pins σ H s → t D σ H → wpAny (model X.prog X.w) X.A (exec st X.env) (SP X pins D) X.xe s
def PSs (X : Cx) (st : List Stmt) (t : TS) : Prop :=
  ∀ (pins : List (Addr × Obj)) (s : Shared) (σ : St) (H : Hp) (D : Ends), Inv X pins σ H s → t D σ H → wpAny (model X.prog X.w) X.A (execs st X.env) (SP X pins D) X.xe s
/-- weaken the end -/
theorem thn {α : Type} {t : Sem α} {Q Q' : α → Shared → Prop} {M : Model} {A : Around} {E : Value → Shared → Prop} {s : Shared} (h : wpAny M A t Q E s) (hQ : ∀ a s, Q a s → Q' a s) : wpAny M A t Q' E s := wpAny_mono h hQ fun _ _ x => x
end L2

namespace L2
open PySem PySem.Spec PyProof.Rows
section
variable {X : Cx}


/-! ### names and constants -/
def tVar (i : Nat) : TE := fun σ H Q => ∃ v, σ[i]? = some (some v) ∧ Q v H
def tC (v : V) : TE := fun _ H Q => Q v H
theorem pe_var {i : Nat} {x : Str} {pos : Pos} (hN : X.N[i]? = some x) (hv : Vis X.env.scope x) (hd : (x == ("__debug__" : Str)) = false := by decide) (hcd : (x == ("__classdict__" : Str)) = false := by decide) : PE X (.Name x pos) (tVar i) := by
  intro pins s σ H Q I h
  obtain ⟨v, e, h⟩ := h
  obtain ⟨m, hn, hl⟩ := I.loc
  obtain ⟨u, r, l⟩ := hl i x v hN e hv
  have fin : EP X pins σ Q u s := ⟨v, H, I, r, h⟩
  rcases l with ⟨hk, hm⟩ | ⟨hk, c, hc, hcell⟩
  · exact wpAny_Name (wpAny_loadName_local I.ok.kind hk hn hm fin) hd
  · rcases hk with hk | hk
    · exact wpAny_Name (wpAny_loadName_cell I.ok.kind hk hc hcell fin) hd
    · exact wpAny_Name (wpAny_loadName_free I.ok.kind hk hc hcell fin hcd) hd
theorem pe_int {i j pos} : PE X (.Constant (.int i) j pos) (tC (.int i)) := fun _ _ _ H _ I h => wpAny_Constant_int ⟨.int i, H, I.tok _, ⟨_, rfl⟩, h⟩
theorem pe_bl {b j pos} : PE X (.Constant (.bool b) j pos) (tC (.bl b)) := fun _ _ _ H _ I h => Constant_bool ⟨.bl b, H, I, rfl, h⟩
theorem pe_non {j pos} : PE X (.Constant .none j pos) (tC .non) := fun _ _ _ H _ I h => Constant_none ⟨.non, H, I, rfl, h⟩
theorem pe_str {x j pos} : PE X (.Constant (.str x) j pos) (tC (.str x)) := fun _ _ _ H _ I h => Calls.Constant_str ⟨.str x, H, I.tok _, ⟨_, rfl⟩, h⟩

/-- a global name of the def -/
def Gl (X : Cx) (x : Str) : Prop := X.env.kindOf x = some .globalImplicit
theorem ld_glob {E : Value → Shared → Prop} {pins : List (Addr × Obj)} {s : Shared} {σ : St} {H : Hp} {x : Str} {u : Value} {pos : Pos} {Q : Value → Shared → Prop} (I : Inv X pins σ H s) (hg : Gl X x) (hm : X.mg x = some u) (h : Q u s)
    (hd : (x == ("__debug__" : Str)) = false := by decide) : wpAny (model X.prog X.w) X.A (eval (.Name x pos) X.env) Q E s :=
  Calls.Name_function_global I.ok.kind hg (Calls.loadGlobal_global (by rw [I.ok.glob]; exact I.mod.glob.keeps I.bk) hm h) hd
theorem ld_blt {E : Value → Shared → Prop} {pins : List (Addr × Obj)} {s : Shared} {σ : St} {H : Hp} {x : Str} {u : Value} {pos : Pos} {Q : Value → Shared → Prop} (I : Inv X pins σ H s) (hg : Gl X x) (hm : X.mg x = none) (hv : bootBuiltins x = some u) (h : Q u s)
    (hn : x ≠ "__name__" := by decide) (hd : (x == ("__debug__" : Str)) = false := by decide) : wpAny (model X.prog X.w) X.A (eval (.Name x pos) X.env) Q E s := by
  obtain ⟨mb, h1, h2⟩ := I.mod.blt
  exact Calls.Name_function_global I.ok.kind hg (Calls.loadGlobal_builtin (by rw [I.ok.glob]; exact I.mod.glob.keeps I.bk) hm (by rw [I.ok.blt]; exact h1.keeps I.bk) ((h2 x hn).trans hv) h) hd
/-- a module's constant, a class, a function, as a value -/
theorem pe_glob {x : Str} {v : V} {u : Value} {pos : Pos} (hg : Gl X x) (hm : X.mg x = some u) (r : RelV v u) (hd : (x == ("__debug__" : Str)) = false := by decide) : PE X (.Name x pos) (tC v) :=
  fun _ _ _ H _ I h => ld_glob I hg hm ⟨v, H, I, r, h⟩ hd
theorem pe_bltn {x : Str} {v : V} {u : Value} {pos : Pos} (hg : Gl X x) (hm : X.mg x = none) (hv : bootBuiltins x = some u) (r : RelV v u) (hn : x ≠ "__name__" := by decide) (hd : (x == ("__debug__" : Str)) = false := by decide) : PE X (.Name x pos) (tC v) :=
  fun _ _ _ H _ I h => ld_blt I hg hm hv ⟨v, H, I, r, h⟩ hn hd

/-! ### arithmetic -/
variable {a b : Expr} {ta tb : TE} {pos : Pos}

/-! ### comparisons -/
def PC (X : Cx) (op : CmpOp) (a b : Expr) (t : TE) : Prop :=
  ∀ (pins : List (Addr × Obj)) (s : Shared) (σ : St) (H : Hp) (Q : VK), Inv X pins σ H s → t σ H Q →
    wpAny (model X.prog X.w) X.A (eval a X.env) (fun v s₁ => wpAny (model X.prog X.w) X.A (eval b X.env) (fun u s₂ => wpAny (model X.prog X.w) X.A (compareOp op v u) (EP X pins σ Q) X.xe s₂) X.xe s₁) X.xe s
theorem nobehind (b : Expr) {op : CmpOp} (h : op ≠ .In) (h2 : op ≠ .NotIn) : behindInMarks op b = false := by
  have e1 : (op == CmpOp.In) = false := by cases op <;> first | rfl | exact absurd rfl h
  have e2 : (op == CmpOp.NotIn) = false := by cases op <;> first | rfl | exact absurd rfl h2
  cases b <;> simp [behindInMarks, e1, e2]
/-- is None -/
def tIsN (ta : TE) : TE := fun σ H Q => ta σ H fun x H1 => Q (.bl (decide (x = .non))) H1
def tNotN (ta : TE) : TE := fun σ H Q => ta σ H fun x H1 => Q (.bl (!decide (x = .non))) H1
theorem RelV.none_iff {x : V} {v : Value} (r : RelV x v) : (v == Value.none) = decide (x = .non) := by
  cases x with
  | non => cases r; rfl
  | bl _ => cases r; rfl
  | int _ => obtain ⟨t, rfl⟩ := r; rfl
  | str _ => obtain ⟨t, rfl⟩ := r; rfl
  | byt _ => obtain ⟨t, rfl⟩ := r; rfl
  | flt _ => obtain ⟨t, rfl⟩ := r; rfl
  | ref _ => cases r; rfl
  | ty _ => cases r; rfl
theorem pc_isN {j pos'} (ha : PE X a ta) : PC X .Is a (.Constant .none j pos') (tIsN ta) := by
  intro pins s σ H Q I h
  refine thn (ha pins s σ H _ I h) fun v s1 ⟨x, H1, I1, r1, q1⟩ => ?_
  exact Constant_none (is_none_gen ⟨.bl _, H1, I1, by rw [r1.none_iff]; rfl, q1⟩)
theorem pc_notN {j pos'} (ha : PE X a ta) : PC X .IsNot a (.Constant .none j pos') (tNotN ta) := by
  intro pins s σ H Q I h
  refine thn (ha pins s σ H _ I h) fun v s1 ⟨x, H1, I1, r1, q1⟩ => ?_
  exact Constant_none (isnot_none_gen ⟨.bl _, H1, I1, by rw [r1.none_iff]; rfl, q1⟩)
/-- a comparison as a value, as a test -/
def tB (t : TE) : TT := fun σ H Q => t σ H fun x H1 => ∃ c, x = .bl c ∧ Q c H1
theorem pt_cmp {op : CmpOp} {t : TE} (h : PC X op a b t) (h1 : behindInMarks op b = false := by first | exact nobehind _ (by decide) (by decide) | rfl) : PT X (.Compare a [op] [b] pos) (tB t) := by
  intro pins s σ H Q I hw
  refine wpAny_isTrue_Compare1 (thn (h pins s σ H _ I hw) fun v s1 h1 => thn h1 fun u s2 h2 => thn h2 fun c s3 ⟨x, H1, I1, r1, q1⟩ => ?_) h1
  obtain ⟨d, rfl, q⟩ := q1
  cases r1
  exact wpAny_truthy_bool ⟨H1, I1, q⟩
/-- an expression whose value is a bool, as a test -/
theorem pt_val {e : Expr} {t : TE} (h : PE X e t) (he : ∀ whole, isTrue e X.env whole = (do let v ← whole; standAt e.pos; holding [v] (truthy v)) := by intro _; rfl) : PT X e (tB t) := by
  intro pins s σ H Q I hw
  refine isTrue_plain (thn (h pins s σ H _ I hw) fun v s1 ⟨x, H1, I1, r1, q1⟩ => ?_) (he _)
  obtain ⟨d, rfl, q⟩ := q1
  cases r1
  exact wpAny_truthy_bool ⟨H1, I1, q⟩

/-! ### and, or, not -/
variable {tA tB' : TT} {rest : List Expr}
def tAnd (t u : TT) : TT := fun σ H Q => t σ H fun c H1 => if c = true then u σ H1 Q else Q false H1
def tOr (t u : TT) : TT := fun σ H Q => t σ H fun c H1 => if c = true then Q true H1 else u σ H1 Q
def tNot (t : TT) : TT := fun σ H Q => t σ H fun c H1 => Q (!c) H1
theorem pw_and1 (ha : PT X a tA) : PW X (.BoolOp .And [a] pos) tA := by
  intro wh pins s σ H Q I h
  refine isTrue_and (thn (ha pins s σ H Q I h) fun c s1 e => ?_)
  cases c with
  | true => exact isTrue_and_nil e
  | false => exact e
theorem pw_or1 (ha : PT X a tA) : PW X (.BoolOp .Or [a] pos) tA := by
  intro wh pins s σ H Q I h
  refine isTrue_or (thn (ha pins s σ H Q I h) fun c s1 e => ?_)
  cases c with
  | false => exact isTrue_or_nil e
  | true => exact e
theorem pw_and (ha : PT X a tA) (hb : PW X (.BoolOp .And (b :: rest) pos) tB') : PW X (.BoolOp .And (a :: b :: rest) pos) (tAnd tA tB') := by
  intro wh pins s σ H Q I h
  refine isTrue_and (thn (ha pins s σ H _ I h) fun c s1 ⟨H1, I1, q1⟩ => ?_)
  cases c with
  | true => exact hb wh pins s1 σ H1 Q I1 q1
  | false => exact ⟨H1, I1, q1⟩
theorem pw_or (ha : PT X a tA) (hb : PW X (.BoolOp .Or (b :: rest) pos) tB') : PW X (.BoolOp .Or (a :: b :: rest) pos) (tOr tA tB') := by
  intro wh pins s σ H Q I h
  refine isTrue_or (thn (ha pins s σ H _ I h) fun c s1 ⟨H1, I1, q1⟩ => ?_)
  cases c with
  | true => exact ⟨H1, I1, q1⟩
  | false => exact hb wh pins s1 σ H1 Q I1 q1
theorem pt_not (ha : PT X a tA) : PT X (.UnaryOp .Not a pos) (tNot tA) := by
  intro pins s σ H Q I h
  exact isTrue_not (ha pins s σ H (fun c H1 => Q (!c) H1) I h)
/-- .. as values (bools) -/
def tAndV (ta tb : TE) : TE := fun σ H Q => ta σ H fun x H1 => ∃ c, x = .bl c ∧ if c = true then tb σ H1 Q else Q (.bl false) H1
def tNotV (ta : TE) : TE := fun σ H Q => ta σ H fun x H1 => ∃ c, x = .bl c ∧ Q (.bl (!c)) H1
theorem pe_one {op} {t : TE} (h : PE X a t) : PE X (.BoolOp op [a] pos) t := fun pins s σ H Q I hw => BoolOp_one (h pins s σ H Q I hw)
theorem pe_and (ha : PE X a ta) (hb : PE X (.BoolOp .And (b :: rest) pos) tb) : PE X (.BoolOp .And (a :: b :: rest) pos) (tAndV ta tb) := by
  intro pins s σ H Q I h
  refine BoolOp_and (thn (ha pins s σ H _ I h) fun v s1 ⟨x, H1, I1, r1, q1⟩ => ?_)
  obtain ⟨c, rfl, q1⟩ := q1
  cases r1
  refine wpAny_truthy_bool ?_
  cases c with
  | true => exact hb pins s1 σ H1 Q I1 q1
  | false => exact ⟨.bl false, H1, I1, rfl, q1⟩
theorem pe_not (ha : PE X a ta) : PE X (.UnaryOp .Not a pos) (tNotV ta) := by
  intro pins s σ H Q I h
  refine UnaryOp_ (thn (ha pins s σ H _ I h) fun v s1 ⟨x, H1, I1, r1, q1⟩ => ?_)
  obtain ⟨c, rfl, q1⟩ := q1
  cases r1
  exact not_of (wpAny_truthy_bool ⟨.bl (!c), H1, I1, rfl, q1⟩)
end
end L2

namespace L2
open PySem PySem.Spec PyProof.Rows

/-! ### a list, a tuple that is read: tracked, frozen, or an object of the module -/
def SqL (K : PySem.W.Frag) (H : Hp) (a : Addr) (xs : List V) : Prop :=
  Rd H a (.lst xs) ∨
    ∃ (o : Obj) (its : Array Value) (n : Nat), K.lookup a = some o ∧ o.cls = .type "list" ∧ o.dict = none ∧ o.data = .seq its n ∧ its.size ≤ sizeLine ∧ Vals xs its.toList
def SqT (K : PySem.W.Frag) (H : Hp) (a : Addr) (xs : List V) : Prop :=
  Rd H a (.tup xs) ∨
    ∃ (o : Obj) (its : Array Value) (n : Nat), K.lookup a = some o ∧ o.cls = .type "tuple" ∧ o.data = .seq its n ∧ its.size ≤ sizeLine ∧ Vals xs its.toList
def absV : Value → Option V
  | .none => some .non
  | .bool b => some (.bl b)
  | .int i _ => some (.int i)
  | .str x _ => some (.str x)
  | .bytes b _ => some (.byt b)
  | .float b _ => some (.flt b)
  | .ref a => some (.ref a)
  | .type n => some (.ty n)
  | _ => none
theorem RelV.abs {x : V} {u : Value} (r : RelV x u) : absV u = some x := by
  cases x with
  | non => cases r; rfl
  | bl _ => cases r; rfl
  | int _ => obtain ⟨t, rfl⟩ := r; rfl
  | str _ => obtain ⟨t, rfl⟩ := r; rfl
  | byt _ => obtain ⟨t, rfl⟩ := r; rfl
  | flt _ => obtain ⟨t, rfl⟩ := r; rfl
  | ref _ => cases r; rfl
  | ty _ => cases r; rfl
theorem RelV.inj {x y : V} {u : Value} (r : RelV x u) (q : RelV y u) : x = y := Option.some.inj (r.abs.symm.trans q.abs)
theorem Vals.inj : ∀ {xs ys : List V} {us : List Value}, Vals xs us → Vals ys us → xs = ys
  | _, _, _, .nil, .nil => rfl
  | _, _, _, .cons r t, .cons r' t' => by rw [r.inj r', Vals.inj t t']
section
variable {X : Cx} {pins : List (Addr × Obj)} {σ : St} {H : Hp} {s : Shared} {a : Addr} {xs ys : List V}
theorem SqL.of {K : PySem.W.Frag} (h : H a = some (.lst xs)) : SqL K H a xs := .inl (.inl h)
theorem SqT.of {K : PySem.W.Frag} (h : H a = some (.tup xs)) : SqT K H a xs := .inl (.inl h)
theorem Inv.list (I : Inv X pins σ H s) (h : SqL X.K H a xs) : ∃ its : List Value, Vals xs its ∧ PlainL s.heap a its.toArray ∧ xs.length ≤ sizeLine := by
  rcases h with h | ⟨o, its, n, hk, hc, hd, hs, hz, r⟩
  · obtain ⟨z, its, n, r, e⟩ := h.ok I.hok
    exact ⟨its, r, ⟨_, n, e, rfl, rfl, rfl⟩, z⟩
  · refine ⟨its.toList, r, ⟨o, n, I.kIn a o hk, hc, hd, by simpa using hs⟩, ?_⟩
    have e := r.length
    simp only [Array.length_toList] at e
    omega
theorem Inv.tuple (I : Inv X pins σ H s) (h : SqT X.K H a xs) : ∃ its : List Value, Vals xs its ∧ IsTup s.heap a its.toArray ∧ xs.length ≤ sizeLine := by
  rcases h with h | ⟨o, its, n, hk, hc, hs, hz, r⟩
  · obtain ⟨z, its, r, p⟩ := h.ok I.hok
    exact ⟨its, r, p, z⟩
  · refine ⟨its.toList, r, ⟨o, I.kIn a o hk, hc, n, by simpa using hs⟩, ?_⟩
    have e := r.length
    simp only [Array.length_toList] at e
    omega
theorem Inv.list_inj (I : Inv X pins σ H s) (h : SqL X.K H a xs) (h' : SqL X.K H a ys) : xs = ys := by
  obtain ⟨its, r, ⟨o, n, e, _, _, d⟩, _⟩ := I.list h
  obtain ⟨its', r', ⟨o', n', e', _, _, d'⟩, _⟩ := I.list h'
  rw [e] at e'; cases e'
  rw [d] at d'
  injection d' with d1 _
  have : its = its' := by simpa using congrArg Array.toList d1
  subst this
  exact r.inj r'
theorem Inv.tuple_inj (I : Inv X pins σ H s) (h : SqT X.K H a xs) (h' : SqT X.K H a ys) : xs = ys := by
  obtain ⟨its, r, ⟨o, e, _, n, d⟩, _⟩ := I.tuple h
  obtain ⟨its', r', ⟨o', e', _, n', d'⟩, _⟩ := I.tuple h'
  rw [e] at e'; cases e'
  rw [d] at d'
  injection d' with d1 _
  have : its = its' := by simpa using congrArg Array.toList d1
  subst this
  exact r.inj r'
end

/-! ### another wish about exceptions -/
abbrev Cx.wish (X : Cx) (E : Value → Shared → Prop) : Cx := { X with xe := E }
/-- no exception leaves -/
abbrev Cx.nox (X : Cx) : Cx := X.wish fun _ _ => False
theorem Cx.Ok.wish {X : Cx} (ok : X.Ok) (E : Value → Shared → Prop) : (X.wish E).Ok :=
  ⟨ok.mod, ok.kind, ok.glob, ok.blt, ok.above, ok.inj, ok.has, ok.cab, ok.hd, ok.frames, ok.stk, ok.exf, ok.bs, ok.bsz, ok.noex, ok.exfs, ok.funs, ok.frf⟩
theorem Cx.Ok.unwish {X : Cx} {E : Value → Shared → Prop} (ok : (X.wish E).Ok) : X.Ok :=
  ⟨ok.mod, ok.kind, ok.glob, ok.blt, ok.above, ok.inj, ok.has, ok.cab, ok.hd, ok.frames, ok.stk, ok.exf, ok.bs, ok.bsz, ok.noex, ok.exfs, ok.funs, ok.frf⟩
section
variable {X : Cx} {pins : List (Addr × Obj)} {σ : St} {H : Hp} {s : Shared} {E : Value → Shared → Prop}
theorem Inv.wish (I : Inv X pins σ H s) (E : Value → Shared → Prop) : Inv (X.wish E) pins σ H s := ⟨I.ok.wish E, I.os, I.bare, I.base, I.loc, I.cell, I.free, I.freeC, I.pin, I.hok, I.len⟩
theorem Inv.unwish (I : Inv (X.wish E) pins σ H s) : Inv X pins σ H s := ⟨I.ok.unwish, I.os, I.bare, I.base, I.loc, I.cell, I.free, I.freeC, I.pin, I.hok, I.len⟩
theorem SP.unwish {D : Ends} {f : Flow} {s' : Shared} (h : SP (X.wish E) pins D f s') : SP X pins D f s' := by
  cases f with
  | next => obtain ⟨σ', H', I, q⟩ := h; exact ⟨σ', H', I.unwish, q⟩
  | brk => obtain ⟨σ', H', I, q⟩ := h; exact ⟨σ', H', I.unwish, q⟩
  | cont => obtain ⟨σ', H', I, q⟩ := h; exact ⟨σ', H', I.unwish, q⟩
  | ret u => obtain ⟨v, σ', H', I, r, q⟩ := h; exact ⟨v, σ', H', I.unwish, r, q⟩
theorem PSs.nox {st : List Stmt} {t : TS} (h : PSs X.nox st t) : PSs X st t := fun pins s σ H D I hw =>
  wpAny_mono (h pins s σ H D (I.wish _) hw) (fun _ _ q => q.unwish) fun _ _ z => False.elim z
end

/-! ### blocks and small statements -/
section
variable {X : Cx} {st : Stmt} {rest : List Stmt} {t u : TS} {e : Expr} {te : TE} {pos : Pos}
def tNext : TS := fun D σ H => D.nx σ H
def tSeq (t u : TS) : TS := fun D σ H => t { D with nx := u D } σ H
theorem pss_nil : PSs X [] tNext := fun _ _ σ H _ I h => wpAny_execs_nil ⟨σ, H, I, h⟩
theorem pss_cons (h1 : PS X st t) (h2 : PSs X rest u) : PSs X (st :: rest) (tSeq t u) := by
  intro pins s σ H D I h
  refine wpAny_execs_cons (thn (h1 pins s σ H { D with nx := u D } I h) fun f s1 q => ?_)
  cases f with
  | next =>
    obtain ⟨σ', H', I', q⟩ := q
    exact h2 pins s1 σ' H' D I' q
  | ret v => exact q
  | brk => exact q
  | cont => exact q
theorem pss_one (h1 : PS X st t) : PSs X [st] t := by
  intro pins s σ H D I h
  refine wpAny_execs_cons (thn (h1 pins s σ H D I h) fun f s1 q => ?_)
  cases f with
  | next => exact wpAny_execs_nil q
  | ret v => exact q
  | brk => exact q
  | cont => exact q
/-- in a def's body nothing is shown -/
theorem Inv.quiet {pins : List (Addr × Obj)} {σ : St} {H : Hp} {s : Shared} (I : Inv X pins σ H s) : interactive X.env = false := by simp [interactive, I.ok.kind]
/-- an expression whose value is dropped -/
def tDrop (te : TE) : TS := fun D σ H => te σ H fun _ H1 => D.nx σ H1
theorem ps_expr (he : PE X e te) (hs : swapsWith e none pos.line X.env = pure false := by rfl) : PS X (.Expr e pos) (tDrop te) := by
  intro pins s σ H D I h
  exact wpAny_Expr_any (thn (he pins s σ H _ I h) fun v s1 ⟨x, H1, I1, r1, q1⟩ => ⟨σ, H1, I1, q1⟩) I.quiet hs
def tRet (te : TE) : TS := fun D σ H => te σ H D.rt
theorem ps_ret (he : PE X e te) : PS X (.Return (some e) pos) (tRet te) := by
  intro pins s σ H D I h
  exact wpAny_Return_some (thn (he pins s σ H _ I h) fun v s1 ⟨x, H1, I1, r1, q1⟩ => ⟨x, σ, H1, I1, r1, q1⟩)
def tIfS (c : TT) (t u : TS) : TS := fun D σ H => c σ H fun b H1 => if b = true then t D σ H1 else u D σ H1
theorem ps_if {c : Expr} {a b : List Stmt} {tc : TT} (hc : PT X c tc) (ha : PSs X a t) (hb : PSs X b u) : PS X (.If c a b pos) (tIfS tc t u) := by
  intro pins s σ H D I h
  refine wpAny_If (thn (hc pins s σ H _ I h) fun d s1 ⟨H1, I1, q1⟩ => ?_)
  cases d with
  | true => exact ha pins s1 σ H1 D I1 q1
  | false => exact hb pins s1 σ H1 D I1 q1
end

/-! ### targets -/
abbrev TG := V → St → Hp → (St → Hp → Prop) → Prop
abbrev TGs := List V → St → Hp → (St → Hp → Prop) → Prop
def PG (X : Cx) (target : Expr) (t : TG) : Prop :=
  ∀ (pins : List (Addr × Obj)) (s : Shared) (σ : St) (H : Hp) (v : V) (u : Value) (Q : St → Hp → Prop), Inv X pins σ H s → RelV v u → t v σ H Q →
    wpAny (model X.prog X.w) X.A (assign target X.env u) (fun _ s' => ∃ σ' H', Inv X pins σ' H' s' ∧ Q σ' H') X.xe s
/-- several targets, one after another -/
def PGs (X : Cx) (ts : List Expr) (t : TGs) : Prop :=
  ∀ (pins : List (Addr × Obj)) (s : Shared) (σ : St) (H : Hp) (vs : List V) (us : List Value) (Q : St → Hp → Prop), Inv X pins σ H s → Vals vs us → t vs σ H Q →
    wpAny (model X.prog X.w) X.A (assignInOrder ((assignEach ts X.env).map (·.2)) us) (fun _ s' => ∃ σ' H', Inv X pins σ' H' s' ∧ Q σ' H') X.xe s
/-- o[i] = v, by values -/
abbrev TSet := V → V → V → Hp → (Hp → Prop) → Prop
def PSet (X : Cx) (t : TSet) : Prop :=
  ∀ (pins : List (Addr × Obj)) (s : Shared) (σ : St) (H : Hp) (o i v : V) (ov iv u : Value) (Q : Hp → Prop), Inv X pins σ H s → RelV o ov → RelV i iv → RelV v u → t o i v H Q →
    wpAny (model X.prog X.w) X.A (setItem ov iv u) (fun _ s' => ∃ H', Inv X pins σ H' s' ∧ Q H') X.xe s
/-- a op= b, by values -/
abbrev TIp := V → V → Hp → VK → Prop
def PIp (X : Cx) (op : Operator) (t : TIp) : Prop :=
  ∀ (pins : List (Addr × Obj)) (s : Shared) (σ : St) (H : Hp) (x y : V) (v u : Value) (Q : VK), Inv X pins σ H s → RelV x v → RelV y u → t x y H Q →
    wpAny (model X.prog X.w) X.A (inplaceOp op v u) (EP X pins σ Q) X.xe s
section
variable {X : Cx} {pos : Pos}
def gName (i : Nat) : TG := fun v σ H Q => Q (σ.set i (some v)) H
theorem pg_name {i : Nat} {x : Str} (hN : X.N.Nodup) (hi : X.N[i]? = some x) (hx : Loc X.env.scope x) (hf : X.fn x = true ∨ X.env.scope.names.lookup x = some .local := by first | exact .inl rfl | exact .inr rfl | assumption) : PG X (.Name x pos) (gName i) := by
  intro pins s σ H v u Q I r h
  exact wpAny_assign_Name (store_ok I hN hi hx r (fun s' I' => ⟨_, H, I', h⟩) hf)
def gNil : TGs := fun vs σ H Q => vs = [] ∧ Q σ H
def gCons (t : TG) (u : TGs) : TGs := fun vs σ H Q => ∃ v r, vs = v :: r ∧ t v σ H fun σ' H' => u r σ' H' Q
theorem pgs_nil : PGs X [] gNil := by
  intro pins s σ H vs us Q I r h
  obtain ⟨e, h⟩ := h
  subst e
  cases r
  exact assignInOrder_nil ⟨σ, H, I, h⟩
theorem pgs_cons {e : Expr} {es : List Expr} {t : TG} {u : TGs} (h1 : PG X e t) (h2 : PGs X es u)
    (hs : (assignEach (e :: es) X.env).map (·.2) = assign e X.env :: (assignEach es X.env).map (·.2) := by rfl) : PGs X (e :: es) (gCons t u) := by
  intro pins s σ H vs us Q I r h
  obtain ⟨v, vr, e1, h⟩ := h
  subst e1
  cases r with
  | cons r rr =>
    rw [hs]
    refine assignInOrder_cons (thn (h1 pins s σ H _ _ _ I r h) fun _ s1 ⟨σ1, H1, I1, q1⟩ => ?_)
    exact h2 pins s1 σ1 H1 _ _ Q I1 rr q1
/-- (a, b, ..) = a tuple of that length -/
def gTup (K : PySem.W.Frag) (n : Nat) (t : TGs) : TG := fun v σ H Q => ∃ a xs, v = .ref a ∧ SqT K H a xs ∧ xs.length = n ∧ t xs σ H Q
theorem pg_tup {es : List Expr} {k : Nat} {t : TGs} {n : Nat} (hc : X.calm = true) (h : PGs X es t)
    (hn : (assignEach es X.env).length = n := by rfl) (hst : (assignEach es X.env).findIdx? (·.1) = none := by rfl) : PG X (.Tuple es k pos) (gTup X.K n t) := by
  intro pins s σ H v u Q I r hw
  obtain ⟨a, xs, e1, hq, hl, hw⟩ := hw
  subst e1
  cases r
  obtain ⟨its, rv, ht, hz⟩ := I.tuple hq
  refine assign_Tuple_tuple (I.ok.hd hc) ht (by simp [hn, ← hl, rv.length]) hst fun h' hx => ?_
  have I1 : Inv X pins σ H { s with heap := h' } := I.kept (t' := s.toks) fun b o e => hx b o (Nat.ne_of_lt (Heap.lt_size e)) e
  exact h pins _ σ H xs _ Q I1 (by simpa using rv) hw
/-- o[i] = .. -/
def gSub (to ti : TE) (t : TSet) : TG := fun v σ H Q => to σ H fun o H1 => ti σ H1 fun i H2 => t o i v H2 fun H3 => Q σ H3
theorem pg_sub {o i : Expr} {to ti : TE} {t : TSet} (ho : PE X o to) (hi : PE X i ti) (hs : PSet X t)
    (ha : ∀ v, assign (.Subscript o i pos) X.env v = (do
      let ov ← holding [v] (eval o X.env)
      let iv ← holding [v, ov] (eval i X.env)
      standAt pos
      holding [v, ov, iv] (setItem ov iv v)
      release [v, ov, iv] []) := by intro _; rfl) : PG X (.Subscript o i pos) (gSub to ti t) := by
  intro pins s σ H v u Q I r h
  rw [ha]
  refine wpAny_bind (wpAny_holding (thn (ho pins s σ H _ I h) fun ov s1 ⟨x, H1, I1, r1, q1⟩ => ?_))
  refine wpAny_bind (wpAny_holding (thn (hi pins s1 σ H1 _ I1 q1) fun iv s2 ⟨y, H2, I2, r2, q2⟩ => ?_))
  refine wpAny_bind (wpAny_standAt (wpAny_bind (wpAny_holding (thn (hs pins s2 σ H2 x y v ov iv u _ I2 r1 r2 r q2) fun _ s3 ⟨H3, I3, q3⟩ => ?_))))
  exact wpAny_release ⟨σ, H3, I3, q3⟩
/-- target = value -/
def tAsg (te : TE) (g : TG) : TS := fun D σ H => te σ H fun x H1 => g x σ H1 D.nx
theorem ps_asg {tg e : Expr} {te : TE} {g : TG} (he : PE X e te) (hg : PG X tg g) (hs : swapsWithSole [tg] e pos.line X.env = pure false := by rfl) (hw : swappedStores [tg] e X.env = pure none := by rfl)
    (h1 : (assignEach [tg] X.env).map (·.2) = [assign tg X.env] := by rfl) : PS X (.Assign [tg] e pos) (tAsg te g) := by
  intro pins s σ H D I h
  refine wpAny_Assign_stores (thn (he pins s σ H _ I h) fun v s1 ⟨x, H1, I1, r1, q1⟩ => ?_) hs hw
  rw [h1]
  exact thn (hg pins s1 σ H1 x v _ I1 r1 q1) fun _ s2 q => q
/-- name = value -/
theorem ps_set {i : Nat} {x : Str} {e : Expr} {te : TE} {pos' : Pos} (hN : X.N.Nodup) (hi : X.N[i]? = some x) (hx : Loc X.env.scope x) (he : PE X e te) (hs : swapsWith e (some (.Name x pos')) pos.line X.env = pure false := by rfl) (hf : X.fn x = true ∨ X.env.scope.names.lookup x = some .local := by first | exact .inl rfl | exact .inr rfl | assumption) :
    PS X (.Assign [.Name x pos'] e pos) (tAsg te (gName i)) := by
  intro pins s σ H D I h
  refine wpAny_Assign_Name (thn (he pins s σ H _ I h) fun v s1 ⟨y, H1, I1, r1, q1⟩ => ?_) hs
  exact store_ok I1 hN hi hx r1 (fun s2 I2 => ⟨_, H1, I2, q1⟩) hf
/-- name op= e -/
def tAug (i : Nat) (te : TE) (ti : TIp) : TS := fun D σ H => ∃ x, σ[i]? = some (some x) ∧ te σ H fun y H1 => ti x y H1 fun z H2 => D.nx (σ.set i (some z)) H2
theorem ps_aug {i : Nat} {x : Str} {e : Expr} {te : TE} {op : Operator} {ti : TIp} {pos' : Pos} (hN : X.N.Nodup) (hi : X.N[i]? = some x) (hx : Loc X.env.scope x) (he : PE X e te) (ho : PIp X op ti) (hf : X.fn x = true ∨ X.env.scope.names.lookup x = some .local := by first | exact .inl rfl | exact .inr rfl | assumption) :
    PS X (.AugAssign (.Name x pos') op e pos) (tAug i te ti) := by
  intro pins s σ H D I h
  obtain ⟨v, e1, h⟩ := h
  obtain ⟨m, hn, hl⟩ := I.loc
  have vis : Vis X.env.scope x := by rcases hx with k | k; exact .inl k; exact .inr (.inl k)
  obtain ⟨u, r, l⟩ := hl i x v hi e1 vis
  refine wpAny_AugAssign_Name ?_
  have go : wpAny (model X.prog X.w) X.A (eval e X.env) (fun w s₂ => wpAny (model X.prog X.w) X.A (inplaceOp op u w) (fun r s₃ => wpAny (model X.prog X.w) X.A (storeName X.env x r) (fun _ => SP X pins D .next) X.xe s₃) X.xe s₂) X.xe s := by
    refine thn (he pins s σ H _ I h) fun w s1 ⟨y, H1, I1, r1, q1⟩ => ?_
    refine thn (ho pins s1 σ H1 v y u w _ I1 r r1 q1) fun z s2 ⟨zv, H2, I2, r2, q2⟩ => ?_
    exact store_ok I2 hN hi hx r2 (fun s3 I3 => ⟨_, H2, I3, q2⟩) hf
  rcases l with ⟨hk, hm⟩ | ⟨hk, c, hc, hcell⟩
  · exact wpAny_loadName_local I.ok.kind hk hn hm go
  · rcases hk with hk | hk
    · exact wpAny_loadName_cell I.ok.kind hk hc hcell go
    · rcases hx with k | k
      · have : X.env.scope.names.lookup x = some .free := hk
        rw [k] at this; cases this
      · have : X.env.scope.names.lookup x = some .free := hk
        rw [k] at this; cases this
end

/-! ### while -/
section
variable {X : Cx} {pos : Pos}
end

/-! ### what a loop or a comprehension walks -/
/-- at turn i: it yields x (the heap may grow), or it stops -/
structure It where
  go : Nat → Hp → Prop
  yld : Nat → Hp → V → Hp → Prop
  stop : Nat → Hp → Prop
/-- the iterator's own objects may turn: they are not the frame's, not pinned, younger than the entry (or a comprehension's own) -/
def FpOk (X : Cx) (pins : List (Addr × Obj)) (H : Hp) (b : Addr) : Prop :=
  H b = none ∧ b ≠ X.env.locals ∧ b ∉ X.fs ∧ (b ∈ X.ex ∨ X.s₀.heap.objs.size ≤ b) ∧ (∀ x c, X.env.cells.lookup x = some c → c ≠ b) ∧ ∀ p ∈ X.pn ++ pins, p.1 ≠ b
theorem Inv.fpOk {X : Cx} {pins : List (Addr × Obj)} {σ : St} {H H' : Hp} {s : Shared} {b : Addr} (I : Inv X pins σ H s) (hb : s.heap.objs.size ≤ b) (hn : H' b = none) : FpOk X pins H' b := by
  refine ⟨hn, Nat.ne_of_gt (Nat.lt_of_lt_of_le I.lt hb), I.nofs hb, .inr (Nat.le_trans I.sz hb), fun x c e z => ?_, fun p hp z => ?_⟩
  · obtain ⟨v, q⟩ := I.cell x c e
    exact absurd (Nat.lt_of_lt_of_le q.lt (by rw [z]; exact hb)) (Nat.lt_irrefl _)
  · exact absurd (Nat.lt_of_lt_of_le (Heap.lt_size (I.pin p hp).1) (by rw [z]; exact hb)) (Nat.lt_irrefl _)
structure Turn (P : Program) (w : World) (K : PySem.W.Frag) (tg : Expr) (J : It) (fp : List Addr) (it : Addr) (tn : Nat → Heap → Prop) : Prop where
  mem : it ∈ fp
  obj : ∀ i h, tn i h → ∀ b ∈ fp, ∃ o, h.get? b = some o ∧ ∀ v, o.data ≠ .cell v
  keep : ∀ i h h', tn i h → (∀ b ∈ fp, ∀ o, h.get? b = some o → h'.get? b = some o) → tn i h'
  item : ∀ (X : Cx), X.prog = P → X.w = w → X.K = K → X.calm = true → ∀ (i : Nat) (pins : List (Addr × Obj)) (s : Shared) (σ : St) (H : Hp) (E : Value → Shared → Prop), Inv X pins σ H s → (∀ b ∈ fp, FpOk X pins H b) → tn i s.heap → J.go i H →
    wpAny (model P w) X.A (pyNext (.ref it)) (fun r s1 => ∃ u, r = some u ∧
      wpAny (model P w) X.A (letOwnedTupleGo tg (.ref it) u) (fun _ s2 => ∃ x H', Inv X pins σ H' s2 ∧ RelV x u ∧ J.yld i H x H' ∧ tn (i + 1) s2.heap ∧ ∀ b ∈ fp, H' b = none) E s1) E s
  done : ∀ (X : Cx), X.prog = P → X.w = w → X.K = K → X.calm = true → ∀ (i : Nat) (pins : List (Addr × Obj)) (s : Shared) (σ : St) (H : Hp) (E : Value → Shared → Prop), Inv X pins σ H s → (∀ b ∈ fp, FpOk X pins H b) → tn i s.heap → J.stop i H →
    wpAny (model P w) X.A (pyNext (.ref it)) (fun r s1 => r = none ∧ Inv X pins σ H s1) E s
  self : ∀ (A : Around) (i : Nat) (s : Shared) (Q : Value → Shared → Prop) (E : Value → Shared → Prop), tn i s.heap → Q (.ref it) s → wpAny (model P w) A (pyIter (.ref it)) Q E s
abbrev TI := St → Hp → (It → Hp → Prop) → Prop
/-- an iterator has come -/
def PIE (X : Cx) (pins : List (Addr × Obj)) (σ : St) (tg : Expr) (R : It → Hp → Prop) (itv : Value) (s2 : Shared) : Prop :=
  ∃ (it : Addr) (fp : List Addr) (tn : Nat → Heap → Prop) (J : It) (H' : Hp), itv = .ref it ∧ Inv X pins σ H' s2 ∧ Turn X.prog X.w X.K tg J fp it tn ∧ tn 0 s2.heap ∧ (∀ b ∈ fp, FpOk X pins H' b) ∧ R J H'
def PI (X : Cx) (tg iter : Expr) (wi : TI) : Prop :=
  ∀ (pins : List (Addr × Obj)) (s : Shared) (σ : St) (H : Hp) (R : It → Hp → Prop), Inv X pins σ H s → wi σ H R →
    wpAny (model X.prog X.w) X.A (eval iter X.env) (fun v s1 => wpAny (model X.prog X.w) X.A (pyIter v) (PIE X pins σ tg R) X.xe s1) X.xe s

/-- the step ahead of the store is nothing for an iterator that keeps no tuple -/
theorem go_of {M : Model} {A : Around} {E : Value → Shared → Prop} {s : Shared} {tg : Expr} {it : Addr} {u : Value} {o : Obj} {n : String} {vs : Array Value} {Q : Unit → Shared → Prop} (ho : s.heap.get? it = some o) (hc : o.cls = .type n) (hd : o.data = .fields vs)
    (hn : ["enumerate", "zip", "dict_itemiterator", "dict_reverseitemiterator", "odict_iterator", "itertools.zip_longest", "itertools.pairwise"].contains n = false) (hQ : Q () s) : wpAny M A (letOwnedTupleGo tg (.ref it) u) Q E s := by
  unfold letOwnedTupleGo
  cases tg <;> first
    | exact wpAny_pure hQ
    | (cases u <;> first
        | exact wpAny_pure hQ
        | (refine wpAny_bind (wpAny_load ho ?_)
           rw [hc, hd]
           show wpAny M A (if (["enumerate", "zip", "dict_itemiterator", "dict_reverseitemiterator", "odict_iterator", "itertools.zip_longest", "itertools.pairwise"].contains n && vs[0]? == some (rawInt _)) = true then _ else _) Q E s
           rw [if_neg (by intro h; rw [hn, Bool.false_and] at h; cases h)]
           exact wpAny_pure hQ))

/-- the list at a, as it stands at each turn (a loop may append to it) -/
def Itl (K : PySem.W.Frag) (a : Addr) : It :=
  ⟨fun i H => ∃ xs x, SqL K H a xs ∧ xs[i]? = some x, fun i H x H' => H' = H ∧ ∀ xs, SqL K H a xs → xs[i]? = some x, fun i H => ∃ xs, SqL K H a xs ∧ xs.length ≤ i⟩
def Itt (K : PySem.W.Frag) (a : Addr) : It :=
  ⟨fun i H => ∃ xs x, SqT K H a xs ∧ xs[i]? = some x, fun i H x H' => H' = H ∧ ∀ xs, SqT K H a xs → xs[i]? = some x, fun i H => ∃ xs, SqT K H a xs ∧ xs.length ≤ i⟩
/-- lo, lo + 1, .. (n of them) -/
def Itr (lo : Int) (n : Nat) : It := ⟨fun i _ => i < n, fun i H x H' => H' = H ∧ x = .int (lo + i), fun i _ => n ≤ i⟩
theorem turn_list {P : Program} {w : World} {K : PySem.W.Frag} {tg : Expr} (a it : Addr) : Turn P w K tg (Itl K a) [it] it (fun i h => h.IsListIter it a i) where
  mem := by simp
  obj := fun i h st b hb => by
    have e : b = it := by simpa using hb
    subst e
    obtain ⟨o, e, c, d⟩ := st
    exact ⟨o, e, fun v z => by rw [d] at z; cases z⟩
  keep := fun i h h' st k => st.at fun o e => k it (by simp) o e
  item := by
    intro X hP hw hK hc i pins s σ H E I hf st hg
    subst hP hw hK
    obtain ⟨xs, x, hq, hx⟩ := hg
    obtain ⟨its, rv, p, hz⟩ := I.list hq
    obtain ⟨u, hu, ru⟩ := rv.get hx
    obtain ⟨f0, f1, f2, f3, f4, f5⟩ := hf it (by simp)
    refine wpAny_pyNext_list_item st p.isList (x := u) (by simpa using hu) fun h' st' sb => ?_
    have I1 : Inv X pins σ H { s with heap := h' } := I.turned (t' := s.toks) (fun b o hb e => (sb.2 b hb).trans e) f0 f1 f3 f4 f5
    obtain ⟨o, e, c, d⟩ := id st'
    exact ⟨u, rfl, go_of (s := { s with heap := h' }) e c d (by decide) ⟨x, H, I1, ru, ⟨rfl, fun ys hy => by rw [I.list_inj hy hq]; exact hx⟩, st', fun b hb => (hf b hb).1⟩⟩
  done := by
    intro X hP hw hK hc i pins s σ H E I hf st hg
    subst hP hw hK
    obtain ⟨xs, hq, hx⟩ := hg
    obtain ⟨its, rv, p, hz⟩ := I.list hq
    obtain ⟨f0, f1, f2, f3, f4, f5⟩ := hf it (by simp)
    have hl := rv.length
    exact wpAny_pyNext_list_end (I.ok.hd hc) st p.isList (by simp; omega) fun h' eb => ⟨rfl, I.turned (t' := s.toks) (fun b o hb e => eb b o hb e) f0 f1 f3 f4 f5⟩
  self := fun _ _ _ _ _ st h => wpAny_pyIter_listiter st h
theorem turn_tuple {P : Program} {w : World} {K : PySem.W.Frag} {tg : Expr} (a it : Addr) : Turn P w K tg (Itt K a) [it] it (fun i h => h.IsTupleIter it a i) where
  mem := by simp
  obj := fun i h st b hb => by
    have e : b = it := by simpa using hb
    subst e
    obtain ⟨o, e, c, d⟩ := st
    exact ⟨o, e, fun v z => by rw [d] at z; cases z⟩
  keep := fun i h h' st k => st.at fun o e => k it (by simp) o e
  item := by
    intro X hP hw hK hc i pins s σ H E I hf st hg
    subst hP hw hK
    obtain ⟨xs, x, hq, hx⟩ := hg
    obtain ⟨its, rv, p, hz⟩ := I.tuple hq
    obtain ⟨u, hu, ru⟩ := rv.get hx
    obtain ⟨f0, f1, f2, f3, f4, f5⟩ := hf it (by simp)
    refine wpAny_pyNext_tuple_item st (show s.heap.IsTuple a its.toArray from p) (x := u) (by simpa using hu) fun h' st' sb => ?_
    have I1 : Inv X pins σ H { s with heap := h' } := I.turned (t' := s.toks) (fun b o hb e => (sb.2 b hb).trans e) f0 f1 f3 f4 f5
    obtain ⟨o, e, c, d⟩ := id st'
    exact ⟨u, rfl, go_of (s := { s with heap := h' }) e c d (by decide) ⟨x, H, I1, ru, ⟨rfl, fun ys hy => by rw [I.tuple_inj hy hq]; exact hx⟩, st', fun b hb => (hf b hb).1⟩⟩
  done := by
    intro X hP hw hK hc i pins s σ H E I hf st hg
    subst hP hw hK
    obtain ⟨xs, hq, hx⟩ := hg
    obtain ⟨its, rv, p, hz⟩ := I.tuple hq
    obtain ⟨f0, f1, f2, f3, f4, f5⟩ := hf it (by simp)
    have hl := rv.length
    exact wpAny_pyNext_tuple_end (I.ok.hd hc) st (show s.heap.IsTuple a its.toArray from p) (by simp; omega) fun h' eb => ⟨rfl, I.turned (t' := s.toks) (fun b o hb e => eb b o hb e) f0 f1 f3 f4 f5⟩
  self := fun _ _ _ _ _ st h => wpAny_pyIter_tupleiter st h
theorem turn_range {P : Program} {w : World} {K : PySem.W.Frag} {tg : Expr} (it : Addr) (lo : Int) (n : Nat) : Turn P w K tg (Itr lo n) [it] it (fun i h => IsRangeIter h it (lo + (i : Nat) * 1) ((n : Int) - (i : Nat)) 1) where
  mem := by simp
  obj := fun i h st b hb => by
    have e : b = it := by simpa using hb
    subst e
    exact ⟨_, st, fun v z => by
      have z' : Data.fields _ = Data.cell v := z
      cases z'⟩
  keep := fun i h h' st k => k it (by simp) _ st
  item := by
    intro X hP hw hK hc i pins s σ H E I hf st hg
    subst hP hw hK
    obtain ⟨f0, f1, f2, f3, f4, f5⟩ := hf it (by simp)
    have W := Walks.range (prog := X.prog) (w := X.w) (I.ok.hd hc) it lo 1 n
    refine W.item i s _ _ hg st fun v h' tk hv st' kk => ?_
    obtain ⟨t, rfl⟩ := hv
    have I1 : Inv X pins σ H { s with heap := h', toks := tk } := I.turned (fun b o hb e => kk b o (by simpa using hb) e) f0 f1 f3 f4 f5
    refine ⟨_, rfl, go_of (s := { s with heap := h', toks := tk }) (n := "range_iterator") st' rfl rfl (by decide) ⟨.int (lo + i), H, I1, ⟨t, ?_⟩, ⟨rfl, rfl⟩, st', fun b hb => (hf b hb).1⟩⟩
    rw [Int.mul_one]
  done := by
    intro X hP hw hK hc i pins s σ H E I hf st hg
    subst hP hw hK
    obtain ⟨f0, f1, f2, f3, f4, f5⟩ := hf it (by simp)
    exact wpAny_pyNext_range_end (I.ok.hd hc) st (by have : n ≤ i := hg; omega) fun h' eb => ⟨rfl, I.turned (t' := s.toks) (fun b o hb e => eb b o hb e) f0 f1 f3 f4 f5⟩
  self := fun _ _ _ _ _ st h => wpAny_pyIter_rangeiter st h
end L2

namespace L2
open PySem PySem.Spec PyProof.Rows
section
variable {X : Cx} {tg : Expr}
def iList (K : PySem.W.Frag) (tl : TE) : TI := fun σ H R => tl σ H fun x H1 => ∃ a, x = .ref a ∧ (∃ xs, SqL K H1 a xs) ∧ R (Itl K a) H1
def iTup (K : PySem.W.Frag) (tl : TE) : TI := fun σ H R => tl σ H fun x H1 => ∃ a, x = .ref a ∧ (∃ xs, SqT K H1 a xs) ∧ R (Itt K a) H1
theorem pi_list {l : Expr} {tl : TE} (hl : PE X l tl) : PI X tg l (iList X.K tl) := by
  intro pins s σ H R I h
  refine thn (hl pins s σ H _ I h) fun v s1 ⟨x, H1, I1, r1, q1⟩ => ?_
  obtain ⟨a, e, ⟨xs, hq⟩, q⟩ := q1
  subst e
  cases r1
  obtain ⟨its, rv, p, hz⟩ := I1.list hq
  refine wpAny_pyIter_list p.isList ?_
  refine ⟨s1.heap.objs.size, [s1.heap.objs.size], _, _, H1, rfl, I1.kept (t' := s1.toks) fun b o e => Heap.get?_push_of_some _ e, turn_list a _, ⟨_, Heap.get?_push_size _ rfl, rfl, rfl⟩, fun b hb => ?_, q⟩
  have e : b = s1.heap.objs.size := by simpa using hb
  subst e
  exact I1.fpOk (Nat.le_refl _) (I1.hok.fresh (Nat.le_refl _))
theorem pi_tup {l : Expr} {tl : TE} (hl : PE X l tl) : PI X tg l (iTup X.K tl) := by
  intro pins s σ H R I h
  refine thn (hl pins s σ H _ I h) fun v s1 ⟨x, H1, I1, r1, q1⟩ => ?_
  obtain ⟨a, e, ⟨xs, hq⟩, q⟩ := q1
  subst e
  cases r1
  obtain ⟨its, rv, p, hz⟩ := I1.tuple hq
  refine wpAny_pyIter_tuple (show s1.heap.IsTuple a its.toArray from p) ?_
  refine ⟨s1.heap.objs.size, [s1.heap.objs.size], _, _, H1, rfl, I1.kept (t' := s1.toks) fun b o e => Heap.get?_push_of_some _ e, turn_tuple a _, ⟨_, Heap.get?_push_size _ rfl, rfl, rfl⟩, fun b hb => ?_, q⟩
  have e : b = s1.heap.objs.size := by simpa using hb
  subst e
  exact I1.fpOk (Nat.le_refl _) (I1.hok.fresh (Nat.le_refl _))
/-- a range object just made, walked -/
theorem range_it {pins : List (Addr × Obj)} {σ : St} {H : Hp} {s : Shared} {R : It → Hp → Prop} {E : Value → Shared → Prop} {lo hi : Int} {t u v : Tok} {tk : Nat} (I : Inv X pins σ H s) (h1 : -(2 ^ 62) ≤ lo) (h2 : lo < 2 ^ 62) (h3 : -(2 ^ 62) ≤ hi) (h4 : hi < 2 ^ 62)
    (q : R (Itr lo (hi - lo).toNat) H) : wpAny (model X.prog X.w) X.A (pyIter (.ref s.heap.objs.size)) (PIE X pins σ tg R) E { s with heap := s.heap.push { cls := .type "range", data := .fields #[.int lo t, .int hi u, .int 1 v] }, toks := tk } := by
  refine wpAny_pyIter_range (IsRange.new ..) (small_one h1 h2 h3 h4) ?_
  have I1 : Inv X pins σ H { s with heap := s.heap.push { cls := .type "range", data := .fields #[.int lo t, .int hi u, .int 1 v] }, toks := tk } := I.kept fun b o e => Heap.get?_push_of_some _ e
  refine ⟨(s.heap.push { cls := .type "range", data := .fields #[.int lo t, .int hi u, .int 1 v] }).objs.size, [(s.heap.push { cls := .type "range", data := .fields #[.int lo t, .int hi u, .int 1 v] }).objs.size], _, _, H, rfl,
    I1.kept (t' := tk) fun b o e => Heap.get?_push_of_some _ e, turn_range _ lo (hi - lo).toNat, ?_, fun b hb => ?_, q⟩
  · have e1 : lo + ((0 : Nat) : Int) * 1 = lo := by simp
    have e2 : (((hi - lo).toNat : Nat) : Int) - ((0 : Nat) : Int) = Builtin.Range.rangeSize lo hi 1 := by rw [rangeSize_one]; split <;> omega
    show IsRangeIter _ _ (lo + ((0 : Nat) : Int) * 1) ((((hi - lo).toNat : Nat) : Int) - ((0 : Nat) : Int)) 1
    rw [e1, e2]
    exact Heap.get?_push_size _ rfl
  · have e : b = (s.heap.push { cls := .type "range", data := .fields #[.int lo t, .int hi u, .int 1 v] }).objs.size := by simpa using hb
    subst e
    exact I1.fpOk (Nat.le_refl _) (I1.hok.fresh (Nat.le_refl _))
def iRng1 (ta : TA) : TI := fun σ H R => ta σ H fun vs H1 => ∃ j : Int, vs = [.int j] ∧ -(2 ^ 62) ≤ j ∧ j < 2 ^ 62 ∧ R (Itr 0 j.toNat) H1
theorem pi_range1 {a : Expr} {ta : TA} {p pos : Pos} (hg : Gl X "range") (hm : X.mg "range" = none) (ha : PA X [a] ta) (hs : starEach [a] X.env = [(false, eval a X.env)] := by rfl) : PI X tg (.Call (.Name "range" p) [a] [] pos) (iRng1 ta) := by
  intro pins s σ H R I h
  refine Call_ (ld_blt I hg hm boot_range (PyProof.Rows.callWith_type1 (thn (ha pos pins s σ H _ I h) fun us s1 ⟨vs, H1, I1, r1, q1⟩ => ?_) hs rfl))
  obtain ⟨j, e, q1, q2, q⟩ := q1
  subst e
  cases r1 with
  | cons r rr =>
    cases rr
    obtain ⟨t, rfl⟩ := r
    exact call_range_1 (range_it I1 (by omega) (by omega) q1 q2 (by simpa using q))

/-! ### for -/
/-- W: the invariant by the turn and a measure; N: what the body is to reach -/
def tFor (wi : TI) (g : TG) (tb : TS) : TS := fun D σ H => wi σ H fun J H1 => ∃ W : Nat → Nat → St → Hp → Prop, (∃ m, W 0 m σ H1) ∧ ∀ i m σ H, W i m σ H →
  (J.stop i H ∧ D.nx σ H) ∨ (J.go i H ∧ ∃ N : St → Hp → Prop, (∀ σ' H', N σ' H' → ∃ m', m' < m ∧ W (i + 1) m' σ' H') ∧ ∀ x H', J.yld i H x H' → g x σ H' fun σ2 H2 => tb { D with nx := N, ct := N, bk := D.nx } σ2 H2)
/-- the records at fp as they stand -/
def pinsAt (fp : List Addr) (h : Heap) : List (Addr × Obj) := fp.filterMap fun b => (h.get? b).map fun o => (b, o)
theorem mem_pinsAt {fp : List Addr} {h : Heap} {b : Addr} {o : Obj} (hb : b ∈ fp) (e : h.get? b = some o) : (b, o) ∈ pinsAt fp h := List.mem_filterMap.mpr ⟨b, hb, by rw [e]; rfl⟩
theorem of_pinsAt {fp : List Addr} {h : Heap} {p : Addr × Obj} (hp : p ∈ pinsAt fp h) : p.1 ∈ fp ∧ h.get? p.1 = some p.2 := by
  obtain ⟨b, hb, e⟩ := List.mem_filterMap.mp hp
  cases q : h.get? b with
  | none => rw [q] at e; cases e
  | some o =>
    rw [q] at e
    have e' : (b, o) = p := Option.some.inj e
    subst e'
    exact ⟨hb, q⟩
theorem Inv.pinned {pins : List (Addr × Obj)} {σ : St} {H : Hp} {s : Shared} {fp : List Addr} (I : Inv X pins σ H s) (hf : ∀ b ∈ fp, FpOk X pins H b) (ho : ∀ b ∈ fp, ∃ o, s.heap.get? b = some o ∧ ∀ v, o.data ≠ .cell v) : Inv X (pins ++ pinsAt fp s.heap) σ H s :=
  I.pins_of fun p hp => (List.mem_append.mp hp).elim (fun z => I.pin p (List.mem_append_right _ z)) fun z => by
    obtain ⟨hb, e⟩ := of_pinsAt z
    obtain ⟨f0, f1, f2, _⟩ := hf p.1 hb
    obtain ⟨o, e', d⟩ := ho p.1 hb
    rw [e] at e'; cases e'
    exact ⟨e, f0, f1, f2, d⟩
theorem Inv.unpinned {pins pl : List (Addr × Obj)} {σ : St} {H : Hp} {s : Shared} (I : Inv X (pins ++ pl) σ H s) : Inv X pins σ H s := I.pins_of fun p hp => I.pin p (List.mem_append_right _ (List.mem_append_left _ hp))
theorem ps_for {iter : Expr} {body : List Stmt} {wi : TI} {g : TG} {tb : TS} {pos : Pos} (hp : PassesOwn (model X.prog X.w) X.A X.env X.xe) (hc : X.calm = true) (hi : PI X tg iter wi) (hg : PG X tg g) (hb : PSs X body tb)
    (hs : ∀ x, foldedSetIterable iter X.env x = pure x := by intro _; rfl) : PS X (.For tg iter body [] pos) (tFor wi g tb) := by
  intro pins s σ H D I h
  refine wpAny_For (thn (hi pins s σ H _ I h) fun v s1 h1 => thn h1 fun itv s2 h2 => ?_) hs
  obtain ⟨it, fp, tn, J, H2, e, I2, T, st2, f2, W, ⟨m0, w0⟩, turn⟩ := h2
  subst e
  -- what stays true of the iterator's objects through the loop
  have stat : ∀ {H' : Hp}, (∀ b ∈ fp, H' b = none) → ∀ b ∈ fp, FpOk X pins H' b := fun hn b hb => ⟨hn b hb, (f2 b hb).2⟩
  refine codeAny_forLoop_any (fun n s' => ∃ i σ' H', Inv X pins σ' H' s' ∧ tn i s'.heap ∧ (∀ b ∈ fp, H' b = none) ∧ W i n σ' H') ?_ m0 ⟨0, σ, H2, I2, st2, fun b hb => (f2 b hb).1, w0⟩
  rintro n s3 ⟨i, σ3, H3, I3, st3, fr3, w3⟩
  rcases turn i n σ3 H3 w3 with ⟨stop, qn⟩ | ⟨go, N, hN, step⟩
  · refine wpAny_passesOwn hp (thn (T.done X rfl rfl rfl hc i pins s3 σ3 H3 X.xe I3 (stat fr3) st3 stop) fun r s4 ⟨hr, I4⟩ => ?_)
    subst hr
    exact wpAny_execs_nil ⟨σ3, H3, I4, qn⟩
  · refine wpAny_passesOwn hp (thn (T.item X rfl rfl rfl hc i pins s3 σ3 H3 X.xe I3 (stat fr3) st3 go) fun r s4 ⟨u, hr, h4⟩ => ?_)
    subst hr
    refine wpAny_passesOwn hp (thn h4 fun _ s5 ⟨x, H5, I5, r5, y5, st5, fr5⟩ => ?_)
    have I5' := I5.pinned (stat fr5) (T.obj _ _ st5)
    refine wpAny_passesOwn hp (thn (hg _ s5 σ3 H5 x u _ I5' r5 (step x H5 y5)) fun _ s6 ⟨σ6, H6, I6, q6⟩ => ?_)
    refine wpAny_passesOwn hp (thn (hb _ s6 σ6 H6 _ I6 q6) fun f s7 q7 => ?_)
    have again : ∀ {σ7 : St} {H7 : Hp}, Inv X (pins ++ pinsAt fp s5.heap) σ7 H7 s7 → N σ7 H7 → ∃ m, m < n ∧ ∃ i σ' H', Inv X pins σ' H' s7 ∧ tn i s7.heap ∧ (∀ b ∈ fp, H' b = none) ∧ W i m σ' H' := fun {σ7 H7} I7 n7 => by
      obtain ⟨m', hm, w7⟩ := hN σ7 H7 n7
      refine ⟨m', hm, i + 1, σ7, H7, I7.unpinned, T.keep _ _ _ st5 fun b hb o e => (I7.pin (b, o) (List.mem_append_right _ (List.mem_append_right _ (mem_pinsAt hb e)))).1, fun b hb => ?_, w7⟩
      obtain ⟨o, e, d⟩ := T.obj _ _ st5 b hb
      exact (I7.pin (b, o) (List.mem_append_right _ (List.mem_append_right _ (mem_pinsAt hb e)))).2.1
    cases f with
    | next => obtain ⟨σ7, H7, I7, n7⟩ := q7; exact again I7 n7
    | cont => obtain ⟨σ7, H7, I7, n7⟩ := q7; exact again I7 n7
    | brk => obtain ⟨σ7, H7, I7, q7⟩ := q7; exact ⟨σ7, H7, I7.unpinned, q7⟩
    | ret v => obtain ⟨x7, σ7, H7, I7, r7, q7⟩ := q7; exact ⟨x7, σ7, H7, I7.unpinned, r7, q7⟩
end

/-! ### the forms one uses -/
/-- over a list that the body leaves as it is -/
theorem for_list {K : PySem.W.Frag} {a : Addr} {xs : List V} {g : TG} {tb : TS} {D : Ends} {σ : St} {H : Hp} (Pv : Nat → St → Hp → Prop) (h0 : Pv 0 σ H) (hl : ∀ i σ H, i ≤ xs.length → Pv i σ H → SqL K H a xs)
    (hs : ∀ i x σ H, xs[i]? = some x → Pv i σ H → g x σ H fun σ2 H2 => tb { D with nx := Pv (i + 1), ct := Pv (i + 1), bk := D.nx } σ2 H2) (hd : ∀ σ H, Pv xs.length σ H → D.nx σ H) :
    ∃ W : Nat → Nat → St → Hp → Prop, (∃ m, W 0 m σ H) ∧ ∀ i m σ H, W i m σ H →
      ((Itl K a).stop i H ∧ D.nx σ H) ∨ ((Itl K a).go i H ∧ ∃ N : St → Hp → Prop, (∀ σ' H', N σ' H' → ∃ m', m' < m ∧ W (i + 1) m' σ' H') ∧ ∀ x H', (Itl K a).yld i H x H' → g x σ H' fun σ2 H2 => tb { D with nx := N, ct := N, bk := D.nx } σ2 H2) := by
  refine ⟨fun i m σ H => m = xs.length - i ∧ i ≤ xs.length ∧ Pv i σ H, ⟨xs.length, by simp, Nat.zero_le _, h0⟩, ?_⟩
  rintro i m σ H ⟨rfl, hi, p⟩
  have q := hl i σ H hi p
  by_cases hlt : i < xs.length
  · refine .inr ⟨⟨xs, xs[i], q, by simp [hlt]⟩, Pv (i + 1), fun σ' H' p' => ⟨xs.length - (i + 1), by omega, rfl, hlt, p'⟩, fun x H' y => ?_⟩
    obtain ⟨e, y⟩ := y
    subst e
    exact hs i x σ _ (y xs q) p
  · have e : i = xs.length := by omega
    subst e
    exact .inl ⟨⟨xs, q, Nat.le_refl _⟩, hd σ H p⟩
theorem for_tup {K : PySem.W.Frag} {a : Addr} {xs : List V} {g : TG} {tb : TS} {D : Ends} {σ : St} {H : Hp} (Pv : Nat → St → Hp → Prop) (h0 : Pv 0 σ H) (hl : ∀ i σ H, i ≤ xs.length → Pv i σ H → SqT K H a xs)
    (hs : ∀ i x σ H, xs[i]? = some x → Pv i σ H → g x σ H fun σ2 H2 => tb { D with nx := Pv (i + 1), ct := Pv (i + 1), bk := D.nx } σ2 H2) (hd : ∀ σ H, Pv xs.length σ H → D.nx σ H) :
    ∃ W : Nat → Nat → St → Hp → Prop, (∃ m, W 0 m σ H) ∧ ∀ i m σ H, W i m σ H →
      ((Itt K a).stop i H ∧ D.nx σ H) ∨ ((Itt K a).go i H ∧ ∃ N : St → Hp → Prop, (∀ σ' H', N σ' H' → ∃ m', m' < m ∧ W (i + 1) m' σ' H') ∧ ∀ x H', (Itt K a).yld i H x H' → g x σ H' fun σ2 H2 => tb { D with nx := N, ct := N, bk := D.nx } σ2 H2) := by
  refine ⟨fun i m σ H => m = xs.length - i ∧ i ≤ xs.length ∧ Pv i σ H, ⟨xs.length, by simp, Nat.zero_le _, h0⟩, ?_⟩
  rintro i m σ H ⟨rfl, hi, p⟩
  have q := hl i σ H hi p
  by_cases hlt : i < xs.length
  · refine .inr ⟨⟨xs, xs[i], q, by simp [hlt]⟩, Pv (i + 1), fun σ' H' p' => ⟨xs.length - (i + 1), by omega, rfl, hlt, p'⟩, fun x H' y => ?_⟩
    obtain ⟨e, y⟩ := y
    subst e
    exact hs i x σ _ (y xs q) p
  · have e : i = xs.length := by omega
    subst e
    exact .inl ⟨⟨xs, q, Nat.le_refl _⟩, hd σ H p⟩
theorem for_range {lo : Int} {n : Nat} {g : TG} {tb : TS} {D : Ends} {σ : St} {H : Hp} (Pv : Nat → St → Hp → Prop) (h0 : Pv 0 σ H)
    (hs : ∀ i σ H, i < n → Pv i σ H → g (.int (lo + i)) σ H fun σ2 H2 => tb { D with nx := Pv (i + 1), ct := Pv (i + 1), bk := D.nx } σ2 H2) (hd : ∀ σ H, Pv n σ H → D.nx σ H) :
    ∃ W : Nat → Nat → St → Hp → Prop, (∃ m, W 0 m σ H) ∧ ∀ i m σ H, W i m σ H →
      ((Itr lo n).stop i H ∧ D.nx σ H) ∨ ((Itr lo n).go i H ∧ ∃ N : St → Hp → Prop, (∀ σ' H', N σ' H' → ∃ m', m' < m ∧ W (i + 1) m' σ' H') ∧ ∀ x H', (Itr lo n).yld i H x H' → g x σ H' fun σ2 H2 => tb { D with nx := N, ct := N, bk := D.nx } σ2 H2) := by
  refine ⟨fun i m σ H => m = n - i ∧ i ≤ n ∧ Pv i σ H, ⟨n, by simp, Nat.zero_le _, h0⟩, ?_⟩
  rintro i m σ H ⟨rfl, hi, p⟩
  by_cases hlt : i < n
  · refine .inr ⟨hlt, Pv (i + 1), fun σ' H' p' => ⟨n - (i + 1), by omega, rfl, hlt, p'⟩, fun x H' y => ?_⟩
    obtain ⟨e, y⟩ := y
    subst e y
    exact hs i σ _ hlt p
  · have e : i = n := by omega
    subst e
    exact .inl ⟨Nat.le_refl _, hd σ H p⟩
end L2

namespace L2
open PySem PySem.Spec PyProof.Rows

abbrev R2 := V → V → Hp → VK → Prop
/-- a two-place operation on values: f is binaryOp op, inplaceOp op or compareOp op -/
def OpR (X : Cx) (f : Value → Value → Sem Value) (r : R2) : Prop :=
  ∀ (pins : List (Addr × Obj)) (s : Shared) (σ : St) (H : Hp) (x y : V) (v u : Value) (Q : VK), Inv X pins σ H s → RelV x v → RelV y u → r x y H Q →
    wpAny (model X.prog X.w) X.A (f v u) (EP X pins σ Q) X.xe s
/-- a one-place operation -/
def UnR (X : Cx) (f : Value → Sem Value) (r : V → Hp → VK → Prop) : Prop :=
  ∀ (pins : List (Addr × Obj)) (s : Shared) (σ : St) (H : Hp) (x : V) (v : Value) (Q : VK), Inv X pins σ H s → RelV x v → r x H Q →
    wpAny (model X.prog X.w) X.A (f v) (EP X pins σ Q) X.xe s
/-- a call of a value that is known (a builtin, a type) with values -/
def CallR (X : Cx) (f : Value) (r : List V → Hp → VK → Prop) : Prop :=
  ∀ (pins : List (Addr × Obj)) (s : Shared) (σ : St) (H : Hp) (xs : List V) (us : List Value) (Q : VK), Inv X pins σ H s → Vals xs us → r xs H Q →
    wpAny (model X.prog X.w) X.A (call f us) (EP X pins σ Q) X.xe s

def tOp (r : R2) (ta tb : TE) : TE := fun σ H Q => ta σ H fun x H1 => tb σ H1 fun y H2 => r x y H2 Q
def tUn (r : V → Hp → VK → Prop) (ta : TE) : TE := fun σ H Q => ta σ H fun x H1 => r x H1 Q
/-- ints in, under C, and a value out -/
def rI (C : Int → Int → Prop) (g : Int → Int → V) : R2 := fun x y H Q => ∃ i j, x = .int i ∧ y = .int j ∧ C i j ∧ Q (g i j) H
def rI0 (g : Int → Int → V) : R2 := fun x y H Q => ∃ i j, x = .int i ∧ y = .int j ∧ Q (g i j) H
def rU (g : Int → V) : V → Hp → VK → Prop := fun x H Q => ∃ i, x = .int i ∧ Q (g i) H

section
variable {X : Cx} {a b c : Expr} {ta tb tc : TE} {pos : Pos}

theorem binT (ha : PE X a ta) (hb : PE X b tb) {pins : List (Addr × Obj)} {s : Shared} {σ : St} {H : Hp} {R : V → V → Hp → Prop} (I : Inv X pins σ H s)
    (h : ta σ H fun x H1 => tb σ H1 fun y H2 => R x y H2) {Q : Value → Shared → Prop} {f : Value → Value → Sem Value}
    (hf : ∀ v u s2 x y H2, Inv X pins σ H2 s2 → RelV x v → RelV y u → R x y H2 → wpAny (model X.prog X.w) X.A (f v u) Q X.xe s2) :
    wpAny (model X.prog X.w) X.A (eval a X.env) (fun v s₁ => wpAny (model X.prog X.w) X.A (eval b X.env) (fun u s₂ => wpAny (model X.prog X.w) X.A (f v u) Q X.xe s₂) X.xe s₁) X.xe s := by
  refine thn (ha pins s σ H _ I h) fun v s1 ⟨x, H1, I1, r1, q1⟩ => ?_
  refine thn (hb pins s1 σ H1 _ I1 q1) fun u s2 ⟨y, H2, I2, r2, q2⟩ => ?_
  exact hf v u s2 x y H2 I2 r1 r2 q2

theorem pe_op {op : Operator} {r : R2} (ho : OpR X (binaryOp op) r) (ha : PE X a ta) (hb : PE X b tb) : PE X (.BinOp a op b pos) (tOp r ta tb) := by
  intro pins s σ H Q I h
  exact wpAny_BinOp (binT ha hb I h fun v u s2 x y H2 I2 rx ry q => ho pins s2 σ H2 x y v u Q I2 rx ry q)
theorem pe_un {op : UnaryOp} {r : V → Hp → VK → Prop} (ho : UnR X (unaryOp op) r) (ha : PE X a ta) : PE X (.UnaryOp op a pos) (tUn r ta) := by
  intro pins s σ H Q I h
  exact UnaryOp_ (thn (ha pins s σ H _ I h) fun v s1 ⟨x, H1, I1, r1, q1⟩ => ho pins s1 σ H1 x v Q I1 r1 q1)

/-! ### ints -/
theorem opI {f : Value → Value → Sem Value} {C : Int → Int → Prop} {g : Int → Int → Int}
    (rule : ∀ (i j : Int) (t u : Tok) (s : Shared) (Q : Value → Shared → Prop) (E : Value → Shared → Prop), C i j → Q (.int (g i j) s.toks) { s with toks := s.toks + 1 } → wpAny (model X.prog X.w) X.A (f (.int i t) (.int j u)) Q E s) :
    OpR X f (rI C fun i j => .int (g i j)) := by
  intro pins s σ H x y v u Q I rx ry h
  obtain ⟨i, j, rfl, rfl, hc, q⟩ := h
  obtain ⟨t, rfl⟩ := rx
  obtain ⟨t', rfl⟩ := ry
  exact rule i j t t' s _ _ hc ⟨.int (g i j), H, I.tok _, ⟨_, rfl⟩, q⟩
theorem opI0 {f : Value → Value → Sem Value} {g : Int → Int → Int}
    (rule : ∀ (i j : Int) (t u : Tok) (s : Shared) (Q : Value → Shared → Prop) (E : Value → Shared → Prop), Q (.int (g i j) s.toks) { s with toks := s.toks + 1 } → wpAny (model X.prog X.w) X.A (f (.int i t) (.int j u)) Q E s) :
    OpR X f (rI0 fun i j => .int (g i j)) := by
  intro pins s σ H x y v u Q I rx ry h
  obtain ⟨i, j, rfl, rfl, q⟩ := h
  obtain ⟨t, rfl⟩ := rx
  obtain ⟨t', rfl⟩ := ry
  exact rule i j t t' s _ _ ⟨.int (g i j), H, I.tok _, ⟨_, rfl⟩, q⟩
theorem opB0 {f : Value → Value → Sem Value} {g : Int → Int → Bool}
    (rule : ∀ (i j : Int) (t u : Tok) (s : Shared) (Q : Value → Shared → Prop) (E : Value → Shared → Prop), Q (.bool (g i j)) s → wpAny (model X.prog X.w) X.A (f (.int i t) (.int j u)) Q E s) :
    OpR X f (rI0 fun i j => .bl (g i j)) := by
  intro pins s σ H x y v u Q I rx ry h
  obtain ⟨i, j, rfl, rfl, q⟩ := h
  obtain ⟨t, rfl⟩ := rx
  obtain ⟨t', rfl⟩ := ry
  exact rule i j t t' s _ _ ⟨.bl (g i j), H, I, rfl, q⟩

def CDiv (i j : Int) : Prop := 0 < j ∧ j < 1073741824
def CPow (i j : Int) : Prop := 0 ≤ j ∧ j ≤ 1000000 ∧ i.natAbs < 2 ^ 64
def CMul (i j : Int) : Prop := (-(2 ^ 64) < i ∧ i < 2 ^ 64) ∨ (-(2 ^ 64) < j ∧ j < 2 ^ 64)
theorem CMul.ok {i j : Int} (h : CMul i j) : IntMulOk i j := by
  rcases h with ⟨h1, h2⟩ | ⟨h1, h2⟩
  · exact .of_left (intBits_le_64 h1 h2)
  · exact .of_right (intBits_le_64 h1 h2)

theorem op_add : OpR X (binaryOp .Add) (rI0 fun i j => .int (i + j)) := opI0 fun _ _ _ _ _ _ _ q => add_int q
theorem op_sub : OpR X (binaryOp .Sub) (rI0 fun i j => .int (i - j)) := opI0 fun _ _ _ _ _ _ _ q => sub_int q
theorem op_mul : OpR X (binaryOp .Mult) (rI CMul fun i j => .int (i * j)) := opI fun _ _ _ _ _ _ _ hc q => mul_int q hc.ok
/-- // by a positive divisor -/
theorem op_fdiv : OpR X (binaryOp .FloorDiv) (rI CDiv fun i j => .int (i / j)) := opI fun i j _ _ _ _ _ hc q => by
  have h1 : (0 : Int) < j := hc.1
  have h2 : j < 1073741824 := hc.2
  exact floordiv_int (by omega) (by rw [Int.fdiv_eq_ediv_of_nonneg i (by omega)]; exact q) (.inl (PyProof.noPylong_small (by omega)))
/-- % by a positive divisor of any size -/
theorem op_mod : OpR X (binaryOp .Mod) (rI (fun _ j => 0 < j) fun i j => .int (i % j)) := opI fun i j _ _ _ _ _ hc q => by
  have h1 : (0 : Int) < j := hc
  exact mod_int' (by omega) (by rw [Int.fmod_eq_emod_of_nonneg i (by omega)]; exact q)
theorem op_pow : OpR X (binaryOp .Pow) (rI CPow fun i j => .int (i ^ j.toNat)) := opI fun _ _ _ _ _ _ _ hc q => pow_int_small hc.1 hc.2.1 hc.2.2 q

theorem iop_add : OpR X (inplaceOp .Add) (rI0 fun i j => .int (i + j)) := opI0 fun _ _ _ _ _ _ _ q => iadd_int q

theorem unI {f : Value → Sem Value} {g : Int → Int}
    (rule : ∀ (i : Int) (t : Tok) (s : Shared) (Q : Value → Shared → Prop) (E : Value → Shared → Prop), Q (.int (g i) s.toks) { s with toks := s.toks + 1 } → wpAny (model X.prog X.w) X.A (f (.int i t)) Q E s) :
    UnR X f (rU fun i => .int (g i)) := by
  intro pins s σ H x v Q I rx h
  obtain ⟨i, rfl, q⟩ := h
  obtain ⟨t, rfl⟩ := rx
  exact rule i t s _ _ ⟨.int (g i), H, I.tok _, ⟨_, rfl⟩, q⟩
theorem un_neg : UnR X (unaryOp .USub) (rU fun i => .int (-i)) := unI fun _ _ _ _ _ q => neg_int q

/-! ### bools among ints: n += (a < b) -/
end

/-! ### comparisons -/
/-- the scalars that == tells apart as data does -/
def scal : V → V → Bool
  | .non, .non => true | .non, .int _ => true | .int _, .non => true | .non, .bl _ => true | .bl _, .non => true | .non, .str _ => true | .str _, .non => true
  | .int _, .int _ => true | .bl _, .bl _ => true | .str _, .str _ => true | .byt _, .byt _ => true
  | .int _, .str _ => true | .str _, .int _ => true | .bl _, .str _ => true | .str _, .bl _ => true
  | _, _ => false
def rEq : R2 := fun x y H Q => scal x y = true ∧ Q (.bl (decide (x = y))) H
def rNe : R2 := fun x y H Q => scal x y = true ∧ Q (.bl (!decide (x = y))) H

theorem dec_int {i j : Int} : decide (V.int i = V.int j) = (i == j) := by
  rw [Bool.eq_iff_iff]
  simp
theorem dec_bl {i j : Bool} : decide (V.bl i = V.bl j) = (i == j) := by
  rw [Bool.eq_iff_iff]
  simp
theorem dec_str {i j : Str} : decide (V.str i = V.str j) = (i == j) := by
  rw [Bool.eq_iff_iff]
  simp
theorem dec_byt {i j : Array UInt8} : decide (V.byt i = V.byt j) = (i.toList == j.toList) := by
  rw [Bool.eq_iff_iff]
  cases i
  cases j
  simp

section
variable {X : Cx} {a b c : Expr} {ta tb tc : TE} {pos : Pos}
theorem fin_bl {pins : List (Addr × Obj)} {σ : St} {H : Hp} {s : Shared} {Q : VK} {k k' : Bool} (I : Inv X pins σ H s) (q : Q (.bl k) H) (e : k = k') : EP X pins σ Q (.bool k') s := by
  subst e
  exact ⟨.bl k, H, I, rfl, q⟩
theorem op_eq : OpR X (compareOp .Eq) rEq := by
  intro pins s σ H x y v u Q I rx ry h
  obtain ⟨hs, q⟩ := h
  cases x with
  | non =>
    cases rx
    cases y with
    | non => cases ry; exact PySem.EqNone.eq_none_none (fin_bl I q (by simp))
    | bl j => cases ry; exact PySem.EqNone.eq_none_bool (fin_bl I q (by simp))
    | int j => obtain ⟨t', rfl⟩ := ry; exact PySem.EqNone.eq_none_int (fin_bl I q (by simp))
    | str j => obtain ⟨t', rfl⟩ := ry; exact PySem.EqNone.eq_none_str (fin_bl I q (by simp))
    | _ => exact absurd (show false = true from hs) Bool.false_ne_true
  | bl i =>
    cases rx
    cases y with
    | non => cases ry; exact PySem.EqNone.eq_bool_none (fin_bl I q (by simp))
    | bl j => cases ry; exact eq_bool (fin_bl I q dec_bl)
    | str j => obtain ⟨t', rfl⟩ := ry; exact PySem.EqMixed.eq_bool_str (fin_bl I q (by simp))
    | _ => exact absurd (show false = true from hs) Bool.false_ne_true
  | int i =>
    obtain ⟨t, rfl⟩ := rx
    cases y with
    | non => cases ry; exact PySem.EqNone.eq_int_none (fin_bl I q (by simp))
    | int j => obtain ⟨t', rfl⟩ := ry; exact eq_int (fin_bl I q dec_int)
    | str j => obtain ⟨t', rfl⟩ := ry; exact PySem.EqMixed.eq_int_str (fin_bl I q (by simp))
    | _ => exact absurd (show false = true from hs) Bool.false_ne_true
  | str i =>
    obtain ⟨t, rfl⟩ := rx
    cases y with
    | non => cases ry; exact PySem.EqNone.eq_str_none (fin_bl I q (by simp))
    | bl j => cases ry; exact PySem.EqMixed.eq_str_bool (fin_bl I q (by simp))
    | int j => obtain ⟨t', rfl⟩ := ry; exact PySem.EqMixed.eq_str_int (fin_bl I q (by simp))
    | str j => obtain ⟨t', rfl⟩ := ry; exact eq_str (fin_bl I q dec_str)
    | _ => exact absurd (show false = true from hs) Bool.false_ne_true
  | byt i =>
    obtain ⟨t, rfl⟩ := rx
    cases y with
    | byt j => obtain ⟨t', rfl⟩ := ry; exact PySem.W.eq_bytes (fin_bl I q dec_byt)
    | _ => exact absurd (show false = true from hs) Bool.false_ne_true
  | _ => cases y <;> exact absurd (show false = true from hs) Bool.false_ne_true
theorem op_ne : OpR X (compareOp .NotEq) rNe := by
  intro pins s σ H x y v u Q I rx ry h
  obtain ⟨hs, q⟩ := h
  cases x with
  | non =>
    cases rx
    cases y with
    | non => cases ry; exact PySem.EqNone.ne_none_none (fin_bl I q (by simp))
    | bl j => cases ry; exact PySem.EqNone.ne_none_bool (fin_bl I q (by simp))
    | int j => obtain ⟨t', rfl⟩ := ry; exact PySem.EqNone.ne_none_int (fin_bl I q (by simp))
    | str j => obtain ⟨t', rfl⟩ := ry; exact PySem.EqNone.ne_none_str (fin_bl I q (by simp))
    | _ => exact absurd (show false = true from hs) Bool.false_ne_true
  | bl i =>
    cases rx
    cases y with
    | non => cases ry; exact PySem.EqNone.ne_bool_none (fin_bl I q (by simp))
    | bl j => cases ry; exact ne_bool (fin_bl I q (congrArg not dec_bl))
    | str j => obtain ⟨t', rfl⟩ := ry; exact PySem.EqMixed.ne_bool_str (fin_bl I q (by simp))
    | _ => exact absurd (show false = true from hs) Bool.false_ne_true
  | int i =>
    obtain ⟨t, rfl⟩ := rx
    cases y with
    | non => cases ry; exact PySem.EqNone.ne_int_none (fin_bl I q (by simp))
    | int j => obtain ⟨t', rfl⟩ := ry; exact ne_int (fin_bl I q (congrArg not dec_int))
    | str j => obtain ⟨t', rfl⟩ := ry; exact PySem.EqMixed.ne_int_str (fin_bl I q (by simp))
    | _ => exact absurd (show false = true from hs) Bool.false_ne_true
  | str i =>
    obtain ⟨t, rfl⟩ := rx
    cases y with
    | non => cases ry; exact PySem.EqNone.ne_str_none (fin_bl I q (by simp))
    | bl j => cases ry; exact PySem.EqMixed.ne_str_bool (fin_bl I q (by simp))
    | int j => obtain ⟨t', rfl⟩ := ry; exact PySem.EqMixed.ne_str_int (fin_bl I q (by simp))
    | str j => obtain ⟨t', rfl⟩ := ry; exact ne_str (fin_bl I q (congrArg not dec_str))
    | _ => exact absurd (show false = true from hs) Bool.false_ne_true
  | byt i =>
    obtain ⟨t, rfl⟩ := rx
    cases y with
    | byt j => obtain ⟨t', rfl⟩ := ry; exact PySem.W.ne_bytes (fin_bl I q (congrArg not dec_byt))
    | _ => exact absurd (show false = true from hs) Bool.false_ne_true
  | _ => cases y <;> exact absurd (show false = true from hs) Bool.false_ne_true

theorem op_lt : OpR X (compareOp .Lt) (rI0 fun i j => .bl (decide (i < j))) := opB0 fun _ _ _ _ _ _ _ q => lt_int q
theorem op_le : OpR X (compareOp .LtE) (rI0 fun i j => .bl (decide (i ≤ j))) := opB0 fun _ _ _ _ _ _ _ q => le_int q
theorem op_gt : OpR X (compareOp .Gt) (rI0 fun i j => .bl (decide (j < i))) := opB0 fun _ _ _ _ _ _ _ q => gt_int q
theorem op_ge : OpR X (compareOp .GtE) (rI0 fun i j => .bl (decide (j ≤ i))) := opB0 fun _ _ _ _ _ _ _ q => ge_int q
/-- the one string within the other -/
theorem op_in_str : OpR X (compareOp .In) (fun x y H Q => ∃ i j, x = .str i ∧ y = .str j ∧ Q (.bl (!(Builtin.Str.occurrences j i 0 j.length 1).isEmpty)) H) := by
  intro pins s σ H x y v u Q I rx ry h
  obtain ⟨i, j, rfl, rfl, q⟩ := h
  obtain ⟨t, rfl⟩ := rx
  obtain ⟨t', rfl⟩ := ry
  exact in_str (fin_bl I q rfl)




theorem nomark (b : Expr) {op : CmpOp} (h : op ≠ .In := by decide) (h2 : op ≠ .NotIn := by decide) : behindInMarks op b = false := by
  have e1 : (op == CmpOp.In) = false := by cases op <;> first | rfl | exact absurd rfl h
  have e2 : (op == CmpOp.NotIn) = false := by cases op <;> first | rfl | exact absurd rfl h2
  cases b <;> simp [behindInMarks, e1, e2]
/-- a comparison as a value; hm: nomark b, or (for in, not in) by with_unfolding_all rfl -/
theorem pe_cmpR {op : CmpOp} {r : R2} (ho : OpR X (compareOp op) r) (ha : PE X a ta) (hb : PE X b tb) (hm : behindInMarks op b = false) : PE X (.Compare a [op] [b] pos) (tOp r ta tb) := by
  intro pins s σ H Q I h
  exact wpAny_Compare1 (binT ha hb I h fun v u s2 x y H2 I2 rx ry q => ho pins s2 σ H2 x y v u Q I2 rx ry q) hm
/-- a reading of a value as a test -/
def tTest (t : TE) : TT := fun σ H Q => t σ H fun x H' => ∃ k, x = .bl k ∧ Q k H'
theorem pt_cmpR {op : CmpOp} {r : R2} (ho : OpR X (compareOp op) r) (ha : PE X a ta) (hb : PE X b tb) (hm : behindInMarks op b = false) : PT X (.Compare a [op] [b] pos) (tTest (tOp r ta tb)) := by
  intro pins s σ H Q I h
  refine wpAny_isTrue_Compare1 (thn (ha pins s σ H _ I h) fun v s1 ⟨x, H1, I1, r1, q1⟩ => thn (hb pins s1 σ H1 _ I1 q1) fun u s2 ⟨y, H2, I2, r2, q2⟩ =>
    thn (ho pins s2 σ H2 x y v u _ I2 r1 r2 q2) fun c s3 ⟨z, H3, I3, r3, k, e, q3⟩ => ?_) hm
  subst e
  cases r3
  exact wpAny_truthy_bool ⟨H3, I3, q3⟩
/-- a op1 b op2 c -/
def tChain (r r' : R2) (ta tb tc : TE) : TE := fun σ H Q => ta σ H fun x H1 => tb σ H1 fun y H2 => r x y H2 fun z H3 => ∃ k, z = .bl k ∧
  (if k = true then tc σ H3 fun w' H4 => r' y w' H4 Q else Q (.bl false) H3)
theorem pe_chain {op op' : CmpOp} {r r' : R2} (ho : OpR X (compareOp op) r) (ho' : OpR X (compareOp op') r') (ha : PE X a ta) (hb : PE X b tb) (hc : PE X c tc)
    (hm : lastMarks [op, op'] [b, c] = false := by with_unfolding_all rfl) : PE X (.Compare a [op, op'] [b, c] pos) (tChain r r' ta tb tc) := by
  intro pins s σ H Q I h
  refine Compare_chain (thn (ha pins s σ H _ I h) fun v s1 ⟨x, H1, I1, r1, q1⟩ => chain_link (thn (hb pins s1 σ H1 _ I1 q1) fun u s2 ⟨y, H2, I2, r2, q2⟩ =>
    thn (ho pins s2 σ H2 x y v u _ I2 r1 r2 q2) fun d s3 ⟨z, H3, I3, r3, k, e, q3⟩ => ?_)) hm
  subst e
  cases r3
  refine wpAny_truthy_bool ?_
  cases k with
  | false => exact ite_ff ⟨.bl false, H3, I3, rfl, q3⟩
  | true => exact ite_tt (chain_last (thn (hc pins s3 σ H3 _ I3 q3) fun w' s4 ⟨z', H4, I4, r4, q4⟩ => ho' pins s4 σ H4 y z' u w' Q I4 r2 r4 q4))
theorem pt_chain {op op' : CmpOp} {r r' : R2} (ho : OpR X (compareOp op) r) (ho' : OpR X (compareOp op') r') (ha : PE X a ta) (hb : PE X b tb) (hc : PE X c tc)
    (hm : lastMarks [op, op'] [b, c] = false := by with_unfolding_all rfl) : PT X (.Compare a [op, op'] [b, c] pos) (tTest (tChain r r' ta tb tc)) := by
  intro pins s σ H Q I h
  refine isTrue_chain (thn (ha pins s σ H _ I h) fun v s1 ⟨x, H1, I1, r1, q1⟩ => test_link (thn (hb pins s1 σ H1 _ I1 q1) fun u s2 ⟨y, H2, I2, r2, q2⟩ =>
    thn (ho pins s2 σ H2 x y v u _ I2 r1 r2 q2) fun d s3 ⟨z, H3, I3, r3, k, e, q3⟩ => ?_)) hm
  subst e
  cases r3
  refine wpAny_truthy_bool ?_
  cases k with
  | false =>
    obtain ⟨k', e', q'⟩ := q3
    cases e'
    exact ite_ff ⟨H3, I3, q'⟩
  | true =>
    refine ite_tt (test_last (thn (hc pins s3 σ H3 _ I3 q3) fun w' s4 ⟨z', H4, I4, r4, q4⟩ => thn (ho' pins s4 σ H4 y z' u w' _ I4 r2 r4 q4) fun d' s5 ⟨z2, H5, I5, r5, k2, e2, q5⟩ => ?_))
    subst e2
    cases r5
    exact wpAny_truthy_bool ⟨H5, I5, q5⟩

/-! ### truth -/
theorem line63 : (sizeLine : Nat) < 2 ^ 63 := by rw [sizeLine_eq]; decide

/-! ### strs and bytes -/
theorem op_add_str : OpR X (binaryOp .Add) (fun x y H Q => ∃ i j, x = .str i ∧ y = .str j ∧ i.length + j.length ≤ sizeLine ∧ Q (.str (i ++ j)) H) := by
  intro pins s σ H x y v u Q I rx ry h
  obtain ⟨i, j, rfl, rfl, hz, q⟩ := h
  obtain ⟨t, rfl⟩ := rx
  obtain ⟨t', rfl⟩ := ry
  exact add_str (fun t' tk => ⟨.str (i ++ j), H, I.tok _, ⟨_, rfl⟩, q⟩) hz


/-! ### scalar builtins, by CallR -/
theorem vals1 {x : V} {us : List Value} (r : Vals [x] us) : ∃ u, us = [u] ∧ RelV x u := by
  cases r with
  | cons r1 r2 => cases r2; exact ⟨_, rfl, r1⟩
theorem vals2 {x y : V} {us : List Value} (r : Vals [x, y] us) : ∃ u w', us = [u, w'] ∧ RelV x u ∧ RelV y w' := by
  cases r with
  | cons r1 r2 =>
    cases r2 with
    | cons r3 r4 => cases r4; exact ⟨_, _, rfl, r1, r3⟩
theorem call_max2 (hc : X.calm = true) : CallR X (.builtin "max") (fun xs H Q => ∃ i j, xs = [.int i, .int j] ∧ Q (.int (if j > i then j else i)) H) := by
  intro pins s σ H xs us Q I r h
  obtain ⟨i, j, rfl, q⟩ := h
  obtain ⟨u, w', rfl, ⟨t, rfl⟩, ⟨t', rfl⟩⟩ := vals2 r
  refine max_two_ints (I.ok.hd hc) fun h' tk k => ⟨_, H, I.kept k, ?_, q⟩
  by_cases hj : j > i
  · rw [if_pos hj, if_pos hj]; exact ⟨_, rfl⟩
  · rw [if_neg hj, if_neg hj]; exact ⟨_, rfl⟩
theorem call_int1 : CallR X (.type "int") (fun xs H Q => (∃ i, xs = [.int i] ∧ Q (.int i) H) ∨ ∃ k, xs = [.bl k] ∧ Q (.int (if k then 1 else 0)) H) := by
  intro pins s σ H xs us Q I r h
  rcases h with ⟨i, rfl, q⟩ | ⟨k, rfl, q⟩
  · obtain ⟨u, rfl, t, rfl⟩ := vals1 r
    exact call_int_int ⟨.int i, H, I, ⟨_, rfl⟩, q⟩
  · obtain ⟨u, rfl, r1⟩ := vals1 r
    cases r1
    exact call_int_bool ⟨.int (if k then 1 else 0), H, I.tok _, ⟨_, rfl⟩, q⟩
/-- len of a str, a bytes, a list, a tuple -/
def LenV (K : PySem.W.Frag) (x : V) (H : Hp) (n : Nat) : Prop :=
  match x with
  | .str y => y.length ≤ sizeLine ∧ n = y.length
  | .byt y => y.size ≤ sizeLine ∧ n = y.size
  | .ref p => (∃ xs, SqL K H p xs ∧ n = xs.length) ∨ ∃ xs, SqT K H p xs ∧ n = xs.length
  | _ => False
theorem call_len : CallR X (.builtin "len") (fun xs H Q => ∃ x n, xs = [x] ∧ LenV X.K x H n ∧ Q (.int n) H) := by
  intro pins s σ H xs us Q I r h
  obtain ⟨x, n, rfl, e, q⟩ := h
  obtain ⟨u, rfl, rx⟩ := vals1 r
  have hl := line63
  have hs : sizeLine = 16777216 := sizeLine_eq
  cases x with
  | str y =>
    obtain ⟨t, rfl⟩ := rx
    obtain ⟨hy, e'⟩ : y.length ≤ sizeLine ∧ n = y.length := e
    subst e'
    exact len_str (by omega) ⟨.int _, H, I.tok _, ⟨_, rfl⟩, q⟩
  | byt y =>
    obtain ⟨t, rfl⟩ := rx
    obtain ⟨hy, e'⟩ : y.size ≤ sizeLine ∧ n = y.size := e
    subst e'
    exact PySem.W.len_bytes (by omega) ⟨.int _, H, I.tok _, ⟨_, rfl⟩, q⟩
  | ref p =>
    cases rx
    have e' : (∃ xs, SqL X.K H p xs ∧ n = xs.length) ∨ ∃ xs, SqT X.K H p xs ∧ n = xs.length := e
    rcases e' with ⟨xs, hx, e'⟩ | ⟨xs, hx, e'⟩
    · subst e'
      obtain ⟨its, r', pl, hz⟩ := I.list hx
      have hlen := r'.length
      exact Calls.call_len_list pl.isList (by simp only [List.size_toArray]; omega) ⟨.int xs.length, H, I.tok _, ⟨_, by simp only [List.size_toArray]; rw [hlen]⟩, q⟩
    · subst e'
      obtain ⟨its, r', pl, hz⟩ := I.tuple hx
      have hlen := r'.length
      exact len_tuple pl (by simp only [List.size_toArray]; omega) ⟨.int xs.length, H, I.tok _, ⟨_, by simp only [List.size_toArray]; rw [hlen]⟩, q⟩
  | _ => exact (show False from e).elim
end
end L2

namespace L2
open PySem PySem.Spec PyProof.Rows

/-! ### an instance, its attributes a map -/



section
variable {prog : Program} {w : World} {A : Around} {E : Value → Shared → Prop} {s : Shared} {K : PySem.W.Frag} {x dx C f : Addr} {mA : Str → Option Value} {name : Str} {v : Value}





end

/-! ### the attributes as a list of pairs -/

theorem RelO.some_of {v : V} {o : Option Value} (r : RelO (some v) o) : ∃ u, o = some u ∧ RelV v u := by
  cases o with
  | none => exact (show False from r).elim
  | some u => exact ⟨u, rfl, r⟩

section
variable {P : Program} {w : World} {H H' : Hp} {h h' : Heap} {a C dx : Addr} {fs fs' : List (Str × V)}
end

/-! ### what of the text a class must have -/

section
variable {X : Cx} {pins : List (Addr × Obj)} {σ : St} {H : Hp} {s : Shared} {a C dx : Addr} {fs : List (Str × V)} {f : Str} {v : V} {A : Around} {E : Value → Shared → Prop}






end

/-! ### readings and rules -/

section
variable {X : Cx} {o e value : Expr} {f : Str} {pos pos' tpos : Pos} {ta tv : TE}

end

/-! ### isinstance -/
section
variable {X : Cx} {pins : List (Addr × Obj)} {σ : St} {H : Hp} {s : Shared} {A : Around} {E : Value → Shared → Prop} {Q : Value → Shared → Prop} {c : Value} {b : Bool}
end
end L2

namespace L2
open PySem PySem.Spec PyProof.Rows

/-! ### room -/
structure Room (k : Nat) (A : Around) : Prop where
  hd : A.handled = none
  dp : A.depth + 3 * k + 5 < recursionLimit
  un : A.units + 16 * k + 200 < cLine
theorem Room.mono {j k : Nat} {A : Around} (r : Room k A) (h : j ≤ k) : Room j A := ⟨r.hd, by have := r.dp; omega, by have := r.un; omega⟩
theorem Room.deeper {k : Nat} {A : Around} (r : Room (k + 1) A) (env : Env) : Room k (A.deeper env) :=
  ⟨r.hd, by have := r.dp; show A.depth + 1 + 3 * k + 5 < _; omega, by have := r.un; show A.units + 3 + 16 * k + 200 < _; omega⟩
theorem Room.depth {k : Nat} {A : Around} (r : Room k A) : A.depth < recursionLimit := by have := r.dp; omega
theorem Room.units {k : Nat} {A : Around} (r : Room k A) : A.units + 64 < cLine := by have := r.un; omega

/-! ### argument lists and displays -/
def tNil : TA := fun _ H Q => Q [] H
def tCons (ta : TE) (tr : TA) : TA := fun σ H Q => ta σ H fun x H1 => tr σ H1 fun xs H2 => Q (x :: xs) H2
section
variable {X : Cx} {e : Expr} {es : List Expr} {te : TE} {t : TA} {pos : Pos}
theorem pa_nil : PA X [] tNil := fun _ _ _ _ H Q I h => Calls.spliced_nil ⟨[], H, I, .nil, h⟩
theorem pa_cons (ha : PE X e te) (hr : PA X es t) (hs : starEach (e :: es) X.env = (false, eval e X.env) :: starEach es X.env := by rfl) : PA X (e :: es) (tCons te t) := by
  intro pos pins s σ H Q I h
  rw [hs]
  show wpAny _ _ (spliced ((false, eval e X.env) :: backTo pos (starEach es X.env))) _ _ s
  refine Calls.spliced_cons (thn (ha pins s σ H _ I h) fun u s1 ⟨x, H1, I1, r1, q1⟩ => ?_)
  exact thn (hr pos pins s1 σ H1 _ I1 q1) fun us s2 ⟨xs, H2, I2, r2, q2⟩ => ⟨x :: xs, H2, I2, .cons r1 r2, q2⟩

/-- a tuple, a list of written items -/
def tTup (t : TA) : TE := fun σ H Q => t σ H fun xs H1 => xs.length ≤ sizeLine ∧ ∀ p, H1 p = none → Q (.ref p) (upd H1 p (.tup xs))
def tLst (t : TA) : TE := fun σ H Q => t σ H fun xs H1 => xs.length ≤ sizeLine ∧ ∀ p, H1 p = none → Q (.ref p) (upd H1 p (.lst xs))
theorem pe_tup {x1} (h : PA X es t) : PE X (.Tuple es x1 pos) (tTup t) := by
  intro pins s σ H Q I hq
  refine wpAny_Tuple_spliced (thn (h pos pins s σ H _ I hq) fun us s1 ⟨xs, H1, I1, r, z, q⟩ => ⟨by rw [← r.length]; exact z, ?_⟩)
  have hf : H1 s1.heap.objs.size = none := I1.hok.fresh (Nat.le_refl _)
  refine ⟨.ref s1.heap.objs.size, upd H1 s1.heap.objs.size (.tup xs), I1.laid (t' := s1.toks) (fun b u e => Heap.get?_push_of_some _ e) (Nat.le_refl _) ?_, rfl, q _ hf⟩
  exact ⟨z, us, r, ⟨_, Heap.get?_push_size _ rfl, rfl, _, rfl⟩⟩
theorem pe_lst (h : PA X es t) : PE X (.List es pos) (tLst t) := by
  intro pins s σ H Q I hq
  refine wpAny_List_spliced (thn (h pos pins s σ H _ I hq) fun us s1 ⟨xs, H1, I1, r, z, q⟩ => ⟨by rw [← r.length]; exact z, ?_⟩)
  have hf : H1 s1.heap.objs.size = none := I1.hok.fresh (Nat.le_refl _)
  refine ⟨.ref s1.heap.objs.size, upd H1 s1.heap.objs.size (.lst xs), I1.laid (t' := s1.toks) (fun b u e => Heap.get?_push_of_some _ e) (Nat.le_refl _) ?_, rfl, q _ hf⟩
  exact ⟨z, us, 0, r, Heap.get?_push_size _ rfl⟩
end

/-! ### what a def promises -/
/-- a def's promise: the bound arguments in the parameters' order, the heap, the wanted end, the wanted exception -/
abbrev Sp := List V → Hp → VK → XK → Prop
/-- how an exception lies behind a call (file 08 gives it): the callers' frames, abstract heap and state ahead of the call, the wish, the exception, the state -/
abbrev CXT := List Env → Hp → Shared → XK → Value → Shared → Prop

/-- the state at a call -/
structure Env0 (P : Program) (w : World) (K : PySem.W.Frag) (mg : Str → Option Value) (base : Heap) (A : Around) (outer : List Env) (s : Shared) (H : Hp) : Prop where
  frames : A.frames = some outer
  mod : Mod K mg base
  bs : ∀ b o, base.get? b = some o → s.heap.get? b = some o ∧ H b = none
  bsz : base.objs.size ≤ s.heap.objs.size
  funs : s.heap.FunFrames base outer
  frf : ∀ b ∈ frs outer, H b = none
  hok : HOk P w H s.heap
  bare : AllBare s.gens
/-- a call's end -/
def CE (outer : List Env) (P : Program) (w : World) (H : Hp) (s : Shared) (Q : VK) (u : Value) (s' : Shared) : Prop :=
  ∃ v H', s'.os = s.os ∧ AllBare s'.gens ∧ Un (frs outer) [] H H' s.heap s'.heap ∧ HOk P w H' s'.heap ∧ RelV v u ∧ Q v H'
def CR (CX : CXT) (outer : List Env) (P : Program) (w : World) (H : Hp) (s : Shared) (Q : VK) (E : XK) (r : Result) (s' : Shared) : Prop :=
  match r with
  | .ok (.ret u) => CE outer P w H s Q u s'
  | .ok _ => False
  | .error e => CX outer H s E e s'
structure FnOk (P : Program) (w : World) (K : PySem.W.Frag) (mg : Str → Option Value) (base : Heap) (CX : CXT) (k : Nat) (f : Addr) (fd : FuncData) (ps : List Str) (sp : Sp) : Prop where
  len : ∀ vs H Q E, sp vs H Q E → vs.length = ps.length
  run : ∀ (A : Around) (outer : List Env) (s : Shared) (H : Hp) (args : Args) (us : List Value) (vs : List V) (Q : VK) (E : XK), Room k A → Env0 P w K mg base A outer s H → BindsTo s fd args (ps.zip us) → Vals vs us → sp vs H Q E →
    codeAny (model P w) A (.call (.ref f) args) (CR CX outer P w H s Q E) s


section
variable {X : Cx} {pins : List (Addr × Obj)} {σ : St} {H : Hp} {s s' : Shared}
/-- from a body: what a callee wants -/
theorem Inv.env0 (I : Inv X pins σ H s) : Env0 X.prog X.w X.K X.mg X.base X.A X.stack s H :=
  ⟨I.ok.frames, I.ok.mod, I.bs, Nat.le_trans I.ok.bsz I.sz, I.stack, I.stkFree, I.hok, I.bare⟩
/-- behind a call -/
theorem Inv.after {Q : VK} {u : Value} (I : Inv X pins σ H s) (h : CE X.stack X.prog X.w H s Q u s') : EP X pins σ Q u s' := by
  obtain ⟨v, H', os, bare, un, hok, r, q⟩ := h
  obtain ⟨hh, g, d, t, os'⟩ := s'
  obtain rfl : os' = s.os := os
  exact ⟨v, H', I.call (h' := hh) (g' := g) (d' := d) (t' := t) (ch := []) un hok bare (fun b z => absurd z (by simp)), r, q⟩
end

/-! ### calls -/
/-- f(..): the written arguments, then the defaults dvs; E: what is wanted of an exception -/
def tCall (sp : Sp) (dvs : List V) (E : XK) (t : TA) : TE := fun σ H Q => t σ H fun vs H1 => sp (vs ++ dvs) H1 Q E

/-- how the parameters are bound: us the positional arguments, kw the keywords' values by name, ds the defaults that fill up -/
def Binds (K : PySem.W.Frag) (fd : FuncData) (ps : List Str) (ds : List Value) : Prop :=
  ∀ (s : Shared) (us : List Value), K.In s.heap → (us ++ ds).length = ps.length → BindsTo s fd ⟨us, []⟩ (ps.zip (us ++ ds))
/-- every parameter is given -/
theorem Binds.all {K : PySem.W.Frag} {fd : FuncData} {ps : List Str} (h : ∀ us : List Value, us.length = ps.length → bindArgs fd ⟨us, []⟩ = pure (ps.zip us)) : Binds K fd ps [] := fun s us _ hl => by
  rw [List.append_nil] at hl ⊢
  exact .of_eq (h us hl)

/-- an exception of a callee reaches what this body wants of exceptions -/
def Passes (CX : CXT) (X : Cx) (E : XK) : Prop := ∀ (pins : List (Addr × Obj)) (σ : St) (H : Hp) (s : Shared) (e : Value) (s' : Shared), Inv X pins σ H s → CX X.stack H s E e s' → X.xe e s'

section
variable {X : Cx} {CX : CXT} {k : Nat} {f C : Addr} {fd : FuncData} {ps : List Str} {sp : Sp} {dvs : List V} {ds : List Value} {E : XK} {x m : Str} {p pos apos : Pos} {e o : Expr} {es : List Expr} {ta : TE} {t : TA}

/-- the callee runs -/
theorem run_fn {pins : List (Addr × Obj)} {σ : St} {H : Hp} {s : Shared} {Q : VK} {us : List Value} {vs : List V} (F : FnOk X.prog X.w X.K X.mg X.base CX k f fd ps sp) (hr : Room k X.A) (hb : Binds X.K fd ps ds) (hd : Vals dvs ds) (hx : Passes CX X E)
    (I : Inv X pins σ H s) (r : Vals vs us) (h : sp (vs ++ dvs) H Q E) : wpAny (model X.prog X.w) X.A (call (.ref f) us) (EP X pins σ Q) X.xe s := by
  have r2 : Vals (vs ++ dvs) (us ++ ds) := r.append hd
  have hl : (us ++ ds).length = ps.length := by rw [← r2.length]; exact F.len _ _ _ _ h
  refine wpAny_call (codeAny_mono (F.run X.A X.stack s H ⟨us, []⟩ (us ++ ds) (vs ++ dvs) Q E hr I.env0 (hb s us I.kIn hl) r2 h) fun r s' hq => ?_)
  cases r with
  | error e => exact hx pins σ H s e s' I hq
  | ok fl =>
    cases fl with
    | ret u => exact I.after hq
    | next => exact False.elim hq
    | brk => exact False.elim hq
    | cont => exact False.elim hq

theorem pe_call (F : FnOk X.prog X.w X.K X.mg X.base CX k f fd ps sp) (hr : Room k X.A) (hg : Gl X x) (hm : X.mg x = some (.ref f)) (hk : PySem.W.keepIn X.K (.ref f) = true) (hb : Binds X.K fd ps ds) (hd : Vals dvs ds) (hx : Passes CX X E)
    (ha : PA X (e :: es) t) (hdb : (x == ("__debug__" : Str)) = false := by decide) (he : starEach (e :: es) X.env = (false, eval e X.env) :: starEach es X.env := by rfl) (hpl : (backTo pos (starEach es X.env)).any (·.1) = false := by rfl) :
    PE X (.Call (.Name x p) (e :: es) [] pos) (tCall sp dvs E t) := by
  intro pins s σ H Q I h
  refine wpAny_Call_Name_kw (ld_glob I hg hm ?_ hdb)
  refine PySem.W.callWith_K (h₀ := X.base) I.ok.mod.kin hk (thn (ha pos pins s σ H _ I h) fun us s1 ⟨vs, H1, I1, r, q⟩ => ⟨I1.kIn, ?_⟩) he hpl
  exact run_fn F hr hb hd hx I1 r q



end

/-! ### keywords -/
section
variable {X : Cx} {CX : CXT} {k : Nat} {f C : Addr} {fd : FuncData} {ps ks : List Str} {sp : Sp} {E : XK} {x m : Str} {p pos apos kpos : Pos} {e o : Expr} {es : List Expr} {kws : List Keyword} {te ta : TE} {t tk : TA} {nm : Option Str}

variable {g : List Value → List Value → List Value} {gV : List V → List V → List V}
end

/-! ### a def's body keeps its promise -/
/-- names: the parameters first -/
structure FnScope (N P : List Str) (sc : Scope) : Prop where
  kind : sc.kind = .function
  co : sc.isCoroutine = false
  gen : sc.isGenerator = false
  nd : N.Nodup
  pre : N.take P.length = P
  par : ∀ x ∈ P, sc.names.lookup x = some .local ∨ sc.names.lookup x = some .cell
  nofree : ∀ y ∈ sc.names, y.2 ≠ .free

theorem bindL_out {kindOf : Str → Option NameKind} {x : Str} : ∀ {binds : List (Str × Value)} {m : Str → Option Value}, (∀ v, (x, v) ∉ binds) → bindL kindOf binds m x = m x
  | [], _, _ => rfl
  | (n, v) :: r, m, h => by
    unfold bindL
    rw [bindL_out fun w hw => h w (List.mem_cons_of_mem _ hw)]
    split
    · have : x ≠ n := by rintro rfl; exact h v List.mem_cons_self
      simp [this]
    · rfl
theorem bindC_out {kindOf : Str → Option NameKind} {x : Str} : ∀ {binds : List (Str × Value)} {m : Str → Option Value}, (∀ v, (x, v) ∉ binds) → bindC kindOf binds m x = m x
  | [], _, _ => rfl
  | (n, v) :: r, m, h => by
    unfold bindC
    rw [bindC_out fun w hw => h w (List.mem_cons_of_mem _ hw)]
    split
    · rfl
    · have : x ≠ n := by rintro rfl; exact h v List.mem_cons_self
      simp [this]
theorem bindL_get {kindOf : Str → Option NameKind} {x : Str} {v : Value} : ∀ {P : List Str} {vs : List Value} {i : Nat} {m : Str → Option Value}, P.Nodup → P[i]? = some x → vs[i]? = some v → kindOf x = some .local →
    bindL kindOf (P.zip vs) m x = some v
  | [], _, _, _, _, h, _, _ => by simp at h
  | _ :: _, [], _, _, _, _, h, _ => by simp at h
  | p :: P, w :: vs, 0, m, nd, h1, h2, hk => by
    simp at h1 h2; subst h1; subst h2
    show bindL kindOf ((p, w) :: P.zip vs) m p = _
    unfold bindL
    rw [bindL_out fun v hv => (List.nodup_cons.mp nd).1 (List.of_mem_zip hv).1, if_pos hk]
    simp
  | p :: P, w :: vs, i + 1, m, nd, h1, h2, hk => by
    show bindL kindOf ((p, w) :: P.zip vs) m x = _
    unfold bindL
    exact bindL_get (i := i) (List.nodup_cons.mp nd).2 (by simpa using h1) (by simpa using h2) hk
theorem bindC_get {kindOf : Str → Option NameKind} {x : Str} {v : Value} : ∀ {P : List Str} {vs : List Value} {i : Nat} {m : Str → Option Value}, P.Nodup → P[i]? = some x → vs[i]? = some v → kindOf x ≠ some .local →
    bindC kindOf (P.zip vs) m x = some v
  | [], _, _, _, _, h, _, _ => by simp at h
  | _ :: _, [], _, _, _, _, h, _ => by simp at h
  | p :: P, w :: vs, 0, m, nd, h1, h2, hk => by
    simp at h1 h2; subst h1; subst h2
    show bindC kindOf ((p, w) :: P.zip vs) m p = _
    unfold bindC
    rw [bindC_out fun v hv => (List.nodup_cons.mp nd).1 (List.of_mem_zip hv).1, if_neg hk]
    simp
  | p :: P, w :: vs, i + 1, m, nd, h1, h2, hk => by
    show bindC kindOf ((p, w) :: P.zip vs) m x = _
    unfold bindC
    exact bindC_get (i := i) (List.nodup_cons.mp nd).2 (by simpa using h1) (by simpa using h2) hk

/-- the names' values at the entry -/
def start (N : List Str) (vs : List V) : St := vs.map some ++ List.replicate (N.length - vs.length) none

/-- the context of a def's body, at its entry; an exception leaves the frame, then lies as CX says -/
def cxOf (CX : CXT) (P : Program) (w : World) (K : PySem.W.Frag) (mg : Str → Option Value) (base : Heap) (N : List Str) (qual : Str) (scope : Scope) (f : Addr) (cd : Value) (A : Around) (outer : List Env) (s : Shared) (H : Hp) (E : XK) : Cx where
  prog := P
  w := w
  K := K
  mg := mg
  base := base
  A := A.deeper (envOfC qual scope s.heap.objs.size f cd)
  N := N
  s₀ := s
  H₀ := H
  env := envOfC qual scope s.heap.objs.size f cd
  outer := outer
  stack := envOfC qual scope s.heap.objs.size f cd :: outer
  ex := []
  calm := true
  fn := fun _ => true
  pn := []
  xe := fun e s' => wpAny (model P w) (A.deeper (envOfC qual scope s.heap.objs.size f cd)) (leaving (envOfC qual scope s.heap.objs.size f cd) e) (fun _ s'' => CX outer H s E e s'') (fun e' s'' => CX outer H s E e' s'') s'

theorem cell_has {sc : Scope} {n : Nat} {x : Str} (h : sc.names.lookup x = some .cell) : ∃ c, (cellsFrom n sc.names []).lookup x = some c := by
  have q := PySem.W.cellsFrom_some sc.names n [] (.inl h)
  exact Option.isSome_iff_exists.mp q

theorem inv_start {CX : CXT} {P : Program} {w : World} {K : PySem.W.Frag} {mg : Str → Option Value} {base : Heap} {N ps : List Str} {qual : Str} {scope : Scope} {f : Addr} {cd : Value} {A : Around} {outer : List Env} {s s1 : Shared} {H : Hp} {E : XK} {us : List Value} {vs : List V}
    (S : FnScope N ps scope) (hd : A.handled = none) (e0 : Env0 P w K mg base A outer s H) (hl : vs.length = ps.length) (r : Vals vs us)
    (x : InCallC s s.heap.objs.size (bindL (envOfC qual scope s.heap.objs.size f cd).kindOf (ps.zip us) fun _ => none) (cellsFrom (s.heap.objs.size + 1) scope.names []) (bindC (envOfC qual scope s.heap.objs.size f cd).kindOf (ps.zip us) fun _ => none) s1) :
    Inv (cxOf CX P w K mg base N qual scope f cd A outer s H E) [] (start N vs) H s1 := by
  have hpl : ps.length ≤ N.length := by have := congrArg List.length S.pre; rw [List.length_take] at this; omega
  obtain ⟨h1, tk, rfl, hk⟩ := x.done
  have noA : ∀ b : Addr, b ∉ (cxOf CX P w K mg base N qual scope f cd A outer s H E).ex := fun b z => absurd (show b ∈ ([] : List Addr) from z) (by simp)
  refine ⟨⟨e0.mod, S.kind, rfl, rfl, Nat.le_refl _, fun y z c h1 h2 => ?_, fun y hy => ?_, fun y c _ h => ?_, fun _ => hd, Around.frames_deeper e0.frames, .inr ⟨rfl, rfl⟩, fun b z => absurd z (noA b), e0.bs, e0.bsz, fun b _ _ => noA b, fun b z => absurd z (noA b), e0.funs, e0.frf⟩,
    rfl, e0.bare, Un.kept hk, ⟨_, x.toInCall.ns, fun i y v h1 h2 h3 => ?_⟩, fun y c h => ⟨_, x.cell y c h⟩, e0.hok.fresh (Nat.le_refl _), fun y c h => ?_, fun p hp => absurd (show p ∈ ([] : List (Addr × Obj)) from hp) (by simp), e0.hok.kept hk, ?_⟩
  · exact name_of_addr x.apart (PySem.mem_of_lookup h1) (PySem.mem_of_lookup h2)
  · have hy : scope.names.lookup y = some .cell ∨ scope.names.lookup y = some .free := hy
    rcases hy with hy | hy
    · exact cell_has hy
    · exact absurd rfl (S.nofree _ (PySem.mem_of_lookup hy))
  · exact Nat.le_of_lt (x.above y c (PySem.mem_of_lookup h))
  · have hi : i < vs.length := by
      unfold start at h2
      by_cases hi : i < vs.length
      · exact hi
      · rw [List.getElem?_append_right (by simpa using hi)] at h2
        rw [List.getElem?_replicate] at h2
        split at h2 <;> cases h2
    have ha : vs[i]? = some v := by
      unfold start at h2
      rw [List.getElem?_append_left (by simpa using hi), List.getElem?_map] at h2
      cases e : vs[i]? with
      | none => rw [e] at h2; cases h2
      | some a => rw [e] at h2; cases h2; rfl
    obtain ⟨u, hu, rv⟩ := r.get ha
    have hp : ps[i]? = some y := by
      rw [← S.pre, List.getElem?_take_of_lt (by omega)]; exact h1
    have ndP : ps.Nodup := by rw [← S.pre]; exact S.nd.sublist (List.take_sublist _ _)
    refine ⟨u, rv, ?_⟩
    rcases S.par y (List.mem_of_getElem? hp) with k | k
    · exact .inl ⟨k, bindL_get ndP hp hu k⟩
    · obtain ⟨c, e⟩ := cell_has (n := s.heap.objs.size + 1) k
      refine .inr ⟨.inl k, c, e, ?_⟩
      have q := x.cell y c e
      rw [bindC_get ndP hp hu (by show scope.names.lookup y ≠ _; rw [k]; decide)] at q
      exact q
  · exact e0.hok.fresh (Nat.le_of_lt (x.above y c (PySem.mem_of_lookup h)))
  · unfold start
    show _ = N.length
    rw [List.length_append, List.length_map, List.length_replicate]
    omega

/-- THE RULE: a def (or a method) of the text, by its body. The body's reading t is chosen for each entry; it is run at the parameters' values -/
theorem fn_of {CX : CXT} {P : Program} {w : World} {K : PySem.W.Frag} {mg : Str → Option Value} {base : Heap} {k : Nat} {f : Addr} {name qual : Str} {params : Arguments} {body : List Stmt} {scope : Scope} {dV kV doc pm cdv ct oc : Value} {an od : Option Addr}
    {osl : Array (Option Value)} {N ps : List Str} {sp : Sp} (lk : K.lookup f = some ⟨oc, od, .func (PySem.W.fnOf name qual params body scope dV kV doc pm an cdv ct), osl⟩) (hcd : PySem.W.codeIn K cdv qual = true) (S : FnScope N ps scope)
    (len : ∀ vs H Q E, sp vs H Q E → vs.length = ps.length)
    (hbody : ∀ (A : Around) (outer : List Env) (s : Shared) (H : Hp) (vs : List V) (Q : VK) (E : XK), Room k (A.deeper (envOfC qual scope s.heap.objs.size f cdv)) → sp vs H Q E →
      ∃ t, PSs (cxOf CX P w K mg base N qual scope f cdv A outer s H E) body t ∧ t { nx := fun _ H' => Q .non H', rt := Q } (start N vs) H) :
    FnOk P w K mg base CX (k + 1) f (PySem.W.fnOf name qual params body scope dV kV doc pm an cdv ct) ps sp := by
  refine ⟨len, fun A outer s H args us vs Q E hr e0 hb r hsp => ?_⟩
  have hl := len _ _ _ _ hsp
  have KX : K.In s.heap := e0.mod.kin.keeps fun b o e => (e0.bs b o e).1
  have lim : s.heap.NoLimit := e0.mod.nolimit.keeps fun b o e => (e0.bs b o e).1
  have hkind : ∀ y ∈ ps.zip us, scope.names.lookup y.1 = some .local ∨ (scope.names.lookup y.1 = some .cell ∧ ((cellsFrom (s.heap.objs.size + 1) scope.names []).lookup y.1).isSome = true) := fun ⟨n, v⟩ hy => by
    rcases S.par n (List.of_mem_zip hy).1 with q | q
    · exact .inl q
    · exact .inr ⟨q, PySem.W.cellsFrom_some _ _ _ (.inl q)⟩
  refine codeAny_call_function hr.depth (KX _ _ lk) rfl S.co S.gen rfl (PySem.W.codeRec_of KX hcd) (hb _ _ _ _ ?_)
  refine wpAny_newFunctionEnv_cells S.kind hkind fun env he s1 x => ?_
  subst he
  refine ⟨lim.keeps x.toInCall.keep, codeAny_func ?_⟩
  obtain ⟨t, ht, hq⟩ := hbody A outer s H vs Q E (hr.deeper _) hsp
  have I : Inv (cxOf CX P w K mg base N qual scope f cdv A outer s H E) [] (start N vs) H s1 := inv_start S hr.hd e0 hl r x
  refine wpAny_mono (ht [] s1 (start N vs) H _ I hq) (fun fl s' hs => ?_) fun e s' hs => hs
  have fin : ∀ {σ' : St} {H' : Hp} {v : V} {u : Value}, Inv (cxOf CX P w K mg base N qual scope f cdv A outer s H E) [] σ' H' s' → RelV v u → Q v H' → CE outer P w H s Q u s' :=
    fun {σ' H' v u} J rv q => ⟨v, H', J.os, J.bare, J.base, J.hok, rv, q⟩
  cases fl with
  | ret u =>
    obtain ⟨v, σ', H', J, rv, q⟩ := hs
    exact fin J rv q
  | next =>
    obtain ⟨σ', H', J, q⟩ := hs
    exact fin (v := V.non) (u := Value.none) J rfl q
  | brk =>
    obtain ⟨_, _, _, q⟩ := hs
    exact False.elim q
  | cont =>
    obtain ⟨_, _, _, q⟩ := hs
    exact False.elim q
end L2

namespace L2
open PySem PySem.Spec PyProof.Rows
section
variable {X : Cx} {x : Str} {p pos : Pos} {e : Expr} {es : List Expr} {t : TA} {id T : String} {r : List V → Hp → VK → Prop}

def tCB (r : List V → Hp → VK → Prop) (t : TA) : TE := fun σ H Q => t σ H fun vs H1 => r vs H1 Q
/-- f(e, ..), f a built-in function -/
theorem pe_callB (hc : CallR X (.builtin id) r) (hg : Gl X x) (hm : X.mg x = none) (hv : bootBuiltins x = some (.builtin id)) (ha : PA X (e :: es) t) (hn : x ≠ "__name__" := by decide) (hdb : (x == ("__debug__" : Str)) = false := by decide)
    (he : starEach (e :: es) X.env = (false, eval e X.env) :: starEach es X.env := by rfl) (hpl : (backTo pos (starEach es X.env)).any (·.1) = false := by rfl) : PE X (.Call (.Name x p) (e :: es) [] pos) (tCB r t) := by
  intro pins s σ H Q I h
  refine wpAny_Call_Name_kw (ld_blt I hg hm hv ?_ hn hdb)
  exact PyProof.Rows.callWith_builtin1 (thn (ha pos pins s σ H _ I h) fun us s1 ⟨vs, H1, I1, r1, q1⟩ => hc pins s1 σ H1 vs us Q I1 r1 q1) he hpl
/-- T(e, ..), T a built-in type -/
theorem pe_callTy (hc : CallR X (.type T) r) (hg : Gl X x) (hm : X.mg x = none) (hv : bootBuiltins x = some (.type T)) (ha : PA X (e :: es) t) (hn : x ≠ "__name__" := by decide) (hdb : (x == ("__debug__" : Str)) = false := by decide)
    (he : starEach (e :: es) X.env = (false, eval e X.env) :: starEach es X.env := by rfl) (hpl : (backTo pos (starEach es X.env)).any (·.1) = false := by rfl) : PE X (.Call (.Name x p) (e :: es) [] pos) (tCB r t) := by
  intro pins s σ H Q I h
  refine wpAny_Call_Name_kw (ld_blt I hg hm hv ?_ hn hdb)
  exact PyProof.Rows.callWith_type1 (thn (ha pos pins s σ H _ I h) fun us s1 ⟨vs, H1, I1, r1, q1⟩ => hc pins s1 σ H1 vs us Q I1 r1 q1) he hpl
end
end L2

namespace HT
open PySem PyProof.Rows



section
open PySem.SeqAt
open PySem.AutoSeq1 (wpAny_loadPart')
open PySem.MeetsSeq PySem.MeetsSeq2 PySem.MeetsSeq3

end

section
variable {prog : Program} {w : World} {A : Around} {E : Value → Shared → Prop} {s : Shared}



/-! ### t[a:b], not the whole -/
/-- a slice's bound as a place among n (d where it is left out) -/
def sIx (n d : Nat) : Option Int → Nat
  | none => d
  | some v => if v < 0 then (v + (n : Int)).toNat else min v.toNat n
theorem sIx_none (n d : Nat) : sIx n d none = d := rfl
theorem sIx_nat (n d k : Nat) : sIx n d (some (k : Int)) = min k n := by
  show (if (k : Int) < 0 then ((k : Int) + (n : Int)).toNat else min (k : Int).toNat n) = min k n
  rw [if_neg (by omega), Int.toNat_natCast]

end
end HT

namespace L2
open PySem PySem.Spec PyProof.Rows

/-! ### the parts of a slice -/
abbrev TO := St → Hp → (Option Int → Hp → Prop) → Prop
/-- a slice's part (left out, or an int) -/
def PO (X : Cx) (e : Option Expr) (t : TO) : Prop :=
  ∀ (pins : List (Addr × Obj)) (s : Shared) (σ : St) (H : Hp) (Q : Option Int → Hp → Prop), Inv X pins σ H s → t σ H Q →
    wpAny (model X.prog X.w) X.A (evalPart e X.env) (fun u s' => ∃ o H', Inv X pins σ H' s' ∧ IsPart u o ∧ Q o H') X.xe s
def tNoPart : TO := fun _ H Q => Q none H
def tPart (t : TE) : TO := fun σ H Q => t σ H fun x H1 => ∃ i, x = .int i ∧ Q (some i) H1


section
variable {X : Cx} {e : Expr} {te : TE} {lo hi : Option Expr} {tl th : TO} {pos p2 : Pos}

theorem po_none : PO X none tNoPart := by
  intro pins s σ H Q I h
  rw [evalPart_none]
  exact wpAny_pure ⟨none, H, I, .none, h⟩
theorem po_some (h : PE X e te) : PO X (some e) (tPart te) := by
  intro pins s σ H Q I hw
  rw [evalPart_some]
  refine thn (h pins s σ H _ I hw) fun u s1 ⟨x, H1, I1, r1, q1⟩ => ?_
  obtain ⟨i, rfl, q⟩ := q1
  obtain ⟨t, rfl⟩ := r1
  exact ⟨some i, H1, I1, .int i t, q⟩

/-- what a slice of a value is, by values: the slice object stands at sl -/
def SlR (X : Cx) (r : V → Option Int → Option Int → Hp → VK → Prop) : Prop :=
  ∀ (pins : List (Addr × Obj)) (s : Shared) (σ : St) (H : Hp) (x : V) (v vl vu : Value) (lo hi : Option Int) (sl : Addr) (Q : VK), Inv X pins σ H s → RelV x v → s.heap.IsSliceOf sl vl vu .none → IsPart vl lo → IsPart vu hi → r x lo hi H Q →
    ∃ T id, typeLookup (.type T) "__getitem__" = pure (some (.builtin id)) ∧ s.TypeIs v T ∧ wpAny (model X.prog X.w) X.A (getItem v (.ref sl)) (EP X pins σ Q) X.xe s
def tSl (r : V → Option Int → Option Int → Hp → VK → Prop) (te : TE) (tl th : TO) : TE := fun σ H Q => te σ H fun x H1 => tl σ H1 fun l H2 => th σ H2 fun u H3 => r x l u H3 Q
/-- a[lo:hi], any a -/
theorem pe_slice {r : V → Option Int → Option Int → Hp → VK → Prop} (hr : SlR X r) (he : PE X e te) (hl : PO X lo tl) (hu : PO X hi th) : PE X (.Subscript e (.Slice lo hi none p2) pos) (tSl r te tl th) := by
  intro pins s σ H Q I h
  refine Subscript_ (thn (he pins s σ H _ I h) fun v s1 ⟨x, H1, I1, r1, q1⟩ => ?_)
  refine wpAny_Slice (thn (hl pins s1 σ H1 _ I1 q1) fun vl s2 ⟨l, H2, I2, pl, q2⟩ => thn (hu pins s2 σ H2 _ I2 q2) fun vu s3 ⟨u, H3, I3, pu, q3⟩ => ?_)
  rw [evalPart_none]
  refine wpAny_pure ?_
  have I4 : Inv X pins σ H3 { s3 with heap := s3.heap.push { cls := .type "slice", data := .fields #[vl, vu, .none] } } := I3.kept (t' := s3.toks) fun b ob q => Heap.get?_push_of_some _ q
  obtain ⟨T, id, hT, ht, hg⟩ := hr pins { s3 with heap := s3.heap.push { cls := .type "slice", data := .fields #[vl, vu, .none] } } σ H3 x v vl vu l u s3.heap.objs.size Q I4 r1 (Heap.IsSliceOf.new ..) pl pu q3
  show wpAny (model X.prog X.w) X.A (subscriptTail e (.Slice lo hi none p2) v (.ref s3.heap.objs.size)) (EP X pins σ Q) X.xe { s3 with heap := s3.heap.push { cls := .type "slice", data := .fields #[vl, vu, .none] } }
  exact tail_any (ops := [.ref s3.heap.objs.size, v]) ht hT hg (by with_unfolding_all rfl)

/-- the items of xs[lo:hi] -/
def cutV (xs : List V) (lo hi : Option Int) : List V := (xs.drop (HT.sIx xs.length 0 lo)).take (HT.sIx xs.length xs.length hi - HT.sIx xs.length 0 lo)
theorem cutV_length (xs : List V) (lo hi : Option Int) : (cutV xs lo hi).length ≤ xs.length := by
  unfold cutV
  rw [List.length_take, List.length_drop]
  omega

/-! ### t < u, t + u -/
end
end L2

namespace L2
open PySem PySem.Spec PyProof.Rows

/-! ### places -/
/-- the place that an index of any sign means -/
def ixN (n : Nat) (i : Int) : Option Nat := if 0 ≤ i then (if i < n then some i.toNat else none) else if -(n : Int) ≤ i then some (i + n).toNat else none
def atI {α : Type} (xs : List α) (i : Int) : Option α := (ixN xs.length i).bind fun j => xs[j]?
theorem ixN_seq {n : Nat} {i : Int} {j : Nat} (h : ixN n i = some j) : seqIndex? i n = some j ∧ j < n ∧ -(n : Int) ≤ i ∧ i < n := by
  unfold ixN at h
  by_cases h0 : 0 ≤ i
  · rw [if_pos h0] at h
    by_cases h1 : i < n
    · rw [if_pos h1] at h
      have e : i.toNat = j := Option.some.inj h
      exact ⟨by rw [seqIndex_of h0 h1, e], by omega, by omega, h1⟩
    · rw [if_neg h1] at h; cases h
  · rw [if_neg h0] at h
    by_cases h1 : -(n : Int) ≤ i
    · rw [if_pos h1] at h
      have e : (i + n).toNat = j := Option.some.inj h
      exact ⟨by rw [seqIndex_neg (by omega) h1, e], by omega, h1, by omega⟩
    · rw [if_neg h1] at h; cases h
theorem atI_get {α : Type} {xs : List α} {i : Int} {v : α} (h : atI xs i = some v) : ∃ j, seqIndex? i xs.length = some j ∧ xs[j]? = some v ∧ j < xs.length ∧ -(xs.length : Int) ≤ i ∧ i < xs.length := by
  unfold atI at h
  cases e : ixN xs.length i with
  | none => rw [e] at h; cases h
  | some j =>
    rw [e] at h
    obtain ⟨h1, h2, h3, h4⟩ := ixN_seq e
    exact ⟨j, h1, h, h2, h3, h4⟩
theorem atI_nat {α : Type} {xs : List α} {j : Nat} {v : α} (h : xs[j]? = some v) : atI xs (j : Int) = some v := by
  have hj : j < xs.length := (List.getElem?_eq_some_iff.mp h).1
  have e : ixN xs.length (j : Int) = some j := by
    unfold ixN
    rw [if_pos (by omega), if_pos (by omega)]; simp
  unfold atI; rw [e]; exact h

/-! ### what may be subscripted -/
/-- what stands as an index of a plain subscript -/
def PlainIx (b : Expr) : Prop := ∀ o i, subscripted b false o i = operate [o, i] (getItem o i)
/-- a subscript by values -/
def IxR (X : Cx) (r : R2) : Prop :=
  ∀ (value slice : Expr) (pins : List (Addr × Obj)) (s : Shared) (σ : St) (H : Hp) (x y : V) (v u : Value) (Q : VK), Inv X pins σ H s → RelV x v → RelV y u → r x y H Q →
    subscripted slice false v u = operate [v, u] (getItem v u) → wpAny (model X.prog X.w) X.A (subscriptTail value slice v u) (EP X pins σ Q) X.xe s
/-- a call of a builtin's method by values: the receiver, the arguments -/
def MtR (X : Cx) (id : String) (r : V → List V → Hp → VK → Prop) : Prop :=
  ∀ (pins : List (Addr × Obj)) (s : Shared) (σ : St) (H : Hp) (x : V) (xs : List V) (v : Value) (us : List Value) (Q : VK), Inv X pins σ H s → RelV x v → Vals xs us → r x xs H Q →
    wpAny (model X.prog X.w) X.A (call (.builtin id) (v :: us)) (EP X pins σ Q) X.xe s
section
variable {X : Cx} {a b : Expr} {ta tb : TE} {pos : Pos}
theorem IxR.or {r r' : R2} (h : IxR X r) (h' : IxR X r') : IxR X (fun x y H Q => r x y H Q ∨ r' x y H Q) := by
  intro value slice pins s σ H x y v u Q I rx ry q hs
  rcases q with q | q
  · exact h value slice pins s σ H x y v u Q I rx ry q hs
  · exact h' value slice pins s σ H x y v u Q I rx ry q hs
/-- a[b] -/
theorem pe_ix {r : R2} (hr : IxR X r) (ha : PE X a ta) (hb : PE X b tb) (hs : PlainIx b) : PE X (.Subscript a b pos) (tOp r ta tb) := by
  intro pins s σ H Q I h
  exact Subscript_ (binT ha hb I h fun v u s2 x y H2 I2 rx ry q => hr a b pins s2 σ H2 x y v u Q I2 rx ry q (hs _ _))

def rIxL (K : PySem.W.Frag) : R2 := fun x y H Q => ∃ p xs i v, x = .ref p ∧ y = .int i ∧ SqL K H p xs ∧ atI xs i = some v ∧ Q v H
def rIxT (K : PySem.W.Frag) : R2 := fun x y H Q => ∃ p xs i v, x = .ref p ∧ y = .int i ∧ SqT K H p xs ∧ atI xs i = some v ∧ Q v H
def rIxS : R2 := fun x y H Q => ∃ z i c, x = .str z ∧ y = .int i ∧ z.length ≤ sizeLine ∧ atI z.cps.toList i = some c ∧ Q (.str ⟨#[c]⟩) H
theorem ix_list : IxR X (rIxL X.K) := by
  intro value slice pins s σ H x y v u Q I rx ry h hs
  obtain ⟨p, xs, i, z, rfl, rfl, hq, he, q⟩ := h
  cases rx
  obtain ⟨t, rfl⟩ := ry
  obtain ⟨its, r, pl, hz⟩ := I.list hq
  obtain ⟨j, h1, h2, h3, h4, h5⟩ := atI_get he
  obtain ⟨w, ew, rw'⟩ := r.get h2
  have hl := r.length
  have hn := line63
  have fin : EP X pins σ Q w s := ⟨z, H, I, rw', q⟩
  by_cases h0 : 0 ≤ i
  · have hj : i.toNat = j := by
      rw [seqIndex_of h0 h5] at h1
      exact Option.some.inj h1
    exact item_listR pl.isList h0 (by omega) (by rw [hj]; simpa using ew) fin hs
  · have hj : (i + (its.toArray.size : Int)).toNat = j := by
      rw [seqIndex_neg (by omega) h4] at h1
      rw [List.size_toArray, ← hl]
      exact Option.some.inj h1
    exact subscriptTail_builtinR (x := w) pl.isList.typeIs slot_list_getitem.lookup
      (wpAny_getItem_list_neg (Q := fun r s' => r = w ∧ EP X pins σ Q r s') pl.isList (by omega) (by rw [List.size_toArray] <;> omega) (by omega) (by rw [hj]; simpa using ew) ⟨rfl, fin⟩) hs
theorem ix_tup : IxR X (rIxT X.K) := by
  intro value slice pins s σ H x y v u Q I rx ry h hs
  obtain ⟨p, xs, i, z, rfl, rfl, hq, he, q⟩ := h
  cases rx
  obtain ⟨t, rfl⟩ := ry
  obtain ⟨its, r, pl, hz⟩ := I.tuple hq
  obtain ⟨j, h1, h2, h3, h4, h5⟩ := atI_get he
  obtain ⟨w, ew, rw'⟩ := r.get h2
  have hl := r.length
  have hn := line63
  have fin : EP X pins σ Q w s := ⟨z, H, I, rw', q⟩
  exact subscriptTail_builtinR (x := w) pl.typeIs slot_tuple_getitem.lookup
    (getItem_tuple (j := j) (Q := fun r s' => r = w ∧ EP X pins σ Q r s') pl (by omega) (by omega) (by rw [List.size_toArray, ← hl]; exact h1) (by simpa using ew) ⟨rfl, fin⟩) hs
theorem ix_str : IxR X rIxS := by
  intro value slice pins s σ H x y v u Q I rx ry h hs
  obtain ⟨z, i, c, rfl, rfl, hz, he, q⟩ := h
  obtain ⟨t, rfl⟩ := rx
  obtain ⟨t', rfl⟩ := ry
  obtain ⟨j, h1, h2, h3, h4, h5⟩ := atI_get he
  have hl : z.cps.toList.length = z.length := by simp [Str.length]
  rw [hl] at h1 h4 h5
  have hn := line63
  exact tail_any (typeIs_str s z t) slot_str_getitem.lookup (getItem_str (c := c) (by
    have e1 : decide (i < -(2 ^ 63 : Int)) = false := decide_eq_false (by omega)
    have e2 : decide (i ≥ 2 ^ 63) = false := decide_eq_false (by omega)
    rw [e1, e2, Bool.or_false]) (by rw [h1]; simpa using h2) ⟨.str ⟨#[c]⟩, H, I.tok _, ⟨_, rfl⟩, q⟩) hs
/-- list, tuple or str -/
def rIx (K : PySem.W.Frag) : R2 := fun x y H Q => rIxL K x y H Q ∨ rIxT K x y H Q ∨ rIxS x y H Q
theorem ix_seq : IxR X (rIx X.K) := ix_list.or (ix_tup.or ix_str)

/-! ### xs[i] = v, any sign -/
/-- the list's object behind a store -/
theorem mapSeq_set (its : List Value) (n j : Nat) (u : Value) : Obj.mapSeq (·.setIfInBounds j u) { cls := .type "list", data := .seq its.toArray n } = { cls := .type "list", data := .seq (its.set j u).toArray n } := by
  simp [Obj.mapSeq]
theorem Inv.lst {pins : List (Addr × Obj)} {σ : St} {H : Hp} {s : Shared} {p : Addr} {xs : List V} (I : Inv X pins σ H s) (h : H p = some (.lst xs)) :
    ∃ (its : List Value) (n : Nat), Vals xs its ∧ s.heap.get? p = some { cls := .type "list", data := .seq its.toArray n } ∧ xs.length ≤ sizeLine := by
  obtain ⟨z, its, n, r, e⟩ := I.hok p _ h
  exact ⟨its, n, r, e, z⟩
/-- the list at p is written by an update of its object -/
theorem Inv.lstUpd {pins : List (Addr × Obj)} {σ : St} {H : Hp} {s : Shared} {p : Addr} {xs ys : List V} {its its' : List Value} {n n' : Nat} {f : Obj → Obj} (I : Inv X pins σ H s) (h : H p = some (.lst xs))
    (ho : s.heap.get? p = some { cls := .type "list", data := .seq its.toArray n }) (hf : f { cls := .type "list", data := .seq its.toArray n } = { cls := .type "list", data := .seq its'.toArray n' }) (r : Vals ys its') (hz : ys.length ≤ sizeLine) (t : Nat) :
    Inv X pins σ (upd H p (.lst ys)) { s with heap := s.heap.update p f, toks := t } := by
  have e : (s.heap.update p f).get? p = some { cls := .type "list", data := .seq its'.toArray n' } := by
    rw [Heap.get?_update_self f ho (by rw [hf] <;> rfl), hf]
  refine I.write (x := p) (e := p) (by rw [h]; trivial) (.inl rfl) (fun b u hb q => (Heap.get?_update_other _ _ (Ne.symm hb)).trans q) ⟨_, e⟩ ?_
  exact ⟨hz, its', n', r, e⟩
def rSetL : V → V → V → Hp → (Hp → Prop) → Prop := fun o i v H Q => ∃ p xs k j, o = .ref p ∧ i = .int k ∧ H p = some (.lst xs) ∧ ixN xs.length k = some j ∧ Q (upd H p (.lst (xs.set j v)))
theorem set_list : PSet X rSetL := by
  intro pins s σ H o i v ov iv u Q I ro ri rv h
  obtain ⟨p, xs, k, j, rfl, rfl, hp, hj, q⟩ := h
  cases ro
  obtain ⟨t, rfl⟩ := ri
  obtain ⟨its, n, r, ho, hz⟩ := I.lst hp
  obtain ⟨h1, h2, h3, h4⟩ := ixN_seq hj
  have hl := r.length
  have hn := line63
  have I' : Inv X pins σ (upd H p (.lst (xs.set j v))) { s with heap := s.heap.update p (Obj.mapSeq (·.setIfInBounds j u)) } :=
    I.lstUpd hp ho (mapSeq_set its n j u) (r.set rv j) (by rw [List.length_set]; exact hz) s.toks
  by_cases h0 : 0 ≤ k
  · have hk : k.toNat = j := by
      rw [seqIndex_of h0 h4] at h1
      exact Option.some.inj h1
    exact PySem.W.ki_setAt ho h0 (by omega) (by rw [List.size_toArray, ← hl]; exact h4) (by rw [hk]; exact ⟨_, I', q⟩)
  · have hk : (k + (its.toArray.size : Int)).toNat = j := by
      rw [seqIndex_neg (by omega) h3] at h1
      rw [List.size_toArray, ← hl]
      exact Option.some.inj h1
    exact PySem.W.ki_setBack ho (by omega) (by rw [List.size_toArray, ← hl]; exact h3) (by omega) (by rw [hk]; exact ⟨_, I', q⟩)

/-! ### slices -/
theorem slice_bounds (lo hi : Option Int) (n : Nat) : (sliceBounds lo hi none n).1 = ((HT.sIx n 0 lo : Nat) : Int) ∧ (sliceBounds lo hi none n).2.1 = ((HT.sIx n n hi : Nat) : Int) ∧ (sliceBounds lo hi none n).2.2 = 1 := by
  refine ⟨?_, ?_, rfl⟩
  · cases lo with
    | none => simp [sliceBounds, HT.sIx]
    | some i =>
      simp only [sliceBounds, HT.sIx, Option.getD_none, show (1 : Int) > 0 by decide, if_true]
      by_cases h : i < 0
      · simp only [h, if_true] <;> omega
      · simp only [h, if_false] <;> omega
  · cases hi with
    | none => simp [sliceBounds, HT.sIx]
    | some i =>
      simp only [sliceBounds, HT.sIx, Option.getD_none, show (1 : Int) > 0 by decide, if_true]
      by_cases h : i < 0
      · simp only [h, if_true] <;> omega
      · simp only [h, if_false] <;> omega
theorem slicePick_cut (its : List Value) (lo hi : Option Int) : slicePick its.toArray lo hi none = ((its.drop (HT.sIx its.length 0 lo)).take (HT.sIx its.length its.length hi - HT.sIx its.length 0 lo)).toArray := by
  obtain ⟨h1, h2, h3⟩ := slice_bounds lo hi its.toArray.size
  unfold slicePick
  rw [h1, h2, h3]
  simp only [sliceRange_one, pick_run, List.size_toArray] <;> rfl
/-- xs[lo:hi] of a list: a new list -/
def rSlL (K : PySem.W.Frag) : V → Option Int → Option Int → Hp → VK → Prop := fun x lo hi H Q => ∃ a xs, x = .ref a ∧ SqL K H a xs ∧ ∀ p, H p = none → Q (.ref p) (upd H p (.lst (cutV xs lo hi)))
theorem sl_list : SlR X (rSlL X.K) := by
  intro pins s σ H x v vl vu lo hi sl Q I rx hs pl pu h
  obtain ⟨a, xs, rfl, hx, q⟩ := h
  cases rx
  obtain ⟨its, r, ht, hz⟩ := I.list hx
  have hlen := r.length
  refine ⟨"list", _, slot_list_getitem.lookup, ht.isList.typeIs, ?_⟩
  refine wpAny_getItem_list_slice ht.isList hs pl pu .none (by simp) ?_ (by rw [List.size_toArray] <;> omega)
  rw [slicePick_cut, ← hlen]
  refine ⟨.ref s.heap.objs.size, _, I.laid (t' := s.toks) (o := .lst (cutV xs lo hi)) (fun b ob q => Heap.get?_push_of_some _ q) (Nat.le_refl _) ?_, rfl, q _ (I.hok.fresh (Nat.le_refl _))⟩
  exact ⟨Nat.le_trans (cutV_length xs lo hi) hz, _, 0, (r.drop (HT.sIx xs.length 0 lo)).take (HT.sIx xs.length xs.length hi - HT.sIx xs.length 0 lo), Heap.get?_push_size _ rfl⟩

/-! ### in, not in: flat items -/

/-! ### len, list(x), tuple(x) of any list or tuple that is read -/
theorem call_list_of : CallR X (.type "list") (fun xs H Q => ∃ p ys, xs = [.ref p] ∧ (SqL X.K H p ys ∨ SqT X.K H p ys) ∧ ∀ l, H l = none → Q (.ref l) (upd H l (.lst ys))) := by
  intro pins s σ H xs us Q I r h
  obtain ⟨p, ys, rfl, hq, q⟩ := h
  obtain ⟨u, rfl, rx⟩ := vals1 r
  cases rx
  have fin : ∀ (its : List Value), Vals ys its → ys.length ≤ sizeLine → ∀ (h' : Heap) (c' : Nat), (∀ b o', s.heap.get? b = some o' → h'.get? b = some o') →
      h'.get? s.heap.objs.size = some { cls := .type "list", dict := none, data := .seq its.toArray c', slots := #[] } → EP X pins σ Q (.ref s.heap.objs.size) { s with heap := h' } := fun its r' hz h' c' kp e =>
    ⟨.ref s.heap.objs.size, _, I.laid (t' := s.toks) kp (Nat.le_refl _) (show ObjOk X.prog X.w _ h' _ (.lst ys) from ⟨hz, its, c', r', e⟩), rfl, q _ (I.hok.fresh (Nat.le_refl _))⟩
  rcases hq with hq | hq
  · obtain ⟨its, r', pl, hz⟩ := I.list hq
    have hlen := r'.length
    obtain ⟨o, ho, hc, n, hd⟩ := pl.isList
    exact call_list_seq p (.inl rfl) ho hc hd (fun h' c' kp e => fin its r' hz h' c' kp e) (by simp only [List.size_toArray] <;> omega)
  · obtain ⟨its, r', pl, hz⟩ := I.tuple hq
    have hlen := r'.length
    obtain ⟨o, ho, hc, n, hd⟩ := pl
    exact call_list_seq p (.inr rfl) ho hc hd (fun h' c' kp e => fin its r' hz h' c' kp e) (by simp only [List.size_toArray] <;> omega)
theorem call_tuple_of : CallR X (.type "tuple") (fun xs H Q => ∃ p ys, xs = [.ref p] ∧ ((SqL X.K H p ys ∧ ∀ l, H l = none → Q (.ref l) (upd H l (.tup ys))) ∨ (SqT X.K H p ys ∧ Q (.ref p) H))) := by
  intro pins s σ H xs us Q I r h
  obtain ⟨p, ys, rfl, h⟩ := h
  obtain ⟨u, rfl, rx⟩ := vals1 r
  cases rx
  rcases h with ⟨hq, q⟩ | ⟨hq, q⟩
  · obtain ⟨its, r', pl, hz⟩ := I.list hq
    have hlen := r'.length
    refine call_tuple_list pl.isList (fun h' kp => ?_) (by simp only [List.size_toArray] <;> omega)
    have I1 : Inv X pins σ H { s with heap := h' } := I.kept (t' := s.toks) kp
    have I2 : Inv X pins σ (upd H h'.objs.size (.tup ys)) { s with heap := h'.push { cls := .type "tuple", data := .seq its.toArray } } :=
      I1.laid (t' := s.toks) (fun b o e => Heap.get?_push_of_some _ e) (Nat.le_refl _) (show ObjOk X.prog X.w _ _ _ (.tup ys) from ⟨hz, its, r', IsTup.new _ _⟩)
    exact ⟨.ref h'.objs.size, _, I2, rfl, q _ (I1.hok.fresh (Nat.le_refl _))⟩
  · obtain ⟨its, r', pl, hz⟩ := I.tuple hq
    exact call_tuple_same pl ⟨.ref p, H, I, rfl, q⟩

/-! ### the call of a builtin's method: o.m(..) -/
/-- the value is of that builtin type -/
def tyV (K : PySem.W.Frag) (T : String) (x : V) (H : Hp) : Prop := match x with
  | .str _ => T = "str"
  | .int _ => T = "int"
  | .ref p => (T = "list" ∧ ∃ xs, SqL K H p xs) ∨ (T = "tuple" ∧ ∃ o, K.lookup p = some o ∧ o.cls = .type "tuple" ∧ o.dict = none) ∨
      (T = "dict" ∧ ((∃ kvs, H p = some (.dK kvs)) ∨ ∃ kvs, H p = some (.dT kvs))) ∨ (T = "set" ∧ ∃ S n, H p = some (.set S n))
  | _ => False
theorem tyV_is {pins : List (Addr × Obj)} {σ : St} {H : Hp} {s : Shared} {T : String} {x : V} {v : Value} (I : Inv X pins σ H s) (r : RelV x v) (ty : tyV X.K T x H) :
    s.TypeIs v T ∧ ∀ a, v = .ref a → ∃ ob, s.heap.get? a = some ob ∧ ob.dict = none := by
  cases x with
  | str z =>
    obtain ⟨t, rfl⟩ := r
    cases (show T = "str" from ty)
    exact ⟨typeIs_str s z t, fun _ e => nomatch e⟩
  | int i =>
    obtain ⟨t, rfl⟩ := r
    cases (show T = "int" from ty)
    exact ⟨typeIs_int s i t, fun _ e => nomatch e⟩
  | ref p =>
    cases r
    rcases ty with ⟨rfl, xs, hq⟩ | ⟨rfl, o, hk, hc, hd⟩ | ⟨rfl, hk⟩ | ⟨rfl, S, n, hk⟩
    · obtain ⟨its, _, pl, _⟩ := I.list hq
      refine ⟨pl.isList.typeIs, fun a e => ?_⟩
      cases e
      obtain ⟨o, n, e, c, hd, _⟩ := pl
      exact ⟨o, e, hd⟩
    · refine ⟨⟨o, I.kIn p o hk, hc⟩, fun a e => ?_⟩
      cases e
      exact ⟨o, I.kIn _ o hk, hd⟩
    · have z : ∃ o, s.heap.get? p = some o ∧ o.ExactDict := by
        rcases hk with ⟨kvs, hk⟩ | ⟨kvs, hk⟩
        · obtain ⟨_, _, _, _, o, _, _, e, ex, _⟩ := I.hok p _ hk
          exact ⟨o, e, ex⟩
        · obtain ⟨_, _, _, _, o, _, _, e, ex, _⟩ := I.hok p _ hk
          exact ⟨o, e, ex⟩
      obtain ⟨o, e, ex⟩ := z
      refine ⟨⟨o, e, ex.1⟩, fun a e2 => ?_⟩
      cases e2
      exact ⟨o, e, ex.2.1⟩
    · obtain ⟨o, _, _, _, e, ex, _⟩ := I.hok p _ hk
      refine ⟨⟨o, e, ex.1⟩, fun a e2 => ?_⟩
      cases e2
      exact ⟨o, e, ex.2.1⟩
  | _ => exact False.elim ty
def tBM (K : PySem.W.Frag) (T : String) (r : V → List V → Hp → VK → Prop) (to : TE) (t : TA) : TE := fun σ H Q => to σ H fun x H1 => tyV K T x H1 ∧ t σ H1 fun xs H2 => r x xs H2 Q
variable {o e : Expr} {es : List Expr} {to : TE} {t : TA} {name : Str} {apos cpos : Pos} {T id : String} {r : V → List V → Hp → VK → Prop}
theorem pe_bm (pa : PlainAttrs T) (slot : Slot T name id) (hty : typeOf (.builtin id) = pure (.type "method_descriptor")) (hm : MtR X id r) (ho : PE X o to) (ha : PA X (e :: es) t)
    (hbase : attributeBase o name X.env (eval o X.env) = eval o X.env := by rfl)
    (hfew : ((backTo cpos (starEach (e :: es) X.env)).all (fun x => !x.1) && (backToKw cpos (keywordEach [] X.env)).all (fun x => x.1.isSome)
      && decide ((e :: es).length + ([] : List Keyword).length + (if ([] : List Keyword).isEmpty then 0 else 1) < 30)) = true := by rfl)
    (hline : (apos.endLine == cpos.line) = true := by rfl) (hs : starEach (e :: es) X.env = (false, eval e X.env) :: starEach es X.env := by rfl) (hplain : (backTo cpos (starEach es X.env)).any (·.1) = false := by rfl) :
    PE X (.Call (.Attribute o name apos) (e :: es) [] cpos) (tBM X.K T r to t) := by
  intro pins s σ H Q I h
  refine wpAny_Call_method_late hbase hfew hline rfl (thn (ho pins s σ H _ I h) fun v s1 ⟨x, H1, I1, r1, ty, q1⟩ => ?_)
  obtain ⟨h1, h2⟩ := tyV_is I1 r1 ty
  refine ⟨T, id, pa, slot, hty, h1, h2, ?_⟩
  have hA := ha cpos pins s1 σ H1 _ I1 q1
  rw [hs] at hA ⊢
  refine Calls.callWith_builtin (by show (false || (backTo cpos (starEach es X.env)).any (·.1)) = false; rw [hplain] <;> rfl) (Calls.evalArgs_plain ?_)
  exact thn hA fun us s2 ⟨vs, H2, I2, r2, q2⟩ => hm pins s2 σ H2 x vs v us Q I2 r1 r2 q2
/- xs.append(e), list.index on a module's tuple .. are MtR facts of 06m -/
end
end L2

namespace L2
open PySem PySem.Spec PyProof.Rows

def MtM (X : Cx) (id : String) (r : V → List V → Hp → VK → Prop) : Prop :=
  ∀ (pins : List (Addr × Obj)) (s : Shared) (σ : St) (H : Hp) (x : V) (xs : List V) (v : Value) (us : List Value) (Q : VK), Inv X pins σ H s → RelV x v → Vals xs us → r x xs H Q →
    wpAny (model X.prog X.w) X.A (call (.builtin id) (v :: us)) (EP X pins σ Q) X.xe s

/-! ### lists of values -/
theorem Vals.one : ∀ {x : V} {us : List Value}, Vals [x] us → ∃ u, us = [u] ∧ RelV x u
  | _, _, .cons r .nil => ⟨_, rfl, r⟩

section
variable {X : Cx} {pins : List (Addr × Obj)} {σ : St} {H : Hp} {s : Shared} {l b : Addr} {xs ys zs : List V}

/-! ### the two steps: a tracked list is rewritten, a new list is laid -/
theorem Inv.lset {its its' : List Value} {n : Nat} {f : Array Value → Array Value} {t' : Nat} (I : Inv X pins σ H s) (hH : H l = some (.lst xs))
    (e : s.heap.get? l = some { cls := .type "list", data := .seq its.toArray n }) (hf : f its.toArray = its'.toArray) (hv : Vals ys its') (hz : ys.length ≤ sizeLine) :
    Inv X pins σ (upd H l (.lst ys)) { s with heap := s.heap.update l (Obj.mapSeq f), toks := t' } := by
  have q := PySem.IsL.update e f
  rw [hf] at q
  refine I.write (x := l) (e := l) (by rw [hH]; exact trivial) (.inl rfl) (fun b' u hb hu => (Heap.get?_update_other s.heap (Obj.mapSeq f) (Ne.symm hb)).trans hu) ⟨_, q⟩ ?_
  exact ⟨hz, its', _, hv, q⟩
theorem Inv.lnew {its : List Value} {t' : Nat} (I : Inv X pins σ H s) (hv : Vals ys its) (hz : ys.length ≤ sizeLine) :
    Inv X pins σ (upd H s.heap.objs.size (.lst ys)) { s with heap := s.heap.push { cls := .type "list", data := .seq its.toArray }, toks := t' } :=
  I.laid (fun _ _ q => Heap.get?_push_of_some _ q) (Nat.le_refl _) ⟨hz, its, 0, hv, Heap.get?_push_size _ rfl⟩
theorem Inv.fresh (I : Inv X pins σ H s) : H s.heap.objs.size = none := I.hok.fresh (Nat.le_refl _)
theorem Inv.lstM (I : Inv X pins σ H s) (hH : H l = some (.lst xs)) : xs.length ≤ sizeLine ∧ ∃ (its : List Value) (n : Nat), Vals xs its ∧ xs.length = its.length ∧ s.heap.get? l = some { cls := .type "list", data := .seq its.toArray n } := by
  obtain ⟨z, its, n, r, e⟩ := I.hok l _ hH
  exact ⟨z, its, n, r, r.length, e⟩

theorem notLongL {n : Nat} (h : n ≤ sizeLine) : Builtin.List.listTooLong n = false := by
  unfold Builtin.List.listTooLong
  exact decide_eq_false (by omega)
end

section
variable {X : Cx}

/-! ### methods -/
def rAppend : V → List V → Hp → VK → Prop := fun x vs H Q => ∃ l xs y, x = .ref l ∧ vs = [y] ∧ H l = some (.lst xs) ∧ xs.length < sizeLine ∧ Q .non (upd H l (.lst (xs ++ [y])))
theorem mt_append : MtM X "list.append" rAppend := by
  intro pins s σ H x vs v us Q I rx rv h
  obtain ⟨l, xs, y, rfl, rfl, hH, hz, q⟩ := h
  cases rx
  obtain ⟨u, rfl, ru⟩ := rv.one
  obtain ⟨z, its, n, r, hl, e⟩ := I.lstM hH
  refine call_meets F.slot_list_append ⟨_, e, rfl⟩ F.entry_list_append (F.args_list_append_2 _ _) (PySem.list_append l its.toArray n u (by rw [List.size_toArray]; omega)) ⟨e, ?_⟩
  refine ⟨.non, _, I.lset (its' := its ++ [u]) hH e (by simp) (r.append (.cons ru .nil)) ?_, rfl, q⟩
  rw [List.length_append, List.length_singleton]
  omega






/-! ### list + list, list += list, list * int -/
def rCat : R2 := fun x y H Q => ∃ l b xs zs, x = .ref l ∧ y = .ref b ∧ H l = some (.lst xs) ∧ H b = some (.lst zs) ∧ xs.length + zs.length ≤ sizeLine ∧ ∀ p, H p = none → Q (.ref p) (upd H p (.lst (xs ++ zs)))
theorem op_cat : OpR X (binaryOp .Add) rCat := by
  intro pins s σ H x y v u Q I rx ry h
  obtain ⟨l, b, xs, zs, rfl, rfl, hH, hB, hz, q⟩ := h
  cases rx
  cases ry
  obtain ⟨z, its, n, r, hl, e⟩ := I.lstM hH
  obtain ⟨z2, its2, n2, r2, hl2, e2⟩ := I.lstM hB
  refine PySem.P.add_list e e2 ?_ (by rw [List.size_toArray, List.size_toArray]; omega)
  have ea : its.toArray ++ its2.toArray = (its ++ its2).toArray := by simp
  rw [ea]
  exact ⟨.ref _, _, I.lnew (t' := s.toks) (r.append r2) (by rw [List.length_append]; omega), rfl, q _ I.fresh⟩

/-! ### del xs[i] -/
end

/-! ### xs[a:b] = ys -/
section
variable {prog : Program} {w : World} {A : Around} {E : Value → Shared → Prop} {s : Shared}
end

section
variable {X : Cx}
end
end L2

namespace L2
open PySem PySem.Spec PyProof.Rows

/-! ### lists of pairs as tables -/
section
variable {κ : Type} [DecidableEq κ]
def valV (kvs : List (κ × V)) (k : κ) : Option V := (kvs.find? fun kv => decide (kv.1 = k)).map (·.2)
/-- in its place, or at the end -/
def putK (kvs : List (κ × V)) (k : κ) (v : V) : List (κ × V) :=
  if (kvs.any fun kv => decide (kv.1 = k)) = true then kvs.map (fun kv => if kv.1 = k then (kv.1, v) else kv) else kvs ++ [(k, v)]

theorem valV_pos {p : κ × V} {r : List (κ × V)} {k : κ} (e : p.1 = k) : valV (p :: r) k = some p.2 := by simp [valV, List.find?_cons, e]
theorem valV_neg {p : κ × V} {r : List (κ × V)} {k : κ} (e : ¬ p.1 = k) : valV (p :: r) k = valV r k := by simp [valV, List.find?_cons, e]
theorem valV_any (k : κ) : ∀ kvs : List (κ × V), (kvs.any fun kv => decide (kv.1 = k)) = (valV kvs k).isSome
  | [] => rfl
  | p :: r => by
    rw [List.any_cons]
    by_cases e : p.1 = k
    · simp only [valV_pos e, decide_eq_true e, Bool.true_or, Option.isSome_some]
    · rw [valV_neg e, decide_eq_false e, Bool.false_or]; exact valV_any k r
theorem valV_map (k j : κ) (y : V) : ∀ kvs : List (κ × V), valV (kvs.map fun kv => if kv.1 = k then (kv.1, y) else kv) j = (valV kvs j).map fun x => if j = k then y else x
  | [] => rfl
  | p :: r => by
    have ih := valV_map k j y r
    rw [List.map_cons]
    by_cases h : p.1 = k
    · rw [if_pos h]
      by_cases e : p.1 = j
      · rw [valV_pos (p := (p.1, y)) e, valV_pos e, Option.map_some, if_pos (e.symm.trans h)]
      · rw [valV_neg (p := (p.1, y)) e, valV_neg e, ih]
    · rw [if_neg h]
      by_cases e : p.1 = j
      · rw [valV_pos (p := p) e, valV_pos e, Option.map_some, if_neg (fun z => h (e.trans z))]
      · rw [valV_neg (p := p) e, valV_neg e, ih]
theorem valV_snoc (k j : κ) (y : V) : ∀ kvs : List (κ × V), valV kvs k = none → valV (kvs ++ [(k, y)]) j = if j = k then some y else valV kvs j
  | [], _ => by
    by_cases e : k = j
    · rw [if_pos e.symm]; exact valV_pos (p := (k, y)) e
    · rw [if_neg (fun z => e z.symm)]; exact valV_neg (p := (k, y)) e
  | p :: r, hn => by
    rw [List.cons_append]
    have hk : ¬ p.1 = k := fun z => by rw [valV_pos z] at hn; cases hn
    rw [valV_neg hk] at hn
    have ih := valV_snoc k j y r hn
    by_cases e : p.1 = j
    · rw [valV_pos e, valV_pos e, if_neg (fun z => hk (e.trans z))]
    · rw [valV_neg e, valV_neg e, ih]
theorem valV_put (kvs : List (κ × V)) (k j : κ) (y : V) : valV (putK kvs k y) j = if j = k then some y else valV kvs j := by
  unfold putK
  by_cases a : (kvs.any fun kv => decide (kv.1 = k)) = true
  · rw [if_pos a, valV_map]
    rw [valV_any] at a
    by_cases e : j = k
    · obtain ⟨x, hx⟩ := Option.isSome_iff_exists.mp a
      rw [if_pos e, e, hx, Option.map_some, if_pos rfl]
    · rw [if_neg e]
      cases valV kvs j with
      | none => rfl
      | some x => rw [Option.map_some, if_neg e]
  · rw [if_neg a]
    refine valV_snoc k j y kvs ?_
    rw [valV_any] at a
    cases q : valV kvs k with
    | none => rfl
    | some x => rw [q] at a; exact (a rfl).elim
theorem length_putK (kvs : List (κ × V)) (k : κ) (v : V) : (putK kvs k v).length ≤ kvs.length + 1 := by
  unfold putK
  split
  · rw [List.length_map]; omega
  · rw [List.length_append, List.length_cons, List.length_nil]; omega

theorem RelO.isSome_eq {o : Option V} {u : Option Value} (r : RelO o u) : o.isSome = u.isSome := by
  cases o with
  | none => cases u with
    | none => rfl
    | some _ => exact (show False from r).elim
  | some _ => cases u with
    | none => exact (show False from r).elim
    | some _ => rfl

/-- raw tables of the same keys -/
theorem KV.val {kvs : List (κ × V)} {vs : List (κ × Value)} (r : KV kvs vs) (k : κ) : RelO (valV kvs k) (valueAt vs k) := by
  unfold KV at r
  induction r with
  | nil => exact True.intro
  | @cons p q ps qs h t ih =>
    obtain ⟨h1, h2⟩ := h
    by_cases e : p.1 = k
    · have e' : q.1 = k := h1.symm.trans e
      have b : valueAt (q :: qs) k = some q.2 := by simp [valueAt, List.find?_cons, e']
      rw [valV_pos e, b]; exact h2
    · have e' : ¬ q.1 = k := fun z => e (h1.trans z)
      have b : valueAt (q :: qs) k = valueAt qs k := by simp [valueAt, List.find?_cons, e']
      rw [valV_neg e, b]; exact ih
theorem KV.any {kvs : List (κ × V)} {vs : List (κ × Value)} (r : KV kvs vs) (k : κ) : (kvs.any fun kv => decide (kv.1 = k)) = vs.any fun kv => decide (kv.1 = k) := by
  unfold KV at r
  induction r with
  | nil => rfl
  | cons h t ih => rw [List.any_cons, List.any_cons, ih, h.1]
theorem KV.repl {kvs : List (κ × V)} {vs : List (κ × Value)} (r : KV kvs vs) (k : κ) {y : V} {u : Value} (ry : RelV y u) :
    KV (kvs.map fun kv => if kv.1 = k then (kv.1, y) else kv) (vs.map fun kv => if kv.1 = k then (kv.1, u) else kv) := by
  unfold KV at r ⊢
  induction r with
  | nil => exact .nil
  | @cons p q ps qs h t ih =>
    rw [List.map_cons, List.map_cons]
    refine .cons ?_ ih
    obtain ⟨h1, h2⟩ := h
    by_cases e : p.1 = k
    · rw [if_pos e, if_pos (h1.symm.trans e)]; exact ⟨h1, ry⟩
    · rw [if_neg e, if_neg (fun z => e (h1.trans z))]; exact ⟨h1, h2⟩
theorem KV.put {kvs : List (κ × V)} {vs : List (κ × Value)} (r : KV kvs vs) (k : κ) {y : V} {u : Value} (ry : RelV y u) : KV (putK kvs k y) (stored vs k u) := by
  unfold putK stored
  rw [r.any k]
  by_cases e : (vs.any fun kv => decide (kv.1 = k)) = true
  · rw [if_pos e, if_pos e]; exact r.repl k ry
  · rw [if_neg e, if_neg e]; exact Paired.snoc r ⟨rfl, ry⟩
end


/-! ### a tracked dict, its keys ints and texts or tuples of these -/
theorem kV_is {P : Program} {w : World} {k : Key} {u : Value} (r : RelV (kV k) u) : (mixKind P w).is k u = true := by
  cases k with
  | inl i => obtain ⟨t, e⟩ := (show ∃ t, u = Value.int i t from r); subst e; exact mixKind_int P w i t
  | inr x => obtain ⟨t, e⟩ := (show ∃ t, u = Value.str x t from r); subst e; exact mixKind_str P w x t
theorem items_are {P : Program} {w : World} : ∀ {ks : List Key} {us : List Value}, Vals (ks.map kV) us → ItemsAre (mixKind P w) ks us
  | [], _, r => by rw [List.map_nil] at r; cases r; exact .nil
  | k :: ks, _, r => by
    rw [List.map_cons] at r
    cases r with
    | cons h t => exact .cons (kV_is h) (items_are t)

/-- raw entries of a dict with tuple keys -/
abbrev KT (H : Hp) : List (List Key × V) → List (List Key × Addr × Value) → Prop := Paired fun p q => p.1 = q.1 ∧ H q.2.1 = some (.tup (p.1.map kV)) ∧ RelV p.2 q.2.2
theorem KT.val {H : Hp} {kvs : List (List Key × V)} {xs : List (List Key × Addr × Value)} (r : KT H kvs xs) (k : List Key) : RelO (valV kvs k) ((atKey xs k).map (·.2)) := by
  induction r with
  | nil => exact True.intro
  | @cons p q ps qs h t ih =>
    obtain ⟨h1, _, h2⟩ := h
    by_cases e : p.1 = k
    · have e' : q.1 = k := h1.symm.trans e
      have b : atKey (q :: qs) k = some q.2 := by simp [atKey, List.find?_cons, e']
      rw [valV_pos e, b]; exact h2
    · have e' : ¬ q.1 = k := fun z => e (h1.trans z)
      have b : atKey (q :: qs) k = atKey qs k := by simp [atKey, List.find?_cons, e']
      rw [valV_neg e, b]; exact ih

section
variable {P : Program} {w : World} {H : Hp} {h : Heap} {a : Addr}
theorem rd_of {u : HO} (ok : HOk P w H h) (e : Rd H a u) : ObjOk P w H h a u := e.ok ok
theorem dk_rd {kvs : List (Key × V)} (ok : HOk P w H h) (e : Rd H a (.dK kvs)) : kvs.length ≤ sizeLine ∧ (a == sysModules) = false ∧ ∃ vs, KV kvs vs ∧ h.DictOf (mixKind P w) a vs :=
  show ObjOk P w H h a (.dK kvs) from rd_of ok e
theorem dk_of {kvs : List (Key × V)} (ok : HOk P w H h) (e : H a = some (.dK kvs)) : kvs.length ≤ sizeLine ∧ (a == sysModules) = false ∧ ∃ vs, KV kvs vs ∧ h.DictOf (mixKind P w) a vs := dk_rd ok (.inl e)
/-- a tracked tuple of ints and texts is a key -/
theorem key_of {ks : List Key} (ok : HOk P w H h) (e : H a = some (.tup (ks.map kV))) : (tupleKind (mixKind P w)).is h ks a := by
  obtain ⟨_, its, r, o, h1, h2, n, h3⟩ := (show ObjOk P w H h a (.tup (ks.map kV)) from ok a _ e)
  exact ⟨o, its.toArray, n, h1, h2, h3, by simpa using items_are r⟩
theorem dt_rd {kvs : List (List Key × V)} (ok : HOk P w H h) (e : Rd H a (.dT kvs)) : kvs.length ≤ sizeLine ∧ (a == sysModules) = false ∧
    ∃ xs, KT H kvs xs ∧ h.DictOfH (tupleKind (mixKind P w)) a xs := by
  obtain ⟨z, y, xs, r, o, es, ep, h1, h2, h3, h4, h5⟩ := (show ObjOk P w H h a (.dT kvs) from rd_of ok e)
  refine ⟨z, y, xs, r, o, es, ep, h1, h2, h3, h4, fun x hx => ?_, h5⟩
  have all : ∀ {l : List (List Key × V)} {m : List (List Key × Addr × Value)}, KT H l m → ∀ x ∈ m, (tupleKind (mixKind P w)).is h x.1 x.2.1 := by
    intro l m q
    induction q with
    | nil => intro x hx; exact nomatch hx
    | @cons p q ps qs hq t ih =>
      intro x hx
      rcases List.mem_cons.mp hx with e | hx
      · subst e
        exact key_of ok (by rw [← hq.1]; exact hq.2.1)
      · exact ih x hx
  exact all r x hx
end

/-- what the dict at a holds at the key y -/
def DGet (H : Hp) (a : Addr) (y : V) (r : Option V) : Prop :=
  (∃ kvs k, Rd H a (.dK kvs) ∧ y = kV k ∧ r = valV kvs k) ∨ ∃ kvs k b, Rd H a (.dT kvs) ∧ y = .ref b ∧ H b = some (.tup (k.map kV)) ∧ r = valV kvs k
theorem DGet.k {H : Hp} {a : Addr} {kvs : List (Key × V)} {k : Key} (e : H a = some (.dK kvs)) : DGet H a (kV k) (valV kvs k) := .inl ⟨kvs, k, .inl e, rfl, rfl⟩


section
variable {X : Cx} {pins : List (Addr × Obj)} {σ : St} {H : Hp} {s : Shared} {a : Addr} {y v : V} {u r : Value} {o : Option V} {A : Around} {E : Value → Shared → Prop}

theorem Inv.big (I : Inv X pins σ H s) : sysModules < s.heap.objs.size := by
  have h : mainGlobals < s.heap.objs.size := (I.mod.glob.keeps I.bk).lt
  exact Nat.lt_trans (by decide) h

/-- d[y], there -/
theorem d_getItem {Q : Value → Shared → Prop} (hu : A.units + 1 < cLine) (I : Inv X pins σ H s) (g : DGet H a y (some v)) (ry : RelV y u) (h : ∀ w' s', Inv X pins σ H s' → RelV v w' → Q w' s') :
    wpAny (model X.prog X.w) A (getItem (.ref a) u) Q E s := by
  rcases g with ⟨kvs, k, e, ey, l⟩ | ⟨kvs, k, b, e, ey, eb, l⟩
  · subst ey
    obtain ⟨z, hd, vs, rel, dd⟩ := dk_rd I.hok e
    obtain ⟨w', hw, rw'⟩ := RelO.some_of (v := v) (o := valueAt vs k) (by rw [l]; exact rel.val k)
    exact wpAny_getItem_of (kV_is ry) dd.mapOf hw (h w' _ (I.tok _) rw')
  · subst ey
    cases (show u = Value.ref b from ry)
    obtain ⟨z, hd, xs, rel, dd⟩ := dt_rd I.hok e
    obtain ⟨w', hw, rw'⟩ := RelO.some_of (v := v) (o := (atKey xs k).map (·.2)) (by rw [l]; exact rel.val k)
    obtain ⟨p, hp, hp2⟩ := Option.map_eq_some_iff.mp hw
    refine wpAny_getItem_heap (tupleKind_room_in1 hu) (key_of I.hok eb) dd hp ?_
    rw [hp2]
    exact h w' _ (I.tok _) rw'
theorem d_notIn {Q : Value → Shared → Prop} (hu : A.units + 1 < cLine) (I : Inv X pins σ H s) (g : DGet H a y o) (ry : RelV y u) (h : ∀ s', Inv X pins σ H s' → Q (.bool (!o.isSome)) s') :
    wpAny (model X.prog X.w) A (compareOp .NotIn u (.ref a)) Q E s := by
  rcases g with ⟨kvs, k, e, ey, l⟩ | ⟨kvs, k, b, e, ey, eb, l⟩
  · subst ey
    obtain ⟨z, hd, vs, rel, dd⟩ := dk_rd I.hok e
    refine wpAny_notIn_of (kV_is ry) hd dd.mapOf ?_
    rw [← (rel.val k).isSome_eq, ← l]
    exact h _ (I.tok _)
  · subst ey
    cases (show u = Value.ref b from ry)
    obtain ⟨z, hd, xs, rel, dd⟩ := dt_rd I.hok e
    refine wpAny_notIn_heap (tupleKind_room_in1 hu) (key_of I.hok eb) hd dd ?_
    have q := (rel.val k).isSome_eq
    rw [Option.isSome_map] at q
    rw [← q, ← l]
    exact h _ (I.tok _)
/-- a dict's object is replaced -/
theorem d_write {h' : Heap} {t' : Nat} {ob : HO} (I : Inv X pins σ H s) (mu : Mut (H a)) (hs : Heap.SameBut a s.heap h') (he : ∃ q, h'.get? a = some q) (new : ObjOk X.prog X.w (upd H a ob) h' a ob) :
    Inv X pins σ (upd H a ob) { s with heap := h', toks := t' } :=
  I.write (x := a) (e := a) mu (.inl rfl) (fun b q hb z => (hs.2 b hb).trans z) he new
theorem dk_new {P : Program} {w : World} {H' : Hp} {h' : Heap} {kvs : List (Key × V)} {vs : List (Key × Value)} (z : kvs.length ≤ sizeLine) (hd : (a == sysModules) = false) (rel : KV kvs vs) (dd : h'.DictOf (mixKind P w) a vs) :
    ObjOk P w H' h' a (.dK kvs) := ⟨z, hd, vs, rel, dd⟩
end

section
variable {X : Cx} {pins : List (Addr × Obj)} {σ : St} {H : Hp} {s : Shared} {a : Addr} {kvs : List (Key × V)} {k : Key} {u : Value} {A : Around} {E : Value → Shared → Prop}
end


/-! ### readings and rules -/
/-- the element of a subscription, not a slice -/
def NoSl (i : Expr) : Prop := ∀ ov iv, subscripted i false ov iv = operate [ov, iv] (getItem ov iv)
theorem subD_of {prog : Program} {w : World} {A : Around} {E : Value → Shared → Prop} {s : Shared} {env : Env} {value slice : Expr} {pos : Pos} {T id : String} {Q : Value → Shared → Prop}
    (hl : typeLookup (.type T) "__getitem__" = pure (some (.builtin id))) (hs : NoSl slice)
    (h : wpAny (model prog w) A (eval value env) (fun o s₁ => wpAny (model prog w) A (eval slice env) (fun i s₂ => s₂.TypeIs o T ∧ wpAny (model prog w) A (getItem o i) Q E s₂) E s₁) E s) :
    wpAny (model prog w) A (eval (.Subscript value slice pos) env) Q E s := by
  refine Subscript_ (wpAny_mono h (fun o s₁ h₁ => wpAny_mono h₁ (fun i s₂ h₂ => ?_) fun _ _ x => x) fun _ _ x => x)
  obtain ⟨hT, h₂⟩ := h₂
  unfold subscriptTail
  refine wpAny_bind ?_
  rw [getitemInPython_of_ne hT.not_modules]
  refine wpAny_bind (wpAny_specialOf hT hl ?_)
  have fin : wpAny (model prog w) A (subscripted slice false o i) (fun r s₃ => wpAny (model prog w) A (letTemporaryGo value o r >>= fun _ => pure r) Q E s₃) E s₂ := by
    rw [hs o i]
    exact wpAny_operating (wpAny_mono h₂ (fun r s₃ h₃ => wpAny_bind (wpAny_letTemporaryGo (wpAny_pure h₃))) fun _ _ x => x)
  first
    | exact wpAny_pure (wpAny_bind fin)
    | exact wpAny_bind (wpAny_pure (wpAny_bind fin))
    | exact wpAny_bind fin

theorem dict_typeIs {X : Cx} {pins : List (Addr × Obj)} {σ : St} {H : Hp} {s : Shared} {a : Addr} {y : V} {o : Option V} (I : Inv X pins σ H s) (g : DGet H a y o) : s.TypeIs (.ref a) "dict" := by
  rcases g with ⟨kvs, k, e, _, _⟩ | ⟨kvs, k, b, e, _, _, _⟩
  · obtain ⟨_, _, vs, _, dd⟩ := dk_rd I.hok e
    exact dd.typeIs
  · obtain ⟨_, _, xs, _, dd⟩ := dt_rd I.hok e
    exact dd.typeIs

/-- d[y] -/
def tDGet (td ty : TE) : TE := fun σ H Q => td σ H fun x H1 => ty σ H1 fun y H2 => ∃ a v, x = .ref a ∧ DGet H2 a y (some v) ∧ Q v H2

section
variable {X : Cx} {o i e value : Expr} {pos pos' tpos : Pos} {td ty tv : TE}
theorem pe_dget (hu : X.A.units + 1 < cLine) (ho : PE X o td) (hi : PE X i ty) (hs : NoSl i) : PE X (.Subscript o i pos) (tDGet td ty) := by
  intro pins s σ H Q I h
  refine subD_of PySem.F.slot_dict_getitem.lookup hs (thn (ho pins s σ H _ I h) fun u s1 ⟨x, H1, I1, rx, q1⟩ => thn (hi pins s1 σ H1 _ I1 q1) fun iv s2 ⟨y, H2, I2, ry, a, v, ex, g, q2⟩ => ?_)
  subst ex
  obtain rfl : u = Value.ref a := rx
  exact ⟨dict_typeIs I2 g, d_getItem hu I2 g ry fun w' s3 I3 rw' => ⟨v, H2, I3, rw', q2⟩⟩
end


/-! ### displays -/
theorem dk_empty {P : Program} {w : World} {H : Hp} (h : Heap) (hb : sysModules < h.objs.size) : ObjOk P w H (h.push { cls := .type "dict", data := .dict #[] }) h.objs.size (.dK []) :=
  ⟨Nat.zero_le _, beq_eq_false_iff_ne.mpr (Ne.symm (Nat.ne_of_lt hb)), [], .nil, Heap.DictOf.new h⟩
section
variable {X : Cx} {pos : Pos}
end

/-- the pairs of a display, from the left -/
def tPairs : List (TE × TE) → St → Hp → (List (V × V) → Hp → Prop) → Prop
  | [], _, H, Q => Q [] H
  | (tk, tv) :: r, σ, H, Q => tk σ H fun x H1 => tv σ H1 fun y H2 => tPairs r σ H2 fun ps H3 => Q ((x, y) :: ps) H3
abbrev VV : List (V × V) → List (Value × Value) → Prop := Paired fun p q => RelV p.1 q.1 ∧ RelV p.2 q.2
def PPs (X : Cx) (pos : Pos) (keys : List (Option Expr)) (values : List Expr) (trs : List (TE × TE)) : Prop :=
  ∀ (pins : List (Addr × Obj)) (s : Shared) (σ : St) (H : Hp) (Q : List (V × V) → Hp → Prop), Inv X pins σ H s → tPairs trs σ H Q →
    wpAny (model X.prog X.w) X.A (evalPairs (pairTrees keys values X.env pos)) (fun vs s' => ∃ ps H', Inv X pins σ H' s' ∧ VV ps vs ∧ Q ps H') X.xe s
theorem pps_nil {X : Cx} {pos : Pos} : PPs X pos [] [] [] := fun pins s σ H Q I h => pairTrees_nil_walk ⟨[], H, I, .nil, h⟩
theorem pps_cons {X : Cx} {pos : Pos} {k v : Expr} {ks : List (Option Expr)} {vs : List Expr} {tk tv : TE} {trs : List (TE × TE)} (hk : PE X k tk) (hv : PE X v tv) (hr : PPs X pos ks vs trs) :
    PPs X pos (some k :: ks) (v :: vs) ((tk, tv) :: trs) := fun pins s σ H Q I h =>
  pairTrees_cons_walk (thn (hk pins s σ H _ I h) fun u s1 ⟨x, H1, I1, rx, q1⟩ => thn (hv pins s1 σ H1 _ I1 q1) fun w2 s2 ⟨y, H2, I2, ry, q2⟩ =>
    thn (hr pins s2 σ H2 _ I2 q2) fun ws s3 ⟨ps, H3, I3, rel, q3⟩ => ⟨(x, y) :: ps, H3, I3, .cons ⟨rx, ry⟩ rel, q3⟩)

def mergeK (kvs more : List (Key × V)) : List (Key × V) := more.foldl (fun acc kv => putK acc kv.1 kv.2) kvs
theorem KV.merge : ∀ {more : List (Key × V)} {rs : List (Key × Value)} {kvs : List (Key × V)} {vs : List (Key × Value)}, KV more rs → KV kvs vs → KV (mergeK kvs more) (merged vs rs) := by
  intro more rs kvs vs r
  unfold KV at r
  induction r generalizing kvs vs with
  | nil => intro q; exact q
  | @cons p q ps qs h t ih =>
    intro r0
    have e : KV (putK kvs p.1 p.2) (stored vs q.1 q.2) := by
      have := r0.put p.1 h.2
      rw [← h.1]; exact this
    exact ih e
theorem length_mergeK : ∀ (more kvs : List (Key × V)), (mergeK kvs more).length ≤ kvs.length + more.length
  | [], kvs => by show kvs.length ≤ kvs.length + 0; omega
  | p :: r, kvs => by
    have h1 := length_mergeK r (putK kvs p.1 p.2)
    have h2 := length_putK kvs p.1 p.2
    show (mergeK (putK kvs p.1 p.2) r).length ≤ _
    rw [List.length_cons]; omega
theorem carries_of {P : Program} {w : World} : ∀ {kvs : List (Key × V)} {ws : List (Value × Value)}, VV (kvs.map fun kv => (kV kv.1, kv.2)) ws → ∃ rs, Carries (mixKind P w) ws rs ∧ KV kvs rs
  | [], _, r => by rw [List.map_nil] at r; cases r; exact ⟨[], True.intro, .nil⟩
  | p :: kvs, _, r => by
    rw [List.map_cons] at r
    cases r with
    | @cons a b as bs h t =>
      obtain ⟨rs, c, q⟩ := carries_of (P := P) (w := w) t
      obtain ⟨b1, b2⟩ := b
      exact ⟨(p.1, b2) :: rs, ⟨kV_is h.1, rfl, c⟩, .cons ⟨rfl, h.2⟩ q⟩
/-- {k: v, ..} with keys ints and texts; the new dict stands empty while the pairs are made -/
def tDisp (trs : List (TE × TE)) : TE := fun σ H Q => ∀ p, H p = none → tPairs trs σ (upd H p (.dK [])) fun ps H2 => H2 p = some (.dK []) ∧ ∃ kvs : List (Key × V), ps = kvs.map (fun kv => (kV kv.1, kv.2)) ∧ kvs.length ≤ 15 ∧ Q (.ref p) (upd H2 p (.dK (mergeK [] kvs)))
theorem pe_disp {X : Cx} {pos : Pos} {keys : List (Option Expr)} {values : List Expr} {trs : List (TE × TE)} (h : PPs X pos keys values trs) (hall : keys.all (·.isSome) = true) (hl : keys.length = values.length) (h0 : keys ≠ [])
    (h15 : keys.length ≤ 15) : PE X (.Dict keys values pos) (tDisp trs) := by
  intro pins s σ H Q I q
  have hn := I.hok.fresh (Nat.le_refl s.heap.objs.size)
  have I1 := I.laid (a := s.heap.objs.size) (o := .dK []) (h' := s.heap.push { cls := .type "dict", data := .dict #[] }) (t' := s.toks) (fun _ _ q => Heap.get?_push_of_some _ q) (Nat.le_refl _) (dk_empty s.heap I.big)
  refine wpAny_Dict_walk (knd := mixKind X.prog X.w) hall hl h0 h15 (thn (h pins _ σ _ _ I1 (q _ hn)) fun ws s2 ⟨ps, H2, I2, rel, e, kvs, ep, lk, q2⟩ => ?_)
  subst ep
  obtain ⟨rs, c, rk⟩ := carries_of (P := X.prog) (w := X.w) rel
  obtain ⟨z, hd, vs0, r0, dd⟩ := dk_of I2.hok e
  cases r0
  refine ⟨rs, c, dd, fun h' dd' hs => ⟨.ref s.heap.objs.size, _, ?_, rfl, q2⟩⟩
  have hz : (mergeK [] kvs).length ≤ sizeLine := by
    have h1 := length_mergeK kvs []
    rw [List.length_nil] at h1
    rw [sizeLine_eq]; omega
  have he : ∃ q, h'.get? s.heap.objs.size = some q := let ⟨q, _, _, hq, _⟩ := dd'; ⟨q, hq⟩
  exact d_write I2 (by rw [e]; exact True.intro) hs he (dk_new hz hd (rk.merge .nil) dd')


/-! ### methods -/


section
variable {X : Cx} {pins : List (Addr × Obj)} {σ : St} {H : Hp} {s : Shared} {a : Addr} {y d : V} {u r : Value} {o : Option V} {A : Around} {E : Value → Shared → Prop}
end

section
variable {X : Cx} {o e f : Expr} {apos cpos : Pos} {td ty tx : TE}
end

/-! ### dict(d): a copy -/
section
variable {X : Cx} {pins : List (Addr × Obj)} {σ : St} {H : Hp} {s : Shared} {a : Addr} {kvs : List (Key × V)} {A : Around} {E : Value → Shared → Prop}
end


section
variable {X : Cx} {pins : List (Addr × Obj)} {σ : St} {H : Hp} {s : Shared} {a : Addr} {y : V} {u : Value} {A : Around} {E : Value → Shared → Prop}
end
end L2

namespace Att
open PySem PySem.W PySem.Calls PyProof.Rows

/-! ### the script -/
theorem ints_of_wellAll {P : Params} {h : Heap} : ∀ (ns : List Int) (vs : List Value), WellAll P h vs (ns.map WData.int) → IntsAre vs ns := by
  intro ns
  induction ns with
  | nil =>
    intro vs w
    rw [List.map_nil] at w
    cases w
    exact .nil
  | cons n ns ih =>
    intro vs w
    rw [List.map_cons] at w
    cases w with
    | cons a b =>
      cases a
      exact .cons _ _ (ih _ b)

theorem script_of {l : OpenLaw} {n : Nat} (hn : l.most = some n) {P : Params} {h : Heap} {args : List WData} {vals : List Value}
    (hpre : l.row.toRowW.claim.pre args = true) (hwl : WellAll P h vals args) :
    ∃ a vs ns, vals = [Value.ref a] ∧ args = [WData.list (ns.map WData.int)] ∧ h.get? a = some { cls := .type "list", data := .seq vs.toArray } ∧ IntsAre vs ns ∧ ns.length ≤ n := by
  have hsh : WShape.hasAll [] args [.list .int] = true := (pre_splitW hpre).1
  have hc : l.pre.holds [] { args := args } = true := (pre_splitW hpre).2
  obtain ⟨d, r, rfl, h1, h2⟩ := hasAllW_cons hsh
  obtain rfl := hasAllW_nil h2
  obtain ⟨xs, rfl, h3⟩ := hasW_list h1
  obtain ⟨ns, rfl⟩ := items_int h3
  have hlen : ns.length ≤ n := by
    unfold OpenLaw.pre at hc
    have h4 : (WTm.not (.lt (.lit (.int (n : Int))) (.len (.arg 0)))).holds [] { args := [.list (ns.map .int)] } = true := by
      have h4 := (holds_andW hc).1
      rw [hn] at h4
      exact h4
    have h5 := condW_of h4 (w_not (w_lt w_lit (w_len_list (w_arg rfl))))
    rw [List.length_map] at h5
    refine Nat.le_of_not_lt fun q => ?_
    have q' : (n : Int) < ((ns.length : Nat) : Int) := by omega
    first
      | (rw [decide_eq_true q'] at h5; exact absurd h5 (by decide))
      | (simp at h5; omega)
  cases hwl with
  | cons w1 w2 =>
    cases w2
    cases w1 with
    | list ho hall => exact ⟨_, _, ns, rfl, rfl, ho, ints_of_wellAll ns _ hall, hlen⟩

theorem post_true (l : OpenLaw) (args : List WData) : l.row.toRowW.claim.post args (.bool true) args = true :=
  postW_of (r := l.row.toRowW) (X := (true == true))
    (show WShape.has [] (.bool true) .bool = true by first | rfl | decide | simp [WShape.has, WShape.arms, WShape.armsAll])
    (show (WTm.eq .res (.lit (.bool true))).value [] { args := args, res := some (.bool true), after := args } = some (.bool (true == true)) from w_eq_bool (w_res rfl) w_lit) rfl

/-! ### the attachment: holds_open's last premise (the goal 'hc' behind k_head) from a wpAny of the law's body -/

/-- the same from a codeAny of the CALL (for a layer whose function contracts speak of calls) -/
theorem attach_call {l : OpenLaw} {n : Nat} {q : Program} {loose : List Str} {XP : (Str → Option Value) → Heap → Prop} {YP : World → Heap → Prop} {d : DefRec}
    (hn : l.most = some n) (hdf : d.params.defaults = [])
    (call : ∀ (w : World) (s₀ s₁ : Shared) (mg mb : Str → Option Value) (fa : Addr) (o : Obj) (pm cd doc : Value) (a : Addr) (vs : List Value) (ns : List Int),
      Ground q loose [] XP w s₀ mg mb s₁.heap → YP w s₁.heap →
      s₁.heap.get? fa = some o → o.data = .func (docDef d.name d.params d.body d.scope pm cd doc) → s₁.heap.CodeRec cd d.name → mg d.name = some (.ref fa) →
      s₁.heap.get? a = some { cls := .type "list", data := .seq vs.toArray } → IntsAre vs ns → ns.length ≤ n → s₁.gens = #[] →
      codeAny (model l.prog w) callerA (.call (.ref fa) ⟨[.ref a], []⟩) (fun r s' => r = .ok (.ret (.bool true)) ∧ OldK s₁.heap s'.heap ∧ s'.os = s₁.os ∧ AllBare s'.gens) s₁) :
    WalkO q loose XP YP l.row.toRowW d [] (fun f vs => PySem.call f vs) := by
  intro w s₀ s₁ mg mb G Y fa o pm cd doc dV kV ho hd hcd hD hmg hg args vals as hpre hlay hrd hwl hlo
  obtain rfl : dV = .none := Dflts.none hD hdf
  obtain rfl : kV = .none := Dflts.noKw hD
  obtain ⟨a, vs, ns, rfl, rfl, hobj, hints, hlen⟩ := script_of hn hpre hwl
  refine enter_call (codeAny_mono (call w s₀ s₁ mg mb fa o pm cd doc a vs ns G Y ho (fd_plain hd) hcd hmg hobj hints hlen hg) fun r s' hq => ?_)
  obtain ⟨rfl, h2, h3, h4⟩ := hq
  exact ⟨.inl ⟨.bool true, .bool true, [], rfl, fun _ => rfl, .bool true, post_true l _, fun _ => ⟨List.Pairwise.nil, fun _ hm => (nomatch hm)⟩⟩, h2, h3, h4⟩


/-! ### rules over ANY heap (no ledger) from facts about the written part K: the library's own take a ledger (News) for what they write -/
section
variable {prog : Program} {w : World} {A : Around} {E : Value → Shared → Prop} {s : Shared} {K : Frag}





/-! the whole heap as the ledger: makes every rule that writes through a ledger a rule over any heap -/

end
end Att

namespace L2
open PySem PySem.Spec PyProof.Rows

theorem vals_ints : ∀ {vs : List Value} {ns : List Int}, IntsAre vs ns → Vals (ns.map V.int) vs
  | _, _, .nil => .nil
  | _, _, .cons n t h => .cons ⟨t, rfl⟩ (vals_ints h)

/-- nothing is tracked but the script, known to the object (or it is an object of the module) -/
def Only (H : Hp) : Prop := ∀ b, H b = none ∨ ∃ o xs, H b = some (.frz o (.lst xs))

/-- THE HEAD: the law's promise, at the heap behind the top. F, the promise of the law's def, may use that base is part of the heap (so K.In base, base.Ns mainGlobals mg stand in Mod) -/
theorem law_call {P : Program} {w : World} {K : PySem.W.Frag} {mg mb : Str → Option Value} {CX : CXT} {k : Nat} {fa a : Addr} {fd : FuncData} {x : Str} {sp : Sp} {s₁ : Shared} {vs : List Value} {ns : List Int}
    (KX : K.In s₁.heap) (hns : s₁.heap.Ns mainGlobals mg) (hb : s₁.heap.Ns builtinsNs mb) (hbb : ∀ x : Str, x ≠ "__name__" → mb x = bootBuiltins x) (hlim : s₁.heap.NoLimit) (hg : s₁.gens = #[])
    (ha : s₁.heap.get? a = some { cls := .type "list", data := .seq vs.toArray }) (hi : IntsAre vs ns) (hl : ns.length ≤ sizeLine) (hr : Room k callerA)
    (F : ∀ base : Heap, K.In base → base.Ns mainGlobals mg → FnOk P w K mg base CX k fa fd [x] sp) (hbind : ∀ (s : Shared) (u : Value), BindsTo s fd ⟨[u], []⟩ [(x, u)])
    (hsp : ∀ H : Hp, Only H → SqL K H a (ns.map V.int) → sp [.ref a] H (fun v _ => v = .bl true) fun _ _ _ => False)
    (hCX : ∀ H e s', CX [] H s₁ (fun _ _ _ => False) e s' → False) :
    codeAny (model P w) callerA (.call (.ref fa) ⟨[.ref a], []⟩) (fun r s' => r = .ok (.ret (.bool true)) ∧ OldK s₁.heap s'.heap ∧ s'.os = s₁.os ∧ AllBare s'.gens) s₁ := by
  have rv := vals_ints hi
  have lenV := hi.length
  -- from an abstract heap in which nothing but the script may be tracked
  have core : ∀ H : Hp, Only H → SqL K H a (ns.map V.int) → HOk P w H s₁.heap → (∀ b, H b ≠ none → b = a) → (H a ≠ none → K.lookup a = none) →
      codeAny (model P w) callerA (.call (.ref fa) ⟨[.ref a], []⟩) (fun r s' => r = .ok (.ret (.bool true)) ∧ OldK s₁.heap s'.heap ∧ s'.os = s₁.os ∧ AllBare s'.gens) s₁ := by
    intro H hO hS hok hA hK
    have base_of : ∀ {b : Addr} {o : Obj}, s₁.heap.get? b = some o → H b = none → (hidT s₁.heap H).get? b = some o := fun e n => hidT_get e n
    have noA : ∀ {b : Addr} {o : Obj} {es : Array DictEntry} {ep : Nat}, s₁.heap.get? b = some o → o.data = .dict es ep → H b = none := fun {b o es ep} e d => by
      cases q : H b with
      | none => rfl
      | some u =>
        have e' : b = a := hA b (by rw [q]; simp)
        subst e'
        rw [ha] at e; cases e
        have d' : Data.seq vs.toArray _ = Data.dict es ep := d
        cases d'
    have nsK : ∀ {b : Addr} {m : Str → Option Value}, s₁.heap.Ns b m → (hidT s₁.heap H).Ns b m := fun {b m} ⟨o, es, ep, e, d, r⟩ => ⟨o, es, ep, base_of e (noA e d), d, r⟩
    have hKb : K.In (hidT s₁.heap H) := fun b o e => base_of (KX b o e) (by
      cases q : H b with
      | none => rfl
      | some u =>
        have e' : b = a := hA b (by rw [q]; simp)
        subst e'
        rw [hK (by rw [q]; simp)] at e; cases e)
    have hM : Mod K mg (hidT s₁.heap H) := ⟨hKb, nsK hns, ⟨mb, nsK hb, hbb⟩, let ⟨mc, h1, h2⟩ := hlim; ⟨mc, nsK h1, h2⟩⟩
    have e0 : Env0 P w K mg (hidT s₁.heap H) callerA [] s₁ H := ⟨rfl, hM, fun b o e => of_hidT e, Nat.le_of_eq (hidT_size _ _), trivial, fun b hb => absurd (show b ∈ ([] : List Addr) from hb) (by simp), hok, .of_eq hg⟩
    refine codeAny_mono ((F _ hKb (nsK hns)).run callerA [] s₁ H ⟨[.ref a], []⟩ [.ref a] [.ref a] _ _ hr e0 (hbind s₁ (.ref a)) (.cons rfl .nil) (hsp H hO hS)) fun r s' h => ?_
    cases r with
    | error e => exact (hCX H e s' h).elim
    | ok fl =>
      cases fl with
      | next => exact False.elim h
      | brk => exact False.elim h
      | cont => exact False.elim h
      | ret u =>
        obtain ⟨v, H', os, bare, un, hok', r', q⟩ := h
        have q' : v = .bl true := q
        subst q'
        obtain rfl : u = Value.bool true := r'
        refine ⟨rfl, OldK.of_keep fun b o e => ?_, os, bare⟩
        cases q : H b with
        | none => exact un.keep b o e q (by intro z; exact absurd (show b ∈ ([] : List Addr) from z) (by simp)) (by simp)
        | some u =>
          rcases hO b with z | ⟨ob, xs, z⟩
          · rw [q] at z; cases z
          · have z2 := un.frzs b ob _ z
            obtain ⟨e1, _⟩ := hok b _ z
            obtain ⟨e2, _⟩ := hok' b _ z2
            rw [e] at e1; cases e1
            exact e2
  cases hk : K.lookup a with
  | some o =>
    -- the script is one of the module's own objects
    have e := KX a o hk
    rw [ha] at e
    cases e
    refine core (fun _ => none) (fun _ => .inl rfl) (.inr ⟨_, vs.toArray, _, hk, rfl, rfl, rfl, by rw [List.size_toArray, lenV]; exact hl, by simpa using rv⟩) (fun b u z => by have z' : (none : Option HO) = some u := z; cases z') (fun b z => absurd rfl z) fun z => absurd rfl z
  | none =>
    refine core (fun b => if b = a then some (.frz { cls := .type "list", data := .seq vs.toArray } (.lst (ns.map V.int))) else none) (fun b => ?_) (.inl (.inr ⟨{ cls := .type "list", data := .seq vs.toArray }, if_pos rfl⟩)) (fun b u z => ?_) (fun b z => ?_) fun _ => hk
    · by_cases hb : b = a
      · exact .inr ⟨_, _, if_pos hb⟩
      · exact .inl (if_neg hb)
    · by_cases hb : b = a
      · have z' := (if_pos hb).symm.trans z
        cases z'
        subst hb
        exact ⟨ha, by rw [List.length_map]; exact hl, vs, _, rv, ha⟩
      · have z' := (if_neg hb).symm.trans z
        cases z'
    · by_cases hb : b = a
      · exact hb
      · exact absurd (if_neg hb) z
end L2

namespace L2
open PySem PySem.Spec PyProof.Rows


/-- the goal that k_head leaves (case hc), from the law's promise. F gives the function object fd (K's own) once, then the promise over every base -/
theorem walk_of {l : PySem.W.OpenLaw} {n k : Nat} {q : Program} {loose : List Str} {XP : (Str → Option Value) → Heap → Prop} {YP : World → Heap → Prop} {d : DefRec} {K : Params → PySem.W.Frag} {CX : World → CXT} {sp : World → Sp} {x : Str}
    (hn : l.most = some n) (hn2 : n ≤ sizeLine) (hdf : d.params.defaults = []) (hr : Room k callerA)
    (hY : ∀ (w : World) (h : Heap), YP w h → (K w.params).In h)
    (F : ∀ (w : World) (mg : Str → Option Value) (fa : Addr) (h : Heap), (K w.params).In h → h.Ns mainGlobals mg → mg d.name = some (.ref fa) →
      ∃ fd : FuncData, (∀ (s : Shared) (u : Value), BindsTo s fd ⟨[u], []⟩ [(x, u)]) ∧
        ∀ base : Heap, (K w.params).In base → base.Ns mainGlobals mg → FnOk l.prog w (K w.params) mg base (CX w) k fa fd [x] (sp w))
    (hsp : ∀ (w : World) (H : Hp) (a : Addr) (ns : List Int), ns.length ≤ n → Only H → SqL (K w.params) H a (ns.map V.int) → sp w [.ref a] H (fun v _ => v = .bl true) fun _ _ _ => False)
    (hCX : ∀ (w : World) (H : Hp) (s : Shared) (e : Value) (s' : Shared), CX w [] H s (fun _ _ _ => False) e s' → False) :
    PySem.W.WalkO q loose XP YP l.row.toRowW d [] (fun f vs => PySem.call f vs) := by
  refine Att.attach_call hn hdf fun w s₀ s₁ mg mb fa o pm cd doc a vs ns G Y ho hd hcd hmg hobj hints hlen hg => ?_
  have KX := hY w _ Y
  obtain ⟨fd, hb, hF⟩ := F w mg fa _ KX G.T.g hmg
  exact law_call KX G.T.g G.T.b G.T.builtins G.T.nolimit hg hobj hints (Nat.le_trans hlen hn2) hr hF hb (fun H hO hS => hsp w H a ns hlen hO hS) fun H e s' => hCX w H s₁ e s'
end L2

/- THE LAST THEOREM (shape; LID, My.* are yours):
   My.Adr: a structure of the addresses that your layer names (classes, functions); My.Txt K t: a structure (Prop) of the equations over K;
   My.txt_mk : {K} {implicit addresses ..} (e1 : nsIn K mainGlobals "law" = some (some (.ref f))) (e2 : K.lookup f = some ⟨oc, od, .func (fnOf "law" "law" params body scope dV kV doc pm an cdv ct), sl⟩) (e3 : codeIn K cdv "law" = true) .. : ∃ t, My.Txt K t

set_option maxRecDepth 100000 in
set_option maxHeartbeats 0 in
theorem PySem.Challenge.cw_LID_holds : PySem.Challenge.rw_LID.Holds := by
  w_on; o_law; k_head; (case hw => w_witness2)
  k_fill
  refine L2.walk_of (l := PySem.Challenge.rw_LID) (n := 63) (k := 40) (x := "script") (CX := fun w => ..) (sp := fun _ => My.sp_law) rfl (by decide) rfl ⟨rfl, by decide, by decide⟩ (fun w h Y => PySem.W.kIn_of Y) ?F ?S ?C
  case F =>
    intro w mg fa h KX G hmg
    have T : ∃ t, My.Txt (L2.KOf KX) t := by
      dsimp only [L2.KOf]                          -- K must stand as «<heap const> w.params» for k_is
      refine' My.txt_mk ?e1 ?e2 ?e3 ..
      (case e1 => PySem.W.k_is)                    -- in the order: a name -> its address -> its object -> its parts
      (case e2 => PySem.W.k_is)
      ..
    obtain ⟨t, T⟩ := T
    have e0 := hmg.symm.trans (PySem.W.mg_of KX G T.law)
    cases e0                                       -- fa is the law's own address
    exact ⟨_, fun s u => .of_eq rfl, fun base kb nb => My.law_fn T kb nb⟩     -- if «.of_eq rfl» comes too early: refine' ⟨_, ?b, fun base kb nb => My.law_fn T kb nb⟩; exact fun s u => .of_eq rfl
  case S => exact fun w H a ns hl hO hS => ..
  case C => exact ..
(the tactic k_is has no namespace: write k_is) -/

/-! SHORT WORDS over the layer: a def of the text, its body, what a loop and a test want. -/
namespace L2
open PySem PySem.Spec PyProof.Rows

/-! ### the text by places -/
def defArgs (s : Stmt) : Arguments := match s with
  | .FunctionDef _ a _ _ _ _ _ _ _ _ => a
  | _ => { posonlyargs := [], args := [], vararg := none, kwonlyargs := [], kw_defaults := [], kwarg := none, defaults := [] }
def defBody (s : Stmt) : List Stmt := match s with
  | .FunctionDef _ _ b _ _ _ _ _ _ _ => b
  | _ => []
def defScope (s : Stmt) : Scope := match s with
  | .FunctionDef _ _ _ _ _ _ sc _ _ _ => sc
  | _ => { kind := .function, names := [], isGenerator := false, isCoroutine := false }

/-! ### no exception leaves a def -/
abbrev CX0 : CXT := fun _ _ _ _ _ _ => False
abbrev E0 : XK := fun _ _ _ => False
theorem pass0 {X : Cx} : Passes CX0 X E0 := fun _ _ _ _ _ _ _ h => h.elim

/-! ### a def (or method) of the text as it stands behind the top -/
structure Fun (K : PySem.W.Frag) (x qual : Str) (st : Stmt) (f : Addr) (fd : FuncData) : Prop where
  ex : ∃ (oc : Value) (od : Option Addr) (kV doc pm : Value) (an : Option Addr) (cdv ct : Value) (osl : Array (Option Value)),
    fd = PySem.W.fnOf x qual (defArgs st) (defBody st) (defScope st) .none kV doc pm an cdv ct ∧ K.lookup f = some ⟨oc, od, .func fd, osl⟩ ∧ PySem.W.codeIn K cdv qual = true
  kp : PySem.W.keepIn K (.ref f) = true
section
variable {P : Program} {w : World} {K : PySem.W.Frag} {mg : Str → Option Value} {base : Heap}
/-- THE RULE for a def: its body as a term of rules, and the reading of that term -/
theorem Fun.ok {x qual : Str} {st : Stmt} {f : Addr} {fd : FuncData} {N ps : List Str} {k : Nat} {sp : Sp} (F : Fun K x qual st f fd) (S : FnScope N ps (defScope st)) (len : ∀ vs H Q E, sp vs H Q E → vs.length = ps.length)
    (hbody : ∀ (cdv : Value) (A : Around) (outer : List Env) (s : Shared) (H : Hp) (vs : List V) (Q : VK) (E : XK), Room k (A.deeper (envOfC qual (defScope st) s.heap.objs.size f cdv)) → sp vs H Q E →
      ∃ t, PSs (cxOf CX0 P w K mg base N qual (defScope st) f cdv A outer s H E).nox (defBody st) t ∧ t { nx := fun _ H' => Q .non H', rt := Q } (start N vs) H) : FnOk P w K mg base CX0 (k + 1) f fd ps sp := by
  obtain ⟨oc, od, kV, doc, pm, an, cdv, ct, osl, rfl, lk, hcd⟩ := F.ex
  refine fn_of lk hcd S len fun A outer s H vs Q E hr hsp => ?_
  obtain ⟨t, h, q⟩ := hbody cdv A outer s H vs Q E hr hsp
  exact ⟨t, h.nox, q⟩
/-- how its arguments bind (no defaults): h is «fun _ _ _ _ _ _ us hl => match us, hl with | [_, _], _ => rfl», one _ a parameter -/
theorem Fun.binds {x qual : Str} {st : Stmt} {f : Addr} {fd : FuncData} {ps : List Str} (F : Fun K x qual st f fd)
    (h : ∀ (kV doc pm : Value) (an : Option Addr) (cdv ct : Value) (us : List Value), us.length = ps.length → bindArgs (PySem.W.fnOf x qual (defArgs st) (defBody st) (defScope st) .none kV doc pm an cdv ct) ⟨us, []⟩ = pure (ps.zip us)) : Binds K fd ps [] := by
  obtain ⟨oc, od, kV, doc, pm, an, cdv, ct, osl, rfl, lk, hcd⟩ := F.ex
  exact .all (h kV doc pm an cdv ct)
theorem fun_mk {x qual : Str} {st : Stmt} {f : Addr} {oc : Value} {od an : Option Addr} {osl : Array (Option Value)} {kV doc pm cdv ct : Value} (l : K.lookup f = some ⟨oc, od, .func (PySem.W.fnOf x qual (defArgs st) (defBody st) (defScope st) .none kV doc pm an cdv ct), osl⟩)
    (c : PySem.W.codeIn K cdv qual = true) (k : PySem.W.keepIn K (.ref f) = true) : Fun K x qual st f (PySem.W.fnOf x qual (defArgs st) (defBody st) (defScope st) .none kV doc pm an cdv ct) := ⟨⟨oc, od, kV, doc, pm, an, cdv, ct, osl, rfl, l, c⟩, k⟩
end
theorem hu_of {A : Around} {k : Nat} (hr : Room k A) : A.units + 1 < cLine := Nat.lt_of_le_of_lt (Nat.add_le_add_left (by decide : 1 ≤ 64) _) hr.units
theorem small1000 {n : Nat} (h : n ≤ 1000) : n < sizeLine := Nat.lt_of_le_of_lt h (by decide)

/-! ### expressions in short: the name that stands in the i-th slot -/
section
variable {X : Cx}
theorem pv (i : Nat) {x : Str} {pos : Pos} (hN : X.N[i]? = some x := by rfl) (hv : Vis X.env.scope x := by first | exact Or.inl rfl | exact Or.inr (Or.inl rfl) | exact Or.inr (Or.inr rfl)) (hd : (x == ("__debug__" : Str)) = false := by decide)
    (hcd : (x == ("__classdict__" : Str)) = false := by decide) : PE X (.Name x pos) (tVar i) := pe_var hN hv hd hcd
end

/-! ### tests -/
theorem iteF {A B : Prop} (h : B) : if false = true then A else B := by
  rw [if_neg Bool.false_ne_true]
  exact h
theorem iteT {A B : Prop} (h : A) : if true = true then A else B := by
  rw [if_pos rfl]
  exact h
theorem ite2 {c A B : Prop} [Decidable c] (h1 : c → A) (h2 : ¬ c → B) : if c then A else B := by
  by_cases h : c
  · rw [if_pos h]
    exact h1 h
  · rw [if_neg h]
    exact h2 h
theorem iteNS {c A B : Prop} [Decidable c] (hc : c) (h : B) : if (!decide c) = true then A else B := by
  rw [decide_eq_true hc]
  exact iteF h

/-! ### heaps -/
/-- all that was tracked is as it was -/
def Same (H H' : Hp) : Prop := ∀ b o, H b = some o → H' b = some o
theorem Same.refl (H : Hp) : Same H H := fun _ _ h => h
theorem Same.trans {H H1 H2 : Hp} (a : Same H H1) (b : Same H1 H2) : Same H H2 := fun c o h => b c o (a c o h)
theorem Same.free {H H' : Hp} (e : Same H H') {l : Addr} (h : H' l = Option.none) : H l = Option.none := by
  cases q : H l with
  | none => rfl
  | some o =>
    rw [e l o q] at h
    cases h
theorem Same.seq {K : PySem.W.Frag} {H H' : Hp} {a : Addr} {xs : List V} (e : Same H H') (h : SqL K H a xs) : SqL K H' a xs := by
  rcases h with (h | ⟨o, h⟩) | h
  · exact .inl (.inl (e _ _ h))
  · exact .inl (.inr ⟨o, e _ _ h⟩)
  · exact .inr h

/-! ### a dict's pairs: keys that differ -/
section
variable {κ : Type} [DecidableEq κ]
end
end L2


namespace L2
open PySem PySem.Spec PyProof.Rows

/-! ### isinstance -/
/-- the builtin types -/
inductive Ty where
  | int | bool | str | non | lst | tup | dct
  deriving DecidableEq
def Ty.name : Ty → String
  | .int => "int" | .bool => "bool" | .str => "str" | .non => "NoneType" | .lst => "list" | .tup => "tuple" | .dct => "dict"
/-- the builtin type of a value -/
inductive TyN (K : PySem.W.Frag) (H : Hp) : V → Ty → Prop where
  | int (i : Int) : TyN K H (.int i) .int
  | bl (b : Bool) : TyN K H (.bl b) .bool
  | str (x : Str) : TyN K H (.str x) .str
  | non : TyN K H .non .non
  | lst {a : Addr} {xs : List V} (h : SqL K H a xs) : TyN K H (.ref a) .lst
  | tup {a : Addr} {xs : List V} (h : SqT K H a xs) : TyN K H (.ref a) .tup
  | dk {a : Addr} {kvs : List (Key × V)} (h : H a = some (.dK kvs)) : TyN K H (.ref a) .dct
def isiB : Ty → Ty → Bool
  | .int, .int => true | .bool, .bool => true | .bool, .int => true | .str, .str => true | .non, .non => true | .lst, .lst => true | .tup, .tup => true | .dct, .dct => true | _, _ => false
def rIsi (K : PySem.W.Frag) : List V → Hp → VK → Prop := fun vs H Q => ∃ x T T', vs = [x, .ty (Ty.name T)] ∧ TyN K H x T' ∧ Q (.bl (isiB T' T)) H
theorem call_isi {X : Cx} : CallR X (.builtin "isinstance") (rIsi X.K) := by
  intro pins s σ H vs us Q I r h
  obtain ⟨x, T, T', rfl, ty, q⟩ := h
  obtain ⟨u, u2, rfl, ru, ru2⟩ := vals2 r
  have e2 : u2 = Value.type (Ty.name T) := ru2
  subst e2
  cases ty with
  | int i =>
    obtain ⟨t, rfl⟩ := ru
    cases T with
    | int => exact IsiPair.int_int ⟨.bl true, H, I, rfl, q⟩
    | bool => exact IsiPair.int_bool ⟨.bl false, H, I.tok _, rfl, q⟩
    | str => exact IsiPair.int_str ⟨.bl false, H, I.tok _, rfl, q⟩
    | non => exact IsiPair.int_NoneType ⟨.bl false, H, I.tok _, rfl, q⟩
    | lst => exact IsiPair.int_list ⟨.bl false, H, I.tok _, rfl, q⟩
    | tup => exact IsiPair.int_tuple ⟨.bl false, H, I.tok _, rfl, q⟩
    | dct => exact IsiPair.int_dict ⟨.bl false, H, I.tok _, rfl, q⟩
  | bl b =>
    obtain rfl : u = Value.bool b := ru
    cases T with
    | int => exact IsiPair.bool_int ⟨.bl true, H, I, rfl, q⟩
    | bool => exact IsiPair.bool_bool ⟨.bl true, H, I, rfl, q⟩
    | str => exact IsiPair.bool_str ⟨.bl false, H, I.tok _, rfl, q⟩
    | non => exact IsiPair.bool_NoneType ⟨.bl false, H, I.tok _, rfl, q⟩
    | lst => exact IsiPair.bool_list ⟨.bl false, H, I.tok _, rfl, q⟩
    | tup => exact IsiPair.bool_tuple ⟨.bl false, H, I.tok _, rfl, q⟩
    | dct => exact IsiPair.bool_dict ⟨.bl false, H, I.tok _, rfl, q⟩
  | str y =>
    obtain ⟨t, rfl⟩ := ru
    cases T with
    | int => exact IsiPair.str_int ⟨.bl false, H, I.tok _, rfl, q⟩
    | bool => exact IsiPair.str_bool ⟨.bl false, H, I.tok _, rfl, q⟩
    | str => exact IsiPair.str_str ⟨.bl true, H, I, rfl, q⟩
    | non => exact IsiPair.str_NoneType ⟨.bl false, H, I.tok _, rfl, q⟩
    | lst => exact IsiPair.str_list ⟨.bl false, H, I.tok _, rfl, q⟩
    | tup => exact IsiPair.str_tuple ⟨.bl false, H, I.tok _, rfl, q⟩
    | dct => exact IsiPair.str_dict ⟨.bl false, H, I.tok _, rfl, q⟩
  | non =>
    obtain rfl : u = Value.none := ru
    cases T with
    | int => exact IsiPair.NoneType_int ⟨.bl false, H, I.tok _, rfl, q⟩
    | bool => exact IsiPair.NoneType_bool ⟨.bl false, H, I.tok _, rfl, q⟩
    | str => exact IsiPair.NoneType_str ⟨.bl false, H, I.tok _, rfl, q⟩
    | non => exact IsiPair.NoneType_NoneType ⟨.bl true, H, I, rfl, q⟩
    | lst => exact IsiPair.NoneType_list ⟨.bl false, H, I.tok _, rfl, q⟩
    | tup => exact IsiPair.NoneType_tuple ⟨.bl false, H, I.tok _, rfl, q⟩
    | dct => exact IsiPair.NoneType_dict ⟨.bl false, H, I.tok _, rfl, q⟩
  | lst hq =>
    obtain rfl : u = Value.ref _ := ru
    obtain ⟨its, rv, ⟨o, n, e, hc, hd, hs⟩, hz⟩ := I.list hq
    cases T with
    | int => exact IsiPair.list_int e hc ⟨.bl false, H, I.tok _, rfl, q⟩
    | bool => exact IsiPair.list_bool e hc ⟨.bl false, H, I.tok _, rfl, q⟩
    | str => exact IsiPair.list_str e hc ⟨.bl false, H, I.tok _, rfl, q⟩
    | non => exact IsiPair.list_NoneType e hc ⟨.bl false, H, I.tok _, rfl, q⟩
    | lst => exact IsiPair.list_list e hc ⟨.bl true, H, I, rfl, q⟩
    | tup => exact IsiPair.list_tuple e hc ⟨.bl false, H, I.tok _, rfl, q⟩
    | dct => exact IsiPair.list_dict e hc ⟨.bl false, H, I.tok _, rfl, q⟩
  | tup hq =>
    obtain rfl : u = Value.ref _ := ru
    obtain ⟨its, rv, ⟨o, e, hc, n, hs⟩, hz⟩ := I.tuple hq
    cases T with
    | int => exact IsiPair.tuple_int e hc ⟨.bl false, H, I.tok _, rfl, q⟩
    | bool => exact IsiPair.tuple_bool e hc ⟨.bl false, H, I.tok _, rfl, q⟩
    | str => exact IsiPair.tuple_str e hc ⟨.bl false, H, I.tok _, rfl, q⟩
    | non => exact IsiPair.tuple_NoneType e hc ⟨.bl false, H, I.tok _, rfl, q⟩
    | lst => exact IsiPair.tuple_list e hc ⟨.bl false, H, I.tok _, rfl, q⟩
    | tup => exact IsiPair.tuple_tuple e hc ⟨.bl true, H, I, rfl, q⟩
    | dct => exact IsiPair.tuple_dict e hc ⟨.bl false, H, I.tok _, rfl, q⟩
  | dk hq =>
    obtain rfl : u = Value.ref _ := ru
    obtain ⟨hz, hm, vs, rel, o, es, ep, e, ex, hr⟩ := I.hok _ _ hq
    have hc := ex.1
    cases T with
    | int => exact IsiPair.dict_int e hc ⟨.bl false, H, I.tok _, rfl, q⟩
    | bool => exact IsiPair.dict_bool e hc ⟨.bl false, H, I.tok _, rfl, q⟩
    | str => exact IsiPair.dict_str e hc ⟨.bl false, H, I.tok _, rfl, q⟩
    | non => exact IsiPair.dict_NoneType e hc ⟨.bl false, H, I.tok _, rfl, q⟩
    | lst => exact IsiPair.dict_list e hc ⟨.bl false, H, I.tok _, rfl, q⟩
    | tup => exact IsiPair.dict_tuple e hc ⟨.bl false, H, I.tok _, rfl, q⟩
    | dct => exact IsiPair.dict_dict e hc ⟨.bl true, H, I, rfl, q⟩

/-! ### all, of a list of truths -/
theorem truth_bl {P : Program} {w : World} {A : Around} {bs : List Bool} {its : List Value} (r : Vals (bs.map V.bl) its) : TruthOf P w A (fun i v => its.toArray[i]? = some v) (fun i => bs.getD i false) := by
  intro i v s Q E hv hq
  have hv' : its[i]? = some v := by simpa using hv
  have hl := r.length
  rw [List.length_map] at hl
  have hi : i < its.length := (List.getElem?_eq_some_iff.mp hv').1
  have hb : (bs.map V.bl)[i]? = some (V.bl (bs.getD i false)) := by
    rw [List.getElem?_map, List.getD_eq_getElem?_getD]
    have : bs[i]? = some bs[i] := List.getElem?_eq_getElem (by omega)
    rw [this]; rfl
  obtain ⟨u, hu, ru⟩ := r.get hb
  rw [hv'] at hu
  cases hu
  have e : v = Value.bool (bs.getD i false) := ru
  subst e
  exact wpAny_truthy_bool hq
theorem range_all {bs : List Bool} : (List.range bs.length).all (fun i => bs.getD i false) = bs.all id := by
  rw [Bool.eq_iff_iff, List.all_eq_true, List.all_eq_true]
  constructor
  · intro h b hb
    obtain ⟨i, hi, e⟩ := List.mem_iff_getElem.mp hb
    have := h i (List.mem_range.mpr hi)
    rw [List.getD_eq_getElem?_getD, List.getElem?_eq_getElem hi] at this
    rw [← e]; exact this
  · intro h i hi
    have hi' := List.mem_range.mp hi
    rw [List.getD_eq_getElem?_getD, List.getElem?_eq_getElem hi']
    exact h _ (List.getElem_mem hi')
def rAll (K : PySem.W.Frag) : List V → Hp → VK → Prop := fun vs H Q => ∃ (a : Addr) (bs : List Bool), vs = [.ref a] ∧ SqL K H a (bs.map V.bl) ∧ Q (.bl (bs.all id)) H
theorem call_allL {X : Cx} (hc : X.calm = true) : CallR X (.builtin "all") (rAll X.K) := by
  intro pins s σ H vs us Q I r h
  obtain ⟨a, bs, rfl, hq, q⟩ := h
  obtain ⟨u, rfl, ru⟩ := vals1 r
  obtain rfl : u = Value.ref a := ru
  obtain ⟨its, rv, p, hz⟩ := I.list hq
  have hl := rv.length
  rw [List.length_map] at hl
  have hlt : a < s.heap.objs.size := by obtain ⟨_, e, _⟩ := p.isList; exact Heap.lt_size e
  refine call_all_walk (wpAny_pyIter_list p.isList ?_)
  refine ⟨s.heap.objs.size, [s.heap.objs.size, a], [s.heap.objs.size], its.toArray.size, (fun i v => its.toArray[i]? = some v), (fun i h => h.IsListIter s.heap.objs.size a i ∧ h.IsList a its.toArray), (fun i => bs.getD i false), rfl, Walks.list (A := X.A.in1) (I.ok.hd hc) s.heap.objs.size a (Nat.ne_of_lt hlt) its.toArray, ⟨⟨_, Heap.get?_push_size _ rfl, rfl, rfl⟩, p.isList.push _⟩, truth_bl rv, fun h' tk hk => ?_⟩
  refine ⟨.bl (bs.all id), H, I.kept fun b o e => hk b o (fun z => ?_) (Heap.get?_push_of_some _ e), ?_, q⟩
  · have z' : b = s.heap.objs.size := by simpa using z
    exact absurd (Heap.lt_size e) (by rw [z']; exact Nat.lt_irrefl _)
  · have e : its.toArray.size = bs.length := by rw [List.size_toArray, hl]
    show Value.bool _ = Value.bool _
    rw [e, range_all]

/-! ### texts: <=, join, signs -/
def rS (g : Str → Str → Bool) : R2 := fun x y H Q => ∃ a b, x = .str a ∧ y = .str b ∧ Q (.bl (g a b)) H
theorem op_leS {X : Cx} : OpR X (compareOp .LtE) (rS fun a b => !decide (b.cps.toList < a.cps.toList)) := by
  intro pins s σ H x y v u Q I rx ry h
  obtain ⟨a, b, rfl, rfl, q⟩ := h
  obtain ⟨t, rfl⟩ := rx
  obtain ⟨t', rfl⟩ := ry
  exact P.le_str ⟨.bl _, H, I, rfl, q⟩
/-- the signs of a text -/
def Its (x : Str) : It := ⟨fun i _ => i < x.cps.size, fun i H v H' => H' = H ∧ ∃ c, x.cps[i]? = some c ∧ v = .str ⟨#[c]⟩, fun i _ => i = x.cps.size⟩
theorem turn_str {P : Program} {w : World} {K : PySem.W.Frag} {tg : Expr} {x : Str} {t : Tok} {ty : String} (it : Addr) (hn : ["enumerate", "zip", "dict_itemiterator", "dict_reverseitemiterator", "odict_iterator", "itertools.zip_longest", "itertools.pairwise"].contains ty = false)
    (W : ∀ A : Around, A.handled = none → Walks P w A it [it] [it] x.cps.size (SignAt x) (fun i h => h.IsStrIter it ty x t i))
    (hself : ∀ (A : Around) (i : Nat) (s : Shared) (Q : Value → Shared → Prop) (E : Value → Shared → Prop), s.heap.IsStrIter it ty x t i → Q (.ref it) s → wpAny (model P w) A (pyIter (.ref it)) Q E s) : Turn P w K tg (Its x) [it] it (fun i h => h.IsStrIter it ty x t i) where
  mem := by simp
  obj := fun i h st b hb => by
    have e : b = it := by simpa using hb
    subst e
    obtain ⟨o, e, c, d⟩ := st
    exact ⟨o, e, fun v z => by rw [d] at z; cases z⟩
  keep := fun i h h' st k => by
    obtain ⟨o, e, r⟩ := st
    exact ⟨o, k it (by simp) o e, r⟩
  item := by
    intro X hP hw hK hc i pins s σ H E I hf st hg
    subst hP hw hK
    obtain ⟨f0, f1, f2, f3, f4, f5⟩ := hf it (by simp)
    refine (W X.A (I.ok.hd hc)).item i s _ _ hg st fun v h' tk hv st' kk => ?_
    obtain ⟨c, u, hc', rfl⟩ := hv
    have I1 : Inv X pins σ H { s with heap := h', toks := tk } := I.turned (fun b o hb e => kk b o (by simpa using hb) e) f0 f1 f3 f4 f5
    obtain ⟨o, e, c1, d⟩ := id st'
    exact ⟨_, rfl, go_of (s := { s with heap := h', toks := tk }) e c1 d hn ⟨.str ⟨#[c]⟩, H, I1, ⟨u, rfl⟩, ⟨rfl, c, hc', rfl⟩, st', fun b hb => (hf b hb).1⟩⟩
  done := by
    intro X hP hw hK hc i pins s σ H E I hf st hg
    subst hP hw hK
    obtain ⟨f0, f1, f2, f3, f4, f5⟩ := hf it (by simp)
    have hg' : i = x.cps.size := hg
    subst hg'
    exact (W X.A (I.ok.hd hc)).done s _ _ st fun h' tk kk => ⟨rfl, I.turned (fun b o hb e => kk b o (by simpa using hb) e) f0 f1 f3 f4 f5⟩
  self := hself
def iStr (te : TE) : TI := fun σ H R => te σ H fun x H1 => ∃ y, x = .str y ∧ R (Its y) H1
theorem pi_str {X : Cx} {tg e : Expr} {te : TE} (he : PE X e te) : PI X tg e (iStr te) := by
  intro pins s σ H R I h
  refine thn (he pins s σ H _ I h) fun v s1 ⟨x, H1, I1, r1, q1⟩ => ?_
  obtain ⟨y, rfl, q⟩ := q1
  obtain ⟨t, rfl⟩ := r1
  have fin : ∀ b ∈ [s1.heap.objs.size], FpOk X pins H1 b := fun b hb => by
    have e : b = s1.heap.objs.size := by simpa using hb
    subst e
    exact I1.fpOk (Nat.le_refl _) (I1.hok.fresh (Nat.le_refl _))
  cases ha : y.cps.all (· < 128)
  · refine wpAny_pyIter_wide ha ⟨s1.heap.objs.size, [s1.heap.objs.size], _, _, H1, rfl, I1.kept (t' := s1.toks) fun b o e => Heap.get?_push_of_some _ e, turn_str (ty := "str_iterator") (t := t) _ (by decide) (fun A hA => Walks.strWide hA _ y t) (fun A i s Q E st hQ => wpAny_pyIter_striter_wide st hQ), ⟨_, Heap.get?_push_size _ rfl, rfl, rfl⟩, fin, q⟩
  · refine wpAny_pyIter_ascii ha ⟨s1.heap.objs.size, [s1.heap.objs.size], _, _, H1, rfl, I1.kept (t' := s1.toks) fun b o e => Heap.get?_push_of_some _ e, turn_str (ty := "str_ascii_iterator") (t := t) _ (by decide) (fun A hA => Walks.strAscii hA _ y t) (fun A i s Q E st hQ => wpAny_pyIter_striter_ascii st hQ), ⟨_, Heap.get?_push_size _ rfl, rfl, rfl⟩, fin, q⟩

/-! ### a thing of ours that the heap holds comes to be tracked -/

/-! ### zip of two lists, with a pair of targets -/
end L2

namespace L2
open PySem PySem.Spec PyProof.Rows

/-! ### what a block closes over -/
def closOf (env : Env) : List (Str × NameKind) → List (Str × Addr) → List (Str × Addr)
  | [], acc => acc
  | (n, k) :: r, acc => if k == .free then closOf env r ((n, (env.cells.lookup n).getD 0) :: acc) else closOf env r acc
theorem forIn_clos {env : Env} (f : Str × NameKind → List (Str × Addr) → Sem (ForInStep (List (Str × Addr))))
    (hf : ∀ n k cs, f (n, k) cs = if (k == NameKind.free) = true then (cellOf env n >>= fun a => pure (.yield ((n, a) :: cs))) else pure (.yield cs)) :
    ∀ (names : List (Str × NameKind)) (acc : List (Str × Addr)), (∀ x ∈ names, x.2 = .free → ∃ c, env.cells.lookup x.1 = some c) → forIn names acc f = pure (closOf env names acc)
  | [], acc, _ => by rw [List.forIn_nil]; rfl
  | (n, k) :: r, acc, h => by
    rw [List.forIn_cons, hf]
    unfold closOf
    by_cases hk : (k == NameKind.free) = true
    · rw [if_pos hk, if_pos hk]
      obtain ⟨c, hc⟩ := h (n, k) List.mem_cons_self (beq_iff_eq.mp hk)
      have e : cellOf env n = pure c := by unfold cellOf; rw [hc]
      rw [e, hc]
      exact forIn_clos f hf r _ fun x hx => h x (List.mem_cons_of_mem _ hx)
    · rw [if_neg hk, if_neg hk]
      exact forIn_clos f hf r _ fun x hx => h x (List.mem_cons_of_mem _ hx)
theorem closureFor_of {scope : Scope} {env : Env} (h : ∀ x ∈ scope.names, x.2 = .free → ∃ c, env.cells.lookup x.1 = some c) : closureFor scope env = pure (closOf env scope.names []) := by
  simp only [closureFor]
  rw [forIn_clos (env := env) _ (fun n k cs => by cases hk : k == NameKind.free <;> simp [hk]) scope.names [] h]
  rfl
theorem closOf_mem {env : Env} : ∀ {names : List (Str × NameKind)} {acc : List (Str × Addr)} {x : Str} {c : Addr}, (x, c) ∈ closOf env names acc → (x, c) ∈ acc ∨ ((x, NameKind.free) ∈ names ∧ c = (env.cells.lookup x).getD 0)
  | [], _, _, _, h => .inl h
  | (n, k) :: r, acc, x, c, h => by
    unfold closOf at h
    by_cases hk : (k == NameKind.free) = true
    · rw [if_pos hk] at h
      rcases closOf_mem h with h | ⟨h, e⟩
      · rcases List.mem_cons.mp h with h | h
        · cases h
          rw [beq_iff_eq.mp hk]
          exact .inr ⟨List.mem_cons_self, rfl⟩
        · exact .inl h
      · exact .inr ⟨List.mem_cons_of_mem _ h, e⟩
    · rw [if_neg hk] at h
      rcases closOf_mem h with h | ⟨h, e⟩
      · exact .inl h
      · exact .inr ⟨List.mem_cons_of_mem _ h, e⟩
theorem closOf_acc {env : Env} : ∀ {names : List (Str × NameKind)} {acc : List (Str × Addr)} {p : Str × Addr}, p ∈ acc → p ∈ closOf env names acc
  | [], _, _, h => h
  | (n, k) :: r, acc, p, h => by
    unfold closOf
    by_cases hk : (k == NameKind.free) = true
    · rw [if_pos hk]; exact closOf_acc (List.mem_cons_of_mem _ h)
    · rw [if_neg hk]; exact closOf_acc h
theorem closOf_has {env : Env} : ∀ {names : List (Str × NameKind)} {acc : List (Str × Addr)} {x : Str}, (x, NameKind.free) ∈ names → ∃ c, (x, c) ∈ closOf env names acc
  | (n, k) :: r, acc, x, h => by
    unfold closOf
    rcases List.mem_cons.mp h with h | h
    · cases h
      rw [if_pos (show (NameKind.free == NameKind.free) = true by rfl)]
      exact ⟨_, closOf_acc List.mem_cons_self⟩
    · by_cases hk : (k == NameKind.free) = true
      · rw [if_pos hk]; exact closOf_has h
      · rw [if_neg hk]; exact closOf_has h
theorem look_of_mem {α : Type} : ∀ {l : List (Str × α)} {x : Str} {c : α}, (x, c) ∈ l → ∃ c', l.lookup x = some c'
  | (n, d) :: r, x, c, h => by
    rw [List.lookup_cons]
    cases hb : x == n with
    | true => exact ⟨d, rfl⟩
    | false =>
      rcases List.mem_cons.mp h with h | h
      · cases h
        simp at hb
      · exact look_of_mem h
theorem cellsFrom_app : ∀ (names : List (Str × NameKind)) (n : Nat) (acc : List (Str × Addr)), cellsFrom n names acc = cellsFrom n names [] ++ acc
  | [], _, _ => rfl
  | (x, k) :: r, n, acc => by
    unfold cellsFrom
    by_cases hk : (k == NameKind.cell) = true
    · rw [if_pos hk, if_pos hk, cellsFrom_app r (n + 1) ((x, n) :: acc), cellsFrom_app r (n + 1) [(x, n)], List.append_assoc]
      rfl
    · rw [if_neg hk, if_neg hk]; exact cellsFrom_app r n acc
theorem cellsFrom_cell : ∀ {names : List (Str × NameKind)} {n : Nat} {acc : List (Str × Addr)} {x : Str} {c : Addr}, (x, c) ∈ cellsFrom n names acc → (x, c) ∈ acc ∨ (x, NameKind.cell) ∈ names
  | [], _, _, _, _, h => .inl h
  | (y, k) :: r, n, acc, x, c, h => by
    unfold cellsFrom at h
    by_cases hk : (k == NameKind.cell) = true
    · rw [if_pos hk] at h
      rcases cellsFrom_cell h with h | h
      · rcases List.mem_cons.mp h with h | h
        · cases h
          rw [beq_iff_eq.mp hk]
          exact .inr List.mem_cons_self
        · exact .inl h
      · exact .inr (List.mem_cons_of_mem _ h)
    · rw [if_neg hk] at h
      rcases cellsFrom_cell h with h | h
      · exact .inl h
      · exact .inr (List.mem_cons_of_mem _ h)

section
variable {M : Model} {A : Around} {E : Value → Shared → Prop} {s : Shared}
theorem nfe_comp {scope : Scope} {env : Env} {cl : List (Str × Addr)} {Q : Env → Shared → Prop}
    (hQ : Q (newEnv scope s.heap.objs.size env.globals (cellsFrom (s.heap.objs.size + 1) scope.names cl) env.qual none .none (some env) builtinsNs) { s with heap := pushCells (s.heap.push { cls := .type "dict", data := .dict #[] }) scope.names }) :
    wpAny M A (newFunctionEnv scope env.globals cl [] env.qual none .none (some env)) Q E s := by
  simp only [newFunctionEnv, Option.isSome_some, if_true]
  refine wpAny_bind (wpAny_alloc ?_)
  refine wpAny_bind (wpAny_layCells _ (fun name kind cells => by cases hkc : kind == NameKind.cell <;> simp [hkc]) _ _ _ _ ?_)
  rw [show ({ s with heap := s.heap.push { cls := .type "dict", data := .dict #[] } } : Shared).heap.objs.size = s.heap.objs.size + 1 from Heap.size_push ..]
  exact wpAny_bind (wpAny_pure (wpAny_pure hQ))
end

/-- the context of a comprehension's block: N its own names, then those that it closes over -/
abbrev cxComp (X : Cx) (N : List Str) (scope : Scope) (cs : List (Str × Addr)) (C : Addr) (s : Shared) (H : Hp) (ex : List Addr) : Cx where
  prog := X.prog
  w := X.w
  K := X.K
  mg := X.mg
  base := X.base
  A := X.A
  N := N
  s₀ := s
  H₀ := H
  env := compEnvC scope cs C X.env
  outer := X.stack
  stack := X.stack
  ex := ex
  fn := fun x => decide (scope.names.lookup x ≠ some .free)
  calm := X.calm
  pn := []
  xe := fun _ _ => False

/-- what is asked of the block's scope: psc, PN the scope and the names of the code around it; k: how many names of N are its own; caps: the places, in PN, of those behind them -/
structure CompScope (psc : Scope) (PN : List Str) (scope : Scope) (N : List Str) (k : Nat) (caps : List Nat) : Prop where
  kind : scope.kind = .function
  loc : ∀ x ∈ scope.names, x.2 = .local → scope.names.lookup x.1 = some .local
  ndn : (scope.names.map (·.1)).Nodup
  nd : N.Nodup
  len : N.length = k + caps.length
  free : ∀ x ∈ scope.names, x.2 = .free → psc.names.lookup x.1 = some .cell ∨ psc.names.lookup x.1 = some .free
  cap : ∀ p ∈ (N.drop k).zip caps, PN[p.2]? = some p.1 ∧ scope.names.lookup p.1 = some .free

/-- the block's slots at each turn's start -/
def compSt (k : Nat) (caps : List Nat) (σ : St) : St := List.replicate k none ++ caps.map fun j => (σ[j]?).getD none
theorem compSt_at {k : Nat} {caps : List Nat} {σ : St} {i : Nat} {v : V} (h : (compSt k caps σ)[i]? = some (some v)) : ∃ j, k ≤ i ∧ caps[i - k]? = some j ∧ σ[j]? = some (some v) := by
  unfold compSt at h
  by_cases hi : i < k
  · rw [List.getElem?_append_left (by simpa using hi), List.getElem?_replicate, if_pos hi] at h
    cases h
  · rw [List.getElem?_append_right (by simpa using hi), List.length_replicate, List.getElem?_map] at h
    cases e : caps[i - k]? with
    | none => rw [e] at h; cases h
    | some j =>
      rw [e] at h
      have h' : (σ[j]?).getD none = some v := Option.some.inj h
      refine ⟨j, by omega, rfl, ?_⟩
      cases q : σ[j]? with
      | none => rw [q] at h'; cases h'
      | some o => rw [q] at h'; exact congrArg some h'

theorem relabel_look {scope : Scope} {env : Env} {x : Str} {k' : NameKind} (h : (relabel scope env).names.lookup x = some k') : ∃ k, (x, k) ∈ scope.names ∧ (k' = k ∨ (k = .free ∧ k' = .cell)) := by
  have hm := PySem.mem_of_lookup h
  have hm' : (x, k') ∈ scope.names.map (fun (n, k) => if (k == NameKind.free && env.scope.kind == .function && env.kindOf n == some .cell) then (n, NameKind.cell) else (n, k)) := hm
  obtain ⟨⟨n, k⟩, h1, h2⟩ := List.mem_map.mp hm'
  dsimp only at h2
  by_cases hc : (k == NameKind.free && env.scope.kind == .function && env.kindOf n == some .cell) = true
  · rw [if_pos hc] at h2
    cases h2
    simp only [Bool.and_eq_true, beq_iff_eq] at hc
    exact ⟨k, h1, .inr ⟨hc.1.1, rfl⟩⟩
  · rw [if_neg hc] at h2
    cases h2
    exact ⟨k', h1, .inl rfl⟩
theorem map_free {f : Str × NameKind → Str × NameKind} (hf : ∀ n k, f (n, k) = (n, k) ∨ (k = .free ∧ f (n, k) = (n, NameKind.cell))) : ∀ {names : List (Str × NameKind)} {x : Str}, names.lookup x = some .free → (names.map f).lookup x = some .cell ∨ (names.map f).lookup x = some .free
  | [], _, h => by simp at h
  | (n, k) :: r, x, h => by
    have ih := @map_free f hf r x
    rw [List.lookup_cons] at h
    rw [List.map_cons]
    cases hx : x == n with
    | true =>
      rw [hx] at h
      cases h
      rcases hf n .free with e | ⟨_, e⟩
      · right; rw [e, List.lookup_cons, hx]
      · left; rw [e, List.lookup_cons, hx]
    | false =>
      rw [hx] at h
      have h' := ih h
      rcases hf n k with e | ⟨_, e⟩
      · rw [e, List.lookup_cons, hx]; exact h'
      · rw [e, List.lookup_cons, hx]; exact h'
theorem relabel_free {scope : Scope} {env : Env} {x : Str} (h : scope.names.lookup x = some .free) : (relabel scope env).names.lookup x = some .cell ∨ (relabel scope env).names.lookup x = some .free := by
  refine map_free (fun n k => ?_) h
  by_cases hc : (k == NameKind.free && env.scope.kind == .function && env.kindOf n == some .cell) = true
  · right
    refine ⟨?_, if_pos hc⟩
    simp only [Bool.and_eq_true, beq_iff_eq] at hc
    exact hc.1.1
  · left; exact if_neg hc
theorem nodup_key {names : List (Str × NameKind)} (h : (names.map (·.1)).Nodup) {x : Str} {k k' : NameKind} (h1 : (x, k) ∈ names) (h2 : (x, k') ∈ names) : k = k' := by
  induction names with
  | nil => simp at h1
  | cons p r ih =>
    rw [List.map_cons] at h
    obtain ⟨ha, hb⟩ := List.nodup_cons.mp h
    rcases List.mem_cons.mp h1 with e1 | h1 <;> rcases List.mem_cons.mp h2 with e2 | h2
    · rw [← e1] at e2; exact (Prod.mk.inj e2).2.symm
    · exact absurd (List.mem_map.mpr ⟨_, h2, by rw [← e1]⟩) ha
    · exact absurd (List.mem_map.mpr ⟨_, h1, by rw [← e2]⟩) ha
    · exact ih hb h1 h2

/-! ### the heap beside one address that is younger -/
theorem Un.but {fs ex : List Addr} {H H' : Hp} {h h1 h2 : Heap} {C : Addr} (u : Un fs ex H H' h h1) (hs : Heap.SameBut C h1 h2) (hC : h.objs.size ≤ C) : Un fs ex H H' h h2 := by
  have ne : ∀ b o, h.get? b = some o → b ≠ C := fun b o e => Nat.ne_of_lt (Nat.lt_of_lt_of_le (Heap.lt_size e) hC)
  refine ⟨fun b o e n hb hx => (hs.2 b (ne b o e)).trans (u.keep b o e n hb hx), fun b o e n hb hx => ?_, u.free, fun b o e hx => ?_, u.tups, u.frzs, u.tbls⟩
  · obtain ⟨sl, q⟩ := u.slot b o e n hb hx
    exact ⟨sl, (hs.2 b (ne b o e)).trans q⟩
  · obtain ⟨o', q⟩ := u.there b o e hx
    exact ⟨o', (hs.2 b (ne b o e)).trans q⟩
theorem HOk.but {P : Program} {w : World} {H : Hp} {h1 h2 : Heap} {C : Addr} (x : HOk P w H h1) (hs : Heap.SameBut C h1 h2) (hn : H C = none) : HOk P w H h2 := fun b u e => by
  refine (x b u e).stay (fun c v hc q => (hs.2 c ?_).trans q) (fun _ q => q) fun _ _ q => q
  rintro rfl
  rcases hc with rfl | hc
  · rw [hn] at e; cases e
  · rw [hn] at hc; cases hc

/-! ### the block -/
section
variable {X : Cx} {scope : Scope} {N : List Str} {k : Nat} {caps : List Nat} {psc : Scope} {PN : List Str} {pins : List (Addr × Obj)} {σ : St} {H : Hp} {s : Shared}
/-- the cells of the block -/
abbrev cellsC (X : Cx) (scope : Scope) (C : Addr) : List (Str × Addr) := cellsFrom (C + 1) scope.names (closOf X.env scope.names [])
theorem cellsC_split {C : Addr} (I : Inv X pins σ H s) (S : CompScope X.env.scope X.N scope N k caps) {x : Str} {c : Addr} (h : (x, c) ∈ cellsC X scope C) :
    (x, c) ∈ cellsFrom (C + 1) scope.names [] ∨ X.env.cells.lookup x = some c := by
  unfold cellsC at h
  rw [cellsFrom_app] at h
  rcases List.mem_append.mp h with h | h
  · exact .inl h
  · rcases closOf_mem h with h | ⟨h, e⟩
    · simp at h
    · obtain ⟨c', hc⟩ := I.ok.has x (S.free _ h rfl)
      rw [hc] at e
      exact .inr (by rw [hc]; exact congrArg some e.symm)
theorem comp_start {fp : List Addr} (I : Inv X pins σ H s) (S : CompScope X.env.scope X.N scope N k caps) (hf : ∀ b ∈ fp, FpOk X pins H b) (hfo : ∀ b ∈ fp, ∃ o, s.heap.get? b = some o) {D C : Nat} {h1 : Heap} {t' : Nat} (hD : D = s.heap.objs.size) (hC : C = D + 1)
    (hh : h1 = pushCells ((s.heap.push { cls := .type "list", data := .seq #[] }).push { cls := .type "dict", data := .dict #[] }) scope.names) :
    Inv (cxComp X N scope (cellsC X scope C) C s H fp) [] (compSt k caps σ) (upd H D (.lst [])) { s with heap := h1, toks := t' } := by
  have hsz1 : (s.heap.push { cls := .type "list", data := .seq #[] }).objs.size = C := by rw [Heap.size_push, hC, hD]
  have hsz2 : ((s.heap.push { cls := .type "list", data := .seq #[] }).push { cls := .type "dict", data := .dict #[] }).objs.size = C + 1 := by rw [Heap.size_push, hsz1]
  have old : ∀ b o, s.heap.get? b = some o → h1.get? b = some o := fun b o e => by
    rw [hh]; exact pushCells_keeps _ _ b o (Heap.get?_push_of_some _ (Heap.get?_push_of_some _ e))
  have hacc : h1.get? D = some { cls := .type "list", data := .seq #[] } := by
    rw [hh, hD]; exact pushCells_keeps _ _ _ _ (Heap.get?_push_of_some _ (Heap.get?_push_size _ rfl))
  have hns : h1.Ns C (fun _ => none) := by
    rw [hh, ← hsz1]
    exact (Heap.Ns.new _ (.type "dict")).keeps (pushCells_keeps _ _)
  have ok := cellsFrom_ok scope.names ((s.heap.push { cls := .type "list", data := .seq #[] }).push { cls := .type "dict", data := .dict #[] }) (C + 1) [] ⟨fun _ _ hm => (nomatch hm), List.Pairwise.nil⟩ (by rw [hsz2]; exact Nat.le_refl _)
  rw [hsz2] at ok
  have own : ∀ x c, (x, c) ∈ cellsFrom (C + 1) scope.names [] → h1.IsCell c none ∧ C + 1 ≤ c := fun x c h => by rw [hh]; exact ok.empty x c h
  have par : ∀ x c, X.env.cells.lookup x = some c → c < D := fun x c e => by
    obtain ⟨v, q⟩ := I.cell x c e
    rw [hD]; exact q.lt
  have fpD : ∀ b ∈ fp, b < D := fun b hb => by
    obtain ⟨o, e⟩ := hfo b hb
    rw [hD]; exact Heap.lt_size e
  have hCfree : H C = none := I.hok.fresh (by rw [hC, hD]; exact Nat.le_succ _)
  have split := fun x c (h : (cellsC X scope C).lookup x = some c) => cellsC_split (C := C) I S (PySem.mem_of_lookup h)
  have updn : ∀ b, b ≠ D → H b = none → (upd H D (.lst [])) b = none := fun b hb e => by rw [upd_ne hb]; exact e
  have capt : ∀ x, scope.names.lookup x = some .free → ∃ c, X.env.cells.lookup x = some c ∧ (cellsC X scope C).lookup x = some c := fun x hx => by
    have hm := PySem.mem_of_lookup hx
    obtain ⟨c0, h0⟩ := closOf_has (env := X.env) (acc := []) hm
    obtain ⟨c, hc⟩ := look_of_mem (l := cellsC X scope C) (x := x) (c := c0) (by unfold cellsC; rw [cellsFrom_app]; exact List.mem_append_right _ h0)
    refine ⟨c, ?_, hc⟩
    rcases split x c hc with q | q
    · rcases cellsFrom_cell q with z | z
      · simp at z
      · have := nodup_key S.ndn hm z; cases this
    · exact q
  have okX : (cxComp X N scope (cellsC X scope C) C s H fp).Ok := by
    refine ⟨I.ok.mod, S.kind, I.ok.glob, I.ok.blt, ?above, ?inj, ?has, ?cab, I.ok.hd, I.ok.frames, .inl rfl, ?exf, fun b o e => I.bs b o e, Nat.le_trans I.ok.bsz I.sz, ?noex, ?exfs, I.stack, I.stkFree⟩
    case above =>
      show s.heap.objs.size ≤ C
      rw [hC, hD]; exact Nat.le_succ _
    case inj =>
      intro x y c e1 e2
      rcases split x c e1 with q1 | q1 <;> rcases split y c e2 with q2 | q2
      · exact name_of_addr ok.apart q1 q2
      · have h1 : @LE.le Nat _ (C + 1) c := (own x c q1).2
        have h2 : @LT.lt Nat _ c D := par y c q2
        exfalso; omega
      · have h1 : @LE.le Nat _ (C + 1) c := (own y c q2).2
        have h2 : @LT.lt Nat _ c D := par x c q1
        exfalso; omega
      · exact I.ok.inj x y c q1 q2
    case has =>
      intro x hx
      have hx' : (relabel scope X.env).names.lookup x = some .cell ∨ (relabel scope X.env).names.lookup x = some .free := hx
      have hk : ∃ k', (x, k') ∈ scope.names ∧ (k' = .cell ∨ k' = .free) := by
        rcases hx' with q | q
        · obtain ⟨k', h1, h2⟩ := relabel_look q
          rcases h2 with h2 | ⟨h2, _⟩
          · exact ⟨k', h1, .inl h2.symm⟩
          · exact ⟨k', h1, .inr h2⟩
        · obtain ⟨k', h1, h2⟩ := relabel_look q
          rcases h2 with h2 | ⟨_, h2⟩
          · exact ⟨k', h1, .inr h2.symm⟩
          · cases h2
      obtain ⟨k', hm, hk | hk⟩ := hk
      · subst hk
        have q := PySem.W.cellsFrom_some scope.names (C + 1) (closOf X.env scope.names []) (x := x) (.inl (by
          obtain ⟨k2, hk2⟩ := look_of_mem hm
          rw [hk2, nodup_key S.ndn (PySem.mem_of_lookup hk2) hm]))
        exact Option.isSome_iff_exists.mp q
      · subst hk
        obtain ⟨c0, h0⟩ := closOf_has (env := X.env) (acc := []) hm
        exact look_of_mem (c := c0) (by show (x, c0) ∈ cellsC X scope C; unfold cellsC; rw [cellsFrom_app]; exact List.mem_append_right _ h0)
    case cab =>
      intro x c hx e
      have hx' : decide (scope.names.lookup x ≠ some .free) = true := hx
      have hx2 := of_decide_eq_true hx'
      show s.heap.objs.size ≤ c
      have e' : (cellsC X scope C).lookup x = some c := e
      have hm := PySem.mem_of_lookup e'
      unfold cellsC at hm
      rw [cellsFrom_app] at hm
      rcases List.mem_append.mp hm with z | z
      · have h1 : @LE.le Nat _ (C + 1) c := (own x c z).2
        have h2 : @LE.le Nat _ s.heap.objs.size c := by omega
        exact h2
      · rcases closOf_mem z with z | ⟨z, _⟩
        · simp at z
        · obtain ⟨k2, hk2⟩ := look_of_mem z
          exact absurd (by rw [hk2, nodup_key S.ndn (PySem.mem_of_lookup hk2) z]) hx2
    case exf =>
      intro b hb
      refine ⟨?_, fun x c e z => ?_⟩
      · have h1 : @LT.lt Nat _ b D := fpD b hb
        exact Nat.ne_of_lt (show @LT.lt Nat _ b C by omega)
      · rcases split x c e with q | q
        · have h1 : @LE.le Nat _ (C + 1) c := (own x c q).2
          have h2 : @LT.lt Nat _ b D := fpD b hb
          have z' : @Eq Nat c b := z
          omega
        · exact (hf b hb).2.2.2.2.1 x c q z
    case noex =>
      intro b o e hb
      rcases (hf b hb).2.2.2.1 with q | q
      · exact I.ok.noex b o e q
      · exact absurd (Nat.lt_of_lt_of_le (Heap.lt_size e) (Nat.le_trans I.ok.bsz q)) (Nat.lt_irrefl _)
    case exfs =>
      intro b hb z
      have z' : b ∈ frs X.stack := z
      rcases List.mem_cons.mp (I.stkSub b z') with q | q
      · exact (hf b hb).2.1 q
      · exact (hf b hb).2.2.1 q
  refine ⟨okX, rfl, I.bare, Un.laid old (by rw [hD]; exact Nat.le_refl _) (I.hok.fresh (by rw [hD]; exact Nat.le_refl _)), ⟨_, hns, ?loc⟩, ?cell, updn _ (show @Ne Nat C D by omega) hCfree, ?freeC, fun p hp => absurd hp (by simp), ?hok, ?len⟩
  case loc =>
    intro i x v e1 e2 e3
    obtain ⟨j, hi, hj, hv⟩ := compSt_at e2
    have hz : (x, j) ∈ (N.drop k).zip caps := by
      refine List.mem_iff_getElem?.mpr ⟨i - k, ?_⟩
      rw [List.getElem?_zip_eq_some]
      refine ⟨?_, hj⟩
      rw [List.getElem?_drop, show k + (i - k) = i by omega]
      exact e1
    obtain ⟨hp, hfr⟩ := S.cap (x, j) hz
    have hk := S.free (x, .free) (PySem.mem_of_lookup hfr) rfl
    obtain ⟨m, hn, hl⟩ := I.loc
    obtain ⟨u, r, l⟩ := hl j x v hp hv (by rcases hk with q | q; exact .inr (.inl q); exact .inr (.inr q))
    refine ⟨u, r, ?_⟩
    obtain ⟨c, hc1, hc2⟩ := capt x hfr
    have hcell : s.heap.IsCell c (some u) := by
      rcases l with ⟨q, _⟩ | ⟨_, c', q1, q2⟩
      · have q' : X.env.scope.names.lookup x = some .local := q
        rcases hk with z | z
        · rw [q'] at z; cases z
        · rw [q'] at z; cases z
      · rw [hc1] at q1; cases q1; exact q2
    exact .inr ⟨relabel_free hfr, c, hc2, hcell.keeps old⟩
  case cell =>
    intro x c e
    rcases split x c e with q | q
    · exact ⟨_, (own x c q).1⟩
    · obtain ⟨v, z⟩ := I.cell x c q
      exact ⟨v, z.keeps old⟩
  case freeC =>
    intro x c e
    rcases split x c e with q | q
    · have h1 : @LE.le Nat _ (C + 1) c := (own x c q).2
      have h2 : @LE.le Nat _ s.heap.objs.size c := by omega
      exact updn c (show @Ne Nat c D by omega) (I.hok.fresh h2)
    · exact updn c (Nat.ne_of_lt (par x c q)) (I.freeC x c q)
  case hok =>
    exact I.hok.laid old (by rw [hD]; exact Nat.le_refl _) ⟨Nat.zero_le _, [], 0, .nil, hacc⟩
  case len =>
    show (compSt k caps σ).length = N.length
    unfold compSt
    rw [List.length_append, List.length_replicate, List.length_map, S.len]

/-- at a turn's start the own names are forgotten, the others read anew: their cells stand as they stood -/
theorem comp_again {fp : List Addr} (I : Inv X pins σ H s) (S : CompScope X.env.scope X.N scope N k caps) {C : Addr} {pins' : List (Addr × Obj)} {σ' : St} {H' : Hp} {s' : Shared} (hfc : ∀ x c, X.env.cells.lookup x = some c → c ∉ fp) (hD : s.heap.objs.size ≤ C)
    (J : Inv (cxComp X N scope (cellsC X scope C) C s H fp) pins' σ' H' s') : Inv (cxComp X N scope (cellsC X scope C) C s H fp) pins' (compSt k caps σ) H' s' := by
  obtain ⟨m, hn, _⟩ := id J.loc
  refine ⟨J.ok, J.os, J.bare, J.base, ⟨m, hn, fun i x v e1 e2 e3 => ?_⟩, J.cell, J.free, J.freeC, J.pin, J.hok, ?_⟩
  · obtain ⟨j, hi, hj, hv⟩ := compSt_at e2
    have hz : (x, j) ∈ (N.drop k).zip caps := by
      refine List.mem_iff_getElem?.mpr ⟨i - k, ?_⟩
      rw [List.getElem?_zip_eq_some]
      refine ⟨?_, hj⟩
      rw [List.getElem?_drop, show k + (i - k) = i by omega]
      exact e1
    obtain ⟨hp, hfr⟩ := S.cap (x, j) hz
    have hk := S.free (x, .free) (PySem.mem_of_lookup hfr) rfl
    obtain ⟨m2, hn2, hl⟩ := I.loc
    obtain ⟨u, r, l⟩ := hl j x v hp hv (by rcases hk with q | q; exact .inr (.inl q); exact .inr (.inr q))
    refine ⟨u, r, ?_⟩
    have hcell : ∃ c, X.env.cells.lookup x = some c ∧ s.heap.IsCell c (some u) := by
      rcases l with ⟨q, _⟩ | ⟨_, c', q1, q2⟩
      · have q' : X.env.scope.names.lookup x = some .local := q
        rcases hk with z | z
        · rw [q'] at z; cases z
        · rw [q'] at z; cases z
      · exact ⟨c', q1, q2⟩
    obtain ⟨c, hc1, o, ho, hd⟩ := hcell
    have hc2 : (cellsC X scope C).lookup x = some c := by
      have hm := PySem.mem_of_lookup hfr
      obtain ⟨c0, h0⟩ := closOf_has (env := X.env) (acc := []) hm
      obtain ⟨c', hc'⟩ := look_of_mem (l := cellsC X scope C) (x := x) (c := c0) (by unfold cellsC; rw [cellsFrom_app]; exact List.mem_append_right _ h0)
      rcases cellsC_split (C := C) I S (PySem.mem_of_lookup hc') with q | q
      · rcases cellsFrom_cell q with z | z
        · simp at z
        · have := nodup_key S.ndn hm z; cases this
      · rw [hc1] at q; cases q; exact hc'
    obtain ⟨sl, q⟩ := J.base.any ho (I.freeC x c hc1) (hfc x c hc1)
    exact .inr ⟨relabel_free hfr, c, hc2, _, q, hd⟩
  · show (compSt k caps σ).length = N.length
    unfold compSt
    rw [List.length_append, List.length_replicate, List.length_map, S.len]
end

/-! ### the tests of a comprehension -/
def PF (X : Cx) (ifs : List Expr) (t : TT) : Prop :=
  ∀ (pins : List (Addr × Obj)) (s : Shared) (σ : St) (H : Hp) (Q : Bool → Hp → Prop), Inv X pins σ H s → t σ H Q →
    wpAny (model X.prog X.w) X.A (forIn ifs true fun c r => if r = true then do let ok ← isTrue c X.env (eval c X.env); pure (ForInStep.yield ok) else pure (ForInStep.yield r)) (TP X pins σ Q) X.xe s
def tYes : TT := fun _ H Q => Q true H
theorem pf_nil {X : Cx} : PF X [] tYes := fun _ _ _ H _ I h => wpAny_tests_nil ⟨H, I, h⟩

theorem comp_loop {prog : Program} {w : World} {A : Around} {R : Result → Shared → Prop} {s : Shared} {elt target iter : Expr} {ifs : List Expr} {scope : Scope} {pos : Pos} {it acc : Value} {env : Env} (I : Nat → Shared → Prop)
    (turn : ∀ n s, I n s → wpAny (model prog w) A (pyNext it) (fun r s₁ => match r with
      | none => R (.ok .next) s₁
      | some v => wpAny (model prog w) A (letOwnedTupleGo target it v) (fun _ s₁ => wpAny (model prog w) A (assign target env v) (fun _ s₂ =>
          wpAny (model prog w) A (forIn ifs true fun c r => if r = true then do let ok ← isTrue c env (eval c env); pure (ForInStep.yield ok) else pure (ForInStep.yield r)) (fun ok s₃ =>
            if ok = true then wpAny (model prog w) A (eval elt env) (fun x s₄ =>
              wpAny (model prog w) A (call (.builtin "list.append") [acc, x]) (fun _ s₅ => ∃ m, m < n ∧ I m s₅) (fun _ _ => False) s₄) (fun _ _ => False) s₃
            else ∃ m, m < n ∧ I m s₃) (fun _ _ => False) s₂) (fun _ _ => False) s₁) (fun _ _ => False) s₁) (fun _ _ => False) s)
    (n : Nat) (h : I n s) :
    codeAny (model prog w) A (.compLoop (.ListComp elt [⟨target, iter, ifs, 0⟩] scope pos) 0 it acc env) R s := by
  refine codeAny_loop rfl I (fun n s hI => ?_) n h
  show wpAny _ A ((compTurn (.ListComp elt [⟨target, iter, ifs, 0⟩] scope pos) 0 it acc env).onRaise (fun x => do noteFrame x env; theTreesLotGoes x)) _ _ s
  refine wpAny_noted ?_
  rw [compTurn_list]
  refine wpAny_bind (wpAny_standAt (wpAny_bind (wpAny_mono (turn n s hI) (fun r s₁ h₁ => ?_) fun _ _ h' => h'.elim)))
  cases r with
  | none => exact wpAny_pure h₁
  | some v =>
    refine wpAny_bind (wpAny_mono h₁ (fun _ s₁ h₁ => ?_) fun _ _ h' => h'.elim)
    refine wpAny_bind (wpAny_mono h₁ (fun _ s₂ h₂ => wpAny_bind (wpAny_mono h₂ (fun ok s₃ h₃ => ?_) fun _ _ h' => h'.elim)) fun _ _ h' => h'.elim)
    cases ok with
    | false => exact wpAny_pure ⟨rfl, h₃⟩
    | true =>
      exact wpAny_bind (wpAny_bind (wpAny_mono h₃ (fun x s₄ h₄ => wpAny_bind (wpAny_mono h₄ (fun _ s₅ h₅ => wpAny_pure (wpAny_pure ⟨rfl, h₅⟩)) fun _ _ h' => h'.elim)) fun _ _ h' => h'.elim))

/-- [e for target in iter if c]: the new list at D; W: the invariant by the turn, a measure and the items so far -/
def tComp (k : Nat) (caps : List Nat) (wi : TI) (g : TG) (tc : TT) (te : TE) : TE := fun σ H Q => wi σ H fun J H1 => ∀ D, H1 D = none → ∃ W : Nat → Nat → List V → Hp → Prop, (∃ m, W 0 m [] (upd H1 D (.lst []))) ∧ ∀ i m ys H2, W i m ys H2 →
  (J.stop i H2 ∧ Q (.ref D) H2) ∨ (J.go i H2 ∧ ∀ x H3, J.yld i H2 x H3 → g x (compSt k caps σ) H3 fun σ4 H4 => tc σ4 H4 fun b H5 =>
    if b = true then te σ4 H5 fun y H6 => H6 D = some (.lst ys) ∧ ys.length < sizeLine ∧ ∃ m', m' < m ∧ W (i + 1) m' (ys ++ [y]) (upd H6 D (.lst (ys ++ [y]))) else ∃ m', m' < m ∧ W (i + 1) m' ys H5)

/-- the block runs: the state behind it as the code around sees it -/
theorem comp_block {X : Cx} {elt iter tg : Expr} {ifs : List Expr} {scope : Scope} {pos : Pos} {N : List Str} {k : Nat} {caps : List Nat} {g : TG} {tc : TT} {te : TE} {pins : List (Addr × Obj)} {σ : St} {H : Hp} {s : Shared} {E : Value → Shared → Prop} {Q : VK}
    {it : Addr} {fp : List Addr} {tn : Nat → Heap → Prop} {J : It} {RR : Value → Addr → Result → Shared → Prop} (hc : X.calm = true) (S : CompScope X.env.scope X.N scope N k caps) (I : Inv X pins σ H s)
    (T : Turn X.prog X.w X.K tg J fp it tn) (st : tn 0 s.heap) (hf : ∀ b ∈ fp, FpOk X pins H b)
    (hg : ∀ cs C s H ex, PG (cxComp X N scope cs C s H ex) tg g) (ht : ∀ cs C s H ex, PF (cxComp X N scope cs C s H ex) ifs tc) (he : ∀ cs C s H ex, PE (cxComp X N scope cs C s H ex) elt te)
    (q : ∀ D, H D = none → ∃ W : Nat → Nat → List V → Hp → Prop, (∃ m, W 0 m [] (upd H D (.lst []))) ∧ ∀ i m ys H2, W i m ys H2 →
      (J.stop i H2 ∧ Q (.ref D) H2) ∨ (J.go i H2 ∧ ∀ x H3, J.yld i H2 x H3 → g x (compSt k caps σ) H3 fun σ4 H4 => tc σ4 H4 fun b H5 =>
        if b = true then te σ4 H5 fun y H6 => H6 D = some (.lst ys) ∧ ys.length < sizeLine ∧ ∃ m', m' < m ∧ W (i + 1) m' (ys ++ [y]) (upd H6 D (.lst (ys ++ [y]))) else ∃ m', m' < m ∧ W (i + 1) m' ys H5))
    (hRR : ∀ D C H' s' m, C ≠ X.env.locals → (∀ x c, X.env.cells.lookup x = some c → c ≠ C) → s'.heap.Ns C m → (∀ h', Heap.SameBut C s'.heap h' → Inv X pins σ H' { s' with heap := h' }) → H' C = none → s.heap.objs.size ≤ C → Q (.ref D) H' → RR (.ref D) C (.ok .next) s') :
    wpAny (model X.prog X.w) X.A (newList []) (fun acc s₃ => wpAny (model X.prog X.w) X.A (newFunctionEnv scope X.env.globals (closOf X.env scope.names []) [] X.env.qual none .none (some X.env)) (fun cenv s₄ =>
      codeAny (model X.prog X.w) X.A (.compStart (.ListComp elt [⟨tg, iter, ifs, 0⟩] scope pos) 0 (.ref it) acc { cenv with scope := relabel scope X.env }) (RR acc cenv.locals) s₄) E s₃) E s := by
  refine wpAny_newObj_type (nfe_comp ?_)
  generalize hD : s.heap.objs.size = D
  have hsz1 : (s.heap.push { cls := .type "list", dict := none, data := .seq ([] : List Value).toArray }).objs.size = D + 1 := by rw [Heap.size_push, hD]
  dsimp only
  rw [hsz1]
  have hfo : ∀ b ∈ fp, ∃ o, s.heap.get? b = some o := fun b hb => let ⟨o, e, _⟩ := T.obj 0 _ st b hb; ⟨o, e⟩
  have hHD : H D = none := I.hok.fresh (by rw [hD]; exact Nat.le_refl _)
  have J0 := comp_start (t' := s.toks) I S hf hfo (D := D) (C := D + 1) hD.symm rfl rfl
  have hfc : ∀ x c, X.env.cells.lookup x = some c → c ∉ fp := fun x c e hb => (hf c hb).2.2.2.2.1 x c e rfl
  have fpo : ∀ {pins' : List (Addr × Obj)} {H' : Hp}, (∀ b ∈ fp, H' b = none) → pins' = [] → ∀ b ∈ fp, FpOk (cxComp X N scope (cellsC X scope (D + 1)) (D + 1) s H fp) pins' H' b := fun {pins' H'} hn hp b hb => by
    obtain ⟨o, e⟩ := hfo b hb
    have hlt : @LT.lt Nat _ b D := by rw [← hD]; exact Heap.lt_size e
    subst hp
    refine ⟨hn b hb, ?_, fun z => ?_, .inl hb, fun x c e => (J0.ok.exf b hb).2 x c e, fun p hp => absurd hp (by simp)⟩
    · show @Ne Nat b (D + 1)
      omega
    · have z' : b ∈ frs X.stack := z
      rcases List.mem_cons.mp (I.stkSub b z') with w | w
      · exact (hf b hb).2.1 w
      · exact (hf b hb).2.2.1 w
  obtain ⟨W, ⟨m0, w0⟩, turn⟩ := q D hHD
  have st1 : tn 0 (pushCells ((s.heap.push { cls := .type "list", data := .seq #[] }).push { cls := .type "dict", data := .dict #[] }) scope.names) := T.keep 0 _ _ st fun b hb o e => pushCells_keeps _ _ b o (Heap.get?_push_of_some _ (Heap.get?_push_of_some _ e))
  have fr0 : ∀ b ∈ fp, (upd H D (.lst [])) b = none := fun b hb => by
    obtain ⟨o, e⟩ := hfo b hb
    have hlt : @LT.lt Nat _ b D := by rw [← hD]; exact Heap.lt_size e
    rw [upd_ne (show @Ne Nat b D by omega)]
    exact (hf b hb).1
  have fin : ∀ {H' : Hp} {s' : Shared} {σ' : St} {pins' : List (Addr × Obj)}, Inv (cxComp X N scope (cellsC X scope (D + 1)) (D + 1) s H fp) pins' σ' H' s' → Q (.ref D) H' → RR (.ref D) (D + 1) (.ok .next) s' := fun {H' s' σ' pins'} J q => by
    obtain ⟨m, hn, _⟩ := id J.loc
    refine hRR D (D + 1) H' s' m (fun z => ?_) (fun x c e z => ?_) hn (fun h' hs => ?_) J.free (by rw [hD]; exact Nat.le_succ _) q
    · have h1 : @LT.lt Nat _ X.env.locals D := by rw [← hD]; exact I.lt
      have z' : @Eq Nat (D + 1) X.env.locals := z
      omega
    · obtain ⟨v, y⟩ := I.cell x c e
      have h1 : @LT.lt Nat _ c D := by rw [← hD]; exact y.lt
      have z' : @Eq Nat c (D + 1) := z
      omega
    · refine I.call' (ch := fp) J.os (J.base.but hs (by rw [hD]; exact Nat.le_succ _)) (J.hok.but hs J.free) J.bare fun b hb => ?_
      exact ⟨(hf b hb).2.2.2.1, (hf b hb).2.1, (hf b hb).2.2.2.2.1, (hf b hb).2.2.2.2.2⟩
  have loop : codeAny (model X.prog X.w) X.A (.compLoop (.ListComp elt [⟨tg, iter, ifs, 0⟩] scope pos) 0 (.ref it) (.ref D) (compEnvC scope (cellsC X scope (D + 1)) (D + 1) X.env)) (RR (.ref D) (D + 1))
      { s with heap := pushCells ((s.heap.push { cls := .type "list", data := .seq #[] }).push { cls := .type "dict", data := .dict #[] }) scope.names } := by
    refine comp_loop (fun n s' => ∃ i ys H', Inv (cxComp X N scope (cellsC X scope (D + 1)) (D + 1) s H fp) [] (compSt k caps σ) H' s' ∧ tn i s'.heap ∧ (∀ b ∈ fp, H' b = none) ∧ W i n ys H') ?_ m0 ⟨0, [], _, J0, st1, fr0, w0⟩
    rintro n s3 ⟨i, ys, H3, I3, st3, fr3, w3⟩
    rcases turn i n ys H3 w3 with ⟨stop, qn⟩ | ⟨go, step⟩
    · refine thn (T.done (cxComp X N scope (cellsC X scope (D + 1)) (D + 1) s H fp) rfl rfl rfl hc i [] s3 _ H3 _ I3 (fpo fr3 rfl) st3 stop) fun r s4 ⟨hr, I4⟩ => ?_
      subst hr
      exact fin I4 qn
    · refine thn (T.item (cxComp X N scope (cellsC X scope (D + 1)) (D + 1) s H fp) rfl rfl rfl hc i [] s3 _ H3 _ I3 (fpo fr3 rfl) st3 go) fun r s4 ⟨u, hr, h4⟩ => ?_
      subst hr
      refine thn h4 fun _ s5 ⟨x, H5, I5, r5, y5, st5, fr5⟩ => ?_
      have I5' := I5.pinned (fpo fr5 rfl) (T.obj _ _ st5)
      have again : ∀ {σ7 : St} {H7 : Hp} {s7 : Shared} {m' : Nat} {zs : List V}, Inv (cxComp X N scope (cellsC X scope (D + 1)) (D + 1) s H fp) ([] ++ pinsAt fp s5.heap) σ7 H7 s7 → m' < n → W (i + 1) m' zs H7 →
          ∃ m, m < n ∧ ∃ i ys H', Inv (cxComp X N scope (cellsC X scope (D + 1)) (D + 1) s H fp) [] (compSt k caps σ) H' s7 ∧ tn i s7.heap ∧ (∀ b ∈ fp, H' b = none) ∧ W i m ys H' := fun {σ7 H7 s7 m' zs} I7 hm w7 => by
        refine ⟨m', hm, i + 1, zs, H7, comp_again I S hfc (by rw [hD]; exact Nat.le_succ _) I7.unpinned, T.keep _ _ _ st5 fun b hb o e => (I7.pin (b, o) (List.mem_append_right _ (List.mem_append_right _ (mem_pinsAt hb e)))).1, fun b hb => ?_, w7⟩
        obtain ⟨o, e, d⟩ := T.obj _ _ st5 b hb
        exact (I7.pin (b, o) (List.mem_append_right _ (List.mem_append_right _ (mem_pinsAt hb e)))).2.1
      refine thn (hg _ _ _ _ _ _ s5 _ H5 x u _ I5' r5 (step x H5 y5)) fun _ s6 ⟨σ6, H6, I6, q6⟩ => ?_
      refine thn (ht _ _ _ _ _ _ s6 σ6 H6 _ I6 q6) fun b s7 ⟨H7, I7, q7⟩ => ?_
      cases b with
      | false =>
        rw [if_neg Bool.false_ne_true] at q7 ⊢
        obtain ⟨m', hm, w7⟩ := q7
        exact again I7 hm w7
      | true =>
        rw [if_pos rfl] at q7 ⊢
        refine thn (he _ _ _ _ _ _ s7 σ6 H7 _ I7 q7) fun y s8 ⟨yv, H8, I8, r8, hD8, hz8, m', hm, w8⟩ => ?_
        refine thn (mt_append (X := cxComp X N scope (cellsC X scope (D + 1)) (D + 1) s H fp) _ s8 σ6 H8 (.ref D) [yv] (.ref D) [y] (fun _ H9 => W (i + 1) m' (ys ++ [yv]) H9) I8 rfl (.cons r8 .nil) ⟨D, ys, yv, rfl, rfl, hD8, hz8, w8⟩) fun _ s9 ⟨_, H9, I9, _, w9⟩ => ?_
        exact again I9 hm w9
  exact codeAny_compStart_list loop (T.self _ 0 _ _ _ st1 loop)

theorem pe_comp {X : Cx} {elt iter tg : Expr} {ifs : List Expr} {scope : Scope} {pos : Pos} {N : List Str} {k : Nat} {caps : List Nat} {wi : TI} {g : TG} {tc : TT} {te : TE} (hc : X.calm = true) (S : CompScope X.env.scope X.N scope N k caps) (hi : PI X tg iter wi)
    (hg : ∀ cs C s H ex, PG (cxComp X N scope cs C s H ex) tg g) (ht : ∀ cs C s H ex, PF (cxComp X N scope cs C s H ex) ifs tc) (he : ∀ cs C s H ex, PE (cxComp X N scope cs C s H ex) elt te)
    (hs : ∀ x, foldedSetIterable iter X.env x = pure x := by intro _; rfl) : PE X (.ListComp elt [⟨tg, iter, ifs, 0⟩] scope pos) (tComp k caps wi g tc te) := by
  intro pins s σ H Q I h
  have hcl : closureFor scope X.env = pure (closOf X.env scope.names []) := closureFor_of fun x hx hfr => I.ok.has x.1 (S.free x hx hfr)
  rw [eval_ListComp]
  refine wpAny_comprehension_free (use := none) rfl hs hcl S.kind S.loc (thn (hi pins s σ H _ I h) fun v s1 h1 => thn h1 fun itv s2 h2 => ?_)
  obtain ⟨it, fp, tn, J, H2, e, I2, T, st2, f2, q⟩ := h2
  subst e
  refine comp_block (Q := Q) hc S I2 T st2 f2 hg ht he q ?_
  intro D C H' s' m _ _ hn hI _ _ hq
  exact ⟨m, hn, fun h' hs' => ⟨.ref D, H', hI h' hs', rfl, hq⟩⟩

/-- x = [e for ..], where the store comes ahead of the block's end -/
theorem ps_setC {X : Cx} {elt iter tg : Expr} {ifs : List Expr} {scope : Scope} {pos spos : Pos} {N : List Str} {k i : Nat} {x : Str} {pos' : Pos} {caps : List Nat} {wi : TI} {g : TG} {tc : TT} {te : TE} (hN : X.N.Nodup) (hi' : X.N[i]? = some x) (hx : Loc X.env.scope x)
    (hc : X.calm = true) (S : CompScope X.env.scope X.N scope N k caps) (hi : PI X tg iter wi)
    (hg : ∀ cs C s H ex, PG (cxComp X N scope cs C s H ex) tg g) (ht : ∀ cs C s H ex, PF (cxComp X N scope cs C s H ex) ifs tc) (he : ∀ cs C s H ex, PE (cxComp X N scope cs C s H ex) elt te)
    (hsw : swapsWith (.ListComp elt [⟨tg, iter, ifs, 0⟩] scope pos) (some (.Name x pos')) spos.line X.env = pure true := by rfl)
    (hs : ∀ x, foldedSetIterable iter X.env x = pure x := by intro _; rfl) (hfn : X.fn x = true ∨ X.env.scope.names.lookup x = some .local := by first | exact .inl rfl | exact .inr rfl | assumption) :
    PS X (.Assign [.Name x pos'] (.ListComp elt [⟨tg, iter, ifs, 0⟩] scope pos) spos) (tAsg (tComp k caps wi g tc te) (gName i)) := by
  intro pins s σ H D I h
  have hcl : closureFor scope X.env = pure (closOf X.env scope.names []) := closureFor_of fun x hx hfr => I.ok.has x.1 (S.free x hx hfr)
  rw [exec_Assign_Name_used _ _ _ _ hsw]
  refine wpAny_bind (wpAny_standAt (wpAny_bind ?_))
  show wpAny _ _ (do let _ ← comprehension (.ListComp elt [⟨tg, iter, ifs, 0⟩] scope pos) scope X.env _ (newList []) false (eval iter X.env) (some (assign (.Name x pos') X.env))) _ _ s
  refine wpAny_bind (wpAny_mono (wpAny_comprehension_free (use := some (assign (.Name x pos') X.env)) (Q := fun _ s' => SP X pins D .next s') rfl hs hcl S.kind S.loc
    (thn (hi pins s σ H _ I h) fun v s1 h1 => thn h1 fun itv s2 h2 => ?_)) (fun _ s' hq => wpAny_pure (wpAny_pure hq)) fun _ _ e => e)
  obtain ⟨it, fp, tn, J, H2, e, I2, T, st2, f2, q⟩ := h2
  subst e
  refine comp_block (Q := fun x H1 => gName i x σ H1 D.nx) hc S I2 T st2 f2 hg ht he q ?_
  intro D' C H' s' m hCL hCc hn hI hHC hCs hq
  have I3 := hI s'.heap (.refl ..)
  have I3' : Inv X pins σ H' s' := I3
  refine wpAny_assign_Name (store_ok2 I3' hN hi' hx (show RelV (V.ref D') (.ref D') from rfl) (fun s'' I4 ⟨a, hsb, ha⟩ => ?_) hfn)
  have hCa : C ≠ a := by
    rcases ha with ha | ha
    · rw [ha]; exact hCL
    · exact Ne.symm (hCc x a ha)
  refine ⟨m, hn.sameBut hsb hCa, fun h' hs' => ?_⟩
  refine ⟨_, H', ?_, hq⟩
  exact I4.turned (t' := s''.toks) (fun b o hb e => (hs'.2 b hb).trans e) hHC hCL (.inr (Nat.le_trans I2.sz hCs)) hCc fun p hp z => by
    have := Heap.lt_size (I2.pin p hp).1
    rw [z] at this
    exact absurd (Nat.lt_of_lt_of_le this hCs) (Nat.lt_irrefl _)
end L2

namespace L2
open PySem PySem.Spec PyProof.Rows
/-- a def of the text that may be called by its name: its promise, its address, how it binds -/
def Callee (P : Program) (w : World) (K : PySem.W.Frag) (mg : Str → Option Value) (base : Heap) (x : Str) (k : Nat) (ps : List Str) (sp : Sp) : Prop :=
  ∃ f fd, FnOk P w K mg base CX0 k f fd ps sp ∧ mg x = some (.ref f) ∧ PySem.W.keepIn K (.ref f) = true ∧ Binds K fd ps []
section
variable {X : Cx} {x : Str} {k : Nat} {ps : List Str} {sp : Sp} {e : Expr} {es : List Expr} {t : TA} {p pos : Pos}
theorem pe_fn (C : Callee X.prog X.w X.K X.mg X.base x k ps sp) (hr : Room k X.A) (hg : Gl X x) (ha : PA X (e :: es) t) (hdb : (x == ("__debug__" : Str)) = false := by decide)
    (he : starEach (e :: es) X.env = (false, eval e X.env) :: starEach es X.env := by rfl) (hpl : (backTo pos (starEach es X.env)).any (·.1) = false := by rfl) : PE X (.Call (.Name x p) (e :: es) [] pos) (tCall sp [] E0 t) := by
  obtain ⟨f, fd, F, hm, hk, hb⟩ := C
  exact pe_call F hr hg hm hk hb .nil pass0 ha hdb he hpl
end
theorem pe_ty {X : Cx} {x : Str} {pos : Pos} (n : String) (hg : Gl X x) (hm : X.mg x = none) (hv : bootBuiltins x = some (.type n)) (hn : x ≠ "__name__" := by decide) (hd : (x == ("__debug__" : Str)) = false := by decide) : PE X (.Name x pos) (tC (.ty n)) := pe_bltn (v := .ty n) hg hm hv rfl hn hd
theorem seq_cut {t u : TS} {D : Ends} {σ : L2.St} {H : Hp} (P : L2.St → Hp → Prop) (hu : ∀ σ' H', P σ' H' → u D σ' H') (ht : ∀ N : L2.St → Hp → Prop, (∀ σ' H', P σ' H' → N σ' H') → t { D with nx := N } σ H) : tSeq t u D σ H := ht (u D) hu
/-! ### comprehensions whose element leaves what was tracked -/
theorem Same.upd {H H' : Hp} {D : Addr} {o : HO} (h : Same H H') (hn : H D = none) : Same H (upd H' D o) := fun b u e => by
  rw [upd_ne (ne_of_none e hn)]; exact h b u e
/-- over the signs of a text, no test -/
theorem comp_str {x : Str} {k : Nat} {caps : List Nat} {g : TG} {te : TE} {σ : St} {H1 : Hp} {Q : Addr → Hp → Prop} (f : Nat → V) (hn : x.cps.size ≤ sizeLine)
    (hs : ∀ (i c : Nat) (H2 : Hp) (D : Addr) (R : VK), x.cps[i]? = some c → Same H1 H2 → H1 D = none → (∀ H3, Same H2 H3 → R (f c) H3) → g (.str ⟨#[c]⟩) (compSt k caps σ) H2 fun σ4 H4 => te σ4 H4 R)
    (hd : ∀ (H2 : Hp) (D : Addr), Same H1 H2 → H1 D = none → H2 D = some (.lst (x.cps.toList.map f)) → Q D H2) :
    ∀ D, H1 D = none → ∃ W : Nat → Nat → List V → Hp → Prop, (∃ m, W 0 m [] (upd H1 D (.lst []))) ∧ ∀ i m ys H2, W i m ys H2 →
      ((Its x).stop i H2 ∧ Q D H2) ∨ ((Its x).go i H2 ∧ ∀ y H3, (Its x).yld i H2 y H3 → g y (compSt k caps σ) H3 fun σ4 H4 => tYes σ4 H4 fun b H5 =>
        if b = true then te σ4 H5 fun y H6 => H6 D = some (.lst ys) ∧ ys.length < sizeLine ∧ ∃ m', m' < m ∧ W (i + 1) m' (ys ++ [y]) (upd H6 D (.lst (ys ++ [y]))) else ∃ m', m' < m ∧ W (i + 1) m' ys H5) := by
  intro D hD
  refine ⟨fun i m ys H2 => m = x.cps.size - i ∧ i ≤ x.cps.size ∧ ys = (x.cps.toList.take i).map f ∧ Same H1 H2 ∧ H2 D = some (.lst ys), ⟨x.cps.size, rfl, Nat.zero_le _, rfl, (Same.refl _).upd hD, upd_same⟩, ?_⟩
  rintro i m ys H2 ⟨rfl, hi, rfl, s2, e2⟩
  by_cases hlt : i < x.cps.size
  · refine .inr ⟨hlt, fun y H3 hy => ?_⟩
    obtain ⟨rfl, c, hc, rfl⟩ := hy
    have hc' : x.cps.toList[i]? = some c := by simpa using hc
    refine hs i c H3 D _ hc s2 hD fun H4 s4 => ?_
    refine ⟨s4 _ _ e2, by rw [List.length_map, List.length_take]; omega, x.cps.size - (i + 1), by omega, rfl, hlt, ?_, (s2.trans s4).upd hD, upd_same⟩
    rw [List.take_succ, hc', List.map_append]
    rfl
  · have e : i = x.cps.size := by omega
    rw [e, List.take_of_length_le (by simp)] at e2
    exact .inl ⟨e, hd H2 D s2 hD e2⟩
end L2

namespace L2
open PySem PySem.Spec PyProof.Rows
theorem lt_sing {c d : Nat} : (decide (([c] : List Nat) < [d])) = decide (c < d) := by
  by_cases h : c < d
  · rw [decide_eq_true h, decide_eq_true]
    exact List.Lex.rel h
  · rw [decide_eq_false h, decide_eq_false]
    intro q
    cases q with
    | rel q => exact h q
    | cons q => cases q
/-- a cell of the script, 0 where there is none -/
def cellAt (ns : List Int) (k : Int) : Int := (ns[k.toNat]?).getD 0
theorem seq_setC {v : V} {i : Nat} {u : TS} {D : Ends} {σ : St} {H : Hp} (h : u D (σ.set i (some v)) H) : tSeq (tAsg (tC v) (gName i)) u D σ H := h
theorem ixN_in {n : Nat} {k : Int} (h0 : 0 ≤ k) (h1 : k < n) : ixN n k = some k.toNat := by
  unfold ixN
  rw [if_pos h0, if_pos h1]
end L2
namespace L2
open PySem PySem.Spec PyProof.Rows
theorem cutV_drop (xs : List V) (n : Nat) : cutV xs (some (n : Int)) none = xs.drop n := by
  unfold cutV
  rw [HT.sIx_none, HT.sIx_nat]
  by_cases h : n ≤ xs.length
  · rw [Nat.min_eq_left h, List.take_of_length_le (by rw [List.length_drop]; exact Nat.le_refl _)]
  · rw [Nat.min_eq_right (by omega), List.drop_of_length_le (Nat.le_refl _), List.drop_of_length_le (by omega)]
    simp
theorem same_new {H : Hp} {p : Addr} {o : HO} (h : H p = none) : Same H (upd H p o) := (Same.refl H).upd h
end L2

namespace L2
open PySem PySem.Spec PyProof.Rows
theorem g_in {i : Nat} {v : V} {σ : L2.St} {H : Hp} {N : L2.St → Hp → Prop} (h : N (σ.set i (some v)) H) : gName i v σ H N := h
section
variable {X : Cx}
theorem mr_append : MtR X "list.append" rAppend := mt_append
end
end L2

namespace L2
open PySem PySem.Spec PyProof.Rows
section
variable {X : Cx}
/-- in, not in a dict; d[k] -/
def rInDict (neg : Bool) : R2 := fun x y H Q => ∃ a o, y = .ref a ∧ DGet H a x o ∧ Q (.bl (o.isSome != neg)) H
theorem op_notinDict (hu : X.A.units + 1 < cLine) : OpR X (compareOp .NotIn) (rInDict true) := by
  intro pins s σ H x y v u Q I rx ry h
  obtain ⟨a, o, rfl, g, q⟩ := h
  cases ry
  refine d_notIn hu I g rx fun s' I' => ⟨.bl _, H, I', ?_, q⟩
  cases o <;> rfl
end
end L2

namespace L2
open PySem PySem.Spec PyProof.Rows
/-! ### set(xs) of a list of texts, its length -/
section
variable {prog : Program} {w : World} {A : Around} {R : Result → Shared → Prop} {It : Addr} {fp wr : List Addr} {G : Array GenState → Array GenState → Prop} {n : Nat} {Pn : Nat → Value → Prop} {Sn : Nat → Shared → Prop}
end
section
variable {prog : Program} {w : World} {A : Around} {E : Value → Shared → Prop} {s : Shared}
end
end L2

namespace L2
open PySem PySem.Spec PyProof.Rows
section
variable {X : Cx}
end
end L2

namespace L2
open PySem PySem.Spec PyProof.Rows PySem.SeqAt

/-! ### deep data: what == tells apart -/
inductive Dt where
  | non | bl (b : Bool) | int (i : Int) | str (x : Str) | tup (l : List Dt) | lst (l : List Dt)
mutual
/-- v stands for d in the abstract heap H -/
inductive IsDt (K : PySem.W.Frag) (H : Hp) : V → Dt → Prop where
  | non : IsDt K H .non .non
  | bl (b : Bool) : IsDt K H (.bl b) (.bl b)
  | int (i : Int) : IsDt K H (.int i) (.int i)
  | str (x : Str) : IsDt K H (.str x) (.str x)
  | tup {a : Addr} {vs : List V} {ds : List Dt} (h : SqT K H a vs) (t : IsDts K H vs ds) : IsDt K H (.ref a) (.tup ds)
  | lst {a : Addr} {vs : List V} {ds : List Dt} (h : SqL K H a vs) (t : IsDts K H vs ds) : IsDt K H (.ref a) (.lst ds)
inductive IsDts (K : PySem.W.Frag) (H : Hp) : List V → List Dt → Prop where
  | nil : IsDts K H [] []
  | cons {v : V} {d : Dt} {vs : List V} {ds : List Dt} (h : IsDt K H v d) (t : IsDts K H vs ds) : IsDts K H (v :: vs) (d :: ds)
end
theorem IsDts.length {K : PySem.W.Frag} {H : Hp} : ∀ {vs : List V} {ds : List Dt}, IsDts K H vs ds → vs.length = ds.length
  | _, _, .nil => rfl
  | _, _, .cons _ t => congrArg (· + 1) t.length
theorem IsDts.get {K : PySem.W.Frag} {H : Hp} : ∀ {vs : List V} {ds : List Dt} {i : Nat} {v : V}, IsDts K H vs ds → vs[i]? = some v → ∃ d, ds[i]? = some d ∧ IsDt K H v d
  | _, _, _, _, .nil, e => by simp at e
  | _, _, 0, _, .cons h _, e => by simp at e; subst e; exact ⟨_, rfl, h⟩
  | _, _, i + 1, v, .cons _ t, e => by
    obtain ⟨d, h1, h2⟩ := IsDts.get (i := i) (v := v) t (by simpa using e)
    exact ⟨d, by simpa using h1, h2⟩
theorem IsDts.strs {K : PySem.W.Frag} {H : Hp} : ∀ (xs : List Str), IsDts K H (xs.map V.str) (xs.map Dt.str)
  | [] => .nil
  | x :: xs => .cons (.str x) (IsDts.strs xs)
section
variable {X : Cx} {pins : List (Addr × Obj)} {σ : St} {H : Hp} {s : Shared}
theorem Inv.not_both (I : Inv X pins σ H s) {a : Addr} {xs ys : List V} (h : SqL X.K H a xs) (h' : SqT X.K H a ys) : False := by
  obtain ⟨_, _, ⟨o, n, e, c, _⟩, _⟩ := I.list h
  obtain ⟨_, _, ⟨o', e', c', _⟩, _⟩ := I.tuple h'
  rw [e] at e'; cases e'
  rw [c] at c'
  exact absurd c' (by decide)
mutual
theorem IsDt.inj (I : Inv X pins σ H s) : ∀ {v : V} {d e : Dt}, IsDt X.K H v d → IsDt X.K H v e → d = e
  | _, _, _, .non, .non => rfl
  | _, _, _, .bl _, .bl _ => rfl
  | _, _, _, .int _, .int _ => rfl
  | _, _, _, .str _, .str _ => rfl
  | _, _, _, .tup h t, .tup h' t' => by
    have e := I.tuple_inj h h'
    subst e
    rw [IsDts.inj I t t']
  | _, _, _, .lst h t, .lst h' t' => by
    have e := I.list_inj h h'
    subst e
    rw [IsDts.inj I t t']
  | _, _, _, .tup h _, .lst h' _ => (I.not_both h' h).elim
  | _, _, _, .lst h _, .tup h' _ => (I.not_both h h').elim
theorem IsDts.inj (I : Inv X pins σ H s) : ∀ {vs : List V} {ds es : List Dt}, IsDts X.K H vs ds → IsDts X.K H vs es → ds = es
  | _, _, _, .nil, .nil => rfl
  | _, _, _, .cons h t, .cons h' t' => by rw [IsDt.inj I h h', IsDts.inj I t t']
end
end
/-! ### comparable to a depth -/
def Dt.kd : Dt → Nat
  | .non => 0 | .bl _ => 1 | .int _ => 2 | .str _ => 3 | .tup _ => 4 | .lst _ => 5
/-- of unlike kinds, and not a truth and an int -/
def Apart (a b : Nat) : Bool := a != b && !(a == 1 && b == 2) && !(a == 2 && b == 1)
mutual
inductive Cmp : Nat → Dt → Dt → Prop where
  | non {n : Nat} : Cmp n .non .non
  | bl {n : Nat} (a b : Bool) : Cmp n (.bl a) (.bl b)
  | int {n : Nat} (a b : Int) : Cmp n (.int a) (.int b)
  | str {n : Nat} (a b : Str) : Cmp n (.str a) (.str b)
  | tup {n : Nat} {ds es : List Dt} (t : Cmps n ds es) : Cmp (n + 1) (.tup ds) (.tup es)
  | lst {n : Nat} {ds es : List Dt} (t : Cmps n ds es) : Cmp (n + 1) (.lst ds) (.lst es)
  | apart {n : Nat} {d e : Dt} (h : Apart d.kd e.kd = true) : Cmp (n + 1) d e
inductive Cmps : Nat → List Dt → List Dt → Prop where
  | nil {n : Nat} (es : List Dt) : Cmps n [] es
  | nil' {n : Nat} (ds : List Dt) : Cmps n ds []
  | cons {n : Nat} {d e : Dt} {ds es : List Dt} (h : Cmp n d e) (t : Cmps n ds es) : Cmps n (d :: ds) (e :: es)
end
theorem Cmps.of {n : Nat} : ∀ {ds es : List Dt}, (∀ d ∈ ds, ∀ e ∈ es, Cmp n d e) → Cmps n ds es
  | [], es, _ => .nil es
  | d :: ds, [], _ => .nil' _
  | d :: ds, e :: es, h => .cons (h d (by simp) e (by simp)) (Cmps.of fun x hx y hy => h x (by simp [hx]) y (by simp [hy]))
open Classical in
/-- the truth of a proposition -/
noncomputable def dec (p : Prop) : Bool := decide p
theorem dec_true {p : Prop} (h : p) : dec p = true := @decide_eq_true p (Classical.propDecidable p) h
theorem dec_false {p : Prop} (h : ¬ p) : dec p = false := @decide_eq_false p (Classical.propDecidable p) h
theorem dec_iff {p : Prop} : dec p = true ↔ p := ⟨fun h => @of_decide_eq_true p (Classical.propDecidable p) h, dec_true⟩
theorem dec_congr {p q : Prop} (h : p ↔ q) : dec p = dec q := by rw [propext h]
theorem dec_beq {α : Type} [BEq α] [LawfulBEq α] {a b : α} {p : Prop} (h : p ↔ a = b) : (a == b) = dec p := by
  by_cases e : a = b
  · subst e; rw [dec_true (h.mpr rfl)]; exact beq_self_eq_true _
  · rw [dec_false fun q => e (h.mp q)]; exact beq_false_of_ne e
theorem list_ext_iff {ds es : List Dt} (hl : ds.length = es.length) (h : ∀ i, i < ds.length → ds[i]? = es[i]?) : ds = es := List.ext_getElem? fun i => by
  by_cases hi : i < ds.length
  · exact h i hi
  · rw [List.getElem?_eq_none (by omega), List.getElem?_eq_none (by omega)]
section
variable {X : Cx} {pins : List (Addr × Obj)} {σ : St} {H : Hp} {s : Shared}
theorem in1_units (A : Around) : A.in1.units = A.units + 1 := rfl
/-- items compared one by one -/
theorem eq_items (I : Inv X pins σ H s) {A : Around} {vs us : List V} {ds es : List Dt} {ivs ius : List Value} (rv : Vals vs ivs) (ru : Vals us ius) (tv : IsDts X.K H vs ds) (tu : IsDts X.K H us es)
    (hc : ∀ (i : Nat) (d e : Dt) (v u : V) (x y : Value), ds[i]? = some d → es[i]? = some e → RelV v x → RelV u y → IsDt X.K H v d → IsDt X.K H u e → EqAt A s x y (dec (d = e))) :
    ∀ j (h1 : j < ivs.toArray.size) (h2 : j < ius.toArray.size), EqAt A s ivs.toArray[j] ius.toArray[j] (dec (ds[j]? = es[j]?)) := by
  intro j h1 h2
  have l1 := rv.length
  have l2 := ru.length
  have h1' : j < ivs.length := by simpa using h1
  have h2' : j < ius.length := by simpa using h2
  obtain ⟨x, hx, rx⟩ := rv.get (i := j) (x := vs[j]'(by omega)) (List.getElem?_eq_getElem (by omega))
  obtain ⟨y, hy, ry⟩ := ru.get (i := j) (x := us[j]'(by omega)) (List.getElem?_eq_getElem (by omega))
  obtain ⟨d, hd, td⟩ := tv.get (i := j) (v := vs[j]'(by omega)) (List.getElem?_eq_getElem (by omega))
  obtain ⟨e, he, te⟩ := tu.get (i := j) (v := us[j]'(by omega)) (List.getElem?_eq_getElem (by omega))
  have ex : ivs.toArray[j] = x := by
    rw [List.getElem?_eq_getElem h1'] at hx
    simpa using hx
  have ey : ius.toArray[j] = y := by
    rw [List.getElem?_eq_getElem h2'] at hy
    simpa using hy
  rw [ex, ey, hd, he]
  have := hc j d e _ _ x y hd he rx ry td te
  rw [dec_congr (p := some d = some e) (q := d = e) (by simp)]
  exact this
theorem range_dec {ds es : List Dt} {n : Nat} (hn : n = ds.length) (hl : ds.length = es.length) : (List.range n).all (fun j => dec (ds[j]? = es[j]?)) = dec (ds = es) := by
  subst hn
  by_cases h : ds = es
  · subst h
    rw [dec_true rfl, List.all_eq_true]
    exact fun i _ => dec_true rfl
  · rw [dec_false h, Bool.eq_false_iff]
    intro q
    rw [List.all_eq_true] at q
    exact h (list_ext_iff hl fun i hi => dec_iff.mp (q i (List.mem_range.mpr hi)))
theorem apart_all (I : Inv X pins σ H s) {d e : Dt} {v u : V} {x y : Value} {A : Around} (h : Apart d.kd e.kd = true) (td : IsDt X.K H v d) (te : IsDt X.K H u e) (rx : RelV v x) (ry : RelV u y) (hu : A.units < cLine) : EqAt A s x y false ∧ RcAt A s x y false ∧ RcNeAt A s x y true := by
  cases td with
  | non =>
    cases rx
    cases te with
    | non => exact absurd h (by simp [Apart, Dt.kd])
    | bl b =>
      cases ry
      exact ⟨EqAt.none_bool _, RcAt.none_bool _, RcNeAt.none_bool _⟩
    | int b =>
      obtain ⟨t2, rfl⟩ := ry
      exact ⟨EqAt.none_int _ _, RcAt.none_int _ _, RcNeAt.none_int _ _⟩
    | str b =>
      obtain ⟨t2, rfl⟩ := ry
      exact ⟨EqAt.none_str _ _, RcAt.none_str _ _, RcNeAt.none_str _ _⟩
    | tup h2 t2 =>
      cases ry
      obtain ⟨_, _, p2, _⟩ := I.tuple h2
      exact ⟨EqAt.none_tuple  p2 hu, RcAt.none_tuple  p2 hu, RcNeAt.none_tuple  p2 hu⟩
    | lst h2 t2 =>
      cases ry
      obtain ⟨_, _, p2, _⟩ := I.list h2
      have p2 := p2.isList
      exact ⟨EqAt.none_list  p2 hu, RcAt.none_list  p2 hu, RcNeAt.none_list  p2 hu⟩
  | bl a =>
    cases rx
    cases te with
    | non =>
      cases ry
      exact ⟨EqAt.bool_none _, RcAt.bool_none _, RcNeAt.bool_none _⟩
    | bl b => exact absurd h (by simp [Apart, Dt.kd])
    | int b => exact absurd h (by simp [Apart, Dt.kd])
    | str b =>
      obtain ⟨t2, rfl⟩ := ry
      exact ⟨EqAt.bool_str _ _ _, RcAt.bool_str _ _ _, RcNeAt.bool_str _ _ _⟩
    | tup h2 t2 =>
      cases ry
      obtain ⟨_, _, p2, _⟩ := I.tuple h2
      exact ⟨EqAt.bool_tuple _ p2 hu, RcAt.bool_tuple _ p2 hu, RcNeAt.bool_tuple _ p2 hu⟩
    | lst h2 t2 =>
      cases ry
      obtain ⟨_, _, p2, _⟩ := I.list h2
      have p2 := p2.isList
      exact ⟨EqAt.bool_list _ p2 hu, RcAt.bool_list _ p2 hu, RcNeAt.bool_list _ p2 hu⟩
  | int a =>
    obtain ⟨t, rfl⟩ := rx
    cases te with
    | non =>
      cases ry
      exact ⟨EqAt.int_none _ _, RcAt.int_none _ _, RcNeAt.int_none _ _⟩
    | bl b => exact absurd h (by simp [Apart, Dt.kd])
    | int b => exact absurd h (by simp [Apart, Dt.kd])
    | str b =>
      obtain ⟨t2, rfl⟩ := ry
      exact ⟨EqAt.int_str _ _ _ _, RcAt.int_str _ _ _ _, RcNeAt.int_str _ _ _ _⟩
    | tup h2 t2 =>
      cases ry
      obtain ⟨_, _, p2, _⟩ := I.tuple h2
      exact ⟨EqAt.int_tuple _ _ p2 hu, RcAt.int_tuple _ _ p2 hu, RcNeAt.int_tuple _ _ p2 hu⟩
    | lst h2 t2 =>
      cases ry
      obtain ⟨_, _, p2, _⟩ := I.list h2
      have p2 := p2.isList
      exact ⟨EqAt.int_list _ _ p2 hu, RcAt.int_list _ _ p2 hu, RcNeAt.int_list _ _ p2 hu⟩
  | str a =>
    obtain ⟨t, rfl⟩ := rx
    cases te with
    | non =>
      cases ry
      exact ⟨EqAt.str_none _ _, RcAt.str_none _ _, RcNeAt.str_none _ _⟩
    | bl b =>
      cases ry
      exact ⟨EqAt.str_bool _ _ _, RcAt.str_bool _ _ _, RcNeAt.str_bool _ _ _⟩
    | int b =>
      obtain ⟨t2, rfl⟩ := ry
      exact ⟨EqAt.str_int _ _ _ _, RcAt.str_int _ _ _ _, RcNeAt.str_int _ _ _ _⟩
    | str b => exact absurd h (by simp [Apart, Dt.kd])
    | tup h2 t2 =>
      cases ry
      obtain ⟨_, _, p2, _⟩ := I.tuple h2
      exact ⟨EqAt.str_tuple _ _ p2 hu, RcAt.str_tuple _ _ p2 hu, RcNeAt.str_tuple _ _ p2 hu⟩
    | lst h2 t2 =>
      cases ry
      obtain ⟨_, _, p2, _⟩ := I.list h2
      have p2 := p2.isList
      exact ⟨EqAt.str_list _ _ p2 hu, RcAt.str_list _ _ p2 hu, RcNeAt.str_list _ _ p2 hu⟩
  | tup h1 t1 =>
    cases rx
    obtain ⟨_, _, p, _⟩ := I.tuple h1
    cases te with
    | non =>
      cases ry
      exact ⟨EqAt.tuple_none  p hu, RcAt.tuple_none  p hu, RcNeAt.tuple_none  p hu⟩
    | bl b =>
      cases ry
      exact ⟨EqAt.tuple_bool _ p hu, RcAt.tuple_bool _ p hu, RcNeAt.tuple_bool _ p hu⟩
    | int b =>
      obtain ⟨t2, rfl⟩ := ry
      exact ⟨EqAt.tuple_int _ _ p hu, RcAt.tuple_int _ _ p hu, RcNeAt.tuple_int _ _ p hu⟩
    | str b =>
      obtain ⟨t2, rfl⟩ := ry
      exact ⟨EqAt.tuple_str _ _ p hu, RcAt.tuple_str _ _ p hu, RcNeAt.tuple_str _ _ p hu⟩
    | tup h2 t2 => exact absurd h (by simp [Apart, Dt.kd])
    | lst h2 t2 =>
      cases ry
      obtain ⟨_, _, p2, _⟩ := I.list h2
      have p2 := p2.isList
      exact ⟨EqAt.tuple_list p p2 hu, RcAt.tuple_list p p2 hu, RcNeAt.tuple_list p p2 hu⟩
  | lst h1 t1 =>
    cases rx
    obtain ⟨_, _, p, _⟩ := I.list h1
    have p := p.isList
    cases te with
    | non =>
      cases ry
      exact ⟨EqAt.list_none  p hu, RcAt.list_none  p hu, RcNeAt.list_none  p hu⟩
    | bl b =>
      cases ry
      exact ⟨EqAt.list_bool _ p hu, RcAt.list_bool _ p hu, RcNeAt.list_bool _ p hu⟩
    | int b =>
      obtain ⟨t2, rfl⟩ := ry
      exact ⟨EqAt.list_int _ _ p hu, RcAt.list_int _ _ p hu, RcNeAt.list_int _ _ p hu⟩
    | str b =>
      obtain ⟨t2, rfl⟩ := ry
      exact ⟨EqAt.list_str _ _ p hu, RcAt.list_str _ _ p hu, RcNeAt.list_str _ _ p hu⟩
    | tup h2 t2 =>
      cases ry
      obtain ⟨_, _, p2, _⟩ := I.tuple h2
      exact ⟨EqAt.list_tuple p p2 hu, RcAt.list_tuple p p2 hu, RcNeAt.list_tuple p p2 hu⟩
    | lst h2 t2 => exact absurd h (by simp [Apart, Dt.kd])
theorem eq_of_rc (I : Inv X pins σ H s) {d e : Dt} {v u : V} {x y : Value} {A : Around} (td : IsDt X.K H v d) (te : IsDt X.K H u e) (rx : RelV v x) (ry : RelV u y) (h : RcAt A s x y (dec (d = e))) : EqAt A s x y (dec (d = e)) := by
  by_cases hxy : x = y
  · subst hxy
    have e1 := rx.inj ry
    subst e1
    rw [dec_true (IsDt.inj I td te)]
    exact EqAt.same _
  · intro prog w E Q hq
    unfold eqBool
    refine wpAny_holding ?_
    refine wpAny_ite_split (fun hab => absurd (eq_of_beq hab) hxy) (fun _ => ?_)
    cases td with
    | non => cases rx; exact wpAny_bind (h prog w E _ (wpAny_truthy_bool hq))
    | bl a => cases rx; exact wpAny_bind (h prog w E _ (wpAny_truthy_bool hq))
    | int a => obtain ⟨t, rfl⟩ := rx; exact wpAny_bind (h prog w E _ (wpAny_truthy_bool hq))
    | str a => obtain ⟨t, rfl⟩ := rx; exact wpAny_bind (h prog w E _ (wpAny_truthy_bool hq))
    | tup _ _ => cases rx; exact wpAny_bind (h prog w E _ (wpAny_truthy_bool hq))
    | lst _ _ => cases rx; exact wpAny_bind (h prog w E _ (wpAny_truthy_bool hq))
theorem kd_ne {d e : Dt} (h : Apart d.kd e.kd = true) : ¬ d = e := fun z => by
  subst z
  simp [Apart] at h
mutual
theorem rcD (I : Inv X pins σ H s) : ∀ {n : Nat} {d e : Dt} {v u : V} {x y : Value} {A : Around}, Cmp n d e → IsDt X.K H v d → IsDt X.K H u e → RelV v x → RelV u y → A.units + n < cLine → RcAt A s x y (dec (d = e)) ∧ RcNeAt A s x y (!dec (d = e))
  | n, _, _, _, _, _, _, _, .non, td, te, rx, ry, _ => by
    cases td; cases te
    cases rx; cases ry
    rw [dec_true rfl]
    exact ⟨RcAt.none_none, RcNeAt.none_none⟩
  | n, _, _, _, _, _, _, _, .bl a b, td, te, rx, ry, _ => by
    cases td; cases te
    cases rx; cases ry
    rw [← dec_beq (a := a) (b := b) (by simp)]
    exact ⟨RcAt.bool_bool a b, RcNeAt.bool_bool a b⟩
  | n, _, _, _, _, _, _, _, .int a b, td, te, rx, ry, _ => by
    cases td; cases te
    obtain ⟨t, rfl⟩ := rx
    obtain ⟨t', rfl⟩ := ry
    rw [← dec_beq (a := a) (b := b) (by simp)]
    exact ⟨RcAt.int_int a t b t', RcNeAt.int_int a t b t'⟩
  | n, _, _, _, _, _, _, _, .str a b, td, te, rx, ry, _ => by
    cases td; cases te
    obtain ⟨t, rfl⟩ := rx
    obtain ⟨t', rfl⟩ := ry
    rw [← dec_beq (a := a) (b := b) (by simp)]
    exact ⟨RcAt.str_str a t b t', RcNeAt.str_str a t b t'⟩
  | n + 1, _, _, _, _, _, _, A, .tup (ds := ds) (es := es) c, td, te, rx, ry, hu => by
    cases td; cases te
    rename_i a vs h t b us h' t'
    cases rx; cases ry
    obtain ⟨its, r, p, _⟩ := I.tuple h
    obtain ⟨its', r', p', _⟩ := I.tuple h'
    have l1 := r.length
    have l2 := r'.length
    have l3 := t.length
    have l4 := t'.length
    have he := eq_items (A := A.in1) I r r' t t' (eqDs I c (by rw [in1_units]; omega))
    have e : dec (Dt.tup ds = Dt.tup es) = ((List.range (min its.toArray.size its'.toArray.size)).all (fun j => dec (ds[j]? = es[j]?)) && its.toArray.size == its'.toArray.size) := by
      rw [dec_congr (p := Dt.tup ds = Dt.tup es) (q := ds = es) (by simp)]
      simp only [List.size_toArray]
      by_cases hl : ds.length = es.length
      · rw [show (its.length == its'.length) = true from beq_iff_eq.mpr (by omega), Bool.and_true, range_dec (by omega) hl]
      · rw [show (its.length == its'.length) = false from beq_false_of_ne (by omega), Bool.and_false, dec_false fun z => hl (by rw [z])]
    rw [e]
    exact ⟨RcAt.tuples (A := A) p p' (by omega) he, RcNeAt.tuples (A := A) p p' (by omega) he⟩
  | n + 1, _, _, _, _, _, _, A, .lst (ds := ds) (es := es) c, td, te, rx, ry, hu => by
    cases td; cases te
    rename_i a vs h t b us h' t'
    cases rx; cases ry
    obtain ⟨its, r, p, _⟩ := I.list h
    obtain ⟨its', r', p', _⟩ := I.list h'
    have l1 := r.length
    have l2 := r'.length
    have l3 := t.length
    have l4 := t'.length
    by_cases hl : ds.length = es.length
    · have he := eq_items (A := A.in1) I r r' t t' (eqDs I c (by rw [in1_units]; omega))
      rw [dec_congr (p := Dt.lst ds = Dt.lst es) (q := ds = es) (by simp), ← range_dec (n := its.toArray.size) (by simp only [List.size_toArray]; omega) hl]
      exact ⟨RcAt.lists (A := A) p.isList p'.isList (by simp only [List.size_toArray]; omega) (by omega) he, RcNeAt.lists (A := A) p.isList p'.isList (by simp only [List.size_toArray]; omega) (by omega) he⟩
    · rw [dec_false (show ¬ Dt.lst ds = Dt.lst es from fun z => hl (by cases z; rfl))]
      have hz : (its.toArray.size != its'.toArray.size) = true := by simp only [List.size_toArray]; rw [bne_iff_ne]; omega
      exact ⟨RcAt.lists_lengths p.isList p'.isList hz (by omega), RcNeAt.lists_lengths p.isList p'.isList hz (by omega)⟩
  | n + 1, _, _, _, _, _, _, A, .apart h, td, te, rx, ry, hu => by
    obtain ⟨_, h1, h2⟩ := apart_all (A := A) I h td te rx ry (by omega)
    rw [dec_false (kd_ne h)]
    exact ⟨h1, h2⟩
theorem eqDs (I : Inv X pins σ H s) : ∀ {n : Nat} {ds es : List Dt} {A : Around}, Cmps n ds es → A.units + n < cLine →
    ∀ (i : Nat) (d e : Dt) (v u : V) (x y : Value), ds[i]? = some d → es[i]? = some e → RelV v x → RelV u y → IsDt X.K H v d → IsDt X.K H u e → EqAt A s x y (dec (d = e))
  | _, _, _, _, .nil _, _, _, _, _, _, _, _, _, h, _, _, _, _, _ => by simp at h
  | _, _, _, _, .nil' _, _, _, _, _, _, _, _, _, _, h, _, _, _, _ => by simp at h
  | _, _, _, A, .cons c _, hu, 0, _, _, _, _, _, _, h, h', rx, ry, td, te => by
    simp at h h'; subst h; subst h'
    have hrc := rcD (A := A) I c td te rx ry hu
    exact eq_of_rc I td te rx ry hrc.1
  | _, _, _, _, .cons _ t, hu, i + 1, d, e, v, u, x, y, h, h', rx, ry, td, te =>
    eqDs I t hu i d e v u x y (by simpa using h) (by simpa using h') rx ry td te
end
end
section
variable {X : Cx}
/-- == and != of deep data; in, not in a list of them -/
def rEqD (K : PySem.W.Frag) : R2 := fun x y H Q => ∃ n d e, Cmp n d e ∧ n ≤ 60 ∧ IsDt K H x d ∧ IsDt K H y e ∧ Q (.bl (dec (d = e))) H
def rNeD (K : PySem.W.Frag) : R2 := fun x y H Q => ∃ n d e, Cmp n d e ∧ n ≤ 60 ∧ IsDt K H x d ∧ IsDt K H y e ∧ Q (.bl (!dec (d = e))) H
theorem op_eqD (hu : X.A.units + 64 < cLine) : OpR X (compareOp .Eq) (rEqD X.K) := by
  intro pins s σ H x y v u Q I rx ry h
  obtain ⟨n, d, e, c, hn, td, te, q⟩ := h
  exact (rcD (A := X.A) I c td te rx ry (by omega)).1 _ _ _ _ ⟨.bl _, H, I, rfl, q⟩
theorem op_neD (hu : X.A.units + 64 < cLine) : OpR X (compareOp .NotEq) (rNeD X.K) := by
  intro pins s σ H x y v u Q I rx ry h
  obtain ⟨n, d, e, c, hn, td, te, q⟩ := h
  exact (rcD (A := X.A) I c td te rx ry (by omega)).2 _ _ _ _ ⟨.bl _, H, I, rfl, q⟩
end
end L2

namespace Ord
variable {α : Type} [DecidableEq α]

















/-! ### the loop by layers: layer = those whose worse labels were not looked at yet -/

/-! ### a chain back along came_from -/
end Ord

namespace War
end War

namespace Ord
variable {α : Type} [DecidableEq α]
end Ord

namespace L2
open PySem PySem.Spec PyProof.Rows Ord
/-! ### pairs of texts, dicts of texts -/
theorem map_at {ls : List Str} {i : Nat} {x : V} (h : (ls.map V.str)[i]? = some x) : ∃ z, ls[i]? = some z ∧ x = V.str z := by
  rw [List.getElem?_map] at h
  obtain ⟨b, h1, h2⟩ := Option.map_eq_some_iff.mp h
  exact ⟨b, h1, h2.symm⟩
theorem one_le : ([] : List V).length + 1 ≤ sizeLine := by decide
theorem two_le : ([] : List V).length + 1 + 1 ≤ sizeLine := by decide
end L2
namespace L2
open PySem PySem.Spec PyProof.Rows Ord
theorem IsDts.of_get {K : PySem.W.Frag} {H : Hp} : ∀ {vs : List V} {ds : List Dt}, vs.length = ds.length → (∀ (n : Nat) v d, vs[n]? = some v → ds[n]? = some d → IsDt K H v d) → IsDts K H vs ds
  | [], [], _, _ => .nil
  | v :: vs, d :: ds, hl, h => .cons (h 0 v d rfl rfl) (IsDts.of_get (by simpa using hl) fun n x y e1 e2 => h (n + 1) x y (by simpa using e1) (by simpa using e2))
end L2

namespace L2
open PySem PySem.Spec PyProof.Rows
theorem at0 {α : Type} {xs : List α} {i : Nat} {v : α} (h : xs[i]? = some v) : atI xs (0 + (i : Int)) = some v := by
  rw [Int.zero_add]
  exact atI_nat h
/-- over a list that stays, no test, by an invariant of the items so far -/
theorem comp_listI {K : PySem.W.Frag} {a : Addr} {xs : List V} {k : Nat} {caps : List Nat} {g : TG} {te : TE} {σ : St} {H1 : Hp} {Q : Addr → Hp → Prop} (Pv : Addr → Nat → List V → Hp → Prop)
    (h0 : ∀ D, H1 D = none → Pv D 0 [] (upd H1 D (.lst []))) (hq : ∀ D i ys H2, Pv D i ys H2 → SqL K H2 a xs)
    (hs : ∀ D i x ys H2 (R : VK), H1 D = none → xs[i]? = some x → Pv D i ys H2 → (∀ y H6, H6 D = some (.lst ys) → ys.length < sizeLine → Pv D (i + 1) (ys ++ [y]) (upd H6 D (.lst (ys ++ [y]))) → R y H6) → g x (compSt k caps σ) H2 fun σ4 H4 => te σ4 H4 R)
    (hd : ∀ D ys H2, H1 D = none → Pv D xs.length ys H2 → Q D H2) :
    ∀ D, H1 D = none → ∃ W : Nat → Nat → List V → Hp → Prop, (∃ m, W 0 m [] (upd H1 D (.lst []))) ∧ ∀ i m ys H2, W i m ys H2 →
      ((Itl K a).stop i H2 ∧ Q D H2) ∨ ((Itl K a).go i H2 ∧ ∀ x H3, (Itl K a).yld i H2 x H3 → g x (compSt k caps σ) H3 fun σ4 H4 => tYes σ4 H4 fun b H5 =>
        if b = true then te σ4 H5 fun y H6 => H6 D = some (.lst ys) ∧ ys.length < sizeLine ∧ ∃ m', m' < m ∧ W (i + 1) m' (ys ++ [y]) (upd H6 D (.lst (ys ++ [y]))) else ∃ m', m' < m ∧ W (i + 1) m' ys H5) := by
  intro D hD
  refine ⟨fun i m ys H2 => m = xs.length - i ∧ i ≤ xs.length ∧ Pv D i ys H2, ⟨xs.length, rfl, Nat.zero_le _, h0 D hD⟩, ?_⟩
  rintro i m ys H2 ⟨rfl, hi, p⟩
  have q2 := hq D i ys H2 p
  by_cases hlt : i < xs.length
  · refine .inr ⟨⟨xs, xs[i], q2, by simp [hlt]⟩, fun x H3 y => ?_⟩
    obtain ⟨rfl, y⟩ := y
    have hx := y xs q2
    refine hs D i x ys H3 _ hD hx p fun v H6 e6 hz p6 => ?_
    exact ⟨e6, hz, xs.length - (i + 1), by omega, rfl, hlt, p6⟩
  · have e : i = xs.length := by omega
    subst e
    exact .inl ⟨⟨xs, q2, Nat.le_refl _⟩, hd D ys H2 hD p⟩
end L2

namespace L2
open PySem PySem.Spec PyProof.Rows
/-! ### sorted(d) of a dict whose keys are texts -/
section
variable {prog : Program} {w : World} {A : Around} {E : Value → Shared → Prop} {s : Shared}
end
section
variable {X : Cx}
end
end L2

namespace HT
open PySem PyProof.Rows



section
open PySem.SeqAt
open PySem.AutoSeq1 (wpAny_loadPart')
open PySem.MeetsSeq PySem.MeetsSeq2 PySem.MeetsSeq3

end

section
variable {prog : Program} {w : World} {A : Around} {E : Value → Shared → Prop} {s : Shared}


end
end HT
namespace L2
open PySem PySem.Spec PyProof.Rows
section
variable {X : Cx}
end
end L2

namespace L2
end L2

namespace KasM
open PySem PySem.W PyProof.Rows
set_option autoImplicit false

section
variable {O : KeyOrd} {key : Nat → O.α} {n : Nat}





end
end KasM

namespace L2
open PySem PySem.Spec PyProof.Rows
section
variable {prog : Program} {w : World} {A : Around} {E : Value → Shared → Prop} {s : Shared}

end
end L2

namespace L2
open PySem PySem.Spec PyProof.Rows
/-- the order of pairs -/
@[reducible] def lexO (O P : KeyOrd) : KeyOrd where
  α := O.α × P.α
  blt x y := O.blt x.1 y.1 || (!O.blt y.1 x.1 && P.blt x.2 y.2)
  irrefl x := by simp [O.irrefl, P.irrefl]
  trans x y z h1 h2 := by
    simp only [Bool.or_eq_true, Bool.and_eq_true, Bool.not_eq_true'] at h1 h2 ⊢
    rcases h1 with h1 | ⟨h1, k1⟩ <;> rcases h2 with h2 | ⟨h2, k2⟩
    · exact .inl (O.trans _ _ _ h1 h2)
    · exact .inl (KeyOrd.klt_of_klt_of_kle h1 h2)
    · exact .inl (KeyOrd.klt_of_kle_of_klt h1 h2)
    · exact .inr ⟨KeyOrd.kle_trans (O := O) h1 h2, P.trans _ _ _ k1 k2⟩
  negTrans x y z h := by
    simp only [Bool.or_eq_true, Bool.and_eq_true, Bool.not_eq_true'] at h ⊢
    rcases h with h | ⟨h, k⟩
    · rcases O.negTrans _ y.1 _ h with h | h
      · exact .inl (.inl h)
      · exact .inr (.inl h)
    · cases e1 : O.blt x.1 y.1 with
      | true => exact .inl (.inl rfl)
      | false =>
        cases e2 : O.blt y.1 z.1 with
        | true => exact .inr (.inl rfl)
        | false =>
          have a1 : O.kle y.1 x.1 := e1
          have a2 : O.kle z.1 y.1 := e2
          have a3 : O.kle x.1 z.1 := h
          have b1 : O.blt y.1 x.1 = false := KeyOrd.kle_trans (O := O) a3 a2
          have b2 : O.blt z.1 y.1 = false := KeyOrd.kle_trans (O := O) a1 a3
          rcases P.negTrans _ y.2 _ k with k | k
          · exact .inl (.inr ⟨b1, k⟩)
          · exact .inr (.inr ⟨b2, k⟩)
  total x y h1 h2 := by
    simp only [Bool.or_eq_false_iff, Bool.and_eq_false_iff, Bool.not_eq_false'] at h1 h2
    have e1 : x.1 = y.1 := O.total _ _ h1.1 h2.1
    have e2 : x.2 = y.2 := P.total _ _ (by rcases h1.2 with z | z; exact absurd (h2.1.symm.trans z) (by simp); exact z) (by rcases h2.2 with z | z; exact absurd (h1.1.symm.trans z) (by simp); exact z)
    exact Prod.ext e1 e2
@[reducible] def strO : KeyOrd where
  α := Str
  blt a b := decide (a.cps.toList < b.cps.toList)
  irrefl a := by simpa using List.lt_irrefl a.cps.toList
  trans a b c h1 h2 := by simp only [decide_eq_true_eq] at *; exact List.lt_trans h1 h2
  negTrans a b c h := by
    simp only [decide_eq_true_eq] at *
    by_cases hab : a.cps.toList < b.cps.toList
    · exact .inl hab
    · exact .inr (List.lt_of_le_of_lt (List.not_lt.mp hab) h)
  total a b h1 h2 := by simp only [decide_eq_false_iff_not] at *; exact ext_toList (List.le_antisymm (List.not_lt.mp h2) (List.not_lt.mp h1))
@[reducible] def intO : KeyOrd where
  α := Int
  blt a b := decide (a < b)
  irrefl a := by simp
  trans a b c h1 h2 := by simp only [decide_eq_true_eq] at *; omega
  negTrans a b c h := by simp only [decide_eq_true_eq] at *; omega
  total a b h1 h2 := by simp only [decide_eq_false_iff_not] at *; omega
/-- a column of sorted rows -/
structure Col where
  O : KeyOrd
  val : O.α → V
  dflt : O.α
  T : Value
  tT : (T == T) = true
  tN : (T != Value.type "tuple") = true
  look : ∀ (M : Model) (h : Heap) (a : O.α) (u : Value), RelV (val a) u → PySem.W.Looks M h (typeOf u) T
  eqB : ∀ (prog : Program) (w : World) (A : Around) (E : Value → Shared → Prop) (s : Shared) (a b : O.α) (u v : Value) (Q : Bool → Shared → Prop), RelV (val a) u → RelV (val b) v → (∀ e : Bool, (e = true ↔ a = b) → Q e s) → wpAny (model prog w) A (eqBool u v) Q E s
  ltB : ∀ (prog : Program) (w : World) (A : Around) (E : Value → Shared → Prop) (s : Shared) (a b : O.α) (u v : Value) (Q : Bool → Shared → Prop), RelV (val a) u → RelV (val b) v → Q (O.blt a b) s → wpAny (model prog w) A (oneLt' true u v) Q E s
  ltC : ∀ (prog : Program) (w : World) (A : Around) (E : Value → Shared → Prop) (s : Shared) (a b : O.α) (u v : Value) (Q : Bool → Shared → Prop), RelV (val a) u → RelV (val b) v → Q (O.blt a b) s → wpAny (model prog w) A (oneLt' false u v) Q E s
@[reducible] def strC : Col where
  O := strO
  val := V.str
  dflt := default
  T := .type "str"
  tT := by decide
  tN := by decide
  look M h a u r := by obtain ⟨t, rfl⟩ := r; exact PySem.W.Looks.of_pure rfl
  eqB prog w A E s a b u v Q r r' h := by
    obtain ⟨t, rfl⟩ := r; obtain ⟨t', rfl⟩ := r'
    exact eqBool_str (h _ (by simp))
  ltB prog w A E s a b u v Q r r' h := by
    obtain ⟨t, rfl⟩ := r; obtain ⟨t', rfl⟩ := r'
    exact oneLt_str h
  ltC prog w A E s a b u v Q r r' h := by
    obtain ⟨t, rfl⟩ := r; obtain ⟨t', rfl⟩ := r'
    exact PySem.W.kat_one _ _ (PySem.P.lt_str h)
@[reducible] def intC : Col where
  O := intO
  val := V.int
  dflt := 0
  T := .type "int"
  tT := by decide
  tN := by decide
  look M h a u r := by obtain ⟨t, rfl⟩ := r; exact PySem.W.Looks.of_pure rfl
  eqB prog w A E s a b u v Q r r' h := by
    obtain ⟨t, rfl⟩ := r; obtain ⟨t', rfl⟩ := r'
    exact wpAny_eqBool_int (h _ (by simp))
  ltB prog w A E s a b u v Q r r' h := by
    obtain ⟨t, rfl⟩ := r; obtain ⟨t', rfl⟩ := r'
    exact oneLt_int h
  ltC prog w A E s a b u v Q r r' h := by
    obtain ⟨t, rfl⟩ := r; obtain ⟨t', rfl⟩ := r'
    exact PySem.W.kat_one _ _ (PySem.P.lt_int h)

section
variable {prog : Program} {w : World} {A : Around} {E : Value → Shared → Prop} {s : Shared}
end
section
variable {X : Cx}
abbrev Row (c d : Col) : Type := V × (lexO c.O d.O).α

end
end L2

namespace L2
open PySem PySem.Spec PyProof.Rows Ord
/-! ### states of tables -/
abbrev goD (p : Str × Int) : Dt := .tup [.str p.1, .int p.2]

section
variable {X : Cx}
end

abbrev RowGo (K : PySem.W.Frag) (H : Hp) (z : Row strC intC) : Prop := ∃ t, z.1 = .ref t ∧ SqT K H t [V.str z.2.1, V.int z.2.2]
theorem zip_rows {K : PySem.W.Frag} {H : Hp} : ∀ {ts : List Addr} {gs : List (Str × Int)}, ts.length = gs.length → (∀ (n : Nat) (a : Addr) (p : Str × Int), ts[n]? = some a → gs[n]? = some p → H a = some (.tup [.str p.1, .int p.2])) →
    ∃ zs : List (Row strC intC), zs.map (·.1) = ts.map V.ref ∧ zs.map (·.2) = gs ∧ ∀ z ∈ zs, RowGo K H z
  | [], [], _, _ => ⟨[], rfl, rfl, fun z hz => by cases hz⟩
  | [], _ :: _, h, _ => by simp at h
  | _ :: _, [], h, _ => by simp at h
  | a :: ts, p :: gs, h, k => by
    obtain ⟨zs, h1, h2, h3⟩ := zip_rows (K := K) (H := H) (ts := ts) (gs := gs) (by simpa using h) fun n a p h1 h2 => k (n + 1) a p (by simpa using h1) (by simpa using h2)
    refine ⟨(V.ref a, p) :: zs, by rw [List.map_cons, h1]; rfl, by rw [List.map_cons, h2], fun z hz => ?_⟩
    rcases List.mem_cons.mp hz with e | hz
    · rw [e]; exact ⟨a, rfl, SqT.of (k 0 a p rfl rfl)⟩
    · exact h3 z hz
theorem rows_dts {K : PySem.W.Frag} {H : Hp} : ∀ (zs : List (Row strC intC)), (∀ z ∈ zs, RowGo K H z) → IsDts K H (zs.map (·.1)) ((zs.map (·.2)).map goD)
  | [], _ => .nil
  | z :: zs, h => by
    obtain ⟨t, e, sq⟩ := h z List.mem_cons_self
    refine .cons ?_ (rows_dts zs fun y hy => h y (List.mem_cons_of_mem _ hy))
    show IsDt K H z.1 (goD z.2)
    rw [e]
    exact .tup sq (.cons (.str _) (.cons (.int _) .nil))

theorem three_le : ([] : List V).length + 1 + 1 + 1 ≤ sizeLine := by decide



/-- goes as tuples of this heap -/
structure GT (H : Hp) (ts : List Addr) (gs : List (Str × Int)) : Prop where
  len : ts.length = gs.length
  at_ : ∀ (n : Nat) (t : Addr) (p : Str × Int), ts[n]? = some t → gs[n]? = some p → H t = some (.tup [.str p.1, .int p.2])
theorem GT.same {H H' : Hp} {ts : List Addr} {gs : List (Str × Int)} (e : Same H H') (h : GT H ts gs) : GT H' ts gs := ⟨h.len, fun n t p h1 h2 => e _ _ (h.at_ n t p h1 h2)⟩
theorem GT.snoc {H : Hp} {t : Addr} {ts : List Addr} {gs : List (Str × Int)} {p : Str × Int} (h : GT H ts gs) (e : H t = some (.tup [.str p.1, .int p.2])) : GT H (ts ++ [t]) (gs ++ [p]) := by
  refine ⟨by rw [List.length_append, List.length_append, h.len]; rfl, fun n v q h1 h2 => ?_⟩
  rcases Nat.lt_or_ge n ts.length with hlt | hge
  · rw [List.getElem?_append_left hlt] at h1
    rw [List.getElem?_append_left (by rw [← h.len]; exact hlt)] at h2
    exact h.at_ n v q h1 h2
  · have hn1 : n < (ts ++ [t]).length := (List.getElem?_eq_some_iff.mp h1).1
    rw [List.length_append, List.length_singleton] at hn1
    have e' : n = ts.length := by omega
    subst e'
    rw [List.getElem?_append_right (Nat.le_refl _), Nat.sub_self] at h1
    rw [List.getElem?_append_right (by rw [h.len]; exact Nat.le_refl _), h.len, Nat.sub_self] at h2
    cases h1; cases h2
    exact e
theorem GT.dts {K : PySem.W.Frag} {H : Hp} {ts : List Addr} {gs : List (Str × Int)} (h : GT H ts gs) : IsDts K H (ts.map V.ref) (gs.map goD) := by
  obtain ⟨zs, z1, z2, z3⟩ := zip_rows (K := K) h.len h.at_
  rw [← z1, ← z2]
  exact rows_dts zs z3

/-- over a range, no test, by an invariant of the items so far -/
theorem comp_rangeI {k : Nat} {caps : List Nat} {g : TG} {te : TE} {σ : St} {H1 : Hp} {Q : Addr → Hp → Prop} {lo : Int} {n : Nat} (Pv : Addr → Nat → List V → Hp → Prop)
    (h0 : ∀ D, H1 D = none → Pv D 0 [] (upd H1 D (.lst [])))
    (hs : ∀ (D : Addr) (i : Nat) (ys : List V) (H2 : Hp) (R : VK), H1 D = none → i < n → Pv D i ys H2 → (∀ y H6, H6 D = some (.lst ys) → ys.length < sizeLine → Pv D (i + 1) (ys ++ [y]) (upd H6 D (.lst (ys ++ [y]))) → R y H6) → g (.int (lo + i)) (compSt k caps σ) H2 fun σ4 H4 => te σ4 H4 R)
    (hd : ∀ D ys H2, H1 D = none → Pv D n ys H2 → Q D H2) :
    ∀ D, H1 D = none → ∃ W : Nat → Nat → List V → Hp → Prop, (∃ m, W 0 m [] (upd H1 D (.lst []))) ∧ ∀ i m ys H2, W i m ys H2 →
      ((Itr lo n).stop i H2 ∧ Q D H2) ∨ ((Itr lo n).go i H2 ∧ ∀ x H3, (Itr lo n).yld i H2 x H3 → g x (compSt k caps σ) H3 fun σ4 H4 => tYes σ4 H4 fun b H5 =>
        if b = true then te σ4 H5 fun y H6 => H6 D = some (.lst ys) ∧ ys.length < sizeLine ∧ ∃ m', m' < m ∧ W (i + 1) m' (ys ++ [y]) (upd H6 D (.lst (ys ++ [y]))) else ∃ m', m' < m ∧ W (i + 1) m' ys H5) := by
  intro D hD
  refine ⟨fun i m ys H2 => m = n - i ∧ i ≤ n ∧ Pv D i ys H2, ⟨n, rfl, Nat.zero_le _, h0 D hD⟩, ?_⟩
  rintro i m ys H2 ⟨rfl, hi, p⟩
  by_cases hlt : i < n
  · refine .inr ⟨hlt, fun x H3 y => ?_⟩
    obtain ⟨rfl, rfl⟩ := y
    refine hs D i ys H3 _ hD hlt p fun v H6 e6 hz p6 => ?_
    exact ⟨e6, hz, n - (i + 1), by omega, rfl, hlt, p6⟩
  · have e : i = n := by omega
    subst e
    exact .inl ⟨Nat.le_refl _, hd D ys H2 hD p⟩
end L2

namespace L2
open PySem PySem.Spec PyProof.Rows Ord
/-! ### what stays where only some lists are changed -/
structure Keeps (M : Addr → Prop) (H H' : Hp) : Prop where
  at_ : ∀ x o, H x = some o → ¬ M x → H' x = some o
  ls : ∀ x o, M x → H x = some o → ∃ xs, o = HO.lst xs
section
variable {K : PySem.W.Frag} {M : Addr → Prop} {H H' : Hp}
theorem Keeps.refl (h : ∀ x o, M x → H x = some o → ∃ xs, o = HO.lst xs) : Keeps M H H := ⟨fun _ _ e _ => e, h⟩
theorem Keeps.one {D : Addr} {xs : List V} {o : HO} (hD : H D = some (.lst xs)) : Keeps (· = D) H (upd H D o) :=
  ⟨fun x u e n => by rw [upd_ne n]; exact e, fun x u m e => by rw [m, hD] at e; exact ⟨xs, (Option.some.inj e).symm⟩⟩
theorem Keeps.noT (k : Keeps M H H') {a : Addr} {xs : List V} (h : H a = some (.tup xs)) : ¬ M a := fun m => by
  obtain ⟨_, e⟩ := k.ls _ _ m h
  cases e
theorem Keeps.tup (k : Keeps M H H') {a : Addr} {xs : List V} (h : H a = some (.tup xs)) : H' a = some (.tup xs) := k.at_ _ _ h (k.noT h)
end
/-! ### the usual table -/
end L2

namespace L2
open PySem PySem.Spec PyProof.Rows Ord
section
variable {X : Cx}
end
abbrev rLen (K : PySem.W.Frag) : List V → Hp → VK → Prop := fun xs H Q => ∃ x n, xs = [x] ∧ LenV K x H n ∧ Q (.int n) H
theorem atI_in {α : Type} {xs : List α} {i : Int} (h0 : 0 ≤ i) (h1 : i < xs.length) : ∃ c, atI xs i = some c := by
  obtain ⟨n, rfl⟩ := Int.eq_ofNat_of_zero_le h0
  exact ⟨xs[n]'(by omega), atI_nat (List.getElem?_eq_getElem (by omega))⟩
/-! ### answers, questions -/
abbrev Qu : Type := Int × Int × List Str
abbrev quD (q : Qu) : Dt := .tup [.int q.1, .int q.2.1, .tup (q.2.2.map Dt.str)]
section
variable {K : PySem.W.Frag} {H H' : Hp} {a : Addr}
end
/-- questions as tuples of this heap -/
structure QT (H : Hp) (ts : List Addr) (qs : List Qu) : Prop where
  len : ts.length = qs.length
  at_ : ∀ (n : Nat) (t : Addr) (q : Qu), ts[n]? = some t → qs[n]? = some q → ∃ u, H t = some (.tup [.int q.1, .int q.2.1, .ref u]) ∧ H u = some (.tup (q.2.2.map V.str))
theorem QT.nil {H : Hp} : QT H [] [] := ⟨rfl, fun n t p h => by simp at h⟩
theorem QT.same {H H' : Hp} {ts : List Addr} {qs : List Qu} (e : Same H H') (h : QT H ts qs) : QT H' ts qs := ⟨h.len, fun n t p h1 h2 => by
  obtain ⟨u, e1, e2⟩ := h.at_ n t p h1 h2
  exact ⟨u, e _ _ e1, e _ _ e2⟩⟩
theorem QT.keeps {M : Addr → Prop} {H H' : Hp} {ts : List Addr} {qs : List Qu} (k : Keeps M H H') (h : QT H ts qs) : QT H' ts qs := ⟨h.len, fun n t p h1 h2 => by
  obtain ⟨u, e1, e2⟩ := h.at_ n t p h1 h2
  exact ⟨u, k.tup e1, k.tup e2⟩⟩
theorem GT.keeps {M : Addr → Prop} {H H' : Hp} {ts : List Addr} {gs : List (Str × Int)} (k : Keeps M H H') (h : GT H ts gs) : GT H' ts gs := ⟨h.len, fun n t p h1 h2 => k.tup (h.at_ n t p h1 h2)⟩
theorem QT.snoc {H : Hp} {t u : Addr} {ts : List Addr} {qs : List Qu} {q : Qu} (h : QT H ts qs) (e : H t = some (.tup [.int q.1, .int q.2.1, .ref u])) (e2 : H u = some (.tup (q.2.2.map V.str))) : QT H (ts ++ [t]) (qs ++ [q]) := by
  refine ⟨by rw [List.length_append, List.length_append, h.len]; rfl, fun n v q' h1 h2 => ?_⟩
  rcases Nat.lt_or_ge n ts.length with hlt | hge
  · rw [List.getElem?_append_left hlt] at h1
    rw [List.getElem?_append_left (by rw [← h.len]; exact hlt)] at h2
    exact h.at_ n v q' h1 h2
  · have hn1 : n < (ts ++ [t]).length := (List.getElem?_eq_some_iff.mp h1).1
    rw [List.length_append, List.length_singleton] at hn1
    have e' : n = ts.length := by omega
    subst e'
    rw [List.getElem?_append_right (Nat.le_refl _), Nat.sub_self] at h1
    rw [List.getElem?_append_right (by rw [h.len]; exact Nat.le_refl _), h.len, Nat.sub_self] at h2
    cases h1; cases h2
    exact ⟨u, e, e2⟩
theorem QT.dts {K : PySem.W.Frag} {H : Hp} {ts : List Addr} {qs : List Qu} (h : QT H ts qs) : IsDts K H (ts.map V.ref) (qs.map quD) := by
  refine IsDts.of_get (by simpa using h.len) fun n v d e1 e2 => ?_
  rw [List.getElem?_map] at e1 e2
  obtain ⟨t, h1, rfl⟩ := Option.map_eq_some_iff.mp e1
  obtain ⟨q, h2, rfl⟩ := Option.map_eq_some_iff.mp e2
  obtain ⟨u, a1, a2⟩ := h.at_ n t q h1 h2
  exact .tup (SqT.of a1) (.cons (.int _) (.cons (.int _) (.cons (.tup (SqT.of a2) (IsDts.strs _)) .nil)))
/-! ### what is in a thing -/
end L2

namespace L2
open PySem PySem.Spec PyProof.Rows Ord
theorem ps_augR {X : Cx} {pos : Pos} {i : Nat} {x : Str} {e : Expr} {te : TE} {op : Operator} {ti : R2} {pos' : Pos} (hN : X.N.Nodup) (hi : X.N[i]? = some x) (hx : Loc X.env.scope x) (he : PE X e te) (ho : OpR X (inplaceOp op) ti) (hf : X.fn x = true ∨ X.env.scope.names.lookup x = some .local := by first | exact .inl rfl | exact .inr rfl | assumption) :
    PS X (.AugAssign (.Name x pos') op e pos) (tAug i te ti) := ps_aug hN hi hx he ho hf
/-! ### rows of tuples of texts and ints -/
abbrev Stp : Type := Str × Str × Int
abbrev stpV (p : Stp) : List V := [.str p.1, .str p.2.1, .int p.2.2]
abbrev Tlg : Type := Str × Str × Str × Int
abbrev tlgV (p : Tlg) : List V := [.str p.1, .str p.2.1, .str p.2.2.1, .int p.2.2.2]
abbrev stpD (p : Stp) : Dt := .tup [.str p.1, .str p.2.1, .int p.2.2]
abbrev tlgD (p : Tlg) : Dt := .tup [.str p.1, .str p.2.1, .str p.2.2.1, .int p.2.2.2]
section
variable {α : Type} {f : α → List V} {H H' : Hp} {ts : List Addr} {rs : List α}
/-- tuples of this heap, of what f tells -/
structure RT (f : α → List V) (H : Hp) (ts : List Addr) (rs : List α) : Prop where
  len : ts.length = rs.length
  at_ : ∀ (n : Nat) (t : Addr) (r : α), ts[n]? = some t → rs[n]? = some r → H t = some (.tup (f r))
theorem RT.nil : RT f H [] [] := ⟨rfl, fun n t p h => by simp at h⟩
theorem RT.same (e : Same H H') (h : RT f H ts rs) : RT f H' ts rs := ⟨h.len, fun n t p h1 h2 => e _ _ (h.at_ n t p h1 h2)⟩
theorem RT.keeps {M : Addr → Prop} (k : Keeps M H H') (h : RT f H ts rs) : RT f H' ts rs := ⟨h.len, fun n t p h1 h2 => k.tup (h.at_ n t p h1 h2)⟩
theorem RT.snoc {t : Addr} {r : α} (h : RT f H ts rs) (e : H t = some (.tup (f r))) : RT f H (ts ++ [t]) (rs ++ [r]) := by
  refine ⟨by rw [List.length_append, List.length_append, h.len]; rfl, fun n v q h1 h2 => ?_⟩
  rcases Nat.lt_or_ge n ts.length with hlt | hge
  · rw [List.getElem?_append_left hlt] at h1
    rw [List.getElem?_append_left (by rw [← h.len]; exact hlt)] at h2
    exact h.at_ n v q h1 h2
  · have hn1 : n < (ts ++ [t]).length := (List.getElem?_eq_some_iff.mp h1).1
    rw [List.length_append, List.length_singleton] at hn1
    have e' : n = ts.length := by omega
    subst e'
    rw [List.getElem?_append_right (Nat.le_refl _), Nat.sub_self] at h1
    rw [List.getElem?_append_right (by rw [h.len]; exact Nat.le_refl _), h.len, Nat.sub_self] at h2
    cases h1; cases h2
    exact e
theorem RT.dts {K : PySem.W.Frag} {g : α → Dt} (hg : ∀ (r : α) (t : Addr), H t = some (.tup (f r)) → IsDt K H (.ref t) (g r)) (h : RT f H ts rs) : IsDts K H (ts.map V.ref) (rs.map g) := by
  refine IsDts.of_get (by simpa using h.len) fun n v d e1 e2 => ?_
  rw [List.getElem?_map] at e1 e2
  obtain ⟨t, h1, rfl⟩ := Option.map_eq_some_iff.mp e1
  obtain ⟨q, h2, rfl⟩ := Option.map_eq_some_iff.mp e2
  exact hg q t (h.at_ n t q h1 h2)
end
theorem stp_dt {K : PySem.W.Frag} {H : Hp} (r : Stp) (t : Addr) (h : H t = some (.tup (stpV r))) : IsDt K H (.ref t) (stpD r) := .tup (SqT.of h) (.cons (.str _) (.cons (.str _) (.cons (.int _) .nil)))
theorem tlg_dt {K : PySem.W.Frag} {H : Hp} (r : Tlg) (t : Addr) (h : H t = some (.tup (tlgV r))) : IsDt K H (.ref t) (tlgD r) := .tup (SqT.of h) (.cons (.str _) (.cons (.str _) (.cons (.str _) (.cons (.int _) .nil))))
/-! ### scopes -/
abbrev Sco : Type := List Stp × List Tlg
abbrev scoD (s : Sco) : Dt := .tup [.lst (s.1.map stpD), .lst (s.2.map tlgD)]
structure ScH (H : Hp) (u G E : Addr) (s : Sco) : Prop where
  u : H u = some (.tup [.ref G, .ref E])
  g : ∃ ts : List Addr, H G = some (.lst (ts.map V.ref)) ∧ RT stpV H ts s.1
  e : ∃ ts : List Addr, H E = some (.lst (ts.map V.ref)) ∧ RT tlgV H ts s.2
theorem ScH.same {H H' : Hp} {u G E : Addr} {s : Sco} (e : Same H H') (h : ScH H u G E s) : ScH H' u G E s := by
  obtain ⟨a, ⟨ts, b1, b2⟩, ⟨us, c1, c2⟩⟩ := h
  exact ⟨e _ _ a, ⟨ts, e _ _ b1, b2.same e⟩, ⟨us, e _ _ c1, c2.same e⟩⟩
theorem ScH.keeps {M : Addr → Prop} {H H' : Hp} {u G E : Addr} {s : Sco} (k : Keeps M H H') (hG : ¬ M G) (hE : ¬ M E) (h : ScH H u G E s) : ScH H' u G E s := by
  obtain ⟨a, ⟨ts, b1, b2⟩, ⟨us, c1, c2⟩⟩ := h
  exact ⟨k.tup a, ⟨ts, k.at_ _ _ b1 hG, b2.keeps k⟩, ⟨us, k.at_ _ _ c1 hE, c2.keeps k⟩⟩
theorem ScH.dt {K : PySem.W.Frag} {H : Hp} {u G E : Addr} {s : Sco} (h : ScH H u G E s) : IsDt K H (.ref u) (scoD s) := by
  obtain ⟨a, ⟨ts, b1, b2⟩, ⟨us, c1, c2⟩⟩ := h
  exact .tup (SqT.of a) (.cons (.lst (SqL.of b1) (b2.dts stp_dt)) (.cons (.lst (SqL.of c1) (c2.dts tlg_dt)) .nil))
/-- the scopes of a list: their tuples, the lists of steps, the lists of tellings -/
structure Scs (H : Hp) (D : Addr) (us Gs Es : List Addr) (ss : List Sco) : Prop where
  top : H D = some (.lst (us.map V.ref))
  lu : us.length = ss.length
  lg : Gs.length = ss.length
  le : Es.length = ss.length
  at_ : ∀ (i : Nat) (u G E : Addr) (s : Sco), us[i]? = some u → Gs[i]? = some G → Es[i]? = some E → ss[i]? = some s → ScH H u G E s
theorem Scs.same {H H' : Hp} {D : Addr} {us Gs Es : List Addr} {ss : List Sco} (e : Same H H') (h : Scs H D us Gs Es ss) : Scs H' D us Gs Es ss :=
  ⟨e _ _ h.top, h.lu, h.lg, h.le, fun i u G E s h1 h2 h3 h4 => (h.at_ i u G E s h1 h2 h3 h4).same e⟩
theorem Scs.get {H : Hp} {D : Addr} {us Gs Es : List Addr} {ss : List Sco} (h : Scs H D us Gs Es ss) {i : Nat} (hi : i < ss.length) :
    ∃ u G E, us[i]? = some u ∧ Gs[i]? = some G ∧ Es[i]? = some E ∧ ss[i]? = some ss[i] ∧ ScH H u G E ss[i] := by
  have h1 : us[i]? = some (us[i]'(by rw [h.lu]; exact hi)) := List.getElem?_eq_getElem _
  have h2 : Gs[i]? = some (Gs[i]'(by rw [h.lg]; exact hi)) := List.getElem?_eq_getElem _
  have h3 : Es[i]? = some (Es[i]'(by rw [h.le]; exact hi)) := List.getElem?_eq_getElem _
  exact ⟨_, _, _, h1, h2, h3, List.getElem?_eq_getElem hi, h.at_ i _ _ _ _ h1 h2 h3 (List.getElem?_eq_getElem hi)⟩
theorem Scs.keeps {M : Addr → Prop} {H H' : Hp} {D : Addr} {us Gs Es : List Addr} {ss : List Sco} (k : Keeps M H H') (hD : ¬ M D) (hM : ∀ x ∈ Gs ++ Es, ¬ M x) (h : Scs H D us Gs Es ss) : Scs H' D us Gs Es ss :=
  ⟨k.at_ _ _ h.top hD, h.lu, h.lg, h.le, fun i u G E s h1 h2 h3 h4 => (h.at_ i u G E s h1 h2 h3 h4).keeps k (hM _ (List.mem_append_left _ (List.mem_of_getElem? h2))) (hM _ (List.mem_append_right _ (List.mem_of_getElem? h3)))⟩
theorem Scs.dts {K : PySem.W.Frag} {H : Hp} {D : Addr} {us Gs Es : List Addr} {ss : List Sco} (h : Scs H D us Gs Es ss) : IsDts K H (us.map V.ref) (ss.map scoD) := by
  refine IsDts.of_get (by simpa using h.lu) fun n v d e1 e2 => ?_
  rw [List.getElem?_map] at e1 e2
  obtain ⟨u, h1, rfl⟩ := Option.map_eq_some_iff.mp e1
  obtain ⟨s, h2, rfl⟩ := Option.map_eq_some_iff.mp e2
  have hn : n < ss.length := (List.getElem?_eq_some_iff.mp h2).1
  obtain ⟨u', G, E, g1, g2, g3, g4, g5⟩ := h.get hn
  rw [h1] at g1; cases g1
  rw [h2] at g4
  rw [Option.some.inj g4]
  exact g5.dt
theorem Scs.alive {H : Hp} {D : Addr} {us Gs Es : List Addr} {ss : List Sco} (h : Scs H D us Gs Es ss) : ∀ x ∈ Gs ++ Es, ∃ xs, H x = some (.lst xs) := fun x hx => by
  rcases List.mem_append.mp hx with hx | hx
  · obtain ⟨j, hj⟩ := List.getElem?_of_mem hx
    have hjl : j < ss.length := by rw [← h.lg]; exact (List.getElem?_eq_some_iff.mp hj).1
    obtain ⟨u', G', E', g1, g2, g3, g4, ⟨_, ⟨ts', b1, _⟩, _⟩⟩ := h.get hjl
    rw [hj] at g2; cases g2
    exact ⟨_, b1⟩
  · obtain ⟨j, hj⟩ := List.getElem?_of_mem hx
    have hjl : j < ss.length := by rw [← h.le]; exact (List.getElem?_eq_some_iff.mp hj).1
    obtain ⟨u', G', E', g1, g2, g3, g4, ⟨_, _, ⟨ts', b1, _⟩⟩⟩ := h.get hjl
    rw [hj] at g3; cases g3
    exact ⟨_, b1⟩
theorem Scs.nil {H : Hp} {D : Addr} (h : H D = some (.lst [])) : Scs H D [] [] [] [] := ⟨h, rfl, rfl, rfl, fun i u G E s h1 => by simp at h1⟩
theorem Scs.snoc {H : Hp} {D u G E : Addr} {us Gs Es : List Addr} {ss : List Sco} {s : Sco} (h : Scs H D us Gs Es ss) (hs : ScH H u G E s) (hG : G ≠ D) (hE : E ≠ D) (hD : ∀ x ∈ Gs ++ Es, x ≠ D) :
    Scs (upd H D (.lst (us.map V.ref ++ [.ref u]))) D (us ++ [u]) (Gs ++ [G]) (Es ++ [E]) (ss ++ [s]) := by
  have k : Keeps (· = D) H (upd H D (.lst (us.map V.ref ++ [.ref u]))) := Keeps.one h.top
  refine ⟨by rw [upd_same, List.map_append]; rfl, by simp [h.lu], by simp [h.lg], by simp [h.le], fun i u' G' E' s' h1 h2 h3 h4 => ?_⟩
  rcases Nat.lt_or_ge i ss.length with hlt | hge
  · rw [List.getElem?_append_left (by rw [h.lu]; exact hlt)] at h1
    rw [List.getElem?_append_left (by rw [h.lg]; exact hlt)] at h2
    rw [List.getElem?_append_left (by rw [h.le]; exact hlt)] at h3
    rw [List.getElem?_append_left hlt] at h4
    exact (h.at_ i u' G' E' s' h1 h2 h3 h4).keeps k (hD _ (List.mem_append_left _ (List.mem_of_getElem? h2))) (hD _ (List.mem_append_right _ (List.mem_of_getElem? h3)))
  · have hn1 : i < (ss ++ [s]).length := (List.getElem?_eq_some_iff.mp h4).1
    rw [List.length_append, List.length_singleton] at hn1
    have e' : i = ss.length := by omega
    subst e'
    rw [List.getElem?_append_right (by rw [h.lu]; exact Nat.le_refl _), h.lu, Nat.sub_self] at h1
    rw [List.getElem?_append_right (by rw [h.lg]; exact Nat.le_refl _), h.lg, Nat.sub_self] at h2
    rw [List.getElem?_append_right (by rw [h.le]; exact Nat.le_refl _), h.le, Nat.sub_self] at h3
    rw [List.getElem?_append_right (Nat.le_refl _), Nat.sub_self] at h4
    cases h1; cases h2; cases h3; cases h4
    exact hs.keeps k hG hE
theorem nd_snoc2 {D G E : Addr} {Gs Es : List Addr} (nd : (D :: (Gs ++ Es)).Nodup) (h1 : G ∉ D :: (Gs ++ Es)) (h2 : E ∉ D :: (Gs ++ Es)) (h3 : G ≠ E) : (D :: ((Gs ++ [G]) ++ (Es ++ [E]))).Nodup := by
  have p : (D :: ((Gs ++ [G]) ++ (Es ++ [E]))).Perm (G :: E :: (D :: (Gs ++ Es))) := by
    have p1 : (D :: ((Gs ++ [G]) ++ (Es ++ [E]))).Perm (E :: (D :: ((Gs ++ [G]) ++ Es))) := by
      have : (D :: ((Gs ++ [G]) ++ (Es ++ [E]))) = (D :: ((Gs ++ [G]) ++ Es)) ++ [E] := by simp
      rw [this]
      exact List.perm_append_singleton _ _
    have p2 : (D :: ((Gs ++ [G]) ++ Es)).Perm (G :: (D :: (Gs ++ Es))) := by
      have : (D :: ((Gs ++ [G]) ++ Es)) = (D :: Gs) ++ G :: Es := by simp
      rw [this]
      exact List.perm_middle
    exact (p1.trans (p2.cons E)).trans (List.Perm.swap _ _ _)
  rw [p.nodup_iff, List.nodup_cons, List.nodup_cons]
  refine ⟨fun z => ?_, h2, nd⟩
  rcases List.mem_cons.mp z with z | z
  · exact h3 z
  · exact h1 z
/-! ### where a step goes -/
end L2

namespace L2
open PySem PySem.Spec PyProof.Rows Ord
section
variable {X : Cx}
open PySem.AutoSeq1 in
set_option maxRecDepth 8000 in
/-- a list is made longer by a tuple, whatever else the tuple's object bears -/
theorem meets_extT {la tb : Addr} {xs ys : Array Value} {c1 c2 : Nat} {own : Option Addr} {more : Array (Option Value)}
    (hd : ¬(!xs.isEmpty && Builtin.List.listTooLong (xs.size + ys.size)) = true) (hx : xs.size ≤ sizeLine) (hxy : xs.size + ys.size ≤ sizeLine + 1) :
    Meets (Builtin.«list.extend» ⟨[.ref la, .ref tb], []⟩) fun _ R st =>
      st.heap.get? la = some { cls := .type "list", dict := none, data := .seq xs c1, slots := #[] } ∧
      st.heap.get? tb = some { cls := .type "tuple", dict := own, data := .seq ys c2, slots := more } ∧
      R (.ok (.ret Value.none)) { st with heap := st.heap.update la (Obj.mapSeq fun z => z ++ ys), toks := st.toks } :=
  .of_wp fun _ _ _ _ st hyp => by
    obtain ⟨p1, p2, p3, p4, p5⟩ := st
    obtain ⟨h1, h2, h3⟩ := hyp
    have q1 := PySem.AutoSeq1.sub_tuple_tuple
    have q2 := PySem.AutoSeq1.sub_list_list
    have q3 := PySem.AutoSeq1.sub_tuple_list
    have q4 := PySem.AutoSeq1.sub_list_tuple
    have q5 : (xs ++ ys).size ≤ sizeLine + 1 := by
      rw [Array.size_append]
      exact hxy
    wp_walk using (wpAny_updateSeq h1 rfl (hz := hx) (_hz' := q5)), wpAny_loadPart' h1, wpAny_loadPart' h2
    exact ⟨_, rfl, h3⟩
/-- l.extend(a tuple) -/
def rExtT (K : PySem.W.Frag) : V → List V → Hp → VK → Prop := fun x vs H Q => ∃ l b xs zs, x = .ref l ∧ vs = [.ref b] ∧ H l = some (.lst xs) ∧ SqT K H b zs ∧ xs.length + zs.length ≤ sizeLine ∧ Q .non (upd H l (.lst (xs ++ zs)))
theorem mr_extendT : MtR X "list.extend" (rExtT X.K) := by
  intro pins s σ H x vs v us Q I rx rv h
  obtain ⟨l, b, xs, zs, rfl, rfl, hH, hB, hz, q⟩ := h
  cases rx
  obtain ⟨u, rfl, ru⟩ := vals1 rv
  cases ru
  obtain ⟨z, its, n, r, hl, e⟩ := I.lstM hH
  obtain ⟨its2, r2, pl, z2⟩ := I.tuple hB
  obtain ⟨⟨cls, own, data, more⟩, ho, hc, n2, hd⟩ := id pl
  obtain rfl : cls = .type "tuple" := hc
  obtain rfl : data = .seq its2.toArray n2 := hd
  have hl2 := r2.length
  have hsz : its.toArray.size + its2.toArray.size ≤ sizeLine := by rw [List.size_toArray, List.size_toArray]; omega
  have hlong : ¬ (!its.toArray.isEmpty && Builtin.List.listTooLong (its.toArray.size + its2.toArray.size)) = true := by
    rw [notLongL hsz, Bool.and_false]
    exact Bool.false_ne_true
  refine call_meets PySem.F.slot_list_extend ⟨_, e, rfl⟩ PySem.F.entry_list_extend (PySem.F.args_list_extend_2 _ _) (meets_extT hlong (by rw [List.size_toArray]; omega) (by omega)) ⟨e, ho, ?_⟩
  refine ⟨.non, _, I.lset (its' := its ++ its2) hH e (by simp) (r.append r2) ?_, rfl, q⟩
  rw [List.length_append]
  omega
end
def signB (c : Nat) : Bool := decide (97 ≤ c) && decide (c ≤ 122)
def nameB (x : Str) : Bool := decide (1 ≤ x.length) && (decide (x.length ≤ 8) && x.cps.toList.all signB)
/-- a text of one to eight small letters -/
def LowW (x : Str) : Prop := 1 ≤ x.length ∧ x.length ≤ 8 ∧ ∀ c ∈ x.cps.toList, 97 ≤ c ∧ c ≤ 122
def thOk (s q : Int) (p : Str × Int) : Prop := (p.1 = ("plain" : Str) ∧ p.2 = 0) ∨ (p.1 = ("part" : Str) ∧ 0 ≤ p.2 ∧ p.2 < s) ∨ (p.1 = ("sort" : Str) ∧ 0 ≤ p.2 ∧ p.2 < q)
def stOk (s q : Int) (p : Stp) : Prop := (p.2.1 = ("to" : Str) ∧ 0 ≤ p.2.2 ∧ p.2.2 < s) ∨ (p.2.1 = ("by" : Str) ∧ 0 ≤ p.2.2 ∧ p.2.2 < q)
def tlOk (t q : Int) (p : Tlg) : Prop := (p.2.2.1 = ("thing" : Str) ∧ 0 ≤ p.2.2.2 ∧ p.2.2.2 < t) ∨ (p.2.2.1 = ("by" : Str) ∧ 0 ≤ p.2.2.2 ∧ p.2.2.2 < q)
/-- a net's three lists in the heap -/
structure Net3 (H : Hp) (S T R : Addr) (us Gs Es ts qt : List Addr) (ss : List Sco) (gs : List (Str × Int)) (qs : List Qu) : Prop where
  sc : Scs H S us Gs Es ss
  et : H T = some (.lst (ts.map V.ref))
  tg : GT H ts gs
  er : H R = some (.lst (qt.map V.ref))
  tq : QT H qt qs
theorem Net3.same {H H' : Hp} {S T R : Addr} {us Gs Es ts qt : List Addr} {ss : List Sco} {gs : List (Str × Int)} {qs : List Qu} (e : Same H H') (h : Net3 H S T R us Gs Es ts qt ss gs qs) : Net3 H' S T R us Gs Es ts qt ss gs qs :=
  ⟨h.sc.same e, e _ _ h.et, h.tg.same e, e _ _ h.er, h.tq.same e⟩
abbrev netD (ss : List Sco) (gs : List (Str × Int)) (qs : List Qu) : Dt := .tup [.lst (ss.map scoD), .lst (gs.map goD), .lst (qs.map quD)]
theorem Net3.dt {K : PySem.W.Frag} {H : Hp} {nt S T R : Addr} {us Gs Es ts qt : List Addr} {ss : List Sco} {gs : List (Str × Int)} {qs : List Qu} (h : Net3 H S T R us Gs Es ts qt ss gs qs) (e : H nt = some (.tup [.ref S, .ref T, .ref R])) : IsDt K H (.ref nt) (netD ss gs qs) :=
  .tup (SqT.of e) (.cons (.lst (SqL.of h.sc.top) h.sc.dts) (.cons (.lst (SqL.of h.et) h.tg.dts) (.cons (.lst (SqL.of h.er) h.tq.dts) .nil)))
theorem cmp_sco (s r : Sco) : Cmp 4 (scoD s) (scoD r) := by
  refine .tup (.cons (.lst (Cmps.of fun d hd e he => ?_)) (.cons (.lst (Cmps.of fun d hd e he => ?_)) (.nil _)))
  · obtain ⟨p, _, rfl⟩ := List.mem_map.mp hd
    obtain ⟨q, _, rfl⟩ := List.mem_map.mp he
    exact .tup (.cons (.str _ _) (.cons (.str _ _) (.cons (.int _ _) (.nil _))))
  · obtain ⟨p, _, rfl⟩ := List.mem_map.mp hd
    obtain ⟨q, _, rfl⟩ := List.mem_map.mp he
    exact .tup (.cons (.str _ _) (.cons (.str _ _) (.cons (.str _ _) (.cons (.int _ _) (.nil _)))))
theorem cmp_net (ss ss' : List Sco) (gs gs' : List (Str × Int)) (qs qs' : List Qu) : Cmp 6 (netD ss gs qs) (netD ss' gs' qs') := by
  refine .tup (.cons (.lst (Cmps.of fun d hd e he => ?_)) (.cons (.lst (Cmps.of fun d hd e he => ?_)) (.cons (.lst (Cmps.of fun d hd e he => ?_)) (.nil _))))
  · obtain ⟨p, _, rfl⟩ := List.mem_map.mp hd
    obtain ⟨q, _, rfl⟩ := List.mem_map.mp he
    exact cmp_sco p q
  · obtain ⟨p, _, rfl⟩ := List.mem_map.mp hd
    obtain ⟨q, _, rfl⟩ := List.mem_map.mp he
    exact .tup (.cons (.str _ _) (.cons (.int _ _) (.nil _)))
  · obtain ⟨p, _, rfl⟩ := List.mem_map.mp hd
    obtain ⟨q, _, rfl⟩ := List.mem_map.mp he
    refine .tup (.cons (.int _ _) (.cons (.int _ _) (.cons (.tup (Cmps.of fun d hd e he => ?_)) (.nil _))))
    obtain ⟨p, _, rfl⟩ := List.mem_map.mp hd
    obtain ⟨q, _, rfl⟩ := List.mem_map.mp he
    exact .str _ _
theorem atI_mem {α : Type} {xs : List α} {i : Int} {v : α} (h : atI xs i = some v) : v ∈ xs := by
  unfold atI at h
  obtain ⟨n, _, hn⟩ := Option.bind_eq_some_iff.mp h
  exact List.mem_of_getElem? hn
theorem small_sz {n : Nat} (h : n < 1000000) : n < sizeLine := Nat.lt_of_lt_of_le h (by decide)
abbrev rListOf (K : PySem.W.Frag) : List V → Hp → VK → Prop := fun xs H Q => ∃ p ys, xs = [V.ref p] ∧ (SqL K H p ys ∨ SqT K H p ys) ∧ ∀ l, H l = none → Q (V.ref l) (upd H l (HO.lst ys))
end L2

namespace L2
open PySem PySem.Spec PyProof.Rows Ord
/-! ### marks -/
end L2

namespace L2
open PySem PySem.Spec PyProof.Rows
/-! ### an exception that leaves frames -/
/-- an exception under way: its object, the last entry of its trace, and which frame looks on it -/
def FlyAt (h : Heap) (e T : Addr) (cls fl : Value) : Prop :=
  ∃ oe vs oT ts, h.get? e = some oe ∧ oe.cls = cls ∧ oe.dict = none ∧ oe.data = .fields vs ∧ vs[1]? = some (.ref T) ∧ T ≠ e ∧ h.get? T = some oT ∧ oT.data = .fields ts ∧ ts[3]? = some fl
abbrev Fly (h : Heap) (e T : Addr) (cls : Value) : Prop := FlyAt h e T cls .none
/-- what is so behind a frame that has looked on an exception -/
structure GoneAt (l : List Env) (e T T' : Addr) (cls fl : Value) (h h' : Heap) : Prop where
  fly : FlyAt h' e T' cls fl
  tr : T' = T ∨ h.get? T' = none
  keep : ∀ b o, h.get? b = some o → b ≠ e → b ≠ T → b ∉ frs l → h'.get? b = some o
  slot : ∀ b o, h.get? b = some o → b ∈ frs l → ∃ sl, h'.get? b = some { o with slots := sl }
abbrev Gone (l : List Env) (e T T' : Addr) (cls : Value) (h h' : Heap) : Prop := GoneAt l e T T' cls .none h h'
section
variable {M : Model} {A : Around} {E : Value → Shared → Prop} {s : Shared} {base : Heap} {env : Env} {outer : List Env} {L e T : Addr} {cls fl : Value} {Q : Unit → Shared → Prop}
/-- a new entry of the trace -/
theorem entry_ok {oe : Obj} {vs : Array Value} {head : Value} {hadNext : Bool} (hfr : A.frames = some (env :: outer)) (hl : s.heap.FunFrames base (env :: outer)) (hf : env.frame = some L) (he : s.heap.get? e = some oe) (hd : oe.data = .fields vs) (hsz : 1 < vs.size)
    (h : ∀ h' T', (∀ b o, s.heap.get? b = some o → b ≠ e → b ∉ frs (env :: outer) → h'.get? b = some o) → (∀ b o, s.heap.get? b = some o → b ∈ frs (env :: outer) → ∃ sl, h'.get? b = some { o with slots := sl }) → s.heap.get? T' = none → T' ≠ e →
      (∃ oe', h'.get? e = some oe' ∧ oe'.cls = oe.cls ∧ oe'.dict = oe.dict ∧ oe'.data = .fields (vs.setIfInBounds 1 (.ref T'))) → (∃ oT ts, h'.get? T' = some oT ∧ oT.data = .fields ts ∧ ts[3]? = some (rawInt L)) → Q () { s with heap := h' }) :
    wpAny M A (do let a ← frameOf env; let pl ← entryPlaceOf L hadNext; let b ← EntryCells.newEntry head a .none (rawInt L) .none pl; setField (.ref e) 1 b) Q E s := by
  have ne : e ∉ frs (env :: outer) := fun m => by
    obtain ⟨_, o, ho, nf⟩ := hl.mem m
    rw [he] at ho; cases ho
    exact nf vs hd
  refine wpAny_bind (wpAny_frameOf_fun hfr hl hf fun g1 so => ?_)
  refine wpAny_bind (wpAny_entryPlaceOf fun pl hpl => ?_)
  unfold EntryCells.newEntry newFields
  refine wpAny_bind (wpAny_newObj_type ?_ (hpl.sizeOk5 _ _ _ _ _))
  generalize hob : ({ cls := .type "traceback", dict := none, data := .fields ([head, .ref L, .none, rawInt L, .none] ++ (if pl.isEmpty then List.replicate 6 Value.none else pl)).toArray } : Obj) = ob
  have q1 : g1.get? e = some oe := (so.2.1 e ne).trans he
  have q2 : (g1.push ob).get? e = some oe := Heap.get?_push_of_some _ q1
  have nz : g1.objs.size ≠ e := Nat.ne_of_gt (Heap.lt_size q1)
  refine wpAny_setField q2 hd hsz (h _ g1.objs.size (fun b o q n m => ?_) (fun b o q m => ?_) ?_ nz ?_ ?_)
  · rw [Heap.get?_update_other _ _ (Ne.symm n)]
    exact Heap.get?_push_of_some _ ((so.2.1 b m).trans q)
  · obtain ⟨sl, q'⟩ := so.2.2 b o q
    refine ⟨sl, ?_⟩
    rw [Heap.get?_update_other _ _ (fun z => ne (by rw [z]; exact m))]
    exact Heap.get?_push_of_some _ q'
  · exact Heap.get?_none_of_le (by rw [so.1]; exact Nat.le_refl _)
  · have d3 := Obj.data_mapFields hd (·.setIfInBounds 1 (Value.ref g1.objs.size))
    refine ⟨_, Heap.get?_update_self _ q2 (Obj.isFreed_of_fields d3), Obj.cls_mapFields _ _, ?_, d3⟩
    obtain ⟨c, dd, dt, sl⟩ := oe
    cases dt <;> first | rfl | (simp at hd)
  · have q4 : (g1.push ob).get? g1.objs.size = some ob := Heap.get?_push_size _ (by rw [← hob]; rfl)
    refine ⟨ob, _, (Heap.get?_update_other _ _ (Ne.symm nz)).trans q4, by rw [← hob], ?_⟩
    first | (simp; done) | (rcases hpl with rfl | ⟨_, _, _, _, _, _, _, rfl⟩ <;> simp)
/-- the frame looks on an exception that comes by -/
theorem note_next (hfr : A.frames = some (env :: outer)) (hl : s.heap.FunFrames base (env :: outer)) (hf : env.frame = some L) (ht : Fly s.heap e T cls)
    (h : ∀ h' T', GoneAt (env :: outer) e T T' cls (rawInt L) s.heap h' → Q () { s with heap := h' }) : wpAny M A (noteFrame (.ref e) env) Q E s := by
  obtain ⟨oe, vs, oT, ts, e1, e2, e2d, e3, e4, e5, e6, e7, e8⟩ := ht
  have hz : 3 < ts.size := (Array.getElem?_eq_some_iff.mp e8).1
  have oth : ∀ b, b ≠ T → (s.heap.update T (Obj.mapFields (·.setIfInBounds 3 Value.none))).get? b = s.heap.get? b := fun b hb => Heap.get?_update_other _ _ (Ne.symm hb)
  have nf : ∀ b o, s.heap.get? b = some o → (∀ vs, o.data ≠ .fields vs) → b ≠ T := fun b o q n z => by
    rw [z, e6] at q; cases q
    exact n ts e7
  unfold noteFrame
  simp only [hf]
  refine wpAny_bind (wpAny_field e1 e3 e4 ?_)
  rw [if_pos (show (Value.ref T != Value.none) = true from by simp)]
  refine wpAny_bind (wpAny_field e6 e7 e8 ?_)
  rw [if_neg (show ¬ ((Value.none == rawInt L) = true) from by simp [rawInt])]
  refine wpAny_bind (wpAny_setField e6 e7 hz ?_)
  refine entry_ok (base := base) hfr (hl.of_keeps fun b o q n => ⟨o, (oth b (nf b o q n)).trans q, rfl⟩) hf ((oth e (Ne.symm e5)).trans e1) e3 (Array.getElem?_eq_some_iff.mp e4).1 fun h' T' k1 k2 k3 k4 ⟨oe', y1, y2, y3, y4⟩ ⟨oT', ts', z1, z2, z3⟩ => ?_
  have nT : T' ≠ T := fun z => by
    have := Heap.get?_update_self (Obj.mapFields (·.setIfInBounds 3 Value.none)) e6 (Obj.isFreed_of_fields (Obj.data_mapFields e7 _))
    rw [← z] at this
    rw [z] at k3 this
    rw [k3] at this; cases this
  refine h h' T' ⟨⟨oe', _, oT', ts', y1, y2.trans e2, y3.trans e2d, y4, ?_, k4, z1, z2, z3⟩, .inr ((oth T' nT).symm.trans k3), fun b o q n1 n2 n3 => k1 b o ((oth b n2).trans q) n1 n3, fun b o q m => ?_⟩
  · simp [(Array.getElem?_eq_some_iff.mp e4).1]
  · obtain ⟨_, o', q', n⟩ := hl.mem m
    rw [q] at q'; cases q'
    exact k2 b o ((oth b (nf b o q n)).trans q) m
/-- the frame in which it was made looks on it -/
theorem note_first {oe : Obj} {vs : Array Value} (hfr : A.frames = some (env :: outer)) (hl : s.heap.FunFrames base (env :: outer)) (hf : env.frame = some L) (he : s.heap.get? e = some oe) (hdi : oe.dict = none) (hd : oe.data = .fields vs) (h1 : vs[1]? = some .none)
    (h : ∀ h' T', GoneAt (env :: outer) e e T' oe.cls (rawInt L) s.heap h' → Q () { s with heap := h' }) : wpAny M A (noteFrame (.ref e) env) Q E s := by
  unfold noteFrame
  simp only [hf]
  refine wpAny_bind (wpAny_field he hd h1 ?_)
  rw [if_neg (by decide)]
  refine entry_ok (base := base) hfr hl hf he hd (Array.getElem?_eq_some_iff.mp h1).1 fun h' T' k1 k2 k3 k4 ⟨oe', y1, y2, y3, y4⟩ ⟨oT', ts', z1, z2, z3⟩ => ?_
  refine h h' T' ⟨⟨oe', _, oT', ts', y1, y2, y3.trans hdi, y4, ?_, k4, z1, z2, z3⟩, .inr k3, fun b o q n1 _ n3 => k1 b o q n1 n3, k2⟩
  simp [(Array.getElem?_eq_some_iff.mp h1).1]
/-- no frame looks on it any more -/
theorem flight_off (ht : FlyAt s.heap e T cls fl) (h : ∀ h', Fly h' e T cls → (∀ b o, s.heap.get? b = some o → b ≠ T → h'.get? b = some o) → Q () { s with heap := h' }) : wpAny M A (setFlight (.ref e) none) Q E s := by
  obtain ⟨oe, vs, oT, ts, e1, e2, e2d, e3, e4, e5, e6, e7, e8⟩ := ht
  have hz : 3 < ts.size := (Array.getElem?_eq_some_iff.mp e8).1
  have oth : ∀ b, b ≠ T → (s.heap.update T (Obj.mapFields (·.setIfInBounds 3 ((none : Option Addr).elim Value.none fun f => rawInt f)))).get? b = s.heap.get? b := fun b hb => Heap.get?_update_other _ _ (Ne.symm hb)
  unfold setFlight
  refine wpAny_bind (wpAny_field e1 e3 e4 ?_)
  rw [if_pos (show (Value.ref T != Value.none) = true from by simp)]
  refine wpAny_setField e6 e7 hz (h _ ?_ fun b o q n => (oth b n).trans q)
  exact ⟨oe, vs, _, _, (oth e (Ne.symm e5)).trans e1, e2, e2d, e3, e4, e5, Heap.get?_update_self _ e6 (Obj.isFreed_of_fields (Obj.data_mapFields e7 _)), Obj.data_mapFields e7 _, by simp [hz]⟩
theorem gone_off {T' : Addr} {h1 h2 : Heap} (hl : s.heap.FunFrames base (env :: outer)) (hT : ∀ b ∈ frs (env :: outer), b ≠ T) (g : GoneAt (env :: outer) e T T' cls fl s.heap h1) (f : Fly h2 e T' cls) (k : ∀ b o, h1.get? b = some o → b ≠ T' → h2.get? b = some o) : Gone (env :: outer) e T T' cls s.heap h2 := by
  have nn : ∀ b o, s.heap.get? b = some o → b ≠ T → b ≠ T' := fun b o q n z => by
    rcases g.tr with y | y
    · exact n (z.trans y)
    · rw [z, y] at q; cases q
  refine ⟨f, g.tr, fun b o q n1 n2 n3 => k b o (g.keep b o q n1 n2 n3) (nn b o q n2), fun b o q m => ?_⟩
  obtain ⟨sl, q'⟩ := g.slot b o q m
  exact ⟨sl, k b _ q' (nn b o q (hT b m))⟩
/-- it goes on through a frame -/
theorem leave_next (hfr : A.frames = some (env :: outer)) (hl : s.heap.FunFrames base (env :: outer)) (hf : env.frame = some L) (ht : Fly s.heap e T cls)
    (h : ∀ h' T', Gone (env :: outer) e T T' cls s.heap h' → Q () { s with heap := h' }) : wpAny M A (leaving env (.ref e)) Q E s := by
  unfold leaving
  refine wpAny_bind (note_next hfr hl hf ht fun h1 T1 g1 => flight_off g1.fly fun h2 f2 k2 => h h2 T1 (gone_off hl (fun b m z => ?_) g1 f2 k2))
  obtain ⟨oe, vs, oT, ts, _, _, _, _, _, _, e6, e7, _⟩ := ht
  obtain ⟨_, o, ho, n⟩ := hl.mem m
  rw [z, e6] at ho; cases ho
  exact n ts e7
/-- it leaves the frame in which it was made -/
theorem leave_first {oe : Obj} {vs : Array Value} (hfr : A.frames = some (env :: outer)) (hl : s.heap.FunFrames base (env :: outer)) (hf : env.frame = some L) (he : s.heap.get? e = some oe) (hdi : oe.dict = none) (hd : oe.data = .fields vs) (h1 : vs[1]? = some .none)
    (h : ∀ h' T', Gone (env :: outer) e e T' oe.cls s.heap h' → Q () { s with heap := h' }) : wpAny M A (leaving env (.ref e)) Q E s := by
  unfold leaving
  refine wpAny_bind (note_first hfr hl hf he hdi hd h1 fun h1 T1 g1 => flight_off g1.fly fun h2 f2 k2 => h h2 T1 (gone_off hl (fun b m z => ?_) g1 f2 k2))
  obtain ⟨_, o, ho, n⟩ := hl.mem m
  rw [z, he] at ho; cases ho
  exact n vs hd
end
theorem ObjOk.there {P : Program} {w : World} {H : Hp} {h : Heap} {a : Addr} {o : HO} (x : ObjOk P w H h a o) : ∃ u, h.get? a = some u := by
  cases o with
  | lst xs => obtain ⟨_, _, _, _, e⟩ := x; exact ⟨_, e⟩
  | tup xs => obtain ⟨_, _, _, u, e, _⟩ := x; exact ⟨u, e⟩
  | dK kvs => obtain ⟨_, _, _, _, u, _, _, e, _⟩ := x; exact ⟨u, e⟩
  | dT kvs => obtain ⟨_, _, _, _, u, _, _, e, _⟩ := x; exact ⟨u, e⟩
  | set S n => obtain ⟨u, _, _, _, e, _⟩ := x; exact ⟨u, e⟩
  | ins C dx fs => obtain ⟨_, _, _, e, _⟩ := x; exact ⟨_, e⟩
  | own y => exact x
  | xd fs => obtain ⟨_, ⟨u, _, _, e, _⟩, _⟩ := x; exact ⟨u, e⟩
  | rng lo hi => obtain ⟨_, _, _, e⟩ := x; exact ⟨_, e⟩
  | frz ob u => obtain ⟨e, _⟩ := x; exact ⟨_, e⟩
  | tbl ps => exact ⟨_, (show h.get? a = some _ from x)⟩
  | met f y => exact ⟨_, (show h.get? a = some _ from x)⟩
  | ext φ => obtain ⟨_, e, _⟩ := x; exact e
/-- an exception that was made or came by: its class, the last entry of its trace (if any) is none of H -/
def Thr (h0 h : Heap) (H' : Hp) (a : Addr) (cls : Value) : Prop :=
  (∃ oe vs, h.get? a = some oe ∧ oe.cls = cls ∧ oe.dict = none ∧ oe.data = .fields vs ∧ vs[1]? = some .none) ∨ ∃ T, Fly h a T cls ∧ h0.get? T = none ∧ H' T = none
/-- what is behind an exception: the state, the abstract heap, the exception's object and class -/
structure Th (P : Program) (w : World) (stack : List Env) (H : Hp) (s : Shared) (H' : Hp) (s' : Shared) (a C : Addr) : Prop where
  os : s'.os = s.os
  bare : AllBare s'.gens
  un : Un (frs stack) [] H H' s.heap s'.heap
  hok : HOk P w H' s'.heap
  new : s.heap.get? a = none
  free : H' a = none
  thr : Thr s.heap s'.heap H' a (.ref C)
/-- how an exception lies behind a call -/
def CXE (P : Program) (w : World) : CXT := fun outer H s E e s' => ∃ a C H', e = .ref a ∧ Th P w outer H s H' s' a C ∧ (∃ T, Fly s'.heap a T (.ref C) ∧ s.heap.get? T = none ∧ H' T = none) ∧ E (.ref C) none H'
/-- an exception that is made here, or that a callee lets by, is as wanted -/
def Throws (X : Cx) (E : XK) : Prop := ∀ (pins : List (Addr × Obj)) (σ : St) (H : Hp) (s : Shared) (H' : Hp) (s' : Shared) (a C : Addr), Inv X pins σ H s → Th X.prog X.w X.stack H s H' s' a C → E (.ref C) none H' → X.xe (.ref a) s'
theorem Throws.passes {X : Cx} {E : XK} (h : Throws X E) : Passes (CXE X.prog X.w) X E := fun pins σ H s e s' I hx => by
  obtain ⟨a, C, H', rfl, t, _, q⟩ := hx
  exact h pins σ H s H' s' a C I t q
theorem ff_un {h h' base : Heap} {H H' : Hp} : ∀ {l : List Env} {fs : List Addr}, (∀ b ∈ frs l, b ∈ fs) → (∀ b ∈ frs l, H b = none) → Un fs [] H H' h h' → h.FunFrames base l → h'.FunFrames base l
  | [], _, _, _, _, _ => trivial
  | env :: rest, fs, hs, hn, u, ⟨k, ⟨L, o, hf, hb, ho, hd⟩, hr⟩ => by
    have mL : L ∈ frs (env :: rest) := by simp [frs, hf]
    have sub : ∀ b ∈ frs rest, b ∈ frs (env :: rest) := fun b m => by
      simp only [frs, List.filterMap_cons, hf]
      exact List.mem_cons_of_mem _ m
    obtain ⟨sl, e⟩ := u.slot L o ho (hn L mL) (hs L mL) (by simp)
    exact ⟨k, ⟨L, _, hf, hb, e, hd⟩, ff_un (fun b m => hs b (sub b m)) (fun b m => hn b (sub b m)) u hr⟩
section
variable {P : Program} {w : World} {K : PySem.W.Frag} {mg : Str → Option Value} {base : Heap} {N : List Str} {qual : Str} {scope : Scope} {f : Addr} {cd : Value} {A : Around} {outer : List Env} {s : Shared} {H : Hp} {E : XK}
/-- out of a def -/
theorem throws_cx : Throws (cxOf (CXE P w) P w K mg base N qual scope f cd A outer s H E) E := by
  intro pins σ H1 s1 H' s' a C I t q
  obtain ⟨X, hX⟩ : ∃ X, X = cxOf (CXE P w) P w K mg base N qual scope f cd A outer s H E := ⟨_, rfl⟩
  have tk := t.hok
  rw [← hX] at I t ⊢
  have e1 : X.stack = X.env :: outer := by rw [hX]; rfl
  have e2 : X.env.frame = some X.env.locals := by rw [hX]; rfl
  have e3 : X.s₀ = s := by rw [hX]; rfl
  have e4 : X.H₀ = H := by rw [hX]; rfl
  have e5 : X.fs = frs outer := by rw [hX]; rfl
  have e6 : X.ex = [] := by rw [hX]; rfl
  have e7 : X.env.locals = s.heap.objs.size := by rw [hX]; rfl
  have hfr := I.ok.frames
  have hff := ff_un (fun b m => m) I.stkFree t.un I.stack
  rw [e1] at hfr hff
  have hfrN : ∀ b ∈ frs (X.env :: outer), H' b = none := fun b m => by
    rw [← e1] at m
    obtain ⟨_, o, ho, _⟩ := I.stack.mem m
    exact t.un.free b o ho (I.stkFree b m) (by simp)
  have hb := I.base
  rw [e3, e4, e5, e6] at hb
  have big : ∀ T T' h', (T = a ∨ (s1.heap.get? T = none ∧ H' T = none)) → Gone (X.env :: outer) a T T' (.ref C) s'.heap h' → CXE P w outer H s E (.ref a) { s' with heap := h' } := fun T T' h' hT g => by
    have nT : ∀ b o, s1.heap.get? b = some o → b ≠ T := fun b o e z => by
      rcases hT with y | y
      · rw [z, y, t.new] at e; cases e
      · rw [z, y.1] at e; cases e
    have nA : ∀ b o, s1.heap.get? b = some o → b ≠ a := fun b o e z => by rw [z, t.new] at e; cases e
    have H'T : H' T = none := by
      rcases hT with y | y
      · rw [y]; exact t.free
      · exact y.2
    have H'T' : H' T' = none := by
      rcases g.tr with y | y
      · rw [y]; exact H'T
      · cases z : H' T' with
        | none => rfl
        | some o => obtain ⟨u, e⟩ := (t.hok T' o z).there; rw [y] at e; cases e
    have up : ∀ b o, s.heap.get? b = some o → ∃ o', s1.heap.get? b = some o' := fun b o e => hb.there b o e (by simp)
    have loc : ∀ b o, s.heap.get? b = some o → b ∉ frs outer → b ∉ frs (X.env :: outer) := fun b o e n m => by
      simp only [frs, List.filterMap_cons, e2] at m
      rcases List.mem_cons.mp m with z | z
      · rw [z, e7] at e; exact Nat.lt_irrefl _ (Heap.lt_size e)
      · exact n z
    have out : ∀ b, b ∈ frs outer → b ∈ frs (X.env :: outer) := fun b m => by
      simp only [frs, List.filterMap_cons, e2]
      exact List.mem_cons_of_mem _ m
    have one : ∀ b, s1.heap.get? b = none → s.heap.get? b = none := fun b e => by
      cases z : s.heap.get? b with
      | none => rfl
      | some o => obtain ⟨o', e'⟩ := up b o z; rw [e] at e'; cases e'
    have hT' : s.heap.get? T' = none := by
      rcases g.tr with y | y
      · rw [y]
        rcases hT with z | z
        · rw [z]; exact one a t.new
        · exact one T z.1
      · cases z : s.heap.get? T' with
        | none => rfl
        | some o =>
          obtain ⟨o1, z1⟩ := up T' o z
          obtain ⟨o2, z2⟩ := t.un.there T' o1 z1 (by simp)
          rw [y] at z2; cases z2
    refine ⟨a, C, H', rfl, ⟨t.os.trans (I.os.trans (by rw [e3])), t.bare, ⟨fun b o e n m _ => ?_, fun b o e n m _ => ?_, fun b o e n _ => ?_, fun b o e _ => ?_, fun b xs e => t.un.tups b xs (hb.tups b xs e), fun b o u e => t.un.frzs b o u (hb.frzs b o u e), fun b ps e => ?_⟩, fun b o e => ?_, one a t.new, t.free, .inr ⟨T', g.fly, hT', H'T'⟩⟩, ⟨T', g.fly, hT', H'T'⟩, q⟩
    · have k1 := hb.keep b o e n m (by simp)
      have k2 := t.un.keep b o k1 (hb.free b o e n (by simp)) (by rw [e1]; exact loc b o e m) (by simp)
      exact g.keep b o k2 (nA b o k1) (nT b o k1) (loc b o e m)
    · obtain ⟨sl, k1⟩ := hb.slot b o e n m (by simp)
      obtain ⟨sl2, k2⟩ := t.un.slot b _ k1 (hb.free b o e n (by simp)) (by rw [e1]; exact out b m) (by simp)
      obtain ⟨sl3, k3⟩ := g.slot b _ k2 (out b m)
      exact ⟨sl3, k3⟩
    · obtain ⟨o1, k1⟩ := up b o e
      exact t.un.free b o1 k1 (hb.free b o e n (by simp)) (by simp)
    · obtain ⟨o1, k1⟩ := up b o e
      obtain ⟨o2, k2⟩ := t.un.there b o1 k1 (by simp)
      by_cases m : b ∈ frs (X.env :: outer)
      · obtain ⟨sl, k3⟩ := g.slot b o2 k2 m
        exact ⟨_, k3⟩
      · exact ⟨_, g.keep b o2 k2 (nA b o1 k1) (nT b o1 k1) m⟩
    · obtain ⟨more, k1⟩ := hb.tbls b ps e
      obtain ⟨more2, k2⟩ := t.un.tbls b _ k1
      exact ⟨more ++ more2, by rw [k2, Array.append_assoc]⟩
    · refine (show ObjOk P w H' h' b o from (tk b o e).stay (fun c u hc k => g.keep c u k ?_ ?_ ?_) (fun _ z => z) fun _ _ z => z)
      all_goals
        intro z
        rcases hc with y | y
        · first
            | (rw [← y, z, t.free] at e; cases e)
            | (rw [← y, z, H'T] at e; cases e)
            | (rw [← y, hfrN c z] at e; cases e)
        · first
            | (rw [z, t.free] at y; cases y)
            | (rw [z, H'T] at y; cases y)
            | (rw [hfrN c z] at y; cases y)
  have hxe : X.xe (.ref a) s' = wpAny (model P w) X.A (leaving X.env (.ref a)) (fun _ s'' => CXE P w outer H s E (.ref a) s'') (fun e' s'' => CXE P w outer H s E e' s'') s' := by rw [hX]; rfl
  rw [hxe]
  rcases t.thr with ⟨oe, vs, h1, h2, hdi, h3, h4⟩ | ⟨T, h1, h2, h3⟩
  · refine leave_first hfr hff e2 h1 hdi h3 h4 fun h' T' g => ?_
    rw [h2] at g
    exact big a T' h' (.inl rfl) g
  · exact leave_next hfr hff e2 h1 fun h' T' g => big T T' h' (.inr ⟨h2, h3⟩) g
end

/-- a class of exceptions of the text's own without an __init__ of its own, as it lies behind the top -/
structure Exk (K : PySem.W.Frag) (mg : Str → Option Value) (x : Str) (C : Addr) : Prop where
  at_ : mg x = some (.ref C)
  ok : PySem.W.excIn K C [.type "ValueError", .type "Exception", .type "BaseException", .type "object"] "ValueError.__new__" = true
/-- C is a class below Cp -/
def subIn (K : PySem.W.Frag) (C Cp : Addr) : Bool := match K.lookup C with
  | some ⟨_, _, .cls cd, _⟩ => cd.mro.contains (.ref Cp)
  | _ => false
theorem exk_obj {K : PySem.W.Frag} {C : Addr} {bmB : List Value} {newId : String} (q : PySem.W.excIn K C bmB newId = true) :
    ∃ nm qn N bs bm hdct sn sub ab col dd k0 k1 k2 k3 k5, (∀ h : Heap, K.In h → h.get? C = some (excClassObj nm qn C N bs bm hdct sn sub ab col dd k0 k1 k2 k3 k5 newId)) ∧ PySem.W.nsOkIn K N = true ∧ PySem.W.nsIn K N "__init__" = some none ∧ PySem.W.tailIn K bmB bm = true ∧ ∀ Cp, subIn K C Cp = (Value.ref C :: bm).contains (.ref Cp) := by
  unfold PySem.W.excIn at q
  split at q
  next dd cd sl look =>
    split at q
    next C' bm k0 k1 k2 k3 n k5 em es =>
      simp only [Bool.and_eq_true, beq_iff_eq, Bool.not_eq_true'] at q
      rcases q with ⟨⟨⟨⟨⟨eC, en⟩, ed⟩, et⟩, ek⟩, ei⟩
      subst eC
      subst en
      refine ⟨cd.name, cd.qualname, cd.ns, cd.bases, bm, cd.hasDict, cd.slotNames, cd.subclasses, cd.abstract, cd.collection, dd, k0, k1, k2, k3, k5, fun h I => ?_, ek, ei, et, fun Cp => by unfold subIn; rw [look]; simp only [em]⟩
      rw [I _ _ look]
      have e1 : sl = #[k0, k1, k2, k3, some (.builtin n), k5] := by cases sl; simp only at es; rw [es]
      rw [e1]
      cases cd
      simp only at em ed
      rw [em, ed]
    next => cases q
  next => cases q
/-- raise C(..): E tells what is wanted -/
def tRaise (C : Addr) (E : XK) (t : TA) : TS := fun _ σ H => t σ H fun vs H1 => vs.length ≤ sizeLine ∧ E (.ref C) none H1
theorem ps_raise {X : Cx} {E : XK} {C : Addr} {x : Str} {np cpos pos : Pos} {e0 : Expr} {es : List Expr} {t : TA} (hT : Throws X E) (hc : X.calm = true) (k : Exk X.K X.mg x C) (hg : Gl X x) (ha : PA X (e0 :: es) t)
    (hdb : (x == ("__debug__" : Str)) = false := by decide) (he : starEach (e0 :: es) X.env = (false, eval e0 X.env) :: starEach es X.env := by rfl) (hpl : (backTo cpos (starEach es X.env)).any (·.1) = false := by rfl) :
    PS X (.Raise (some (.Call (.Name x np) (e0 :: es) [] cpos)) none pos) (tRaise C E t) := by
  intro pins s σ H D I h
  obtain ⟨nm, qn, N, bs, bm, hdct, sn, sub, ab, col, dd, k0, k1, k2, k3, k5, hC, hok, hni, htl, _⟩ := exk_obj k.ok
  have hB : X.base.Ns N (X.base.nsMap N) := .of_isNs (PySem.W.isNs_of_in I.mod.kin hok)
  refine wpAny_Raise_call_subT (nm := nm) (q := qn) (N := N) (bs := bs) (bm := bm) (hdct := hdct) (sn := sn) (sub := sub) (ab := ab) (col := col) (dd := dd) (k0 := k0) (k1 := k1) (k2 := k2) (k3 := k3) (k5 := k5) (mN := X.base.nsMap N) PySem.F.excBase_ValueError (OwnTail.hasType (PySem.W.tail_of_in I.kIn htl) (X := "BaseException") (by decide)) (I.ok.hd hc) ?_ (PySem.W.nsMap_none_of_in I.mod.kin hok hni) (ld_glob I hg k.at_ ⟨rfl, ?_⟩ hdb)
  · rw [he]
    show (false || (backTo cpos (starEach es X.env)).any (·.1)) = false
    rw [hpl]; rfl
  · have h1 := ha cpos pins s σ H _ I h
    rw [he] at h1 ⊢
    refine Calls.evalArgs_plain (thn h1 fun us s2 ⟨vs, H2, I2, r, q⟩ => ⟨rfl, ?_, hC _ I2.kIn, hB.keeps I2.bk, PySem.W.tail_of_in I2.kIn htl, fun h' e m => ?_⟩)
    · show us.length ≤ sizeLine
      rw [← r.length]; exact q.1
    · obtain ⟨tp, t1, t2, t3⟩ := m.there
      refine hT pins σ H2 s2 H2 _ e C I2 ⟨rfl, I2.bare, Un.kept m.keeps, I2.hok.kept m.keeps, m.new, ?_, .inl ⟨_, _, t1, rfl, rfl, rfl, rfl⟩⟩ q.2
      cases z : H2 e with
      | none => rfl
      | some o =>
        obtain ⟨u, y⟩ := (I2.hok e o z).there
        rw [m.new] at y; cases y
end L2

namespace L2
open PySem PySem.Spec PyProof.Rows
/-! ### an exception that is caught -/
section
variable {M : Model} {A : Around} {E : Value → Shared → Prop}
variable {nm q nm2 q2 : Str} {C N C2 N2 : Addr} {bs bm bs2 bm2 : List Value} {hdct hdct2 : Bool} {sn sn2 : List Str} {sub sub2 : List Value} {ab ab2 : Bool} {col col2 : Option Bool} {dd dd2 : Option Addr} {k0 k1 k2 k3 k5 j0 j1 j2 j3 j5 : Option Value} {newId newId2 : String}
/-- an exception of the own class C against the own class C2 -/
theorem match_own {h : Heap} {g : Array GenState} {d : Drawn} {t : Nat} {os : OsState} {e : Addr} {oe : Obj} {b : Bool} {Q : Bool → Shared → Prop}
    (hC : h.get? C = some (excClassObj nm q C N bs bm hdct sn sub ab col dd k0 k1 k2 k3 k5 newId)) (hC2 : h.get? C2 = some (excClassObj nm2 q2 C2 N2 bs2 bm2 hdct2 sn2 sub2 ab2 col2 dd2 j0 j1 j2 j3 j5 newId2))
    (he : h.get? e = some oe) (hcls : oe.cls = .ref C) (hbase : bm2.contains (.type "BaseException") = true) (hb : (Value.ref C :: bm).contains (.ref C2) = b)
    (hq : Q b ⟨h, g, d, t, os⟩) : wpAny M A (excMatches (.ref e) (.ref C2)) Q E ⟨h, g, d, t, os⟩ := by
  have hcB : (Value.ref C2 :: bm2).contains (.type "BaseException") = true := by rw [List.contains_cons, hbase, Bool.or_true]
  have f := tc_notTuple
  unfold excMatches
  repeat (first | (with_reducible refine wpAny_loadPart_at he ?_; rw [hcls]) | with_reducible refine wpAny_loadPart_at hC2 ?_ | (with_reducible refine wpAny_isSubtype_exc hC2 ?_; rw [hcB]) | (with_reducible refine wpAny_isSubtype_exc hC ?_; rw [hb]) | wp_step)
  cases b <;> (wp_walk; exact hq)
end

section
variable {X : Cx} {pins : List (Addr × Obj)} {σ : St} {H : Hp} {s : Shared}
/-- a frame's own dict is changed at the name x alone -/
theorem Inv.unset {i : Nat} {x : Str} {m : Str → Option Value} {u : Option Value} {h' : Heap} (I : Inv X pins σ H s) (hN : X.N.Nodup) (hi : X.N[i]? = some x) (hm : ∀ (j : Nat) (y : Str) (v : V), X.N[j]? = some y → σ[j]? = some (some v) → Vis X.env.scope y → ∃ u, RelV v u ∧ Look X.env s.heap m y u)
    (hn' : h'.Ns X.env.locals (fun y => if y = x then u else m y)) (hs : Heap.SameBut X.env.locals s.heap h') : Inv X pins (σ.set i none) H { s with heap := h' } := by
  obtain ⟨m0, ⟨oL, _, _, hoL, _⟩, _⟩ := id I.loc
  have lo : ∀ b o, X.s₀.heap.get? b = some o → b ≠ X.env.locals := fun b o e => Nat.ne_of_lt (Nat.lt_of_lt_of_le (Heap.lt_size e) I.ok.above)
  have iL : i < σ.length := by rw [I.len]; exact (List.getElem?_eq_some_iff.mp hi).1
  refine ⟨I.ok, I.os, I.bare, ⟨fun b o e n hb hx => (hs.2 b (lo b o e)).trans (I.base.keep b o e n hb hx), fun b o e n hb hx => ?_, I.base.free, fun b o e hx => ?_, I.base.tups, I.base.frzs, I.base.tbls⟩, ⟨_, hn', fun j y v e1 e2 e3 => ?_⟩, fun y c e => ?_, I.free, I.freeC, fun p hp => ?_, fun b o e => ?_, by simpa using I.len⟩
  · obtain ⟨sl, q⟩ := I.base.slot b o e n hb hx
    exact ⟨sl, (hs.2 b (lo b o e)).trans q⟩
  · obtain ⟨o', q⟩ := I.base.there b o e hx
    exact ⟨o', (hs.2 b (lo b o e)).trans q⟩
  · by_cases hj : i = j
    · subst hj
      rw [List.getElem?_set_self iL] at e2
      cases e2
    · rw [List.getElem?_set_ne hj] at e2
      obtain ⟨u', r', q⟩ := hm j y v e1 e2 e3
      have ny : y ≠ x := fun z => hj (nodup_ix hN hi (z ▸ e1))
      refine ⟨u', r', ?_⟩
      rcases q with ⟨k, z⟩ | ⟨k, c, z, z'⟩
      · exact .inl ⟨k, (if_neg ny).trans z⟩
      · exact .inr ⟨k, c, z, z'.sameBut hs (I.cne y c z)⟩
  · obtain ⟨w', z⟩ := I.cell y c e
    exact ⟨w', z.sameBut hs (I.cne y c e)⟩
  · obtain ⟨q, n, ne, nf, d⟩ := I.pin p hp
    exact ⟨(hs.2 p.1 ne).trans q, n, ne, nf, d⟩
  · refine (I.hok b o e).stay (fun c w' hc q => (hs.2 c fun z => ?_).trans q) (fun _ q => q) fun _ _ q => q
    rcases hc with y | y
    · rw [← y, z, I.free] at e; cases e
    · rw [z, I.free] at y; cases y
/-- behind an except suite the name is unbound -/
theorem unbind_ok {M : Model} {A : Around} {E : Value → Shared → Prop} {i : Nat} {x : Str} {pos : Pos} {Q : Unit → Shared → Prop} (I : Inv X pins σ H s) (hN : X.N.Nodup) (hi : X.N[i]? = some x) (hx : X.env.scope.names.lookup x = some .local)
    (h : ∀ s', Inv X pins (σ.set i none) H s' → Q () s') : wpAny M A (do bindName X.env x .none; unbindBehindTheSuite X.env x pos) Q E s := by
  refine wpAny_bind (wpAny_bindName (store_ok I hN hi (.inl hx) (v := .non) (u := .none) rfl (fun s1 I1 => ?_) (.inr hx)))
  obtain ⟨m, hn, hl⟩ := id I1.loc
  have iL : i < σ.length := by rw [I.len]; exact (List.getElem?_eq_some_iff.mp hi).1
  obtain ⟨u, ru, q⟩ := hl i x .non hi (List.getElem?_set_self iL) (.inl hx)
  have hk : X.env.kindOf x = some .local := hx
  have hv : m x = some u := by
    rcases q with ⟨_, z⟩ | ⟨z, _⟩
    · exact z
    · rw [hk] at z
      rcases z with z | z <;> cases z
  unfold unbindBehindTheSuite
  refine wpAny_onRaise (wpAny_unbindName_local hk hn hv (by rw [I.ok.kind]; rfl) fun h' u' hn' hs => ?_)
  have I2 := I1.unset hN hi hl hn' hs
  rw [List.set_set] at I2
  exact h _ I2
end

/-! ### the suite -/
/-- the exception's object, of the class at C -/
def ExcO (a C : Addr) : HO := .ext fun h => ∃ oe vs, h.get? a = some oe ∧ oe.cls = .ref C ∧ oe.dict = none ∧ oe.data = .fields vs
/-- the context of an except suite that lets nothing out -/
abbrev Cx.held (X : Cx) (v : Value) : Cx := { X with A := X.A.mark (some v), calm := false, xe := fun _ _ => False }
section
variable {X : Cx} {pins : List (Addr × Obj)} {σ : St} {H H' : Hp} {s s' : Shared} {v : Value}
theorem Cx.Ok.held (ok : X.Ok) : (X.held v).Ok :=
  ⟨ok.mod, ok.kind, ok.glob, ok.blt, ok.above, ok.inj, ok.has, ok.cab, fun z => (by cases z), ok.frames, ok.stk, ok.exf, ok.bs, ok.bsz, ok.noex, ok.exfs, ok.funs, ok.frf⟩
theorem Inv.held (I : Inv X pins σ H s) : Inv (X.held v) pins σ H s := ⟨I.ok.held, I.os, I.bare, I.base, I.loc, I.cell, I.free, I.freeC, I.pin, I.hok, I.len⟩
theorem Inv.unheld (ok : X.Ok) (I : Inv (X.held v) pins σ H s) : Inv X pins σ H s := ⟨ok, I.os, I.bare, I.base, I.loc, I.cell, I.free, I.freeC, I.pin, I.hok, I.len⟩
/-- the exception's object and its trace are changed, the frames' slots too -/
theorem th_step {P : Program} {w : World} {stack : List Env} {h0 h1 h2 : Heap} {a T : Addr} (un : Un (frs stack) [] H H' h0 h1) (hok : HOk P w H' h1) (na : h0.get? a = none) (nT : h0.get? T = none) (fa : H' a = none) (fT : H' T = none) (ff : ∀ b ∈ frs stack, H' b = none)
    (k : ∀ b o, h1.get? b = some o → b ≠ a → b ≠ T → b ∉ frs stack → h2.get? b = some o) (sl : ∀ b o, h1.get? b = some o → b ∈ frs stack → ∃ sl, h2.get? b = some { o with slots := sl }) : Un (frs stack) [] H H' h0 h2 ∧ HOk P w H' h2 := by
  have n1 : ∀ b o, h0.get? b = some o → b ≠ a ∧ b ≠ T := fun b o e => ⟨fun z => (by rw [z, na] at e; cases e), fun z => (by rw [z, nT] at e; cases e)⟩
  refine ⟨⟨fun b o e n m _ => k b o (un.keep b o e n m (by simp)) (n1 b o e).1 (n1 b o e).2 m, fun b o e n m _ => ?_, un.free, fun b o e _ => ?_, un.tups, un.frzs, un.tbls⟩, fun b o e => (hok b o e).stay (fun c u hc q => k c u q (fun z => ?_) (fun z => ?_) fun z => ?_) (fun _ z => z) fun _ _ z => z⟩
  · obtain ⟨s1, q1⟩ := un.slot b o e n m (by simp)
    obtain ⟨s2, q2⟩ := sl b _ q1 m
    exact ⟨s2, q2⟩
  · obtain ⟨o1, q1⟩ := un.there b o e (by simp)
    by_cases m : b ∈ frs stack
    · obtain ⟨s2, q2⟩ := sl b o1 q1 m
      exact ⟨_, q2⟩
    · exact ⟨o1, k b o1 q1 (n1 b o e).1 (n1 b o e).2 m⟩
  · rcases hc with y | y
    · rw [← y, z, fa] at e; cases e
    · rw [z, fa] at y; cases y
  · rcases hc with y | y
    · rw [← y, z, fT] at e; cases e
    · rw [z, fT] at y; cases y
  · rcases hc with y | y
    · rw [← y, ff c z] at e; cases e
    · rw [ff c z] at y; cases y
/-- it is caught, and the suite runs -/
theorem handled {i : Nat} {x n : Str} {np hpos : Pos} {b₀ : Stmt} {suite : List Stmt} {a C Cp : Addr} {D : Ends} {ts : TS} {bmB bmP : List Value} {newId newP : String} (I : Inv X pins σ H s) (hst : X.stack = X.env :: X.outer) (hfm : X.env.frame = some X.env.locals)
    (t : Th X.prog X.w X.stack H s H' s' a C) (hfly : ∃ T, Fly s'.heap a T (.ref C) ∧ s.heap.get? T = none ∧ H' T = none) (kC : PySem.W.excIn X.K C bmB newId = true) (kP : PySem.W.excIn X.K Cp bmP newP = true) (hbP : bmP.contains (.type "BaseException") = true) (hsub : subIn X.K C Cp = true)
    (hgx : Gl X x) (hmx : X.mg x = some (.ref Cp)) (hdx : (x == ("__debug__" : Str)) = false) (hN : X.N.Nodup) (hi : X.N[i]? = some n) (hln : X.env.scope.names.lookup n = some .local)
    (hs : PSs (X.held (.ref a)) (b₀ :: suite) ts) (q : ts { nx := fun σ' H' => D.nx (σ'.set i none) H', rt := D.rt } (σ.set i (some (.ref a))) (upd H' a (ExcO a C))) :
    wpAny (model X.prog X.w) X.A (noteFrame (.ref a) X.env) (fun _ s₂ => wpAny (model X.prog X.w) X.A (setFlight (.ref a) none) (fun _ s₃ =>
      wpAny (model X.prog X.w) X.A (handleBy (.ref a) X.env [.ExceptHandler (some (.Name x np)) (some n) (b₀ :: suite) hpos]) (SP X pins D) X.xe s₃) X.xe s₂) X.xe s' := by
  obtain ⟨T, fl, nT, fT⟩ := hfly
  have ff : ∀ b ∈ frs X.stack, H' b = none := fun b m => by
    obtain ⟨_, o, ho, _⟩ := I.stack.mem m
    exact t.un.free b o ho (I.stkFree b m) (by simp)
  have hff := ff_un (fun b m => m) I.stkFree t.un I.stack
  have hfr := I.ok.frames
  rw [hst] at hff hfr
  refine note_next hfr hff hfm fl fun h1 T1 g1 => ?_
  rw [← hst] at g1
  have nT1 : s.heap.get? T1 = none := by
    rcases g1.tr with z | z
    · rw [z]; exact nT
    · cases y : s.heap.get? T1 with
      | none => rfl
      | some o => obtain ⟨o', e⟩ := t.un.there T1 o y (by simp); rw [z] at e; cases e
  have fT1 : H' T1 = none := by
    rcases g1.tr with z | z
    · rw [z]; exact fT
    · cases y : H' T1 with
      | none => rfl
      | some o => obtain ⟨u, e⟩ := (t.hok T1 o y).there; rw [z] at e; cases e
  obtain ⟨un1, hok1⟩ := th_step t.un t.hok t.new nT t.free fT ff g1.keep g1.slot
  refine flight_off g1.fly fun h2 fl2 k2 => ?_
  obtain ⟨un2, hok2⟩ := th_step un1 hok1 t.new nT1 t.free fT1 ff (fun b o e _ z _ => k2 b o e z) (fun b o e m => ⟨o.slots, k2 b o e fun z => by
    obtain ⟨_, o', ho, _⟩ := I.stack.mem m
    rw [z, nT1] at ho; cases ho⟩)
  obtain ⟨nm, qn, N, bs, bm, hdct, sn, sub, ab, col, dd, k0, k1, k2', k3, k5, hC, _, _, _, hm⟩ := exk_obj kC
  obtain ⟨nm', qn', N', bs', bm', hdct', sn', sub', ab', col', dd', j0, j1, j2, j3, j5, hP, _, _, htP, _⟩ := exk_obj kP
  have I2 : Inv X pins σ H' { s' with heap := h2 } := I.call' (ch := []) t.os un2 hok2 t.bare fun b z => absurd z (by simp)
  refine wpAny_handleBy_cons (codeAny_handlers_test (ld_glob (X := X.held (.ref a)) I2.held hgx hmx ?_ hdx)) (by intro z; cases z)
  obtain ⟨oe, vs, oT, tts, e1, e2, _, e3, e4, e5, e6, e7, e8⟩ := id fl2
  refine match_own (hC h2 I2.kIn) (hP h2 I2.kIn) e1 e2 (OwnTail.hasType (PySem.W.tail_of_in I2.kIn htP) hbP) (b := true) ((hm Cp).symm.trans hsub) ?_
  refine codeAny_handlers_suite_as (flight_off (fl := .none) fl2 fun h3 fl3 k3' => ?_)
  obtain ⟨un3, hok3⟩ := th_step un2 hok2 t.new nT1 t.free fT1 ff (fun b o e _ z _ => k3' b o e z) (fun b o e m => ⟨o.slots, k3' b o e fun z => by
    obtain ⟨_, o', ho, _⟩ := I.stack.mem m
    rw [z, nT1] at ho; cases ho⟩)
  obtain ⟨oe3, vs3, _, _, y1, y2, y3, y4, _⟩ := id fl3
  have I3 : Inv X pins σ (upd H' a (ExcO a C)) { s' with heap := h3 } := by
    have nb : ∀ b o, s.heap.get? b = some o → b ≠ a := fun b o e z => by rw [z, t.new] at e; cases e
    have nh : ∀ b o, H' b = some o → b ≠ a := fun b o e z => by rw [z, t.free] at e; cases e
    refine I.call' (ch := []) t.os ⟨un3.keep, un3.slot, fun b o e n m => ?_, un3.there, fun b xs e => ?_, fun b o u e => ?_, fun b ps e => ?_⟩ (fun b o e => ?_) t.bare fun b z => absurd z (by simp)
    · rw [upd_ne (nb b o e)]; exact un3.free b o e n m
    · have := un3.tups b xs e
      rw [upd_ne (nh b _ this)]; exact this
    · have := un3.frzs b o u e
      rw [upd_ne (nh b _ this)]; exact this
    · obtain ⟨more, this⟩ := un3.tbls b ps e
      exact ⟨more, by rw [upd_ne (nh b _ this)]; exact this⟩
    · by_cases z : b = a
      · subst z
        rw [upd_same] at e
        cases e
        exact ⟨⟨oe3, vs3, y1, y2, y3, y4⟩, ⟨oe3, y1⟩, fun g1 g2 ⟨o, v, p1, p2⟩ k => ⟨o, v, k o p1, p2⟩⟩
      · rw [upd_ne z] at e
        exact (hok3 b o e).stay (fun _ _ _ z => z) (fun c z => by rw [upd_ne (nh c _ z)]; exact z) fun c xs z => by rw [upd_ne (nh c _ z)]; exact z
  refine store_ok (X := X.held (.ref a)) I3.held hN hi (.inl hln) (v := .ref a) (u := .ref a) rfl (fun s4 I4 => ?_) (.inr hln)
  refine wpAny_mono (hs pins s4 _ _ _ I4 q) (fun f s5 z => ?_) fun _ _ z => False.elim z
  cases f with
  | next =>
    obtain ⟨σ5, H5, I5, q5⟩ := z
    exact unbind_ok (I5.unheld I.ok) hN hi hln fun s6 I6 => ⟨_, _, I6, q5⟩
  | brk => obtain ⟨_, _, _, q5⟩ := z; exact False.elim q5
  | cont => obtain ⟨_, _, _, q5⟩ := z; exact False.elim q5
  | ret u =>
    obtain ⟨v5, σ5, H5, I5, r5, q5⟩ := z
    exact unbind_ok (I5.unheld I.ok) hN hi hln fun s6 I6 => ⟨v5, _, _, I6, r5, q5⟩
end

/-! ### defs that may refuse -/
def CalleeE (P : Program) (w : World) (K : PySem.W.Frag) (mg : Str → Option Value) (base : Heap) (x : Str) (k : Nat) (ps : List Str) (sp : Sp) : Prop :=
  ∃ f fd, FnOk P w K mg base (CXE P w) k f fd ps sp ∧ mg x = some (.ref f) ∧ PySem.W.keepIn K (.ref f) = true ∧ Binds K fd ps []
section
variable {X : Cx} {x y : Str} {k : Nat} {ps : List Str} {sp : Sp} {e : Expr} {es : List Expr} {t : TA} {p pos : Pos} {E : XK}
/-- a call whose errors go on -/
theorem pe_fnE (C : CalleeE X.prog X.w X.K X.mg X.base x k ps sp) (hT : Throws X E) (hr : Room k X.A) (hg : Gl X x) (ha : PA X (e :: es) t) (hdb : (x == ("__debug__" : Str)) = false := by decide)
    (he : starEach (e :: es) X.env = (false, eval e X.env) :: starEach es X.env := by rfl) (hpl : (backTo pos (starEach es X.env)).any (·.1) = false := by rfl) : PE X (.Call (.Name x p) (e :: es) [] pos) (tCall sp [] E t) := by
  obtain ⟨f, fd, F, hm, hk, hb⟩ := C
  exact pe_call F hr hg hm hk hb .nil hT.passes ha hdb he hpl
/-- THE RULE for a def that may refuse -/
theorem Fun.okE {P : Program} {w : World} {K : PySem.W.Frag} {mg : Str → Option Value} {base : Heap} {qual : Str} {st : Stmt} {f : Addr} {fd : FuncData} {N : List Str} (F : Fun K x qual st f fd) (S : FnScope N ps (defScope st)) (len : ∀ vs H Q E, sp vs H Q E → vs.length = ps.length)
    (hbody : ∀ (cdv : Value) (A : Around) (outer : List Env) (s : Shared) (H : Hp) (vs : List V) (Q : VK) (E : XK), Room k (A.deeper (envOfC qual (defScope st) s.heap.objs.size f cdv)) → sp vs H Q E →
      ∃ t, PSs (cxOf (CXE P w) P w K mg base N qual (defScope st) f cdv A outer s H E) (defBody st) t ∧ t { nx := fun _ H' => Q .non H', rt := Q } (start N vs) H) : FnOk P w K mg base (CXE P w) (k + 1) f fd ps sp := by
  obtain ⟨oc, od, kV, doc, pm, an, cdv, ct, osl, rfl, lk, hcd⟩ := F.ex
  exact fn_of lk hcd S len fun A outer s H vs Q E hr hsp => hbody cdv A outer s H vs Q E hr hsp
/-- try: f(..) with except C as n: a suite -/
def tTry (K : PySem.W.Frag) (Cp : Addr) (i : Nat) (sp : Sp) (t : TA) (ts : TS) : TS := fun D σ H => t σ H fun vs H1 => sp vs H1 (fun _ H2 => D.nx σ H2) fun cls _ H2 => ∃ C bmB newId, cls = .ref C ∧ PySem.W.excIn K C bmB newId = true ∧ subIn K C Cp = true ∧
  ∀ a, H2 a = none → ts { nx := fun σ' H' => D.nx (σ'.set i none) H', rt := D.rt } (σ.set i (some (.ref a))) (upd H2 a (ExcO a C))
theorem ps_try_fn {i : Nat} {n : Str} {np hpos cpos epos : Pos} {b₀ : Stmt} {suite : List Stmt} {Cp : Addr} {ts : TS} {bmP : List Value} {newP : String} (C : CalleeE X.prog X.w X.K X.mg X.base y k ps sp) (hr : Room k X.A) (hgy : Gl X y) (ha : PA X.nox (e :: es) t)
    (hst : X.stack = X.env :: X.outer) (hfm : X.env.frame = some X.env.locals) (kP : PySem.W.excIn X.K Cp bmP newP = true) (hbP : bmP.contains (.type "BaseException") = true) (hgx : Gl X x) (hmx : X.mg x = some (.ref Cp))
    (hN : X.N.Nodup) (hi : X.N[i]? = some n) (hln : X.env.scope.names.lookup n = some .local) (hs : ∀ a : Addr, PSs (X.held (.ref a)) (b₀ :: suite) ts) (hdx : (x == ("__debug__" : Str)) = false := by decide) (hdy : (y == ("__debug__" : Str)) = false := by decide)
    (he : starEach (e :: es) X.env = (false, eval e X.env) :: starEach es X.env := by rfl) (hpl : (backTo cpos (starEach es X.env)).any (·.1) = false := by rfl) (hsw : swapsWith (.Call (.Name y p) (e :: es) [] cpos) none epos.line X.env = pure false := by rfl) :
    PS X (.Try [.Expr (.Call (.Name y p) (e :: es) [] cpos) epos] [.ExceptHandler (some (.Name x np)) (some n) (b₀ :: suite) hpos] [] [] pos) (tTry X.K Cp i sp t ts) := by
  intro pins s σ H D I h
  obtain ⟨f, fd, F, hm, hk, hb⟩ := C
  refine wpAny_Try_except (wpAny_execs_cons (wpAny_Expr_any ?_ I.quiet hsw))
  refine wpAny_Call_Name_kw (ld_glob I hgy hm ?_ hdy)
  refine PySem.W.callWith_K (h₀ := X.base) I.ok.mod.kin hk (wpAny_mono (ha cpos pins s σ H _ (I.wish _) h) (fun us s1 ⟨vs, H1, I1, r, q⟩ => ⟨I1.kIn, ?_⟩) fun _ _ z => False.elim z) he hpl
  have I1 := I1.unwish
  have hl : us.length = ps.length := by rw [← r.length]; exact F.len _ _ _ _ q
  have hb' := hb s1 us I1.kIn (by rw [List.append_nil]; exact hl)
  rw [List.append_nil] at hb'
  refine wpAny_call (codeAny_mono (F.run X.A X.stack s1 H1 ⟨us, []⟩ us vs _ _ hr I1.env0 hb' r q) fun r s' hq => ?_)
  cases r with
  | error ev =>
    obtain ⟨a, C, H', rfl, th, hfl, C', bmB, newId, hc, kC, hsub, qs⟩ := hq
    cases hc
    exact handled I1 hst hfm th hfl kC kP hbP hsub hgx hmx hdx hN hi hln (hs a) (qs a th.free)
  | ok fl =>
    cases fl with
    | ret u =>
      obtain ⟨v, H2, I2, _, q2⟩ := I1.after hq
      exact wpAny_execs_nil (wpAny_execs_nil ⟨σ, H2, I2, q2⟩)
    | next => exact False.elim hq
    | brk => exact False.elim hq
    | cont => exact False.elim hq
end
end L2

namespace L2
open PySem PySem.Spec PySem.Calls PyProof.Rows PySem.W
/-! ### isinstance of a caught exception -/
/-- what is asked of an exception's class, for the answer no -/
structure ExcCls (K : PySem.W.Frag) (D : Addr) : Prop where
  hg : findIn K (.ref D) "__getattribute__" = some (some (.builtin "BaseException.__getattribute__"))
  hk : findIn K (.ref D) "__getattr__" = some none
  hb : mroIn K D (.type "BaseException") = some true
  hc : (clsIn K D).isSome = true
  ha : findIn K (.ref D) "__class__" = some (some (.builtin "object.__class__"))
  hn : specialIn K (.builtin "object.__class__") "__get__" = some (some (.builtin "getset_descriptor.__get__"))
  ht : takesIn K (.builtin "object.__class__") = some true
  hm : mroIn K D (.type "object") = some true
/-- a class against which it is asked: b the answer -/
structure AskC (K : PySem.W.Frag) (D : Addr) (c : Value) (b : Bool) : Prop where
  ty : ∀ (M : Model) (h : Heap), K.In h → Looks M h (typeOf c) (.type "type")
  is : ∀ (M : Model) (h : Heap), K.In h → Looks M h (isType c) true
  sub : ∀ (M : Model) (h : Heap), K.In h → Looks M h (isSubtype (.ref D) c) b
section
variable {prog : Program} {w : World} {A : Around} {E : Value → Shared → Prop} {s : Shared} {K : PySem.W.Frag} {x D : Addr} {ox : Obj} {c : Value}
theorem exc_check {nameV : Value} {Q : Unit → Shared → Prop} (k : ExcCls K D) (X : K.In s.heap) (I : InstAt s.heap x ox D none) (h : Q () s) : wpAny (model prog w) A (checkBuiltinCall "BaseException.__getattribute__" ⟨[.ref x, nameV], []⟩) Q E s := by
  obtain ⟨hh, g, d, t, os⟩ := s
  have hk : builtinKind "BaseException.__getattribute__" = some .slot := by decide +kernel
  have hsplit : splitId "BaseException.__getattribute__" = some ("BaseException", "__getattribute__") := by decide +kernel
  have ha := PySem.F.args_bexc_ga (.ref x) nameV
  have L0 := I.type (M := model prog w)
  have LI : Looks (model prog w) hh (isInstance (.ref x) (.type "BaseException")) true := L0.andThen (looks_mroIn (M := model prog w) X k.hb)
  simp only [checkBuiltinCall, hk, hsplit]
  refine wpAny_bind (LI.at ?_)
  repeat (first | exact h | wp_step)
theorem exc_entry {tk : Tok} {Q : Fin → Shared → Prop} (k : ExcCls K D) (X : K.In s.heap) (I : InstAt s.heap x ox D none) (h : Q (.done (.ret (.ref D))) s) : wpAny (model prog w) A (Builtin.«object.__getattribute__» ⟨[.ref x, .str "__class__" tk], []⟩) Q E s := by
  have hf : findObj K D none "__class__" = some (.bind (.builtin "getset_descriptor.__get__") (.builtin "object.__class__")) := by
    obtain ⟨cd, hc⟩ := Option.isSome_iff_exists.mp k.hc
    unfold findObj
    rw [hc, Option.bind_some, k.ha, Option.bind_some]
    simp [k.hn, k.ht]
  obtain ⟨hh, g, d, t, os⟩ := s
  have L0 := I.type (M := model prog w)
  have L1 := looks_find (M := model prog w) X I hf
  refine wpAny_bind (wpAny_pure (wpAny_bind (wpAny_pure (wpAny_bind (L0.at (wpAny_bind (L1.at ?_)))))))
  show wpAny _ _ (holding [.builtin "object.__class__"] (call (.builtin "getset_descriptor.__get__") [.builtin "object.__class__", .ref x, .ref D]) >>= ret) _ _ _
  exact wpAny_bind (wpAny_holding (wpAny_call (class_get (s := ⟨hh, g, d, t, os⟩) (ox := ox) (od := none) X I k.hm (wpAny_pure h))))
theorem exc_class {Q : Option Value → Shared → Prop} (k : ExcCls K D) (X : K.In s.heap) (I : InstAt s.heap x ox D none) (h : Q (some (.ref D)) { s with toks := s.toks + 1 }) : wpAny (model prog w) A (getAttr? (.ref x) "__class__") Q E s := by
  obtain ⟨hh, g, d, t, os⟩ := s
  have L0 := I.type (M := model prog w)
  have L1 := looks_findIn (M := model prog w) X k.hg
  have L2 := looks_findIn (M := model prog w) X k.hk
  have f3 := PySem.F.attr_ValueError.ga.bind (.ref x)
  unfold getAttr? getAttrBy? getAttrBy
  refine wpAny_bind (wpAny_mkText (wpAny_bind (wpAny_attempt (wpAny_holding (wpAny_bind (L0.at (wpAny_bind (L1.at ?_))))))))
  have hne : (Value.builtin "BaseException.__getattribute__" == Value.builtin "object.__getattribute__") = false := by decide +kernel
  show wpAny _ _ (if (onTheHeap (.ref D) && Value.builtin "BaseException.__getattribute__" == Value.builtin "object.__getattribute__") = true then _ else getAttrByItsOwn _ _ _ _ _ _) _ _ _
  rw [hne, Bool.and_false, if_neg (by decide)]
  unfold getAttrByItsOwn
  refine wpAny_bind (L2.at ?_)
  refine wpAny_bind (wpAny_attempt (wpAny_holding ?_))
  show wpAny _ _ (boundAndCalled _ _ _) _ _ _
  unfold boundAndCalled
  rw [f3]
  refine wpAny_bind (wpAny_pure (wpAny_call (codeAny_call_builtin PySem.F.attr_ValueError.ga.plain PySem.F.entry_bexc_ga (exc_check k X I (exc_entry k X I ?_)))))
  exact wpAny_pure (wpAny_pure h)
theorem exc_nested {b : Bool} {dep : Int} {tk : Tok} {Q : Fin → Shared → Prop} (k : ExcCls K D) (a : AskC K D c b) (X : K.In s.heap) (I : InstAt s.heap x ox D none) (hb : (Value.ref D == c) = true → b = true) (h : ∀ t, Q (.done (.ret (.bool b))) { s with toks := t }) :
    wpAny (model prog w) A (Builtin.«isinstance.nested» ⟨[.ref x, c, .int dep tk], []⟩) Q E s := by
  have hisD : Looks (model prog w) s.heap (isType (.ref D)) true := by
    have hc := k.hc
    unfold clsIn at hc
    split at hc
    · rename_i c' d' cd' sl' ho
      intro A' Q' E' s' kk q
      unfold isType loadHead
      exact wpAny_bind (wpAny_loadPart (kk _ _ (X _ _ ho)) (wpAny_pure q))
    · cases hc
  obtain ⟨h0, g, d, tt, os⟩ := s
  have L0 := I.type (M := model prog w)
  have LI : Looks (model prog w) h0 (isInstance (.ref x) c) b := L0.andThen (a.sub _ _ X)
  unfold Builtin.«isinstance.nested»
  refine wpAny_bind (L0.at ?_)
  by_cases q : (Value.ref D == c) = true
  · rw [if_pos q]
    have := hb q
    subst this
    exact wpAny_bind (wpAny_rule (wpAny_bind (wpAny_pure (wpAny_pure (h tt)))))
  · rw [if_neg q]
    refine wpAny_bind ((a.ty _ _ X).at ?_)
    rw [if_pos (by decide)]
    k_delta "plainIsInstance"
    refine wpAny_bind (wpAny_bind ((a.is _ _ X).at ?_))
    simp only [Bool.not_true, Bool.false_eq_true, if_false]
    refine wpAny_bind (LI.at ?_)
    cases b with
    | true =>
      simp only [if_true]
      exact wpAny_pure (wpAny_pure (h tt))
    | false =>
      simp only [Bool.false_eq_true, if_false]
      refine wpAny_bind (exc_class k X I ?_)
      refine wpAny_bind (hisD.at ?_)
      simp only [Bool.not_true, Bool.false_eq_true, if_false]
      refine wpAny_bind (wpAny_rule ?_)
      refine (a.sub _ _ X).at ?_
      first
        | exact wpAny_pure (h _)
        | exact wpAny_pure (wpAny_pure (h _))
        | exact wpAny_bind (wpAny_pure (wpAny_pure (h _)))
theorem exc_isi {b : Bool} {Q : Value → Shared → Prop} (k : ExcCls K D) (a : AskC K D c b) (X : K.In s.heap) (I : InstAt s.heap x ox D none) (hb : (Value.ref D == c) = true → b = true) (h : ∀ t, Q (.bool b) { s with toks := t }) : wpAny (model prog w) A (call (.builtin "isinstance") [.ref x, c]) Q E s :=
  call_isinstance (S := fun _ R s => (K.In s.heap ∧ InstAt s.heap x ox D none) ∧ ∀ t, R (.ok (.ret (.bool b))) { s with toks := t })
    (fun _ _ _ _ _ hs => isinstance_outer (exc_nested k a hs.1.1 hs.1.2 hb hs.2) (by intro q; cases q)) ⟨⟨X, I⟩, h⟩
end
/-- isinstance(e, an own class or a built-in one) -/
def rIsiE (K : PySem.W.Frag) : List V → Hp → VK → Prop := fun vs H Q => ∃ (a C : Addr) (c : V) (u : Value) (b : Bool), vs = [.ref a, c] ∧ (∀ u', RelV c u' → u' = u) ∧ H a = some (ExcO a C) ∧ ExcCls K C ∧ AskC K C u b ∧ ((Value.ref C == u) = true → b = true) ∧ Q (.bl b) H
theorem call_isiE {X : Cx} : CallR X (.builtin "isinstance") (rIsiE X.K) := by
  intro pins s σ H vs us Q I r h
  obtain ⟨a, C, c, u, b, rfl, hu, hH, kC, ka, hb, q⟩ := h
  obtain ⟨u1, u2, rfl, ru, ru2⟩ := vals2 r
  obtain rfl : u1 = Value.ref a := ru
  obtain rfl := hu _ ru2
  obtain ⟨⟨oe, vs', e1, e2, e3, e4⟩, _, _⟩ := I.hok a _ hH
  refine exc_isi kC ka I.kIn (ox := oe) ⟨e1, e2, ?_, by rw [e3]; trivial⟩ hb fun t => ⟨.bl b, H, I.tok t, rfl, q⟩
  unfold notCls
  rw [e4]

/-- the class of the name x as it lies behind the top -/
def clsA (K : PySem.W.Frag) (x : Str) : Addr := match PySem.W.nsIn K mainGlobals x with
  | some (some (.ref C)) => C
  | _ => 0
theorem clsA_of {K : PySem.W.Frag} {x : Str} {C : Addr} (h : PySem.W.nsIn K mainGlobals x = some (some (.ref C))) : clsA K x = C := by unfold clsA; rw [h]
/-- is the class at C one below the class at C2: b -/
def askB (K : PySem.W.Frag) (C C2 : Addr) (b : Bool) : Bool := (clsIn K C2).isSome && typeIn K (.ref C2) == some (.type "type") && PySem.W.subIn K (.ref C) (.ref C2) == some b
theorem ask_own {K : PySem.W.Frag} {C C2 : Addr} {b : Bool} (e : askB K C C2 b = true) : AskC K C (.ref C2) b := by
  unfold askB at e
  simp only [Bool.and_eq_true, beq_iff_eq] at e
  obtain ⟨⟨e1, e2⟩, e3⟩ := e
  refine ⟨fun M h X => looks_typeIn X e2, fun M h X => ?_, fun M h X => looks_subIn X e3⟩
  unfold clsIn at e1
  split at e1
  · rename_i c' d' cd' sl' ho
    intro A' Q' E' s' kk q
    unfold isType loadHead
    exact wpAny_bind (wpAny_loadPart (kk _ _ (X _ _ ho)) (wpAny_pure q))
  · cases e1
theorem ask_VE {K : PySem.W.Frag} {C : Addr} {b : Bool} (e : PySem.W.subIn K (.ref C) (.type "ValueError") = some b) : AskC K C (.type "ValueError") b :=
  ⟨fun M h _ => Looks.of_pure (by kernel_rfl), fun M h _ => Looks.of_pure (by kernel_rfl), fun M h X => looks_subIn X e⟩
/-- a call of a def that may refuse, and does not -/
theorem pe_fnS {X : Cx} {x : Str} {k : Nat} {ps : List Str} {sp : Sp} {e : Expr} {es : List Expr} {t : TA} {p pos : Pos} (C : CalleeE X.prog X.w X.K X.mg X.base x k ps sp) (hr : Room k X.A) (hg : Gl X x) (ha : PA X (e :: es) t) (hdb : (x == ("__debug__" : Str)) = false := by decide)
    (he : starEach (e :: es) X.env = (false, eval e X.env) :: starEach es X.env := by rfl) (hpl : (backTo pos (starEach es X.env)).any (·.1) = false := by rfl) : PE X (.Call (.Name x p) (e :: es) [] pos) (tCall sp [] E0 t) := by
  obtain ⟨f, fd, F, hm, hk, hb⟩ := C
  exact pe_call F hr hg hm hk hb .nil (fun _ _ _ _ _ _ _ h => by obtain ⟨_, _, _, _, _, _, q⟩ := h; exact q.elim) ha hdb he hpl
end L2

namespace L2
open PySem PySem.Spec PyProof.Rows Ord
/-! ### nets that may be refused -/
/-- a net that is not too great -/
structure NFits (ss : List Sco) (gs : List (Str × Int)) (qs : List Qu) : Prop where
  ls : ss.length ≤ 40
  lg : gs.length ≤ 80
  lq : qs.length ≤ 60
  st8 : ∀ s ∈ ss, s.1.length ≤ 8
  tl12 : ∀ s ∈ ss, s.2.length ≤ 12
  p6 : ∀ q ∈ qs, q.2.2.length ≤ 6
theorem take_all {α : Type} {xs : List α} {i : Nat} {p : α → Prop} (h : ∀ x ∈ xs.take i, p x) (hi : i < xs.length) (hp : p xs[i]) : ∀ x ∈ xs.take (i + 1), p x := fun x hx => by
  rw [List.take_succ, List.getElem?_eq_getElem hi] at hx
  rcases List.mem_append.mp hx with hx | hx
  · exact h x hx
  · simp at hx
    rw [hx]; exact hp
/-- the words of a scope, and of a net, in their order -/
def wordsS (s : Sco) : List Str := s.1.map (·.1) ++ s.2.flatMap fun p => [p.1, p.2.1]
def wordsN (ss : List Sco) (qs : List Qu) : List Str := ss.flatMap wordsS ++ qs.flatMap (·.2.2)
theorem take_one {α : Type} {xs : List α} {i : Nat} (hi : i < xs.length) : xs.take (i + 1) = xs.take i ++ [xs[i]] := by
  rw [List.take_succ, List.getElem?_eq_getElem hi]; rfl
theorem flat_take {α β : Type} {xs : List α} {f : α → List β} {i : Nat} (hi : i < xs.length) : (xs.take (i + 1)).flatMap f = (xs.take i).flatMap f ++ f xs[i] := by
  rw [take_one hi, List.flatMap_append, List.flatMap_singleton]
theorem map_take {α β : Type} {xs : List α} {f : α → β} {i : Nat} (hi : i < xs.length) : (xs.take (i + 1)).map f = (xs.take i).map f ++ [f xs[i]] := by
  rw [take_one hi, List.map_append]; rfl
theorem flat_two (l : List Tlg) : (l.flatMap fun p => [p.1, p.2.1]).length = 2 * l.length := by
  induction l with
  | nil => rfl
  | cons a l ih =>
    simp only [List.flatMap_cons, List.length_append, ih, List.length_cons, List.length_nil]
    omega
theorem wordsS_len {s : Sco} (h : s.1.length ≤ 8 ∧ s.2.length ≤ 12) : (wordsS s).length ≤ 32 := by
  unfold wordsS
  rw [List.length_append, List.length_map, flat_two]
  omega
theorem flat_len {α β : Type} {f : α → List β} {m : Nat} : ∀ {xs : List α}, (∀ x ∈ xs, (f x).length ≤ m) → (xs.flatMap f).length ≤ m * xs.length
  | [], _ => Nat.zero_le _
  | x :: xs, h => by
    rw [List.flatMap_cons, List.length_append, List.length_cons, Nat.mul_succ]
    have h1 := h x List.mem_cons_self
    have h2 := flat_len (xs := xs) fun y hy => h y (List.mem_cons_of_mem _ hy)
    omega
/-- all its names are names, and no path is without one -/
def NNames (ss : List Sco) (qs : List Qu) : Prop := (∀ x ∈ wordsN ss qs, nameB x = true) ∧ ∀ q ∈ qs, q.2.2 ≠ []
theorem vputE {kvs : List (Key × V)} {k j : Str} {v : V} : valV (putK kvs (.inr k) v) (.inr j : Key) = if j = k then some v else valV kvs (.inr j) := by
  rw [valV_put]
  by_cases e : j = k
  · rw [if_pos e, if_pos (by rw [e])]
  · rw [if_neg e, if_neg fun z => e (Sum.inr.inj z)]
theorem kinds2 {x y j : Str} {a b : V} : valV (mergeK [] [((.inr x : Key), a), (.inr y, b)]) (.inr j) = if j = y then some b else if j = x then some a else none := by
  show valV (putK (putK [] (.inr x) a) (.inr y) b) (.inr j : Key) = _
  rw [vputE, vputE]
  rfl
theorem kinds3 {x y z j : Str} {a b c : V} : valV (mergeK [] [((.inr x : Key), a), (.inr y, b), (.inr z, c)]) (.inr j) = if j = z then some c else if j = y then some b else if j = x then some a else none := by
  show valV (putK (putK (putK [] (.inr x) a) (.inr y) b) (.inr z) c) (.inr j : Key) = _
  rw [vputE, vputE, vputE]
  rfl
/-- all its places are places -/
structure NPlaces (ss : List Sco) (gs : List (Str × Int)) (qs : List Qu) : Prop where
  kst : ∀ s ∈ ss, ∀ p ∈ s.1, stOk ss.length qs.length p
  ktl : ∀ s ∈ ss, ∀ p ∈ s.2, tlOk gs.length qs.length p
  kth : ∀ p ∈ gs, thOk ss.length qs.length p
  kq : ∀ q ∈ qs, 0 ≤ q.1 ∧ q.1 < ss.length ∧ 0 ≤ q.2.1
theorem two_int {x y j : Str} {a b : Int} {kvs : List (Key × V)} (hk : ∀ j : Str, valV kvs (.inr j : Key) = if j = y then some (.int b) else if j = x then some (.int a) else none) : ∀ v, valV kvs (.inr j : Key) = some v → ∃ m, v = .int m := fun v h => by
  rw [hk] at h
  split at h
  · cases h; exact ⟨_, rfl⟩
  · split at h
    · cases h; exact ⟨_, rfl⟩
    · cases h
theorem two_place {x y j : Str} {a b n : Int} {kvs : List (Key × V)} (hxy : x ≠ y) (hk : ∀ j : Str, valV kvs (.inr j : Key) = if j = y then some (.int b) else if j = x then some (.int a) else none) :
    (∀ m, valV kvs (.inr j : Key) = some (.int m) → 0 ≤ n ∧ n < m → (j = x ∧ 0 ≤ n ∧ n < a) ∨ (j = y ∧ 0 ≤ n ∧ n < b)) ∧ ((∀ m, valV kvs (.inr j : Key) = some (.int m) → ¬ (0 ≤ n ∧ n < m)) → ¬ ((j = x ∧ 0 ≤ n ∧ n < a) ∨ (j = y ∧ 0 ≤ n ∧ n < b))) := by
  refine ⟨fun m h hn => ?_, fun h z => ?_⟩
  · rw [hk] at h
    split at h
    · cases h; exact .inr ⟨‹_›, hn⟩
    · split at h
      · cases h; exact .inl ⟨‹_›, hn⟩
      · cases h
  · rcases z with ⟨e, hn⟩ | ⟨e, hn⟩
    · exact h a (by rw [hk, e, if_neg hxy, if_pos rfl]) hn
    · exact h b (by rw [hk, e, if_pos rfl]) hn
theorem three_int {x y z j : Str} {a b c : Int} {kvs : List (Key × V)} (hk : ∀ j : Str, valV kvs (.inr j : Key) = if j = z then some (.int c) else if j = y then some (.int b) else if j = x then some (.int a) else none) : ∀ v, valV kvs (.inr j : Key) = some v → ∃ m, v = .int m := fun v h => by
  rw [hk] at h
  split at h
  · cases h; exact ⟨_, rfl⟩
  · split at h
    · cases h; exact ⟨_, rfl⟩
    · split at h
      · cases h; exact ⟨_, rfl⟩
      · cases h
theorem three_place {x y z j : Str} {a b c n : Int} {kvs : List (Key × V)} (hxy : x ≠ y) (hxz : x ≠ z) (hyz : y ≠ z) (hk : ∀ j : Str, valV kvs (.inr j : Key) = if j = z then some (.int c) else if j = y then some (.int b) else if j = x then some (.int a) else none) :
    (∀ m, valV kvs (.inr j : Key) = some (.int m) → 0 ≤ n ∧ n < m → (j = x ∧ 0 ≤ n ∧ n < a) ∨ (j = y ∧ 0 ≤ n ∧ n < b) ∨ (j = z ∧ 0 ≤ n ∧ n < c)) ∧ ((∀ m, valV kvs (.inr j : Key) = some (.int m) → ¬ (0 ≤ n ∧ n < m)) → ¬ ((j = x ∧ 0 ≤ n ∧ n < a) ∨ (j = y ∧ 0 ≤ n ∧ n < b) ∨ (j = z ∧ 0 ≤ n ∧ n < c))) := by
  refine ⟨fun m h hn => ?_, fun h w => ?_⟩
  · rw [hk] at h
    split at h
    · cases h; exact .inr (.inr ⟨‹_›, hn⟩)
    · split at h
      · cases h; exact .inr (.inl ⟨‹_›, hn⟩)
      · split at h
        · cases h; exact .inl ⟨‹_›, hn⟩
        · cases h
  · rcases w with ⟨e, hn⟩ | ⟨e, hn⟩ | ⟨e, hn⟩
    · exact h a (by rw [hk, e, if_neg hxz, if_neg hxy, if_pos rfl]) hn
    · exact h b (by rw [hk, e, if_neg hyz, if_pos rfl]) hn
    · exact h c (by rw [hk, e, if_pos rfl]) hn
end L2

namespace L2
open PySem PySem.Spec PyProof.Rows Ord
section
variable {X : Cx}
/-! ### l.insert(i, y) -/
/-- is not True, is not False -/
theorem op_isnotB : OpR X (compareOp .IsNot) (fun x y H Q => ∃ a b, x = .bl a ∧ y = .bl b ∧ Q (.bl (!(a == b))) H) := by
  intro pins s σ H x y v u Q I rx ry h
  obtain ⟨a, b, rfl, rfl, q⟩ := h
  cases rx
  cases ry
  cases a <;> cases b <;> exact wpAny_pure (fin_bl I q rfl)
/-! ### slices of texts -/
def cutS (x : Str) (l u : Option Int) : List Nat := (x.cps.toList.drop (l.getD 0).toNat).take ((u.map Int.toNat).getD x.length - (l.getD 0).toNat)
theorem drop_min {α : Type} (xs : List α) (a : Nat) : xs.drop (min a xs.length) = xs.drop a := by
  rcases Nat.le_total a xs.length with h | h
  · rw [Nat.min_eq_left h]
  · rw [Nat.min_eq_right h, List.drop_of_length_le h, List.drop_of_length_le (Nat.le_refl _)]
theorem slice_cps (x : Str) {l u : Option Int} (hl : ∀ i, l = some i → 0 ≤ i) (hu : ∀ i, u = some i → 0 ≤ i) : (Txt.slice x l u).cps.toList = cutS x l u := by
  have hxl : x.cps.toList.length = x.length := by rw [Array.length_toList]; rfl
  have e : Builtin.Str.strSliceIndices l u 1 x.length = (List.range (min ((u.map Int.toNat).getD x.length) x.length - min (l.getD 0).toNat x.length)).map (min (l.getD 0).toNat x.length + ·) := by
    rw [← sliceRange_one]
    unfold Builtin.Str.strSliceIndices
    cases l with
    | none =>
      cases u with
      | none => simp
      | some j =>
        have := hu j rfl
        simp only [show (1 : Int) > 0 by decide, if_true, Option.getD_none, Option.map_some, Option.getD_some]
        rw [if_neg (by omega)]
        congr 1 <;> omega
    | some i =>
      have := hl i rfl
      cases u with
      | none =>
        simp only [show (1 : Int) > 0 by decide, if_true, Option.getD_none, Option.map_none, Option.getD_some]
        rw [if_neg (by omega)]
        congr 1 <;> omega
      | some j =>
        have := hu j rfl
        simp only [show (1 : Int) > 0 by decide, if_true, Option.map_some, Option.getD_some]
        rw [if_neg (by omega), if_neg (by omega)]
        congr 1 <;> omega
  have key : ((Builtin.Str.strSliceIndices l u 1 x.length).filterMap (x.cps[·]?)) = cutS x l u := by
    rw [e, pick_run]
    unfold cutS
    rw [← hxl, drop_min]
    generalize (l.getD 0).toNat = a
    generalize (u.map Int.toNat).getD x.cps.toList.length = b
    rcases Nat.le_total b x.cps.toList.length with h | h
    · rw [Nat.min_eq_left h]
      rcases Nat.le_total a x.cps.toList.length with h2 | h2
      · rw [Nat.min_eq_left h2]
      · rw [List.drop_of_length_le h2, List.take_nil, List.take_nil]
    · rw [Nat.min_eq_right h]
      rcases Nat.le_total a x.cps.toList.length with h2 | h2
      · rw [Nat.min_eq_left h2, List.take_of_length_le (by rw [List.length_drop]; omega), List.take_of_length_le (by rw [List.length_drop]; omega)]
      · rw [List.drop_of_length_le h2, List.take_nil, List.take_nil]
  unfold Txt.slice
  split
  · rename_i h
    simp only [Bool.and_eq_true, beq_iff_eq] at h
    have h2 := h.2
    have hlen : (cutS x l u).length = x.length := by
      rw [← key, e, pick_run]
      rw [e, List.length_map, List.length_range] at h2
      rw [List.length_take, List.length_drop, hxl]
      omega
    unfold cutS at hlen ⊢
    rw [List.length_take, List.length_drop, hxl] at hlen
    have ha : (l.getD 0).toNat = 0 ∨ x.length = 0 := by omega
    rcases ha with ha | ha
    · rw [ha, List.drop_zero, List.take_of_length_le (by rw [hxl]; omega)]
    · have : x.cps.toList = [] := List.length_eq_zero_iff.mp (by rw [hxl]; exact ha)
      rw [this, List.drop_nil, List.take_nil]
  · exact key
def rSlS : V → Option Int → Option Int → Hp → VK → Prop := fun x lo hi H Q => ∃ a, x = .str a ∧ a.length ≤ sizeLine ∧ (∀ i, lo = some i → 0 ≤ i) ∧ (∀ i, hi = some i → 0 ≤ i) ∧ ∀ z : Str, z.cps.toList = cutS a lo hi → Q (.str z) H
theorem sl_str : SlR X rSlS := by
  intro pins s σ H x v vl vu lo hi sl Q I rx hs pl pu h
  obtain ⟨a, rfl, hz, hl, hu, q⟩ := h
  obtain ⟨t, rfl⟩ := rx
  obtain ⟨l', el, el2⟩ : ∃ l' : Option (Int × Tok), vl = partValue l' ∧ l'.map (·.1) = lo := by
    cases pl with
    | none => exact ⟨none, rfl, rfl⟩
    | int i t => exact ⟨some (i, t), rfl, rfl⟩
  obtain ⟨u', eu, eu2⟩ : ∃ u' : Option (Int × Tok), vu = partValue u' ∧ u'.map (·.1) = hi := by
    cases pu with
    | none => exact ⟨none, rfl, rfl⟩
    | int i t => exact ⟨some (i, t), rfl, rfl⟩
  subst el; subst eu; subst el2; subst eu2
  refine ⟨"str", _, F.slot_str_getitem.lookup, typeIs_str _ _ _, wpAny_getItem_str_slice (l := l') (u := u') (st := none) hs rfl ?_⟩
  exact post_val_or_str ⟨Nat.le_trans (Txt.slice_le a _ _) hz, fun t' k => ⟨.str _, H, I.tok k, ⟨_, rfl⟩, q _ (slice_cps a hl hu)⟩⟩
/-! ### a text times an int, with its length -/
end
/-- what is told of an error: is it a ValueError, and which of the nine is it -/
def kindsL (n : Nat) : List V := .bl true :: (List.range 9).map fun k => .bl (decide (k = n))
/-! ### a net with its own lists -/
theorem nd3 {S T R : Addr} {L : List Addr} (nd : (S :: L).Nodup) (hT : T ∉ S :: L) (hR : R ∉ S :: L) (h : T ≠ R) : (S :: T :: R :: L).Nodup := by
  obtain ⟨a, b⟩ := List.nodup_cons.mp nd
  simp only [List.mem_cons, not_or] at hT hR
  simp only [List.nodup_cons, List.mem_cons, not_or]
  exact ⟨⟨fun z => hT.1 z.symm, fun z => hR.1 z.symm, a⟩, ⟨h, hT.2⟩, hR.2, b⟩
structure NetS (H : Hp) (pt S T R : Addr) (us Gs Es ts qt : List Addr) (ss : List Sco) (gs : List (Str × Int)) (qs : List Qu) : Prop where
  ept : H pt = some (.tup [.ref S, .ref T, .ref R])
  n3 : Net3 H S T R us Gs Es ts qt ss gs qs
  nd : (S :: T :: R :: (Gs ++ Es)).Nodup
section
variable {H H' : Hp} {pt S T R : Addr} {us Gs Es ts qt : List Addr} {ss : List Sco} {gs : List (Str × Int)} {qs : List Qu}
theorem NetS.same (e : Same H H') (h : NetS H pt S T R us Gs Es ts qt ss gs qs) : NetS H' pt S T R us Gs Es ts qt ss gs qs := ⟨e _ _ h.ept, h.n3.same e, h.nd⟩
theorem NetS.alive (h : NetS H pt S T R us Gs Es ts qt ss gs qs) : ∀ x ∈ S :: T :: R :: (Gs ++ Es), ∃ xs, H x = some (.lst xs) := fun x m => by
  rcases List.mem_cons.mp m with rfl | m
  · exact ⟨_, h.n3.sc.top⟩
  rcases List.mem_cons.mp m with rfl | m
  · exact ⟨_, h.n3.et⟩
  rcases List.mem_cons.mp m with rfl | m
  · exact ⟨_, h.n3.er⟩
  · exact h.n3.sc.alive x m
theorem NetS.ndS (h : NetS H pt S T R us Gs Es ts qt ss gs qs) : (S :: (Gs ++ Es)).Nodup := by
  have := h.nd
  simp only [List.nodup_cons, List.mem_cons, not_or] at this ⊢
  exact ⟨this.1.2.2, this.2.2.2⟩
end
/-- the list of steps of the scope i is made another one -/
theorem Scs.setS {H H' : Hp} {D : Addr} {us Gs Es : List Addr} {ss : List Sco} (h : Scs H D us Gs Es ss) (nd : (D :: (Gs ++ Es)).Nodup) {i : Nat} {G : Addr} {ts : List Addr} {l : List Stp} (hi : i < ss.length) (hG : Gs[i]? = some G) (k : Keeps (· = G) H H') (eG : H' G = some (.lst (ts.map V.ref))) (T : RT stpV H' ts l) :
    Scs H' D us Gs Es (ss.set i (l, ss[i].2)) := by
  obtain ⟨nD, nd2⟩ := List.nodup_cons.mp nd
  obtain ⟨ng, ne, nge⟩ := List.nodup_append.mp nd2
  have mG : G ∈ Gs := List.mem_of_getElem? hG
  refine ⟨k.at_ _ _ h.top fun z => nD (z ▸ List.mem_append_left _ mG), by rw [List.length_set]; exact h.lu, by rw [List.length_set]; exact h.lg, by rw [List.length_set]; exact h.le, fun j u G' E s h1 h2 h3 h4 => ?_⟩
  have hE : E ≠ G := fun z => nge G mG E (List.mem_of_getElem? h3) z.symm
  by_cases e : i = j
  · subst e
    rw [hG] at h2; cases h2
    rw [List.getElem?_set_self hi] at h4; cases h4
    obtain ⟨a, _, ⟨es, c1, c2⟩⟩ := h.at_ i u G E _ h1 hG h3 (List.getElem?_eq_getElem hi)
    exact ⟨k.tup a, ⟨ts, eG, T⟩, ⟨es, k.at_ _ _ c1 hE, c2.keeps k⟩⟩
  · rw [List.getElem?_set_ne e] at h4
    have hG' : G' ≠ G := fun z => by
      subst z
      obtain ⟨q1, e1⟩ := List.getElem?_eq_some_iff.mp h2
      obtain ⟨q2, e2⟩ := List.getElem?_eq_some_iff.mp hG
      exact e ((List.getElem_inj ng).mp (e2.trans e1.symm))
    exact (h.at_ j u G' E s h1 h2 h3 h4).keeps k hG' hE
/-- the list of tellings of the scope i is made another one -/
theorem Scs.setT {H H' : Hp} {D : Addr} {us Gs Es : List Addr} {ss : List Sco} (h : Scs H D us Gs Es ss) (nd : (D :: (Gs ++ Es)).Nodup) {i : Nat} {E : Addr} {ts : List Addr} {l : List Tlg} (hi : i < ss.length) (hE : Es[i]? = some E) (k : Keeps (· = E) H H') (eE : H' E = some (.lst (ts.map V.ref))) (T : RT tlgV H' ts l) :
    Scs H' D us Gs Es (ss.set i (ss[i].1, l)) := by
  obtain ⟨nD, nd2⟩ := List.nodup_cons.mp nd
  obtain ⟨ng, ne, nge⟩ := List.nodup_append.mp nd2
  have mE : E ∈ Es := List.mem_of_getElem? hE
  refine ⟨k.at_ _ _ h.top fun z => nD (z ▸ List.mem_append_right _ mE), by rw [List.length_set]; exact h.lu, by rw [List.length_set]; exact h.lg, by rw [List.length_set]; exact h.le, fun j u G E' s h1 h2 h3 h4 => ?_⟩
  have hG : G ≠ E := fun z => nge G (List.mem_of_getElem? h2) E mE z
  by_cases e : i = j
  · subst e
    rw [hE] at h3; cases h3
    rw [List.getElem?_set_self hi] at h4; cases h4
    obtain ⟨a, ⟨gts, c1, c2⟩, _⟩ := h.at_ i u G E _ h1 h2 hE (List.getElem?_eq_getElem hi)
    exact ⟨k.tup a, ⟨gts, k.at_ _ _ c1 hG, c2.keeps k⟩, ⟨ts, eE, T⟩⟩
  · rw [List.getElem?_set_ne e] at h4
    have hE' : E' ≠ E := fun z => by
      subst z
      obtain ⟨q1, e1⟩ := List.getElem?_eq_some_iff.mp h3
      obtain ⟨q2, e2⟩ := List.getElem?_eq_some_iff.mp hE
      exact e ((List.getElem_inj ne).mp (e2.trans e1.symm))
    exact (h.at_ j u G E' s h1 h2 h3 h4).keeps k hG hE'
theorem ins_at {α : Type} {xs : List α} {x : α} {i : Nat} (hi : i ≤ xs.length) (j : Nat) : (xs.take i ++ x :: xs.drop i)[j]? = if j < i then xs[j]? else if j = i then some x else xs[j - 1]? := by
  have hl : (xs.take i).length = i := by rw [List.length_take]; omega
  by_cases h : j < i
  · rw [if_pos h, List.getElem?_append_left (by omega), List.getElem?_take_of_lt h]
  · rw [if_neg h, List.getElem?_append_right (by omega), hl]
    by_cases e : j = i
    · subst e; rw [if_pos rfl, Nat.sub_self]; rfl
    · rw [if_neg e]
      obtain ⟨n, hn⟩ : ∃ n, j - i = n + 1 := ⟨j - i - 1, by omega⟩
      rw [hn, List.getElem?_cons_succ, List.getElem?_drop]
      congr 1; omega
theorem ins_len {α : Type} {xs : List α} {x : α} {i : Nat} (hi : i ≤ xs.length) : (xs.take i ++ x :: xs.drop i).length = xs.length + 1 := by
  rw [List.length_append, List.length_cons, List.length_take, List.length_drop]; omega
theorem ins_perm {α : Type} (xs : List α) (x : α) (i : Nat) : (xs.take i ++ x :: xs.drop i).Perm (x :: xs) := by
  have := List.perm_middle (a := x) (l₁ := xs.take i) (l₂ := xs.drop i)
  rwa [List.take_append_drop] at this
section
variable {H H' : Hp} {pt S T R : Addr} {us Gs Es ts qt : List Addr} {ss : List Sco} {gs : List (Str × Int)} {qs : List Qu}
theorem NetS.new (h : NetS H pt S T R us Gs Es ts qt ss gs qs) {x : Addr} (e : H x = none) : x ∉ S :: T :: R :: (Gs ++ Es) := fun m => by
  obtain ⟨xs, e'⟩ := h.alive x m
  rw [e] at e'; cases e'
theorem NetS.keepR (h : NetS H pt S T R us Gs Es ts qt ss gs qs) : Keeps (fun x => x ∈ S :: T :: R :: (Gs ++ Es)) H H := Keeps.refl fun x o m e => by
  obtain ⟨xs, e'⟩ := h.alive x m
  rw [e'] at e; exact ⟨_, (Option.some.inj e).symm⟩
theorem NetS.neqs (h : NetS H pt S T R us Gs Es ts qt ss gs qs) : S ≠ T ∧ S ≠ R ∧ T ≠ R ∧ S ∉ Gs ++ Es ∧ T ∉ Gs ++ Es ∧ R ∉ Gs ++ Es := by
  have := h.nd
  simp only [List.nodup_cons, List.mem_cons, not_or] at this
  obtain ⟨⟨a, b, c⟩, ⟨d, e⟩, f, _⟩ := this
  exact ⟨a, b, d, c, e, f⟩
/-- a scope more at the place i -/
theorem NetS.ins {u G E : Addr} {s : Sco} {i : Nat} (h : NetS H pt S T R us Gs Es ts qt ss gs qs) (hs : ScH H u G E s) (nG : G ∉ S :: T :: R :: (Gs ++ Es)) (nE : E ∉ S :: T :: R :: (Gs ++ Es)) (nGE : G ≠ E) (hi : i ≤ ss.length) :
    NetS (upd H S (.lst ((us.map V.ref).take i ++ .ref u :: (us.map V.ref).drop i))) pt S T R (us.take i ++ u :: us.drop i) (Gs.take i ++ G :: Gs.drop i) (Es.take i ++ E :: Es.drop i) ts qt (ss.take i ++ s :: ss.drop i) gs qs := by
  have k : Keeps (· = S) H (upd H S (.lst ((us.map V.ref).take i ++ .ref u :: (us.map V.ref).drop i))) := Keeps.one h.n3.sc.top
  obtain ⟨q1, q2, q3, q4, q5, q6⟩ := h.neqs
  have lu := h.n3.sc.lu
  have lg := h.n3.sc.lg
  have le := h.n3.sc.le
  simp only [List.mem_cons, List.mem_append, not_or] at nG nE
  refine ⟨k.tup h.ept, ⟨⟨?_, ?_, ?_, ?_, fun j u' G' E' s' h1 h2 h3 h4 => ?_⟩, k.at_ _ _ h.n3.et (Ne.symm q1), h.n3.tg.keeps k, k.at_ _ _ h.n3.er (Ne.symm q2), h.n3.tq.keeps k⟩, ?_⟩
  · rw [upd_same, List.map_append, List.map_cons, List.map_take, List.map_drop]
  · rw [ins_len (by omega), ins_len hi, lu]
  · rw [ins_len (by omega), ins_len hi, lg]
  · rw [ins_len (by omega), ins_len hi, le]
  · rw [ins_at (by omega)] at h1 h2 h3
    rw [ins_at hi] at h4
    by_cases hj : j < i
    · rw [if_pos hj] at h1 h2 h3 h4
      exact (h.n3.sc.at_ j u' G' E' s' h1 h2 h3 h4).keeps k (fun z => q4 (z ▸ List.mem_append_left _ (List.mem_of_getElem? h2))) (fun z => q4 (z ▸ List.mem_append_right _ (List.mem_of_getElem? h3)))
    · rw [if_neg hj] at h1 h2 h3 h4
      by_cases e : j = i
      · rw [if_pos e] at h1 h2 h3 h4
        cases h1; cases h2; cases h3; cases h4
        exact hs.keeps k nG.1 nE.1
      · rw [if_neg e] at h1 h2 h3 h4
        exact (h.n3.sc.at_ _ u' G' E' s' h1 h2 h3 h4).keeps k (fun z => q4 (z ▸ List.mem_append_left _ (List.mem_of_getElem? h2))) (fun z => q4 (z ▸ List.mem_append_right _ (List.mem_of_getElem? h3)))
  · have p1 := (ins_perm Gs G i).append (ins_perm Es E i)
    have p2 : ((G :: Gs) ++ (E :: Es)).Perm (G :: E :: (Gs ++ Es)) := by
      rw [List.cons_append]
      exact List.perm_middle.cons G
    have p3 : (S :: T :: R :: ((Gs.take i ++ G :: Gs.drop i) ++ (Es.take i ++ E :: Es.drop i))).Perm (G :: E :: (S :: T :: R :: (Gs ++ Es))) := by
      have a := (((p1.trans p2).cons R).cons T).cons S
      have b : (S :: T :: R :: G :: E :: (Gs ++ Es)).Perm (G :: (S :: T :: R :: E :: (Gs ++ Es))) := List.perm_middle (a := G) (l₁ := [S, T, R]) (l₂ := E :: (Gs ++ Es))
      have c : (S :: T :: R :: E :: (Gs ++ Es)).Perm (E :: (S :: T :: R :: (Gs ++ Es))) := List.perm_middle (a := E) (l₁ := [S, T, R]) (l₂ := Gs ++ Es)
      exact (a.trans b).trans (c.cons G)
    rw [p3.nodup_iff, List.nodup_cons, List.nodup_cons]
    refine ⟨?_, ?_, h.nd⟩
    · simp only [List.mem_cons, List.mem_append, not_or]
      exact ⟨nGE, nG⟩
    · simp only [List.mem_cons, List.mem_append, not_or]
      exact nE
/-- the steps of the scope i are made others -/
theorem NetS.setS {i : Nat} {G : Addr} {ts' : List Addr} {l : List Stp} (h : NetS H pt S T R us Gs Es ts qt ss gs qs) (hi : i < ss.length) (hG : Gs[i]? = some G) (k : Keeps (· = G) H H') (eG : H' G = some (.lst (ts'.map V.ref))) (RR : RT stpV H' ts' l) : NetS H' pt S T R us Gs Es ts qt (ss.set i (l, ss[i].2)) gs qs := by
  obtain ⟨q1, q2, q3, q4, q5, q6⟩ := h.neqs
  have mG : G ∈ Gs ++ Es := List.mem_append_left _ (List.mem_of_getElem? hG)
  exact ⟨k.tup h.ept, ⟨h.n3.sc.setS h.ndS hi hG k eG RR, k.at_ _ _ h.n3.et (fun z => q5 (z ▸ mG)), h.n3.tg.keeps k, k.at_ _ _ h.n3.er (fun z => q6 (z ▸ mG)), h.n3.tq.keeps k⟩, h.nd⟩
theorem NetS.setT {i : Nat} {E : Addr} {ts' : List Addr} {l : List Tlg} (h : NetS H pt S T R us Gs Es ts qt ss gs qs) (hi : i < ss.length) (hE : Es[i]? = some E) (k : Keeps (· = E) H H') (eE : H' E = some (.lst (ts'.map V.ref))) (RR : RT tlgV H' ts' l) : NetS H' pt S T R us Gs Es ts qt (ss.set i (ss[i].1, l)) gs qs := by
  obtain ⟨q1, q2, q3, q4, q5, q6⟩ := h.neqs
  have mE : E ∈ Gs ++ Es := List.mem_append_right _ (List.mem_of_getElem? hE)
  exact ⟨k.tup h.ept, ⟨h.n3.sc.setT h.ndS hi hE k eE RR, k.at_ _ _ h.n3.et (fun z => q5 (z ▸ mE)), h.n3.tg.keeps k, k.at_ _ _ h.n3.er (fun z => q6 (z ▸ mE)), h.n3.tq.keeps k⟩, h.nd⟩
theorem NetS.setG {ts' : List Addr} {gs' : List (Str × Int)} (h : NetS H pt S T R us Gs Es ts qt ss gs qs) (k : Keeps (· = T) H H') (e : H' T = some (.lst (ts'.map V.ref))) (g : GT H' ts' gs') : NetS H' pt S T R us Gs Es ts' qt ss gs' qs := by
  obtain ⟨q1, q2, q3, q4, q5, q6⟩ := h.neqs
  exact ⟨k.tup h.ept, ⟨h.n3.sc.keeps k q1 (fun x hx z => q5 (z ▸ hx)), e, g, k.at_ _ _ h.n3.er (Ne.symm q3), h.n3.tq.keeps k⟩, h.nd⟩
theorem NetS.setQ {qt' : List Addr} {qs' : List Qu} (h : NetS H pt S T R us Gs Es ts qt ss gs qs) (k : Keeps (· = R) H H') (e : H' R = some (.lst (qt'.map V.ref))) (g : QT H' qt' qs') : NetS H' pt S T R us Gs Es ts qt' ss gs qs' := by
  obtain ⟨q1, q2, q3, q4, q5, q6⟩ := h.neqs
  exact ⟨k.tup h.ept, ⟨h.n3.sc.keeps k q2 (fun x hx z => q6 (z ▸ hx)), k.at_ _ _ h.n3.et q3, h.n3.tg.keeps k, e, g⟩, h.nd⟩
theorem NetS.keep1 {A : Addr} {H1 H2 : Hp} (h : NetS H pt S T R us Gs Es ts qt ss gs qs) (s : Same H H1) (k : Keeps (· = A) H1 H2) (hA : A ∈ S :: T :: R :: (Gs ++ Es)) : Keeps (fun x => x ∈ S :: T :: R :: (Gs ++ Es)) H H2 := ⟨fun x o e n => k.at_ x o (s x o e) (fun z => n (z ▸ hA)), h.keepR.ls⟩
/-- what was there ahead of the net stays -/
theorem Same.keeps {M : Addr → Prop} {H0 : Hp} (s : Same H0 H) (k : Keeps M H H') (hM : ∀ x, M x → H0 x = none) : Same H0 H' := fun x o e => k.at_ x o (s x o e) fun m => by rw [hM x m] at e; cases e
end
/-! ### what is good stays good with more of the good -/
theorem words_mem {ss : List Sco} {qs : List Qu} {x : Str} : x ∈ wordsN ss qs ↔ (∃ s ∈ ss, (∃ p ∈ s.1, x = p.1) ∨ ∃ p ∈ s.2, x = p.1 ∨ x = p.2.1) ∨ ∃ q ∈ qs, x ∈ q.2.2 := by
  unfold wordsN wordsS
  simp only [List.mem_append, List.mem_flatMap, List.mem_map, List.mem_cons, List.not_mem_nil, or_false]
  constructor
  · rintro (⟨s, hs, (⟨p, hp, rfl⟩ | ⟨p, hp, h⟩)⟩ | ⟨q, hq, h⟩)
    · exact .inl ⟨s, hs, .inl ⟨p, hp, rfl⟩⟩
    · exact .inl ⟨s, hs, .inr ⟨p, hp, h⟩⟩
    · exact .inr ⟨q, hq, h⟩
  · rintro (⟨s, hs, (⟨p, hp, rfl⟩ | ⟨p, hp, h⟩)⟩ | ⟨q, hq, h⟩)
    · exact .inl ⟨s, hs, .inl ⟨p, hp, rfl⟩⟩
    · exact .inl ⟨s, hs, .inr ⟨p, hp, h⟩⟩
    · exact .inr ⟨q, hq, h⟩
theorem words_set {ss : List Sco} {qs : List Qu} {i : Nat} {s' : Sco} {x : Str} (h : x ∈ wordsN (ss.set i s') qs) : x ∈ wordsN ss qs ∨ (∃ p ∈ s'.1, x = p.1) ∨ ∃ p ∈ s'.2, x = p.1 ∨ x = p.2.1 := by
  rcases words_mem.mp h with ⟨s, hs, hx⟩ | ⟨q, hq, hx⟩
  · rcases List.mem_or_eq_of_mem_set hs with z | rfl
    · exact .inl (words_mem.mpr (.inl ⟨s, z, hx⟩))
    · exact .inr hx
  · exact .inl (words_mem.mpr (.inr ⟨q, hq, hx⟩))
/-! ### the facts of the own errors, as they are asked of the part that is written out -/
theorem cls_of_mro {K : PySem.W.Frag} {C : Addr} {v : Value} {b : Bool} (h : PySem.W.mroIn K C v = some b) : (PySem.W.clsIn K C).isSome = true := by
  obtain ⟨cd, a, _⟩ := Option.bind_eq_some_iff.mp h
  rw [a]; rfl
theorem excCls_of {K : PySem.W.Frag} {C : Addr} (p : PySem.W.findIn K (.ref C) "__getattribute__" = some (some (.builtin "BaseException.__getattribute__"))) (p2 : PySem.W.findIn K (.ref C) "__getattr__" = some none) (p3 : PySem.W.mroIn K C (.type "BaseException") = some true) (q : PySem.W.findIn K (.ref C) "__class__" = some (some (.builtin "object.__class__"))) (hn : PySem.W.specialIn K (.builtin "object.__class__") "__get__" = some (some (.builtin "getset_descriptor.__get__"))) (ht : PySem.W.takesIn K (.builtin "object.__class__") = some true) (m : PySem.W.mroIn K C (.type "object") = some true) : ExcCls K C :=
  ⟨p, p2, p3, cls_of_mro m, q, hn, ht, m⟩
theorem sub_of_mro {K : PySem.W.Frag} {C Cp : Addr} (h : PySem.W.mroIn K C (.ref Cp) = some true) : L2.subIn K C Cp = true := by
  obtain ⟨cd, a, b⟩ := Option.bind_eq_some_iff.mp h
  unfold PySem.W.clsIn at a
  unfold L2.subIn
  split at a
  · rename_i ho
    cases a
    rw [ho]
    show cd.mro.contains (.ref Cp) = true
    split at b
    · cases b
    · exact Option.some.inj b
  · cases a
theorem askB_of {K : PySem.W.Frag} {C C2 : Addr} {b : Bool} (o : PySem.W.mroIn K C2 (.type "object") = some true) (t : PySem.W.typeIn K (.ref C2) = some (.type "type")) (r : PySem.W.subIn K (.ref C) (.ref C2) = some b) : askB K C C2 b = true := by
  unfold askB
  rw [cls_of_mro o, t, r]
  simp
end L2

namespace L2
open PySem PySem.Spec PyProof.Rows Ord
section
variable {X : Cx}
end
section
variable {H H' : Hp}
variable {pt S T R : Addr} {us Gs Es ts qt : List Addr} {ss : List Sco} {gs : List (Str × Int)} {qs : List Qu}
end
/-! ### spots -/
end L2

namespace L2
open PySem PySem.Spec PyProof.Rows Ord
/-! ### any, of a list of truths -/
theorem range_any {bs : List Bool} : (List.range bs.length).any (fun i => bs.getD i false) = bs.any id := by
  rw [Bool.eq_iff_iff, List.any_eq_true, List.any_eq_true]
  constructor
  · rintro ⟨i, hi, h⟩
    have hi' := List.mem_range.mp hi
    rw [List.getD_eq_getElem?_getD, List.getElem?_eq_getElem hi'] at h
    exact ⟨_, List.getElem_mem hi', h⟩
  · rintro ⟨b, hb, h⟩
    obtain ⟨i, hi, e⟩ := List.mem_iff_getElem.mp hb
    refine ⟨i, List.mem_range.mpr hi, ?_⟩
    rw [List.getD_eq_getElem?_getD, List.getElem?_eq_getElem hi, e]
    exact h
def rAny (K : PySem.W.Frag) : List V → Hp → VK → Prop := fun vs H Q => ∃ (a : Addr) (bs : List Bool), vs = [.ref a] ∧ SqL K H a (bs.map V.bl) ∧ Q (.bl (bs.any id)) H
theorem call_anyL {X : Cx} (hc : X.calm = true) : CallR X (.builtin "any") (rAny X.K) := by
  intro pins s σ H vs us Q I r h
  obtain ⟨a, bs, rfl, hq, q⟩ := h
  obtain ⟨u, rfl, ru⟩ := vals1 r
  obtain rfl : u = Value.ref a := ru
  obtain ⟨its, rv, p, hz⟩ := I.list hq
  have hl := rv.length
  rw [List.length_map] at hl
  have hlt : a < s.heap.objs.size := by obtain ⟨_, e, _⟩ := p.isList; exact Heap.lt_size e
  refine call_any_walk (wpAny_pyIter_list p.isList ?_)
  refine ⟨s.heap.objs.size, [s.heap.objs.size, a], [s.heap.objs.size], its.toArray.size, (fun i v => its.toArray[i]? = some v), (fun i h => h.IsListIter s.heap.objs.size a i ∧ h.IsList a its.toArray), (fun i => bs.getD i false), rfl, Walks.list (A := X.A.in1) (I.ok.hd hc) s.heap.objs.size a (Nat.ne_of_lt hlt) its.toArray, ⟨⟨_, Heap.get?_push_size _ rfl, rfl, rfl⟩, p.isList.push _⟩, truth_bl rv, fun h' tk hk => ?_⟩
  refine ⟨.bl (bs.any id), H, I.kept fun b o e => hk b o (fun z => ?_) (Heap.get?_push_of_some _ e), ?_, q⟩
  · have z' : b = s.heap.objs.size := by simpa using z
    exact absurd (Heap.lt_size e) (by rw [z']; exact Nat.lt_irrefl _)
  · have e : its.toArray.size = bs.length := by rw [List.size_toArray, hl]
    show Value.bool _ = Value.bool _
    rw [e, range_any]
/-! ### a sign among the small letters -/
abbrev abcS : Str := "abcdefghijklmnopqrstuvwxyz"
theorem abc_at : ∀ i, i < 26 → abcS.cps.extract i (i + 1) = #[97 + i] := by decide +kernel
theorem sign_in (c : Nat) : (!(Builtin.Str.occurrences abcS ⟨#[c]⟩ 0 abcS.length 1).isEmpty) = signB c := by
  rw [Bool.eq_iff_iff, StrLaws.found_iff]
  have hl : abcS.length = 26 := by decide +kernel
  unfold signB
  rw [Bool.and_eq_true, decide_eq_true_eq, decide_eq_true_eq, hl]
  constructor
  · rintro ⟨i, h1, h2⟩
    have h1 : i + 1 ≤ 26 := h1
    have h2 : (abcS.cps.extract i (i + 1) == #[c]) = true := h2
    rw [abc_at i (by omega)] at h2
    have := eq_of_beq h2
    injection this with this
    injection this with this
    omega
  · rintro ⟨h1, h2⟩
    refine ⟨c - 97, (by show c - 97 + 1 ≤ 26; omega), ?_⟩
    show (abcS.cps.extract (c - 97) (c - 97 + 1) == #[c]) = true
    rw [abc_at _ (by omega), show 97 + (c - 97) = c by omega]
    exact beq_self_eq_true _
theorem strLen (z : Str) : z.length = z.cps.toList.length := by rw [Array.length_toList]; rfl
theorem cutLen (w : Str) (l u : Option Int) : (cutS w l u).length ≤ w.length := by
  unfold cutS
  rw [List.length_take, List.length_drop, strLen]
  omega
theorem catLen (x y : Str) : (x ++ y).length = x.length + y.length := by
  show (x.cps ++ y.cps).size = x.cps.size + y.cps.size
  simp
/-- is a number of this kind there -/
def thereB (k : Str) (n : Int) : List (Str × Int) → Bool
  | [] => false
  | p :: r => if k = p.1 then decide (0 ≤ n) && decide (n < p.2) else thereB k n r
theorem there_drop {k : Str} {n : Int} : ∀ {rows : List (Str × Int)} {i : Nat}, (∀ p ∈ rows.take i, k ≠ p.1) → thereB k n rows = thereB k n (rows.drop i)
  | [], i, _ => by rw [List.drop_nil]
  | p :: r, 0, _ => rfl
  | p :: r, i + 1, h => by
    rw [List.drop_succ_cons, ← there_drop (rows := r) (i := i) fun q hq => h q (by rw [List.take_succ_cons]; exact List.mem_cons_of_mem _ hq)]
    show (if k = p.1 then _ else _) = _
    rw [if_neg (h p (by rw [List.take_succ_cons]; exact List.mem_cons_self))]
/-! ### nets of any pieces -/
structure Bd (n : Nat) (ss : List Sco) (gs : List (Str × Int)) (qs : List Qu) : Prop where
  s : ss.length ≤ n
  g : gs.length ≤ n
  q : qs.length ≤ n
  c : ∀ s ∈ ss, s.1.length ≤ n ∧ s.2.length ≤ n
  p : ∀ z ∈ qs, z.2.2.length ≤ 7
  w : ∀ x ∈ wordsN ss qs, x.length ≤ 1000
section
variable {n : Nat} {ss : List Sco} {gs : List (Str × Int)} {qs : List Qu}
theorem Bd.mono {m : Nat} (h : Bd n ss gs qs) (hm : n ≤ m) : Bd m ss gs qs := ⟨Nat.le_trans h.s hm, Nat.le_trans h.g hm, Nat.le_trans h.q hm, fun s hs => ⟨Nat.le_trans (h.c s hs).1 hm, Nat.le_trans (h.c s hs).2 hm⟩, h.p, h.w⟩
theorem Bd.scope (h : Bd n ss gs qs) : Bd (n + 1) (ss ++ [([], [])]) gs qs := by
  have h' := h.mono (Nat.le_succ n)
  refine ⟨by rw [List.length_append, List.length_singleton]; have := h.s; omega, h'.g, h'.q, fun s hs => ?_, h.p, fun x hx => ?_⟩
  · rcases List.mem_append.mp hs with z | z
    · exact h'.c s z
    · rw [List.mem_singleton.mp z]; exact ⟨Nat.zero_le _, Nat.zero_le _⟩
  · rcases words_mem.mp hx with ⟨s, hs, z⟩ | z
    · rcases List.mem_append.mp hs with y | y
      · exact h.w x (words_mem.mpr (.inl ⟨s, y, z⟩))
      · rw [List.mem_singleton.mp y] at z
        rcases z with ⟨p, hp, _⟩ | ⟨p, hp, _⟩ <;> simp at hp
    · exact h.w x (words_mem.mpr (.inr z))
theorem Bd.thing {p : Str × Int} (h : Bd n ss gs qs) : Bd (n + 1) ss (gs ++ [p]) qs := by
  have h' := h.mono (Nat.le_succ n)
  exact ⟨h'.s, by rw [List.length_append, List.length_singleton]; have := h.g; omega, h'.q, h'.c, h.p, h.w⟩
theorem Bd.quest {z : Qu} (h : Bd n ss gs qs) (z7 : z.2.2.length ≤ 7) (zw : ∀ x ∈ z.2.2, x.length ≤ 1000) : Bd (n + 1) ss gs (qs ++ [z]) := by
  have h' := h.mono (Nat.le_succ n)
  refine ⟨h'.s, h'.g, by rw [List.length_append, List.length_singleton]; have := h.q; omega, h'.c, fun y hy => ?_, fun x hx => ?_⟩
  · rcases List.mem_append.mp hy with a | a
    · exact h.p y a
    · rw [List.mem_singleton.mp a]; exact z7
  · rcases words_mem.mp hx with a | ⟨y, hy, a⟩
    · exact h.w x (words_mem.mpr (.inl a))
    · rcases List.mem_append.mp hy with b | b
      · exact h.w x (words_mem.mpr (.inr ⟨y, b, a⟩))
      · rw [List.mem_singleton.mp b] at a; exact zw x a
theorem Bd.step {i : Nat} {p : Stp} (h : Bd n ss gs qs) (hi : i < ss.length) (hp : p.1.length ≤ 1000) : Bd (n + 1) (ss.set i (ss[i].1 ++ [p], ss[i].2)) gs qs := by
  have h' := h.mono (Nat.le_succ n)
  have c0 := h.c _ (List.getElem_mem hi)
  refine ⟨by rw [List.length_set]; exact h'.s, h'.g, h'.q, fun s hs => ?_, h.p, fun x hx => ?_⟩
  · rcases List.mem_or_eq_of_mem_set hs with z | rfl
    · exact h'.c s z
    · exact ⟨by show (ss[i].1 ++ [p]).length ≤ _; rw [List.length_append, List.length_singleton]; omega, by show ss[i].2.length ≤ _; omega⟩
  · rcases words_set hx with z | ⟨r, hr, rfl⟩ | ⟨r, hr, z⟩
    · exact h.w x z
    · rcases List.mem_append.mp hr with y | y
      · exact h.w _ (words_mem.mpr (.inl ⟨_, List.getElem_mem hi, .inl ⟨r, y, rfl⟩⟩))
      · rw [List.mem_singleton.mp y]; exact hp
    · exact h.w _ (words_mem.mpr (.inl ⟨_, List.getElem_mem hi, .inr ⟨r, hr, z⟩⟩))
theorem Bd.tell {i : Nat} {p : Tlg} (h : Bd n ss gs qs) (hi : i < ss.length) (hp : p.1.length ≤ 1000) (hp2 : p.2.1.length ≤ 1000) : Bd (n + 1) (ss.set i (ss[i].1, ss[i].2 ++ [p])) gs qs := by
  have h' := h.mono (Nat.le_succ n)
  have c0 := h.c _ (List.getElem_mem hi)
  refine ⟨by rw [List.length_set]; exact h'.s, h'.g, h'.q, fun s hs => ?_, h.p, fun x hx => ?_⟩
  · rcases List.mem_or_eq_of_mem_set hs with z | rfl
    · exact h'.c s z
    · exact ⟨by show ss[i].1.length ≤ _; omega, by show (ss[i].2 ++ [p]).length ≤ _; rw [List.length_append, List.length_singleton]; omega⟩
  · rcases words_set hx with z | ⟨r, hr, rfl⟩ | ⟨r, hr, z⟩
    · exact h.w x z
    · exact h.w _ (words_mem.mpr (.inl ⟨_, List.getElem_mem hi, .inl ⟨r, hr, rfl⟩⟩))
    · rcases List.mem_append.mp hr with y | y
      · exact h.w _ (words_mem.mpr (.inl ⟨_, List.getElem_mem hi, .inr ⟨r, y, z⟩⟩))
      · rw [List.mem_singleton.mp y] at z
        rcases z with rfl | rfl
        · exact hp
        · exact hp2
variable {H : Hp} {pt S T R : Addr} {us Gs Es ts qt : List Addr}
/-- a scope more, behind the others -/
theorem NetS.snoc {u G E : Addr} {s : Sco} (h : NetS H pt S T R us Gs Es ts qt ss gs qs) (hs : ScH H u G E s) (nG : G ∉ S :: T :: R :: (Gs ++ Es)) (nE : E ∉ S :: T :: R :: (Gs ++ Es)) (nGE : G ≠ E) :
    NetS (upd H S (.lst (us.map V.ref ++ [.ref u]))) pt S T R (us ++ [u]) (Gs ++ [G]) (Es ++ [E]) ts qt (ss ++ [s]) gs qs := by
  have := h.ins hs nG nE nGE (Nat.le_refl ss.length)
  have lu := h.n3.sc.lu
  have lg := h.n3.sc.lg
  have le := h.n3.sc.le
  rw [List.take_of_length_le (show (us.map V.ref).length ≤ ss.length by rw [List.length_map]; omega), List.drop_of_length_le (show (us.map V.ref).length ≤ ss.length by rw [List.length_map]; omega), List.take_of_length_le (show us.length ≤ ss.length by omega), List.drop_of_length_le (show us.length ≤ ss.length by omega),
    List.take_of_length_le (show Gs.length ≤ ss.length by omega), List.drop_of_length_le (show Gs.length ≤ ss.length by omega), List.take_of_length_le (show Es.length ≤ ss.length by omega), List.drop_of_length_le (show Es.length ≤ ss.length by omega), List.take_of_length_le (show ss.length ≤ ss.length by omega), List.drop_of_length_le (show ss.length ≤ ss.length by omega)] at this
  exact this
end
end L2

namespace K17
open PySem PySem.Spec PyProof.Rows L2 Ord
def top (i : Nat) : Stmt := PySem.Challenge.pw_namepaths_k17_whole_nets_judged.main.body.getD i (.Pass ⟨0, 0, 0, 0⟩)
abbrev s__law_copy : Stmt := top 38
theorem sc__law_copy : FnScope ["_law_parts", "_law_scopes"] ["_law_parts"] (defScope s__law_copy) := ⟨rfl, rfl, rfl, by decide +kernel, rfl, by decide +kernel, by decide +kernel⟩
theorem _law_copy_cs1 : CompScope (defScope s__law_copy) ["_law_parts", "_law_scopes"] { kind := PySem.ScopeKind.function, names := [ (PySem.Str.ofString ".0", PySem.NameKind.local), (PySem.Str.ofString "_law_steps", PySem.NameKind.local), (PySem.Str.ofString "_law_tellings", PySem.NameKind.local), (PySem.Str.ofString "list", PySem.NameKind.globalImplicit)], isGenerator := false, isCoroutine := false, more := [] : PySem.Scope } ["_law_steps", "_law_tellings"] 2 [] := ⟨rfl, by decide +kernel, by decide +kernel, by decide +kernel, rfl, by decide +kernel, by decide +kernel⟩
abbrev s__law_great : Stmt := top 47
theorem sc__law_great : FnScope ["_law_parts", "_law_steps", "_law_tellings"] ["_law_parts"] (defScope s__law_great) := ⟨rfl, rfl, rfl, by decide +kernel, rfl, by decide +kernel, by decide +kernel⟩
theorem _law_great_cs1 : CompScope (defScope s__law_great) ["_law_parts", "_law_steps", "_law_tellings"] { kind := PySem.ScopeKind.function, names := [ (PySem.Str.ofString ".0", PySem.NameKind.local), (PySem.Str.ofString "_law_scope", PySem.NameKind.local), (PySem.Str.ofString "_law_state", PySem.NameKind.local), (PySem.Str.ofString "_law_path", PySem.NameKind.local), (PySem.Str.ofString "len", PySem.NameKind.globalImplicit)], isGenerator := false, isCoroutine := false, more := [] : PySem.Scope } ["_law_scope", "_law_state", "_law_path"] 3 [] := ⟨rfl, by decide +kernel, by decide +kernel, by decide +kernel, rfl, by decide +kernel, by decide +kernel⟩
abbrev s__law_words_of : Stmt := top 49
theorem sc__law_words_of : FnScope ["_law_parts", "_law_words_here", "_law_steps", "_law_tellings", "_law_scope", "_law_state", "_law_path"] ["_law_parts"] (defScope s__law_words_of) := ⟨rfl, rfl, rfl, by decide +kernel, rfl, by decide +kernel, by decide +kernel⟩
theorem _law_words_of_cs1 : CompScope (defScope s__law_words_of) ["_law_parts", "_law_words_here", "_law_steps", "_law_tellings", "_law_scope", "_law_state", "_law_path"] { kind := PySem.ScopeKind.function, names := [(PySem.Str.ofString ".0", PySem.NameKind.local), (PySem.Str.ofString "_law_step_here", PySem.NameKind.local)], isGenerator := false, isCoroutine := false, more := [] : PySem.Scope } ["_law_step_here"] 1 [] := ⟨rfl, by decide +kernel, by decide +kernel, by decide +kernel, rfl, by decide +kernel, by decide +kernel⟩
theorem _law_words_of_cs2 : CompScope (defScope s__law_words_of) ["_law_parts", "_law_words_here", "_law_steps", "_law_tellings", "_law_scope", "_law_state", "_law_path"] { kind := PySem.ScopeKind.function, names := [ (PySem.Str.ofString ".0", PySem.NameKind.local), (PySem.Str.ofString "_law_telling_here", PySem.NameKind.local)], isGenerator := false, isCoroutine := false, more := [] : PySem.Scope } ["_law_telling_here"] 1 [] := ⟨rfl, by decide +kernel, by decide +kernel, by decide +kernel, rfl, by decide +kernel, by decide +kernel⟩
theorem _law_words_of_cs3 : CompScope (defScope s__law_words_of) ["_law_parts", "_law_words_here", "_law_steps", "_law_tellings", "_law_scope", "_law_state", "_law_path"] { kind := PySem.ScopeKind.function, names := [ (PySem.Str.ofString ".0", PySem.NameKind.local), (PySem.Str.ofString "_law_telling_here", PySem.NameKind.local)], isGenerator := false, isCoroutine := false, more := [] : PySem.Scope } ["_law_telling_here"] 1 [] := ⟨rfl, by decide +kernel, by decide +kernel, by decide +kernel, rfl, by decide +kernel, by decide +kernel⟩
abbrev s__law_is_word : Stmt := top 48
theorem sc__law_is_word : FnScope ["_law_word_here"] ["_law_word_here"] (defScope s__law_is_word) := ⟨rfl, rfl, rfl, by decide +kernel, rfl, by decide +kernel, by decide +kernel⟩
theorem _law_is_word_cs1 : CompScope (defScope s__law_is_word) ["_law_word_here"] { kind := PySem.ScopeKind.function, names := [(PySem.Str.ofString ".0", PySem.NameKind.local), (PySem.Str.ofString "_law_sign", PySem.NameKind.local)], isGenerator := false, isCoroutine := false, more := [] : PySem.Scope } ["_law_sign"] 1 [] := ⟨rfl, by decide +kernel, by decide +kernel, by decide +kernel, rfl, by decide +kernel, by decide +kernel⟩
abbrev s__law_there : Stmt := top 50
theorem sc__law_there : FnScope ["_law_kind_here", "_law_number_here", "_law_rows", "_law_word_here", "_law_many"] ["_law_kind_here", "_law_number_here", "_law_rows"] (defScope s__law_there) := ⟨rfl, rfl, rfl, by decide +kernel, rfl, by decide +kernel, by decide +kernel⟩
abbrev s__law_placed : Stmt := top 51
theorem sc__law_placed : FnScope ["_law_parts", "_law_many", "_law_steps", "_law_tellings", "_law_label", "_law_kind_here", "_law_number_here", "_law_name", "_law_scope", "_law_state", "_law_path"] ["_law_parts"] (defScope s__law_placed) := ⟨rfl, rfl, rfl, by decide +kernel, rfl, by decide +kernel, by decide +kernel⟩
abbrev s__law_due : Stmt := top 52
theorem sc__law_due : FnScope ["_law_parts", "_law_word_here"] ["_law_parts"] (defScope s__law_due) := ⟨rfl, rfl, rfl, by decide +kernel, rfl, by decide +kernel, by decide +kernel⟩
abbrev s__law_refused_as : Stmt := top 36
theorem sc__law_refused_as : FnScope ["_law_kinds", "_law_due_here"] ["_law_kinds", "_law_due_here"] (defScope s__law_refused_as) := ⟨rfl, rfl, rfl, by decide +kernel, rfl, by decide +kernel, by decide +kernel⟩
theorem _law_refused_as_cs1 : CompScope (defScope s__law_refused_as) ["_law_kinds", "_law_due_here"] { kind := PySem.ScopeKind.function, names := [ (PySem.Str.ofString ".0", PySem.NameKind.local), (PySem.Str.ofString "_law_k", PySem.NameKind.local), (PySem.Str.ofString "_law_due_here", PySem.NameKind.free)], isGenerator := false, isCoroutine := false, more := [] : PySem.Scope } ["_law_k", "_law_due_here"] 1 [1] := ⟨rfl, by decide +kernel, by decide +kernel, by decide +kernel, rfl, by decide +kernel, by decide +kernel⟩
abbrev s_refuse_more : Stmt := top 27
theorem sc_refuse_more : FnScope ["parts", "most", "words"] ["parts", "most", "words"] (defScope s_refuse_more) := ⟨rfl, rfl, rfl, by decide +kernel, rfl, by decide +kernel, by decide +kernel⟩
abbrev s_refuse_too_great : Stmt := top 26
theorem sc_refuse_too_great : FnScope ["scopes", "things", "questions", "steps", "tellings", "scope", "state", "path"] ["scopes", "things", "questions"] (defScope s_refuse_too_great) := ⟨rfl, rfl, rfl, by decide +kernel, rfl, by decide +kernel, by decide +kernel⟩
abbrev s_words_told : Stmt := top 29
theorem sc_words_told : FnScope ["scopes", "questions", "words", "steps", "tellings", "label", "kind", "number", "name", "scope", "state", "path"] ["scopes", "questions"] (defScope s_words_told) := ⟨rfl, rfl, rfl, by decide +kernel, rfl, by decide +kernel, by decide +kernel⟩
abbrev s_is_name : Stmt := top 16
theorem sc_is_name : FnScope ["thing"] ["thing"] (defScope s_is_name) := ⟨rfl, rfl, rfl, by decide +kernel, rfl, by decide +kernel, by decide +kernel⟩
theorem is_name_cs1 : CompScope (defScope s_is_name) ["thing"] { kind := PySem.ScopeKind.function, names := [(PySem.Str.ofString ".0", PySem.NameKind.local), (PySem.Str.ofString "sign", PySem.NameKind.local)], isGenerator := false, isCoroutine := false, more := [] : PySem.Scope } ["sign"] 1 [] := ⟨rfl, by decide +kernel, by decide +kernel, by decide +kernel, rfl, by decide +kernel, by decide +kernel⟩
abbrev s_refuse_no_names : Stmt := top 28
theorem sc_refuse_no_names : FnScope ["scopes", "questions", "word", "scope", "state", "path"] ["scopes", "questions"] (defScope s_refuse_no_names) := ⟨rfl, rfl, rfl, by decide +kernel, rfl, by decide +kernel, by decide +kernel⟩
abbrev s_is_whole : Stmt := top 15
theorem sc_is_whole : FnScope ["thing"] ["thing"] (defScope s_is_whole) := ⟨rfl, rfl, rfl, by decide +kernel, rfl, by decide +kernel, by decide +kernel⟩
abbrev s_is_place : Stmt := top 17
theorem sc_is_place : FnScope ["number", "many"] ["number", "many"] (defScope s_is_place) := ⟨rfl, rfl, rfl, by decide +kernel, rfl, by decide +kernel, by decide +kernel⟩
abbrev s_refuse_no_place : Stmt := top 31
theorem sc_refuse_no_place : FnScope ["kinds", "kind", "number"] ["kinds", "kind", "number"] (defScope s_refuse_no_place) := ⟨rfl, rfl, rfl, by decide +kernel, rfl, by decide +kernel, by decide +kernel⟩
abbrev s_refuse_no_places : Stmt := top 30
theorem sc_refuse_no_places : FnScope ["scopes", "things", "questions", "step_kinds", "telling_kinds", "thing_kinds", "steps", "tellings", "label", "kind", "number", "name", "scope", "state", "path"] ["scopes", "things", "questions"] (defScope s_refuse_no_places) := ⟨rfl, rfl, rfl, by decide +kernel, rfl, by decide +kernel, by decide +kernel⟩
abbrev s_net_of : Stmt := top 25
theorem sc_net_of : FnScope ["scopes", "things", "questions"] ["scopes", "things", "questions"] (defScope s_net_of) := ⟨rfl, rfl, rfl, by decide +kernel, rfl, by decide +kernel, by decide +kernel⟩
theorem net_of_cs1 : CompScope (defScope s_net_of) ["scopes", "things", "questions"] { kind := PySem.ScopeKind.function, names := [ (PySem.Str.ofString ".0", PySem.NameKind.local), (PySem.Str.ofString "steps", PySem.NameKind.local), (PySem.Str.ofString "tellings", PySem.NameKind.local), (PySem.Str.ofString "list", PySem.NameKind.globalImplicit)], isGenerator := false, isCoroutine := false, more := [] : PySem.Scope } ["steps", "tellings"] 2 [] := ⟨rfl, by decide +kernel, by decide +kernel, by decide +kernel, rfl, by decide +kernel, by decide +kernel⟩
abbrev s__law_kinds_of : Stmt := top 35
theorem sc__law_kinds_of : FnScope ["_law_scopes", "_law_things", "_law_questions", "_law_kinds", "e"] ["_law_scopes", "_law_things", "_law_questions"] (defScope s__law_kinds_of) := ⟨rfl, rfl, rfl, by decide +kernel, rfl, by decide +kernel, by decide +kernel⟩
abbrev s__law_is_net : Stmt := top 37
theorem sc__law_is_net : FnScope ["_law_net", "_law_parts", "_law_some", "_law_scope", "_law_row"] ["_law_net", "_law_parts"] (defScope s__law_is_net) := ⟨rfl, rfl, rfl, by decide +kernel, rfl, by decide +kernel, by decide +kernel⟩
abbrev s__law_judged : Stmt := top 53
theorem sc__law_judged : FnScope ["_law_parts", "_law_kept", "_law_due_here"] ["_law_parts"] (defScope s__law_judged) := ⟨rfl, rfl, rfl, by decide +kernel, rfl, by decide +kernel, by decide +kernel⟩
abbrev s__law_words : Stmt := top 34
theorem sc__law_words : FnScope ["_law_cell", "_law_many", "_law_letters", "_law_size", "_law_at", "_law_words_here", "_law_k", "_law_word_here", "_law_j", "_law_number_here"] ["_law_cell", "_law_many"] (defScope s__law_words) := ⟨rfl, rfl, rfl, by decide +kernel, rfl, by decide +kernel, by decide +kernel⟩
abbrev s__law_cell_at : Stmt := top 33
theorem sc__law_cell_at : FnScope ["_law_script", "_law_k"] ["_law_script", "_law_k"] (defScope s__law_cell_at) := ⟨rfl, rfl, rfl, by decide +kernel, rfl, by decide +kernel, by decide +kernel⟩
abbrev s__law_kind : Stmt := top 41
theorem sc__law_kind : FnScope ["_law_number_here", "_law_one", "_law_other", "_law_bad"] ["_law_number_here", "_law_one", "_law_other", "_law_bad"] (defScope s__law_kind) := ⟨rfl, rfl, rfl, by decide +kernel, rfl, by decide +kernel, by decide +kernel⟩
abbrev s__law_number : Stmt := top 39
theorem sc__law_number : FnScope ["_law_number_here", "_law_many", "_law_bad"] ["_law_number_here", "_law_many", "_law_bad"] (defScope s__law_number) := ⟨rfl, rfl, rfl, by decide +kernel, rfl, by decide +kernel, by decide +kernel⟩
abbrev s__law_thing : Stmt := top 43
theorem sc__law_thing : FnScope ["_law_number_here", "_law_parts", "_law_bad"] ["_law_number_here", "_law_parts", "_law_bad"] (defScope s__law_thing) := ⟨rfl, rfl, rfl, by decide +kernel, rfl, by decide +kernel, by decide +kernel⟩
abbrev s__law_word : Stmt := top 40
theorem sc__law_word : FnScope ["_law_number_here", "_law_words_here", "_law_bad", "_law_word_here"] ["_law_number_here", "_law_words_here", "_law_bad"] (defScope s__law_word) := ⟨rfl, rfl, rfl, by decide +kernel, rfl, by decide +kernel, by decide +kernel⟩
abbrev s__law_question : Stmt := top 42
theorem sc__law_question : FnScope ["_law_number_here", "_law_words_here", "_law_parts", "_law_bad", "_law_path", "_law_many", "_law_k", "_law_state"] ["_law_number_here", "_law_words_here", "_law_parts", "_law_bad"] (defScope s__law_question) := ⟨rfl, rfl, rfl, by decide +kernel, rfl, by decide +kernel, by decide +kernel⟩
abbrev s__law_step : Stmt := top 44
theorem sc__law_step : FnScope ["_law_number_here", "_law_words_here", "_law_parts", "_law_bad", "_law_label", "_law_kind_here", "_law_many"] ["_law_number_here", "_law_words_here", "_law_parts", "_law_bad"] (defScope s__law_step) := ⟨rfl, rfl, rfl, by decide +kernel, rfl, by decide +kernel, by decide +kernel⟩
abbrev s__law_telling : Stmt := top 45
theorem sc__law_telling : FnScope ["_law_number_here", "_law_words_here", "_law_parts", "_law_bad", "_law_label", "_law_name", "_law_kind_here", "_law_many"] ["_law_number_here", "_law_words_here", "_law_parts", "_law_bad"] (defScope s__law_telling) := ⟨rfl, rfl, rfl, by decide +kernel, rfl, by decide +kernel, by decide +kernel⟩
abbrev s__law_lay : Stmt := top 46
theorem sc__law_lay : FnScope ["_law_parts", "_law_words_here", "_law_cell", "_law_number_here", "_law_bad", "_law_way", "_law_steps", "_law_tellings"] ["_law_parts", "_law_words_here", "_law_cell"] (defScope s__law_lay) := ⟨rfl, rfl, rfl, by decide +kernel, rfl, by decide +kernel, by decide +kernel⟩
abbrev s__law_laid : Stmt := top 54
theorem sc__law_laid : FnScope ["_law_script", "_law_last", "_law_words_here", "_law_parts", "_law_k", "_law_cell"] ["_law_script", "_law_last"] (defScope s__law_laid) := ⟨rfl, rfl, rfl, by decide +kernel, rfl, by decide +kernel, by decide +kernel⟩
theorem _law_laid_cs1 : CompScope (defScope s__law_laid) ["_law_script", "_law_last", "_law_words_here", "_law_parts", "_law_k", "_law_cell"] { kind := PySem.ScopeKind.function, names := [(PySem.Str.ofString ".0", PySem.NameKind.local), (PySem.Str.ofString "_law_k", PySem.NameKind.local)], isGenerator := false, isCoroutine := false, more := [] : PySem.Scope } ["_law_k"] 1 [] := ⟨rfl, by decide +kernel, by decide +kernel, by decide +kernel, rfl, by decide +kernel, by decide +kernel⟩
abbrev s_law : Stmt := top 55
theorem sc_law : FnScope ["_law_script"] ["_law_script"] (defScope s_law) := ⟨rfl, rfl, rfl, by decide +kernel, rfl, by decide +kernel, by decide +kernel⟩
structure Blt (mg : Str → Option Value) : Prop where
  b_ValueError : mg "ValueError" = none
  b_all : mg "all" = none
  b_any : mg "any" = none
  b_bool : mg "bool" = none
  b_int : mg "int" = none
  b_isinstance : mg "isinstance" = none
  b_len : mg "len" = none
  b_list : mg "list" = none
  b_max : mg "max" = none
  b_range : mg "range" = none
  b_str : mg "str" = none
  b_tuple : mg "tuple" = none
  c_LONGEST_NAME : ∃ t, mg "LONGEST_NAME" = some (.int 8 t)
  c_LONGEST_PATH : ∃ t, mg "LONGEST_PATH" = some (.int 6 t)
  c_MOST_QUESTIONS : ∃ t, mg "MOST_QUESTIONS" = some (.int 60 t)
  c_MOST_SCOPES : ∃ t, mg "MOST_SCOPES" = some (.int 40 t)
  c_MOST_STEPS : ∃ t, mg "MOST_STEPS" = some (.int 8 t)
  c_MOST_TELLINGS : ∃ t, mg "MOST_TELLINGS" = some (.int 12 t)
  c_MOST_THINGS : ∃ t, mg "MOST_THINGS" = some (.int 80 t)
structure Ers (K : PySem.W.Frag) (mg : Str → Option Value) : Prop where
  e_Caught : mg "Caught" = some (.ref (clsA K "Caught"))
  e_NoName : mg "NoName" = some (.ref (clsA K "NoName"))
  e_NoPlace : mg "NoPlace" = some (.ref (clsA K "NoPlace"))
  e_NoRow : mg "NoRow" = some (.ref (clsA K "NoRow"))
  e_NoText : mg "NoText" = some (.ref (clsA K "NoText"))
  e_PathError : mg "PathError" = some (.ref (clsA K "PathError"))
  e_Ring : mg "Ring" = some (.ref (clsA K "Ring"))
  e_Tangled : mg "Tangled" = some (.ref (clsA K "Tangled"))
  e_TooGreat : mg "TooGreat" = some (.ref (clsA K "TooGreat"))
  e_Twice : mg "Twice" = some (.ref (clsA K "Twice"))
  k_NoName : Exk K mg "NoName" (clsA K "NoName")
  k_NoPlace : Exk K mg "NoPlace" (clsA K "NoPlace")
  k_PathError : Exk K mg "PathError" (clsA K "PathError")
  k_TooGreat : Exk K mg "TooGreat" (clsA K "TooGreat")
  d_NoName : ExcCls K (clsA K "NoName")
  v_NoName : AskC K (clsA K "NoName") (.type "ValueError") true
  s_NoName_PathError : L2.subIn K (clsA K "NoName") (clsA K "PathError") = true
  a_NoName_Caught : AskC K (clsA K "NoName") (.ref (clsA K "Caught")) false
  a_NoName_NoName : AskC K (clsA K "NoName") (.ref (clsA K "NoName")) true
  a_NoName_NoPlace : AskC K (clsA K "NoName") (.ref (clsA K "NoPlace")) false
  a_NoName_NoRow : AskC K (clsA K "NoName") (.ref (clsA K "NoRow")) false
  a_NoName_NoText : AskC K (clsA K "NoName") (.ref (clsA K "NoText")) false
  a_NoName_Ring : AskC K (clsA K "NoName") (.ref (clsA K "Ring")) false
  a_NoName_Tangled : AskC K (clsA K "NoName") (.ref (clsA K "Tangled")) false
  a_NoName_TooGreat : AskC K (clsA K "NoName") (.ref (clsA K "TooGreat")) false
  a_NoName_Twice : AskC K (clsA K "NoName") (.ref (clsA K "Twice")) false
  n_NoName_Caught : (Value.ref (clsA K "NoName") == Value.ref (clsA K "Caught")) = false
  n_NoName_NoPlace : (Value.ref (clsA K "NoName") == Value.ref (clsA K "NoPlace")) = false
  n_NoName_NoRow : (Value.ref (clsA K "NoName") == Value.ref (clsA K "NoRow")) = false
  n_NoName_NoText : (Value.ref (clsA K "NoName") == Value.ref (clsA K "NoText")) = false
  n_NoName_Ring : (Value.ref (clsA K "NoName") == Value.ref (clsA K "Ring")) = false
  n_NoName_Tangled : (Value.ref (clsA K "NoName") == Value.ref (clsA K "Tangled")) = false
  n_NoName_TooGreat : (Value.ref (clsA K "NoName") == Value.ref (clsA K "TooGreat")) = false
  n_NoName_Twice : (Value.ref (clsA K "NoName") == Value.ref (clsA K "Twice")) = false
  d_NoPlace : ExcCls K (clsA K "NoPlace")
  v_NoPlace : AskC K (clsA K "NoPlace") (.type "ValueError") true
  s_NoPlace_PathError : L2.subIn K (clsA K "NoPlace") (clsA K "PathError") = true
  a_NoPlace_Caught : AskC K (clsA K "NoPlace") (.ref (clsA K "Caught")) false
  a_NoPlace_NoName : AskC K (clsA K "NoPlace") (.ref (clsA K "NoName")) false
  a_NoPlace_NoPlace : AskC K (clsA K "NoPlace") (.ref (clsA K "NoPlace")) true
  a_NoPlace_NoRow : AskC K (clsA K "NoPlace") (.ref (clsA K "NoRow")) false
  a_NoPlace_NoText : AskC K (clsA K "NoPlace") (.ref (clsA K "NoText")) false
  a_NoPlace_Ring : AskC K (clsA K "NoPlace") (.ref (clsA K "Ring")) false
  a_NoPlace_Tangled : AskC K (clsA K "NoPlace") (.ref (clsA K "Tangled")) false
  a_NoPlace_TooGreat : AskC K (clsA K "NoPlace") (.ref (clsA K "TooGreat")) false
  a_NoPlace_Twice : AskC K (clsA K "NoPlace") (.ref (clsA K "Twice")) false
  n_NoPlace_Caught : (Value.ref (clsA K "NoPlace") == Value.ref (clsA K "Caught")) = false
  n_NoPlace_NoName : (Value.ref (clsA K "NoPlace") == Value.ref (clsA K "NoName")) = false
  n_NoPlace_NoRow : (Value.ref (clsA K "NoPlace") == Value.ref (clsA K "NoRow")) = false
  n_NoPlace_NoText : (Value.ref (clsA K "NoPlace") == Value.ref (clsA K "NoText")) = false
  n_NoPlace_Ring : (Value.ref (clsA K "NoPlace") == Value.ref (clsA K "Ring")) = false
  n_NoPlace_Tangled : (Value.ref (clsA K "NoPlace") == Value.ref (clsA K "Tangled")) = false
  n_NoPlace_TooGreat : (Value.ref (clsA K "NoPlace") == Value.ref (clsA K "TooGreat")) = false
  n_NoPlace_Twice : (Value.ref (clsA K "NoPlace") == Value.ref (clsA K "Twice")) = false
  d_TooGreat : ExcCls K (clsA K "TooGreat")
  v_TooGreat : AskC K (clsA K "TooGreat") (.type "ValueError") true
  s_TooGreat_PathError : L2.subIn K (clsA K "TooGreat") (clsA K "PathError") = true
  a_TooGreat_Caught : AskC K (clsA K "TooGreat") (.ref (clsA K "Caught")) false
  a_TooGreat_NoName : AskC K (clsA K "TooGreat") (.ref (clsA K "NoName")) false
  a_TooGreat_NoPlace : AskC K (clsA K "TooGreat") (.ref (clsA K "NoPlace")) false
  a_TooGreat_NoRow : AskC K (clsA K "TooGreat") (.ref (clsA K "NoRow")) false
  a_TooGreat_NoText : AskC K (clsA K "TooGreat") (.ref (clsA K "NoText")) false
  a_TooGreat_Ring : AskC K (clsA K "TooGreat") (.ref (clsA K "Ring")) false
  a_TooGreat_Tangled : AskC K (clsA K "TooGreat") (.ref (clsA K "Tangled")) false
  a_TooGreat_TooGreat : AskC K (clsA K "TooGreat") (.ref (clsA K "TooGreat")) true
  a_TooGreat_Twice : AskC K (clsA K "TooGreat") (.ref (clsA K "Twice")) false
  n_TooGreat_Caught : (Value.ref (clsA K "TooGreat") == Value.ref (clsA K "Caught")) = false
  n_TooGreat_NoName : (Value.ref (clsA K "TooGreat") == Value.ref (clsA K "NoName")) = false
  n_TooGreat_NoPlace : (Value.ref (clsA K "TooGreat") == Value.ref (clsA K "NoPlace")) = false
  n_TooGreat_NoRow : (Value.ref (clsA K "TooGreat") == Value.ref (clsA K "NoRow")) = false
  n_TooGreat_NoText : (Value.ref (clsA K "TooGreat") == Value.ref (clsA K "NoText")) = false
  n_TooGreat_Ring : (Value.ref (clsA K "TooGreat") == Value.ref (clsA K "Ring")) = false
  n_TooGreat_Tangled : (Value.ref (clsA K "TooGreat") == Value.ref (clsA K "Tangled")) = false
  n_TooGreat_Twice : (Value.ref (clsA K "TooGreat") == Value.ref (clsA K "Twice")) = false
theorem len_1 {us : List Value} (h : us.length = 1) : ∃ x0, us = [x0] := by
  cases us with
  | nil => cases h
  | cons x0 t => exact ⟨x0, by rw [List.length_eq_zero_iff.mp (Nat.succ.inj h)]⟩
theorem len_2 {us : List Value} (h : us.length = 2) : ∃ x0 x1, us = [x0, x1] := by
  cases us with
  | nil => cases h
  | cons x0 t =>
    obtain ⟨x1, rfl⟩ := len_1 (Nat.succ.inj h)
    exact ⟨x0, x1, rfl⟩
theorem len_3 {us : List Value} (h : us.length = 3) : ∃ x0 x1 x2, us = [x0, x1, x2] := by
  cases us with
  | nil => cases h
  | cons x0 t =>
    obtain ⟨x1, x2, rfl⟩ := len_2 (Nat.succ.inj h)
    exact ⟨x0, x1, x2, rfl⟩
theorem len_4 {us : List Value} (h : us.length = 4) : ∃ x0 x1 x2 x3, us = [x0, x1, x2, x3] := by
  cases us with
  | nil => cases h
  | cons x0 t =>
    obtain ⟨x1, x2, x3, rfl⟩ := len_3 (Nat.succ.inj h)
    exact ⟨x0, x1, x2, x3, rfl⟩
theorem len_5 {us : List Value} (h : us.length = 5) : ∃ x0 x1 x2 x3 x4, us = [x0, x1, x2, x3, x4] := by
  cases us with
  | nil => cases h
  | cons x0 t =>
    obtain ⟨x1, x2, x3, x4, rfl⟩ := len_4 (Nat.succ.inj h)
    exact ⟨x0, x1, x2, x3, x4, rfl⟩
theorem len_6 {us : List Value} (h : us.length = 6) : ∃ x0 x1 x2 x3 x4 x5, us = [x0, x1, x2, x3, x4, x5] := by
  cases us with
  | nil => cases h
  | cons x0 t =>
    obtain ⟨x1, x2, x3, x4, x5, rfl⟩ := len_5 (Nat.succ.inj h)
    exact ⟨x0, x1, x2, x3, x4, x5, rfl⟩
theorem len_7 {us : List Value} (h : us.length = 7) : ∃ x0 x1 x2 x3 x4 x5 x6, us = [x0, x1, x2, x3, x4, x5, x6] := by
  cases us with
  | nil => cases h
  | cons x0 t =>
    obtain ⟨x1, x2, x3, x4, x5, x6, rfl⟩ := len_6 (Nat.succ.inj h)
    exact ⟨x0, x1, x2, x3, x4, x5, x6, rfl⟩
theorem len_8 {us : List Value} (h : us.length = 8) : ∃ x0 x1 x2 x3 x4 x5 x6 x7, us = [x0, x1, x2, x3, x4, x5, x6, x7] := by
  cases us with
  | nil => cases h
  | cons x0 t =>
    obtain ⟨x1, x2, x3, x4, x5, x6, x7, rfl⟩ := len_7 (Nat.succ.inj h)
    exact ⟨x0, x1, x2, x3, x4, x5, x6, x7, rfl⟩
section
variable {P : Program} {w : World} {K : PySem.W.Frag} {mg : Str → Option Value} {base : Heap}

def sp__law_copy (K : PySem.W.Frag) : Sp := fun vs H Q _ => ∃ (pt S T R : Addr) (us Gs Es ts qt : List Addr) (ss : List Sco) (gs : List (Str × Int)) (qs : List Qu), vs = [.ref pt] ∧ H pt = some (.tup [.ref S, .ref T, .ref R]) ∧ Net3 H S T R us Gs Es ts qt ss gs qs ∧ ss.length ≤ 1000 ∧
  ∀ (nt S2 T2 R2 : Addr) (u2 G2 E2 : List Addr) (H' : Hp), Same H H' → H' nt = some (.tup [.ref S2, .ref T2, .ref R2]) → Net3 H' S2 T2 R2 u2 G2 E2 ts qt ss gs qs → (S2 :: (G2 ++ E2)).Nodup → H S2 = none → H T2 = none → H R2 = none → (∀ x ∈ G2 ++ E2, H x = none) → T2 ≠ R2 → S2 ≠ T2 → S2 ≠ R2 → (∀ x ∈ G2 ++ E2, x ≠ S2 ∧ x ≠ T2 ∧ x ≠ R2) → Q (.ref nt) H'
set_option maxHeartbeats 4000000 in
seal L2.PE L2.PA L2.PS L2.PSs L2.PT L2.PW L2.PC L2.PG L2.PGs L2.PI L2.PF L2.PSet L2.OpR L2.UnR L2.CallR L2.MtR L2.IxR L2.SlR L2.PO in
theorem ok__law_copy {f : Addr} {fd : FuncData} (B : Blt mg) (ER : Ers K mg)  (F : Fun K "_law_copy" "_law_copy" s__law_copy f fd) : FnOk P w K mg base CX0 1 f fd ["_law_parts"] (sp__law_copy K) := by
  refine F.ok sc__law_copy (fun vs H Q E h => ?_) (fun cdv A outer s H vs Q E hr h => ?_)
  · obtain ⟨pt, S, T, R, us, Gs, Es, ts, qt, ss, gs, qs, rfl, _⟩ := h
    rfl
  · obtain ⟨pt, S, T, R, us, Gs, Es, ts, qt, ss, gs, qs, rfl, ept, hN, l1, q⟩ := h
    refine ⟨_, (pss_cons (ps_setC (i := 1) sc__law_copy.nd rfl (Or.inl rfl) (g := gTup K 2 (gCons (gName 0) (gCons (gName 1) gNil))) (te := tTup (tCons (tCB (rListOf K) (tCons (tVar 0) tNil)) (tCons (tCB (rListOf K) (tCons (tVar 1) tNil)) tNil))) rfl _law_copy_cs1 (pi_list (pe_ix ix_seq (pv 0) pe_int (fun _ _ => rfl))) (fun _ _ _ _ _ => (pg_tup rfl (pgs_cons (pg_name (i := 0) _law_copy_cs1.nd rfl (Or.inl rfl)) (pgs_cons (pg_name (i := 1) _law_copy_cs1.nd rfl (Or.inl rfl)) pgs_nil)))) (fun _ _ _ _ _ => pf_nil) (fun _ _ _ _ _ => (pe_tup (pa_cons (pe_callTy call_list_of (by rfl) B.b_list (by decide +kernel) (pa_cons (pv 0) pa_nil)) (pa_cons (pe_callTy call_list_of (by rfl) B.b_list (by decide +kernel) (pa_cons (pv 1) pa_nil)) pa_nil)))))
      (pss_one (ps_ret (pe_tup (pa_cons (pv 1) (pa_cons (pe_callTy call_list_of (by rfl) B.b_list (by decide +kernel) (pa_cons (pe_ix ix_seq (pv 0) pe_int (fun _ _ => rfl)) pa_nil)) (pa_cons (pe_callTy call_list_of (by rfl) B.b_list (by decide +kernel) (pa_cons (pe_ix ix_seq (pv 0) pe_int (fun _ _ => rfl)) pa_nil)) pa_nil))))))), ?_⟩
    refine ⟨_, rfl, Or.inr (Or.inl ⟨pt, _, _, .ref S, rfl, rfl, SqT.of ept, rfl, S, rfl, ⟨_, SqL.of hN.sc.top⟩, comp_listI (xs := us.map V.ref) (fun D i ys H' => ∃ u2 G2 E2 : List Addr, ys = u2.map V.ref ∧ Same H H' ∧ Scs H' D u2 G2 E2 (ss.take i) ∧ (D :: (G2 ++ E2)).Nodup ∧ ∀ x ∈ G2 ++ E2, H x = none)
      (fun D hD => ⟨[], [], [], rfl, same_new hD, by rw [List.take_zero]; exact Scs.nil upd_same, by simp, fun x hx => by simp at hx⟩) (fun D i ys H' ⟨_, _, _, _, s9, _⟩ => SqL.of (s9 _ _ hN.sc.top)) (fun D i x ys H9 RR hD hx hv k => ?_) (fun D2 ys H9 hD2 hv => ?_)⟩)⟩
    · obtain ⟨u2, G2, E2, rfl, s9, SC9, nd, hfr⟩ := hv
      rw [List.getElem?_map] at hx
      obtain ⟨u, hu, rfl⟩ := Option.map_eq_some_iff.mp hx
      have hil : i < ss.length := by rw [← hN.sc.lu]; exact (List.getElem?_eq_some_iff.mp hu).1
      obtain ⟨u', G, E1, g1, g2, g3, g4, g5⟩ := (hN.sc.same s9).get hil
      rw [hu] at g1; cases g1
      obtain ⟨a1, ⟨tG, b1, b2⟩, ⟨tE, c1, c2⟩⟩ := g5
      have etk : ss.take (i + 1) = ss.take i ++ [ss[i]] := by rw [List.take_succ, g4]; rfl
      have lu2 := SC9.lu
      rw [List.length_take] at lu2
      refine ⟨u, _, rfl, SqT.of a1, rfl, _, _, rfl, _, _, rfl, rfl, ?_⟩
      refine ⟨_, rfl, G, _, rfl, Or.inl (SqL.of b1), fun G3 hG3 => ?_⟩
      have t1 := same_new (o := .lst (tG.map V.ref)) hG3
      have eG3 : (upd H9 G3 (.lst (tG.map V.ref))) G3 = some (.lst (tG.map V.ref)) := upd_same
      generalize upd H9 G3 (.lst (tG.map V.ref)) = H10 at t1 eG3 ⊢
      refine ⟨_, rfl, E1, _, rfl, Or.inl (SqL.of (t1 _ _ c1)), fun E3 hE3 => ?_⟩
      have t2 := same_new (o := .lst (tE.map V.ref)) hE3
      have eE3 : (upd H10 E3 (.lst (tE.map V.ref))) E3 = some (.lst (tE.map V.ref)) := upd_same
      generalize upd H10 E3 (.lst (tE.map V.ref)) = H11 at t2 eE3 ⊢
      refine ⟨two_le, fun u3 hu3 => ?_⟩
      have t3 := same_new (o := .tup [.ref G3, .ref E3]) hu3
      have eu3 : (upd H11 u3 (.tup [.ref G3, .ref E3])) u3 = some (.tup [.ref G3, .ref E3]) := upd_same
      generalize upd H11 u3 (.tup [.ref G3, .ref E3]) = H12 at t3 eu3 ⊢
      have t13 := (t1.trans t2).trans t3
      have t23 := t2.trans t3
      have SC12 := SC9.same t13
      have al := SC9.alive
      have nG : G3 ∉ D :: (G2 ++ E2) := fun y => by
        rcases List.mem_cons.mp y with y | y
        · rw [y, SC9.top] at hG3; cases hG3
        · obtain ⟨xs, e⟩ := al _ y
          rw [e] at hG3; cases hG3
      have nE : E3 ∉ D :: (G2 ++ E2) := fun y => by
        rcases List.mem_cons.mp y with y | y
        · rw [y, t1 _ _ SC9.top] at hE3; cases hE3
        · obtain ⟨xs, e⟩ := al _ y
          rw [t1 _ _ e] at hE3; cases hE3
      have nGE : G3 ≠ E3 := fun y => by rw [← y, eG3] at hE3; cases hE3
      have hs12 : ScH H12 u3 G3 E3 ss[i] := ⟨eu3, ⟨tG, t23 _ _ eG3, b2.same t13⟩, ⟨tE, t3 _ _ eE3, c2.same t13⟩⟩
      refine k _ _ SC12.top (by rw [List.length_map, lu2]; exact small1000 (by omega)) ⟨u2 ++ [u3], G2 ++ [G3], E2 ++ [E3], by rw [List.map_append]; rfl, fun b o e => ?_, ?_, nd_snoc2 nd nG nE nGE, fun x hx => ?_⟩
      · rw [upd_ne (ne_of_none e hD)]; exact t13 _ _ (s9 _ _ e)
      · rw [etk]; exact SC12.snoc hs12 (fun z => nG (z ▸ List.mem_cons_self)) (fun z => nE (z ▸ List.mem_cons_self)) (fun x hx z => (List.nodup_cons.mp nd).1 (z ▸ hx))
      · simp only [List.mem_append, List.mem_singleton] at hx
        rcases hx with (h | h) | (h | h)
        · exact hfr x (List.mem_append_left _ h)
        · rw [h]; exact s9.free hG3
        · exact hfr x (List.mem_append_right _ h)
        · rw [h]; exact (s9.trans t1).free hE3
    obtain ⟨u2, G2, E2, rfl, s9, SC9, nd, hfr⟩ := hv
    rw [show (us.map V.ref).length = ss.length by rw [List.length_map, hN.sc.lu], List.take_length] at SC9
    refine ⟨_, rfl, _, rfl, Or.inr (Or.inl ⟨pt, _, _, .ref T, rfl, rfl, SqT.of (s9 _ _ ept), rfl, T, _, rfl, Or.inl (SqL.of (s9 _ _ hN.et)), fun T2 hT2 => ?_⟩)⟩
    have t1 := same_new (o := .lst (ts.map V.ref)) hT2
    have eT2 : (upd H9 T2 (.lst (ts.map V.ref))) T2 = some (.lst (ts.map V.ref)) := upd_same
    generalize upd H9 T2 (.lst (ts.map V.ref)) = H10 at t1 eT2 ⊢
    refine ⟨_, rfl, Or.inr (Or.inl ⟨pt, _, _, .ref R, rfl, rfl, SqT.of (t1 _ _ (s9 _ _ ept)), rfl, R, _, rfl, Or.inl (SqL.of (t1 _ _ (s9 _ _ hN.er))), fun R2 hR2 => ?_⟩)⟩
    have t2 := same_new (o := .lst (qt.map V.ref)) hR2
    have eR2 : (upd H10 R2 (.lst (qt.map V.ref))) R2 = some (.lst (qt.map V.ref)) := upd_same
    generalize upd H10 R2 (.lst (qt.map V.ref)) = H11 at t2 eR2 ⊢
    refine ⟨three_le, fun kt hkt => ?_⟩
    have t3 := same_new (o := .tup [.ref D2, .ref T2, .ref R2]) hkt
    have ekt : (upd H11 kt (.tup [.ref D2, .ref T2, .ref R2])) kt = some (.tup [.ref D2, .ref T2, .ref R2]) := upd_same
    generalize upd H11 kt (.tup [.ref D2, .ref T2, .ref R2]) = H12 at t3 ekt ⊢
    have t23 := t2.trans t3
    have t13 := t1.trans t23
    have sA := s9.trans t13
    have al := SC9.alive
    refine q kt D2 T2 R2 u2 G2 E2 H12 sA ekt ⟨SC9.same t13, t23 _ _ eT2, hN.tg.same (s9.trans t13), t3 _ _ eR2, hN.tq.same (s9.trans t13)⟩ nd (id hD2) (id (s9.free hT2)) (id ((s9.trans t1).free hR2)) (fun x hx => id (hfr x hx)) (fun z => by rw [← z, eT2] at hR2; cases hR2) (fun z => by rw [← z, SC9.top] at hT2; cases hT2) (fun z => by rw [← z, t1 _ _ SC9.top] at hR2; cases hR2) (fun x hx => ⟨fun z => (List.nodup_cons.mp nd).1 (z ▸ hx), fun z => ?_, fun z => ?_⟩)
    · obtain ⟨xs, e⟩ := al x hx
      rw [z, hT2] at e; cases e
    · obtain ⟨xs, e⟩ := al x hx
      rw [z] at e
      rw [t1 _ _ e] at hR2; cases hR2
theorem call__law_copy {f : Addr} {fd : FuncData} (B : Blt mg) (ER : Ers K mg)  (F : Fun K "_law_copy" "_law_copy" s__law_copy f fd) (hm : mg "_law_copy" = some (.ref f)) : Callee P w K mg base "_law_copy" 1 ["_law_parts"] (sp__law_copy K) :=
  ⟨f, fd, ok__law_copy B ER  F, hm, F.kp, F.binds fun _ _ _ _ _ _ us hl => (by obtain ⟨x0, rfl⟩ := len_1 hl; rfl)⟩

def sp__law_great (K : PySem.W.Frag) : Sp := fun vs H Q _ => ∃ (pt S T R : Addr) (us Gs Es ts qt : List Addr) (ss : List Sco) (gs : List (Str × Int)) (qs : List Qu), vs = [.ref pt] ∧ H pt = some (.tup [.ref S, .ref T, .ref R]) ∧ Net3 H S T R us Gs Es ts qt ss gs qs ∧ qs.length ≤ 100 ∧ ∀ H', Same H H' → (NFits ss gs qs → Q (.bl false) H') ∧ (¬ NFits ss gs qs → Q (.bl true) H')
set_option maxHeartbeats 4000000 in
seal L2.PE L2.PA L2.PS L2.PSs L2.PT L2.PW L2.PC L2.PG L2.PGs L2.PI L2.PF L2.PSet L2.OpR L2.UnR L2.CallR L2.MtR L2.IxR L2.SlR L2.PO in
theorem ok__law_great {f : Addr} {fd : FuncData} (B : Blt mg) (ER : Ers K mg)  (F : Fun K "_law_great" "_law_great" s__law_great f fd) : FnOk P w K mg base CX0 1 f fd ["_law_parts"] (sp__law_great K) := by
  refine F.ok sc__law_great (fun vs H Q E h => ?_) (fun cdv A outer s H vs Q E hr h => ?_)
  · obtain ⟨pt, S, T, R, us, Gs, Es, ts, qt, ss, gs, qs, rfl, _⟩ := h
    rfl
  · obtain ⟨pt, S, T, R, us, Gs, Es, ts, qt, ss, gs, qs, rfl, ept, hN, q100, q⟩ := h
    have lu : (us.map V.ref).length = ss.length := by rw [List.length_map, hN.sc.lu]
    have lt : (ts.map V.ref).length = gs.length := by rw [List.length_map, hN.tg.len]
    have lq : (qt.map V.ref).length = qs.length := by rw [List.length_map, hN.tq.len]
    refine ⟨_, (pss_cons (ps_if (PW.pt (pw_or (pt_cmpR op_gt (pe_callB call_len (by rfl) B.b_len (by decide +kernel) (pa_cons (pe_ix ix_seq (pv 0) pe_int (fun _ _ => rfl)) pa_nil)) pe_int (nomark _)) (pw_or (pt_cmpR op_gt (pe_callB call_len (by rfl) B.b_len (by decide +kernel) (pa_cons (pe_ix ix_seq (pv 0) pe_int (fun _ _ => rfl)) pa_nil)) pe_int (nomark _)) (pw_or1 (pt_cmpR op_gt (pe_callB call_len (by rfl) B.b_len (by decide +kernel) (pa_cons (pe_ix ix_seq (pv 0) pe_int (fun _ _ => rfl)) pa_nil)) pe_int (nomark _)))))) (pss_one (ps_ret pe_bl)) pss_nil)
      (pss_cons (ps_for PassesOwn.never rfl (pi_list (pe_ix ix_seq (pv 0) pe_int (fun _ _ => rfl))) (pg_tup rfl (pgs_cons (pg_name (i := 1) sc__law_great.nd rfl (Or.inl rfl)) (pgs_cons (pg_name (i := 2) sc__law_great.nd rfl (Or.inl rfl)) pgs_nil))) (pss_one (ps_if (PW.pt (pw_or (pt_cmpR op_gt (pe_callB call_len (by rfl) B.b_len (by decide +kernel) (pa_cons (pv 1) pa_nil)) pe_int (nomark _)) (pw_or1 (pt_cmpR op_gt (pe_callB call_len (by rfl) B.b_len (by decide +kernel) (pa_cons (pv 2) pa_nil)) pe_int (nomark _))))) (pss_one (ps_ret pe_bl)) pss_nil)))
      (pss_one (ps_ret (pe_callB (call_anyL rfl) (by rfl) B.b_any (by decide +kernel) (pa_cons (pe_comp (g := gTup K 3 (gCons (gName 0) (gCons (gName 1) (gCons (gName 2) gNil)))) (te := tOp (rI0 fun i j => .bl (decide (j < i))) (tCB (rLen K) (tCons (tVar 2) tNil)) (tC (.int 6))) rfl _law_great_cs1 (pi_list (pe_ix ix_seq (pv 0) pe_int (fun _ _ => rfl))) (fun _ _ _ _ _ => (pg_tup rfl (pgs_cons (pg_name (i := 0) _law_great_cs1.nd rfl (Or.inl rfl)) (pgs_cons (pg_name (i := 1) _law_great_cs1.nd rfl (Or.inl rfl)) (pgs_cons (pg_name (i := 2) _law_great_cs1.nd rfl (Or.inl rfl)) pgs_nil))))) (fun _ _ _ _ _ => pf_nil) (fun _ _ _ _ _ => (pe_cmpR op_gt (pe_callB call_len (by rfl) B.b_len (by decide +kernel) (pa_cons (pv 2) pa_nil)) pe_int (nomark _)))) pa_nil)))))), ?_⟩
    refine ⟨_, rfl, Or.inr (Or.inl ⟨pt, _, _, .ref S, rfl, rfl, SqT.of ept, rfl, _, _, rfl, Or.inl ⟨_, SqL.of hN.sc.top, rfl⟩, _, _, rfl, rfl, _, rfl, ite2 (fun h => iteT ?_) (fun h => ?_)⟩)⟩
    · have h := of_decide_eq_true h
      exact (q _ (Same.refl _)).2 fun f => by have := f.ls; omega
    have h0 : ss.length ≤ 40 := Nat.le_of_not_lt fun z => h (decide_eq_true (by omega))
    refine ⟨_, rfl, Or.inr (Or.inl ⟨pt, _, _, .ref T, rfl, rfl, SqT.of ept, rfl, _, _, rfl, Or.inl ⟨_, SqL.of hN.et, rfl⟩, _, _, rfl, rfl, _, rfl, ite2 (fun h => iteT ?_) (fun h => ?_)⟩)⟩
    · have h := of_decide_eq_true h
      exact (q _ (Same.refl _)).2 fun f => by have := f.lg; omega
    have h1 : gs.length ≤ 80 := Nat.le_of_not_lt fun z => h (decide_eq_true (by omega))
    refine ⟨_, rfl, Or.inr (Or.inl ⟨pt, _, _, .ref R, rfl, rfl, SqT.of ept, rfl, _, _, rfl, Or.inl ⟨_, SqL.of hN.er, rfl⟩, _, _, rfl, rfl, _, rfl, ite2 (fun h => ?_) (fun h => ?_)⟩)⟩
    · have h := of_decide_eq_true h
      exact (q _ (Same.refl _)).2 fun f => by have := f.lq; omega
    have h2 : qs.length ≤ 60 := Nat.le_of_not_lt fun z => h (decide_eq_true (by omega))
    refine ⟨_, rfl, Or.inr (Or.inl ⟨pt, _, _, .ref S, rfl, rfl, SqT.of ept, rfl, S, rfl, ⟨_, SqL.of hN.sc.top⟩, for_list (xs := us.map V.ref) (fun i σ H' => ∃ u1 u2, σ = [some (.ref pt), u1, u2] ∧ H' = H ∧ ∀ s ∈ ss.take i, s.1.length ≤ 8 ∧ s.2.length ≤ 12) ⟨none, none, rfl, rfl, fun s hs => by simp at hs⟩ (fun i σ H' _ ⟨_, _, _, e, _⟩ => by rw [e]; exact SqL.of hN.sc.top) ?_ ?_⟩)⟩
    · rintro i x σ H2 hx ⟨u1, u2, rfl, rfl, hk⟩
      rw [List.getElem?_map] at hx
      obtain ⟨u, hu, rfl⟩ := Option.map_eq_some_iff.mp hx
      have hil : i < ss.length := by rw [← hN.sc.lu]; exact (List.getElem?_eq_some_iff.mp hu).1
      obtain ⟨u', G, E1, g1, g2, g3, g4, ⟨a1, ⟨tG, b1, b2⟩, ⟨tE, c1, c2⟩⟩⟩ := hN.sc.get hil
      rw [hu] at g1; cases g1
      have lG : (tG.map V.ref).length = ss[i].1.length := by rw [List.length_map, b2.len]
      have lE : (tE.map V.ref).length = ss[i].2.length := by rw [List.length_map, c2.len]
      refine ⟨u, _, rfl, SqT.of a1, rfl, _, _, rfl, _, _, rfl, rfl, ?_⟩
      refine ⟨_, rfl, _, _, rfl, Or.inl ⟨_, SqL.of b1, rfl⟩, _, _, rfl, rfl, _, rfl, ite2 (fun h => iteT ?_) (fun h => ?_)⟩
      · have h := of_decide_eq_true h
        exact (q _ (Same.refl _)).2 fun f => by have := f.st8 _ (List.getElem_mem hil); omega
      have k1 : ss[i].1.length ≤ 8 := Nat.le_of_not_lt fun z => h (decide_eq_true (by omega))
      refine ⟨_, rfl, _, _, rfl, Or.inl ⟨_, SqL.of c1, rfl⟩, _, _, rfl, rfl, _, rfl, ite2 (fun h => ?_) (fun h => ?_)⟩
      · have h := of_decide_eq_true h
        exact (q _ (Same.refl _)).2 fun f => by have := f.tl12 _ (List.getElem_mem hil); omega
      have k2 : ss[i].2.length ≤ 12 := Nat.le_of_not_lt fun z => h (decide_eq_true (by omega))
      exact ⟨_, _, rfl, rfl, take_all hk hil ⟨k1, k2⟩⟩
    rintro σ H2 ⟨u1, u2, rfl, rfl, hk⟩
    rw [lu, List.take_length] at hk
    refine ⟨_, rfl, Or.inr (Or.inl ⟨pt, _, _, .ref R, rfl, rfl, SqT.of ept, rfl, R, rfl, ⟨_, SqL.of hN.er⟩, comp_listI (xs := qt.map V.ref) (fun D i ys H' => ys = (qs.take i).map (fun z => V.bl (decide ((6 : Int) < (((z.2.2.map V.str).length : Nat) : Int)))) ∧ Same H2 H' ∧ H' D = some (.lst ys)) (fun D hD => ⟨rfl, same_new hD, upd_same⟩) (fun D i ys H' ⟨_, s9, _⟩ => SqL.of (s9 _ _ hN.er)) (fun D i x ys H9 RR hD hx hv k => ?_) (fun D ys H9 hD hv => ?_)⟩)⟩
    · obtain ⟨rfl, s9, e9⟩ := hv
      rw [List.getElem?_map] at hx
      obtain ⟨t, ht, rfl⟩ := Option.map_eq_some_iff.mp hx
      have hil : i < qs.length := by rw [← hN.tq.len]; exact (List.getElem?_eq_some_iff.mp ht).1
      obtain ⟨u, a1, a2⟩ := hN.tq.at_ i t _ ht (List.getElem?_eq_getElem hil)
      refine ⟨t, _, rfl, SqT.of (s9 _ _ a1), rfl, _, _, rfl, _, _, rfl, _, _, rfl, rfl, ?_⟩
      refine ⟨_, rfl, _, _, rfl, Or.inr ⟨_, SqT.of (s9 _ _ a2), rfl⟩, _, _, rfl, rfl, ?_⟩
      refine k _ _ e9 (by rw [List.length_map, List.length_take]; exact small1000 (by omega)) ⟨?_, fun b o e => ?_, upd_same⟩
      · rw [map_take hil]
      · rw [upd_ne (ne_of_none e hD)]; exact s9 _ _ e
    obtain ⟨rfl, s9, e9⟩ := hv
    rw [lq, List.take_length] at e9
    refine ⟨_, qs.map (fun z => decide ((6 : Int) < (((z.2.2.map V.str).length : Nat) : Int))), rfl, SqL.of (by rw [List.map_map]; exact e9), ?_⟩
    cases hb : (qs.map (fun z => decide ((6 : Int) < (((z.2.2.map V.str).length : Nat) : Int)))).any id with
    | true =>
      rw [List.any_map, List.any_eq_true] at hb
      obtain ⟨z, hz, hl⟩ := hb
      have hl := of_decide_eq_true hl
      rw [List.length_map] at hl
      exact (q _ s9).2 fun f => by have := f.p6 z hz; omega
    | false =>
      rw [List.any_map, List.any_eq_false] at hb
      refine (q _ s9).1 ⟨h0, h1, h2, fun s hs => (hk s hs).1, fun s hs => (hk s hs).2, fun z hz => ?_⟩
      refine Nat.le_of_not_lt fun y => hb z hz (decide_eq_true ?_)
      rw [List.length_map]; omega
theorem call__law_great {f : Addr} {fd : FuncData} (B : Blt mg) (ER : Ers K mg)  (F : Fun K "_law_great" "_law_great" s__law_great f fd) (hm : mg "_law_great" = some (.ref f)) : Callee P w K mg base "_law_great" 1 ["_law_parts"] (sp__law_great K) :=
  ⟨f, fd, ok__law_great B ER  F, hm, F.kp, F.binds fun _ _ _ _ _ _ us hl => (by obtain ⟨x0, rfl⟩ := len_1 hl; rfl)⟩
theorem col_comp {α : Type} {f : α → List V} {g : α → Str} {K : PySem.W.Frag} {G : Addr} {ts : List Addr} {l : List α} {caps : List Nat} {σ : L2.St} {H1 : Hp} {Q : Addr → Hp → Prop} {j : Nat} (hj : ∀ a, (f a)[j]? = some (.str (g a))) (T : RT f H1 ts l) (eG : H1 G = some (.lst (ts.map V.ref))) (hl : l.length ≤ 100) (hc : compSt 1 caps σ = [none])
    (hQ : ∀ (D : Addr) (H' : Hp), H1 D = none → Same H1 H' → H' D = some (.lst ((l.map g).map V.str)) → Q D H') :
    ∀ D, H1 D = none → ∃ W : Nat → Nat → List V → Hp → Prop, (∃ m, W 0 m [] (upd H1 D (.lst []))) ∧ ∀ i m ys H2, W i m ys H2 →
      ((Itl K G).stop i H2 ∧ Q D H2) ∨ ((Itl K G).go i H2 ∧ ∀ x H3, (Itl K G).yld i H2 x H3 → gName 0 x (compSt 1 caps σ) H3 fun σ4 H4 => tYes σ4 H4 fun b H5 =>
        if b = true then (tOp (rIx K) (tVar 0) (tC (.int (j : Int)))) σ4 H5 fun y H6 => H6 D = some (.lst ys) ∧ ys.length < sizeLine ∧ ∃ m', m' < m ∧ W (i + 1) m' (ys ++ [y]) (upd H6 D (.lst (ys ++ [y]))) else ∃ m', m' < m ∧ W (i + 1) m' ys H5) := by
  refine comp_listI (te := tOp (rIx K) (tVar 0) (tC (.int (j : Int)))) (xs := ts.map V.ref) (fun D i ys H' => ys = ((l.take i).map g).map V.str ∧ Same H1 H' ∧ H' D = some (.lst ys)) (fun D hD => ⟨rfl, same_new hD, upd_same⟩) (fun D i ys H' ⟨_, s9, _⟩ => SqL.of (s9 _ _ eG)) (fun D i x ys H9 RR hD hx hv k => ?_) (fun D ys H9 hD hv => ?_)
  · obtain ⟨rfl, s9, e9⟩ := hv
    rw [List.getElem?_map] at hx
    obtain ⟨t, ht, rfl⟩ := Option.map_eq_some_iff.mp hx
    have hil : i < l.length := by rw [← T.len]; exact (List.getElem?_eq_some_iff.mp ht).1
    have a1 := T.at_ i t _ ht (List.getElem?_eq_getElem hil)
    rw [hc]
    refine g_in ?_
    try dsimp only
    refine ⟨_, rfl, Or.inr (Or.inl ⟨t, _, _, .str (g l[i]), rfl, rfl, SqT.of (s9 _ _ a1), atI_nat (hj _), ?_⟩)⟩
    refine k _ _ e9 (by rw [List.length_map, List.length_map, List.length_take]; exact small1000 (by omega)) ⟨?_, fun b o e => ?_, upd_same⟩
    · rw [map_take hil, List.map_append]; rfl
    · rw [upd_ne (ne_of_none e hD)]; exact s9 _ _ e
  · obtain ⟨rfl, s9, e9⟩ := hv
    rw [List.length_map, T.len, List.take_length] at e9
    exact hQ D H9 hD s9 e9
theorem big_sz {n : Nat} (h : n ≤ 100000) : n ≤ sizeLine := Nat.le_trans h (by decide)
/-- a list of words that grows -/
structure Wds (H0 H : Hp) (D : Addr) (ws : List Str) (n : Nat) (P : Str → Prop) : Prop where
  s : Same H0 H
  e : H D = some (.lst (ws.map V.str))
  fr : H0 D = none
  l : ws.length ≤ n
  m : ∀ x, x ∈ ws ↔ P x
theorem Wds.cat {H0 H H3 : Hp} {D D' : Addr} {ws us : List Str} {n k : Nat} {P P' : Str → Prop} {Q : VK} (h : Wds H0 H D ws n P) (s : Same H H3) (e : H3 D' = some (.lst (us.map V.str))) (l : us.length ≤ k) (hP : ∀ x, P' x ↔ (P x ∨ x ∈ us)) (hn : n + k ≤ 100000)
    (hQ : ∀ p H', Same H H' → Wds H0 H' p (ws ++ us) (n + k) P' → Q (.ref p) H') : rCat (.ref D) (.ref D') H3 Q := by
  have l1 := h.l
  refine ⟨D, D', _, _, rfl, rfl, s _ _ h.e, e, by rw [List.length_map, List.length_map]; exact big_sz (by omega), fun p hp => ?_⟩
  have v := same_new (o := .lst (ws.map V.str ++ us.map V.str)) hp
  refine hQ p _ (s.trans v) ⟨(h.s.trans s).trans v, by rw [upd_same, List.map_append], (h.s.trans s).free hp, by rw [List.length_append]; omega, fun x => ?_⟩
  rw [List.mem_append, h.m, hP]
theorem take_sub {α : Type} {xs : List α} {i : Nat} {x : α} (h : x ∈ xs.take i) : x ∈ xs.take (i + 1) := by
  rw [List.take_succ]; exact List.mem_append_left _ h
theorem take_at {α : Type} {xs : List α} {i : Nat} (h : i < xs.length) : xs[i] ∈ xs.take (i + 1) := by
  rw [take_one h]; exact List.mem_append_right _ (List.mem_singleton.mpr rfl)
def emptyIn (qs : List Qu) : Prop := ∃ z ∈ qs, z.2.2 = []
theorem names_iff {ss : List Sco} {qs : List Qu} {ws : List Str} (h : ∀ x, x ∈ ws ↔ (x ∈ wordsN ss qs ∨ (x = ("" : Str) ∧ emptyIn qs))) : (∀ x ∈ ws, nameB x = true) ↔ NNames ss qs := by
  constructor
  · intro a
    refine ⟨fun x hx => a x ((h x).mpr (.inl hx)), fun z hz e => ?_⟩
    have := a ("" : Str) ((h _).mpr (.inr ⟨rfl, z, hz, e⟩))
    rw [show nameB ("" : Str) = false by decide +kernel] at this
    cases this
  · intro a x hx
    rcases (h x).mp hx with y | ⟨_, z, hz, e⟩
    · exact a.1 x y
    · exact absurd e (a.2 z hz)

def sp__law_words_of (K : PySem.W.Frag) : Sp := fun vs H Q _ => ∃ (pt S T R : Addr) (us Gs Es ts qt : List Addr) (ss : List Sco) (gs : List (Str × Int)) (qs : List Qu), vs = [.ref pt] ∧ H pt = some (.tup [.ref S, .ref T, .ref R]) ∧ Net3 H S T R us Gs Es ts qt ss gs qs ∧ ss.length ≤ 100 ∧ qs.length ≤ 100 ∧ (∀ s ∈ ss, s.1.length ≤ 100 ∧ s.2.length ≤ 100) ∧ (∀ z ∈ qs, z.2.2.length ≤ 7) ∧ (∀ x ∈ wordsN ss qs, x.length ≤ 1000) ∧
  ∀ (D : Addr) (ws : List Str) (H' : Hp), Same H H' → H' D = some (.lst (ws.map V.str)) → (∀ x ∈ ws, x.length ≤ 1000) → ((∀ x ∈ ws, nameB x = true) ↔ NNames ss qs) → Q (.ref D) H'
set_option maxHeartbeats 4000000 in
seal L2.PE L2.PA L2.PS L2.PSs L2.PT L2.PW L2.PC L2.PG L2.PGs L2.PI L2.PF L2.PSet L2.OpR L2.UnR L2.CallR L2.MtR L2.IxR L2.SlR L2.PO in
theorem ok__law_words_of {f : Addr} {fd : FuncData} (B : Blt mg) (ER : Ers K mg)  (F : Fun K "_law_words_of" "_law_words_of" s__law_words_of f fd) : FnOk P w K mg base CX0 1 f fd ["_law_parts"] (sp__law_words_of K) := by
  refine F.ok sc__law_words_of (fun vs H Q E h => ?_) (fun cdv A outer s H vs Q E hr h => ?_)
  · obtain ⟨pt, S, T, R, us, Gs, Es, ts, qt, ss, gs, qs, rfl, _⟩ := h
    rfl
  · obtain ⟨pt, S, T, R, us, Gs, Es, ts, qt, ss, gs, qs, rfl, ept, hN, l1, l2, l3, l4, l5, q⟩ := h
    have lu : (us.map V.ref).length = ss.length := by rw [List.length_map, hN.sc.lu]
    have lq : (qt.map V.ref).length = qs.length := by rw [List.length_map, hN.tq.len]
    refine ⟨_, (pss_cons (ps_set (i := 1) sc__law_words_of.nd rfl (Or.inl rfl) (pe_lst pa_nil))
      (pss_cons (ps_for PassesOwn.never rfl (pi_list (pe_ix ix_seq (pv 0) pe_int (fun _ _ => rfl))) (pg_tup rfl (pgs_cons (pg_name (i := 2) sc__law_words_of.nd rfl (Or.inl rfl)) (pgs_cons (pg_name (i := 3) sc__law_words_of.nd rfl (Or.inl rfl)) pgs_nil))) (pss_cons (ps_set (i := 1) sc__law_words_of.nd rfl (Or.inl rfl) (pe_op op_cat (pv 1) (pe_comp (te := tOp (rIx K) (tVar 0) (tC (.int ((0 : Nat) : Int)))) rfl _law_words_of_cs1 (pi_list (pv 2)) (fun _ _ _ _ _ => (pg_name (i := 0) _law_words_of_cs1.nd rfl (Or.inl rfl))) (fun _ _ _ _ _ => pf_nil) (fun _ _ _ _ _ => (pe_ix ix_seq (pv 0) pe_int (fun _ _ => rfl))))))
        (pss_cons (ps_set (i := 1) sc__law_words_of.nd rfl (Or.inl rfl) (pe_op op_cat (pv 1) (pe_comp (te := tOp (rIx K) (tVar 0) (tC (.int ((0 : Nat) : Int)))) rfl _law_words_of_cs2 (pi_list (pv 3)) (fun _ _ _ _ _ => (pg_name (i := 0) _law_words_of_cs2.nd rfl (Or.inl rfl))) (fun _ _ _ _ _ => pf_nil) (fun _ _ _ _ _ => (pe_ix ix_seq (pv 0) pe_int (fun _ _ => rfl))))))
        (pss_one (ps_set (i := 1) sc__law_words_of.nd rfl (Or.inl rfl) (pe_op op_cat (pv 1) (pe_comp (te := tOp (rIx K) (tVar 0) (tC (.int ((1 : Nat) : Int)))) rfl _law_words_of_cs3 (pi_list (pv 3)) (fun _ _ _ _ _ => (pg_name (i := 0) _law_words_of_cs3.nd rfl (Or.inl rfl))) (fun _ _ _ _ _ => pf_nil) (fun _ _ _ _ _ => (pe_ix ix_seq (pv 0) pe_int (fun _ _ => rfl))))))))))
      (pss_cons (ps_for PassesOwn.never rfl (pi_list (pe_ix ix_seq (pv 0) pe_int (fun _ _ => rfl))) (pg_tup rfl (pgs_cons (pg_name (i := 4) sc__law_words_of.nd rfl (Or.inl rfl)) (pgs_cons (pg_name (i := 5) sc__law_words_of.nd rfl (Or.inl rfl)) (pgs_cons (pg_name (i := 6) sc__law_words_of.nd rfl (Or.inl rfl)) pgs_nil)))) (pss_cons (ps_set (i := 1) sc__law_words_of.nd rfl (Or.inl rfl) (pe_op op_cat (pv 1) (pe_callTy call_list_of (by rfl) B.b_list (by decide +kernel) (pa_cons (pv 6) pa_nil))))
        (pss_one (ps_if (pt_cmpR (op_eqD hr.units) (pv 6) (pe_tup pa_nil) (nomark _)) (pss_one (ps_expr (pe_bm PySem.F.plainAttrs_list PySem.F.slot_list_append PySem.F.type_list_append mr_append (pv 1) (pa_cons pe_str pa_nil)))) pss_nil))))
      (pss_one (ps_ret (pv 1)))))), ?_⟩
    refine ⟨by decide, fun D hD => ?_⟩
    have W0 : Wds H (upd H D (.lst [])) D [] 0 (fun x => x ∈ (ss.take 0).flatMap wordsS) := ⟨same_new hD, upd_same, hD, Nat.le_refl _, fun x => by simp⟩
    generalize upd H D (.lst []) = H1 at W0 ⊢
    refine g_in ?_
    try dsimp only
    refine ⟨_, rfl, Or.inr (Or.inl ⟨pt, _, _, .ref S, rfl, rfl, SqT.of (W0.s _ _ ept), rfl, S, rfl, ⟨_, SqL.of (W0.s _ _ hN.sc.top)⟩, for_list (xs := us.map V.ref) (fun i σ H' => ∃ D ws u2 u3, σ = [some (.ref pt), some (.ref D), u2, u3, none, none, none] ∧ Wds H H' D ws (300 * i) (fun x => x ∈ (ss.take i).flatMap wordsS)) ⟨D, [], none, none, rfl, W0⟩ (fun i σ H' _ ⟨_, _, _, _, _, w⟩ => SqL.of (w.s _ _ hN.sc.top)) ?_ ?_⟩)⟩
    · rintro i x σ H2 hx ⟨D, ws, u2, u3, rfl, w⟩
      rw [List.getElem?_map] at hx
      obtain ⟨u, hu, rfl⟩ := Option.map_eq_some_iff.mp hx
      have hil : i < ss.length := by rw [← hN.sc.lu]; exact (List.getElem?_eq_some_iff.mp hu).1
      obtain ⟨u', G, E1, g1, g2, g3, g4, ⟨a1, ⟨tG, b1, b2⟩, ⟨tE, c1, c2⟩⟩⟩ := (hN.sc.same w.s).get hil
      rw [hu] at g1; cases g1
      have k1 := l3 _ (List.getElem_mem hil)
      refine ⟨u, _, rfl, SqT.of a1, rfl, _, _, rfl, _, _, rfl, rfl, ?_⟩
      refine ⟨_, rfl, _, rfl, G, rfl, ⟨_, SqL.of b1⟩, col_comp (f := stpV) (g := fun p : Stp => p.1) (j := 0) (fun _ => rfl) b2 b1 k1.1 rfl fun D2 H3 _ s3 e3 => ?_⟩
      refine w.cat (k := 100) (P' := fun x => x ∈ (ss.take i).flatMap wordsS ∨ x ∈ ss[i].1.map fun p : Stp => p.1) s3 e3 (by rw [List.length_map]; exact k1.1) (fun x => Iff.rfl) (by omega) fun p H4 s4 w4 => ?_
      refine g_in ?_
      try dsimp only
      refine ⟨_, rfl, _, rfl, E1, rfl, ⟨_, SqL.of (s4 _ _ c1)⟩, col_comp (f := tlgV) (g := fun p : Tlg => p.1) (j := 0) (fun _ => rfl) (c2.same s4) (s4 _ _ c1) k1.2 rfl fun D3 H5 _ s5 e5 => ?_⟩
      refine w4.cat (k := 100) (P' := fun x => (x ∈ (ss.take i).flatMap wordsS ∨ x ∈ ss[i].1.map fun p : Stp => p.1) ∨ x ∈ ss[i].2.map fun p : Tlg => p.1) s5 e5 (by rw [List.length_map]; exact k1.2) (fun x => Iff.rfl) (by omega) fun p2 H6 s6 w6 => ?_
      refine g_in ?_
      try dsimp only
      refine ⟨_, rfl, _, rfl, E1, rfl, ⟨_, SqL.of (s6 _ _ (s4 _ _ c1))⟩, col_comp (f := tlgV) (g := fun p : Tlg => p.2.1) (j := 1) (fun _ => rfl) ((c2.same s4).same s6) (s6 _ _ (s4 _ _ c1)) k1.2 rfl fun D4 H7 _ s7 e7 => ?_⟩
      refine w6.cat (k := 100) (P' := fun x => x ∈ (ss.take (i + 1)).flatMap wordsS) s7 e7 (by rw [List.length_map]; exact k1.2) (fun x => ?_) (by omega) fun p3 H8 s8 w8 => ?_
      · rw [flat_take hil, List.mem_append]
        unfold wordsS
        simp only [List.mem_append, List.mem_flatMap, List.mem_map, List.mem_cons, List.not_mem_nil, or_false]
        constructor
        · rintro (h | h | ⟨p, hp, (h | h)⟩)
          · exact .inl (.inl (.inl h))
          · exact .inl (.inl (.inr h))
          · exact .inl (.inr ⟨p, hp, h.symm⟩)
          · exact .inr ⟨p, hp, h.symm⟩
        · rintro (((h | h) | ⟨p, hp, h⟩) | ⟨p, hp, h⟩)
          · exact .inl h
          · exact .inr (.inl h)
          · exact .inr (.inr ⟨p, hp, .inl h.symm⟩)
          · exact .inr (.inr ⟨p, hp, .inr h.symm⟩)
      refine g_in ?_
      try dsimp only
      exact ⟨p3, _, _, _, rfl, ⟨w8.s, w8.e, w8.fr, Nat.le_trans w8.l (by omega), w8.m⟩⟩
    rintro σ H2 ⟨D, ws, u2, u3, rfl, w⟩
    rw [lu, List.take_length] at w
    have w : Wds H H2 D ws 30000 (fun x => x ∈ ss.flatMap wordsS ++ (qs.take 0).flatMap (·.2.2) ∨ (x = ("" : Str) ∧ emptyIn (qs.take 0))) := ⟨w.s, w.e, w.fr, Nat.le_trans w.l (by omega), fun x => by
      rw [w.m]
      constructor
      · intro h; exact .inl (by simpa using h)
      · rintro (h | ⟨_, z, hz, _⟩)
        · simpa using h
        · simp at hz⟩
    refine ⟨_, rfl, Or.inr (Or.inl ⟨pt, _, _, .ref R, rfl, rfl, SqT.of (w.s _ _ ept), rfl, R, rfl, ⟨_, SqL.of (w.s _ _ hN.er)⟩, for_list (xs := qt.map V.ref) (fun i σ H' => ∃ D ws u4 u5 u6, σ = [some (.ref pt), some (.ref D), u2, u3, u4, u5, u6] ∧ Wds H H' D ws (30000 + 8 * i) (fun x => x ∈ ss.flatMap wordsS ++ (qs.take i).flatMap (·.2.2) ∨ (x = ("" : Str) ∧ emptyIn (qs.take i)))) ⟨D, ws, none, none, none, rfl, w⟩ (fun i σ H' _ ⟨_, _, _, _, _, _, w⟩ => SqL.of (w.s _ _ hN.er)) ?_ ?_⟩)⟩
    · rintro i x σ H3 hx ⟨D, ws, u4, u5, u6, rfl, w⟩
      rw [List.getElem?_map] at hx
      obtain ⟨t, ht, rfl⟩ := Option.map_eq_some_iff.mp hx
      have hil : i < qs.length := by rw [← hN.tq.len]; exact (List.getElem?_eq_some_iff.mp ht).1
      obtain ⟨u, a1, a2⟩ := (hN.tq.same w.s).at_ i t _ ht (List.getElem?_eq_getElem hil)
      have k1 := l4 _ (List.getElem_mem hil)
      refine ⟨t, _, rfl, SqT.of a1, rfl, _, _, rfl, _, _, rfl, _, _, rfl, rfl, ?_⟩
      refine ⟨_, rfl, _, rfl, u, _, rfl, Or.inr (SqT.of a2), fun G3 hG3 => ?_⟩
      have t1 := same_new (o := .lst (qs[i].2.2.map V.str)) hG3
      have eG3 : (upd H3 G3 (.lst (qs[i].2.2.map V.str))) G3 = some (.lst (qs[i].2.2.map V.str)) := upd_same
      generalize upd H3 G3 (.lst (qs[i].2.2.map V.str)) = H4 at t1 eG3 ⊢
      refine w.cat (k := 7) (P' := fun x => (x ∈ ss.flatMap wordsS ++ (qs.take (i + 1)).flatMap (·.2.2)) ∨ (x = ("" : Str) ∧ emptyIn (qs.take i))) t1 eG3 k1 (fun x => ?_) (by omega) fun p H5 s5 w5 => ?_
      · rw [flat_take hil]
        simp only [List.mem_append]
        constructor
        · rintro ((h | h | h) | h)
          · exact .inl (.inl (.inl h))
          · exact .inl (.inl (.inr h))
          · exact .inr h
          · exact .inl (.inr h)
        · rintro (((h | h) | h) | h)
          · exact .inl (.inl h)
          · exact .inl (.inr (.inl h))
          · exact .inr h
          · exact .inl (.inr (.inr h))
      refine g_in ?_
      try dsimp only
      refine ⟨_, rfl, by decide, fun t0 ht0 => ?_⟩
      have t2 := same_new (o := .tup []) ht0
      have et0 : (upd H5 t0 (.tup [])) t0 = some (.tup []) := upd_same
      generalize upd H5 t0 (.tup []) = H6 at t2 et0 ⊢
      have a26 := t2 _ _ (s5 _ _ a2)
      have e6 := t2 _ _ w5.e
      have l5 := w5.l
      refine ⟨2, Dt.tup (qs[i].2.2.map Dt.str), Dt.tup [], .tup (.nil' _), by decide, .tup (SqT.of a26) (IsDts.strs _), .tup (SqT.of et0) .nil, _, rfl, ite2 (fun h => ?_) (fun h => ?_)⟩
      · have hne : qs[i].2.2 = [] := by
          refine Classical.byContradiction fun z => ?_
          rw [dec_false (fun y => z (by injection y with y; exact List.map_eq_nil_iff.mp y))] at h
          cases h
        refine ⟨_, rfl, Or.inl ⟨rfl, _, SqL.of e6⟩, p, _, _, rfl, rfl, e6, by rw [List.length_map]; exact Nat.lt_of_le_of_lt (show _ ≤ 100000 by omega) (by decide), ?_⟩
        refine ⟨p, (ws ++ qs[i].2.2) ++ [("" : Str)], _, _, _, rfl, ⟨fun b o e => ?_, by rw [upd_same]; simp, w5.fr, by rw [List.length_append, List.length_singleton]; omega, fun x => ?_⟩⟩
        · rw [upd_ne (ne_of_none e w5.fr)]; exact t2 _ _ (w5.s _ _ e)
        · rw [List.mem_append, w5.m, List.mem_singleton]
          constructor
          · rintro ((h | ⟨h, z, hz, hh⟩) | h)
            · exact .inl h
            · exact .inr ⟨h, z, take_sub hz, hh⟩
            · exact .inr ⟨h, _, take_at hil, hne⟩
          · rintro (h | ⟨h, _⟩)
            · exact .inl (.inl h)
            · exact .inr h
      · have hne : qs[i].2.2 ≠ [] := fun z => h (dec_true (by rw [z]; rfl))
        refine ⟨p, _, _, _, _, rfl, ⟨w5.s.trans t2, e6, w5.fr, by omega, fun x => ?_⟩⟩
        rw [w5.m]
        constructor
        · rintro (h | ⟨h, z, hz, hh⟩)
          · exact .inl h
          · exact .inr ⟨h, z, take_sub hz, hh⟩
        · rintro (h | ⟨h, z, hz, hh⟩)
          · exact .inl h
          · rw [take_one hil] at hz
            rcases List.mem_append.mp hz with y | y
            · exact .inr ⟨h, z, y, hh⟩
            · rw [List.mem_singleton] at y
              rw [y] at hh
              exact absurd hh hne
    rintro σ H3 ⟨D, ws, u4, u5, u6, rfl, w⟩
    rw [lq, List.take_length] at w
    refine ⟨_, rfl, q D ws H3 w.s w.e (fun x hx => ?_) (names_iff fun x => w.m x)⟩
    rcases (w.m x).mp hx with h | ⟨rfl, _⟩
    · exact l5 x h
    · decide
theorem call__law_words_of {f : Addr} {fd : FuncData} (B : Blt mg) (ER : Ers K mg)  (F : Fun K "_law_words_of" "_law_words_of" s__law_words_of f fd) (hm : mg "_law_words_of" = some (.ref f)) : Callee P w K mg base "_law_words_of" 1 ["_law_parts"] (sp__law_words_of K) :=
  ⟨f, fd, ok__law_words_of B ER  F, hm, F.kp, F.binds fun _ _ _ _ _ _ us hl => (by obtain ⟨x0, rfl⟩ := len_1 hl; rfl)⟩

def sp__law_is_word (K : PySem.W.Frag) : Sp := fun vs H Q _ => ∃ x, vs = [.str x] ∧ x.length ≤ 1000 ∧ ∀ H', Same H H' → Q (.bl (nameB x)) H'
set_option maxHeartbeats 4000000 in
seal L2.PE L2.PA L2.PS L2.PSs L2.PT L2.PW L2.PC L2.PG L2.PGs L2.PI L2.PF L2.PSet L2.OpR L2.UnR L2.CallR L2.MtR L2.IxR L2.SlR L2.PO in
theorem ok__law_is_word {f : Addr} {fd : FuncData} (B : Blt mg) (ER : Ers K mg)  (F : Fun K "_law_is_word" "_law_is_word" s__law_is_word f fd) : FnOk P w K mg base CX0 1 f fd ["_law_word_here"] (sp__law_is_word K) := by
  refine F.ok sc__law_is_word (fun vs H Q E h => ?_) (fun cdv A outer s H vs Q E hr h => ?_)
  · obtain ⟨x, rfl, _⟩ := h
    rfl
  · obtain ⟨x, rfl, hx, q⟩ := h
    refine ⟨_, (pss_cons (ps_if (PW.pt (pw_or (pt_cmpR op_lt (pe_callB call_len (by rfl) B.b_len (by decide +kernel) (pa_cons (pv 0) pa_nil)) pe_int (nomark _)) (pw_or1 (pt_cmpR op_gt (pe_callB call_len (by rfl) B.b_len (by decide +kernel) (pa_cons (pv 0) pa_nil)) pe_int (nomark _))))) (pss_one (ps_ret pe_bl)) pss_nil)
      (pss_one (ps_ret (pe_callB (call_allL rfl) (by rfl) B.b_all (by decide +kernel) (pa_cons (pe_comp rfl _law_is_word_cs1 (pi_str (pv 0)) (fun _ _ _ _ _ => (pg_name (i := 0) _law_is_word_cs1.nd rfl (Or.inl rfl))) (fun _ _ _ _ _ => pf_nil) (fun _ _ _ _ _ => (pe_cmpR op_in_str (pv 0) pe_str (by with_unfolding_all rfl)))) pa_nil))))), ?_⟩
    have hz : x.length ≤ sizeLine := Nat.le_of_lt (small1000 hx)
    refine ⟨_, rfl, _, _, rfl, ⟨hz, rfl⟩, _, _, rfl, rfl, _, rfl, ite2 (fun h1 => ?_) (fun h1 => ?_)⟩
    · have h1 : ¬ 1 ≤ x.length := by have := of_decide_eq_true h1; omega
      have e : nameB x = false := by unfold nameB; rw [decide_eq_false h1]; rfl
      have := q H (Same.refl _)
      rw [e] at this
      exact iteT this
    have h1 : 1 ≤ x.length := Nat.le_of_not_lt fun z => h1 (decide_eq_true (by omega))
    refine ⟨_, rfl, _, _, rfl, ⟨hz, rfl⟩, _, _, rfl, rfl, _, rfl, ite2 (fun h2 => ?_) (fun h2 => ?_)⟩
    · have h2 : ¬ x.length ≤ 8 := by have := of_decide_eq_true h2; omega
      have e : nameB x = false := by unfold nameB; rw [decide_eq_false h2, Bool.false_and, Bool.and_false]
      have := q H (Same.refl _)
      rw [e] at this
      exact this
    have h2 : x.length ≤ 8 := Nat.le_of_not_lt fun z => h2 (decide_eq_true (by omega))
    have e : nameB x = (x.cps.toList.map signB).all id := by
      unfold nameB; rw [decide_eq_true h1, decide_eq_true h2, List.all_map]; rfl
    refine ⟨_, rfl, _, rfl, comp_str (f := fun c => V.bl (signB c)) hz (fun i c H2 D R hc s2 hD k => ?_) (fun H2 D s2 hD e2 => ?_)⟩
    · refine ⟨_, rfl, _, _, rfl, rfl, ?_⟩
      have := k H2 (Same.refl _)
      rw [← sign_in c] at this
      exact this
    · refine ⟨_, x.cps.toList.map signB, rfl, SqL.of (by rw [List.map_map]; exact e2), ?_⟩
      rw [← e]
      exact q H2 s2
theorem call__law_is_word {f : Addr} {fd : FuncData} (B : Blt mg) (ER : Ers K mg)  (F : Fun K "_law_is_word" "_law_is_word" s__law_is_word f fd) (hm : mg "_law_is_word" = some (.ref f)) : Callee P w K mg base "_law_is_word" 1 ["_law_word_here"] (sp__law_is_word K) :=
  ⟨f, fd, ok__law_is_word B ER  F, hm, F.kp, F.binds fun _ _ _ _ _ _ us hl => (by obtain ⟨x0, rfl⟩ := len_1 hl; rfl)⟩

def sp__law_there (K : PySem.W.Frag) : Sp := fun vs H Q _ => ∃ (k : Str) (n : Int) (D : Addr) (ts : List Addr) (rows : List (Str × Int)), vs = [.str k, .int n, .ref D] ∧ H D = some (.lst (ts.map V.ref)) ∧ GT H ts rows ∧ Q (.bl (thereB k n rows)) H
set_option maxHeartbeats 4000000 in
seal L2.PE L2.PA L2.PS L2.PSs L2.PT L2.PW L2.PC L2.PG L2.PGs L2.PI L2.PF L2.PSet L2.OpR L2.UnR L2.CallR L2.MtR L2.IxR L2.SlR L2.PO in
theorem ok__law_there {f : Addr} {fd : FuncData} (B : Blt mg) (ER : Ers K mg)  (F : Fun K "_law_there" "_law_there" s__law_there f fd) : FnOk P w K mg base CX0 1 f fd ["_law_kind_here", "_law_number_here", "_law_rows"] (sp__law_there K) := by
  refine F.ok sc__law_there (fun vs H Q E h => ?_) (fun cdv A outer s H vs Q E hr h => ?_)
  · obtain ⟨k, n, D, ts, rows, rfl, _⟩ := h
    rfl
  · obtain ⟨k, n, D, ts, rows, rfl, hD, T, q⟩ := h
    refine ⟨_, (pss_cons (ps_for PassesOwn.never rfl (pi_list (pv 2)) (pg_tup rfl (pgs_cons (pg_name (i := 3) sc__law_there.nd rfl (Or.inl rfl)) (pgs_cons (pg_name (i := 4) sc__law_there.nd rfl (Or.inl rfl)) pgs_nil))) (pss_one (ps_if (pt_cmpR op_eq (pv 0) (pv 3) (nomark _)) (pss_one (ps_ret (pe_chain op_le op_lt pe_int (pv 1) (pv 4)))) pss_nil)))
      (pss_one (ps_ret pe_bl))), ?_⟩
    refine ⟨_, rfl, D, rfl, ⟨_, SqL.of hD⟩, for_list (xs := ts.map V.ref) (fun i σ H' => ∃ u3 u4, σ = [some (.str k), some (.int n), some (.ref D), u3, u4] ∧ H' = H ∧ ∀ p ∈ rows.take i, k ≠ p.1) ⟨none, none, rfl, rfl, fun p hp => by simp at hp⟩ (fun i σ H' _ ⟨_, _, _, e, _⟩ => by rw [e]; exact SqL.of hD) ?_ ?_⟩
    · rintro i x σ H2 hx ⟨u3, u4, rfl, rfl, hk⟩
      rw [List.getElem?_map] at hx
      obtain ⟨t, ht, rfl⟩ := Option.map_eq_some_iff.mp hx
      have hil : i < rows.length := by rw [← T.len]; exact (List.getElem?_eq_some_iff.mp ht).1
      have et := T.at_ i t _ ht (List.getElem?_eq_getElem hil)
      refine ⟨t, _, rfl, SqT.of et, rfl, _, _, rfl, _, _, rfl, rfl, ?_⟩
      refine ⟨_, rfl, _, rfl, rfl, _, rfl, ite2 (fun h => ?_) (fun h => ?_)⟩
      · have h : k = rows[i].1 := V.str.inj (of_decide_eq_true h)
        have e := there_drop (n := n) hk
        rw [List.drop_eq_getElem_cons hil] at e
        have e : thereB k n rows = (decide (0 ≤ n) && decide (n < rows[i].2)) := by
          rw [e]
          show (if k = _ then _ else _) = _
          rw [if_pos h]
        rw [e] at q
        refine ⟨_, rfl, _, _, rfl, rfl, _, rfl, ite2 (fun h0 => ?_) (fun h0 => ?_)⟩
        · refine ⟨_, rfl, _, _, rfl, rfl, ?_⟩
          rw [h0] at q
          exact q
        · rw [Bool.not_eq_true _ |>.mp h0] at q
          exact q
      · have h : k ≠ rows[i].1 := fun z => h (decide_eq_true (by rw [z]))
        exact ⟨_, _, rfl, rfl, take_all hk hil h⟩
    rintro σ H2 ⟨u3, u4, rfl, rfl, hk⟩
    rw [List.length_map, T.len, List.take_length] at hk
    have e := there_drop (n := n) (rows := rows) (i := rows.length) (by rw [List.take_length]; exact hk)
    rw [List.drop_length] at e
    rw [e] at q
    exact q
theorem call__law_there {f : Addr} {fd : FuncData} (B : Blt mg) (ER : Ers K mg)  (F : Fun K "_law_there" "_law_there" s__law_there f fd) (hm : mg "_law_there" = some (.ref f)) : Callee P w K mg base "_law_there" 1 ["_law_kind_here", "_law_number_here", "_law_rows"] (sp__law_there K) :=
  ⟨f, fd, ok__law_there B ER  F, hm, F.kp, F.binds fun _ _ _ _ _ _ us hl => (by obtain ⟨x0, x1, x2, rfl⟩ := len_3 hl; rfl)⟩
theorem there2 {k x y : Str} {n a b : Int} (hxy : x ≠ y) : thereB k n [(x, a), (y, b)] = true ↔ ((k = x ∧ 0 ≤ n ∧ n < a) ∨ (k = y ∧ 0 ≤ n ∧ n < b)) := by
  unfold thereB thereB thereB
  by_cases h1 : k = x
  · subst h1
    rw [if_pos rfl, Bool.and_eq_true, decide_eq_true_eq, decide_eq_true_eq]
    exact ⟨fun z => .inl ⟨rfl, z⟩, fun z => by
      rcases z with ⟨_, z⟩ | ⟨z, _⟩
      · exact z
      · exact absurd z hxy⟩
  · rw [if_neg h1]
    by_cases h2 : k = y
    · rw [if_pos h2, Bool.and_eq_true, decide_eq_true_eq, decide_eq_true_eq]
      exact ⟨fun z => .inr ⟨h2, z⟩, fun z => by
        rcases z with ⟨z, _⟩ | ⟨_, z⟩
        · exact absurd z h1
        · exact z⟩
    · rw [if_neg h2]
      exact ⟨fun z => (by cases z), fun z => by
        rcases z with ⟨z, _⟩ | ⟨z, _⟩
        · exact absurd z h1
        · exact absurd z h2⟩
theorem there3 {k : Str} {n a b : Int} : thereB k n [(("plain" : Str), (1 : Int)), (("part" : Str), a), (("sort" : Str), b)] = true ↔ thOk a b (k, n) := by
  unfold thereB
  have e : ("plain" : Str) ≠ ("part" : Str) := by decide +kernel
  have e2 : ("plain" : Str) ≠ ("sort" : Str) := by decide +kernel
  by_cases h1 : k = ("plain" : Str)
  · subst h1
    rw [if_pos rfl, Bool.and_eq_true, decide_eq_true_eq, decide_eq_true_eq]
    refine ⟨fun z => .inl ⟨rfl, ?_⟩, fun z => ?_⟩
    · have h1 : 0 ≤ n := z.1
      have h2 : n < 1 := z.2
      show n = 0
      omega
    · rcases z with ⟨_, z⟩ | ⟨z, _⟩ | ⟨z, _⟩
      · have z : n = 0 := z
        exact ⟨by omega, (by show n < 1; omega)⟩
      · exact absurd z e
      · exact absurd z e2
  · rw [if_neg h1, there2 (by decide +kernel)]
    exact ⟨fun z => .inr z, fun z => by
      rcases z with ⟨z, _⟩ | z
      · exact absurd z h1
      · exact z⟩
theorem gt2 {H : Hp} {r1 r2 : Addr} {x y : Str} {a b : Int} (e1 : H r1 = some (.tup [.str x, .int a])) (e2 : H r2 = some (.tup [.str y, .int b])) : GT H [r1, r2] [(x, a), (y, b)] :=
  ⟨rfl, fun n t p h1 h2 => by
    match n, h1, h2 with
    | 0, h1, h2 => cases h1; cases h2; exact e1
    | 1, h1, h2 => cases h1; cases h2; exact e2
    | _ + 2, h1, _ => simp at h1⟩
theorem gt3 {H : Hp} {r1 r2 r3 : Addr} {x y z : Str} {a b c : Int} (e1 : H r1 = some (.tup [.str x, .int a])) (e2 : H r2 = some (.tup [.str y, .int b])) (e3 : H r3 = some (.tup [.str z, .int c])) : GT H [r1, r2, r3] [(x, a), (y, b), (z, c)] :=
  ⟨rfl, fun n t p h1 h2 => by
    match n, h1, h2 with
    | 0, h1, h2 => cases h1; cases h2; exact e1
    | 1, h1, h2 => cases h1; cases h2; exact e2
    | 2, h1, h2 => cases h1; cases h2; exact e3
    | _ + 3, h1, _ => simp at h1⟩

def sp__law_placed (K : PySem.W.Frag) : Sp := fun vs H Q _ => ∃ (pt S T R : Addr) (us Gs Es ts qt : List Addr) (ss : List Sco) (gs : List (Str × Int)) (qs : List Qu), vs = [.ref pt] ∧ H pt = some (.tup [.ref S, .ref T, .ref R]) ∧ Net3 H S T R us Gs Es ts qt ss gs qs ∧ ∀ H', Same H H' → (NPlaces ss gs qs → Q (.bl true) H') ∧ (¬ NPlaces ss gs qs → Q (.bl false) H')
set_option maxHeartbeats 4000000 in
seal L2.PE L2.PA L2.PS L2.PSs L2.PT L2.PW L2.PC L2.PG L2.PGs L2.PI L2.PF L2.PSet L2.OpR L2.UnR L2.CallR L2.MtR L2.IxR L2.SlR L2.PO in
theorem ok__law_placed {f : Addr} {fd : FuncData} (B : Blt mg) (ER : Ers K mg) (c__law_there : Callee P w K mg base "_law_there" 1 ["_law_kind_here", "_law_number_here", "_law_rows"] (sp__law_there K)) (F : Fun K "_law_placed" "_law_placed" s__law_placed f fd) : FnOk P w K mg base CX0 2 f fd ["_law_parts"] (sp__law_placed K) := by
  refine F.ok sc__law_placed (fun vs H Q E h => ?_) (fun cdv A outer s H vs Q E hr h => ?_)
  · obtain ⟨pt, S, T, R, us, Gs, Es, ts, qt, ss, gs, qs, rfl, _⟩ := h
    rfl
  · obtain ⟨pt, S, T, R, us, Gs, Es, ts, qt, ss, gs, qs, rfl, ept, hN, q⟩ := h
    have lu : (us.map V.ref).length = ss.length := by rw [List.length_map, hN.sc.lu]
    have lt : (ts.map V.ref).length = gs.length := by rw [List.length_map, hN.tg.len]
    have lq : (qt.map V.ref).length = qs.length := by rw [List.length_map, hN.tq.len]
    refine ⟨_, (pss_cons (ps_set (i := 1) sc__law_placed.nd rfl (Or.inl rfl) (pe_lst (pa_cons (pe_callB call_len (by rfl) B.b_len (by decide +kernel) (pa_cons (pe_ix ix_seq (pv 0) pe_int (fun _ _ => rfl)) pa_nil)) (pa_cons (pe_callB call_len (by rfl) B.b_len (by decide +kernel) (pa_cons (pe_ix ix_seq (pv 0) pe_int (fun _ _ => rfl)) pa_nil)) (pa_cons (pe_callB call_len (by rfl) B.b_len (by decide +kernel) (pa_cons (pe_ix ix_seq (pv 0) pe_int (fun _ _ => rfl)) pa_nil)) pa_nil)))))
      (pss_cons (ps_for PassesOwn.never rfl (pi_list (pe_ix ix_seq (pv 0) pe_int (fun _ _ => rfl))) (pg_tup rfl (pgs_cons (pg_name (i := 2) sc__law_placed.nd rfl (Or.inl rfl)) (pgs_cons (pg_name (i := 3) sc__law_placed.nd rfl (Or.inl rfl)) pgs_nil))) (pss_cons (ps_for PassesOwn.never rfl (pi_list (pv 2)) (pg_tup rfl (pgs_cons (pg_name (i := 4) sc__law_placed.nd rfl (Or.inl rfl)) (pgs_cons (pg_name (i := 5) sc__law_placed.nd rfl (Or.inl rfl)) (pgs_cons (pg_name (i := 6) sc__law_placed.nd rfl (Or.inl rfl)) pgs_nil)))) (pss_one (ps_if (pt_not (pt_val (pe_fn c__law_there (hr.mono (by decide)) rfl (pa_cons (pv 5) (pa_cons (pv 6) (pa_cons (pe_lst (pa_cons (pe_tup (pa_cons pe_str (pa_cons (pe_ix ix_seq (pv 1) pe_int (fun _ _ => rfl)) pa_nil))) (pa_cons (pe_tup (pa_cons pe_str (pa_cons (pe_ix ix_seq (pv 1) pe_int (fun _ _ => rfl)) pa_nil))) pa_nil))) pa_nil)))))) (pss_one (ps_ret pe_bl)) pss_nil)))
        (pss_one (ps_for PassesOwn.never rfl (pi_list (pv 3)) (pg_tup rfl (pgs_cons (pg_name (i := 4) sc__law_placed.nd rfl (Or.inl rfl)) (pgs_cons (pg_name (i := 7) sc__law_placed.nd rfl (Or.inl rfl)) (pgs_cons (pg_name (i := 5) sc__law_placed.nd rfl (Or.inl rfl)) (pgs_cons (pg_name (i := 6) sc__law_placed.nd rfl (Or.inl rfl)) pgs_nil))))) (pss_one (ps_if (pt_not (pt_val (pe_fn c__law_there (hr.mono (by decide)) rfl (pa_cons (pv 5) (pa_cons (pv 6) (pa_cons (pe_lst (pa_cons (pe_tup (pa_cons pe_str (pa_cons (pe_ix ix_seq (pv 1) pe_int (fun _ _ => rfl)) pa_nil))) (pa_cons (pe_tup (pa_cons pe_str (pa_cons (pe_ix ix_seq (pv 1) pe_int (fun _ _ => rfl)) pa_nil))) pa_nil))) pa_nil)))))) (pss_one (ps_ret pe_bl)) pss_nil))))))
      (pss_cons (ps_for PassesOwn.never rfl (pi_list (pe_ix ix_seq (pv 0) pe_int (fun _ _ => rfl))) (pg_tup rfl (pgs_cons (pg_name (i := 5) sc__law_placed.nd rfl (Or.inl rfl)) (pgs_cons (pg_name (i := 6) sc__law_placed.nd rfl (Or.inl rfl)) pgs_nil))) (pss_one (ps_if (pt_not (pt_val (pe_fn c__law_there (hr.mono (by decide)) rfl (pa_cons (pv 5) (pa_cons (pv 6) (pa_cons (pe_lst (pa_cons (pe_tup (pa_cons pe_str (pa_cons pe_int pa_nil))) (pa_cons (pe_tup (pa_cons pe_str (pa_cons (pe_ix ix_seq (pv 1) pe_int (fun _ _ => rfl)) pa_nil))) (pa_cons (pe_tup (pa_cons pe_str (pa_cons (pe_ix ix_seq (pv 1) pe_int (fun _ _ => rfl)) pa_nil))) pa_nil)))) pa_nil)))))) (pss_one (ps_ret pe_bl)) pss_nil)))
      (pss_cons (ps_for PassesOwn.never rfl (pi_list (pe_ix ix_seq (pv 0) pe_int (fun _ _ => rfl))) (pg_tup rfl (pgs_cons (pg_name (i := 8) sc__law_placed.nd rfl (Or.inl rfl)) (pgs_cons (pg_name (i := 9) sc__law_placed.nd rfl (Or.inl rfl)) (pgs_cons (pg_name (i := 10) sc__law_placed.nd rfl (Or.inl rfl)) pgs_nil)))) (pss_one (ps_if (PW.pt (pw_or (pt_cmpR op_lt (pv 9) pe_int (nomark _)) (pw_or (pt_cmpR op_lt (pv 8) pe_int (nomark _)) (pw_or1 (pt_cmpR op_ge (pv 8) (pe_ix ix_seq (pv 1) pe_int (fun _ _ => rfl)) (nomark _)))))) (pss_one (ps_ret pe_bl)) pss_nil)))
      (pss_one (ps_ret pe_bl)))))), ?_⟩
    refine ⟨_, rfl, Or.inr (Or.inl ⟨pt, _, _, .ref S, rfl, rfl, SqT.of ept, rfl, _, _, rfl, Or.inl ⟨_, SqL.of hN.sc.top, rfl⟩, _, rfl, Or.inr (Or.inl ⟨pt, _, _, .ref T, rfl, rfl, SqT.of ept, rfl, _, _, rfl, Or.inl ⟨_, SqL.of hN.et, rfl⟩, _, rfl, Or.inr (Or.inl ⟨pt, _, _, .ref R, rfl, rfl, SqT.of ept, rfl, _, _, rfl, Or.inl ⟨_, SqL.of hN.er, rfl⟩, three_le, fun M hM => ?_⟩)⟩)⟩)⟩
    have m1 := same_new (o := .lst [.int ((us.map V.ref).length : Nat), .int ((ts.map V.ref).length : Nat), .int ((qt.map V.ref).length : Nat)]) hM
    have eM : (upd H M (.lst [.int ((us.map V.ref).length : Nat), .int ((ts.map V.ref).length : Nat), .int ((qt.map V.ref).length : Nat)])) M = some (.lst [.int (ss.length : Nat), .int (gs.length : Nat), .int (qs.length : Nat)]) := by rw [upd_same, lu, lt, lq]
    generalize upd H M (.lst [.int ((us.map V.ref).length : Nat), .int ((ts.map V.ref).length : Nat), .int ((qt.map V.ref).length : Nat)]) = H1 at m1 eM ⊢
    refine g_in ?_
    try dsimp only
    have N1 := hN.same m1
    refine ⟨_, rfl, Or.inr (Or.inl ⟨pt, _, _, .ref S, rfl, rfl, SqT.of (m1 _ _ ept), rfl, S, rfl, ⟨_, SqL.of N1.sc.top⟩, for_list (xs := us.map V.ref) (fun i σ H' => ∃ u2 u3 u4 u5 u6 u7, σ = [some (.ref pt), some (.ref M), u2, u3, u4, u5, u6, u7, none, none, none] ∧ Same H1 H' ∧ ∀ s ∈ ss.take i, (∀ p ∈ s.1, stOk ss.length qs.length p) ∧ ∀ p ∈ s.2, tlOk gs.length qs.length p) ⟨none, none, none, none, none, none, rfl, Same.refl _, fun s hs => by simp at hs⟩ (fun i σ H' _ ⟨_, _, _, _, _, _, _, s9, _⟩ => SqL.of (s9 _ _ N1.sc.top)) ?_ ?_⟩)⟩
    · rintro i x σ H2 hx ⟨u2, u3, u4, u5, u6, u7, rfl, s2, hk⟩
      rw [List.getElem?_map] at hx
      obtain ⟨u, hu, rfl⟩ := Option.map_eq_some_iff.mp hx
      have hil : i < ss.length := by rw [← hN.sc.lu]; exact (List.getElem?_eq_some_iff.mp hu).1
      obtain ⟨u', G, E1, g1, g2, g3, g4, ⟨a1, ⟨tG, b1, b2⟩, ⟨tE, c1, c2⟩⟩⟩ := (N1.sc.same s2).get hil
      rw [hu] at g1; cases g1
      refine ⟨u, _, rfl, SqT.of a1, rfl, _, _, rfl, _, _, rfl, rfl, ?_⟩
      try dsimp only
      refine ⟨_, rfl, G, rfl, ⟨_, SqL.of b1⟩, for_list (xs := tG.map V.ref) (fun j σ H' => ∃ u4 u5 u6, σ = [some (.ref pt), some (.ref M), some (.ref G), some (.ref E1), u4, u5, u6, u7, none, none, none] ∧ Same H2 H' ∧ ∀ p ∈ ss[i].1.take j, stOk ss.length qs.length p) ⟨u4, u5, u6, rfl, Same.refl _, fun p hp => by simp at hp⟩ (fun j σ H' _ ⟨_, _, _, _, s9, _⟩ => SqL.of (s9 _ _ b1)) ?_ ?_⟩
      · rintro j x σ H3 hx ⟨v4, v5, v6, rfl, s3, hp⟩
        rw [List.getElem?_map] at hx
        obtain ⟨t, ht, rfl⟩ := Option.map_eq_some_iff.mp hx
        have hjl : j < ss[i].1.length := by rw [← b2.len]; exact (List.getElem?_eq_some_iff.mp ht).1
        have et := (b2.same s3).at_ j t _ ht (List.getElem?_eq_getElem hjl)
        have eM3 := s3 _ _ (s2 _ _ eM)
        refine ⟨t, _, rfl, SqT.of et, rfl, _, _, rfl, _, _, rfl, _, _, rfl, rfl, ?_⟩
        try dsimp only
        refine ⟨_, rfl, _, rfl, _, rfl, Or.inl ⟨M, _, _, .int (ss.length : Nat), rfl, rfl, SqL.of eM3, rfl, two_le, fun r1 hr1 => ?_⟩⟩
        have v1 := same_new (o := .tup [.str "to", .int (ss.length : Nat)]) hr1
        have er1 : (upd H3 r1 (.tup [.str "to", .int (ss.length : Nat)])) r1 = some (.tup [.str "to", .int (ss.length : Nat)]) := upd_same
        generalize upd H3 r1 (.tup [.str "to", .int (ss.length : Nat)]) = H4 at v1 er1 ⊢
        refine ⟨_, rfl, Or.inl ⟨M, _, _, .int (qs.length : Nat), rfl, rfl, SqL.of (v1 _ _ eM3), rfl, two_le, fun r2 hr2 => ?_⟩⟩
        have v2 := same_new (o := .tup [.str "by", .int (qs.length : Nat)]) hr2
        have er2 : (upd H4 r2 (.tup [.str "by", .int (qs.length : Nat)])) r2 = some (.tup [.str "by", .int (qs.length : Nat)]) := upd_same
        generalize upd H4 r2 (.tup [.str "by", .int (qs.length : Nat)]) = H5 at v2 er2 ⊢
        refine ⟨two_le, fun D hD => ?_⟩
        have v3 := same_new (o := .lst [.ref r1, .ref r2]) hD
        have eD : (upd H5 D (.lst [.ref r1, .ref r2])) D = some (.lst ([r1, r2].map V.ref)) := upd_same
        generalize upd H5 D (.lst [.ref r1, .ref r2]) = H6 at v3 eD ⊢
        refine ⟨_, _, D, [r1, r2], [("to", (ss.length : Int)), ("by", (qs.length : Int))], rfl, eD, gt2 (v3 _ _ (v2 _ _ er1)) (v3 _ _ er2), ?_⟩
        have sA := ((s3.trans v1).trans v2).trans v3
        have iff := there2 (k := ss[i].1[j].2.1) (x := ("to" : Str)) (y := ("by" : Str)) (n := ss[i].1[j].2.2) (a := ss.length) (b := qs.length) (by decide +kernel)
        refine ⟨_, rfl, ite2 (fun h => ?_) (fun h => ?_)⟩
        · refine (q _ ((m1.trans s2).trans sA)).2 fun z => ?_
          have := iff.mpr (z.kst _ (List.getElem_mem hil) _ (List.getElem_mem hjl))
          rw [this] at h; cases h
        · have hb : thereB ss[i].1[j].2.1 ss[i].1[j].2.2 [(("to" : Str), (ss.length : Int)), (("by" : Str), (qs.length : Int))] = true := by
            cases hh : thereB ss[i].1[j].2.1 ss[i].1[j].2.2 [(("to" : Str), (ss.length : Int)), (("by" : Str), (qs.length : Int))] with
            | true => rfl
            | false => rw [hh] at h; exact absurd rfl h
          exact ⟨_, _, _, rfl, sA, take_all hp hjl (iff.mp hb)⟩
      rintro σ H3 ⟨v4, v5, v6, rfl, s3, hp⟩
      rw [List.length_map, b2.len, List.take_length] at hp
      have c13 := s3 _ _ c1
      have c23 := c2.same s3
      refine ⟨_, rfl, E1, rfl, ⟨_, SqL.of c13⟩, for_list (xs := tE.map V.ref) (fun j σ H' => ∃ u4 u5 u6 u7, σ = [some (.ref pt), some (.ref M), some (.ref G), some (.ref E1), u4, u5, u6, u7, none, none, none] ∧ Same H3 H' ∧ ∀ p ∈ ss[i].2.take j, tlOk gs.length qs.length p) ⟨v4, v5, v6, u7, rfl, Same.refl _, fun p hp => by simp at hp⟩ (fun j σ H' _ ⟨_, _, _, _, _, s9, _⟩ => SqL.of (s9 _ _ c13)) ?_ ?_⟩
      · rintro j x σ H4 hx ⟨w4, w5, w6, w7, rfl, s4, hp2⟩
        rw [List.getElem?_map] at hx
        obtain ⟨t, ht, rfl⟩ := Option.map_eq_some_iff.mp hx
        have hjl : j < ss[i].2.length := by rw [← c2.len]; exact (List.getElem?_eq_some_iff.mp ht).1
        have et := (c23.same s4).at_ j t _ ht (List.getElem?_eq_getElem hjl)
        have eM3 := s4 _ _ (s3 _ _ (s2 _ _ eM))
        refine ⟨t, _, rfl, SqT.of et, rfl, _, _, rfl, _, _, rfl, _, _, rfl, _, _, rfl, rfl, ?_⟩
        try dsimp only
        refine ⟨_, rfl, _, rfl, _, rfl, Or.inl ⟨M, _, _, .int (gs.length : Nat), rfl, rfl, SqL.of eM3, rfl, two_le, fun r1 hr1 => ?_⟩⟩
        have v1 := same_new (o := .tup [.str "thing", .int (gs.length : Nat)]) hr1
        have er1 : (upd H4 r1 (.tup [.str "thing", .int (gs.length : Nat)])) r1 = some (.tup [.str "thing", .int (gs.length : Nat)]) := upd_same
        generalize upd H4 r1 (.tup [.str "thing", .int (gs.length : Nat)]) = H5 at v1 er1 ⊢
        refine ⟨_, rfl, Or.inl ⟨M, _, _, .int (qs.length : Nat), rfl, rfl, SqL.of (v1 _ _ eM3), rfl, two_le, fun r2 hr2 => ?_⟩⟩
        have v2 := same_new (o := .tup [.str "by", .int (qs.length : Nat)]) hr2
        have er2 : (upd H5 r2 (.tup [.str "by", .int (qs.length : Nat)])) r2 = some (.tup [.str "by", .int (qs.length : Nat)]) := upd_same
        generalize upd H5 r2 (.tup [.str "by", .int (qs.length : Nat)]) = H6 at v2 er2 ⊢
        refine ⟨two_le, fun D hD => ?_⟩
        have v3 := same_new (o := .lst [.ref r1, .ref r2]) hD
        have eD : (upd H6 D (.lst [.ref r1, .ref r2])) D = some (.lst ([r1, r2].map V.ref)) := upd_same
        generalize upd H6 D (.lst [.ref r1, .ref r2]) = H7 at v3 eD ⊢
        refine ⟨_, _, D, [r1, r2], [("thing", (gs.length : Int)), ("by", (qs.length : Int))], rfl, eD, gt2 (v3 _ _ (v2 _ _ er1)) (v3 _ _ er2), ?_⟩
        have sA := ((s4.trans v1).trans v2).trans v3
        have iff := there2 (k := ss[i].2[j].2.2.1) (x := ("thing" : Str)) (y := ("by" : Str)) (n := ss[i].2[j].2.2.2) (a := gs.length) (b := qs.length) (by decide +kernel)
        refine ⟨_, rfl, ite2 (fun h => ?_) (fun h => ?_)⟩
        · refine (q _ (((m1.trans s2).trans s3).trans sA)).2 fun z => ?_
          have := iff.mpr (z.ktl _ (List.getElem_mem hil) _ (List.getElem_mem hjl))
          rw [this] at h; cases h
        · have hb : thereB ss[i].2[j].2.2.1 ss[i].2[j].2.2.2 [(("thing" : Str), (gs.length : Int)), (("by" : Str), (qs.length : Int))] = true := by
            cases hh : thereB ss[i].2[j].2.2.1 ss[i].2[j].2.2.2 [(("thing" : Str), (gs.length : Int)), (("by" : Str), (qs.length : Int))] with
            | true => rfl
            | false => rw [hh] at h; exact absurd rfl h
          exact ⟨_, _, _, _, rfl, sA, take_all hp2 hjl (iff.mp hb)⟩
      rintro σ H4 ⟨w4, w5, w6, w7, rfl, s4, hp2⟩
      rw [List.length_map, c2.len, List.take_length] at hp2
      exact ⟨_, _, _, _, _, _, rfl, (s2.trans s3).trans s4, take_all hk hil ⟨hp, hp2⟩⟩
    rintro σ H2 ⟨u2, u3, u4, u5, u6, u7, rfl, s2, hk⟩
    rw [lu, List.take_length] at hk
    have N2 := N1.same s2
    refine ⟨_, rfl, Or.inr (Or.inl ⟨pt, _, _, .ref T, rfl, rfl, SqT.of (s2 _ _ (m1 _ _ ept)), rfl, T, rfl, ⟨_, SqL.of N2.et⟩, for_list (xs := ts.map V.ref) (fun j σ H' => ∃ u5 u6, σ = [some (.ref pt), some (.ref M), u2, u3, u4, u5, u6, u7, none, none, none] ∧ Same H2 H' ∧ ∀ p ∈ gs.take j, thOk ss.length qs.length p) ⟨u5, u6, rfl, Same.refl _, fun p hp => by simp at hp⟩ (fun j σ H' _ ⟨_, _, _, s9, _⟩ => SqL.of (s9 _ _ N2.et)) ?_ ?_⟩)⟩
    · rintro j x σ H3 hx ⟨v5, v6, rfl, s3, hp⟩
      rw [List.getElem?_map] at hx
      obtain ⟨t, ht, rfl⟩ := Option.map_eq_some_iff.mp hx
      have hjl : j < gs.length := by rw [← hN.tg.len]; exact (List.getElem?_eq_some_iff.mp ht).1
      have et := (N2.tg.same s3).at_ j t _ ht (List.getElem?_eq_getElem hjl)
      have eM3 := s3 _ _ (s2 _ _ eM)
      refine ⟨t, _, rfl, SqT.of et, rfl, _, _, rfl, _, _, rfl, rfl, ?_⟩
      try dsimp only
      refine ⟨_, rfl, _, rfl, two_le, fun r0 hr0 => ?_⟩
      have v0 := same_new (o := .tup [.str "plain", .int 1]) hr0
      have er0 : (upd H3 r0 (.tup [.str "plain", .int 1])) r0 = some (.tup [.str "plain", .int 1]) := upd_same
      generalize upd H3 r0 (.tup [.str "plain", .int 1]) = H4 at v0 er0 ⊢
      refine ⟨_, rfl, Or.inl ⟨M, _, _, .int (ss.length : Nat), rfl, rfl, SqL.of (v0 _ _ eM3), rfl, two_le, fun r1 hr1 => ?_⟩⟩
      have v1 := same_new (o := .tup [.str "part", .int (ss.length : Nat)]) hr1
      have er1 : (upd H4 r1 (.tup [.str "part", .int (ss.length : Nat)])) r1 = some (.tup [.str "part", .int (ss.length : Nat)]) := upd_same
      generalize upd H4 r1 (.tup [.str "part", .int (ss.length : Nat)]) = H5 at v1 er1 ⊢
      refine ⟨_, rfl, Or.inl ⟨M, _, _, .int (qs.length : Nat), rfl, rfl, SqL.of (v1 _ _ (v0 _ _ eM3)), rfl, two_le, fun r2 hr2 => ?_⟩⟩
      have v2 := same_new (o := .tup [.str "sort", .int (qs.length : Nat)]) hr2
      have er2 : (upd H5 r2 (.tup [.str "sort", .int (qs.length : Nat)])) r2 = some (.tup [.str "sort", .int (qs.length : Nat)]) := upd_same
      generalize upd H5 r2 (.tup [.str "sort", .int (qs.length : Nat)]) = H6 at v2 er2 ⊢
      refine ⟨three_le, fun D hD => ?_⟩
      have v3 := same_new (o := .lst [.ref r0, .ref r1, .ref r2]) hD
      have eD : (upd H6 D (.lst [.ref r0, .ref r1, .ref r2])) D = some (.lst ([r0, r1, r2].map V.ref)) := upd_same
      generalize upd H6 D (.lst [.ref r0, .ref r1, .ref r2]) = H7 at v3 eD ⊢
      refine ⟨_, _, D, [r0, r1, r2], [("plain", (1 : Int)), ("part", (ss.length : Int)), ("sort", (qs.length : Int))], rfl, eD, gt3 (v3 _ _ (v2 _ _ (v1 _ _ er0))) (v3 _ _ (v2 _ _ er1)) (v3 _ _ er2), ?_⟩
      have sA := (((s3.trans v0).trans v1).trans v2).trans v3
      have iff := there3 (k := gs[j].1) (n := gs[j].2) (a := ss.length) (b := qs.length)
      refine ⟨_, rfl, ite2 (fun h => ?_) (fun h => ?_)⟩
      · refine (q _ ((m1.trans s2).trans sA)).2 fun z => ?_
        have := iff.mpr (z.kth _ (List.getElem_mem hjl))
        rw [this] at h; cases h
      · have hb : thereB gs[j].1 gs[j].2 [(("plain" : Str), (1 : Int)), (("part" : Str), (ss.length : Int)), (("sort" : Str), (qs.length : Int))] = true := by
          cases hh : thereB gs[j].1 gs[j].2 [(("plain" : Str), (1 : Int)), (("part" : Str), (ss.length : Int)), (("sort" : Str), (qs.length : Int))] with
          | true => rfl
          | false => rw [hh] at h; exact absurd rfl h
        exact ⟨_, _, rfl, sA, take_all hp hjl (iff.mp hb)⟩
    rintro σ H3 ⟨v5, v6, rfl, s3, hp⟩
    rw [lt, List.take_length] at hp
    have N3 := N2.same s3
    have eM3 := s3 _ _ (s2 _ _ eM)
    have sA := (m1.trans s2).trans s3
    refine ⟨_, rfl, Or.inr (Or.inl ⟨pt, _, _, .ref R, rfl, rfl, SqT.of (sA _ _ ept), rfl, R, rfl, ⟨_, SqL.of N3.er⟩, for_list (xs := qt.map V.ref) (fun j σ H' => ∃ u8 u9 u10, σ = [some (.ref pt), some (.ref M), u2, u3, u4, v5, v6, u7, u8, u9, u10] ∧ H' = H3 ∧ ∀ z ∈ qs.take j, 0 ≤ z.1 ∧ z.1 < ss.length ∧ 0 ≤ z.2.1) ⟨none, none, none, rfl, rfl, fun p hp => by simp at hp⟩ (fun j σ H' _ ⟨_, _, _, _, e, _⟩ => by rw [e]; exact SqL.of N3.er) ?_ ?_⟩)⟩
    · rintro j x σ H4 hx ⟨w8, w9, w10, rfl, rfl, hz⟩
      rw [List.getElem?_map] at hx
      obtain ⟨t, ht, rfl⟩ := Option.map_eq_some_iff.mp hx
      have hjl : j < qs.length := by rw [← hN.tq.len]; exact (List.getElem?_eq_some_iff.mp ht).1
      obtain ⟨u, a1, a2⟩ := N3.tq.at_ j t _ ht (List.getElem?_eq_getElem hjl)
      refine ⟨t, _, rfl, SqT.of a1, rfl, _, _, rfl, _, _, rfl, _, _, rfl, rfl, ?_⟩
      try dsimp only
      have no : ¬ (0 ≤ qs[j].1 ∧ qs[j].1 < ss.length ∧ 0 ≤ qs[j].2.1) → Q (.bl false) H4 := fun z => (q _ sA).2 fun y => z (y.kq _ (List.getElem_mem hjl))
      refine ⟨_, rfl, _, _, rfl, rfl, _, rfl, ite2 (fun h => iteT (no fun z => ?_)) (fun h => ?_)⟩
      · have := of_decide_eq_true h; omega
      have h1 : 0 ≤ qs[j].2.1 := Int.not_lt.mp fun z => h (decide_eq_true z)
      refine ⟨_, rfl, _, _, rfl, rfl, _, rfl, ite2 (fun h => iteT (no fun z => ?_)) (fun h => ?_)⟩
      · have := of_decide_eq_true h; omega
      have h2 : 0 ≤ qs[j].1 := Int.not_lt.mp fun z => h (decide_eq_true z)
      refine ⟨_, rfl, _, rfl, Or.inl ⟨M, _, _, .int (ss.length : Nat), rfl, rfl, SqL.of eM3, rfl, _, _, rfl, rfl, _, rfl, ite2 (fun h => no fun z => ?_) (fun h => ?_)⟩⟩
      · have := of_decide_eq_true h; omega
      have h3 : qs[j].1 < ss.length := Int.not_le.mp fun z => h (decide_eq_true z)
      exact ⟨_, _, _, rfl, rfl, take_all hz hjl ⟨h2, h3, h1⟩⟩
    rintro σ H4 ⟨w8, w9, w10, rfl, rfl, hz⟩
    rw [lq, List.take_length] at hz
    exact (q _ sA).1 ⟨fun s hs => (hk s hs).1, fun s hs => (hk s hs).2, hp, hz⟩
theorem call__law_placed {f : Addr} {fd : FuncData} (B : Blt mg) (ER : Ers K mg) (c__law_there : Callee P w K mg base "_law_there" 1 ["_law_kind_here", "_law_number_here", "_law_rows"] (sp__law_there K)) (F : Fun K "_law_placed" "_law_placed" s__law_placed f fd) (hm : mg "_law_placed" = some (.ref f)) : Callee P w K mg base "_law_placed" 2 ["_law_parts"] (sp__law_placed K) :=
  ⟨f, fd, ok__law_placed B ER c__law_there F, hm, F.kp, F.binds fun _ _ _ _ _ _ us hl => (by obtain ⟨x0, rfl⟩ := len_1 hl; rfl)⟩

def sp__law_due (K : PySem.W.Frag) : Sp := fun vs H Q _ => ∃ (pt S T R : Addr) (us Gs Es ts qt : List Addr) (ss : List Sco) (gs : List (Str × Int)) (qs : List Qu), vs = [.ref pt] ∧ H pt = some (.tup [.ref S, .ref T, .ref R]) ∧ Net3 H S T R us Gs Es ts qt ss gs qs ∧ Bd 100 ss gs qs ∧ ∀ H', Same H H' → (¬ NFits ss gs qs → Q (.int 0) H') ∧ (NFits ss gs qs → ¬ NNames ss qs → Q (.int 1) H') ∧ (NFits ss gs qs → NNames ss qs → ¬ NPlaces ss gs qs → Q (.int 2) H') ∧ (NFits ss gs qs → NNames ss qs → NPlaces ss gs qs → Q .non H')
set_option maxHeartbeats 4000000 in
seal L2.PE L2.PA L2.PS L2.PSs L2.PT L2.PW L2.PC L2.PG L2.PGs L2.PI L2.PF L2.PSet L2.OpR L2.UnR L2.CallR L2.MtR L2.IxR L2.SlR L2.PO in
theorem ok__law_due {f : Addr} {fd : FuncData} (B : Blt mg) (ER : Ers K mg) (c__law_great : Callee P w K mg base "_law_great" 1 ["_law_parts"] (sp__law_great K)) (c__law_words_of : Callee P w K mg base "_law_words_of" 1 ["_law_parts"] (sp__law_words_of K)) (c__law_is_word : Callee P w K mg base "_law_is_word" 1 ["_law_word_here"] (sp__law_is_word K)) (c__law_placed : Callee P w K mg base "_law_placed" 2 ["_law_parts"] (sp__law_placed K)) (F : Fun K "_law_due" "_law_due" s__law_due f fd) : FnOk P w K mg base CX0 3 f fd ["_law_parts"] (sp__law_due K) := by
  refine F.ok sc__law_due (fun vs H Q E h => ?_) (fun cdv A outer s H vs Q E hr h => ?_)
  · obtain ⟨pt, S, T, R, us, Gs, Es, ts, qt, ss, gs, qs, rfl, _⟩ := h
    rfl
  · obtain ⟨pt, S, T, R, us, Gs, Es, ts, qt, ss, gs, qs, rfl, ept, hN, bd, q⟩ := h
    refine ⟨_, (pss_cons (ps_if (pt_val (pe_fn c__law_great (hr.mono (by decide)) rfl (pa_cons (pv 0) pa_nil))) (pss_one (ps_ret pe_int)) pss_nil)
      (pss_cons (ps_for PassesOwn.never rfl (pi_list (pe_fn c__law_words_of (hr.mono (by decide)) rfl (pa_cons (pv 0) pa_nil))) (pg_name (i := 1) sc__law_due.nd rfl (Or.inl rfl)) (pss_one (ps_if (pt_not (pt_val (pe_fn c__law_is_word (hr.mono (by decide)) rfl (pa_cons (pv 1) pa_nil)))) (pss_one (ps_ret pe_int)) pss_nil)))
      (pss_cons (ps_if (pt_not (pt_val (pe_fn c__law_placed (hr.mono (by decide)) rfl (pa_cons (pv 0) pa_nil)))) (pss_one (ps_ret pe_int)) pss_nil)
      (pss_one (ps_ret pe_non))))), ?_⟩
    refine ⟨_, rfl, pt, S, T, R, us, Gs, Es, ts, qt, ss, gs, qs, rfl, ept, hN, bd.q, fun H1 s1 => ⟨fun hf => ⟨_, rfl, iteF ?_⟩, fun hf => ⟨_, rfl, iteT ((q _ s1).1 hf)⟩⟩⟩
    have N1 := hN.same s1
    refine ⟨_, rfl, pt, S, T, R, us, Gs, Es, ts, qt, ss, gs, qs, rfl, s1 _ _ ept, N1, bd.s, bd.q, bd.c, bd.p, bd.w, fun D ws H2 s2 eD hl hiff => ?_⟩
    have s02 := s1.trans s2
    refine ⟨D, rfl, ⟨_, SqL.of eD⟩, for_list (xs := ws.map V.str) (fun i σ H' => ∃ u1, σ = [some (.ref pt), u1] ∧ Same H2 H' ∧ ∀ x ∈ ws.take i, nameB x = true) ⟨none, rfl, Same.refl _, fun x hx => by simp at hx⟩ (fun i σ H' _ ⟨_, _, s9, _⟩ => SqL.of (s9 _ _ eD)) ?_ ?_⟩
    · rintro i x σ H3 hx ⟨u1, rfl, s3, hk⟩
      rw [List.getElem?_map] at hx
      obtain ⟨x, hy, rfl⟩ := Option.map_eq_some_iff.mp hx
      obtain ⟨hil, ex⟩ := List.getElem?_eq_some_iff.mp hy
      have xm : x ∈ ws := List.mem_of_getElem? hy
      refine ⟨_, rfl, x, rfl, hl x xm, fun H4 s4 => ?_⟩
      refine ⟨_, rfl, ite2 (fun h => ?_) (fun h => ?_)⟩
      · refine (q _ ((s02.trans s3).trans s4)).2.1 hf fun z => ?_
        rw [hiff.mpr z x xm] at h; cases h
      · have hb : nameB x = true := by
          cases hh : nameB x with
          | true => rfl
          | false => rw [hh] at h; exact absurd rfl h
        exact ⟨_, rfl, s3.trans s4, take_all hk hil (by rw [ex]; exact hb)⟩
    rintro σ H3 ⟨u1, rfl, s3, hk⟩
    rw [List.length_map, List.take_length] at hk
    have hn := hiff.mp hk
    have s03 := s02.trans s3
    refine ⟨_, rfl, pt, S, T, R, us, Gs, Es, ts, qt, ss, gs, qs, rfl, s03 _ _ ept, hN.same s03, fun H4 s4 => ⟨fun hp => ⟨_, rfl, iteF ((q _ (s03.trans s4)).2.2.2 hf hn hp)⟩, fun hp => ⟨_, rfl, iteT ((q _ (s03.trans s4)).2.2.1 hf hn hp)⟩⟩⟩
theorem call__law_due {f : Addr} {fd : FuncData} (B : Blt mg) (ER : Ers K mg) (c__law_great : Callee P w K mg base "_law_great" 1 ["_law_parts"] (sp__law_great K)) (c__law_words_of : Callee P w K mg base "_law_words_of" 1 ["_law_parts"] (sp__law_words_of K)) (c__law_is_word : Callee P w K mg base "_law_is_word" 1 ["_law_word_here"] (sp__law_is_word K)) (c__law_placed : Callee P w K mg base "_law_placed" 2 ["_law_parts"] (sp__law_placed K)) (F : Fun K "_law_due" "_law_due" s__law_due f fd) (hm : mg "_law_due" = some (.ref f)) : Callee P w K mg base "_law_due" 3 ["_law_parts"] (sp__law_due K) :=
  ⟨f, fd, ok__law_due B ER c__law_great c__law_words_of c__law_is_word c__law_placed F, hm, F.kp, F.binds fun _ _ _ _ _ _ us hl => (by obtain ⟨x0, rfl⟩ := len_1 hl; rfl)⟩

def sp__law_refused_as (K : PySem.W.Frag) : Sp := fun vs H Q _ => ∃ (D : Addr) (n : Nat), vs = [.ref D, .int n] ∧ H D = some (.lst (kindsL n)) ∧ n < 9 ∧ ∀ H', Same H H' → Q (.bl true) H'
set_option maxHeartbeats 4000000 in
seal L2.PE L2.PA L2.PS L2.PSs L2.PT L2.PW L2.PC L2.PG L2.PGs L2.PI L2.PF L2.PSet L2.OpR L2.UnR L2.CallR L2.MtR L2.IxR L2.SlR L2.PO in
theorem ok__law_refused_as {f : Addr} {fd : FuncData} (B : Blt mg) (ER : Ers K mg)  (F : Fun K "_law_refused_as" "_law_refused_as" s__law_refused_as f fd) : FnOk P w K mg base CX0 1 f fd ["_law_kinds", "_law_due_here"] (sp__law_refused_as K) := by
  refine F.ok sc__law_refused_as (fun vs H Q E h => ?_) (fun cdv A outer s H vs Q E hr h => ?_)
  · obtain ⟨D, n, rfl, _⟩ := h
    rfl
  · obtain ⟨D, n, rfl, hD, hn, q⟩ := h
    refine ⟨_, (pss_cons (ps_if (PW.pt (pw_or (pt_cmp (pc_isN (pv 0))) (pw_or1 (pt_cmpR op_isnotB (pe_ix ix_seq (pv 0) pe_int (fun _ _ => rfl)) pe_bl (nomark _))))) (pss_one (ps_ret pe_bl)) pss_nil)
      (pss_one (ps_ret (pe_cmpR (op_eqD hr.units) (pe_slice sl_list (pv 0) (po_some pe_int) po_none) (pe_comp rfl _law_refused_as_cs1 (pi_range1 rfl B.b_range (pa_cons pe_int pa_nil)) (fun _ _ _ _ _ => (pg_name (i := 0) _law_refused_as_cs1.nd rfl (Or.inl rfl))) (fun _ _ _ _ _ => pf_nil) (fun _ _ _ _ _ => (pe_cmpR op_eq (pv 0) (pv 1) (nomark _)))) (nomark _))))), ?_⟩
    refine ⟨_, rfl, _, rfl, ite2 (fun h => absurd (of_decide_eq_true h) (by simp)) (fun _ => ?_)⟩
    refine ⟨_, rfl, Or.inl ⟨D, _, _, .bl true, rfl, rfl, SqL.of hD, atI_nat (j := 0) rfl, true, true, rfl, rfl, _, rfl, iteF ?_⟩⟩
    refine ⟨_, rfl, _, rfl, D, _, rfl, SqL.of hD, fun p hp => ?_⟩
    rw [show cutV (kindsL n) (some 1) none = (List.range 9).map (fun k => V.bl (decide (k = n))) from cutV_drop (kindsL n) 1]
    have s1 := same_new (o := .lst ((List.range 9).map fun k => V.bl (decide (k = n)))) hp
    have ep : (upd H p (.lst ((List.range 9).map fun k => V.bl (decide (k = n))))) p = some (.lst ((List.range 9).map fun k => V.bl (decide (k = n)))) := upd_same
    generalize upd H p (.lst ((List.range 9).map fun k => V.bl (decide (k = n)))) = H1 at s1 ep ⊢
    refine ⟨_, rfl, by decide, by decide, comp_rangeI (fun D i ys H' => ys = (List.range i).map (fun k => V.bl (decide (k = n))) ∧ Same H1 H' ∧ H' D = some (.lst ys)) (fun D2 hD2 => ⟨rfl, same_new hD2, upd_same⟩) (fun D2 i ys H5 RR hD2 hi hv k => ?_) (fun D2 ys H5 hD2 hv => ?_)⟩
    · obtain ⟨rfl, s5, e5⟩ := hv
      refine ⟨_, rfl, _, rfl, rfl, ?_⟩
      have e : decide (V.int (0 + (i : Int)) = V.int (n : Int)) = decide (i = n) := by
        by_cases z : i = n
        · subst z; simp
        · rw [decide_eq_false z]
          exact decide_eq_false fun y => z (by have := V.int.inj y; omega)
      rw [e]
      refine k _ _ e5 (by rw [List.length_map, List.length_range]; exact small1000 (by omega)) ⟨?_, fun b o e => ?_, upd_same⟩
      · rw [List.range_succ, List.map_append]; rfl
      · rw [upd_ne (ne_of_none e hD2)]; exact s5 _ _ e
    obtain ⟨rfl, s5, e5⟩ := hv
    have dd : ∀ H' : Hp, IsDts K H' ((List.range 9).map fun k => V.bl (decide (k = n))) ((List.range 9).map fun k => Dt.bl (decide (k = n))) := fun H' => by
      generalize List.range 9 = l
      induction l with
      | nil => exact .nil
      | cons a l ih => exact .cons (.bl _) ih
    refine ⟨2, _, _, .lst (Cmps.of fun d hd e he => ?_), by decide, .lst (SqL.of (s5 _ _ ep)) (dd _), .lst (SqL.of e5) (dd _), ?_⟩
    · obtain ⟨_, _, rfl⟩ := List.mem_map.mp hd
      obtain ⟨_, _, rfl⟩ := List.mem_map.mp he
      exact .bl _ _
    rw [dec_true rfl]
    exact q _ (s1.trans s5)
theorem call__law_refused_as {f : Addr} {fd : FuncData} (B : Blt mg) (ER : Ers K mg)  (F : Fun K "_law_refused_as" "_law_refused_as" s__law_refused_as f fd) (hm : mg "_law_refused_as" = some (.ref f)) : Callee P w K mg base "_law_refused_as" 1 ["_law_kinds", "_law_due_here"] (sp__law_refused_as K) :=
  ⟨f, fd, ok__law_refused_as B ER  F, hm, F.kp, F.binds fun _ _ _ _ _ _ us hl => (by obtain ⟨x0, x1, rfl⟩ := len_2 hl; rfl)⟩

def sp_refuse_more (K : PySem.W.Frag) : Sp := fun vs H Q E => ∃ (p : Addr) (n : Nat) (m : Int) (w : Str), vs = [.ref p, .int m, .str w] ∧ LenV K (.ref p) H n ∧ ((n : Int) ≤ m → Q .non H) ∧ (m < (n : Int) → E (.ref (clsA K "TooGreat")) none H)
set_option maxHeartbeats 4000000 in
seal L2.PE L2.PA L2.PS L2.PSs L2.PT L2.PW L2.PC L2.PG L2.PGs L2.PI L2.PF L2.PSet L2.OpR L2.UnR L2.CallR L2.MtR L2.IxR L2.SlR L2.PO in
theorem ok_refuse_more {f : Addr} {fd : FuncData} (B : Blt mg) (ER : Ers K mg)  (F : Fun K "refuse_more" "refuse_more" s_refuse_more f fd) : FnOk P w K mg base (CXE P w) 1 f fd ["parts", "most", "words"] (sp_refuse_more K) := by
  refine F.okE sc_refuse_more (fun vs H Q E h => ?_) (fun cdv A outer s H vs Q E hr h => ?_)
  · obtain ⟨p, n, m, w, rfl, _⟩ := h
    rfl
  · obtain ⟨p, n, m, w, rfl, hl, qy, qn⟩ := h
    refine ⟨_, (pss_one (ps_if (pt_cmpR op_gt (pe_callB call_len (by rfl) B.b_len (by decide +kernel) (pa_cons (pv 0) pa_nil)) (pv 1) (nomark _)) (pss_one (ps_raise throws_cx rfl ER.k_TooGreat rfl (pa_cons (pv 2) pa_nil))) pss_nil)), ?_⟩
    refine ⟨_, rfl, _, n, rfl, hl, _, rfl, _, _, rfl, rfl, _, rfl, ite2 (fun h => ?_) (fun h => ?_)⟩
    · have h := of_decide_eq_true h
      exact ⟨_, rfl, one_le, qn (by omega)⟩
    · exact qy (by
        have h : ¬ (n : Int) > m := fun z => h (decide_eq_true z)
        omega)
theorem call_refuse_more {f : Addr} {fd : FuncData} (B : Blt mg) (ER : Ers K mg)  (F : Fun K "refuse_more" "refuse_more" s_refuse_more f fd) (hm : mg "refuse_more" = some (.ref f)) : CalleeE P w K mg base "refuse_more" 1 ["parts", "most", "words"] (sp_refuse_more K) :=
  ⟨f, fd, ok_refuse_more B ER  F, hm, F.kp, F.binds fun _ _ _ _ _ _ us hl => (by obtain ⟨x0, x1, x2, rfl⟩ := len_3 hl; rfl)⟩

def sp_refuse_too_great (K : PySem.W.Frag) : Sp := fun vs H Q E => ∃ (S T R : Addr) (us Gs Es ts qt : List Addr) (ss : List Sco) (gs : List (Str × Int)) (qs : List Qu), vs = [.ref S, .ref T, .ref R] ∧ Net3 H S T R us Gs Es ts qt ss gs qs ∧ (NFits ss gs qs → Q .non H) ∧ (¬ NFits ss gs qs → E (.ref (clsA K "TooGreat")) none H)
set_option maxHeartbeats 4000000 in
seal L2.PE L2.PA L2.PS L2.PSs L2.PT L2.PW L2.PC L2.PG L2.PGs L2.PI L2.PF L2.PSet L2.OpR L2.UnR L2.CallR L2.MtR L2.IxR L2.SlR L2.PO in
theorem ok_refuse_too_great {f : Addr} {fd : FuncData} (B : Blt mg) (ER : Ers K mg) (c_refuse_more : CalleeE P w K mg base "refuse_more" 1 ["parts", "most", "words"] (sp_refuse_more K)) (F : Fun K "refuse_too_great" "refuse_too_great" s_refuse_too_great f fd) : FnOk P w K mg base (CXE P w) 2 f fd ["scopes", "things", "questions"] (sp_refuse_too_great K) := by
  refine F.okE sc_refuse_too_great (fun vs H Q E h => ?_) (fun cdv A outer s H vs Q E hr h => ?_)
  · obtain ⟨S, T, R, us, Gs, Es, ts, qt, ss, gs, qs, rfl, _⟩ := h
    rfl
  · obtain ⟨S, T, R, us, Gs, Es, ts, qt, ss, gs, qs, rfl, hN, qy, qn⟩ := h
    have lu : (us.map V.ref).length = ss.length := by rw [List.length_map, hN.sc.lu]
    have lt : (ts.map V.ref).length = gs.length := by rw [List.length_map, hN.tg.len]
    have lq : (qt.map V.ref).length = qs.length := by rw [List.length_map, hN.tq.len]
    refine ⟨_, (pss_cons (ps_expr (pe_fnE c_refuse_more throws_cx (hr.mono (by decide)) rfl (pa_cons (pv 0) (pa_cons (pe_glob (v := .int 40) rfl (Classical.choose_spec B.c_MOST_SCOPES) ⟨_, rfl⟩) (pa_cons pe_str pa_nil)))))
      (pss_cons (ps_expr (pe_fnE c_refuse_more throws_cx (hr.mono (by decide)) rfl (pa_cons (pv 1) (pa_cons (pe_glob (v := .int 80) rfl (Classical.choose_spec B.c_MOST_THINGS) ⟨_, rfl⟩) (pa_cons pe_str pa_nil)))))
      (pss_cons (ps_expr (pe_fnE c_refuse_more throws_cx (hr.mono (by decide)) rfl (pa_cons (pv 2) (pa_cons (pe_glob (v := .int 60) rfl (Classical.choose_spec B.c_MOST_QUESTIONS) ⟨_, rfl⟩) (pa_cons pe_str pa_nil)))))
      (pss_cons (ps_for PassesOwn.leaving rfl (pi_list (pv 0)) (pg_tup rfl (pgs_cons (pg_name (i := 3) sc_refuse_too_great.nd rfl (Or.inl rfl)) (pgs_cons (pg_name (i := 4) sc_refuse_too_great.nd rfl (Or.inl rfl)) pgs_nil))) (pss_cons (ps_expr (pe_fnE c_refuse_more throws_cx (hr.mono (by decide)) rfl (pa_cons (pv 3) (pa_cons (pe_glob (v := .int 8) rfl (Classical.choose_spec B.c_MOST_STEPS) ⟨_, rfl⟩) (pa_cons pe_str pa_nil)))))
        (pss_one (ps_expr (pe_fnE c_refuse_more throws_cx (hr.mono (by decide)) rfl (pa_cons (pv 4) (pa_cons (pe_glob (v := .int 12) rfl (Classical.choose_spec B.c_MOST_TELLINGS) ⟨_, rfl⟩) (pa_cons pe_str pa_nil))))))))
      (pss_one (ps_for PassesOwn.leaving rfl (pi_list (pv 2)) (pg_tup rfl (pgs_cons (pg_name (i := 5) sc_refuse_too_great.nd rfl (Or.inl rfl)) (pgs_cons (pg_name (i := 6) sc_refuse_too_great.nd rfl (Or.inl rfl)) (pgs_cons (pg_name (i := 7) sc_refuse_too_great.nd rfl (Or.inl rfl)) pgs_nil)))) (pss_one (ps_expr (pe_fnE c_refuse_more throws_cx (hr.mono (by decide)) rfl (pa_cons (pv 7) (pa_cons (pe_glob (v := .int 6) rfl (Classical.choose_spec B.c_LONGEST_PATH) ⟨_, rfl⟩) (pa_cons pe_str pa_nil)))))))))))), ?_⟩
    refine ⟨_, rfl, S, _, 40, _, rfl, Or.inl ⟨_, SqL.of hN.sc.top, rfl⟩, fun l1 => ?_, fun h => qn fun z => by have := z.ls; rw [lu] at h; omega⟩
    refine ⟨_, rfl, T, _, 80, _, rfl, Or.inl ⟨_, SqL.of hN.et, rfl⟩, fun l2 => ?_, fun h => qn fun z => by have := z.lg; rw [lt] at h; omega⟩
    refine ⟨_, rfl, R, _, 60, _, rfl, Or.inl ⟨_, SqL.of hN.er, rfl⟩, fun l3 => ?_, fun h => qn fun z => by have := z.lq; rw [lq] at h; omega⟩
    rw [lu] at l1
    rw [lt] at l2
    rw [lq] at l3
    refine ⟨_, rfl, S, rfl, ⟨_, SqL.of hN.sc.top⟩, for_list (xs := us.map V.ref) (fun i σ H' => ∃ u3 u4, σ = [some (.ref S), some (.ref T), some (.ref R), u3, u4, none, none, none] ∧ H' = H ∧ ∀ s ∈ ss.take i, s.1.length ≤ 8 ∧ s.2.length ≤ 12) ⟨none, none, rfl, rfl, fun s hs => by simp at hs⟩ (fun i σ H' _ ⟨_, _, _, e, _⟩ => by rw [e]; exact SqL.of hN.sc.top) ?_ ?_⟩
    · rintro i x σ H2 hx ⟨u3, u4, rfl, rfl, hall⟩
      rw [List.getElem?_map] at hx
      obtain ⟨u, hu, rfl⟩ := Option.map_eq_some_iff.mp hx
      have hil : i < ss.length := by rw [← hN.sc.lu]; exact (List.getElem?_eq_some_iff.mp hu).1
      obtain ⟨u', G, E1, g1, g2, g3, g4, ⟨a1, ⟨tG, b1, b2⟩, ⟨tE, c1, c2⟩⟩⟩ := hN.sc.get hil
      rw [hu] at g1; cases g1
      refine ⟨u, _, rfl, SqT.of a1, rfl, _, _, rfl, _, _, rfl, rfl, ?_⟩
      refine ⟨_, rfl, G, _, 8, _, rfl, Or.inl ⟨_, SqL.of b1, rfl⟩, fun k1 => ?_, fun h => qn fun z => by
        have := z.st8 _ (List.getElem_mem hil)
        rw [List.length_map, b2.len] at h; omega⟩
      refine ⟨_, rfl, E1, _, 12, _, rfl, Or.inl ⟨_, SqL.of c1, rfl⟩, fun k2 => ?_, fun h => qn fun z => by
        have := z.tl12 _ (List.getElem_mem hil)
        rw [List.length_map, c2.len] at h; omega⟩
      rw [List.length_map, b2.len] at k1
      rw [List.length_map, c2.len] at k2
      exact ⟨_, _, rfl, rfl, take_all hall hil ⟨by omega, by omega⟩⟩
    rintro σ H2 ⟨u3, u4, rfl, rfl, hall⟩
    rw [lu, List.take_length] at hall
    refine ⟨_, rfl, R, rfl, ⟨_, SqL.of hN.er⟩, for_list (xs := qt.map V.ref) (fun i σ H' => ∃ u5 u6 u7, σ = [some (.ref S), some (.ref T), some (.ref R), u3, u4, u5, u6, u7] ∧ H' = H2 ∧ ∀ q ∈ qs.take i, q.2.2.length ≤ 6) ⟨none, none, none, rfl, rfl, fun s hs => by simp at hs⟩ (fun i σ H' _ ⟨_, _, _, _, e, _⟩ => by rw [e]; exact SqL.of hN.er) ?_ ?_⟩
    · rintro i x σ H3 hx ⟨u5, u6, u7, rfl, rfl, hq⟩
      rw [List.getElem?_map] at hx
      obtain ⟨t, ht, rfl⟩ := Option.map_eq_some_iff.mp hx
      have hil : i < qs.length := by rw [← hN.tq.len]; exact (List.getElem?_eq_some_iff.mp ht).1
      obtain ⟨u, a1, a2⟩ := hN.tq.at_ i t _ ht (List.getElem?_eq_getElem hil)
      refine ⟨t, _, rfl, SqT.of a1, rfl, _, _, rfl, _, _, rfl, _, _, rfl, rfl, ?_⟩
      refine ⟨_, rfl, u, _, 6, _, rfl, Or.inr ⟨_, SqT.of a2, rfl⟩, fun k1 => ?_, fun h => qn fun z => by
        have := z.p6 _ (List.getElem_mem hil)
        rw [List.length_map] at h; omega⟩
      rw [List.length_map] at k1
      exact ⟨_, _, _, rfl, rfl, take_all hq hil (by omega)⟩
    rintro σ H3 ⟨u5, u6, u7, rfl, rfl, hq⟩
    rw [lq, List.take_length] at hq
    exact qy ⟨by omega, by omega, by omega, fun s hs => (hall s hs).1, fun s hs => (hall s hs).2, hq⟩
theorem call_refuse_too_great {f : Addr} {fd : FuncData} (B : Blt mg) (ER : Ers K mg) (c_refuse_more : CalleeE P w K mg base "refuse_more" 1 ["parts", "most", "words"] (sp_refuse_more K)) (F : Fun K "refuse_too_great" "refuse_too_great" s_refuse_too_great f fd) (hm : mg "refuse_too_great" = some (.ref f)) : CalleeE P w K mg base "refuse_too_great" 2 ["scopes", "things", "questions"] (sp_refuse_too_great K) :=
  ⟨f, fd, ok_refuse_too_great B ER c_refuse_more F, hm, F.kp, F.binds fun _ _ _ _ _ _ us hl => (by obtain ⟨x0, x1, x2, rfl⟩ := len_3 hl; rfl)⟩

def sp_words_told (K : PySem.W.Frag) : Sp := fun vs H Q _ => ∃ (S T R : Addr) (us Gs Es ts qt : List Addr) (ss : List Sco) (gs : List (Str × Int)) (qs : List Qu), vs = [.ref S, .ref R] ∧ Net3 H S T R us Gs Es ts qt ss gs qs ∧ NFits ss gs qs ∧
  ∀ (D : Addr) (H' : Hp), H D = none → Same H H' → H' D = some (.lst ((wordsN ss qs).map V.str)) → Q (.ref D) H'
set_option maxHeartbeats 4000000 in
seal L2.PE L2.PA L2.PS L2.PSs L2.PT L2.PW L2.PC L2.PG L2.PGs L2.PI L2.PF L2.PSet L2.OpR L2.UnR L2.CallR L2.MtR L2.IxR L2.SlR L2.PO in
theorem ok_words_told {f : Addr} {fd : FuncData} (B : Blt mg) (ER : Ers K mg)  (F : Fun K "words_told" "words_told" s_words_told f fd) : FnOk P w K mg base CX0 1 f fd ["scopes", "questions"] (sp_words_told K) := by
  refine F.ok sc_words_told (fun vs H Q E h => ?_) (fun cdv A outer s H vs Q E hr h => ?_)
  · obtain ⟨S, T, R, us, Gs, Es, ts, qt, ss, gs, qs, rfl, _⟩ := h
    rfl
  · obtain ⟨S, T, R, us, Gs, Es, ts, qt, ss, gs, qs, rfl, hN, hF, q⟩ := h
    have l1 := hF.ls
    have l3 := hF.lq
    have w32 : ∀ i, ((ss.take i).flatMap wordsS).length ≤ 1280 := fun i => by
      have := flat_len (f := wordsS) (m := 32) (xs := ss.take i) fun s hs => wordsS_len ⟨hF.st8 s (List.mem_of_mem_take hs), hF.tl12 s (List.mem_of_mem_take hs)⟩
      rw [List.length_take] at this
      omega
    have w6 : ∀ i, ((qs.take i).flatMap (·.2.2)).length ≤ 360 := fun i => by
      have := flat_len (f := fun q : Qu => q.2.2) (m := 6) (xs := qs.take i) fun s hs => hF.p6 s (List.mem_of_mem_take hs)
      rw [List.length_take] at this
      omega
    refine ⟨_, (pss_cons (ps_set (i := 2) sc_words_told.nd rfl (Or.inl rfl) (pe_lst pa_nil))
      (pss_cons (ps_for PassesOwn.never rfl (pi_list (pv 0)) (pg_tup rfl (pgs_cons (pg_name (i := 3) sc_words_told.nd rfl (Or.inl rfl)) (pgs_cons (pg_name (i := 4) sc_words_told.nd rfl (Or.inl rfl)) pgs_nil))) (pss_cons (ps_for PassesOwn.never rfl (pi_list (pv 3)) (pg_tup rfl (pgs_cons (pg_name (i := 5) sc_words_told.nd rfl (Or.inl rfl)) (pgs_cons (pg_name (i := 6) sc_words_told.nd rfl (Or.inl rfl)) (pgs_cons (pg_name (i := 7) sc_words_told.nd rfl (Or.inl rfl)) pgs_nil)))) (pss_one (ps_expr (pe_bm PySem.F.plainAttrs_list PySem.F.slot_list_append PySem.F.type_list_append mr_append (pv 2) (pa_cons (pv 5) pa_nil)))))
        (pss_one (ps_for PassesOwn.never rfl (pi_list (pv 4)) (pg_tup rfl (pgs_cons (pg_name (i := 5) sc_words_told.nd rfl (Or.inl rfl)) (pgs_cons (pg_name (i := 8) sc_words_told.nd rfl (Or.inl rfl)) (pgs_cons (pg_name (i := 6) sc_words_told.nd rfl (Or.inl rfl)) (pgs_cons (pg_name (i := 7) sc_words_told.nd rfl (Or.inl rfl)) pgs_nil))))) (pss_cons (ps_expr (pe_bm PySem.F.plainAttrs_list PySem.F.slot_list_append PySem.F.type_list_append mr_append (pv 2) (pa_cons (pv 5) pa_nil)))
          (pss_one (ps_expr (pe_bm PySem.F.plainAttrs_list PySem.F.slot_list_append PySem.F.type_list_append mr_append (pv 2) (pa_cons (pv 8) pa_nil)))))))))
      (pss_cons (ps_for PassesOwn.never rfl (pi_list (pv 1)) (pg_tup rfl (pgs_cons (pg_name (i := 9) sc_words_told.nd rfl (Or.inl rfl)) (pgs_cons (pg_name (i := 10) sc_words_told.nd rfl (Or.inl rfl)) (pgs_cons (pg_name (i := 11) sc_words_told.nd rfl (Or.inl rfl)) pgs_nil)))) (pss_one (ps_expr (pe_bm PySem.F.plainAttrs_list PySem.F.slot_list_extend PySem.F.type_list_extend mr_extendT (pv 2) (pa_cons (pv 11) pa_nil)))))
      (pss_one (ps_ret (pv 2)))))), ?_⟩
    refine ⟨by decide, fun D hD => ?_⟩
    have s1 := same_new (o := .lst []) hD
    have eD1 : (upd H D (.lst [])) D = some (.lst []) := upd_same
    generalize upd H D (.lst []) = H1 at s1 eD1 ⊢
    have keep : ∀ {H2 : Hp} {o : HO}, Same H H2 → Same H (upd H2 D o) := fun s b o' e => by
      rw [upd_ne (ne_of_none e hD)]; exact s _ _ e
    refine ⟨_, rfl, S, rfl, ⟨_, SqL.of (s1 _ _ hN.sc.top)⟩, for_list (xs := us.map V.ref) (fun i σ H' => ∃ u3 u4 u5 u6 u7 u8, σ = [some (.ref S), some (.ref R), some (.ref D), u3, u4, u5, u6, u7, u8, none, none, none] ∧ Same H H' ∧ H' D = some (.lst (((ss.take i).flatMap wordsS).map V.str)))
      ⟨none, none, none, none, none, none, rfl, s1, eD1⟩ (fun i σ H' _ ⟨_, _, _, _, _, _, _, s, _⟩ => SqL.of (s _ _ hN.sc.top)) ?_ ?_⟩
    · rintro i x σ H2 hx ⟨u3, u4, u5, u6, u7, u8, rfl, s2, eD2⟩
      rw [List.getElem?_map] at hx
      obtain ⟨u, hu, rfl⟩ := Option.map_eq_some_iff.mp hx
      have hil : i < ss.length := by rw [← hN.sc.lu]; exact (List.getElem?_eq_some_iff.mp hu).1
      obtain ⟨u', G, E1, g1, g2, g3, g4, ⟨a1, ⟨tG, b1, b2⟩, ⟨tE, c1, c2⟩⟩⟩ := hN.sc.get hil
      rw [hu] at g1; cases g1
      have k1 := hF.st8 _ (List.getElem_mem hil)
      have k2 := hF.tl12 _ (List.getElem_mem hil)
      have lG := b2.len
      have lE := c2.len
      have w0 := w32 i
      obtain ⟨w, hw⟩ : ∃ w, w = (ss.take i).flatMap wordsS := ⟨_, rfl⟩
      rw [← hw] at eD2 w0
      refine ⟨u, _, rfl, SqT.of (s2 _ _ a1), rfl, _, _, rfl, _, _, rfl, rfl, ?_⟩
      refine ⟨_, rfl, G, rfl, ⟨_, SqL.of (s2 _ _ b1)⟩, for_list (xs := tG.map V.ref) (fun j σ H' => ∃ u5 u6 u7, σ = [some (.ref S), some (.ref R), some (.ref D), some (.ref G), some (.ref E1), u5, u6, u7, u8, none, none, none] ∧ Same H H' ∧ H' D = some (.lst ((w ++ (ss[i].1.take j).map (·.1)).map V.str)))
        ⟨_, _, _, rfl, s2, by rw [eD2]; simp⟩ (fun i σ H' _ ⟨_, _, _, _, s, _⟩ => SqL.of (s _ _ b1)) ?_ ?_⟩
      · rintro j y σ H3 hy ⟨u5, u6, u7, rfl, s3, eD3⟩
        rw [List.getElem?_map] at hy
        obtain ⟨t, ht, rfl⟩ := Option.map_eq_some_iff.mp hy
        have hjl : j < ss[i].1.length := by rw [← lG]; exact (List.getElem?_eq_some_iff.mp ht).1
        have et := b2.at_ j t _ ht (List.getElem?_eq_getElem hjl)
        refine ⟨t, _, rfl, SqT.of (s3 _ _ et), rfl, _, _, rfl, _, _, rfl, _, _, rfl, rfl, ?_⟩
        refine ⟨_, rfl, Or.inl ⟨rfl, _, SqL.of eD3⟩, _, rfl, D, _, _, rfl, rfl, eD3, by rw [List.length_map, List.length_append, List.length_map, List.length_take]; exact small_sz (by omega), ?_⟩
        exact ⟨_, _, _, rfl, keep s3, by rw [upd_same, map_take hjl]; simp⟩
      rintro σ H3 ⟨u5, u6, u7, rfl, s3, eD3⟩
      rw [List.length_map, lG, List.take_length] at eD3
      refine ⟨_, rfl, E1, rfl, ⟨_, SqL.of (s3 _ _ c1)⟩, for_list (xs := tE.map V.ref) (fun j σ H' => ∃ u5 u6 u7 u8, σ = [some (.ref S), some (.ref R), some (.ref D), some (.ref G), some (.ref E1), u5, u6, u7, u8, none, none, none] ∧ Same H H' ∧ H' D = some (.lst ((w ++ (ss[i].1.map (·.1) ++ (ss[i].2.take j).flatMap fun p => [p.1, p.2.1])).map V.str)))
        ⟨_, _, _, _, rfl, s3, by rw [eD3]; simp⟩ (fun i σ H' _ ⟨_, _, _, _, _, s, _⟩ => SqL.of (s _ _ c1)) ?_ ?_⟩
      · rintro j y σ H4 hy ⟨u5, u6, u7, u8, rfl, s4, eD4⟩
        rw [List.getElem?_map] at hy
        obtain ⟨t, ht, rfl⟩ := Option.map_eq_some_iff.mp hy
        have hjl : j < ss[i].2.length := by rw [← lE]; exact (List.getElem?_eq_some_iff.mp ht).1
        have et := c2.at_ j t _ ht (List.getElem?_eq_getElem hjl)
        have lw : ((w ++ (ss[i].1.map (·.1) ++ (ss[i].2.take j).flatMap fun p => [p.1, p.2.1])).map V.str).length ≤ 1400 := by
          rw [List.length_map, List.length_append, List.length_append, List.length_map, flat_two, List.length_take]; omega
        generalize hL : (w ++ (ss[i].1.map (·.1) ++ (ss[i].2.take j).flatMap fun p => [p.1, p.2.1])).map V.str = L at eD4 lw
        refine ⟨t, _, rfl, SqT.of (s4 _ _ et), rfl, _, _, rfl, _, _, rfl, _, _, rfl, _, _, rfl, rfl, ?_⟩
        refine ⟨_, rfl, Or.inl ⟨rfl, _, SqL.of eD4⟩, _, rfl, D, _, _, rfl, rfl, eD4, small_sz (by omega), ?_⟩
        have eD5 : (upd H4 D (.lst (L ++ [.str ss[i].2[j].1]))) D = some (.lst (L ++ [.str ss[i].2[j].1])) := upd_same
        refine ⟨_, rfl, Or.inl ⟨rfl, _, SqL.of eD5⟩, _, rfl, D, _, _, rfl, rfl, eD5, by rw [List.length_append, List.length_singleton]; exact small_sz (by omega), ?_⟩
        refine ⟨_, _, _, _, rfl, keep (keep s4), ?_⟩
        rw [upd_same, flat_take hjl, ← hL]
        simp
      rintro σ H4 ⟨u5, u6, u7, u8, rfl, s4, eD4⟩
      rw [List.length_map, lE, List.take_length] at eD4
      refine ⟨_, _, _, _, _, _, rfl, s4, ?_⟩
      rw [eD4, flat_take hil, ← hw]
      rfl
    rintro σ H2 ⟨u3, u4, u5, u6, u7, u8, rfl, s2, eD2⟩
    rw [List.length_map, hN.sc.lu, List.take_length] at eD2
    have w0 := w32 ss.length
    rw [List.take_length] at w0
    refine ⟨_, rfl, R, rfl, ⟨_, SqL.of (s2 _ _ hN.er)⟩, for_list (xs := qt.map V.ref) (fun i σ H' => ∃ u9 u10 u11, σ = [some (.ref S), some (.ref R), some (.ref D), u3, u4, u5, u6, u7, u8, u9, u10, u11] ∧ Same H H' ∧ H' D = some (.lst ((ss.flatMap wordsS ++ (qs.take i).flatMap (·.2.2)).map V.str)))
      ⟨none, none, none, rfl, s2, by rw [eD2]; simp⟩ (fun i σ H' _ ⟨_, _, _, _, s, _⟩ => SqL.of (s _ _ hN.er)) ?_ ?_⟩
    · rintro i x σ H3 hx ⟨u9, u10, u11, rfl, s3, eD3⟩
      rw [List.getElem?_map] at hx
      obtain ⟨t, ht, rfl⟩ := Option.map_eq_some_iff.mp hx
      have hil : i < qs.length := by rw [← hN.tq.len]; exact (List.getElem?_eq_some_iff.mp ht).1
      obtain ⟨u, a1, a2⟩ := hN.tq.at_ i t _ ht (List.getElem?_eq_getElem hil)
      have k1 := hF.p6 _ (List.getElem_mem hil)
      have w1 := w6 i
      refine ⟨t, _, rfl, SqT.of (s3 _ _ a1), rfl, _, _, rfl, _, _, rfl, _, _, rfl, rfl, ?_⟩
      refine ⟨_, rfl, Or.inl ⟨rfl, _, SqL.of eD3⟩, _, rfl, D, u, _, _, rfl, rfl, eD3, SqT.of (s3 _ _ a2), by rw [List.length_map, List.length_map, List.length_append]; exact Nat.le_of_lt (small_sz (by omega)), ?_⟩
      refine ⟨_, _, _, rfl, keep s3, ?_⟩
      rw [upd_same, flat_take hil]
      simp
    rintro σ H3 ⟨u9, u10, u11, rfl, s3, eD3⟩
    rw [List.length_map, hN.tq.len, List.take_length] at eD3
    exact ⟨_, rfl, q D H3 hD s3 eD3⟩
theorem call_words_told {f : Addr} {fd : FuncData} (B : Blt mg) (ER : Ers K mg)  (F : Fun K "words_told" "words_told" s_words_told f fd) (hm : mg "words_told" = some (.ref f)) : Callee P w K mg base "words_told" 1 ["scopes", "questions"] (sp_words_told K) :=
  ⟨f, fd, ok_words_told B ER  F, hm, F.kp, F.binds fun _ _ _ _ _ _ us hl => (by obtain ⟨x0, x1, rfl⟩ := len_2 hl; rfl)⟩
theorem sign_a (c : Nat) : (!decide ((⟨#[c]⟩ : Str).cps.toList < ("a" : Str).cps.toList)) = decide (97 ≤ c) := by
  show (!decide (([c] : List Nat) < ("a" : Str).cps.toList)) = _
  have e : ("a" : Str).cps.toList = [97] := by decide +kernel
  rw [e, lt_sing]
  by_cases h : c < 97
  · rw [decide_eq_true h, decide_eq_false (by omega)]; rfl
  · rw [decide_eq_false h, decide_eq_true (by omega)]; rfl
theorem sign_z (c : Nat) : (!decide (("z" : Str).cps.toList < (⟨#[c]⟩ : Str).cps.toList)) = decide (c ≤ 122) := by
  show (!decide (("z" : Str).cps.toList < ([c] : List Nat))) = _
  have e : ("z" : Str).cps.toList = [122] := by decide +kernel
  rw [e, lt_sing]
  by_cases h : 122 < c
  · rw [decide_eq_true h, decide_eq_false (by omega)]; rfl
  · rw [decide_eq_false h, decide_eq_true (by omega)]; rfl

def sp_is_name (K : PySem.W.Frag) : Sp := fun vs H Q _ => ∃ v, vs = [v] ∧
  ((∃ x, v = .str x ∧ x.length ≤ 1000 ∧ ∀ H', Same H H' → Q (.bl (nameB x)) H') ∨ ∃ T, TyN K H v T ∧ T ≠ .str ∧ Q (.bl false) H)
set_option maxHeartbeats 4000000 in
seal L2.PE L2.PA L2.PS L2.PSs L2.PT L2.PW L2.PC L2.PG L2.PGs L2.PI L2.PF L2.PSet L2.OpR L2.UnR L2.CallR L2.MtR L2.IxR L2.SlR L2.PO in
theorem ok_is_name {f : Addr} {fd : FuncData} (B : Blt mg) (ER : Ers K mg)  (F : Fun K "is_name" "is_name" s_is_name f fd) : FnOk P w K mg base CX0 1 f fd ["thing"] (sp_is_name K) := by
  refine F.ok sc_is_name (fun vs H Q E h => ?_) (fun cdv A outer s H vs Q E hr h => ?_)
  · obtain ⟨v, rfl, _⟩ := h
    rfl
  · obtain ⟨v, rfl, h⟩ := h
    refine ⟨_, (pss_cons (ps_if (PW.pt (pw_or (pt_not (pt_val (pe_callB call_isi (by rfl) B.b_isinstance (by decide +kernel) (pa_cons (pv 0) (pa_cons (pe_ty "str" rfl B.b_str (by decide +kernel)) pa_nil))))) (pw_or1 (pt_not (pt_chain op_le op_le pe_int (pe_callB call_len (by rfl) B.b_len (by decide +kernel) (pa_cons (pv 0) pa_nil)) (pe_glob (v := .int 8) rfl (Classical.choose_spec B.c_LONGEST_NAME) ⟨_, rfl⟩)))))) (pss_one (ps_ret pe_bl)) pss_nil)
      (pss_one (ps_ret (pe_callB (call_allL rfl) (by rfl) B.b_all (by decide +kernel) (pa_cons (pe_comp rfl is_name_cs1 (pi_str (pv 0)) (fun _ _ _ _ _ => (pg_name (i := 0) is_name_cs1.nd rfl (Or.inl rfl))) (fun _ _ _ _ _ => pf_nil) (fun _ _ _ _ _ => (pe_chain op_leS op_leS pe_str (pv 0) pe_str))) pa_nil))))), ?_⟩
    rcases h with ⟨x, rfl, hx, q⟩ | ⟨T, ty, hT, q⟩
    · have hz : x.length ≤ sizeLine := Nat.le_of_lt (small1000 hx)
      refine ⟨_, rfl, _, .str, .str, rfl, .str x, _, rfl, iteF ?_⟩
      refine ⟨_, rfl, _, _, rfl, ⟨hz, rfl⟩, _, _, rfl, rfl, _, rfl, ?_⟩
      refine ite2 (fun h1 => ?_) (fun h1 => ?_)
      · have h1 : 1 ≤ x.length := by have := of_decide_eq_true h1; omega
        refine ⟨_, _, rfl, rfl, _, rfl, ?_⟩
        refine ite2 (fun h2 => ?_) (fun h2 => ?_)
        · have h2 : ¬ x.length ≤ 8 := fun z => by
            rw [decide_eq_true (show ((x.length : Nat) : Int) ≤ 8 by omega)] at h2
            cases h2
          have e : nameB x = false := by unfold nameB; rw [decide_eq_false h2]; simp
          have := q H (Same.refl _)
          rw [e] at this
          exact this
        · have h2 : x.length ≤ 8 := by
            refine Nat.le_of_not_lt fun z => h2 ?_
            rw [decide_eq_false (show ¬ ((x.length : Nat) : Int) ≤ 8 by omega)]; rfl
          have e : nameB x = (x.cps.toList.map signB).all id := by
            unfold nameB; rw [decide_eq_true h1, decide_eq_true h2, List.all_map]; rfl
          refine ⟨_, rfl, _, rfl, comp_str (f := fun c => V.bl (signB c)) hz (fun i c H2 D R hc s2 hD k => ?_) (fun H2 D s2 hD e2 => ?_)⟩
          · refine ⟨_, rfl, _, _, rfl, rfl, _, rfl, ?_⟩
            show if (!decide ((⟨#[c]⟩ : Str).cps.toList < ("a" : Str).cps.toList)) = true then _ else _
            rw [show (!decide ((⟨#[c]⟩ : Str).cps.toList < ("a" : Str).cps.toList)) = decide (97 ≤ c) from sign_a c]
            refine ite2 (fun h3 => ?_) (fun h3 => ?_)
            · refine ⟨_, _, rfl, rfl, ?_⟩
              rw [show (V.bl ((fun a b : Str => !decide (b.cps.toList < a.cps.toList)) ⟨#[c]⟩ "z")) = V.bl (decide (c ≤ 122)) from congrArg V.bl (sign_z c)]
              have := k H2 (Same.refl _)
              unfold signB at this
              rw [h3] at this
              exact this
            · have := k H2 (Same.refl _)
              unfold signB at this
              rw [Bool.not_eq_true _ |>.mp h3] at this
              exact this
          · refine ⟨_, x.cps.toList.map signB, rfl, SqL.of (by rw [List.map_map]; exact e2), ?_⟩
            rw [← e]
            exact q H2 s2
      · have h1 : ¬ 1 ≤ x.length := fun z => h1 (decide_eq_true (by omega))
        have e : nameB x = false := by unfold nameB; rw [decide_eq_false h1]; rfl
        have := q H (Same.refl _)
        rw [e] at this
        exact ⟨_, rfl, iteT this⟩
    · refine ⟨_, rfl, _, .str, T, rfl, ty, _, rfl, ?_⟩
      cases T with
      | str => exact absurd rfl hT
      | _ => exact iteT (iteT q)
theorem call_is_name {f : Addr} {fd : FuncData} (B : Blt mg) (ER : Ers K mg)  (F : Fun K "is_name" "is_name" s_is_name f fd) (hm : mg "is_name" = some (.ref f)) : Callee P w K mg base "is_name" 1 ["thing"] (sp_is_name K) :=
  ⟨f, fd, ok_is_name B ER  F, hm, F.kp, F.binds fun _ _ _ _ _ _ us hl => (by obtain ⟨x0, rfl⟩ := len_1 hl; rfl)⟩

def sp_refuse_no_names (K : PySem.W.Frag) : Sp := fun vs H Q E => ∃ (S T R : Addr) (us Gs Es ts qt : List Addr) (ss : List Sco) (gs : List (Str × Int)) (qs : List Qu), vs = [.ref S, .ref R] ∧ Net3 H S T R us Gs Es ts qt ss gs qs ∧ NFits ss gs qs ∧ (∀ x ∈ wordsN ss qs, x.length ≤ 1000) ∧
  (NNames ss qs → ∀ H', Same H H' → Q .non H') ∧ (¬ NNames ss qs → ∀ H', Same H H' → E (.ref (clsA K "NoName")) none H')
set_option maxHeartbeats 4000000 in
seal L2.PE L2.PA L2.PS L2.PSs L2.PT L2.PW L2.PC L2.PG L2.PGs L2.PI L2.PF L2.PSet L2.OpR L2.UnR L2.CallR L2.MtR L2.IxR L2.SlR L2.PO in
theorem ok_refuse_no_names {f : Addr} {fd : FuncData} (B : Blt mg) (ER : Ers K mg) (c_words_told : Callee P w K mg base "words_told" 1 ["scopes", "questions"] (sp_words_told K)) (c_is_name : Callee P w K mg base "is_name" 1 ["thing"] (sp_is_name K)) (F : Fun K "refuse_no_names" "refuse_no_names" s_refuse_no_names f fd) : FnOk P w K mg base (CXE P w) 2 f fd ["scopes", "questions"] (sp_refuse_no_names K) := by
  refine F.okE sc_refuse_no_names (fun vs H Q E h => ?_) (fun cdv A outer s H vs Q E hr h => ?_)
  · obtain ⟨S, T, R, us, Gs, Es, ts, qt, ss, gs, qs, rfl, _⟩ := h
    rfl
  · obtain ⟨S, T, R, us, Gs, Es, ts, qt, ss, gs, qs, rfl, hN, hF, hw, qy, qn⟩ := h
    refine ⟨_, (pss_cons (ps_for PassesOwn.leaving rfl (pi_list (pe_fn c_words_told (hr.mono (by decide)) rfl (pa_cons (pv 0) (pa_cons (pv 1) pa_nil)))) (pg_name (i := 2) sc_refuse_no_names.nd rfl (Or.inl rfl)) (pss_one (ps_if (pt_not (pt_val (pe_fn c_is_name (hr.mono (by decide)) rfl (pa_cons (pv 2) pa_nil)))) (pss_one (ps_raise throws_cx rfl ER.k_NoName rfl (pa_cons pe_str pa_nil))) pss_nil)))
      (pss_one (ps_for PassesOwn.leaving rfl (pi_list (pv 1)) (pg_tup rfl (pgs_cons (pg_name (i := 3) sc_refuse_no_names.nd rfl (Or.inl rfl)) (pgs_cons (pg_name (i := 4) sc_refuse_no_names.nd rfl (Or.inl rfl)) (pgs_cons (pg_name (i := 5) sc_refuse_no_names.nd rfl (Or.inl rfl)) pgs_nil)))) (pss_one (ps_if (pt_cmpR op_eq (pe_callB call_len (by rfl) B.b_len (by decide +kernel) (pa_cons (pv 5) pa_nil)) pe_int (nomark _)) (pss_one (ps_raise throws_cx rfl ER.k_NoName rfl (pa_cons pe_str pa_nil))) pss_nil))))), ?_⟩
    refine ⟨_, rfl, _, rfl, S, T, R, us, Gs, Es, ts, qt, ss, gs, qs, rfl, hN, hF, fun D H1 hD s1 eD => ?_⟩
    obtain ⟨ws, ews⟩ : ∃ ws, ws = wordsN ss qs := ⟨_, rfl⟩
    rw [← ews] at eD hw
    refine ⟨D, rfl, ⟨_, SqL.of eD⟩, for_list (xs := ws.map V.str) (fun i σ H' => ∃ u2, σ = [some (.ref S), some (.ref R), u2, none, none, none] ∧ Same H1 H' ∧ ∀ x ∈ ws.take i, nameB x = true) ⟨none, rfl, Same.refl _, fun x hx => by simp at hx⟩ (fun i σ H' _ ⟨_, _, s, _⟩ => SqL.of (s _ _ eD)) ?_ ?_⟩
    · rintro i x σ H2 hx ⟨u2, rfl, s2, hall⟩
      obtain ⟨x, hx', rfl⟩ := map_at hx
      have hm := List.mem_of_getElem? hx'
      have h8 := hw x hm
      obtain ⟨hil, exi⟩ := List.getElem?_eq_some_iff.mp hx'
      refine ⟨_, rfl, .str x, rfl, Or.inl ⟨x, rfl, by omega, fun H3 s3 => ?_⟩⟩
      cases hb : nameB x with
      | true => exact ⟨_, rfl, iteF ⟨_, rfl, s2.trans s3, take_all hall hil (by rw [exi]; exact hb)⟩⟩
      | false =>
        refine ⟨_, rfl, iteT ⟨one_le, qn (fun z => ?_) _ ((s1.trans s2).trans s3)⟩⟩
        rw [z.1 x (by rw [← ews]; exact hm)] at hb
        cases hb
    rintro σ H2 ⟨u2, rfl, s2, hall⟩
    rw [List.length_map, List.take_length] at hall
    have N2 := hN.same (s1.trans s2)
    refine ⟨_, rfl, R, rfl, ⟨_, SqL.of N2.er⟩, for_list (xs := qt.map V.ref) (fun i σ H' => ∃ u3 u4 u5, σ = [some (.ref S), some (.ref R), u2, u3, u4, u5] ∧ H' = H2 ∧ ∀ z ∈ qs.take i, z.2.2 ≠ []) ⟨none, none, none, rfl, rfl, fun x hx => by simp at hx⟩ (fun i σ H' _ ⟨_, _, _, _, e, _⟩ => by rw [e]; exact SqL.of N2.er) ?_ ?_⟩
    · rintro i x σ H3 hx ⟨u3, u4, u5, rfl, rfl, hq⟩
      rw [List.getElem?_map] at hx
      obtain ⟨t, ht, rfl⟩ := Option.map_eq_some_iff.mp hx
      have hil : i < qs.length := by rw [← hN.tq.len]; exact (List.getElem?_eq_some_iff.mp ht).1
      obtain ⟨u, a1, a2⟩ := N2.tq.at_ i t _ ht (List.getElem?_eq_getElem hil)
      refine ⟨t, _, rfl, SqT.of a1, rfl, _, _, rfl, _, _, rfl, _, _, rfl, rfl, ?_⟩
      refine ⟨_, rfl, _, _, rfl, Or.inr ⟨_, SqT.of a2, rfl⟩, rfl, _, rfl, ite2 (fun h => ?_) (fun h => ⟨_, _, _, rfl, rfl, take_all hq hil fun z => h ?_⟩)⟩
      · have h := V.int.inj (of_decide_eq_true h)
        rw [List.length_map] at h
        exact ⟨one_le, qn (fun z => z.2 _ (List.getElem_mem hil) (List.length_eq_zero_iff.mp (by omega))) _ (s1.trans s2)⟩
      · rw [List.length_map, z]
        exact decide_eq_true rfl
    rintro σ H3 ⟨u3, u4, u5, rfl, rfl, hq⟩
    rw [List.length_map, hN.tq.len, List.take_length] at hq
    exact qy ⟨fun x hx => hall x (by rw [ews]; exact hx), hq⟩ _ (s1.trans s2)
theorem call_refuse_no_names {f : Addr} {fd : FuncData} (B : Blt mg) (ER : Ers K mg) (c_words_told : Callee P w K mg base "words_told" 1 ["scopes", "questions"] (sp_words_told K)) (c_is_name : Callee P w K mg base "is_name" 1 ["thing"] (sp_is_name K)) (F : Fun K "refuse_no_names" "refuse_no_names" s_refuse_no_names f fd) (hm : mg "refuse_no_names" = some (.ref f)) : CalleeE P w K mg base "refuse_no_names" 2 ["scopes", "questions"] (sp_refuse_no_names K) :=
  ⟨f, fd, ok_refuse_no_names B ER c_words_told c_is_name F, hm, F.kp, F.binds fun _ _ _ _ _ _ us hl => (by obtain ⟨x0, x1, rfl⟩ := len_2 hl; rfl)⟩
def wholeT : Ty → Bool
  | .int => true
  | _ => false

def sp_is_whole (K : PySem.W.Frag) : Sp := fun vs H Q _ => ∃ v T, vs = [v] ∧ TyN K H v T ∧ Q (.bl (wholeT T)) H
set_option maxHeartbeats 4000000 in
seal L2.PE L2.PA L2.PS L2.PSs L2.PT L2.PW L2.PC L2.PG L2.PGs L2.PI L2.PF L2.PSet L2.OpR L2.UnR L2.CallR L2.MtR L2.IxR L2.SlR L2.PO in
theorem ok_is_whole {f : Addr} {fd : FuncData} (B : Blt mg) (ER : Ers K mg)  (F : Fun K "is_whole" "is_whole" s_is_whole f fd) : FnOk P w K mg base CX0 1 f fd ["thing"] (sp_is_whole K) := by
  refine F.ok sc_is_whole (fun vs H Q E h => ?_) (fun cdv A outer s H vs Q E hr h => ?_)
  · obtain ⟨v, T, rfl, _⟩ := h
    rfl
  · obtain ⟨v, T, rfl, ty, q⟩ := h
    refine ⟨_, (pss_one (ps_ret (pe_and (pe_callB call_isi (by rfl) B.b_isinstance (by decide +kernel) (pa_cons (pv 0) (pa_cons (pe_ty "int" rfl B.b_int (by decide +kernel)) pa_nil))) (pe_one (pe_not (pe_callB call_isi (by rfl) B.b_isinstance (by decide +kernel) (pa_cons (pv 0) (pa_cons (pe_ty "bool" rfl B.b_bool (by decide +kernel)) pa_nil)))))))), ?_⟩
    refine ⟨_, rfl, _, .int, T, rfl, ty, _, rfl, ?_⟩
    cases T with
    | int => exact iteT ⟨_, rfl, _, .bool, .int, rfl, ty, _, rfl, q⟩
    | bool => exact iteT ⟨_, rfl, _, .bool, .bool, rfl, ty, _, rfl, q⟩
    | _ => exact iteF q
theorem call_is_whole {f : Addr} {fd : FuncData} (B : Blt mg) (ER : Ers K mg)  (F : Fun K "is_whole" "is_whole" s_is_whole f fd) (hm : mg "is_whole" = some (.ref f)) : Callee P w K mg base "is_whole" 1 ["thing"] (sp_is_whole K) :=
  ⟨f, fd, ok_is_whole B ER  F, hm, F.kp, F.binds fun _ _ _ _ _ _ us hl => (by obtain ⟨x0, rfl⟩ := len_1 hl; rfl)⟩

def sp_is_place (_ : PySem.W.Frag) : Sp := fun vs H Q _ => ∃ (n m : Int), vs = [.int n, .int m] ∧ Q (.bl (decide (0 ≤ n ∧ n < m))) H
set_option maxHeartbeats 4000000 in
seal L2.PE L2.PA L2.PS L2.PSs L2.PT L2.PW L2.PC L2.PG L2.PGs L2.PI L2.PF L2.PSet L2.OpR L2.UnR L2.CallR L2.MtR L2.IxR L2.SlR L2.PO in
theorem ok_is_place {f : Addr} {fd : FuncData} (B : Blt mg) (ER : Ers K mg) (c_is_whole : Callee P w K mg base "is_whole" 1 ["thing"] (sp_is_whole K)) (F : Fun K "is_place" "is_place" s_is_place f fd) : FnOk P w K mg base CX0 2 f fd ["number", "many"] (sp_is_place K) := by
  refine F.ok sc_is_place (fun vs H Q E h => ?_) (fun cdv A outer s H vs Q E hr h => ?_)
  · obtain ⟨n, m, rfl, _⟩ := h
    rfl
  · obtain ⟨n, m, rfl, q⟩ := h
    refine ⟨_, (pss_one (ps_ret (pe_and (pe_fn c_is_whole (hr.mono (by decide)) rfl (pa_cons (pv 0) pa_nil)) (pe_one (pe_chain op_le op_lt pe_int (pv 0) (pv 1)))))), ?_⟩
    refine ⟨_, rfl, _, .int, rfl, .int n, _, rfl, iteT ?_⟩
    refine ⟨_, rfl, _, _, rfl, rfl, _, rfl, ite2 (fun h => ?_) (fun h => ?_)⟩
    · have h := of_decide_eq_true h
      refine ⟨_, rfl, _, _, rfl, rfl, ?_⟩
      have e : decide (0 ≤ n ∧ n < m) = decide (n < m) := decide_eq_decide.mpr ⟨fun z => z.2, fun z => ⟨h, z⟩⟩
      rw [e] at q
      exact q
    · have h' : ¬ (0 ≤ n) := fun z => h (decide_eq_true z)
      have e : decide (0 ≤ n ∧ n < m) = false := decide_eq_false fun z => h' z.1
      rw [e] at q
      exact q
theorem call_is_place {f : Addr} {fd : FuncData} (B : Blt mg) (ER : Ers K mg) (c_is_whole : Callee P w K mg base "is_whole" 1 ["thing"] (sp_is_whole K)) (F : Fun K "is_place" "is_place" s_is_place f fd) (hm : mg "is_place" = some (.ref f)) : Callee P w K mg base "is_place" 2 ["number", "many"] (sp_is_place K) :=
  ⟨f, fd, ok_is_place B ER c_is_whole F, hm, F.kp, F.binds fun _ _ _ _ _ _ us hl => (by obtain ⟨x0, x1, rfl⟩ := len_2 hl; rfl)⟩

def sp_refuse_no_place (K : PySem.W.Frag) : Sp := fun vs H Q E => ∃ (a : Addr) (kvs : List (Key × V)) (k : Str) (n : Int), vs = [.ref a, .str k, .int n] ∧ H a = some (.dK kvs) ∧ (∀ v, valV kvs (.inr k) = some v → ∃ m, v = .int m) ∧
  (∀ m, valV kvs (.inr k) = some (.int m) → 0 ≤ n ∧ n < m → Q .non H) ∧ ((∀ m, valV kvs (.inr k) = some (.int m) → ¬ (0 ≤ n ∧ n < m)) → E (.ref (clsA K "NoPlace")) none H)
set_option maxHeartbeats 4000000 in
seal L2.PE L2.PA L2.PS L2.PSs L2.PT L2.PW L2.PC L2.PG L2.PGs L2.PI L2.PF L2.PSet L2.OpR L2.UnR L2.CallR L2.MtR L2.IxR L2.SlR L2.PO in
theorem ok_refuse_no_place {f : Addr} {fd : FuncData} (B : Blt mg) (ER : Ers K mg) (c_is_place : Callee P w K mg base "is_place" 2 ["number", "many"] (sp_is_place K)) (F : Fun K "refuse_no_place" "refuse_no_place" s_refuse_no_place f fd) : FnOk P w K mg base (CXE P w) 3 f fd ["kinds", "kind", "number"] (sp_refuse_no_place K) := by
  refine F.okE sc_refuse_no_place (fun vs H Q E h => ?_) (fun cdv A outer s H vs Q E hr h => ?_)
  · obtain ⟨a, kvs, k, n, rfl, _⟩ := h
    rfl
  · obtain ⟨a, kvs, k, n, rfl, ha, hi, qy, qn⟩ := h
    refine ⟨_, (pss_cons (ps_if (pt_cmpR (op_notinDict (hu_of hr)) (pv 1) (pv 0) (by with_unfolding_all rfl)) (pss_one (ps_raise throws_cx rfl ER.k_NoPlace rfl (pa_cons pe_str pa_nil))) pss_nil)
      (pss_one (ps_if (pt_not (pt_val (pe_fn c_is_place (hr.mono (by decide)) rfl (pa_cons (pv 2) (pa_cons (pe_dget (hu_of hr) (pv 0) (pv 1) (fun _ _ => rfl)) pa_nil))))) (pss_one (ps_raise throws_cx rfl ER.k_NoPlace rfl (pa_cons pe_str pa_nil))) pss_nil))), ?_⟩
    refine ⟨_, rfl, _, rfl, a, _, rfl, DGet.k (k := .inr k) ha, _, rfl, ?_⟩
    cases hv : valV kvs (.inr k) with
    | none =>
      refine iteT ⟨one_le, qn fun m z => ?_⟩
      rw [hv] at z; cases z
    | some v =>
      obtain ⟨m, rfl⟩ := hi v hv
      refine iteF ?_
      have hg : DGet H a (.str k) (some (.int m)) := by
        rw [← hv]
        exact DGet.k (k := .inr k) ha
      refine ⟨_, rfl, _, rfl, _, rfl, a, _, rfl, hg, n, m, rfl, _, rfl, ?_⟩
      by_cases hp : 0 ≤ n ∧ n < m
      · rw [decide_eq_true hp]
        exact iteF (qy m hv hp)
      · rw [decide_eq_false hp]
        refine iteT ⟨one_le, qn fun m' z => ?_⟩
        rw [hv] at z
        cases z
        exact hp
theorem call_refuse_no_place {f : Addr} {fd : FuncData} (B : Blt mg) (ER : Ers K mg) (c_is_place : Callee P w K mg base "is_place" 2 ["number", "many"] (sp_is_place K)) (F : Fun K "refuse_no_place" "refuse_no_place" s_refuse_no_place f fd) (hm : mg "refuse_no_place" = some (.ref f)) : CalleeE P w K mg base "refuse_no_place" 3 ["kinds", "kind", "number"] (sp_refuse_no_place K) :=
  ⟨f, fd, ok_refuse_no_place B ER c_is_place F, hm, F.kp, F.binds fun _ _ _ _ _ _ us hl => (by obtain ⟨x0, x1, x2, rfl⟩ := len_3 hl; rfl)⟩

def sp_refuse_no_places (K : PySem.W.Frag) : Sp := fun vs H Q E => ∃ (S T R : Addr) (us Gs Es ts qt : List Addr) (ss : List Sco) (gs : List (Str × Int)) (qs : List Qu), vs = [.ref S, .ref T, .ref R] ∧ Net3 H S T R us Gs Es ts qt ss gs qs ∧ (NPlaces ss gs qs → ∀ H', Same H H' → Q .non H') ∧ (¬ NPlaces ss gs qs → ∀ H', Same H H' → E (.ref (clsA K "NoPlace")) none H')
set_option maxHeartbeats 4000000 in
seal L2.PE L2.PA L2.PS L2.PSs L2.PT L2.PW L2.PC L2.PG L2.PGs L2.PI L2.PF L2.PSet L2.OpR L2.UnR L2.CallR L2.MtR L2.IxR L2.SlR L2.PO in
theorem ok_refuse_no_places {f : Addr} {fd : FuncData} (B : Blt mg) (ER : Ers K mg) (c_refuse_no_place : CalleeE P w K mg base "refuse_no_place" 3 ["kinds", "kind", "number"] (sp_refuse_no_place K)) (c_is_place : Callee P w K mg base "is_place" 2 ["number", "many"] (sp_is_place K)) (c_is_whole : Callee P w K mg base "is_whole" 1 ["thing"] (sp_is_whole K)) (F : Fun K "refuse_no_places" "refuse_no_places" s_refuse_no_places f fd) : FnOk P w K mg base (CXE P w) 4 f fd ["scopes", "things", "questions"] (sp_refuse_no_places K) := by
  refine F.okE sc_refuse_no_places (fun vs H Q E h => ?_) (fun cdv A outer s H vs Q E hr h => ?_)
  · obtain ⟨S, T, R, us, Gs, Es, ts, qt, ss, gs, qs, rfl, _⟩ := h
    rfl
  · obtain ⟨S, T, R, us, Gs, Es, ts, qt, ss, gs, qs, rfl, hN, qy, qn⟩ := h
    have lu : (us.map V.ref).length = ss.length := by rw [List.length_map, hN.sc.lu]
    have lt : (ts.map V.ref).length = gs.length := by rw [List.length_map, hN.tg.len]
    have lq : (qt.map V.ref).length = qs.length := by rw [List.length_map, hN.tq.len]
    refine ⟨_, (pss_cons (ps_set (i := 3) sc_refuse_no_places.nd rfl (Or.inl rfl) (pe_disp (pps_cons pe_str (pe_callB call_len (by rfl) B.b_len (by decide +kernel) (pa_cons (pv 0) pa_nil)) (pps_cons pe_str (pe_callB call_len (by rfl) B.b_len (by decide +kernel) (pa_cons (pv 2) pa_nil)) pps_nil)) rfl rfl (by simp) (Nat.le_of_ble_eq_true rfl)))
      (pss_cons (ps_set (i := 4) sc_refuse_no_places.nd rfl (Or.inl rfl) (pe_disp (pps_cons pe_str (pe_callB call_len (by rfl) B.b_len (by decide +kernel) (pa_cons (pv 1) pa_nil)) (pps_cons pe_str (pe_callB call_len (by rfl) B.b_len (by decide +kernel) (pa_cons (pv 2) pa_nil)) pps_nil)) rfl rfl (by simp) (Nat.le_of_ble_eq_true rfl)))
      (pss_cons (ps_set (i := 5) sc_refuse_no_places.nd rfl (Or.inl rfl) (pe_disp (pps_cons pe_str pe_int (pps_cons pe_str (pe_callB call_len (by rfl) B.b_len (by decide +kernel) (pa_cons (pv 0) pa_nil)) (pps_cons pe_str (pe_callB call_len (by rfl) B.b_len (by decide +kernel) (pa_cons (pv 2) pa_nil)) pps_nil))) rfl rfl (by simp) (Nat.le_of_ble_eq_true rfl)))
      (pss_cons (ps_for PassesOwn.leaving rfl (pi_list (pv 0)) (pg_tup rfl (pgs_cons (pg_name (i := 6) sc_refuse_no_places.nd rfl (Or.inl rfl)) (pgs_cons (pg_name (i := 7) sc_refuse_no_places.nd rfl (Or.inl rfl)) pgs_nil))) (pss_cons (ps_for PassesOwn.leaving rfl (pi_list (pv 6)) (pg_tup rfl (pgs_cons (pg_name (i := 8) sc_refuse_no_places.nd rfl (Or.inl rfl)) (pgs_cons (pg_name (i := 9) sc_refuse_no_places.nd rfl (Or.inl rfl)) (pgs_cons (pg_name (i := 10) sc_refuse_no_places.nd rfl (Or.inl rfl)) pgs_nil)))) (pss_one (ps_expr (pe_fnE c_refuse_no_place throws_cx (hr.mono (by decide)) rfl (pa_cons (pv 3) (pa_cons (pv 9) (pa_cons (pv 10) pa_nil)))))))
        (pss_one (ps_for PassesOwn.leaving rfl (pi_list (pv 7)) (pg_tup rfl (pgs_cons (pg_name (i := 8) sc_refuse_no_places.nd rfl (Or.inl rfl)) (pgs_cons (pg_name (i := 11) sc_refuse_no_places.nd rfl (Or.inl rfl)) (pgs_cons (pg_name (i := 9) sc_refuse_no_places.nd rfl (Or.inl rfl)) (pgs_cons (pg_name (i := 10) sc_refuse_no_places.nd rfl (Or.inl rfl)) pgs_nil))))) (pss_one (ps_expr (pe_fnE c_refuse_no_place throws_cx (hr.mono (by decide)) rfl (pa_cons (pv 4) (pa_cons (pv 9) (pa_cons (pv 10) pa_nil))))))))))
      (pss_cons (ps_for PassesOwn.leaving rfl (pi_list (pv 1)) (pg_tup rfl (pgs_cons (pg_name (i := 9) sc_refuse_no_places.nd rfl (Or.inl rfl)) (pgs_cons (pg_name (i := 10) sc_refuse_no_places.nd rfl (Or.inl rfl)) pgs_nil))) (pss_one (ps_expr (pe_fnE c_refuse_no_place throws_cx (hr.mono (by decide)) rfl (pa_cons (pv 5) (pa_cons (pv 9) (pa_cons (pv 10) pa_nil)))))))
      (pss_one (ps_for PassesOwn.leaving rfl (pi_list (pv 2)) (pg_tup rfl (pgs_cons (pg_name (i := 12) sc_refuse_no_places.nd rfl (Or.inl rfl)) (pgs_cons (pg_name (i := 13) sc_refuse_no_places.nd rfl (Or.inl rfl)) (pgs_cons (pg_name (i := 14) sc_refuse_no_places.nd rfl (Or.inl rfl)) pgs_nil)))) (pss_one (ps_if (PW.pt (pw_or (pt_not (pt_val (pe_fn c_is_place (hr.mono (by decide)) rfl (pa_cons (pv 12) (pa_cons (pe_callB call_len (by rfl) B.b_len (by decide +kernel) (pa_cons (pv 0) pa_nil)) pa_nil))))) (pw_or (pt_not (pt_val (pe_fn c_is_whole (hr.mono (by decide)) rfl (pa_cons (pv 13) pa_nil)))) (pw_or1 (pt_cmpR op_lt (pv 13) pe_int (nomark _)))))) (pss_one (ps_raise throws_cx rfl ER.k_NoPlace rfl (pa_cons pe_str pa_nil))) pss_nil))))))))), ?_⟩
    -- the three dicts
    refine fun d1 hd1 => ?_
    have s1 := same_new (o := .dK []) hd1
    have e1 : (upd H d1 (.dK [])) d1 = some (.dK []) := upd_same
    generalize upd H d1 (.dK []) = H1 at s1 e1 ⊢
    refine ⟨_, rfl, _, _, rfl, Or.inl ⟨_, SqL.of (s1 _ _ hN.sc.top), rfl⟩, _, rfl, _, _, rfl, Or.inl ⟨_, SqL.of (s1 _ _ hN.er), rfl⟩, e1, [(.inr "to", .int _), (.inr "by", .int _)], rfl, show 2 ≤ 15 by decide, ?_⟩
    have vk := fun j : Str => kinds2 (x := "to") (y := "by") (j := j) (a := V.int ((us.map V.ref).length : Nat)) (b := V.int ((qt.map V.ref).length : Nat))
    generalize mergeK [] [((.inr "to" : Key), V.int ((us.map V.ref).length : Nat)), (.inr "by", V.int ((qt.map V.ref).length : Nat))] = k1 at vk ⊢
    have s2 : Same H (upd H1 d1 (.dK k1)) := fun b o e => by rw [upd_ne (ne_of_none e hd1)]; exact s1 _ _ e
    have e2 : (upd H1 d1 (.dK k1)) d1 = some (.dK k1) := upd_same
    generalize upd H1 d1 (.dK k1) = H2 at s2 e2 ⊢
    refine g_in ?_
    try dsimp only
    refine fun d2 hd2 => ?_
    have s3 := same_new (o := .dK []) hd2
    have e3 : (upd H2 d2 (.dK [])) d2 = some (.dK []) := upd_same
    generalize upd H2 d2 (.dK []) = H3 at s3 e3 ⊢
    have s03 := s2.trans s3
    refine ⟨_, rfl, _, _, rfl, Or.inl ⟨_, SqL.of (s03 _ _ hN.et), rfl⟩, _, rfl, _, _, rfl, Or.inl ⟨_, SqL.of (s03 _ _ hN.er), rfl⟩, e3, [(.inr "thing", .int _), (.inr "by", .int _)], rfl, show 2 ≤ 15 by decide, ?_⟩
    have xk := fun j : Str => kinds2 (x := "thing") (y := "by") (j := j) (a := V.int ((ts.map V.ref).length : Nat)) (b := V.int ((qt.map V.ref).length : Nat))
    generalize mergeK [] [((.inr "thing" : Key), V.int ((ts.map V.ref).length : Nat)), (.inr "by", V.int ((qt.map V.ref).length : Nat))] = k2 at xk ⊢
    have s4 : Same H2 (upd H3 d2 (.dK k2)) := fun b o e => by rw [upd_ne (ne_of_none e hd2)]; exact s3 _ _ e
    have e4 : (upd H3 d2 (.dK k2)) d2 = some (.dK k2) := upd_same
    generalize upd H3 d2 (.dK k2) = H4 at s4 e4 ⊢
    refine g_in ?_
    try dsimp only
    refine fun d3 hd3 => ?_
    have s5 := same_new (o := .dK []) hd3
    have e5 : (upd H4 d3 (.dK [])) d3 = some (.dK []) := upd_same
    generalize upd H4 d3 (.dK []) = H5 at s5 e5 ⊢
    have s05 := (s2.trans s4).trans s5
    refine ⟨_, rfl, _, _, rfl, Or.inl ⟨_, SqL.of (s05 _ _ hN.sc.top), rfl⟩, _, rfl, _, _, rfl, Or.inl ⟨_, SqL.of (s05 _ _ hN.er), rfl⟩, e5, [(.inr "plain", .int 1), (.inr "part", .int _), (.inr "sort", .int _)], rfl, show 3 ≤ 15 by decide, ?_⟩
    have yk := fun j : Str => kinds3 (x := "plain") (y := "part") (z := "sort") (j := j) (a := V.int 1) (b := V.int ((us.map V.ref).length : Nat)) (c := V.int ((qt.map V.ref).length : Nat))
    generalize mergeK [] [((.inr "plain" : Key), V.int 1), (.inr "part", V.int ((us.map V.ref).length : Nat)), (.inr "sort", V.int ((qt.map V.ref).length : Nat))] = k3 at yk ⊢
    have s6 : Same H4 (upd H5 d3 (.dK k3)) := fun b o e => by rw [upd_ne (ne_of_none e hd3)]; exact s5 _ _ e
    have e6 : (upd H5 d3 (.dK k3)) d3 = some (.dK k3) := upd_same
    generalize upd H5 d3 (.dK k3) = H6 at s6 e6 ⊢
    refine g_in ?_
    try dsimp only
    have s06 := (s2.trans s4).trans s6
    have N6 := hN.same s06
    have f1 := (s4.trans s6) _ _ e2
    have f2 := s6 _ _ e4
    clear s1 e1 s2 e2 s3 e3 s4 e4 s5 e5 s6 s03 s05 hd1 hd2 hd3
    have no := fun z => qn z H6 s06
    rw [lu, lq] at vk yk
    rw [lt, lq] at xk
    -- the scopes
    refine ⟨_, rfl, S, rfl, ⟨_, SqL.of N6.sc.top⟩, for_list (xs := us.map V.ref) (fun i σ H' => ∃ u6 u7 u8 u9 u10 u11, σ = [some (.ref S), some (.ref T), some (.ref R), some (.ref d1), some (.ref d2), some (.ref d3), u6, u7, u8, u9, u10, u11, none, none, none] ∧ H' = H6 ∧ ∀ s ∈ ss.take i, (∀ p ∈ s.1, stOk ss.length qs.length p) ∧ ∀ p ∈ s.2, tlOk gs.length qs.length p) ⟨none, none, none, none, none, none, rfl, rfl, fun s hs => by simp at hs⟩ (fun i σ H' _ ⟨_, _, _, _, _, _, _, e, _⟩ => by rw [e]; exact SqL.of N6.sc.top) ?_ ?_⟩
    · rintro i x σ H7 hx ⟨u6, u7, u8, u9, u10, u11, rfl, rfl, hall⟩
      rw [List.getElem?_map] at hx
      obtain ⟨u, hu, rfl⟩ := Option.map_eq_some_iff.mp hx
      have hil : i < ss.length := by rw [← hN.sc.lu]; exact (List.getElem?_eq_some_iff.mp hu).1
      obtain ⟨u', G, E1, g1, g2, g3, g4, ⟨a1, ⟨tG, b1, b2⟩, ⟨tE, c1, c2⟩⟩⟩ := N6.sc.get hil
      rw [hu] at g1; cases g1
      refine ⟨u, _, rfl, SqT.of a1, rfl, _, _, rfl, _, _, rfl, rfl, ?_⟩
      refine ⟨_, rfl, G, rfl, ⟨_, SqL.of b1⟩, for_list (xs := tG.map V.ref) (fun j σ H' => ∃ u8 u9 u10, σ = [some (.ref S), some (.ref T), some (.ref R), some (.ref d1), some (.ref d2), some (.ref d3), some (.ref G), some (.ref E1), u8, u9, u10, u11, none, none, none] ∧ H' = H7 ∧ ∀ p ∈ ss[i].1.take j, stOk ss.length qs.length p) ⟨_, _, _, rfl, rfl, fun s hs => by simp at hs⟩ (fun i σ H' _ ⟨_, _, _, _, e, _⟩ => by rw [e]; exact SqL.of b1) ?_ ?_⟩
      · rintro j y σ H8 hy ⟨u8, u9, u10, rfl, rfl, hst⟩
        rw [List.getElem?_map] at hy
        obtain ⟨t, ht, rfl⟩ := Option.map_eq_some_iff.mp hy
        have hjl : j < ss[i].1.length := by rw [← b2.len]; exact (List.getElem?_eq_some_iff.mp ht).1
        have et := b2.at_ j t _ ht (List.getElem?_eq_getElem hjl)
        have hno : ¬ stOk ss.length qs.length ss[i].1[j] → ¬ NPlaces ss gs qs := fun z y => z (y.kst _ (List.getElem_mem hil) _ (List.getElem_mem hjl))
        have hyes := take_all hst hjl
        generalize ss[i].1[j] = p at et hno hyes
        refine ⟨t, _, rfl, SqT.of et, rfl, _, _, rfl, _, _, rfl, _, _, rfl, rfl, ?_⟩
        obtain ⟨p1, p2⟩ := two_place (j := p.2.1) (n := p.2.2) (show ("to" : Str) ≠ ("by" : Str) by decide +kernel) vk
        exact ⟨_, rfl, _, rfl, _, rfl, d1, k1, p.2.1, p.2.2, rfl, f1, two_int vk, fun m h1 h2 => ⟨_, _, _, rfl, rfl, hyes (p1 m h1 h2)⟩, fun z => no (hno (p2 z))⟩
      rintro σ H8 ⟨u8, u9, u10, rfl, rfl, hst⟩
      rw [List.length_map, b2.len, List.take_length] at hst
      refine ⟨_, rfl, E1, rfl, ⟨_, SqL.of c1⟩, for_list (xs := tE.map V.ref) (fun j σ H' => ∃ u8 u9 u10 u11, σ = [some (.ref S), some (.ref T), some (.ref R), some (.ref d1), some (.ref d2), some (.ref d3), some (.ref G), some (.ref E1), u8, u9, u10, u11, none, none, none] ∧ H' = H8 ∧ ∀ p ∈ ss[i].2.take j, tlOk gs.length qs.length p) ⟨_, _, _, _, rfl, rfl, fun s hs => by simp at hs⟩ (fun i σ H' _ ⟨_, _, _, _, _, e, _⟩ => by rw [e]; exact SqL.of c1) ?_ ?_⟩
      · rintro j y σ H9 hy ⟨u8, u9, u10, u11, rfl, rfl, htl⟩
        rw [List.getElem?_map] at hy
        obtain ⟨t, ht, rfl⟩ := Option.map_eq_some_iff.mp hy
        have hjl : j < ss[i].2.length := by rw [← c2.len]; exact (List.getElem?_eq_some_iff.mp ht).1
        have et := c2.at_ j t _ ht (List.getElem?_eq_getElem hjl)
        have hno : ¬ tlOk gs.length qs.length ss[i].2[j] → ¬ NPlaces ss gs qs := fun z y => z (y.ktl _ (List.getElem_mem hil) _ (List.getElem_mem hjl))
        have hyes := take_all htl hjl
        generalize ss[i].2[j] = p at et hno hyes
        refine ⟨t, _, rfl, SqT.of et, rfl, _, _, rfl, _, _, rfl, _, _, rfl, _, _, rfl, rfl, ?_⟩
        obtain ⟨p1, p2⟩ := two_place (j := p.2.2.1) (n := p.2.2.2) (show ("thing" : Str) ≠ ("by" : Str) by decide +kernel) xk
        exact ⟨_, rfl, _, rfl, _, rfl, d2, k2, p.2.2.1, p.2.2.2, rfl, f2, two_int xk, fun m h1 h2 => ⟨_, _, _, _, rfl, rfl, hyes (p1 m h1 h2)⟩, fun z => no (hno (p2 z))⟩
      rintro σ H9 ⟨u8, u9, u10, u11, rfl, rfl, htl⟩
      rw [List.length_map, c2.len, List.take_length] at htl
      exact ⟨_, _, _, _, _, _, rfl, rfl, take_all hall hil ⟨hst, htl⟩⟩
    rintro σ H7 ⟨u6, u7, u8, u9, u10, u11, rfl, rfl, hall⟩
    rw [lu, List.take_length] at hall
    -- the things
    refine ⟨_, rfl, T, rfl, ⟨_, SqL.of N6.et⟩, for_list (xs := ts.map V.ref) (fun i σ H' => ∃ u9 u10, σ = [some (.ref S), some (.ref T), some (.ref R), some (.ref d1), some (.ref d2), some (.ref d3), u6, u7, u8, u9, u10, u11, none, none, none] ∧ H' = H7 ∧ ∀ p ∈ gs.take i, thOk ss.length qs.length p) ⟨_, _, rfl, rfl, fun s hs => by simp at hs⟩ (fun i σ H' _ ⟨_, _, _, e, _⟩ => by rw [e]; exact SqL.of N6.et) ?_ ?_⟩
    · rintro i x σ H8 hx ⟨u9, u10, rfl, rfl, hth⟩
      rw [List.getElem?_map] at hx
      obtain ⟨t, ht, rfl⟩ := Option.map_eq_some_iff.mp hx
      have hil : i < gs.length := by rw [← hN.tg.len]; exact (List.getElem?_eq_some_iff.mp ht).1
      have et := N6.tg.at_ i t _ ht (List.getElem?_eq_getElem hil)
      have hno : ¬ thOk ss.length qs.length gs[i] → ¬ NPlaces ss gs qs := fun z y => z (y.kth _ (List.getElem_mem hil))
      have hyes := take_all hth hil
      generalize gs[i] = p at et hno hyes
      refine ⟨t, _, rfl, SqT.of et, rfl, _, _, rfl, _, _, rfl, rfl, ?_⟩
      obtain ⟨p1, p2⟩ := three_place (j := p.1) (n := p.2) (show ("plain" : Str) ≠ ("part" : Str) by decide +kernel) (show ("plain" : Str) ≠ ("sort" : Str) by decide +kernel) (show ("part" : Str) ≠ ("sort" : Str) by decide +kernel) yk
      refine ⟨_, rfl, _, rfl, _, rfl, d3, k3, p.1, p.2, rfl, e6, three_int yk, fun m h1 h2 => ⟨_, _, rfl, rfl, hyes ?_⟩, fun z => no (hno fun y => p2 z ?_)⟩
      · rcases p1 m h1 h2 with ⟨e, h3⟩ | h3 | h3
        · exact .inl ⟨e, by omega⟩
        · exact .inr (.inl h3)
        · exact .inr (.inr h3)
      · rcases y with ⟨e, h3⟩ | h3 | h3
        · exact .inl ⟨e, by omega⟩
        · exact .inr (.inl h3)
        · exact .inr (.inr h3)
    rintro σ H8 ⟨u9, u10, rfl, rfl, hth⟩
    rw [lt, List.take_length] at hth
    -- the questions
    refine ⟨_, rfl, R, rfl, ⟨_, SqL.of N6.er⟩, for_list (xs := qt.map V.ref) (fun i σ H' => ∃ u12 u13 u14, σ = [some (.ref S), some (.ref T), some (.ref R), some (.ref d1), some (.ref d2), some (.ref d3), u6, u7, u8, u9, u10, u11, u12, u13, u14] ∧ H' = H8 ∧ ∀ q ∈ qs.take i, 0 ≤ q.1 ∧ q.1 < ss.length ∧ 0 ≤ q.2.1) ⟨none, none, none, rfl, rfl, fun s hs => by simp at hs⟩ (fun i σ H' _ ⟨_, _, _, _, e, _⟩ => by rw [e]; exact SqL.of N6.er) ?_ ?_⟩
    · rintro i x σ H9 hx ⟨u12, u13, u14, rfl, rfl, hq⟩
      rw [List.getElem?_map] at hx
      obtain ⟨t, ht, rfl⟩ := Option.map_eq_some_iff.mp hx
      have hil : i < qs.length := by rw [← hN.tq.len]; exact (List.getElem?_eq_some_iff.mp ht).1
      obtain ⟨u, a1, a2⟩ := N6.tq.at_ i t _ ht (List.getElem?_eq_getElem hil)
      have hno : ¬ (0 ≤ qs[i].1 ∧ qs[i].1 < ss.length ∧ 0 ≤ qs[i].2.1) → ¬ NPlaces ss gs qs := fun z y => z (y.kq _ (List.getElem_mem hil))
      refine ⟨t, _, rfl, SqT.of a1, rfl, _, _, rfl, _, _, rfl, _, _, rfl, rfl, ?_⟩
      refine ⟨_, rfl, _, rfl, _, _, rfl, Or.inl ⟨_, SqL.of N6.sc.top, rfl⟩, _, _, rfl, _, rfl, ?_⟩
      by_cases hp : 0 ≤ qs[i].1 ∧ qs[i].1 < ((us.map V.ref).length : Nat)
      · rw [decide_eq_true hp]
        rw [lu] at hp
        refine iteF ?_
        refine ⟨_, rfl, _, .int, rfl, .int _, _, rfl, iteF ?_⟩
        refine ⟨_, rfl, _, _, rfl, rfl, _, rfl, ite2 (fun h => ?_) (fun h => ?_)⟩
        · have h := of_decide_eq_true h
          exact ⟨one_le, no (hno fun z => by omega)⟩
        · have h : ¬ qs[i].2.1 < 0 := fun z => h (decide_eq_true z)
          exact ⟨_, _, _, rfl, rfl, take_all hq hil ⟨hp.1, hp.2, by omega⟩⟩
      · rw [decide_eq_false hp]
        rw [lu] at hp
        exact iteT ⟨one_le, no (hno fun z => hp ⟨z.1, z.2.1⟩)⟩
    rintro σ H9 ⟨u12, u13, u14, rfl, rfl, hq⟩
    rw [lq, List.take_length] at hq
    exact qy ⟨fun s hs => (hall s hs).1, fun s hs => (hall s hs).2, hth, hq⟩ _ s06
theorem call_refuse_no_places {f : Addr} {fd : FuncData} (B : Blt mg) (ER : Ers K mg) (c_refuse_no_place : CalleeE P w K mg base "refuse_no_place" 3 ["kinds", "kind", "number"] (sp_refuse_no_place K)) (c_is_place : Callee P w K mg base "is_place" 2 ["number", "many"] (sp_is_place K)) (c_is_whole : Callee P w K mg base "is_whole" 1 ["thing"] (sp_is_whole K)) (F : Fun K "refuse_no_places" "refuse_no_places" s_refuse_no_places f fd) (hm : mg "refuse_no_places" = some (.ref f)) : CalleeE P w K mg base "refuse_no_places" 4 ["scopes", "things", "questions"] (sp_refuse_no_places K) :=
  ⟨f, fd, ok_refuse_no_places B ER c_refuse_no_place c_is_place c_is_whole F, hm, F.kp, F.binds fun _ _ _ _ _ _ us hl => (by obtain ⟨x0, x1, x2, rfl⟩ := len_3 hl; rfl)⟩

def sp_net_of (K : PySem.W.Frag) : Sp := fun vs H Q E => ∃ (S T R : Addr) (us Gs Es ts qt : List Addr) (ss : List Sco) (gs : List (Str × Int)) (qs : List Qu), vs = [.ref S, .ref T, .ref R] ∧ Net3 H S T R us Gs Es ts qt ss gs qs ∧ (∀ x ∈ wordsN ss qs, x.length ≤ 1000) ∧ (¬ NFits ss gs qs → E (.ref (clsA K "TooGreat")) none H) ∧ (NFits ss gs qs → ¬ NNames ss qs → ∀ H', Same H H' → E (.ref (clsA K "NoName")) none H') ∧ (NFits ss gs qs → NNames ss qs → ¬ NPlaces ss gs qs → ∀ H', Same H H' → E (.ref (clsA K "NoPlace")) none H') ∧ (NFits ss gs qs → NNames ss qs → NPlaces ss gs qs →
  ∀ (nt S2 T2 R2 : Addr) (u2 G2 E2 : List Addr) (H' : Hp), Same H H' → H' nt = some (.tup [.ref S2, .ref T2, .ref R2]) → Net3 H' S2 T2 R2 u2 G2 E2 ts qt ss gs qs → (S2 :: (G2 ++ E2)).Nodup → H S2 = none → H T2 = none → H R2 = none → (∀ x ∈ G2 ++ E2, H x = none) → T2 ≠ R2 → S2 ≠ T2 → S2 ≠ R2 → (∀ x ∈ G2 ++ E2, x ≠ S2 ∧ x ≠ T2 ∧ x ≠ R2) → Q (.ref nt) H')
set_option maxHeartbeats 4000000 in
seal L2.PE L2.PA L2.PS L2.PSs L2.PT L2.PW L2.PC L2.PG L2.PGs L2.PI L2.PF L2.PSet L2.OpR L2.UnR L2.CallR L2.MtR L2.IxR L2.SlR L2.PO in
theorem ok_net_of {f : Addr} {fd : FuncData} (B : Blt mg) (ER : Ers K mg) (c_refuse_too_great : CalleeE P w K mg base "refuse_too_great" 2 ["scopes", "things", "questions"] (sp_refuse_too_great K)) (c_refuse_no_names : CalleeE P w K mg base "refuse_no_names" 2 ["scopes", "questions"] (sp_refuse_no_names K)) (c_refuse_no_places : CalleeE P w K mg base "refuse_no_places" 4 ["scopes", "things", "questions"] (sp_refuse_no_places K)) (F : Fun K "net_of" "net_of" s_net_of f fd) : FnOk P w K mg base (CXE P w) 5 f fd ["scopes", "things", "questions"] (sp_net_of K) := by
  refine F.okE sc_net_of (fun vs H Q E h => ?_) (fun cdv A outer s H vs Q E hr h => ?_)
  · obtain ⟨S, T, R, us, Gs, Es, ts, qt, ss, gs, qs, rfl, _⟩ := h
    rfl
  · obtain ⟨S, T, R, us, Gs, Es, ts, qt, ss, gs, qs, rfl, hN, hw, q1, q2, q3, q4⟩ := h
    refine ⟨_, (pss_cons (ps_expr (pe_fnE c_refuse_too_great throws_cx (hr.mono (by decide)) rfl (pa_cons (pv 0) (pa_cons (pv 1) (pa_cons (pv 2) pa_nil)))))
      (pss_cons (ps_expr (pe_fnE c_refuse_no_names throws_cx (hr.mono (by decide)) rfl (pa_cons (pv 0) (pa_cons (pv 2) pa_nil))))
      (pss_cons (ps_expr (pe_fnE c_refuse_no_places throws_cx (hr.mono (by decide)) rfl (pa_cons (pv 0) (pa_cons (pv 1) (pa_cons (pv 2) pa_nil)))))
      (pss_one (ps_ret (pe_tup (pa_cons (pe_comp (g := gTup K 2 (gCons (gName 0) (gCons (gName 1) gNil))) (te := tTup (tCons (tCB (rListOf K) (tCons (tVar 0) tNil)) (tCons (tCB (rListOf K) (tCons (tVar 1) tNil)) tNil))) rfl net_of_cs1 (pi_list (pv 0)) (fun _ _ _ _ _ => (pg_tup rfl (pgs_cons (pg_name (i := 0) net_of_cs1.nd rfl (Or.inl rfl)) (pgs_cons (pg_name (i := 1) net_of_cs1.nd rfl (Or.inl rfl)) pgs_nil)))) (fun _ _ _ _ _ => pf_nil) (fun _ _ _ _ _ => (pe_tup (pa_cons (pe_callTy call_list_of (by rfl) B.b_list (by decide +kernel) (pa_cons (pv 0) pa_nil)) (pa_cons (pe_callTy call_list_of (by rfl) B.b_list (by decide +kernel) (pa_cons (pv 1) pa_nil)) pa_nil))))) (pa_cons (pe_callTy call_list_of (by rfl) B.b_list (by decide +kernel) (pa_cons (pv 1) pa_nil)) (pa_cons (pe_callTy call_list_of (by rfl) B.b_list (by decide +kernel) (pa_cons (pv 2) pa_nil)) pa_nil))))))))), ?_⟩
    refine ⟨_, rfl, _, rfl, _, rfl, S, T, R, us, Gs, Es, ts, qt, ss, gs, qs, rfl, hN, fun hF => ?_, q1⟩
    have l1 := hF.ls
    refine ⟨_, rfl, _, rfl, S, T, R, us, Gs, Es, ts, qt, ss, gs, qs, rfl, hN, hF, hw, fun hn H1 s1 => ?_, q2 hF⟩
    have N1 := hN.same s1
    refine ⟨_, rfl, _, rfl, _, rfl, S, T, R, us, Gs, Es, ts, qt, ss, gs, qs, rfl, N1, fun hp H2 s2 => ?_, fun z H2 s2 => q3 hF hn z H2 (s1.trans s2)⟩
    have q := q4 hF hn hp
    have N2 := N1.same s2
    have s02 := s1.trans s2
    refine ⟨_, rfl, S, rfl, ⟨_, SqL.of N2.sc.top⟩, comp_listI (xs := us.map V.ref) (fun D i ys H' => ∃ u2 G2 E2 : List Addr, ys = u2.map V.ref ∧ Same H2 H' ∧ Scs H' D u2 G2 E2 (ss.take i) ∧ (D :: (G2 ++ E2)).Nodup ∧ ∀ x ∈ G2 ++ E2, H2 x = none)
      (fun D hD => ⟨[], [], [], rfl, same_new hD, by rw [List.take_zero]; exact Scs.nil upd_same, by simp, fun x hx => by simp at hx⟩) (fun D i ys H' ⟨_, _, _, _, s9, _⟩ => SqL.of (s9 _ _ N2.sc.top)) (fun D i x ys H9 RR hD hx hv k => ?_) (fun D2 ys H9 hD2 hv => ?_)⟩
    · obtain ⟨u2, G2, E2, rfl, s9, SC9, nd, hfr⟩ := hv
      rw [List.getElem?_map] at hx
      obtain ⟨u, hu, rfl⟩ := Option.map_eq_some_iff.mp hx
      have hil : i < ss.length := by rw [← N2.sc.lu]; exact (List.getElem?_eq_some_iff.mp hu).1
      obtain ⟨u', G, E1, g1, g2, g3, g4, g5⟩ := (N2.sc.same s9).get hil
      rw [hu] at g1; cases g1
      obtain ⟨a1, ⟨tG, b1, b2⟩, ⟨tE, c1, c2⟩⟩ := g5
      have etk : ss.take (i + 1) = ss.take i ++ [ss[i]] := by rw [List.take_succ, g4]; rfl
      have lu2 := SC9.lu
      rw [List.length_take] at lu2
      refine ⟨u, _, rfl, SqT.of a1, rfl, _, _, rfl, _, _, rfl, rfl, ?_⟩
      refine ⟨_, rfl, G, _, rfl, Or.inl (SqL.of b1), fun G3 hG3 => ?_⟩
      have t1 := same_new (o := .lst (tG.map V.ref)) hG3
      have eG3 : (upd H9 G3 (.lst (tG.map V.ref))) G3 = some (.lst (tG.map V.ref)) := upd_same
      generalize upd H9 G3 (.lst (tG.map V.ref)) = H10 at t1 eG3 ⊢
      refine ⟨_, rfl, E1, _, rfl, Or.inl (SqL.of (t1 _ _ c1)), fun E3 hE3 => ?_⟩
      have t2 := same_new (o := .lst (tE.map V.ref)) hE3
      have eE3 : (upd H10 E3 (.lst (tE.map V.ref))) E3 = some (.lst (tE.map V.ref)) := upd_same
      generalize upd H10 E3 (.lst (tE.map V.ref)) = H11 at t2 eE3 ⊢
      refine ⟨two_le, fun u3 hu3 => ?_⟩
      have t3 := same_new (o := .tup [.ref G3, .ref E3]) hu3
      have eu3 : (upd H11 u3 (.tup [.ref G3, .ref E3])) u3 = some (.tup [.ref G3, .ref E3]) := upd_same
      generalize upd H11 u3 (.tup [.ref G3, .ref E3]) = H12 at t3 eu3 ⊢
      have t13 := (t1.trans t2).trans t3
      have t23 := t2.trans t3
      have SC12 := SC9.same t13
      have al := SC9.alive
      have nG : G3 ∉ D :: (G2 ++ E2) := fun y => by
        rcases List.mem_cons.mp y with y | y
        · rw [y, SC9.top] at hG3; cases hG3
        · obtain ⟨xs, e⟩ := al _ y
          rw [e] at hG3; cases hG3
      have nE : E3 ∉ D :: (G2 ++ E2) := fun y => by
        rcases List.mem_cons.mp y with y | y
        · rw [y, t1 _ _ SC9.top] at hE3; cases hE3
        · obtain ⟨xs, e⟩ := al _ y
          rw [t1 _ _ e] at hE3; cases hE3
      have nGE : G3 ≠ E3 := fun y => by rw [← y, eG3] at hE3; cases hE3
      have hs12 : ScH H12 u3 G3 E3 ss[i] := ⟨eu3, ⟨tG, t23 _ _ eG3, b2.same t13⟩, ⟨tE, t3 _ _ eE3, c2.same t13⟩⟩
      refine k _ _ SC12.top (by rw [List.length_map, lu2]; exact small1000 (by omega)) ⟨u2 ++ [u3], G2 ++ [G3], E2 ++ [E3], by rw [List.map_append]; rfl, fun b o e => ?_, ?_, nd_snoc2 nd nG nE nGE, fun x hx => ?_⟩
      · rw [upd_ne (ne_of_none e hD)]; exact t13 _ _ (s9 _ _ e)
      · rw [etk]; exact SC12.snoc hs12 (fun z => nG (z ▸ List.mem_cons_self)) (fun z => nE (z ▸ List.mem_cons_self)) (fun x hx z => (List.nodup_cons.mp nd).1 (z ▸ hx))
      · simp only [List.mem_append, List.mem_singleton] at hx
        rcases hx with (h | h) | (h | h)
        · exact hfr x (List.mem_append_left _ h)
        · rw [h]; exact s9.free hG3
        · exact hfr x (List.mem_append_right _ h)
        · rw [h]; exact (s9.trans t1).free hE3
    obtain ⟨u2, G2, E2, rfl, s9, SC9, nd, hfr⟩ := hv
    rw [show (us.map V.ref).length = ss.length by rw [List.length_map, N2.sc.lu], List.take_length] at SC9
    refine ⟨_, rfl, T, _, rfl, Or.inl (SqL.of (s9 _ _ N2.et)), fun T2 hT2 => ?_⟩
    have t1 := same_new (o := .lst (ts.map V.ref)) hT2
    have eT2 : (upd H9 T2 (.lst (ts.map V.ref))) T2 = some (.lst (ts.map V.ref)) := upd_same
    generalize upd H9 T2 (.lst (ts.map V.ref)) = H10 at t1 eT2 ⊢
    refine ⟨_, rfl, R, _, rfl, Or.inl (SqL.of (t1 _ _ (s9 _ _ N2.er))), fun R2 hR2 => ?_⟩
    have t2 := same_new (o := .lst (qt.map V.ref)) hR2
    have eR2 : (upd H10 R2 (.lst (qt.map V.ref))) R2 = some (.lst (qt.map V.ref)) := upd_same
    generalize upd H10 R2 (.lst (qt.map V.ref)) = H11 at t2 eR2 ⊢
    refine ⟨three_le, fun kt hkt => ?_⟩
    have t3 := same_new (o := .tup [.ref D2, .ref T2, .ref R2]) hkt
    have ekt : (upd H11 kt (.tup [.ref D2, .ref T2, .ref R2])) kt = some (.tup [.ref D2, .ref T2, .ref R2]) := upd_same
    generalize upd H11 kt (.tup [.ref D2, .ref T2, .ref R2]) = H12 at t3 ekt ⊢
    have t23 := t2.trans t3
    have t13 := t1.trans t23
    have sA := s02.trans <| s9.trans t13
    have al := SC9.alive
    refine q kt D2 T2 R2 u2 G2 E2 H12 sA ekt ⟨SC9.same t13, t23 _ _ eT2, N2.tg.same (s9.trans t13), t3 _ _ eR2, N2.tq.same (s9.trans t13)⟩ nd (s02.free hD2) (s02.free (s9.free hT2)) (s02.free ((s9.trans t1).free hR2)) (fun x hx => s02.free (hfr x hx)) (fun z => by rw [← z, eT2] at hR2; cases hR2) (fun z => by rw [← z, SC9.top] at hT2; cases hT2) (fun z => by rw [← z, t1 _ _ SC9.top] at hR2; cases hR2) (fun x hx => ⟨fun z => (List.nodup_cons.mp nd).1 (z ▸ hx), fun z => ?_, fun z => ?_⟩)
    · obtain ⟨xs, e⟩ := al x hx
      rw [z, hT2] at e; cases e
    · obtain ⟨xs, e⟩ := al x hx
      rw [z] at e
      rw [t1 _ _ e] at hR2; cases hR2
theorem call_net_of {f : Addr} {fd : FuncData} (B : Blt mg) (ER : Ers K mg) (c_refuse_too_great : CalleeE P w K mg base "refuse_too_great" 2 ["scopes", "things", "questions"] (sp_refuse_too_great K)) (c_refuse_no_names : CalleeE P w K mg base "refuse_no_names" 2 ["scopes", "questions"] (sp_refuse_no_names K)) (c_refuse_no_places : CalleeE P w K mg base "refuse_no_places" 4 ["scopes", "things", "questions"] (sp_refuse_no_places K)) (F : Fun K "net_of" "net_of" s_net_of f fd) (hm : mg "net_of" = some (.ref f)) : CalleeE P w K mg base "net_of" 5 ["scopes", "things", "questions"] (sp_net_of K) :=
  ⟨f, fd, ok_net_of B ER c_refuse_too_great c_refuse_no_names c_refuse_no_places F, hm, F.kp, F.binds fun _ _ _ _ _ _ us hl => (by obtain ⟨x0, x1, x2, rfl⟩ := len_3 hl; rfl)⟩

def sp__law_kinds_of (K : PySem.W.Frag) : Sp := fun vs H Q _ => ∃ (S T R : Addr) (us Gs Es ts qt : List Addr) (ss : List Sco) (gs : List (Str × Int)) (qs : List Qu), vs = [.ref S, .ref T, .ref R] ∧ Net3 H S T R us Gs Es ts qt ss gs qs ∧ (∀ x ∈ wordsN ss qs, x.length ≤ 1000) ∧
  (¬ NFits ss gs qs → ∀ D H', Same H H' → H' D = some (.lst (kindsL 0)) → Q (.ref D) H') ∧ (NFits ss gs qs → ¬ NNames ss qs → ∀ D H', Same H H' → H' D = some (.lst (kindsL 1)) → Q (.ref D) H') ∧
  (NFits ss gs qs → NNames ss qs → ¬ NPlaces ss gs qs → ∀ D H', Same H H' → H' D = some (.lst (kindsL 2)) → Q (.ref D) H') ∧ (NFits ss gs qs → NNames ss qs → NPlaces ss gs qs → ∀ H', Same H H' → Q .non H')
set_option maxHeartbeats 4000000 in
seal L2.PE L2.PA L2.PS L2.PSs L2.PT L2.PW L2.PC L2.PG L2.PGs L2.PI L2.PF L2.PSet L2.OpR L2.UnR L2.CallR L2.MtR L2.IxR L2.SlR L2.PO in
theorem ok__law_kinds_of {f : Addr} {fd : FuncData} (B : Blt mg) (ER : Ers K mg) (c_net_of : CalleeE P w K mg base "net_of" 5 ["scopes", "things", "questions"] (sp_net_of K)) (F : Fun K "_law_kinds_of" "_law_kinds_of" s__law_kinds_of f fd) : FnOk P w K mg base CX0 6 f fd ["_law_scopes", "_law_things", "_law_questions"] (sp__law_kinds_of K) := by
  refine F.ok sc__law_kinds_of (fun vs H Q E h => ?_) (fun cdv A outer s H vs Q E hr h => ?_)
  · obtain ⟨S, T, R, us, Gs, Es, ts, qt, ss, gs, qs, rfl, _⟩ := h
    rfl
  · obtain ⟨S, T, R, us, Gs, Es, ts, qt, ss, gs, qs, rfl, hN, hw, q1, q2, q3, q4⟩ := h
    refine ⟨_, (pss_cons (ps_set (i := 3) sc__law_kinds_of.nd rfl (Or.inl rfl) pe_non)
      (pss_cons (ps_try_fn (i := 4) c_net_of (hr.mono (by decide)) rfl (pa_cons (pv 0) (pa_cons (pv 1) (pa_cons (pv 2) pa_nil))) rfl rfl ER.k_PathError.ok (by decide) rfl ER.e_PathError sc__law_kinds_of.nd rfl rfl (fun _ => (pss_cons (ps_set (i := 3) sc__law_kinds_of.nd rfl (Or.inl rfl) (pe_lst (pa_cons (pe_callB (id := "isinstance") (r := rIsiE K) call_isiE (by rfl) B.b_isinstance (by decide +kernel) (pa_cons (pv 4) (pa_cons (pe_ty "ValueError" rfl B.b_ValueError (by decide +kernel)) pa_nil))) (pa_cons (pe_callB (id := "isinstance") (r := rIsiE K) call_isiE (by rfl) B.b_isinstance (by decide +kernel) (pa_cons (pv 4) (pa_cons (pe_glob (v := .ref (clsA K "TooGreat")) rfl ER.e_TooGreat rfl) pa_nil))) (pa_cons (pe_callB (id := "isinstance") (r := rIsiE K) call_isiE (by rfl) B.b_isinstance (by decide +kernel) (pa_cons (pv 4) (pa_cons (pe_glob (v := .ref (clsA K "NoName")) rfl ER.e_NoName rfl) pa_nil))) (pa_cons (pe_callB (id := "isinstance") (r := rIsiE K) call_isiE (by rfl) B.b_isinstance (by decide +kernel) (pa_cons (pv 4) (pa_cons (pe_glob (v := .ref (clsA K "NoPlace")) rfl ER.e_NoPlace rfl) pa_nil))) pa_nil))))))
        (pss_cons (ps_set (i := 3) sc__law_kinds_of.nd rfl (Or.inl rfl) (pe_op op_cat (pv 3) (pe_lst (pa_cons (pe_callB (id := "isinstance") (r := rIsiE K) call_isiE (by rfl) B.b_isinstance (by decide +kernel) (pa_cons (pv 4) (pa_cons (pe_glob (v := .ref (clsA K "Twice")) rfl ER.e_Twice rfl) pa_nil))) (pa_cons (pe_callB (id := "isinstance") (r := rIsiE K) call_isiE (by rfl) B.b_isinstance (by decide +kernel) (pa_cons (pv 4) (pa_cons (pe_glob (v := .ref (clsA K "Tangled")) rfl ER.e_Tangled rfl) pa_nil))) (pa_cons (pe_callB (id := "isinstance") (r := rIsiE K) call_isiE (by rfl) B.b_isinstance (by decide +kernel) (pa_cons (pv 4) (pa_cons (pe_glob (v := .ref (clsA K "NoText")) rfl ER.e_NoText rfl) pa_nil))) (pa_cons (pe_callB (id := "isinstance") (r := rIsiE K) call_isiE (by rfl) B.b_isinstance (by decide +kernel) (pa_cons (pv 4) (pa_cons (pe_glob (v := .ref (clsA K "NoRow")) rfl ER.e_NoRow rfl) pa_nil))) pa_nil)))))))
        (pss_one (ps_set (i := 3) sc__law_kinds_of.nd rfl (Or.inl rfl) (pe_op op_cat (pv 3) (pe_lst (pa_cons (pe_callB (id := "isinstance") (r := rIsiE K) call_isiE (by rfl) B.b_isinstance (by decide +kernel) (pa_cons (pv 4) (pa_cons (pe_glob (v := .ref (clsA K "Ring")) rfl ER.e_Ring rfl) pa_nil))) (pa_cons (pe_callB (id := "isinstance") (r := rIsiE K) call_isiE (by rfl) B.b_isinstance (by decide +kernel) (pa_cons (pv 4) (pa_cons (pe_glob (v := .ref (clsA K "Caught")) rfl ER.e_Caught rfl) pa_nil))) pa_nil))))))))))
      (pss_one (ps_ret (pv 3))))), ?_⟩
    refine g_in ?_
    try dsimp only
    refine ⟨_, rfl, _, rfl, _, rfl, S, T, R, us, Gs, Es, ts, qt, ss, gs, qs, rfl, hN, hw, ?_, ?_, ?_, fun hf hn hp nt S2 T2 R2 u2 G2 E2 H' s' _ _ _ _ _ _ _ _ _ _ _ => ⟨_, rfl, q4 hf hn hp _ s'⟩⟩
    · refine fun hf => ?_
      refine ⟨clsA K "TooGreat", _, _, rfl, ER.k_TooGreat.ok, ER.s_TooGreat_PathError, fun ea hea => ?_⟩
      have tX : (upd H ea (ExcO ea (clsA K "TooGreat"))) ea = some (ExcO ea (clsA K "TooGreat")) := upd_same
      have s1 := same_new (o := ExcO ea (clsA K "TooGreat")) hea
      generalize upd H ea (ExcO ea (clsA K "TooGreat")) = H3 at tX s1 ⊢
      try dsimp only
      refine ⟨_, rfl, ea, clsA K "TooGreat", _, _, true, rfl, (fun _ h => h), tX, ER.d_TooGreat, ER.v_TooGreat, fun _ => rfl, _, rfl, ea, clsA K "TooGreat", _, _, true, rfl, (fun _ h => h), tX, ER.d_TooGreat, ER.a_TooGreat_TooGreat, fun _ => rfl, _, rfl, ea, clsA K "TooGreat", _, _, false, rfl, (fun _ h => h), tX, ER.d_TooGreat, ER.a_TooGreat_NoName, (fun z => by rw [ER.n_TooGreat_NoName] at z; cases z), _, rfl, ea, clsA K "TooGreat", _, _, false, rfl, (fun _ h => h), tX, ER.d_TooGreat, ER.a_TooGreat_NoPlace, (fun z => by rw [ER.n_TooGreat_NoPlace] at z; cases z), show 4 ≤ sizeLine by decide, fun l1 h1 => ?_⟩
      have t2 := same_new (o := .lst [.bl true, .bl true, .bl false, .bl false]) h1
      have e1 : (upd H3 l1 (.lst [.bl true, .bl true, .bl false, .bl false])) l1 = some (.lst [.bl true, .bl true, .bl false, .bl false]) := upd_same
      generalize upd H3 l1 (.lst [.bl true, .bl true, .bl false, .bl false]) = H4 at t2 e1 ⊢
      have tX := t2 _ _ tX
      refine g_in ?_
      try dsimp only
      refine ⟨_, rfl, _, rfl, ea, clsA K "TooGreat", _, _, false, rfl, (fun _ h => h), tX, ER.d_TooGreat, ER.a_TooGreat_Twice, (fun z => by rw [ER.n_TooGreat_Twice] at z; cases z), _, rfl, ea, clsA K "TooGreat", _, _, false, rfl, (fun _ h => h), tX, ER.d_TooGreat, ER.a_TooGreat_Tangled, (fun z => by rw [ER.n_TooGreat_Tangled] at z; cases z), _, rfl, ea, clsA K "TooGreat", _, _, false, rfl, (fun _ h => h), tX, ER.d_TooGreat, ER.a_TooGreat_NoText, (fun z => by rw [ER.n_TooGreat_NoText] at z; cases z), _, rfl, ea, clsA K "TooGreat", _, _, false, rfl, (fun _ h => h), tX, ER.d_TooGreat, ER.a_TooGreat_NoRow, (fun z => by rw [ER.n_TooGreat_NoRow] at z; cases z), show 4 ≤ sizeLine by decide, fun l2 h2 => ?_⟩
      have t3 := same_new (o := .lst [.bl false, .bl false, .bl false, .bl false]) h2
      have e2 : (upd H4 l2 (.lst [.bl false, .bl false, .bl false, .bl false])) l2 = some (.lst [.bl false, .bl false, .bl false, .bl false]) := upd_same
      generalize upd H4 l2 (.lst [.bl false, .bl false, .bl false, .bl false]) = H5 at t3 e2 ⊢
      have tX := t3 _ _ tX
      refine ⟨l1, l2, _, _, rfl, rfl, t3 _ _ e1, e2, show 8 ≤ sizeLine by decide, fun l3 h3 => ?_⟩
      have t4 := same_new (o := .lst ([.bl true, .bl true, .bl false, .bl false] ++ [.bl false, .bl false, .bl false, .bl false])) h3
      have e3 : (upd H5 l3 (.lst ([.bl true, .bl true, .bl false, .bl false] ++ [.bl false, .bl false, .bl false, .bl false]))) l3 = some (.lst ([.bl true, .bl true, .bl false, .bl false] ++ [.bl false, .bl false, .bl false, .bl false])) := upd_same
      generalize upd H5 l3 (.lst ([.bl true, .bl true, .bl false, .bl false] ++ [.bl false, .bl false, .bl false, .bl false])) = H6 at t4 e3 ⊢
      have tX := t4 _ _ tX
      refine g_in ?_
      try dsimp only
      refine ⟨_, rfl, _, rfl, ea, clsA K "TooGreat", _, _, false, rfl, (fun _ h => h), tX, ER.d_TooGreat, ER.a_TooGreat_Ring, (fun z => by rw [ER.n_TooGreat_Ring] at z; cases z), _, rfl, ea, clsA K "TooGreat", _, _, false, rfl, (fun _ h => h), tX, ER.d_TooGreat, ER.a_TooGreat_Caught, (fun z => by rw [ER.n_TooGreat_Caught] at z; cases z), show 2 ≤ sizeLine by decide, fun l4 h4 => ?_⟩
      have t5 := same_new (o := .lst [.bl false, .bl false]) h4
      have e4 : (upd H6 l4 (.lst [.bl false, .bl false])) l4 = some (.lst [.bl false, .bl false]) := upd_same
      generalize upd H6 l4 (.lst [.bl false, .bl false]) = H7 at t5 e4 ⊢
      refine ⟨l3, l4, _, _, rfl, rfl, t5 _ _ e3, e4, show 10 ≤ sizeLine by decide, fun l5 h5 => ?_⟩
      refine g_in ?_
      try dsimp only
      refine ⟨_, rfl, q1 hf l5 _ (((((s1.trans t2).trans t3).trans t4).trans t5).trans (same_new h5)) ?_⟩
      rw [upd_same]
      rfl
    · refine fun hf hn H2 s0 => ?_
      refine ⟨clsA K "NoName", _, _, rfl, ER.k_NoName.ok, ER.s_NoName_PathError, fun ea hea => ?_⟩
      have tX : (upd H2 ea (ExcO ea (clsA K "NoName"))) ea = some (ExcO ea (clsA K "NoName")) := upd_same
      have s1 := same_new (o := ExcO ea (clsA K "NoName")) hea
      generalize upd H2 ea (ExcO ea (clsA K "NoName")) = H3 at tX s1 ⊢
      try dsimp only
      refine ⟨_, rfl, ea, clsA K "NoName", _, _, true, rfl, (fun _ h => h), tX, ER.d_NoName, ER.v_NoName, fun _ => rfl, _, rfl, ea, clsA K "NoName", _, _, false, rfl, (fun _ h => h), tX, ER.d_NoName, ER.a_NoName_TooGreat, (fun z => by rw [ER.n_NoName_TooGreat] at z; cases z), _, rfl, ea, clsA K "NoName", _, _, true, rfl, (fun _ h => h), tX, ER.d_NoName, ER.a_NoName_NoName, fun _ => rfl, _, rfl, ea, clsA K "NoName", _, _, false, rfl, (fun _ h => h), tX, ER.d_NoName, ER.a_NoName_NoPlace, (fun z => by rw [ER.n_NoName_NoPlace] at z; cases z), show 4 ≤ sizeLine by decide, fun l1 h1 => ?_⟩
      have t2 := same_new (o := .lst [.bl true, .bl false, .bl true, .bl false]) h1
      have e1 : (upd H3 l1 (.lst [.bl true, .bl false, .bl true, .bl false])) l1 = some (.lst [.bl true, .bl false, .bl true, .bl false]) := upd_same
      generalize upd H3 l1 (.lst [.bl true, .bl false, .bl true, .bl false]) = H4 at t2 e1 ⊢
      have tX := t2 _ _ tX
      refine g_in ?_
      try dsimp only
      refine ⟨_, rfl, _, rfl, ea, clsA K "NoName", _, _, false, rfl, (fun _ h => h), tX, ER.d_NoName, ER.a_NoName_Twice, (fun z => by rw [ER.n_NoName_Twice] at z; cases z), _, rfl, ea, clsA K "NoName", _, _, false, rfl, (fun _ h => h), tX, ER.d_NoName, ER.a_NoName_Tangled, (fun z => by rw [ER.n_NoName_Tangled] at z; cases z), _, rfl, ea, clsA K "NoName", _, _, false, rfl, (fun _ h => h), tX, ER.d_NoName, ER.a_NoName_NoText, (fun z => by rw [ER.n_NoName_NoText] at z; cases z), _, rfl, ea, clsA K "NoName", _, _, false, rfl, (fun _ h => h), tX, ER.d_NoName, ER.a_NoName_NoRow, (fun z => by rw [ER.n_NoName_NoRow] at z; cases z), show 4 ≤ sizeLine by decide, fun l2 h2 => ?_⟩
      have t3 := same_new (o := .lst [.bl false, .bl false, .bl false, .bl false]) h2
      have e2 : (upd H4 l2 (.lst [.bl false, .bl false, .bl false, .bl false])) l2 = some (.lst [.bl false, .bl false, .bl false, .bl false]) := upd_same
      generalize upd H4 l2 (.lst [.bl false, .bl false, .bl false, .bl false]) = H5 at t3 e2 ⊢
      have tX := t3 _ _ tX
      refine ⟨l1, l2, _, _, rfl, rfl, t3 _ _ e1, e2, show 8 ≤ sizeLine by decide, fun l3 h3 => ?_⟩
      have t4 := same_new (o := .lst ([.bl true, .bl false, .bl true, .bl false] ++ [.bl false, .bl false, .bl false, .bl false])) h3
      have e3 : (upd H5 l3 (.lst ([.bl true, .bl false, .bl true, .bl false] ++ [.bl false, .bl false, .bl false, .bl false]))) l3 = some (.lst ([.bl true, .bl false, .bl true, .bl false] ++ [.bl false, .bl false, .bl false, .bl false])) := upd_same
      generalize upd H5 l3 (.lst ([.bl true, .bl false, .bl true, .bl false] ++ [.bl false, .bl false, .bl false, .bl false])) = H6 at t4 e3 ⊢
      have tX := t4 _ _ tX
      refine g_in ?_
      try dsimp only
      refine ⟨_, rfl, _, rfl, ea, clsA K "NoName", _, _, false, rfl, (fun _ h => h), tX, ER.d_NoName, ER.a_NoName_Ring, (fun z => by rw [ER.n_NoName_Ring] at z; cases z), _, rfl, ea, clsA K "NoName", _, _, false, rfl, (fun _ h => h), tX, ER.d_NoName, ER.a_NoName_Caught, (fun z => by rw [ER.n_NoName_Caught] at z; cases z), show 2 ≤ sizeLine by decide, fun l4 h4 => ?_⟩
      have t5 := same_new (o := .lst [.bl false, .bl false]) h4
      have e4 : (upd H6 l4 (.lst [.bl false, .bl false])) l4 = some (.lst [.bl false, .bl false]) := upd_same
      generalize upd H6 l4 (.lst [.bl false, .bl false]) = H7 at t5 e4 ⊢
      refine ⟨l3, l4, _, _, rfl, rfl, t5 _ _ e3, e4, show 10 ≤ sizeLine by decide, fun l5 h5 => ?_⟩
      refine g_in ?_
      try dsimp only
      refine ⟨_, rfl, q2 hf hn l5 _ ((s0.trans ((((s1.trans t2).trans t3).trans t4).trans t5)).trans (same_new h5)) ?_⟩
      rw [upd_same]
      rfl
    · refine fun hf hn hp H2 s0 => ?_
      refine ⟨clsA K "NoPlace", _, _, rfl, ER.k_NoPlace.ok, ER.s_NoPlace_PathError, fun ea hea => ?_⟩
      have tX : (upd H2 ea (ExcO ea (clsA K "NoPlace"))) ea = some (ExcO ea (clsA K "NoPlace")) := upd_same
      have s1 := same_new (o := ExcO ea (clsA K "NoPlace")) hea
      generalize upd H2 ea (ExcO ea (clsA K "NoPlace")) = H3 at tX s1 ⊢
      try dsimp only
      refine ⟨_, rfl, ea, clsA K "NoPlace", _, _, true, rfl, (fun _ h => h), tX, ER.d_NoPlace, ER.v_NoPlace, fun _ => rfl, _, rfl, ea, clsA K "NoPlace", _, _, false, rfl, (fun _ h => h), tX, ER.d_NoPlace, ER.a_NoPlace_TooGreat, (fun z => by rw [ER.n_NoPlace_TooGreat] at z; cases z), _, rfl, ea, clsA K "NoPlace", _, _, false, rfl, (fun _ h => h), tX, ER.d_NoPlace, ER.a_NoPlace_NoName, (fun z => by rw [ER.n_NoPlace_NoName] at z; cases z), _, rfl, ea, clsA K "NoPlace", _, _, true, rfl, (fun _ h => h), tX, ER.d_NoPlace, ER.a_NoPlace_NoPlace, fun _ => rfl, show 4 ≤ sizeLine by decide, fun l1 h1 => ?_⟩
      have t2 := same_new (o := .lst [.bl true, .bl false, .bl false, .bl true]) h1
      have e1 : (upd H3 l1 (.lst [.bl true, .bl false, .bl false, .bl true])) l1 = some (.lst [.bl true, .bl false, .bl false, .bl true]) := upd_same
      generalize upd H3 l1 (.lst [.bl true, .bl false, .bl false, .bl true]) = H4 at t2 e1 ⊢
      have tX := t2 _ _ tX
      refine g_in ?_
      try dsimp only
      refine ⟨_, rfl, _, rfl, ea, clsA K "NoPlace", _, _, false, rfl, (fun _ h => h), tX, ER.d_NoPlace, ER.a_NoPlace_Twice, (fun z => by rw [ER.n_NoPlace_Twice] at z; cases z), _, rfl, ea, clsA K "NoPlace", _, _, false, rfl, (fun _ h => h), tX, ER.d_NoPlace, ER.a_NoPlace_Tangled, (fun z => by rw [ER.n_NoPlace_Tangled] at z; cases z), _, rfl, ea, clsA K "NoPlace", _, _, false, rfl, (fun _ h => h), tX, ER.d_NoPlace, ER.a_NoPlace_NoText, (fun z => by rw [ER.n_NoPlace_NoText] at z; cases z), _, rfl, ea, clsA K "NoPlace", _, _, false, rfl, (fun _ h => h), tX, ER.d_NoPlace, ER.a_NoPlace_NoRow, (fun z => by rw [ER.n_NoPlace_NoRow] at z; cases z), show 4 ≤ sizeLine by decide, fun l2 h2 => ?_⟩
      have t3 := same_new (o := .lst [.bl false, .bl false, .bl false, .bl false]) h2
      have e2 : (upd H4 l2 (.lst [.bl false, .bl false, .bl false, .bl false])) l2 = some (.lst [.bl false, .bl false, .bl false, .bl false]) := upd_same
      generalize upd H4 l2 (.lst [.bl false, .bl false, .bl false, .bl false]) = H5 at t3 e2 ⊢
      have tX := t3 _ _ tX
      refine ⟨l1, l2, _, _, rfl, rfl, t3 _ _ e1, e2, show 8 ≤ sizeLine by decide, fun l3 h3 => ?_⟩
      have t4 := same_new (o := .lst ([.bl true, .bl false, .bl false, .bl true] ++ [.bl false, .bl false, .bl false, .bl false])) h3
      have e3 : (upd H5 l3 (.lst ([.bl true, .bl false, .bl false, .bl true] ++ [.bl false, .bl false, .bl false, .bl false]))) l3 = some (.lst ([.bl true, .bl false, .bl false, .bl true] ++ [.bl false, .bl false, .bl false, .bl false])) := upd_same
      generalize upd H5 l3 (.lst ([.bl true, .bl false, .bl false, .bl true] ++ [.bl false, .bl false, .bl false, .bl false])) = H6 at t4 e3 ⊢
      have tX := t4 _ _ tX
      refine g_in ?_
      try dsimp only
      refine ⟨_, rfl, _, rfl, ea, clsA K "NoPlace", _, _, false, rfl, (fun _ h => h), tX, ER.d_NoPlace, ER.a_NoPlace_Ring, (fun z => by rw [ER.n_NoPlace_Ring] at z; cases z), _, rfl, ea, clsA K "NoPlace", _, _, false, rfl, (fun _ h => h), tX, ER.d_NoPlace, ER.a_NoPlace_Caught, (fun z => by rw [ER.n_NoPlace_Caught] at z; cases z), show 2 ≤ sizeLine by decide, fun l4 h4 => ?_⟩
      have t5 := same_new (o := .lst [.bl false, .bl false]) h4
      have e4 : (upd H6 l4 (.lst [.bl false, .bl false])) l4 = some (.lst [.bl false, .bl false]) := upd_same
      generalize upd H6 l4 (.lst [.bl false, .bl false]) = H7 at t5 e4 ⊢
      refine ⟨l3, l4, _, _, rfl, rfl, t5 _ _ e3, e4, show 10 ≤ sizeLine by decide, fun l5 h5 => ?_⟩
      refine g_in ?_
      try dsimp only
      refine ⟨_, rfl, q3 hf hn hp l5 _ ((s0.trans ((((s1.trans t2).trans t3).trans t4).trans t5)).trans (same_new h5)) ?_⟩
      rw [upd_same]
      rfl
theorem call__law_kinds_of {f : Addr} {fd : FuncData} (B : Blt mg) (ER : Ers K mg) (c_net_of : CalleeE P w K mg base "net_of" 5 ["scopes", "things", "questions"] (sp_net_of K)) (F : Fun K "_law_kinds_of" "_law_kinds_of" s__law_kinds_of f fd) (hm : mg "_law_kinds_of" = some (.ref f)) : Callee P w K mg base "_law_kinds_of" 6 ["_law_scopes", "_law_things", "_law_questions"] (sp__law_kinds_of K) :=
  ⟨f, fd, ok__law_kinds_of B ER c_net_of F, hm, F.kp, F.binds fun _ _ _ _ _ _ us hl => (by obtain ⟨x0, x1, x2, rfl⟩ := len_3 hl; rfl)⟩

def sp__law_is_net (K : PySem.W.Frag) : Sp := fun vs H Q _ => ∃ (nt S T R : Addr) (us Gs Es ts qt : List Addr) (pt S2 T2 R2 : Addr) (u2 G2 E2 t2 q2 : List Addr) (ss : List Sco) (gs : List (Str × Int)) (qs : List Qu), vs = [.ref nt, .ref pt] ∧ H nt = some (.tup [.ref S, .ref T, .ref R]) ∧ Net3 H S T R us Gs Es ts qt ss gs qs ∧ H pt = some (.tup [.ref S2, .ref T2, .ref R2]) ∧ Net3 H S2 T2 R2 u2 G2 E2 t2 q2 ss gs qs ∧ gs.length + qs.length ≤ 1000 ∧
  ∀ H', Same H H' → Q (.bl true) H'
set_option maxHeartbeats 4000000 in
seal L2.PE L2.PA L2.PS L2.PSs L2.PT L2.PW L2.PC L2.PG L2.PGs L2.PI L2.PF L2.PSet L2.OpR L2.UnR L2.CallR L2.MtR L2.IxR L2.SlR L2.PO in
theorem ok__law_is_net {f : Addr} {fd : FuncData} (B : Blt mg) (ER : Ers K mg)  (F : Fun K "_law_is_net" "_law_is_net" s__law_is_net f fd) : FnOk P w K mg base CX0 1 f fd ["_law_net", "_law_parts"] (sp__law_is_net K) := by
  refine F.ok sc__law_is_net (fun vs H Q E h => ?_) (fun cdv A outer s H vs Q E hr h => ?_)
  · obtain ⟨nt, S, T, R, us, Gs, Es, ts, qt, pt, S2, T2, R2, u2, G2, E2, t2, q2, ss, gs, qs, rfl, _⟩ := h
    rfl
  · obtain ⟨nt, S, T, R, us, Gs, Es, ts, qt, pt, S2, T2, R2, u2, G2, E2, t2, q2, ss, gs, qs, rfl, ent, hN, ept, hP, hl, q⟩ := h
    have hT : SqT K H nt [.ref S, .ref T, .ref R] := SqT.of ent
    refine ⟨_, (pss_cons (ps_if (PW.pt (pw_or (pt_not (pt_val (pe_callB call_isi (by rfl) B.b_isinstance (by decide +kernel) (pa_cons (pv 0) (pa_cons (pe_ty "tuple" rfl B.b_tuple (by decide +kernel)) pa_nil))))) (pw_or1 (pt_cmpR op_ne (pe_callB call_len (by rfl) B.b_len (by decide +kernel) (pa_cons (pv 0) pa_nil)) pe_int (nomark _))))) (pss_one (ps_ret pe_bl)) pss_nil)
      (pss_cons (ps_for PassesOwn.never rfl (pi_tup (pv 0)) (pg_name (i := 2) sc__law_is_net.nd rfl (Or.inl rfl)) (pss_one (ps_if (pt_not (pt_val (pe_callB call_isi (by rfl) B.b_isinstance (by decide +kernel) (pa_cons (pv 2) (pa_cons (pe_ty "list" rfl B.b_list (by decide +kernel)) pa_nil))))) (pss_one (ps_ret pe_bl)) pss_nil)))
      (pss_cons (ps_for PassesOwn.never rfl (pi_list (pe_ix ix_seq (pv 0) pe_int (fun _ _ => rfl))) (pg_name (i := 3) sc__law_is_net.nd rfl (Or.inl rfl)) (pss_cons (ps_if (PW.pt (pw_or (pt_not (pt_val (pe_callB call_isi (by rfl) B.b_isinstance (by decide +kernel) (pa_cons (pv 3) (pa_cons (pe_ty "tuple" rfl B.b_tuple (by decide +kernel)) pa_nil))))) (pw_or1 (pt_cmpR op_ne (pe_callB call_len (by rfl) B.b_len (by decide +kernel) (pa_cons (pv 3) pa_nil)) pe_int (nomark _))))) (pss_one (ps_ret pe_bl)) pss_nil)
        (pss_one (ps_if (PW.pt (pw_or (pt_not (pt_val (pe_callB call_isi (by rfl) B.b_isinstance (by decide +kernel) (pa_cons (pe_ix ix_seq (pv 3) pe_int (fun _ _ => rfl)) (pa_cons (pe_ty "list" rfl B.b_list (by decide +kernel)) pa_nil))))) (pw_or1 (pt_not (pt_val (pe_callB call_isi (by rfl) B.b_isinstance (by decide +kernel) (pa_cons (pe_ix ix_seq (pv 3) pe_int (fun _ _ => rfl)) (pa_cons (pe_ty "list" rfl B.b_list (by decide +kernel)) pa_nil)))))))) (pss_one (ps_ret pe_bl)) pss_nil))))
      (pss_cons (ps_for PassesOwn.never rfl (pi_list (pe_op op_cat (pe_ix ix_seq (pv 0) pe_int (fun _ _ => rfl)) (pe_ix ix_seq (pv 0) pe_int (fun _ _ => rfl)))) (pg_name (i := 4) sc__law_is_net.nd rfl (Or.inl rfl)) (pss_one (ps_if (pt_not (pt_val (pe_callB call_isi (by rfl) B.b_isinstance (by decide +kernel) (pa_cons (pv 4) (pa_cons (pe_ty "tuple" rfl B.b_tuple (by decide +kernel)) pa_nil))))) (pss_one (ps_ret pe_bl)) pss_nil)))
      (pss_one (ps_ret (pe_cmpR (op_eqD hr.units) (pv 0) (pv 1) (nomark _)))))))), ?_⟩
    refine ⟨_, rfl, _, .tup, .tup, rfl, .tup hT, _, rfl, iteF ?_⟩
    refine ⟨_, rfl, _, _, rfl, Or.inr ⟨_, hT, rfl⟩, rfl, _, rfl, iteNS rfl ?_⟩
    refine ⟨_, rfl, nt, rfl, ⟨_, hT⟩, for_tup (xs := [.ref S, .ref T, .ref R]) (fun i σ H' => ∃ u2, σ = [some (.ref nt), some (.ref pt), u2, none, none] ∧ H' = H) ⟨none, rfl, rfl⟩ (fun i σ H' _ ⟨_, _, e⟩ => by rw [e]; exact hT) ?_ ?_⟩
    · rintro i x σ H2 hx ⟨u2, rfl, rfl⟩
      obtain ⟨z, xs, rfl, sq⟩ : ∃ z xs, x = V.ref z ∧ SqL K H2 z xs := by
        match i, hx with
        | 0, hx => cases hx; exact ⟨S, _, rfl, SqL.of hN.sc.top⟩
        | 1, hx => cases hx; exact ⟨T, _, rfl, SqL.of hN.et⟩
        | 2, hx => cases hx; exact ⟨R, _, rfl, SqL.of hN.er⟩
        | _ + 3, hx => simp at hx
      exact ⟨_, rfl, _, .lst, .lst, rfl, .lst sq, _, rfl, iteF ⟨_, rfl, rfl⟩⟩
    rintro σ H2 ⟨u2', rfl, rfl⟩
    refine ⟨_, rfl, Or.inr (Or.inl ⟨nt, _, _, .ref S, rfl, rfl, hT, rfl, S, rfl, ⟨_, SqL.of hN.sc.top⟩, for_list (xs := us.map V.ref) (fun i σ H' => ∃ u3, σ = [some (.ref nt), some (.ref pt), u2', u3, none] ∧ H' = H2) ⟨none, rfl, rfl⟩ (fun i σ H' _ ⟨_, _, e⟩ => by rw [e]; exact SqL.of hN.sc.top) ?_ ?_⟩)⟩
    · rintro i x σ H3 hx ⟨u3, rfl, rfl⟩
      rw [List.getElem?_map] at hx
      obtain ⟨u, hu, rfl⟩ := Option.map_eq_some_iff.mp hx
      have hil : i < ss.length := by rw [← hN.sc.lu]; exact (List.getElem?_eq_some_iff.mp hu).1
      obtain ⟨u', G, E1, g1, g2, g3, g4, ⟨a1, ⟨tG, b1, b2⟩, ⟨tE, c1, c2⟩⟩⟩ := hN.sc.get hil
      rw [hu] at g1; cases g1
      have hu' : SqT K H3 u [.ref G, .ref E1] := SqT.of a1
      refine ⟨_, rfl, _, .tup, .tup, rfl, .tup hu', _, rfl, iteF ?_⟩
      refine ⟨_, rfl, _, _, rfl, Or.inr ⟨_, hu', rfl⟩, rfl, _, rfl, iteNS rfl ?_⟩
      refine ⟨_, rfl, Or.inr (Or.inl ⟨u, _, _, .ref G, rfl, rfl, hu', rfl, _, .lst, .lst, rfl, .lst (SqL.of b1), _, rfl, iteF ?_⟩)⟩
      refine ⟨_, rfl, Or.inr (Or.inl ⟨u, _, _, .ref E1, rfl, rfl, hu', rfl, _, .lst, .lst, rfl, .lst (SqL.of c1), _, rfl, iteF ?_⟩)⟩
      exact ⟨_, rfl, rfl⟩
    rintro σ H3 ⟨u3, rfl, rfl⟩
    refine ⟨_, rfl, Or.inr (Or.inl ⟨nt, _, _, .ref T, rfl, rfl, hT, rfl, _, rfl, Or.inr (Or.inl ⟨nt, _, _, .ref R, rfl, rfl, hT, rfl, T, R, _, _, rfl, rfl, hN.et, hN.er, by rw [List.length_map, List.length_map, hN.tg.len, hN.tq.len]; exact Nat.le_of_lt (small1000 (by omega)), fun D hD => ?_⟩)⟩)⟩
    have s4 := same_new (o := .lst (ts.map V.ref ++ qt.map V.ref)) hD
    have eD : (upd H3 D (.lst (ts.map V.ref ++ qt.map V.ref))) D = some (.lst (ts.map V.ref ++ qt.map V.ref)) := upd_same
    generalize upd H3 D (.lst (ts.map V.ref ++ qt.map V.ref)) = H4 at s4 eD ⊢
    refine ⟨D, rfl, ⟨_, SqL.of eD⟩, for_list (xs := ts.map V.ref ++ qt.map V.ref) (fun i σ H' => ∃ u4, σ = [some (.ref nt), some (.ref pt), u2', u3, u4] ∧ H' = H4) ⟨none, rfl, rfl⟩ (fun i σ H' _ ⟨_, _, e⟩ => by rw [e]; exact SqL.of eD) ?_ ?_⟩
    · rintro i x σ H5 hx ⟨u4, rfl, rfl⟩
      obtain ⟨z, xs, rfl, sq⟩ : ∃ z xs, x = V.ref z ∧ SqT K H5 z xs := by
        rcases List.mem_append.mp (List.mem_of_getElem? hx) with hm | hm
        · obtain ⟨t, ht, rfl⟩ := List.mem_map.mp hm
          obtain ⟨j, hj⟩ := List.getElem?_of_mem ht
          have hjl : j < gs.length := by rw [← hN.tg.len]; exact (List.getElem?_eq_some_iff.mp hj).1
          exact ⟨t, _, rfl, SqT.of (s4 _ _ (hN.tg.at_ j t _ hj (List.getElem?_eq_getElem hjl)))⟩
        · obtain ⟨t, ht, rfl⟩ := List.mem_map.mp hm
          obtain ⟨j, hj⟩ := List.getElem?_of_mem ht
          have hjl : j < qs.length := by rw [← hN.tq.len]; exact (List.getElem?_eq_some_iff.mp hj).1
          obtain ⟨u, a1, _⟩ := hN.tq.at_ j t _ hj (List.getElem?_eq_getElem hjl)
          exact ⟨t, _, rfl, SqT.of (s4 _ _ a1)⟩
      exact ⟨_, rfl, _, .tup, .tup, rfl, .tup sq, _, rfl, iteF ⟨_, rfl, rfl⟩⟩
    rintro σ H5 ⟨u4, rfl, rfl⟩
    refine ⟨_, rfl, _, rfl, 6, _, _, cmp_net ss ss gs gs qs qs, by decide, (hN.same s4).dt (s4 _ _ ent), (hP.same s4).dt (s4 _ _ ept), ?_⟩
    rw [dec_true rfl]
    exact q _ s4
theorem call__law_is_net {f : Addr} {fd : FuncData} (B : Blt mg) (ER : Ers K mg)  (F : Fun K "_law_is_net" "_law_is_net" s__law_is_net f fd) (hm : mg "_law_is_net" = some (.ref f)) : Callee P w K mg base "_law_is_net" 1 ["_law_net", "_law_parts"] (sp__law_is_net K) :=
  ⟨f, fd, ok__law_is_net B ER  F, hm, F.kp, F.binds fun _ _ _ _ _ _ us hl => (by obtain ⟨x0, x1, rfl⟩ := len_2 hl; rfl)⟩

def sp__law_judged (K : PySem.W.Frag) : Sp := fun vs H Q _ => ∃ (pt S T R : Addr) (us Gs Es ts qt : List Addr) (ss : List Sco) (gs : List (Str × Int)) (qs : List Qu), vs = [.ref pt] ∧ NetS H pt S T R us Gs Es ts qt ss gs qs ∧ Bd 100 ss gs qs ∧ ∀ H', Same H H' → Q (.bl true) H'
set_option maxHeartbeats 4000000 in
seal L2.PE L2.PA L2.PS L2.PSs L2.PT L2.PW L2.PC L2.PG L2.PGs L2.PI L2.PF L2.PSet L2.OpR L2.UnR L2.CallR L2.MtR L2.IxR L2.SlR L2.PO in
theorem ok__law_judged {f : Addr} {fd : FuncData} (B : Blt mg) (ER : Ers K mg) (c__law_copy : Callee P w K mg base "_law_copy" 1 ["_law_parts"] (sp__law_copy K)) (c__law_due : Callee P w K mg base "_law_due" 3 ["_law_parts"] (sp__law_due K)) (c__law_refused_as : Callee P w K mg base "_law_refused_as" 1 ["_law_kinds", "_law_due_here"] (sp__law_refused_as K)) (c__law_kinds_of : Callee P w K mg base "_law_kinds_of" 6 ["_law_scopes", "_law_things", "_law_questions"] (sp__law_kinds_of K)) (c__law_is_net : Callee P w K mg base "_law_is_net" 1 ["_law_net", "_law_parts"] (sp__law_is_net K)) (c_net_of : CalleeE P w K mg base "net_of" 5 ["scopes", "things", "questions"] (sp_net_of K)) (F : Fun K "_law_judged" "_law_judged" s__law_judged f fd) : FnOk P w K mg base CX0 7 f fd ["_law_parts"] (sp__law_judged K) := by
  refine F.ok sc__law_judged (fun vs H Q E h => ?_) (fun cdv A outer s H vs Q E hr h => ?_)
  · obtain ⟨pt, S, T, R, us, Gs, Es, ts, qt, ss, gs, qs, rfl, _⟩ := h
    rfl
  · obtain ⟨pt, S, T, R, us, Gs, Es, ts, qt, ss, gs, qs, rfl, N, bd, q⟩ := h
    have pL := bd.s
    have gL := bd.g
    have qL := bd.q
    refine ⟨_, (pss_cons (ps_set (i := 1) sc__law_judged.nd rfl (Or.inl rfl) (pe_fn c__law_copy (hr.mono (by decide)) rfl (pa_cons (pv 0) pa_nil)))
      (pss_cons (ps_set (i := 2) sc__law_judged.nd rfl (Or.inl rfl) (pe_fn c__law_due (hr.mono (by decide)) rfl (pa_cons (pv 1) pa_nil)))
      (pss_cons (ps_if (pt_cmp (pc_notN (pv 2))) (pss_one (ps_ret (pe_and (pe_fn c__law_refused_as (hr.mono (by decide)) rfl (pa_cons (pe_fn c__law_kinds_of (hr.mono (by decide)) rfl (pa_cons (pe_ix ix_seq (pv 0) pe_int (fun _ _ => rfl)) (pa_cons (pe_ix ix_seq (pv 0) pe_int (fun _ _ => rfl)) (pa_cons (pe_ix ix_seq (pv 0) pe_int (fun _ _ => rfl)) pa_nil)))) (pa_cons (pv 2) pa_nil))) (pe_one (pe_cmpR (op_eqD hr.units) (pv 0) (pv 1) (nomark _)))))) pss_nil)
      (pss_one (ps_ret (pe_and (pe_fn c__law_is_net (hr.mono (by decide)) rfl (pa_cons (pe_fnS c_net_of (hr.mono (by decide)) rfl (pa_cons (pe_ix ix_seq (pv 0) pe_int (fun _ _ => rfl)) (pa_cons (pe_ix ix_seq (pv 0) pe_int (fun _ _ => rfl)) (pa_cons (pe_ix ix_seq (pv 0) pe_int (fun _ _ => rfl)) pa_nil)))) (pa_cons (pv 1) pa_nil))) (pe_one (pe_cmpR (op_eqD hr.units) (pv 0) (pv 1) (nomark _))))))))), ?_⟩
    refine ⟨_, rfl, pt, S, T, R, us, Gs, Es, ts, qt, ss, gs, qs, rfl, N.ept, N.n3, by omega, fun n2 S2 T2 R2 u2 G2 E2 H1 s1 en2 N2 _ _ _ _ _ _ _ _ _ => ?_⟩
    refine g_in ?_
    try dsimp only
    refine ⟨_, rfl, n2, S2, T2, R2, u2, G2, E2, ts, qt, ss, gs, qs, rfl, en2, N2, bd, fun H7 s7 => ?_⟩
    have s07 := s1.trans s7
    have N7 := N.same s07
    have cmp : ∀ {H' : Hp}, Same H7 H' → IsDt K H' (.ref pt) (netD ss gs qs) ∧ IsDt K H' (.ref n2) (netD ss gs qs) := fun s => ⟨(N7.same s).n3.dt (N7.same s).ept, ((N2.same s7).same s).dt (s _ _ (s7 _ _ en2))⟩
    refine ⟨fun hd => ?_, fun h1 hd => ?_, fun h1 h2 hd => ?_, fun h1 h2 h3 => ?_⟩
    · refine g_in ?_
      try dsimp only
      refine ⟨_, rfl, _, rfl, ite2 (fun _ => ?_) (fun z => absurd rfl z)⟩
      refine ⟨_, rfl, Or.inr (Or.inl ⟨pt, _, _, .ref S, rfl, rfl, SqT.of N7.ept, rfl, _, rfl, Or.inr (Or.inl ⟨pt, _, _, .ref T, rfl, rfl, SqT.of N7.ept, rfl, _, rfl, Or.inr (Or.inl ⟨pt, _, _, .ref R, rfl, rfl, SqT.of N7.ept, rfl, S, T, R, us, Gs, Es, ts, qt, ss, gs, qs, rfl, N7.n3, bd.w, (fun _ D H8 s8 eD => ?_), (fun z => absurd z hd), (fun z => absurd z hd), (fun z => absurd z hd)⟩)⟩)⟩)⟩
      refine ⟨_, rfl, D, 0, rfl, eD, by decide, fun H9 s9 => ?_⟩
      obtain ⟨c1, c2⟩ := cmp (s8.trans s9)
      refine ⟨_, rfl, iteT ⟨_, rfl, _, rfl, 6, _, _, cmp_net ss ss gs gs qs qs, by decide, c1, c2, ?_⟩⟩
      rw [dec_true rfl]
      exact q _ (s07.trans (s8.trans s9))
    · refine g_in ?_
      try dsimp only
      refine ⟨_, rfl, _, rfl, ite2 (fun _ => ?_) (fun z => absurd rfl z)⟩
      refine ⟨_, rfl, Or.inr (Or.inl ⟨pt, _, _, .ref S, rfl, rfl, SqT.of N7.ept, rfl, _, rfl, Or.inr (Or.inl ⟨pt, _, _, .ref T, rfl, rfl, SqT.of N7.ept, rfl, _, rfl, Or.inr (Or.inl ⟨pt, _, _, .ref R, rfl, rfl, SqT.of N7.ept, rfl, S, T, R, us, Gs, Es, ts, qt, ss, gs, qs, rfl, N7.n3, bd.w, (fun z => absurd h1 z), (fun _ _ D H8 s8 eD => ?_), (fun _ z => absurd z hd), (fun _ z => absurd z hd)⟩)⟩)⟩)⟩
      refine ⟨_, rfl, D, 1, rfl, eD, by decide, fun H9 s9 => ?_⟩
      obtain ⟨c1, c2⟩ := cmp (s8.trans s9)
      refine ⟨_, rfl, iteT ⟨_, rfl, _, rfl, 6, _, _, cmp_net ss ss gs gs qs qs, by decide, c1, c2, ?_⟩⟩
      rw [dec_true rfl]
      exact q _ (s07.trans (s8.trans s9))
    · refine g_in ?_
      try dsimp only
      refine ⟨_, rfl, _, rfl, ite2 (fun _ => ?_) (fun z => absurd rfl z)⟩
      refine ⟨_, rfl, Or.inr (Or.inl ⟨pt, _, _, .ref S, rfl, rfl, SqT.of N7.ept, rfl, _, rfl, Or.inr (Or.inl ⟨pt, _, _, .ref T, rfl, rfl, SqT.of N7.ept, rfl, _, rfl, Or.inr (Or.inl ⟨pt, _, _, .ref R, rfl, rfl, SqT.of N7.ept, rfl, S, T, R, us, Gs, Es, ts, qt, ss, gs, qs, rfl, N7.n3, bd.w, (fun z => absurd h1 z), (fun _ z => absurd h2 z), (fun _ _ _ D H8 s8 eD => ?_), (fun _ _ z => absurd z hd)⟩)⟩)⟩)⟩
      refine ⟨_, rfl, D, 2, rfl, eD, by decide, fun H9 s9 => ?_⟩
      obtain ⟨c1, c2⟩ := cmp (s8.trans s9)
      refine ⟨_, rfl, iteT ⟨_, rfl, _, rfl, 6, _, _, cmp_net ss ss gs gs qs qs, by decide, c1, c2, ?_⟩⟩
      rw [dec_true rfl]
      exact q _ (s07.trans (s8.trans s9))
    · refine g_in ?_
      try dsimp only
      refine ⟨_, rfl, _, rfl, ite2 (fun z => absurd z (by decide)) (fun _ => ?_)⟩
      refine ⟨_, rfl, Or.inr (Or.inl ⟨pt, _, _, .ref S, rfl, rfl, SqT.of N7.ept, rfl, _, rfl, Or.inr (Or.inl ⟨pt, _, _, .ref T, rfl, rfl, SqT.of N7.ept, rfl, _, rfl, Or.inr (Or.inl ⟨pt, _, _, .ref R, rfl, rfl, SqT.of N7.ept, rfl, S, T, R, us, Gs, Es, ts, qt, ss, gs, qs, rfl, N7.n3, bd.w, (fun z => absurd h1 z), (fun _ z => absurd h2 z), (fun _ _ z => absurd h3 z), fun _ _ _ n3 S3 T3 R3 u3 G3 E3 H8 s8 en3 N3 _ _ _ _ _ _ _ _ _ => ?_⟩)⟩)⟩)⟩
      refine ⟨_, rfl, n3, S3, T3, R3, u3, G3, E3, ts, qt, n2, S2, T2, R2, u2, G2, E2, ts, qt, ss, gs, qs, rfl, en3, N3, s8 _ _ (s7 _ _ en2), (N2.same s7).same s8, by omega, fun H9 s9 => ?_⟩
      obtain ⟨c1, c2⟩ := cmp (s8.trans s9)
      refine ⟨_, rfl, iteT ⟨_, rfl, _, rfl, 6, _, _, cmp_net ss ss gs gs qs qs, by decide, c1, c2, ?_⟩⟩
      rw [dec_true rfl]
      exact q _ (s07.trans (s8.trans s9))
theorem call__law_judged {f : Addr} {fd : FuncData} (B : Blt mg) (ER : Ers K mg) (c__law_copy : Callee P w K mg base "_law_copy" 1 ["_law_parts"] (sp__law_copy K)) (c__law_due : Callee P w K mg base "_law_due" 3 ["_law_parts"] (sp__law_due K)) (c__law_refused_as : Callee P w K mg base "_law_refused_as" 1 ["_law_kinds", "_law_due_here"] (sp__law_refused_as K)) (c__law_kinds_of : Callee P w K mg base "_law_kinds_of" 6 ["_law_scopes", "_law_things", "_law_questions"] (sp__law_kinds_of K)) (c__law_is_net : Callee P w K mg base "_law_is_net" 1 ["_law_net", "_law_parts"] (sp__law_is_net K)) (c_net_of : CalleeE P w K mg base "net_of" 5 ["scopes", "things", "questions"] (sp_net_of K)) (F : Fun K "_law_judged" "_law_judged" s__law_judged f fd) (hm : mg "_law_judged" = some (.ref f)) : Callee P w K mg base "_law_judged" 7 ["_law_parts"] (sp__law_judged K) :=
  ⟨f, fd, ok__law_judged B ER c__law_copy c__law_due c__law_refused_as c__law_kinds_of c__law_is_net c_net_of F, hm, F.kp, F.binds fun _ _ _ _ _ _ us hl => (by obtain ⟨x0, rfl⟩ := len_1 hl; rfl)⟩
theorem let26 : (("abcdefghijklmnopqrstuvwxyz" : Str)).cps.toList.length = 26 := by decide +kernel
theorem letLow : ∀ c ∈ (("abcdefghijklmnopqrstuvwxyz" : Str)).cps.toList, 97 ≤ c ∧ c ≤ 122 := by decide +kernel
theorem str_snoc (w : Str) (c : Nat) : (w ++ (⟨#[c]⟩ : Str)).length = w.length + 1 := by
  show (w.cps ++ #[c]).size = w.cps.size + 1
  simp
theorem str_mem {w : Str} {c d : Nat} (h : d ∈ (w ++ (⟨#[c]⟩ : Str)).cps.toList) : d ∈ w.cps.toList ∨ d = c := by
  have h : d ∈ (w.cps ++ #[c]).toList := h
  simpa using h

def sp__law_words (_ : PySem.W.Frag) : Sp := fun vs H Q _ => ∃ (c m : Int), vs = [.int c, .int m] ∧ 2 ≤ m ∧ m ≤ 9 ∧ ∀ (L : Addr) (ls : List Str) (H' : Hp), ls.length = m.toNat → (∀ x ∈ ls, LowW x) → H L = none → Same H H' → H' L = some (.lst (ls.map V.str)) → Q (.ref L) H'
set_option maxHeartbeats 4000000 in
seal L2.PE L2.PA L2.PS L2.PSs L2.PT L2.PW L2.PC L2.PG L2.PGs L2.PI L2.PF L2.PSet L2.OpR L2.UnR L2.CallR L2.MtR L2.IxR L2.SlR L2.PO in
theorem ok__law_words {f : Addr} {fd : FuncData} (B : Blt mg) (ER : Ers K mg)  (F : Fun K "_law_words" "_law_words" s__law_words f fd) : FnOk P w K mg base CX0 1 f fd ["_law_cell", "_law_many"] (sp__law_words K) := by
  refine F.ok sc__law_words (fun vs H Q E h => ?_) (fun cdv A outer s H vs Q E hr h => ?_)
  · obtain ⟨c, m, rfl, _⟩ := h
    rfl
  · obtain ⟨c, m, rfl, m0, m9, q⟩ := h
    refine ⟨_, (pss_cons (ps_set (i := 2) sc__law_words.nd rfl (Or.inl rfl) pe_str)
      (pss_cons (ps_set (i := 3) sc__law_words.nd rfl (Or.inl rfl) (pe_op op_add pe_int (pe_op op_mod (pv 0) pe_int)))
      (pss_cons (ps_set (i := 4) sc__law_words.nd rfl (Or.inl rfl) (pe_op op_mod (pe_op op_fdiv (pv 0) pe_int) (pv 3)))
      (pss_cons (ps_set (i := 5) sc__law_words.nd rfl (Or.inl rfl) (pe_lst pa_nil))
      (pss_cons (ps_for PassesOwn.never rfl (pi_range1 rfl B.b_range (pa_cons (pv 1) pa_nil)) (pg_name (i := 6) sc__law_words.nd rfl (Or.inl rfl)) (pss_cons (ps_set (i := 7) sc__law_words.nd rfl (Or.inl rfl) pe_str)
        (pss_cons (ps_for PassesOwn.never rfl (pi_range1 rfl B.b_range (pa_cons (pv 3) pa_nil)) (pg_name (i := 8) sc__law_words.nd rfl (Or.inl rfl)) (pss_cons (ps_set (i := 9) sc__law_words.nd rfl (Or.inl rfl) (pe_op op_add (pe_op op_fdiv (pe_op op_fdiv (pv 0) pe_int) (pe_op op_add (pv 8) pe_int)) (pe_op op_mul (pv 8) (pv 8))))
          (pss_cons (ps_if (pt_cmpR op_eq (pv 8) (pv 4) (nomark _)) (pss_one (ps_augR (i := 9) sc__law_words.nd rfl (Or.inl rfl) (pv 6) iop_add)) pss_nil)
          (pss_one (ps_set (i := 7) sc__law_words.nd rfl (Or.inl rfl) (pe_op op_add_str (pv 7) (pe_ix ix_seq (pv 2) (pe_op op_mod (pv 9) pe_int) (fun _ _ => rfl))))))))
        (pss_one (ps_expr (pe_bm PySem.F.plainAttrs_list PySem.F.slot_list_append PySem.F.type_list_append mr_append (pv 5) (pa_cons (pv 7) pa_nil)))))))
      (pss_cons (ps_if (pt_cmpR op_eq (pe_op op_mod (pe_op op_fdiv (pv 0) pe_int) pe_int) pe_int (nomark _)) (pss_one (ps_asg (pe_op op_add_str (pe_ix ix_seq (pv 5) pe_int (fun _ _ => rfl)) (pe_ix ix_seq (pv 2) (pe_op op_mod (pe_op op_fdiv (pv 0) pe_int) pe_int) (fun _ _ => rfl))) (pg_sub (pv 5) pe_int set_list))) pss_nil)
      (pss_one (ps_ret (pv 5))))))))), ?_⟩
    refine seq_setC ?_
    try dsimp only
    refine ⟨_, rfl, _, _, rfl, rfl, (by show (0 : Int) < 7; decide), _, _, rfl, rfl, ?_⟩
    try dsimp only
    obtain ⟨z, ez⟩ : ∃ z, z = 1 + c % 7 := ⟨_, rfl⟩
    rw [← ez]
    have z0 : 1 ≤ z ∧ z ≤ 7 := by omega
    refine g_in ?_
    try dsimp only
    refine ⟨_, rfl, _, _, rfl, rfl, ⟨by decide, by decide⟩, _, rfl, _, _, rfl, rfl, (by show 0 < z; omega), ?_⟩
    try dsimp only
    generalize c / 7 % z = at0'
    refine g_in ?_
    try dsimp only
    refine ⟨by decide, fun L hL => ?_⟩
    have s1 := same_new (o := .lst []) hL
    have eL1 : (upd H L (.lst [])) L = some (.lst []) := upd_same
    generalize upd H L (.lst []) = H1 at s1 eL1 ⊢
    refine g_in ?_
    try dsimp only
    refine ⟨_, rfl, _, rfl, by omega, by omega, for_range (lo := 0) (n := m.toNat) (fun i σ H' => ∃ u6 u7 u8 u9 ls, σ = [some (.int c), some (.int m), some (.str "abcdefghijklmnopqrstuvwxyz"), some (.int z), some (.int at0'), some (.ref L), u6, u7, u8, u9] ∧ Same H H' ∧ H' L = some (.lst (ls.map V.str)) ∧ ls.length = i ∧ ∀ x ∈ ls, LowW x ∧ x.length ≤ 7) ⟨none, none, none, none, [], rfl, s1, eL1, rfl, fun x hx => by simp at hx⟩ ?_ ?_⟩
    rotate_left
    · rintro σ H2 ⟨u6, u7, u8, u9, ls, rfl, s2, eL2, hl, hlow⟩
      try dsimp only
      refine seq_cut (fun σ' H' => ∃ ls : List Str, σ' = [some (.int c), some (.int m), some (.str "abcdefghijklmnopqrstuvwxyz"), some (.int z), some (.int at0'), some (.ref L), u6, u7, u8, u9] ∧ Same H H' ∧ H' L = some (.lst (ls.map V.str)) ∧ ls.length = m.toNat ∧ ∀ x ∈ ls, LowW x) ?_ (fun N hN => ?_)
      case refine_2 =>
        refine ⟨_, rfl, _, _, rfl, rfl, ⟨by decide, by decide⟩, _, _, rfl, rfl, (by show (0 : Int) < 3; decide), rfl, _, rfl, ite2 (fun _ => ?_) (fun _ => hN _ _ ⟨ls, rfl, s2, eL2, hl, fun x hx => (hlow x hx).1⟩)⟩
        have y0 := Int.emod_nonneg (c / 147) (by decide : (26 : Int) ≠ 0)
        have y1 := Int.emod_lt_of_pos (c / 147) (by decide : (0 : Int) < 26)
        obtain ⟨cc, hcc⟩ := atI_in (xs := (("abcdefghijklmnopqrstuvwxyz" : Str)).cps.toList) y0 (by rw [let26]; exact y1)
        have hw0 := List.getElem?_eq_getElem (show 0 < ls.length by omega)
        obtain ⟨lw, l7⟩ := hlow _ (List.getElem_mem (show 0 < ls.length by omega))
        have hat : atI (ls.map V.str) 0 = some (V.str (ls[0]'(by omega))) := atI_nat (j := 0) (by rw [List.getElem?_map, hw0]; rfl)
        generalize ls[0]'(by omega) = w0 at lw l7 hat
        refine ⟨_, rfl, Or.inl ⟨L, _, _, .str w0, rfl, rfl, SqL.of eL2, hat, _, rfl, _, rfl, _, _, rfl, rfl, ⟨by decide, by decide⟩, _, _, rfl, rfl, (by show (0 : Int) < 26; decide), Or.inr (Or.inr ⟨_, _, cc, rfl, rfl, by decide +kernel, hcc, w0, _, rfl, rfl, ?_, _, rfl, L, _, _, 1, rfl, rfl, eL2, ?_, ?_⟩)⟩⟩
        · show w0.length + 1 ≤ sizeLine
          exact Nat.le_of_lt (small1000 (by omega))
        · exact ixN_in (k := 1) (by decide) (by rw [List.length_map]; omega)
        · refine hN _ _ ⟨ls.set 1 (w0 ++ ⟨#[cc]⟩), rfl, fun b o e => ?_, by rw [upd_same, List.map_set], by rw [List.length_set]; exact hl, fun x hx => ?_⟩
          · rw [upd_ne (ne_of_none e hL)]; exact s2 _ _ e
          · rcases List.mem_or_eq_of_mem_set hx with hx | rfl
            · exact (hlow x hx).1
            · refine ⟨by rw [str_snoc]; omega, by rw [str_snoc]; omega, fun d hd => ?_⟩
              rcases str_mem hd with hd | rfl
              · exact lw.2.2 d hd
              · exact letLow _ (atI_mem hcc)
      rintro σ' H3 ⟨ls, rfl, s3, eL3, hl, hlow⟩
      exact ⟨_, rfl, q L ls H3 hl hlow hL s3 eL3⟩
    rintro i σ H2 hi ⟨u6, u7, u8, u9, ls, rfl, s2, eL2, hl, hlow⟩
    refine g_in ?_
    try dsimp only
    refine seq_setC ?_
    try dsimp only
    refine ⟨_, rfl, _, rfl, by omega, by omega, for_range (lo := 0) (n := z.toNat) (fun j σ H' => ∃ (w : Str) (u8 u9 : Option V), σ = [some (.int c), some (.int m), some (.str "abcdefghijklmnopqrstuvwxyz"), some (.int z), some (.int at0'), some (.ref L), some (.int (0 + (i : Int))), some (.str w), u8, u9] ∧ H' = H2 ∧ w.length = j ∧ ∀ d ∈ w.cps.toList, 97 ≤ d ∧ d ≤ 122) ⟨"", _, _, rfl, rfl, by decide +kernel, by decide +kernel⟩ ?_ ?_⟩
    rotate_left
    · rintro σ H3 ⟨w, u8, u9, rfl, rfl, hw, hwl⟩
      refine ⟨_, rfl, Or.inl ⟨rfl, _, SqL.of eL2⟩, _, rfl, L, _, _, rfl, rfl, eL2, by rw [List.length_map, hl]; exact small1000 (by omega), ?_⟩
      refine ⟨_, _, _, _, ls ++ [w], rfl, fun b o e => ?_, by rw [upd_same, List.map_append]; rfl, by rw [List.length_append, hl]; rfl, fun x hx => ?_⟩
      · rw [upd_ne (ne_of_none e hL)]; exact s2 _ _ e
      · rcases List.mem_append.mp hx with hx | hx
        · exact hlow x hx
        · rw [List.mem_singleton.mp hx]
          exact ⟨⟨by omega, by omega, hwl⟩, by omega⟩
    rintro j σ H3 hj ⟨w, u8, u9, rfl, rfl, hw, hwl⟩
    refine g_in ?_
    try dsimp only
    refine ⟨_, rfl, _, _, rfl, rfl, ⟨by decide, by decide⟩, _, rfl, _, _, rfl, rfl, _, _, rfl, rfl, ⟨by omega, by omega⟩, _, rfl, _, rfl, _, _, rfl, rfl, Or.inl ⟨by omega, by omega⟩, _, _, rfl, rfl, ?_⟩
    try dsimp only
    generalize c / 49 / (0 + (j : Int) + 1) + (0 + (j : Int)) * (0 + (j : Int)) = num
    refine g_in ?_
    try dsimp only
    refine seq_cut (fun σ' H' => ∃ num : Int, σ' = [some (.int c), some (.int m), some (.str "abcdefghijklmnopqrstuvwxyz"), some (.int z), some (.int at0'), some (.ref L), some (.int (0 + (i : Int))), some (.str w), some (.int (0 + (j : Int))), some (.int num)] ∧ H' = H3) ?_ (fun N hN => ?_)
    case refine_2 =>
      refine ⟨_, rfl, _, rfl, rfl, _, rfl, ite2 (fun _ => ?_) (fun _ => ?_)⟩
      · exact ⟨_, rfl, _, rfl, _, _, rfl, rfl, hN _ _ ⟨_, rfl, rfl⟩⟩
      · exact hN _ _ ⟨_, rfl, rfl⟩
    rintro σ' H4 ⟨num, rfl, rfl⟩
    have y0 := Int.emod_nonneg num (by decide : (26 : Int) ≠ 0)
    have y1 := Int.emod_lt_of_pos num (by decide : (0 : Int) < 26)
    obtain ⟨cc, hcc⟩ := atI_in (xs := (("abcdefghijklmnopqrstuvwxyz" : Str)).cps.toList) y0 (by rw [let26]; exact y1)
    refine ⟨_, rfl, _, rfl, _, rfl, _, _, rfl, rfl, (by show (0 : Int) < 26; decide), Or.inr (Or.inr ⟨_, _, cc, rfl, rfl, by decide +kernel, hcc, w, _, rfl, rfl, ?_, ?_⟩)⟩
    · show w.length + 1 ≤ sizeLine
      exact Nat.le_of_lt (small1000 (by omega))
    · refine ⟨_, _, _, rfl, rfl, by rw [str_snoc, hw], fun d hd => ?_⟩
      rcases str_mem hd with hd | rfl
      · exact hwl d hd
      · exact letLow _ (atI_mem hcc)
theorem call__law_words {f : Addr} {fd : FuncData} (B : Blt mg) (ER : Ers K mg)  (F : Fun K "_law_words" "_law_words" s__law_words f fd) (hm : mg "_law_words" = some (.ref f)) : Callee P w K mg base "_law_words" 1 ["_law_cell", "_law_many"] (sp__law_words K) :=
  ⟨f, fd, ok__law_words B ER  F, hm, F.kp, F.binds fun _ _ _ _ _ _ us hl => (by obtain ⟨x0, x1, rfl⟩ := len_2 hl; rfl)⟩
theorem cell_some {ns : List Int} {k : Int} (hk : 0 ≤ k) (hlt : k < ns.length) : atI (ns.map V.int) k = some (V.int (cellAt ns k)) := by
  obtain ⟨n, rfl⟩ := Int.eq_ofNat_of_zero_le hk
  have hn : n < ns.length := by omega
  refine atI_nat ?_
  rw [List.getElem?_map, List.getElem?_eq_getElem hn]
  show some (V.int ns[n]) = some (V.int ((ns[((n : Int)).toNat]?).getD 0))
  rw [Int.toNat_natCast, List.getElem?_eq_getElem hn]
  rfl
theorem cell_none {ns : List Int} {k : Int} (hk : 0 ≤ k) (hlt : ¬ k < ns.length) : cellAt ns k = 0 := by
  unfold cellAt
  rw [List.getElem?_eq_none (by omega)]
  rfl

def sp__law_cell_at (K : PySem.W.Frag) : Sp := fun vs H Q _ => ∃ a ns k, vs = [.ref a, .int k] ∧ 0 ≤ k ∧ SqL K H a (ns.map V.int) ∧ Q (.int (cellAt ns k)) H
set_option maxHeartbeats 4000000 in
seal L2.PE L2.PA L2.PS L2.PSs L2.PT L2.PW L2.PC L2.PG L2.PGs L2.PI L2.PF L2.PSet L2.OpR L2.UnR L2.CallR L2.MtR L2.IxR L2.SlR L2.PO in
theorem ok__law_cell_at {f : Addr} {fd : FuncData} (B : Blt mg) (ER : Ers K mg)  (F : Fun K "_law_cell_at" "_law_cell_at" s__law_cell_at f fd) : FnOk P w K mg base CX0 1 f fd ["_law_script", "_law_k"] (sp__law_cell_at K) := by
  refine F.ok sc__law_cell_at (fun vs H Q E h => ?_) (fun cdv A outer s H vs Q E hr h => ?_)
  · obtain ⟨a, ns, k, rfl, _⟩ := h
    rfl
  · obtain ⟨a, ns, k, rfl, hk, hS, q⟩ := h
    refine ⟨_, (pss_cons (ps_if (pt_cmpR op_lt (pv 1) (pe_callB call_len (by rfl) B.b_len (by decide +kernel) (pa_cons (pv 0) pa_nil)) (nomark _)) (pss_one (ps_ret (pe_ix ix_seq (pv 0) (pv 1) (fun _ _ => rfl)))) pss_nil)
      (pss_one (ps_ret pe_int))), ?_⟩
    refine ⟨_, rfl, _, rfl, _, _, rfl, Or.inl ⟨_, hS, rfl⟩, _, _, rfl, rfl, _, rfl, ?_⟩
    rw [List.length_map]
    refine ite2 (fun hlt => ?_) (fun hge => ?_)
    · have hlt := of_decide_eq_true hlt
      exact ⟨_, rfl, _, rfl, Or.inl ⟨_, _, _, _, rfl, rfl, hS, cell_some hk hlt, q⟩⟩
    · have hge : ¬ k < (ns.length : Int) := fun z => hge (decide_eq_true z)
      show Q (.int 0) H
      rw [cell_none hk hge] at q
      exact q
theorem call__law_cell_at {f : Addr} {fd : FuncData} (B : Blt mg) (ER : Ers K mg)  (F : Fun K "_law_cell_at" "_law_cell_at" s__law_cell_at f fd) (hm : mg "_law_cell_at" = some (.ref f)) : Callee P w K mg base "_law_cell_at" 1 ["_law_script", "_law_k"] (sp__law_cell_at K) :=
  ⟨f, fd, ok__law_cell_at B ER  F, hm, F.kp, F.binds fun _ _ _ _ _ _ us hl => (by obtain ⟨x0, x1, rfl⟩ := len_2 hl; rfl)⟩

def sp__law_kind (_ : PySem.W.Frag) : Sp := fun vs H Q _ => ∃ (n b : Int) (x y : Str), vs = [.int n, .str x, .str y, .int b] ∧ x.length ≤ 100 ∧ y.length ≤ 100 ∧ ∀ (z : Str) (H' : Hp), Same H H' → Q (.str z) H'
set_option maxHeartbeats 4000000 in
seal L2.PE L2.PA L2.PS L2.PSs L2.PT L2.PW L2.PC L2.PG L2.PGs L2.PI L2.PF L2.PSet L2.OpR L2.UnR L2.CallR L2.MtR L2.IxR L2.SlR L2.PO in
theorem ok__law_kind {f : Addr} {fd : FuncData} (B : Blt mg) (ER : Ers K mg)  (F : Fun K "_law_kind" "_law_kind" s__law_kind f fd) : FnOk P w K mg base CX0 1 f fd ["_law_number_here", "_law_one", "_law_other", "_law_bad"] (sp__law_kind K) := by
  refine F.ok sc__law_kind (fun vs H Q E h => ?_) (fun cdv A outer s H vs Q E hr h => ?_)
  · obtain ⟨n, b, x, y, rfl, _⟩ := h
    rfl
  · obtain ⟨n, b, x, y, rfl, hx, hy, q⟩ := h
    refine ⟨_, (pss_cons (ps_if (pt_cmpR op_eq (pe_op op_mod (pv 3) pe_int) pe_int (nomark _)) (pss_one (ps_ret (pe_ix ix_seq (pe_lst (pa_cons pe_str (pa_cons (pe_op op_add_str (pv 1) (pv 2)) (pa_cons pe_str (pa_cons pe_str pa_nil))))) (pe_op op_mod (pv 0) pe_int) (fun _ _ => rfl)))) pss_nil)
      (pss_one (ps_ret (pe_ix ix_seq (pe_lst (pa_cons (pv 1) (pa_cons (pv 2) pa_nil))) (pe_op op_mod (pv 0) pe_int) (fun _ _ => rfl))))), ?_⟩
    refine ⟨_, rfl, _, _, rfl, rfl, (by show (0 : Int) < 12; decide), rfl, _, rfl, ite2 (fun _ => ?_) (fun _ => ?_)⟩
    · refine ⟨_, rfl, _, rfl, x, y, rfl, rfl, Nat.le_of_lt (small1000 (by omega)), show 4 ≤ sizeLine by decide, fun l hl => ?_⟩
      have t1 := same_new (o := .lst [.str "", .str (x ++ y), .str "none", .str "To"]) hl
      have el : (upd H l (.lst [.str "", .str (x ++ y), .str "none", .str "To"])) l = some (.lst [.str "", .str (x ++ y), .str "none", .str "To"]) := upd_same
      generalize upd H l (.lst [.str "", .str (x ++ y), .str "none", .str "To"]) = H1 at t1 el ⊢
      have y0 := Int.emod_nonneg n (by decide : (4 : Int) ≠ 0)
      have y1 := Int.emod_lt_of_pos n (by decide : (0 : Int) < 4)
      obtain ⟨v, hv⟩ := atI_in (xs := [V.str "", .str (x ++ y), .str "none", .str "To"]) y0 (by exact y1)
      have hm := atI_mem hv
      obtain ⟨s, rfl⟩ : ∃ s, v = V.str s := by
        simp only [List.mem_cons, List.not_mem_nil, or_false] at hm
        rcases hm with rfl | rfl | rfl | rfl <;> exact ⟨_, rfl⟩
      exact ⟨_, rfl, _, _, rfl, rfl, (by show (0 : Int) < 4; decide), Or.inl ⟨l, _, _, .str s, rfl, rfl, SqL.of el, hv, q _ _ t1⟩⟩
    · refine ⟨_, rfl, _, rfl, two_le, fun l hl => ?_⟩
      have t1 := same_new (o := .lst [.str x, .str y]) hl
      have el : (upd H l (.lst [.str x, .str y])) l = some (.lst [.str x, .str y]) := upd_same
      generalize upd H l (.lst [.str x, .str y]) = H1 at t1 el ⊢
      have y0 := Int.emod_nonneg n (by decide : (2 : Int) ≠ 0)
      have y1 := Int.emod_lt_of_pos n (by decide : (0 : Int) < 2)
      obtain ⟨v, hv⟩ := atI_in (xs := [V.str x, .str y]) y0 (by exact y1)
      have hm := atI_mem hv
      obtain ⟨s, rfl⟩ : ∃ s, v = V.str s := by
        simp only [List.mem_cons, List.not_mem_nil, or_false] at hm
        rcases hm with rfl | rfl <;> exact ⟨_, rfl⟩
      exact ⟨_, rfl, _, _, rfl, rfl, (by show (0 : Int) < 2; decide), Or.inl ⟨l, _, _, .str s, rfl, rfl, SqL.of el, hv, q _ _ t1⟩⟩
theorem call__law_kind {f : Addr} {fd : FuncData} (B : Blt mg) (ER : Ers K mg)  (F : Fun K "_law_kind" "_law_kind" s__law_kind f fd) (hm : mg "_law_kind" = some (.ref f)) : Callee P w K mg base "_law_kind" 1 ["_law_number_here", "_law_one", "_law_other", "_law_bad"] (sp__law_kind K) :=
  ⟨f, fd, ok__law_kind B ER  F, hm, F.kp, F.binds fun _ _ _ _ _ _ us hl => (by obtain ⟨x0, x1, x2, x3, rfl⟩ := len_4 hl; rfl)⟩

def sp__law_number (_ : PySem.W.Frag) : Sp := fun vs H Q _ => ∃ (n m b : Int), vs = [.int n, .int m, .int b] ∧ 0 ≤ m ∧ ∀ z : Int, Q (.int z) H
set_option maxHeartbeats 4000000 in
seal L2.PE L2.PA L2.PS L2.PSs L2.PT L2.PW L2.PC L2.PG L2.PGs L2.PI L2.PF L2.PSet L2.OpR L2.UnR L2.CallR L2.MtR L2.IxR L2.SlR L2.PO in
theorem ok__law_number {f : Addr} {fd : FuncData} (B : Blt mg) (ER : Ers K mg)  (F : Fun K "_law_number" "_law_number" s__law_number f fd) : FnOk P w K mg base CX0 1 f fd ["_law_number_here", "_law_many", "_law_bad"] (sp__law_number K) := by
  refine F.ok sc__law_number (fun vs H Q E h => ?_) (fun cdv A outer s H vs Q E hr h => ?_)
  · obtain ⟨n, m, b, rfl, _⟩ := h
    rfl
  · obtain ⟨n, m, b, rfl, m0, q⟩ := h
    refine ⟨_, (pss_cons (ps_if (pt_cmpR op_eq (pe_op op_mod (pv 2) pe_int) pe_int (nomark _)) (pss_one (ps_ret (pe_op op_add (pv 1) (pe_op op_fdiv (pv 0) pe_int)))) pss_nil)
      (pss_cons (ps_if (pt_cmpR op_eq (pe_op op_mod (pv 2) pe_int) pe_int (nomark _)) (pss_one (ps_ret (pe_op op_sub (pe_un un_neg pe_int) (pe_op op_fdiv (pv 0) pe_int)))) pss_nil)
      (pss_cons (ps_if (pt_cmpR op_eq (pv 1) pe_int (nomark _)) (pss_one (ps_ret pe_int)) pss_nil)
      (pss_one (ps_ret (pe_op op_mod (pv 0) (pv 1))))))), ?_⟩
    refine ⟨_, rfl, _, _, rfl, rfl, (by show (0 : Int) < 12; decide), rfl, _, rfl, ite2 (fun _ => ?_) (fun _ => ?_)⟩
    · exact ⟨_, rfl, _, rfl, _, _, rfl, rfl, ⟨by decide, by decide⟩, _, _, rfl, rfl, q _⟩
    refine ⟨_, rfl, _, _, rfl, rfl, (by show (0 : Int) < 12; decide), rfl, _, rfl, ite2 (fun _ => ?_) (fun _ => ?_)⟩
    · exact ⟨_, rfl, _, rfl, _, _, rfl, rfl, ⟨by decide, by decide⟩, _, _, rfl, rfl, q _⟩
    refine ⟨_, rfl, rfl, _, rfl, ite2 (fun _ => q _) (fun h => ?_)⟩
    have hm : m ≠ 0 := fun z => h (decide_eq_true (by rw [z]))
    exact ⟨_, rfl, _, rfl, _, _, rfl, rfl, (by show (0 : Int) < m; omega), q _⟩
theorem call__law_number {f : Addr} {fd : FuncData} (B : Blt mg) (ER : Ers K mg)  (F : Fun K "_law_number" "_law_number" s__law_number f fd) (hm : mg "_law_number" = some (.ref f)) : Callee P w K mg base "_law_number" 1 ["_law_number_here", "_law_many", "_law_bad"] (sp__law_number K) :=
  ⟨f, fd, ok__law_number B ER  F, hm, F.kp, F.binds fun _ _ _ _ _ _ us hl => (by obtain ⟨x0, x1, x2, rfl⟩ := len_3 hl; rfl)⟩

def sp__law_thing (K : PySem.W.Frag) : Sp := fun vs H Q _ => ∃ (pt S T R : Addr) (uv tv qv : List V) (n b : Int), vs = [.int n, .ref pt, .int b] ∧ H pt = some (.tup [.ref S, .ref T, .ref R]) ∧ H S = some (.lst uv) ∧ H T = some (.lst tv) ∧ H R = some (.lst qv) ∧ ∀ (r : Addr) (p : Str × Int) (H' : Hp), H r = none → Same H H' → H' r = some (.tup [.str p.1, .int p.2]) → Q (.ref r) H'
set_option maxHeartbeats 4000000 in
seal L2.PE L2.PA L2.PS L2.PSs L2.PT L2.PW L2.PC L2.PG L2.PGs L2.PI L2.PF L2.PSet L2.OpR L2.UnR L2.CallR L2.MtR L2.IxR L2.SlR L2.PO in
theorem ok__law_thing {f : Addr} {fd : FuncData} (B : Blt mg) (ER : Ers K mg) (c__law_kind : Callee P w K mg base "_law_kind" 1 ["_law_number_here", "_law_one", "_law_other", "_law_bad"] (sp__law_kind K)) (c__law_number : Callee P w K mg base "_law_number" 1 ["_law_number_here", "_law_many", "_law_bad"] (sp__law_number K)) (F : Fun K "_law_thing" "_law_thing" s__law_thing f fd) : FnOk P w K mg base CX0 2 f fd ["_law_number_here", "_law_parts", "_law_bad"] (sp__law_thing K) := by
  refine F.ok sc__law_thing (fun vs H Q E h => ?_) (fun cdv A outer s H vs Q E hr h => ?_)
  · obtain ⟨pt, S, T, R, uv, tv, qv, n, b, rfl, _⟩ := h
    rfl
  · obtain ⟨pt, S, T, R, uv, tv, qv, n, b, rfl, ept, eS, eT, eR, q⟩ := h
    refine ⟨_, (pss_cons (ps_if (pt_cmpR op_eq (pe_op op_mod (pv 0) pe_int) pe_int (nomark _)) (pss_one (ps_ret (pe_tup (pa_cons (pe_fn c__law_kind (hr.mono (by decide)) rfl (pa_cons pe_int (pa_cons pe_str (pa_cons pe_str (pa_cons (pv 2) pa_nil))))) (pa_cons (pe_op op_mul (pe_op op_mod (pv 0) pe_int) (pe_callTy call_int1 (by rfl) B.b_int (by decide +kernel) (pa_cons (pe_cmpR op_eq (pe_op op_mod (pv 2) pe_int) pe_int (nomark _)) pa_nil))) pa_nil))))) pss_nil)
      (pss_cons (ps_if (pt_cmpR op_eq (pe_op op_mod (pv 0) pe_int) pe_int (nomark _)) (pss_one (ps_ret (pe_tup (pa_cons pe_str (pa_cons (pe_fn c__law_number (hr.mono (by decide)) rfl (pa_cons (pe_op op_fdiv (pv 0) pe_int) (pa_cons (pe_callB call_len (by rfl) B.b_len (by decide +kernel) (pa_cons (pe_ix ix_seq (pv 1) pe_int (fun _ _ => rfl)) pa_nil)) (pa_cons (pv 2) pa_nil)))) pa_nil))))) pss_nil)
      (pss_one (ps_ret (pe_tup (pa_cons (pe_fn c__law_kind (hr.mono (by decide)) rfl (pa_cons pe_int (pa_cons pe_str (pa_cons pe_str (pa_cons (pv 2) pa_nil))))) (pa_cons (pe_fn c__law_number (hr.mono (by decide)) rfl (pa_cons (pe_op op_fdiv (pv 0) pe_int) (pa_cons (pe_callB call_len (by rfl) B.b_len (by decide +kernel) (pa_cons (pe_ix ix_seq (pv 1) pe_int (fun _ _ => rfl)) pa_nil)) (pa_cons (pv 2) pa_nil)))) pa_nil))))))), ?_⟩
    refine ⟨_, rfl, _, _, rfl, rfl, (by show (0 : Int) < 3; decide), rfl, _, rfl, ite2 (fun _ => ?_) (fun _ => ?_)⟩
    · refine ⟨_, rfl, _, _, _, _, rfl, by decide +kernel, by decide +kernel, fun z H1 s1 => ?_⟩
      have y0 := Int.emod_nonneg n (by decide : (2 : Int) ≠ 0)
      have y1 := Int.emod_lt_of_pos n (by decide : (0 : Int) < 2)
      refine ⟨_, rfl, _, _, rfl, rfl, (by show (0 : Int) < 2; decide), _, rfl, _, _, rfl, rfl, (by show (0 : Int) < 12; decide), rfl, Or.inr ⟨_, rfl, _, _, rfl, rfl, Or.inl ⟨by omega, by omega⟩, two_le, fun r hr => ?_⟩⟩
      exact q r (z, _) _ (s1.free hr) (s1.trans (same_new hr)) upd_same
    refine ⟨_, rfl, _, _, rfl, rfl, (by show (0 : Int) < 3; decide), rfl, _, rfl, ite2 (fun _ => ?_) (fun _ => ?_)⟩
    · refine ⟨_, rfl, _, _, rfl, rfl, ⟨by decide, by decide⟩, _, rfl, Or.inr (Or.inl ⟨pt, _, _, .ref S, rfl, rfl, SqT.of ept, rfl, _, _, rfl, Or.inl ⟨_, SqL.of eS, rfl⟩, _, rfl, _, _, _, rfl, Int.natCast_nonneg _, fun z => ⟨two_le, fun r hr => ?_⟩⟩)⟩
      exact q r (("part" : Str), z) _ hr (same_new hr) upd_same
    refine ⟨_, rfl, _, _, _, _, rfl, by decide +kernel, by decide +kernel, fun z H1 s1 => ?_⟩
    refine ⟨_, rfl, _, _, rfl, rfl, ⟨by decide, by decide⟩, _, rfl, Or.inr (Or.inl ⟨pt, _, _, .ref R, rfl, rfl, SqT.of (s1 _ _ ept), rfl, _, _, rfl, Or.inl ⟨_, SqL.of (s1 _ _ eR), rfl⟩, _, rfl, _, _, _, rfl, Int.natCast_nonneg _, fun y => ⟨two_le, fun r hr => ?_⟩⟩)⟩
    exact q r (z, y) _ (s1.free hr) (s1.trans (same_new hr)) upd_same
theorem call__law_thing {f : Addr} {fd : FuncData} (B : Blt mg) (ER : Ers K mg) (c__law_kind : Callee P w K mg base "_law_kind" 1 ["_law_number_here", "_law_one", "_law_other", "_law_bad"] (sp__law_kind K)) (c__law_number : Callee P w K mg base "_law_number" 1 ["_law_number_here", "_law_many", "_law_bad"] (sp__law_number K)) (F : Fun K "_law_thing" "_law_thing" s__law_thing f fd) (hm : mg "_law_thing" = some (.ref f)) : Callee P w K mg base "_law_thing" 2 ["_law_number_here", "_law_parts", "_law_bad"] (sp__law_thing K) :=
  ⟨f, fd, ok__law_thing B ER c__law_kind c__law_number F, hm, F.kp, F.binds fun _ _ _ _ _ _ us hl => (by obtain ⟨x0, x1, x2, rfl⟩ := len_3 hl; rfl)⟩
theorem word_at {ws : List Str} {n : Int} (h : 1 ≤ ws.length) : ∃ x, x ∈ ws ∧ atI (ws.map V.str) (n % ((ws.map V.str).length : Nat)) = some (V.str x) := by
  have l0 : (0 : Int) < ((ws.map V.str).length : Nat) := by rw [List.length_map]; omega
  obtain ⟨v, hv⟩ := atI_in (xs := ws.map V.str) (Int.emod_nonneg n (by omega)) (Int.emod_lt_of_pos n l0)
  obtain ⟨x, hx, rfl⟩ := List.mem_map.mp (atI_mem hv)
  exact ⟨x, hx, hv⟩

def sp__law_word (K : PySem.W.Frag) : Sp := fun vs H Q _ => ∃ (W : Addr) (ws : List Str) (n b : Int), vs = [.int n, .ref W, .int b] ∧ SqL K H W (ws.map V.str) ∧ 1 ≤ ws.length ∧ (∀ x ∈ ws, x.length ≤ 8) ∧ ∀ (z : Str) (H' : Hp), z.length ≤ 1000 → Same H H' → Q (.str z) H'
set_option maxHeartbeats 4000000 in
seal L2.PE L2.PA L2.PS L2.PSs L2.PT L2.PW L2.PC L2.PG L2.PGs L2.PI L2.PF L2.PSet L2.OpR L2.UnR L2.CallR L2.MtR L2.IxR L2.SlR L2.PO in
theorem ok__law_word {f : Addr} {fd : FuncData} (B : Blt mg) (ER : Ers K mg)  (F : Fun K "_law_word" "_law_word" s__law_word f fd) : FnOk P w K mg base CX0 1 f fd ["_law_number_here", "_law_words_here", "_law_bad"] (sp__law_word K) := by
  refine F.ok sc__law_word (fun vs H Q E h => ?_) (fun cdv A outer s H vs Q E hr h => ?_)
  · obtain ⟨W, ws, n, b, rfl, _⟩ := h
    rfl
  · obtain ⟨W, ws, n, b, rfl, hW, w1, w8, q⟩ := h
    have l0 : (0 : Int) < ((ws.map V.str).length : Nat) := by rw [List.length_map]; omega
    refine ⟨_, (pss_cons (ps_set (i := 3) sc__law_word.nd rfl (Or.inl rfl) (pe_ix ix_seq (pv 1) (pe_op op_mod (pv 0) (pe_callB call_len (by rfl) B.b_len (by decide +kernel) (pa_cons (pv 1) pa_nil))) (fun _ _ => rfl)))
      (pss_cons (ps_if (pt_cmpR op_eq (pe_op op_mod (pv 2) pe_int) pe_int (nomark _)) (pss_one (ps_ret (pe_ix ix_seq (pe_lst (pa_cons pe_str (pa_cons (pe_op op_add_str (pe_op op_add_str (pv 3) (pv 3)) pe_str) (pa_cons (pe_op op_add_str (pe_slice sl_str (pv 3) (po_some pe_int) po_none) pe_str) (pa_cons (pe_op op_add_str (pe_slice sl_str (pv 3) po_none (po_some pe_int)) pe_str) pa_nil))))) (pe_op op_mod (pe_op op_fdiv (pv 0) pe_int) pe_int) (fun _ _ => rfl)))) pss_nil)
      (pss_one (ps_ret (pv 3))))), ?_⟩
    obtain ⟨x, hx, hat⟩ := word_at (n := n) w1
    have x8 := w8 x hx
    have hz : x.length ≤ sizeLine := Nat.le_of_lt (small1000 (by omega))
    refine ⟨_, rfl, _, rfl, _, rfl, _, _, rfl, Or.inl ⟨_, hW, rfl⟩, _, _, rfl, rfl, l0, Or.inl ⟨W, _, _, .str x, rfl, rfl, hW, hat, ?_⟩⟩
    refine g_in ?_
    try dsimp only
    refine ⟨_, rfl, _, _, rfl, rfl, (by show (0 : Int) < 12; decide), rfl, _, rfl, ite2 (fun _ => ?_) (fun _ => ⟨_, rfl, q _ _ (by omega) (Same.refl _)⟩)⟩
    have cl : ∀ {l u : Option Int} {y : Str}, y.cps.toList = cutS x l u → y.length ≤ 8 := fun {l u y} h => by rw [strLen y, h]; exact Nat.le_trans (cutLen x _ _) x8
    refine ⟨_, rfl, _, rfl, x, x, rfl, rfl, Nat.le_of_lt (small1000 (by omega)), _, _, rfl, rfl, Nat.le_of_lt (small1000 (by rw [catLen]; show _ + 8 ≤ 1000; omega)), _, rfl, _, rfl, x, rfl, hz, (fun i h => by cases h; decide), (fun i h => by cases h), fun y hy => ?_⟩
    have ly := cl hy
    refine ⟨_, _, rfl, rfl, Nat.le_of_lt (small1000 (by show _ + 1 ≤ 1000; omega)), _, rfl, _, rfl, x, rfl, hz, (fun i h => by cases h), (fun i h => by cases h; decide), fun u hu => ?_⟩
    have lu := cl hu
    refine ⟨_, _, rfl, rfl, Nat.le_of_lt (small1000 (by show _ + 2 ≤ 1000; omega)), show 4 ≤ sizeLine by decide, fun l hl => ?_⟩
    obtain ⟨zs, ezs⟩ : ∃ zs : List Str, zs = [("" : Str), (x ++ x) ++ ("abcdefgh" : Str), y ++ ("Q" : Str), u ++ (" a" : Str)] := ⟨_, rfl⟩
    have hzs : ∀ z ∈ zs, z.length ≤ 1000 := fun z hz => by
      rw [ezs] at hz
      simp only [List.mem_cons, List.not_mem_nil, or_false] at hz
      rcases hz with rfl | rfl | rfl | rfl
      · decide
      · rw [catLen, catLen]; show _ + 8 ≤ 1000; omega
      · rw [catLen]; show _ + 1 ≤ 1000; omega
      · rw [catLen]; show _ + 2 ≤ 1000; omega
    have t1 := same_new (o := .lst (zs.map V.str)) hl
    have el : (upd H l (.lst (zs.map V.str))) l = some (.lst (zs.map V.str)) := upd_same
    have y0 := Int.emod_nonneg (n / 9) (by decide : (4 : Int) ≠ 0)
    have y1 := Int.emod_lt_of_pos (n / 9) (by decide : (0 : Int) < 4)
    obtain ⟨v, hv⟩ := atI_in (xs := zs.map V.str) y0 (by rw [ezs]; exact y1)
    obtain ⟨s, hs, rfl⟩ := List.mem_map.mp (atI_mem hv)
    refine ⟨_, rfl, _, _, rfl, rfl, ⟨by decide, by decide⟩, _, _, rfl, rfl, (by show (0 : Int) < 4; decide), Or.inl ⟨l, zs.map V.str, _, .str s, rfl, rfl, ?_, hv, ?_⟩⟩
    · rw [ezs] at el ⊢; exact SqL.of el
    · have := q s _ (hzs s hs) t1
      rw [ezs] at this
      exact this
theorem call__law_word {f : Addr} {fd : FuncData} (B : Blt mg) (ER : Ers K mg)  (F : Fun K "_law_word" "_law_word" s__law_word f fd) (hm : mg "_law_word" = some (.ref f)) : Callee P w K mg base "_law_word" 1 ["_law_number_here", "_law_words_here", "_law_bad"] (sp__law_word K) :=
  ⟨f, fd, ok__law_word B ER  F, hm, F.kp, F.binds fun _ _ _ _ _ _ us hl => (by obtain ⟨x0, x1, x2, rfl⟩ := len_3 hl; rfl)⟩

def sp__law_question (K : PySem.W.Frag) : Sp := fun vs H Q _ => ∃ (pt S T R : Addr) (uv tv qv : List V) (W : Addr) (ws : List Str) (n b : Int), vs = [.int n, .ref W, .ref pt, .int b] ∧ H pt = some (.tup [.ref S, .ref T, .ref R]) ∧ H S = some (.lst uv) ∧ H T = some (.lst tv) ∧ H R = some (.lst qv) ∧ SqL K H W (ws.map V.str) ∧ 1 ≤ ws.length ∧ (∀ x ∈ ws, x.length ≤ 8) ∧ ∀ (r u : Addr) (z : Qu) (H' : Hp), z.2.2.length ≤ 7 → (∀ x ∈ z.2.2, x.length ≤ 1000) → H r = none → H u = none → Same H H' → H' r = some (.tup [.int z.1, .int z.2.1, .ref u]) → H' u = some (.tup (z.2.2.map V.str)) → Q (.ref r) H'
set_option maxHeartbeats 4000000 in
seal L2.PE L2.PA L2.PS L2.PSs L2.PT L2.PW L2.PC L2.PG L2.PGs L2.PI L2.PF L2.PSet L2.OpR L2.UnR L2.CallR L2.MtR L2.IxR L2.SlR L2.PO in
theorem ok__law_question {f : Addr} {fd : FuncData} (B : Blt mg) (ER : Ers K mg) (c__law_word : Callee P w K mg base "_law_word" 1 ["_law_number_here", "_law_words_here", "_law_bad"] (sp__law_word K)) (c__law_number : Callee P w K mg base "_law_number" 1 ["_law_number_here", "_law_many", "_law_bad"] (sp__law_number K)) (F : Fun K "_law_question" "_law_question" s__law_question f fd) : FnOk P w K mg base CX0 2 f fd ["_law_number_here", "_law_words_here", "_law_parts", "_law_bad"] (sp__law_question K) := by
  refine F.ok sc__law_question (fun vs H Q E h => ?_) (fun cdv A outer s H vs Q E hr h => ?_)
  · obtain ⟨pt, S, T, R, uv, tv, qv, W, ws, n, b, rfl, _⟩ := h
    rfl
  · obtain ⟨pt, S, T, R, uv, tv, qv, W, ws, n, b, rfl, ept, eS, eT, eR, hW, w1, w8, q⟩ := h
    refine ⟨_, (pss_cons (ps_set (i := 4) sc__law_question.nd rfl (Or.inl rfl) (pe_lst pa_nil))
      (pss_cons (ps_set (i := 5) sc__law_question.nd rfl (Or.inl rfl) (pe_op op_add pe_int (pe_op op_mod (pe_op op_fdiv (pv 0) pe_int) pe_int)))
      (pss_cons (ps_if (pt_cmpR op_eq (pe_op op_mod (pv 3) pe_int) pe_int (nomark _)) (pss_one (ps_set (i := 5) sc__law_question.nd rfl (Or.inl rfl) (pe_ix ix_seq (pe_lst (pa_cons pe_int (pa_cons pe_int pa_nil))) (pe_op op_mod (pv 0) pe_int) (fun _ _ => rfl)))) pss_nil)
      (pss_cons (ps_for PassesOwn.never rfl (pi_range1 rfl B.b_range (pa_cons (pv 5) pa_nil)) (pg_name (i := 6) sc__law_question.nd rfl (Or.inl rfl)) (pss_one (ps_expr (pe_bm PySem.F.plainAttrs_list PySem.F.slot_list_append PySem.F.type_list_append mr_append (pv 4) (pa_cons (pe_fn c__law_word (hr.mono (by decide)) rfl (pa_cons (pe_op op_fdiv (pe_op op_fdiv (pv 0) pe_int) (pe_op op_add (pv 6) pe_int)) (pa_cons (pv 1) (pa_cons (pe_op op_mul (pv 3) (pe_callTy call_int1 (by rfl) B.b_int (by decide +kernel) (pa_cons (pe_cmpR op_eq (pv 6) (pe_op op_mod (pv 0) (pv 5)) (nomark _)) pa_nil))) pa_nil)))) pa_nil)))))
      (pss_cons (ps_set (i := 7) sc__law_question.nd rfl (Or.inl rfl) (pe_op op_mod (pe_op op_fdiv (pv 0) pe_int) pe_int))
      (pss_cons (ps_if (pt_cmpR op_eq (pe_op op_mod (pv 3) pe_int) pe_int (nomark _)) (pss_one (ps_set (i := 7) sc__law_question.nd rfl (Or.inl rfl) (pe_op op_sub (pe_un un_neg pe_int) (pv 7)))) pss_nil)
      (pss_one (ps_ret (pe_tup (pa_cons (pe_fn c__law_number (hr.mono (by decide)) rfl (pa_cons (pe_op op_fdiv (pv 0) pe_int) (pa_cons (pe_callB call_len (by rfl) B.b_len (by decide +kernel) (pa_cons (pe_ix ix_seq (pv 2) pe_int (fun _ _ => rfl)) pa_nil)) (pa_cons (pv 3) pa_nil)))) (pa_cons (pv 7) (pa_cons (pe_callTy call_tuple_of (by rfl) B.b_tuple (by decide +kernel) (pa_cons (pv 4) pa_nil)) pa_nil)))))))))))), ?_⟩
    refine ⟨by decide, fun D hD => ?_⟩
    have s1 := same_new (o := .lst []) hD
    have eD1 : (upd H D (.lst [])) D = some (.lst []) := upd_same
    generalize upd H D (.lst []) = H1 at s1 eD1 ⊢
    refine g_in ?_
    try dsimp only
    have z0 := Int.emod_nonneg (n / 5) (by decide : (6 : Int) ≠ 0)
    have z1 := Int.emod_lt_of_pos (n / 5) (by decide : (0 : Int) < 6)
    refine ⟨_, rfl, _, _, rfl, rfl, ⟨by decide, by decide⟩, _, _, rfl, rfl, (by show (0 : Int) < 6; decide), _, _, rfl, rfl, ?_⟩
    refine g_in ?_
    try dsimp only
    refine seq_cut (fun σ' H' => ∃ m : Int, σ' = [some (.int n), some (.ref W), some (.ref pt), some (.int b), some (.ref D), some (.int m), none, none] ∧ 0 ≤ m ∧ m ≤ 7 ∧ Same H H' ∧ H' D = some (.lst [])) ?_ (fun N hN => ?_)
    case refine_2 =>
      refine ⟨_, rfl, _, _, rfl, rfl, (by show (0 : Int) < 12; decide), rfl, _, rfl, ite2 (fun _ => ?_) (fun _ => hN _ _ ⟨_, rfl, by omega, by omega, s1, eD1⟩)⟩
      refine ⟨two_le, fun l hl => ?_⟩
      have t1 := same_new (o := .lst [.int 0, .int 7]) hl
      have el : (upd H1 l (.lst [.int 0, .int 7])) l = some (.lst [.int 0, .int 7]) := upd_same
      generalize upd H1 l (.lst [.int 0, .int 7]) = H2 at t1 el ⊢
      have y0 := Int.emod_nonneg n (by decide : (2 : Int) ≠ 0)
      have y1 := Int.emod_lt_of_pos n (by decide : (0 : Int) < 2)
      obtain ⟨v, hv⟩ := atI_in (xs := [V.int 0, .int 7]) y0 (by exact y1)
      have hm := atI_mem hv
      simp only [List.mem_cons, List.not_mem_nil, or_false] at hm
      rcases hm with rfl | rfl
      · exact ⟨_, rfl, _, _, rfl, rfl, (by show (0 : Int) < 2; decide), Or.inl ⟨l, _, _, .int 0, rfl, rfl, SqL.of el, hv, g_in (hN _ _ ⟨0, rfl, by decide, by decide, s1.trans t1, t1 _ _ eD1⟩)⟩⟩
      · exact ⟨_, rfl, _, _, rfl, rfl, (by show (0 : Int) < 2; decide), Or.inl ⟨l, _, _, .int 7, rfl, rfl, SqL.of el, hv, g_in (hN _ _ ⟨7, rfl, by decide, by decide, s1.trans t1, t1 _ _ eD1⟩)⟩⟩
    clear s1 eD1 z0 z1
    rintro σ' H2 ⟨m, rfl, m0, m7, s2, eD2⟩
    refine ⟨_, rfl, _, rfl, by omega, by omega, for_range (lo := 0) (n := m.toNat) (fun i σ H' => ∃ (u6 : Option V) (xs : List Str), σ = [some (.int n), some (.ref W), some (.ref pt), some (.int b), some (.ref D), some (.int m), u6, none] ∧ Same H H' ∧ H' D = some (.lst (xs.map V.str)) ∧ xs.length = i ∧ ∀ x ∈ xs, x.length ≤ 1000) ⟨none, [], rfl, s2, eD2, rfl, fun x hx => by simp at hx⟩ ?_ ?_⟩
    · rintro i σ H3 hi ⟨u6, xs, rfl, s3, eD3, hl, hm⟩
      have mp : 0 < m := by omega
      refine ⟨_, rfl, Or.inl ⟨rfl, _, SqL.of eD3⟩, _, rfl, _, _, rfl, rfl, ⟨by decide, by decide⟩, _, rfl, _, _, rfl, rfl, _, _, rfl, rfl, ⟨by omega, by omega⟩, _, rfl, _, rfl, _, rfl, _, rfl, _, rfl, _, _, rfl, rfl, mp, rfl, Or.inr ⟨_, rfl, _, _, rfl, rfl, Or.inr ⟨?_, ?_⟩, W, ws, _, _, rfl, s3.seq hW, w1, w8, fun x H4 hx s4 => ?_⟩⟩
      · split <;> omega
      · split <;> omega
      have eD4 := s4 _ _ eD3
      refine ⟨D, _, _, rfl, rfl, eD4, by rw [List.length_map, hl]; exact small1000 (by omega), ?_⟩
      refine ⟨_, xs ++ [x], rfl, fun b o e => ?_, by rw [upd_same, List.map_append]; rfl, by rw [List.length_append, hl]; rfl, fun y hy => ?_⟩
      · rw [upd_ne (ne_of_none e hD)]; exact s4 _ _ (s3 _ _ e)
      · rcases List.mem_append.mp hy with hy | hy
        · exact hm y hy
        · rw [List.mem_singleton.mp hy]; exact hx
    rintro σ H3 ⟨u6, xs, rfl, s3, eD3, hl, hm⟩
    refine ⟨_, rfl, _, _, rfl, rfl, ⟨by decide, by decide⟩, _, _, rfl, rfl, (by show (0 : Int) < 9; decide), ?_⟩
    refine g_in ?_
    try dsimp only
    refine seq_cut (fun σ' H' => ∃ t : Int, σ' = [some (.int n), some (.ref W), some (.ref pt), some (.int b), some (.ref D), some (.int m), u6, some (.int t)] ∧ H' = H3) ?_ (fun N hN => ?_)
    case refine_2 =>
      refine ⟨_, rfl, _, _, rfl, rfl, (by show (0 : Int) < 12; decide), rfl, _, rfl, ite2 (fun _ => ?_) (fun _ => hN _ _ ⟨_, rfl, rfl⟩)⟩
      exact ⟨_, rfl, _, rfl, _, _, rfl, rfl, g_in (hN _ _ ⟨_, rfl, rfl⟩)⟩
    rintro σ' H3' ⟨t, rfl, rfl⟩
    refine ⟨_, rfl, _, _, rfl, rfl, ⟨by decide, by decide⟩, _, rfl, Or.inr (Or.inl ⟨pt, _, _, .ref S, rfl, rfl, SqT.of (s3 _ _ ept), rfl, _, _, rfl, Or.inl ⟨_, SqL.of (s3 _ _ eS), rfl⟩, _, rfl, _, _, _, rfl, Int.natCast_nonneg _, fun z => ⟨_, rfl, _, rfl, D, _, rfl, Or.inl ⟨SqL.of eD3, fun u hu => ?_⟩⟩⟩)⟩
    have t1 := same_new (o := .tup (xs.map V.str)) hu
    have eu : (upd H3' u (.tup (xs.map V.str))) u = some (.tup (xs.map V.str)) := upd_same
    generalize upd H3' u (.tup (xs.map V.str)) = H4 at t1 eu ⊢
    refine ⟨three_le, fun r hr => ?_⟩
    have t2 := same_new (o := .tup [.int z, .int t, .ref u]) hr
    exact q r u (z, t, xs) _ (by show xs.length ≤ 7; omega) hm ((s3.trans t1).free hr) (s3.free hu) ((s3.trans t1).trans t2) upd_same (t2 _ _ eu)
theorem call__law_question {f : Addr} {fd : FuncData} (B : Blt mg) (ER : Ers K mg) (c__law_word : Callee P w K mg base "_law_word" 1 ["_law_number_here", "_law_words_here", "_law_bad"] (sp__law_word K)) (c__law_number : Callee P w K mg base "_law_number" 1 ["_law_number_here", "_law_many", "_law_bad"] (sp__law_number K)) (F : Fun K "_law_question" "_law_question" s__law_question f fd) (hm : mg "_law_question" = some (.ref f)) : Callee P w K mg base "_law_question" 2 ["_law_number_here", "_law_words_here", "_law_parts", "_law_bad"] (sp__law_question K) :=
  ⟨f, fd, ok__law_question B ER c__law_word c__law_number F, hm, F.kp, F.binds fun _ _ _ _ _ _ us hl => (by obtain ⟨x0, x1, x2, x3, rfl⟩ := len_4 hl; rfl)⟩

def sp__law_step (K : PySem.W.Frag) : Sp := fun vs H Q _ => ∃ (pt S T R : Addr) (uv tv qv : List V) (W : Addr) (ws : List Str) (n b : Int), vs = [.int n, .ref W, .ref pt, .int b] ∧ H pt = some (.tup [.ref S, .ref T, .ref R]) ∧ H S = some (.lst uv) ∧ H T = some (.lst tv) ∧ H R = some (.lst qv) ∧ SqL K H W (ws.map V.str) ∧ 1 ≤ ws.length ∧ (∀ x ∈ ws, x.length ≤ 8) ∧ ∀ (r : Addr) (p : Stp) (H' : Hp), p.1.length ≤ 1000 → H r = none → Same H H' → H' r = some (.tup (stpV p)) → Q (.ref r) H'
set_option maxHeartbeats 4000000 in
seal L2.PE L2.PA L2.PS L2.PSs L2.PT L2.PW L2.PC L2.PG L2.PGs L2.PI L2.PF L2.PSet L2.OpR L2.UnR L2.CallR L2.MtR L2.IxR L2.SlR L2.PO in
theorem ok__law_step {f : Addr} {fd : FuncData} (B : Blt mg) (ER : Ers K mg) (c__law_word : Callee P w K mg base "_law_word" 1 ["_law_number_here", "_law_words_here", "_law_bad"] (sp__law_word K)) (c__law_kind : Callee P w K mg base "_law_kind" 1 ["_law_number_here", "_law_one", "_law_other", "_law_bad"] (sp__law_kind K)) (c__law_number : Callee P w K mg base "_law_number" 1 ["_law_number_here", "_law_many", "_law_bad"] (sp__law_number K)) (F : Fun K "_law_step" "_law_step" s__law_step f fd) : FnOk P w K mg base CX0 2 f fd ["_law_number_here", "_law_words_here", "_law_parts", "_law_bad"] (sp__law_step K) := by
  refine F.ok sc__law_step (fun vs H Q E h => ?_) (fun cdv A outer s H vs Q E hr h => ?_)
  · obtain ⟨pt, S, T, R, uv, tv, qv, W, ws, n, b, rfl, _⟩ := h
    rfl
  · obtain ⟨pt, S, T, R, uv, tv, qv, W, ws, n, b, rfl, ept, eS, eT, eR, hW, w1, w8, q⟩ := h
    refine ⟨_, (pss_cons (ps_set (i := 4) sc__law_step.nd rfl (Or.inl rfl) (pe_fn c__law_word (hr.mono (by decide)) rfl (pa_cons (pv 0) (pa_cons (pv 1) (pa_cons (pv 3) pa_nil)))))
      (pss_cons (ps_set (i := 5) sc__law_step.nd rfl (Or.inl rfl) (pe_fn c__law_kind (hr.mono (by decide)) rfl (pa_cons (pe_op op_fdiv (pv 0) pe_int) (pa_cons pe_str (pa_cons pe_str (pa_cons (pv 3) pa_nil))))))
      (pss_cons (ps_set (i := 6) sc__law_step.nd rfl (Or.inl rfl) (pe_callB call_len (by rfl) B.b_len (by decide +kernel) (pa_cons (pe_ix ix_seq (pv 2) pe_int (fun _ _ => rfl)) pa_nil)))
      (pss_cons (ps_if (pt_cmpR op_eq (pv 5) pe_str (nomark _)) (pss_one (ps_set (i := 6) sc__law_step.nd rfl (Or.inl rfl) (pe_callB call_len (by rfl) B.b_len (by decide +kernel) (pa_cons (pe_ix ix_seq (pv 2) pe_int (fun _ _ => rfl)) pa_nil)))) pss_nil)
      (pss_one (ps_ret (pe_tup (pa_cons (pv 4) (pa_cons (pv 5) (pa_cons (pe_fn c__law_number (hr.mono (by decide)) rfl (pa_cons (pe_op op_fdiv (pv 0) pe_int) (pa_cons (pv 6) (pa_cons (pv 3) pa_nil)))) pa_nil)))))))))), ?_⟩
    refine ⟨_, rfl, _, rfl, _, rfl, W, ws, _, _, rfl, hW, w1, w8, fun x H1 hx s1 => ?_⟩
    refine g_in ?_
    try dsimp only
    refine ⟨_, rfl, _, _, rfl, rfl, ⟨by decide, by decide⟩, _, rfl, _, _, _, _, rfl, by decide +kernel, by decide +kernel, fun k H2 s2 => ?_⟩
    refine g_in ?_
    try dsimp only
    have s02 := s1.trans s2
    refine ⟨_, rfl, Or.inr (Or.inl ⟨pt, _, _, .ref S, rfl, rfl, SqT.of (s02 _ _ ept), rfl, _, _, rfl, Or.inl ⟨_, SqL.of (s02 _ _ eS), rfl⟩, ?_⟩)⟩
    refine g_in ?_
    try dsimp only
    refine seq_cut (fun σ' H' => ∃ m : Nat, σ' = [some (.int n), some (.ref W), some (.ref pt), some (.int b), some (.str x), some (.str k), some (.int (m : Int))] ∧ H' = H2) ?_ (fun N hN => ?_)
    case refine_2 =>
      refine ⟨_, rfl, rfl, _, rfl, ite2 (fun _ => ?_) (fun _ => hN _ _ ⟨_, rfl, rfl⟩)⟩
      refine ⟨_, rfl, Or.inr (Or.inl ⟨pt, _, _, .ref R, rfl, rfl, SqT.of (s02 _ _ ept), rfl, _, _, rfl, Or.inl ⟨_, SqL.of (s02 _ _ eR), rfl⟩, ?_⟩)⟩
      exact g_in (hN _ _ ⟨_, rfl, rfl⟩)
    rintro σ' H2' ⟨m, rfl, rfl⟩
    refine ⟨_, rfl, _, rfl, _, rfl, _, _, rfl, rfl, ⟨by decide, by decide⟩, _, rfl, _, rfl, _, _, _, rfl, Int.natCast_nonneg _, fun z => ⟨three_le, fun r hr => ?_⟩⟩
    exact q r (x, k, z) _ hx (s02.free hr) (s02.trans (same_new hr)) upd_same
theorem call__law_step {f : Addr} {fd : FuncData} (B : Blt mg) (ER : Ers K mg) (c__law_word : Callee P w K mg base "_law_word" 1 ["_law_number_here", "_law_words_here", "_law_bad"] (sp__law_word K)) (c__law_kind : Callee P w K mg base "_law_kind" 1 ["_law_number_here", "_law_one", "_law_other", "_law_bad"] (sp__law_kind K)) (c__law_number : Callee P w K mg base "_law_number" 1 ["_law_number_here", "_law_many", "_law_bad"] (sp__law_number K)) (F : Fun K "_law_step" "_law_step" s__law_step f fd) (hm : mg "_law_step" = some (.ref f)) : Callee P w K mg base "_law_step" 2 ["_law_number_here", "_law_words_here", "_law_parts", "_law_bad"] (sp__law_step K) :=
  ⟨f, fd, ok__law_step B ER c__law_word c__law_kind c__law_number F, hm, F.kp, F.binds fun _ _ _ _ _ _ us hl => (by obtain ⟨x0, x1, x2, x3, rfl⟩ := len_4 hl; rfl)⟩

def sp__law_telling (K : PySem.W.Frag) : Sp := fun vs H Q _ => ∃ (pt S T R : Addr) (uv tv qv : List V) (W : Addr) (ws : List Str) (n b : Int), vs = [.int n, .ref W, .ref pt, .int b] ∧ H pt = some (.tup [.ref S, .ref T, .ref R]) ∧ H S = some (.lst uv) ∧ H T = some (.lst tv) ∧ H R = some (.lst qv) ∧ SqL K H W (ws.map V.str) ∧ 1 ≤ ws.length ∧ (∀ x ∈ ws, x.length ≤ 8) ∧ ∀ (r : Addr) (p : Tlg) (H' : Hp), p.1.length ≤ 1000 → p.2.1.length ≤ 1000 → H r = none → Same H H' → H' r = some (.tup (tlgV p)) → Q (.ref r) H'
set_option maxHeartbeats 4000000 in
seal L2.PE L2.PA L2.PS L2.PSs L2.PT L2.PW L2.PC L2.PG L2.PGs L2.PI L2.PF L2.PSet L2.OpR L2.UnR L2.CallR L2.MtR L2.IxR L2.SlR L2.PO in
theorem ok__law_telling {f : Addr} {fd : FuncData} (B : Blt mg) (ER : Ers K mg) (c__law_word : Callee P w K mg base "_law_word" 1 ["_law_number_here", "_law_words_here", "_law_bad"] (sp__law_word K)) (c__law_kind : Callee P w K mg base "_law_kind" 1 ["_law_number_here", "_law_one", "_law_other", "_law_bad"] (sp__law_kind K)) (c__law_number : Callee P w K mg base "_law_number" 1 ["_law_number_here", "_law_many", "_law_bad"] (sp__law_number K)) (F : Fun K "_law_telling" "_law_telling" s__law_telling f fd) : FnOk P w K mg base CX0 2 f fd ["_law_number_here", "_law_words_here", "_law_parts", "_law_bad"] (sp__law_telling K) := by
  refine F.ok sc__law_telling (fun vs H Q E h => ?_) (fun cdv A outer s H vs Q E hr h => ?_)
  · obtain ⟨pt, S, T, R, uv, tv, qv, W, ws, n, b, rfl, _⟩ := h
    rfl
  · obtain ⟨pt, S, T, R, uv, tv, qv, W, ws, n, b, rfl, ept, eS, eT, eR, hW, w1, w8, q⟩ := h
    have y0 := Int.emod_nonneg (n / 4) (by decide : (2 : Int) ≠ 0)
    have y1 := Int.emod_lt_of_pos (n / 4) (by decide : (0 : Int) < 2)
    refine ⟨_, (pss_cons (ps_set (i := 4) sc__law_telling.nd rfl (Or.inl rfl) (pe_fn c__law_word (hr.mono (by decide)) rfl (pa_cons (pv 0) (pa_cons (pv 1) (pa_cons (pe_op op_mul (pv 3) (pe_op op_mod (pe_op op_fdiv (pv 0) pe_int) pe_int)) pa_nil)))))
      (pss_cons (ps_set (i := 5) sc__law_telling.nd rfl (Or.inl rfl) (pe_fn c__law_word (hr.mono (by decide)) rfl (pa_cons (pe_op op_fdiv (pv 0) pe_int) (pa_cons (pv 1) (pa_cons (pe_op op_mul (pv 3) (pe_op op_sub pe_int (pe_op op_mod (pe_op op_fdiv (pv 0) pe_int) pe_int))) pa_nil)))))
      (pss_cons (ps_set (i := 6) sc__law_telling.nd rfl (Or.inl rfl) (pe_fn c__law_kind (hr.mono (by decide)) rfl (pa_cons (pe_op op_fdiv (pv 0) pe_int) (pa_cons pe_str (pa_cons pe_str (pa_cons (pv 3) pa_nil))))))
      (pss_cons (ps_set (i := 7) sc__law_telling.nd rfl (Or.inl rfl) (pe_callB call_len (by rfl) B.b_len (by decide +kernel) (pa_cons (pe_ix ix_seq (pv 2) pe_int (fun _ _ => rfl)) pa_nil)))
      (pss_cons (ps_if (pt_cmpR op_eq (pv 6) pe_str (nomark _)) (pss_one (ps_set (i := 7) sc__law_telling.nd rfl (Or.inl rfl) (pe_callB call_len (by rfl) B.b_len (by decide +kernel) (pa_cons (pe_ix ix_seq (pv 2) pe_int (fun _ _ => rfl)) pa_nil)))) pss_nil)
      (pss_one (ps_ret (pe_tup (pa_cons (pv 4) (pa_cons (pv 5) (pa_cons (pv 6) (pa_cons (pe_fn c__law_number (hr.mono (by decide)) rfl (pa_cons (pe_op op_fdiv (pv 0) pe_int) (pa_cons (pv 7) (pa_cons (pv 3) pa_nil)))) pa_nil)))))))))))), ?_⟩
    refine ⟨_, rfl, _, rfl, _, rfl, _, rfl, _, _, rfl, rfl, ⟨by decide, by decide⟩, _, _, rfl, rfl, (by show (0 : Int) < 2; decide), _, _, rfl, rfl, Or.inr ⟨by omega, by omega⟩, W, ws, _, _, rfl, hW, w1, w8, fun x H1 hx s1 => ?_⟩
    refine g_in ?_
    try dsimp only
    refine ⟨_, rfl, _, _, rfl, rfl, ⟨by decide, by decide⟩, _, rfl, _, rfl, _, rfl, _, _, rfl, rfl, ⟨by decide, by decide⟩, _, _, rfl, rfl, (by show (0 : Int) < 2; decide), _, _, rfl, rfl, _, _, rfl, rfl, Or.inr ⟨by omega, by omega⟩, W, ws, _, _, rfl, s1.seq hW, w1, w8, fun y H2 hy s2 => ?_⟩
    refine g_in ?_
    try dsimp only
    refine ⟨_, rfl, _, _, rfl, rfl, ⟨by decide, by decide⟩, _, rfl, _, _, _, _, rfl, by decide +kernel, by decide +kernel, fun k H3 s3 => ?_⟩
    refine g_in ?_
    try dsimp only
    have s03 := (s1.trans s2).trans s3
    refine ⟨_, rfl, Or.inr (Or.inl ⟨pt, _, _, .ref T, rfl, rfl, SqT.of (s03 _ _ ept), rfl, _, _, rfl, Or.inl ⟨_, SqL.of (s03 _ _ eT), rfl⟩, ?_⟩)⟩
    refine g_in ?_
    try dsimp only
    refine seq_cut (fun σ' H' => ∃ m : Nat, σ' = [some (.int n), some (.ref W), some (.ref pt), some (.int b), some (.str x), some (.str y), some (.str k), some (.int (m : Int))] ∧ H' = H3) ?_ (fun N hN => ?_)
    case refine_2 =>
      refine ⟨_, rfl, rfl, _, rfl, ite2 (fun _ => ?_) (fun _ => hN _ _ ⟨_, rfl, rfl⟩)⟩
      refine ⟨_, rfl, Or.inr (Or.inl ⟨pt, _, _, .ref R, rfl, rfl, SqT.of (s03 _ _ ept), rfl, _, _, rfl, Or.inl ⟨_, SqL.of (s03 _ _ eR), rfl⟩, ?_⟩)⟩
      exact g_in (hN _ _ ⟨_, rfl, rfl⟩)
    rintro σ' H3' ⟨m, rfl, rfl⟩
    refine ⟨_, rfl, _, rfl, _, rfl, _, rfl, _, _, rfl, rfl, ⟨by decide, by decide⟩, _, rfl, _, rfl, _, _, _, rfl, Int.natCast_nonneg _, fun z => ⟨show 4 ≤ sizeLine by decide, fun r hr => ?_⟩⟩
    exact q r (x, y, k, z) _ hx hy (s03.free hr) (s03.trans (same_new hr)) upd_same
theorem call__law_telling {f : Addr} {fd : FuncData} (B : Blt mg) (ER : Ers K mg) (c__law_word : Callee P w K mg base "_law_word" 1 ["_law_number_here", "_law_words_here", "_law_bad"] (sp__law_word K)) (c__law_kind : Callee P w K mg base "_law_kind" 1 ["_law_number_here", "_law_one", "_law_other", "_law_bad"] (sp__law_kind K)) (c__law_number : Callee P w K mg base "_law_number" 1 ["_law_number_here", "_law_many", "_law_bad"] (sp__law_number K)) (F : Fun K "_law_telling" "_law_telling" s__law_telling f fd) (hm : mg "_law_telling" = some (.ref f)) : Callee P w K mg base "_law_telling" 2 ["_law_number_here", "_law_words_here", "_law_parts", "_law_bad"] (sp__law_telling K) :=
  ⟨f, fd, ok__law_telling B ER c__law_word c__law_kind c__law_number F, hm, F.kp, F.binds fun _ _ _ _ _ _ us hl => (by obtain ⟨x0, x1, x2, x3, rfl⟩ := len_4 hl; rfl)⟩

def sp__law_lay (K : PySem.W.Frag) : Sp := fun vs H Q _ => ∃ (pt S T R : Addr) (us Gs Es ts qt : List Addr) (ss : List Sco) (gs : List (Str × Int)) (qs : List Qu) (W : Addr) (ws : List Str) (c : Int) (k : Nat), vs = [.ref pt, .ref W, .int c] ∧ NetS H pt S T R us Gs Es ts qt ss gs qs ∧ SqL K H W (ws.map V.str) ∧ 1 ≤ ws.length ∧ (∀ x ∈ ws, x.length ≤ 8) ∧ Bd k ss gs qs ∧ k ≤ 90 ∧
  ∀ (us' Gs' Es' ts' qt' : List Addr) (ss' : List Sco) (gs' : List (Str × Int)) (qs' : List Qu) (H' : Hp), NetS H' pt S T R us' Gs' Es' ts' qt' ss' gs' qs' → Keeps (fun x => x ∈ S :: T :: R :: (Gs ++ Es)) H H' → (∀ x ∈ Gs' ++ Es', x ∈ Gs ++ Es ∨ H x = none) → Bd (k + 1) ss' gs' qs' → Q .non H'
set_option maxHeartbeats 4000000 in
seal L2.PE L2.PA L2.PS L2.PSs L2.PT L2.PW L2.PC L2.PG L2.PGs L2.PI L2.PF L2.PSet L2.OpR L2.UnR L2.CallR L2.MtR L2.IxR L2.SlR L2.PO in
theorem ok__law_lay {f : Addr} {fd : FuncData} (B : Blt mg) (ER : Ers K mg) (c__law_thing : Callee P w K mg base "_law_thing" 2 ["_law_number_here", "_law_parts", "_law_bad"] (sp__law_thing K)) (c__law_question : Callee P w K mg base "_law_question" 2 ["_law_number_here", "_law_words_here", "_law_parts", "_law_bad"] (sp__law_question K)) (c__law_step : Callee P w K mg base "_law_step" 2 ["_law_number_here", "_law_words_here", "_law_parts", "_law_bad"] (sp__law_step K)) (c__law_telling : Callee P w K mg base "_law_telling" 2 ["_law_number_here", "_law_words_here", "_law_parts", "_law_bad"] (sp__law_telling K)) (F : Fun K "_law_lay" "_law_lay" s__law_lay f fd) : FnOk P w K mg base CX0 3 f fd ["_law_parts", "_law_words_here", "_law_cell"] (sp__law_lay K) := by
  refine F.ok sc__law_lay (fun vs H Q E h => ?_) (fun cdv A outer s H vs Q E hr h => ?_)
  · obtain ⟨pt, S, T, R, us, Gs, Es, ts, qt, ss, gs, qs, W, ws, c, k, rfl, _⟩ := h
    rfl
  · obtain ⟨pt, S, T, R, us, Gs, Es, ts, qt, ss, gs, qs, W, ws, c, k, rfl, N, hW, w1, w8, bd, k90, q⟩ := h
    have lu : (us.map V.ref).length = ss.length := by rw [List.length_map, N.n3.sc.lu]
    have bs := bd.s
    have bg := bd.g
    have bq := bd.q
    refine ⟨_, (pss_cons (ps_set (i := 3) sc__law_lay.nd rfl (Or.inl rfl) (pe_op op_mod (pe_op op_mul (pe_op op_fdiv (pv 2) pe_int) pe_int) pe_int))
      (pss_cons (ps_set (i := 4) sc__law_lay.nd rfl (Or.inl rfl) pe_int)
      (pss_cons (ps_if (PW.pt (pw_and (pt_cmpR op_eq (pe_op op_mod (pe_op op_fdiv (pv 2) pe_int) pe_int) pe_int (nomark _)) (pw_and1 (pt_cmpR op_eq (pe_op op_mod (pe_op op_fdiv (pv 2) pe_int) pe_int) pe_int (nomark _))))) (pss_one (ps_set (i := 4) sc__law_lay.nd rfl (Or.inl rfl) (pe_op op_mod (pe_op op_fdiv (pv 2) pe_int) pe_int))) pss_nil)
      (pss_cons (ps_set (i := 5) sc__law_lay.nd rfl (Or.inl rfl) (pe_op op_mod (pv 2) pe_int))
      (pss_one (ps_if (pt_cmpR op_eq (pv 5) pe_int (nomark _)) (pss_one (ps_expr (pe_bm PySem.F.plainAttrs_list PySem.F.slot_list_append PySem.F.type_list_append mr_append (pe_ix ix_seq (pv 0) pe_int (fun _ _ => rfl)) (pa_cons (pe_fn c__law_thing (hr.mono (by decide)) rfl (pa_cons (pv 3) (pa_cons (pv 0) (pa_cons (pv 4) pa_nil)))) pa_nil)))) (pss_one (ps_if (PW.pt (pw_and (pt_cmpR op_eq (pv 5) pe_int (nomark _)) (pw_and1 (pt_cmpR (op_neD hr.units) (pe_ix ix_seq (pv 0) pe_int (fun _ _ => rfl)) (pe_lst pa_nil) (nomark _))))) (pss_one (ps_expr (pe_bm PySem.F.plainAttrs_list PySem.F.slot_list_append PySem.F.type_list_append mr_append (pe_ix ix_seq (pv 0) pe_int (fun _ _ => rfl)) (pa_cons (pe_fn c__law_question (hr.mono (by decide)) rfl (pa_cons (pv 3) (pa_cons (pv 1) (pa_cons (pv 0) (pa_cons (pv 4) pa_nil))))) pa_nil)))) (pss_one (ps_if (pt_cmpR op_eq (pv 5) pe_int (nomark _)) (pss_one (ps_expr (pe_bm PySem.F.plainAttrs_list PySem.F.slot_list_append PySem.F.type_list_append mr_append (pe_ix ix_seq (pv 0) pe_int (fun _ _ => rfl)) (pa_cons (pe_tup (pa_cons (pe_lst pa_nil) (pa_cons (pe_lst pa_nil) pa_nil))) pa_nil)))) (pss_one (ps_if (pt_cmpR (op_neD hr.units) (pe_ix ix_seq (pv 0) pe_int (fun _ _ => rfl)) (pe_lst pa_nil) (nomark _)) (pss_cons (ps_asg (pe_ix ix_seq (pe_ix ix_seq (pv 0) pe_int (fun _ _ => rfl)) (pe_op op_mod (pv 3) (pe_callB call_len (by rfl) B.b_len (by decide +kernel) (pa_cons (pe_ix ix_seq (pv 0) pe_int (fun _ _ => rfl)) pa_nil))) (fun _ _ => rfl)) (pg_tup rfl (pgs_cons (pg_name (i := 6) sc__law_lay.nd rfl (Or.inl rfl)) (pgs_cons (pg_name (i := 7) sc__law_lay.nd rfl (Or.inl rfl)) pgs_nil))))
              (pss_one (ps_if (pt_cmpR op_lt (pv 5) pe_int (nomark _)) (pss_one (ps_expr (pe_bm PySem.F.plainAttrs_list PySem.F.slot_list_append PySem.F.type_list_append mr_append (pv 6) (pa_cons (pe_fn c__law_step (hr.mono (by decide)) rfl (pa_cons (pe_op op_fdiv (pv 3) (pe_callB call_len (by rfl) B.b_len (by decide +kernel) (pa_cons (pe_ix ix_seq (pv 0) pe_int (fun _ _ => rfl)) pa_nil))) (pa_cons (pv 1) (pa_cons (pv 0) (pa_cons (pv 4) pa_nil))))) pa_nil)))) (pss_one (ps_expr (pe_bm PySem.F.plainAttrs_list PySem.F.slot_list_append PySem.F.type_list_append mr_append (pv 7) (pa_cons (pe_fn c__law_telling (hr.mono (by decide)) rfl (pa_cons (pe_op op_fdiv (pv 3) (pe_callB call_len (by rfl) B.b_len (by decide +kernel) (pa_cons (pe_ix ix_seq (pv 0) pe_int (fun _ _ => rfl)) pa_nil))) (pa_cons (pv 1) (pa_cons (pv 0) (pa_cons (pv 4) pa_nil))))) pa_nil))))))) pss_nil)))))))))))), ?_⟩
    have fin : ∀ {H' : Hp}, Same H H' → Q .non H' := fun s => q us Gs Es ts qt ss gs qs _ (N.same s) ⟨fun x o e _ => s _ _ e, N.keepR.ls⟩ (fun x hx => .inl hx) (bd.mono (Nat.le_succ k))
    refine ⟨_, rfl, _, _, rfl, rfl, ⟨by decide, by decide⟩, _, _, rfl, rfl, Or.inr ⟨by decide, by decide⟩, _, _, rfl, rfl, (by show (0 : Int) < 2147483647; decide), ?_⟩
    try dsimp only
    generalize c / 16 * 48271 % 2147483647 = n
    refine g_in ?_
    try dsimp only
    refine g_in ?_
    try dsimp only
    refine g_in ?_
    try dsimp only
    refine seq_cut (fun σ' H' => ∃ b : Int, σ' = [some (.ref pt), some (.ref W), some (.int c), some (.int n), some (.int b), none, none, none] ∧ H' = H) ?_ (fun NN hN => ?_)
    case refine_2 =>
      refine ⟨_, rfl, _, _, rfl, rfl, ⟨by decide, by decide⟩, _, _, rfl, rfl, (by show (0 : Int) < 2; decide), rfl, _, rfl, ite2 (fun _ => ⟨_, rfl, _, _, rfl, rfl, ⟨by decide, by decide⟩, _, _, rfl, rfl, (by show (0 : Int) < 4; decide), rfl, _, rfl, ite2 (fun _ => ?_) (fun _ => hN _ _ ⟨0, rfl, rfl⟩)⟩) (fun _ => iteF (hN _ _ ⟨0, rfl, rfl⟩))⟩
      exact ⟨_, rfl, _, _, rfl, rfl, ⟨by decide, by decide⟩, _, _, rfl, rfl, (by show (0 : Int) < 12; decide), g_in (hN _ _ ⟨_, rfl, rfl⟩)⟩
    rintro σ' H0 ⟨b, rfl, rfl⟩
    refine ⟨_, rfl, _, _, rfl, rfl, (by show (0 : Int) < 8; decide), ?_⟩
    try dsimp only
    generalize c % 8 = way
    refine g_in ?_
    try dsimp only
    have s0 : Same H0 H0 := Same.refl _
    refine ⟨_, rfl, rfl, _, rfl, ite2 (fun _ => ?_) (fun _ => ?_)⟩
    · refine ⟨_, rfl, Or.inr (Or.inl ⟨pt, _, _, .ref T, rfl, rfl, SqT.of N.ept, rfl, Or.inl ⟨rfl, _, SqL.of N.n3.et⟩, _, rfl, _, rfl, _, rfl, pt, S, T, R, _, _, _, _, _, rfl, N.ept, N.n3.sc.top, N.n3.et, N.n3.er, fun r p H1 hr s1 er => ?_⟩)⟩
      have e1 := s1 _ _ N.n3.et
      refine ⟨T, _, _, rfl, rfl, e1, by rw [List.length_map, N.n3.tg.len]; exact small1000 (by omega), ?_⟩
      exact q _ _ _ _ _ _ _ _ _ ((N.same s1).setG (Keeps.one e1) (by rw [upd_same, List.map_append]; rfl) (((N.n3.tg.same s1).snoc er).keeps (Keeps.one e1))) (N.keep1 s1 (Keeps.one e1) (by simp)) (fun x hx => .inl hx) bd.thing
    refine ⟨_, rfl, rfl, _, rfl, ite2 (fun _ => ?yes) (fun _ => iteF ?no)⟩
    case yes =>
      refine ⟨_, rfl, Or.inr (Or.inl ⟨pt, _, _, .ref S, rfl, rfl, SqT.of N.ept, rfl, by decide, fun el hel => ?_⟩)⟩
      have s1 := same_new (o := .lst []) hel
      have eel : (upd H0 el (.lst [])) el = some (.lst []) := upd_same
      generalize upd H0 el (.lst []) = H1 at s1 eel ⊢
      have N1 := N.same s1
      refine ⟨2, Dt.lst (ss.map scoD), Dt.lst [], .lst (.nil' _), by decide, .lst (SqL.of N1.n3.sc.top) N1.n3.sc.dts, .lst (SqL.of eel) .nil, _, rfl, ite2 (fun h => ?_) (fun _ => ?_)⟩
      · refine ⟨_, rfl, Or.inr (Or.inl ⟨pt, _, _, .ref R, rfl, rfl, SqT.of N1.ept, rfl, Or.inl ⟨rfl, _, SqL.of N1.n3.er⟩, _, rfl, _, rfl, _, rfl, _, rfl, pt, S, T, R, _, _, _, W, ws, _, _, rfl, N1.ept, N1.n3.sc.top, N1.n3.et, N1.n3.er, s1.seq hW, w1, w8, fun r u z H2 z7 zw hr hu s2 er eu => ?_⟩)⟩
        have e2 := s2 _ _ N1.n3.er
        refine ⟨R, _, _, rfl, rfl, e2, by rw [List.length_map, N.n3.tq.len]; exact small1000 (by omega), ?_⟩
        exact q _ _ _ _ _ _ _ _ _ ((N1.same s2).setQ (Keeps.one e2) (by rw [upd_same, List.map_append]; rfl) (((N1.n3.tq.same s2).snoc er eu).keeps (Keeps.one e2))) (N.keep1 (s1.trans s2) (Keeps.one e2) (by simp)) (fun x hx => .inl hx) (bd.quest z7 zw)
      refine ⟨_, rfl, rfl, _, rfl, ite2 (fun _ => ?_) (fun _ => ?_)⟩
      · refine ⟨_, rfl, Or.inr (Or.inl ⟨pt, _, _, .ref S, rfl, rfl, SqT.of N1.ept, rfl, Or.inl ⟨rfl, _, SqL.of N1.n3.sc.top⟩, by decide, fun G hG => ?_⟩)⟩
        have t1 := same_new (o := .lst []) hG
        have eG : (upd H1 G (.lst [])) G = some (.lst []) := upd_same
        generalize upd H1 G (.lst []) = Ha at t1 eG ⊢
        refine ⟨by decide, fun E1 hE1 => ?_⟩
        have t2 := same_new (o := .lst []) hE1
        have eE1 : (upd Ha E1 (.lst [])) E1 = some (.lst []) := upd_same
        generalize upd Ha E1 (.lst []) = Hb at t2 eE1 ⊢
        refine ⟨two_le, fun u hu => ?_⟩
        have t3 := same_new (o := .tup [.ref G, .ref E1]) hu
        have eu : (upd Hb u (.tup [.ref G, .ref E1])) u = some (.tup [.ref G, .ref E1]) := upd_same
        generalize upd Hb u (.tup [.ref G, .ref E1]) = Hc at t3 eu ⊢
        have t13 := (t1.trans t2).trans t3
        have Nc := N1.same t13
        have nG : G ∉ S :: T :: R :: (Gs ++ Es) := N1.new hG
        have nE : E1 ∉ S :: T :: R :: (Gs ++ Es) := (N1.same t1).new hE1
        have nGE : G ≠ E1 := fun y => by rw [← y, eG] at hE1; cases hE1
        have hsc : ScH Hc u G E1 ([], []) := ⟨eu, ⟨[], (t2.trans t3) _ _ eG, RT.nil⟩, ⟨[], t3 _ _ eE1, RT.nil⟩⟩
        refine ⟨S, _, _, rfl, rfl, Nc.n3.sc.top, by rw [List.length_map, Nc.n3.sc.lu]; exact small1000 (by omega), ?_⟩
        refine q _ _ _ _ _ _ _ _ _ (Nc.snoc hsc nG nE nGE) (N.keep1 (s1.trans t13) (Keeps.one Nc.n3.sc.top) List.mem_cons_self) (fun x hx => ?_) bd.scope
        simp only [List.mem_append, List.mem_singleton] at hx
        rcases hx with (h | h) | (h | h)
        · exact .inl (List.mem_append_left _ h)
        · rw [h]; exact .inr (s1.free hG)
        · exact .inl (List.mem_append_right _ h)
        · rw [h]; exact .inr ((s1.trans t1).free hE1)
      refine ⟨_, rfl, Or.inr (Or.inl ⟨pt, _, _, .ref S, rfl, rfl, SqT.of N1.ept, rfl, by decide, fun el hel => ?_⟩)⟩
      have t1 := same_new (o := .lst []) hel
      have eel : (upd H1 el (.lst [])) el = some (.lst []) := upd_same
      generalize upd H1 el (.lst []) = Hd at t1 eel ⊢
      have Nd := N1.same t1
      have sd := s1.trans t1
      refine ⟨2, Dt.lst (ss.map scoD), Dt.lst [], .lst (.nil' _), by decide, .lst (SqL.of Nd.n3.sc.top) Nd.n3.sc.dts, .lst (SqL.of eel) .nil, _, rfl, ite2 (fun h => ?_) (fun _ => fin sd)⟩
      have hne : ss ≠ [] := fun z => by
        rw [dec_true (by rw [z]; rfl)] at h
        cases h
      have hl : 1 ≤ ss.length := List.length_pos_iff.mpr hne
      have l0 : (0 : Int) < ((us.map V.ref).length : Nat) := by rw [lu]; omega
      have l9 : (((us.map V.ref).length : Nat) : Int) < 1073741824 := by rw [lu]; omega
      have a0 := Int.emod_nonneg n (show (((us.map V.ref).length : Nat) : Int) ≠ 0 by omega)
      have a1 := Int.emod_lt_of_pos n l0
      obtain ⟨i, ei⟩ := Int.eq_ofNat_of_zero_le a0
      have hil : i < ss.length := by omega
      obtain ⟨u, G, E1, g1', g2, g3, g4, ⟨b0, ⟨tG, b1, b2⟩, ⟨tE, c1, c2⟩⟩⟩ := Nd.n3.sc.get hil
      have hat : atI (us.map V.ref) (n % ((us.map V.ref).length : Nat)) = some (.ref u) := by rw [ei]; exact atI_nat (by rw [List.getElem?_map, g1']; rfl)
      have mG : G ∈ S :: T :: R :: (Gs ++ Es) := by simp [List.mem_of_getElem? g2]
      have mE : E1 ∈ S :: T :: R :: (Gs ++ Es) := by simp [List.mem_of_getElem? g3]
      have cc := bd.c _ (List.getElem_mem hil)
      refine ⟨_, rfl, Or.inr (Or.inl ⟨pt, _, _, .ref S, rfl, rfl, SqT.of Nd.ept, rfl, _, rfl, _, rfl, Or.inr (Or.inl ⟨pt, _, _, .ref S, rfl, rfl, SqT.of Nd.ept, rfl, _, _, rfl, Or.inl ⟨_, SqL.of Nd.n3.sc.top, rfl⟩, _, _, rfl, rfl, l0, Or.inl ⟨S, _, _, .ref u, rfl, rfl, SqL.of Nd.n3.sc.top, hat, ?_⟩⟩)⟩)⟩
      refine ⟨u, _, rfl, SqT.of b0, rfl, _, _, rfl, _, _, rfl, rfl, ?_⟩
      try dsimp only
      refine ⟨_, rfl, _, _, rfl, rfl, _, rfl, ite2 (fun _ => ?_) (fun _ => ?_)⟩
      · refine ⟨_, rfl, Or.inl ⟨rfl, _, SqL.of b1⟩, _, rfl, _, rfl, Or.inr (Or.inl ⟨pt, _, _, .ref S, rfl, rfl, SqT.of Nd.ept, rfl, _, _, rfl, Or.inl ⟨_, SqL.of Nd.n3.sc.top, rfl⟩, _, _, rfl, rfl, ⟨l0, l9⟩, _, rfl, _, rfl, _, rfl, pt, S, T, R, _, _, _, W, ws, _, _, rfl, Nd.ept, Nd.n3.sc.top, Nd.n3.et, Nd.n3.er, sd.seq hW, w1, w8, fun r p He hp hr se er => ?_⟩)⟩
        have b12 := se _ _ b1
        refine ⟨G, _, _, rfl, rfl, b12, by rw [List.length_map, b2.len]; exact small1000 (by omega), ?_⟩
        exact q _ _ _ _ _ _ _ _ _ ((Nd.same se).setS hil g2 (Keeps.one b12) (by rw [upd_same, List.map_append]; rfl) (((b2.same se).snoc er).keeps (Keeps.one b12))) (N.keep1 (sd.trans se) (Keeps.one b12) mG) (fun x hx => .inl hx) (bd.step hil hp)
      · refine ⟨_, rfl, Or.inl ⟨rfl, _, SqL.of c1⟩, _, rfl, _, rfl, Or.inr (Or.inl ⟨pt, _, _, .ref S, rfl, rfl, SqT.of Nd.ept, rfl, _, _, rfl, Or.inl ⟨_, SqL.of Nd.n3.sc.top, rfl⟩, _, _, rfl, rfl, ⟨l0, l9⟩, _, rfl, _, rfl, _, rfl, pt, S, T, R, _, _, _, W, ws, _, _, rfl, Nd.ept, Nd.n3.sc.top, Nd.n3.et, Nd.n3.er, sd.seq hW, w1, w8, fun r p He hp hp2 hr se er => ?_⟩)⟩
        have c12 := se _ _ c1
        refine ⟨E1, _, _, rfl, rfl, c12, by rw [List.length_map, c2.len]; exact small1000 (by omega), ?_⟩
        exact q _ _ _ _ _ _ _ _ _ ((Nd.same se).setT hil g3 (Keeps.one c12) (by rw [upd_same, List.map_append]; rfl) (((c2.same se).snoc er).keeps (Keeps.one c12))) (N.keep1 (sd.trans se) (Keeps.one c12) mE) (fun x hx => .inl hx) (bd.tell hil hp hp2)
    case no =>
      refine ⟨_, rfl, rfl, _, rfl, ite2 (fun _ => ?_) (fun _ => ?_)⟩
      · refine ⟨_, rfl, Or.inr (Or.inl ⟨pt, _, _, .ref S, rfl, rfl, SqT.of N.ept, rfl, Or.inl ⟨rfl, _, SqL.of N.n3.sc.top⟩, by decide, fun G hG => ?_⟩)⟩
        have t1 := same_new (o := .lst []) hG
        have eG : (upd H0 G (.lst [])) G = some (.lst []) := upd_same
        generalize upd H0 G (.lst []) = Ha at t1 eG ⊢
        refine ⟨by decide, fun E1 hE1 => ?_⟩
        have t2 := same_new (o := .lst []) hE1
        have eE1 : (upd Ha E1 (.lst [])) E1 = some (.lst []) := upd_same
        generalize upd Ha E1 (.lst []) = Hb at t2 eE1 ⊢
        refine ⟨two_le, fun u hu => ?_⟩
        have t3 := same_new (o := .tup [.ref G, .ref E1]) hu
        have eu : (upd Hb u (.tup [.ref G, .ref E1])) u = some (.tup [.ref G, .ref E1]) := upd_same
        generalize upd Hb u (.tup [.ref G, .ref E1]) = Hc at t3 eu ⊢
        have t13 := (t1.trans t2).trans t3
        have Nc := N.same t13
        have nG : G ∉ S :: T :: R :: (Gs ++ Es) := N.new hG
        have nE : E1 ∉ S :: T :: R :: (Gs ++ Es) := (N.same t1).new hE1
        have nGE : G ≠ E1 := fun y => by rw [← y, eG] at hE1; cases hE1
        have hsc : ScH Hc u G E1 ([], []) := ⟨eu, ⟨[], (t2.trans t3) _ _ eG, RT.nil⟩, ⟨[], t3 _ _ eE1, RT.nil⟩⟩
        refine ⟨S, _, _, rfl, rfl, Nc.n3.sc.top, by rw [List.length_map, Nc.n3.sc.lu]; exact small1000 (by omega), ?_⟩
        refine q _ _ _ _ _ _ _ _ _ (Nc.snoc hsc nG nE nGE) (N.keep1 (s0.trans t13) (Keeps.one Nc.n3.sc.top) List.mem_cons_self) (fun x hx => ?_) bd.scope
        simp only [List.mem_append, List.mem_singleton] at hx
        rcases hx with (h | h) | (h | h)
        · exact .inl (List.mem_append_left _ h)
        · rw [h]; exact .inr (s0.free hG)
        · exact .inl (List.mem_append_right _ h)
        · rw [h]; exact .inr ((s0.trans t1).free hE1)
      refine ⟨_, rfl, Or.inr (Or.inl ⟨pt, _, _, .ref S, rfl, rfl, SqT.of N.ept, rfl, by decide, fun el hel => ?_⟩)⟩
      have t1 := same_new (o := .lst []) hel
      have eel : (upd H0 el (.lst [])) el = some (.lst []) := upd_same
      generalize upd H0 el (.lst []) = Hd at t1 eel ⊢
      have Nd := N.same t1
      have sd := s0.trans t1
      refine ⟨2, Dt.lst (ss.map scoD), Dt.lst [], .lst (.nil' _), by decide, .lst (SqL.of Nd.n3.sc.top) Nd.n3.sc.dts, .lst (SqL.of eel) .nil, _, rfl, ite2 (fun h => ?_) (fun _ => fin sd)⟩
      have hne : ss ≠ [] := fun z => by
        rw [dec_true (by rw [z]; rfl)] at h
        cases h
      have hl : 1 ≤ ss.length := List.length_pos_iff.mpr hne
      have l0 : (0 : Int) < ((us.map V.ref).length : Nat) := by rw [lu]; omega
      have l9 : (((us.map V.ref).length : Nat) : Int) < 1073741824 := by rw [lu]; omega
      have a0 := Int.emod_nonneg n (show (((us.map V.ref).length : Nat) : Int) ≠ 0 by omega)
      have a1 := Int.emod_lt_of_pos n l0
      obtain ⟨i, ei⟩ := Int.eq_ofNat_of_zero_le a0
      have hil : i < ss.length := by omega
      obtain ⟨u, G, E1, g1', g2, g3, g4, ⟨b0, ⟨tG, b1, b2⟩, ⟨tE, c1, c2⟩⟩⟩ := Nd.n3.sc.get hil
      have hat : atI (us.map V.ref) (n % ((us.map V.ref).length : Nat)) = some (.ref u) := by rw [ei]; exact atI_nat (by rw [List.getElem?_map, g1']; rfl)
      have mG : G ∈ S :: T :: R :: (Gs ++ Es) := by simp [List.mem_of_getElem? g2]
      have mE : E1 ∈ S :: T :: R :: (Gs ++ Es) := by simp [List.mem_of_getElem? g3]
      have cc := bd.c _ (List.getElem_mem hil)
      refine ⟨_, rfl, Or.inr (Or.inl ⟨pt, _, _, .ref S, rfl, rfl, SqT.of Nd.ept, rfl, _, rfl, _, rfl, Or.inr (Or.inl ⟨pt, _, _, .ref S, rfl, rfl, SqT.of Nd.ept, rfl, _, _, rfl, Or.inl ⟨_, SqL.of Nd.n3.sc.top, rfl⟩, _, _, rfl, rfl, l0, Or.inl ⟨S, _, _, .ref u, rfl, rfl, SqL.of Nd.n3.sc.top, hat, ?_⟩⟩)⟩)⟩
      refine ⟨u, _, rfl, SqT.of b0, rfl, _, _, rfl, _, _, rfl, rfl, ?_⟩
      try dsimp only
      refine ⟨_, rfl, _, _, rfl, rfl, _, rfl, ite2 (fun _ => ?_) (fun _ => ?_)⟩
      · refine ⟨_, rfl, Or.inl ⟨rfl, _, SqL.of b1⟩, _, rfl, _, rfl, Or.inr (Or.inl ⟨pt, _, _, .ref S, rfl, rfl, SqT.of Nd.ept, rfl, _, _, rfl, Or.inl ⟨_, SqL.of Nd.n3.sc.top, rfl⟩, _, _, rfl, rfl, ⟨l0, l9⟩, _, rfl, _, rfl, _, rfl, pt, S, T, R, _, _, _, W, ws, _, _, rfl, Nd.ept, Nd.n3.sc.top, Nd.n3.et, Nd.n3.er, sd.seq hW, w1, w8, fun r p He hp hr se er => ?_⟩)⟩
        have b12 := se _ _ b1
        refine ⟨G, _, _, rfl, rfl, b12, by rw [List.length_map, b2.len]; exact small1000 (by omega), ?_⟩
        exact q _ _ _ _ _ _ _ _ _ ((Nd.same se).setS hil g2 (Keeps.one b12) (by rw [upd_same, List.map_append]; rfl) (((b2.same se).snoc er).keeps (Keeps.one b12))) (N.keep1 (sd.trans se) (Keeps.one b12) mG) (fun x hx => .inl hx) (bd.step hil hp)
      · refine ⟨_, rfl, Or.inl ⟨rfl, _, SqL.of c1⟩, _, rfl, _, rfl, Or.inr (Or.inl ⟨pt, _, _, .ref S, rfl, rfl, SqT.of Nd.ept, rfl, _, _, rfl, Or.inl ⟨_, SqL.of Nd.n3.sc.top, rfl⟩, _, _, rfl, rfl, ⟨l0, l9⟩, _, rfl, _, rfl, _, rfl, pt, S, T, R, _, _, _, W, ws, _, _, rfl, Nd.ept, Nd.n3.sc.top, Nd.n3.et, Nd.n3.er, sd.seq hW, w1, w8, fun r p He hp hp2 hr se er => ?_⟩)⟩
        have c12 := se _ _ c1
        refine ⟨E1, _, _, rfl, rfl, c12, by rw [List.length_map, c2.len]; exact small1000 (by omega), ?_⟩
        exact q _ _ _ _ _ _ _ _ _ ((Nd.same se).setT hil g3 (Keeps.one c12) (by rw [upd_same, List.map_append]; rfl) (((c2.same se).snoc er).keeps (Keeps.one c12))) (N.keep1 (sd.trans se) (Keeps.one c12) mE) (fun x hx => .inl hx) (bd.tell hil hp hp2)
theorem call__law_lay {f : Addr} {fd : FuncData} (B : Blt mg) (ER : Ers K mg) (c__law_thing : Callee P w K mg base "_law_thing" 2 ["_law_number_here", "_law_parts", "_law_bad"] (sp__law_thing K)) (c__law_question : Callee P w K mg base "_law_question" 2 ["_law_number_here", "_law_words_here", "_law_parts", "_law_bad"] (sp__law_question K)) (c__law_step : Callee P w K mg base "_law_step" 2 ["_law_number_here", "_law_words_here", "_law_parts", "_law_bad"] (sp__law_step K)) (c__law_telling : Callee P w K mg base "_law_telling" 2 ["_law_number_here", "_law_words_here", "_law_parts", "_law_bad"] (sp__law_telling K)) (F : Fun K "_law_lay" "_law_lay" s__law_lay f fd) (hm : mg "_law_lay" = some (.ref f)) : Callee P w K mg base "_law_lay" 3 ["_law_parts", "_law_words_here", "_law_cell"] (sp__law_lay K) :=
  ⟨f, fd, ok__law_lay B ER c__law_thing c__law_question c__law_step c__law_telling F, hm, F.kp, F.binds fun _ _ _ _ _ _ us hl => (by obtain ⟨x0, x1, x2, rfl⟩ := len_3 hl; rfl)⟩
theorem cells_cut (ns : List Int) (lo hi : Option Int) : ∃ cells : List Int, cutV (ns.map V.int) lo hi = cells.map V.int ∧ cells.length ≤ ns.length := by
  have hl := cutV_length (ns.map V.int) lo hi
  unfold cutV at hl ⊢
  rw [← List.map_drop, ← List.map_take] at hl ⊢
  exact ⟨_, rfl, by rw [List.length_take, List.length_drop]; omega⟩
/-- a net that grows -/
def Ly (H1 H : Hp) (pt S T R : Addr) (k : Nat) (A : Addr → Prop) : Prop :=
  ∃ (us Gs Es ts qt : List Addr) (ss : List Sco) (gs : List (Str × Int)) (qs : List Qu), NetS H pt S T R us Gs Es ts qt ss gs qs ∧ Same H1 H ∧ (∀ x ∈ S :: T :: R :: (Gs ++ Es), H1 x = none ∧ ¬ A x) ∧ Bd k ss gs qs

def sp__law_laid (K : PySem.W.Frag) : Sp := fun vs H Q _ => ∃ (a : Addr) (ns : List Int) (l : Nat), vs = [.ref a, .int (l : Int)] ∧ SqL K H a (ns.map V.int) ∧ ns.length ≤ 63 ∧ ∀ (pt S T R : Addr) (us Gs Es ts qt : List Addr) (ss : List Sco) (gs : List (Str × Int)) (qs : List Qu) (H' : Hp), NetS H' pt S T R us Gs Es ts qt ss gs qs → Bd 100 ss gs qs → Same H H' → Q (.ref pt) H'
set_option maxHeartbeats 4000000 in
seal L2.PE L2.PA L2.PS L2.PSs L2.PT L2.PW L2.PC L2.PG L2.PGs L2.PI L2.PF L2.PSet L2.OpR L2.UnR L2.CallR L2.MtR L2.IxR L2.SlR L2.PO in
theorem ok__law_laid {f : Addr} {fd : FuncData} (B : Blt mg) (ER : Ers K mg) (c__law_words : Callee P w K mg base "_law_words" 1 ["_law_cell", "_law_many"] (sp__law_words K)) (c__law_cell_at : Callee P w K mg base "_law_cell_at" 1 ["_law_script", "_law_k"] (sp__law_cell_at K)) (c__law_lay : Callee P w K mg base "_law_lay" 3 ["_law_parts", "_law_words_here", "_law_cell"] (sp__law_lay K)) (F : Fun K "_law_laid" "_law_laid" s__law_laid f fd) : FnOk P w K mg base CX0 4 f fd ["_law_script", "_law_last"] (sp__law_laid K) := by
  refine F.ok sc__law_laid (fun vs H Q E h => ?_) (fun cdv A outer s H vs Q E hr h => ?_)
  · obtain ⟨a, ns, l, rfl, _⟩ := h
    rfl
  · obtain ⟨a, ns, l, rfl, hS, hlen, q⟩ := h
    have m0 := Int.emod_nonneg (cellAt ns 1) (by decide : (5 : Int) ≠ 0)
    have m5 := Int.emod_lt_of_pos (cellAt ns 1) (by decide : (0 : Int) < 5)
    have g0 := Int.emod_nonneg (cellAt ns 2) (by decide : (5 : Int) ≠ 0)
    have g5 := Int.emod_lt_of_pos (cellAt ns 2) (by decide : (0 : Int) < 5)
    have q0 := Int.emod_nonneg (cellAt ns 3) (by decide : (5 : Int) ≠ 0)
    have q5 := Int.emod_lt_of_pos (cellAt ns 3) (by decide : (0 : Int) < 5)
    refine ⟨_, (pss_cons (ps_set (i := 2) sc__law_laid.nd rfl (Or.inl rfl) (pe_fn c__law_words (hr.mono (by decide)) rfl (pa_cons (pe_op op_mod (pe_fn c__law_cell_at (hr.mono (by decide)) rfl (pa_cons (pv 0) (pa_cons pe_int pa_nil))) (pe_op op_pow pe_int pe_int)) (pa_cons pe_int pa_nil))))
      (pss_cons (ps_set (i := 3) sc__law_laid.nd rfl (Or.inl rfl) (pe_tup (pa_cons (pe_comp rfl _law_laid_cs1 (pi_range1 rfl B.b_range (pa_cons (pe_op op_mod (pe_fn c__law_cell_at (hr.mono (by decide)) rfl (pa_cons (pv 0) (pa_cons pe_int pa_nil))) pe_int) pa_nil)) (fun _ _ _ _ _ => (pg_name (i := 0) _law_laid_cs1.nd rfl (Or.inl rfl))) (fun _ _ _ _ _ => pf_nil) (fun _ _ _ _ _ => (pe_tup (pa_cons (pe_lst pa_nil) (pa_cons (pe_lst pa_nil) pa_nil))))) (pa_cons (pe_lst pa_nil) (pa_cons (pe_lst pa_nil) pa_nil)))))
      (pss_cons (ps_for PassesOwn.never rfl (pi_range1 rfl B.b_range (pa_cons (pe_op op_mod (pe_fn c__law_cell_at (hr.mono (by decide)) rfl (pa_cons (pv 0) (pa_cons pe_int pa_nil))) pe_int) pa_nil)) (pg_name (i := 4) sc__law_laid.nd rfl (Or.inl rfl)) (pss_one (ps_expr (pe_bm PySem.F.plainAttrs_list PySem.F.slot_list_append PySem.F.type_list_append mr_append (pe_ix ix_seq (pv 3) pe_int (fun _ _ => rfl)) (pa_cons (pe_tup (pa_cons pe_str (pa_cons pe_int pa_nil))) pa_nil)))))
      (pss_cons (ps_if (pt_cmpR (op_neD hr.units) (pe_ix ix_seq (pv 3) pe_int (fun _ _ => rfl)) (pe_lst pa_nil) (nomark _)) (pss_one (ps_for PassesOwn.never rfl (pi_range1 rfl B.b_range (pa_cons (pe_op op_mod (pe_fn c__law_cell_at (hr.mono (by decide)) rfl (pa_cons (pv 0) (pa_cons pe_int pa_nil))) pe_int) pa_nil)) (pg_name (i := 4) sc__law_laid.nd rfl (Or.inl rfl)) (pss_one (ps_expr (pe_bm PySem.F.plainAttrs_list PySem.F.slot_list_append PySem.F.type_list_append mr_append (pe_ix ix_seq (pv 3) pe_int (fun _ _ => rfl)) (pa_cons (pe_tup (pa_cons pe_int (pa_cons (pv 4) (pa_cons (pe_tup (pa_cons (pe_ix ix_seq (pv 2) (pv 4) (fun _ _ => rfl)) (pa_cons (pe_ix ix_seq (pv 2) (pe_op op_mul pe_int (pv 4)) (fun _ _ => rfl)) pa_nil))) pa_nil)))) pa_nil)))))) pss_nil)
      (pss_cons (ps_for PassesOwn.never rfl (pi_list (pe_slice sl_list (pv 0) (po_some pe_int) (po_some (pv 1)))) (pg_name (i := 5) sc__law_laid.nd rfl (Or.inl rfl)) (pss_one (ps_expr (pe_fn c__law_lay (hr.mono (by decide)) rfl (pa_cons (pv 3) (pa_cons (pv 2) (pa_cons (pv 5) pa_nil)))))))
      (pss_one (ps_ret (pv 3)))))))), ?_⟩
    -- the words
    refine ⟨_, rfl, a, ns, 0, rfl, by decide, hS, _, _, rfl, rfl, ⟨by decide, by decide, by decide⟩, _, _, rfl, rfl, (by show (0 : Int) < 10 ^ Int.toNat 9; decide), _, _, rfl, by decide, by decide, fun W ws H1 hwl hlow hW s1 eW => ?_⟩
    have hw9 : ws.length = 9 := hwl
    have w8 : ∀ x ∈ ws, x.length ≤ 8 := fun x hx => (hlow x hx).2.1
    refine g_in ?_
    try dsimp only
    -- the scopes
    refine ⟨_, rfl, a, ns, 1, rfl, by decide, s1.seq hS, _, _, rfl, rfl, (by show (0 : Int) < 5; decide), _, rfl, by omega, by omega, comp_rangeI (fun D i ys H' => ∃ us Gs Es : List Addr, ys = us.map V.ref ∧ Same H1 H' ∧ Scs H' D us Gs Es (List.replicate i (([], []) : Sco)) ∧ (D :: (Gs ++ Es)).Nodup ∧ ∀ x ∈ Gs ++ Es, H1 x = none)
      (fun D hD => ⟨[], [], [], rfl, same_new hD, Scs.nil upd_same, by simp, fun x hx => by simp at hx⟩) (fun D i ys H5 RR hD hi hv k => ?_) (fun S ys H3 hS2 hv => ?_)⟩
    · obtain ⟨us, Gs, Es, rfl, s5, SC, nd, hfr⟩ := hv
      have lus := SC.lu
      rw [List.length_replicate] at lus
      refine ⟨by decide, fun G hG => ?_⟩
      have t1 := same_new (o := .lst []) hG
      have eG : (upd H5 G (.lst [])) G = some (.lst []) := upd_same
      generalize upd H5 G (.lst []) = H6 at t1 eG ⊢
      refine ⟨by decide, fun E1 hE1 => ?_⟩
      have t2 := same_new (o := .lst []) hE1
      have eE1 : (upd H6 E1 (.lst [])) E1 = some (.lst []) := upd_same
      generalize upd H6 E1 (.lst []) = H7 at t2 eE1 ⊢
      refine ⟨two_le, fun u hu => ?_⟩
      have t3 := same_new (o := .tup [.ref G, .ref E1]) hu
      have eu : (upd H7 u (.tup [.ref G, .ref E1])) u = some (.tup [.ref G, .ref E1]) := upd_same
      generalize upd H7 u (.tup [.ref G, .ref E1]) = H8 at t3 eu ⊢
      have t13 := (t1.trans t2).trans t3
      have t23 := t2.trans t3
      have SC8 := SC.same t13
      have al := SC.alive
      have nG : G ∉ D :: (Gs ++ Es) := fun y => by
        rcases List.mem_cons.mp y with y | y
        · rw [y, SC.top] at hG; cases hG
        · obtain ⟨xs, e⟩ := al G y
          rw [e] at hG; cases hG
      have nE : E1 ∉ D :: (Gs ++ Es) := fun y => by
        rcases List.mem_cons.mp y with y | y
        · rw [y, t1 _ _ SC.top] at hE1; cases hE1
        · obtain ⟨xs, e⟩ := al E1 y
          rw [t1 _ _ e] at hE1; cases hE1
      have nGE : G ≠ E1 := fun y => by rw [← y, eG] at hE1; cases hE1
      have hs8 : ScH H8 u G E1 ([], []) := ⟨eu, ⟨[], t23 _ _ eG, RT.nil⟩, ⟨[], t3 _ _ eE1, RT.nil⟩⟩
      have SC9 := SC8.snoc hs8 (fun z => nG (z ▸ List.mem_cons_self)) (fun z => nE (z ▸ List.mem_cons_self)) (fun x hx z => (List.nodup_cons.mp nd).1 (z ▸ hx))
      refine k _ _ SC8.top (by rw [List.length_map, lus]; exact small1000 (by omega)) ⟨us ++ [u], Gs ++ [G], Es ++ [E1], by rw [List.map_append]; rfl, fun b o e => ?_, ?_, nd_snoc2 nd nG nE nGE, fun x hx => ?_⟩
      · rw [upd_ne (ne_of_none e hD)]; exact t13 _ _ (s5 _ _ e)
      · rw [List.replicate_succ']; exact SC9
      · simp only [List.mem_append, List.mem_singleton] at hx
        rcases hx with (h | h) | (h | h)
        · exact hfr x (List.mem_append_left _ h)
        · rw [h]; exact s5.free hG
        · exact hfr x (List.mem_append_right _ h)
        · rw [h]; exact (s5.trans t1).free hE1
    obtain ⟨us, Gs, Es, rfl, s3, SC3, nd, hfr⟩ := hv
    have hSn : H1 S = none := hS2
    refine ⟨by decide, fun T hT => ?_⟩
    have t1 := same_new (o := .lst []) hT
    have eT : (upd H3 T (.lst [])) T = some (.lst []) := upd_same
    generalize upd H3 T (.lst []) = H4 at t1 eT ⊢
    refine ⟨by decide, fun R hR => ?_⟩
    have t2 := same_new (o := .lst []) hR
    have eR : (upd H4 R (.lst [])) R = some (.lst []) := upd_same
    generalize upd H4 R (.lst []) = H5 at t2 eR ⊢
    refine ⟨three_le, fun pt hpt => ?_⟩
    have t3 := same_new (o := .tup [.ref S, .ref T, .ref R]) hpt
    have ept : (upd H5 pt (.tup [.ref S, .ref T, .ref R])) pt = some (.tup [.ref S, .ref T, .ref R]) := upd_same
    generalize upd H5 pt (.tup [.ref S, .ref T, .ref R]) = H6 at t3 ept ⊢
    refine g_in ?_
    try dsimp only
    have t13 := (t1.trans t2).trans t3
    have nT : T ∉ S :: (Gs ++ Es) := fun y => by
      rcases List.mem_cons.mp y with y | y
      · rw [y, SC3.top] at hT; cases hT
      · obtain ⟨xs, e⟩ := SC3.alive T y
        rw [e] at hT; cases hT
    have nR : R ∉ S :: (Gs ++ Es) := fun y => by
      rcases List.mem_cons.mp y with y | y
      · rw [y, t1 _ _ SC3.top] at hR; cases hR
      · obtain ⟨xs, e⟩ := SC3.alive R y
        rw [t1 _ _ e] at hR; cases hR
    have nTR : T ≠ R := fun z => by rw [← z, eT] at hR; cases hR
    have L6 : Ly H1 H6 pt S T R 5 (fun _ => False) := by
      refine ⟨us, Gs, Es, [], [], _, [], [], ⟨ept, ⟨SC3.same t13, (t2.trans t3) _ _ eT, ⟨rfl, fun n t p h => by simp at h⟩, t3 _ _ eR, QT.nil⟩, nd3 nd nT nR nTR⟩, s3.trans t13, fun x hx => ⟨?_, id⟩, ⟨by rw [List.length_replicate]; omega, Nat.zero_le _, Nat.zero_le _, fun s hs => by rw [List.eq_of_mem_replicate hs]; exact ⟨Nat.zero_le _, Nat.zero_le _⟩, fun z hz => by simp at hz, fun x hx => ?_⟩⟩
      · rcases List.mem_cons.mp hx with rfl | hx
        · exact hSn
        rcases List.mem_cons.mp hx with rfl | hx
        · exact s3.free hT
        rcases List.mem_cons.mp hx with rfl | hx
        · exact (s3.trans t1).free hR
        · exact hfr x hx
      · rcases words_mem.mp hx with ⟨s, hs, z⟩ | ⟨z, hz, _⟩
        · rw [List.eq_of_mem_replicate hs] at z
          rcases z with ⟨p, hp, _⟩ | ⟨p, hp, _⟩ <;> simp at hp
        · simp at hz
    clear t1 t2 t3 t13 eT eR ept nT nR nTR SC3 nd hfr hSn s3 hT hR hpt hS2
    -- the things
    obtain ⟨_, _, _, _, _, _, _, _, _, s6, _, _⟩ := id L6
    refine ⟨_, rfl, a, ns, 2, rfl, by decide, (s1.trans s6).seq hS, _, _, rfl, rfl, (by show (0 : Int) < 5; decide), _, rfl, by omega, by omega, for_range (lo := 0) (n := (cellAt ns 2 % 5).toNat) (fun i σ H' => ∃ u4, σ = [some (.ref a), some (.int (l : Int)), some (.ref W), some (.ref pt), u4, none] ∧ Ly H1 H' pt S T R (5 + i) (fun _ => False)) ⟨none, rfl, L6⟩ ?_ ?_⟩
    · rintro i σ H7 hi ⟨u4, rfl, us, Gs, Es, ts, qt, ss, gs, qs, N, s7, fr, bd⟩
      have bg := bd.g
      refine ⟨_, rfl, Or.inr (Or.inl ⟨pt, _, _, .ref T, rfl, rfl, SqT.of N.ept, rfl, Or.inl ⟨rfl, _, SqL.of N.n3.et⟩, two_le, fun r hr => ?_⟩)⟩
      have t1 := same_new (o := .tup [.str "plain", .int 0]) hr
      have er : (upd H7 r (.tup [.str "plain", .int 0])) r = some (.tup [.str (("plain", 0) : Str × Int).1, .int (("plain", 0) : Str × Int).2]) := upd_same
      generalize upd H7 r (.tup [.str "plain", .int 0]) = H8 at t1 er ⊢
      have e8 := t1 _ _ N.n3.et
      refine ⟨T, _, _, rfl, rfl, e8, by rw [List.length_map, N.n3.tg.len]; exact small1000 (by omega), ?_⟩
      exact ⟨_, rfl, us, Gs, Es, _, qt, ss, _, qs, (N.same t1).setG (Keeps.one e8) (by rw [upd_same, List.map_append]; rfl) (((N.n3.tg.same t1).snoc er).keeps (Keeps.one e8)), s7.keeps (N.keep1 t1 (Keeps.one e8) (by simp)) (fun x hx => (fr x hx).1), fr, bd.thing⟩
    rintro σ H7 ⟨u4, rfl, L7⟩
    try dsimp only
    -- the questions
    refine seq_cut (fun σ' H' => ∃ u4, σ' = [some (.ref a), some (.int (l : Int)), some (.ref W), some (.ref pt), u4, none] ∧ Ly H1 H' pt S T R 20 (fun _ => False)) ?_ (fun NN hN => ?_)
    case refine_2 =>
      obtain ⟨us, Gs, Es, ts, qt, ss, gs, qs, N, s7, fr, bd⟩ := id L7
      refine ⟨_, rfl, Or.inr (Or.inl ⟨pt, _, _, .ref S, rfl, rfl, SqT.of N.ept, rfl, by decide, fun el hel => ?_⟩)⟩
      have t1 := same_new (o := .lst []) hel
      have eel : (upd H7 el (.lst [])) el = some (.lst []) := upd_same
      generalize upd H7 el (.lst []) = H8 at t1 eel ⊢
      have N8 := N.same t1
      have L8 : Ly H1 H8 pt S T R 10 (fun _ => False) := ⟨us, Gs, Es, ts, qt, ss, gs, qs, N8, s7.trans t1, fr, bd.mono (by omega)⟩
      refine ⟨2, Dt.lst (ss.map scoD), Dt.lst [], .lst (.nil' _), by decide, .lst (SqL.of N8.n3.sc.top) N8.n3.sc.dts, .lst (SqL.of eel) .nil, _, rfl, ite2 (fun h => ?_) (fun _ => hN _ _ ⟨_, rfl, ⟨us, Gs, Es, ts, qt, ss, gs, qs, N8, s7.trans t1, fr, bd.mono (by omega)⟩⟩)⟩
      clear N fr bd
      refine ⟨_, rfl, a, ns, 3, rfl, by decide, ((s1.trans s7).trans t1).seq hS, _, _, rfl, rfl, (by show (0 : Int) < 5; decide), _, rfl, by omega, by omega, for_range (lo := 0) (n := (cellAt ns 3 % 5).toNat) (fun i σ H' => ∃ u4, σ = [some (.ref a), some (.int (l : Int)), some (.ref W), some (.ref pt), u4, none] ∧ Ly H1 H' pt S T R (10 + i) (fun _ => False)) ⟨_, rfl, L8⟩ ?_ ?_⟩
      · rintro i σ H9 hi ⟨u4', rfl, us, Gs, Es, ts, qt, ss, gs, qs, N, s9, fr, bd⟩
        have bq := bd.q
        have eW9 := s9 _ _ eW
        have hi9 : 2 * i < ws.length := by omega
        have hat1 : atI (ws.map V.str) (0 + (i : Int)) = some (.str ws[i]) := at0 (by rw [List.getElem?_map, List.getElem?_eq_getElem (by omega)]; rfl)
        have hat2 : atI (ws.map V.str) (2 * (0 + (i : Int))) = some (.str ws[2 * i]) := by
          rw [show (2 * (0 + (i : Int)) : Int) = ((2 * i : Nat) : Int) by omega]
          exact atI_nat (by rw [List.getElem?_map, List.getElem?_eq_getElem hi9]; rfl)
        refine ⟨_, rfl, Or.inr (Or.inl ⟨pt, _, _, .ref R, rfl, rfl, SqT.of N.ept, rfl, Or.inl ⟨rfl, _, SqL.of N.n3.er⟩, _, rfl, _, rfl, _, rfl, Or.inl ⟨W, _, _, .str ws[i], rfl, rfl, SqL.of eW9, hat1, _, rfl, _, rfl, _, _, rfl, rfl, Or.inl ⟨by decide, by decide⟩, Or.inl ⟨W, _, _, .str ws[2 * i], rfl, rfl, SqL.of eW9, hat2, two_le, fun u hu => ?_⟩⟩⟩)⟩
        have t1 := same_new (o := .tup [.str ws[i], .str ws[2 * i]]) hu
        have eu : (upd H9 u (.tup [.str ws[i], .str ws[2 * i]])) u = some (.tup ([ws[i], ws[2 * i]].map V.str)) := upd_same
        generalize upd H9 u (.tup [.str ws[i], .str ws[2 * i]]) = H10 at t1 eu ⊢
        refine ⟨three_le, fun r hr => ?_⟩
        have t2 := same_new (o := .tup [.int 0, .int (0 + (i : Int)), .ref u]) hr
        have er : (upd H10 r (.tup [.int 0, .int (0 + (i : Int)), .ref u])) r = some (.tup [.int 0, .int (0 + (i : Int)), .ref u]) := upd_same
        generalize upd H10 r (.tup [.int 0, .int (0 + (i : Int)), .ref u]) = H11 at t2 er ⊢
        have e11 := t2 _ _ (t1 _ _ N.n3.er)
        refine ⟨R, _, _, rfl, rfl, e11, by rw [List.length_map, N.n3.tq.len]; exact small1000 (by omega), ?_⟩
        refine ⟨_, rfl, us, Gs, Es, ts, _, ss, gs, qs ++ [(0, 0 + (i : Int), [ws[i], ws[2 * i]])], ((N.same t1).same t2).setQ (Keeps.one e11) (by rw [upd_same, List.map_append]; rfl) ((((N.n3.tq.same t1).same t2).snoc er (t2 _ _ eu)).keeps (Keeps.one e11)), s9.keeps (N.keep1 (t1.trans t2) (Keeps.one e11) (by simp)) (fun x hx => (fr x hx).1), fr, bd.quest (by show 2 ≤ 7; decide) (fun x hx => ?_)⟩
        have hx : x ∈ [ws[i], ws[2 * i]] := hx
        simp only [List.mem_cons, List.not_mem_nil, or_false] at hx
        rcases hx with rfl | rfl
        · have := w8 _ (List.getElem_mem (show i < ws.length by omega)); omega
        · have := w8 _ (List.getElem_mem hi9); omega
      rintro σ H9 ⟨u4', rfl, us, Gs, Es, ts, qt, ss, gs, qs, N, s9, fr, bd⟩
      exact hN _ _ ⟨_, rfl, us, Gs, Es, ts, qt, ss, gs, qs, N, s9, fr, bd.mono (by omega)⟩
    clear L6 L7
    rintro σ' H8 ⟨u4, rfl, us, Gs, Es, ts, qt, ss, gs, qs, N, s8, fr, bd⟩
    -- piece by piece
    refine ⟨_, rfl, _, rfl, _, rfl, _, rfl, a, _, rfl, (s1.trans s8).seq hS, fun p0 h0 => ?_⟩
    obtain ⟨cells, ec, lc⟩ := cells_cut ns (some 4) (some (l : Int))
    rw [ec]
    have n0 := N.new h0
    have t9 := same_new (o := .lst (cells.map V.int)) h0
    have ep : (upd H8 p0 (.lst (cells.map V.int))) p0 = some (.lst (cells.map V.int)) := upd_same
    generalize upd H8 p0 (.lst (cells.map V.int)) = H9 at t9 ep ⊢
    refine ⟨p0, rfl, ⟨_, SqL.of ep⟩, for_list (xs := cells.map V.int) (fun i σ H' => ∃ u5, σ = [some (.ref a), some (.int (l : Int)), some (.ref W), some (.ref pt), u4, u5] ∧ Ly H1 H' pt S T R (20 + i) (· = p0) ∧ H' p0 = some (.lst (cells.map V.int))) ⟨none, rfl, ⟨us, Gs, Es, ts, qt, ss, gs, qs, N.same t9, s8.trans t9, fun x hx => ⟨(fr x hx).1, fun z => n0 (z ▸ hx)⟩, bd⟩, ep⟩ (fun i σ H' _ ⟨_, _, _, e⟩ => SqL.of e) ?_ ?_⟩
    · rintro i x σ H10 hx ⟨u5, rfl, ⟨us, Gs, Es, ts, qt, ss, gs, qs, N, s10, fr, bd⟩, e10⟩
      have hil : i < (cells.map V.int).length := (List.getElem?_eq_some_iff.mp hx).1
      rw [List.length_map] at hil
      rw [List.getElem?_map] at hx
      obtain ⟨c, hc, rfl⟩ := Option.map_eq_some_iff.mp hx
      refine ⟨_, rfl, _, rfl, _, rfl, pt, S, T, R, us, Gs, Es, ts, qt, ss, gs, qs, W, ws, c, 20 + i, rfl, N, SqL.of (s10 _ _ eW), by omega, w8, bd, by omega, fun us' Gs' Es' ts' qt' ss' gs' qs' H11 N11 k11 fr11 bd11 => ?_⟩
      refine ⟨_, rfl, ⟨us', Gs', Es', ts', qt', ss', gs', qs', N11, s10.keeps k11 (fun x hx => (fr x hx).1), fun x hx => ?_, bd11⟩, k11.at_ _ _ e10 (fun m => (fr _ m).2 rfl)⟩
      rcases List.mem_cons.mp hx with rfl | hx
      · exact fr _ (by simp)
      rcases List.mem_cons.mp hx with rfl | hx
      · exact fr _ (by simp)
      rcases List.mem_cons.mp hx with rfl | hx
      · exact fr _ (by simp)
      · rcases fr11 x hx with z | z
        · exact fr x (by simp only [List.mem_cons]; exact .inr (.inr (.inr z)))
        · exact ⟨s10.free z, fun y => by rw [y, e10] at z; cases z⟩
    rintro σ H10 ⟨u5, rfl, ⟨us, Gs, Es, ts, qt, ss, gs, qs, N, s10, fr, bd⟩, e10⟩
    refine ⟨_, rfl, q pt S T R us Gs Es ts qt ss gs qs H10 N (bd.mono ?_) (s1.trans s10)⟩
    rw [List.length_map]; omega
theorem call__law_laid {f : Addr} {fd : FuncData} (B : Blt mg) (ER : Ers K mg) (c__law_words : Callee P w K mg base "_law_words" 1 ["_law_cell", "_law_many"] (sp__law_words K)) (c__law_cell_at : Callee P w K mg base "_law_cell_at" 1 ["_law_script", "_law_k"] (sp__law_cell_at K)) (c__law_lay : Callee P w K mg base "_law_lay" 3 ["_law_parts", "_law_words_here", "_law_cell"] (sp__law_lay K)) (F : Fun K "_law_laid" "_law_laid" s__law_laid f fd) (hm : mg "_law_laid" = some (.ref f)) : Callee P w K mg base "_law_laid" 4 ["_law_script", "_law_last"] (sp__law_laid K) :=
  ⟨f, fd, ok__law_laid B ER c__law_words c__law_cell_at c__law_lay F, hm, F.kp, F.binds fun _ _ _ _ _ _ us hl => (by obtain ⟨x0, x1, rfl⟩ := len_2 hl; rfl)⟩

def sp_law (K : PySem.W.Frag) : Sp := fun vs H Q _ => ∃ (a : Addr) (ns : List Int), vs = [.ref a] ∧ SqL K H a (ns.map V.int) ∧ ns.length ≤ 63 ∧ ∀ H', Q (.bl true) H'
set_option maxHeartbeats 4000000 in
seal L2.PE L2.PA L2.PS L2.PSs L2.PT L2.PW L2.PC L2.PG L2.PGs L2.PI L2.PF L2.PSet L2.OpR L2.UnR L2.CallR L2.MtR L2.IxR L2.SlR L2.PO in
theorem ok_law {f : Addr} {fd : FuncData} (B : Blt mg) (ER : Ers K mg) (c__law_judged : Callee P w K mg base "_law_judged" 7 ["_law_parts"] (sp__law_judged K)) (c__law_laid : Callee P w K mg base "_law_laid" 4 ["_law_script", "_law_last"] (sp__law_laid K)) (F : Fun K "law" "law" s_law f fd) : FnOk P w K mg base CX0 8 f fd ["_law_script"] (sp_law K) := by
  refine F.ok sc_law (fun vs H Q E h => ?_) (fun cdv A outer s H vs Q E hr h => ?_)
  · obtain ⟨a, ns, rfl, _⟩ := h
    rfl
  · obtain ⟨a, ns, rfl, hS, hlen, kq⟩ := h
    refine ⟨_, (pss_cons (ps_if (pt_not (pt_val (pe_fn c__law_judged (hr.mono (by decide)) rfl (pa_cons (pe_fn c__law_laid (hr.mono (by decide)) rfl (pa_cons (pv 0) (pa_cons (pe_callB call_len (by rfl) B.b_len (by decide +kernel) (pa_cons (pv 0) pa_nil)) pa_nil))) pa_nil)))) (pss_one (ps_ret pe_bl)) pss_nil)
      (pss_one (ps_ret (pe_fn c__law_judged (hr.mono (by decide)) rfl (pa_cons (pe_fn c__law_laid (hr.mono (by decide)) rfl (pa_cons (pv 0) (pa_cons (pe_callB (call_max2 rfl) (by rfl) B.b_max (by decide +kernel) (pa_cons (pe_op op_sub (pe_callB call_len (by rfl) B.b_len (by decide +kernel) (pa_cons (pv 0) pa_nil)) pe_int) (pa_cons pe_int pa_nil))) pa_nil))) pa_nil))))), ?_⟩
    refine ⟨_, rfl, _, rfl, _, _, rfl, Or.inl ⟨_, hS, rfl⟩, a, ns, _, rfl, hS, hlen, fun pt S T R us Gs Es ts qt ss gs qs H1 N bd s1 => ?_⟩
    refine ⟨pt, S, T, R, us, Gs, Es, ts, qt, ss, gs, qs, rfl, N, bd, fun H2 s2 => ⟨_, rfl, iteF ?_⟩⟩
    have hS2 := (s1.trans s2).seq hS
    obtain ⟨l, el⟩ : ∃ l : Nat, (if (0 : Int) > ((ns.map V.int).length : Nat) - 1 then (0 : Int) else ((ns.map V.int).length : Nat) - 1) = (l : Int) := by
      split
      · exact ⟨0, rfl⟩
      · exact ⟨(((ns.map V.int).length : Nat) - 1 : Int).toNat, by omega⟩
    refine ⟨_, rfl, _, rfl, _, _, rfl, Or.inl ⟨_, hS2, rfl⟩, _, _, rfl, rfl, _, _, rfl, a, ns, l, ?_, hS2, hlen, fun pt S T R us Gs Es ts qt ss gs qs H3 N bd s3 => ?_⟩
    · rw [← el]; rfl
    exact ⟨pt, S, T, R, us, Gs, Es, ts, qt, ss, gs, qs, rfl, N, bd, fun H4 s4 => kq _⟩
theorem call_law {f : Addr} {fd : FuncData} (B : Blt mg) (ER : Ers K mg) (c__law_judged : Callee P w K mg base "_law_judged" 7 ["_law_parts"] (sp__law_judged K)) (c__law_laid : Callee P w K mg base "_law_laid" 4 ["_law_script", "_law_last"] (sp__law_laid K)) (F : Fun K "law" "law" s_law f fd) (hm : mg "law" = some (.ref f)) : Callee P w K mg base "law" 8 ["_law_script"] (sp_law K) :=
  ⟨f, fd, ok_law B ER c__law_judged c__law_laid F, hm, F.kp, F.binds fun _ _ _ _ _ _ us hl => (by obtain ⟨x0, rfl⟩ := len_1 hl; rfl)⟩
end
theorem all_mk {l : PySem.W.OpenLaw} {w : World} {K : PySem.W.Frag} {h : Heap} {mg : Str → Option Value} {fa : Addr} (X : K.In h) (G : h.Ns mainGlobals mg) (hfa : mg "law" = some (.ref fa))
    {f0 : Addr} {od0 an0 : Option Addr} {sl0 : Array (Option Value)} {oc0 kV0 dc0 pm0 cd0 ct0 : Value}
    {f1 : Addr} {od1 an1 : Option Addr} {sl1 : Array (Option Value)} {oc1 kV1 dc1 pm1 cd1 ct1 : Value}
    {f2 : Addr} {od2 an2 : Option Addr} {sl2 : Array (Option Value)} {oc2 kV2 dc2 pm2 cd2 ct2 : Value}
    {f3 : Addr} {od3 an3 : Option Addr} {sl3 : Array (Option Value)} {oc3 kV3 dc3 pm3 cd3 ct3 : Value}
    {f4 : Addr} {od4 an4 : Option Addr} {sl4 : Array (Option Value)} {oc4 kV4 dc4 pm4 cd4 ct4 : Value}
    {f5 : Addr} {od5 an5 : Option Addr} {sl5 : Array (Option Value)} {oc5 kV5 dc5 pm5 cd5 ct5 : Value}
    {f6 : Addr} {od6 an6 : Option Addr} {sl6 : Array (Option Value)} {oc6 kV6 dc6 pm6 cd6 ct6 : Value}
    {f7 : Addr} {od7 an7 : Option Addr} {sl7 : Array (Option Value)} {oc7 kV7 dc7 pm7 cd7 ct7 : Value}
    {f8 : Addr} {od8 an8 : Option Addr} {sl8 : Array (Option Value)} {oc8 kV8 dc8 pm8 cd8 ct8 : Value}
    {f9 : Addr} {od9 an9 : Option Addr} {sl9 : Array (Option Value)} {oc9 kV9 dc9 pm9 cd9 ct9 : Value}
    {f10 : Addr} {od10 an10 : Option Addr} {sl10 : Array (Option Value)} {oc10 kV10 dc10 pm10 cd10 ct10 : Value}
    {f11 : Addr} {od11 an11 : Option Addr} {sl11 : Array (Option Value)} {oc11 kV11 dc11 pm11 cd11 ct11 : Value}
    {f12 : Addr} {od12 an12 : Option Addr} {sl12 : Array (Option Value)} {oc12 kV12 dc12 pm12 cd12 ct12 : Value}
    {f13 : Addr} {od13 an13 : Option Addr} {sl13 : Array (Option Value)} {oc13 kV13 dc13 pm13 cd13 ct13 : Value}
    {f14 : Addr} {od14 an14 : Option Addr} {sl14 : Array (Option Value)} {oc14 kV14 dc14 pm14 cd14 ct14 : Value}
    {f15 : Addr} {od15 an15 : Option Addr} {sl15 : Array (Option Value)} {oc15 kV15 dc15 pm15 cd15 ct15 : Value}
    {f16 : Addr} {od16 an16 : Option Addr} {sl16 : Array (Option Value)} {oc16 kV16 dc16 pm16 cd16 ct16 : Value}
    {f17 : Addr} {od17 an17 : Option Addr} {sl17 : Array (Option Value)} {oc17 kV17 dc17 pm17 cd17 ct17 : Value}
    {f18 : Addr} {od18 an18 : Option Addr} {sl18 : Array (Option Value)} {oc18 kV18 dc18 pm18 cd18 ct18 : Value}
    {f19 : Addr} {od19 an19 : Option Addr} {sl19 : Array (Option Value)} {oc19 kV19 dc19 pm19 cd19 ct19 : Value}
    {f20 : Addr} {od20 an20 : Option Addr} {sl20 : Array (Option Value)} {oc20 kV20 dc20 pm20 cd20 ct20 : Value}
    {f21 : Addr} {od21 an21 : Option Addr} {sl21 : Array (Option Value)} {oc21 kV21 dc21 pm21 cd21 ct21 : Value}
    {f22 : Addr} {od22 an22 : Option Addr} {sl22 : Array (Option Value)} {oc22 kV22 dc22 pm22 cd22 ct22 : Value}
    {f23 : Addr} {od23 an23 : Option Addr} {sl23 : Array (Option Value)} {oc23 kV23 dc23 pm23 cd23 ct23 : Value}
    {f24 : Addr} {od24 an24 : Option Addr} {sl24 : Array (Option Value)} {oc24 kV24 dc24 pm24 cd24 ct24 : Value}
    {f25 : Addr} {od25 an25 : Option Addr} {sl25 : Array (Option Value)} {oc25 kV25 dc25 pm25 cd25 ct25 : Value}
    {f26 : Addr} {od26 an26 : Option Addr} {sl26 : Array (Option Value)} {oc26 kV26 dc26 pm26 cd26 ct26 : Value}
    {f27 : Addr} {od27 an27 : Option Addr} {sl27 : Array (Option Value)} {oc27 kV27 dc27 pm27 cd27 ct27 : Value}
    {f28 : Addr} {od28 an28 : Option Addr} {sl28 : Array (Option Value)} {oc28 kV28 dc28 pm28 cd28 ct28 : Value}
    {f29 : Addr} {od29 an29 : Option Addr} {sl29 : Array (Option Value)} {oc29 kV29 dc29 pm29 cd29 ct29 : Value}
    {f30 : Addr} {od30 an30 : Option Addr} {sl30 : Array (Option Value)} {oc30 kV30 dc30 pm30 cd30 ct30 : Value}
    {f31 : Addr} {od31 an31 : Option Addr} {sl31 : Array (Option Value)} {oc31 kV31 dc31 pm31 cd31 ct31 : Value}
    {f32 : Addr} {od32 an32 : Option Addr} {sl32 : Array (Option Value)} {oc32 kV32 dc32 pm32 cd32 ct32 : Value}
    {tc_LONGEST_NAME : Tok}
    {tc_LONGEST_PATH : Tok}
    {tc_MOST_QUESTIONS : Tok}
    {tc_MOST_SCOPES : Tok}
    {tc_MOST_STEPS : Tok}
    {tc_MOST_TELLINGS : Tok}
    {tc_MOST_THINGS : Tok}
    (a0 : PySem.W.nsIn K mainGlobals "_law_copy" = some (some (.ref f0))) (l0 : K.lookup f0 = some ⟨oc0, od0, .func (PySem.W.fnOf "_law_copy" "_law_copy" (defArgs s__law_copy) (defBody s__law_copy) (defScope s__law_copy) .none kV0 dc0 pm0 an0 cd0 ct0), sl0⟩) (c0 : PySem.W.codeIn K cd0 "_law_copy" = true) (k0 : PySem.W.keepIn K (.ref f0) = true)
    (a1 : PySem.W.nsIn K mainGlobals "_law_great" = some (some (.ref f1))) (l1 : K.lookup f1 = some ⟨oc1, od1, .func (PySem.W.fnOf "_law_great" "_law_great" (defArgs s__law_great) (defBody s__law_great) (defScope s__law_great) .none kV1 dc1 pm1 an1 cd1 ct1), sl1⟩) (c1 : PySem.W.codeIn K cd1 "_law_great" = true) (k1 : PySem.W.keepIn K (.ref f1) = true)
    (a2 : PySem.W.nsIn K mainGlobals "_law_words_of" = some (some (.ref f2))) (l2 : K.lookup f2 = some ⟨oc2, od2, .func (PySem.W.fnOf "_law_words_of" "_law_words_of" (defArgs s__law_words_of) (defBody s__law_words_of) (defScope s__law_words_of) .none kV2 dc2 pm2 an2 cd2 ct2), sl2⟩) (c2 : PySem.W.codeIn K cd2 "_law_words_of" = true) (k2 : PySem.W.keepIn K (.ref f2) = true)
    (a3 : PySem.W.nsIn K mainGlobals "_law_is_word" = some (some (.ref f3))) (l3 : K.lookup f3 = some ⟨oc3, od3, .func (PySem.W.fnOf "_law_is_word" "_law_is_word" (defArgs s__law_is_word) (defBody s__law_is_word) (defScope s__law_is_word) .none kV3 dc3 pm3 an3 cd3 ct3), sl3⟩) (c3 : PySem.W.codeIn K cd3 "_law_is_word" = true) (k3 : PySem.W.keepIn K (.ref f3) = true)
    (a4 : PySem.W.nsIn K mainGlobals "_law_there" = some (some (.ref f4))) (l4 : K.lookup f4 = some ⟨oc4, od4, .func (PySem.W.fnOf "_law_there" "_law_there" (defArgs s__law_there) (defBody s__law_there) (defScope s__law_there) .none kV4 dc4 pm4 an4 cd4 ct4), sl4⟩) (c4 : PySem.W.codeIn K cd4 "_law_there" = true) (k4 : PySem.W.keepIn K (.ref f4) = true)
    (a5 : PySem.W.nsIn K mainGlobals "_law_placed" = some (some (.ref f5))) (l5 : K.lookup f5 = some ⟨oc5, od5, .func (PySem.W.fnOf "_law_placed" "_law_placed" (defArgs s__law_placed) (defBody s__law_placed) (defScope s__law_placed) .none kV5 dc5 pm5 an5 cd5 ct5), sl5⟩) (c5 : PySem.W.codeIn K cd5 "_law_placed" = true) (k5 : PySem.W.keepIn K (.ref f5) = true)
    (a6 : PySem.W.nsIn K mainGlobals "_law_due" = some (some (.ref f6))) (l6 : K.lookup f6 = some ⟨oc6, od6, .func (PySem.W.fnOf "_law_due" "_law_due" (defArgs s__law_due) (defBody s__law_due) (defScope s__law_due) .none kV6 dc6 pm6 an6 cd6 ct6), sl6⟩) (c6 : PySem.W.codeIn K cd6 "_law_due" = true) (k6 : PySem.W.keepIn K (.ref f6) = true)
    (a7 : PySem.W.nsIn K mainGlobals "_law_refused_as" = some (some (.ref f7))) (l7 : K.lookup f7 = some ⟨oc7, od7, .func (PySem.W.fnOf "_law_refused_as" "_law_refused_as" (defArgs s__law_refused_as) (defBody s__law_refused_as) (defScope s__law_refused_as) .none kV7 dc7 pm7 an7 cd7 ct7), sl7⟩) (c7 : PySem.W.codeIn K cd7 "_law_refused_as" = true) (k7 : PySem.W.keepIn K (.ref f7) = true)
    (a8 : PySem.W.nsIn K mainGlobals "refuse_more" = some (some (.ref f8))) (l8 : K.lookup f8 = some ⟨oc8, od8, .func (PySem.W.fnOf "refuse_more" "refuse_more" (defArgs s_refuse_more) (defBody s_refuse_more) (defScope s_refuse_more) .none kV8 dc8 pm8 an8 cd8 ct8), sl8⟩) (c8 : PySem.W.codeIn K cd8 "refuse_more" = true) (k8 : PySem.W.keepIn K (.ref f8) = true)
    (a9 : PySem.W.nsIn K mainGlobals "refuse_too_great" = some (some (.ref f9))) (l9 : K.lookup f9 = some ⟨oc9, od9, .func (PySem.W.fnOf "refuse_too_great" "refuse_too_great" (defArgs s_refuse_too_great) (defBody s_refuse_too_great) (defScope s_refuse_too_great) .none kV9 dc9 pm9 an9 cd9 ct9), sl9⟩) (c9 : PySem.W.codeIn K cd9 "refuse_too_great" = true) (k9 : PySem.W.keepIn K (.ref f9) = true)
    (a10 : PySem.W.nsIn K mainGlobals "words_told" = some (some (.ref f10))) (l10 : K.lookup f10 = some ⟨oc10, od10, .func (PySem.W.fnOf "words_told" "words_told" (defArgs s_words_told) (defBody s_words_told) (defScope s_words_told) .none kV10 dc10 pm10 an10 cd10 ct10), sl10⟩) (c10 : PySem.W.codeIn K cd10 "words_told" = true) (k10 : PySem.W.keepIn K (.ref f10) = true)
    (a11 : PySem.W.nsIn K mainGlobals "is_name" = some (some (.ref f11))) (l11 : K.lookup f11 = some ⟨oc11, od11, .func (PySem.W.fnOf "is_name" "is_name" (defArgs s_is_name) (defBody s_is_name) (defScope s_is_name) .none kV11 dc11 pm11 an11 cd11 ct11), sl11⟩) (c11 : PySem.W.codeIn K cd11 "is_name" = true) (k11 : PySem.W.keepIn K (.ref f11) = true)
    (a12 : PySem.W.nsIn K mainGlobals "refuse_no_names" = some (some (.ref f12))) (l12 : K.lookup f12 = some ⟨oc12, od12, .func (PySem.W.fnOf "refuse_no_names" "refuse_no_names" (defArgs s_refuse_no_names) (defBody s_refuse_no_names) (defScope s_refuse_no_names) .none kV12 dc12 pm12 an12 cd12 ct12), sl12⟩) (c12 : PySem.W.codeIn K cd12 "refuse_no_names" = true) (k12 : PySem.W.keepIn K (.ref f12) = true)
    (a13 : PySem.W.nsIn K mainGlobals "is_whole" = some (some (.ref f13))) (l13 : K.lookup f13 = some ⟨oc13, od13, .func (PySem.W.fnOf "is_whole" "is_whole" (defArgs s_is_whole) (defBody s_is_whole) (defScope s_is_whole) .none kV13 dc13 pm13 an13 cd13 ct13), sl13⟩) (c13 : PySem.W.codeIn K cd13 "is_whole" = true) (k13 : PySem.W.keepIn K (.ref f13) = true)
    (a14 : PySem.W.nsIn K mainGlobals "is_place" = some (some (.ref f14))) (l14 : K.lookup f14 = some ⟨oc14, od14, .func (PySem.W.fnOf "is_place" "is_place" (defArgs s_is_place) (defBody s_is_place) (defScope s_is_place) .none kV14 dc14 pm14 an14 cd14 ct14), sl14⟩) (c14 : PySem.W.codeIn K cd14 "is_place" = true) (k14 : PySem.W.keepIn K (.ref f14) = true)
    (a15 : PySem.W.nsIn K mainGlobals "refuse_no_place" = some (some (.ref f15))) (l15 : K.lookup f15 = some ⟨oc15, od15, .func (PySem.W.fnOf "refuse_no_place" "refuse_no_place" (defArgs s_refuse_no_place) (defBody s_refuse_no_place) (defScope s_refuse_no_place) .none kV15 dc15 pm15 an15 cd15 ct15), sl15⟩) (c15 : PySem.W.codeIn K cd15 "refuse_no_place" = true) (k15 : PySem.W.keepIn K (.ref f15) = true)
    (a16 : PySem.W.nsIn K mainGlobals "refuse_no_places" = some (some (.ref f16))) (l16 : K.lookup f16 = some ⟨oc16, od16, .func (PySem.W.fnOf "refuse_no_places" "refuse_no_places" (defArgs s_refuse_no_places) (defBody s_refuse_no_places) (defScope s_refuse_no_places) .none kV16 dc16 pm16 an16 cd16 ct16), sl16⟩) (c16 : PySem.W.codeIn K cd16 "refuse_no_places" = true) (k16 : PySem.W.keepIn K (.ref f16) = true)
    (a17 : PySem.W.nsIn K mainGlobals "net_of" = some (some (.ref f17))) (l17 : K.lookup f17 = some ⟨oc17, od17, .func (PySem.W.fnOf "net_of" "net_of" (defArgs s_net_of) (defBody s_net_of) (defScope s_net_of) .none kV17 dc17 pm17 an17 cd17 ct17), sl17⟩) (c17 : PySem.W.codeIn K cd17 "net_of" = true) (k17 : PySem.W.keepIn K (.ref f17) = true)
    (a18 : PySem.W.nsIn K mainGlobals "_law_kinds_of" = some (some (.ref f18))) (l18 : K.lookup f18 = some ⟨oc18, od18, .func (PySem.W.fnOf "_law_kinds_of" "_law_kinds_of" (defArgs s__law_kinds_of) (defBody s__law_kinds_of) (defScope s__law_kinds_of) .none kV18 dc18 pm18 an18 cd18 ct18), sl18⟩) (c18 : PySem.W.codeIn K cd18 "_law_kinds_of" = true) (k18 : PySem.W.keepIn K (.ref f18) = true)
    (a19 : PySem.W.nsIn K mainGlobals "_law_is_net" = some (some (.ref f19))) (l19 : K.lookup f19 = some ⟨oc19, od19, .func (PySem.W.fnOf "_law_is_net" "_law_is_net" (defArgs s__law_is_net) (defBody s__law_is_net) (defScope s__law_is_net) .none kV19 dc19 pm19 an19 cd19 ct19), sl19⟩) (c19 : PySem.W.codeIn K cd19 "_law_is_net" = true) (k19 : PySem.W.keepIn K (.ref f19) = true)
    (a20 : PySem.W.nsIn K mainGlobals "_law_judged" = some (some (.ref f20))) (l20 : K.lookup f20 = some ⟨oc20, od20, .func (PySem.W.fnOf "_law_judged" "_law_judged" (defArgs s__law_judged) (defBody s__law_judged) (defScope s__law_judged) .none kV20 dc20 pm20 an20 cd20 ct20), sl20⟩) (c20 : PySem.W.codeIn K cd20 "_law_judged" = true) (k20 : PySem.W.keepIn K (.ref f20) = true)
    (a21 : PySem.W.nsIn K mainGlobals "_law_words" = some (some (.ref f21))) (l21 : K.lookup f21 = some ⟨oc21, od21, .func (PySem.W.fnOf "_law_words" "_law_words" (defArgs s__law_words) (defBody s__law_words) (defScope s__law_words) .none kV21 dc21 pm21 an21 cd21 ct21), sl21⟩) (c21 : PySem.W.codeIn K cd21 "_law_words" = true) (k21 : PySem.W.keepIn K (.ref f21) = true)
    (a22 : PySem.W.nsIn K mainGlobals "_law_cell_at" = some (some (.ref f22))) (l22 : K.lookup f22 = some ⟨oc22, od22, .func (PySem.W.fnOf "_law_cell_at" "_law_cell_at" (defArgs s__law_cell_at) (defBody s__law_cell_at) (defScope s__law_cell_at) .none kV22 dc22 pm22 an22 cd22 ct22), sl22⟩) (c22 : PySem.W.codeIn K cd22 "_law_cell_at" = true) (k22 : PySem.W.keepIn K (.ref f22) = true)
    (a23 : PySem.W.nsIn K mainGlobals "_law_kind" = some (some (.ref f23))) (l23 : K.lookup f23 = some ⟨oc23, od23, .func (PySem.W.fnOf "_law_kind" "_law_kind" (defArgs s__law_kind) (defBody s__law_kind) (defScope s__law_kind) .none kV23 dc23 pm23 an23 cd23 ct23), sl23⟩) (c23 : PySem.W.codeIn K cd23 "_law_kind" = true) (k23 : PySem.W.keepIn K (.ref f23) = true)
    (a24 : PySem.W.nsIn K mainGlobals "_law_number" = some (some (.ref f24))) (l24 : K.lookup f24 = some ⟨oc24, od24, .func (PySem.W.fnOf "_law_number" "_law_number" (defArgs s__law_number) (defBody s__law_number) (defScope s__law_number) .none kV24 dc24 pm24 an24 cd24 ct24), sl24⟩) (c24 : PySem.W.codeIn K cd24 "_law_number" = true) (k24 : PySem.W.keepIn K (.ref f24) = true)
    (a25 : PySem.W.nsIn K mainGlobals "_law_thing" = some (some (.ref f25))) (l25 : K.lookup f25 = some ⟨oc25, od25, .func (PySem.W.fnOf "_law_thing" "_law_thing" (defArgs s__law_thing) (defBody s__law_thing) (defScope s__law_thing) .none kV25 dc25 pm25 an25 cd25 ct25), sl25⟩) (c25 : PySem.W.codeIn K cd25 "_law_thing" = true) (k25 : PySem.W.keepIn K (.ref f25) = true)
    (a26 : PySem.W.nsIn K mainGlobals "_law_word" = some (some (.ref f26))) (l26 : K.lookup f26 = some ⟨oc26, od26, .func (PySem.W.fnOf "_law_word" "_law_word" (defArgs s__law_word) (defBody s__law_word) (defScope s__law_word) .none kV26 dc26 pm26 an26 cd26 ct26), sl26⟩) (c26 : PySem.W.codeIn K cd26 "_law_word" = true) (k26 : PySem.W.keepIn K (.ref f26) = true)
    (a27 : PySem.W.nsIn K mainGlobals "_law_question" = some (some (.ref f27))) (l27 : K.lookup f27 = some ⟨oc27, od27, .func (PySem.W.fnOf "_law_question" "_law_question" (defArgs s__law_question) (defBody s__law_question) (defScope s__law_question) .none kV27 dc27 pm27 an27 cd27 ct27), sl27⟩) (c27 : PySem.W.codeIn K cd27 "_law_question" = true) (k27 : PySem.W.keepIn K (.ref f27) = true)
    (a28 : PySem.W.nsIn K mainGlobals "_law_step" = some (some (.ref f28))) (l28 : K.lookup f28 = some ⟨oc28, od28, .func (PySem.W.fnOf "_law_step" "_law_step" (defArgs s__law_step) (defBody s__law_step) (defScope s__law_step) .none kV28 dc28 pm28 an28 cd28 ct28), sl28⟩) (c28 : PySem.W.codeIn K cd28 "_law_step" = true) (k28 : PySem.W.keepIn K (.ref f28) = true)
    (a29 : PySem.W.nsIn K mainGlobals "_law_telling" = some (some (.ref f29))) (l29 : K.lookup f29 = some ⟨oc29, od29, .func (PySem.W.fnOf "_law_telling" "_law_telling" (defArgs s__law_telling) (defBody s__law_telling) (defScope s__law_telling) .none kV29 dc29 pm29 an29 cd29 ct29), sl29⟩) (c29 : PySem.W.codeIn K cd29 "_law_telling" = true) (k29 : PySem.W.keepIn K (.ref f29) = true)
    (a30 : PySem.W.nsIn K mainGlobals "_law_lay" = some (some (.ref f30))) (l30 : K.lookup f30 = some ⟨oc30, od30, .func (PySem.W.fnOf "_law_lay" "_law_lay" (defArgs s__law_lay) (defBody s__law_lay) (defScope s__law_lay) .none kV30 dc30 pm30 an30 cd30 ct30), sl30⟩) (c30 : PySem.W.codeIn K cd30 "_law_lay" = true) (k30 : PySem.W.keepIn K (.ref f30) = true)
    (a31 : PySem.W.nsIn K mainGlobals "_law_laid" = some (some (.ref f31))) (l31 : K.lookup f31 = some ⟨oc31, od31, .func (PySem.W.fnOf "_law_laid" "_law_laid" (defArgs s__law_laid) (defBody s__law_laid) (defScope s__law_laid) .none kV31 dc31 pm31 an31 cd31 ct31), sl31⟩) (c31 : PySem.W.codeIn K cd31 "_law_laid" = true) (k31 : PySem.W.keepIn K (.ref f31) = true)
    (a32 : PySem.W.nsIn K mainGlobals "law" = some (some (.ref f32))) (l32 : K.lookup f32 = some ⟨oc32, od32, .func (PySem.W.fnOf "law" "law" (defArgs s_law) (defBody s_law) (defScope s_law) .none kV32 dc32 pm32 an32 cd32 ct32), sl32⟩) (c32 : PySem.W.codeIn K cd32 "law" = true) (k32 : PySem.W.keepIn K (.ref f32) = true)
    (z_ValueError : PySem.W.nsIn K mainGlobals "ValueError" = some none)
    (z_all : PySem.W.nsIn K mainGlobals "all" = some none)
    (z_any : PySem.W.nsIn K mainGlobals "any" = some none)
    (z_bool : PySem.W.nsIn K mainGlobals "bool" = some none)
    (z_int : PySem.W.nsIn K mainGlobals "int" = some none)
    (z_isinstance : PySem.W.nsIn K mainGlobals "isinstance" = some none)
    (z_len : PySem.W.nsIn K mainGlobals "len" = some none)
    (z_list : PySem.W.nsIn K mainGlobals "list" = some none)
    (z_max : PySem.W.nsIn K mainGlobals "max" = some none)
    (z_range : PySem.W.nsIn K mainGlobals "range" = some none)
    (z_str : PySem.W.nsIn K mainGlobals "str" = some none)
    (z_tuple : PySem.W.nsIn K mainGlobals "tuple" = some none)
    (y_LONGEST_NAME : PySem.W.nsIn K mainGlobals "LONGEST_NAME" = some (some (.int 8 tc_LONGEST_NAME)))
    (y_LONGEST_PATH : PySem.W.nsIn K mainGlobals "LONGEST_PATH" = some (some (.int 6 tc_LONGEST_PATH)))
    (y_MOST_QUESTIONS : PySem.W.nsIn K mainGlobals "MOST_QUESTIONS" = some (some (.int 60 tc_MOST_QUESTIONS)))
    (y_MOST_SCOPES : PySem.W.nsIn K mainGlobals "MOST_SCOPES" = some (some (.int 40 tc_MOST_SCOPES)))
    (y_MOST_STEPS : PySem.W.nsIn K mainGlobals "MOST_STEPS" = some (some (.int 8 tc_MOST_STEPS)))
    (y_MOST_TELLINGS : PySem.W.nsIn K mainGlobals "MOST_TELLINGS" = some (some (.int 12 tc_MOST_TELLINGS)))
    (y_MOST_THINGS : PySem.W.nsIn K mainGlobals "MOST_THINGS" = some (some (.int 80 tc_MOST_THINGS)))
    {C_Caught : Addr} (g_Caught : PySem.W.nsIn K mainGlobals "Caught" = some (some (.ref C_Caught)))
    {C_NoName : Addr} (g_NoName : PySem.W.nsIn K mainGlobals "NoName" = some (some (.ref C_NoName)))
    {C_NoPlace : Addr} (g_NoPlace : PySem.W.nsIn K mainGlobals "NoPlace" = some (some (.ref C_NoPlace)))
    {C_NoRow : Addr} (g_NoRow : PySem.W.nsIn K mainGlobals "NoRow" = some (some (.ref C_NoRow)))
    {C_NoText : Addr} (g_NoText : PySem.W.nsIn K mainGlobals "NoText" = some (some (.ref C_NoText)))
    {C_PathError : Addr} (g_PathError : PySem.W.nsIn K mainGlobals "PathError" = some (some (.ref C_PathError)))
    {C_Ring : Addr} (g_Ring : PySem.W.nsIn K mainGlobals "Ring" = some (some (.ref C_Ring)))
    {C_Tangled : Addr} (g_Tangled : PySem.W.nsIn K mainGlobals "Tangled" = some (some (.ref C_Tangled)))
    {C_TooGreat : Addr} (g_TooGreat : PySem.W.nsIn K mainGlobals "TooGreat" = some (some (.ref C_TooGreat)))
    {C_Twice : Addr} (g_Twice : PySem.W.nsIn K mainGlobals "Twice" = some (some (.ref C_Twice)))
    (x_NoName : PySem.W.excIn K C_NoName [.type "ValueError", .type "Exception", .type "BaseException", .type "object"] "ValueError.__new__" = true)
    (x_NoPlace : PySem.W.excIn K C_NoPlace [.type "ValueError", .type "Exception", .type "BaseException", .type "object"] "ValueError.__new__" = true)
    (x_PathError : PySem.W.excIn K C_PathError [.type "ValueError", .type "Exception", .type "BaseException", .type "object"] "ValueError.__new__" = true)
    (x_TooGreat : PySem.W.excIn K C_TooGreat [.type "ValueError", .type "Exception", .type "BaseException", .type "object"] "ValueError.__new__" = true)
    (hn0 : PySem.W.specialIn K (.builtin "object.__class__") "__get__" = some (some (.builtin "getset_descriptor.__get__"))) (ht0 : PySem.W.takesIn K (.builtin "object.__class__") = some true)
    (p_NoName : PySem.W.findIn K (.ref C_NoName) "__getattribute__" = some (some (.builtin "BaseException.__getattribute__"))) (pa_NoName : PySem.W.findIn K (.ref C_NoName) "__getattr__" = some none) (pb_NoName : PySem.W.mroIn K C_NoName (.type "BaseException") = some true) (q_NoName : PySem.W.findIn K (.ref C_NoName) "__class__" = some (some (.builtin "object.__class__"))) (m_NoName : PySem.W.mroIn K C_NoName (.type "object") = some true) (w_NoName : PySem.W.subIn K (.ref C_NoName) (.type "ValueError") = some true)
    (u_NoName_PathError : PySem.W.mroIn K C_NoName (.ref C_PathError) = some true)
    (r_NoName_Caught : PySem.W.subIn K (.ref C_NoName) (.ref C_Caught) = some false)
    (r_NoName_NoName : PySem.W.subIn K (.ref C_NoName) (.ref C_NoName) = some true)
    (r_NoName_NoPlace : PySem.W.subIn K (.ref C_NoName) (.ref C_NoPlace) = some false)
    (r_NoName_NoRow : PySem.W.subIn K (.ref C_NoName) (.ref C_NoRow) = some false)
    (r_NoName_NoText : PySem.W.subIn K (.ref C_NoName) (.ref C_NoText) = some false)
    (r_NoName_Ring : PySem.W.subIn K (.ref C_NoName) (.ref C_Ring) = some false)
    (r_NoName_Tangled : PySem.W.subIn K (.ref C_NoName) (.ref C_Tangled) = some false)
    (r_NoName_TooGreat : PySem.W.subIn K (.ref C_NoName) (.ref C_TooGreat) = some false)
    (r_NoName_Twice : PySem.W.subIn K (.ref C_NoName) (.ref C_Twice) = some false)
    (n_NoName_Caught : (Value.ref C_NoName == Value.ref C_Caught) = false)
    (n_NoName_NoPlace : (Value.ref C_NoName == Value.ref C_NoPlace) = false)
    (n_NoName_NoRow : (Value.ref C_NoName == Value.ref C_NoRow) = false)
    (n_NoName_NoText : (Value.ref C_NoName == Value.ref C_NoText) = false)
    (n_NoName_Ring : (Value.ref C_NoName == Value.ref C_Ring) = false)
    (n_NoName_Tangled : (Value.ref C_NoName == Value.ref C_Tangled) = false)
    (n_NoName_TooGreat : (Value.ref C_NoName == Value.ref C_TooGreat) = false)
    (n_NoName_Twice : (Value.ref C_NoName == Value.ref C_Twice) = false)
    (p_NoPlace : PySem.W.findIn K (.ref C_NoPlace) "__getattribute__" = some (some (.builtin "BaseException.__getattribute__"))) (pa_NoPlace : PySem.W.findIn K (.ref C_NoPlace) "__getattr__" = some none) (pb_NoPlace : PySem.W.mroIn K C_NoPlace (.type "BaseException") = some true) (q_NoPlace : PySem.W.findIn K (.ref C_NoPlace) "__class__" = some (some (.builtin "object.__class__"))) (m_NoPlace : PySem.W.mroIn K C_NoPlace (.type "object") = some true) (w_NoPlace : PySem.W.subIn K (.ref C_NoPlace) (.type "ValueError") = some true)
    (u_NoPlace_PathError : PySem.W.mroIn K C_NoPlace (.ref C_PathError) = some true)
    (r_NoPlace_Caught : PySem.W.subIn K (.ref C_NoPlace) (.ref C_Caught) = some false)
    (r_NoPlace_NoName : PySem.W.subIn K (.ref C_NoPlace) (.ref C_NoName) = some false)
    (r_NoPlace_NoPlace : PySem.W.subIn K (.ref C_NoPlace) (.ref C_NoPlace) = some true)
    (r_NoPlace_NoRow : PySem.W.subIn K (.ref C_NoPlace) (.ref C_NoRow) = some false)
    (r_NoPlace_NoText : PySem.W.subIn K (.ref C_NoPlace) (.ref C_NoText) = some false)
    (r_NoPlace_Ring : PySem.W.subIn K (.ref C_NoPlace) (.ref C_Ring) = some false)
    (r_NoPlace_Tangled : PySem.W.subIn K (.ref C_NoPlace) (.ref C_Tangled) = some false)
    (r_NoPlace_TooGreat : PySem.W.subIn K (.ref C_NoPlace) (.ref C_TooGreat) = some false)
    (r_NoPlace_Twice : PySem.W.subIn K (.ref C_NoPlace) (.ref C_Twice) = some false)
    (n_NoPlace_Caught : (Value.ref C_NoPlace == Value.ref C_Caught) = false)
    (n_NoPlace_NoName : (Value.ref C_NoPlace == Value.ref C_NoName) = false)
    (n_NoPlace_NoRow : (Value.ref C_NoPlace == Value.ref C_NoRow) = false)
    (n_NoPlace_NoText : (Value.ref C_NoPlace == Value.ref C_NoText) = false)
    (n_NoPlace_Ring : (Value.ref C_NoPlace == Value.ref C_Ring) = false)
    (n_NoPlace_Tangled : (Value.ref C_NoPlace == Value.ref C_Tangled) = false)
    (n_NoPlace_TooGreat : (Value.ref C_NoPlace == Value.ref C_TooGreat) = false)
    (n_NoPlace_Twice : (Value.ref C_NoPlace == Value.ref C_Twice) = false)
    (p_TooGreat : PySem.W.findIn K (.ref C_TooGreat) "__getattribute__" = some (some (.builtin "BaseException.__getattribute__"))) (pa_TooGreat : PySem.W.findIn K (.ref C_TooGreat) "__getattr__" = some none) (pb_TooGreat : PySem.W.mroIn K C_TooGreat (.type "BaseException") = some true) (q_TooGreat : PySem.W.findIn K (.ref C_TooGreat) "__class__" = some (some (.builtin "object.__class__"))) (m_TooGreat : PySem.W.mroIn K C_TooGreat (.type "object") = some true) (w_TooGreat : PySem.W.subIn K (.ref C_TooGreat) (.type "ValueError") = some true)
    (u_TooGreat_PathError : PySem.W.mroIn K C_TooGreat (.ref C_PathError) = some true)
    (r_TooGreat_Caught : PySem.W.subIn K (.ref C_TooGreat) (.ref C_Caught) = some false)
    (r_TooGreat_NoName : PySem.W.subIn K (.ref C_TooGreat) (.ref C_NoName) = some false)
    (r_TooGreat_NoPlace : PySem.W.subIn K (.ref C_TooGreat) (.ref C_NoPlace) = some false)
    (r_TooGreat_NoRow : PySem.W.subIn K (.ref C_TooGreat) (.ref C_NoRow) = some false)
    (r_TooGreat_NoText : PySem.W.subIn K (.ref C_TooGreat) (.ref C_NoText) = some false)
    (r_TooGreat_Ring : PySem.W.subIn K (.ref C_TooGreat) (.ref C_Ring) = some false)
    (r_TooGreat_Tangled : PySem.W.subIn K (.ref C_TooGreat) (.ref C_Tangled) = some false)
    (r_TooGreat_TooGreat : PySem.W.subIn K (.ref C_TooGreat) (.ref C_TooGreat) = some true)
    (r_TooGreat_Twice : PySem.W.subIn K (.ref C_TooGreat) (.ref C_Twice) = some false)
    (n_TooGreat_Caught : (Value.ref C_TooGreat == Value.ref C_Caught) = false)
    (n_TooGreat_NoName : (Value.ref C_TooGreat == Value.ref C_NoName) = false)
    (n_TooGreat_NoPlace : (Value.ref C_TooGreat == Value.ref C_NoPlace) = false)
    (n_TooGreat_NoRow : (Value.ref C_TooGreat == Value.ref C_NoRow) = false)
    (n_TooGreat_NoText : (Value.ref C_TooGreat == Value.ref C_NoText) = false)
    (n_TooGreat_Ring : (Value.ref C_TooGreat == Value.ref C_Ring) = false)
    (n_TooGreat_Tangled : (Value.ref C_TooGreat == Value.ref C_Tangled) = false)
    (n_TooGreat_Twice : (Value.ref C_TooGreat == Value.ref C_Twice) = false)
    (o_Caught : PySem.W.mroIn K C_Caught (.type "object") = some true) (t_Caught : PySem.W.typeIn K (.ref C_Caught) = some (.type "type"))
    (o_NoName : PySem.W.mroIn K C_NoName (.type "object") = some true) (t_NoName : PySem.W.typeIn K (.ref C_NoName) = some (.type "type"))
    (o_NoPlace : PySem.W.mroIn K C_NoPlace (.type "object") = some true) (t_NoPlace : PySem.W.typeIn K (.ref C_NoPlace) = some (.type "type"))
    (o_NoRow : PySem.W.mroIn K C_NoRow (.type "object") = some true) (t_NoRow : PySem.W.typeIn K (.ref C_NoRow) = some (.type "type"))
    (o_NoText : PySem.W.mroIn K C_NoText (.type "object") = some true) (t_NoText : PySem.W.typeIn K (.ref C_NoText) = some (.type "type"))
    (o_Ring : PySem.W.mroIn K C_Ring (.type "object") = some true) (t_Ring : PySem.W.typeIn K (.ref C_Ring) = some (.type "type"))
    (o_Tangled : PySem.W.mroIn K C_Tangled (.type "object") = some true) (t_Tangled : PySem.W.typeIn K (.ref C_Tangled) = some (.type "type"))
    (o_TooGreat : PySem.W.mroIn K C_TooGreat (.type "object") = some true) (t_TooGreat : PySem.W.typeIn K (.ref C_TooGreat) = some (.type "type"))
    (o_Twice : PySem.W.mroIn K C_Twice (.type "object") = some true) (t_Twice : PySem.W.typeIn K (.ref C_Twice) = some (.type "type"))
    : ∃ fd : FuncData, (∀ (s : Shared) (v : Value), BindsTo s fd ⟨[v], []⟩ [("_law_script", v)]) ∧ ∀ base : Heap, K.In base → base.Ns mainGlobals mg → FnOk l.prog w K mg base CX0 8 fa fd ["_law_script"] (sp_law K) := by
  have e := hfa.symm.trans (PySem.W.mg_of X G a32)
  cases e
  have B : Blt mg := ⟨PySem.W.mg_none_of X G z_ValueError, PySem.W.mg_none_of X G z_all, PySem.W.mg_none_of X G z_any, PySem.W.mg_none_of X G z_bool, PySem.W.mg_none_of X G z_int, PySem.W.mg_none_of X G z_isinstance, PySem.W.mg_none_of X G z_len, PySem.W.mg_none_of X G z_list, PySem.W.mg_none_of X G z_max, PySem.W.mg_none_of X G z_range, PySem.W.mg_none_of X G z_str, PySem.W.mg_none_of X G z_tuple, ⟨_, PySem.W.mg_of X G y_LONGEST_NAME⟩, ⟨_, PySem.W.mg_of X G y_LONGEST_PATH⟩, ⟨_, PySem.W.mg_of X G y_MOST_QUESTIONS⟩, ⟨_, PySem.W.mg_of X G y_MOST_SCOPES⟩, ⟨_, PySem.W.mg_of X G y_MOST_STEPS⟩, ⟨_, PySem.W.mg_of X G y_MOST_TELLINGS⟩, ⟨_, PySem.W.mg_of X G y_MOST_THINGS⟩⟩
  have e_Caught : clsA K "Caught" = C_Caught := clsA_of g_Caught
  have e_NoName : clsA K "NoName" = C_NoName := clsA_of g_NoName
  have e_NoPlace : clsA K "NoPlace" = C_NoPlace := clsA_of g_NoPlace
  have e_NoRow : clsA K "NoRow" = C_NoRow := clsA_of g_NoRow
  have e_NoText : clsA K "NoText" = C_NoText := clsA_of g_NoText
  have e_PathError : clsA K "PathError" = C_PathError := clsA_of g_PathError
  have e_Ring : clsA K "Ring" = C_Ring := clsA_of g_Ring
  have e_Tangled : clsA K "Tangled" = C_Tangled := clsA_of g_Tangled
  have e_TooGreat : clsA K "TooGreat" = C_TooGreat := clsA_of g_TooGreat
  have e_Twice : clsA K "Twice" = C_Twice := clsA_of g_Twice
  have ER : Ers K mg := ⟨by rw [e_Caught]; exact PySem.W.mg_of X G g_Caught, by rw [e_NoName]; exact PySem.W.mg_of X G g_NoName, by rw [e_NoPlace]; exact PySem.W.mg_of X G g_NoPlace, by rw [e_NoRow]; exact PySem.W.mg_of X G g_NoRow, by rw [e_NoText]; exact PySem.W.mg_of X G g_NoText, by rw [e_PathError]; exact PySem.W.mg_of X G g_PathError, by rw [e_Ring]; exact PySem.W.mg_of X G g_Ring, by rw [e_Tangled]; exact PySem.W.mg_of X G g_Tangled, by rw [e_TooGreat]; exact PySem.W.mg_of X G g_TooGreat, by rw [e_Twice]; exact PySem.W.mg_of X G g_Twice, by rw [e_NoName]; exact ⟨PySem.W.mg_of X G g_NoName, x_NoName⟩, by rw [e_NoPlace]; exact ⟨PySem.W.mg_of X G g_NoPlace, x_NoPlace⟩, by rw [e_PathError]; exact ⟨PySem.W.mg_of X G g_PathError, x_PathError⟩, by rw [e_TooGreat]; exact ⟨PySem.W.mg_of X G g_TooGreat, x_TooGreat⟩, by rw [e_NoName]; exact excCls_of p_NoName pa_NoName pb_NoName q_NoName hn0 ht0 m_NoName, by rw [e_NoName]; exact ask_VE w_NoName, by rw [e_NoName, e_PathError]; exact sub_of_mro u_NoName_PathError, by rw [e_NoName, e_Caught]; exact ask_own (askB_of o_Caught t_Caught r_NoName_Caught), by rw [e_NoName]; exact ask_own (askB_of o_NoName t_NoName r_NoName_NoName), by rw [e_NoName, e_NoPlace]; exact ask_own (askB_of o_NoPlace t_NoPlace r_NoName_NoPlace), by rw [e_NoName, e_NoRow]; exact ask_own (askB_of o_NoRow t_NoRow r_NoName_NoRow), by rw [e_NoName, e_NoText]; exact ask_own (askB_of o_NoText t_NoText r_NoName_NoText), by rw [e_NoName, e_Ring]; exact ask_own (askB_of o_Ring t_Ring r_NoName_Ring), by rw [e_NoName, e_Tangled]; exact ask_own (askB_of o_Tangled t_Tangled r_NoName_Tangled), by rw [e_NoName, e_TooGreat]; exact ask_own (askB_of o_TooGreat t_TooGreat r_NoName_TooGreat), by rw [e_NoName, e_Twice]; exact ask_own (askB_of o_Twice t_Twice r_NoName_Twice), by rw [e_NoName, e_Caught]; exact n_NoName_Caught, by rw [e_NoName, e_NoPlace]; exact n_NoName_NoPlace, by rw [e_NoName, e_NoRow]; exact n_NoName_NoRow, by rw [e_NoName, e_NoText]; exact n_NoName_NoText, by rw [e_NoName, e_Ring]; exact n_NoName_Ring, by rw [e_NoName, e_Tangled]; exact n_NoName_Tangled, by rw [e_NoName, e_TooGreat]; exact n_NoName_TooGreat, by rw [e_NoName, e_Twice]; exact n_NoName_Twice, by rw [e_NoPlace]; exact excCls_of p_NoPlace pa_NoPlace pb_NoPlace q_NoPlace hn0 ht0 m_NoPlace, by rw [e_NoPlace]; exact ask_VE w_NoPlace, by rw [e_NoPlace, e_PathError]; exact sub_of_mro u_NoPlace_PathError, by rw [e_NoPlace, e_Caught]; exact ask_own (askB_of o_Caught t_Caught r_NoPlace_Caught), by rw [e_NoPlace, e_NoName]; exact ask_own (askB_of o_NoName t_NoName r_NoPlace_NoName), by rw [e_NoPlace]; exact ask_own (askB_of o_NoPlace t_NoPlace r_NoPlace_NoPlace), by rw [e_NoPlace, e_NoRow]; exact ask_own (askB_of o_NoRow t_NoRow r_NoPlace_NoRow), by rw [e_NoPlace, e_NoText]; exact ask_own (askB_of o_NoText t_NoText r_NoPlace_NoText), by rw [e_NoPlace, e_Ring]; exact ask_own (askB_of o_Ring t_Ring r_NoPlace_Ring), by rw [e_NoPlace, e_Tangled]; exact ask_own (askB_of o_Tangled t_Tangled r_NoPlace_Tangled), by rw [e_NoPlace, e_TooGreat]; exact ask_own (askB_of o_TooGreat t_TooGreat r_NoPlace_TooGreat), by rw [e_NoPlace, e_Twice]; exact ask_own (askB_of o_Twice t_Twice r_NoPlace_Twice), by rw [e_NoPlace, e_Caught]; exact n_NoPlace_Caught, by rw [e_NoPlace, e_NoName]; exact n_NoPlace_NoName, by rw [e_NoPlace, e_NoRow]; exact n_NoPlace_NoRow, by rw [e_NoPlace, e_NoText]; exact n_NoPlace_NoText, by rw [e_NoPlace, e_Ring]; exact n_NoPlace_Ring, by rw [e_NoPlace, e_Tangled]; exact n_NoPlace_Tangled, by rw [e_NoPlace, e_TooGreat]; exact n_NoPlace_TooGreat, by rw [e_NoPlace, e_Twice]; exact n_NoPlace_Twice, by rw [e_TooGreat]; exact excCls_of p_TooGreat pa_TooGreat pb_TooGreat q_TooGreat hn0 ht0 m_TooGreat, by rw [e_TooGreat]; exact ask_VE w_TooGreat, by rw [e_TooGreat, e_PathError]; exact sub_of_mro u_TooGreat_PathError, by rw [e_TooGreat, e_Caught]; exact ask_own (askB_of o_Caught t_Caught r_TooGreat_Caught), by rw [e_TooGreat, e_NoName]; exact ask_own (askB_of o_NoName t_NoName r_TooGreat_NoName), by rw [e_TooGreat, e_NoPlace]; exact ask_own (askB_of o_NoPlace t_NoPlace r_TooGreat_NoPlace), by rw [e_TooGreat, e_NoRow]; exact ask_own (askB_of o_NoRow t_NoRow r_TooGreat_NoRow), by rw [e_TooGreat, e_NoText]; exact ask_own (askB_of o_NoText t_NoText r_TooGreat_NoText), by rw [e_TooGreat, e_Ring]; exact ask_own (askB_of o_Ring t_Ring r_TooGreat_Ring), by rw [e_TooGreat, e_Tangled]; exact ask_own (askB_of o_Tangled t_Tangled r_TooGreat_Tangled), by rw [e_TooGreat]; exact ask_own (askB_of o_TooGreat t_TooGreat r_TooGreat_TooGreat), by rw [e_TooGreat, e_Twice]; exact ask_own (askB_of o_Twice t_Twice r_TooGreat_Twice), by rw [e_TooGreat, e_Caught]; exact n_TooGreat_Caught, by rw [e_TooGreat, e_NoName]; exact n_TooGreat_NoName, by rw [e_TooGreat, e_NoPlace]; exact n_TooGreat_NoPlace, by rw [e_TooGreat, e_NoRow]; exact n_TooGreat_NoRow, by rw [e_TooGreat, e_NoText]; exact n_TooGreat_NoText, by rw [e_TooGreat, e_Ring]; exact n_TooGreat_Ring, by rw [e_TooGreat, e_Tangled]; exact n_TooGreat_Tangled, by rw [e_TooGreat, e_Twice]; exact n_TooGreat_Twice⟩
  have F0 := fun_mk (st := s__law_copy) l0 c0 k0
  have F1 := fun_mk (st := s__law_great) l1 c1 k1
  have F2 := fun_mk (st := s__law_words_of) l2 c2 k2
  have F3 := fun_mk (st := s__law_is_word) l3 c3 k3
  have F4 := fun_mk (st := s__law_there) l4 c4 k4
  have F5 := fun_mk (st := s__law_placed) l5 c5 k5
  have F6 := fun_mk (st := s__law_due) l6 c6 k6
  have F7 := fun_mk (st := s__law_refused_as) l7 c7 k7
  have F8 := fun_mk (st := s_refuse_more) l8 c8 k8
  have F9 := fun_mk (st := s_refuse_too_great) l9 c9 k9
  have F10 := fun_mk (st := s_words_told) l10 c10 k10
  have F11 := fun_mk (st := s_is_name) l11 c11 k11
  have F12 := fun_mk (st := s_refuse_no_names) l12 c12 k12
  have F13 := fun_mk (st := s_is_whole) l13 c13 k13
  have F14 := fun_mk (st := s_is_place) l14 c14 k14
  have F15 := fun_mk (st := s_refuse_no_place) l15 c15 k15
  have F16 := fun_mk (st := s_refuse_no_places) l16 c16 k16
  have F17 := fun_mk (st := s_net_of) l17 c17 k17
  have F18 := fun_mk (st := s__law_kinds_of) l18 c18 k18
  have F19 := fun_mk (st := s__law_is_net) l19 c19 k19
  have F20 := fun_mk (st := s__law_judged) l20 c20 k20
  have F21 := fun_mk (st := s__law_words) l21 c21 k21
  have F22 := fun_mk (st := s__law_cell_at) l22 c22 k22
  have F23 := fun_mk (st := s__law_kind) l23 c23 k23
  have F24 := fun_mk (st := s__law_number) l24 c24 k24
  have F25 := fun_mk (st := s__law_thing) l25 c25 k25
  have F26 := fun_mk (st := s__law_word) l26 c26 k26
  have F27 := fun_mk (st := s__law_question) l27 c27 k27
  have F28 := fun_mk (st := s__law_step) l28 c28 k28
  have F29 := fun_mk (st := s__law_telling) l29 c29 k29
  have F30 := fun_mk (st := s__law_lay) l30 c30 k30
  have F31 := fun_mk (st := s__law_laid) l31 c31 k31
  have F32 := fun_mk (st := s_law) l32 c32 k32
  refine ⟨PySem.W.fnOf "law" "law" (defArgs s_law) (defBody s_law) (defScope s_law) .none kV32 dc32 pm32 an32 cd32 ct32, fun s v => .of_eq rfl, fun base _ _ => ?_⟩
  have K__law_copy : Callee l.prog w K mg base "_law_copy" 1 ["_law_parts"] (sp__law_copy K) := call__law_copy B ER  F0 (PySem.W.mg_of X G a0)
  have K__law_great : Callee l.prog w K mg base "_law_great" 1 ["_law_parts"] (sp__law_great K) := call__law_great B ER  F1 (PySem.W.mg_of X G a1)
  have K__law_words_of : Callee l.prog w K mg base "_law_words_of" 1 ["_law_parts"] (sp__law_words_of K) := call__law_words_of B ER  F2 (PySem.W.mg_of X G a2)
  have K__law_is_word : Callee l.prog w K mg base "_law_is_word" 1 ["_law_word_here"] (sp__law_is_word K) := call__law_is_word B ER  F3 (PySem.W.mg_of X G a3)
  have K__law_there : Callee l.prog w K mg base "_law_there" 1 ["_law_kind_here", "_law_number_here", "_law_rows"] (sp__law_there K) := call__law_there B ER  F4 (PySem.W.mg_of X G a4)
  have K__law_placed : Callee l.prog w K mg base "_law_placed" 2 ["_law_parts"] (sp__law_placed K) := call__law_placed B ER K__law_there F5 (PySem.W.mg_of X G a5)
  have K__law_due : Callee l.prog w K mg base "_law_due" 3 ["_law_parts"] (sp__law_due K) := call__law_due B ER K__law_great K__law_words_of K__law_is_word K__law_placed F6 (PySem.W.mg_of X G a6)
  have K__law_refused_as : Callee l.prog w K mg base "_law_refused_as" 1 ["_law_kinds", "_law_due_here"] (sp__law_refused_as K) := call__law_refused_as B ER  F7 (PySem.W.mg_of X G a7)
  have K_refuse_more : CalleeE l.prog w K mg base "refuse_more" 1 ["parts", "most", "words"] (sp_refuse_more K) := call_refuse_more B ER  F8 (PySem.W.mg_of X G a8)
  have K_refuse_too_great : CalleeE l.prog w K mg base "refuse_too_great" 2 ["scopes", "things", "questions"] (sp_refuse_too_great K) := call_refuse_too_great B ER K_refuse_more F9 (PySem.W.mg_of X G a9)
  have K_words_told : Callee l.prog w K mg base "words_told" 1 ["scopes", "questions"] (sp_words_told K) := call_words_told B ER  F10 (PySem.W.mg_of X G a10)
  have K_is_name : Callee l.prog w K mg base "is_name" 1 ["thing"] (sp_is_name K) := call_is_name B ER  F11 (PySem.W.mg_of X G a11)
  have K_refuse_no_names : CalleeE l.prog w K mg base "refuse_no_names" 2 ["scopes", "questions"] (sp_refuse_no_names K) := call_refuse_no_names B ER K_words_told K_is_name F12 (PySem.W.mg_of X G a12)
  have K_is_whole : Callee l.prog w K mg base "is_whole" 1 ["thing"] (sp_is_whole K) := call_is_whole B ER  F13 (PySem.W.mg_of X G a13)
  have K_is_place : Callee l.prog w K mg base "is_place" 2 ["number", "many"] (sp_is_place K) := call_is_place B ER K_is_whole F14 (PySem.W.mg_of X G a14)
  have K_refuse_no_place : CalleeE l.prog w K mg base "refuse_no_place" 3 ["kinds", "kind", "number"] (sp_refuse_no_place K) := call_refuse_no_place B ER K_is_place F15 (PySem.W.mg_of X G a15)
  have K_refuse_no_places : CalleeE l.prog w K mg base "refuse_no_places" 4 ["scopes", "things", "questions"] (sp_refuse_no_places K) := call_refuse_no_places B ER K_refuse_no_place K_is_place K_is_whole F16 (PySem.W.mg_of X G a16)
  have K_net_of : CalleeE l.prog w K mg base "net_of" 5 ["scopes", "things", "questions"] (sp_net_of K) := call_net_of B ER K_refuse_too_great K_refuse_no_names K_refuse_no_places F17 (PySem.W.mg_of X G a17)
  have K__law_kinds_of : Callee l.prog w K mg base "_law_kinds_of" 6 ["_law_scopes", "_law_things", "_law_questions"] (sp__law_kinds_of K) := call__law_kinds_of B ER K_net_of F18 (PySem.W.mg_of X G a18)
  have K__law_is_net : Callee l.prog w K mg base "_law_is_net" 1 ["_law_net", "_law_parts"] (sp__law_is_net K) := call__law_is_net B ER  F19 (PySem.W.mg_of X G a19)
  have K__law_judged : Callee l.prog w K mg base "_law_judged" 7 ["_law_parts"] (sp__law_judged K) := call__law_judged B ER K__law_copy K__law_due K__law_refused_as K__law_kinds_of K__law_is_net K_net_of F20 (PySem.W.mg_of X G a20)
  have K__law_words : Callee l.prog w K mg base "_law_words" 1 ["_law_cell", "_law_many"] (sp__law_words K) := call__law_words B ER  F21 (PySem.W.mg_of X G a21)
  have K__law_cell_at : Callee l.prog w K mg base "_law_cell_at" 1 ["_law_script", "_law_k"] (sp__law_cell_at K) := call__law_cell_at B ER  F22 (PySem.W.mg_of X G a22)
  have K__law_kind : Callee l.prog w K mg base "_law_kind" 1 ["_law_number_here", "_law_one", "_law_other", "_law_bad"] (sp__law_kind K) := call__law_kind B ER  F23 (PySem.W.mg_of X G a23)
  have K__law_number : Callee l.prog w K mg base "_law_number" 1 ["_law_number_here", "_law_many", "_law_bad"] (sp__law_number K) := call__law_number B ER  F24 (PySem.W.mg_of X G a24)
  have K__law_thing : Callee l.prog w K mg base "_law_thing" 2 ["_law_number_here", "_law_parts", "_law_bad"] (sp__law_thing K) := call__law_thing B ER K__law_kind K__law_number F25 (PySem.W.mg_of X G a25)
  have K__law_word : Callee l.prog w K mg base "_law_word" 1 ["_law_number_here", "_law_words_here", "_law_bad"] (sp__law_word K) := call__law_word B ER  F26 (PySem.W.mg_of X G a26)
  have K__law_question : Callee l.prog w K mg base "_law_question" 2 ["_law_number_here", "_law_words_here", "_law_parts", "_law_bad"] (sp__law_question K) := call__law_question B ER K__law_word K__law_number F27 (PySem.W.mg_of X G a27)
  have K__law_step : Callee l.prog w K mg base "_law_step" 2 ["_law_number_here", "_law_words_here", "_law_parts", "_law_bad"] (sp__law_step K) := call__law_step B ER K__law_word K__law_kind K__law_number F28 (PySem.W.mg_of X G a28)
  have K__law_telling : Callee l.prog w K mg base "_law_telling" 2 ["_law_number_here", "_law_words_here", "_law_parts", "_law_bad"] (sp__law_telling K) := call__law_telling B ER K__law_word K__law_kind K__law_number F29 (PySem.W.mg_of X G a29)
  have K__law_lay : Callee l.prog w K mg base "_law_lay" 3 ["_law_parts", "_law_words_here", "_law_cell"] (sp__law_lay K) := call__law_lay B ER K__law_thing K__law_question K__law_step K__law_telling F30 (PySem.W.mg_of X G a30)
  have K__law_laid : Callee l.prog w K mg base "_law_laid" 4 ["_law_script", "_law_last"] (sp__law_laid K) := call__law_laid B ER K__law_words K__law_cell_at K__law_lay F31 (PySem.W.mg_of X G a31)
  exact ok_law B ER K__law_judged K__law_laid F32
theorem walk {l : PySem.W.OpenLaw} {q : Program} {loose : List Str} {XP : (Str → Option Value) → Heap → Prop} {YP : World → Heap → Prop} {d : DefRec} {K : Params → PySem.W.Frag} (hn : l.most = some 63) (hdf : d.params.defaults = [])
    (hY : ∀ (w : World) (h : Heap), YP w h → (K w.params).In h)
    (F : ∀ (w : World) (mg : Str → Option Value) (fa : Addr) (h : Heap), (K w.params).In h → h.Ns mainGlobals mg → mg d.name = some (.ref fa) →
      ∃ fd : FuncData, (∀ (s : Shared) (u : Value), BindsTo s fd ⟨[u], []⟩ [("_law_script", u)]) ∧ ∀ base : Heap, (K w.params).In base → base.Ns mainGlobals mg → FnOk l.prog w (K w.params) mg base CX0 8 fa fd ["_law_script"] (sp_law (K w.params))) :
    PySem.W.WalkO q loose XP YP l.row.toRowW d [] (fun f vs => PySem.call f vs) :=
  L2.walk_of (n := 63) (k := 8) (x := "_law_script") (CX := fun _ => CX0) (sp := fun w => sp_law (K w.params)) hn (by decide) hdf ⟨rfl, by decide, by decide⟩ hY F (fun _ _ a ns hl _ hS => ⟨a, ns, rfl, hS, hl, fun _ => rfl⟩) fun _ _ _ _ _ z => z
end K17
namespace K17
open PySem
def own : Stmt → Bool
  | .Assign [.Name x _] _ _ => x != "__name__"
  | _ => true
def view : Program := { PySem.Challenge.pw_namepaths_k17_whole_nets_judged with main := { PySem.Challenge.pw_namepaths_k17_whole_nets_judged.main with body := PySem.Challenge.pw_namepaths_k17_whole_nets_judged.main.body.filter own } }
end K17
open PySem PySem.W PyProof.Rows
local macro_rules | `(tactic| o_head $H:term) => `(tactic| refine holds_open (q := K17.view) (loose := []) (Xt := fun s => xlAt K17.view [] s && recOk [] s) (XP := XL K17.view []) (Yf := Hook.obs $H) (Ya := Hook.val $H) (YP := Hook.says $H) (N := 40000) ?hl (Hook.of $H) (Hook.keeps $H) (fun s e => xl_of s (Bool.and_eq_true_iff.mp e).1) XL.keeps (by rfl) (by rfl) (by rfl) (fun s e => recFacts_of (Bool.and_eq_true_iff.mp e).2) (by rfl) (by first | assumption | decide +kernel) (by decide +kernel) ⟨rfl, rfl, rfl, rfl, rfl, by decide +kernel⟩ ?hw ?hc)
open PySem PySem.W PyProof.Rows
set_option maxRecDepth 100000 in
set_option maxHeartbeats 0 in
theorem PySem.Challenge.cw_namepaths_k17_whole_nets_judged_holds : PySem.Challenge.rw_namepaths_k17_whole_nets_judged.Holds := by
  w_on; o_law; k_head
  case hl =>
    intro w
    unfold openEnds fencedOpening topFrom
    rw [PySem.W.Fast.te14082659384304107361, PySem.W.Fast.te10274390034422433532, PySem.W.Fast.te14364793385576792824, PySem.W.Fast.te4187177175401517315, PySem.W.Fast.te5923862056798008813, PySem.W.Fast.te14289696077712309145]
    kernel_rfl
  case hw => w_witness2
  k_fill
  refine K17.walk (l := PySem.Challenge.rw_namepaths_k17_whole_nets_judged) rfl rfl (fun w h Y => PySem.W.kIn_of Y) ?F
  case F =>
    intro w mg fa h KX G hmg
    refine' K17.all_mk KX G hmg ?a0 ?l0 ?c0 ?k0 ?a1 ?l1 ?c1 ?k1 ?a2 ?l2 ?c2 ?k2 ?a3 ?l3 ?c3 ?k3 ?a4 ?l4 ?c4 ?k4 ?a5 ?l5 ?c5 ?k5 ?a6 ?l6 ?c6 ?k6 ?a7 ?l7 ?c7 ?k7 ?a8 ?l8 ?c8 ?k8 ?a9 ?l9 ?c9 ?k9 ?a10 ?l10 ?c10 ?k10 ?a11 ?l11 ?c11 ?k11 ?a12 ?l12 ?c12 ?k12 ?a13 ?l13 ?c13 ?k13 ?a14 ?l14 ?c14 ?k14 ?a15 ?l15 ?c15 ?k15 ?a16 ?l16 ?c16 ?k16 ?a17 ?l17 ?c17 ?k17 ?a18 ?l18 ?c18 ?k18 ?a19 ?l19 ?c19 ?k19 ?a20 ?l20 ?c20 ?k20 ?a21 ?l21 ?c21 ?k21 ?a22 ?l22 ?c22 ?k22 ?a23 ?l23 ?c23 ?k23 ?a24 ?l24 ?c24 ?k24 ?a25 ?l25 ?c25 ?k25 ?a26 ?l26 ?c26 ?k26 ?a27 ?l27 ?c27 ?k27 ?a28 ?l28 ?c28 ?k28 ?a29 ?l29 ?c29 ?k29 ?a30 ?l30 ?c30 ?k30 ?a31 ?l31 ?c31 ?k31 ?a32 ?l32 ?c32 ?k32 ?z_ValueError ?z_all ?z_any ?z_bool ?z_int ?z_isinstance ?z_len ?z_list ?z_max ?z_range ?z_str ?z_tuple ?y_LONGEST_NAME ?y_LONGEST_PATH ?y_MOST_QUESTIONS ?y_MOST_SCOPES ?y_MOST_STEPS ?y_MOST_TELLINGS ?y_MOST_THINGS ?g_Caught ?g_NoName ?g_NoPlace ?g_NoRow ?g_NoText ?g_PathError ?g_Ring ?g_Tangled ?g_TooGreat ?g_Twice ?x_NoName ?x_NoPlace ?x_PathError ?x_TooGreat ?hn0 ?ht0 ?p_NoName ?pa_NoName ?pb_NoName ?q_NoName ?m_NoName ?w_NoName ?u_NoName_PathError ?r_NoName_Caught ?r_NoName_NoName ?r_NoName_NoPlace ?r_NoName_NoRow ?r_NoName_NoText ?r_NoName_Ring ?r_NoName_Tangled ?r_NoName_TooGreat ?r_NoName_Twice ?n_NoName_Caught ?n_NoName_NoPlace ?n_NoName_NoRow ?n_NoName_NoText ?n_NoName_Ring ?n_NoName_Tangled ?n_NoName_TooGreat ?n_NoName_Twice ?p_NoPlace ?pa_NoPlace ?pb_NoPlace ?q_NoPlace ?m_NoPlace ?w_NoPlace ?u_NoPlace_PathError ?r_NoPlace_Caught ?r_NoPlace_NoName ?r_NoPlace_NoPlace ?r_NoPlace_NoRow ?r_NoPlace_NoText ?r_NoPlace_Ring ?r_NoPlace_Tangled ?r_NoPlace_TooGreat ?r_NoPlace_Twice ?n_NoPlace_Caught ?n_NoPlace_NoName ?n_NoPlace_NoRow ?n_NoPlace_NoText ?n_NoPlace_Ring ?n_NoPlace_Tangled ?n_NoPlace_TooGreat ?n_NoPlace_Twice ?p_TooGreat ?pa_TooGreat ?pb_TooGreat ?q_TooGreat ?m_TooGreat ?w_TooGreat ?u_TooGreat_PathError ?r_TooGreat_Caught ?r_TooGreat_NoName ?r_TooGreat_NoPlace ?r_TooGreat_NoRow ?r_TooGreat_NoText ?r_TooGreat_Ring ?r_TooGreat_Tangled ?r_TooGreat_TooGreat ?r_TooGreat_Twice ?n_TooGreat_Caught ?n_TooGreat_NoName ?n_TooGreat_NoPlace ?n_TooGreat_NoRow ?n_TooGreat_NoText ?n_TooGreat_Ring ?n_TooGreat_Tangled ?n_TooGreat_Twice ?o_Caught ?t_Caught ?o_NoName ?t_NoName ?o_NoPlace ?t_NoPlace ?o_NoRow ?t_NoRow ?o_NoText ?t_NoText ?o_Ring ?t_Ring ?o_Tangled ?t_Tangled ?o_TooGreat ?t_TooGreat ?o_Twice ?t_Twice
    (case a0 => k_is)
    (case l0 => k_is)
    (case c0 => k_is)
    (case k0 => k_is)
    (case a1 => k_is)
    (case l1 => k_is)
    (case c1 => k_is)
    (case k1 => k_is)
    (case a2 => k_is)
    (case l2 => k_is)
    (case c2 => k_is)
    (case k2 => k_is)
    (case a3 => k_is)
    (case l3 => k_is)
    (case c3 => k_is)
    (case k3 => k_is)
    (case a4 => k_is)
    (case l4 => k_is)
    (case c4 => k_is)
    (case k4 => k_is)
    (case a5 => k_is)
    (case l5 => k_is)
    (case c5 => k_is)
    (case k5 => k_is)
    (case a6 => k_is)
    (case l6 => k_is)
    (case c6 => k_is)
    (case k6 => k_is)
    (case a7 => k_is)
    (case l7 => k_is)
    (case c7 => k_is)
    (case k7 => k_is)
    (case a8 => k_is)
    (case l8 => k_is)
    (case c8 => k_is)
    (case k8 => k_is)
    (case a9 => k_is)
    (case l9 => k_is)
    (case c9 => k_is)
    (case k9 => k_is)
    (case a10 => k_is)
    (case l10 => k_is)
    (case c10 => k_is)
    (case k10 => k_is)
    (case a11 => k_is)
    (case l11 => k_is)
    (case c11 => k_is)
    (case k11 => k_is)
    (case a12 => k_is)
    (case l12 => k_is)
    (case c12 => k_is)
    (case k12 => k_is)
    (case a13 => k_is)
    (case l13 => k_is)
    (case c13 => k_is)
    (case k13 => k_is)
    (case a14 => k_is)
    (case l14 => k_is)
    (case c14 => k_is)
    (case k14 => k_is)
    (case a15 => k_is)
    (case l15 => k_is)
    (case c15 => k_is)
    (case k15 => k_is)
    (case a16 => k_is)
    (case l16 => k_is)
    (case c16 => k_is)
    (case k16 => k_is)
    (case a17 => k_is)
    (case l17 => k_is)
    (case c17 => k_is)
    (case k17 => k_is)
    (case a18 => k_is)
    (case l18 => k_is)
    (case c18 => k_is)
    (case k18 => k_is)
    (case a19 => k_is)
    (case l19 => k_is)
    (case c19 => k_is)
    (case k19 => k_is)
    (case a20 => k_is)
    (case l20 => k_is)
    (case c20 => k_is)
    (case k20 => k_is)
    (case a21 => k_is)
    (case l21 => k_is)
    (case c21 => k_is)
    (case k21 => k_is)
    (case a22 => k_is)
    (case l22 => k_is)
    (case c22 => k_is)
    (case k22 => k_is)
    (case a23 => k_is)
    (case l23 => k_is)
    (case c23 => k_is)
    (case k23 => k_is)
    (case a24 => k_is)
    (case l24 => k_is)
    (case c24 => k_is)
    (case k24 => k_is)
    (case a25 => k_is)
    (case l25 => k_is)
    (case c25 => k_is)
    (case k25 => k_is)
    (case a26 => k_is)
    (case l26 => k_is)
    (case c26 => k_is)
    (case k26 => k_is)
    (case a27 => k_is)
    (case l27 => k_is)
    (case c27 => k_is)
    (case k27 => k_is)
    (case a28 => k_is)
    (case l28 => k_is)
    (case c28 => k_is)
    (case k28 => k_is)
    (case a29 => k_is)
    (case l29 => k_is)
    (case c29 => k_is)
    (case k29 => k_is)
    (case a30 => k_is)
    (case l30 => k_is)
    (case c30 => k_is)
    (case k30 => k_is)
    (case a31 => k_is)
    (case l31 => k_is)
    (case c31 => k_is)
    (case k31 => k_is)
    (case a32 => k_is)
    (case l32 => k_is)
    (case c32 => k_is)
    (case k32 => k_is)
    (case z_ValueError => k_is)
    (case z_all => k_is)
    (case z_any => k_is)
    (case z_bool => k_is)
    (case z_int => k_is)
    (case z_isinstance => k_is)
    (case z_len => k_is)
    (case z_list => k_is)
    (case z_max => k_is)
    (case z_range => k_is)
    (case z_str => k_is)
    (case z_tuple => k_is)
    (case y_LONGEST_NAME => k_is)
    (case y_LONGEST_PATH => k_is)
    (case y_MOST_QUESTIONS => k_is)
    (case y_MOST_SCOPES => k_is)
    (case y_MOST_STEPS => k_is)
    (case y_MOST_TELLINGS => k_is)
    (case y_MOST_THINGS => k_is)
    (case g_Caught => k_is)
    (case g_NoName => k_is)
    (case g_NoPlace => k_is)
    (case g_NoRow => k_is)
    (case g_NoText => k_is)
    (case g_PathError => k_is)
    (case g_Ring => k_is)
    (case g_Tangled => k_is)
    (case g_TooGreat => k_is)
    (case g_Twice => k_is)
    (case x_NoName => k_exc)
    (case x_NoPlace => k_exc)
    (case x_PathError => k_exc)
    (case x_TooGreat => k_exc)
    (case hn0 => k_is)
    (case ht0 => k_is)
    (case p_NoName => k_is)
    (case pa_NoName => k_is)
    (case pb_NoName => k_is)
    (case q_NoName => k_is)
    (case m_NoName => k_is)
    (case w_NoName => k_is)
    (case u_NoName_PathError => k_is)
    (case r_NoName_Caught => k_is)
    (case r_NoName_NoName => k_is)
    (case r_NoName_NoPlace => k_is)
    (case r_NoName_NoRow => k_is)
    (case r_NoName_NoText => k_is)
    (case r_NoName_Ring => k_is)
    (case r_NoName_Tangled => k_is)
    (case r_NoName_TooGreat => k_is)
    (case r_NoName_Twice => k_is)
    (case n_NoName_Caught => rfl)
    (case n_NoName_NoPlace => rfl)
    (case n_NoName_NoRow => rfl)
    (case n_NoName_NoText => rfl)
    (case n_NoName_Ring => rfl)
    (case n_NoName_Tangled => rfl)
    (case n_NoName_TooGreat => rfl)
    (case n_NoName_Twice => rfl)
    (case p_NoPlace => k_is)
    (case pa_NoPlace => k_is)
    (case pb_NoPlace => k_is)
    (case q_NoPlace => k_is)
    (case m_NoPlace => k_is)
    (case w_NoPlace => k_is)
    (case u_NoPlace_PathError => k_is)
    (case r_NoPlace_Caught => k_is)
    (case r_NoPlace_NoName => k_is)
    (case r_NoPlace_NoPlace => k_is)
    (case r_NoPlace_NoRow => k_is)
    (case r_NoPlace_NoText => k_is)
    (case r_NoPlace_Ring => k_is)
    (case r_NoPlace_Tangled => k_is)
    (case r_NoPlace_TooGreat => k_is)
    (case r_NoPlace_Twice => k_is)
    (case n_NoPlace_Caught => rfl)
    (case n_NoPlace_NoName => rfl)
    (case n_NoPlace_NoRow => rfl)
    (case n_NoPlace_NoText => rfl)
    (case n_NoPlace_Ring => rfl)
    (case n_NoPlace_Tangled => rfl)
    (case n_NoPlace_TooGreat => rfl)
    (case n_NoPlace_Twice => rfl)
    (case p_TooGreat => k_is)
    (case pa_TooGreat => k_is)
    (case pb_TooGreat => k_is)
    (case q_TooGreat => k_is)
    (case m_TooGreat => k_is)
    (case w_TooGreat => k_is)
    (case u_TooGreat_PathError => k_is)
    (case r_TooGreat_Caught => k_is)
    (case r_TooGreat_NoName => k_is)
    (case r_TooGreat_NoPlace => k_is)
    (case r_TooGreat_NoRow => k_is)
    (case r_TooGreat_NoText => k_is)
    (case r_TooGreat_Ring => k_is)
    (case r_TooGreat_Tangled => k_is)
    (case r_TooGreat_TooGreat => k_is)
    (case r_TooGreat_Twice => k_is)
    (case n_TooGreat_Caught => rfl)
    (case n_TooGreat_NoName => rfl)
    (case n_TooGreat_NoPlace => rfl)
    (case n_TooGreat_NoRow => rfl)
    (case n_TooGreat_NoText => rfl)
    (case n_TooGreat_Ring => rfl)
    (case n_TooGreat_Tangled => rfl)
    (case n_TooGreat_Twice => rfl)
    (case o_Caught => k_is)
    (case t_Caught => k_is)
    (case o_NoName => k_is)
    (case t_NoName => k_is)
    (case o_NoPlace => k_is)
    (case t_NoPlace => k_is)
    (case o_NoRow => k_is)
    (case t_NoRow => k_is)
    (case o_NoText => k_is)
    (case t_NoText => k_is)
    (case o_Ring => k_is)
    (case t_Ring => k_is)
    (case o_Tangled => k_is)
    (case t_Tangled => k_is)
    (case o_TooGreat => k_is)
    (case t_TooGreat => k_is)
    (case o_Twice => k_is)
    (case t_Twice => k_is)
