import PyProof.Rows.All
import Wide.All
import OpenK.AllK
import Wide.FinOn
import Lean
import PyProof.EqAt
import PyProof.EqKinds
import PyProof.TupleCall
import PySem.Challenge.RW_namepaths_k23_found_ways_are_ways_to_tel
set_option Elab.async false
set_option linter.all false
set_option maxRecDepth 100000
set_option maxHeartbeats 1000000
namespace L2
open PySem PySem.Spec PyProof.Rows
def defArgs (s : Stmt) : Arguments := match s with
  | .FunctionDef _ a _ _ _ _ _ _ _ _ => a
  | _ => { posonlyargs := [], args := [], vararg := none, kwonlyargs := [], kw_defaults := [], kwarg := none, defaults := [] }
def defBody (s : Stmt) : List Stmt := match s with
  | .FunctionDef _ _ b _ _ _ _ _ _ _ => b
  | _ => []
def defScope (s : Stmt) : Scope := match s with
  | .FunctionDef _ _ _ _ _ _ sc _ _ _ => sc
  | _ => { kind := .function, names := [], isGenerator := false, isCoroutine := false }
section
open PySem.W PySem.W.Fast
noncomputable def runF (p : Program) (w : World) (N : Nat) : Option Shared := ((tw10274390034422433532 tw14364793385576792824 (opening p) w N (PySem.start (opening p)).1 (PySem.start (opening p)).2).bind (tw14289696077712309145 p)).bind fun s₀ =>
  match s₀.heap.isNs mainGlobals && s₀.gens.size == 0 with
  | true => (tw14082659384304107361 tw14364793385576792824 p w s₀.heap.objs.size (s₀.heap.nsMap mainGlobals "__annotations__") N s₀ (topStub p)).bind fun s₁ => match staticsOk (tw5923862056798008813 p.main.body) s₀.heap s₁.heap && namesBound p s₁.heap && gensDone s₁ && laidKept s₀.heap s₁.heap with
    | true => some s₁
    | false => none
  | false => none
theorem left_of {p q : Program} {loose : List Str} {Xt : Shared → Bool} {α : Type} {Yf : Shared → α} {Ya : World → α} {N : Nat}
    (A : ∀ w : World, Option.map (fun s => tw4187177175401517315 q loose (tw5923862056798008813 p.main.body) Xt true s) (runF p w N) = some (openGood q loose))
    (B : ∀ w : World, Option.map Yf (runF p w N) = some (Ya w)) : LeftO p q loose Xt Yf Ya N := by
  intro w
  have a := A w
  have b := B w
  have h : Option.map (fun s => (tw4187177175401517315 q loose (tw5923862056798008813 p.main.body) Xt true s, Yf s)) (runF p w N) = some (openGood q loose, Ya w) := by
    cases e : runF p w N with
    | none => rw [e] at a; cases a
    | some s =>
      rw [e] at a b
      simp only [Option.map_some] at a b ⊢
      rw [Option.some.inj a, Option.some.inj b]
  unfold runF at h
  rw [← te14082659384304107361, ← te10274390034422433532, ← te14364793385576792824, ← te4187177175401517315, ← te5923862056798008813, ← te14289696077712309145] at h
  exact h
end
end L2
namespace K23
open PySem PySem.Spec PyProof.Rows PySem.W L2
def top (i : Nat) : Stmt := PySem.Challenge.pw_namepaths_k23_found_ways_are_ways_to_tel.main.body.getD i (.Pass ⟨0, 0, 0, 0⟩)
abbrev s__law_words : Stmt := top 52
abbrev s__law_cell_at : Stmt := top 50
abbrev s__law_stream : Stmt := top 53
abbrev s__law_under : Stmt := top 56
abbrev s__law_table : Stmt := top 57
abbrev s_refuse_too_great : Stmt := top 34
abbrev s_labels_of : Stmt := top 37
abbrev s_labels_told : Stmt := top 36
abbrev s_is_name : Stmt := top 17
abbrev s_refuse_no_names : Stmt := top 35
abbrev s_is_whole : Stmt := top 16
abbrev s_is_place : Stmt := top 18
abbrev s_refuse_no_places : Stmt := top 38
abbrev s_is_one_twice : Stmt := top 40
abbrev s_refuse_twice : Stmt := top 39
abbrev s_worse_by_better : Stmt := top 23
abbrev s_reached : Stmt := top 24
abbrev s_all_that_follows : Stmt := top 22
abbrev s_order_of : Stmt := top 20
abbrev s_sorted_state : Stmt := top 41
abbrev s_table_of : Stmt := top 30
abbrev s_usual : Stmt := top 33
abbrev s__law_things : Stmt := top 58
abbrev s__law_questions : Stmt := top 59
abbrev s__law_lay : Stmt := top 61
abbrev s__law_answers : Stmt := top 60
abbrev s__law_case : Stmt := top 62
abbrev s__law_copy : Stmt := top 63
abbrev s__law_copy_table : Stmt := top 64
abbrev s_has_end : Stmt := top 32
abbrev s_found_behind : Stmt := top 46
abbrev s_next_state : Stmt := top 31
abbrev s_inside_of_sort : Stmt := top 13
abbrev s_inside : Stmt := top 11
abbrev s_goal : Stmt := top 12
abbrev s_steps_gone : Stmt := top 48
abbrev s_longer_by_a_step : Stmt := top 47
abbrev s_beginnings : Stmt := top 44
abbrev s_found_ways : Stmt := top 45
abbrev s__law_whole : Stmt := top 51
abbrev s__law_is_mark : Stmt := top 66
abbrev s__law_next : Stmt := top 65
abbrev s__law_inside : Stmt := top 54
abbrev s__law_goal : Stmt := top 55
abbrev s__law_walk : Stmt := top 67
abbrev s__law_good : Stmt := top 68
abbrev s__law_due : Stmt := top 69
abbrev s__law_right : Stmt := top 70
abbrev s_law : Stmt := top 71
def own : Stmt → Bool
  | .Assign [.Name x _] _ _ => x != "__name__"
  | _ => true
def view : Program := { PySem.Challenge.pw_namepaths_k23_found_ways_are_ways_to_tel with main := { PySem.Challenge.pw_namepaths_k23_found_ways_are_ways_to_tel.main with body := PySem.Challenge.pw_namepaths_k23_found_ways_are_ways_to_tel.main.body.filter own } }
abbrev Fx (K : Frag) (x : Str) (st : Stmt) : Prop := ∃ (f : Addr) (oc : Value) (od an : Option Addr) (osl : Array (Option Value)) (kV doc pm cdv ct : Value), nsIn K mainGlobals x = some (some (.ref f)) ∧ K.lookup f = some ⟨oc, od, .func (fnOf x x (defArgs st) (defBody st) (defScope st) .none kV doc pm an cdv ct), osl⟩ ∧ codeIn K cdv x = true ∧ keepIn K (.ref f) = true
theorem fx_mk {K : Frag} {x : Str} {st : Stmt} {f : Addr} {oc : Value} {od an : Option Addr} {osl : Array (Option Value)} {kV doc pm cdv ct : Value} (a : nsIn K mainGlobals x = some (some (.ref f))) (l : K.lookup f = some ⟨oc, od, .func (fnOf x x (defArgs st) (defBody st) (defScope st) .none kV doc pm an cdv ct), osl⟩) (c : codeIn K cdv x = true) (k : keepIn K (.ref f) = true) : Fx K x st := ⟨f, oc, od, an, osl, kV, doc, pm, cdv, ct, a, l, c, k⟩
theorem y_mk {K : Frag} {x : Str} {v : Int} {t : Tok} (h : nsIn K mainGlobals x = some (some (.int v t))) : ∃ t, nsIn K mainGlobals x = some (some (.int v t)) := ⟨t, h⟩
structure Facts (K : Frag) : Prop where
  q0 : Fx K "_law_words" s__law_words
  q1 : Fx K "_law_cell_at" s__law_cell_at
  q2 : Fx K "_law_stream" s__law_stream
  q3 : Fx K "_law_under" s__law_under
  q4 : Fx K "_law_table" s__law_table
  q5 : Fx K "refuse_too_great" s_refuse_too_great
  q6 : Fx K "labels_of" s_labels_of
  q7 : Fx K "labels_told" s_labels_told
  q8 : Fx K "is_name" s_is_name
  q9 : Fx K "refuse_no_names" s_refuse_no_names
  q10 : Fx K "is_whole" s_is_whole
  q11 : Fx K "is_place" s_is_place
  q12 : Fx K "refuse_no_places" s_refuse_no_places
  q13 : Fx K "is_one_twice" s_is_one_twice
  q14 : Fx K "refuse_twice" s_refuse_twice
  q15 : Fx K "worse_by_better" s_worse_by_better
  q16 : Fx K "reached" s_reached
  q17 : Fx K "all_that_follows" s_all_that_follows
  q18 : Fx K "order_of" s_order_of
  q19 : Fx K "sorted_state" s_sorted_state
  q20 : Fx K "table_of" s_table_of
  q21 : Fx K "usual" s_usual
  q22 : Fx K "_law_things" s__law_things
  q23 : Fx K "_law_questions" s__law_questions
  q24 : Fx K "_law_lay" s__law_lay
  q25 : Fx K "_law_answers" s__law_answers
  q26 : Fx K "_law_case" s__law_case
  q27 : Fx K "_law_copy" s__law_copy
  q28 : Fx K "_law_copy_table" s__law_copy_table
  q29 : Fx K "has_end" s_has_end
  q30 : Fx K "found_behind" s_found_behind
  q31 : Fx K "next_state" s_next_state
  q32 : Fx K "inside_of_sort" s_inside_of_sort
  q33 : Fx K "inside" s_inside
  q34 : Fx K "goal" s_goal
  q35 : Fx K "steps_gone" s_steps_gone
  q36 : Fx K "longer_by_a_step" s_longer_by_a_step
  q37 : Fx K "beginnings" s_beginnings
  q38 : Fx K "found_ways" s_found_ways
  q39 : Fx K "_law_whole" s__law_whole
  q40 : Fx K "_law_is_mark" s__law_is_mark
  q41 : Fx K "_law_next" s__law_next
  q42 : Fx K "_law_inside" s__law_inside
  q43 : Fx K "_law_goal" s__law_goal
  q44 : Fx K "_law_walk" s__law_walk
  q45 : Fx K "_law_good" s__law_good
  q46 : Fx K "_law_due" s__law_due
  q47 : Fx K "_law_right" s__law_right
  q48 : Fx K "law" s_law
  z_all : nsIn K mainGlobals "all" = some none
  z_bool : nsIn K mainGlobals "bool" = some none
  z_enumerate : nsIn K mainGlobals "enumerate" = some none
  z_int : nsIn K mainGlobals "int" = some none
  z_isinstance : nsIn K mainGlobals "isinstance" = some none
  z_len : nsIn K mainGlobals "len" = some none
  z_list : nsIn K mainGlobals "list" = some none
  z_range : nsIn K mainGlobals "range" = some none
  z_set : nsIn K mainGlobals "set" = some none
  z_sorted : nsIn K mainGlobals "sorted" = some none
  z_str : nsIn K mainGlobals "str" = some none
  z_tuple : nsIn K mainGlobals "tuple" = some none
  y_LONGEST_NAME : ∃ t, nsIn K mainGlobals "LONGEST_NAME" = some (some (.int 8 t))
  y_MOST_BEGINNINGS : ∃ t, nsIn K mainGlobals "MOST_BEGINNINGS" = some (some (.int 200 t))
  y_MOST_ENDS : ∃ t, nsIn K mainGlobals "MOST_ENDS" = some (some (.int 8 t))
  y_MOST_GOES : ∃ t, nsIn K mainGlobals "MOST_GOES" = some (some (.int 8 t))
  y_MOST_PAIRS : ∃ t, nsIn K mainGlobals "MOST_PAIRS" = some (some (.int 40 t))
  y_MOST_STATES : ∃ t, nsIn K mainGlobals "MOST_STATES" = some (some (.int 8 t))
theorem run_seen (w : World) : Option.map (fun s => Fast.tw4187177175401517315 view [] (Fast.tw5923862056798008813 PySem.Challenge.pw_namepaths_k23_found_ways_are_ways_to_tel.main.body) (fun s => xlAt view [] s && recOk [] s) true s) (runF PySem.Challenge.pw_namepaths_k23_found_ways_are_ways_to_tel w 40000) = some (openGood view []) := by kernel_rfl
end K23
section
open PySem PySem.W PyProof.Rows
local macro_rules | `(tactic| o_head $H:term) => `(tactic| refine holds_open (q := K23.view) (loose := []) (Xt := fun s => xlAt K23.view [] s && recOk [] s) (XP := XL K23.view []) (Yf := Hook.obs $H) (Ya := Hook.val $H) (YP := Hook.says $H) (N := 40000) ?hl (Hook.of $H) (Hook.keeps $H) (fun s e => xl_of s (Bool.and_eq_true_iff.mp e).1) XL.keeps (by rfl) (by rfl) (by rfl) (fun s e => recFacts_of (Bool.and_eq_true_iff.mp e).2) (by rfl) (by first | assumption | decide +kernel) (by decide +kernel) ⟨rfl, rfl, rfl, rfl, rfl, by decide +kernel⟩ ?hw ?hc)
set_option maxHeartbeats 0 in
theorem K23.hd (hyp : ∀ K : Params → Frag, (∀ w : World, K23.Facts (K w.params)) → ∀ (YP : World → Heap → Prop) (d : DefRec), d.params.defaults = [] → d.name = "law" → (∀ (w : World) (h : Heap), YP w h → (K w.params).In h) → WalkO K23.view [] (XL K23.view []) YP PySem.Challenge.rw_namepaths_k23_found_ways_are_ways_to_tel.row.toRowW d [] (fun f vs => PySem.call f vs)) : PySem.Challenge.rw_namepaths_k23_found_ways_are_ways_to_tel.Holds := by
  w_on; o_law; k_head
  case hl =>
    refine L2.left_of K23.run_seen fun w => ?_
    kernel_rfl
  case hw => w_witness2
  k_fill
  refine hyp _ (fun w => ?fx) _ _ rfl rfl (fun w h Y => PySem.W.kIn_of Y)
  case fx =>
    refine' ⟨K23.fx_mk ?a0 ?l0 ?c0 ?k0, K23.fx_mk ?a1 ?l1 ?c1 ?k1, K23.fx_mk ?a2 ?l2 ?c2 ?k2, K23.fx_mk ?a3 ?l3 ?c3 ?k3, K23.fx_mk ?a4 ?l4 ?c4 ?k4, K23.fx_mk ?a5 ?l5 ?c5 ?k5, K23.fx_mk ?a6 ?l6 ?c6 ?k6, K23.fx_mk ?a7 ?l7 ?c7 ?k7, K23.fx_mk ?a8 ?l8 ?c8 ?k8, K23.fx_mk ?a9 ?l9 ?c9 ?k9, K23.fx_mk ?a10 ?l10 ?c10 ?k10, K23.fx_mk ?a11 ?l11 ?c11 ?k11, K23.fx_mk ?a12 ?l12 ?c12 ?k12, K23.fx_mk ?a13 ?l13 ?c13 ?k13, K23.fx_mk ?a14 ?l14 ?c14 ?k14, K23.fx_mk ?a15 ?l15 ?c15 ?k15, K23.fx_mk ?a16 ?l16 ?c16 ?k16, K23.fx_mk ?a17 ?l17 ?c17 ?k17, K23.fx_mk ?a18 ?l18 ?c18 ?k18, K23.fx_mk ?a19 ?l19 ?c19 ?k19, K23.fx_mk ?a20 ?l20 ?c20 ?k20, K23.fx_mk ?a21 ?l21 ?c21 ?k21, K23.fx_mk ?a22 ?l22 ?c22 ?k22, K23.fx_mk ?a23 ?l23 ?c23 ?k23, K23.fx_mk ?a24 ?l24 ?c24 ?k24, K23.fx_mk ?a25 ?l25 ?c25 ?k25, K23.fx_mk ?a26 ?l26 ?c26 ?k26, K23.fx_mk ?a27 ?l27 ?c27 ?k27, K23.fx_mk ?a28 ?l28 ?c28 ?k28, K23.fx_mk ?a29 ?l29 ?c29 ?k29, K23.fx_mk ?a30 ?l30 ?c30 ?k30, K23.fx_mk ?a31 ?l31 ?c31 ?k31, K23.fx_mk ?a32 ?l32 ?c32 ?k32, K23.fx_mk ?a33 ?l33 ?c33 ?k33, K23.fx_mk ?a34 ?l34 ?c34 ?k34, K23.fx_mk ?a35 ?l35 ?c35 ?k35, K23.fx_mk ?a36 ?l36 ?c36 ?k36, K23.fx_mk ?a37 ?l37 ?c37 ?k37, K23.fx_mk ?a38 ?l38 ?c38 ?k38, K23.fx_mk ?a39 ?l39 ?c39 ?k39, K23.fx_mk ?a40 ?l40 ?c40 ?k40, K23.fx_mk ?a41 ?l41 ?c41 ?k41, K23.fx_mk ?a42 ?l42 ?c42 ?k42, K23.fx_mk ?a43 ?l43 ?c43 ?k43, K23.fx_mk ?a44 ?l44 ?c44 ?k44, K23.fx_mk ?a45 ?l45 ?c45 ?k45, K23.fx_mk ?a46 ?l46 ?c46 ?k46, K23.fx_mk ?a47 ?l47 ?c47 ?k47, K23.fx_mk ?a48 ?l48 ?c48 ?k48, ?z_all, ?z_bool, ?z_enumerate, ?z_int, ?z_isinstance, ?z_len, ?z_list, ?z_range, ?z_set, ?z_sorted, ?z_str, ?z_tuple, K23.y_mk ?y_LONGEST_NAME, K23.y_mk ?y_MOST_BEGINNINGS, K23.y_mk ?y_MOST_ENDS, K23.y_mk ?y_MOST_GOES, K23.y_mk ?y_MOST_PAIRS, K23.y_mk ?y_MOST_STATES⟩
    case a0 | l0 | c0 | k0 | a1 | l1 | c1 | k1 | a2 | l2 | c2 | k2 | a3 | l3 | c3 | k3 | a4 | l4 | c4 | k4 | a5 | l5 | c5 | k5 | a6 | l6 | c6 | k6 | a7 | l7 | c7 | k7 | a8 | l8 | c8 | k8 | a9 | l9 | c9 | k9 | a10 | l10 | c10 | k10 | a11 | l11 | c11 | k11 | a12 | l12 | c12 | k12 | a13 | l13 | c13 | k13 | a14 | l14 | c14 | k14 | a15 | l15 | c15 | k15 | a16 | l16 | c16 | k16 | a17 | l17 | c17 | k17 | a18 | l18 | c18 | k18 | a19 | l19 | c19 | k19 | a20 | l20 | c20 | k20 | a21 | l21 | c21 | k21 | a22 | l22 | c22 | k22 | a23 | l23 | c23 | k23 | a24 | l24 | c24 | k24 | a25 | l25 | c25 | k25 | a26 | l26 | c26 | k26 | a27 | l27 | c27 | k27 | a28 | l28 | c28 | k28 | a29 | l29 | c29 | k29 | a30 | l30 | c30 | k30 | a31 | l31 | c31 | k31 | a32 | l32 | c32 | k32 | a33 | l33 | c33 | k33 | a34 | l34 | c34 | k34 | a35 | l35 | c35 | k35 | a36 | l36 | c36 | k36 | a37 | l37 | c37 | k37 | a38 | l38 | c38 | k38 | a39 | l39 | c39 | k39 | a40 | l40 | c40 | k40 | a41 | l41 | c41 | k41 | a42 | l42 | c42 | k42 | a43 | l43 | c43 | k43 | a44 | l44 | c44 | k44 | a45 | l45 | c45 | k45 | a46 | l46 | c46 | k46 | a47 | l47 | c47 | k47 | a48 | l48 | c48 | k48 | z_all | z_bool | z_enumerate | z_int | z_isinstance | z_len | z_list | z_range | z_set | z_sorted | z_str | z_tuple | y_LONGEST_NAME | y_MOST_BEGINNINGS | y_MOST_ENDS | y_MOST_GOES | y_MOST_PAIRS | y_MOST_STATES => k_is
end
set_option Elab.async false
set_option linter.all false
set_option maxRecDepth 100000
namespace L2
open PySem PySem.Spec PyProof.Rows
abbrev Key := Sum Int Str
def keyIs : Key → Value → Bool
  | .inl k, v => Value.isInt k v
  | .inr x, v => Value.isStrOf x v
def keyH (w : World) : Key → Int
  | .inl k => hashInt k
  | .inr x => hashStr w x
theorem keyIs_shape : ∀ {k : Key} {v : Value}, keyIs k v = true → (∃ i t, k = Sum.inl i ∧ v = Value.int i t) ∨ (∃ x t, k = Sum.inr x ∧ v = Value.str x t)
  | .inl i, v, h => by
    obtain ⟨t, e⟩ := Value.isInt_shape (k := i) (v := v) h
    exact .inl ⟨i, t, rfl, e⟩
  | .inr x, v, h => by
    obtain ⟨t, e⟩ := Value.isStrOf_shape (x := x) (v := v) h
    exact .inr ⟨x, t, rfl, e⟩
theorem keyIs_int (i : Int) (t : Tok) : keyIs (.inl i) (.int i t) = true := by simp [keyIs, Value.isInt]
theorem keyIs_str (x : Str) (t : Tok) : keyIs (.inr x) (.str x t) = true := by simp [keyIs, Value.isStrOf]
theorem key_ll (a b : Int) : decide ((Sum.inl a : Key) = Sum.inl b) = (a == b) := by
  by_cases e : a = b
  · subst e; simp
  · have h : ¬ (Sum.inl a : Key) = Sum.inl b := fun q => e (Sum.inl.inj q)
    rw [decide_eq_false h]
    exact (beq_eq_false_iff_ne.mpr e).symm
theorem key_rr (a b : Str) : decide ((Sum.inr a : Key) = Sum.inr b) = decide (a = b) := by
  by_cases e : a = b
  · subst e; simp
  · have h : ¬ (Sum.inr a : Key) = Sum.inr b := fun q => e (Sum.inr.inj q)
    rw [decide_eq_false h, decide_eq_false e]
theorem key_lr (a : Int) (b : Str) : decide ((Sum.inl a : Key) = Sum.inr b) = false := decide_eq_false (fun q => nomatch q)
theorem key_rl (a : Str) (b : Int) : decide ((Sum.inr a : Key) = Sum.inl b) = false := decide_eq_false (fun q => nomatch q)
def mixKind (prog : Program) (w : World) : PySem.KeyKind prog w Key where
  is := keyIs
  hash := keyH w
  inj := fun v a b ha hb => by
    rcases keyIs_shape ha with ⟨i, t, rfl, rfl⟩ | ⟨x, t, rfl, rfl⟩
    · rcases keyIs_shape hb with ⟨j, u, rfl, e⟩ | ⟨y, u, rfl, e⟩
      · injection e with e1 _; rw [e1]
      · exact nomatch e
    · rcases keyIs_shape hb with ⟨j, u, rfl, e⟩ | ⟨y, u, rfl, e⟩
      · exact nomatch e
      · injection e with e1 _; rw [e1]
  byValue := fun k v h => by
    rcases keyIs_shape h with ⟨i, t, rfl, rfl⟩ | ⟨x, t, rfl, rfl⟩ <;> rfl
  pyHash := fun hv h => by
    rcases keyIs_shape hv with ⟨i, t, rfl, rfl⟩ | ⟨x, t, rfl, rfl⟩
    · exact wpAny_pyHash_int h
    · exact wpAny_pyHash_str h
  eqBool := fun hu hv h => by
    rcases keyIs_shape hu with ⟨i, t, rfl, rfl⟩ | ⟨x, t, rfl, rfl⟩
    · rcases keyIs_shape hv with ⟨j, u, rfl, rfl⟩ | ⟨y, u, rfl, rfl⟩
      · rw [key_ll] at h; exact wpAny_eqBool_int h
      · rw [key_lr] at h; exact SeqAt.EqAt.int_str i t y u _ _ _ _ h
    · rcases keyIs_shape hv with ⟨j, u, rfl, rfl⟩ | ⟨y, u, rfl, rfl⟩
      · rw [key_rl] at h; exact SeqAt.EqAt.str_int x t j u _ _ _ _ h
      · rw [key_rr] at h; exact wpAny_eqBool_str h
  «strs» := fun k x t v h => by
    rcases keyIs_shape h with ⟨i, u, rfl, e⟩ | ⟨y, u, rfl, e⟩
    · exact nomatch e
    · injection e with e1 _
      subst e1
      cases v <;> rfl
theorem mixKind_int (prog : Program) (w : World) (i : Int) (t : Tok) : (mixKind prog w).is (.inl i) (.int i t) = true := keyIs_int i t
theorem mixKind_str (prog : Program) (w : World) (x : Str) (t : Tok) : (mixKind prog w).is (.inr x) (.str x t) = true := keyIs_str x t
end L2
namespace L2
open PySem PySem.Spec PyProof.Rows
inductive V where
  | non | bl (b : Bool) | int (i : Int) | str (x : Str) | byt (b : Array UInt8) | flt (b : UInt64) | ref (a : Addr) | ty (n : String)
  deriving DecidableEq
def RelV : V → Value → Prop
  | .non, u => u = Value.none
  | .bl b, u => u = Value.bool b
  | .int i, u => ∃ t, u = Value.int i t
  | .str x, u => ∃ t, u = Value.str x t
  | .byt b, u => ∃ t, u = Value.bytes b t
  | .flt b, u => ∃ t, u = Value.float b t
  | .ref a, u => u = Value.ref a
  | .ty n, u => u = Value.type n
abbrev Vals : List V → List Value → Prop := Paired RelV
theorem Vals.length {xs : List V} {us : List Value} (r : Vals xs us) : xs.length = us.length := Paired.length r
theorem Vals.get : ∀ {xs : List V} {us : List Value} {i : Nat} {x : V}, Vals xs us → xs[i]? = some x → ∃ u, us[i]? = some u ∧ RelV x u
  | _, _, _, _, .nil, e => by simp at e
  | _, _, 0, _, .cons r _, e => by simp at e; subst e; exact ⟨_, rfl, r⟩
  | _, _, i + 1, x, .cons _ t, e => by
    obtain ⟨u, h1, h2⟩ := Vals.get (i := i) (x := x) t (by simpa using e)
    exact ⟨u, by simpa using h1, h2⟩
theorem Vals.set {x : V} {u : Value} (r : RelV x u) : ∀ {xs : List V} {us : List Value} (i : Nat), Vals xs us → Vals (xs.set i x) (us.set i u)
  | _, _, _, .nil => .nil
  | _, _, 0, .cons _ t => .cons r t
  | _, _, i + 1, .cons q t => .cons q (Vals.set r i t)
theorem Vals.append : ∀ {xs ys : List V} {us ws : List Value}, Vals xs us → Vals ys ws → Vals (xs ++ ys) (us ++ ws)
  | _, _, _, _, .nil, s => s
  | _, _, _, _, .cons r t, s => .cons r (Vals.append t s)
theorem Vals.take : ∀ {xs : List V} {us : List Value} (n : Nat), Vals xs us → Vals (xs.take n) (us.take n)
  | _, _, 0, _ => .nil
  | _, _, _ + 1, .nil => .nil
  | _, _, n + 1, .cons r t => .cons r (Vals.take n t)
theorem Vals.drop : ∀ {xs : List V} {us : List Value} (n : Nat), Vals xs us → Vals (xs.drop n) (us.drop n)
  | _, _, 0, r => r
  | _, _, _ + 1, .nil => .nil
  | _, _, n + 1, .cons _ t => Vals.drop n t
def RelO : Option V → Option Value → Prop
  | some v, some u => RelV v u
  | none, none => True
  | _, _ => False
def KV {κ : Type} : List (κ × V) → List (κ × Value) → Prop := Paired fun (p : κ × V) (q : κ × Value) => p.1 = q.1 ∧ RelV p.2 q.2
def kV : Key → V
  | .inl i => .int i
  | .inr x => .str x
inductive HO where
    | lst (xs : List V)
    | tup (xs : List V)
    | dK (kvs : List (Key × V)) | dT (kvs : List (List Key × V))
    | set (S : Int → Bool) (n : Nat)
    | ins (C dx : Addr) (fs : List (Str × V))
    | own (x : Addr)
    | xd (fs : List (Str × V))
    | met (f x : Addr)
    | rng (lo hi : Int)
    | frz (o : Obj) (u : HO)
    | tbl (ps : Array Value)
    | ext (φ : Heap → Prop)
abbrev Hp := Addr → Option HO
def upd (H : Hp) (a : Addr) (o : HO) : Hp := fun b => if b = a then some o else H b
theorem upd_same {H : Hp} {a : Addr} {o : HO} : upd H a o a = some o := by unfold upd; rw [if_pos rfl]
theorem upd_ne {H : Hp} {a b : Addr} {o : HO} (h : b ≠ a) : upd H a o b = H b := by unfold upd; rw [if_neg h]
theorem ne_of {H : Hp} {a b : Addr} {o u : HO} (h : H a = some o) (h' : H b = some u) (d : o ≠ u) : a ≠ b := by
  intro e; subst e; rw [h] at h'; exact d (Option.some.inj h')
theorem ne_of_none {H : Hp} {a b : Addr} {o : HO} (h : H a = some o) (h' : H b = none) : a ≠ b := by
  intro e; subst e; rw [h] at h'; cases h'
section
variable (P : Program) (w : World)
def ObjOk (H : Hp) (h : Heap) (a : Addr) : HO → Prop
  | .lst xs => xs.length ≤ sizeLine ∧ ∃ (its : List Value) (n : Nat), Vals xs its ∧ h.get? a = some { cls := .type "list", data := .seq its.toArray n }
  | .tup xs => xs.length ≤ sizeLine ∧ ∃ its : List Value, Vals xs its ∧ IsTup h a its.toArray
  | .dK kvs => kvs.length ≤ sizeLine ∧ (a == sysModules) = false ∧ ∃ vs, KV kvs vs ∧ h.DictOf (mixKind P w) a vs
  | .dT kvs => kvs.length ≤ sizeLine ∧ (a == sysModules) = false ∧ ∃ xs : List (List Key × Addr × Value),
      Paired (fun (p : List Key × V) (q : List Key × Addr × Value) => p.1 = q.1 ∧ H q.2.1 = some (.tup (p.1.map kV)) ∧ RelV p.2 q.2.2) kvs xs ∧
      ∃ o es ep, h.get? a = some o ∧ o.ExactDict ∧ o.data = .dict es ep ∧ es.toList = xs.map (entryOfKey (tupleKind (mixKind P w))) ∧ (xs.map (·.1)).Nodup
  | .set S n => h.SetOf (intKind P w) a S n
  | .ins C dx fs => H dx = some (.own a) ∧ fs.length ≤ 1000 ∧ dx ≠ a ∧ h.get? a = some (PySem.W.instObj C dx) ∧
      ∃ mA, h.Ns1 dx mA ∧ (∀ f, RelO (fs.lookup f) (mA f)) ∧ PySem.Within mA (fs.map (·.1))
  | .own _ => ∃ o, h.get? a = some o
  | .xd fs => ∃ mA, h.Ns1 a mA ∧ ∀ f, RelO (fs.lookup f) (mA f)
  | .rng lo hi => ∃ t u v, h.get? a = some { cls := .type "range", data := .fields #[.int lo t, .int hi u, .int 1 v] }
  | .frz o u => h.get? a = some o ∧ ObjOk H h a u
  | .tbl ps => h.get? a = some { cls := .none, data := .fields ps }
  | .met f x => h.get? a = some (PySem.W.methodObj (.ref f) (.ref x))
  | .ext φ => φ h ∧ (∃ o, h.get? a = some o) ∧ ∀ h1 h2 : Heap, φ h1 → (∀ o, h1.get? a = some o → h2.get? a = some o) → φ h2
def HOk (H : Hp) (h : Heap) : Prop := ∀ a o, H a = some o → ObjOk P w H h a o
end
section
variable {P : Program} {w : World} {H H' : Hp} {h h' : Heap} {a : Addr} {o : HO}
theorem ObjOk.lt (x : ObjOk P w H h a o) : a < h.objs.size := by
  cases o with
  | lst xs => obtain ⟨_, _, _, _, e⟩ := x; exact Heap.lt_size e
  | tup xs => obtain ⟨_, _, _, p⟩ := x; exact p.lt
  | dK kvs => obtain ⟨_, _, _, _, o, _, _, e, _⟩ := x; exact Heap.lt_size e
  | dT kvs => obtain ⟨_, _, _, _, o, _, _, e, _⟩ := x; exact Heap.lt_size e
  | set S n => obtain ⟨o, _, _, _, e, _⟩ := x; exact Heap.lt_size e
  | ins C dx fs => obtain ⟨_, _, _, e, _⟩ := x; exact Heap.lt_size e
  | own y => obtain ⟨_, e⟩ := x; exact Heap.lt_size e
  | xd fs => obtain ⟨_, ⟨_, _, _, e, _⟩, _⟩ := x; exact Heap.lt_size e
  | rng lo hi => obtain ⟨_, _, _, e⟩ := x; exact Heap.lt_size e
  | frz ob u => obtain ⟨e, _⟩ := x; exact Heap.lt_size e
  | tbl ps => exact Heap.lt_size (show h.get? a = some _ from x)
  | met f y => exact Heap.lt_size (show h.get? a = some _ from x)
  | ext φ => obtain ⟨_, ⟨_, e⟩, _⟩ := x; exact Heap.lt_size e
theorem Paired.mapP {α β : Type} {F G : α → β → Prop} : ∀ {l₁ : List α} {l₂ : List β}, Paired F l₁ l₂ → (∀ a b, F a b → G a b) → Paired G l₁ l₂
  | _, _, .nil, _ => .nil
  | _, _, .cons r t, f => .cons (f _ _ r) (Paired.mapP t f)
theorem ObjOk.stay (x : ObjOk P w H h a o) (k : ∀ b u, (b = a ∨ H b = some (.own a)) → h.get? b = some u → h'.get? b = some u)
    (ho : ∀ b, H b = some (.own a) → H' b = some (.own a)) (ht : ∀ b xs, H b = some (.tup xs) → H' b = some (.tup xs)) : ObjOk P w H' h' a o := by
  induction o with
  | lst xs => obtain ⟨z, its, n, r, e⟩ := x; exact ⟨z, its, n, r, k _ _ (.inl rfl) e⟩
  | tup xs => obtain ⟨z, its, r, ob, e, c⟩ := x; exact ⟨z, its, r, ob, k _ _ (.inl rfl) e, c⟩
  | dK kvs => obtain ⟨z, y, vs, r, ob, es, ep, e, c⟩ := x; exact ⟨z, y, vs, r, ob, es, ep, k _ _ (.inl rfl) e, c⟩
  | dT kvs =>
    obtain ⟨z, y, xs, r, ob, es, ep, e, c⟩ := x
    exact ⟨z, y, xs, Paired.mapP r fun p q z => ⟨z.1, ht _ _ z.2.1, z.2.2⟩, ob, es, ep, k _ _ (.inl rfl) e, c⟩
  | set S n => obtain ⟨ob, es, ep, t, e, c⟩ := x; exact ⟨ob, es, ep, t, k _ _ (.inl rfl) e, c⟩
  | ins C dx fs =>
    obtain ⟨d, z, ne, e, mA, ⟨od, es, ep, e2, c⟩, r⟩ := x
    exact ⟨ho _ d, z, ne, k _ _ (.inl rfl) e, mA, ⟨od, es, ep, k _ _ (.inr d) e2, c⟩, r⟩
  | own y => obtain ⟨ob, e⟩ := x; exact ⟨ob, k _ _ (.inl rfl) e⟩
  | xd fs => obtain ⟨mA, ⟨od, es, ep, e, c⟩, r⟩ := x; exact ⟨mA, ⟨od, es, ep, k _ _ (.inl rfl) e, c⟩, r⟩
  | rng lo hi => obtain ⟨t, u, v, e⟩ := x; exact ⟨t, u, v, k _ _ (.inl rfl) e⟩
  | frz ob u ih => obtain ⟨e, q⟩ := x; exact ⟨k _ _ (.inl rfl) e, ih q⟩
  | tbl ps =>
    have e : h.get? a = some { cls := .none, data := .fields ps } := x
    show h'.get? a = some { cls := .none, data := .fields ps }
    exact k a _ (.inl rfl) e
  | met f y =>
    have e : h.get? a = some (PySem.W.methodObj (.ref f) (.ref y)) := x
    show h'.get? a = some (PySem.W.methodObj (.ref f) (.ref y))
    exact k a _ (.inl rfl) e
  | ext φ => obtain ⟨p, ⟨o, e⟩, st⟩ := x; exact ⟨st _ _ p fun o q => k _ _ (.inl rfl) q, ⟨o, k _ _ (.inl rfl) e⟩, st⟩
theorem HOk.lt (x : HOk P w H h) (e : H a = some o) : a < h.objs.size := (x a o e).lt
theorem HOk.fresh (x : HOk P w H h) (e : h.objs.size ≤ a) : H a = none := by
  cases q : H a with
  | none => rfl
  | some u => exact absurd (Nat.lt_of_lt_of_le (x.lt q) e) (Nat.lt_irrefl _)
theorem HOk.kept (x : HOk P w H h) (k : ∀ b u, h.get? b = some u → h'.get? b = some u) : HOk P w H h' := fun a o e =>
  (x a o e).stay (fun b u _ q => k b u q) (fun _ q => q) fun _ _ q => q
theorem HOk.laid (x : HOk P w H h) (k : ∀ b u, h.get? b = some u → h'.get? b = some u) (hp : h.objs.size ≤ a) (new : ObjOk P w (upd H a o) h' a o) : HOk P w (upd H a o) h' := fun b u e => by
  have hn := x.fresh hp
  by_cases hb : b = a
  · subst hb; rw [upd_same] at e; cases e; exact new
  · rw [upd_ne hb] at e
    exact (x b u e).stay (fun c v _ q => k c v q) (fun c q => by rw [upd_ne (ne_of_none q hn)]; exact q) fun c xs q => by rw [upd_ne (ne_of_none q hn)]; exact q
end
def Rd (H : Hp) (a : Addr) (u : HO) : Prop := H a = some u ∨ ∃ o, H a = some (.frz o u)
theorem Rd.ok {P : Program} {w : World} {H : Hp} {h : Heap} {a : Addr} {u : HO} (r : Rd H a u) (x : HOk P w H h) : ObjOk P w H h a u := by
  rcases r with r | ⟨o, r⟩
  · exact x a u r
  · obtain ⟨_, q⟩ := x a _ r
    exact q
def Mut : Option HO → Prop
  | some (.lst _) => True
  | some (.dK _) => True
  | some (.dT _) => True
  | some (.set _ _) => True
  | some (.ins _ _ _) => True
  | some (.ext _) => True
  | _ => False
section
variable {P : Program} {w : World} {H : Hp} {h h' : Heap} {x e : Addr} {o' : HO}
theorem HOk.write (ok : HOk P w H h) (mu : Mut (H x)) (he : e = x ∨ H e = some (.own x)) (k : ∀ b u, b ≠ e → h.get? b = some u → h'.get? b = some u) (heo : ∃ u, h'.get? e = some u)
    (new : ObjOk P w (upd H x o') h' x o') : HOk P w (upd H x o') h' := fun b u q => by
  have nown : ∀ c y, H c = some (.own y) → c ≠ x := fun c y r z => by subst z; rw [r] at mu; exact mu
  have ntup : ∀ c xs, H c = some (.tup xs) → c ≠ x := fun c xs r z => by subst z; rw [r] at mu; exact mu
  by_cases hb : b = x
  · subst hb; rw [upd_same] at q; cases q; exact new
  · rw [upd_ne hb] at q
    by_cases hbe : b = e
    · have q' : H b = some (.own x) := by
        rcases he with z | z
        · exact absurd (hbe.trans z) hb
        · rw [hbe]; exact z
      rw [q] at q'; cases q'
      obtain ⟨v, hv⟩ := heo
      exact ⟨v, by rw [hbe]; exact hv⟩
    · refine (ok b u q).stay (fun c v hc r => k c v ?_ r) (fun c r => by rw [upd_ne (nown c b r)]; exact r) fun c xs r => by rw [upd_ne (ntup c xs r)]; exact r
      rcases hc with rfl | hc
      · exact hbe
      · rintro rfl
        rcases he with z | z
        · exact nown c b hc z
        · rw [hc] at z; cases z; exact hb rfl
end
structure Un (fs ex : List Addr) (H H' : Hp) (h h' : Heap) : Prop where
  keep : ∀ b o, h.get? b = some o → H b = none → b ∉ fs → b ∉ ex → h'.get? b = some o
  slot : ∀ b o, h.get? b = some o → H b = none → b ∈ fs → b ∉ ex → ∃ sl, h'.get? b = some { o with slots := sl }
  free : ∀ b o, h.get? b = some o → H b = none → b ∉ ex → H' b = none
  there : ∀ b o, h.get? b = some o → b ∉ ex → ∃ o', h'.get? b = some o'
  tups : ∀ b xs, H b = some (.tup xs) → H' b = some (.tup xs)
  frzs : ∀ b o u, H b = some (.frz o u) → H' b = some (.frz o u)
  tbls : ∀ b ps, H b = some (.tbl ps) → ∃ more, H' b = some (.tbl (ps ++ more))
section
variable {fs fs' ex ex' : List Addr} {H H1 H2 : Hp} {h h1 h2 h' : Heap} {a x e : Addr} {o : HO}
theorem Un.any (u : Un fs ex H H1 h h1) {b : Addr} {ob : Obj} (q : h.get? b = some ob) (n : H b = none) (hx : b ∉ ex) : ∃ sl, h1.get? b = some { ob with slots := sl } := by
  by_cases hb : b ∈ fs
  · exact u.slot b ob q n hb hx
  · exact ⟨ob.slots, u.keep b ob q n hb hx⟩
theorem Un.kept (k : ∀ b u, h.get? b = some u → h'.get? b = some u) : Un fs ex H H h h' :=
  ⟨fun b ob q _ _ _ => k b ob q, fun b ob q _ _ _ => ⟨ob.slots, k b ob q⟩, fun _ _ _ n _ => n, fun b ob q _ => ⟨ob, k b ob q⟩, fun _ _ q => q, fun _ _ _ q => q, fun _ ps q => ⟨#[], by rw [q]; simp⟩⟩
theorem Un.refl : Un fs ex H H h h := Un.kept fun _ _ q => q
theorem Un.laid (k : ∀ b u, h.get? b = some u → h'.get? b = some u) (hp : h.objs.size ≤ a) (hn : H a = none) : Un fs ex H (upd H a o) h h' where
  keep := fun b u q _ _ _ => k b u q
  slot := fun b u q _ _ _ => ⟨u.slots, k b u q⟩
  free := fun b u q n _ => by rw [upd_ne (Nat.ne_of_lt (Nat.lt_of_lt_of_le (Heap.lt_size q) hp))]; exact n
  there := fun b u q _ => ⟨u, k b u q⟩
  tups := fun b xs q => by rw [upd_ne (ne_of_none q hn)]; exact q
  frzs := fun b u xs q => by rw [upd_ne (ne_of_none q hn)]; exact q
  tbls := fun b ps q => ⟨#[], by rw [upd_ne (ne_of_none q hn), q]; simp⟩
theorem Un.write (mu : Mut (H x)) (he : e = x ∨ H e = some (.own x)) (k : ∀ b u, b ≠ e → h.get? b = some u → h'.get? b = some u) (heo : ∃ u, h'.get? e = some u) : Un fs ex H (upd H x o) h h' := by
  have hx : ∀ b, H b = none → b ≠ x := fun b n z => by subst z; rw [n] at mu; exact mu
  have hb : ∀ b, H b = none → b ≠ e := fun b n z => by
    subst z
    rcases he with r | r
    · exact hx b n r
    · rw [n] at r; cases r
  have hm : ∀ b u, H b = some u → ¬ Mut (some u) → b ≠ x := fun b u q nm z => by subst z; rw [q] at mu; exact nm mu
  refine ⟨fun b u q n _ _ => k b u (hb b n) q, fun b u q n _ _ => ⟨u.slots, k b u (hb b n) q⟩, fun b u q n _ => by rw [upd_ne (hx b n)]; exact n, fun b u q _ => ?_,
    fun b xs q => by rw [upd_ne (hm b _ q fun z => z)]; exact q, fun b u xs q => by rw [upd_ne (hm b _ q fun z => z)]; exact q, fun b ps q => ⟨#[], by rw [upd_ne (hm b _ q fun z => z), q]; simp⟩⟩
  by_cases hbe : b = e
  · subst hbe; exact heo
  · exact ⟨u, k b u hbe q⟩
end
def trk (h : Heap) (H : Hp) : List Addr := (List.range h.objs.size).filter fun a => (H a).isSome
def hidT (h : Heap) (H : Hp) : Heap := PySem.W.hideAll h (trk h H)
theorem hidT_size (h : Heap) (H : Hp) : (hidT h H).objs.size = h.objs.size := PySem.W.hideAll_size _ _
theorem hidT_get {h : Heap} {H : Hp} {b : Addr} {o : Obj} (e : h.get? b = some o) (n : H b = none) : (hidT h H).get? b = some o :=
  PySem.W.hideAll_get _ e fun hm => by
    have q : (H b).isSome = true := (List.mem_filter.mp hm).2
    rw [n] at q; simp at q
theorem of_hidT {h : Heap} {H : Hp} {b : Addr} {o : Obj} (e : (hidT h H).get? b = some o) : h.get? b = some o ∧ H b = none := by
  have e' : h.get? b = some o := PySem.W.of_hideAll (trk h H) e
  refine ⟨e', ?_⟩
  cases q : H b with
  | none => rfl
  | some x =>
    have hm : b ∈ trk h H := List.mem_filter.mpr ⟨List.mem_range.mpr (Heap.lt_size e'), by simp [q]⟩
    have z : (hidT h H).get? b = none := PySem.W.hideAll_none (trk h H) hm
    rw [z] at e; cases e
end L2
namespace L2
open PySem PySem.Spec PyProof.Rows
structure Mod (K : PySem.W.Frag) (mg : Str → Option Value) (base : Heap) : Prop where
  kin : K.In base
  glob : base.Ns mainGlobals mg
  blt : ∃ mb, base.Ns builtinsNs mb ∧ ∀ x : Str, x ≠ "__name__" → mb x = bootBuiltins x
  nolimit : base.NoLimit
structure Cx where
  prog : Program
  w : World
  K : PySem.W.Frag
  mg : Str → Option Value
  base : Heap
  A : Around
  N : List Str
  s₀ : Shared
  H₀ : Hp
  env : Env
  outer : List Env
  stack : List Env
  ex : List Addr
  fn : Str → Bool
  calm : Bool
  pn : List (Addr × Obj)
  xe : Value → Shared → Prop
def frs (l : List Env) : List Addr := l.filterMap (·.frame)
abbrev Cx.fs (X : Cx) : List Addr := frs X.outer
def Vis (sc : Scope) (x : Str) : Prop := sc.names.lookup x = some .local ∨ sc.names.lookup x = some .cell ∨ sc.names.lookup x = some .free
def Loc (sc : Scope) (x : Str) : Prop := sc.names.lookup x = some .local ∨ sc.names.lookup x = some .cell
def Look (env : Env) (h : Heap) (m : Str → Option Value) (x : Str) (u : Value) : Prop :=
  (env.kindOf x = some .local ∧ m x = some u) ∨ ((env.kindOf x = some .cell ∨ env.kindOf x = some .free) ∧ ∃ c, env.cells.lookup x = some c ∧ h.IsCell c (some u))
structure Cx.Ok (X : Cx) : Prop where
  mod : Mod X.K X.mg X.base
  kind : X.env.scope.kind = .function
  glob : X.env.globals = mainGlobals
  blt : X.env.builtins = builtinsNs
  above : X.s₀.heap.objs.size ≤ X.env.locals
  inj : ∀ x y c, X.env.cells.lookup x = some c → X.env.cells.lookup y = some c → x = y
  has : ∀ x, (X.env.kindOf x = some .cell ∨ X.env.kindOf x = some .free) → ∃ c, X.env.cells.lookup x = some c
  cab : ∀ x c, X.fn x = true → X.env.cells.lookup x = some c → X.s₀.heap.objs.size ≤ c
  hd : X.calm = true → X.A.handled = none
  frames : X.A.frames = some X.stack
  stk : X.stack = X.outer ∨ (X.stack = X.env :: X.outer ∧ X.env.frame = some X.env.locals)
  exf : ∀ b ∈ X.ex, b ≠ X.env.locals ∧ ∀ x c, X.env.cells.lookup x = some c → c ≠ b
  bs : ∀ b o, X.base.get? b = some o → X.s₀.heap.get? b = some o ∧ X.H₀ b = none
  bsz : X.base.objs.size ≤ X.s₀.heap.objs.size
  noex : ∀ b o, X.base.get? b = some o → b ∉ X.ex
  exfs : ∀ b ∈ X.ex, b ∉ X.fs
  funs : X.s₀.heap.FunFrames X.base X.outer
  frf : ∀ b ∈ X.fs, X.H₀ b = none
structure Inv (X : Cx) (pins : List (Addr × Obj)) (σ : List (Option V)) (H : Hp) (s : Shared) : Prop where
  ok : X.Ok
  os : s.os = X.s₀.os
  bare : AllBare s.gens
  base : Un X.fs X.ex X.H₀ H X.s₀.heap s.heap
  loc : ∃ m, s.heap.Ns X.env.locals m ∧ ∀ (i : Nat) (x : Str) (v : V), X.N[i]? = some x → σ[i]? = some (some v) → Vis X.env.scope x → ∃ u, RelV v u ∧ Look X.env s.heap m x u
  cell : ∀ x c, X.env.cells.lookup x = some c → ∃ v, s.heap.IsCell c v
  free : H X.env.locals = none
  freeC : ∀ x c, X.env.cells.lookup x = some c → H c = none
  pin : ∀ p ∈ X.pn ++ pins, s.heap.get? p.1 = some p.2 ∧ H p.1 = none ∧ p.1 ≠ X.env.locals ∧ p.1 ∉ X.fs ∧ ∀ v, p.2.data ≠ .cell v
  hok : HOk X.prog X.w H s.heap
  len : σ.length = X.N.length
section
variable {X : Cx} {pins : List (Addr × Obj)} {σ : List (Option V)} {H H' : Hp} {s : Shared} {h' : Heap}
theorem Cx.Ok.nofr (ok : X.Ok) {b : Addr} {o : Obj} (e : X.base.get? b = some o) : b ∉ X.fs := fun hb => by
  have := (ok.funs.mem hb).1
  rw [e] at this; cases this
theorem Inv.bs (I : Inv X pins σ H s) : ∀ b o, X.base.get? b = some o → s.heap.get? b = some o ∧ H b = none := fun b o e =>
  ⟨I.base.keep b o (I.ok.bs b o e).1 (I.ok.bs b o e).2 (I.ok.nofr e) (I.ok.noex b o e), I.base.free b o (I.ok.bs b o e).1 (I.ok.bs b o e).2 (I.ok.noex b o e)⟩
theorem Inv.bk (I : Inv X pins σ H s) : ∀ b o, X.base.get? b = some o → s.heap.get? b = some o := fun b o e => (I.bs b o e).1
theorem Inv.mod (I : Inv X pins σ H s) : Mod X.K X.mg X.base := I.ok.mod
theorem Inv.kIn (I : Inv X pins σ H s) : X.K.In s.heap := I.ok.mod.kin.keeps I.bk
theorem Inv.lt (I : Inv X pins σ H s) : X.env.locals < s.heap.objs.size := let ⟨_, hn, _⟩ := I.loc; hn.lt
theorem Inv.sz (I : Inv X pins σ H s) : X.s₀.heap.objs.size ≤ s.heap.objs.size := Nat.le_trans I.ok.above (Nat.le_of_lt I.lt)
theorem Inv.nofs (I : Inv X pins σ H s) {a : Addr} (h : s.heap.objs.size ≤ a) : a ∉ X.fs := fun hb => by
  obtain ⟨_, o, ho, _⟩ := I.ok.funs.mem hb
  exact absurd (Nat.lt_of_lt_of_le (Heap.lt_size ho) (Nat.le_trans I.sz h)) (Nat.lt_irrefl _)
theorem Inv.cne (I : Inv X pins σ H s) : ∀ x c, X.env.cells.lookup x = some c → c ≠ X.env.locals := fun x c e z => by
  obtain ⟨v, o, ho, hd⟩ := I.cell x c e
  obtain ⟨m, ⟨o', es, ep, ho', hd', _⟩, _⟩ := I.loc
  rw [z, ho'] at ho; cases ho; rw [hd'] at hd; cases hd
theorem Inv.funs (I : Inv X pins σ H s) : s.heap.FunFrames X.base X.outer := by
  have all : ∀ (l : List Env), (∀ b ∈ frs l, b ∈ X.fs) → X.s₀.heap.FunFrames X.base l → s.heap.FunFrames X.base l := by
    intro l
    induction l with
    | nil => intro _ _; trivial
    | cons env r ih =>
      intro hs hl
      obtain ⟨hk, ⟨L, o, hf, hn, ho, hd⟩, hr⟩ := hl
      have hL : L ∈ X.fs := hs L (by unfold frs; rw [List.filterMap_cons, hf]; exact List.mem_cons_self)
      obtain ⟨sl, e⟩ := I.base.slot L o ho (I.ok.frf L hL) hL fun z => I.ok.exfs L z hL
      exact ⟨hk, ⟨L, _, hf, hn, e, hd⟩, ih (fun b hb => hs b (by unfold frs; rw [List.filterMap_cons, hf]; exact List.mem_cons_of_mem _ hb)) hr⟩
  exact all X.outer (fun _ hb => hb) I.ok.funs
theorem Inv.stack (I : Inv X pins σ H s) : s.heap.FunFrames X.base X.stack := by
  rcases I.ok.stk with e | ⟨e, hf⟩
  · rw [e]; exact I.funs
  · rw [e]
    obtain ⟨m, hn, _⟩ := I.loc
    refine .cons (by rw [I.ok.kind]; decide) hf hn ?_ I.funs
    exact Heap.get?_none_of_le (Nat.le_trans I.ok.bsz I.ok.above)
theorem Inv.stkSub (I : Inv X pins σ H s) : ∀ b ∈ frs X.stack, b ∈ X.env.locals :: X.fs := fun b hb => by
  rcases I.ok.stk with e | ⟨e, hf⟩
  · rw [e] at hb; exact List.mem_cons_of_mem _ hb
  · rw [e] at hb
    unfold frs at hb
    rw [List.filterMap_cons, hf] at hb
    exact hb
theorem Inv.stkFree (I : Inv X pins σ H s) : ∀ b ∈ frs X.stack, H b = none := fun b hb => by
  rcases List.mem_cons.mp (I.stkSub b hb) with e | hb
  · rw [e]; exact I.free
  · obtain ⟨_, o, ho, _⟩ := I.ok.funs.mem hb
    exact I.base.free b o ho (I.ok.frf b hb) fun z => I.ok.exfs b z hb
theorem Inv.step {g' : Array GenState} {t' : Nat} {d' : Drawn} {ch : List Addr} (I : Inv X pins σ H s)
    (hch : ∀ b ∈ ch, (b ∈ X.ex ∨ X.s₀.heap.objs.size ≤ b) ∧ b ≠ X.env.locals ∧ (∀ x c, X.env.cells.lookup x = some c → c ≠ b) ∧ ∀ p ∈ X.pn ++ pins, p.1 ≠ b)
    (keep : ∀ b o, b ≠ X.env.locals → b ∉ X.fs → b ∉ ch → s.heap.get? b = some o → H b = none → h'.get? b = some o)
    (slot : ∀ b o, b ≠ X.env.locals → b ∈ X.fs → b ∉ ch → s.heap.get? b = some o → H b = none → ∃ sl, h'.get? b = some { o with slots := sl }) (free : ∀ b o, b ∉ ch → s.heap.get? b = some o → H b = none → H' b = none)
    (there : ∀ b o, b ∉ ch → s.heap.get? b = some o → ∃ o', h'.get? b = some o')
    (tups : ∀ b xs, H b = some (.tup xs) → H' b = some (.tup xs)) (frzs : ∀ b o u, H b = some (.frz o u) → H' b = some (.frz o u)) (tbls : ∀ b ps, H b = some (.tbl ps) → ∃ more, H' b = some (.tbl (ps ++ more)))
    (ns : ∀ m, s.heap.Ns X.env.locals m → h'.Ns X.env.locals m) (hok : HOk X.prog X.w H' h') (hg : AllBare g') :
    Inv X pins σ H' { s with heap := h', gens := g', drawn := d', toks := t' } := by
  have neL : ∀ b o, X.s₀.heap.get? b = some o → b ≠ X.env.locals := fun b o e => Nat.ne_of_lt (Nat.lt_of_lt_of_le (Heap.lt_size e) I.ok.above)
  have neC : ∀ b o, X.s₀.heap.get? b = some o → b ∉ X.ex → b ∉ ch := fun b o e hx hb => by
    rcases (hch b hb).1 with z | z
    · exact hx z
    · exact absurd (Nat.lt_of_lt_of_le (Heap.lt_size e) z) (Nat.lt_irrefl _)
  have cellK : ∀ x c, X.env.cells.lookup x = some c → ∀ v, s.heap.IsCell c v → h'.IsCell c v := fun x c e v ⟨o, ho, hd⟩ => by
    have nch : c ∉ ch := fun z => (hch c z).2.2.1 x c e rfl
    by_cases hc : c ∈ X.fs
    · obtain ⟨sl, q⟩ := slot c o (I.cne x c e) hc nch ho (I.freeC x c e)
      exact ⟨_, q, hd⟩
    · exact ⟨o, keep c o (I.cne x c e) hc nch ho (I.freeC x c e), hd⟩
  refine ⟨I.ok, I.os, hg, ⟨fun b o e n hb hx => ?_, fun b o e n hb hx => ?_, fun b o e n hx => ?_, fun b o e hx => ?_, fun b xs e => tups b xs (I.base.tups b xs e), fun b o xs e => frzs b o xs (I.base.frzs b o xs e), fun b ps e => ?_⟩, ?_, fun x c e => ?_, ?_, fun x c e => ?_, fun p hp => ?_, hok, I.len⟩
  · exact keep b o (neL b o e) hb (neC b o e hx) (I.base.keep b o e n hb hx) (I.base.free b o e n hx)
  · obtain ⟨sl, e1⟩ := I.base.slot b o e n hb hx
    obtain ⟨sl', e2⟩ := slot b _ (neL b o e) hb (neC b o e hx) e1 (I.base.free b o e n hx)
    exact ⟨sl', e2⟩
  · obtain ⟨o', e1⟩ := I.base.there b o e hx
    exact free b o' (neC b o e hx) e1 (I.base.free b o e n hx)
  · obtain ⟨o', e1⟩ := I.base.there b o e hx
    exact there b o' (neC b o e hx) e1
  · obtain ⟨m1, e1⟩ := I.base.tbls b ps e
    obtain ⟨m2, e2⟩ := tbls b _ e1
    exact ⟨m1 ++ m2, by rw [e2, Array.append_assoc]⟩
  · obtain ⟨m, hn, hl⟩ := I.loc
    refine ⟨m, ns m hn, fun i x v e1 e2 e3 => ?_⟩
    obtain ⟨u, r, l⟩ := hl i x v e1 e2 e3
    refine ⟨u, r, ?_⟩
    rcases l with l | ⟨k, c, e, z⟩
    · exact .inl l
    · exact .inr ⟨k, c, e, cellK x c e _ z⟩
  · obtain ⟨v, z⟩ := I.cell x c e
    exact ⟨v, cellK x c e v z⟩
  · obtain ⟨m, ⟨o, _, _, ho, _⟩, _⟩ := I.loc
    exact free _ o (fun z => (hch _ z).2.1 rfl) ho I.free
  · obtain ⟨v, o, ho, hd⟩ := I.cell x c e
    exact free c o (fun z => (hch c z).2.2.1 x c e rfl) ho (I.freeC x c e)
  · obtain ⟨e, n, ne, nf, d⟩ := I.pin p hp
    have nch : p.1 ∉ ch := fun z => (hch p.1 z).2.2.2 p hp rfl
    exact ⟨keep p.1 p.2 ne nf nch e n, free p.1 p.2 nch e n, ne, nf, d⟩
theorem Inv.un {t' : Nat} (I : Inv X pins σ H s) (u : Un X.fs [] H H' s.heap h') (hok : HOk X.prog X.w H' h') : Inv X pins σ H' { s with heap := h', toks := t' } := by
  obtain ⟨m, ⟨o, es, ep, ho, r⟩, _⟩ := id I.loc
  obtain ⟨sl, hL⟩ := u.any ho I.free (by simp)
  exact I.step (g' := s.gens) (d' := s.drawn) (ch := []) (fun _ z => nomatch z) (fun b o _ hb _ e n => u.keep b o e n hb (by simp)) (fun b o _ hb _ e n => u.slot b o e n hb (by simp)) (fun b o _ e n => u.free b o e n (by simp)) (fun b o _ e => u.there b o e (by simp)) u.tups u.frzs u.tbls (fun m' hm => by
    obtain ⟨o', es', ep', ho', r'⟩ := hm
    rw [ho] at ho'; cases ho'
    exact ⟨_, es', ep', hL, r'⟩) hok I.bare
theorem Inv.call {g' : Array GenState} {t' : Nat} {d' : Drawn} {ch : List Addr} (I : Inv X pins σ H s) (u : Un (frs X.stack) ch H H' s.heap h') (hok : HOk X.prog X.w H' h') (hg : AllBare g')
    (hch : ∀ b ∈ ch, (b ∈ X.ex ∨ X.s₀.heap.objs.size ≤ b) ∧ b ≠ X.env.locals ∧ (∀ x c, X.env.cells.lookup x = some c → c ≠ b) ∧ ∀ p ∈ X.pn ++ pins, p.1 ≠ b) :
    Inv X pins σ H' { s with heap := h', gens := g', drawn := d', toks := t' } := by
  obtain ⟨m, ⟨o, es, ep, ho, r⟩, _⟩ := id I.loc
  obtain ⟨sl, hL⟩ := u.any ho I.free fun z => (hch _ z).2.1 rfl
  exact I.step (ch := ch) hch (fun b o hL hb hc e n => u.keep b o e n (fun z => (List.mem_cons.mp (I.stkSub b z)).elim hL hb) hc) (fun b o _ _ hc e n => u.any e n hc) (fun b o hc e n => u.free b o e n hc) (fun b o hc e => u.there b o e hc) u.tups u.frzs u.tbls (fun m' hm => by
    obtain ⟨o', es', ep', ho', r'⟩ := hm
    rw [ho] at ho'; cases ho'
    exact ⟨_, es', ep', hL, r'⟩) hok hg
theorem Inv.turned {t' : Nat} {it : Addr} (I : Inv X pins σ H s) (k : ∀ b o, b ≠ it → s.heap.get? b = some o → h'.get? b = some o) (hn : H it = none) (hL : it ≠ X.env.locals)
    (h1 : it ∈ X.ex ∨ X.s₀.heap.objs.size ≤ it) (h2 : ∀ x c, X.env.cells.lookup x = some c → c ≠ it) (h3 : ∀ p ∈ X.pn ++ pins, p.1 ≠ it) : Inv X pins σ H { s with heap := h', toks := t' } := by
  have nit : ∀ b u, H b = some u → b ≠ it := fun b u e z => by rw [z, hn] at e; cases e
  refine I.step (g' := s.gens) (d' := s.drawn) (ch := [it]) (fun b hb => ?_) (fun b o _ _ hc e _ => k b o (fun z => hc (by simp [z])) e) (fun b o _ _ hc e _ => ⟨o.slots, k b o (fun z => hc (by simp [z])) e⟩) (fun _ _ _ _ n => n)
    (fun b o hc e => ⟨o, k b o (fun z => hc (by simp [z])) e⟩) (fun _ _ e => e) (fun _ _ _ e => e) (fun b ps e => ⟨#[], by rw [e]; simp⟩) (fun m hm => ?_) (fun b u e => ?_) I.bare
  · have e : b = it := by simpa using hb
    subst e
    exact ⟨h1, hL, h2, h3⟩
  · obtain ⟨o, es, ep, ho, r⟩ := hm
    exact ⟨o, es, ep, k _ o (Ne.symm hL) ho, r⟩
  · refine (I.hok b u e).stay (fun c v hc q => k c v ?_ q) (fun _ q => q) fun _ _ q => q
    rcases hc with z | z
    · rw [z]; exact nit b u e
    · exact nit c _ z
theorem Inv.tok (I : Inv X pins σ H s) (t : Nat) : Inv X pins σ H { s with toks := t } := I.un (h' := s.heap) (t' := t) Un.refl I.hok
theorem Inv.kept {t' : Nat} (I : Inv X pins σ H s) (k : ∀ b u, s.heap.get? b = some u → h'.get? b = some u) : Inv X pins σ H { s with heap := h', toks := t' } := I.un (Un.kept k) (I.hok.kept k)
theorem Inv.laid {a : Addr} {o : HO} {t' : Nat} (I : Inv X pins σ H s) (k : ∀ b u, s.heap.get? b = some u → h'.get? b = some u) (hp : s.heap.objs.size ≤ a) (new : ObjOk X.prog X.w (upd H a o) h' a o) :
    Inv X pins σ (upd H a o) { s with heap := h', toks := t' } := I.un (Un.laid k hp (I.hok.fresh hp)) (I.hok.laid k hp new)
theorem Inv.write {x e : Addr} {o : HO} {t' : Nat} (I : Inv X pins σ H s) (mu : Mut (H x)) (he : e = x ∨ H e = some (.own x)) (k : ∀ b u, b ≠ e → s.heap.get? b = some u → h'.get? b = some u) (heo : ∃ u, h'.get? e = some u)
    (new : ObjOk X.prog X.w (upd H x o) h' x o) : Inv X pins σ (upd H x o) { s with heap := h', toks := t' } := I.un (Un.write mu he k heo) (I.hok.write mu he k heo new)
theorem Inv.pins_of {pins' : List (Addr × Obj)} (I : Inv X pins σ H s) (h : ∀ p ∈ pins', s.heap.get? p.1 = some p.2 ∧ H p.1 = none ∧ p.1 ≠ X.env.locals ∧ p.1 ∉ X.fs ∧ ∀ v, p.2.data ≠ .cell v) : Inv X pins' σ H s :=
  ⟨I.ok, I.os, I.bare, I.base, I.loc, I.cell, I.free, I.freeC, fun p hp => (List.mem_append.mp hp).elim (fun z => I.pin p (List.mem_append_left _ z)) (h p), I.hok, I.len⟩
theorem nodup_ix {N : List Str} (hN : N.Nodup) {i j : Nat} {x : Str} (a : N[i]? = some x) (b : N[j]? = some x) : i = j := by
  obtain ⟨h1, e1⟩ := List.getElem?_eq_some_iff.mp a
  obtain ⟨h2, e2⟩ := List.getElem?_eq_some_iff.mp b
  exact (List.getElem_inj hN).mp (e1.trans e2.symm)
theorem store_ok2 {M : Model} {A : Around} {E : Value → Shared → Prop} {i : Nat} {x : Str} {v : V} {u : Value} {Q : Unit → Shared → Prop} (I : Inv X pins σ H s) (hN : X.N.Nodup) (hi : X.N[i]? = some x) (hx : Loc X.env.scope x) (r : RelV v u)
    (h : ∀ s', Inv X pins (σ.set i (some v)) H s' → (∃ a, Heap.SameBut a s.heap s'.heap ∧ (a = X.env.locals ∨ X.env.cells.lookup x = some a)) → Q () s') (hf : X.fn x = true ∨ X.env.scope.names.lookup x = some .local := by first | exact .inl rfl | exact .inr rfl | assumption) : wpAny M A (storeName X.env x u) Q E s := by
  obtain ⟨m, hn, hl⟩ := id I.loc
  have hcls : (X.env.scope.kind == .class || (X.env.scope.kind == .module && X.env.locals != X.env.globals)) = false := by rw [I.ok.kind]; rfl
  have hiσ : i < σ.length := by rw [I.len]; exact (List.getElem?_eq_some_iff.mp hi).1
  have cne := I.cne
  have tracked : ∀ {a : Addr} {h' : Heap}, (∃ o, s.heap.get? a = some o ∧ H a = none) → Heap.SameBut a s.heap h' → HOk X.prog X.w H h' := fun {a h'} ha hs b ob e => by
    obtain ⟨_, _, hfree⟩ := ha
    refine (I.hok b ob e).stay (fun c w' hc q => (hs.2 c ?_).trans q) (fun _ q => q) fun _ _ q => q
    rintro rfl
    rcases hc with rfl | hc
    · rw [hfree] at e; cases e
    · rw [hfree] at hc; cases hc
  rcases hx with hk | hk
  · refine wpAny_storeName_local hk hn (fun h' hn' hs => ?_) hcls
    obtain ⟨oL, _, _, hoL, _⟩ := id hn
    refine h _ ⟨I.ok, I.os, I.bare, ⟨fun b o e n hb hx => ?_, fun b o e n hb hx => ?_, I.base.free, fun b o e hx => ?_, I.base.tups, I.base.frzs, I.base.tbls⟩, ⟨_, hn', fun j y v' e1 e2 e3 => ?_⟩, fun y c e => ?_, I.free, I.freeC, fun p hp => ?_, tracked ⟨oL, hoL, I.free⟩ hs, by simpa using I.len⟩ ⟨_, hs, .inl rfl⟩
    · exact (hs.2 b (Nat.ne_of_lt (Nat.lt_of_lt_of_le (Heap.lt_size e) I.ok.above))).trans (I.base.keep b o e n hb hx)
    · obtain ⟨sl, e1⟩ := I.base.slot b o e n hb hx
      exact ⟨sl, (hs.2 b (Nat.ne_of_lt (Nat.lt_of_lt_of_le (Heap.lt_size e) I.ok.above))).trans e1⟩
    · obtain ⟨o', e1⟩ := I.base.there b o e hx
      exact ⟨o', (hs.2 b (Nat.ne_of_lt (Nat.lt_of_lt_of_le (Heap.lt_size e) I.ok.above))).trans e1⟩
    · by_cases hj : j = i
      · subst hj
        rw [hi] at e1; cases e1
        rw [List.getElem?_set_self hiσ] at e2
        cases e2
        exact ⟨u, r, .inl ⟨hk, by simp⟩⟩
      · rw [List.getElem?_set_ne (Ne.symm hj)] at e2
        obtain ⟨u', r', q⟩ := hl j y v' e1 e2 e3
        refine ⟨u', r', ?_⟩
        rcases q with ⟨k, e⟩ | ⟨k, c, e, z⟩
        · refine .inl ⟨k, ?_⟩
          have : y ≠ x := fun e => hj (nodup_ix hN e1 (e ▸ hi))
          simp [this, e]
        · exact .inr ⟨k, c, e, z.sameBut hs (cne y c e)⟩
    · obtain ⟨w', z⟩ := I.cell y c e
      exact ⟨w', z.sameBut hs (cne y c e)⟩
    · obtain ⟨e, n, ne, nf, d⟩ := I.pin p hp
      exact ⟨(hs.2 p.1 ne).trans e, n, ne, nf, d⟩
  · have hfn : X.fn x = true := by
      rcases hf with z | z
      · exact z
      · rw [z] at hk; cases hk
    obtain ⟨c, hc⟩ := I.ok.has x (.inl hk)
    obtain ⟨w', z⟩ := I.cell x c hc
    refine wpAny_storeName_cell I.ok.kind hk hc z (fun h' hc' hs => ?_)
    obtain ⟨oc, hoc, hocd⟩ := id z
    refine h { s with heap := h' } ⟨I.ok, I.os, I.bare, ⟨fun b o e n hb hx => ?_, fun b o e n hb hx => ?_, I.base.free, fun b o e hx => ?_, I.base.tups, I.base.frzs, I.base.tbls⟩, ⟨m, hn.sameBut hs (Ne.symm (cne x c hc)), fun j y v' e1 e2 e3 => ?_⟩, fun y c' e => ?_, I.free, I.freeC, fun p hp => ?_, tracked ⟨oc, hoc, I.freeC x c hc⟩ hs, by simpa using I.len⟩ ⟨c, hs, .inr hc⟩
    · exact (hs.2 b (Nat.ne_of_lt (Nat.lt_of_lt_of_le (Heap.lt_size e) (I.ok.cab x c hfn hc)))).trans (I.base.keep b o e n hb hx)
    · obtain ⟨sl, e1⟩ := I.base.slot b o e n hb hx
      exact ⟨sl, (hs.2 b (Nat.ne_of_lt (Nat.lt_of_lt_of_le (Heap.lt_size e) (I.ok.cab x c hfn hc)))).trans e1⟩
    · obtain ⟨o', e1⟩ := I.base.there b o e hx
      exact ⟨o', (hs.2 b (Nat.ne_of_lt (Nat.lt_of_lt_of_le (Heap.lt_size e) (I.ok.cab x c hfn hc)))).trans e1⟩
    · by_cases hj : j = i
      · subst hj
        rw [hi] at e1; cases e1
        rw [List.getElem?_set_self hiσ] at e2
        cases e2
        exact ⟨u, r, .inr ⟨.inl hk, c, hc, hc'⟩⟩
      · rw [List.getElem?_set_ne (Ne.symm hj)] at e2
        obtain ⟨u', r', q⟩ := hl j y v' e1 e2 e3
        refine ⟨u', r', ?_⟩
        rcases q with q | ⟨k, c', e, z'⟩
        · exact .inl q
        · refine .inr ⟨k, c', e, z'.sameBut hs ?_⟩
          rintro rfl
          exact hj (nodup_ix hN e1 (I.ok.inj _ _ _ e hc ▸ hi))
    · by_cases hcc : c' = c
      · subst hcc; exact ⟨_, hc'⟩
      · obtain ⟨w2, z2⟩ := I.cell y c' e
        exact ⟨w2, z2.sameBut hs hcc⟩
    · obtain ⟨e, n, ne, nf, d⟩ := I.pin p hp
      refine ⟨(hs.2 p.1 ?_).trans e, n, ne, nf, d⟩
      intro q
      rw [q, hoc] at e
      have q' : oc = p.2 := Option.some.inj e
      exact d w' (by rw [← q']; exact hocd)
theorem store_ok {M : Model} {A : Around} {E : Value → Shared → Prop} {i : Nat} {x : Str} {v : V} {u : Value} {Q : Unit → Shared → Prop} (I : Inv X pins σ H s) (hN : X.N.Nodup) (hi : X.N[i]? = some x) (hx : Loc X.env.scope x) (r : RelV v u)
    (h : ∀ s', Inv X pins (σ.set i (some v)) H s' → Q () s') (hf : X.fn x = true ∨ X.env.scope.names.lookup x = some .local := by first | exact .inl rfl | exact .inr rfl | assumption) : wpAny M A (storeName X.env x u) Q E s :=
  store_ok2 I hN hi hx r (fun s' I' _ => h s' I') hf
theorem Inv.call' {s' : Shared} {ch : List Addr} (I : Inv X pins σ H s) (ho : s'.os = s.os) (u : Un (frs X.stack) ch H H' s.heap s'.heap) (hok : HOk X.prog X.w H' s'.heap) (hg : AllBare s'.gens)
    (hch : ∀ b ∈ ch, (b ∈ X.ex ∨ X.s₀.heap.objs.size ≤ b) ∧ b ≠ X.env.locals ∧ (∀ x c, X.env.cells.lookup x = some c → c ≠ b) ∧ ∀ p ∈ X.pn ++ pins, p.1 ≠ b) : Inv X pins σ H' s' := by
  obtain ⟨h', g', d', t', o'⟩ := s'
  have e : o' = s.os := ho
  subst e
  exact I.call (g' := g') (t' := t') (d' := d') u hok hg hch
end
abbrev XK := Value → Option Addr → Hp → Prop
abbrev St := List (Option V)
abbrev VK := V → Hp → Prop
abbrev TE := St → Hp → VK → Prop
abbrev TT := St → Hp → (Bool → Hp → Prop) → Prop
abbrev TA := St → Hp → (List V → Hp → Prop) → Prop
structure Ends where
  nx : St → Hp → Prop
  rt : VK
  bk : St → Hp → Prop := fun _ _ => False
  ct : St → Hp → Prop := fun _ _ => False
abbrev TS := Ends → St → Hp → Prop
def EP (X : Cx) (pins : List (Addr × Obj)) (σ : St) (Q : VK) (u : Value) (s' : Shared) : Prop := ∃ v H', Inv X pins σ H' s' ∧ RelV v u ∧ Q v H'
def TP (X : Cx) (pins : List (Addr × Obj)) (σ : St) (Q : Bool → Hp → Prop) (b : Bool) (s' : Shared) : Prop := ∃ H', Inv X pins σ H' s' ∧ Q b H'
def AP (X : Cx) (pins : List (Addr × Obj)) (σ : St) (Q : List V → Hp → Prop) (us : List Value) (s' : Shared) : Prop := ∃ vs H', Inv X pins σ H' s' ∧ Vals vs us ∧ Q vs H'
def SP (X : Cx) (pins : List (Addr × Obj)) (D : Ends) (f : Flow) (s' : Shared) : Prop :=
  match f with
  | .next => ∃ σ' H', Inv X pins σ' H' s' ∧ D.nx σ' H'
  | .brk => ∃ σ' H', Inv X pins σ' H' s' ∧ D.bk σ' H'
  | .cont => ∃ σ' H', Inv X pins σ' H' s' ∧ D.ct σ' H'
  | .ret u => ∃ v σ' H', Inv X pins σ' H' s' ∧ RelV v u ∧ D.rt v H'
def PE (X : Cx) (e : Expr) (t : TE) : Prop :=
  ∀ (pins : List (Addr × Obj)) (s : Shared) (σ : St) (H : Hp) (Q : VK), Inv X pins σ H s → t σ H Q → wpAny (model X.prog X.w) X.A (eval e X.env) (EP X pins σ Q) X.xe s
def PT (X : Cx) (e : Expr) (t : TT) : Prop :=
  ∀ (pins : List (Addr × Obj)) (s : Shared) (σ : St) (H : Hp) (Q : Bool → Hp → Prop), Inv X pins σ H s → t σ H Q → wpAny (model X.prog X.w) X.A (isTrue e X.env (eval e X.env)) (TP X pins σ Q) X.xe s
def PW (X : Cx) (e : Expr) (t : TT) : Prop :=
  ∀ (whole : Sem Value) (pins : List (Addr × Obj)) (s : Shared) (σ : St) (H : Hp) (Q : Bool → Hp → Prop), Inv X pins σ H s → t σ H Q → wpAny (model X.prog X.w) X.A (isTrue e X.env whole) (TP X pins σ Q) X.xe s
theorem PW.pt {X : Cx} {e : Expr} {t : TT} (h : PW X e t) : PT X e t := h _
def PA (X : Cx) (es : List Expr) (t : TA) : Prop :=
  ∀ (pos : Pos) (pins : List (Addr × Obj)) (s : Shared) (σ : St) (H : Hp) (Q : List V → Hp → Prop), Inv X pins σ H s → t σ H Q → wpAny (model X.prog X.w) X.A (spliced (backTo pos (starEach es X.env))) (AP X pins σ Q) X.xe s
def PS (X : Cx) (st : Stmt) (t : TS) : Prop :=
  ∀ (pins : List (Addr × Obj)) (s : Shared) (σ : St) (H : Hp) (D : Ends), Inv X pins σ H s → t D σ H → wpAny (model X.prog X.w) X.A (exec st X.env) (SP X pins D) X.xe s
def PSs (X : Cx) (st : List Stmt) (t : TS) : Prop :=
  ∀ (pins : List (Addr × Obj)) (s : Shared) (σ : St) (H : Hp) (D : Ends), Inv X pins σ H s → t D σ H → wpAny (model X.prog X.w) X.A (execs st X.env) (SP X pins D) X.xe s
theorem thn {α : Type} {t : Sem α} {Q Q' : α → Shared → Prop} {M : Model} {A : Around} {E : Value → Shared → Prop} {s : Shared} (h : wpAny M A t Q E s) (hQ : ∀ a s, Q a s → Q' a s) : wpAny M A t Q' E s := wpAny_mono h hQ fun _ _ x => x
end L2
namespace L2
open PySem PySem.Spec PyProof.Rows
section
variable {X : Cx}
def tVar (i : Nat) : TE := fun σ H Q => ∃ v, σ[i]? = some (some v) ∧ Q v H
def tC (v : V) : TE := fun _ H Q => Q v H
theorem pe_var {i : Nat} {x : Str} {pos : Pos} (hN : X.N[i]? = some x) (hv : Vis X.env.scope x) (hd : (x == ("__debug__" : Str)) = false := by decide) (hcd : (x == ("__classdict__" : Str)) = false := by decide) : PE X (.Name x pos) (tVar i) := by
  intro pins s σ H Q I h
  obtain ⟨v, e, h⟩ := h
  obtain ⟨m, hn, hl⟩ := I.loc
  obtain ⟨u, r, l⟩ := hl i x v hN e hv
  have fin : EP X pins σ Q u s := ⟨v, H, I, r, h⟩
  rcases l with ⟨hk, hm⟩ | ⟨hk, c, hc, hcell⟩
  · exact wpAny_Name (wpAny_loadName_local I.ok.kind hk hn hm fin) hd
  · rcases hk with hk | hk
    · exact wpAny_Name (wpAny_loadName_cell I.ok.kind hk hc hcell fin) hd
    · exact wpAny_Name (wpAny_loadName_free I.ok.kind hk hc hcell fin hcd) hd
theorem pe_int {i j pos} : PE X (.Constant (.int i) j pos) (tC (.int i)) := fun _ _ _ H _ I h => wpAny_Constant_int ⟨.int i, H, I.tok _, ⟨_, rfl⟩, h⟩
theorem pe_bl {b j pos} : PE X (.Constant (.bool b) j pos) (tC (.bl b)) := fun _ _ _ H _ I h => Constant_bool ⟨.bl b, H, I, rfl, h⟩
theorem pe_non {j pos} : PE X (.Constant .none j pos) (tC .non) := fun _ _ _ H _ I h => Constant_none ⟨.non, H, I, rfl, h⟩
theorem pe_str {x j pos} : PE X (.Constant (.str x) j pos) (tC (.str x)) := fun _ _ _ H _ I h => Calls.Constant_str ⟨.str x, H, I.tok _, ⟨_, rfl⟩, h⟩
def Gl (X : Cx) (x : Str) : Prop := X.env.kindOf x = some .globalImplicit
theorem ld_glob {E : Value → Shared → Prop} {pins : List (Addr × Obj)} {s : Shared} {σ : St} {H : Hp} {x : Str} {u : Value} {pos : Pos} {Q : Value → Shared → Prop} (I : Inv X pins σ H s) (hg : Gl X x) (hm : X.mg x = some u) (h : Q u s)
    (hd : (x == ("__debug__" : Str)) = false := by decide) : wpAny (model X.prog X.w) X.A (eval (.Name x pos) X.env) Q E s :=
  Calls.Name_function_global I.ok.kind hg (Calls.loadGlobal_global (by rw [I.ok.glob]; exact I.mod.glob.keeps I.bk) hm h) hd
theorem ld_blt {E : Value → Shared → Prop} {pins : List (Addr × Obj)} {s : Shared} {σ : St} {H : Hp} {x : Str} {u : Value} {pos : Pos} {Q : Value → Shared → Prop} (I : Inv X pins σ H s) (hg : Gl X x) (hm : X.mg x = none) (hv : bootBuiltins x = some u) (h : Q u s)
    (hn : x ≠ "__name__" := by decide) (hd : (x == ("__debug__" : Str)) = false := by decide) : wpAny (model X.prog X.w) X.A (eval (.Name x pos) X.env) Q E s := by
  obtain ⟨mb, h1, h2⟩ := I.mod.blt
  exact Calls.Name_function_global I.ok.kind hg (Calls.loadGlobal_builtin (by rw [I.ok.glob]; exact I.mod.glob.keeps I.bk) hm (by rw [I.ok.blt]; exact h1.keeps I.bk) ((h2 x hn).trans hv) h) hd
theorem pe_glob {x : Str} {v : V} {u : Value} {pos : Pos} (hg : Gl X x) (hm : X.mg x = some u) (r : RelV v u) (hd : (x == ("__debug__" : Str)) = false := by decide) : PE X (.Name x pos) (tC v) :=
  fun _ _ _ H _ I h => ld_glob I hg hm ⟨v, H, I, r, h⟩ hd
theorem pe_bltn {x : Str} {v : V} {u : Value} {pos : Pos} (hg : Gl X x) (hm : X.mg x = none) (hv : bootBuiltins x = some u) (r : RelV v u) (hn : x ≠ "__name__" := by decide) (hd : (x == ("__debug__" : Str)) = false := by decide) : PE X (.Name x pos) (tC v) :=
  fun _ _ _ H _ I h => ld_blt I hg hm hv ⟨v, H, I, r, h⟩ hn hd
variable {a b : Expr} {ta tb : TE} {pos : Pos}
def PC (X : Cx) (op : CmpOp) (a b : Expr) (t : TE) : Prop :=
  ∀ (pins : List (Addr × Obj)) (s : Shared) (σ : St) (H : Hp) (Q : VK), Inv X pins σ H s → t σ H Q →
    wpAny (model X.prog X.w) X.A (eval a X.env) (fun v s₁ => wpAny (model X.prog X.w) X.A (eval b X.env) (fun u s₂ => wpAny (model X.prog X.w) X.A (compareOp op v u) (EP X pins σ Q) X.xe s₂) X.xe s₁) X.xe s
theorem nobehind (b : Expr) {op : CmpOp} (h : op ≠ .In) (h2 : op ≠ .NotIn) : behindInMarks op b = false := by
  have e1 : (op == CmpOp.In) = false := by cases op <;> first | rfl | exact absurd rfl h
  have e2 : (op == CmpOp.NotIn) = false := by cases op <;> first | rfl | exact absurd rfl h2
  cases b <;> simp [behindInMarks, e1, e2]
def tIsN (ta : TE) : TE := fun σ H Q => ta σ H fun x H1 => Q (.bl (decide (x = .non))) H1
def tNotN (ta : TE) : TE := fun σ H Q => ta σ H fun x H1 => Q (.bl (!decide (x = .non))) H1
theorem RelV.none_iff {x : V} {v : Value} (r : RelV x v) : (v == Value.none) = decide (x = .non) := by
  cases x with
  | non => cases r; rfl
  | bl _ => cases r; rfl
  | int _ => obtain ⟨t, rfl⟩ := r; rfl
  | str _ => obtain ⟨t, rfl⟩ := r; rfl
  | byt _ => obtain ⟨t, rfl⟩ := r; rfl
  | flt _ => obtain ⟨t, rfl⟩ := r; rfl
  | ref _ => cases r; rfl
  | ty _ => cases r; rfl
theorem pc_isN {j pos'} (ha : PE X a ta) : PC X .Is a (.Constant .none j pos') (tIsN ta) := by
  intro pins s σ H Q I h
  refine thn (ha pins s σ H _ I h) fun v s1 ⟨x, H1, I1, r1, q1⟩ => ?_
  exact Constant_none (is_none_gen ⟨.bl _, H1, I1, by rw [r1.none_iff]; rfl, q1⟩)
theorem pc_notN {j pos'} (ha : PE X a ta) : PC X .IsNot a (.Constant .none j pos') (tNotN ta) := by
  intro pins s σ H Q I h
  refine thn (ha pins s σ H _ I h) fun v s1 ⟨x, H1, I1, r1, q1⟩ => ?_
  exact Constant_none (isnot_none_gen ⟨.bl _, H1, I1, by rw [r1.none_iff]; rfl, q1⟩)
def tB (t : TE) : TT := fun σ H Q => t σ H fun x H1 => ∃ c, x = .bl c ∧ Q c H1
theorem pt_cmp {op : CmpOp} {t : TE} (h : PC X op a b t) (h1 : behindInMarks op b = false := by first | exact nobehind _ (by decide) (by decide) | rfl) : PT X (.Compare a [op] [b] pos) (tB t) := by
  intro pins s σ H Q I hw
  refine wpAny_isTrue_Compare1 (thn (h pins s σ H _ I hw) fun v s1 h1 => thn h1 fun u s2 h2 => thn h2 fun c s3 ⟨x, H1, I1, r1, q1⟩ => ?_) h1
  obtain ⟨d, rfl, q⟩ := q1
  cases r1
  exact wpAny_truthy_bool ⟨H1, I1, q⟩
theorem pt_val {e : Expr} {t : TE} (h : PE X e t) (he : ∀ whole, isTrue e X.env whole = (do let v ← whole; standAt e.pos; holding [v] (truthy v)) := by intro _; rfl) : PT X e (tB t) := by
  intro pins s σ H Q I hw
  refine isTrue_plain (thn (h pins s σ H _ I hw) fun v s1 ⟨x, H1, I1, r1, q1⟩ => ?_) (he _)
  obtain ⟨d, rfl, q⟩ := q1
  cases r1
  exact wpAny_truthy_bool ⟨H1, I1, q⟩
variable {tA tB' : TT} {rest : List Expr}
def tAnd (t u : TT) : TT := fun σ H Q => t σ H fun c H1 => if c = true then u σ H1 Q else Q false H1
def tOr (t u : TT) : TT := fun σ H Q => t σ H fun c H1 => if c = true then Q true H1 else u σ H1 Q
def tNot (t : TT) : TT := fun σ H Q => t σ H fun c H1 => Q (!c) H1
theorem pw_and1 (ha : PT X a tA) : PW X (.BoolOp .And [a] pos) tA := by
  intro wh pins s σ H Q I h
  refine isTrue_and (thn (ha pins s σ H Q I h) fun c s1 e => ?_)
  cases c with
  | true => exact isTrue_and_nil e
  | false => exact e
theorem pw_or1 (ha : PT X a tA) : PW X (.BoolOp .Or [a] pos) tA := by
  intro wh pins s σ H Q I h
  refine isTrue_or (thn (ha pins s σ H Q I h) fun c s1 e => ?_)
  cases c with
  | false => exact isTrue_or_nil e
  | true => exact e
theorem pw_and (ha : PT X a tA) (hb : PW X (.BoolOp .And (b :: rest) pos) tB') : PW X (.BoolOp .And (a :: b :: rest) pos) (tAnd tA tB') := by
  intro wh pins s σ H Q I h
  refine isTrue_and (thn (ha pins s σ H _ I h) fun c s1 ⟨H1, I1, q1⟩ => ?_)
  cases c with
  | true => exact hb wh pins s1 σ H1 Q I1 q1
  | false => exact ⟨H1, I1, q1⟩
theorem pw_or (ha : PT X a tA) (hb : PW X (.BoolOp .Or (b :: rest) pos) tB') : PW X (.BoolOp .Or (a :: b :: rest) pos) (tOr tA tB') := by
  intro wh pins s σ H Q I h
  refine isTrue_or (thn (ha pins s σ H _ I h) fun c s1 ⟨H1, I1, q1⟩ => ?_)
  cases c with
  | true => exact ⟨H1, I1, q1⟩
  | false => exact hb wh pins s1 σ H1 Q I1 q1
theorem pt_not (ha : PT X a tA) : PT X (.UnaryOp .Not a pos) (tNot tA) := by
  intro pins s σ H Q I h
  exact isTrue_not (ha pins s σ H (fun c H1 => Q (!c) H1) I h)
def tAndV (ta tb : TE) : TE := fun σ H Q => ta σ H fun x H1 => ∃ c, x = .bl c ∧ if c = true then tb σ H1 Q else Q (.bl false) H1
def tNotV (ta : TE) : TE := fun σ H Q => ta σ H fun x H1 => ∃ c, x = .bl c ∧ Q (.bl (!c)) H1
theorem pe_one {op} {t : TE} (h : PE X a t) : PE X (.BoolOp op [a] pos) t := fun pins s σ H Q I hw => BoolOp_one (h pins s σ H Q I hw)
theorem pe_and (ha : PE X a ta) (hb : PE X (.BoolOp .And (b :: rest) pos) tb) : PE X (.BoolOp .And (a :: b :: rest) pos) (tAndV ta tb) := by
  intro pins s σ H Q I h
  refine BoolOp_and (thn (ha pins s σ H _ I h) fun v s1 ⟨x, H1, I1, r1, q1⟩ => ?_)
  obtain ⟨c, rfl, q1⟩ := q1
  cases r1
  refine wpAny_truthy_bool ?_
  cases c with
  | true => exact hb pins s1 σ H1 Q I1 q1
  | false => exact ⟨.bl false, H1, I1, rfl, q1⟩
theorem pe_not (ha : PE X a ta) : PE X (.UnaryOp .Not a pos) (tNotV ta) := by
  intro pins s σ H Q I h
  refine UnaryOp_ (thn (ha pins s σ H _ I h) fun v s1 ⟨x, H1, I1, r1, q1⟩ => ?_)
  obtain ⟨c, rfl, q1⟩ := q1
  cases r1
  exact not_of (wpAny_truthy_bool ⟨.bl (!c), H1, I1, rfl, q1⟩)
end
end L2
namespace L2
open PySem PySem.Spec PyProof.Rows
def SqL (K : PySem.W.Frag) (H : Hp) (a : Addr) (xs : List V) : Prop :=
  Rd H a (.lst xs) ∨
    ∃ (o : Obj) (its : Array Value) (n : Nat), K.lookup a = some o ∧ o.cls = .type "list" ∧ o.dict = none ∧ o.data = .seq its n ∧ its.size ≤ sizeLine ∧ Vals xs its.toList
def SqT (K : PySem.W.Frag) (H : Hp) (a : Addr) (xs : List V) : Prop :=
  Rd H a (.tup xs) ∨
    ∃ (o : Obj) (its : Array Value) (n : Nat), K.lookup a = some o ∧ o.cls = .type "tuple" ∧ o.data = .seq its n ∧ its.size ≤ sizeLine ∧ Vals xs its.toList
def absV : Value → Option V
  | .none => some .non
  | .bool b => some (.bl b)
  | .int i _ => some (.int i)
  | .str x _ => some (.str x)
  | .bytes b _ => some (.byt b)
  | .float b _ => some (.flt b)
  | .ref a => some (.ref a)
  | .type n => some (.ty n)
  | _ => none
theorem RelV.abs {x : V} {u : Value} (r : RelV x u) : absV u = some x := by
  cases x with
  | non => cases r; rfl
  | bl _ => cases r; rfl
  | int _ => obtain ⟨t, rfl⟩ := r; rfl
  | str _ => obtain ⟨t, rfl⟩ := r; rfl
  | byt _ => obtain ⟨t, rfl⟩ := r; rfl
  | flt _ => obtain ⟨t, rfl⟩ := r; rfl
  | ref _ => cases r; rfl
  | ty _ => cases r; rfl
theorem RelV.inj {x y : V} {u : Value} (r : RelV x u) (q : RelV y u) : x = y := Option.some.inj (r.abs.symm.trans q.abs)
theorem Vals.inj : ∀ {xs ys : List V} {us : List Value}, Vals xs us → Vals ys us → xs = ys
  | _, _, _, .nil, .nil => rfl
  | _, _, _, .cons r t, .cons r' t' => by rw [r.inj r', Vals.inj t t']
section
variable {X : Cx} {pins : List (Addr × Obj)} {σ : St} {H : Hp} {s : Shared} {a : Addr} {xs ys : List V}
theorem SqL.of {K : PySem.W.Frag} (h : H a = some (.lst xs)) : SqL K H a xs := .inl (.inl h)
theorem SqT.of {K : PySem.W.Frag} (h : H a = some (.tup xs)) : SqT K H a xs := .inl (.inl h)
theorem Inv.list (I : Inv X pins σ H s) (h : SqL X.K H a xs) : ∃ its : List Value, Vals xs its ∧ PlainL s.heap a its.toArray ∧ xs.length ≤ sizeLine := by
  rcases h with h | ⟨o, its, n, hk, hc, hd, hs, hz, r⟩
  · obtain ⟨z, its, n, r, e⟩ := h.ok I.hok
    exact ⟨its, r, ⟨_, n, e, rfl, rfl, rfl⟩, z⟩
  · refine ⟨its.toList, r, ⟨o, n, I.kIn a o hk, hc, hd, by simpa using hs⟩, ?_⟩
    have e := r.length
    simp only [Array.length_toList] at e
    omega
theorem Inv.tuple (I : Inv X pins σ H s) (h : SqT X.K H a xs) : ∃ its : List Value, Vals xs its ∧ IsTup s.heap a its.toArray ∧ xs.length ≤ sizeLine := by
  rcases h with h | ⟨o, its, n, hk, hc, hs, hz, r⟩
  · obtain ⟨z, its, r, p⟩ := h.ok I.hok
    exact ⟨its, r, p, z⟩
  · refine ⟨its.toList, r, ⟨o, I.kIn a o hk, hc, n, by simpa using hs⟩, ?_⟩
    have e := r.length
    simp only [Array.length_toList] at e
    omega
theorem Inv.list_inj (I : Inv X pins σ H s) (h : SqL X.K H a xs) (h' : SqL X.K H a ys) : xs = ys := by
  obtain ⟨its, r, ⟨o, n, e, _, _, d⟩, _⟩ := I.list h
  obtain ⟨its', r', ⟨o', n', e', _, _, d'⟩, _⟩ := I.list h'
  rw [e] at e'; cases e'
  rw [d] at d'
  injection d' with d1 _
  have : its = its' := by simpa using congrArg Array.toList d1
  subst this
  exact r.inj r'
theorem Inv.tuple_inj (I : Inv X pins σ H s) (h : SqT X.K H a xs) (h' : SqT X.K H a ys) : xs = ys := by
  obtain ⟨its, r, ⟨o, e, _, n, d⟩, _⟩ := I.tuple h
  obtain ⟨its', r', ⟨o', e', _, n', d'⟩, _⟩ := I.tuple h'
  rw [e] at e'; cases e'
  rw [d] at d'
  injection d' with d1 _
  have : its = its' := by simpa using congrArg Array.toList d1
  subst this
  exact r.inj r'
end
abbrev Cx.wish (X : Cx) (E : Value → Shared → Prop) : Cx := { X with xe := E }
abbrev Cx.nox (X : Cx) : Cx := X.wish fun _ _ => False
theorem Cx.Ok.wish {X : Cx} (ok : X.Ok) (E : Value → Shared → Prop) : (X.wish E).Ok :=
  ⟨ok.mod, ok.kind, ok.glob, ok.blt, ok.above, ok.inj, ok.has, ok.cab, ok.hd, ok.frames, ok.stk, ok.exf, ok.bs, ok.bsz, ok.noex, ok.exfs, ok.funs, ok.frf⟩
theorem Cx.Ok.unwish {X : Cx} {E : Value → Shared → Prop} (ok : (X.wish E).Ok) : X.Ok :=
  ⟨ok.mod, ok.kind, ok.glob, ok.blt, ok.above, ok.inj, ok.has, ok.cab, ok.hd, ok.frames, ok.stk, ok.exf, ok.bs, ok.bsz, ok.noex, ok.exfs, ok.funs, ok.frf⟩
section
variable {X : Cx} {pins : List (Addr × Obj)} {σ : St} {H : Hp} {s : Shared} {E : Value → Shared → Prop}
theorem Inv.wish (I : Inv X pins σ H s) (E : Value → Shared → Prop) : Inv (X.wish E) pins σ H s := ⟨I.ok.wish E, I.os, I.bare, I.base, I.loc, I.cell, I.free, I.freeC, I.pin, I.hok, I.len⟩
theorem Inv.unwish (I : Inv (X.wish E) pins σ H s) : Inv X pins σ H s := ⟨I.ok.unwish, I.os, I.bare, I.base, I.loc, I.cell, I.free, I.freeC, I.pin, I.hok, I.len⟩
theorem SP.unwish {D : Ends} {f : Flow} {s' : Shared} (h : SP (X.wish E) pins D f s') : SP X pins D f s' := by
  cases f with
  | next => obtain ⟨σ', H', I, q⟩ := h; exact ⟨σ', H', I.unwish, q⟩
  | brk => obtain ⟨σ', H', I, q⟩ := h; exact ⟨σ', H', I.unwish, q⟩
  | cont => obtain ⟨σ', H', I, q⟩ := h; exact ⟨σ', H', I.unwish, q⟩
  | ret u => obtain ⟨v, σ', H', I, r, q⟩ := h; exact ⟨v, σ', H', I.unwish, r, q⟩
theorem PSs.nox {st : List Stmt} {t : TS} (h : PSs X.nox st t) : PSs X st t := fun pins s σ H D I hw =>
  wpAny_mono (h pins s σ H D (I.wish _) hw) (fun _ _ q => q.unwish) fun _ _ z => False.elim z
end
section
variable {X : Cx} {st : Stmt} {rest : List Stmt} {t u : TS} {e : Expr} {te : TE} {pos : Pos}
def tNext : TS := fun D σ H => D.nx σ H
def tSeq (t u : TS) : TS := fun D σ H => t { D with nx := u D } σ H
theorem pss_nil : PSs X [] tNext := fun _ _ σ H _ I h => wpAny_execs_nil ⟨σ, H, I, h⟩
theorem pss_cons (h1 : PS X st t) (h2 : PSs X rest u) : PSs X (st :: rest) (tSeq t u) := by
  intro pins s σ H D I h
  refine wpAny_execs_cons (thn (h1 pins s σ H { D with nx := u D } I h) fun f s1 q => ?_)
  cases f with
  | next =>
    obtain ⟨σ', H', I', q⟩ := q
    exact h2 pins s1 σ' H' D I' q
  | ret v => exact q
  | brk => exact q
  | cont => exact q
theorem pss_one (h1 : PS X st t) : PSs X [st] t := by
  intro pins s σ H D I h
  refine wpAny_execs_cons (thn (h1 pins s σ H D I h) fun f s1 q => ?_)
  cases f with
  | next => exact wpAny_execs_nil q
  | ret v => exact q
  | brk => exact q
  | cont => exact q
theorem Inv.quiet {pins : List (Addr × Obj)} {σ : St} {H : Hp} {s : Shared} (I : Inv X pins σ H s) : interactive X.env = false := by simp [interactive, I.ok.kind]
def tDrop (te : TE) : TS := fun D σ H => te σ H fun _ H1 => D.nx σ H1
theorem ps_expr (he : PE X e te) (hs : swapsWith e none pos.line X.env = pure false := by rfl) : PS X (.Expr e pos) (tDrop te) := by
  intro pins s σ H D I h
  exact wpAny_Expr_any (thn (he pins s σ H _ I h) fun v s1 ⟨x, H1, I1, r1, q1⟩ => ⟨σ, H1, I1, q1⟩) I.quiet hs
def tRet (te : TE) : TS := fun D σ H => te σ H D.rt
theorem ps_ret (he : PE X e te) : PS X (.Return (some e) pos) (tRet te) := by
  intro pins s σ H D I h
  exact wpAny_Return_some (thn (he pins s σ H _ I h) fun v s1 ⟨x, H1, I1, r1, q1⟩ => ⟨x, σ, H1, I1, r1, q1⟩)
def tIfS (c : TT) (t u : TS) : TS := fun D σ H => c σ H fun b H1 => if b = true then t D σ H1 else u D σ H1
theorem ps_if {c : Expr} {a b : List Stmt} {tc : TT} (hc : PT X c tc) (ha : PSs X a t) (hb : PSs X b u) : PS X (.If c a b pos) (tIfS tc t u) := by
  intro pins s σ H D I h
  refine wpAny_If (thn (hc pins s σ H _ I h) fun d s1 ⟨H1, I1, q1⟩ => ?_)
  cases d with
  | true => exact ha pins s1 σ H1 D I1 q1
  | false => exact hb pins s1 σ H1 D I1 q1
def tNever : TS := fun _ _ _ => False
theorem ps_never : PS X st tNever := fun _ _ _ _ _ _ h => h.elim
end
abbrev TG := V → St → Hp → (St → Hp → Prop) → Prop
abbrev TGs := List V → St → Hp → (St → Hp → Prop) → Prop
def PG (X : Cx) (target : Expr) (t : TG) : Prop :=
  ∀ (pins : List (Addr × Obj)) (s : Shared) (σ : St) (H : Hp) (v : V) (u : Value) (Q : St → Hp → Prop), Inv X pins σ H s → RelV v u → t v σ H Q →
    wpAny (model X.prog X.w) X.A (assign target X.env u) (fun _ s' => ∃ σ' H', Inv X pins σ' H' s' ∧ Q σ' H') X.xe s
def PGs (X : Cx) (ts : List Expr) (t : TGs) : Prop :=
  ∀ (pins : List (Addr × Obj)) (s : Shared) (σ : St) (H : Hp) (vs : List V) (us : List Value) (Q : St → Hp → Prop), Inv X pins σ H s → Vals vs us → t vs σ H Q →
    wpAny (model X.prog X.w) X.A (assignInOrder ((assignEach ts X.env).map (·.2)) us) (fun _ s' => ∃ σ' H', Inv X pins σ' H' s' ∧ Q σ' H') X.xe s
abbrev TSet := V → V → V → Hp → (Hp → Prop) → Prop
def PSet (X : Cx) (t : TSet) : Prop :=
  ∀ (pins : List (Addr × Obj)) (s : Shared) (σ : St) (H : Hp) (o i v : V) (ov iv u : Value) (Q : Hp → Prop), Inv X pins σ H s → RelV o ov → RelV i iv → RelV v u → t o i v H Q →
    wpAny (model X.prog X.w) X.A (setItem ov iv u) (fun _ s' => ∃ H', Inv X pins σ H' s' ∧ Q H') X.xe s
abbrev TIp := V → V → Hp → VK → Prop
def PIp (X : Cx) (op : Operator) (t : TIp) : Prop :=
  ∀ (pins : List (Addr × Obj)) (s : Shared) (σ : St) (H : Hp) (x y : V) (v u : Value) (Q : VK), Inv X pins σ H s → RelV x v → RelV y u → t x y H Q →
    wpAny (model X.prog X.w) X.A (inplaceOp op v u) (EP X pins σ Q) X.xe s
section
variable {X : Cx} {pos : Pos}
def gName (i : Nat) : TG := fun v σ H Q => Q (σ.set i (some v)) H
theorem pg_name {i : Nat} {x : Str} (hN : X.N.Nodup) (hi : X.N[i]? = some x) (hx : Loc X.env.scope x) (hf : X.fn x = true ∨ X.env.scope.names.lookup x = some .local := by first | exact .inl rfl | exact .inr rfl | assumption) : PG X (.Name x pos) (gName i) := by
  intro pins s σ H v u Q I r h
  exact wpAny_assign_Name (store_ok I hN hi hx r (fun s' I' => ⟨_, H, I', h⟩) hf)
def gNil : TGs := fun vs σ H Q => vs = [] ∧ Q σ H
def gCons (t : TG) (u : TGs) : TGs := fun vs σ H Q => ∃ v r, vs = v :: r ∧ t v σ H fun σ' H' => u r σ' H' Q
theorem pgs_nil : PGs X [] gNil := by
  intro pins s σ H vs us Q I r h
  obtain ⟨e, h⟩ := h
  subst e
  cases r
  exact assignInOrder_nil ⟨σ, H, I, h⟩
theorem pgs_cons {e : Expr} {es : List Expr} {t : TG} {u : TGs} (h1 : PG X e t) (h2 : PGs X es u)
    (hs : (assignEach (e :: es) X.env).map (·.2) = assign e X.env :: (assignEach es X.env).map (·.2) := by rfl) : PGs X (e :: es) (gCons t u) := by
  intro pins s σ H vs us Q I r h
  obtain ⟨v, vr, e1, h⟩ := h
  subst e1
  cases r with
  | cons r rr =>
    rw [hs]
    refine assignInOrder_cons (thn (h1 pins s σ H _ _ _ I r h) fun _ s1 ⟨σ1, H1, I1, q1⟩ => ?_)
    exact h2 pins s1 σ1 H1 _ _ Q I1 rr q1
def gTup (K : PySem.W.Frag) (n : Nat) (t : TGs) : TG := fun v σ H Q => ∃ a xs, v = .ref a ∧ SqT K H a xs ∧ xs.length = n ∧ t xs σ H Q
theorem pg_tup {es : List Expr} {k : Nat} {t : TGs} {n : Nat} (hc : X.calm = true) (h : PGs X es t)
    (hn : (assignEach es X.env).length = n := by rfl) (hst : (assignEach es X.env).findIdx? (·.1) = none := by rfl) : PG X (.Tuple es k pos) (gTup X.K n t) := by
  intro pins s σ H v u Q I r hw
  obtain ⟨a, xs, e1, hq, hl, hw⟩ := hw
  subst e1
  cases r
  obtain ⟨its, rv, ht, hz⟩ := I.tuple hq
  refine assign_Tuple_tuple (I.ok.hd hc) ht (by simp [hn, ← hl, rv.length]) hst fun h' hx => ?_
  have I1 : Inv X pins σ H { s with heap := h' } := I.kept (t' := s.toks) fun b o e => hx b o (Nat.ne_of_lt (Heap.lt_size e)) e
  exact h pins _ σ H xs _ Q I1 (by simpa using rv) hw
def gSub (to ti : TE) (t : TSet) : TG := fun v σ H Q => to σ H fun o H1 => ti σ H1 fun i H2 => t o i v H2 fun H3 => Q σ H3
theorem pg_sub {o i : Expr} {to ti : TE} {t : TSet} (ho : PE X o to) (hi : PE X i ti) (hs : PSet X t)
    (ha : ∀ v, assign (.Subscript o i pos) X.env v = (do
      let ov ← holding [v] (eval o X.env)
      let iv ← holding [v, ov] (eval i X.env)
      standAt pos
      holding [v, ov, iv] (setItem ov iv v)
      release [v, ov, iv] []) := by intro _; rfl) : PG X (.Subscript o i pos) (gSub to ti t) := by
  intro pins s σ H v u Q I r h
  rw [ha]
  refine wpAny_bind (wpAny_holding (thn (ho pins s σ H _ I h) fun ov s1 ⟨x, H1, I1, r1, q1⟩ => ?_))
  refine wpAny_bind (wpAny_holding (thn (hi pins s1 σ H1 _ I1 q1) fun iv s2 ⟨y, H2, I2, r2, q2⟩ => ?_))
  refine wpAny_bind (wpAny_standAt (wpAny_bind (wpAny_holding (thn (hs pins s2 σ H2 x y v ov iv u _ I2 r1 r2 r q2) fun _ s3 ⟨H3, I3, q3⟩ => ?_))))
  exact wpAny_release ⟨σ, H3, I3, q3⟩
def tAsg (te : TE) (g : TG) : TS := fun D σ H => te σ H fun x H1 => g x σ H1 D.nx
theorem ps_asg {tg e : Expr} {te : TE} {g : TG} (he : PE X e te) (hg : PG X tg g) (hs : swapsWithSole [tg] e pos.line X.env = pure false := by rfl) (hw : swappedStores [tg] e X.env = pure none := by rfl)
    (h1 : (assignEach [tg] X.env).map (·.2) = [assign tg X.env] := by rfl) : PS X (.Assign [tg] e pos) (tAsg te g) := by
  intro pins s σ H D I h
  refine wpAny_Assign_stores (thn (he pins s σ H _ I h) fun v s1 ⟨x, H1, I1, r1, q1⟩ => ?_) hs hw
  rw [h1]
  exact thn (hg pins s1 σ H1 x v _ I1 r1 q1) fun _ s2 q => q
theorem ps_set {i : Nat} {x : Str} {e : Expr} {te : TE} {pos' : Pos} (hN : X.N.Nodup) (hi : X.N[i]? = some x) (hx : Loc X.env.scope x) (he : PE X e te) (hs : swapsWith e (some (.Name x pos')) pos.line X.env = pure false := by rfl) (hf : X.fn x = true ∨ X.env.scope.names.lookup x = some .local := by first | exact .inl rfl | exact .inr rfl | assumption) :
    PS X (.Assign [.Name x pos'] e pos) (tAsg te (gName i)) := by
  intro pins s σ H D I h
  refine wpAny_Assign_Name (thn (he pins s σ H _ I h) fun v s1 ⟨y, H1, I1, r1, q1⟩ => ?_) hs
  exact store_ok I1 hN hi hx r1 (fun s2 I2 => ⟨_, H1, I2, q1⟩) hf
def tAug (i : Nat) (te : TE) (ti : TIp) : TS := fun D σ H => ∃ x, σ[i]? = some (some x) ∧ te σ H fun y H1 => ti x y H1 fun z H2 => D.nx (σ.set i (some z)) H2
theorem ps_aug {i : Nat} {x : Str} {e : Expr} {te : TE} {op : Operator} {ti : TIp} {pos' : Pos} (hN : X.N.Nodup) (hi : X.N[i]? = some x) (hx : Loc X.env.scope x) (he : PE X e te) (ho : PIp X op ti) (hf : X.fn x = true ∨ X.env.scope.names.lookup x = some .local := by first | exact .inl rfl | exact .inr rfl | assumption) :
    PS X (.AugAssign (.Name x pos') op e pos) (tAug i te ti) := by
  intro pins s σ H D I h
  obtain ⟨v, e1, h⟩ := h
  obtain ⟨m, hn, hl⟩ := I.loc
  have vis : Vis X.env.scope x := by rcases hx with k | k; exact .inl k; exact .inr (.inl k)
  obtain ⟨u, r, l⟩ := hl i x v hi e1 vis
  refine wpAny_AugAssign_Name ?_
  have go : wpAny (model X.prog X.w) X.A (eval e X.env) (fun w s₂ => wpAny (model X.prog X.w) X.A (inplaceOp op u w) (fun r s₃ => wpAny (model X.prog X.w) X.A (storeName X.env x r) (fun _ => SP X pins D .next) X.xe s₃) X.xe s₂) X.xe s := by
    refine thn (he pins s σ H _ I h) fun w s1 ⟨y, H1, I1, r1, q1⟩ => ?_
    refine thn (ho pins s1 σ H1 v y u w _ I1 r r1 q1) fun z s2 ⟨zv, H2, I2, r2, q2⟩ => ?_
    exact store_ok I2 hN hi hx r2 (fun s3 I3 => ⟨_, H2, I3, q2⟩) hf
  rcases l with ⟨hk, hm⟩ | ⟨hk, c, hc, hcell⟩
  · exact wpAny_loadName_local I.ok.kind hk hn hm go
  · rcases hk with hk | hk
    · exact wpAny_loadName_cell I.ok.kind hk hc hcell go
    · rcases hx with k | k
      · have : X.env.scope.names.lookup x = some .free := hk
        rw [k] at this; cases this
      · have : X.env.scope.names.lookup x = some .free := hk
        rw [k] at this; cases this
end
section
variable {X : Cx} {pos : Pos}
def tWhile (c : TT) (tb : TS) : TS := fun D σ H => ∃ W : Nat → St → Hp → Prop, (∃ m, W m σ H) ∧ ∀ m σ H, W m σ H →
  c σ H fun b H1 => if b = true then ∃ N : St → Hp → Prop, (∀ σ' H', N σ' H' → ∃ m', m' < m ∧ W m' σ' H') ∧ tb { D with nx := N, ct := N, bk := D.nx } σ H1 else D.nx σ H1
theorem ps_while {c : Expr} {body : List Stmt} {tc : TT} {tb : TS} (hp : PassesOwn (model X.prog X.w) X.A X.env X.xe) (hc : PT X c tc) (hb : PSs X body tb) : PS X (.While c body [] pos) (tWhile tc tb) := by
  intro pins s σ H D I h
  obtain ⟨W, ⟨m0, w0⟩, turn⟩ := h
  refine wpAny_While (codeAny_whileLoop (fun n s' => ∃ σ' H', Inv X pins σ' H' s' ∧ W n σ' H') ?_ m0 ⟨σ, H, I, w0⟩)
  rintro n s1 ⟨σ1, H1, I1, w1⟩
  refine wpAny_passesOwn hp (thn (hc pins s1 σ1 H1 _ I1 (turn n σ1 H1 w1)) fun b s2 ⟨H2, I2, q2⟩ => ?_)
  cases b with
  | true =>
    obtain ⟨N, hN, q2⟩ := q2
    rw [if_pos rfl]
    refine wpAny_passesOwn hp (thn (hb pins s2 σ1 H2 _ I2 q2) fun f s3 q3 => ?_)
    cases f with
    | next =>
      obtain ⟨σ3, H3, I3, n3⟩ := q3
      obtain ⟨m', hm, w3⟩ := hN σ3 H3 n3
      exact ⟨m', hm, σ3, H3, I3, w3⟩
    | cont =>
      obtain ⟨σ3, H3, I3, n3⟩ := q3
      obtain ⟨m', hm, w3⟩ := hN σ3 H3 n3
      exact ⟨m', hm, σ3, H3, I3, w3⟩
    | brk => exact q3
    | ret v => exact q3
  | false =>
    rw [if_neg Bool.false_ne_true]
    exact wpAny_execs_nil ⟨σ1, H2, I2, q2⟩
end
structure It where
  go : Nat → Hp → Prop
  yld : Nat → Hp → V → Hp → Prop
  stop : Nat → Hp → Prop
def FpOk (X : Cx) (pins : List (Addr × Obj)) (H : Hp) (b : Addr) : Prop :=
  H b = none ∧ b ≠ X.env.locals ∧ b ∉ X.fs ∧ (b ∈ X.ex ∨ X.s₀.heap.objs.size ≤ b) ∧ (∀ x c, X.env.cells.lookup x = some c → c ≠ b) ∧ ∀ p ∈ X.pn ++ pins, p.1 ≠ b
theorem Inv.fpOk {X : Cx} {pins : List (Addr × Obj)} {σ : St} {H H' : Hp} {s : Shared} {b : Addr} (I : Inv X pins σ H s) (hb : s.heap.objs.size ≤ b) (hn : H' b = none) : FpOk X pins H' b := by
  refine ⟨hn, Nat.ne_of_gt (Nat.lt_of_lt_of_le I.lt hb), I.nofs hb, .inr (Nat.le_trans I.sz hb), fun x c e z => ?_, fun p hp z => ?_⟩
  · obtain ⟨v, q⟩ := I.cell x c e
    exact absurd (Nat.lt_of_lt_of_le q.lt (by rw [z]; exact hb)) (Nat.lt_irrefl _)
  · exact absurd (Nat.lt_of_lt_of_le (Heap.lt_size (I.pin p hp).1) (by rw [z]; exact hb)) (Nat.lt_irrefl _)
structure Turn (P : Program) (w : World) (K : PySem.W.Frag) (tg : Expr) (J : It) (fp : List Addr) (it : Addr) (tn : Nat → Heap → Prop) : Prop where
  mem : it ∈ fp
  obj : ∀ i h, tn i h → ∀ b ∈ fp, ∃ o, h.get? b = some o ∧ ∀ v, o.data ≠ .cell v
  keep : ∀ i h h', tn i h → (∀ b ∈ fp, ∀ o, h.get? b = some o → h'.get? b = some o) → tn i h'
  item : ∀ (X : Cx), X.prog = P → X.w = w → X.K = K → X.calm = true → ∀ (i : Nat) (pins : List (Addr × Obj)) (s : Shared) (σ : St) (H : Hp) (E : Value → Shared → Prop), Inv X pins σ H s → (∀ b ∈ fp, FpOk X pins H b) → tn i s.heap → J.go i H →
    wpAny (model P w) X.A (pyNext (.ref it)) (fun r s1 => ∃ u, r = some u ∧
      wpAny (model P w) X.A (letOwnedTupleGo tg (.ref it) u) (fun _ s2 => ∃ x H', Inv X pins σ H' s2 ∧ RelV x u ∧ J.yld i H x H' ∧ tn (i + 1) s2.heap ∧ ∀ b ∈ fp, H' b = none) E s1) E s
  done : ∀ (X : Cx), X.prog = P → X.w = w → X.K = K → X.calm = true → ∀ (i : Nat) (pins : List (Addr × Obj)) (s : Shared) (σ : St) (H : Hp) (E : Value → Shared → Prop), Inv X pins σ H s → (∀ b ∈ fp, FpOk X pins H b) → tn i s.heap → J.stop i H →
    wpAny (model P w) X.A (pyNext (.ref it)) (fun r s1 => r = none ∧ Inv X pins σ H s1) E s
  self : ∀ (A : Around) (i : Nat) (s : Shared) (Q : Value → Shared → Prop) (E : Value → Shared → Prop), tn i s.heap → Q (.ref it) s → wpAny (model P w) A (pyIter (.ref it)) Q E s
abbrev TI := St → Hp → (It → Hp → Prop) → Prop
def PIE (X : Cx) (pins : List (Addr × Obj)) (σ : St) (tg : Expr) (R : It → Hp → Prop) (itv : Value) (s2 : Shared) : Prop :=
  ∃ (it : Addr) (fp : List Addr) (tn : Nat → Heap → Prop) (J : It) (H' : Hp), itv = .ref it ∧ Inv X pins σ H' s2 ∧ Turn X.prog X.w X.K tg J fp it tn ∧ tn 0 s2.heap ∧ (∀ b ∈ fp, FpOk X pins H' b) ∧ R J H'
def PI (X : Cx) (tg iter : Expr) (wi : TI) : Prop :=
  ∀ (pins : List (Addr × Obj)) (s : Shared) (σ : St) (H : Hp) (R : It → Hp → Prop), Inv X pins σ H s → wi σ H R →
    wpAny (model X.prog X.w) X.A (eval iter X.env) (fun v s1 => wpAny (model X.prog X.w) X.A (pyIter v) (PIE X pins σ tg R) X.xe s1) X.xe s
theorem go_of {M : Model} {A : Around} {E : Value → Shared → Prop} {s : Shared} {tg : Expr} {it : Addr} {u : Value} {o : Obj} {n : String} {vs : Array Value} {Q : Unit → Shared → Prop} (ho : s.heap.get? it = some o) (hc : o.cls = .type n) (hd : o.data = .fields vs)
    (hn : ["enumerate", "zip", "dict_itemiterator", "dict_reverseitemiterator", "odict_iterator", "itertools.zip_longest", "itertools.pairwise"].contains n = false) (hQ : Q () s) : wpAny M A (letOwnedTupleGo tg (.ref it) u) Q E s := by
  unfold letOwnedTupleGo
  cases tg <;> first
    | exact wpAny_pure hQ
    | (cases u <;> first
        | exact wpAny_pure hQ
        | (refine wpAny_bind (wpAny_load ho ?_)
           rw [hc, hd]
           show wpAny M A (if (["enumerate", "zip", "dict_itemiterator", "dict_reverseitemiterator", "odict_iterator", "itertools.zip_longest", "itertools.pairwise"].contains n && vs[0]? == some (rawInt _)) = true then _ else _) Q E s
           rw [if_neg (by intro h; rw [hn, Bool.false_and] at h; cases h)]
           exact wpAny_pure hQ))
def Itl (K : PySem.W.Frag) (a : Addr) : It :=
  ⟨fun i H => ∃ xs x, SqL K H a xs ∧ xs[i]? = some x, fun i H x H' => H' = H ∧ ∀ xs, SqL K H a xs → xs[i]? = some x, fun i H => ∃ xs, SqL K H a xs ∧ xs.length ≤ i⟩
def Itr (lo : Int) (n : Nat) : It := ⟨fun i _ => i < n, fun i H x H' => H' = H ∧ x = .int (lo + i), fun i _ => n ≤ i⟩
theorem turn_list {P : Program} {w : World} {K : PySem.W.Frag} {tg : Expr} (a it : Addr) : Turn P w K tg (Itl K a) [it] it (fun i h => h.IsListIter it a i) where
  mem := by simp
  obj := fun i h st b hb => by
    have e : b = it := by simpa using hb
    subst e
    obtain ⟨o, e, c, d⟩ := st
    exact ⟨o, e, fun v z => by rw [d] at z; cases z⟩
  keep := fun i h h' st k => st.at fun o e => k it (by simp) o e
  item := by
    intro X hP hw hK hc i pins s σ H E I hf st hg
    subst hP hw hK
    obtain ⟨xs, x, hq, hx⟩ := hg
    obtain ⟨its, rv, p, hz⟩ := I.list hq
    obtain ⟨u, hu, ru⟩ := rv.get hx
    obtain ⟨f0, f1, f2, f3, f4, f5⟩ := hf it (by simp)
    refine wpAny_pyNext_list_item st p.isList (x := u) (by simpa using hu) fun h' st' sb => ?_
    have I1 : Inv X pins σ H { s with heap := h' } := I.turned (t' := s.toks) (fun b o hb e => (sb.2 b hb).trans e) f0 f1 f3 f4 f5
    obtain ⟨o, e, c, d⟩ := id st'
    exact ⟨u, rfl, go_of (s := { s with heap := h' }) e c d (by decide) ⟨x, H, I1, ru, ⟨rfl, fun ys hy => by rw [I.list_inj hy hq]; exact hx⟩, st', fun b hb => (hf b hb).1⟩⟩
  done := by
    intro X hP hw hK hc i pins s σ H E I hf st hg
    subst hP hw hK
    obtain ⟨xs, hq, hx⟩ := hg
    obtain ⟨its, rv, p, hz⟩ := I.list hq
    obtain ⟨f0, f1, f2, f3, f4, f5⟩ := hf it (by simp)
    have hl := rv.length
    exact wpAny_pyNext_list_end (I.ok.hd hc) st p.isList (by simp; omega) fun h' eb => ⟨rfl, I.turned (t' := s.toks) (fun b o hb e => eb b o hb e) f0 f1 f3 f4 f5⟩
  self := fun _ _ _ _ _ st h => wpAny_pyIter_listiter st h
theorem turn_range {P : Program} {w : World} {K : PySem.W.Frag} {tg : Expr} (it : Addr) (lo : Int) (n : Nat) : Turn P w K tg (Itr lo n) [it] it (fun i h => IsRangeIter h it (lo + (i : Nat) * 1) ((n : Int) - (i : Nat)) 1) where
  mem := by simp
  obj := fun i h st b hb => by
    have e : b = it := by simpa using hb
    subst e
    exact ⟨_, st, fun v z => by
      have z' : Data.fields _ = Data.cell v := z
      cases z'⟩
  keep := fun i h h' st k => k it (by simp) _ st
  item := by
    intro X hP hw hK hc i pins s σ H E I hf st hg
    subst hP hw hK
    obtain ⟨f0, f1, f2, f3, f4, f5⟩ := hf it (by simp)
    have W := Walks.range (prog := X.prog) (w := X.w) (I.ok.hd hc) it lo 1 n
    refine W.item i s _ _ hg st fun v h' tk hv st' kk => ?_
    obtain ⟨t, rfl⟩ := hv
    have I1 : Inv X pins σ H { s with heap := h', toks := tk } := I.turned (fun b o hb e => kk b o (by simpa using hb) e) f0 f1 f3 f4 f5
    refine ⟨_, rfl, go_of (s := { s with heap := h', toks := tk }) (n := "range_iterator") st' rfl rfl (by decide) ⟨.int (lo + i), H, I1, ⟨t, ?_⟩, ⟨rfl, rfl⟩, st', fun b hb => (hf b hb).1⟩⟩
    rw [Int.mul_one]
  done := by
    intro X hP hw hK hc i pins s σ H E I hf st hg
    subst hP hw hK
    obtain ⟨f0, f1, f2, f3, f4, f5⟩ := hf it (by simp)
    exact wpAny_pyNext_range_end (I.ok.hd hc) st (by have : n ≤ i := hg; omega) fun h' eb => ⟨rfl, I.turned (t' := s.toks) (fun b o hb e => eb b o hb e) f0 f1 f3 f4 f5⟩
  self := fun _ _ _ _ _ st h => wpAny_pyIter_rangeiter st h
end L2
namespace L2
open PySem PySem.Spec PyProof.Rows
section
variable {X : Cx} {tg : Expr}
def iList (K : PySem.W.Frag) (tl : TE) : TI := fun σ H R => tl σ H fun x H1 => ∃ a, x = .ref a ∧ (∃ xs, SqL K H1 a xs) ∧ R (Itl K a) H1
theorem pi_list {l : Expr} {tl : TE} (hl : PE X l tl) : PI X tg l (iList X.K tl) := by
  intro pins s σ H R I h
  refine thn (hl pins s σ H _ I h) fun v s1 ⟨x, H1, I1, r1, q1⟩ => ?_
  obtain ⟨a, e, ⟨xs, hq⟩, q⟩ := q1
  subst e
  cases r1
  obtain ⟨its, rv, p, hz⟩ := I1.list hq
  refine wpAny_pyIter_list p.isList ?_
  refine ⟨s1.heap.objs.size, [s1.heap.objs.size], _, _, H1, rfl, I1.kept (t' := s1.toks) fun b o e => Heap.get?_push_of_some _ e, turn_list a _, ⟨_, Heap.get?_push_size _ rfl, rfl, rfl⟩, fun b hb => ?_, q⟩
  have e : b = s1.heap.objs.size := by simpa using hb
  subst e
  exact I1.fpOk (Nat.le_refl _) (I1.hok.fresh (Nat.le_refl _))
theorem range_it {pins : List (Addr × Obj)} {σ : St} {H : Hp} {s : Shared} {R : It → Hp → Prop} {E : Value → Shared → Prop} {lo hi : Int} {t u v : Tok} {tk : Nat} (I : Inv X pins σ H s) (h1 : -(2 ^ 62) ≤ lo) (h2 : lo < 2 ^ 62) (h3 : -(2 ^ 62) ≤ hi) (h4 : hi < 2 ^ 62)
    (q : R (Itr lo (hi - lo).toNat) H) : wpAny (model X.prog X.w) X.A (pyIter (.ref s.heap.objs.size)) (PIE X pins σ tg R) E { s with heap := s.heap.push { cls := .type "range", data := .fields #[.int lo t, .int hi u, .int 1 v] }, toks := tk } := by
  refine wpAny_pyIter_range (IsRange.new ..) (small_one h1 h2 h3 h4) ?_
  have I1 : Inv X pins σ H { s with heap := s.heap.push { cls := .type "range", data := .fields #[.int lo t, .int hi u, .int 1 v] }, toks := tk } := I.kept fun b o e => Heap.get?_push_of_some _ e
  refine ⟨(s.heap.push { cls := .type "range", data := .fields #[.int lo t, .int hi u, .int 1 v] }).objs.size, [(s.heap.push { cls := .type "range", data := .fields #[.int lo t, .int hi u, .int 1 v] }).objs.size], _, _, H, rfl,
    I1.kept (t' := tk) fun b o e => Heap.get?_push_of_some _ e, turn_range _ lo (hi - lo).toNat, ?_, fun b hb => ?_, q⟩
  · have e1 : lo + ((0 : Nat) : Int) * 1 = lo := by simp
    have e2 : (((hi - lo).toNat : Nat) : Int) - ((0 : Nat) : Int) = Builtin.Range.rangeSize lo hi 1 := by rw [rangeSize_one]; split <;> omega
    show IsRangeIter _ _ (lo + ((0 : Nat) : Int) * 1) ((((hi - lo).toNat : Nat) : Int) - ((0 : Nat) : Int)) 1
    rw [e1, e2]
    exact Heap.get?_push_size _ rfl
  · have e : b = (s.heap.push { cls := .type "range", data := .fields #[.int lo t, .int hi u, .int 1 v] }).objs.size := by simpa using hb
    subst e
    exact I1.fpOk (Nat.le_refl _) (I1.hok.fresh (Nat.le_refl _))
def iRng1 (ta : TA) : TI := fun σ H R => ta σ H fun vs H1 => ∃ j : Int, vs = [.int j] ∧ -(2 ^ 62) ≤ j ∧ j < 2 ^ 62 ∧ R (Itr 0 j.toNat) H1
theorem pi_range1 {a : Expr} {ta : TA} {p pos : Pos} (hg : Gl X "range") (hm : X.mg "range" = none) (ha : PA X [a] ta) (hs : starEach [a] X.env = [(false, eval a X.env)] := by rfl) : PI X tg (.Call (.Name "range" p) [a] [] pos) (iRng1 ta) := by
  intro pins s σ H R I h
  refine Call_ (ld_blt I hg hm boot_range (PyProof.Rows.callWith_type1 (thn (ha pos pins s σ H _ I h) fun us s1 ⟨vs, H1, I1, r1, q1⟩ => ?_) hs rfl))
  obtain ⟨j, e, q1, q2, q⟩ := q1
  subst e
  cases r1 with
  | cons r rr =>
    cases rr
    obtain ⟨t, rfl⟩ := r
    exact call_range_1 (range_it I1 (by omega) (by omega) q1 q2 (by simpa using q))
def tFor (wi : TI) (g : TG) (tb : TS) : TS := fun D σ H => wi σ H fun J H1 => ∃ W : Nat → Nat → St → Hp → Prop, (∃ m, W 0 m σ H1) ∧ ∀ i m σ H, W i m σ H →
  (J.stop i H ∧ D.nx σ H) ∨ (J.go i H ∧ ∃ N : St → Hp → Prop, (∀ σ' H', N σ' H' → ∃ m', m' < m ∧ W (i + 1) m' σ' H') ∧ ∀ x H', J.yld i H x H' → g x σ H' fun σ2 H2 => tb { D with nx := N, ct := N, bk := D.nx } σ2 H2)
def pinsAt (fp : List Addr) (h : Heap) : List (Addr × Obj) := fp.filterMap fun b => (h.get? b).map fun o => (b, o)
theorem mem_pinsAt {fp : List Addr} {h : Heap} {b : Addr} {o : Obj} (hb : b ∈ fp) (e : h.get? b = some o) : (b, o) ∈ pinsAt fp h := List.mem_filterMap.mpr ⟨b, hb, by rw [e]; rfl⟩
theorem of_pinsAt {fp : List Addr} {h : Heap} {p : Addr × Obj} (hp : p ∈ pinsAt fp h) : p.1 ∈ fp ∧ h.get? p.1 = some p.2 := by
  obtain ⟨b, hb, e⟩ := List.mem_filterMap.mp hp
  cases q : h.get? b with
  | none => rw [q] at e; cases e
  | some o =>
    rw [q] at e
    have e' : (b, o) = p := Option.some.inj e
    subst e'
    exact ⟨hb, q⟩
theorem Inv.pinned {pins : List (Addr × Obj)} {σ : St} {H : Hp} {s : Shared} {fp : List Addr} (I : Inv X pins σ H s) (hf : ∀ b ∈ fp, FpOk X pins H b) (ho : ∀ b ∈ fp, ∃ o, s.heap.get? b = some o ∧ ∀ v, o.data ≠ .cell v) : Inv X (pins ++ pinsAt fp s.heap) σ H s :=
  I.pins_of fun p hp => (List.mem_append.mp hp).elim (fun z => I.pin p (List.mem_append_right _ z)) fun z => by
    obtain ⟨hb, e⟩ := of_pinsAt z
    obtain ⟨f0, f1, f2, _⟩ := hf p.1 hb
    obtain ⟨o, e', d⟩ := ho p.1 hb
    rw [e] at e'; cases e'
    exact ⟨e, f0, f1, f2, d⟩
theorem Inv.unpinned {pins pl : List (Addr × Obj)} {σ : St} {H : Hp} {s : Shared} (I : Inv X (pins ++ pl) σ H s) : Inv X pins σ H s := I.pins_of fun p hp => I.pin p (List.mem_append_right _ (List.mem_append_left _ hp))
theorem ps_for {iter : Expr} {body : List Stmt} {wi : TI} {g : TG} {tb : TS} {pos : Pos} (hp : PassesOwn (model X.prog X.w) X.A X.env X.xe) (hc : X.calm = true) (hi : PI X tg iter wi) (hg : PG X tg g) (hb : PSs X body tb)
    (hs : ∀ x, foldedSetIterable iter X.env x = pure x := by intro _; rfl) : PS X (.For tg iter body [] pos) (tFor wi g tb) := by
  intro pins s σ H D I h
  refine wpAny_For (thn (hi pins s σ H _ I h) fun v s1 h1 => thn h1 fun itv s2 h2 => ?_) hs
  obtain ⟨it, fp, tn, J, H2, e, I2, T, st2, f2, W, ⟨m0, w0⟩, turn⟩ := h2
  subst e
  have stat : ∀ {H' : Hp}, (∀ b ∈ fp, H' b = none) → ∀ b ∈ fp, FpOk X pins H' b := fun hn b hb => ⟨hn b hb, (f2 b hb).2⟩
  refine codeAny_forLoop_any (fun n s' => ∃ i σ' H', Inv X pins σ' H' s' ∧ tn i s'.heap ∧ (∀ b ∈ fp, H' b = none) ∧ W i n σ' H') ?_ m0 ⟨0, σ, H2, I2, st2, fun b hb => (f2 b hb).1, w0⟩
  rintro n s3 ⟨i, σ3, H3, I3, st3, fr3, w3⟩
  rcases turn i n σ3 H3 w3 with ⟨stop, qn⟩ | ⟨go, N, hN, step⟩
  · refine wpAny_passesOwn hp (thn (T.done X rfl rfl rfl hc i pins s3 σ3 H3 X.xe I3 (stat fr3) st3 stop) fun r s4 ⟨hr, I4⟩ => ?_)
    subst hr
    exact wpAny_execs_nil ⟨σ3, H3, I4, qn⟩
  · refine wpAny_passesOwn hp (thn (T.item X rfl rfl rfl hc i pins s3 σ3 H3 X.xe I3 (stat fr3) st3 go) fun r s4 ⟨u, hr, h4⟩ => ?_)
    subst hr
    refine wpAny_passesOwn hp (thn h4 fun _ s5 ⟨x, H5, I5, r5, y5, st5, fr5⟩ => ?_)
    have I5' := I5.pinned (stat fr5) (T.obj _ _ st5)
    refine wpAny_passesOwn hp (thn (hg _ s5 σ3 H5 x u _ I5' r5 (step x H5 y5)) fun _ s6 ⟨σ6, H6, I6, q6⟩ => ?_)
    refine wpAny_passesOwn hp (thn (hb _ s6 σ6 H6 _ I6 q6) fun f s7 q7 => ?_)
    have again : ∀ {σ7 : St} {H7 : Hp}, Inv X (pins ++ pinsAt fp s5.heap) σ7 H7 s7 → N σ7 H7 → ∃ m, m < n ∧ ∃ i σ' H', Inv X pins σ' H' s7 ∧ tn i s7.heap ∧ (∀ b ∈ fp, H' b = none) ∧ W i m σ' H' := fun {σ7 H7} I7 n7 => by
      obtain ⟨m', hm, w7⟩ := hN σ7 H7 n7
      refine ⟨m', hm, i + 1, σ7, H7, I7.unpinned, T.keep _ _ _ st5 fun b hb o e => (I7.pin (b, o) (List.mem_append_right _ (List.mem_append_right _ (mem_pinsAt hb e)))).1, fun b hb => ?_, w7⟩
      obtain ⟨o, e, d⟩ := T.obj _ _ st5 b hb
      exact (I7.pin (b, o) (List.mem_append_right _ (List.mem_append_right _ (mem_pinsAt hb e)))).2.1
    cases f with
    | next => obtain ⟨σ7, H7, I7, n7⟩ := q7; exact again I7 n7
    | cont => obtain ⟨σ7, H7, I7, n7⟩ := q7; exact again I7 n7
    | brk => obtain ⟨σ7, H7, I7, q7⟩ := q7; exact ⟨σ7, H7, I7.unpinned, q7⟩
    | ret v => obtain ⟨x7, σ7, H7, I7, r7, q7⟩ := q7; exact ⟨x7, σ7, H7, I7.unpinned, r7, q7⟩
end
theorem for_list {K : PySem.W.Frag} {a : Addr} {xs : List V} {g : TG} {tb : TS} {D : Ends} {σ : St} {H : Hp} (Pv : Nat → St → Hp → Prop) (h0 : Pv 0 σ H) (hl : ∀ i σ H, i ≤ xs.length → Pv i σ H → SqL K H a xs)
    (hs : ∀ i x σ H, xs[i]? = some x → Pv i σ H → g x σ H fun σ2 H2 => tb { D with nx := Pv (i + 1), ct := Pv (i + 1), bk := D.nx } σ2 H2) (hd : ∀ σ H, Pv xs.length σ H → D.nx σ H) :
    ∃ W : Nat → Nat → St → Hp → Prop, (∃ m, W 0 m σ H) ∧ ∀ i m σ H, W i m σ H →
      ((Itl K a).stop i H ∧ D.nx σ H) ∨ ((Itl K a).go i H ∧ ∃ N : St → Hp → Prop, (∀ σ' H', N σ' H' → ∃ m', m' < m ∧ W (i + 1) m' σ' H') ∧ ∀ x H', (Itl K a).yld i H x H' → g x σ H' fun σ2 H2 => tb { D with nx := N, ct := N, bk := D.nx } σ2 H2) := by
  refine ⟨fun i m σ H => m = xs.length - i ∧ i ≤ xs.length ∧ Pv i σ H, ⟨xs.length, by simp, Nat.zero_le _, h0⟩, ?_⟩
  rintro i m σ H ⟨rfl, hi, p⟩
  have q := hl i σ H hi p
  by_cases hlt : i < xs.length
  · refine .inr ⟨⟨xs, xs[i], q, by simp [hlt]⟩, Pv (i + 1), fun σ' H' p' => ⟨xs.length - (i + 1), by omega, rfl, hlt, p'⟩, fun x H' y => ?_⟩
    obtain ⟨e, y⟩ := y
    subst e
    exact hs i x σ _ (y xs q) p
  · have e : i = xs.length := by omega
    subst e
    exact .inl ⟨⟨xs, q, Nat.le_refl _⟩, hd σ H p⟩
theorem for_range {lo : Int} {n : Nat} {g : TG} {tb : TS} {D : Ends} {σ : St} {H : Hp} (Pv : Nat → St → Hp → Prop) (h0 : Pv 0 σ H)
    (hs : ∀ i σ H, i < n → Pv i σ H → g (.int (lo + i)) σ H fun σ2 H2 => tb { D with nx := Pv (i + 1), ct := Pv (i + 1), bk := D.nx } σ2 H2) (hd : ∀ σ H, Pv n σ H → D.nx σ H) :
    ∃ W : Nat → Nat → St → Hp → Prop, (∃ m, W 0 m σ H) ∧ ∀ i m σ H, W i m σ H →
      ((Itr lo n).stop i H ∧ D.nx σ H) ∨ ((Itr lo n).go i H ∧ ∃ N : St → Hp → Prop, (∀ σ' H', N σ' H' → ∃ m', m' < m ∧ W (i + 1) m' σ' H') ∧ ∀ x H', (Itr lo n).yld i H x H' → g x σ H' fun σ2 H2 => tb { D with nx := N, ct := N, bk := D.nx } σ2 H2) := by
  refine ⟨fun i m σ H => m = n - i ∧ i ≤ n ∧ Pv i σ H, ⟨n, by simp, Nat.zero_le _, h0⟩, ?_⟩
  rintro i m σ H ⟨rfl, hi, p⟩
  by_cases hlt : i < n
  · refine .inr ⟨hlt, Pv (i + 1), fun σ' H' p' => ⟨n - (i + 1), by omega, rfl, hlt, p'⟩, fun x H' y => ?_⟩
    obtain ⟨e, y⟩ := y
    subst e y
    exact hs i σ _ hlt p
  · have e : i = n := by omega
    subst e
    exact .inl ⟨Nat.le_refl _, hd σ H p⟩
end L2
namespace L2
open PySem PySem.Spec PyProof.Rows
abbrev R2 := V → V → Hp → VK → Prop
def OpR (X : Cx) (f : Value → Value → Sem Value) (r : R2) : Prop :=
  ∀ (pins : List (Addr × Obj)) (s : Shared) (σ : St) (H : Hp) (x y : V) (v u : Value) (Q : VK), Inv X pins σ H s → RelV x v → RelV y u → r x y H Q →
    wpAny (model X.prog X.w) X.A (f v u) (EP X pins σ Q) X.xe s
def UnR (X : Cx) (f : Value → Sem Value) (r : V → Hp → VK → Prop) : Prop :=
  ∀ (pins : List (Addr × Obj)) (s : Shared) (σ : St) (H : Hp) (x : V) (v : Value) (Q : VK), Inv X pins σ H s → RelV x v → r x H Q →
    wpAny (model X.prog X.w) X.A (f v) (EP X pins σ Q) X.xe s
def CallR (X : Cx) (f : Value) (r : List V → Hp → VK → Prop) : Prop :=
  ∀ (pins : List (Addr × Obj)) (s : Shared) (σ : St) (H : Hp) (xs : List V) (us : List Value) (Q : VK), Inv X pins σ H s → Vals xs us → r xs H Q →
    wpAny (model X.prog X.w) X.A (call f us) (EP X pins σ Q) X.xe s
def TruR (X : Cx) (r : V → Hp → (Bool → Hp → Prop) → Prop) : Prop :=
  ∀ (pins : List (Addr × Obj)) (s : Shared) (σ : St) (H : Hp) (x : V) (v : Value) (Q : Bool → Hp → Prop), Inv X pins σ H s → RelV x v → r x H Q →
    wpAny (model X.prog X.w) X.A (truthy v) (TP X pins σ Q) X.xe s
def tOp (r : R2) (ta tb : TE) : TE := fun σ H Q => ta σ H fun x H1 => tb σ H1 fun y H2 => r x y H2 Q
def tUn (r : V → Hp → VK → Prop) (ta : TE) : TE := fun σ H Q => ta σ H fun x H1 => r x H1 Q
def rI (C : Int → Int → Prop) (g : Int → Int → V) : R2 := fun x y H Q => ∃ i j, x = .int i ∧ y = .int j ∧ C i j ∧ Q (g i j) H
def rI0 (g : Int → Int → V) : R2 := fun x y H Q => ∃ i j, x = .int i ∧ y = .int j ∧ Q (g i j) H
def rU (g : Int → V) : V → Hp → VK → Prop := fun x H Q => ∃ i, x = .int i ∧ Q (g i) H
section
variable {X : Cx} {a b c : Expr} {ta tb tc : TE} {pos : Pos}
theorem binT (ha : PE X a ta) (hb : PE X b tb) {pins : List (Addr × Obj)} {s : Shared} {σ : St} {H : Hp} {R : V → V → Hp → Prop} (I : Inv X pins σ H s)
    (h : ta σ H fun x H1 => tb σ H1 fun y H2 => R x y H2) {Q : Value → Shared → Prop} {f : Value → Value → Sem Value}
    (hf : ∀ v u s2 x y H2, Inv X pins σ H2 s2 → RelV x v → RelV y u → R x y H2 → wpAny (model X.prog X.w) X.A (f v u) Q X.xe s2) :
    wpAny (model X.prog X.w) X.A (eval a X.env) (fun v s₁ => wpAny (model X.prog X.w) X.A (eval b X.env) (fun u s₂ => wpAny (model X.prog X.w) X.A (f v u) Q X.xe s₂) X.xe s₁) X.xe s := by
  refine thn (ha pins s σ H _ I h) fun v s1 ⟨x, H1, I1, r1, q1⟩ => ?_
  refine thn (hb pins s1 σ H1 _ I1 q1) fun u s2 ⟨y, H2, I2, r2, q2⟩ => ?_
  exact hf v u s2 x y H2 I2 r1 r2 q2
theorem pe_op {op : Operator} {r : R2} (ho : OpR X (binaryOp op) r) (ha : PE X a ta) (hb : PE X b tb) : PE X (.BinOp a op b pos) (tOp r ta tb) := by
  intro pins s σ H Q I h
  exact wpAny_BinOp (binT ha hb I h fun v u s2 x y H2 I2 rx ry q => ho pins s2 σ H2 x y v u Q I2 rx ry q)
theorem pe_un {op : UnaryOp} {r : V → Hp → VK → Prop} (ho : UnR X (unaryOp op) r) (ha : PE X a ta) : PE X (.UnaryOp op a pos) (tUn r ta) := by
  intro pins s σ H Q I h
  exact UnaryOp_ (thn (ha pins s σ H _ I h) fun v s1 ⟨x, H1, I1, r1, q1⟩ => ho pins s1 σ H1 x v Q I1 r1 q1)
theorem opI {f : Value → Value → Sem Value} {C : Int → Int → Prop} {g : Int → Int → Int}
    (rule : ∀ (i j : Int) (t u : Tok) (s : Shared) (Q : Value → Shared → Prop) (E : Value → Shared → Prop), C i j → Q (.int (g i j) s.toks) { s with toks := s.toks + 1 } → wpAny (model X.prog X.w) X.A (f (.int i t) (.int j u)) Q E s) :
    OpR X f (rI C fun i j => .int (g i j)) := by
  intro pins s σ H x y v u Q I rx ry h
  obtain ⟨i, j, rfl, rfl, hc, q⟩ := h
  obtain ⟨t, rfl⟩ := rx
  obtain ⟨t', rfl⟩ := ry
  exact rule i j t t' s _ _ hc ⟨.int (g i j), H, I.tok _, ⟨_, rfl⟩, q⟩
theorem opI0 {f : Value → Value → Sem Value} {g : Int → Int → Int}
    (rule : ∀ (i j : Int) (t u : Tok) (s : Shared) (Q : Value → Shared → Prop) (E : Value → Shared → Prop), Q (.int (g i j) s.toks) { s with toks := s.toks + 1 } → wpAny (model X.prog X.w) X.A (f (.int i t) (.int j u)) Q E s) :
    OpR X f (rI0 fun i j => .int (g i j)) := by
  intro pins s σ H x y v u Q I rx ry h
  obtain ⟨i, j, rfl, rfl, q⟩ := h
  obtain ⟨t, rfl⟩ := rx
  obtain ⟨t', rfl⟩ := ry
  exact rule i j t t' s _ _ ⟨.int (g i j), H, I.tok _, ⟨_, rfl⟩, q⟩
theorem opB0 {f : Value → Value → Sem Value} {g : Int → Int → Bool}
    (rule : ∀ (i j : Int) (t u : Tok) (s : Shared) (Q : Value → Shared → Prop) (E : Value → Shared → Prop), Q (.bool (g i j)) s → wpAny (model X.prog X.w) X.A (f (.int i t) (.int j u)) Q E s) :
    OpR X f (rI0 fun i j => .bl (g i j)) := by
  intro pins s σ H x y v u Q I rx ry h
  obtain ⟨i, j, rfl, rfl, q⟩ := h
  obtain ⟨t, rfl⟩ := rx
  obtain ⟨t', rfl⟩ := ry
  exact rule i j t t' s _ _ ⟨.bl (g i j), H, I, rfl, q⟩
def CDiv (i j : Int) : Prop := 0 < j ∧ j < 1073741824
def CPow (i j : Int) : Prop := 0 ≤ j ∧ j ≤ 1000000 ∧ i.natAbs < 2 ^ 64
def CMul (i j : Int) : Prop := (-(2 ^ 64) < i ∧ i < 2 ^ 64) ∨ (-(2 ^ 64) < j ∧ j < 2 ^ 64)
theorem CMul.ok {i j : Int} (h : CMul i j) : IntMulOk i j := by
  rcases h with ⟨h1, h2⟩ | ⟨h1, h2⟩
  · exact .of_left (intBits_le_64 h1 h2)
  · exact .of_right (intBits_le_64 h1 h2)
theorem op_add : OpR X (binaryOp .Add) (rI0 fun i j => .int (i + j)) := opI0 fun _ _ _ _ _ _ _ q => add_int q
theorem op_mul : OpR X (binaryOp .Mult) (rI CMul fun i j => .int (i * j)) := opI fun _ _ _ _ _ _ _ hc q => mul_int q hc.ok
theorem op_fdiv : OpR X (binaryOp .FloorDiv) (rI CDiv fun i j => .int (i / j)) := opI fun i j _ _ _ _ _ hc q => by
  have h1 : (0 : Int) < j := hc.1
  have h2 : j < 1073741824 := hc.2
  exact floordiv_int (by omega) (by rw [Int.fdiv_eq_ediv_of_nonneg i (by omega)]; exact q) (.inl (PyProof.noPylong_small (by omega)))
theorem op_mod : OpR X (binaryOp .Mod) (rI (fun _ j => 0 < j) fun i j => .int (i % j)) := opI fun i j _ _ _ _ _ hc q => by
  have h1 : (0 : Int) < j := hc
  exact mod_int' (by omega) (by rw [Int.fmod_eq_emod_of_nonneg i (by omega)]; exact q)
theorem op_pow : OpR X (binaryOp .Pow) (rI CPow fun i j => .int (i ^ j.toNat)) := opI fun _ _ _ _ _ _ _ hc q => pow_int_small hc.1 hc.2.1 hc.2.2 q
theorem iop_add : OpR X (inplaceOp .Add) (rI0 fun i j => .int (i + j)) := opI0 fun _ _ _ _ _ _ _ q => iadd_int q
theorem iop_fdiv : OpR X (inplaceOp .FloorDiv) (rI CDiv fun i j => .int (i / j)) := opI fun i j _ _ _ _ _ hc q => by
  have h1 : (0 : Int) < j := hc.1
  have h2 : j < 1073741824 := hc.2
  exact ifloordiv_int (by omega) (by rw [Int.fdiv_eq_ediv_of_nonneg i (by omega)]; exact q) (.inl (PyProof.noPylong_small (by omega)))
theorem unI {f : Value → Sem Value} {g : Int → Int}
    (rule : ∀ (i : Int) (t : Tok) (s : Shared) (Q : Value → Shared → Prop) (E : Value → Shared → Prop), Q (.int (g i) s.toks) { s with toks := s.toks + 1 } → wpAny (model X.prog X.w) X.A (f (.int i t)) Q E s) :
    UnR X f (rU fun i => .int (g i)) := by
  intro pins s σ H x v Q I rx h
  obtain ⟨i, rfl, q⟩ := h
  obtain ⟨t, rfl⟩ := rx
  exact rule i t s _ _ ⟨.int (g i), H, I.tok _, ⟨_, rfl⟩, q⟩
theorem un_neg : UnR X (unaryOp .USub) (rU fun i => .int (-i)) := unI fun _ _ _ _ _ q => neg_int q
end
def scal : V → V → Bool
  | .non, .non => true | .non, .int _ => true | .int _, .non => true | .non, .bl _ => true | .bl _, .non => true | .non, .str _ => true | .str _, .non => true
  | .int _, .int _ => true | .bl _, .bl _ => true | .str _, .str _ => true | .byt _, .byt _ => true
  | .int _, .str _ => true | .str _, .int _ => true | .bl _, .str _ => true | .str _, .bl _ => true
  | _, _ => false
def rEq : R2 := fun x y H Q => scal x y = true ∧ Q (.bl (decide (x = y))) H
def rNe : R2 := fun x y H Q => scal x y = true ∧ Q (.bl (!decide (x = y))) H
theorem dec_int {i j : Int} : decide (V.int i = V.int j) = (i == j) := by
  rw [Bool.eq_iff_iff]
  simp
theorem dec_bl {i j : Bool} : decide (V.bl i = V.bl j) = (i == j) := by
  rw [Bool.eq_iff_iff]
  simp
theorem dec_str {i j : Str} : decide (V.str i = V.str j) = (i == j) := by
  rw [Bool.eq_iff_iff]
  simp
theorem dec_byt {i j : Array UInt8} : decide (V.byt i = V.byt j) = (i.toList == j.toList) := by
  rw [Bool.eq_iff_iff]
  cases i
  cases j
  simp
section
variable {X : Cx} {a b c : Expr} {ta tb tc : TE} {pos : Pos}
theorem fin_bl {pins : List (Addr × Obj)} {σ : St} {H : Hp} {s : Shared} {Q : VK} {k k' : Bool} (I : Inv X pins σ H s) (q : Q (.bl k) H) (e : k = k') : EP X pins σ Q (.bool k') s := by
  subst e
  exact ⟨.bl k, H, I, rfl, q⟩
theorem op_eq : OpR X (compareOp .Eq) rEq := by
  intro pins s σ H x y v u Q I rx ry h
  obtain ⟨hs, q⟩ := h
  cases x with
  | non =>
    cases rx
    cases y with
    | non => cases ry; exact PySem.EqNone.eq_none_none (fin_bl I q (by simp))
    | bl j => cases ry; exact PySem.EqNone.eq_none_bool (fin_bl I q (by simp))
    | int j => obtain ⟨t', rfl⟩ := ry; exact PySem.EqNone.eq_none_int (fin_bl I q (by simp))
    | str j => obtain ⟨t', rfl⟩ := ry; exact PySem.EqNone.eq_none_str (fin_bl I q (by simp))
    | _ => exact absurd (show false = true from hs) Bool.false_ne_true
  | bl i =>
    cases rx
    cases y with
    | non => cases ry; exact PySem.EqNone.eq_bool_none (fin_bl I q (by simp))
    | bl j => cases ry; exact eq_bool (fin_bl I q dec_bl)
    | str j => obtain ⟨t', rfl⟩ := ry; exact PySem.EqMixed.eq_bool_str (fin_bl I q (by simp))
    | _ => exact absurd (show false = true from hs) Bool.false_ne_true
  | int i =>
    obtain ⟨t, rfl⟩ := rx
    cases y with
    | non => cases ry; exact PySem.EqNone.eq_int_none (fin_bl I q (by simp))
    | int j => obtain ⟨t', rfl⟩ := ry; exact eq_int (fin_bl I q dec_int)
    | str j => obtain ⟨t', rfl⟩ := ry; exact PySem.EqMixed.eq_int_str (fin_bl I q (by simp))
    | _ => exact absurd (show false = true from hs) Bool.false_ne_true
  | str i =>
    obtain ⟨t, rfl⟩ := rx
    cases y with
    | non => cases ry; exact PySem.EqNone.eq_str_none (fin_bl I q (by simp))
    | bl j => cases ry; exact PySem.EqMixed.eq_str_bool (fin_bl I q (by simp))
    | int j => obtain ⟨t', rfl⟩ := ry; exact PySem.EqMixed.eq_str_int (fin_bl I q (by simp))
    | str j => obtain ⟨t', rfl⟩ := ry; exact eq_str (fin_bl I q dec_str)
    | _ => exact absurd (show false = true from hs) Bool.false_ne_true
  | byt i =>
    obtain ⟨t, rfl⟩ := rx
    cases y with
    | byt j => obtain ⟨t', rfl⟩ := ry; exact PySem.W.eq_bytes (fin_bl I q dec_byt)
    | _ => exact absurd (show false = true from hs) Bool.false_ne_true
  | _ => cases y <;> exact absurd (show false = true from hs) Bool.false_ne_true
theorem op_ne : OpR X (compareOp .NotEq) rNe := by
  intro pins s σ H x y v u Q I rx ry h
  obtain ⟨hs, q⟩ := h
  cases x with
  | non =>
    cases rx
    cases y with
    | non => cases ry; exact PySem.EqNone.ne_none_none (fin_bl I q (by simp))
    | bl j => cases ry; exact PySem.EqNone.ne_none_bool (fin_bl I q (by simp))
    | int j => obtain ⟨t', rfl⟩ := ry; exact PySem.EqNone.ne_none_int (fin_bl I q (by simp))
    | str j => obtain ⟨t', rfl⟩ := ry; exact PySem.EqNone.ne_none_str (fin_bl I q (by simp))
    | _ => exact absurd (show false = true from hs) Bool.false_ne_true
  | bl i =>
    cases rx
    cases y with
    | non => cases ry; exact PySem.EqNone.ne_bool_none (fin_bl I q (by simp))
    | bl j => cases ry; exact ne_bool (fin_bl I q (congrArg not dec_bl))
    | str j => obtain ⟨t', rfl⟩ := ry; exact PySem.EqMixed.ne_bool_str (fin_bl I q (by simp))
    | _ => exact absurd (show false = true from hs) Bool.false_ne_true
  | int i =>
    obtain ⟨t, rfl⟩ := rx
    cases y with
    | non => cases ry; exact PySem.EqNone.ne_int_none (fin_bl I q (by simp))
    | int j => obtain ⟨t', rfl⟩ := ry; exact ne_int (fin_bl I q (congrArg not dec_int))
    | str j => obtain ⟨t', rfl⟩ := ry; exact PySem.EqMixed.ne_int_str (fin_bl I q (by simp))
    | _ => exact absurd (show false = true from hs) Bool.false_ne_true
  | str i =>
    obtain ⟨t, rfl⟩ := rx
    cases y with
    | non => cases ry; exact PySem.EqNone.ne_str_none (fin_bl I q (by simp))
    | bl j => cases ry; exact PySem.EqMixed.ne_str_bool (fin_bl I q (by simp))
    | int j => obtain ⟨t', rfl⟩ := ry; exact PySem.EqMixed.ne_str_int (fin_bl I q (by simp))
    | str j => obtain ⟨t', rfl⟩ := ry; exact ne_str (fin_bl I q (congrArg not dec_str))
    | _ => exact absurd (show false = true from hs) Bool.false_ne_true
  | byt i =>
    obtain ⟨t, rfl⟩ := rx
    cases y with
    | byt j => obtain ⟨t', rfl⟩ := ry; exact PySem.W.ne_bytes (fin_bl I q (congrArg not dec_byt))
    | _ => exact absurd (show false = true from hs) Bool.false_ne_true
  | _ => cases y <;> exact absurd (show false = true from hs) Bool.false_ne_true
theorem op_lt : OpR X (compareOp .Lt) (rI0 fun i j => .bl (decide (i < j))) := opB0 fun _ _ _ _ _ _ _ q => lt_int q
theorem op_le : OpR X (compareOp .LtE) (rI0 fun i j => .bl (decide (i ≤ j))) := opB0 fun _ _ _ _ _ _ _ q => le_int q
theorem op_gt : OpR X (compareOp .Gt) (rI0 fun i j => .bl (decide (j < i))) := opB0 fun _ _ _ _ _ _ _ q => gt_int q
theorem op_ge : OpR X (compareOp .GtE) (rI0 fun i j => .bl (decide (j ≤ i))) := opB0 fun _ _ _ _ _ _ _ q => ge_int q
theorem nomark (b : Expr) {op : CmpOp} (h : op ≠ .In := by decide) (h2 : op ≠ .NotIn := by decide) : behindInMarks op b = false := by
  have e1 : (op == CmpOp.In) = false := by cases op <;> first | rfl | exact absurd rfl h
  have e2 : (op == CmpOp.NotIn) = false := by cases op <;> first | rfl | exact absurd rfl h2
  cases b <;> simp [behindInMarks, e1, e2]
theorem pe_cmpR {op : CmpOp} {r : R2} (ho : OpR X (compareOp op) r) (ha : PE X a ta) (hb : PE X b tb) (hm : behindInMarks op b = false) : PE X (.Compare a [op] [b] pos) (tOp r ta tb) := by
  intro pins s σ H Q I h
  exact wpAny_Compare1 (binT ha hb I h fun v u s2 x y H2 I2 rx ry q => ho pins s2 σ H2 x y v u Q I2 rx ry q) hm
def tTest (t : TE) : TT := fun σ H Q => t σ H fun x H' => ∃ k, x = .bl k ∧ Q k H'
theorem pt_cmpR {op : CmpOp} {r : R2} (ho : OpR X (compareOp op) r) (ha : PE X a ta) (hb : PE X b tb) (hm : behindInMarks op b = false) : PT X (.Compare a [op] [b] pos) (tTest (tOp r ta tb)) := by
  intro pins s σ H Q I h
  refine wpAny_isTrue_Compare1 (thn (ha pins s σ H _ I h) fun v s1 ⟨x, H1, I1, r1, q1⟩ => thn (hb pins s1 σ H1 _ I1 q1) fun u s2 ⟨y, H2, I2, r2, q2⟩ =>
    thn (ho pins s2 σ H2 x y v u _ I2 r1 r2 q2) fun c s3 ⟨z, H3, I3, r3, k, e, q3⟩ => ?_) hm
  subst e
  cases r3
  exact wpAny_truthy_bool ⟨H3, I3, q3⟩
def tChain (r r' : R2) (ta tb tc : TE) : TE := fun σ H Q => ta σ H fun x H1 => tb σ H1 fun y H2 => r x y H2 fun z H3 => ∃ k, z = .bl k ∧
  (if k = true then tc σ H3 fun w' H4 => r' y w' H4 Q else Q (.bl false) H3)
theorem pe_chain {op op' : CmpOp} {r r' : R2} (ho : OpR X (compareOp op) r) (ho' : OpR X (compareOp op') r') (ha : PE X a ta) (hb : PE X b tb) (hc : PE X c tc)
    (hm : lastMarks [op, op'] [b, c] = false := by with_unfolding_all rfl) : PE X (.Compare a [op, op'] [b, c] pos) (tChain r r' ta tb tc) := by
  intro pins s σ H Q I h
  refine Compare_chain (thn (ha pins s σ H _ I h) fun v s1 ⟨x, H1, I1, r1, q1⟩ => chain_link (thn (hb pins s1 σ H1 _ I1 q1) fun u s2 ⟨y, H2, I2, r2, q2⟩ =>
    thn (ho pins s2 σ H2 x y v u _ I2 r1 r2 q2) fun d s3 ⟨z, H3, I3, r3, k, e, q3⟩ => ?_)) hm
  subst e
  cases r3
  refine wpAny_truthy_bool ?_
  cases k with
  | false => exact ite_ff ⟨.bl false, H3, I3, rfl, q3⟩
  | true => exact ite_tt (chain_last (thn (hc pins s3 σ H3 _ I3 q3) fun w' s4 ⟨z', H4, I4, r4, q4⟩ => ho' pins s4 σ H4 y z' u w' Q I4 r2 r4 q4))
theorem pt_chain {op op' : CmpOp} {r r' : R2} (ho : OpR X (compareOp op) r) (ho' : OpR X (compareOp op') r') (ha : PE X a ta) (hb : PE X b tb) (hc : PE X c tc)
    (hm : lastMarks [op, op'] [b, c] = false := by with_unfolding_all rfl) : PT X (.Compare a [op, op'] [b, c] pos) (tTest (tChain r r' ta tb tc)) := by
  intro pins s σ H Q I h
  refine isTrue_chain (thn (ha pins s σ H _ I h) fun v s1 ⟨x, H1, I1, r1, q1⟩ => test_link (thn (hb pins s1 σ H1 _ I1 q1) fun u s2 ⟨y, H2, I2, r2, q2⟩ =>
    thn (ho pins s2 σ H2 x y v u _ I2 r1 r2 q2) fun d s3 ⟨z, H3, I3, r3, k, e, q3⟩ => ?_)) hm
  subst e
  cases r3
  refine wpAny_truthy_bool ?_
  cases k with
  | false =>
    obtain ⟨k', e', q'⟩ := q3
    cases e'
    exact ite_ff ⟨H3, I3, q'⟩
  | true =>
    refine ite_tt (test_last (thn (hc pins s3 σ H3 _ I3 q3) fun w' s4 ⟨z', H4, I4, r4, q4⟩ => thn (ho' pins s4 σ H4 y z' u w' _ I4 r2 r4 q4) fun d' s5 ⟨z2, H5, I5, r5, k2, e2, q5⟩ => ?_))
    subst e2
    cases r5
    exact wpAny_truthy_bool ⟨H5, I5, q5⟩
def TruV (K : PySem.W.Frag) (x : V) (H : Hp) (k : Bool) : Prop :=
  match x with
  | .non => k = false
  | .bl b => k = b
  | .int i => k = (i != 0)
  | .str y => y.length ≤ sizeLine ∧ k = ((y.length : Int) != 0)
  | .byt y => y.size ≤ sizeLine ∧ k = ((y.size : Int) != 0)
  | .ref p => (∃ xs, SqL K H p xs ∧ k = !xs.isEmpty) ∨ (∃ xs, SqT K H p xs ∧ k = !xs.isEmpty) ∨ ∃ kvs, H p = some (.dK kvs) ∧ k = !kvs.isEmpty
  | _ => False
theorem isEmpty_kv {κ : Type} {kvs : List (κ × V)} {vs : List (κ × Value)} (r : KV kvs vs) : (!vs.isEmpty) = !kvs.isEmpty := by
  cases r <;> rfl
theorem isEmpty_of {xs : List V} {its : List Value} (r : Vals xs its) : (!its.toArray.isEmpty) = !xs.isEmpty := by
  cases r <;> simp
theorem line63 : (sizeLine : Nat) < 2 ^ 63 := by rw [sizeLine_eq]; decide
theorem tru_ok : TruR X (fun x H Q => ∃ k, TruV X.K x H k ∧ Q k H) := by
  intro pins s σ H x v Q I rx h
  obtain ⟨k, e, q⟩ := h
  have hl := line63
  have hs : sizeLine = 16777216 := sizeLine_eq
  cases x with
  | non =>
    cases rx
    have e' : k = false := e
    subst e'
    exact truthy_none ⟨H, I, q⟩
  | bl b =>
    cases rx
    have e' : k = b := e
    subst e'
    exact wpAny_truthy_bool ⟨H, I, q⟩
  | int i =>
    obtain ⟨t, rfl⟩ := rx
    have e' : k = (i != 0) := e
    subst e'
    exact PySem.P.truthy_int ⟨H, I, q⟩
  | str y =>
    obtain ⟨t, rfl⟩ := rx
    obtain ⟨hy, e'⟩ : y.length ≤ sizeLine ∧ k = ((y.length : Int) != 0) := e
    subst e'
    exact PySem.P.truthy_str (by omega) ⟨H, I.tok _, q⟩
  | byt y =>
    obtain ⟨t, rfl⟩ := rx
    obtain ⟨hy, e'⟩ : y.size ≤ sizeLine ∧ k = ((y.size : Int) != 0) := e
    subst e'
    exact PySem.W.truthy_bytes (by omega) ⟨H, I.tok _, q⟩
  | ref p =>
    cases rx
    have e' : (∃ xs, SqL X.K H p xs ∧ k = !xs.isEmpty) ∨ (∃ xs, SqT X.K H p xs ∧ k = !xs.isEmpty) ∨ ∃ kvs, H p = some (.dK kvs) ∧ k = !kvs.isEmpty := e
    rcases e' with ⟨xs, hx, e'⟩ | ⟨xs, hx, e'⟩ | ⟨kvs, hx, e'⟩
    · subst e'
      obtain ⟨its, r, pl, hz⟩ := I.list hx
      have hlen := r.length
      exact wpAny_truthy_list pl.isList (by simp only [List.size_toArray]; omega) ⟨H, I.tok _, by rw [isEmpty_of r]; exact q⟩
    · subst e'
      obtain ⟨its, r, pl, hz⟩ := I.tuple hx
      have hlen := r.length
      exact truthy_tuple pl (by simp only [List.size_toArray]; omega) ⟨H, I.tok _, by rw [isEmpty_of r]; exact q⟩
    · subst e'
      obtain ⟨hz, hS, vs, r, m⟩ : kvs.length ≤ sizeLine ∧ (p == sysModules) = false ∧ ∃ vs, KV kvs vs ∧ s.heap.DictOf (mixKind X.prog X.w) p vs := I.hok p _ hx
      have hlen : kvs.length = vs.length := Paired.length r
      exact wpAny_truthy_dict hS m (by omega) ⟨H, I.tok _, by rw [isEmpty_kv r]; exact q⟩
  | _ => exact (show False from e).elim
theorem op_add_str : OpR X (binaryOp .Add) (fun x y H Q => ∃ i j, x = .str i ∧ y = .str j ∧ i.length + j.length ≤ sizeLine ∧ Q (.str (i ++ j)) H) := by
  intro pins s σ H x y v u Q I rx ry h
  obtain ⟨i, j, rfl, rfl, hz, q⟩ := h
  obtain ⟨t, rfl⟩ := rx
  obtain ⟨t', rfl⟩ := ry
  exact add_str (fun t' tk => ⟨.str (i ++ j), H, I.tok _, ⟨_, rfl⟩, q⟩) hz
theorem vals1 {x : V} {us : List Value} (r : Vals [x] us) : ∃ u, us = [u] ∧ RelV x u := by
  cases r with
  | cons r1 r2 => cases r2; exact ⟨_, rfl, r1⟩
theorem vals2 {x y : V} {us : List Value} (r : Vals [x, y] us) : ∃ u w', us = [u, w'] ∧ RelV x u ∧ RelV y w' := by
  cases r with
  | cons r1 r2 =>
    cases r2 with
    | cons r3 r4 => cases r4; exact ⟨_, _, rfl, r1, r3⟩
theorem call_int1 : CallR X (.type "int") (fun xs H Q => (∃ i, xs = [.int i] ∧ Q (.int i) H) ∨ ∃ k, xs = [.bl k] ∧ Q (.int (if k then 1 else 0)) H) := by
  intro pins s σ H xs us Q I r h
  rcases h with ⟨i, rfl, q⟩ | ⟨k, rfl, q⟩
  · obtain ⟨u, rfl, t, rfl⟩ := vals1 r
    exact call_int_int ⟨.int i, H, I, ⟨_, rfl⟩, q⟩
  · obtain ⟨u, rfl, r1⟩ := vals1 r
    cases r1
    exact call_int_bool ⟨.int (if k then 1 else 0), H, I.tok _, ⟨_, rfl⟩, q⟩
def LenV (K : PySem.W.Frag) (x : V) (H : Hp) (n : Nat) : Prop :=
  match x with
  | .str y => y.length ≤ sizeLine ∧ n = y.length
  | .byt y => y.size ≤ sizeLine ∧ n = y.size
  | .ref p => (∃ xs, SqL K H p xs ∧ n = xs.length) ∨ ∃ xs, SqT K H p xs ∧ n = xs.length
  | _ => False
theorem call_len : CallR X (.builtin "len") (fun xs H Q => ∃ x n, xs = [x] ∧ LenV X.K x H n ∧ Q (.int n) H) := by
  intro pins s σ H xs us Q I r h
  obtain ⟨x, n, rfl, e, q⟩ := h
  obtain ⟨u, rfl, rx⟩ := vals1 r
  have hl := line63
  have hs : sizeLine = 16777216 := sizeLine_eq
  cases x with
  | str y =>
    obtain ⟨t, rfl⟩ := rx
    obtain ⟨hy, e'⟩ : y.length ≤ sizeLine ∧ n = y.length := e
    subst e'
    exact len_str (by omega) ⟨.int _, H, I.tok _, ⟨_, rfl⟩, q⟩
  | byt y =>
    obtain ⟨t, rfl⟩ := rx
    obtain ⟨hy, e'⟩ : y.size ≤ sizeLine ∧ n = y.size := e
    subst e'
    exact PySem.W.len_bytes (by omega) ⟨.int _, H, I.tok _, ⟨_, rfl⟩, q⟩
  | ref p =>
    cases rx
    have e' : (∃ xs, SqL X.K H p xs ∧ n = xs.length) ∨ ∃ xs, SqT X.K H p xs ∧ n = xs.length := e
    rcases e' with ⟨xs, hx, e'⟩ | ⟨xs, hx, e'⟩
    · subst e'
      obtain ⟨its, r', pl, hz⟩ := I.list hx
      have hlen := r'.length
      exact Calls.call_len_list pl.isList (by simp only [List.size_toArray]; omega) ⟨.int xs.length, H, I.tok _, ⟨_, by simp only [List.size_toArray]; rw [hlen]⟩, q⟩
    · subst e'
      obtain ⟨its, r', pl, hz⟩ := I.tuple hx
      have hlen := r'.length
      exact len_tuple pl (by simp only [List.size_toArray]; omega) ⟨.int xs.length, H, I.tok _, ⟨_, by simp only [List.size_toArray]; rw [hlen]⟩, q⟩
  | _ => exact (show False from e).elim
end
end L2
namespace L2
open PySem PySem.Spec PyProof.Rows
section
variable {prog : Program} {w : World} {A : Around} {E : Value → Shared → Prop} {s : Shared} {K : PySem.W.Frag} {x dx C f : Addr} {mA : Str → Option Value} {name : Str} {v : Value}
end
section
variable {P : Program} {w : World} {H H' : Hp} {h h' : Heap} {a C dx : Addr} {fs fs' : List (Str × V)}
end
section
variable {X : Cx} {pins : List (Addr × Obj)} {σ : St} {H : Hp} {s : Shared} {a C dx : Addr} {fs : List (Str × V)} {f : Str} {v : V} {A : Around} {E : Value → Shared → Prop}
end
section
variable {X : Cx} {o e value : Expr} {f : Str} {pos pos' tpos : Pos} {ta tv : TE}
end
section
variable {X : Cx} {pins : List (Addr × Obj)} {σ : St} {H : Hp} {s : Shared} {A : Around} {E : Value → Shared → Prop} {Q : Value → Shared → Prop} {c : Value} {b : Bool}
end
end L2
namespace L2
open PySem PySem.Spec PyProof.Rows
structure Room (k : Nat) (A : Around) : Prop where
  hd : A.handled = none
  dp : A.depth + 3 * k + 5 < recursionLimit
  un : A.units + 16 * k + 200 < cLine
theorem Room.mono {j k : Nat} {A : Around} (r : Room k A) (h : j ≤ k) : Room j A := ⟨r.hd, by have := r.dp; omega, by have := r.un; omega⟩
theorem Room.deeper {k : Nat} {A : Around} (r : Room (k + 1) A) (env : Env) : Room k (A.deeper env) :=
  ⟨r.hd, by have := r.dp; show A.depth + 1 + 3 * k + 5 < _; omega, by have := r.un; show A.units + 3 + 16 * k + 200 < _; omega⟩
theorem Room.depth {k : Nat} {A : Around} (r : Room k A) : A.depth < recursionLimit := by have := r.dp; omega
theorem Room.units {k : Nat} {A : Around} (r : Room k A) : A.units + 64 < cLine := by have := r.un; omega
def tNil : TA := fun _ H Q => Q [] H
def tCons (ta : TE) (tr : TA) : TA := fun σ H Q => ta σ H fun x H1 => tr σ H1 fun xs H2 => Q (x :: xs) H2
section
variable {X : Cx} {e : Expr} {es : List Expr} {te : TE} {t : TA} {pos : Pos}
theorem pa_nil : PA X [] tNil := fun _ _ _ _ H Q I h => Calls.spliced_nil ⟨[], H, I, .nil, h⟩
theorem pa_cons (ha : PE X e te) (hr : PA X es t) (hs : starEach (e :: es) X.env = (false, eval e X.env) :: starEach es X.env := by rfl) : PA X (e :: es) (tCons te t) := by
  intro pos pins s σ H Q I h
  rw [hs]
  show wpAny _ _ (spliced ((false, eval e X.env) :: backTo pos (starEach es X.env))) _ _ s
  refine Calls.spliced_cons (thn (ha pins s σ H _ I h) fun u s1 ⟨x, H1, I1, r1, q1⟩ => ?_)
  exact thn (hr pos pins s1 σ H1 _ I1 q1) fun us s2 ⟨xs, H2, I2, r2, q2⟩ => ⟨x :: xs, H2, I2, .cons r1 r2, q2⟩
def tTup (t : TA) : TE := fun σ H Q => t σ H fun xs H1 => xs.length ≤ sizeLine ∧ ∀ p, H1 p = none → Q (.ref p) (upd H1 p (.tup xs))
def tLst (t : TA) : TE := fun σ H Q => t σ H fun xs H1 => xs.length ≤ sizeLine ∧ ∀ p, H1 p = none → Q (.ref p) (upd H1 p (.lst xs))
theorem pe_tup {x1} (h : PA X es t) : PE X (.Tuple es x1 pos) (tTup t) := by
  intro pins s σ H Q I hq
  refine wpAny_Tuple_spliced (thn (h pos pins s σ H _ I hq) fun us s1 ⟨xs, H1, I1, r, z, q⟩ => ⟨by rw [← r.length]; exact z, ?_⟩)
  have hf : H1 s1.heap.objs.size = none := I1.hok.fresh (Nat.le_refl _)
  refine ⟨.ref s1.heap.objs.size, upd H1 s1.heap.objs.size (.tup xs), I1.laid (t' := s1.toks) (fun b u e => Heap.get?_push_of_some _ e) (Nat.le_refl _) ?_, rfl, q _ hf⟩
  exact ⟨z, us, r, ⟨_, Heap.get?_push_size _ rfl, rfl, _, rfl⟩⟩
theorem pe_lst (h : PA X es t) : PE X (.List es pos) (tLst t) := by
  intro pins s σ H Q I hq
  refine wpAny_List_spliced (thn (h pos pins s σ H _ I hq) fun us s1 ⟨xs, H1, I1, r, z, q⟩ => ⟨by rw [← r.length]; exact z, ?_⟩)
  have hf : H1 s1.heap.objs.size = none := I1.hok.fresh (Nat.le_refl _)
  refine ⟨.ref s1.heap.objs.size, upd H1 s1.heap.objs.size (.lst xs), I1.laid (t' := s1.toks) (fun b u e => Heap.get?_push_of_some _ e) (Nat.le_refl _) ?_, rfl, q _ hf⟩
  exact ⟨z, us, 0, r, Heap.get?_push_size _ rfl⟩
end
abbrev Sp := List V → Hp → VK → XK → Prop
abbrev CXT := List Env → Hp → Shared → XK → Value → Shared → Prop
structure Env0 (P : Program) (w : World) (K : PySem.W.Frag) (mg : Str → Option Value) (base : Heap) (A : Around) (outer : List Env) (s : Shared) (H : Hp) : Prop where
  frames : A.frames = some outer
  mod : Mod K mg base
  bs : ∀ b o, base.get? b = some o → s.heap.get? b = some o ∧ H b = none
  bsz : base.objs.size ≤ s.heap.objs.size
  funs : s.heap.FunFrames base outer
  frf : ∀ b ∈ frs outer, H b = none
  hok : HOk P w H s.heap
  bare : AllBare s.gens
def CE (outer : List Env) (P : Program) (w : World) (H : Hp) (s : Shared) (Q : VK) (u : Value) (s' : Shared) : Prop :=
  ∃ v H', s'.os = s.os ∧ AllBare s'.gens ∧ Un (frs outer) [] H H' s.heap s'.heap ∧ HOk P w H' s'.heap ∧ RelV v u ∧ Q v H'
def CR (CX : CXT) (outer : List Env) (P : Program) (w : World) (H : Hp) (s : Shared) (Q : VK) (E : XK) (r : Result) (s' : Shared) : Prop :=
  match r with
  | .ok (.ret u) => CE outer P w H s Q u s'
  | .ok _ => False
  | .error e => CX outer H s E e s'
structure FnOk (P : Program) (w : World) (K : PySem.W.Frag) (mg : Str → Option Value) (base : Heap) (CX : CXT) (k : Nat) (f : Addr) (fd : FuncData) (ps : List Str) (sp : Sp) : Prop where
  len : ∀ vs H Q E, sp vs H Q E → vs.length = ps.length
  run : ∀ (A : Around) (outer : List Env) (s : Shared) (H : Hp) (args : Args) (us : List Value) (vs : List V) (Q : VK) (E : XK), Room k A → Env0 P w K mg base A outer s H → BindsTo s fd args (ps.zip us) → Vals vs us → sp vs H Q E →
    codeAny (model P w) A (.call (.ref f) args) (CR CX outer P w H s Q E) s
section
variable {X : Cx} {pins : List (Addr × Obj)} {σ : St} {H : Hp} {s s' : Shared}
theorem Inv.env0 (I : Inv X pins σ H s) : Env0 X.prog X.w X.K X.mg X.base X.A X.stack s H :=
  ⟨I.ok.frames, I.ok.mod, I.bs, Nat.le_trans I.ok.bsz I.sz, I.stack, I.stkFree, I.hok, I.bare⟩
theorem Inv.after {Q : VK} {u : Value} (I : Inv X pins σ H s) (h : CE X.stack X.prog X.w H s Q u s') : EP X pins σ Q u s' := by
  obtain ⟨v, H', os, bare, un, hok, r, q⟩ := h
  obtain ⟨hh, g, d, t, os'⟩ := s'
  obtain rfl : os' = s.os := os
  exact ⟨v, H', I.call (h' := hh) (g' := g) (d' := d) (t' := t) (ch := []) un hok bare (fun b z => absurd z (by simp)), r, q⟩
end
def tCall (sp : Sp) (dvs : List V) (E : XK) (t : TA) : TE := fun σ H Q => t σ H fun vs H1 => sp (vs ++ dvs) H1 Q E
def Binds (K : PySem.W.Frag) (fd : FuncData) (ps : List Str) (ds : List Value) : Prop :=
  ∀ (s : Shared) (us : List Value), K.In s.heap → (us ++ ds).length = ps.length → BindsTo s fd ⟨us, []⟩ (ps.zip (us ++ ds))
theorem Binds.all {K : PySem.W.Frag} {fd : FuncData} {ps : List Str} (h : ∀ us : List Value, us.length = ps.length → bindArgs fd ⟨us, []⟩ = pure (ps.zip us)) : Binds K fd ps [] := fun s us _ hl => by
  rw [List.append_nil] at hl ⊢
  exact .of_eq (h us hl)
def Passes (CX : CXT) (X : Cx) (E : XK) : Prop := ∀ (pins : List (Addr × Obj)) (σ : St) (H : Hp) (s : Shared) (e : Value) (s' : Shared), Inv X pins σ H s → CX X.stack H s E e s' → X.xe e s'
section
variable {X : Cx} {CX : CXT} {k : Nat} {f C : Addr} {fd : FuncData} {ps : List Str} {sp : Sp} {dvs : List V} {ds : List Value} {E : XK} {x m : Str} {p pos apos : Pos} {e o : Expr} {es : List Expr} {ta : TE} {t : TA}
theorem run_fn {pins : List (Addr × Obj)} {σ : St} {H : Hp} {s : Shared} {Q : VK} {us : List Value} {vs : List V} (F : FnOk X.prog X.w X.K X.mg X.base CX k f fd ps sp) (hr : Room k X.A) (hb : Binds X.K fd ps ds) (hd : Vals dvs ds) (hx : Passes CX X E)
    (I : Inv X pins σ H s) (r : Vals vs us) (h : sp (vs ++ dvs) H Q E) : wpAny (model X.prog X.w) X.A (call (.ref f) us) (EP X pins σ Q) X.xe s := by
  have r2 : Vals (vs ++ dvs) (us ++ ds) := r.append hd
  have hl : (us ++ ds).length = ps.length := by rw [← r2.length]; exact F.len _ _ _ _ h
  refine wpAny_call (codeAny_mono (F.run X.A X.stack s H ⟨us, []⟩ (us ++ ds) (vs ++ dvs) Q E hr I.env0 (hb s us I.kIn hl) r2 h) fun r s' hq => ?_)
  cases r with
  | error e => exact hx pins σ H s e s' I hq
  | ok fl =>
    cases fl with
    | ret u => exact I.after hq
    | next => exact False.elim hq
    | brk => exact False.elim hq
    | cont => exact False.elim hq
theorem pe_call (F : FnOk X.prog X.w X.K X.mg X.base CX k f fd ps sp) (hr : Room k X.A) (hg : Gl X x) (hm : X.mg x = some (.ref f)) (hk : PySem.W.keepIn X.K (.ref f) = true) (hb : Binds X.K fd ps ds) (hd : Vals dvs ds) (hx : Passes CX X E)
    (ha : PA X (e :: es) t) (hdb : (x == ("__debug__" : Str)) = false := by decide) (he : starEach (e :: es) X.env = (false, eval e X.env) :: starEach es X.env := by rfl) (hpl : (backTo pos (starEach es X.env)).any (·.1) = false := by rfl) :
    PE X (.Call (.Name x p) (e :: es) [] pos) (tCall sp dvs E t) := by
  intro pins s σ H Q I h
  refine wpAny_Call_Name_kw (ld_glob I hg hm ?_ hdb)
  refine PySem.W.callWith_K (h₀ := X.base) I.ok.mod.kin hk (thn (ha pos pins s σ H _ I h) fun us s1 ⟨vs, H1, I1, r, q⟩ => ⟨I1.kIn, ?_⟩) he hpl
  exact run_fn F hr hb hd hx I1 r q
theorem pe_call0 (F : FnOk X.prog X.w X.K X.mg X.base CX k f fd ps sp) (hr : Room k X.A) (hg : Gl X x) (hm : X.mg x = some (.ref f)) (hk : PySem.W.keepIn X.K (.ref f) = true) (hb : Binds X.K fd ps ds) (hd : Vals dvs ds) (hx : Passes CX X E)
    (hdb : (x == ("__debug__" : Str)) = false := by decide) : PE X (.Call (.Name x p) [] [] pos) (tCall sp dvs E tNil) := by
  intro pins s σ H Q I h
  refine wpAny_Call_Name_kw (ld_glob I hg hm ?_ hdb)
  exact PySem.W.callWith_K0 I.kIn hk (run_fn (us := []) F hr hb hd hx I .nil h)
end
section
variable {X : Cx} {CX : CXT} {k : Nat} {f C : Addr} {fd : FuncData} {ps ks : List Str} {sp : Sp} {E : XK} {x m : Str} {p pos apos kpos : Pos} {e o : Expr} {es : List Expr} {kws : List Keyword} {te ta : TE} {t tk : TA} {nm : Option Str}
variable {g : List Value → List Value → List Value} {gV : List V → List V → List V}
end
structure FnScope (N P : List Str) (sc : Scope) : Prop where
  kind : sc.kind = .function
  co : sc.isCoroutine = false
  gen : sc.isGenerator = false
  nd : N.Nodup
  pre : N.take P.length = P
  par : ∀ x ∈ P, sc.names.lookup x = some .local ∨ sc.names.lookup x = some .cell
  nofree : ∀ y ∈ sc.names, y.2 ≠ .free
theorem bindL_out {kindOf : Str → Option NameKind} {x : Str} : ∀ {binds : List (Str × Value)} {m : Str → Option Value}, (∀ v, (x, v) ∉ binds) → bindL kindOf binds m x = m x
  | [], _, _ => rfl
  | (n, v) :: r, m, h => by
    unfold bindL
    rw [bindL_out fun w hw => h w (List.mem_cons_of_mem _ hw)]
    split
    · have : x ≠ n := by rintro rfl; exact h v List.mem_cons_self
      simp [this]
    · rfl
theorem bindC_out {kindOf : Str → Option NameKind} {x : Str} : ∀ {binds : List (Str × Value)} {m : Str → Option Value}, (∀ v, (x, v) ∉ binds) → bindC kindOf binds m x = m x
  | [], _, _ => rfl
  | (n, v) :: r, m, h => by
    unfold bindC
    rw [bindC_out fun w hw => h w (List.mem_cons_of_mem _ hw)]
    split
    · rfl
    · have : x ≠ n := by rintro rfl; exact h v List.mem_cons_self
      simp [this]
theorem bindL_get {kindOf : Str → Option NameKind} {x : Str} {v : Value} : ∀ {P : List Str} {vs : List Value} {i : Nat} {m : Str → Option Value}, P.Nodup → P[i]? = some x → vs[i]? = some v → kindOf x = some .local →
    bindL kindOf (P.zip vs) m x = some v
  | [], _, _, _, _, h, _, _ => by simp at h
  | _ :: _, [], _, _, _, _, h, _ => by simp at h
  | p :: P, w :: vs, 0, m, nd, h1, h2, hk => by
    simp at h1 h2; subst h1; subst h2
    show bindL kindOf ((p, w) :: P.zip vs) m p = _
    unfold bindL
    rw [bindL_out fun v hv => (List.nodup_cons.mp nd).1 (List.of_mem_zip hv).1, if_pos hk]
    simp
  | p :: P, w :: vs, i + 1, m, nd, h1, h2, hk => by
    show bindL kindOf ((p, w) :: P.zip vs) m x = _
    unfold bindL
    exact bindL_get (i := i) (List.nodup_cons.mp nd).2 (by simpa using h1) (by simpa using h2) hk
theorem bindC_get {kindOf : Str → Option NameKind} {x : Str} {v : Value} : ∀ {P : List Str} {vs : List Value} {i : Nat} {m : Str → Option Value}, P.Nodup → P[i]? = some x → vs[i]? = some v → kindOf x ≠ some .local →
    bindC kindOf (P.zip vs) m x = some v
  | [], _, _, _, _, h, _, _ => by simp at h
  | _ :: _, [], _, _, _, _, h, _ => by simp at h
  | p :: P, w :: vs, 0, m, nd, h1, h2, hk => by
    simp at h1 h2; subst h1; subst h2
    show bindC kindOf ((p, w) :: P.zip vs) m p = _
    unfold bindC
    rw [bindC_out fun v hv => (List.nodup_cons.mp nd).1 (List.of_mem_zip hv).1, if_neg hk]
    simp
  | p :: P, w :: vs, i + 1, m, nd, h1, h2, hk => by
    show bindC kindOf ((p, w) :: P.zip vs) m x = _
    unfold bindC
    exact bindC_get (i := i) (List.nodup_cons.mp nd).2 (by simpa using h1) (by simpa using h2) hk
def start (N : List Str) (vs : List V) : St := vs.map some ++ List.replicate (N.length - vs.length) none
def cxOf (CX : CXT) (P : Program) (w : World) (K : PySem.W.Frag) (mg : Str → Option Value) (base : Heap) (N : List Str) (qual : Str) (scope : Scope) (f : Addr) (cd : Value) (A : Around) (outer : List Env) (s : Shared) (H : Hp) (E : XK) : Cx where
  prog := P
  w := w
  K := K
  mg := mg
  base := base
  A := A.deeper (envOfC qual scope s.heap.objs.size f cd)
  N := N
  s₀ := s
  H₀ := H
  env := envOfC qual scope s.heap.objs.size f cd
  outer := outer
  stack := envOfC qual scope s.heap.objs.size f cd :: outer
  ex := []
  calm := true
  fn := fun _ => true
  pn := []
  xe := fun e s' => wpAny (model P w) (A.deeper (envOfC qual scope s.heap.objs.size f cd)) (leaving (envOfC qual scope s.heap.objs.size f cd) e) (fun _ s'' => CX outer H s E e s'') (fun e' s'' => CX outer H s E e' s'') s'
theorem cell_has {sc : Scope} {n : Nat} {x : Str} (h : sc.names.lookup x = some .cell) : ∃ c, (cellsFrom n sc.names []).lookup x = some c := by
  have q := PySem.W.cellsFrom_some sc.names n [] (.inl h)
  exact Option.isSome_iff_exists.mp q
theorem inv_start {CX : CXT} {P : Program} {w : World} {K : PySem.W.Frag} {mg : Str → Option Value} {base : Heap} {N ps : List Str} {qual : Str} {scope : Scope} {f : Addr} {cd : Value} {A : Around} {outer : List Env} {s s1 : Shared} {H : Hp} {E : XK} {us : List Value} {vs : List V}
    (S : FnScope N ps scope) (hd : A.handled = none) (e0 : Env0 P w K mg base A outer s H) (hl : vs.length = ps.length) (r : Vals vs us)
    (x : InCallC s s.heap.objs.size (bindL (envOfC qual scope s.heap.objs.size f cd).kindOf (ps.zip us) fun _ => none) (cellsFrom (s.heap.objs.size + 1) scope.names []) (bindC (envOfC qual scope s.heap.objs.size f cd).kindOf (ps.zip us) fun _ => none) s1) :
    Inv (cxOf CX P w K mg base N qual scope f cd A outer s H E) [] (start N vs) H s1 := by
  have hpl : ps.length ≤ N.length := by have := congrArg List.length S.pre; rw [List.length_take] at this; omega
  obtain ⟨h1, tk, rfl, hk⟩ := x.done
  have noA : ∀ b : Addr, b ∉ (cxOf CX P w K mg base N qual scope f cd A outer s H E).ex := fun b z => absurd (show b ∈ ([] : List Addr) from z) (by simp)
  refine ⟨⟨e0.mod, S.kind, rfl, rfl, Nat.le_refl _, fun y z c h1 h2 => ?_, fun y hy => ?_, fun y c _ h => ?_, fun _ => hd, Around.frames_deeper e0.frames, .inr ⟨rfl, rfl⟩, fun b z => absurd z (noA b), e0.bs, e0.bsz, fun b _ _ => noA b, fun b z => absurd z (noA b), e0.funs, e0.frf⟩,
    rfl, e0.bare, Un.kept hk, ⟨_, x.toInCall.ns, fun i y v h1 h2 h3 => ?_⟩, fun y c h => ⟨_, x.cell y c h⟩, e0.hok.fresh (Nat.le_refl _), fun y c h => ?_, fun p hp => absurd (show p ∈ ([] : List (Addr × Obj)) from hp) (by simp), e0.hok.kept hk, ?_⟩
  · exact name_of_addr x.apart (PySem.mem_of_lookup h1) (PySem.mem_of_lookup h2)
  · have hy : scope.names.lookup y = some .cell ∨ scope.names.lookup y = some .free := hy
    rcases hy with hy | hy
    · exact cell_has hy
    · exact absurd rfl (S.nofree _ (PySem.mem_of_lookup hy))
  · exact Nat.le_of_lt (x.above y c (PySem.mem_of_lookup h))
  · have hi : i < vs.length := by
      unfold start at h2
      by_cases hi : i < vs.length
      · exact hi
      · rw [List.getElem?_append_right (by simpa using hi)] at h2
        rw [List.getElem?_replicate] at h2
        split at h2 <;> cases h2
    have ha : vs[i]? = some v := by
      unfold start at h2
      rw [List.getElem?_append_left (by simpa using hi), List.getElem?_map] at h2
      cases e : vs[i]? with
      | none => rw [e] at h2; cases h2
      | some a => rw [e] at h2; cases h2; rfl
    obtain ⟨u, hu, rv⟩ := r.get ha
    have hp : ps[i]? = some y := by
      rw [← S.pre, List.getElem?_take_of_lt (by omega)]; exact h1
    have ndP : ps.Nodup := by rw [← S.pre]; exact S.nd.sublist (List.take_sublist _ _)
    refine ⟨u, rv, ?_⟩
    rcases S.par y (List.mem_of_getElem? hp) with k | k
    · exact .inl ⟨k, bindL_get ndP hp hu k⟩
    · obtain ⟨c, e⟩ := cell_has (n := s.heap.objs.size + 1) k
      refine .inr ⟨.inl k, c, e, ?_⟩
      have q := x.cell y c e
      rw [bindC_get ndP hp hu (by show scope.names.lookup y ≠ _; rw [k]; decide)] at q
      exact q
  · exact e0.hok.fresh (Nat.le_of_lt (x.above y c (PySem.mem_of_lookup h)))
  · unfold start
    show _ = N.length
    rw [List.length_append, List.length_map, List.length_replicate]
    omega
theorem fn_of {CX : CXT} {P : Program} {w : World} {K : PySem.W.Frag} {mg : Str → Option Value} {base : Heap} {k : Nat} {f : Addr} {name qual : Str} {params : Arguments} {body : List Stmt} {scope : Scope} {dV kV doc pm cdv ct oc : Value} {an od : Option Addr}
    {osl : Array (Option Value)} {N ps : List Str} {sp : Sp} (lk : K.lookup f = some ⟨oc, od, .func (PySem.W.fnOf name qual params body scope dV kV doc pm an cdv ct), osl⟩) (hcd : PySem.W.codeIn K cdv qual = true) (S : FnScope N ps scope)
    (len : ∀ vs H Q E, sp vs H Q E → vs.length = ps.length)
    (hbody : ∀ (A : Around) (outer : List Env) (s : Shared) (H : Hp) (vs : List V) (Q : VK) (E : XK), Room k (A.deeper (envOfC qual scope s.heap.objs.size f cdv)) → sp vs H Q E →
      ∃ t, PSs (cxOf CX P w K mg base N qual scope f cdv A outer s H E) body t ∧ t { nx := fun _ H' => Q .non H', rt := Q } (start N vs) H) :
    FnOk P w K mg base CX (k + 1) f (PySem.W.fnOf name qual params body scope dV kV doc pm an cdv ct) ps sp := by
  refine ⟨len, fun A outer s H args us vs Q E hr e0 hb r hsp => ?_⟩
  have hl := len _ _ _ _ hsp
  have KX : K.In s.heap := e0.mod.kin.keeps fun b o e => (e0.bs b o e).1
  have lim : s.heap.NoLimit := e0.mod.nolimit.keeps fun b o e => (e0.bs b o e).1
  have hkind : ∀ y ∈ ps.zip us, scope.names.lookup y.1 = some .local ∨ (scope.names.lookup y.1 = some .cell ∧ ((cellsFrom (s.heap.objs.size + 1) scope.names []).lookup y.1).isSome = true) := fun ⟨n, v⟩ hy => by
    rcases S.par n (List.of_mem_zip hy).1 with q | q
    · exact .inl q
    · exact .inr ⟨q, PySem.W.cellsFrom_some _ _ _ (.inl q)⟩
  refine codeAny_call_function hr.depth (KX _ _ lk) rfl S.co S.gen rfl (PySem.W.codeRec_of KX hcd) (hb _ _ _ _ ?_)
  refine wpAny_newFunctionEnv_cells S.kind hkind fun env he s1 x => ?_
  subst he
  refine ⟨lim.keeps x.toInCall.keep, codeAny_func ?_⟩
  obtain ⟨t, ht, hq⟩ := hbody A outer s H vs Q E (hr.deeper _) hsp
  have I : Inv (cxOf CX P w K mg base N qual scope f cdv A outer s H E) [] (start N vs) H s1 := inv_start S hr.hd e0 hl r x
  refine wpAny_mono (ht [] s1 (start N vs) H _ I hq) (fun fl s' hs => ?_) fun e s' hs => hs
  have fin : ∀ {σ' : St} {H' : Hp} {v : V} {u : Value}, Inv (cxOf CX P w K mg base N qual scope f cdv A outer s H E) [] σ' H' s' → RelV v u → Q v H' → CE outer P w H s Q u s' :=
    fun {σ' H' v u} J rv q => ⟨v, H', J.os, J.bare, J.base, J.hok, rv, q⟩
  cases fl with
  | ret u =>
    obtain ⟨v, σ', H', J, rv, q⟩ := hs
    exact fin J rv q
  | next =>
    obtain ⟨σ', H', J, q⟩ := hs
    exact fin (v := V.non) (u := Value.none) J rfl q
  | brk =>
    obtain ⟨_, _, _, q⟩ := hs
    exact False.elim q
  | cont =>
    obtain ⟨_, _, _, q⟩ := hs
    exact False.elim q
end L2
namespace L2
open PySem PySem.Spec PyProof.Rows
section
variable {X : Cx} {x : Str} {p pos : Pos} {e : Expr} {es : List Expr} {t : TA} {id T : String} {r : List V → Hp → VK → Prop}
def tCB (r : List V → Hp → VK → Prop) (t : TA) : TE := fun σ H Q => t σ H fun vs H1 => r vs H1 Q
theorem pe_callB (hc : CallR X (.builtin id) r) (hg : Gl X x) (hm : X.mg x = none) (hv : bootBuiltins x = some (.builtin id)) (ha : PA X (e :: es) t) (hn : x ≠ "__name__" := by decide) (hdb : (x == ("__debug__" : Str)) = false := by decide)
    (he : starEach (e :: es) X.env = (false, eval e X.env) :: starEach es X.env := by rfl) (hpl : (backTo pos (starEach es X.env)).any (·.1) = false := by rfl) : PE X (.Call (.Name x p) (e :: es) [] pos) (tCB r t) := by
  intro pins s σ H Q I h
  refine wpAny_Call_Name_kw (ld_blt I hg hm hv ?_ hn hdb)
  exact PyProof.Rows.callWith_builtin1 (thn (ha pos pins s σ H _ I h) fun us s1 ⟨vs, H1, I1, r1, q1⟩ => hc pins s1 σ H1 vs us Q I1 r1 q1) he hpl
theorem pe_callTy (hc : CallR X (.type T) r) (hg : Gl X x) (hm : X.mg x = none) (hv : bootBuiltins x = some (.type T)) (ha : PA X (e :: es) t) (hn : x ≠ "__name__" := by decide) (hdb : (x == ("__debug__" : Str)) = false := by decide)
    (he : starEach (e :: es) X.env = (false, eval e X.env) :: starEach es X.env := by rfl) (hpl : (backTo pos (starEach es X.env)).any (·.1) = false := by rfl) : PE X (.Call (.Name x p) (e :: es) [] pos) (tCB r t) := by
  intro pins s σ H Q I h
  refine wpAny_Call_Name_kw (ld_blt I hg hm hv ?_ hn hdb)
  exact PyProof.Rows.callWith_type1 (thn (ha pos pins s σ H _ I h) fun us s1 ⟨vs, H1, I1, r1, q1⟩ => hc pins s1 σ H1 vs us Q I1 r1 q1) he hpl
end
end L2
namespace HT
open PySem PyProof.Rows
section
open PySem.SeqAt
open PySem.AutoSeq1 (wpAny_loadPart')
open PySem.MeetsSeq PySem.MeetsSeq2 PySem.MeetsSeq3
end
section
variable {prog : Program} {w : World} {A : Around} {E : Value → Shared → Prop} {s : Shared}
def sIx (n d : Nat) : Option Int → Nat
  | none => d
  | some v => if v < 0 then (v + (n : Int)).toNat else min v.toNat n
theorem sIx_none (n d : Nat) : sIx n d none = d := rfl
theorem sIx_nat (n d k : Nat) : sIx n d (some (k : Int)) = min k n := by
  show (if (k : Int) < 0 then ((k : Int) + (n : Int)).toNat else min (k : Int).toNat n) = min k n
  rw [if_neg (by omega), Int.toNat_natCast]
end
end HT
namespace L2
open PySem PySem.Spec PyProof.Rows
abbrev TO := St → Hp → (Option Int → Hp → Prop) → Prop
def PO (X : Cx) (e : Option Expr) (t : TO) : Prop :=
  ∀ (pins : List (Addr × Obj)) (s : Shared) (σ : St) (H : Hp) (Q : Option Int → Hp → Prop), Inv X pins σ H s → t σ H Q →
    wpAny (model X.prog X.w) X.A (evalPart e X.env) (fun u s' => ∃ o H', Inv X pins σ H' s' ∧ IsPart u o ∧ Q o H') X.xe s
def tNoPart : TO := fun _ H Q => Q none H
def tPart (t : TE) : TO := fun σ H Q => t σ H fun x H1 => ∃ i, x = .int i ∧ Q (some i) H1
section
variable {X : Cx} {e : Expr} {te : TE} {lo hi : Option Expr} {tl th : TO} {pos p2 : Pos}
theorem po_none : PO X none tNoPart := by
  intro pins s σ H Q I h
  rw [evalPart_none]
  exact wpAny_pure ⟨none, H, I, .none, h⟩
theorem po_some (h : PE X e te) : PO X (some e) (tPart te) := by
  intro pins s σ H Q I hw
  rw [evalPart_some]
  refine thn (h pins s σ H _ I hw) fun u s1 ⟨x, H1, I1, r1, q1⟩ => ?_
  obtain ⟨i, rfl, q⟩ := q1
  obtain ⟨t, rfl⟩ := r1
  exact ⟨some i, H1, I1, .int i t, q⟩
def SlR (X : Cx) (r : V → Option Int → Option Int → Hp → VK → Prop) : Prop :=
  ∀ (pins : List (Addr × Obj)) (s : Shared) (σ : St) (H : Hp) (x : V) (v vl vu : Value) (lo hi : Option Int) (sl : Addr) (Q : VK), Inv X pins σ H s → RelV x v → s.heap.IsSliceOf sl vl vu .none → IsPart vl lo → IsPart vu hi → r x lo hi H Q →
    ∃ T id, typeLookup (.type T) "__getitem__" = pure (some (.builtin id)) ∧ s.TypeIs v T ∧ wpAny (model X.prog X.w) X.A (getItem v (.ref sl)) (EP X pins σ Q) X.xe s
def tSl (r : V → Option Int → Option Int → Hp → VK → Prop) (te : TE) (tl th : TO) : TE := fun σ H Q => te σ H fun x H1 => tl σ H1 fun l H2 => th σ H2 fun u H3 => r x l u H3 Q
theorem pe_slice {r : V → Option Int → Option Int → Hp → VK → Prop} (hr : SlR X r) (he : PE X e te) (hl : PO X lo tl) (hu : PO X hi th) : PE X (.Subscript e (.Slice lo hi none p2) pos) (tSl r te tl th) := by
  intro pins s σ H Q I h
  refine Subscript_ (thn (he pins s σ H _ I h) fun v s1 ⟨x, H1, I1, r1, q1⟩ => ?_)
  refine wpAny_Slice (thn (hl pins s1 σ H1 _ I1 q1) fun vl s2 ⟨l, H2, I2, pl, q2⟩ => thn (hu pins s2 σ H2 _ I2 q2) fun vu s3 ⟨u, H3, I3, pu, q3⟩ => ?_)
  rw [evalPart_none]
  refine wpAny_pure ?_
  have I4 : Inv X pins σ H3 { s3 with heap := s3.heap.push { cls := .type "slice", data := .fields #[vl, vu, .none] } } := I3.kept (t' := s3.toks) fun b ob q => Heap.get?_push_of_some _ q
  obtain ⟨T, id, hT, ht, hg⟩ := hr pins { s3 with heap := s3.heap.push { cls := .type "slice", data := .fields #[vl, vu, .none] } } σ H3 x v vl vu l u s3.heap.objs.size Q I4 r1 (Heap.IsSliceOf.new ..) pl pu q3
  show wpAny (model X.prog X.w) X.A (subscriptTail e (.Slice lo hi none p2) v (.ref s3.heap.objs.size)) (EP X pins σ Q) X.xe { s3 with heap := s3.heap.push { cls := .type "slice", data := .fields #[vl, vu, .none] } }
  exact tail_any (ops := [.ref s3.heap.objs.size, v]) ht hT hg (by with_unfolding_all rfl)
def cutV (xs : List V) (lo hi : Option Int) : List V := (xs.drop (HT.sIx xs.length 0 lo)).take (HT.sIx xs.length xs.length hi - HT.sIx xs.length 0 lo)
theorem cutV_length (xs : List V) (lo hi : Option Int) : (cutV xs lo hi).length ≤ xs.length := by
  unfold cutV
  rw [List.length_take, List.length_drop]
  omega
end
end L2
namespace L2
open PySem PySem.Spec PyProof.Rows
def ixN (n : Nat) (i : Int) : Option Nat := if 0 ≤ i then (if i < n then some i.toNat else none) else if -(n : Int) ≤ i then some (i + n).toNat else none
def atI {α : Type} (xs : List α) (i : Int) : Option α := (ixN xs.length i).bind fun j => xs[j]?
theorem ixN_seq {n : Nat} {i : Int} {j : Nat} (h : ixN n i = some j) : seqIndex? i n = some j ∧ j < n ∧ -(n : Int) ≤ i ∧ i < n := by
  unfold ixN at h
  by_cases h0 : 0 ≤ i
  · rw [if_pos h0] at h
    by_cases h1 : i < n
    · rw [if_pos h1] at h
      have e : i.toNat = j := Option.some.inj h
      exact ⟨by rw [seqIndex_of h0 h1, e], by omega, by omega, h1⟩
    · rw [if_neg h1] at h; cases h
  · rw [if_neg h0] at h
    by_cases h1 : -(n : Int) ≤ i
    · rw [if_pos h1] at h
      have e : (i + n).toNat = j := Option.some.inj h
      exact ⟨by rw [seqIndex_neg (by omega) h1, e], by omega, h1, by omega⟩
    · rw [if_neg h1] at h; cases h
theorem atI_get {α : Type} {xs : List α} {i : Int} {v : α} (h : atI xs i = some v) : ∃ j, seqIndex? i xs.length = some j ∧ xs[j]? = some v ∧ j < xs.length ∧ -(xs.length : Int) ≤ i ∧ i < xs.length := by
  unfold atI at h
  cases e : ixN xs.length i with
  | none => rw [e] at h; cases h
  | some j =>
    rw [e] at h
    obtain ⟨h1, h2, h3, h4⟩ := ixN_seq e
    exact ⟨j, h1, h, h2, h3, h4⟩
theorem atI_nat {α : Type} {xs : List α} {j : Nat} {v : α} (h : xs[j]? = some v) : atI xs (j : Int) = some v := by
  have hj : j < xs.length := (List.getElem?_eq_some_iff.mp h).1
  have e : ixN xs.length (j : Int) = some j := by
    unfold ixN
    rw [if_pos (by omega), if_pos (by omega)]; simp
  unfold atI; rw [e]; exact h
def PlainIx (b : Expr) : Prop := ∀ o i, subscripted b false o i = operate [o, i] (getItem o i)
def IxR (X : Cx) (r : R2) : Prop :=
  ∀ (value slice : Expr) (pins : List (Addr × Obj)) (s : Shared) (σ : St) (H : Hp) (x y : V) (v u : Value) (Q : VK), Inv X pins σ H s → RelV x v → RelV y u → r x y H Q →
    subscripted slice false v u = operate [v, u] (getItem v u) → wpAny (model X.prog X.w) X.A (subscriptTail value slice v u) (EP X pins σ Q) X.xe s
def MtR (X : Cx) (id : String) (r : V → List V → Hp → VK → Prop) : Prop :=
  ∀ (pins : List (Addr × Obj)) (s : Shared) (σ : St) (H : Hp) (x : V) (xs : List V) (v : Value) (us : List Value) (Q : VK), Inv X pins σ H s → RelV x v → Vals xs us → r x xs H Q →
    wpAny (model X.prog X.w) X.A (call (.builtin id) (v :: us)) (EP X pins σ Q) X.xe s
section
variable {X : Cx} {a b : Expr} {ta tb : TE} {pos : Pos}
theorem IxR.or {r r' : R2} (h : IxR X r) (h' : IxR X r') : IxR X (fun x y H Q => r x y H Q ∨ r' x y H Q) := by
  intro value slice pins s σ H x y v u Q I rx ry q hs
  rcases q with q | q
  · exact h value slice pins s σ H x y v u Q I rx ry q hs
  · exact h' value slice pins s σ H x y v u Q I rx ry q hs
theorem pe_ix {r : R2} (hr : IxR X r) (ha : PE X a ta) (hb : PE X b tb) (hs : PlainIx b) : PE X (.Subscript a b pos) (tOp r ta tb) := by
  intro pins s σ H Q I h
  exact Subscript_ (binT ha hb I h fun v u s2 x y H2 I2 rx ry q => hr a b pins s2 σ H2 x y v u Q I2 rx ry q (hs _ _))
def rIxL (K : PySem.W.Frag) : R2 := fun x y H Q => ∃ p xs i v, x = .ref p ∧ y = .int i ∧ SqL K H p xs ∧ atI xs i = some v ∧ Q v H
def rIxT (K : PySem.W.Frag) : R2 := fun x y H Q => ∃ p xs i v, x = .ref p ∧ y = .int i ∧ SqT K H p xs ∧ atI xs i = some v ∧ Q v H
def rIxS : R2 := fun x y H Q => ∃ z i c, x = .str z ∧ y = .int i ∧ z.length ≤ sizeLine ∧ atI z.cps.toList i = some c ∧ Q (.str ⟨#[c]⟩) H
theorem ix_list : IxR X (rIxL X.K) := by
  intro value slice pins s σ H x y v u Q I rx ry h hs
  obtain ⟨p, xs, i, z, rfl, rfl, hq, he, q⟩ := h
  cases rx
  obtain ⟨t, rfl⟩ := ry
  obtain ⟨its, r, pl, hz⟩ := I.list hq
  obtain ⟨j, h1, h2, h3, h4, h5⟩ := atI_get he
  obtain ⟨w, ew, rw'⟩ := r.get h2
  have hl := r.length
  have hn := line63
  have fin : EP X pins σ Q w s := ⟨z, H, I, rw', q⟩
  by_cases h0 : 0 ≤ i
  · have hj : i.toNat = j := by
      rw [seqIndex_of h0 h5] at h1
      exact Option.some.inj h1
    exact item_listR pl.isList h0 (by omega) (by rw [hj]; simpa using ew) fin hs
  · have hj : (i + (its.toArray.size : Int)).toNat = j := by
      rw [seqIndex_neg (by omega) h4] at h1
      rw [List.size_toArray, ← hl]
      exact Option.some.inj h1
    exact subscriptTail_builtinR (x := w) pl.isList.typeIs slot_list_getitem.lookup
      (wpAny_getItem_list_neg (Q := fun r s' => r = w ∧ EP X pins σ Q r s') pl.isList (by omega) (by rw [List.size_toArray] <;> omega) (by omega) (by rw [hj]; simpa using ew) ⟨rfl, fin⟩) hs
theorem ix_tup : IxR X (rIxT X.K) := by
  intro value slice pins s σ H x y v u Q I rx ry h hs
  obtain ⟨p, xs, i, z, rfl, rfl, hq, he, q⟩ := h
  cases rx
  obtain ⟨t, rfl⟩ := ry
  obtain ⟨its, r, pl, hz⟩ := I.tuple hq
  obtain ⟨j, h1, h2, h3, h4, h5⟩ := atI_get he
  obtain ⟨w, ew, rw'⟩ := r.get h2
  have hl := r.length
  have hn := line63
  have fin : EP X pins σ Q w s := ⟨z, H, I, rw', q⟩
  exact subscriptTail_builtinR (x := w) pl.typeIs slot_tuple_getitem.lookup
    (getItem_tuple (j := j) (Q := fun r s' => r = w ∧ EP X pins σ Q r s') pl (by omega) (by omega) (by rw [List.size_toArray, ← hl]; exact h1) (by simpa using ew) ⟨rfl, fin⟩) hs
theorem ix_str : IxR X rIxS := by
  intro value slice pins s σ H x y v u Q I rx ry h hs
  obtain ⟨z, i, c, rfl, rfl, hz, he, q⟩ := h
  obtain ⟨t, rfl⟩ := rx
  obtain ⟨t', rfl⟩ := ry
  obtain ⟨j, h1, h2, h3, h4, h5⟩ := atI_get he
  have hl : z.cps.toList.length = z.length := by simp [Str.length]
  rw [hl] at h1 h4 h5
  have hn := line63
  exact tail_any (typeIs_str s z t) slot_str_getitem.lookup (getItem_str (c := c) (by
    have e1 : decide (i < -(2 ^ 63 : Int)) = false := decide_eq_false (by omega)
    have e2 : decide (i ≥ 2 ^ 63) = false := decide_eq_false (by omega)
    rw [e1, e2, Bool.or_false]) (by rw [h1]; simpa using h2) ⟨.str ⟨#[c]⟩, H, I.tok _, ⟨_, rfl⟩, q⟩) hs
def rIx (K : PySem.W.Frag) : R2 := fun x y H Q => rIxL K x y H Q ∨ rIxT K x y H Q ∨ rIxS x y H Q
theorem ix_seq : IxR X (rIx X.K) := ix_list.or (ix_tup.or ix_str)
theorem mapSeq_set (its : List Value) (n j : Nat) (u : Value) : Obj.mapSeq (·.setIfInBounds j u) { cls := .type "list", data := .seq its.toArray n } = { cls := .type "list", data := .seq (its.set j u).toArray n } := by
  simp [Obj.mapSeq]
theorem Inv.lst {pins : List (Addr × Obj)} {σ : St} {H : Hp} {s : Shared} {p : Addr} {xs : List V} (I : Inv X pins σ H s) (h : H p = some (.lst xs)) :
    ∃ (its : List Value) (n : Nat), Vals xs its ∧ s.heap.get? p = some { cls := .type "list", data := .seq its.toArray n } ∧ xs.length ≤ sizeLine := by
  obtain ⟨z, its, n, r, e⟩ := I.hok p _ h
  exact ⟨its, n, r, e, z⟩
theorem Inv.lstUpd {pins : List (Addr × Obj)} {σ : St} {H : Hp} {s : Shared} {p : Addr} {xs ys : List V} {its its' : List Value} {n n' : Nat} {f : Obj → Obj} (I : Inv X pins σ H s) (h : H p = some (.lst xs))
    (ho : s.heap.get? p = some { cls := .type "list", data := .seq its.toArray n }) (hf : f { cls := .type "list", data := .seq its.toArray n } = { cls := .type "list", data := .seq its'.toArray n' }) (r : Vals ys its') (hz : ys.length ≤ sizeLine) (t : Nat) :
    Inv X pins σ (upd H p (.lst ys)) { s with heap := s.heap.update p f, toks := t } := by
  have e : (s.heap.update p f).get? p = some { cls := .type "list", data := .seq its'.toArray n' } := by
    rw [Heap.get?_update_self f ho (by rw [hf] <;> rfl), hf]
  refine I.write (x := p) (e := p) (by rw [h]; trivial) (.inl rfl) (fun b u hb q => (Heap.get?_update_other _ _ (Ne.symm hb)).trans q) ⟨_, e⟩ ?_
  exact ⟨hz, its', n', r, e⟩
def rSetL : V → V → V → Hp → (Hp → Prop) → Prop := fun o i v H Q => ∃ p xs k j, o = .ref p ∧ i = .int k ∧ H p = some (.lst xs) ∧ ixN xs.length k = some j ∧ Q (upd H p (.lst (xs.set j v)))
theorem set_list : PSet X rSetL := by
  intro pins s σ H o i v ov iv u Q I ro ri rv h
  obtain ⟨p, xs, k, j, rfl, rfl, hp, hj, q⟩ := h
  cases ro
  obtain ⟨t, rfl⟩ := ri
  obtain ⟨its, n, r, ho, hz⟩ := I.lst hp
  obtain ⟨h1, h2, h3, h4⟩ := ixN_seq hj
  have hl := r.length
  have hn := line63
  have I' : Inv X pins σ (upd H p (.lst (xs.set j v))) { s with heap := s.heap.update p (Obj.mapSeq (·.setIfInBounds j u)) } :=
    I.lstUpd hp ho (mapSeq_set its n j u) (r.set rv j) (by rw [List.length_set]; exact hz) s.toks
  by_cases h0 : 0 ≤ k
  · have hk : k.toNat = j := by
      rw [seqIndex_of h0 h4] at h1
      exact Option.some.inj h1
    exact PySem.W.ki_setAt ho h0 (by omega) (by rw [List.size_toArray, ← hl]; exact h4) (by rw [hk]; exact ⟨_, I', q⟩)
  · have hk : (k + (its.toArray.size : Int)).toNat = j := by
      rw [seqIndex_neg (by omega) h3] at h1
      rw [List.size_toArray, ← hl]
      exact Option.some.inj h1
    exact PySem.W.ki_setBack ho (by omega) (by rw [List.size_toArray, ← hl]; exact h3) (by omega) (by rw [hk]; exact ⟨_, I', q⟩)
theorem slice_bounds (lo hi : Option Int) (n : Nat) : (sliceBounds lo hi none n).1 = ((HT.sIx n 0 lo : Nat) : Int) ∧ (sliceBounds lo hi none n).2.1 = ((HT.sIx n n hi : Nat) : Int) ∧ (sliceBounds lo hi none n).2.2 = 1 := by
  refine ⟨?_, ?_, rfl⟩
  · cases lo with
    | none => simp [sliceBounds, HT.sIx]
    | some i =>
      simp only [sliceBounds, HT.sIx, Option.getD_none, show (1 : Int) > 0 by decide, if_true]
      by_cases h : i < 0
      · simp only [h, if_true] <;> omega
      · simp only [h, if_false] <;> omega
  · cases hi with
    | none => simp [sliceBounds, HT.sIx]
    | some i =>
      simp only [sliceBounds, HT.sIx, Option.getD_none, show (1 : Int) > 0 by decide, if_true]
      by_cases h : i < 0
      · simp only [h, if_true] <;> omega
      · simp only [h, if_false] <;> omega
theorem slicePick_cut (its : List Value) (lo hi : Option Int) : slicePick its.toArray lo hi none = ((its.drop (HT.sIx its.length 0 lo)).take (HT.sIx its.length its.length hi - HT.sIx its.length 0 lo)).toArray := by
  obtain ⟨h1, h2, h3⟩ := slice_bounds lo hi its.toArray.size
  unfold slicePick
  rw [h1, h2, h3]
  simp only [sliceRange_one, pick_run, List.size_toArray] <;> rfl
def rSlL (K : PySem.W.Frag) : V → Option Int → Option Int → Hp → VK → Prop := fun x lo hi H Q => ∃ a xs, x = .ref a ∧ SqL K H a xs ∧ ∀ p, H p = none → Q (.ref p) (upd H p (.lst (cutV xs lo hi)))
theorem sl_list : SlR X (rSlL X.K) := by
  intro pins s σ H x v vl vu lo hi sl Q I rx hs pl pu h
  obtain ⟨a, xs, rfl, hx, q⟩ := h
  cases rx
  obtain ⟨its, r, ht, hz⟩ := I.list hx
  have hlen := r.length
  refine ⟨"list", _, slot_list_getitem.lookup, ht.isList.typeIs, ?_⟩
  refine wpAny_getItem_list_slice ht.isList hs pl pu .none (by simp) ?_ (by rw [List.size_toArray] <;> omega)
  rw [slicePick_cut, ← hlen]
  refine ⟨.ref s.heap.objs.size, _, I.laid (t' := s.toks) (o := .lst (cutV xs lo hi)) (fun b ob q => Heap.get?_push_of_some _ q) (Nat.le_refl _) ?_, rfl, q _ (I.hok.fresh (Nat.le_refl _))⟩
  exact ⟨Nat.le_trans (cutV_length xs lo hi) hz, _, 0, (r.drop (HT.sIx xs.length 0 lo)).take (HT.sIx xs.length xs.length hi - HT.sIx xs.length 0 lo), Heap.get?_push_size _ rfl⟩
theorem call_list_of : CallR X (.type "list") (fun xs H Q => ∃ p ys, xs = [.ref p] ∧ (SqL X.K H p ys ∨ SqT X.K H p ys) ∧ ∀ l, H l = none → Q (.ref l) (upd H l (.lst ys))) := by
  intro pins s σ H xs us Q I r h
  obtain ⟨p, ys, rfl, hq, q⟩ := h
  obtain ⟨u, rfl, rx⟩ := vals1 r
  cases rx
  have fin : ∀ (its : List Value), Vals ys its → ys.length ≤ sizeLine → ∀ (h' : Heap) (c' : Nat), (∀ b o', s.heap.get? b = some o' → h'.get? b = some o') →
      h'.get? s.heap.objs.size = some { cls := .type "list", dict := none, data := .seq its.toArray c', slots := #[] } → EP X pins σ Q (.ref s.heap.objs.size) { s with heap := h' } := fun its r' hz h' c' kp e =>
    ⟨.ref s.heap.objs.size, _, I.laid (t' := s.toks) kp (Nat.le_refl _) (show ObjOk X.prog X.w _ h' _ (.lst ys) from ⟨hz, its, c', r', e⟩), rfl, q _ (I.hok.fresh (Nat.le_refl _))⟩
  rcases hq with hq | hq
  · obtain ⟨its, r', pl, hz⟩ := I.list hq
    have hlen := r'.length
    obtain ⟨o, ho, hc, n, hd⟩ := pl.isList
    exact call_list_seq p (.inl rfl) ho hc hd (fun h' c' kp e => fin its r' hz h' c' kp e) (by simp only [List.size_toArray] <;> omega)
  · obtain ⟨its, r', pl, hz⟩ := I.tuple hq
    have hlen := r'.length
    obtain ⟨o, ho, hc, n, hd⟩ := pl
    exact call_list_seq p (.inr rfl) ho hc hd (fun h' c' kp e => fin its r' hz h' c' kp e) (by simp only [List.size_toArray] <;> omega)
theorem call_tuple_of : CallR X (.type "tuple") (fun xs H Q => ∃ p ys, xs = [.ref p] ∧ ((SqL X.K H p ys ∧ ∀ l, H l = none → Q (.ref l) (upd H l (.tup ys))) ∨ (SqT X.K H p ys ∧ Q (.ref p) H))) := by
  intro pins s σ H xs us Q I r h
  obtain ⟨p, ys, rfl, h⟩ := h
  obtain ⟨u, rfl, rx⟩ := vals1 r
  cases rx
  rcases h with ⟨hq, q⟩ | ⟨hq, q⟩
  · obtain ⟨its, r', pl, hz⟩ := I.list hq
    have hlen := r'.length
    refine call_tuple_list pl.isList (fun h' kp => ?_) (by simp only [List.size_toArray] <;> omega)
    have I1 : Inv X pins σ H { s with heap := h' } := I.kept (t' := s.toks) kp
    have I2 : Inv X pins σ (upd H h'.objs.size (.tup ys)) { s with heap := h'.push { cls := .type "tuple", data := .seq its.toArray } } :=
      I1.laid (t' := s.toks) (fun b o e => Heap.get?_push_of_some _ e) (Nat.le_refl _) (show ObjOk X.prog X.w _ _ _ (.tup ys) from ⟨hz, its, r', IsTup.new _ _⟩)
    exact ⟨.ref h'.objs.size, _, I2, rfl, q _ (I1.hok.fresh (Nat.le_refl _))⟩
  · obtain ⟨its, r', pl, hz⟩ := I.tuple hq
    exact call_tuple_same pl ⟨.ref p, H, I, rfl, q⟩
def tyV (K : PySem.W.Frag) (T : String) (x : V) (H : Hp) : Prop := match x with
  | .str _ => T = "str"
  | .int _ => T = "int"
  | .ref p => (T = "list" ∧ ∃ xs, SqL K H p xs) ∨ (T = "tuple" ∧ ∃ o, K.lookup p = some o ∧ o.cls = .type "tuple" ∧ o.dict = none) ∨
      (T = "dict" ∧ ((∃ kvs, H p = some (.dK kvs)) ∨ ∃ kvs, H p = some (.dT kvs))) ∨ (T = "set" ∧ ∃ S n, H p = some (.set S n))
  | _ => False
theorem tyV_is {pins : List (Addr × Obj)} {σ : St} {H : Hp} {s : Shared} {T : String} {x : V} {v : Value} (I : Inv X pins σ H s) (r : RelV x v) (ty : tyV X.K T x H) :
    s.TypeIs v T ∧ ∀ a, v = .ref a → ∃ ob, s.heap.get? a = some ob ∧ ob.dict = none := by
  cases x with
  | str z =>
    obtain ⟨t, rfl⟩ := r
    cases (show T = "str" from ty)
    exact ⟨typeIs_str s z t, fun _ e => nomatch e⟩
  | int i =>
    obtain ⟨t, rfl⟩ := r
    cases (show T = "int" from ty)
    exact ⟨typeIs_int s i t, fun _ e => nomatch e⟩
  | ref p =>
    cases r
    rcases ty with ⟨rfl, xs, hq⟩ | ⟨rfl, o, hk, hc, hd⟩ | ⟨rfl, hk⟩ | ⟨rfl, S, n, hk⟩
    · obtain ⟨its, _, pl, _⟩ := I.list hq
      refine ⟨pl.isList.typeIs, fun a e => ?_⟩
      cases e
      obtain ⟨o, n, e, c, hd, _⟩ := pl
      exact ⟨o, e, hd⟩
    · refine ⟨⟨o, I.kIn p o hk, hc⟩, fun a e => ?_⟩
      cases e
      exact ⟨o, I.kIn _ o hk, hd⟩
    · have z : ∃ o, s.heap.get? p = some o ∧ o.ExactDict := by
        rcases hk with ⟨kvs, hk⟩ | ⟨kvs, hk⟩
        · obtain ⟨_, _, _, _, o, _, _, e, ex, _⟩ := I.hok p _ hk
          exact ⟨o, e, ex⟩
        · obtain ⟨_, _, _, _, o, _, _, e, ex, _⟩ := I.hok p _ hk
          exact ⟨o, e, ex⟩
      obtain ⟨o, e, ex⟩ := z
      refine ⟨⟨o, e, ex.1⟩, fun a e2 => ?_⟩
      cases e2
      exact ⟨o, e, ex.2.1⟩
    · obtain ⟨o, _, _, _, e, ex, _⟩ := I.hok p _ hk
      refine ⟨⟨o, e, ex.1⟩, fun a e2 => ?_⟩
      cases e2
      exact ⟨o, e, ex.2.1⟩
  | _ => exact False.elim ty
def tBM0 (K : PySem.W.Frag) (T : String) (r : V → List V → Hp → VK → Prop) (to : TE) : TE := fun σ H Q => to σ H fun x H1 => tyV K T x H1 ∧ r x [] H1 Q
def tBM (K : PySem.W.Frag) (T : String) (r : V → List V → Hp → VK → Prop) (to : TE) (t : TA) : TE := fun σ H Q => to σ H fun x H1 => tyV K T x H1 ∧ t σ H1 fun xs H2 => r x xs H2 Q
variable {o e : Expr} {es : List Expr} {to : TE} {t : TA} {name : Str} {apos cpos : Pos} {T id : String} {r : V → List V → Hp → VK → Prop}
theorem pe_bm0 (pa : PlainAttrs T) (slot : Slot T name id) (hty : typeOf (.builtin id) = pure (.type "method_descriptor")) (hm : MtR X id r) (ho : PE X o to)
    (hbase : attributeBase o name X.env (eval o X.env) = eval o X.env := by rfl) (hline : (apos.endLine == cpos.line) = true := by rfl) : PE X (.Call (.Attribute o name apos) [] [] cpos) (tBM0 X.K T r to) := by
  intro pins s σ H Q I h
  refine wpAny_Call_method0_late hbase hline (thn (ho pins s σ H _ I h) fun v s1 ⟨x, H1, I1, r1, ty, q1⟩ => ?_)
  obtain ⟨h1, h2⟩ := tyV_is I1 r1 ty
  exact ⟨T, id, pa, slot, hty, h1, h2, Calls.callWith_builtin rfl (PySem.evalArgs_none (hm pins s1 σ H1 x [] v [] Q I1 r1 .nil q1))⟩
theorem pe_bm (pa : PlainAttrs T) (slot : Slot T name id) (hty : typeOf (.builtin id) = pure (.type "method_descriptor")) (hm : MtR X id r) (ho : PE X o to) (ha : PA X (e :: es) t)
    (hbase : attributeBase o name X.env (eval o X.env) = eval o X.env := by rfl)
    (hfew : ((backTo cpos (starEach (e :: es) X.env)).all (fun x => !x.1) && (backToKw cpos (keywordEach [] X.env)).all (fun x => x.1.isSome)
      && decide ((e :: es).length + ([] : List Keyword).length + (if ([] : List Keyword).isEmpty then 0 else 1) < 30)) = true := by rfl)
    (hline : (apos.endLine == cpos.line) = true := by rfl) (hs : starEach (e :: es) X.env = (false, eval e X.env) :: starEach es X.env := by rfl) (hplain : (backTo cpos (starEach es X.env)).any (·.1) = false := by rfl) :
    PE X (.Call (.Attribute o name apos) (e :: es) [] cpos) (tBM X.K T r to t) := by
  intro pins s σ H Q I h
  refine wpAny_Call_method_late hbase hfew hline rfl (thn (ho pins s σ H _ I h) fun v s1 ⟨x, H1, I1, r1, ty, q1⟩ => ?_)
  obtain ⟨h1, h2⟩ := tyV_is I1 r1 ty
  refine ⟨T, id, pa, slot, hty, h1, h2, ?_⟩
  have hA := ha cpos pins s1 σ H1 _ I1 q1
  rw [hs] at hA ⊢
  refine Calls.callWith_builtin (by show (false || (backTo cpos (starEach es X.env)).any (·.1)) = false; rw [hplain] <;> rfl) (Calls.evalArgs_plain ?_)
  exact thn hA fun us s2 ⟨vs, H2, I2, r2, q2⟩ => hm pins s2 σ H2 x vs v us Q I2 r1 r2 q2
/- xs.append(e), list.index on a module's tuple .. are MtR facts of 06m -/
end
end L2
namespace L2
open PySem PySem.Spec PyProof.Rows
def MtM (X : Cx) (id : String) (r : V → List V → Hp → VK → Prop) : Prop :=
  ∀ (pins : List (Addr × Obj)) (s : Shared) (σ : St) (H : Hp) (x : V) (xs : List V) (v : Value) (us : List Value) (Q : VK), Inv X pins σ H s → RelV x v → Vals xs us → r x xs H Q →
    wpAny (model X.prog X.w) X.A (call (.builtin id) (v :: us)) (EP X pins σ Q) X.xe s
theorem Vals.one : ∀ {x : V} {us : List Value}, Vals [x] us → ∃ u, us = [u] ∧ RelV x u
  | _, _, .cons r .nil => ⟨_, rfl, r⟩
theorem Vals.zero : ∀ {us : List Value}, Vals [] us → us = []
  | _, .nil => rfl
section
variable {X : Cx} {pins : List (Addr × Obj)} {σ : St} {H : Hp} {s : Shared} {l b : Addr} {xs ys zs : List V}
theorem Inv.lset {its its' : List Value} {n : Nat} {f : Array Value → Array Value} {t' : Nat} (I : Inv X pins σ H s) (hH : H l = some (.lst xs))
    (e : s.heap.get? l = some { cls := .type "list", data := .seq its.toArray n }) (hf : f its.toArray = its'.toArray) (hv : Vals ys its') (hz : ys.length ≤ sizeLine) :
    Inv X pins σ (upd H l (.lst ys)) { s with heap := s.heap.update l (Obj.mapSeq f), toks := t' } := by
  have q := PySem.IsL.update e f
  rw [hf] at q
  refine I.write (x := l) (e := l) (by rw [hH]; exact trivial) (.inl rfl) (fun b' u hb hu => (Heap.get?_update_other s.heap (Obj.mapSeq f) (Ne.symm hb)).trans hu) ⟨_, q⟩ ?_
  exact ⟨hz, its', _, hv, q⟩
theorem Inv.lnew {its : List Value} {t' : Nat} (I : Inv X pins σ H s) (hv : Vals ys its) (hz : ys.length ≤ sizeLine) :
    Inv X pins σ (upd H s.heap.objs.size (.lst ys)) { s with heap := s.heap.push { cls := .type "list", data := .seq its.toArray }, toks := t' } :=
  I.laid (fun _ _ q => Heap.get?_push_of_some _ q) (Nat.le_refl _) ⟨hz, its, 0, hv, Heap.get?_push_size _ rfl⟩
theorem Inv.fresh (I : Inv X pins σ H s) : H s.heap.objs.size = none := I.hok.fresh (Nat.le_refl _)
theorem Inv.lstM (I : Inv X pins σ H s) (hH : H l = some (.lst xs)) : xs.length ≤ sizeLine ∧ ∃ (its : List Value) (n : Nat), Vals xs its ∧ xs.length = its.length ∧ s.heap.get? l = some { cls := .type "list", data := .seq its.toArray n } := by
  obtain ⟨z, its, n, r, e⟩ := I.hok l _ hH
  exact ⟨z, its, n, r, r.length, e⟩
theorem notLongL {n : Nat} (h : n ≤ sizeLine) : Builtin.List.listTooLong n = false := by
  unfold Builtin.List.listTooLong
  exact decide_eq_false (by omega)
end
section
variable {X : Cx}
def rAppend : V → List V → Hp → VK → Prop := fun x vs H Q => ∃ l xs y, x = .ref l ∧ vs = [y] ∧ H l = some (.lst xs) ∧ xs.length < sizeLine ∧ Q .non (upd H l (.lst (xs ++ [y])))
theorem mt_append : MtM X "list.append" rAppend := by
  intro pins s σ H x vs v us Q I rx rv h
  obtain ⟨l, xs, y, rfl, rfl, hH, hz, q⟩ := h
  cases rx
  obtain ⟨u, rfl, ru⟩ := rv.one
  obtain ⟨z, its, n, r, hl, e⟩ := I.lstM hH
  refine call_meets F.slot_list_append ⟨_, e, rfl⟩ F.entry_list_append (F.args_list_append_2 _ _) (PySem.list_append l its.toArray n u (by rw [List.size_toArray]; omega)) ⟨e, ?_⟩
  refine ⟨.non, _, I.lset (its' := its ++ [u]) hH e (by simp) (r.append (.cons ru .nil)) ?_, rfl, q⟩
  rw [List.length_append, List.length_singleton]
  omega
def rExtend : V → List V → Hp → VK → Prop := fun x vs H Q => ∃ l b xs zs, x = .ref l ∧ vs = [.ref b] ∧ H l = some (.lst xs) ∧ H b = some (.lst zs) ∧ xs.length + zs.length ≤ sizeLine ∧ Q .non (upd H l (.lst (xs ++ zs)))
theorem mt_extend : MtM X "list.extend" rExtend := by
  intro pins s σ H x vs v us Q I rx rv h
  obtain ⟨l, b, xs, zs, rfl, rfl, hH, hB, hz, q⟩ := h
  cases rx
  obtain ⟨u, rfl, ru⟩ := rv.one
  cases ru
  obtain ⟨z, its, n, r, hl, e⟩ := I.lstM hH
  obtain ⟨z2, its2, n2, r2, hl2, e2⟩ := I.lstM hB
  have hsz : its.toArray.size + its2.toArray.size ≤ sizeLine := by rw [List.size_toArray, List.size_toArray]; omega
  have hlong : ¬ (!its.toArray.isEmpty && Builtin.List.listTooLong (its.toArray.size + its2.toArray.size)) = true := by
    rw [notLongL hsz, Bool.and_false]
    exact Bool.false_ne_true
  refine call_meets F.slot_list_extend ⟨_, e, rfl⟩ F.entry_list_extend (F.args_list_extend_2 _ _)
    (AutoSeq1.list_extend_list_list_0 l its.toArray n b its2.toArray n2 hlong (by rw [List.size_toArray]; omega) (by omega)) ⟨e, e2, ?_⟩
  refine ⟨.non, _, I.lset (its' := its ++ its2) hH e (by simp) (r.append r2) ?_, rfl, q⟩
  rw [List.length_append]
  omega
def rClear : V → List V → Hp → VK → Prop := fun x vs H Q => ∃ l xs, x = .ref l ∧ vs = [] ∧ H l = some (.lst xs) ∧ Q .non (upd H l (.lst []))
theorem mt_clear : MtM X "list.clear" rClear := by
  intro pins s σ H x vs v us Q I rx rv h
  obtain ⟨l, xs, rfl, rfl, hH, q⟩ := h
  cases rx
  have hus := rv.zero
  subst hus
  obtain ⟨z, its, n, r, hl, e⟩ := I.lstM hH
  refine call_meets F.slot_list_clear ⟨_, e, rfl⟩ F.entry_list_clear (F.args_list_clear_1 _) (AutoSeq1.list_clear_list_0 l its.toArray n (by rw [List.size_toArray]; omega)) ⟨e, ?_⟩
  exact ⟨.non, _, I.lset (its' := []) (ys := []) hH e rfl .nil (Nat.zero_le _), rfl, q⟩
def rCat : R2 := fun x y H Q => ∃ l b xs zs, x = .ref l ∧ y = .ref b ∧ H l = some (.lst xs) ∧ H b = some (.lst zs) ∧ xs.length + zs.length ≤ sizeLine ∧ ∀ p, H p = none → Q (.ref p) (upd H p (.lst (xs ++ zs)))
theorem op_cat : OpR X (binaryOp .Add) rCat := by
  intro pins s σ H x y v u Q I rx ry h
  obtain ⟨l, b, xs, zs, rfl, rfl, hH, hB, hz, q⟩ := h
  cases rx
  cases ry
  obtain ⟨z, its, n, r, hl, e⟩ := I.lstM hH
  obtain ⟨z2, its2, n2, r2, hl2, e2⟩ := I.lstM hB
  refine PySem.P.add_list e e2 ?_ (by rw [List.size_toArray, List.size_toArray]; omega)
  have ea : its.toArray ++ its2.toArray = (its ++ its2).toArray := by simp
  rw [ea]
  exact ⟨.ref _, _, I.lnew (t' := s.toks) (r.append r2) (by rw [List.length_append]; omega), rfl, q _ I.fresh⟩
end
section
variable {prog : Program} {w : World} {A : Around} {E : Value → Shared → Prop} {s : Shared}
end
section
variable {X : Cx}
end
end L2
namespace L2
open PySem PySem.Spec PyProof.Rows
section
variable {κ : Type} [DecidableEq κ]
def valV (kvs : List (κ × V)) (k : κ) : Option V := (kvs.find? fun kv => decide (kv.1 = k)).map (·.2)
def putK (kvs : List (κ × V)) (k : κ) (v : V) : List (κ × V) :=
  if (kvs.any fun kv => decide (kv.1 = k)) = true then kvs.map (fun kv => if kv.1 = k then (kv.1, v) else kv) else kvs ++ [(k, v)]
theorem valV_pos {p : κ × V} {r : List (κ × V)} {k : κ} (e : p.1 = k) : valV (p :: r) k = some p.2 := by simp [valV, List.find?_cons, e]
theorem valV_neg {p : κ × V} {r : List (κ × V)} {k : κ} (e : ¬ p.1 = k) : valV (p :: r) k = valV r k := by simp [valV, List.find?_cons, e]
theorem valV_any (k : κ) : ∀ kvs : List (κ × V), (kvs.any fun kv => decide (kv.1 = k)) = (valV kvs k).isSome
  | [] => rfl
  | p :: r => by
    rw [List.any_cons]
    by_cases e : p.1 = k
    · simp only [valV_pos e, decide_eq_true e, Bool.true_or, Option.isSome_some]
    · rw [valV_neg e, decide_eq_false e, Bool.false_or]; exact valV_any k r
theorem length_putK (kvs : List (κ × V)) (k : κ) (v : V) : (putK kvs k v).length ≤ kvs.length + 1 := by
  unfold putK
  split
  · rw [List.length_map]; omega
  · rw [List.length_append, List.length_cons, List.length_nil]; omega
theorem putK_new {kvs : List (κ × V)} {k : κ} (v : V) (h : valV kvs k = none) : putK kvs k v = kvs ++ [(k, v)] := by
  unfold putK
  rw [valV_any, h]
  exact if_neg (by decide)
theorem RelO.isSome_eq {o : Option V} {u : Option Value} (r : RelO o u) : o.isSome = u.isSome := by
  cases o with
  | none => cases u with
    | none => rfl
    | some _ => exact (show False from r).elim
  | some _ => cases u with
    | none => exact (show False from r).elim
    | some _ => rfl
theorem RelO.getD {o : Option V} {u : Option Value} {d : V} {d' : Value} (r : RelO o u) (rd : RelV d d') : RelV (o.getD d) (u.getD d') := by
  cases o with
  | none => cases u with
    | none => exact rd
    | some _ => exact (show False from r).elim
  | some _ => cases u with
    | none => exact (show False from r).elim
    | some _ => exact r
theorem KV.val {kvs : List (κ × V)} {vs : List (κ × Value)} (r : KV kvs vs) (k : κ) : RelO (valV kvs k) (valueAt vs k) := by
  unfold KV at r
  induction r with
  | nil => exact True.intro
  | @cons p q ps qs h t ih =>
    obtain ⟨h1, h2⟩ := h
    by_cases e : p.1 = k
    · have e' : q.1 = k := h1.symm.trans e
      have b : valueAt (q :: qs) k = some q.2 := by simp [valueAt, List.find?_cons, e']
      rw [valV_pos e, b]; exact h2
    · have e' : ¬ q.1 = k := fun z => e (h1.trans z)
      have b : valueAt (q :: qs) k = valueAt qs k := by simp [valueAt, List.find?_cons, e']
      rw [valV_neg e, b]; exact ih
theorem KV.any {kvs : List (κ × V)} {vs : List (κ × Value)} (r : KV kvs vs) (k : κ) : (kvs.any fun kv => decide (kv.1 = k)) = vs.any fun kv => decide (kv.1 = k) := by
  unfold KV at r
  induction r with
  | nil => rfl
  | cons h t ih => rw [List.any_cons, List.any_cons, ih, h.1]
theorem KV.repl {kvs : List (κ × V)} {vs : List (κ × Value)} (r : KV kvs vs) (k : κ) {y : V} {u : Value} (ry : RelV y u) :
    KV (kvs.map fun kv => if kv.1 = k then (kv.1, y) else kv) (vs.map fun kv => if kv.1 = k then (kv.1, u) else kv) := by
  unfold KV at r ⊢
  induction r with
  | nil => exact .nil
  | @cons p q ps qs h t ih =>
    rw [List.map_cons, List.map_cons]
    refine .cons ?_ ih
    obtain ⟨h1, h2⟩ := h
    by_cases e : p.1 = k
    · rw [if_pos e, if_pos (h1.symm.trans e)]; exact ⟨h1, ry⟩
    · rw [if_neg e, if_neg (fun z => e (h1.trans z))]; exact ⟨h1, h2⟩
theorem KV.put {kvs : List (κ × V)} {vs : List (κ × Value)} (r : KV kvs vs) (k : κ) {y : V} {u : Value} (ry : RelV y u) : KV (putK kvs k y) (stored vs k u) := by
  unfold putK stored
  rw [r.any k]
  by_cases e : (vs.any fun kv => decide (kv.1 = k)) = true
  · rw [if_pos e, if_pos e]; exact r.repl k ry
  · rw [if_neg e, if_neg e]; exact Paired.snoc r ⟨rfl, ry⟩
theorem KV.keys {kvs : List (κ × V)} {vs : List (κ × Value)} (r : KV kvs vs) : kvs.map (·.1) = vs.map (·.1) := by
  unfold KV at r
  induction r with
  | nil => rfl
  | cons h t ih => rw [List.map_cons, List.map_cons, ih, h.1]
theorem KV.length {kvs : List (κ × V)} {vs : List (κ × Value)} (r : KV kvs vs) : kvs.length = vs.length := Paired.length r
end
theorem kV_is {P : Program} {w : World} {k : Key} {u : Value} (r : RelV (kV k) u) : (mixKind P w).is k u = true := by
  cases k with
  | inl i => obtain ⟨t, e⟩ := (show ∃ t, u = Value.int i t from r); subst e; exact mixKind_int P w i t
  | inr x => obtain ⟨t, e⟩ := (show ∃ t, u = Value.str x t from r); subst e; exact mixKind_str P w x t
theorem items_are {P : Program} {w : World} : ∀ {ks : List Key} {us : List Value}, Vals (ks.map kV) us → ItemsAre (mixKind P w) ks us
  | [], _, r => by rw [List.map_nil] at r; cases r; exact .nil
  | k :: ks, _, r => by
    rw [List.map_cons] at r
    cases r with
    | cons h t => exact .cons (kV_is h) (items_are t)
abbrev KT (H : Hp) : List (List Key × V) → List (List Key × Addr × Value) → Prop := Paired fun p q => p.1 = q.1 ∧ H q.2.1 = some (.tup (p.1.map kV)) ∧ RelV p.2 q.2.2
theorem KT.val {H : Hp} {kvs : List (List Key × V)} {xs : List (List Key × Addr × Value)} (r : KT H kvs xs) (k : List Key) : RelO (valV kvs k) ((atKey xs k).map (·.2)) := by
  induction r with
  | nil => exact True.intro
  | @cons p q ps qs h t ih =>
    obtain ⟨h1, _, h2⟩ := h
    by_cases e : p.1 = k
    · have e' : q.1 = k := h1.symm.trans e
      have b : atKey (q :: qs) k = some q.2 := by simp [atKey, List.find?_cons, e']
      rw [valV_pos e, b]; exact h2
    · have e' : ¬ q.1 = k := fun z => e (h1.trans z)
      have b : atKey (q :: qs) k = atKey qs k := by simp [atKey, List.find?_cons, e']
      rw [valV_neg e, b]; exact ih
theorem KT.repl {H : Hp} {kvs : List (List Key × V)} {xs : List (List Key × Addr × Value)} (r : KT H kvs xs) (k : List Key) {y : V} {u : Value} (ry : RelV y u) :
    KT H (kvs.map fun kv => if kv.1 = k then (kv.1, y) else kv) (xs.map (putAt k u)) := by
  induction r with
  | nil => exact .nil
  | @cons p q ps qs h t ih =>
    rw [List.map_cons, List.map_cons]
    refine .cons ?_ ih
    obtain ⟨h1, h2, h3⟩ := h
    unfold putAt
    by_cases e : p.1 = k
    · rw [if_pos e, if_pos (h1.symm.trans e)]; exact ⟨h1, h2, ry⟩
    · rw [if_neg e, if_neg (fun z => e (h1.trans z))]; exact ⟨h1, h2, h3⟩
theorem KT.put {H : Hp} {kvs : List (List Key × V)} {xs : List (List Key × Addr × Value)} (r : KT H kvs xs) (k : List Key) {b : Addr} {y : V} {u : Value} (hb : H b = some (.tup (k.map kV))) (ry : RelV y u) :
    KT H (putK kvs k y) (storedH xs k b u) := by
  have e : (kvs.any fun kv => decide (kv.1 = k)) = (atKey xs k).isSome := by
    rw [valV_any, (r.val k).isSome_eq, Option.isSome_map]
  unfold putK storedH
  rw [e]
  by_cases q : (atKey xs k).isSome = true
  · rw [if_pos q, if_pos q]; exact r.repl k ry
  · rw [if_neg q, if_neg q]; exact Paired.snoc r ⟨rfl, hb, ry⟩
theorem KT.keeps {H H' : Hp} {kvs : List (List Key × V)} {xs : List (List Key × Addr × Value)} (r : KT H kvs xs) (ht : ∀ b ys, H b = some (.tup ys) → H' b = some (.tup ys)) : KT H' kvs xs :=
  Paired.mapP r fun _ _ z => ⟨z.1, ht _ _ z.2.1, z.2.2⟩
section
variable {P : Program} {w : World} {H : Hp} {h : Heap} {a : Addr}
theorem rd_of {u : HO} (ok : HOk P w H h) (e : Rd H a u) : ObjOk P w H h a u := e.ok ok
theorem dk_rd {kvs : List (Key × V)} (ok : HOk P w H h) (e : Rd H a (.dK kvs)) : kvs.length ≤ sizeLine ∧ (a == sysModules) = false ∧ ∃ vs, KV kvs vs ∧ h.DictOf (mixKind P w) a vs :=
  show ObjOk P w H h a (.dK kvs) from rd_of ok e
theorem dk_of {kvs : List (Key × V)} (ok : HOk P w H h) (e : H a = some (.dK kvs)) : kvs.length ≤ sizeLine ∧ (a == sysModules) = false ∧ ∃ vs, KV kvs vs ∧ h.DictOf (mixKind P w) a vs := dk_rd ok (.inl e)
theorem key_of {ks : List Key} (ok : HOk P w H h) (e : H a = some (.tup (ks.map kV))) : (tupleKind (mixKind P w)).is h ks a := by
  obtain ⟨_, its, r, o, h1, h2, n, h3⟩ := (show ObjOk P w H h a (.tup (ks.map kV)) from ok a _ e)
  exact ⟨o, its.toArray, n, h1, h2, h3, by simpa using items_are r⟩
theorem dt_rd {kvs : List (List Key × V)} (ok : HOk P w H h) (e : Rd H a (.dT kvs)) : kvs.length ≤ sizeLine ∧ (a == sysModules) = false ∧
    ∃ xs, KT H kvs xs ∧ h.DictOfH (tupleKind (mixKind P w)) a xs := by
  obtain ⟨z, y, xs, r, o, es, ep, h1, h2, h3, h4, h5⟩ := (show ObjOk P w H h a (.dT kvs) from rd_of ok e)
  refine ⟨z, y, xs, r, o, es, ep, h1, h2, h3, h4, fun x hx => ?_, h5⟩
  have all : ∀ {l : List (List Key × V)} {m : List (List Key × Addr × Value)}, KT H l m → ∀ x ∈ m, (tupleKind (mixKind P w)).is h x.1 x.2.1 := by
    intro l m q
    induction q with
    | nil => intro x hx; exact nomatch hx
    | @cons p q ps qs hq t ih =>
      intro x hx
      rcases List.mem_cons.mp hx with e | hx
      · subst e
        exact key_of ok (by rw [← hq.1]; exact hq.2.1)
      · exact ih x hx
  exact all r x hx
theorem dt_of {kvs : List (List Key × V)} (ok : HOk P w H h) (e : H a = some (.dT kvs)) : kvs.length ≤ sizeLine ∧ (a == sysModules) = false ∧
    ∃ xs, KT H kvs xs ∧ h.DictOfH (tupleKind (mixKind P w)) a xs := dt_rd ok (.inl e)
end
def DGet (H : Hp) (a : Addr) (y : V) (r : Option V) : Prop :=
  (∃ kvs k, Rd H a (.dK kvs) ∧ y = kV k ∧ r = valV kvs k) ∨ ∃ kvs k b, Rd H a (.dT kvs) ∧ y = .ref b ∧ H b = some (.tup (k.map kV)) ∧ r = valV kvs k
def DPut (H : Hp) (a : Addr) (y v : V) (H' : Hp) : Prop :=
  (∃ kvs k, H a = some (.dK kvs) ∧ y = kV k ∧ kvs.length < sizeLine ∧ H' = upd H a (.dK (putK kvs k v))) ∨
  ∃ kvs k b, H a = some (.dT kvs) ∧ y = .ref b ∧ H b = some (.tup (k.map kV)) ∧ kvs.length < sizeLine ∧ H' = upd H a (.dT (putK kvs k v))
theorem DGet.k {H : Hp} {a : Addr} {kvs : List (Key × V)} {k : Key} (e : H a = some (.dK kvs)) : DGet H a (kV k) (valV kvs k) := .inl ⟨kvs, k, .inl e, rfl, rfl⟩
theorem DPut.k {H : Hp} {a : Addr} {kvs : List (Key × V)} {k : Key} {v : V} (e : H a = some (.dK kvs)) (hl : kvs.length < sizeLine) : DPut H a (kV k) v (upd H a (.dK (putK kvs k v))) := .inl ⟨kvs, k, e, rfl, hl, rfl⟩
section
variable {X : Cx} {pins : List (Addr × Obj)} {σ : St} {H : Hp} {s : Shared} {a : Addr} {y v : V} {u r : Value} {o : Option V} {A : Around} {E : Value → Shared → Prop}
theorem Inv.big (I : Inv X pins σ H s) : sysModules < s.heap.objs.size := by
  have h : mainGlobals < s.heap.objs.size := (I.mod.glob.keeps I.bk).lt
  exact Nat.lt_trans (by decide) h
theorem d_notIn {Q : Value → Shared → Prop} (hu : A.units + 1 < cLine) (I : Inv X pins σ H s) (g : DGet H a y o) (ry : RelV y u) (h : ∀ s', Inv X pins σ H s' → Q (.bool (!o.isSome)) s') :
    wpAny (model X.prog X.w) A (compareOp .NotIn u (.ref a)) Q E s := by
  rcases g with ⟨kvs, k, e, ey, l⟩ | ⟨kvs, k, b, e, ey, eb, l⟩
  · subst ey
    obtain ⟨z, hd, vs, rel, dd⟩ := dk_rd I.hok e
    refine wpAny_notIn_of (kV_is ry) hd dd.mapOf ?_
    rw [← (rel.val k).isSome_eq, ← l]
    exact h _ (I.tok _)
  · subst ey
    cases (show u = Value.ref b from ry)
    obtain ⟨z, hd, xs, rel, dd⟩ := dt_rd I.hok e
    refine wpAny_notIn_heap (tupleKind_room_in1 hu) (key_of I.hok eb) hd dd ?_
    have q := (rel.val k).isSome_eq
    rw [Option.isSome_map] at q
    rw [← q, ← l]
    exact h _ (I.tok _)
theorem d_write {h' : Heap} {t' : Nat} {ob : HO} (I : Inv X pins σ H s) (mu : Mut (H a)) (hs : Heap.SameBut a s.heap h') (he : ∃ q, h'.get? a = some q) (new : ObjOk X.prog X.w (upd H a ob) h' a ob) :
    Inv X pins σ (upd H a ob) { s with heap := h', toks := t' } :=
  I.write (x := a) (e := a) mu (.inl rfl) (fun b q hb z => (hs.2 b hb).trans z) he new
theorem dk_new {P : Program} {w : World} {H' : Hp} {h' : Heap} {kvs : List (Key × V)} {vs : List (Key × Value)} (z : kvs.length ≤ sizeLine) (hd : (a == sysModules) = false) (rel : KV kvs vs) (dd : h'.DictOf (mixKind P w) a vs) :
    ObjOk P w H' h' a (.dK kvs) := ⟨z, hd, vs, rel, dd⟩
theorem d_setItem {H' : Hp} {Q : Unit → Shared → Prop} (hu : A.units + 1 < cLine) (I : Inv X pins σ H s) (g : DPut H a y v H') (ry : RelV y u) (rv : RelV v r) (h : ∀ s', Inv X pins σ H' s' → Q () s') :
    wpAny (model X.prog X.w) A (setItem (.ref a) u r) Q E s := by
  rcases g with ⟨kvs, k, e, ey, l, eH⟩ | ⟨kvs, k, b, e, ey, eb, l, eH⟩
  · subst ey eH
    obtain ⟨z, hd, vs, rel, dd⟩ := dk_of I.hok e
    have hz : vs.length ≤ sizeLine := by rw [← rel.length]; exact z
    have hl : (putK kvs k v).length ≤ sizeLine := by have := length_putK kvs k v; omega
    refine wpAny_setItem_pairs (hsz := hz) (kV_is ry) dd fun h' dd' hs => h _ ?_
    have he : ∃ q, h'.get? a = some q := let ⟨q, _, _, hq, _⟩ := dd'; ⟨q, hq⟩
    exact d_write I (by rw [e]; exact True.intro) hs he (dk_new hl hd (rel.put k rv) dd')
  · subst ey eH
    cases (show u = Value.ref b from ry)
    obtain ⟨z, hd, xs, rel, dd⟩ := dt_of I.hok e
    have hz : xs.length ≤ sizeLine := by rw [← Paired.length rel]; exact z
    have hl : (putK kvs k v).length ≤ sizeLine := by have := length_putK kvs k v; omega
    refine wpAny_setItem_heap (hsz := hz) (tupleKind_room_in1 hu) (key_of I.hok eb) dd fun h' dd' hs => h _ ?_
    obtain ⟨q, es, ep, hq, h2, h3, h4, _, h5⟩ := dd'
    refine d_write I (by rw [e]; exact True.intro) hs ⟨q, hq⟩ ⟨hl, hd, _, (rel.put k eb rv).keeps fun c ys ec => ?_, q, es, ep, hq, h2, h3, h4, h5⟩
    rw [upd_ne (ne_of ec e (fun z => nomatch z))]
    exact ec
end
section
variable {X : Cx} {pins : List (Addr × Obj)} {σ : St} {H : Hp} {s : Shared} {a : Addr} {kvs : List (Key × V)} {k : Key} {u : Value} {A : Around} {E : Value → Shared → Prop}
end
section
variable {X : Cx} {o i e value : Expr} {pos pos' tpos : Pos} {td ty tv : TE}
end
theorem dk_empty {P : Program} {w : World} {H : Hp} (h : Heap) (hb : sysModules < h.objs.size) : ObjOk P w H (h.push { cls := .type "dict", data := .dict #[] }) h.objs.size (.dK []) :=
  ⟨Nat.zero_le _, beq_eq_false_iff_ne.mpr (Ne.symm (Nat.ne_of_lt hb)), [], .nil, Heap.DictOf.new h⟩
def tDNewK : TE := fun _ H Q => ∀ p, H p = none → Q (.ref p) (upd H p (.dK []))
section
variable {X : Cx} {pos : Pos}
theorem pe_dnewK : PE X (.Dict [] [] pos) tDNewK := fun pins s σ H Q I h =>
  wpAny_Dict_empty ⟨.ref s.heap.objs.size, _, I.laid (a := s.heap.objs.size) (o := .dK []) (t' := s.toks) (fun _ _ q => Heap.get?_push_of_some _ q) (Nat.le_refl _) (dk_empty s.heap I.big), rfl, h _ (I.hok.fresh (Nat.le_refl _))⟩
end
section
variable {X : Cx} {pins : List (Addr × Obj)} {σ : St} {H : Hp} {s : Shared} {a : Addr} {y d : V} {u r : Value} {o : Option V} {A : Around} {E : Value → Shared → Prop}
theorem d_get2 {Q : Value → Shared → Prop} (hu : A.units + 1 < cLine) (I : Inv X pins σ H s) (g : DGet H a y o) (ry : RelV y u) (rd : RelV d r) (h : ∀ w' s', Inv X pins σ H s' → RelV (o.getD d) w' → Q w' s') :
    wpAny (model X.prog X.w) A (call (.builtin "dict.get") [.ref a, u, r]) Q E s := by
  rcases g with ⟨kvs, k, e, ey, l⟩ | ⟨kvs, k, b, e, ey, eb, l⟩
  · subst ey
    obtain ⟨z, hd, vs, rel, dd⟩ := dk_rd I.hok e
    refine call_meetsIn PySem.F.slot_dict_get dd.typeIs PySem.F.entry_dict_get (PySem.F.args_dict_get_3 _ _ _) (meets_dict_get_default (mixKind X.prog X.w) a (kV_is ry) hd r) ⟨_, dd.mapOf, h _ _ (I.tok _) ?_⟩
    rw [l]
    exact (rel.val k).getD rd
  · subst ey
    cases (show u = Value.ref b from ry)
    obtain ⟨z, hd, xs, rel, dd⟩ := dt_rd I.hok e
    refine call_meetsIn PySem.F.slot_dict_get dd.typeIs PySem.F.entry_dict_get (PySem.F.args_dict_get_3 _ _ _) (meetsH_dict_get_default (tupleKind (mixKind X.prog X.w)) a b hd r) ⟨tupleKind_room_in1 hu, k, xs, key_of I.hok eb, dd, h _ _ (I.tok _) ?_⟩
    rw [l]
    exact (rel.val k).getD rd
end
section
variable {X : Cx} {o e f : Expr} {apos cpos : Pos} {td ty tx : TE}
end
section
variable {X : Cx} {pins : List (Addr × Obj)} {σ : St} {H : Hp} {s : Shared} {a : Addr} {kvs : List (Key × V)} {A : Around} {E : Value → Shared → Prop}
end
section
variable {X : Cx} {pins : List (Addr × Obj)} {σ : St} {H : Hp} {s : Shared} {a : Addr} {y : V} {u : Value} {A : Around} {E : Value → Shared → Prop}
end
end L2
namespace Att
open PySem PySem.W PySem.Calls PyProof.Rows
theorem ints_of_wellAll {P : Params} {h : Heap} : ∀ (ns : List Int) (vs : List Value), WellAll P h vs (ns.map WData.int) → IntsAre vs ns := by
  intro ns
  induction ns with
  | nil =>
    intro vs w
    rw [List.map_nil] at w
    cases w
    exact .nil
  | cons n ns ih =>
    intro vs w
    rw [List.map_cons] at w
    cases w with
    | cons a b =>
      cases a
      exact .cons _ _ (ih _ b)
theorem script_of {l : OpenLaw} {n : Nat} (hn : l.most = some n) {P : Params} {h : Heap} {args : List WData} {vals : List Value}
    (hpre : l.row.toRowW.claim.pre args = true) (hwl : WellAll P h vals args) :
    ∃ a vs ns, vals = [Value.ref a] ∧ args = [WData.list (ns.map WData.int)] ∧ h.get? a = some { cls := .type "list", data := .seq vs.toArray } ∧ IntsAre vs ns ∧ ns.length ≤ n := by
  have hsh : WShape.hasAll [] args [.list .int] = true := (pre_splitW hpre).1
  have hc : l.pre.holds [] { args := args } = true := (pre_splitW hpre).2
  obtain ⟨d, r, rfl, h1, h2⟩ := hasAllW_cons hsh
  obtain rfl := hasAllW_nil h2
  obtain ⟨xs, rfl, h3⟩ := hasW_list h1
  obtain ⟨ns, rfl⟩ := items_int h3
  have hlen : ns.length ≤ n := by
    unfold OpenLaw.pre at hc
    have h4 : (WTm.not (.lt (.lit (.int (n : Int))) (.len (.arg 0)))).holds [] { args := [.list (ns.map .int)] } = true := by
      have h4 := (holds_andW hc).1
      rw [hn] at h4
      exact h4
    have h5 := condW_of h4 (w_not (w_lt w_lit (w_len_list (w_arg rfl))))
    rw [List.length_map] at h5
    refine Nat.le_of_not_lt fun q => ?_
    have q' : (n : Int) < ((ns.length : Nat) : Int) := by omega
    first
      | (rw [decide_eq_true q'] at h5; exact absurd h5 (by decide))
      | (simp at h5; omega)
  cases hwl with
  | cons w1 w2 =>
    cases w2
    cases w1 with
    | list ho hall => exact ⟨_, _, ns, rfl, rfl, ho, ints_of_wellAll ns _ hall, hlen⟩
theorem post_true (l : OpenLaw) (args : List WData) : l.row.toRowW.claim.post args (.bool true) args = true :=
  postW_of (r := l.row.toRowW) (X := (true == true))
    (show WShape.has [] (.bool true) .bool = true by first | rfl | decide | simp [WShape.has, WShape.arms, WShape.armsAll])
    (show (WTm.eq .res (.lit (.bool true))).value [] { args := args, res := some (.bool true), after := args } = some (.bool (true == true)) from w_eq_bool (w_res rfl) w_lit) rfl
theorem attach_call {l : OpenLaw} {n : Nat} {q : Program} {loose : List Str} {XP : (Str → Option Value) → Heap → Prop} {YP : World → Heap → Prop} {d : DefRec}
    (hn : l.most = some n) (hdf : d.params.defaults = [])
    (call : ∀ (w : World) (s₀ s₁ : Shared) (mg mb : Str → Option Value) (fa : Addr) (o : Obj) (pm cd doc : Value) (a : Addr) (vs : List Value) (ns : List Int),
      Ground q loose [] XP w s₀ mg mb s₁.heap → YP w s₁.heap →
      s₁.heap.get? fa = some o → o.data = .func (docDef d.name d.params d.body d.scope pm cd doc) → s₁.heap.CodeRec cd d.name → mg d.name = some (.ref fa) →
      s₁.heap.get? a = some { cls := .type "list", data := .seq vs.toArray } → IntsAre vs ns → ns.length ≤ n → s₁.gens = #[] →
      codeAny (model l.prog w) callerA (.call (.ref fa) ⟨[.ref a], []⟩) (fun r s' => r = .ok (.ret (.bool true)) ∧ OldK s₁.heap s'.heap ∧ s'.os = s₁.os ∧ AllBare s'.gens) s₁) :
    WalkO q loose XP YP l.row.toRowW d [] (fun f vs => PySem.call f vs) := by
  intro w s₀ s₁ mg mb G Y fa o pm cd doc dV kV ho hd hcd hD hmg hg args vals as hpre hlay hrd hwl hlo
  obtain rfl : dV = .none := Dflts.none hD hdf
  obtain rfl : kV = .none := Dflts.noKw hD
  obtain ⟨a, vs, ns, rfl, rfl, hobj, hints, hlen⟩ := script_of hn hpre hwl
  refine enter_call (codeAny_mono (call w s₀ s₁ mg mb fa o pm cd doc a vs ns G Y ho (fd_plain hd) hcd hmg hobj hints hlen hg) fun r s' hq => ?_)
  obtain ⟨rfl, h2, h3, h4⟩ := hq
  exact ⟨.inl ⟨.bool true, .bool true, [], rfl, fun _ => rfl, .bool true, post_true l _, fun _ => ⟨List.Pairwise.nil, fun _ hm => (nomatch hm)⟩⟩, h2, h3, h4⟩
section
variable {prog : Program} {w : World} {A : Around} {E : Value → Shared → Prop} {s : Shared} {K : Frag}
end
end Att
namespace L2
open PySem PySem.Spec PyProof.Rows
theorem vals_ints : ∀ {vs : List Value} {ns : List Int}, IntsAre vs ns → Vals (ns.map V.int) vs
  | _, _, .nil => .nil
  | _, _, .cons n t h => .cons ⟨t, rfl⟩ (vals_ints h)
def Only (H : Hp) : Prop := ∀ b, H b = none ∨ ∃ o xs, H b = some (.frz o (.lst xs))
theorem law_call {P : Program} {w : World} {K : PySem.W.Frag} {mg mb : Str → Option Value} {CX : CXT} {k : Nat} {fa a : Addr} {fd : FuncData} {x : Str} {sp : Sp} {s₁ : Shared} {vs : List Value} {ns : List Int}
    (KX : K.In s₁.heap) (hns : s₁.heap.Ns mainGlobals mg) (hb : s₁.heap.Ns builtinsNs mb) (hbb : ∀ x : Str, x ≠ "__name__" → mb x = bootBuiltins x) (hlim : s₁.heap.NoLimit) (hg : s₁.gens = #[])
    (ha : s₁.heap.get? a = some { cls := .type "list", data := .seq vs.toArray }) (hi : IntsAre vs ns) (hl : ns.length ≤ sizeLine) (hr : Room k callerA)
    (F : ∀ base : Heap, K.In base → base.Ns mainGlobals mg → FnOk P w K mg base CX k fa fd [x] sp) (hbind : ∀ (s : Shared) (u : Value), BindsTo s fd ⟨[u], []⟩ [(x, u)])
    (hsp : ∀ H : Hp, Only H → SqL K H a (ns.map V.int) → sp [.ref a] H (fun v _ => v = .bl true) fun _ _ _ => False)
    (hCX : ∀ H e s', CX [] H s₁ (fun _ _ _ => False) e s' → False) :
    codeAny (model P w) callerA (.call (.ref fa) ⟨[.ref a], []⟩) (fun r s' => r = .ok (.ret (.bool true)) ∧ OldK s₁.heap s'.heap ∧ s'.os = s₁.os ∧ AllBare s'.gens) s₁ := by
  have rv := vals_ints hi
  have lenV := hi.length
  have core : ∀ H : Hp, Only H → SqL K H a (ns.map V.int) → HOk P w H s₁.heap → (∀ b, H b ≠ none → b = a) → (H a ≠ none → K.lookup a = none) →
      codeAny (model P w) callerA (.call (.ref fa) ⟨[.ref a], []⟩) (fun r s' => r = .ok (.ret (.bool true)) ∧ OldK s₁.heap s'.heap ∧ s'.os = s₁.os ∧ AllBare s'.gens) s₁ := by
    intro H hO hS hok hA hK
    have base_of : ∀ {b : Addr} {o : Obj}, s₁.heap.get? b = some o → H b = none → (hidT s₁.heap H).get? b = some o := fun e n => hidT_get e n
    have noA : ∀ {b : Addr} {o : Obj} {es : Array DictEntry} {ep : Nat}, s₁.heap.get? b = some o → o.data = .dict es ep → H b = none := fun {b o es ep} e d => by
      cases q : H b with
      | none => rfl
      | some u =>
        have e' : b = a := hA b (by rw [q]; simp)
        subst e'
        rw [ha] at e; cases e
        have d' : Data.seq vs.toArray _ = Data.dict es ep := d
        cases d'
    have nsK : ∀ {b : Addr} {m : Str → Option Value}, s₁.heap.Ns b m → (hidT s₁.heap H).Ns b m := fun {b m} ⟨o, es, ep, e, d, r⟩ => ⟨o, es, ep, base_of e (noA e d), d, r⟩
    have hKb : K.In (hidT s₁.heap H) := fun b o e => base_of (KX b o e) (by
      cases q : H b with
      | none => rfl
      | some u =>
        have e' : b = a := hA b (by rw [q]; simp)
        subst e'
        rw [hK (by rw [q]; simp)] at e; cases e)
    have hM : Mod K mg (hidT s₁.heap H) := ⟨hKb, nsK hns, ⟨mb, nsK hb, hbb⟩, let ⟨mc, h1, h2⟩ := hlim; ⟨mc, nsK h1, h2⟩⟩
    have e0 : Env0 P w K mg (hidT s₁.heap H) callerA [] s₁ H := ⟨rfl, hM, fun b o e => of_hidT e, Nat.le_of_eq (hidT_size _ _), trivial, fun b hb => absurd (show b ∈ ([] : List Addr) from hb) (by simp), hok, .of_eq hg⟩
    refine codeAny_mono ((F _ hKb (nsK hns)).run callerA [] s₁ H ⟨[.ref a], []⟩ [.ref a] [.ref a] _ _ hr e0 (hbind s₁ (.ref a)) (.cons rfl .nil) (hsp H hO hS)) fun r s' h => ?_
    cases r with
    | error e => exact (hCX H e s' h).elim
    | ok fl =>
      cases fl with
      | next => exact False.elim h
      | brk => exact False.elim h
      | cont => exact False.elim h
      | ret u =>
        obtain ⟨v, H', os, bare, un, hok', r', q⟩ := h
        have q' : v = .bl true := q
        subst q'
        obtain rfl : u = Value.bool true := r'
        refine ⟨rfl, OldK.of_keep fun b o e => ?_, os, bare⟩
        cases q : H b with
        | none => exact un.keep b o e q (by intro z; exact absurd (show b ∈ ([] : List Addr) from z) (by simp)) (by simp)
        | some u =>
          rcases hO b with z | ⟨ob, xs, z⟩
          · rw [q] at z; cases z
          · have z2 := un.frzs b ob _ z
            obtain ⟨e1, _⟩ := hok b _ z
            obtain ⟨e2, _⟩ := hok' b _ z2
            rw [e] at e1; cases e1
            exact e2
  cases hk : K.lookup a with
  | some o =>
    have e := KX a o hk
    rw [ha] at e
    cases e
    refine core (fun _ => none) (fun _ => .inl rfl) (.inr ⟨_, vs.toArray, _, hk, rfl, rfl, rfl, by rw [List.size_toArray, lenV]; exact hl, by simpa using rv⟩) (fun b u z => by have z' : (none : Option HO) = some u := z; cases z') (fun b z => absurd rfl z) fun z => absurd rfl z
  | none =>
    refine core (fun b => if b = a then some (.frz { cls := .type "list", data := .seq vs.toArray } (.lst (ns.map V.int))) else none) (fun b => ?_) (.inl (.inr ⟨{ cls := .type "list", data := .seq vs.toArray }, if_pos rfl⟩)) (fun b u z => ?_) (fun b z => ?_) fun _ => hk
    · by_cases hb : b = a
      · exact .inr ⟨_, _, if_pos hb⟩
      · exact .inl (if_neg hb)
    · by_cases hb : b = a
      · have z' := (if_pos hb).symm.trans z
        cases z'
        subst hb
        exact ⟨ha, by rw [List.length_map]; exact hl, vs, _, rv, ha⟩
      · have z' := (if_neg hb).symm.trans z
        cases z'
    · by_cases hb : b = a
      · exact hb
      · exact absurd (if_neg hb) z
end L2
namespace L2
open PySem PySem.Spec PyProof.Rows
theorem walk_of {l : PySem.W.OpenLaw} {n k : Nat} {q : Program} {loose : List Str} {XP : (Str → Option Value) → Heap → Prop} {YP : World → Heap → Prop} {d : DefRec} {K : Params → PySem.W.Frag} {CX : World → CXT} {sp : World → Sp} {x : Str}
    (hn : l.most = some n) (hn2 : n ≤ sizeLine) (hdf : d.params.defaults = []) (hr : Room k callerA)
    (hY : ∀ (w : World) (h : Heap), YP w h → (K w.params).In h)
    (F : ∀ (w : World) (mg : Str → Option Value) (fa : Addr) (h : Heap), (K w.params).In h → h.Ns mainGlobals mg → mg d.name = some (.ref fa) →
      ∃ fd : FuncData, (∀ (s : Shared) (u : Value), BindsTo s fd ⟨[u], []⟩ [(x, u)]) ∧
        ∀ base : Heap, (K w.params).In base → base.Ns mainGlobals mg → FnOk l.prog w (K w.params) mg base (CX w) k fa fd [x] (sp w))
    (hsp : ∀ (w : World) (H : Hp) (a : Addr) (ns : List Int), ns.length ≤ n → Only H → SqL (K w.params) H a (ns.map V.int) → sp w [.ref a] H (fun v _ => v = .bl true) fun _ _ _ => False)
    (hCX : ∀ (w : World) (H : Hp) (s : Shared) (e : Value) (s' : Shared), CX w [] H s (fun _ _ _ => False) e s' → False) :
    PySem.W.WalkO q loose XP YP l.row.toRowW d [] (fun f vs => PySem.call f vs) := by
  refine Att.attach_call hn hdf fun w s₀ s₁ mg mb fa o pm cd doc a vs ns G Y ho hd hcd hmg hobj hints hlen hg => ?_
  have KX := hY w _ Y
  obtain ⟨fd, hb, hF⟩ := F w mg fa _ KX G.T.g hmg
  exact law_call KX G.T.g G.T.b G.T.builtins G.T.nolimit hg hobj hints (Nat.le_trans hlen hn2) hr hF hb (fun H hO hS => hsp w H a ns hlen hO hS) fun H e s' => hCX w H s₁ e s'
end L2
/- THE LAST THEOREM (shape; LID, My.* are yours):
   My.Adr: a structure of the addresses that your layer names (classes, functions); My.Txt K t: a structure (Prop) of the equations over K;
   My.txt_mk : {K} {implicit addresses ..} (e1 : nsIn K mainGlobals "law" = some (some (.ref f))) (e2 : K.lookup f = some ⟨oc, od, .func (fnOf "law" "law" params body scope dV kV doc pm an cdv ct), sl⟩) (e3 : codeIn K cdv "law" = true) .. : ∃ t, My.Txt K t
set_option maxRecDepth 100000 in
set_option maxHeartbeats 0 in
theorem PySem.Challenge.cw_LID_holds : PySem.Challenge.rw_LID.Holds := by
  w_on; o_law; k_head; (case hw => w_witness2)
  k_fill
  refine L2.walk_of (l := PySem.Challenge.rw_LID) (n := 63) (k := 40) (x := "script") (CX := fun w => ..) (sp := fun _ => My.sp_law) rfl (by decide) rfl ⟨rfl, by decide, by decide⟩ (fun w h Y => PySem.W.kIn_of Y) ?F ?S ?C
  case F =>
    intro w mg fa h KX G hmg
    have T : ∃ t, My.Txt (L2.KOf KX) t := by
      dsimp only [L2.KOf]                          -- K must stand as «<heap const> w.params» for k_is
      refine' My.txt_mk ?e1 ?e2 ?e3 ..
      (case e1 => PySem.W.k_is)                    -- in the order: a name -> its address -> its object -> its parts
      (case e2 => PySem.W.k_is)
      ..
    obtain ⟨t, T⟩ := T
    have e0 := hmg.symm.trans (PySem.W.mg_of KX G T.law)
    cases e0                                       -- fa is the law's own address
    exact ⟨_, fun s u => .of_eq rfl, fun base kb nb => My.law_fn T kb nb⟩     -- if «.of_eq rfl» comes too early: refine' ⟨_, ?b, fun base kb nb => My.law_fn T kb nb⟩; exact fun s u => .of_eq rfl
  case S => exact fun w H a ns hl hO hS => ..
  case C => exact ..
(the tactic k_is has no namespace: write k_is) -/
namespace L2
open PySem PySem.Spec PyProof.Rows
abbrev CX0 : CXT := fun _ _ _ _ _ _ => False
abbrev E0 : XK := fun _ _ _ => False
theorem pass0 {X : Cx} : Passes CX0 X E0 := fun _ _ _ _ _ _ _ h => h.elim
structure Fun (K : PySem.W.Frag) (x qual : Str) (st : Stmt) (f : Addr) (fd : FuncData) : Prop where
  ex : ∃ (oc : Value) (od : Option Addr) (kV doc pm : Value) (an : Option Addr) (cdv ct : Value) (osl : Array (Option Value)),
    fd = PySem.W.fnOf x qual (defArgs st) (defBody st) (defScope st) .none kV doc pm an cdv ct ∧ K.lookup f = some ⟨oc, od, .func fd, osl⟩ ∧ PySem.W.codeIn K cdv qual = true
  kp : PySem.W.keepIn K (.ref f) = true
section
variable {P : Program} {w : World} {K : PySem.W.Frag} {mg : Str → Option Value} {base : Heap}
theorem Fun.ok {x qual : Str} {st : Stmt} {f : Addr} {fd : FuncData} {N ps : List Str} {k : Nat} {sp : Sp} (F : Fun K x qual st f fd) (S : FnScope N ps (defScope st)) (len : ∀ vs H Q E, sp vs H Q E → vs.length = ps.length)
    (hbody : ∀ (cdv : Value) (A : Around) (outer : List Env) (s : Shared) (H : Hp) (vs : List V) (Q : VK) (E : XK), Room k (A.deeper (envOfC qual (defScope st) s.heap.objs.size f cdv)) → sp vs H Q E →
      ∃ t, PSs (cxOf CX0 P w K mg base N qual (defScope st) f cdv A outer s H E).nox (defBody st) t ∧ t { nx := fun _ H' => Q .non H', rt := Q } (start N vs) H) : FnOk P w K mg base CX0 (k + 1) f fd ps sp := by
  obtain ⟨oc, od, kV, doc, pm, an, cdv, ct, osl, rfl, lk, hcd⟩ := F.ex
  refine fn_of lk hcd S len fun A outer s H vs Q E hr hsp => ?_
  obtain ⟨t, h, q⟩ := hbody cdv A outer s H vs Q E hr hsp
  exact ⟨t, h.nox, q⟩
theorem Fun.binds {x qual : Str} {st : Stmt} {f : Addr} {fd : FuncData} {ps : List Str} (F : Fun K x qual st f fd)
    (h : ∀ (kV doc pm : Value) (an : Option Addr) (cdv ct : Value) (us : List Value), us.length = ps.length → bindArgs (PySem.W.fnOf x qual (defArgs st) (defBody st) (defScope st) .none kV doc pm an cdv ct) ⟨us, []⟩ = pure (ps.zip us)) : Binds K fd ps [] := by
  obtain ⟨oc, od, kV, doc, pm, an, cdv, ct, osl, rfl, lk, hcd⟩ := F.ex
  exact .all (h kV doc pm an cdv ct)
theorem fun_mk {x qual : Str} {st : Stmt} {f : Addr} {oc : Value} {od an : Option Addr} {osl : Array (Option Value)} {kV doc pm cdv ct : Value} (l : K.lookup f = some ⟨oc, od, .func (PySem.W.fnOf x qual (defArgs st) (defBody st) (defScope st) .none kV doc pm an cdv ct), osl⟩)
    (c : PySem.W.codeIn K cdv qual = true) (k : PySem.W.keepIn K (.ref f) = true) : Fun K x qual st f (PySem.W.fnOf x qual (defArgs st) (defBody st) (defScope st) .none kV doc pm an cdv ct) := ⟨⟨oc, od, kV, doc, pm, an, cdv, ct, osl, rfl, l, c⟩, k⟩
end
theorem hu_of {A : Around} {k : Nat} (hr : Room k A) : A.units + 1 < cLine := Nat.lt_of_le_of_lt (Nat.add_le_add_left (by decide : 1 ≤ 64) _) hr.units
theorem small1000 {n : Nat} (h : n ≤ 1000) : n < sizeLine := Nat.lt_of_le_of_lt h (by decide)
section
variable {X : Cx}
theorem pv (i : Nat) {x : Str} {pos : Pos} (hN : X.N[i]? = some x := by rfl) (hv : Vis X.env.scope x := by first | exact Or.inl rfl | exact Or.inr (Or.inl rfl) | exact Or.inr (Or.inr rfl)) (hd : (x == ("__debug__" : Str)) = false := by decide)
    (hcd : (x == ("__classdict__" : Str)) = false := by decide) : PE X (.Name x pos) (tVar i) := pe_var hN hv hd hcd
end
theorem iteF {A B : Prop} (h : B) : if false = true then A else B := by
  rw [if_neg Bool.false_ne_true]
  exact h
theorem iteT {A B : Prop} (h : A) : if true = true then A else B := by
  rw [if_pos rfl]
  exact h
theorem ite2 {c A B : Prop} [Decidable c] (h1 : c → A) (h2 : ¬ c → B) : if c then A else B := by
  by_cases h : c
  · rw [if_pos h]
    exact h1 h
  · rw [if_neg h]
    exact h2 h
theorem iteNS {c A B : Prop} [Decidable c] (hc : c) (h : B) : if (!decide c) = true then A else B := by
  rw [decide_eq_true hc]
  exact iteF h
def Same (H H' : Hp) : Prop := ∀ b o, H b = some o → H' b = some o
theorem Same.refl (H : Hp) : Same H H := fun _ _ h => h
theorem Same.trans {H H1 H2 : Hp} (a : Same H H1) (b : Same H1 H2) : Same H H2 := fun c o h => b c o (a c o h)
theorem Same.free {H H' : Hp} (e : Same H H') {l : Addr} (h : H' l = Option.none) : H l = Option.none := by
  cases q : H l with
  | none => rfl
  | some o =>
    rw [e l o q] at h
    cases h
theorem Same.seq {K : PySem.W.Frag} {H H' : Hp} {a : Addr} {xs : List V} (e : Same H H') (h : SqL K H a xs) : SqL K H' a xs := by
  rcases h with (h | ⟨o, h⟩) | h
  · exact .inl (.inl (e _ _ h))
  · exact .inl (.inr ⟨o, e _ _ h⟩)
  · exact .inr h
section
variable {κ : Type} [DecidableEq κ]
end
end L2
namespace L2
open PySem PySem.Spec PyProof.Rows
inductive Ty where
  | int | bool | str | non | lst | tup | dct
  deriving DecidableEq
def Ty.name : Ty → String
  | .int => "int" | .bool => "bool" | .str => "str" | .non => "NoneType" | .lst => "list" | .tup => "tuple" | .dct => "dict"
inductive TyN (K : PySem.W.Frag) (H : Hp) : V → Ty → Prop where
  | int (i : Int) : TyN K H (.int i) .int
  | bl (b : Bool) : TyN K H (.bl b) .bool
  | str (x : Str) : TyN K H (.str x) .str
  | non : TyN K H .non .non
  | lst {a : Addr} {xs : List V} (h : SqL K H a xs) : TyN K H (.ref a) .lst
  | tup {a : Addr} {xs : List V} (h : SqT K H a xs) : TyN K H (.ref a) .tup
  | dk {a : Addr} {kvs : List (Key × V)} (h : H a = some (.dK kvs)) : TyN K H (.ref a) .dct
def isiB : Ty → Ty → Bool
  | .int, .int => true | .bool, .bool => true | .bool, .int => true | .str, .str => true | .non, .non => true | .lst, .lst => true | .tup, .tup => true | .dct, .dct => true | _, _ => false
def rIsi (K : PySem.W.Frag) : List V → Hp → VK → Prop := fun vs H Q => ∃ x T T', vs = [x, .ty (Ty.name T)] ∧ TyN K H x T' ∧ Q (.bl (isiB T' T)) H
theorem call_isi {X : Cx} : CallR X (.builtin "isinstance") (rIsi X.K) := by
  intro pins s σ H vs us Q I r h
  obtain ⟨x, T, T', rfl, ty, q⟩ := h
  obtain ⟨u, u2, rfl, ru, ru2⟩ := vals2 r
  have e2 : u2 = Value.type (Ty.name T) := ru2
  subst e2
  cases ty with
  | int i =>
    obtain ⟨t, rfl⟩ := ru
    cases T with
    | int => exact IsiPair.int_int ⟨.bl true, H, I, rfl, q⟩
    | bool => exact IsiPair.int_bool ⟨.bl false, H, I.tok _, rfl, q⟩
    | str => exact IsiPair.int_str ⟨.bl false, H, I.tok _, rfl, q⟩
    | non => exact IsiPair.int_NoneType ⟨.bl false, H, I.tok _, rfl, q⟩
    | lst => exact IsiPair.int_list ⟨.bl false, H, I.tok _, rfl, q⟩
    | tup => exact IsiPair.int_tuple ⟨.bl false, H, I.tok _, rfl, q⟩
    | dct => exact IsiPair.int_dict ⟨.bl false, H, I.tok _, rfl, q⟩
  | bl b =>
    obtain rfl : u = Value.bool b := ru
    cases T with
    | int => exact IsiPair.bool_int ⟨.bl true, H, I, rfl, q⟩
    | bool => exact IsiPair.bool_bool ⟨.bl true, H, I, rfl, q⟩
    | str => exact IsiPair.bool_str ⟨.bl false, H, I.tok _, rfl, q⟩
    | non => exact IsiPair.bool_NoneType ⟨.bl false, H, I.tok _, rfl, q⟩
    | lst => exact IsiPair.bool_list ⟨.bl false, H, I.tok _, rfl, q⟩
    | tup => exact IsiPair.bool_tuple ⟨.bl false, H, I.tok _, rfl, q⟩
    | dct => exact IsiPair.bool_dict ⟨.bl false, H, I.tok _, rfl, q⟩
  | str y =>
    obtain ⟨t, rfl⟩ := ru
    cases T with
    | int => exact IsiPair.str_int ⟨.bl false, H, I.tok _, rfl, q⟩
    | bool => exact IsiPair.str_bool ⟨.bl false, H, I.tok _, rfl, q⟩
    | str => exact IsiPair.str_str ⟨.bl true, H, I, rfl, q⟩
    | non => exact IsiPair.str_NoneType ⟨.bl false, H, I.tok _, rfl, q⟩
    | lst => exact IsiPair.str_list ⟨.bl false, H, I.tok _, rfl, q⟩
    | tup => exact IsiPair.str_tuple ⟨.bl false, H, I.tok _, rfl, q⟩
    | dct => exact IsiPair.str_dict ⟨.bl false, H, I.tok _, rfl, q⟩
  | non =>
    obtain rfl : u = Value.none := ru
    cases T with
    | int => exact IsiPair.NoneType_int ⟨.bl false, H, I.tok _, rfl, q⟩
    | bool => exact IsiPair.NoneType_bool ⟨.bl false, H, I.tok _, rfl, q⟩
    | str => exact IsiPair.NoneType_str ⟨.bl false, H, I.tok _, rfl, q⟩
    | non => exact IsiPair.NoneType_NoneType ⟨.bl true, H, I, rfl, q⟩
    | lst => exact IsiPair.NoneType_list ⟨.bl false, H, I.tok _, rfl, q⟩
    | tup => exact IsiPair.NoneType_tuple ⟨.bl false, H, I.tok _, rfl, q⟩
    | dct => exact IsiPair.NoneType_dict ⟨.bl false, H, I.tok _, rfl, q⟩
  | lst hq =>
    obtain rfl : u = Value.ref _ := ru
    obtain ⟨its, rv, ⟨o, n, e, hc, hd, hs⟩, hz⟩ := I.list hq
    cases T with
    | int => exact IsiPair.list_int e hc ⟨.bl false, H, I.tok _, rfl, q⟩
    | bool => exact IsiPair.list_bool e hc ⟨.bl false, H, I.tok _, rfl, q⟩
    | str => exact IsiPair.list_str e hc ⟨.bl false, H, I.tok _, rfl, q⟩
    | non => exact IsiPair.list_NoneType e hc ⟨.bl false, H, I.tok _, rfl, q⟩
    | lst => exact IsiPair.list_list e hc ⟨.bl true, H, I, rfl, q⟩
    | tup => exact IsiPair.list_tuple e hc ⟨.bl false, H, I.tok _, rfl, q⟩
    | dct => exact IsiPair.list_dict e hc ⟨.bl false, H, I.tok _, rfl, q⟩
  | tup hq =>
    obtain rfl : u = Value.ref _ := ru
    obtain ⟨its, rv, ⟨o, e, hc, n, hs⟩, hz⟩ := I.tuple hq
    cases T with
    | int => exact IsiPair.tuple_int e hc ⟨.bl false, H, I.tok _, rfl, q⟩
    | bool => exact IsiPair.tuple_bool e hc ⟨.bl false, H, I.tok _, rfl, q⟩
    | str => exact IsiPair.tuple_str e hc ⟨.bl false, H, I.tok _, rfl, q⟩
    | non => exact IsiPair.tuple_NoneType e hc ⟨.bl false, H, I.tok _, rfl, q⟩
    | lst => exact IsiPair.tuple_list e hc ⟨.bl false, H, I.tok _, rfl, q⟩
    | tup => exact IsiPair.tuple_tuple e hc ⟨.bl true, H, I, rfl, q⟩
    | dct => exact IsiPair.tuple_dict e hc ⟨.bl false, H, I.tok _, rfl, q⟩
  | dk hq =>
    obtain rfl : u = Value.ref _ := ru
    obtain ⟨hz, hm, vs, rel, o, es, ep, e, ex, hr⟩ := I.hok _ _ hq
    have hc := ex.1
    cases T with
    | int => exact IsiPair.dict_int e hc ⟨.bl false, H, I.tok _, rfl, q⟩
    | bool => exact IsiPair.dict_bool e hc ⟨.bl false, H, I.tok _, rfl, q⟩
    | str => exact IsiPair.dict_str e hc ⟨.bl false, H, I.tok _, rfl, q⟩
    | non => exact IsiPair.dict_NoneType e hc ⟨.bl false, H, I.tok _, rfl, q⟩
    | lst => exact IsiPair.dict_list e hc ⟨.bl false, H, I.tok _, rfl, q⟩
    | tup => exact IsiPair.dict_tuple e hc ⟨.bl false, H, I.tok _, rfl, q⟩
    | dct => exact IsiPair.dict_dict e hc ⟨.bl true, H, I, rfl, q⟩
theorem truth_bl {P : Program} {w : World} {A : Around} {bs : List Bool} {its : List Value} (r : Vals (bs.map V.bl) its) : TruthOf P w A (fun i v => its.toArray[i]? = some v) (fun i => bs.getD i false) := by
  intro i v s Q E hv hq
  have hv' : its[i]? = some v := by simpa using hv
  have hl := r.length
  rw [List.length_map] at hl
  have hi : i < its.length := (List.getElem?_eq_some_iff.mp hv').1
  have hb : (bs.map V.bl)[i]? = some (V.bl (bs.getD i false)) := by
    rw [List.getElem?_map, List.getD_eq_getElem?_getD]
    have : bs[i]? = some bs[i] := List.getElem?_eq_getElem (by omega)
    rw [this]; rfl
  obtain ⟨u, hu, ru⟩ := r.get hb
  rw [hv'] at hu
  cases hu
  have e : v = Value.bool (bs.getD i false) := ru
  subst e
  exact wpAny_truthy_bool hq
theorem range_all {bs : List Bool} : (List.range bs.length).all (fun i => bs.getD i false) = bs.all id := by
  rw [Bool.eq_iff_iff, List.all_eq_true, List.all_eq_true]
  constructor
  · intro h b hb
    obtain ⟨i, hi, e⟩ := List.mem_iff_getElem.mp hb
    have := h i (List.mem_range.mpr hi)
    rw [List.getD_eq_getElem?_getD, List.getElem?_eq_getElem hi] at this
    rw [← e]; exact this
  · intro h i hi
    have hi' := List.mem_range.mp hi
    rw [List.getD_eq_getElem?_getD, List.getElem?_eq_getElem hi']
    exact h _ (List.getElem_mem hi')
def rAll (K : PySem.W.Frag) : List V → Hp → VK → Prop := fun vs H Q => ∃ (a : Addr) (bs : List Bool), vs = [.ref a] ∧ SqL K H a (bs.map V.bl) ∧ Q (.bl (bs.all id)) H
theorem call_allL {X : Cx} (hc : X.calm = true) : CallR X (.builtin "all") (rAll X.K) := by
  intro pins s σ H vs us Q I r h
  obtain ⟨a, bs, rfl, hq, q⟩ := h
  obtain ⟨u, rfl, ru⟩ := vals1 r
  obtain rfl : u = Value.ref a := ru
  obtain ⟨its, rv, p, hz⟩ := I.list hq
  have hl := rv.length
  rw [List.length_map] at hl
  have hlt : a < s.heap.objs.size := by obtain ⟨_, e, _⟩ := p.isList; exact Heap.lt_size e
  refine call_all_walk (wpAny_pyIter_list p.isList ?_)
  refine ⟨s.heap.objs.size, [s.heap.objs.size, a], [s.heap.objs.size], its.toArray.size, (fun i v => its.toArray[i]? = some v), (fun i h => h.IsListIter s.heap.objs.size a i ∧ h.IsList a its.toArray), (fun i => bs.getD i false), rfl, Walks.list (A := X.A.in1) (I.ok.hd hc) s.heap.objs.size a (Nat.ne_of_lt hlt) its.toArray, ⟨⟨_, Heap.get?_push_size _ rfl, rfl, rfl⟩, p.isList.push _⟩, truth_bl rv, fun h' tk hk => ?_⟩
  refine ⟨.bl (bs.all id), H, I.kept fun b o e => hk b o (fun z => ?_) (Heap.get?_push_of_some _ e), ?_, q⟩
  · have z' : b = s.heap.objs.size := by simpa using z
    exact absurd (Heap.lt_size e) (by rw [z']; exact Nat.lt_irrefl _)
  · have e : its.toArray.size = bs.length := by rw [List.size_toArray, hl]
    show Value.bool _ = Value.bool _
    rw [e, range_all]
def rS (g : Str → Str → Bool) : R2 := fun x y H Q => ∃ a b, x = .str a ∧ y = .str b ∧ Q (.bl (g a b)) H
theorem op_leS {X : Cx} : OpR X (compareOp .LtE) (rS fun a b => !decide (b.cps.toList < a.cps.toList)) := by
  intro pins s σ H x y v u Q I rx ry h
  obtain ⟨a, b, rfl, rfl, q⟩ := h
  obtain ⟨t, rfl⟩ := rx
  obtain ⟨t', rfl⟩ := ry
  exact P.le_str ⟨.bl _, H, I, rfl, q⟩
def Its (x : Str) : It := ⟨fun i _ => i < x.cps.size, fun i H v H' => H' = H ∧ ∃ c, x.cps[i]? = some c ∧ v = .str ⟨#[c]⟩, fun i _ => i = x.cps.size⟩
theorem turn_str {P : Program} {w : World} {K : PySem.W.Frag} {tg : Expr} {x : Str} {t : Tok} {ty : String} (it : Addr) (hn : ["enumerate", "zip", "dict_itemiterator", "dict_reverseitemiterator", "odict_iterator", "itertools.zip_longest", "itertools.pairwise"].contains ty = false)
    (W : ∀ A : Around, A.handled = none → Walks P w A it [it] [it] x.cps.size (SignAt x) (fun i h => h.IsStrIter it ty x t i))
    (hself : ∀ (A : Around) (i : Nat) (s : Shared) (Q : Value → Shared → Prop) (E : Value → Shared → Prop), s.heap.IsStrIter it ty x t i → Q (.ref it) s → wpAny (model P w) A (pyIter (.ref it)) Q E s) : Turn P w K tg (Its x) [it] it (fun i h => h.IsStrIter it ty x t i) where
  mem := by simp
  obj := fun i h st b hb => by
    have e : b = it := by simpa using hb
    subst e
    obtain ⟨o, e, c, d⟩ := st
    exact ⟨o, e, fun v z => by rw [d] at z; cases z⟩
  keep := fun i h h' st k => by
    obtain ⟨o, e, r⟩ := st
    exact ⟨o, k it (by simp) o e, r⟩
  item := by
    intro X hP hw hK hc i pins s σ H E I hf st hg
    subst hP hw hK
    obtain ⟨f0, f1, f2, f3, f4, f5⟩ := hf it (by simp)
    refine (W X.A (I.ok.hd hc)).item i s _ _ hg st fun v h' tk hv st' kk => ?_
    obtain ⟨c, u, hc', rfl⟩ := hv
    have I1 : Inv X pins σ H { s with heap := h', toks := tk } := I.turned (fun b o hb e => kk b o (by simpa using hb) e) f0 f1 f3 f4 f5
    obtain ⟨o, e, c1, d⟩ := id st'
    exact ⟨_, rfl, go_of (s := { s with heap := h', toks := tk }) e c1 d hn ⟨.str ⟨#[c]⟩, H, I1, ⟨u, rfl⟩, ⟨rfl, c, hc', rfl⟩, st', fun b hb => (hf b hb).1⟩⟩
  done := by
    intro X hP hw hK hc i pins s σ H E I hf st hg
    subst hP hw hK
    obtain ⟨f0, f1, f2, f3, f4, f5⟩ := hf it (by simp)
    have hg' : i = x.cps.size := hg
    subst hg'
    exact (W X.A (I.ok.hd hc)).done s _ _ st fun h' tk kk => ⟨rfl, I.turned (fun b o hb e => kk b o (by simpa using hb) e) f0 f1 f3 f4 f5⟩
  self := hself
def iStr (te : TE) : TI := fun σ H R => te σ H fun x H1 => ∃ y, x = .str y ∧ R (Its y) H1
theorem pi_str {X : Cx} {tg e : Expr} {te : TE} (he : PE X e te) : PI X tg e (iStr te) := by
  intro pins s σ H R I h
  refine thn (he pins s σ H _ I h) fun v s1 ⟨x, H1, I1, r1, q1⟩ => ?_
  obtain ⟨y, rfl, q⟩ := q1
  obtain ⟨t, rfl⟩ := r1
  have fin : ∀ b ∈ [s1.heap.objs.size], FpOk X pins H1 b := fun b hb => by
    have e : b = s1.heap.objs.size := by simpa using hb
    subst e
    exact I1.fpOk (Nat.le_refl _) (I1.hok.fresh (Nat.le_refl _))
  cases ha : y.cps.all (· < 128)
  · refine wpAny_pyIter_wide ha ⟨s1.heap.objs.size, [s1.heap.objs.size], _, _, H1, rfl, I1.kept (t' := s1.toks) fun b o e => Heap.get?_push_of_some _ e, turn_str (ty := "str_iterator") (t := t) _ (by decide) (fun A hA => Walks.strWide hA _ y t) (fun A i s Q E st hQ => wpAny_pyIter_striter_wide st hQ), ⟨_, Heap.get?_push_size _ rfl, rfl, rfl⟩, fin, q⟩
  · refine wpAny_pyIter_ascii ha ⟨s1.heap.objs.size, [s1.heap.objs.size], _, _, H1, rfl, I1.kept (t' := s1.toks) fun b o e => Heap.get?_push_of_some _ e, turn_str (ty := "str_ascii_iterator") (t := t) _ (by decide) (fun A hA => Walks.strAscii hA _ y t) (fun A i s Q E st hQ => wpAny_pyIter_striter_ascii st hQ), ⟨_, Heap.get?_push_size _ rfl, rfl, rfl⟩, fin, q⟩
theorem Inv.track {X : Cx} {pins : List (Addr × Obj)} {σ : St} {H : Hp} {s : Shared} {T : Addr} {o : HO} (I : Inv X pins σ H s) (hn : FpOk X pins H T) (hT : ∃ ob, s.heap.get? T = some ob) (new : ObjOk X.prog X.w (upd H T o) s.heap T o) : Inv X pins σ (upd H T o) s := by
  obtain ⟨f0, f1, f2, f3, f4, f5⟩ := hn
  refine I.step (g' := s.gens) (t' := s.toks) (d' := s.drawn) (h' := s.heap) (ch := [T]) (fun b hb => ?_) (fun b ob _ _ _ e _ => e) (fun b ob _ _ _ e _ => ⟨ob.slots, e⟩) (fun b ob hb e n => ?_) (fun b ob _ e => ⟨ob, e⟩) (fun b xs e => ?_) (fun b ob u e => ?_) (fun b ps e => ?_) (fun m hm => hm) (fun b u e => ?_) I.bare
  · have e : b = T := by simpa using hb
    subst e
    exact ⟨f3, f1, f4, f5⟩
  · rw [upd_ne (by simpa using hb)]; exact n
  · rw [upd_ne (ne_of_none e f0)]; exact e
  · rw [upd_ne (ne_of_none e f0)]; exact e
  · exact ⟨#[], by rw [upd_ne (ne_of_none e f0), e]; simp⟩
  · by_cases hb : b = T
    · subst hb; rw [upd_same] at e; cases e; exact new
    · rw [upd_ne hb] at e
      exact (I.hok b u e).stay (fun c v _ q => q) (fun c q => by rw [upd_ne (ne_of_none q f0)]; exact q) fun c xs q => by rw [upd_ne (ne_of_none q f0)]; exact q
end L2
namespace L2
open PySem PySem.Spec PyProof.Rows
def closOf (env : Env) : List (Str × NameKind) → List (Str × Addr) → List (Str × Addr)
  | [], acc => acc
  | (n, k) :: r, acc => if k == .free then closOf env r ((n, (env.cells.lookup n).getD 0) :: acc) else closOf env r acc
theorem forIn_clos {env : Env} (f : Str × NameKind → List (Str × Addr) → Sem (ForInStep (List (Str × Addr))))
    (hf : ∀ n k cs, f (n, k) cs = if (k == NameKind.free) = true then (cellOf env n >>= fun a => pure (.yield ((n, a) :: cs))) else pure (.yield cs)) :
    ∀ (names : List (Str × NameKind)) (acc : List (Str × Addr)), (∀ x ∈ names, x.2 = .free → ∃ c, env.cells.lookup x.1 = some c) → forIn names acc f = pure (closOf env names acc)
  | [], acc, _ => by rw [List.forIn_nil]; rfl
  | (n, k) :: r, acc, h => by
    rw [List.forIn_cons, hf]
    unfold closOf
    by_cases hk : (k == NameKind.free) = true
    · rw [if_pos hk, if_pos hk]
      obtain ⟨c, hc⟩ := h (n, k) List.mem_cons_self (beq_iff_eq.mp hk)
      have e : cellOf env n = pure c := by unfold cellOf; rw [hc]
      rw [e, hc]
      exact forIn_clos f hf r _ fun x hx => h x (List.mem_cons_of_mem _ hx)
    · rw [if_neg hk, if_neg hk]
      exact forIn_clos f hf r _ fun x hx => h x (List.mem_cons_of_mem _ hx)
theorem closureFor_of {scope : Scope} {env : Env} (h : ∀ x ∈ scope.names, x.2 = .free → ∃ c, env.cells.lookup x.1 = some c) : closureFor scope env = pure (closOf env scope.names []) := by
  simp only [closureFor]
  rw [forIn_clos (env := env) _ (fun n k cs => by cases hk : k == NameKind.free <;> simp [hk]) scope.names [] h]
  rfl
theorem closOf_mem {env : Env} : ∀ {names : List (Str × NameKind)} {acc : List (Str × Addr)} {x : Str} {c : Addr}, (x, c) ∈ closOf env names acc → (x, c) ∈ acc ∨ ((x, NameKind.free) ∈ names ∧ c = (env.cells.lookup x).getD 0)
  | [], _, _, _, h => .inl h
  | (n, k) :: r, acc, x, c, h => by
    unfold closOf at h
    by_cases hk : (k == NameKind.free) = true
    · rw [if_pos hk] at h
      rcases closOf_mem h with h | ⟨h, e⟩
      · rcases List.mem_cons.mp h with h | h
        · cases h
          rw [beq_iff_eq.mp hk]
          exact .inr ⟨List.mem_cons_self, rfl⟩
        · exact .inl h
      · exact .inr ⟨List.mem_cons_of_mem _ h, e⟩
    · rw [if_neg hk] at h
      rcases closOf_mem h with h | ⟨h, e⟩
      · exact .inl h
      · exact .inr ⟨List.mem_cons_of_mem _ h, e⟩
theorem closOf_acc {env : Env} : ∀ {names : List (Str × NameKind)} {acc : List (Str × Addr)} {p : Str × Addr}, p ∈ acc → p ∈ closOf env names acc
  | [], _, _, h => h
  | (n, k) :: r, acc, p, h => by
    unfold closOf
    by_cases hk : (k == NameKind.free) = true
    · rw [if_pos hk]; exact closOf_acc (List.mem_cons_of_mem _ h)
    · rw [if_neg hk]; exact closOf_acc h
theorem closOf_has {env : Env} : ∀ {names : List (Str × NameKind)} {acc : List (Str × Addr)} {x : Str}, (x, NameKind.free) ∈ names → ∃ c, (x, c) ∈ closOf env names acc
  | (n, k) :: r, acc, x, h => by
    unfold closOf
    rcases List.mem_cons.mp h with h | h
    · cases h
      rw [if_pos (show (NameKind.free == NameKind.free) = true by rfl)]
      exact ⟨_, closOf_acc List.mem_cons_self⟩
    · by_cases hk : (k == NameKind.free) = true
      · rw [if_pos hk]; exact closOf_has h
      · rw [if_neg hk]; exact closOf_has h
theorem look_of_mem {α : Type} : ∀ {l : List (Str × α)} {x : Str} {c : α}, (x, c) ∈ l → ∃ c', l.lookup x = some c'
  | (n, d) :: r, x, c, h => by
    rw [List.lookup_cons]
    cases hb : x == n with
    | true => exact ⟨d, rfl⟩
    | false =>
      rcases List.mem_cons.mp h with h | h
      · cases h
        simp at hb
      · exact look_of_mem h
theorem cellsFrom_app : ∀ (names : List (Str × NameKind)) (n : Nat) (acc : List (Str × Addr)), cellsFrom n names acc = cellsFrom n names [] ++ acc
  | [], _, _ => rfl
  | (x, k) :: r, n, acc => by
    unfold cellsFrom
    by_cases hk : (k == NameKind.cell) = true
    · rw [if_pos hk, if_pos hk, cellsFrom_app r (n + 1) ((x, n) :: acc), cellsFrom_app r (n + 1) [(x, n)], List.append_assoc]
      rfl
    · rw [if_neg hk, if_neg hk]; exact cellsFrom_app r n acc
theorem cellsFrom_cell : ∀ {names : List (Str × NameKind)} {n : Nat} {acc : List (Str × Addr)} {x : Str} {c : Addr}, (x, c) ∈ cellsFrom n names acc → (x, c) ∈ acc ∨ (x, NameKind.cell) ∈ names
  | [], _, _, _, _, h => .inl h
  | (y, k) :: r, n, acc, x, c, h => by
    unfold cellsFrom at h
    by_cases hk : (k == NameKind.cell) = true
    · rw [if_pos hk] at h
      rcases cellsFrom_cell h with h | h
      · rcases List.mem_cons.mp h with h | h
        · cases h
          rw [beq_iff_eq.mp hk]
          exact .inr List.mem_cons_self
        · exact .inl h
      · exact .inr (List.mem_cons_of_mem _ h)
    · rw [if_neg hk] at h
      rcases cellsFrom_cell h with h | h
      · exact .inl h
      · exact .inr (List.mem_cons_of_mem _ h)
section
variable {M : Model} {A : Around} {E : Value → Shared → Prop} {s : Shared}
theorem nfe_comp {scope : Scope} {env : Env} {cl : List (Str × Addr)} {Q : Env → Shared → Prop}
    (hQ : Q (newEnv scope s.heap.objs.size env.globals (cellsFrom (s.heap.objs.size + 1) scope.names cl) env.qual none .none (some env) builtinsNs) { s with heap := pushCells (s.heap.push { cls := .type "dict", data := .dict #[] }) scope.names }) :
    wpAny M A (newFunctionEnv scope env.globals cl [] env.qual none .none (some env)) Q E s := by
  simp only [newFunctionEnv, Option.isSome_some, if_true]
  refine wpAny_bind (wpAny_alloc ?_)
  refine wpAny_bind (wpAny_layCells _ (fun name kind cells => by cases hkc : kind == NameKind.cell <;> simp [hkc]) _ _ _ _ ?_)
  rw [show ({ s with heap := s.heap.push { cls := .type "dict", data := .dict #[] } } : Shared).heap.objs.size = s.heap.objs.size + 1 from Heap.size_push ..]
  exact wpAny_bind (wpAny_pure (wpAny_pure hQ))
end
abbrev cxComp (X : Cx) (N : List Str) (scope : Scope) (cs : List (Str × Addr)) (C : Addr) (s : Shared) (H : Hp) (ex : List Addr) : Cx where
  prog := X.prog
  w := X.w
  K := X.K
  mg := X.mg
  base := X.base
  A := X.A
  N := N
  s₀ := s
  H₀ := H
  env := compEnvC scope cs C X.env
  outer := X.stack
  stack := X.stack
  ex := ex
  fn := fun x => decide (scope.names.lookup x ≠ some .free)
  calm := X.calm
  pn := []
  xe := fun _ _ => False
structure CompScope (psc : Scope) (PN : List Str) (scope : Scope) (N : List Str) (k : Nat) (caps : List Nat) : Prop where
  kind : scope.kind = .function
  loc : ∀ x ∈ scope.names, x.2 = .local → scope.names.lookup x.1 = some .local
  ndn : (scope.names.map (·.1)).Nodup
  nd : N.Nodup
  len : N.length = k + caps.length
  free : ∀ x ∈ scope.names, x.2 = .free → psc.names.lookup x.1 = some .cell ∨ psc.names.lookup x.1 = some .free
  cap : ∀ p ∈ (N.drop k).zip caps, PN[p.2]? = some p.1 ∧ scope.names.lookup p.1 = some .free
def compSt (k : Nat) (caps : List Nat) (σ : St) : St := List.replicate k none ++ caps.map fun j => (σ[j]?).getD none
theorem compSt_at {k : Nat} {caps : List Nat} {σ : St} {i : Nat} {v : V} (h : (compSt k caps σ)[i]? = some (some v)) : ∃ j, k ≤ i ∧ caps[i - k]? = some j ∧ σ[j]? = some (some v) := by
  unfold compSt at h
  by_cases hi : i < k
  · rw [List.getElem?_append_left (by simpa using hi), List.getElem?_replicate, if_pos hi] at h
    cases h
  · rw [List.getElem?_append_right (by simpa using hi), List.length_replicate, List.getElem?_map] at h
    cases e : caps[i - k]? with
    | none => rw [e] at h; cases h
    | some j =>
      rw [e] at h
      have h' : (σ[j]?).getD none = some v := Option.some.inj h
      refine ⟨j, by omega, rfl, ?_⟩
      cases q : σ[j]? with
      | none => rw [q] at h'; cases h'
      | some o => rw [q] at h'; exact congrArg some h'
theorem relabel_look {scope : Scope} {env : Env} {x : Str} {k' : NameKind} (h : (relabel scope env).names.lookup x = some k') : ∃ k, (x, k) ∈ scope.names ∧ (k' = k ∨ (k = .free ∧ k' = .cell)) := by
  have hm := PySem.mem_of_lookup h
  have hm' : (x, k') ∈ scope.names.map (fun (n, k) => if (k == NameKind.free && env.scope.kind == .function && env.kindOf n == some .cell) then (n, NameKind.cell) else (n, k)) := hm
  obtain ⟨⟨n, k⟩, h1, h2⟩ := List.mem_map.mp hm'
  dsimp only at h2
  by_cases hc : (k == NameKind.free && env.scope.kind == .function && env.kindOf n == some .cell) = true
  · rw [if_pos hc] at h2
    cases h2
    simp only [Bool.and_eq_true, beq_iff_eq] at hc
    exact ⟨k, h1, .inr ⟨hc.1.1, rfl⟩⟩
  · rw [if_neg hc] at h2
    cases h2
    exact ⟨k', h1, .inl rfl⟩
theorem map_free {f : Str × NameKind → Str × NameKind} (hf : ∀ n k, f (n, k) = (n, k) ∨ (k = .free ∧ f (n, k) = (n, NameKind.cell))) : ∀ {names : List (Str × NameKind)} {x : Str}, names.lookup x = some .free → (names.map f).lookup x = some .cell ∨ (names.map f).lookup x = some .free
  | [], _, h => by simp at h
  | (n, k) :: r, x, h => by
    have ih := @map_free f hf r x
    rw [List.lookup_cons] at h
    rw [List.map_cons]
    cases hx : x == n with
    | true =>
      rw [hx] at h
      cases h
      rcases hf n .free with e | ⟨_, e⟩
      · right; rw [e, List.lookup_cons, hx]
      · left; rw [e, List.lookup_cons, hx]
    | false =>
      rw [hx] at h
      have h' := ih h
      rcases hf n k with e | ⟨_, e⟩
      · rw [e, List.lookup_cons, hx]; exact h'
      · rw [e, List.lookup_cons, hx]; exact h'
theorem relabel_free {scope : Scope} {env : Env} {x : Str} (h : scope.names.lookup x = some .free) : (relabel scope env).names.lookup x = some .cell ∨ (relabel scope env).names.lookup x = some .free := by
  refine map_free (fun n k => ?_) h
  by_cases hc : (k == NameKind.free && env.scope.kind == .function && env.kindOf n == some .cell) = true
  · right
    refine ⟨?_, if_pos hc⟩
    simp only [Bool.and_eq_true, beq_iff_eq] at hc
    exact hc.1.1
  · left; exact if_neg hc
theorem nodup_key {names : List (Str × NameKind)} (h : (names.map (·.1)).Nodup) {x : Str} {k k' : NameKind} (h1 : (x, k) ∈ names) (h2 : (x, k') ∈ names) : k = k' := by
  induction names with
  | nil => simp at h1
  | cons p r ih =>
    rw [List.map_cons] at h
    obtain ⟨ha, hb⟩ := List.nodup_cons.mp h
    rcases List.mem_cons.mp h1 with e1 | h1 <;> rcases List.mem_cons.mp h2 with e2 | h2
    · rw [← e1] at e2; exact (Prod.mk.inj e2).2.symm
    · exact absurd (List.mem_map.mpr ⟨_, h2, by rw [← e1]⟩) ha
    · exact absurd (List.mem_map.mpr ⟨_, h1, by rw [← e2]⟩) ha
    · exact ih hb h1 h2
theorem Un.but {fs ex : List Addr} {H H' : Hp} {h h1 h2 : Heap} {C : Addr} (u : Un fs ex H H' h h1) (hs : Heap.SameBut C h1 h2) (hC : h.objs.size ≤ C) : Un fs ex H H' h h2 := by
  have ne : ∀ b o, h.get? b = some o → b ≠ C := fun b o e => Nat.ne_of_lt (Nat.lt_of_lt_of_le (Heap.lt_size e) hC)
  refine ⟨fun b o e n hb hx => (hs.2 b (ne b o e)).trans (u.keep b o e n hb hx), fun b o e n hb hx => ?_, u.free, fun b o e hx => ?_, u.tups, u.frzs, u.tbls⟩
  · obtain ⟨sl, q⟩ := u.slot b o e n hb hx
    exact ⟨sl, (hs.2 b (ne b o e)).trans q⟩
  · obtain ⟨o', q⟩ := u.there b o e hx
    exact ⟨o', (hs.2 b (ne b o e)).trans q⟩
theorem HOk.but {P : Program} {w : World} {H : Hp} {h1 h2 : Heap} {C : Addr} (x : HOk P w H h1) (hs : Heap.SameBut C h1 h2) (hn : H C = none) : HOk P w H h2 := fun b u e => by
  refine (x b u e).stay (fun c v hc q => (hs.2 c ?_).trans q) (fun _ q => q) fun _ _ q => q
  rintro rfl
  rcases hc with rfl | hc
  · rw [hn] at e; cases e
  · rw [hn] at hc; cases hc
section
variable {X : Cx} {scope : Scope} {N : List Str} {k : Nat} {caps : List Nat} {psc : Scope} {PN : List Str} {pins : List (Addr × Obj)} {σ : St} {H : Hp} {s : Shared}
abbrev cellsC (X : Cx) (scope : Scope) (C : Addr) : List (Str × Addr) := cellsFrom (C + 1) scope.names (closOf X.env scope.names [])
theorem cellsC_split {C : Addr} (I : Inv X pins σ H s) (S : CompScope X.env.scope X.N scope N k caps) {x : Str} {c : Addr} (h : (x, c) ∈ cellsC X scope C) :
    (x, c) ∈ cellsFrom (C + 1) scope.names [] ∨ X.env.cells.lookup x = some c := by
  unfold cellsC at h
  rw [cellsFrom_app] at h
  rcases List.mem_append.mp h with h | h
  · exact .inl h
  · rcases closOf_mem h with h | ⟨h, e⟩
    · simp at h
    · obtain ⟨c', hc⟩ := I.ok.has x (S.free _ h rfl)
      rw [hc] at e
      exact .inr (by rw [hc]; exact congrArg some e.symm)
theorem comp_start {fp : List Addr} (I : Inv X pins σ H s) (S : CompScope X.env.scope X.N scope N k caps) (hf : ∀ b ∈ fp, FpOk X pins H b) (hfo : ∀ b ∈ fp, ∃ o, s.heap.get? b = some o) {D C : Nat} {h1 : Heap} {t' : Nat} (hD : D = s.heap.objs.size) (hC : C = D + 1)
    (hh : h1 = pushCells ((s.heap.push { cls := .type "list", data := .seq #[] }).push { cls := .type "dict", data := .dict #[] }) scope.names) :
    Inv (cxComp X N scope (cellsC X scope C) C s H fp) [] (compSt k caps σ) (upd H D (.lst [])) { s with heap := h1, toks := t' } := by
  have hsz1 : (s.heap.push { cls := .type "list", data := .seq #[] }).objs.size = C := by rw [Heap.size_push, hC, hD]
  have hsz2 : ((s.heap.push { cls := .type "list", data := .seq #[] }).push { cls := .type "dict", data := .dict #[] }).objs.size = C + 1 := by rw [Heap.size_push, hsz1]
  have old : ∀ b o, s.heap.get? b = some o → h1.get? b = some o := fun b o e => by
    rw [hh]; exact pushCells_keeps _ _ b o (Heap.get?_push_of_some _ (Heap.get?_push_of_some _ e))
  have hacc : h1.get? D = some { cls := .type "list", data := .seq #[] } := by
    rw [hh, hD]; exact pushCells_keeps _ _ _ _ (Heap.get?_push_of_some _ (Heap.get?_push_size _ rfl))
  have hns : h1.Ns C (fun _ => none) := by
    rw [hh, ← hsz1]
    exact (Heap.Ns.new _ (.type "dict")).keeps (pushCells_keeps _ _)
  have ok := cellsFrom_ok scope.names ((s.heap.push { cls := .type "list", data := .seq #[] }).push { cls := .type "dict", data := .dict #[] }) (C + 1) [] ⟨fun _ _ hm => (nomatch hm), List.Pairwise.nil⟩ (by rw [hsz2]; exact Nat.le_refl _)
  rw [hsz2] at ok
  have own : ∀ x c, (x, c) ∈ cellsFrom (C + 1) scope.names [] → h1.IsCell c none ∧ C + 1 ≤ c := fun x c h => by rw [hh]; exact ok.empty x c h
  have par : ∀ x c, X.env.cells.lookup x = some c → c < D := fun x c e => by
    obtain ⟨v, q⟩ := I.cell x c e
    rw [hD]; exact q.lt
  have fpD : ∀ b ∈ fp, b < D := fun b hb => by
    obtain ⟨o, e⟩ := hfo b hb
    rw [hD]; exact Heap.lt_size e
  have hCfree : H C = none := I.hok.fresh (by rw [hC, hD]; exact Nat.le_succ _)
  have split := fun x c (h : (cellsC X scope C).lookup x = some c) => cellsC_split (C := C) I S (PySem.mem_of_lookup h)
  have updn : ∀ b, b ≠ D → H b = none → (upd H D (.lst [])) b = none := fun b hb e => by rw [upd_ne hb]; exact e
  have capt : ∀ x, scope.names.lookup x = some .free → ∃ c, X.env.cells.lookup x = some c ∧ (cellsC X scope C).lookup x = some c := fun x hx => by
    have hm := PySem.mem_of_lookup hx
    obtain ⟨c0, h0⟩ := closOf_has (env := X.env) (acc := []) hm
    obtain ⟨c, hc⟩ := look_of_mem (l := cellsC X scope C) (x := x) (c := c0) (by unfold cellsC; rw [cellsFrom_app]; exact List.mem_append_right _ h0)
    refine ⟨c, ?_, hc⟩
    rcases split x c hc with q | q
    · rcases cellsFrom_cell q with z | z
      · simp at z
      · have := nodup_key S.ndn hm z; cases this
    · exact q
  have okX : (cxComp X N scope (cellsC X scope C) C s H fp).Ok := by
    refine ⟨I.ok.mod, S.kind, I.ok.glob, I.ok.blt, ?above, ?inj, ?has, ?cab, I.ok.hd, I.ok.frames, .inl rfl, ?exf, fun b o e => I.bs b o e, Nat.le_trans I.ok.bsz I.sz, ?noex, ?exfs, I.stack, I.stkFree⟩
    case above =>
      show s.heap.objs.size ≤ C
      rw [hC, hD]; exact Nat.le_succ _
    case inj =>
      intro x y c e1 e2
      rcases split x c e1 with q1 | q1 <;> rcases split y c e2 with q2 | q2
      · exact name_of_addr ok.apart q1 q2
      · have h1 : @LE.le Nat _ (C + 1) c := (own x c q1).2
        have h2 : @LT.lt Nat _ c D := par y c q2
        exfalso; omega
      · have h1 : @LE.le Nat _ (C + 1) c := (own y c q2).2
        have h2 : @LT.lt Nat _ c D := par x c q1
        exfalso; omega
      · exact I.ok.inj x y c q1 q2
    case has =>
      intro x hx
      have hx' : (relabel scope X.env).names.lookup x = some .cell ∨ (relabel scope X.env).names.lookup x = some .free := hx
      have hk : ∃ k', (x, k') ∈ scope.names ∧ (k' = .cell ∨ k' = .free) := by
        rcases hx' with q | q
        · obtain ⟨k', h1, h2⟩ := relabel_look q
          rcases h2 with h2 | ⟨h2, _⟩
          · exact ⟨k', h1, .inl h2.symm⟩
          · exact ⟨k', h1, .inr h2⟩
        · obtain ⟨k', h1, h2⟩ := relabel_look q
          rcases h2 with h2 | ⟨_, h2⟩
          · exact ⟨k', h1, .inr h2.symm⟩
          · cases h2
      obtain ⟨k', hm, hk | hk⟩ := hk
      · subst hk
        have q := PySem.W.cellsFrom_some scope.names (C + 1) (closOf X.env scope.names []) (x := x) (.inl (by
          obtain ⟨k2, hk2⟩ := look_of_mem hm
          rw [hk2, nodup_key S.ndn (PySem.mem_of_lookup hk2) hm]))
        exact Option.isSome_iff_exists.mp q
      · subst hk
        obtain ⟨c0, h0⟩ := closOf_has (env := X.env) (acc := []) hm
        exact look_of_mem (c := c0) (by show (x, c0) ∈ cellsC X scope C; unfold cellsC; rw [cellsFrom_app]; exact List.mem_append_right _ h0)
    case cab =>
      intro x c hx e
      have hx' : decide (scope.names.lookup x ≠ some .free) = true := hx
      have hx2 := of_decide_eq_true hx'
      show s.heap.objs.size ≤ c
      have e' : (cellsC X scope C).lookup x = some c := e
      have hm := PySem.mem_of_lookup e'
      unfold cellsC at hm
      rw [cellsFrom_app] at hm
      rcases List.mem_append.mp hm with z | z
      · have h1 : @LE.le Nat _ (C + 1) c := (own x c z).2
        have h2 : @LE.le Nat _ s.heap.objs.size c := by omega
        exact h2
      · rcases closOf_mem z with z | ⟨z, _⟩
        · simp at z
        · obtain ⟨k2, hk2⟩ := look_of_mem z
          exact absurd (by rw [hk2, nodup_key S.ndn (PySem.mem_of_lookup hk2) z]) hx2
    case exf =>
      intro b hb
      refine ⟨?_, fun x c e z => ?_⟩
      · have h1 : @LT.lt Nat _ b D := fpD b hb
        exact Nat.ne_of_lt (show @LT.lt Nat _ b C by omega)
      · rcases split x c e with q | q
        · have h1 : @LE.le Nat _ (C + 1) c := (own x c q).2
          have h2 : @LT.lt Nat _ b D := fpD b hb
          have z' : @Eq Nat c b := z
          omega
        · exact (hf b hb).2.2.2.2.1 x c q z
    case noex =>
      intro b o e hb
      rcases (hf b hb).2.2.2.1 with q | q
      · exact I.ok.noex b o e q
      · exact absurd (Nat.lt_of_lt_of_le (Heap.lt_size e) (Nat.le_trans I.ok.bsz q)) (Nat.lt_irrefl _)
    case exfs =>
      intro b hb z
      have z' : b ∈ frs X.stack := z
      rcases List.mem_cons.mp (I.stkSub b z') with q | q
      · exact (hf b hb).2.1 q
      · exact (hf b hb).2.2.1 q
  refine ⟨okX, rfl, I.bare, Un.laid old (by rw [hD]; exact Nat.le_refl _) (I.hok.fresh (by rw [hD]; exact Nat.le_refl _)), ⟨_, hns, ?loc⟩, ?cell, updn _ (show @Ne Nat C D by omega) hCfree, ?freeC, fun p hp => absurd hp (by simp), ?hok, ?len⟩
  case loc =>
    intro i x v e1 e2 e3
    obtain ⟨j, hi, hj, hv⟩ := compSt_at e2
    have hz : (x, j) ∈ (N.drop k).zip caps := by
      refine List.mem_iff_getElem?.mpr ⟨i - k, ?_⟩
      rw [List.getElem?_zip_eq_some]
      refine ⟨?_, hj⟩
      rw [List.getElem?_drop, show k + (i - k) = i by omega]
      exact e1
    obtain ⟨hp, hfr⟩ := S.cap (x, j) hz
    have hk := S.free (x, .free) (PySem.mem_of_lookup hfr) rfl
    obtain ⟨m, hn, hl⟩ := I.loc
    obtain ⟨u, r, l⟩ := hl j x v hp hv (by rcases hk with q | q; exact .inr (.inl q); exact .inr (.inr q))
    refine ⟨u, r, ?_⟩
    obtain ⟨c, hc1, hc2⟩ := capt x hfr
    have hcell : s.heap.IsCell c (some u) := by
      rcases l with ⟨q, _⟩ | ⟨_, c', q1, q2⟩
      · have q' : X.env.scope.names.lookup x = some .local := q
        rcases hk with z | z
        · rw [q'] at z; cases z
        · rw [q'] at z; cases z
      · rw [hc1] at q1; cases q1; exact q2
    exact .inr ⟨relabel_free hfr, c, hc2, hcell.keeps old⟩
  case cell =>
    intro x c e
    rcases split x c e with q | q
    · exact ⟨_, (own x c q).1⟩
    · obtain ⟨v, z⟩ := I.cell x c q
      exact ⟨v, z.keeps old⟩
  case freeC =>
    intro x c e
    rcases split x c e with q | q
    · have h1 : @LE.le Nat _ (C + 1) c := (own x c q).2
      have h2 : @LE.le Nat _ s.heap.objs.size c := by omega
      exact updn c (show @Ne Nat c D by omega) (I.hok.fresh h2)
    · exact updn c (Nat.ne_of_lt (par x c q)) (I.freeC x c q)
  case hok =>
    exact I.hok.laid old (by rw [hD]; exact Nat.le_refl _) ⟨Nat.zero_le _, [], 0, .nil, hacc⟩
  case len =>
    show (compSt k caps σ).length = N.length
    unfold compSt
    rw [List.length_append, List.length_replicate, List.length_map, S.len]
theorem comp_again {fp : List Addr} (I : Inv X pins σ H s) (S : CompScope X.env.scope X.N scope N k caps) {C : Addr} {pins' : List (Addr × Obj)} {σ' : St} {H' : Hp} {s' : Shared} (hfc : ∀ x c, X.env.cells.lookup x = some c → c ∉ fp) (hD : s.heap.objs.size ≤ C)
    (J : Inv (cxComp X N scope (cellsC X scope C) C s H fp) pins' σ' H' s') : Inv (cxComp X N scope (cellsC X scope C) C s H fp) pins' (compSt k caps σ) H' s' := by
  obtain ⟨m, hn, _⟩ := id J.loc
  refine ⟨J.ok, J.os, J.bare, J.base, ⟨m, hn, fun i x v e1 e2 e3 => ?_⟩, J.cell, J.free, J.freeC, J.pin, J.hok, ?_⟩
  · obtain ⟨j, hi, hj, hv⟩ := compSt_at e2
    have hz : (x, j) ∈ (N.drop k).zip caps := by
      refine List.mem_iff_getElem?.mpr ⟨i - k, ?_⟩
      rw [List.getElem?_zip_eq_some]
      refine ⟨?_, hj⟩
      rw [List.getElem?_drop, show k + (i - k) = i by omega]
      exact e1
    obtain ⟨hp, hfr⟩ := S.cap (x, j) hz
    have hk := S.free (x, .free) (PySem.mem_of_lookup hfr) rfl
    obtain ⟨m2, hn2, hl⟩ := I.loc
    obtain ⟨u, r, l⟩ := hl j x v hp hv (by rcases hk with q | q; exact .inr (.inl q); exact .inr (.inr q))
    refine ⟨u, r, ?_⟩
    have hcell : ∃ c, X.env.cells.lookup x = some c ∧ s.heap.IsCell c (some u) := by
      rcases l with ⟨q, _⟩ | ⟨_, c', q1, q2⟩
      · have q' : X.env.scope.names.lookup x = some .local := q
        rcases hk with z | z
        · rw [q'] at z; cases z
        · rw [q'] at z; cases z
      · exact ⟨c', q1, q2⟩
    obtain ⟨c, hc1, o, ho, hd⟩ := hcell
    have hc2 : (cellsC X scope C).lookup x = some c := by
      have hm := PySem.mem_of_lookup hfr
      obtain ⟨c0, h0⟩ := closOf_has (env := X.env) (acc := []) hm
      obtain ⟨c', hc'⟩ := look_of_mem (l := cellsC X scope C) (x := x) (c := c0) (by unfold cellsC; rw [cellsFrom_app]; exact List.mem_append_right _ h0)
      rcases cellsC_split (C := C) I S (PySem.mem_of_lookup hc') with q | q
      · rcases cellsFrom_cell q with z | z
        · simp at z
        · have := nodup_key S.ndn hm z; cases this
      · rw [hc1] at q; cases q; exact hc'
    obtain ⟨sl, q⟩ := J.base.any ho (I.freeC x c hc1) (hfc x c hc1)
    exact .inr ⟨relabel_free hfr, c, hc2, _, q, hd⟩
  · show (compSt k caps σ).length = N.length
    unfold compSt
    rw [List.length_append, List.length_replicate, List.length_map, S.len]
end
def PF (X : Cx) (ifs : List Expr) (t : TT) : Prop :=
  ∀ (pins : List (Addr × Obj)) (s : Shared) (σ : St) (H : Hp) (Q : Bool → Hp → Prop), Inv X pins σ H s → t σ H Q →
    wpAny (model X.prog X.w) X.A (forIn ifs true fun c r => if r = true then do let ok ← isTrue c X.env (eval c X.env); pure (ForInStep.yield ok) else pure (ForInStep.yield r)) (TP X pins σ Q) X.xe s
def tYes : TT := fun _ H Q => Q true H
theorem pf_nil {X : Cx} : PF X [] tYes := fun _ _ _ H _ I h => wpAny_tests_nil ⟨H, I, h⟩
theorem comp_loop {prog : Program} {w : World} {A : Around} {R : Result → Shared → Prop} {s : Shared} {elt target iter : Expr} {ifs : List Expr} {scope : Scope} {pos : Pos} {it acc : Value} {env : Env} (I : Nat → Shared → Prop)
    (turn : ∀ n s, I n s → wpAny (model prog w) A (pyNext it) (fun r s₁ => match r with
      | none => R (.ok .next) s₁
      | some v => wpAny (model prog w) A (letOwnedTupleGo target it v) (fun _ s₁ => wpAny (model prog w) A (assign target env v) (fun _ s₂ =>
          wpAny (model prog w) A (forIn ifs true fun c r => if r = true then do let ok ← isTrue c env (eval c env); pure (ForInStep.yield ok) else pure (ForInStep.yield r)) (fun ok s₃ =>
            if ok = true then wpAny (model prog w) A (eval elt env) (fun x s₄ =>
              wpAny (model prog w) A (call (.builtin "list.append") [acc, x]) (fun _ s₅ => ∃ m, m < n ∧ I m s₅) (fun _ _ => False) s₄) (fun _ _ => False) s₃
            else ∃ m, m < n ∧ I m s₃) (fun _ _ => False) s₂) (fun _ _ => False) s₁) (fun _ _ => False) s₁) (fun _ _ => False) s)
    (n : Nat) (h : I n s) :
    codeAny (model prog w) A (.compLoop (.ListComp elt [⟨target, iter, ifs, 0⟩] scope pos) 0 it acc env) R s := by
  refine codeAny_loop rfl I (fun n s hI => ?_) n h
  show wpAny _ A ((compTurn (.ListComp elt [⟨target, iter, ifs, 0⟩] scope pos) 0 it acc env).onRaise (fun x => do noteFrame x env; theTreesLotGoes x)) _ _ s
  refine wpAny_noted ?_
  rw [compTurn_list]
  refine wpAny_bind (wpAny_standAt (wpAny_bind (wpAny_mono (turn n s hI) (fun r s₁ h₁ => ?_) fun _ _ h' => h'.elim)))
  cases r with
  | none => exact wpAny_pure h₁
  | some v =>
    refine wpAny_bind (wpAny_mono h₁ (fun _ s₁ h₁ => ?_) fun _ _ h' => h'.elim)
    refine wpAny_bind (wpAny_mono h₁ (fun _ s₂ h₂ => wpAny_bind (wpAny_mono h₂ (fun ok s₃ h₃ => ?_) fun _ _ h' => h'.elim)) fun _ _ h' => h'.elim)
    cases ok with
    | false => exact wpAny_pure ⟨rfl, h₃⟩
    | true =>
      exact wpAny_bind (wpAny_bind (wpAny_mono h₃ (fun x s₄ h₄ => wpAny_bind (wpAny_mono h₄ (fun _ s₅ h₅ => wpAny_pure (wpAny_pure ⟨rfl, h₅⟩)) fun _ _ h' => h'.elim)) fun _ _ h' => h'.elim))
def tComp (k : Nat) (caps : List Nat) (wi : TI) (g : TG) (tc : TT) (te : TE) : TE := fun σ H Q => wi σ H fun J H1 => ∀ D, H1 D = none → ∃ W : Nat → Nat → List V → Hp → Prop, (∃ m, W 0 m [] (upd H1 D (.lst []))) ∧ ∀ i m ys H2, W i m ys H2 →
  (J.stop i H2 ∧ Q (.ref D) H2) ∨ (J.go i H2 ∧ ∀ x H3, J.yld i H2 x H3 → g x (compSt k caps σ) H3 fun σ4 H4 => tc σ4 H4 fun b H5 =>
    if b = true then te σ4 H5 fun y H6 => H6 D = some (.lst ys) ∧ ys.length < sizeLine ∧ ∃ m', m' < m ∧ W (i + 1) m' (ys ++ [y]) (upd H6 D (.lst (ys ++ [y]))) else ∃ m', m' < m ∧ W (i + 1) m' ys H5)
theorem comp_block {X : Cx} {elt iter tg : Expr} {ifs : List Expr} {scope : Scope} {pos : Pos} {N : List Str} {k : Nat} {caps : List Nat} {g : TG} {tc : TT} {te : TE} {pins : List (Addr × Obj)} {σ : St} {H : Hp} {s : Shared} {E : Value → Shared → Prop} {Q : VK}
    {it : Addr} {fp : List Addr} {tn : Nat → Heap → Prop} {J : It} {RR : Value → Addr → Result → Shared → Prop} (hc : X.calm = true) (S : CompScope X.env.scope X.N scope N k caps) (I : Inv X pins σ H s)
    (T : Turn X.prog X.w X.K tg J fp it tn) (st : tn 0 s.heap) (hf : ∀ b ∈ fp, FpOk X pins H b)
    (hg : ∀ cs C s H ex, PG (cxComp X N scope cs C s H ex) tg g) (ht : ∀ cs C s H ex, PF (cxComp X N scope cs C s H ex) ifs tc) (he : ∀ cs C s H ex, PE (cxComp X N scope cs C s H ex) elt te)
    (q : ∀ D, H D = none → ∃ W : Nat → Nat → List V → Hp → Prop, (∃ m, W 0 m [] (upd H D (.lst []))) ∧ ∀ i m ys H2, W i m ys H2 →
      (J.stop i H2 ∧ Q (.ref D) H2) ∨ (J.go i H2 ∧ ∀ x H3, J.yld i H2 x H3 → g x (compSt k caps σ) H3 fun σ4 H4 => tc σ4 H4 fun b H5 =>
        if b = true then te σ4 H5 fun y H6 => H6 D = some (.lst ys) ∧ ys.length < sizeLine ∧ ∃ m', m' < m ∧ W (i + 1) m' (ys ++ [y]) (upd H6 D (.lst (ys ++ [y]))) else ∃ m', m' < m ∧ W (i + 1) m' ys H5))
    (hRR : ∀ D C H' s' m, C ≠ X.env.locals → (∀ x c, X.env.cells.lookup x = some c → c ≠ C) → s'.heap.Ns C m → (∀ h', Heap.SameBut C s'.heap h' → Inv X pins σ H' { s' with heap := h' }) → H' C = none → s.heap.objs.size ≤ C → Q (.ref D) H' → RR (.ref D) C (.ok .next) s') :
    wpAny (model X.prog X.w) X.A (newList []) (fun acc s₃ => wpAny (model X.prog X.w) X.A (newFunctionEnv scope X.env.globals (closOf X.env scope.names []) [] X.env.qual none .none (some X.env)) (fun cenv s₄ =>
      codeAny (model X.prog X.w) X.A (.compStart (.ListComp elt [⟨tg, iter, ifs, 0⟩] scope pos) 0 (.ref it) acc { cenv with scope := relabel scope X.env }) (RR acc cenv.locals) s₄) E s₃) E s := by
  refine wpAny_newObj_type (nfe_comp ?_)
  generalize hD : s.heap.objs.size = D
  have hsz1 : (s.heap.push { cls := .type "list", dict := none, data := .seq ([] : List Value).toArray }).objs.size = D + 1 := by rw [Heap.size_push, hD]
  dsimp only
  rw [hsz1]
  have hfo : ∀ b ∈ fp, ∃ o, s.heap.get? b = some o := fun b hb => let ⟨o, e, _⟩ := T.obj 0 _ st b hb; ⟨o, e⟩
  have hHD : H D = none := I.hok.fresh (by rw [hD]; exact Nat.le_refl _)
  have J0 := comp_start (t' := s.toks) I S hf hfo (D := D) (C := D + 1) hD.symm rfl rfl
  have hfc : ∀ x c, X.env.cells.lookup x = some c → c ∉ fp := fun x c e hb => (hf c hb).2.2.2.2.1 x c e rfl
  have fpo : ∀ {pins' : List (Addr × Obj)} {H' : Hp}, (∀ b ∈ fp, H' b = none) → pins' = [] → ∀ b ∈ fp, FpOk (cxComp X N scope (cellsC X scope (D + 1)) (D + 1) s H fp) pins' H' b := fun {pins' H'} hn hp b hb => by
    obtain ⟨o, e⟩ := hfo b hb
    have hlt : @LT.lt Nat _ b D := by rw [← hD]; exact Heap.lt_size e
    subst hp
    refine ⟨hn b hb, ?_, fun z => ?_, .inl hb, fun x c e => (J0.ok.exf b hb).2 x c e, fun p hp => absurd hp (by simp)⟩
    · show @Ne Nat b (D + 1)
      omega
    · have z' : b ∈ frs X.stack := z
      rcases List.mem_cons.mp (I.stkSub b z') with w | w
      · exact (hf b hb).2.1 w
      · exact (hf b hb).2.2.1 w
  obtain ⟨W, ⟨m0, w0⟩, turn⟩ := q D hHD
  have st1 : tn 0 (pushCells ((s.heap.push { cls := .type "list", data := .seq #[] }).push { cls := .type "dict", data := .dict #[] }) scope.names) := T.keep 0 _ _ st fun b hb o e => pushCells_keeps _ _ b o (Heap.get?_push_of_some _ (Heap.get?_push_of_some _ e))
  have fr0 : ∀ b ∈ fp, (upd H D (.lst [])) b = none := fun b hb => by
    obtain ⟨o, e⟩ := hfo b hb
    have hlt : @LT.lt Nat _ b D := by rw [← hD]; exact Heap.lt_size e
    rw [upd_ne (show @Ne Nat b D by omega)]
    exact (hf b hb).1
  have fin : ∀ {H' : Hp} {s' : Shared} {σ' : St} {pins' : List (Addr × Obj)}, Inv (cxComp X N scope (cellsC X scope (D + 1)) (D + 1) s H fp) pins' σ' H' s' → Q (.ref D) H' → RR (.ref D) (D + 1) (.ok .next) s' := fun {H' s' σ' pins'} J q => by
    obtain ⟨m, hn, _⟩ := id J.loc
    refine hRR D (D + 1) H' s' m (fun z => ?_) (fun x c e z => ?_) hn (fun h' hs => ?_) J.free (by rw [hD]; exact Nat.le_succ _) q
    · have h1 : @LT.lt Nat _ X.env.locals D := by rw [← hD]; exact I.lt
      have z' : @Eq Nat (D + 1) X.env.locals := z
      omega
    · obtain ⟨v, y⟩ := I.cell x c e
      have h1 : @LT.lt Nat _ c D := by rw [← hD]; exact y.lt
      have z' : @Eq Nat c (D + 1) := z
      omega
    · refine I.call' (ch := fp) J.os (J.base.but hs (by rw [hD]; exact Nat.le_succ _)) (J.hok.but hs J.free) J.bare fun b hb => ?_
      exact ⟨(hf b hb).2.2.2.1, (hf b hb).2.1, (hf b hb).2.2.2.2.1, (hf b hb).2.2.2.2.2⟩
  have loop : codeAny (model X.prog X.w) X.A (.compLoop (.ListComp elt [⟨tg, iter, ifs, 0⟩] scope pos) 0 (.ref it) (.ref D) (compEnvC scope (cellsC X scope (D + 1)) (D + 1) X.env)) (RR (.ref D) (D + 1))
      { s with heap := pushCells ((s.heap.push { cls := .type "list", data := .seq #[] }).push { cls := .type "dict", data := .dict #[] }) scope.names } := by
    refine comp_loop (fun n s' => ∃ i ys H', Inv (cxComp X N scope (cellsC X scope (D + 1)) (D + 1) s H fp) [] (compSt k caps σ) H' s' ∧ tn i s'.heap ∧ (∀ b ∈ fp, H' b = none) ∧ W i n ys H') ?_ m0 ⟨0, [], _, J0, st1, fr0, w0⟩
    rintro n s3 ⟨i, ys, H3, I3, st3, fr3, w3⟩
    rcases turn i n ys H3 w3 with ⟨stop, qn⟩ | ⟨go, step⟩
    · refine thn (T.done (cxComp X N scope (cellsC X scope (D + 1)) (D + 1) s H fp) rfl rfl rfl hc i [] s3 _ H3 _ I3 (fpo fr3 rfl) st3 stop) fun r s4 ⟨hr, I4⟩ => ?_
      subst hr
      exact fin I4 qn
    · refine thn (T.item (cxComp X N scope (cellsC X scope (D + 1)) (D + 1) s H fp) rfl rfl rfl hc i [] s3 _ H3 _ I3 (fpo fr3 rfl) st3 go) fun r s4 ⟨u, hr, h4⟩ => ?_
      subst hr
      refine thn h4 fun _ s5 ⟨x, H5, I5, r5, y5, st5, fr5⟩ => ?_
      have I5' := I5.pinned (fpo fr5 rfl) (T.obj _ _ st5)
      have again : ∀ {σ7 : St} {H7 : Hp} {s7 : Shared} {m' : Nat} {zs : List V}, Inv (cxComp X N scope (cellsC X scope (D + 1)) (D + 1) s H fp) ([] ++ pinsAt fp s5.heap) σ7 H7 s7 → m' < n → W (i + 1) m' zs H7 →
          ∃ m, m < n ∧ ∃ i ys H', Inv (cxComp X N scope (cellsC X scope (D + 1)) (D + 1) s H fp) [] (compSt k caps σ) H' s7 ∧ tn i s7.heap ∧ (∀ b ∈ fp, H' b = none) ∧ W i m ys H' := fun {σ7 H7 s7 m' zs} I7 hm w7 => by
        refine ⟨m', hm, i + 1, zs, H7, comp_again I S hfc (by rw [hD]; exact Nat.le_succ _) I7.unpinned, T.keep _ _ _ st5 fun b hb o e => (I7.pin (b, o) (List.mem_append_right _ (List.mem_append_right _ (mem_pinsAt hb e)))).1, fun b hb => ?_, w7⟩
        obtain ⟨o, e, d⟩ := T.obj _ _ st5 b hb
        exact (I7.pin (b, o) (List.mem_append_right _ (List.mem_append_right _ (mem_pinsAt hb e)))).2.1
      refine thn (hg _ _ _ _ _ _ s5 _ H5 x u _ I5' r5 (step x H5 y5)) fun _ s6 ⟨σ6, H6, I6, q6⟩ => ?_
      refine thn (ht _ _ _ _ _ _ s6 σ6 H6 _ I6 q6) fun b s7 ⟨H7, I7, q7⟩ => ?_
      cases b with
      | false =>
        rw [if_neg Bool.false_ne_true] at q7 ⊢
        obtain ⟨m', hm, w7⟩ := q7
        exact again I7 hm w7
      | true =>
        rw [if_pos rfl] at q7 ⊢
        refine thn (he _ _ _ _ _ _ s7 σ6 H7 _ I7 q7) fun y s8 ⟨yv, H8, I8, r8, hD8, hz8, m', hm, w8⟩ => ?_
        refine thn (mt_append (X := cxComp X N scope (cellsC X scope (D + 1)) (D + 1) s H fp) _ s8 σ6 H8 (.ref D) [yv] (.ref D) [y] (fun _ H9 => W (i + 1) m' (ys ++ [yv]) H9) I8 rfl (.cons r8 .nil) ⟨D, ys, yv, rfl, rfl, hD8, hz8, w8⟩) fun _ s9 ⟨_, H9, I9, _, w9⟩ => ?_
        exact again I9 hm w9
  exact codeAny_compStart_list loop (T.self _ 0 _ _ _ st1 loop)
theorem pe_comp {X : Cx} {elt iter tg : Expr} {ifs : List Expr} {scope : Scope} {pos : Pos} {N : List Str} {k : Nat} {caps : List Nat} {wi : TI} {g : TG} {tc : TT} {te : TE} (hc : X.calm = true) (S : CompScope X.env.scope X.N scope N k caps) (hi : PI X tg iter wi)
    (hg : ∀ cs C s H ex, PG (cxComp X N scope cs C s H ex) tg g) (ht : ∀ cs C s H ex, PF (cxComp X N scope cs C s H ex) ifs tc) (he : ∀ cs C s H ex, PE (cxComp X N scope cs C s H ex) elt te)
    (hs : ∀ x, foldedSetIterable iter X.env x = pure x := by intro _; rfl) : PE X (.ListComp elt [⟨tg, iter, ifs, 0⟩] scope pos) (tComp k caps wi g tc te) := by
  intro pins s σ H Q I h
  have hcl : closureFor scope X.env = pure (closOf X.env scope.names []) := closureFor_of fun x hx hfr => I.ok.has x.1 (S.free x hx hfr)
  rw [eval_ListComp]
  refine wpAny_comprehension_free (use := none) rfl hs hcl S.kind S.loc (thn (hi pins s σ H _ I h) fun v s1 h1 => thn h1 fun itv s2 h2 => ?_)
  obtain ⟨it, fp, tn, J, H2, e, I2, T, st2, f2, q⟩ := h2
  subst e
  refine comp_block (Q := Q) hc S I2 T st2 f2 hg ht he q ?_
  intro D C H' s' m _ _ hn hI _ _ hq
  exact ⟨m, hn, fun h' hs' => ⟨.ref D, H', hI h' hs', rfl, hq⟩⟩
theorem ps_setC {X : Cx} {elt iter tg : Expr} {ifs : List Expr} {scope : Scope} {pos spos : Pos} {N : List Str} {k i : Nat} {x : Str} {pos' : Pos} {caps : List Nat} {wi : TI} {g : TG} {tc : TT} {te : TE} (hN : X.N.Nodup) (hi' : X.N[i]? = some x) (hx : Loc X.env.scope x)
    (hc : X.calm = true) (S : CompScope X.env.scope X.N scope N k caps) (hi : PI X tg iter wi)
    (hg : ∀ cs C s H ex, PG (cxComp X N scope cs C s H ex) tg g) (ht : ∀ cs C s H ex, PF (cxComp X N scope cs C s H ex) ifs tc) (he : ∀ cs C s H ex, PE (cxComp X N scope cs C s H ex) elt te)
    (hsw : swapsWith (.ListComp elt [⟨tg, iter, ifs, 0⟩] scope pos) (some (.Name x pos')) spos.line X.env = pure true := by rfl)
    (hs : ∀ x, foldedSetIterable iter X.env x = pure x := by intro _; rfl) (hfn : X.fn x = true ∨ X.env.scope.names.lookup x = some .local := by first | exact .inl rfl | exact .inr rfl | assumption) :
    PS X (.Assign [.Name x pos'] (.ListComp elt [⟨tg, iter, ifs, 0⟩] scope pos) spos) (tAsg (tComp k caps wi g tc te) (gName i)) := by
  intro pins s σ H D I h
  have hcl : closureFor scope X.env = pure (closOf X.env scope.names []) := closureFor_of fun x hx hfr => I.ok.has x.1 (S.free x hx hfr)
  rw [exec_Assign_Name_used _ _ _ _ hsw]
  refine wpAny_bind (wpAny_standAt (wpAny_bind ?_))
  show wpAny _ _ (do let _ ← comprehension (.ListComp elt [⟨tg, iter, ifs, 0⟩] scope pos) scope X.env _ (newList []) false (eval iter X.env) (some (assign (.Name x pos') X.env))) _ _ s
  refine wpAny_bind (wpAny_mono (wpAny_comprehension_free (use := some (assign (.Name x pos') X.env)) (Q := fun _ s' => SP X pins D .next s') rfl hs hcl S.kind S.loc
    (thn (hi pins s σ H _ I h) fun v s1 h1 => thn h1 fun itv s2 h2 => ?_)) (fun _ s' hq => wpAny_pure (wpAny_pure hq)) fun _ _ e => e)
  obtain ⟨it, fp, tn, J, H2, e, I2, T, st2, f2, q⟩ := h2
  subst e
  refine comp_block (Q := fun x H1 => gName i x σ H1 D.nx) hc S I2 T st2 f2 hg ht he q ?_
  intro D' C H' s' m hCL hCc hn hI hHC hCs hq
  have I3 := hI s'.heap (.refl ..)
  have I3' : Inv X pins σ H' s' := I3
  refine wpAny_assign_Name (store_ok2 I3' hN hi' hx (show RelV (V.ref D') (.ref D') from rfl) (fun s'' I4 ⟨a, hsb, ha⟩ => ?_) hfn)
  have hCa : C ≠ a := by
    rcases ha with ha | ha
    · rw [ha]; exact hCL
    · exact Ne.symm (hCc x a ha)
  refine ⟨m, hn.sameBut hsb hCa, fun h' hs' => ?_⟩
  refine ⟨_, H', ?_, hq⟩
  exact I4.turned (t' := s''.toks) (fun b o hb e => (hs'.2 b hb).trans e) hHC hCL (.inr (Nat.le_trans I2.sz hCs)) hCc fun p hp z => by
    have := Heap.lt_size (I2.pin p hp).1
    rw [z] at this
    exact absurd (Nat.lt_of_lt_of_le this hCs) (Nat.lt_irrefl _)
end L2
namespace L2
open PySem PySem.Spec PyProof.Rows
def Callee (P : Program) (w : World) (K : PySem.W.Frag) (mg : Str → Option Value) (base : Heap) (x : Str) (k : Nat) (ps : List Str) (sp : Sp) : Prop :=
  ∃ f fd, FnOk P w K mg base CX0 k f fd ps sp ∧ mg x = some (.ref f) ∧ PySem.W.keepIn K (.ref f) = true ∧ Binds K fd ps []
section
variable {X : Cx} {x : Str} {k : Nat} {ps : List Str} {sp : Sp} {e : Expr} {es : List Expr} {t : TA} {p pos : Pos}
theorem pe_fn (C : Callee X.prog X.w X.K X.mg X.base x k ps sp) (hr : Room k X.A) (hg : Gl X x) (ha : PA X (e :: es) t) (hdb : (x == ("__debug__" : Str)) = false := by decide)
    (he : starEach (e :: es) X.env = (false, eval e X.env) :: starEach es X.env := by rfl) (hpl : (backTo pos (starEach es X.env)).any (·.1) = false := by rfl) : PE X (.Call (.Name x p) (e :: es) [] pos) (tCall sp [] E0 t) := by
  obtain ⟨f, fd, F, hm, hk, hb⟩ := C
  exact pe_call F hr hg hm hk hb .nil pass0 ha hdb he hpl
theorem pe_fn0 (C : Callee X.prog X.w X.K X.mg X.base x k ps sp) (hr : Room k X.A) (hg : Gl X x) (hdb : (x == ("__debug__" : Str)) = false := by decide) : PE X (.Call (.Name x p) [] [] pos) (tCall sp [] E0 tNil) := by
  obtain ⟨f, fd, F, hm, hk, hb⟩ := C
  exact pe_call0 F hr hg hm hk hb .nil pass0 hdb
end
theorem pe_ty {X : Cx} {x : Str} {pos : Pos} (n : String) (hg : Gl X x) (hm : X.mg x = none) (hv : bootBuiltins x = some (.type n)) (hn : x ≠ "__name__" := by decide) (hd : (x == ("__debug__" : Str)) = false := by decide) : PE X (.Name x pos) (tC (.ty n)) := pe_bltn (v := .ty n) hg hm hv rfl hn hd
theorem seq_cut {t u : TS} {D : Ends} {σ : L2.St} {H : Hp} (P : L2.St → Hp → Prop) (hu : ∀ σ' H', P σ' H' → u D σ' H') (ht : ∀ N : L2.St → Hp → Prop, (∀ σ' H', P σ' H' → N σ' H') → t { D with nx := N } σ H) : tSeq t u D σ H := ht (u D) hu
theorem Same.upd {H H' : Hp} {D : Addr} {o : HO} (h : Same H H') (hn : H D = none) : Same H (upd H' D o) := fun b u e => by
  rw [upd_ne (ne_of_none e hn)]; exact h b u e
theorem Same.seqT {K : PySem.W.Frag} {H H' : Hp} {a : Addr} {xs : List V} (e : Same H H') (h : SqT K H a xs) : SqT K H' a xs := by
  rcases h with (h | ⟨o, h⟩) | h
  · exact .inl (.inl (e _ _ h))
  · exact .inl (.inr ⟨o, e _ _ h⟩)
  · exact .inr h
theorem comp_str {x : Str} {k : Nat} {caps : List Nat} {g : TG} {te : TE} {σ : St} {H1 : Hp} {Q : Addr → Hp → Prop} (f : Nat → V) (hn : x.cps.size ≤ sizeLine)
    (hs : ∀ (i c : Nat) (H2 : Hp) (D : Addr) (R : VK), x.cps[i]? = some c → Same H1 H2 → H1 D = none → (∀ H3, Same H2 H3 → R (f c) H3) → g (.str ⟨#[c]⟩) (compSt k caps σ) H2 fun σ4 H4 => te σ4 H4 R)
    (hd : ∀ (H2 : Hp) (D : Addr), Same H1 H2 → H1 D = none → H2 D = some (.lst (x.cps.toList.map f)) → Q D H2) :
    ∀ D, H1 D = none → ∃ W : Nat → Nat → List V → Hp → Prop, (∃ m, W 0 m [] (upd H1 D (.lst []))) ∧ ∀ i m ys H2, W i m ys H2 →
      ((Its x).stop i H2 ∧ Q D H2) ∨ ((Its x).go i H2 ∧ ∀ y H3, (Its x).yld i H2 y H3 → g y (compSt k caps σ) H3 fun σ4 H4 => tYes σ4 H4 fun b H5 =>
        if b = true then te σ4 H5 fun y H6 => H6 D = some (.lst ys) ∧ ys.length < sizeLine ∧ ∃ m', m' < m ∧ W (i + 1) m' (ys ++ [y]) (upd H6 D (.lst (ys ++ [y]))) else ∃ m', m' < m ∧ W (i + 1) m' ys H5) := by
  intro D hD
  refine ⟨fun i m ys H2 => m = x.cps.size - i ∧ i ≤ x.cps.size ∧ ys = (x.cps.toList.take i).map f ∧ Same H1 H2 ∧ H2 D = some (.lst ys), ⟨x.cps.size, rfl, Nat.zero_le _, rfl, (Same.refl _).upd hD, upd_same⟩, ?_⟩
  rintro i m ys H2 ⟨rfl, hi, rfl, s2, e2⟩
  by_cases hlt : i < x.cps.size
  · refine .inr ⟨hlt, fun y H3 hy => ?_⟩
    obtain ⟨rfl, c, hc, rfl⟩ := hy
    have hc' : x.cps.toList[i]? = some c := by simpa using hc
    refine hs i c H3 D _ hc s2 hD fun H4 s4 => ?_
    refine ⟨s4 _ _ e2, by rw [List.length_map, List.length_take]; omega, x.cps.size - (i + 1), by omega, rfl, hlt, ?_, (s2.trans s4).upd hD, upd_same⟩
    rw [List.take_succ, hc', List.map_append]
    rfl
  · have e : i = x.cps.size := by omega
    rw [e, List.take_of_length_le (by simp)] at e2
    exact .inl ⟨e, hd H2 D s2 hD e2⟩
end L2
namespace L2
open PySem PySem.Spec PyProof.Rows
theorem lt_sing {c d : Nat} : (decide (([c] : List Nat) < [d])) = decide (c < d) := by
  by_cases h : c < d
  · rw [decide_eq_true h, decide_eq_true]
    exact List.Lex.rel h
  · rw [decide_eq_false h, decide_eq_false]
    intro q
    cases q with
    | rel q => exact h q
    | cons q => cases q
def cellAt (ns : List Int) (k : Int) : Int := (ns[k.toNat]?).getD 0
theorem seq_setC {v : V} {i : Nat} {u : TS} {D : Ends} {σ : St} {H : Hp} (h : u D (σ.set i (some v)) H) : tSeq (tAsg (tC v) (gName i)) u D σ H := h
theorem ixN_in {n : Nat} {k : Int} (h0 : 0 ≤ k) (h1 : k < n) : ixN n k = some k.toNat := by
  unfold ixN
  rw [if_pos h0, if_pos h1]
end L2
namespace L2
open PySem PySem.Spec PyProof.Rows
theorem cutV_take (xs : List V) (n : Nat) : cutV xs none (some (n : Int)) = xs.take n := by
  unfold cutV
  rw [HT.sIx_none, HT.sIx_nat, List.drop_zero, Nat.sub_zero]
  by_cases h : n ≤ xs.length
  · rw [Nat.min_eq_left h]
  · rw [Nat.min_eq_right (by omega), List.take_of_length_le (Nat.le_refl _), List.take_of_length_le (by omega)]
theorem cutV_drop (xs : List V) (n : Nat) : cutV xs (some (n : Int)) none = xs.drop n := by
  unfold cutV
  rw [HT.sIx_none, HT.sIx_nat]
  by_cases h : n ≤ xs.length
  · rw [Nat.min_eq_left h, List.take_of_length_le (by rw [List.length_drop]; exact Nat.le_refl _)]
  · rw [Nat.min_eq_right (by omega), List.drop_of_length_le (Nat.le_refl _), List.drop_of_length_le (by omega)]
    simp
theorem cutV_init (xs : List V) : cutV xs none (some (-1)) = xs.dropLast := by
  unfold cutV
  rw [HT.sIx_none, List.drop_zero, Nat.sub_zero, List.dropLast_eq_take]
  congr 1
  simp [HT.sIx]
  omega
theorem same_new {H : Hp} {p : Addr} {o : HO} (h : H p = none) : Same H (upd H p o) := (Same.refl H).upd h
end L2
namespace L2
open PySem PySem.Spec PyProof.Rows
theorem g_in {i : Nat} {v : V} {σ : L2.St} {H : Hp} {N : L2.St → Hp → Prop} (h : N (σ.set i (some v)) H) : gName i v σ H N := h
section
variable {X : Cx}
theorem mr_append : MtR X "list.append" rAppend := mt_append
theorem mr_extend : MtR X "list.extend" rExtend := mt_extend
theorem mr_clear : MtR X "list.clear" rClear := mt_clear
end
abbrev xMod : R2 := rI (fun _ j => 0 < j) fun i j => .int (i % j)
abbrev xDiv : R2 := rI CDiv fun i j => .int (i / j)
abbrev xAdd : R2 := rI0 fun i j => .int (i + j)
end L2
namespace L2
open PySem PySem.Spec PyProof.Rows
section
variable {X : Cx}
def rSetD : V → List V → Hp → VK → Prop := fun x vs H Q => ∃ a kvs k d, x = .ref a ∧ vs = [kV k, d] ∧ H a = some (.dK kvs) ∧ kvs.length < sizeLine ∧ (∀ v, valV kvs k = some v → Q v H) ∧ (valV kvs k = none → Q d (upd H a (.dK (putK kvs k d))))
theorem mt_setdefault : MtR X "dict.setdefault" rSetD := by
  intro pins s σ H x vs v us Q I rx rv h
  obtain ⟨a, kvs, k, d, rfl, rfl, hd, hz, q1, q2⟩ := h
  cases rx
  obtain ⟨u, r, rfl, ru, rr⟩ := vals2 rv
  obtain ⟨z, hm, ws, rel, dd⟩ := dk_of I.hok hd
  have hl : ws.length ≤ sizeLine := by rw [← rel.length]; exact z
  have hv := rel.val k
  refine call_meetsIn PySem.F.slot_dict_setdefault dd.typeIs PySem.F.entry_dict_setdefault (PySem.F.args_dict_setdefault_3 _ _ _) (kt_meets_setdefault (mixKind X.prog X.w) a (kV_is ru) hm r)
    ⟨ws, dd, hl, fun y hy => ?_, fun hn h' dd' hs => ?_⟩
  · rw [hy] at hv
    cases e : valV kvs k with
    | none => rw [e] at hv; exact False.elim hv
    | some v0 =>
      rw [e] at hv
      exact ⟨v0, H, I.tok _, hv, q1 v0 e⟩
  · rw [hn] at hv
    cases e : valV kvs k with
    | some v0 => rw [e] at hv; exact False.elim hv
    | none =>
      have hl : (putK kvs k d).length ≤ sizeLine := by have := length_putK kvs k d; omega
      have he : ∃ q, h'.get? a = some q := let ⟨q, _, _, hq, _⟩ := dd'; ⟨q, hq⟩
      exact ⟨d, _, d_write I (by rw [hd]; exact True.intro) hs he (dk_new hl hm (rel.put k rr) dd'), rr, q2 e⟩
def rGetD : V → List V → Hp → VK → Prop := fun x vs H Q => ∃ a y z o, x = .ref a ∧ vs = [y, z] ∧ DGet H a y o ∧ Q (o.getD z) H
theorem mt_get (hu : X.A.units + 1 < cLine) : MtR X "dict.get" rGetD := by
  intro pins s σ H x vs v us Q I rx rv h
  obtain ⟨a, y, z, o, rfl, rfl, g, q⟩ := h
  cases rx
  obtain ⟨u, r, rfl, ru, rr⟩ := vals2 rv
  exact d_get2 hu I g ru rr fun w' s' I' rw' => ⟨_, H, I', rw', q⟩
def rInDict (neg : Bool) : R2 := fun x y H Q => ∃ a o, y = .ref a ∧ DGet H a x o ∧ Q (.bl (o.isSome != neg)) H
theorem op_notinDict (hu : X.A.units + 1 < cLine) : OpR X (compareOp .NotIn) (rInDict true) := by
  intro pins s σ H x y v u Q I rx ry h
  obtain ⟨a, o, rfl, g, q⟩ := h
  cases ry
  refine d_notIn hu I g rx fun s' I' => ⟨.bl _, H, I', ?_, q⟩
  cases o <;> rfl
def rSetDict : V → V → V → Hp → (Hp → Prop) → Prop := fun o i v H Q => ∃ a H', o = .ref a ∧ DPut H a i v H' ∧ Q H'
theorem set_dict (hu : X.A.units + 1 < cLine) : PSet X rSetDict := by
  intro pins s σ H o i v ov iv u Q I ro ri rv h
  obtain ⟨a, H', rfl, g, q⟩ := h
  cases ro
  exact d_setItem hu I g ri rv fun s' I' => ⟨H', I', q⟩
theorem pt_list {a : Expr} {ta : TE} (ha : PE X a ta) (he : ∀ whole, isTrue a X.env whole = (do let v ← whole; standAt a.pos; holding [v] (truthy v)) := by intro _; rfl) :
    PT X a (fun σ H Q => ta σ H fun x H1 => ∃ p xs, x = .ref p ∧ SqL X.K H1 p xs ∧ Q (!xs.isEmpty) H1) := by
  intro pins s σ H Q I hw
  refine isTrue_plain (thn (ha pins s σ H _ I hw) fun v s1 ⟨x, H1, I1, r1, q1⟩ => ?_) (he _)
  obtain ⟨p, xs, rfl, hq, q⟩ := q1
  exact tru_ok pins s1 σ H1 _ v Q I1 r1 ⟨_, Or.inl ⟨xs, hq, rfl⟩, q⟩
end
end L2
namespace L2
open PySem PySem.Spec PyProof.Rows
def metS (f : Nat → Str) (i : Nat) : List Str := ((List.range i).map f).foldl step_dedup []
theorem metS_succ (f : Nat → Str) (i : Nat) : metS f (i + 1) = step_dedup (metS f i) (f i) := by
  unfold metS
  rw [List.range_succ, List.map_append, List.foldl_append]
  rfl
theorem dd_len (l : List Str) (x : Str) : (step_dedup l x).length = if l.any (· == x) then l.length else l.length + 1 := by
  unfold step_dedup
  split <;> simp
theorem dd_any (l : List Str) (x y : Str) : (step_dedup l x).any (· == y) = (l.any (· == y) || decide (y = x)) := by
  unfold step_dedup
  by_cases h : l.any (· == x) = true
  · rw [if_pos h]
    by_cases e : y = x
    · subst e; rw [h]; rfl
    · rw [decide_eq_false e, Bool.or_false]
  · rw [if_neg h, List.any_append]
    congr 1
    by_cases e : y = x
    · subst e; simp
    · rw [decide_eq_false e]
      simp
      exact fun z => e z.symm
theorem metS_le (f : Nat → Str) : ∀ i, (metS f i).length ≤ i
  | 0 => Nat.le_refl _
  | i + 1 => by
    have := metS_le f i
    rw [metS_succ, dd_len]
    split <;> omega
theorem metS_any (f : Nat → Str) : ∀ (i : Nat) (y : Str), (metS f i).any (· == y) = true ↔ ∃ j, j < i ∧ f j = y
  | 0, y => by
    constructor
    · intro h; cases h
    · rintro ⟨j, h, _⟩; omega
  | i + 1, y => by
    rw [metS_succ, dd_any, Bool.or_eq_true, metS_any f i y, decide_eq_true_iff]
    constructor
    · rintro (⟨j, h, e⟩ | e)
      · exact ⟨j, by omega, e⟩
      · exact ⟨i, by omega, e.symm⟩
    · rintro ⟨j, h, e⟩
      by_cases hj : j = i
      · subst hj; exact .inr e.symm
      · exact .inl ⟨j, by omega, e⟩
theorem metS_iff (f : Nat → Str) : ∀ i, (metS f i).length = i ↔ ∀ a b, a < b → b < i → f a ≠ f b
  | 0 => ⟨fun _ a b _ h => by omega, fun _ => rfl⟩
  | i + 1 => by
    have ih := metS_iff f i
    have hle := metS_le f i
    rw [metS_succ, dd_len]
    constructor
    · intro h a b hab hb e
      split at h
      · omega
      · rename_i hn
        have hi : (metS f i).length = i := by omega
        by_cases hbi : b = i
        · subst hbi
          exact hn ((metS_any f b _).mpr ⟨a, hab, e⟩)
        · exact ih.mp hi a b hab (by omega) e
    · intro h
      have hi : (metS f i).length = i := ih.mpr fun a b hab hb => h a b hab (by omega)
      rw [if_neg, hi]
      intro hn
      obtain ⟨j, hj, e⟩ := (metS_any f i _).mp hn
      exact h j i hj (by omega) e
section
variable {prog : Program} {w : World} {A : Around} {R : Result → Shared → Prop} {It : Addr} {fp wr : List Addr} {G : Array GenState → Array GenState → Prop} {n : Nat} {Pn : Nat → Value → Prop} {Sn : Nat → Shared → Prop}
theorem set_loopS (Wk : WalksS prog w A.in1 It fp wr G n Pn Sn) (D : Addr) (nD : D ∉ fp) (f : Nat → Str) (hf : ∀ i v, Pn i v → ∃ t, v = .str (f i) t) (small : n + 1 < scanBound) :
    ∀ (k i : Nat) (s : Shared), n - i = k → i ≤ n → Sn i s → s.heap.SetOf (strKind prog w) D (fun y => (metS f i).any (· == y)) (metS f i).length →
      (∀ s', Moved (D :: wr) G s s' → s'.heap.SetOf (strKind prog w) D (fun y => (metS f n).any (· == y)) (metS f n).length → R (.ok (.ret .none)) s') →
      codeAny (model prog w) A (.builtin "set.update.loop" ⟨[.ref D, .ref It], []⟩) R s := by
  have nDw : D ∉ wr := fun z => nD (Wk.sub _ z)
  have sub : ∀ b ∈ wr, b ∈ D :: wr := fun b z => List.mem_cons_of_mem _ z
  intro k
  induction k with
  | zero =>
    intro i s hk hi st hS fin
    obtain rfl : i = n := by omega
    refine codeAny_builtin F.entry_set_update_loop ?_
    rw [Around.under_plainId F.plain_set_update_loop _]
    show wpAny _ A.in1 (pyNext (.ref It) >>= _) _ _ s
    refine wpAny_bind (Wk.done s _ _ st fun s2 mv => ?_)
    show wpAny _ A.in1 (ret Value.none) _ _ s2
    refine wpAny_pure (fin s2 (mv.mono sub) ?_)
    obtain ⟨ob, es, ep, tb, e, more⟩ := hS
    exact ⟨ob, es, ep, tb, mv.heap D _ nDw e, more⟩
  | succ k ih =>
    intro i s hk hi st hS fin
    have lt : i < n := by omega
    refine codeAny_builtin F.entry_set_update_loop ?_
    rw [Around.under_plainId F.plain_set_update_loop _]
    show wpAny _ A.in1 (pyNext (.ref It) >>= _) _ _ s
    refine wpAny_bind (Wk.item i s _ _ lt st fun v s2 pv st2 mv => ?_)
    obtain ⟨t, rfl⟩ := hf i v pv
    have hS2 : s2.heap.SetOf (strKind prog w) D (fun y => (metS f i).any (· == y)) (metS f i).length := by
      obtain ⟨ob, es, ep, tb, e, more⟩ := hS
      exact ⟨ob, es, ep, tb, mv.heap D _ nDw e, more⟩
    show wpAny _ A.in1 (holding [Value.str (f i) t] (setAdd D (.str (f i) t)) >>= _) _ _ s2
    refine wpAny_bind (wpAny_holding ?_)
    unfold setAdd
    refine wpAny_holding ?_
    have isk : (strKind prog w).is (f i) (.str (f i) t) = true := strKind_is _ _ _ _
    refine wpAny_bind ((strKind prog w).pyHash (k := f i) isk ?_)
    have room : (metS f i).length + 1 < scanBound := by have := metS_le f i; omega
    refine wpAny_setAddHashed_of (knd := strKind prog w) (s := { s2 with toks := s2.toks + 1 }) isk rfl hS2 room fun h3 sb hS3 => ?_
    have hS4 : h3.SetOf (strKind prog w) D (fun y => (metS f (i + 1)).any (· == y)) (metS f (i + 1)).length :=
      SetOf_congr hS3 (fun y => by rw [metS_succ, dd_any]) (by rw [metS_succ, dd_len])
    refine wpAny_pure ⟨plainId_quiet F.plain_set_update_loop _, ih (i + 1) _ (by omega) lt (Wk.frame _ s2 _ _ st2 (Nat.le_succ _) fun b hb o e => ?_) hS4 fun s5 mv5 hS5 => ?_⟩
    · rw [sb.2 b fun z : b = D => nD (by rw [← z]; exact hb)]
      exact e
    · refine fin s5 (Moved.trans Wk.gtrans ((mv.mono sub).then_heap (Nat.le_succ _) fun b o hb e => ?_) mv5) hS5
      rw [sb.2 b fun z : b = D => hb (by rw [z]; exact List.mem_cons_self)]
      exact e
end
abbrev setNew (b : Bool) : Obj := { cls := .type "set", dict := none, data := .set #[] 0 (.fresh 0 0 b) }
section
variable {prog : Program} {w : World} {A : Around} {E : Value → Shared → Prop} {s : Shared}
set_option maxRecDepth 100000 in
set_option maxHeartbeats 3200000 in
theorem call_set_strs {l : Addr} {its : Array Value} {f : Nat → Str} {Q : Value → Shared → Prop} (hh : A.handled = none) (hl : s.heap.IsList l its) (hi : ∀ (i : Nat) (v : Value), its[i]? = some v → ∃ t, v = .str (f i) t) (hb : its.size + 1 < scanBound)
    (h : ∀ (h' : Heap) (tk : Nat), h'.SetOf (strKind prog w) s.heap.objs.size (fun y => (metS f its.size).any (· == y)) (metS f its.size).length →
      (∀ b o, b < s.heap.objs.size → s.heap.get? b = some o → h'.get? b = some o) → Q (.ref s.heap.objs.size) { s with heap := h', toks := tk }) :
    wpAny (model prog w) A (call (.type "set") [.ref l]) Q E s := by
  obtain ⟨c, tl, hmro⟩ := F.called_set.mro
  have hmade := F.called_set.made
  have hsub := F.called_set.sub
  refine wpAny_call (codeAny_of_tree ?_)
  show wpAny _ _ (callAny (.type "set") _) _ _ _
  refine wpAny_pure ⟨Code.quiet_builtin _ (by decide +kernel), codeAny_builtin F.entry_type_call ?_⟩
  rw [Around.under_plain (weight_type_call_type "set" [.ref l] []) rfl]
  have h1 := F.called_set.notType
  have h2 := F.called_set.canCreate
  have hct := F.typeCall_set_1 (.ref l)
  repeat (any_goals (first | assumption | wp_step))
  refine codeAny_mono (code_set_new_1 (.ref l) (E := E) (Q₁ := fun ob s1 => ∃ b : Bool, ob = .ref s.heap.objs.size ∧ s1 = { s with heap := s.heap.push (setNew b) }) fun b => ⟨b, rfl, rfl⟩) fun r s1 hr => ?_
  cases r with
  | error e => exact hr
  | ok fl =>
    cases fl with
    | ret ob =>
      obtain ⟨b0, rfl, rfl⟩ := hr
      have hS : (s.heap.push (setNew b0)).get? s.heap.objs.size = some (setNew b0) := Heap.get?_push_size _ rfl
      have hT : Shared.TypeIs { s with heap := s.heap.push (setNew b0) } (.ref s.heap.objs.size) "set" := ⟨_, hS, rfl⟩
      have hli := F.called_set.init.lookup
      have hbi := F.called_set.init.bind (.ref s.heap.objs.size)
      repeat (any_goals (first | assumption | wp_step))
      refine codeAny_mono (codeAny_call_builtin (R := wants (fun r s2 => r = .none ∧ ∃ h' tk, s2 = { s with heap := h', toks := tk } ∧ h'.SetOf (strKind prog w) s.heap.objs.size (fun y => (metS f its.size).any (· == y)) (metS f its.size).length ∧
          (∀ b o, b < s.heap.objs.size → s.heap.get? b = some o → h'.get? b = some o)) E) F.called_set.init.plain F.entry_set_init (check_set_init_1 hT ?_)) fun r2 s2 hr2 => ?_
      · obtain ⟨⟨oc, od, oda, osl⟩, hol, hcl, nl, hdl⟩ := hl
        simp only at hcl hdl
        subst hcl; subst hdl
        have hol2 : (s.heap.push (setNew b0)).get? l = some { cls := .type "list", dict := od, data := .seq its nl, slots := osl } := Heap.get?_push_of_some _ hol
        have hsls := F.sub_list_set
        have hslf := F.sub_list_frozenset
        have hne : (Value.type "list" == Value.type "dict") = false := by decide
        have hl1 : (s.heap.push (setNew b0)).IsList l its := ⟨_, hol2, rfl, nl, rfl⟩
        unfold Builtin.«set.__init__» noKeywords Builtin.Frozenset.updateFrom
        generalize hPI : pyIter = PI
        wp_walk
        subst hPI
        refine wpAny_pyIter_list hl1 (wpAny_bind (wpAny_runValue ?_))
        have ltl : l < s.heap.objs.size := Heap.lt_size hol
        have hh3 : A.in1.in1.in1.handled = none := by simp [hh]
        have neI : l ≠ (s.heap.push (setNew b0)).objs.size := by
          rw [Heap.size_push]
          exact Nat.ne_of_lt (Nat.lt_succ_of_lt ltl)
        have nSf : s.heap.objs.size ∉ [(s.heap.push (setNew b0)).objs.size, l] := by
          rw [Heap.size_push]
          intro z
          rcases List.mem_cons.mp z with z | z
          · exact absurd z (Nat.ne_of_lt (Nat.lt_succ_self _))
          · exact absurd (List.mem_singleton.mp z) (Nat.ne_of_gt ltl)
        refine set_loopS ((Walks.list hh3 _ l neI its).toS) s.heap.objs.size nSf f hi hb (its.size - 0) 0 _ (by omega) (Nat.zero_le _) ⟨⟨_, Heap.get?_push_size _ rfl, rfl, rfl⟩, (hl1.push _)⟩ ?hS0 ?hR
        case hS0 =>
          have hg : ((s.heap.push (setNew b0)).push { cls := .type "list_iterator", data := .fields #[.ref l, .int 0 0] }).get? s.heap.objs.size = some (setNew b0) := Heap.get?_push_of_some _ hS
          exact SetOf_congr ((setObjOf_fresh (knd := strKind prog w) b0).setOf hg (by unfold scanBound; omega)) (fun _ => rfl) rfl
        case hR =>
          rintro ⟨h', g', d', tk', os'⟩ mv hS'
          obtain rfl : g' = s.gens := mv.gens
          obtain rfl : d' = s.drawn := mv.drawn
          obtain rfl : os' = s.os := mv.os
          show wpAny _ _ _ _ _ _
          refine wpAny_pure ?_
          show wpAny _ _ (ret Value.none) _ _ _
          refine wpAny_pure ⟨rfl, h', tk', rfl, hS', fun b o hb e => ?_⟩
          refine mv.heap b o (fun z => ?_) (Heap.get?_push_of_some _ (Heap.get?_push_of_some _ e))
          rcases List.mem_cons.mp z with z | z
          · exact absurd z (Nat.ne_of_lt hb)
          · have z' := List.mem_singleton.mp z
            rw [Heap.size_push] at z'
            exact absurd z' (Nat.ne_of_lt (Nat.lt_succ_of_lt hb))
      · cases r2 with
        | error e => exact hr2
        | ok fl2 =>
          cases fl2 with
          | ret r =>
            obtain ⟨rfl, h', tk, rfl, hS', hk'⟩ := hr2
            repeat (any_goals (first | assumption | wp_step))
            exact h _ _ hS' hk'
          | _ => exact hr2.elim
    | _ => exact hr.elim
end
end L2
namespace L2
open PySem PySem.Spec PyProof.Rows
def SetS (P : Program) (w : World) (a : Addr) (n : Nat) : HO := .ext fun h => ∃ S, h.SetOf (strKind P w) a S n
section
variable {X : Cx}
def rSetS (P : Program) (w : World) (K : PySem.W.Frag) : List V → Hp → VK → Prop := fun vs H Q => ∃ (p : Addr) (xs : List Str), vs = [.ref p] ∧ SqL K H p (xs.map V.str) ∧ xs.length ≤ 1000 ∧ ∀ q n, (n = xs.length ↔ xs.Nodup) → H q = none → Q (.ref q) (upd H q (SetS P w q n))
theorem strs_at {xs : List Str} {its : List Value} (r : Vals (xs.map V.str) its) : ∀ (i : Nat) (v : Value), its.toArray[i]? = some v → ∃ t, v = .str (xs.getD i default) t := by
  intro i v hv
  have hv' : its[i]? = some v := by simpa using hv
  have hl := r.length
  rw [List.length_map] at hl
  have hi : i < xs.length := by
    have := (List.getElem?_eq_some_iff.mp hv').1
    omega
  obtain ⟨u, hu, ru⟩ := r.get (i := i) (x := .str xs[i]) (by rw [List.getElem?_map, List.getElem?_eq_getElem hi]; rfl)
  rw [hv'] at hu
  cases hu
  rw [List.getD_eq_getElem?_getD, List.getElem?_eq_getElem hi]
  exact ru
theorem nodup_at {xs : List Str} : (∀ a b, a < b → b < xs.length → xs.getD a default ≠ xs.getD b default) ↔ xs.Nodup := by
  unfold List.Nodup
  rw [List.pairwise_iff_getElem]
  constructor
  · intro h i j hi hj hij
    have := h i j hij hj
    rwa [List.getD_eq_getElem?_getD, List.getD_eq_getElem?_getD, List.getElem?_eq_getElem hi, List.getElem?_eq_getElem hj] at this
  · intro h a b hab hb
    have := h a b (by omega) hb hab
    rw [List.getD_eq_getElem?_getD, List.getD_eq_getElem?_getD, List.getElem?_eq_getElem (by omega), List.getElem?_eq_getElem hb]
    exact this
theorem call_set_of (hc : X.calm = true) : CallR X (.type "set") (rSetS X.prog X.w X.K) := by
  intro pins s σ H vs us Q I r h
  obtain ⟨p, xs, rfl, hq, hz, q⟩ := h
  obtain ⟨u, rfl, ru⟩ := vals1 r
  obtain rfl : u = Value.ref p := ru
  obtain ⟨its, rv, pl, _⟩ := I.list hq
  have hl := rv.length
  rw [List.length_map] at hl
  have hsz : its.toArray.size = xs.length := by rw [List.size_toArray, hl]
  refine call_set_strs (f := fun i => xs.getD i default) (I.ok.hd hc) pl.isList (strs_at rv) (by rw [hsz]; unfold scanBound; omega) fun h' tk hS k => ?_
  have hn : (metS (fun i => xs.getD i default) its.toArray.size).length = xs.length ↔ xs.Nodup := by
    rw [hsz, metS_iff, nodup_at]
  have kk : ∀ b u, s.heap.get? b = some u → h'.get? b = some u := fun b u e => k b u (Heap.lt_size e) e
  refine ⟨.ref s.heap.objs.size, upd H s.heap.objs.size (SetS X.prog X.w s.heap.objs.size _), I.laid (t' := tk) kk (Nat.le_refl _) ?_, rfl, q _ _ hn I.fresh⟩
  refine ⟨⟨_, hS⟩, ?_, fun h1 h2 ⟨S, o, es, ep, t, e, more⟩ hk => ⟨S, o, es, ep, t, hk o e, more⟩⟩
  obtain ⟨o, _, _, _, e, _⟩ := hS
  exact ⟨o, e⟩
theorem call_len_setS : CallR X (.builtin "len") (fun vs H Q => ∃ q n, vs = [.ref q] ∧ H q = some (SetS X.prog X.w q n) ∧ n ≤ 1000 ∧ Q (.int n) H) := by
  intro pins s σ H vs us Q I r h
  obtain ⟨a, n, rfl, e, hn, q⟩ := h
  obtain ⟨u, rfl, ru⟩ := vals1 r
  obtain rfl : u = Value.ref a := ru
  obtain ⟨⟨S, o, es, ep, t, ho, hex, hd, _, _, _, hf, hsz⟩, _, _⟩ := I.hok a _ e
  subst hsz
  exact PySem.call_len_set ho hex hd hf (by omega) ⟨.int _, H, I.tok _, ⟨_, rfl⟩, q⟩
end
end L2
namespace L2
open PySem PySem.Spec PyProof.Rows PySem.SeqAt
inductive Dt where
  | non | bl (b : Bool) | int (i : Int) | str (x : Str) | tup (l : List Dt) | lst (l : List Dt)
mutual
inductive IsDt (K : PySem.W.Frag) (H : Hp) : V → Dt → Prop where
  | non : IsDt K H .non .non
  | bl (b : Bool) : IsDt K H (.bl b) (.bl b)
  | int (i : Int) : IsDt K H (.int i) (.int i)
  | str (x : Str) : IsDt K H (.str x) (.str x)
  | tup {a : Addr} {vs : List V} {ds : List Dt} (h : SqT K H a vs) (t : IsDts K H vs ds) : IsDt K H (.ref a) (.tup ds)
  | lst {a : Addr} {vs : List V} {ds : List Dt} (h : SqL K H a vs) (t : IsDts K H vs ds) : IsDt K H (.ref a) (.lst ds)
inductive IsDts (K : PySem.W.Frag) (H : Hp) : List V → List Dt → Prop where
  | nil : IsDts K H [] []
  | cons {v : V} {d : Dt} {vs : List V} {ds : List Dt} (h : IsDt K H v d) (t : IsDts K H vs ds) : IsDts K H (v :: vs) (d :: ds)
end
mutual
theorem IsDt.same {K : PySem.W.Frag} {H H' : Hp} (e : Same H H') : ∀ {v : V} {d : Dt}, IsDt K H v d → IsDt K H' v d
  | _, _, .non => .non
  | _, _, .bl b => .bl b
  | _, _, .int i => .int i
  | _, _, .str x => .str x
  | _, _, .tup h t => .tup (e.seqT h) (IsDts.same e t)
  | _, _, .lst h t => .lst (e.seq h) (IsDts.same e t)
theorem IsDts.same {K : PySem.W.Frag} {H H' : Hp} (e : Same H H') : ∀ {vs : List V} {ds : List Dt}, IsDts K H vs ds → IsDts K H' vs ds
  | _, _, .nil => .nil
  | _, _, .cons h t => .cons (IsDt.same e h) (IsDts.same e t)
end
theorem IsDts.length {K : PySem.W.Frag} {H : Hp} : ∀ {vs : List V} {ds : List Dt}, IsDts K H vs ds → vs.length = ds.length
  | _, _, .nil => rfl
  | _, _, .cons _ t => congrArg (· + 1) t.length
theorem IsDts.get {K : PySem.W.Frag} {H : Hp} : ∀ {vs : List V} {ds : List Dt} {i : Nat} {v : V}, IsDts K H vs ds → vs[i]? = some v → ∃ d, ds[i]? = some d ∧ IsDt K H v d
  | _, _, _, _, .nil, e => by simp at e
  | _, _, 0, _, .cons h _, e => by simp at e; subst e; exact ⟨_, rfl, h⟩
  | _, _, i + 1, v, .cons _ t, e => by
    obtain ⟨d, h1, h2⟩ := IsDts.get (i := i) (v := v) t (by simpa using e)
    exact ⟨d, by simpa using h1, h2⟩
theorem IsDts.get' {K : PySem.W.Frag} {H : Hp} : ∀ {vs : List V} {ds : List Dt} {i : Nat} {d : Dt}, IsDts K H vs ds → ds[i]? = some d → ∃ v, vs[i]? = some v ∧ IsDt K H v d
  | _, _, _, _, .nil, e => by simp at e
  | _, _, 0, _, .cons h _, e => by simp at e; subst e; exact ⟨_, rfl, h⟩
  | _, _, i + 1, v, .cons _ t, e => by
    obtain ⟨d, h1, h2⟩ := IsDts.get' (i := i) (d := v) t (by simpa using e)
    exact ⟨d, by simpa using h1, h2⟩
theorem IsDts.append {K : PySem.W.Frag} {H : Hp} : ∀ {vs us : List V} {ds es : List Dt}, IsDts K H vs ds → IsDts K H us es → IsDts K H (vs ++ us) (ds ++ es)
  | _, _, _, _, .nil, t => t
  | _, _, _, _, .cons h r, t => .cons h (IsDts.append r t)
theorem IsDts.strs {K : PySem.W.Frag} {H : Hp} : ∀ (xs : List Str), IsDts K H (xs.map V.str) (xs.map Dt.str)
  | [] => .nil
  | x :: xs => .cons (.str x) (IsDts.strs xs)
section
variable {X : Cx} {pins : List (Addr × Obj)} {σ : St} {H : Hp} {s : Shared}
theorem Inv.not_both (I : Inv X pins σ H s) {a : Addr} {xs ys : List V} (h : SqL X.K H a xs) (h' : SqT X.K H a ys) : False := by
  obtain ⟨_, _, ⟨o, n, e, c, _⟩, _⟩ := I.list h
  obtain ⟨_, _, ⟨o', e', c', _⟩, _⟩ := I.tuple h'
  rw [e] at e'; cases e'
  rw [c] at c'
  exact absurd c' (by decide)
mutual
theorem IsDt.inj (I : Inv X pins σ H s) : ∀ {v : V} {d e : Dt}, IsDt X.K H v d → IsDt X.K H v e → d = e
  | _, _, _, .non, .non => rfl
  | _, _, _, .bl _, .bl _ => rfl
  | _, _, _, .int _, .int _ => rfl
  | _, _, _, .str _, .str _ => rfl
  | _, _, _, .tup h t, .tup h' t' => by
    have e := I.tuple_inj h h'
    subst e
    rw [IsDts.inj I t t']
  | _, _, _, .lst h t, .lst h' t' => by
    have e := I.list_inj h h'
    subst e
    rw [IsDts.inj I t t']
  | _, _, _, .tup h _, .lst h' _ => (I.not_both h' h).elim
  | _, _, _, .lst h _, .tup h' _ => (I.not_both h h').elim
theorem IsDts.inj (I : Inv X pins σ H s) : ∀ {vs : List V} {ds es : List Dt}, IsDts X.K H vs ds → IsDts X.K H vs es → ds = es
  | _, _, _, .nil, .nil => rfl
  | _, _, _, .cons h t, .cons h' t' => by rw [IsDt.inj I h h', IsDts.inj I t t']
end
end
def Dt.kd : Dt → Nat
  | .non => 0 | .bl _ => 1 | .int _ => 2 | .str _ => 3 | .tup _ => 4 | .lst _ => 5
def Apart (a b : Nat) : Bool := a != b && !(a == 1 && b == 2) && !(a == 2 && b == 1)
mutual
inductive Cmp : Nat → Dt → Dt → Prop where
  | non {n : Nat} : Cmp n .non .non
  | bl {n : Nat} (a b : Bool) : Cmp n (.bl a) (.bl b)
  | int {n : Nat} (a b : Int) : Cmp n (.int a) (.int b)
  | str {n : Nat} (a b : Str) : Cmp n (.str a) (.str b)
  | tup {n : Nat} {ds es : List Dt} (t : Cmps n ds es) : Cmp (n + 1) (.tup ds) (.tup es)
  | lst {n : Nat} {ds es : List Dt} (t : Cmps n ds es) : Cmp (n + 1) (.lst ds) (.lst es)
  | apart {n : Nat} {d e : Dt} (h : Apart d.kd e.kd = true) : Cmp (n + 1) d e
inductive Cmps : Nat → List Dt → List Dt → Prop where
  | nil {n : Nat} (es : List Dt) : Cmps n [] es
  | nil' {n : Nat} (ds : List Dt) : Cmps n ds []
  | cons {n : Nat} {d e : Dt} {ds es : List Dt} (h : Cmp n d e) (t : Cmps n ds es) : Cmps n (d :: ds) (e :: es)
end
theorem Cmps.of {n : Nat} : ∀ {ds es : List Dt}, (∀ d ∈ ds, ∀ e ∈ es, Cmp n d e) → Cmps n ds es
  | [], es, _ => .nil es
  | d :: ds, [], _ => .nil' _
  | d :: ds, e :: es, h => .cons (h d (by simp) e (by simp)) (Cmps.of fun x hx y hy => h x (by simp [hx]) y (by simp [hy]))
open Classical in
noncomputable def dec (p : Prop) : Bool := decide p
theorem dec_true {p : Prop} (h : p) : dec p = true := @decide_eq_true p (Classical.propDecidable p) h
theorem dec_false {p : Prop} (h : ¬ p) : dec p = false := @decide_eq_false p (Classical.propDecidable p) h
theorem dec_iff {p : Prop} : dec p = true ↔ p := ⟨fun h => @of_decide_eq_true p (Classical.propDecidable p) h, dec_true⟩
theorem dec_congr {p q : Prop} (h : p ↔ q) : dec p = dec q := by rw [propext h]
theorem dec_beq {α : Type} [BEq α] [LawfulBEq α] {a b : α} {p : Prop} (h : p ↔ a = b) : (a == b) = dec p := by
  by_cases e : a = b
  · subst e; rw [dec_true (h.mpr rfl)]; exact beq_self_eq_true _
  · rw [dec_false fun q => e (h.mp q)]; exact beq_false_of_ne e
theorem list_ext_iff {ds es : List Dt} (hl : ds.length = es.length) (h : ∀ i, i < ds.length → ds[i]? = es[i]?) : ds = es := List.ext_getElem? fun i => by
  by_cases hi : i < ds.length
  · exact h i hi
  · rw [List.getElem?_eq_none (by omega), List.getElem?_eq_none (by omega)]
section
variable {X : Cx} {pins : List (Addr × Obj)} {σ : St} {H : Hp} {s : Shared}
theorem in1_units (A : Around) : A.in1.units = A.units + 1 := rfl
theorem eq_items (I : Inv X pins σ H s) {A : Around} {vs us : List V} {ds es : List Dt} {ivs ius : List Value} (rv : Vals vs ivs) (ru : Vals us ius) (tv : IsDts X.K H vs ds) (tu : IsDts X.K H us es)
    (hc : ∀ (i : Nat) (d e : Dt) (v u : V) (x y : Value), ds[i]? = some d → es[i]? = some e → RelV v x → RelV u y → IsDt X.K H v d → IsDt X.K H u e → EqAt A s x y (dec (d = e))) :
    ∀ j (h1 : j < ivs.toArray.size) (h2 : j < ius.toArray.size), EqAt A s ivs.toArray[j] ius.toArray[j] (dec (ds[j]? = es[j]?)) := by
  intro j h1 h2
  have l1 := rv.length
  have l2 := ru.length
  have h1' : j < ivs.length := by simpa using h1
  have h2' : j < ius.length := by simpa using h2
  obtain ⟨x, hx, rx⟩ := rv.get (i := j) (x := vs[j]'(by omega)) (List.getElem?_eq_getElem (by omega))
  obtain ⟨y, hy, ry⟩ := ru.get (i := j) (x := us[j]'(by omega)) (List.getElem?_eq_getElem (by omega))
  obtain ⟨d, hd, td⟩ := tv.get (i := j) (v := vs[j]'(by omega)) (List.getElem?_eq_getElem (by omega))
  obtain ⟨e, he, te⟩ := tu.get (i := j) (v := us[j]'(by omega)) (List.getElem?_eq_getElem (by omega))
  have ex : ivs.toArray[j] = x := by
    rw [List.getElem?_eq_getElem h1'] at hx
    simpa using hx
  have ey : ius.toArray[j] = y := by
    rw [List.getElem?_eq_getElem h2'] at hy
    simpa using hy
  rw [ex, ey, hd, he]
  have := hc j d e _ _ x y hd he rx ry td te
  rw [dec_congr (p := some d = some e) (q := d = e) (by simp)]
  exact this
theorem range_dec {ds es : List Dt} {n : Nat} (hn : n = ds.length) (hl : ds.length = es.length) : (List.range n).all (fun j => dec (ds[j]? = es[j]?)) = dec (ds = es) := by
  subst hn
  by_cases h : ds = es
  · subst h
    rw [dec_true rfl, List.all_eq_true]
    exact fun i _ => dec_true rfl
  · rw [dec_false h, Bool.eq_false_iff]
    intro q
    rw [List.all_eq_true] at q
    exact h (list_ext_iff hl fun i hi => dec_iff.mp (q i (List.mem_range.mpr hi)))
theorem apart_all (I : Inv X pins σ H s) {d e : Dt} {v u : V} {x y : Value} {A : Around} (h : Apart d.kd e.kd = true) (td : IsDt X.K H v d) (te : IsDt X.K H u e) (rx : RelV v x) (ry : RelV u y) (hu : A.units < cLine) : EqAt A s x y false ∧ RcAt A s x y false ∧ RcNeAt A s x y true := by
  cases td with
  | non =>
    cases rx
    cases te with
    | non => exact absurd h (by simp [Apart, Dt.kd])
    | bl b =>
      cases ry
      exact ⟨EqAt.none_bool _, RcAt.none_bool _, RcNeAt.none_bool _⟩
    | int b =>
      obtain ⟨t2, rfl⟩ := ry
      exact ⟨EqAt.none_int _ _, RcAt.none_int _ _, RcNeAt.none_int _ _⟩
    | str b =>
      obtain ⟨t2, rfl⟩ := ry
      exact ⟨EqAt.none_str _ _, RcAt.none_str _ _, RcNeAt.none_str _ _⟩
    | tup h2 t2 =>
      cases ry
      obtain ⟨_, _, p2, _⟩ := I.tuple h2
      exact ⟨EqAt.none_tuple  p2 hu, RcAt.none_tuple  p2 hu, RcNeAt.none_tuple  p2 hu⟩
    | lst h2 t2 =>
      cases ry
      obtain ⟨_, _, p2, _⟩ := I.list h2
      have p2 := p2.isList
      exact ⟨EqAt.none_list  p2 hu, RcAt.none_list  p2 hu, RcNeAt.none_list  p2 hu⟩
  | bl a =>
    cases rx
    cases te with
    | non =>
      cases ry
      exact ⟨EqAt.bool_none _, RcAt.bool_none _, RcNeAt.bool_none _⟩
    | bl b => exact absurd h (by simp [Apart, Dt.kd])
    | int b => exact absurd h (by simp [Apart, Dt.kd])
    | str b =>
      obtain ⟨t2, rfl⟩ := ry
      exact ⟨EqAt.bool_str _ _ _, RcAt.bool_str _ _ _, RcNeAt.bool_str _ _ _⟩
    | tup h2 t2 =>
      cases ry
      obtain ⟨_, _, p2, _⟩ := I.tuple h2
      exact ⟨EqAt.bool_tuple _ p2 hu, RcAt.bool_tuple _ p2 hu, RcNeAt.bool_tuple _ p2 hu⟩
    | lst h2 t2 =>
      cases ry
      obtain ⟨_, _, p2, _⟩ := I.list h2
      have p2 := p2.isList
      exact ⟨EqAt.bool_list _ p2 hu, RcAt.bool_list _ p2 hu, RcNeAt.bool_list _ p2 hu⟩
  | int a =>
    obtain ⟨t, rfl⟩ := rx
    cases te with
    | non =>
      cases ry
      exact ⟨EqAt.int_none _ _, RcAt.int_none _ _, RcNeAt.int_none _ _⟩
    | bl b => exact absurd h (by simp [Apart, Dt.kd])
    | int b => exact absurd h (by simp [Apart, Dt.kd])
    | str b =>
      obtain ⟨t2, rfl⟩ := ry
      exact ⟨EqAt.int_str _ _ _ _, RcAt.int_str _ _ _ _, RcNeAt.int_str _ _ _ _⟩
    | tup h2 t2 =>
      cases ry
      obtain ⟨_, _, p2, _⟩ := I.tuple h2
      exact ⟨EqAt.int_tuple _ _ p2 hu, RcAt.int_tuple _ _ p2 hu, RcNeAt.int_tuple _ _ p2 hu⟩
    | lst h2 t2 =>
      cases ry
      obtain ⟨_, _, p2, _⟩ := I.list h2
      have p2 := p2.isList
      exact ⟨EqAt.int_list _ _ p2 hu, RcAt.int_list _ _ p2 hu, RcNeAt.int_list _ _ p2 hu⟩
  | str a =>
    obtain ⟨t, rfl⟩ := rx
    cases te with
    | non =>
      cases ry
      exact ⟨EqAt.str_none _ _, RcAt.str_none _ _, RcNeAt.str_none _ _⟩
    | bl b =>
      cases ry
      exact ⟨EqAt.str_bool _ _ _, RcAt.str_bool _ _ _, RcNeAt.str_bool _ _ _⟩
    | int b =>
      obtain ⟨t2, rfl⟩ := ry
      exact ⟨EqAt.str_int _ _ _ _, RcAt.str_int _ _ _ _, RcNeAt.str_int _ _ _ _⟩
    | str b => exact absurd h (by simp [Apart, Dt.kd])
    | tup h2 t2 =>
      cases ry
      obtain ⟨_, _, p2, _⟩ := I.tuple h2
      exact ⟨EqAt.str_tuple _ _ p2 hu, RcAt.str_tuple _ _ p2 hu, RcNeAt.str_tuple _ _ p2 hu⟩
    | lst h2 t2 =>
      cases ry
      obtain ⟨_, _, p2, _⟩ := I.list h2
      have p2 := p2.isList
      exact ⟨EqAt.str_list _ _ p2 hu, RcAt.str_list _ _ p2 hu, RcNeAt.str_list _ _ p2 hu⟩
  | tup h1 t1 =>
    cases rx
    obtain ⟨_, _, p, _⟩ := I.tuple h1
    cases te with
    | non =>
      cases ry
      exact ⟨EqAt.tuple_none  p hu, RcAt.tuple_none  p hu, RcNeAt.tuple_none  p hu⟩
    | bl b =>
      cases ry
      exact ⟨EqAt.tuple_bool _ p hu, RcAt.tuple_bool _ p hu, RcNeAt.tuple_bool _ p hu⟩
    | int b =>
      obtain ⟨t2, rfl⟩ := ry
      exact ⟨EqAt.tuple_int _ _ p hu, RcAt.tuple_int _ _ p hu, RcNeAt.tuple_int _ _ p hu⟩
    | str b =>
      obtain ⟨t2, rfl⟩ := ry
      exact ⟨EqAt.tuple_str _ _ p hu, RcAt.tuple_str _ _ p hu, RcNeAt.tuple_str _ _ p hu⟩
    | tup h2 t2 => exact absurd h (by simp [Apart, Dt.kd])
    | lst h2 t2 =>
      cases ry
      obtain ⟨_, _, p2, _⟩ := I.list h2
      have p2 := p2.isList
      exact ⟨EqAt.tuple_list p p2 hu, RcAt.tuple_list p p2 hu, RcNeAt.tuple_list p p2 hu⟩
  | lst h1 t1 =>
    cases rx
    obtain ⟨_, _, p, _⟩ := I.list h1
    have p := p.isList
    cases te with
    | non =>
      cases ry
      exact ⟨EqAt.list_none  p hu, RcAt.list_none  p hu, RcNeAt.list_none  p hu⟩
    | bl b =>
      cases ry
      exact ⟨EqAt.list_bool _ p hu, RcAt.list_bool _ p hu, RcNeAt.list_bool _ p hu⟩
    | int b =>
      obtain ⟨t2, rfl⟩ := ry
      exact ⟨EqAt.list_int _ _ p hu, RcAt.list_int _ _ p hu, RcNeAt.list_int _ _ p hu⟩
    | str b =>
      obtain ⟨t2, rfl⟩ := ry
      exact ⟨EqAt.list_str _ _ p hu, RcAt.list_str _ _ p hu, RcNeAt.list_str _ _ p hu⟩
    | tup h2 t2 =>
      cases ry
      obtain ⟨_, _, p2, _⟩ := I.tuple h2
      exact ⟨EqAt.list_tuple p p2 hu, RcAt.list_tuple p p2 hu, RcNeAt.list_tuple p p2 hu⟩
    | lst h2 t2 => exact absurd h (by simp [Apart, Dt.kd])
theorem eq_of_rc (I : Inv X pins σ H s) {d e : Dt} {v u : V} {x y : Value} {A : Around} (td : IsDt X.K H v d) (te : IsDt X.K H u e) (rx : RelV v x) (ry : RelV u y) (h : RcAt A s x y (dec (d = e))) : EqAt A s x y (dec (d = e)) := by
  by_cases hxy : x = y
  · subst hxy
    have e1 := rx.inj ry
    subst e1
    rw [dec_true (IsDt.inj I td te)]
    exact EqAt.same _
  · intro prog w E Q hq
    unfold eqBool
    refine wpAny_holding ?_
    refine wpAny_ite_split (fun hab => absurd (eq_of_beq hab) hxy) (fun _ => ?_)
    cases td with
    | non => cases rx; exact wpAny_bind (h prog w E _ (wpAny_truthy_bool hq))
    | bl a => cases rx; exact wpAny_bind (h prog w E _ (wpAny_truthy_bool hq))
    | int a => obtain ⟨t, rfl⟩ := rx; exact wpAny_bind (h prog w E _ (wpAny_truthy_bool hq))
    | str a => obtain ⟨t, rfl⟩ := rx; exact wpAny_bind (h prog w E _ (wpAny_truthy_bool hq))
    | tup _ _ => cases rx; exact wpAny_bind (h prog w E _ (wpAny_truthy_bool hq))
    | lst _ _ => cases rx; exact wpAny_bind (h prog w E _ (wpAny_truthy_bool hq))
theorem kd_ne {d e : Dt} (h : Apart d.kd e.kd = true) : ¬ d = e := fun z => by
  subst z
  simp [Apart] at h
mutual
theorem rcD (I : Inv X pins σ H s) : ∀ {n : Nat} {d e : Dt} {v u : V} {x y : Value} {A : Around}, Cmp n d e → IsDt X.K H v d → IsDt X.K H u e → RelV v x → RelV u y → A.units + n < cLine → RcAt A s x y (dec (d = e)) ∧ RcNeAt A s x y (!dec (d = e))
  | n, _, _, _, _, _, _, _, .non, td, te, rx, ry, _ => by
    cases td; cases te
    cases rx; cases ry
    rw [dec_true rfl]
    exact ⟨RcAt.none_none, RcNeAt.none_none⟩
  | n, _, _, _, _, _, _, _, .bl a b, td, te, rx, ry, _ => by
    cases td; cases te
    cases rx; cases ry
    rw [← dec_beq (a := a) (b := b) (by simp)]
    exact ⟨RcAt.bool_bool a b, RcNeAt.bool_bool a b⟩
  | n, _, _, _, _, _, _, _, .int a b, td, te, rx, ry, _ => by
    cases td; cases te
    obtain ⟨t, rfl⟩ := rx
    obtain ⟨t', rfl⟩ := ry
    rw [← dec_beq (a := a) (b := b) (by simp)]
    exact ⟨RcAt.int_int a t b t', RcNeAt.int_int a t b t'⟩
  | n, _, _, _, _, _, _, _, .str a b, td, te, rx, ry, _ => by
    cases td; cases te
    obtain ⟨t, rfl⟩ := rx
    obtain ⟨t', rfl⟩ := ry
    rw [← dec_beq (a := a) (b := b) (by simp)]
    exact ⟨RcAt.str_str a t b t', RcNeAt.str_str a t b t'⟩
  | n + 1, _, _, _, _, _, _, A, .tup (ds := ds) (es := es) c, td, te, rx, ry, hu => by
    cases td; cases te
    rename_i a vs h t b us h' t'
    cases rx; cases ry
    obtain ⟨its, r, p, _⟩ := I.tuple h
    obtain ⟨its', r', p', _⟩ := I.tuple h'
    have l1 := r.length
    have l2 := r'.length
    have l3 := t.length
    have l4 := t'.length
    have he := eq_items (A := A.in1) I r r' t t' (eqDs I c (by rw [in1_units]; omega))
    have e : dec (Dt.tup ds = Dt.tup es) = ((List.range (min its.toArray.size its'.toArray.size)).all (fun j => dec (ds[j]? = es[j]?)) && its.toArray.size == its'.toArray.size) := by
      rw [dec_congr (p := Dt.tup ds = Dt.tup es) (q := ds = es) (by simp)]
      simp only [List.size_toArray]
      by_cases hl : ds.length = es.length
      · rw [show (its.length == its'.length) = true from beq_iff_eq.mpr (by omega), Bool.and_true, range_dec (by omega) hl]
      · rw [show (its.length == its'.length) = false from beq_false_of_ne (by omega), Bool.and_false, dec_false fun z => hl (by rw [z])]
    rw [e]
    exact ⟨RcAt.tuples (A := A) p p' (by omega) he, RcNeAt.tuples (A := A) p p' (by omega) he⟩
  | n + 1, _, _, _, _, _, _, A, .lst (ds := ds) (es := es) c, td, te, rx, ry, hu => by
    cases td; cases te
    rename_i a vs h t b us h' t'
    cases rx; cases ry
    obtain ⟨its, r, p, _⟩ := I.list h
    obtain ⟨its', r', p', _⟩ := I.list h'
    have l1 := r.length
    have l2 := r'.length
    have l3 := t.length
    have l4 := t'.length
    by_cases hl : ds.length = es.length
    · have he := eq_items (A := A.in1) I r r' t t' (eqDs I c (by rw [in1_units]; omega))
      rw [dec_congr (p := Dt.lst ds = Dt.lst es) (q := ds = es) (by simp), ← range_dec (n := its.toArray.size) (by simp only [List.size_toArray]; omega) hl]
      exact ⟨RcAt.lists (A := A) p.isList p'.isList (by simp only [List.size_toArray]; omega) (by omega) he, RcNeAt.lists (A := A) p.isList p'.isList (by simp only [List.size_toArray]; omega) (by omega) he⟩
    · rw [dec_false (show ¬ Dt.lst ds = Dt.lst es from fun z => hl (by cases z; rfl))]
      have hz : (its.toArray.size != its'.toArray.size) = true := by simp only [List.size_toArray]; rw [bne_iff_ne]; omega
      exact ⟨RcAt.lists_lengths p.isList p'.isList hz (by omega), RcNeAt.lists_lengths p.isList p'.isList hz (by omega)⟩
  | n + 1, _, _, _, _, _, _, A, .apart h, td, te, rx, ry, hu => by
    obtain ⟨_, h1, h2⟩ := apart_all (A := A) I h td te rx ry (by omega)
    rw [dec_false (kd_ne h)]
    exact ⟨h1, h2⟩
theorem eqDs (I : Inv X pins σ H s) : ∀ {n : Nat} {ds es : List Dt} {A : Around}, Cmps n ds es → A.units + n < cLine →
    ∀ (i : Nat) (d e : Dt) (v u : V) (x y : Value), ds[i]? = some d → es[i]? = some e → RelV v x → RelV u y → IsDt X.K H v d → IsDt X.K H u e → EqAt A s x y (dec (d = e))
  | _, _, _, _, .nil _, _, _, _, _, _, _, _, _, h, _, _, _, _, _ => by simp at h
  | _, _, _, _, .nil' _, _, _, _, _, _, _, _, _, _, h, _, _, _, _ => by simp at h
  | _, _, _, A, .cons c _, hu, 0, _, _, _, _, _, _, h, h', rx, ry, td, te => by
    simp at h h'; subst h; subst h'
    have hrc := rcD (A := A) I c td te rx ry hu
    exact eq_of_rc I td te rx ry hrc.1
  | _, _, _, _, .cons _ t, hu, i + 1, d, e, v, u, x, y, h, h', rx, ry, td, te =>
    eqDs I t hu i d e v u x y (by simpa using h) (by simpa using h') rx ry td te
end
theorem eqD (I : Inv X pins σ H s) {n : Nat} {d e : Dt} {v u : V} {x y : Value} {A : Around} (c : Cmp n d e) (td : IsDt X.K H v d) (te : IsDt X.K H u e) (rx : RelV v x) (ry : RelV u y) (hu : A.units + n < cLine) : EqAt A s x y (dec (d = e)) :=
  eq_of_rc I td te rx ry (rcD I c td te rx ry hu).1
end
section
variable {X : Cx}
def rEqD (K : PySem.W.Frag) : R2 := fun x y H Q => ∃ n d e, Cmp n d e ∧ n ≤ 60 ∧ IsDt K H x d ∧ IsDt K H y e ∧ Q (.bl (dec (d = e))) H
def rNeD (K : PySem.W.Frag) : R2 := fun x y H Q => ∃ n d e, Cmp n d e ∧ n ≤ 60 ∧ IsDt K H x d ∧ IsDt K H y e ∧ Q (.bl (!dec (d = e))) H
theorem op_eqD (hu : X.A.units + 64 < cLine) : OpR X (compareOp .Eq) (rEqD X.K) := by
  intro pins s σ H x y v u Q I rx ry h
  obtain ⟨n, d, e, c, hn, td, te, q⟩ := h
  exact (rcD (A := X.A) I c td te rx ry (by omega)).1 _ _ _ _ ⟨.bl _, H, I, rfl, q⟩
theorem op_neD (hu : X.A.units + 64 < cLine) : OpR X (compareOp .NotEq) (rNeD X.K) := by
  intro pins s σ H x y v u Q I rx ry h
  obtain ⟨n, d, e, c, hn, td, te, q⟩ := h
  exact (rcD (A := X.A) I c td te rx ry (by omega)).2 _ _ _ _ ⟨.bl _, H, I, rfl, q⟩
def rInD (K : PySem.W.Frag) : R2 := fun x y H Q => ∃ n d ds a vs, (∀ e ∈ ds, Cmp n e d) ∧ n ≤ 60 ∧ IsDt K H x d ∧ y = .ref a ∧ SqL K H a vs ∧ IsDts K H vs ds ∧ Q (.bl (dec (d ∈ ds))) H
def rNotInD (K : PySem.W.Frag) : R2 := fun x y H Q => ∃ n d ds a vs, (∀ e ∈ ds, Cmp n e d) ∧ n ≤ 60 ∧ IsDt K H x d ∧ y = .ref a ∧ SqL K H a vs ∧ IsDts K H vs ds ∧ Q (.bl (!dec (d ∈ ds))) H
theorem in_items {pins : List (Addr × Obj)} {σ : St} {H : Hp} {s : Shared} (I : Inv X pins σ H s) {n : Nat} {d : Dt} {ds : List Dt} {vs : List V} {its : List Value} {v : V} {x : Value} {A : Around} (r : Vals vs its) (t : IsDts X.K H vs ds) (hc : ∀ e ∈ ds, Cmp n e d) (td : IsDt X.K H v d) (rx : RelV v x) (hu : A.units + n < cLine) :
    (∀ y, y ∈ its.toArray → EqAt A s y x (dec (∃ u, RelV u y ∧ IsDt X.K H u d))) ∧ its.toArray.any (fun y => dec (∃ u, RelV u y ∧ IsDt X.K H u d)) = dec (d ∈ ds) := by
  have ll := r.length
  have lt := t.length
  have one : ∀ y, y ∈ its → ∃ e ∈ ds, ∃ u, RelV u y ∧ IsDt X.K H u e := fun y hy => by
    obtain ⟨i, hi, e⟩ := List.mem_iff_getElem.mp hy
    obtain ⟨y', hy', ry⟩ := r.get (i := i) (x := vs[i]'(by omega)) (List.getElem?_eq_getElem (by omega))
    obtain ⟨e', he, te⟩ := t.get (i := i) (v := vs[i]'(by omega)) (List.getElem?_eq_getElem (by omega))
    rw [List.getElem?_eq_getElem hi, e] at hy'
    cases hy'
    exact ⟨e', List.mem_of_getElem? he, _, ry, te⟩
  refine ⟨fun y hy => ?_, ?_⟩
  · obtain ⟨e, he, u, ru, te⟩ := one y (by simpa using hy)
    have := eqD (A := A) I (hc e he) te td ru rx hu
    rw [dec_congr (p := ∃ u, RelV u y ∧ IsDt X.K H u d) (q := e = d) ⟨fun ⟨u', ru', te'⟩ => by
      have e1 := ru.inj ru'
      subst e1
      exact IsDt.inj I te te', fun z => ⟨u, ru, by rw [← z]; exact te⟩⟩]
    exact this
  · by_cases hm : d ∈ ds
    · rw [dec_true hm, Array.any_eq_true]
      obtain ⟨i, hi, e⟩ := List.mem_iff_getElem.mp hm
      obtain ⟨u, hu', te⟩ := t.get' (i := i) (d := d) (by rw [List.getElem?_eq_getElem hi, e])
      obtain ⟨y, hy, ry⟩ := r.get hu'
      have hi' : i < its.length := (List.getElem?_eq_some_iff.mp hy).1
      refine ⟨i, by simpa using hi', ?_⟩
      have : its.toArray[i]'(by simpa using hi') = y := by
        rw [List.getElem?_eq_getElem hi'] at hy
        simpa using hy
      rw [this]
      exact dec_true ⟨u, ry, te⟩
    · rw [dec_false hm, Bool.eq_false_iff]
      intro q
      obtain ⟨i, hi, q⟩ := Array.any_eq_true.mp q
      obtain ⟨u, ru, te⟩ := dec_iff.mp q
      obtain ⟨e, he, u', ru', te'⟩ := one (its.toArray[i]) (by simp)
      have e1 := ru.inj ru'
      subst e1
      have e2 := IsDt.inj I te te'
      subst e2
      exact hm he
theorem op_inD (hu : X.A.units + 64 < cLine) : OpR X (compareOp .In) (rInD X.K) := by
  intro pins s σ H x y v u Q I rx ry h
  obtain ⟨n, d, ds, a, vs, hc, hn, td, rfl, hq, t, q⟩ := h
  cases ry
  obtain ⟨its, r, p, _⟩ := I.list hq
  obtain ⟨h1, h2⟩ := in_items (A := X.A.in1) I r t hc td rx (by rw [in1_units]; omega)
  exact in_listAt _ p.isList h1 (by rw [h2]; exact ⟨.bl _, H, I, rfl, q⟩)
theorem op_notinD (hu : X.A.units + 64 < cLine) : OpR X (compareOp .NotIn) (rNotInD X.K) := by
  intro pins s σ H x y v u Q I rx ry h
  obtain ⟨n, d, ds, a, vs, hc, hn, td, rfl, hq, t, q⟩ := h
  cases ry
  obtain ⟨its, r, p, _⟩ := I.list hq
  obtain ⟨h1, h2⟩ := in_items (A := X.A.in1) I r t hc td rx (by rw [in1_units]; omega)
  exact notIn_listAt _ p.isList h1 (by rw [h2]; exact ⟨.bl _, H, I, rfl, q⟩)
end
end L2
namespace Ord
variable {α : Type} [DecidableEq α]
inductive Path (ps : List (α × α)) : α → α → Prop where
  | one {a b} : (a, b) ∈ ps → Path ps a b
  | snoc {a b c} : Path ps a b → (b, c) ∈ ps → Path ps a c
theorem Path.snd {ps : List (α × α)} {a b : α} (h : Path ps a b) : b ∈ ps.map (·.2) := by
  cases h with
  | one e => exact List.mem_map.mpr ⟨_, e, rfl⟩
  | snoc _ e => exact List.mem_map.mpr ⟨_, e, rfl⟩
theorem Path.fst {ps : List (α × α)} {a b : α} (h : Path ps a b) : a ∈ ps.map (·.1) := by
  induction h with
  | one e => exact List.mem_map.mpr ⟨_, e, rfl⟩
  | snoc _ _ ih => exact ih
def worseOf (ps : List (α × α)) (a : α) : List α := (ps.filter (fun p => decide (p.1 = a))).map (·.2)
theorem mem_worseOf {ps : List (α × α)} {a b : α} : b ∈ worseOf ps a ↔ (a, b) ∈ ps := by
  unfold worseOf
  rw [List.mem_map]
  constructor
  · rintro ⟨⟨x, y⟩, h, rfl⟩
    obtain ⟨h1, h2⟩ := List.mem_filter.mp h
    have e : x = a := of_decide_eq_true h2
    subst e; exact h1
  · intro h
    exact ⟨(a, b), List.mem_filter.mpr ⟨h, decide_eq_true rfl⟩, rfl⟩
theorem worseOf_snoc {ps : List (α × α)} {x y a : α} : worseOf (ps ++ [(x, y)]) a = if x = a then worseOf ps a ++ [y] else worseOf ps a := by
  unfold worseOf
  rw [List.filter_append]
  by_cases e : x = a
  · simp [e]
  · simp [e]
structure Tree (ps : List (α × α)) (st : α) (cf : List (α × α)) : Prop where
  nd : (cf.map (·.1)).Nodup
  par : ∀ (i : Nat) (p : α × α), cf[i]? = some p → (p.2, p.1) ∈ ps ∧ (p.2 = st ∨ ∃ (j : Nat) (q : α × α), j < i ∧ cf[j]? = some q ∧ q.1 = p.2)
theorem Tree.nil {ps : List (α × α)} {st : α} : Tree ps st [] := ⟨List.nodup_nil, fun i p h => by simp at h⟩
theorem nodup_snoc {l : List α} {x : α} (h : l.Nodup) (hx : x ∉ l) : (l ++ [x]).Nodup := by
  rw [List.nodup_append]
  refine ⟨h, by simp, ?_⟩
  intro a ha b hb e
  rw [List.mem_singleton] at hb
  subst hb; subst e
  exact hx ha
theorem Tree.snoc {ps : List (α × α)} {st : α} {cf : List (α × α)} (T : Tree ps st cf) {w b : α} (hw : w ∉ cf.map (·.1)) (hb : (b, w) ∈ ps) (hp : b = st ∨ b ∈ cf.map (·.1)) : Tree ps st (cf ++ [(w, b)]) := by
  refine ⟨?_, fun i p h => ?_⟩
  · rw [List.map_append]
    exact nodup_snoc T.nd hw
  · by_cases hi : i < cf.length
    · rw [List.getElem?_append_left hi] at h
      obtain ⟨h1, h2⟩ := T.par i p h
      refine ⟨h1, ?_⟩
      rcases h2 with h2 | ⟨j, q, hj, hq, e⟩
      · exact .inl h2
      · exact .inr ⟨j, q, hj, by rw [List.getElem?_append_left (by omega)]; exact hq, e⟩
    · have hi' : i = cf.length := by
        have := (List.getElem?_eq_some_iff.mp h).1
        simp at this; omega
      subst hi'
      have e : p = (w, b) := by simpa using h.symm
      subst e
      refine ⟨hb, ?_⟩
      rcases hp with hp | hp
      · exact .inl hp
      · obtain ⟨q, hq, e⟩ := List.mem_map.mp hp
        obtain ⟨j, hj, e2⟩ := List.mem_iff_getElem.mp hq
        refine .inr ⟨j, q, hj, ?_, e⟩
        rw [List.getElem?_append_left hj]
        exact List.getElem?_eq_some_iff.mpr ⟨hj, e2⟩
theorem Tree.path {ps : List (α × α)} {st : α} {cf : List (α × α)} (T : Tree ps st cf) : ∀ (n i : Nat) (p : α × α), i < n → cf[i]? = some p → Path ps st p.1 := by
  intro n
  induction n with
  | zero => intro i p h; omega
  | succ n ih =>
    intro i p hi h
    obtain ⟨h1, h2⟩ := T.par i p h
    rcases h2 with h2 | ⟨j, q, hj, hq, e⟩
    · rw [h2] at h1; exact .one h1
    · have := ih j q (by omega) hq
      rw [e] at this
      exact .snoc this h1
theorem Tree.path_mem {ps : List (α × α)} {st : α} {cf : List (α × α)} (T : Tree ps st cf) {k : α} (h : k ∈ cf.map (·.1)) : Path ps st k := by
  obtain ⟨q, hq, e⟩ := List.mem_map.mp h
  obtain ⟨j, hj, e2⟩ := List.mem_iff_getElem.mp hq
  have := T.path (j + 1) j q (by omega) (List.getElem?_eq_some_iff.mpr ⟨hj, e2⟩)
  rw [e] at this; exact this
def Full (ps : List (α × α)) (st : α) (cf : List (α × α)) : Prop := ∀ b, (b = st ∨ b ∈ cf.map (·.1)) → ∀ w, (b, w) ∈ ps → w ∈ cf.map (·.1)
theorem Tree.iff {ps : List (α × α)} {st : α} {cf : List (α × α)} (T : Tree ps st cf) (F : Full ps st cf) {k : α} : k ∈ cf.map (·.1) ↔ Path ps st k := by
  constructor
  · exact T.path_mem
  · intro h
    induction h with
    | one e => exact F _ (.inl rfl) _ e
    | snoc _ e ih => exact F _ (.inr ih) _ e
theorem nodup_sub_length {l m : List α} (h : l.Nodup) (hs : ∀ x ∈ l, x ∈ m) : l.length ≤ m.length := by
  induction l generalizing m with
  | nil => simp
  | cons x r ih =>
    have hx := hs x (by simp)
    have hn := (List.nodup_cons.mp h)
    have : r.length ≤ (m.erase x).length := ih hn.2 (fun y hy => by
      have hy' := hs y (by simp [hy])
      have ne : y ≠ x := fun e => hn.1 (e ▸ hy)
      exact (List.mem_erase_of_ne ne).mpr hy')
    rw [List.length_erase_of_mem hx] at this
    have hp : 0 < m.length := List.length_pos_of_mem hx
    simp; omega
theorem Tree.length {ps : List (α × α)} {st : α} {cf : List (α × α)} (T : Tree ps st cf) : cf.length ≤ ps.length := by
  have := nodup_sub_length T.nd (m := ps.map (·.2)) (fun x hx => (T.path_mem hx).snd)
  simpa using this
structure Lay (ps : List (α × α)) (st : α) (cf : List (α × α)) (rest further : List α) : Prop where
  tree : Tree ps st cf
  inR : ∀ b ∈ rest, b = st ∨ b ∈ cf.map (·.1)
  inF : ∀ b ∈ further, b ∈ cf.map (·.1)
  full : ∀ b, (b = st ∨ b ∈ cf.map (·.1)) → b ∈ rest ∨ b ∈ further ∨ ∀ w, (b, w) ∈ ps → w ∈ cf.map (·.1)
theorem Lay.start {ps : List (α × α)} {st : α} : Lay ps st [] [st] [] :=
  ⟨Tree.nil, fun b hb => .inl (by simpa using hb), fun b hb => by simp at hb, fun b hb => .inl (by simpa using hb)⟩
theorem Lay.next {ps : List (α × α)} {st : α} {cf : List (α × α)} {further : List α} (L : Lay ps st cf [] further) : Lay ps st cf further [] :=
  ⟨L.tree, fun b hb => .inr (L.inF b hb), fun b hb => by simp at hb, fun b hb => by
    rcases L.full b hb with h | h | h
    · simp at h
    · exact .inl h
    · exact .inr (.inr h)⟩
theorem Lay.done {ps : List (α × α)} {st : α} {cf : List (α × α)} (L : Lay ps st cf [] []) : Full ps st cf := fun b hb => by
  rcases L.full b hb with h | h | h
  · simp at h
  · simp at h
  · exact h
structure LayB (ps : List (α × α)) (st b : α) (pre : List α) (cf : List (α × α)) (rest further : List α) : Prop where
  tree : Tree ps st cf
  inR : ∀ c ∈ b :: rest, c = st ∨ c ∈ cf.map (·.1)
  inF : ∀ c ∈ further, c ∈ cf.map (·.1)
  pre : ∀ w ∈ pre, w ∈ cf.map (·.1)
  full : ∀ c, (c = st ∨ c ∈ cf.map (·.1)) → c = b ∨ c ∈ rest ∨ c ∈ further ∨ ∀ w, (c, w) ∈ ps → w ∈ cf.map (·.1)
theorem Lay.into {ps : List (α × α)} {st b : α} {cf : List (α × α)} {rest further : List α} (L : Lay ps st cf (b :: rest) further) : LayB ps st b [] cf rest further :=
  ⟨L.tree, L.inR, L.inF, fun w hw => by simp at hw, fun c hc => by
    rcases L.full c hc with h | h | h
    · rcases List.mem_cons.mp h with h | h
      · exact .inl h
      · exact .inr (.inl h)
    · exact .inr (.inr (.inl h))
    · exact .inr (.inr (.inr h))⟩
theorem LayB.out {ps : List (α × α)} {st b : α} {cf : List (α × α)} {rest further : List α} (L : LayB ps st b (worseOf ps b) cf rest further) : Lay ps st cf rest further :=
  ⟨L.tree, fun c hc => L.inR c (by simp [hc]), L.inF, fun c hc => by
    rcases L.full c hc with h | h | h | h
    · subst h
      exact .inr (.inr fun w hw => L.pre w (mem_worseOf.mpr hw))
    · exact .inl h
    · exact .inr (.inl h)
    · exact .inr (.inr h)⟩
theorem LayB.known {ps : List (α × α)} {st b w : α} {pre : List α} {cf : List (α × α)} {rest further : List α} (L : LayB ps st b pre cf rest further) (hw : w ∈ cf.map (·.1)) : LayB ps st b (pre ++ [w]) cf rest further :=
  ⟨L.tree, L.inR, L.inF, fun x hx => by
    rcases List.mem_append.mp hx with h | h
    · exact L.pre x h
    · rw [List.mem_singleton] at h; subst h; exact hw, L.full⟩
theorem LayB.more {ps : List (α × α)} {st b w : α} {pre : List α} {cf : List (α × α)} {rest further : List α} (L : LayB ps st b pre cf rest further) (hw : w ∉ cf.map (·.1)) (hb : (b, w) ∈ ps) :
    LayB ps st b (pre ++ [w]) (cf ++ [(w, b)]) rest (further ++ [w]) := by
  have up : ∀ c, c ∈ cf.map (·.1) → c ∈ (cf ++ [(w, b)]).map (·.1) := fun c hc => by rw [List.map_append]; exact List.mem_append_left _ hc
  have upw : w ∈ (cf ++ [(w, b)]).map (·.1) := by rw [List.map_append]; exact List.mem_append_right _ (by simp)
  refine ⟨L.tree.snoc hw hb (L.inR b (by simp)), fun c hc => (L.inR c hc).imp id (up c), fun c hc => ?_, fun c hc => ?_, fun c hc => ?_⟩
  · rcases List.mem_append.mp hc with h | h
    · exact up c (L.inF c h)
    · rw [List.mem_singleton] at h; subst h; exact upw
  · rcases List.mem_append.mp hc with h | h
    · exact up c (L.pre c h)
    · rw [List.mem_singleton] at h; subst h; exact upw
  · have hc' : c = st ∨ c ∈ cf.map (·.1) ∨ c = w := by
      rcases hc with h | h
      · exact .inl h
      · rw [List.map_append] at h
        rcases List.mem_append.mp h with h | h
        · exact .inr (.inl h)
        · exact .inr (.inr (by simpa using h))
    have old : (c = st ∨ c ∈ cf.map (·.1)) → c = b ∨ c ∈ rest ∨ c ∈ further ++ [w] ∨ ∀ x, (c, x) ∈ ps → x ∈ (cf ++ [(w, b)]).map (·.1) := fun hc => by
      rcases L.full c hc with h | h | h | h
      · exact .inl h
      · exact .inr (.inl h)
      · exact .inr (.inr (.inl (List.mem_append_left _ h)))
      · exact .inr (.inr (.inr fun x hx => up x (h x hx)))
    rcases hc' with h | h | h
    · exact old (.inl h)
    · exact old (.inr h)
    · exact .inr (.inr (.inl (by rw [h]; exact List.mem_append_right _ (by simp))))
end Ord
namespace War
end War
namespace Ord
variable {α : Type} [DecidableEq α]
theorem look_mem {cf : List (α × α)} {w b : α} (h : cf.lookup w = some b) : (w, b) ∈ cf := by
  induction cf with
  | nil => simp at h
  | cons p r ih =>
    obtain ⟨x, y⟩ := p
    rw [List.lookup_cons] at h
    by_cases e : w = x
    · subst e
      simp at h; subst h; exact List.mem_cons_self
    · have hb : (w == x) = false := beq_false_of_ne e
      rw [hb] at h
      exact List.mem_cons_of_mem _ (ih h)
end Ord
namespace L2
open PySem PySem.Spec PyProof.Rows Ord
abbrev prD (p : Str × Str) : Dt := .tup [.str p.1, .str p.2]
def Prs (K : PySem.W.Frag) (H : Hp) (a : Addr) (ps : List (Str × Str)) : Prop := ∃ vs, SqL K H a vs ∧ IsDts K H vs (ps.map prD)
theorem map_at {ls : List Str} {i : Nat} {x : V} (h : (ls.map V.str)[i]? = some x) : ∃ z, ls[i]? = some z ∧ x = V.str z := by
  rw [List.getElem?_map] at h
  obtain ⟨b, h1, h2⟩ := Option.map_eq_some_iff.mp h
  exact ⟨b, h1, h2.symm⟩
theorem one_le : ([] : List V).length + 1 ≤ sizeLine := by decide
theorem two_le : ([] : List V).length + 1 + 1 ≤ sizeLine := by decide
theorem Prs.same {K : PySem.W.Frag} {H H' : Hp} {a : Addr} {ps : List (Str × Str)} (e : Same H H') (h : Prs K H a ps) : Prs K H' a ps := by
  obtain ⟨vs, h1, h2⟩ := h
  exact ⟨vs, e.seq h1, h2.same e⟩
theorem pair_at {K : PySem.W.Frag} {H : Hp} {v : V} {p : Str × Str} (h : IsDt K H v (prD p)) : ∃ t, v = .ref t ∧ SqT K H t [.str p.1, .str p.2] := by
  cases h with
  | tup h t =>
    cases t with
    | cons h1 t =>
      cases t with
      | cons h2 t =>
        cases t
        cases h1; cases h2
        exact ⟨_, rfl, h⟩
theorem IsDts.pairs_get {K : PySem.W.Frag} {H : Hp} {vs : List V} {ps : List (Str × Str)} (h : IsDts K H vs (ps.map prD)) {i : Nat} {v : V} (hv : vs[i]? = some v) : ∃ p t, ps[i]? = some p ∧ v = .ref t ∧ SqT K H t [.str p.1, .str p.2] := by
  obtain ⟨d, hd, hi⟩ := h.get hv
  rw [List.getElem?_map] at hd
  cases e : ps[i]? with
  | none => rw [e] at hd; cases hd
  | some p =>
    rw [e] at hd
    cases hd
    obtain ⟨t, h1, h2⟩ := pair_at hi
    exact ⟨p, t, rfl, h1, h2⟩
abbrev kvR (ks : List (Str × Addr)) : List (Key × V) := ks.map fun p => (Sum.inr p.1, V.ref p.2)
abbrev kvS (cf : List (Str × Str)) : List (Key × V) := cf.map fun p => (Sum.inr p.1, V.str p.2)
theorem val_gen {β : Type} (g : β → V) : ∀ (ks : List (Str × β)) (k : Str), valV (ks.map fun p => ((Sum.inr p.1 : Key), g p.2)) (Sum.inr k) = (ks.lookup k).map g
  | [], _ => rfl
  | p :: r, k => by
    obtain ⟨x, y⟩ := p
    rw [List.map_cons, List.lookup_cons]
    by_cases e : k = x
    · subst e
      rw [valV_pos rfl]
      simp
    · have e' : ¬ ((Sum.inr x : Key) = Sum.inr k) := fun z => e (Sum.inr.inj z).symm
      rw [valV_neg e', val_gen g r k]
      have hb : (k == x) = false := beq_false_of_ne e
      rw [hb]
theorem val_R (ks : List (Str × Addr)) (k : Str) : valV (kvR ks) (Sum.inr k) = (ks.lookup k).map V.ref := val_gen V.ref ks k
theorem val_S (cf : List (Str × Str)) (k : Str) : valV (kvS cf) (Sum.inr k) = (cf.lookup k).map V.str := val_gen V.str cf k
theorem lookA_mem {β : Type} {ks : List (Str × β)} {k : Str} {a : β} (h : ks.lookup k = some a) : (k, a) ∈ ks := by
  induction ks with
  | nil => simp at h
  | cons p r ih =>
    obtain ⟨x, y⟩ := p
    rw [List.lookup_cons] at h
    by_cases e : k = x
    · subst e
      simp at h; subst h; exact List.mem_cons_self
    · have hb : (k == x) = false := beq_false_of_ne e
      rw [hb] at h
      exact List.mem_cons_of_mem _ (ih h)
theorem lookA_none {β : Type} {ks : List (Str × β)} {k : Str} (h : ks.lookup k = none) : k ∉ ks.map (·.1) := by
  induction ks with
  | nil => simp
  | cons p r ih =>
    obtain ⟨x, y⟩ := p
    rw [List.lookup_cons] at h
    by_cases e : k = x
    · subst e; simp at h
    · have hb : (k == x) = false := beq_false_of_ne e
      rw [hb] at h
      intro z
      rcases List.mem_cons.mp z with z | z
      · exact e z
      · exact ih h z
structure WBB (H : Hp) (d : Addr) (ps : List (Str × Str)) (ks : List (Str × Addr)) : Prop where
  dict : H d = some (.dK (kvR ks))
  nd : (ks.map (·.1)).Nodup
  lst : ∀ p ∈ ks, H p.2 = some (.lst ((worseOf ps p.1).map V.str))
  all : ∀ p ∈ ps, p.1 ∈ ks.map (·.1)
  adr : (ks.map (·.2)).Nodup
theorem WBB.same {H H' : Hp} {d : Addr} {ps : List (Str × Str)} {ks : List (Str × Addr)} (e : Same H H') (W : WBB H d ps ks) : WBB H' d ps ks :=
  ⟨e _ _ W.dict, W.nd, fun p hp => e _ _ (W.lst p hp), W.all, W.adr⟩
theorem WBB.ne {H : Hp} {d : Addr} {ps : List (Str × Str)} {ks : List (Str × Addr)} (W : WBB H d ps ks) {p : Str × Addr} (hp : p ∈ ks) : p.2 ≠ d := ne_of (W.lst p hp) W.dict (by intro z; cases z)
theorem WBB.start {H : Hp} {d : Addr} (h : H d = some (.dK [])) : WBB H d [] [] := ⟨h, List.nodup_nil, fun p hp => by simp at hp, fun p hp => by simp at hp, List.nodup_nil⟩
theorem WBB.worse {H : Hp} {d : Addr} {ps : List (Str × Str)} {ks : List (Str × Addr)} (W : WBB H d ps ks) {b : Str} : (∀ a, ks.lookup b = some a → H a = some (.lst ((worseOf ps b).map V.str))) ∧ (ks.lookup b = none → worseOf ps b = []) := by
  refine ⟨fun a h => W.lst _ (lookA_mem h), fun h => ?_⟩
  cases e : worseOf ps b with
  | nil => rfl
  | cons w r =>
    have : w ∈ worseOf ps b := by rw [e]; exact List.mem_cons_self
    exact absurd (W.all _ (mem_worseOf.mp this)) (lookA_none h)
theorem WBB.known {H : Hp} {d a : Addr} {ps : List (Str × Str)} {ks : List (Str × Addr)} (W : WBB H d ps ks) {b w : Str} (h : ks.lookup b = some a) : WBB (upd H a (.lst ((worseOf ps b).map V.str ++ [.str w]))) d (ps ++ [(b, w)]) ks := by
  have hm := lookA_mem h
  refine ⟨by rw [upd_ne (W.ne hm).symm]; exact W.dict, W.nd, fun p hp => ?_, fun p hp => ?_, W.adr⟩
  · rw [worseOf_snoc]
    by_cases e : b = p.1
    · rw [if_pos e]
      have ep : p = (b, a) := by
        obtain ⟨i, hi, e1⟩ := List.mem_iff_getElem.mp hp
        obtain ⟨j, hj, e2⟩ := List.mem_iff_getElem.mp hm
        have h1 : (ks.map (·.1))[i]'(by simpa using hi) = (ks.map (·.1))[j]'(by simpa using hj) := by simp [e1, e2, e]
        have h2 := (List.getElem_inj W.nd).mp h1
        subst h2
        rw [← e1, e2]
      subst ep
      rw [upd_same, List.map_append]
      rfl
    · rw [if_neg e]
      have na : p.2 ≠ a := fun z => by
        obtain ⟨i, hi, e1⟩ := List.mem_iff_getElem.mp hp
        obtain ⟨j, hj, e2⟩ := List.mem_iff_getElem.mp hm
        have h1 : (ks.map (·.2))[i]'(by simpa using hi) = (ks.map (·.2))[j]'(by simpa using hj) := by simp [e1, e2, z]
        have h2 := (List.getElem_inj W.adr).mp h1
        subst h2
        rw [e1] at e2
        exact e (by rw [e2])
      rw [upd_ne na]
      exact W.lst p hp
  · rcases List.mem_append.mp hp with hp | hp
    · exact W.all p hp
    · rw [List.mem_singleton] at hp; subst hp
      exact List.mem_map.mpr ⟨_, hm, rfl⟩
theorem WBB.more {H : Hp} {d a : Addr} {ps : List (Str × Str)} {ks : List (Str × Addr)} (W : WBB H d ps ks) {b w : Str} (h : ks.lookup b = none) (ha : H a = none) : WBB (upd (upd (upd H a (.lst [])) d (.dK (putK (kvR ks) (Sum.inr b) (.ref a)))) a (.lst ([] ++ [.str w]))) d (ps ++ [(b, w)]) (ks ++ [(b, a)]) := by
  have nda : d ≠ a := ne_of_none W.dict ha
  have hn := lookA_none h
  have hv : valV (kvR ks) (Sum.inr b) = none := by rw [val_R, h]; rfl
  refine ⟨?_, ?_, fun p hp => ?_, fun p hp => ?_, ?_⟩
  · rw [upd_ne nda, upd_same, putK_new _ hv]
    simp [kvR]
  · rw [List.map_append]; exact nodup_snoc W.nd hn
  · rw [worseOf_snoc]
    rcases List.mem_append.mp hp with hp | hp
    · have e : ¬ b = p.1 := fun z => hn (z ▸ List.mem_map.mpr ⟨p, hp, rfl⟩)
      have na : p.2 ≠ a := ne_of_none (W.lst p hp) ha
      rw [if_neg e, upd_ne na, upd_ne (W.ne hp), upd_ne na]
      exact W.lst p hp
    · rw [List.mem_singleton] at hp; subst hp
      rw [if_pos rfl, W.worse.2 h, upd_same]
      rfl
  · rw [List.map_append]
    rcases List.mem_append.mp hp with hp | hp
    · exact List.mem_append_left _ (W.all p hp)
    · rw [List.mem_singleton] at hp; subst hp
      exact List.mem_append_right _ (by simp)
  · rw [List.map_append]
    refine nodup_snoc W.adr fun z => ?_
    obtain ⟨p, hp, e⟩ := List.mem_map.mp z
    exact ne_of_none (W.lst p hp) ha e
end L2
namespace L2
open PySem PySem.Spec PyProof.Rows Ord
theorem IsDts.of_get {K : PySem.W.Frag} {H : Hp} : ∀ {vs : List V} {ds : List Dt}, vs.length = ds.length → (∀ (n : Nat) v d, vs[n]? = some v → ds[n]? = some d → IsDt K H v d) → IsDts K H vs ds
  | [], [], _, _ => .nil
  | v :: vs, d :: ds, hl, h => .cons (h 0 v d rfl rfl) (IsDts.of_get (by simpa using hl) fun n x y e1 e2 => h (n + 1) x y (by simpa using e1) (by simpa using e2))
structure Tups (H : Hp) (ts : List Addr) (ps : List (Str × Str)) : Prop where
  len : ts.length = ps.length
  at_ : ∀ (n : Nat) t p, ts[n]? = some t → ps[n]? = some p → H t = some (.tup [.str p.1, .str p.2])
theorem Tups.nil {H : Hp} : Tups H [] [] := ⟨rfl, fun n t p h => by simp at h⟩
theorem Tups.same {H H' : Hp} {ts : List Addr} {ps : List (Str × Str)} (e : Same H H') (h : Tups H ts ps) : Tups H' ts ps := ⟨h.len, fun n t p h1 h2 => e _ _ (h.at_ n t p h1 h2)⟩
theorem Tups.dts {K : PySem.W.Frag} {H : Hp} {ts : List Addr} {ps : List (Str × Str)} (h : Tups H ts ps) : IsDts K H (ts.map V.ref) (ps.map prD) := by
  refine IsDts.of_get (by simpa using h.len) fun n v d e1 e2 => ?_
  rw [List.getElem?_map] at e1 e2
  obtain ⟨t, h1, rfl⟩ := Option.map_eq_some_iff.mp e1
  obtain ⟨p, h2, rfl⟩ := Option.map_eq_some_iff.mp e2
  exact .tup (SqT.of (h.at_ n t p h1 h2)) (.cons (.str _) (.cons (.str _) .nil))
theorem Tups.prs {K : PySem.W.Frag} {H : Hp} {a : Addr} {ts : List Addr} {ps : List (Str × Str)} (h : Tups H ts ps) (e : H a = some (.lst (ts.map V.ref))) : Prs K H a ps := ⟨_, SqL.of e, h.dts⟩
theorem Tups.ne {H : Hp} {a : Addr} {xs : List V} {ts : List Addr} {ps : List (Str × Str)} (h : Tups H ts ps) (e : H a = some (.lst xs)) : a ∉ ts := fun z => by
  obtain ⟨n, hn, e1⟩ := List.mem_iff_getElem.mp z
  have hn' : n < ps.length := by rw [← h.len]; exact hn
  have := h.at_ n a ps[n] (by rw [List.getElem?_eq_getElem hn, e1]) (List.getElem?_eq_getElem hn')
  rw [e] at this
  cases this
theorem Tups.upd {H : Hp} {a : Addr} {o : HO} {ts : List Addr} {ps : List (Str × Str)} (h : Tups H ts ps) (e : a ∉ ts) : Tups (upd H a o) ts ps := ⟨h.len, fun n t p h1 h2 => by
  have ne : t ≠ a := fun z => by
    subst z
    exact e (List.mem_of_getElem? h1)
  rw [L2.upd_ne ne]
  exact h.at_ n t p h1 h2⟩
theorem Tups.snoc {H : Hp} {t : Addr} {ts : List Addr} {ps : List (Str × Str)} {p : Str × Str} (h : Tups H ts ps) (e : H t = some (.tup [.str p.1, .str p.2])) : Tups H (ts ++ [t]) (ps ++ [p]) := by
  refine ⟨by rw [List.length_append, List.length_append, h.len]; rfl, fun n t' p' h1 h2 => ?_⟩
  by_cases hn : n < ts.length
  · rw [List.getElem?_append_left hn] at h1
    rw [List.getElem?_append_left (by rw [← h.len]; exact hn)] at h2
    exact h.at_ n t' p' h1 h2
  · have hn2 : n = ts.length := by
      have := (List.getElem?_eq_some_iff.mp h1).1
      rw [List.length_append, List.length_singleton] at this; omega
    subst hn2
    rw [List.getElem?_append_right (Nat.le_refl _)] at h1
    rw [List.getElem?_append_right (by rw [h.len]; exact Nat.le_refl _)] at h2
    simp at h1
    simp [h.len] at h2
    subst h1; subst h2
    exact e
end L2
namespace L2
open PySem PySem.Spec PyProof.Rows
theorem comp_listI {K : PySem.W.Frag} {a : Addr} {xs : List V} {k : Nat} {caps : List Nat} {g : TG} {te : TE} {σ : St} {H1 : Hp} {Q : Addr → Hp → Prop} (Pv : Addr → Nat → List V → Hp → Prop)
    (h0 : ∀ D, H1 D = none → Pv D 0 [] (upd H1 D (.lst []))) (hq : ∀ D i ys H2, Pv D i ys H2 → SqL K H2 a xs)
    (hs : ∀ D i x ys H2 (R : VK), H1 D = none → xs[i]? = some x → Pv D i ys H2 → (∀ y H6, H6 D = some (.lst ys) → ys.length < sizeLine → Pv D (i + 1) (ys ++ [y]) (upd H6 D (.lst (ys ++ [y]))) → R y H6) → g x (compSt k caps σ) H2 fun σ4 H4 => te σ4 H4 R)
    (hd : ∀ D ys H2, H1 D = none → Pv D xs.length ys H2 → Q D H2) :
    ∀ D, H1 D = none → ∃ W : Nat → Nat → List V → Hp → Prop, (∃ m, W 0 m [] (upd H1 D (.lst []))) ∧ ∀ i m ys H2, W i m ys H2 →
      ((Itl K a).stop i H2 ∧ Q D H2) ∨ ((Itl K a).go i H2 ∧ ∀ x H3, (Itl K a).yld i H2 x H3 → g x (compSt k caps σ) H3 fun σ4 H4 => tYes σ4 H4 fun b H5 =>
        if b = true then te σ4 H5 fun y H6 => H6 D = some (.lst ys) ∧ ys.length < sizeLine ∧ ∃ m', m' < m ∧ W (i + 1) m' (ys ++ [y]) (upd H6 D (.lst (ys ++ [y]))) else ∃ m', m' < m ∧ W (i + 1) m' ys H5) := by
  intro D hD
  refine ⟨fun i m ys H2 => m = xs.length - i ∧ i ≤ xs.length ∧ Pv D i ys H2, ⟨xs.length, rfl, Nat.zero_le _, h0 D hD⟩, ?_⟩
  rintro i m ys H2 ⟨rfl, hi, p⟩
  have q2 := hq D i ys H2 p
  by_cases hlt : i < xs.length
  · refine .inr ⟨⟨xs, xs[i], q2, by simp [hlt]⟩, fun x H3 y => ?_⟩
    obtain ⟨rfl, y⟩ := y
    have hx := y xs q2
    refine hs D i x ys H3 _ hD hx p fun v H6 e6 hz p6 => ?_
    exact ⟨e6, hz, xs.length - (i + 1), by omega, rfl, hlt, p6⟩
  · have e : i = xs.length := by omega
    subst e
    exact .inl ⟨⟨xs, q2, Nat.le_refl _⟩, hd D ys H2 hD p⟩
end L2
namespace L2
open PySem PySem.Spec PyProof.Rows
theorem ObjOk.ex {P : Program} {w : World} {H : Hp} {h : Heap} {a : Addr} {o : HO} (x : ObjOk P w H h a o) : ∃ u, h.get? a = some u := by
  cases o with
  | lst xs => obtain ⟨_, _, _, _, e⟩ := x; exact ⟨_, e⟩
  | tup xs => obtain ⟨_, _, _, u, e, _⟩ := x; exact ⟨u, e⟩
  | dK kvs => obtain ⟨_, _, _, _, u, _, _, e, _⟩ := x; exact ⟨u, e⟩
  | dT kvs => obtain ⟨_, _, _, _, u, _, _, e, _⟩ := x; exact ⟨u, e⟩
  | set S n => obtain ⟨u, _, _, _, e, _⟩ := x; exact ⟨u, e⟩
  | ins C dx fs => obtain ⟨_, _, _, e, _⟩ := x; exact ⟨_, e⟩
  | own y => exact x
  | xd fs => obtain ⟨_, ⟨u, _, _, e, _⟩, _⟩ := x; exact ⟨u, e⟩
  | rng lo hi => obtain ⟨_, _, _, e⟩ := x; exact ⟨_, e⟩
  | frz ob u => obtain ⟨e, _⟩ := x; exact ⟨_, e⟩
  | tbl ps => exact ⟨_, (show h.get? a = some _ from x)⟩
  | met f y => exact ⟨_, (show h.get? a = some _ from x)⟩
  | ext φ => exact x.2.1
theorem Inv.freshN {X : Cx} {pins : List (Addr × Obj)} {σ : L2.St} {H : Hp} {s : Shared} {a : Addr} (I : Inv X pins σ H s) (hne : ∀ b u, s.heap.get? b = some u → b ≠ a) : H a = none := by
  cases e : H a with
  | none => rfl
  | some o =>
    obtain ⟨u, hu⟩ := (I.hok a o e).ex
    exact absurd rfl (hne a u hu)
theorem Inv.laidN {X : Cx} {pins : List (Addr × Obj)} {σ : L2.St} {H : Hp} {s : Shared} {h' : Heap} {a : Addr} {o : HO} {t' : Nat} (I : Inv X pins σ H s) (k : ∀ b u, s.heap.get? b = some u → h'.get? b = some u) (hne : ∀ b u, s.heap.get? b = some u → b ≠ a) (new : ObjOk X.prog X.w (upd H a o) h' a o) :
    Inv X pins σ (upd H a o) { s with heap := h', toks := t' } := by
  have hn := I.freshN hne
  refine I.un ⟨fun b u q _ _ _ => k b u q, fun b u q _ _ _ => ⟨u.slots, k b u q⟩, fun b u q n _ => by rw [upd_ne (hne b u q)]; exact n, fun b u q _ => ⟨u, k b u q⟩, fun b xs q => by rw [upd_ne (ne_of_none q hn)]; exact q, fun b u xs q => by rw [upd_ne (ne_of_none q hn)]; exact q, fun b ps q => ⟨#[], by rw [upd_ne (ne_of_none q hn), q]; simp⟩⟩ fun b u e => ?_
  by_cases hb : b = a
  · subst hb; rw [upd_same] at e; cases e; exact new
  · rw [upd_ne hb] at e
    exact (I.hok b u e).stay (fun c v _ q => k c v q) (fun c q => by rw [upd_ne (ne_of_none q hn)]; exact q) fun c xs q => by rw [upd_ne (ne_of_none q hn)]; exact q
def ltS (a b : Str) : Prop := a.cps.toList < b.cps.toList
theorem ltS_irrefl (a : Str) : ¬ ltS a a := List.lt_irrefl _
theorem ltS_trans {a b c : Str} (h : ltS a b) (k : ltS b c) : ltS a c := List.lt_trans h k
theorem ltS_total {a b : Str} (h : ¬ ltS b a) (ne : a ≠ b) : ltS a b := by
  have h1 : a.cps.toList ≤ b.cps.toList := List.not_lt.mp h
  rcases Classical.em (a.cps.toList < b.cps.toList) with h2 | h2
  · exact h2
  · have h3 : b.cps.toList ≤ a.cps.toList := List.not_lt.mp h2
    exact absurd (ext_toList (List.le_antisymm h1 h3)) ne
theorem rising_pw : ∀ (l : List Str) (p : Str), risingS p l = true → (p :: l).Nodup → (p :: l).Pairwise ltS
  | [], p, _, _ => by simp
  | q :: r, p, h, hn => by
    have h' : (!ltCps q.cps.toList p.cps.toList && risingS q r) = true := by simpa [risingS] using h
    rw [Bool.and_eq_true] at h'
    have hn2 := (List.nodup_cons.mp hn)
    have ih := rising_pw r q h'.2 hn2.2
    have hpq : ltS p q := ltS_total (fun z => by
      have := h'.1
      rw [ltCps_eq, decide_eq_true (show q.cps.toList < p.cps.toList from z)] at this
      cases this) fun z => hn2.1 (by rw [z]; exact List.mem_cons_self)
    refine List.pairwise_cons.mpr ⟨fun x hx => ?_, ih⟩
    rcases List.mem_cons.mp hx with e | hx
    · rw [e]; exact hpq
    · exact ltS_trans hpq ((List.pairwise_cons.mp ih).1 x hx)
theorem sorted_pw {l : List Str} (h : sortedS l = true) (hn : l.Nodup) : l.Pairwise ltS := by
  cases l with
  | nil => exact List.Pairwise.nil
  | cons p r => exact rising_pw r p h hn
theorem vals_of_strs : ∀ {vs : List Value} {ss : List Str}, StrsAre vs ss → Vals (ss.map V.str) vs
  | _, _, .nil => .nil
  | _, _, .cons _ _ h => .cons ⟨_, rfl⟩ (vals_of_strs h)
theorem strs_of {ss : List Str} : ∀ {vs : List Value}, vs.length = ss.length → (∀ (i : Nat) (v : Value), vs[i]? = some v → ∃ t, v = .str (ss.getD i default) t) → StrsAre vs ss := by
  induction ss with
  | nil => intro vs hl _; cases vs with
    | nil => exact .nil
    | cons _ _ => simp at hl
  | cons x r ih =>
    intro vs hl h
    cases vs with
    | nil => simp at hl
    | cons v vs =>
      obtain ⟨t, e⟩ := h 0 v rfl
      have e' : v = .str x t := e
      subst e'
      exact .cons _ _ (ih (by simpa using hl) fun i u hu => h (i + 1) u (by simpa using hu))
section
variable {prog : Program} {w : World} {A : Around} {E : Value → Shared → Prop} {s : Shared}
theorem sorted_dictS {d : Addr} {kvs : List (Key × Value)} {ss : List Str} {Q : Value → Shared → Prop} (hh : A.handled = none) (dd : s.heap.DictOf (mixKind prog w) d kvs) (lo : (d == sysModules) = false)
    (hk : kvs.map (·.1) = ss.map Sum.inr) (h64 : ss.length < 64)
    (h : ∀ (D : Addr) (h' : Heap) (tk n : Nat) (out : List Value) (ss' : List Str), (∀ b o, s.heap.get? b = some o → h'.get? b = some o) → (∀ b o, s.heap.get? b = some o → b ≠ D) → h'.get? D = some { cls := .type "list", data := .seq out.toArray n } → Vals (ss'.map V.str) out → ss'.Perm ss → sortedS ss' = true → Q (.ref D) { s with heap := h', toks := tk }) :
    wpAny (model prog w) A (call (.builtin "sorted") [.ref d]) Q E s := by
  have hlk : kvs.length = ss.length := by have := congrArg List.length hk; simpa using this
  have hn : kvs.length ≤ sizeLine := Nat.le_of_lt (small1000 (by omega))
  obtain ⟨ep, hat⟩ := dd.dictAt
  refine Calls.call_function_entry kind_sorted plain_sorted entry_sorted (args_sorted1 _) ?_
  unfold Builtin.«sorted»
  refine wpAny_bind (m := checkCount "sorted" 1 1 _) (wpAny_pure ?_)
  refine wpAny_bind (PySem.W.kdu_collect (A := A.in1) (PySem.W.kdl_dict (knd := mixKind prog w) (kvs := kvs) (ep := ep) lo) hh hat hn fun h1 tk acc k1 hacc => ?_)
  have la : acc.toList.length = ss.length := by rw [Array.length_toList, hacc.1, hlk]
  have hS : StrsAre acc.toList ss := strs_of la fun i v hv => by
    obtain ⟨k, x, e1, e2⟩ := hacc.2 i v (by rw [← Array.getElem?_toList]; exact hv)
    have e3 : (kvs.map (·.1))[i]? = some k := by rw [List.getElem?_map, e1]; rfl
    rw [hk, List.getElem?_map] at e3
    obtain ⟨z, e4, e5⟩ := Option.map_eq_some_iff.mp e3
    have e2' : keyIs k v = true := e2
    rw [← e5] at e2'
    obtain ⟨t, e6⟩ := Value.isStrOf_shape e2'
    exact ⟨t, by rw [e6, List.getD_eq_getElem?_getD, e4]; rfl⟩
  refine wpAny_bind (wpAny_newList ?_ (by rw [la]; exact Nat.le_of_lt (small1000 (by omega))))
  have hoL : (h1.push { cls := .type "list", data := .seq acc.toList.toArray }).get? h1.objs.size = some (seqObj "list" acc.toList.toArray 0) := Heap.get?_push_size _ rfl
  refine wpAny_bind (wpAny_holding (wpAny_call_entry slot_list_sort ⟨_, hoL, rfl⟩ entry_list_sort (list_sort_treeK strKind_oneLt hoL hS.keysOf (fun v₁ v₂ rest e => keyKind_strs (by rw [← e]; exact hS)) (by rw [la]; exact h64) fun st' a1 a2 => ⟨_, rfl, ?_⟩) (args_list_sort _)))
  obtain ⟨ss', b1, b2, b3⟩ := sorted_out_str hS a1 a2
  obtain ⟨n, hg⟩ := sortedHeap_at (vs := acc.toList) (out := (arrOf st').map (·.2)) hoL
  have szle : ∀ b o, s.heap.get? b = some o → b ≠ h1.objs.size := fun b o e => Nat.ne_of_lt (Heap.lt_size (k1 b o e))
  refine wpAny_pure ⟨_, rfl, h h1.objs.size _ tk n _ ss' (fun b o e => ?_) szle (by rw [Array.toArray_toList]; exact hg) (vals_of_strs b1) b2 b3⟩
  have hb := Heap.lt_size (k1 b o e)
  rw [sortedHeap_old (Nat.ne_of_lt hb) (by rw [Heap.size_push]; exact Nat.lt_succ_of_lt hb)]
  exact Heap.get?_push_of_some _ (k1 b o e)
end
section
variable {X : Cx}
def rSortD : List V → Hp → VK → Prop := fun vs H Q => ∃ (d : Addr) (kvs : List (Key × V)) (ss : List Str), vs = [.ref d] ∧ H d = some (.dK kvs) ∧ kvs.map (·.1) = ss.map Sum.inr ∧ ss.length < 64 ∧ ∀ D ss', ss'.Perm ss → sortedS ss' = true → H D = none → Q (.ref D) (upd H D (.lst (ss'.map V.str)))
theorem call_sortD (hc : X.calm = true) : CallR X (.builtin "sorted") rSortD := by
  intro pins s σ H vs us Q I r h
  obtain ⟨d, kvs, ss, rfl, hd, hk, h64, q⟩ := h
  obtain ⟨u, rfl, ru⟩ := vals1 r
  obtain rfl : u = Value.ref d := ru
  obtain ⟨z, hm, ws, rel, dd⟩ := dk_of I.hok hd
  refine sorted_dictS (I.ok.hd hc) dd hm (ss := ss) (by rw [← rel.keys]; exact hk) h64 fun D h' tk n out ss' kk hD hg rv hp hs => ?_
  have hlen : (ss'.map V.str).length ≤ sizeLine := by rw [List.length_map, hp.length_eq]; exact Nat.le_of_lt (small1000 (by omega))
  exact ⟨.ref D, upd H D (.lst (ss'.map V.str)), I.laidN (t' := tk) kk hD ⟨hlen, out, n, rv, hg⟩, rfl, q D ss' hp hs (I.freshN hD)⟩
end
end L2
namespace HT
open PySem PyProof.Rows
section
open PySem.SeqAt
open PySem.AutoSeq1 (wpAny_loadPart')
open PySem.MeetsSeq PySem.MeetsSeq2 PySem.MeetsSeq3
end
section
variable {prog : Program} {w : World} {A : Around} {E : Value → Shared → Prop} {s : Shared}
end
end HT
namespace L2
open PySem PySem.Spec PyProof.Rows
section
variable {X : Cx}
theorem strsAre_of {ss : List Str} : ∀ {us : List Value}, Vals (ss.map V.str) us → StrsAre us ss := by
  induction ss with
  | nil => intro us h; cases h; exact .nil
  | cons x r ih =>
    intro us h
    cases h with
    | cons a b =>
      obtain ⟨t, rfl⟩ := a
      exact .cons _ _ (ih b)
end
end L2
namespace L2
end L2
namespace KasM
open PySem PySem.W PyProof.Rows
set_option autoImplicit false
def Tw {α : Type} (lt : Nat → Nat → Bool) (n : Nat) : KasT α → (α → Prop) → Prop
  | .ret a, Q => Q a
  | .ask i j k, Q => i < n ∧ j < n ∧ Tw lt n (k (lt i j)) Q
theorem Tw_bind {α β : Type} {lt : Nat → Nat → Bool} {n : Nat} {f : α → KasT β} {Q : β → Prop} : ∀ (t : KasT α), Tw lt n t (fun a => Tw lt n (f a) Q) → Tw lt n (t.bind f) Q
  | .ret _, h => h
  | .ask _ _ k, ⟨h1, h2, h3⟩ => ⟨h1, h2, Tw_bind (k _) h3⟩
theorem Tw_mono {α : Type} {lt : Nat → Nat → Bool} {n : Nat} {Q Q' : α → Prop} (hq : ∀ a, Q a → Q' a) : ∀ (t : KasT α), Tw lt n t Q → Tw lt n t Q'
  | .ret a, h => hq a h
  | .ask _ _ k, ⟨h1, h2, h3⟩ => ⟨h1, h2, Tw_mono hq (k _) h3⟩
theorem Tw_wp {α : Type} {lt : Nat → Nat → Bool} {n : Nat} {cmp : Nat → Nat → (Bool → Shared → Prop) → Shared → Prop} {s : Shared} {Q : α → Shared → Prop} (hc : ∀ i j C, i < n → j < n → C (lt i j) s → cmp i j C s) :
    ∀ (t : KasT α), Tw lt n t (fun a => Q a s) → t.kasWp cmp Q s
  | .ret _, h => h
  | .ask _ _ k, ⟨h1, h2, h3⟩ => hc _ _ _ h1 h2 (Tw_wp hc (k _) h3)
section
variable {O : KeyOrd} {key : Nat → O.α} {n : Nat}
def K (key : Nat → O.α) (p : Array Nat) (i : Nat) : O.α := key (p.getD i 0)
def Asc (key : Nat → O.α) (p : Array Nat) (k : Nat) : Prop := ∀ i, i + 1 < k → O.kle (K key p i) (K key p (i + 1))
def Dsc (key : Nat → O.α) (p : Array Nat) (k : Nat) : Prop := ∀ i, i + 1 < k → O.kle (K key p (i + 1)) (K key p i)
def Pm (n : Nat) (p : Array Nat) : Prop := p.Perm (List.range n).toArray
theorem Pm.size {p : Array Nat} (h : Pm n p) : p.size = n := by have := h.size_eq; simpa using this
theorem Pm.lt {p : Array Nat} (h : Pm n p) (hn : 0 < n) (i : Nat) : p.getD i 0 < n := by
  by_cases hi : i < p.size
  · have e : p.getD i 0 = p[i] := by simp [Array.getD, hi]
    rw [e]
    have : p[i] ∈ p := Array.getElem_mem hi
    have h2 := h.mem_iff.mp this
    simpa using h2
  · have e : p.getD i 0 = 0 := by simp [Array.getD, hi]
    rw [e]; exact hn
theorem getD_rev {p : Array Nat} {i j : Nat} (hj : j ≤ p.size) (k : Nat) : (kas_rev p i j).getD k 0 = if i ≤ k ∧ k < j then p.getD (i + j - 1 - k) 0 else p.getD k 0 := by
  unfold kas_rev
  simp only [Array.getD_eq_getD_getElem?]
  rw [getElem?_mirror_all hj]
  split <;> rfl
theorem getD_bub {p : Array Nat} {k l : Nat} (hk : k < p.size) (hl : l ≤ k) (t : Nat) : (bubble p k (k - l)).getD t 0 = if t = l then p.getD k 0 else if l < t ∧ t ≤ k then p.getD (t - 1) 0 else p.getD t 0 := by
  simp only [Array.getD_eq_getD_getElem?]
  rw [getElem?_bubble hk _ (by omega)]
  rw [show k - (k - l) = l by omega]
  split
  · rfl
  · split <;> rfl
theorem Pm.rev {p : Array Nat} (h : Pm n p) (i j : Nat) : Pm n (kas_rev p i j) := (mirror_perm _ _ _ _).trans h
theorem Pm.bub {p : Array Nat} (h : Pm n p) (i j : Nat) : Pm n (bubble p i j) := (bubble_perm _ _ _).trans h
theorem K_rev {p : Array Nat} {i j : Nat} (hj : j ≤ p.size) (k : Nat) : K key (kas_rev p i j) k = if i ≤ k ∧ k < j then K key p (i + j - 1 - k) else K key p k := by
  unfold K; rw [getD_rev hj]; split <;> rfl
theorem K_rev_eq {p : Array Nat} {i j : Nat} (hj : j ≤ p.size) (he : ∀ k, i ≤ k → k < j → K key p k = K key p (j - 1)) (k : Nat) : K key (kas_rev p i j) k = K key p k := by
  rw [K_rev hj]
  split
  · rw [he _ (by omega) (by omega), he k (by omega) (by omega)]
  · rfl
theorem K_bub {p : Array Nat} {k l : Nat} (hk : k < p.size) (hl : l ≤ k) (t : Nat) : K key (bubble p k (k - l)) t = if t = l then K key p k else if l < t ∧ t ≤ k then K key p (t - 1) else K key p t := by
  unfold K; rw [getD_bub hk hl]; split
  · rfl
  · split <;> rfl
theorem Asc.le {p : Array Nat} {k : Nat} (h : Asc key p k) {i : Nat} : ∀ (d : Nat), i + d < k → O.kle (K key p i) (K key p (i + d))
  | 0, _ => KeyOrd.kle_refl _
  | d + 1, hd => KeyOrd.kle_trans (h.le d (by omega)) (h (i + d) (by omega))
theorem Asc.le' {p : Array Nat} {k : Nat} (h : Asc key p k) {i j : Nat} (hij : i ≤ j) (hj : j < k) : O.kle (K key p i) (K key p j) := by
  have := h.le (i := i) (j - i) (by omega)
  rwa [show i + (j - i) = j by omega] at this
abbrev lt (O : KeyOrd) (key : Nat → O.α) (i j : Nat) : Bool := O.blt (key i) (key j)
theorem asc_ok {p : Array Nat} (hp : Pm n p) (h0 : 0 < n) : ∀ (f a : Nat), 1 ≤ a → Tw (lt O key) n (kas_asc p f a) fun m => a ≤ m ∧ m ≤ a + f ∧ (∀ i, a - 1 ≤ i → i + 1 < m → O.kle (K key p i) (K key p (i + 1))) ∧ (m < a + f → O.klt (K key p m) (K key p (m - 1)))
  | 0, a, _ => ⟨Nat.le_refl _, Nat.le_refl _, fun i h1 h2 => by omega, fun h => by omega⟩
  | f + 1, a, ha => by
    refine ⟨hp.lt h0 _, hp.lt h0 _, ?_⟩
    cases hc : lt O key (p.getD a 0) (p.getD (a - 1) 0) with
    | true =>
      simp only [if_true]
      exact ⟨Nat.le_refl _, by omega, fun i h1 h2 => by omega, fun _ => hc⟩
    | false =>
      simp only [Bool.false_eq_true, if_false]
      refine Tw_mono ?_ _ (asc_ok hp h0 f (a + 1) (by omega))
      rintro m ⟨h1, h2, h3, h4⟩
      refine ⟨by omega, by omega, fun i h5 h6 => ?_, fun h => h4 (by omega)⟩
      by_cases e : i = a - 1
      · subst e
        rw [show a - 1 + 1 = a by omega]
        exact hc
      · exact h3 i (by omega) h6
theorem desc_ok (h0 : 0 < n) : ∀ (f : Nat) (p : Array Nat) (a q : Nat), Pm n p → a + f ≤ n → Dsc key p a → q + 1 ≤ a → (∀ k, a - (q + 1) ≤ k → k < a → K key p k = K key p (a - 1)) →
    Tw (lt O key) n (kas_desc f p a q) fun r => Pm n r.1 ∧ a ≤ r.2.1 ∧ r.2.1 ≤ a + f ∧ Dsc key r.1 r.2.1 ∧ r.2.2 + 1 ≤ r.2.1 ∧ (∀ k, r.2.1 - (r.2.2 + 1) ≤ k → k < r.2.1 → K key r.1 k = K key r.1 (r.2.1 - 1))
  | 0, p, a, q, hp, _, hd, hq, he => ⟨hp, Nat.le_refl _, Nat.le_refl _, hd, hq, he⟩
  | f + 1, p, a, q, hp, hf, hd, hq, he => by
    have hz := hp.size
    refine ⟨hp.lt h0 _, hp.lt h0 _, ?_⟩
    cases hc : lt O key (p.getD a 0) (p.getD (a - 1) 0) with
    | true =>
      have hc' : O.klt (K key p a) (K key p (a - 1)) := hc
      have hd' : Dsc key p (a + 1) := fun i hi => by
        by_cases e : i + 1 = a
        · rw [e]; have : i = a - 1 := by omega
          rw [this]; exact KeyOrd.kle_of_klt hc'
        · exact hd i (by omega)
      simp only [if_true]
      by_cases hq0 : q > 0
      · rw [if_pos hq0]
        have kk := K_rev_eq (key := key) (p := p) (i := a - (q + 1)) (j := a) (by omega) he
        refine Tw_mono ?_ _ (desc_ok h0 f _ (a + 1) 0 (hp.rev _ _) (by omega) (fun i hi => by rw [kk, kk]; exact hd' i hi) (by omega) (fun k h1 h2 => by rw [show k = a + 1 - 1 by omega]))
        rintro r ⟨b1, b2, b3, b4, b5, b6⟩
        exact ⟨b1, by omega, by omega, b4, b5, b6⟩
      · rw [if_neg hq0]
        refine Tw_mono ?_ _ (desc_ok h0 f _ (a + 1) 0 hp (by omega) hd' (by omega) (fun k h1 h2 => by rw [show k = a + 1 - 1 by omega]))
        rintro r ⟨b1, b2, b3, b4, b5, b6⟩
        exact ⟨b1, by omega, by omega, b4, b5, b6⟩
    | false =>
      have hc' : O.kle (K key p (a - 1)) (K key p a) := hc
      simp only [Bool.false_eq_true, if_false]
      refine ⟨hp.lt h0 _, hp.lt h0 _, ?_⟩
      cases hc2 : lt O key (p.getD (a - 1) 0) (p.getD a 0) with
      | true =>
        simp only [if_true]
        exact ⟨hp, Nat.le_refl _, Nat.le_add_right _ _, hd, hq, he⟩
      | false =>
        have hc2' : O.kle (K key p a) (K key p (a - 1)) := hc2
        have ee : K key p a = K key p (a - 1) := KeyOrd.kle_antisymm hc2' hc'
        simp only [Bool.false_eq_true, if_false]
        refine Tw_mono ?_ _ (desc_ok h0 f _ (a + 1) (q + 1) hp (by omega) (fun i hi => ?_) (by omega) (fun k h1 h2 => ?_))
        · rintro r ⟨b1, b2, b3, b4, b5, b6⟩
          exact ⟨b1, by omega, by omega, b4, b5, b6⟩
        · by_cases e : i + 1 = a
          · rw [e]; have : i = a - 1 := by omega
            rw [this]; exact hc2'
          · exact hd i (by omega)
        · rw [show a + 1 - 1 = a by omega]
          by_cases e : k = a
          · rw [e]
          · rw [he k (by omega) (by omega), ee]
abbrev Cnt (key : Nat → O.α) (n : Nat) (r : Nat × Array Nat) : Prop := Pm n r.2 ∧ 1 ≤ r.1 ∧ r.1 ≤ n ∧ Asc key r.2 r.1
theorem tail3_ok (h0 : 0 < n) {p : Array Nat} {a : Nat} (hp : Pm n p) (h1 : 1 ≤ a) (ha : a ≤ n) (hd : Dsc key p a) : Tw (lt O key) n (kas_tail3 a n p) (Cnt key n) := by
  unfold kas_tail3
  have hz := hp.size
  have kk := K_rev (key := key) (p := p) (i := 0) (j := a) (by omega)
  refine Tw_bind _ (Tw_mono ?_ _ (asc_ok (O := O) (key := key) (hp.rev 0 a) h0 (n - a) a h1))
  rintro m ⟨b1, b2, b3, _⟩
  refine ⟨hp.rev _ _, by show 1 ≤ m; omega, by show m ≤ n; omega, fun i hi => ?_⟩
  have hi' : i + 1 < m := hi
  by_cases e : a - 1 ≤ i
  · exact b3 i e hi'
  · show O.kle (K key (kas_rev p 0 a) i) (K key (kas_rev p 0 a) (i + 1))
    rw [kk, kk, if_pos (by omega), if_pos (by omega)]
    have := hd (0 + a - 1 - (i + 1)) (by omega)
    rwa [show 0 + a - 1 - (i + 1) + 1 = 0 + a - 1 - i by omega] at this
theorem descPart_ok (h0 : 0 < n) {p : Array Nat} {a : Nat} (hp : Pm n p) (h1 : 1 ≤ a) (ha : a + 1 ≤ n) (hd : Dsc key p (a + 1)) : Tw (lt O key) n (kas_descPart a n p) (Cnt key n) := by
  unfold kas_descPart
  refine Tw_bind _ (Tw_mono ?_ _ (desc_ok (O := O) (key := key) h0 (n - (a + 1)) p (a + 1) 0 hp (by omega) hd (by omega) (fun k h1 h2 => by rw [show k = a + 1 - 1 by omega])))
  rintro ⟨p', m, q⟩ ⟨b1, b2, b3, b4, b5, b6⟩
  dsimp only at b1 b2 b3 b4 b5 b6 ⊢
  have hz := b1.size
  split
  · have kk := K_rev_eq (key := key) (p := p') (i := m - (q + 1)) (j := m) (by omega) b6
    exact tail3_ok h0 (b1.rev _ _) (by omega) (by omega) fun i hi => by rw [kk, kk]; exact b4 i hi
  · exact tail3_ok h0 b1 (by omega) (by omega) b4
theorem count_ok (h0 : 0 < n) {p : Array Nat} (hp : Pm n p) : Tw (lt O key) n (kas_count n p) (Cnt key n) := by
  unfold kas_count
  have hz := hp.size
  refine Tw_bind _ (Tw_mono ?_ _ (asc_ok (O := O) (key := key) hp h0 (n - 1) 1 (Nat.le_refl _)))
  rintro m ⟨b1, b2, b3, b4⟩
  have asc : Asc key p m := fun i hi => b3 i (by omega) hi
  by_cases e1 : (m == n) = true
  · rw [if_pos e1]
    exact ⟨hp, b1, by show m ≤ n; omega, asc⟩
  · rw [if_neg e1]
    have hlt : m < n := by
      have : m ≠ n := fun q => e1 (by rw [q]; exact beq_self_eq_true _)
      omega
    have hk := b4 (by omega)
    by_cases e2 : m > 1
    · rw [if_pos e2]
      refine ⟨hp.lt h0 _, hp.lt h0 _, ?_⟩
      cases hc : lt O key (p.getD 0 0) (p.getD (m - 1) 0) with
      | true =>
        simp only [if_true]
        exact ⟨hp, b1, by show m ≤ n; omega, asc⟩
      | false =>
        have hc' : O.kle (K key p (m - 1)) (K key p 0) := hc
        simp only [Bool.false_eq_true, if_false]
        have he : ∀ k, 0 ≤ k → k < m → K key p k = K key p (m - 1) := fun k _ h2 =>
          KeyOrd.kle_antisymm (asc.le' (by omega) (by omega)) (KeyOrd.kle_trans hc' (asc.le' (by omega) h2))
        have kk := K_rev_eq (key := key) (p := p) (i := 0) (j := m) (by omega) he
        refine descPart_ok h0 (hp.rev _ _) b1 (by omega) fun i hi => ?_
        rw [kk, kk]
        by_cases e : i + 1 = m
        · rw [e, show i = m - 1 by omega]; exact KeyOrd.kle_of_klt hk
        · rw [he i (by omega) (by omega), he (i + 1) (by omega) (by omega)]; exact KeyOrd.kle_refl _
    · rw [if_neg e2]
      refine descPart_ok h0 hp b1 (by omega) fun i hi => ?_
      have : m = 1 := by omega
      subst this
      obtain rfl : i = 0 := by omega
      exact KeyOrd.kle_of_klt hk
theorem place_ok (h0 : 0 < n) {p : Array Nat} {k : Nat} (hp : Pm n p) (ha : Asc key p k) : ∀ (f l r : Nat), r - l ≤ f → l ≤ r → r ≤ k → (∀ i, i < l → O.kle (K key p i) (K key p k)) → (∀ i, r ≤ i → i < k → O.klt (K key p k) (K key p i)) →
    Tw (lt O key) n (kas_place p k f l r) fun m => m ≤ k ∧ (∀ i, i < m → O.kle (K key p i) (K key p k)) ∧ (∀ i, m ≤ i → i < k → O.klt (K key p k) (K key p i))
  | 0, l, r, hf, hl, hr, h1, h2 => ⟨by omega, h1, fun i a b => h2 i (by omega) b⟩
  | f + 1, l, r, hf, hl, hr, h1, h2 => by
    unfold kas_place
    by_cases e : l ≥ r
    · rw [if_pos e]
      exact ⟨by omega, h1, fun i a b => h2 i (by omega) b⟩
    · rw [if_neg e]
      refine ⟨hp.lt h0 _, hp.lt h0 _, ?_⟩
      cases hc : lt O key (p.getD k 0) (p.getD ((l + r) / 2) 0) with
      | true =>
        have hc' : O.klt (K key p k) (K key p ((l + r) / 2)) := hc
        simp only [if_true]
        exact place_ok h0 hp ha f l ((l + r) / 2) (by omega) (by omega) (by omega) h1 fun i a b => KeyOrd.klt_of_klt_of_kle hc' (ha.le' a b)
      | false =>
        have hc' : O.kle (K key p ((l + r) / 2)) (K key p k) := hc
        simp only [Bool.false_eq_true, if_false]
        exact place_ok h0 hp ha f ((l + r) / 2 + 1) r (by omega) (by omega) hr (fun i a => KeyOrd.kle_trans (ha.le' (by omega) (by omega)) hc') h2
theorem bin_ok (h0 : 0 < n) : ∀ (f : Nat) (p : Array Nat) (k : Nat), Pm n p → k + f = n → Asc key p k → Tw (lt O key) n (kas_bin f p k) fun p' => Pm n p' ∧ Asc key p' n
  | 0, p, k, hp, hk, ha => ⟨hp, by have : k = n := by omega
                                   rw [← this]; exact ha⟩
  | f + 1, p, k, hp, hk, ha => by
    have hz := hp.size
    unfold kas_bin
    refine Tw_bind _ (Tw_mono ?_ _ (place_ok (O := O) (key := key) h0 hp ha k 0 k (by omega) (by omega) (Nat.le_refl _) (fun i h => by omega) fun i a b => by omega))
    rintro l ⟨b1, b2, b3⟩
    have kk := K_bub (key := key) (p := p) (k := k) (l := l) (by omega) b1
    refine bin_ok h0 f _ (k + 1) (hp.bub _ _) (by omega) fun i hi => ?_
    rw [kk, kk]
    by_cases e1 : i = l
    · rw [if_pos e1, if_neg (by omega)]
      by_cases e2 : i + 1 ≤ k
      · rw [if_pos (by omega)]
        exact KeyOrd.kle_of_klt (b3 (i + 1 - 1) (by omega) (by omega))
      · omega
    · rw [if_neg e1]
      by_cases e2 : i + 1 = l
      · rw [if_pos e2, if_neg (by omega)]
        exact b2 i (by omega)
      · rw [if_neg e2]
        by_cases e3 : l < i
        · rw [if_pos (by omega), if_pos (by omega)]
          have := ha (i - 1) (by omega)
          rwa [show i - 1 + 1 = i + 1 - 1 by omega] at this
        · rw [if_neg (by omega), if_neg (by omega)]
          exact ha i (by omega)
theorem sort_ok (h0 : 0 < n) : Tw (lt O key) n (kas_sort n) fun p => Pm n p ∧ Asc key p n := by
  unfold kas_sort
  refine Tw_bind _ (Tw_mono ?_ _ (count_ok (O := O) (key := key) h0 (Array.Perm.refl _)))
  rintro ⟨m, p⟩ ⟨b1, b2, b3, b4⟩
  dsimp only at b1 b2 b3 b4 ⊢
  split
  · rw [show max m 1 = m by omega]
    exact bin_ok h0 _ _ _ b1 (by omega) b4
  · exact ⟨b1, by have : m = n := by omega
                  rw [← this]; exact b4⟩
end
end KasM
namespace L2
open PySem PySem.Spec PyProof.Rows
section
variable {prog : Program} {w : World} {A : Around} {E : Value → Shared → Prop} {s : Shared}
theorem list_sort_kas {O : KeyOrd} {key : Nat → O.α} {κ : SortKind} {a : Addr} {vs : List Value} {n : Nat} {P : PySem.Fin → Shared → Prop} (ho : s.heap.get? a = some (seqObj "list" vs.toArray n)) (h64 : vs.length < 64)
    (hkind : 2 ≤ vs.length → ∀ (h' : Heap), (∀ b o, b ≠ a → s.heap.get? b = some o → h'.get? b = some o) → ∀ (Q : SortKind → Shared → Prop), Q κ { s with heap := h' } → wpAny (model prog w) A (keyKind' vs.toArray) Q (fun _ _ => False) { s with heap := h' })
    (hcmp : ∀ (h' : Heap), (∀ b o, b ≠ a → s.heap.get? b = some o → h'.get? b = some o) → ∀ (i j : Nat) (C : Bool → Shared → Prop), i < vs.length → j < vs.length → C (O.blt (key i) (key j)) { s with heap := h' } → PySem.W.kas_ask prog w A κ vs i j C { s with heap := h' })
    (h : ∀ is : List Nat, is.Perm (List.range vs.length) → (∀ i, i + 1 < is.length → O.kle (key (is.getD i 0)) (key (is.getD (i + 1) 0))) → P (.done (.ret .none)) { s with heap := sortedHeap s.heap a vs (is.map fun i => vs.getD i Value.none).toArray }) :
    wpAny (model prog w) A (Builtin.«list.sort» ⟨[.ref a], []⟩) P E s := by
  rw [list_sort_plain]
  have ha : a < s.heap.objs.size := Heap.lt_size ho
  have hsz : vs.toArray.size = vs.length := by simp
  refine wpAny_bind (listItems_at ho rfl ?_)
  refine wpAny_bind (listUpdate_at ho rfl ?_ (by rw [List.size_toArray, sizeLine_eq]; omega) (Nat.zero_le _))
  obtain ⟨e1, ho1⟩ : ∃ e1, (s.heap.update a (Obj.mapSeq fun _ => #[])).get? a = some (seqObj "list" #[] e1) := ⟨_, get?_update_seq ho (fun _ => #[])⟩
  refine wpAny_bind (seqEpoch_at ho1 rfl ?_)
  refine wpAny_bind (wpAny_newTuple ?_ (by show vs.length ≤ _; rw [sizeLine_eq]; omega))
  refine wpAny_bind (wpAny_newList ?_ (Nat.zero_le _))
  refine wpAny_holding ?_
  have ho6 : (((s.heap.update a (Obj.mapSeq fun _ => #[])).push (seqObj "tuple" vs.toArray 0)).push (seqObj "list" #[] 0)).get? a = some (seqObj "list" #[] e1) := by
    rw [Heap.get?_push_ne _ _ _ (by rw [size_push', Heap.size_update]; exact Nat.ne_of_lt (Nat.lt_succ_of_lt ha)), Heap.get?_push_ne _ _ _ (by rw [Heap.size_update]; exact Nat.ne_of_lt ha)]
    exact ho1
  have keep : ∀ b o, b ≠ a → s.heap.get? b = some o → (((s.heap.update a (Obj.mapSeq fun _ => #[])).push (seqObj "tuple" vs.toArray 0)).push (seqObj "list" #[] 0)).get? b = some o := fun b o hb q => by
    refine Heap.get?_push_of_some _ (Heap.get?_push_of_some _ ?_)
    rw [Heap.get?_update_ne _ _ _ _ hb]; exact q
  show wpAny (model prog w) A _ P E { s with heap := ((s.heap.update a (Obj.mapSeq fun _ => #[])).push (seqObj "tuple" vs.toArray 0)).push (seqObj "list" #[] 0) }
  dsimp only
  by_cases h2 : vs.toArray.size < 2
  · rw [if_pos h2, if_pos h2]
    refine wpAny_bind (wpAny_pure ?_)
    rw [StateT.run_pure]
    refine wpAny_bind (wpAny_pure ?_)
    dsimp only
    refine wpAny_bind (seqEpoch_at ho6 rfl ?_)
    refine wpAny_bind (listUpdate_at ho6 rfl ?_ (Nat.zero_le _) (by rw [Array.size_map]; show (pairsOf vs).size ≤ _; rw [pairsOf_size, sizeLine_eq]; omega))
    simp only [bne_self_eq_false, Bool.false_eq_true, if_false]
    have := h (List.range vs.length) (List.Perm.refl _) (fun i hi => by rw [List.length_range] at hi; omega)
    have e : ((List.range vs.length).map fun i => vs.getD i Value.none).toArray = (arrOf (SortSt.mk' general' (vs.toArray.zip vs.toArray) #[] 7 none)).map (·.2) := by
      apply Array.toList_inj.mp
      show (List.range vs.length).map (fun i => vs.getD i Value.none) = ((vs.toArray.zip vs.toArray).map (·.2)).toList
      apply List.ext_getElem?
      intro k
      by_cases hk : k < vs.length
      · simp [hk, List.getD_eq_getElem?_getD]
      · simp [hk]
    rw [e] at this
    exact wpAny_pure this
  · rw [if_neg h2, if_neg h2]
    have h2' : 2 ≤ vs.length := by omega
    refine wpAny_bind (wpAny_mono (hkind h2' _ keep (fun κ' s' => κ' = κ ∧ s' = _) ⟨rfl, rfl⟩) ?_ fun _ _ x => x.elim)
    rintro κ' s' ⟨rfl, rfl⟩
    refine wpAny_bind (wpAny_mono (PySem.W.kat_run (Q := fun st' s' => ∃ p : Array Nat, arrOf st' = p.map (PySem.W.kas_item (vs.toArray.zip vs.toArray)) ∧ failedOf st' = none ∧ KasM.Pm vs.length p ∧ KasM.Asc key p vs.length ∧ s' = { s with heap := ((s.heap.update a (Obj.mapSeq fun _ => #[])).push (seqObj "tuple" vs.toArray 0)).push (seqObj "list" #[] 0) })
      (G := fun p s' => KasM.Pm vs.length p ∧ KasM.Asc key p vs.length ∧ s' = { s with heap := ((s.heap.update a (Obj.mapSeq fun _ => #[])).push (seqObj "tuple" vs.toArray 0)).push (seqObj "list" #[] 0) })
      rfl h2' h64 (fun p' st' s' a1 a2 a3 a4 => ⟨p', a2, a3, a4.1, a4.2.1, a4.2.2⟩)
      (KasM.Tw_wp (lt := KasM.lt O key) (n := vs.length) (hcmp _ keep) _ (KasM.Tw_mono (fun p hp => ⟨hp.1, hp.2, rfl⟩) _ (KasM.sort_ok (O := O) (key := key) (by omega))))) ?_ fun _ _ e => e)
    rintro ⟨⟨⟩, st'⟩ s' ⟨p, har, hf, hp, hasc, rfl⟩
    dsimp only
    have hout := PySem.W.kat_snds (ks := vs) (vs := vs) rfl har
    rw [hout]
    refine wpAny_bind (seqEpoch_at ho6 rfl ?_)
    refine wpAny_bind (listUpdate_at ho6 rfl ?_ (Nat.zero_le _) (by rw [List.size_toArray, List.length_map, Array.length_toList, hp.size, sizeLine_eq]; omega))
    rw [hf]
    simp only [bne_self_eq_false, Bool.false_eq_true, if_false]
    refine wpAny_pure (h p.toList (by have := Array.perm_iff_toList_perm.mp hp; simpa using this) fun i hi => ?_)
    have hz := hp.size
    have := hasc i (by simpa [hz] using hi)
    simpa [KasM.K, Array.getD_eq_getD_getElem?, List.getD_eq_getElem?_getD] using this
theorem sorted_kas {O : KeyOrd} {key : Nat → O.α} {κ : SortKind} {l : Addr} {vs : List Value} {Q : Value → Shared → Prop} (hl : s.heap.IsList l vs.toArray) (h64 : vs.length < 64)
    (hkind : 2 ≤ vs.length → ∀ (h' : Heap), (∀ b o, s.heap.get? b = some o → h'.get? b = some o) → ∀ (Q : SortKind → Shared → Prop), Q κ { s with heap := h' } → wpAny (model prog w) A.in1.in1 (keyKind' vs.toArray) Q (fun _ _ => False) { s with heap := h' })
    (hcmp : ∀ (h' : Heap), (∀ b o, s.heap.get? b = some o → h'.get? b = some o) → ∀ (i j : Nat) (C : Bool → Shared → Prop), i < vs.length → j < vs.length → C (O.blt (key i) (key j)) { s with heap := h' } → PySem.W.kas_ask prog w A.in1.in1 κ vs i j C { s with heap := h' })
    (h : ∀ (D : Addr) (h' : Heap) (n : Nat) (is : List Nat), (∀ b o, s.heap.get? b = some o → h'.get? b = some o) → (∀ b o, s.heap.get? b = some o → b ≠ D) → is.Perm (List.range vs.length) → (∀ i, i + 1 < is.length → O.kle (key (is.getD i 0)) (key (is.getD (i + 1) 0))) →
      h'.get? D = some (seqObj "list" (is.map fun i => vs.getD i Value.none).toArray n) → Q (.ref D) { s with heap := h' }) :
    wpAny (model prog w) A (call (.builtin "sorted") [.ref l]) Q E s := by
  refine Calls.call_function_entry kind_sorted plain_sorted entry_sorted (args_sorted1 _) ?_
  unfold Builtin.«sorted»
  refine wpAny_bind (m := checkCount "sorted" 1 1 _) (wpAny_pure ?_)
  refine wpAny_bind (collect_list hl ?_ (by rw [sizeLine_eq]; omega))
  refine wpAny_bind (wpAny_newList ?_ (by rw [sizeLine_eq]; omega))
  have hsz : ((s.heap.push (seqObj "list" #[] 0)).update s.heap.objs.size (Obj.mapSeq (· ++ vs.toArray))).objs.size = s.heap.objs.size + 1 := by
    rw [Heap.size_update, size_push']
  have hoL : (((s.heap.push (seqObj "list" #[] 0)).update s.heap.objs.size (Obj.mapSeq (· ++ vs.toArray))).push (seqObj "list" vs.toArray 0)).get? (s.heap.objs.size + 1) = some (seqObj "list" vs.toArray 0) := by
    rw [← hsz]; exact Heap.get?_push_size _ rfl
  have keep : ∀ b o, s.heap.get? b = some o → (((s.heap.push (seqObj "list" #[] 0)).update s.heap.objs.size (Obj.mapSeq (· ++ vs.toArray))).push (seqObj "list" vs.toArray 0)).get? b = some o := fun b o q => by
    have hlt : b < s.heap.objs.size := Heap.lt_size q
    rw [Heap.get?_push_ne _ _ _ (by rw [hsz]; exact Nat.ne_of_lt (Nat.lt_succ_of_lt hlt)), Heap.get?_update_ne _ _ _ _ (Nat.ne_of_lt hlt), Heap.get?_push_ne _ _ _ (Nat.ne_of_lt hlt)]
    exact q
  have szne : ∀ b o, s.heap.get? b = some o → b ≠ s.heap.objs.size + 1 := fun b o q => Nat.ne_of_lt (Nat.lt_succ_of_lt (Heap.lt_size q))
  show wpAny _ _ _ _ _ { s with heap := ((s.heap.push (seqObj "list" #[] 0)).update s.heap.objs.size (Obj.mapSeq (· ++ vs.toArray))).push (seqObj "list" vs.toArray 0) }
  rw [hsz]
  refine wpAny_bind (wpAny_holding (wpAny_call_entry slot_list_sort ⟨_, hoL, rfl⟩ entry_list_sort ?body (args_list_sort _)))
  case body =>
    refine list_sort_kas (s := { s with heap := ((s.heap.push (seqObj "list" #[] 0)).update s.heap.objs.size (Obj.mapSeq (· ++ vs.toArray))).push (seqObj "list" vs.toArray 0) }) (key := key) (κ := κ) hoL h64
      (fun h2 h' k => hkind h2 h' fun b o q => k b o (szne b o q) (keep b o q)) (fun h' k => hcmp h' fun b o q => k b o (szne b o q) (keep b o q)) fun is hp hs => ?_
    obtain ⟨n, hg⟩ := sortedHeap_at (vs := vs) (out := (is.map fun i => vs.getD i Value.none).toArray) hoL
    refine ⟨_, rfl, wpAny_pure ⟨_, rfl, h (s.heap.objs.size + 1) _ n is (fun b o q => ?_) szne hp hs hg⟩⟩
    show (sortedHeap (((s.heap.push (seqObj "list" #[] 0)).update s.heap.objs.size (Obj.mapSeq (· ++ vs.toArray))).push (seqObj "list" vs.toArray 0)) (s.heap.objs.size + 1) vs _).get? b = some o
    rw [sortedHeap_old (szne b o q) (Heap.lt_size (keep b o q))]
    exact keep b o q
end
end L2
namespace L2
open PySem PySem.Spec PyProof.Rows
@[reducible] def lexO (O P : KeyOrd) : KeyOrd where
  α := O.α × P.α
  blt x y := O.blt x.1 y.1 || (!O.blt y.1 x.1 && P.blt x.2 y.2)
  irrefl x := by simp [O.irrefl, P.irrefl]
  trans x y z h1 h2 := by
    simp only [Bool.or_eq_true, Bool.and_eq_true, Bool.not_eq_true'] at h1 h2 ⊢
    rcases h1 with h1 | ⟨h1, k1⟩ <;> rcases h2 with h2 | ⟨h2, k2⟩
    · exact .inl (O.trans _ _ _ h1 h2)
    · exact .inl (KeyOrd.klt_of_klt_of_kle h1 h2)
    · exact .inl (KeyOrd.klt_of_kle_of_klt h1 h2)
    · exact .inr ⟨KeyOrd.kle_trans (O := O) h1 h2, P.trans _ _ _ k1 k2⟩
  negTrans x y z h := by
    simp only [Bool.or_eq_true, Bool.and_eq_true, Bool.not_eq_true'] at h ⊢
    rcases h with h | ⟨h, k⟩
    · rcases O.negTrans _ y.1 _ h with h | h
      · exact .inl (.inl h)
      · exact .inr (.inl h)
    · cases e1 : O.blt x.1 y.1 with
      | true => exact .inl (.inl rfl)
      | false =>
        cases e2 : O.blt y.1 z.1 with
        | true => exact .inr (.inl rfl)
        | false =>
          have a1 : O.kle y.1 x.1 := e1
          have a2 : O.kle z.1 y.1 := e2
          have a3 : O.kle x.1 z.1 := h
          have b1 : O.blt y.1 x.1 = false := KeyOrd.kle_trans (O := O) a3 a2
          have b2 : O.blt z.1 y.1 = false := KeyOrd.kle_trans (O := O) a1 a3
          rcases P.negTrans _ y.2 _ k with k | k
          · exact .inl (.inr ⟨b1, k⟩)
          · exact .inr (.inr ⟨b2, k⟩)
  total x y h1 h2 := by
    simp only [Bool.or_eq_false_iff, Bool.and_eq_false_iff, Bool.not_eq_false'] at h1 h2
    have e1 : x.1 = y.1 := O.total _ _ h1.1 h2.1
    have e2 : x.2 = y.2 := P.total _ _ (by rcases h1.2 with z | z; exact absurd (h2.1.symm.trans z) (by simp); exact z) (by rcases h2.2 with z | z; exact absurd (h1.1.symm.trans z) (by simp); exact z)
    exact Prod.ext e1 e2
@[reducible] def strO : KeyOrd where
  α := Str
  blt a b := decide (a.cps.toList < b.cps.toList)
  irrefl a := by simpa using List.lt_irrefl a.cps.toList
  trans a b c h1 h2 := by simp only [decide_eq_true_eq] at *; exact List.lt_trans h1 h2
  negTrans a b c h := by
    simp only [decide_eq_true_eq] at *
    by_cases hab : a.cps.toList < b.cps.toList
    · exact .inl hab
    · exact .inr (List.lt_of_le_of_lt (List.not_lt.mp hab) h)
  total a b h1 h2 := by simp only [decide_eq_false_iff_not] at *; exact ext_toList (List.le_antisymm (List.not_lt.mp h2) (List.not_lt.mp h1))
@[reducible] def intO : KeyOrd where
  α := Int
  blt a b := decide (a < b)
  irrefl a := by simp
  trans a b c h1 h2 := by simp only [decide_eq_true_eq] at *; omega
  negTrans a b c h := by simp only [decide_eq_true_eq] at *; omega
  total a b h1 h2 := by simp only [decide_eq_false_iff_not] at *; omega
structure Col where
  O : KeyOrd
  val : O.α → V
  dflt : O.α
  T : Value
  tT : (T == T) = true
  tN : (T != Value.type "tuple") = true
  look : ∀ (M : Model) (h : Heap) (a : O.α) (u : Value), RelV (val a) u → PySem.W.Looks M h (typeOf u) T
  eqB : ∀ (prog : Program) (w : World) (A : Around) (E : Value → Shared → Prop) (s : Shared) (a b : O.α) (u v : Value) (Q : Bool → Shared → Prop), RelV (val a) u → RelV (val b) v → (∀ e : Bool, (e = true ↔ a = b) → Q e s) → wpAny (model prog w) A (eqBool u v) Q E s
  ltB : ∀ (prog : Program) (w : World) (A : Around) (E : Value → Shared → Prop) (s : Shared) (a b : O.α) (u v : Value) (Q : Bool → Shared → Prop), RelV (val a) u → RelV (val b) v → Q (O.blt a b) s → wpAny (model prog w) A (oneLt' true u v) Q E s
  ltC : ∀ (prog : Program) (w : World) (A : Around) (E : Value → Shared → Prop) (s : Shared) (a b : O.α) (u v : Value) (Q : Bool → Shared → Prop), RelV (val a) u → RelV (val b) v → Q (O.blt a b) s → wpAny (model prog w) A (oneLt' false u v) Q E s
@[reducible] def strC : Col where
  O := strO
  val := V.str
  dflt := default
  T := .type "str"
  tT := by decide
  tN := by decide
  look M h a u r := by obtain ⟨t, rfl⟩ := r; exact PySem.W.Looks.of_pure rfl
  eqB prog w A E s a b u v Q r r' h := by
    obtain ⟨t, rfl⟩ := r; obtain ⟨t', rfl⟩ := r'
    exact eqBool_str (h _ (by simp))
  ltB prog w A E s a b u v Q r r' h := by
    obtain ⟨t, rfl⟩ := r; obtain ⟨t', rfl⟩ := r'
    exact oneLt_str h
  ltC prog w A E s a b u v Q r r' h := by
    obtain ⟨t, rfl⟩ := r; obtain ⟨t', rfl⟩ := r'
    exact PySem.W.kat_one _ _ (PySem.P.lt_str h)
@[reducible] def intC : Col where
  O := intO
  val := V.int
  dflt := 0
  T := .type "int"
  tT := by decide
  tN := by decide
  look M h a u r := by obtain ⟨t, rfl⟩ := r; exact PySem.W.Looks.of_pure rfl
  eqB prog w A E s a b u v Q r r' h := by
    obtain ⟨t, rfl⟩ := r; obtain ⟨t', rfl⟩ := r'
    exact wpAny_eqBool_int (h _ (by simp))
  ltB prog w A E s a b u v Q r r' h := by
    obtain ⟨t, rfl⟩ := r; obtain ⟨t', rfl⟩ := r'
    exact oneLt_int h
  ltC prog w A E s a b u v Q r r' h := by
    obtain ⟨t, rfl⟩ := r; obtain ⟨t', rfl⟩ := r'
    exact PySem.W.kat_one _ _ (PySem.P.lt_int h)
theorem lexO_eq {c d : Col} (x y : (lexO c.O d.O).α) (e : x.1 = y.1) : (lexO c.O d.O).blt x y = d.O.blt x.2 y.2 := by
  show (c.O.blt x.1 y.1 || (!c.O.blt y.1 x.1 && d.O.blt x.2 y.2)) = _
  rw [e, c.O.irrefl]; rfl
theorem lexO_ne {c d : Col} (x y : (lexO c.O d.O).α) (e : x.1 ≠ y.1) : (lexO c.O d.O).blt x y = c.O.blt x.1 y.1 := by
  show (c.O.blt x.1 y.1 || (!c.O.blt y.1 x.1 && d.O.blt x.2 y.2)) = _
  cases h1 : c.O.blt x.1 y.1 with
  | true => rfl
  | false =>
    cases h2 : c.O.blt y.1 x.1 with
    | true => rfl
    | false => exact absurd (c.O.total _ _ h1 h2) e
section
variable {prog : Program} {w : World} {A : Around} {E : Value → Shared → Prop} {s : Shared}
theorem cmp_rowP (c d : Col) {x y : Addr} {p q : (lexO c.O d.O).α} {u1 u2 v1 v2 : Value} {Q : Bool → Shared → Prop} (hx : IsTup s.heap x #[u1, u2]) (hy : IsTup s.heap y #[v1, v2]) (r1 : RelV (c.val p.1) u1) (r2 : RelV (d.val p.2) u2) (s1 : RelV (c.val q.1) v1) (s2 : RelV (d.val q.2) v2)
    (h : Q ((lexO c.O d.O).blt p q) s) : wpAny (model prog w) A (keyLt' (tuples' true) (.ref x) (.ref y)) Q E s := by
  obtain ⟨ox, hox, _, n, dx⟩ := hx
  obtain ⟨oy, hoy, _, m, dy⟩ := hy
  refine PySem.W.kat_lt hox dx hoy dy (PySem.W.kat_cons (c.eqB _ _ _ _ _ _ _ _ _ _ r1 s1 fun e he => ?_))
  cases e with
  | false =>
    have hne : p.1 ≠ q.1 := fun z => Bool.false_ne_true (he.mpr z)
    rw [lexO_ne _ _ hne] at h
    exact PySem.W.kat_no (c.ltB _ _ _ _ _ _ _ _ _ _ r1 s1 h)
  | true =>
    rw [lexO_eq _ _ (he.mp rfl)] at h
    refine PySem.W.kat_yes (PySem.W.kat_cons (d.eqB _ _ _ _ _ _ _ _ _ _ r2 s2 fun e he => ?_))
    cases e with
    | false => exact PySem.W.kat_no (d.ltC _ _ _ _ _ _ _ _ _ _ r2 s2 h)
    | true =>
      refine PySem.W.kat_yes (PySem.W.kat_nil ?_)
      rw [he.mp rfl, d.O.irrefl] at h
      exact h
end
theorem pairwise_of_steps {α : Type} {R : α → α → Prop} (tr : ∀ a b c, R a b → R b c → R a c) : ∀ (l : List α), (∀ i a b, l[i]? = some a → l[i + 1]? = some b → R a b) → l.Pairwise R
  | [], _ => .nil
  | [x], _ => by simp
  | x :: y :: r, h => by
    have ih := pairwise_of_steps tr (y :: r) fun i a b h1 h2 => h (i + 1) a b (by simpa using h1) (by simpa using h2)
    have hxy : R x y := h 0 x y rfl rfl
    refine List.pairwise_cons.mpr ⟨fun z hz => ?_, ih⟩
    rcases List.mem_cons.mp hz with e | hz
    · rw [e]; exact hxy
    · exact tr _ _ _ hxy ((List.pairwise_cons.mp ih).1 z hz)
section
variable {X : Cx}
abbrev Row (c d : Col) : Type := V × (lexO c.O d.O).α
def rSortP (X : Cx) (c d : Col) : List V → Hp → VK → Prop := fun vs H Q => ∃ (l : Addr) (zs : List (Row c d)), vs = [.ref l] ∧ SqL X.K H l (zs.map (·.1)) ∧ zs.length < 64 ∧
  (∀ z ∈ zs, ∃ t, z.1 = .ref t ∧ SqT X.K H t [c.val z.2.1, d.val z.2.2]) ∧ ∀ (D : Addr) (zs' : List (Row c d)), zs'.Perm zs → (zs'.map (·.2)).Pairwise (lexO c.O d.O).kle → H D = none → Q (.ref D) (upd H D (.lst (zs'.map (·.1))))
def HR (c d : Col) (h : Heap) (z : Row c d) (v : Value) : Prop := ∃ t u1 u2, z.1 = .ref t ∧ v = .ref t ∧ IsTup h t #[u1, u2] ∧ RelV (c.val z.2.1) u1 ∧ RelV (d.val z.2.2) u2
theorem HR.keeps {c d : Col} {h h' : Heap} {z : Row c d} {v : Value} (k : ∀ b o, h.get? b = some o → h'.get? b = some o) (x : HR c d h z v) : HR c d h' z v := by
  obtain ⟨t, u1, u2, a1, a2, a3, a4⟩ := x
  exact ⟨t, u1, u2, a1, a2, a3.keeps k, a4⟩
theorem hr_tups {c d : Col} {h : Heap} : ∀ (zs : List (Row c d)) (its : List Value), Paired (HR c d h) zs its → ∃ fs, PySem.W.KatTups h its fs ∧ fs.length = zs.length ∧ ∀ v ∈ fs, ∃ a, RelV (c.val a) v
  | _, _, .nil => ⟨[], .nil, rfl, fun _ x => by cases x⟩
  | _, _, .cons ⟨t, u1, u2, a1, a2, ⟨o, b1, b2, n, b3⟩, a4, a5⟩ r => by
    obtain ⟨fs, k1, k2, k3⟩ := hr_tups _ _ r
    subst a2
    refine ⟨u1 :: fs, .cons b1 b2 b3 rfl k1, by simp [k2], fun v hv => ?_⟩
    rcases List.mem_cons.mp hv with e | hv
    · exact ⟨_, e ▸ a4⟩
    · exact k3 v hv
theorem paired_at {α β : Type} {R : α → β → Prop} : ∀ {xs : List α} {ys : List β}, Paired R xs ys → ∀ (i : Nat) (dx : α) (dy : β), i < xs.length → R (xs.getD i dx) (ys.getD i dy)
  | _, _, .nil, i, _, _, h => by simp at h
  | _, _, .cons a r, 0, _, _, _ => a
  | _, _, .cons a r, i + 1, dx, dy, h => by
    have := paired_at r i dx dy (by simpa using h)
    simpa using this
theorem paired_map {α β γ : Type} {R : α → β → Prop} {f : γ → α} {g : γ → β} : ∀ (l : List γ), (∀ x ∈ l, R (f x) (g x)) → Paired R (l.map f) (l.map g)
  | [], _ => .nil
  | x :: l, h => .cons (h x List.mem_cons_self) (paired_map l fun y hy => h y (List.mem_cons_of_mem _ hy))
theorem hr_of {c d : Col} {pins : List (Addr × Obj)} {σ : L2.St} {H : Hp} {s : Shared} (I : Inv X pins σ H s) : ∀ (zs : List (Row c d)) (its : List Value), Vals (zs.map (·.1)) its → (∀ z ∈ zs, ∃ t, z.1 = .ref t ∧ SqT X.K H t [c.val z.2.1, d.val z.2.2]) → Paired (HR c d s.heap) zs its
  | [], its, r, _ => by cases r; exact .nil
  | z :: zs, its, r, h => by
    cases r with
    | cons a b =>
      obtain ⟨t, e, sq⟩ := h z List.mem_cons_self
      obtain ⟨us, r1, it, _⟩ := I.tuple sq
      cases r1 with
      | cons r1 r2 =>
        cases r2 with
        | cons r2 r3 =>
          cases r3
          dsimp only at a
          rw [e] at a
          exact .cons ⟨t, _, _, e, a, it, r1, r2⟩ (hr_of I zs _ b fun y hy => h y (List.mem_cons_of_mem _ hy))
theorem call_sortP (c d : Col) : CallR X (.builtin "sorted") (rSortP X c d) := by
  intro pins s σ H vs us Q I r h
  obtain ⟨l, zs, rfl, hl, h64, hr, q⟩ := h
  obtain ⟨u, rfl, ru⟩ := vals1 r
  obtain rfl : u = Value.ref l := ru
  obtain ⟨its, ri, pl, _⟩ := I.list hl
  have hp := hr_of I zs its ri hr
  have hlen : zs.length = its.length := hp.length
  let dz : Row c d := (V.non, (c.dflt, d.dflt))
  refine sorted_kas (O := lexO c.O d.O) (key := fun i => (zs.getD i dz).2) (κ := tuples' true) (vs := its) (by obtain ⟨o, n, a1, a2, a3, a4⟩ := pl; exact ⟨o, a1, a2, n, a4⟩) (by omega) (fun h2 h' k Q' hq => ?_) (fun h' k i j C hi hj hC => ?_) fun D h' n is kk hD hpm hst hg => ?_
  · have hp' : Paired (HR c d h') zs its := Paired.mapP hp fun _ _ x => x.keeps k
    obtain ⟨fs, k1, k2, k3⟩ := hr_tups _ _ hp'
    refine PySem.W.kat_kind (T := c.T) k1 (by omega) (fun v hv => ?_) c.tT (by rw [c.tN]; exact hq)
    obtain ⟨a, ha⟩ := k3 v hv
    exact c.look _ _ a v ha
  · obtain ⟨t, u1, u2, a1, a2, a3, a4, a5⟩ := (paired_at hp i dz Value.none (by omega)).keeps k
    obtain ⟨t', v1, v2, b1, b2, b3, b4, b5⟩ := (paired_at hp j dz Value.none (by omega)).keeps k
    unfold PySem.W.kas_ask
    rw [a2, b2]
    exact cmp_rowP c d a3 b3 a4 a5 b4 b5 hC
  · have hin : ∀ i ∈ is, i < zs.length := fun i hi => by
      have := hpm.mem_iff.mp hi
      rw [hlen]; simpa using this
    have hrange : (List.range zs.length).map (fun i => zs.getD i dz) = zs := by
      apply List.ext_getElem?
      intro k
      by_cases hk : k < zs.length
      · simp [hk, List.getD_eq_getElem?_getD]
      · simp [hk]
    have hperm : (is.map fun i => zs.getD i dz).Perm zs := by
      have := hpm.map (fun i => zs.getD i dz)
      rwa [← hlen, hrange] at this
    have hv : Vals ((is.map fun i => zs.getD i dz).map (·.1)) (is.map fun i => its.getD i Value.none) := by
      rw [List.map_map]
      refine paired_map is fun i hi => ?_
      obtain ⟨t, u1, u2, a1, a2, _⟩ := paired_at hp i dz Value.none (hin i hi)
      show RelV (zs.getD i dz).1 (its.getD i Value.none)
      rw [a1, a2]; exact rfl
    have hpw : ((is.map fun i => zs.getD i dz).map (·.2)).Pairwise (lexO c.O d.O).kle := by
      refine pairwise_of_steps (fun _ _ _ => KeyOrd.kle_trans) _ fun i a b h1 h2 => ?_
      rw [List.map_map, List.getElem?_map, Option.map_eq_some_iff] at h1 h2
      obtain ⟨x, e1, rfl⟩ := h1
      obtain ⟨y, e2, rfl⟩ := h2
      obtain ⟨hlt, _⟩ := List.getElem?_eq_some_iff.mp e2
      have := hst i hlt
      have g1 : is.getD i 0 = x := by rw [List.getD_eq_getElem?_getD, e1]; rfl
      have g2 : is.getD (i + 1) 0 = y := by rw [List.getD_eq_getElem?_getD, e2]; rfl
      rw [g1, g2] at this
      exact this
    exact ⟨.ref D, upd H D (.lst ((is.map fun i => zs.getD i dz).map (·.1))), I.laidN (t' := s.toks) kk hD ⟨by rw [List.length_map, hperm.length_eq]; exact Nat.le_of_lt (small1000 (by omega)), _, n, hv, hg⟩, rfl, q D _ hperm hpw (I.freshN hD)⟩
end
end L2
namespace L2
open PySem PySem.Spec PyProof.Rows Ord
abbrev goD (p : Str × Int) : Dt := .tup [.str p.1, .int p.2]
abbrev Stt : Type := List (Str × Int) × List Str
abbrev stD (s : Stt) : Dt := .tup [.lst (s.1.map goD), .lst (s.2.map Dt.str)]
def Goes (K : PySem.W.Frag) (H : Hp) (a : Addr) (gs : List (Str × Int)) : Prop := ∃ vs, SqL K H a vs ∧ IsDts K H vs (gs.map goD)
def Stts (K : PySem.W.Frag) (H : Hp) (a : Addr) (ss : List Stt) : Prop := ∃ vs, SqL K H a vs ∧ IsDts K H vs (ss.map stD)
theorem Goes.same {K : PySem.W.Frag} {H H' : Hp} {a : Addr} {gs : List (Str × Int)} (e : Same H H') (h : Goes K H a gs) : Goes K H' a gs := by
  obtain ⟨vs, h1, h2⟩ := h
  exact ⟨vs, e.seq h1, h2.same e⟩
theorem Stts.same {K : PySem.W.Frag} {H H' : Hp} {a : Addr} {ss : List Stt} (e : Same H H') (h : Stts K H a ss) : Stts K H' a ss := by
  obtain ⟨vs, h1, h2⟩ := h
  exact ⟨vs, e.seq h1, h2.same e⟩
theorem strs_dts {K : PySem.W.Frag} {H : Hp} : ∀ {vs : List V} {xs : List Str}, IsDts K H vs (xs.map Dt.str) → vs = xs.map V.str
  | _, [], .nil => rfl
  | _, _ :: _, .cons h t => by cases h; rw [strs_dts t]; rfl
theorem go_at {K : PySem.W.Frag} {H : Hp} {v : V} {p : Str × Int} (h : IsDt K H v (goD p)) : ∃ t, v = .ref t ∧ SqT K H t [.str p.1, .int p.2] := by
  cases h with
  | tup h t =>
    cases t with
    | cons h1 t =>
      cases t with
      | cons h2 t =>
        cases t
        cases h1; cases h2
        exact ⟨_, rfl, h⟩
theorem IsDts.goes_get {K : PySem.W.Frag} {H : Hp} {vs : List V} {gs : List (Str × Int)} (h : IsDts K H vs (gs.map goD)) {i : Nat} {v : V} (hv : vs[i]? = some v) : ∃ p t, gs[i]? = some p ∧ v = .ref t ∧ SqT K H t [.str p.1, .int p.2] := by
  obtain ⟨d, hd, hi⟩ := h.get hv
  rw [List.getElem?_map] at hd
  cases e : gs[i]? with
  | none => rw [e] at hd; cases hd
  | some p =>
    rw [e] at hd
    cases hd
    obtain ⟨t, h1, h2⟩ := go_at hi
    exact ⟨p, t, rfl, h1, h2⟩
theorem st_at {K : PySem.W.Frag} {H : Hp} {v : V} {s : Stt} (h : IsDt K H v (stD s)) : ∃ t g e, v = .ref t ∧ SqT K H t [.ref g, .ref e] ∧ Goes K H g s.1 ∧ SqL K H e (s.2.map V.str) := by
  cases h with
  | tup h t =>
    cases t with
    | cons h1 t =>
      cases t with
      | cons h2 t =>
        cases t
        cases h1 with
        | lst a1 b1 =>
          cases h2 with
          | lst a2 b2 =>
            rw [strs_dts b2] at a2
            exact ⟨_, _, _, rfl, h, ⟨_, a1, b1⟩, a2⟩
theorem IsDts.sts_get {K : PySem.W.Frag} {H : Hp} {vs : List V} {ss : List Stt} (h : IsDts K H vs (ss.map stD)) {i : Nat} {v : V} (hv : vs[i]? = some v) :
    ∃ s t g e, ss[i]? = some s ∧ v = .ref t ∧ SqT K H t [.ref g, .ref e] ∧ Goes K H g s.1 ∧ SqL K H e (s.2.map V.str) := by
  obtain ⟨d, hd, hi⟩ := h.get hv
  rw [List.getElem?_map] at hd
  cases e : ss[i]? with
  | none => rw [e] at hd; cases hd
  | some p =>
    rw [e] at hd
    cases hd
    obtain ⟨t, g, e, h1, h2, h3, h4⟩ := st_at hi
    exact ⟨p, t, g, e, rfl, h1, h2, h3, h4⟩
theorem IsDts.len_map {K : PySem.W.Frag} {H : Hp} {α : Type} {f : α → Dt} {vs : List V} {xs : List α} (h : IsDts K H vs (xs.map f)) : vs.length = xs.length := by
  have := h.length
  rwa [List.length_map] at this
def StE (K : PySem.W.Frag) (H : Hp) (a : Addr) (ss : List Stt) : Prop := ∃ vs, SqL K H a vs ∧ vs.length = ss.length ∧ ∀ (i : Nat) (v : V) (s : Stt), vs[i]? = some v → ss[i]? = some s → ∃ t g e, v = .ref t ∧ SqT K H t [.ref g, .ref e] ∧ Goes K H g s.1 ∧ H e = some (.lst (s.2.map V.str))
structure Fits (ss : List Stt) : Prop where
  n : ss.length ≤ 8
  gs : ∀ s ∈ ss, s.1.length ≤ 8
  es : ∀ s ∈ ss, s.2.length ≤ 8
def labelsOf (ss : List Stt) : List Str := ss.flatMap fun s => s.1.map (·.1) ++ s.2
def labelsP (ps : List (Str × Str)) : List Str := ps.flatMap fun p => [p.1, p.2]
theorem labelsOf_snoc (ss : List Stt) (s : Stt) : labelsOf (ss ++ [s]) = (labelsOf ss ++ s.1.map (·.1)) ++ s.2 := by
  unfold labelsOf; rw [List.flatMap_append]; simp
theorem labelsP_snoc (ps : List (Str × Str)) (p : Str × Str) : labelsP (ps ++ [p]) = (labelsP ps ++ [p.1]) ++ [p.2] := by
  unfold labelsP; rw [List.flatMap_append]; simp
theorem labelsOf_len : ∀ (ss : List Stt), (∀ s ∈ ss, s.1.length ≤ 8) → (∀ s ∈ ss, s.2.length ≤ 8) → (labelsOf ss).length ≤ 16 * ss.length
  | [], _, _ => Nat.le_refl _
  | s :: r, h1, h2 => by
    have ih := labelsOf_len r (fun x hx => h1 x (List.mem_cons_of_mem _ hx)) (fun x hx => h2 x (List.mem_cons_of_mem _ hx))
    have a1 := h1 s List.mem_cons_self
    have a2 := h2 s List.mem_cons_self
    unfold labelsOf at ih ⊢
    rw [List.flatMap_cons, List.length_append, List.length_append, List.length_map, List.length_cons]
    omega
theorem labelsP_len : ∀ (ps : List (Str × Str)), (labelsP ps).length = 2 * ps.length
  | [] => rfl
  | p :: r => by
    have ih := labelsP_len r
    unfold labelsP at ih ⊢
    rw [List.flatMap_cons, List.length_append, ih, List.length_cons]
    simp; omega
theorem kind_strs2 {its : List Value} {ss : List Str} (hS : StrsAre its ss) (h2 : 2 ≤ its.length) : keyKind' its.toArray = pure oneType' := by
  match its, hS, h2 with
  | [], _, h2 => simp at h2
  | [_], _, h2 => simp at h2
  | v₁ :: v₂ :: rest, hS, _ => exact keyKind_strs hS
section
variable {X : Cx}
def rSortS (X : Cx) : List V → Hp → VK → Prop := fun vs H Q => ∃ (l : Addr) (ss : List Str), vs = [.ref l] ∧ SqL X.K H l (ss.map V.str) ∧ ss.length < 64 ∧ ∀ (D : Addr) (ss' : List Str), ss'.Perm ss → ss'.Pairwise strO.kle → H D = none → Q (.ref D) (upd H D (.lst (ss'.map V.str)))
theorem call_sortS : CallR X (.builtin "sorted") (rSortS X) := by
  intro pins s σ H vs us Q I r h
  obtain ⟨l, ss, rfl, hl, h64, q⟩ := h
  obtain ⟨u, rfl, ru⟩ := vals1 r
  obtain rfl : u = Value.ref l := ru
  obtain ⟨its, ri, pl, _⟩ := I.list hl
  have hS := strsAre_of ri
  have hlen : ss.length = its.length := by have := ri.length; rwa [List.length_map] at this
  have hat : ∀ i, i < ss.length → ∃ t, its.getD i Value.none = .str (ss.getD i default) t := fun i hi => by
    have := paired_at ri i V.non Value.none (by rw [List.length_map]; exact hi)
    have e : (ss.map V.str).getD i V.non = V.str (ss.getD i default) := by
      rw [List.getD_eq_getElem?_getD, List.getElem?_map, List.getD_eq_getElem?_getD, List.getElem?_eq_getElem hi]; rfl
    rw [e] at this
    exact this
  refine sorted_kas (O := strO) (key := fun i => ss.getD i default) (κ := oneType') (vs := its) pl.isList (by omega) (fun h2 h' k Q' hq => ?_) (fun h' k i j C hi hj hC => ?_) fun D h' n is kk hD hpm hst hg => ?_
  · rw [kind_strs2 hS h2]
    exact wpAny_pure hq
  · obtain ⟨t, e1⟩ := hat i (by omega)
    obtain ⟨t', e2⟩ := hat j (by omega)
    unfold PySem.W.kas_ask
    rw [e1, e2, keyLt'_oneType]
    exact oneLt_str hC
  · have hin : ∀ i ∈ is, i < ss.length := fun i hi => by
      have := hpm.mem_iff.mp hi
      rw [hlen]; simpa using this
    have hrange : (List.range ss.length).map (fun i => ss.getD i default) = ss := by
      apply List.ext_getElem?
      intro k
      by_cases hk : k < ss.length
      · simp [hk, List.getD_eq_getElem?_getD]
      · simp [hk]
    have hperm : (is.map fun i => ss.getD i default).Perm ss := by
      have := hpm.map (fun i => ss.getD i default)
      rwa [← hlen, hrange] at this
    have hv : Vals ((is.map fun i => ss.getD i default).map V.str) (is.map fun i => its.getD i Value.none) := by
      rw [List.map_map]
      exact paired_map is fun i hi => hat i (hin i hi)
    have hpw : (is.map fun i => ss.getD i default).Pairwise strO.kle := by
      refine pairwise_of_steps (R := strO.kle) (fun _ _ _ h k => KeyOrd.kle_trans (O := strO) h k) _ fun i a b h1 h2 => ?_
      rw [List.getElem?_map, Option.map_eq_some_iff] at h1 h2
      obtain ⟨x, e1, rfl⟩ := h1
      obtain ⟨y, e2, rfl⟩ := h2
      obtain ⟨hlt, _⟩ := List.getElem?_eq_some_iff.mp e2
      have := hst i hlt
      have g1 : is.getD i 0 = x := by rw [List.getD_eq_getElem?_getD, e1]; rfl
      have g2 : is.getD (i + 1) 0 = y := by rw [List.getD_eq_getElem?_getD, e2]; rfl
      rw [g1, g2] at this
      exact this
    exact ⟨.ref D, upd H D (.lst ((is.map fun i => ss.getD i default).map V.str)), I.laidN (t' := s.toks) kk hD ⟨by rw [List.length_map, hperm.length_eq]; exact Nat.le_of_lt (small1000 (by omega)), _, n, hv, hg⟩, rfl, q D _ hperm hpw (I.freshN hD)⟩
end
abbrev RowGo (K : PySem.W.Frag) (H : Hp) (z : Row strC intC) : Prop := ∃ t, z.1 = .ref t ∧ SqT K H t [V.str z.2.1, V.int z.2.2]
theorem zip_rows {K : PySem.W.Frag} {H : Hp} : ∀ {ts : List Addr} {gs : List (Str × Int)}, ts.length = gs.length → (∀ (n : Nat) (a : Addr) (p : Str × Int), ts[n]? = some a → gs[n]? = some p → H a = some (.tup [.str p.1, .int p.2])) →
    ∃ zs : List (Row strC intC), zs.map (·.1) = ts.map V.ref ∧ zs.map (·.2) = gs ∧ ∀ z ∈ zs, RowGo K H z
  | [], [], _, _ => ⟨[], rfl, rfl, fun z hz => by cases hz⟩
  | [], _ :: _, h, _ => by simp at h
  | _ :: _, [], h, _ => by simp at h
  | a :: ts, p :: gs, h, k => by
    obtain ⟨zs, h1, h2, h3⟩ := zip_rows (K := K) (H := H) (ts := ts) (gs := gs) (by simpa using h) fun n a p h1 h2 => k (n + 1) a p (by simpa using h1) (by simpa using h2)
    refine ⟨(V.ref a, p) :: zs, by rw [List.map_cons, h1]; rfl, by rw [List.map_cons, h2], fun z hz => ?_⟩
    rcases List.mem_cons.mp hz with e | hz
    · rw [e]; exact ⟨a, rfl, SqT.of (k 0 a p rfl rfl)⟩
    · exact h3 z hz
theorem rows_dts {K : PySem.W.Frag} {H : Hp} : ∀ (zs : List (Row strC intC)), (∀ z ∈ zs, RowGo K H z) → IsDts K H (zs.map (·.1)) ((zs.map (·.2)).map goD)
  | [], _ => .nil
  | z :: zs, h => by
    obtain ⟨t, e, sq⟩ := h z List.mem_cons_self
    refine .cons ?_ (rows_dts zs fun y hy => h y (List.mem_cons_of_mem _ hy))
    show IsDt K H z.1 (goD z.2)
    rw [e]
    exact .tup sq (.cons (.str _) (.cons (.int _) .nil))
structure SrtOf (s r : Stt) : Prop where
  pg : r.1.Perm s.1
  pe : r.2.Perm s.2
  og : r.1.Pairwise (lexO strO intO).kle
  oe : r.2.Pairwise strO.kle
theorem SqL.updN {K : PySem.W.Frag} {H : Hp} {a D : Addr} {o : HO} {xs : List V} (hn : a ≠ D) (h : SqL K H a xs) : SqL K (upd H D o) a xs := by
  rcases h with (h | ⟨u, h⟩) | h
  · exact .inl (.inl (by rw [upd_ne hn]; exact h))
  · exact .inl (.inr ⟨u, by rw [upd_ne hn]; exact h⟩)
  · exact .inr h
theorem SqT.updL {K : PySem.W.Frag} {H : Hp} {a D : Addr} {o : HO} {xs ys : List V} (hD : H D = some (.lst ys)) (h : SqT K H a xs) : SqT K (upd H D o) a xs := by
  rcases h with (h | ⟨u, h⟩) | h
  · exact .inl (.inl (by rw [upd_ne fun z => by rw [z, hD] at h; cases h]; exact h))
  · exact .inl (.inr ⟨u, by rw [upd_ne fun z => by rw [z, hD] at h; cases h]; exact h⟩)
  · exact .inr h
theorem gos_updL {K : PySem.W.Frag} {H : Hp} {D : Addr} {o : HO} {ys : List V} (hD : H D = some (.lst ys)) : ∀ {vs : List V} {gs : List (Str × Int)}, IsDts K H vs (gs.map goD) → IsDts K (upd H D o) vs (gs.map goD)
  | _, [], .nil => .nil
  | _, p :: gs, .cons h t => by
    obtain ⟨a, e, sq⟩ := go_at h
    subst e
    exact .cons (.tup (sq.updL hD) (.cons (.str _) (.cons (.int _) .nil))) (gos_updL hD t)
theorem Goes.updL {K : PySem.W.Frag} {H : Hp} {a D : Addr} {o : HO} {ys : List V} {gs : List (Str × Int)} (hD : H D = some (.lst ys)) (hn : a ≠ D) (h : Goes K H a gs) : Goes K (upd H D o) a gs := by
  obtain ⟨vs, h1, h2⟩ := h
  exact ⟨vs, h1.updN hn, gos_updL hD h2⟩
structure StRows (K : PySem.W.Frag) (F : Addr → Prop) (H : Hp) (D : Addr) (us : List Addr) (rs : List Stt) : Prop where
  len : us.length = rs.length
  at_ : ∀ (i : Nat) (u : Addr) (r : Stt), us[i]? = some u → rs[i]? = some r → ∃ G E xs, H u = some (.tup [.ref G, .ref E]) ∧ Goes K H G r.1 ∧ H G = some (.lst xs) ∧ H E = some (.lst (r.2.map V.str)) ∧ G ≠ D ∧ E ≠ D ∧ F G ∧ F E
theorem StRows.nil {K : PySem.W.Frag} {F : Addr → Prop} {H : Hp} {D : Addr} : StRows K F H D [] [] := ⟨rfl, fun i u r h => by simp at h⟩
theorem StRows.same {K : PySem.W.Frag} {F : Addr → Prop} {H H' : Hp} {D : Addr} {us : List Addr} {rs : List Stt} (e : Same H H') (h : StRows K F H D us rs) : StRows K F H' D us rs := by
  refine ⟨h.len, fun i u r h1 h2 => ?_⟩
  obtain ⟨G, E, xs, a1, a2, a3, a4, a5, a6, a7⟩ := h.at_ i u r h1 h2
  exact ⟨G, E, xs, e _ _ a1, a2.same e, e _ _ a3, e _ _ a4, a5, a6, a7⟩
theorem StRows.updL {K : PySem.W.Frag} {F : Addr → Prop} {H : Hp} {D : Addr} {o : HO} {ys : List V} {us : List Addr} {rs : List Stt} (hD : H D = some (.lst ys)) (h : StRows K F H D us rs) : StRows K F (upd H D o) D us rs := by
  refine ⟨h.len, fun i u r h1 h2 => ?_⟩
  obtain ⟨G, E, xs, a1, a2, a3, a4, a5, a6, a7⟩ := h.at_ i u r h1 h2
  exact ⟨G, E, xs, by rw [upd_ne fun z => by rw [z, hD] at a1; cases a1]; exact a1, a2.updL hD a5, by rw [upd_ne a5]; exact a3, by rw [upd_ne a6]; exact a4, a5, a6, a7⟩
theorem StRows.snoc {K : PySem.W.Frag} {F : Addr → Prop} {H : Hp} {D u G E : Addr} {xs : List V} {us : List Addr} {rs : List Stt} {r : Stt} (h : StRows K F H D us rs) (a1 : H u = some (.tup [.ref G, .ref E])) (a2 : Goes K H G r.1) (a3 : H G = some (.lst xs)) (a4 : H E = some (.lst (r.2.map V.str))) (a5 : G ≠ D) (a6 : E ≠ D) (a7 : F G) (a8 : F E) : StRows K F H D (us ++ [u]) (rs ++ [r]) := by
  refine ⟨by rw [List.length_append, List.length_append, h.len]; rfl, fun i v q h1 h2 => ?_⟩
  rcases Nat.lt_or_ge i us.length with hlt | hge
  · rw [List.getElem?_append_left hlt] at h1
    rw [List.getElem?_append_left (by rw [← h.len]; exact hlt)] at h2
    exact h.at_ i v q h1 h2
  · have hn1 : i < (us ++ [u]).length := (List.getElem?_eq_some_iff.mp h1).1
    rw [List.length_append, List.length_singleton] at hn1
    have e : i = us.length := by omega
    subst e
    rw [List.getElem?_append_right (Nat.le_refl _), Nat.sub_self] at h1
    rw [List.getElem?_append_right (by rw [h.len]; exact Nat.le_refl _), h.len, Nat.sub_self] at h2
    cases h1; cases h2
    exact ⟨G, E, xs, a1, a2, a3, a4, a5, a6, a7, a8⟩
theorem three_le : ([] : List V).length + 1 + 1 + 1 ≤ sizeLine := by decide
theorem StRows.dts {K : PySem.W.Frag} {F : Addr → Prop} {H : Hp} {D : Addr} : ∀ {us : List Addr} {rs : List Stt}, StRows K F H D us rs → IsDts K H (us.map V.ref) (rs.map stD)
  | [], [], _ => .nil
  | [], _ :: _, h => by have := h.len; simp at this
  | _ :: _, [], h => by have := h.len; simp at this
  | u :: us, r :: rs, h => by
    obtain ⟨G, E, xs, a1, ⟨gv, a2, a2'⟩, a3, a4, _⟩ := h.at_ 0 u r rfl rfl
    refine .cons (.tup (SqT.of a1) (.cons (.lst a2 a2') (.cons (.lst (SqL.of a4) (IsDts.strs _)) .nil))) ?_
    exact StRows.dts (D := D) ⟨by simpa using h.len, fun i v q h1 h2 => h.at_ (i + 1) v q (by simpa using h1) (by simpa using h2)⟩
theorem StRows.stts {K : PySem.W.Frag} {F : Addr → Prop} {H : Hp} {a : Addr} {us : List Addr} {rs : List Stt} (e : H a = some (.lst (us.map V.ref))) (h : StRows K F H a us rs) : Stts K H a rs := ⟨_, SqL.of e, h.dts⟩
theorem srt_uniq {O : KeyOrd} {l m : List O.α} (h : l.Perm m) (h1 : l.Pairwise O.kle) (h2 : m.Pairwise O.kle) : l = m :=
  h.eq_of_pairwise (fun a b _ _ x y => KeyOrd.kle_antisymm x y) h1 h2
theorem cmp_go (p q : Str × Int) : Cmp 2 (goD p) (goD q) := .tup (.cons (.str _ _) (.cons (.int _ _) (.nil _)))
structure GT (H : Hp) (ts : List Addr) (gs : List (Str × Int)) : Prop where
  len : ts.length = gs.length
  at_ : ∀ (n : Nat) (t : Addr) (p : Str × Int), ts[n]? = some t → gs[n]? = some p → H t = some (.tup [.str p.1, .int p.2])
theorem GT.nil {H : Hp} : GT H [] [] := ⟨rfl, fun n t p h => by simp at h⟩
theorem GT.same {H H' : Hp} {ts : List Addr} {gs : List (Str × Int)} (e : Same H H') (h : GT H ts gs) : GT H' ts gs := ⟨h.len, fun n t p h1 h2 => e _ _ (h.at_ n t p h1 h2)⟩
theorem GT.updL {H : Hp} {a : Addr} {o : HO} {xs : List V} {ts : List Addr} {gs : List (Str × Int)} (hD : H a = some (.lst xs)) (h : GT H ts gs) : GT (upd H a o) ts gs := ⟨h.len, fun n t p h1 h2 => by
  have := h.at_ n t p h1 h2
  rw [upd_ne fun z => by rw [z, hD] at this; cases this]
  exact this⟩
theorem GT.snoc {H : Hp} {t : Addr} {ts : List Addr} {gs : List (Str × Int)} {p : Str × Int} (h : GT H ts gs) (e : H t = some (.tup [.str p.1, .int p.2])) : GT H (ts ++ [t]) (gs ++ [p]) := by
  refine ⟨by rw [List.length_append, List.length_append, h.len]; rfl, fun n v q h1 h2 => ?_⟩
  rcases Nat.lt_or_ge n ts.length with hlt | hge
  · rw [List.getElem?_append_left hlt] at h1
    rw [List.getElem?_append_left (by rw [← h.len]; exact hlt)] at h2
    exact h.at_ n v q h1 h2
  · have hn1 : n < (ts ++ [t]).length := (List.getElem?_eq_some_iff.mp h1).1
    rw [List.length_append, List.length_singleton] at hn1
    have e' : n = ts.length := by omega
    subst e'
    rw [List.getElem?_append_right (Nat.le_refl _), Nat.sub_self] at h1
    rw [List.getElem?_append_right (by rw [h.len]; exact Nat.le_refl _), h.len, Nat.sub_self] at h2
    cases h1; cases h2
    exact e
theorem GT.dts {K : PySem.W.Frag} {H : Hp} {ts : List Addr} {gs : List (Str × Int)} (h : GT H ts gs) : IsDts K H (ts.map V.ref) (gs.map goD) := by
  obtain ⟨zs, z1, z2, z3⟩ := zip_rows (K := K) h.len h.at_
  rw [← z1, ← z2]
  exact rows_dts zs z3
theorem comp_rangeI {k : Nat} {caps : List Nat} {g : TG} {te : TE} {σ : St} {H1 : Hp} {Q : Addr → Hp → Prop} {lo : Int} {n : Nat} (Pv : Addr → Nat → List V → Hp → Prop)
    (h0 : ∀ D, H1 D = none → Pv D 0 [] (upd H1 D (.lst [])))
    (hs : ∀ (D : Addr) (i : Nat) (ys : List V) (H2 : Hp) (R : VK), H1 D = none → i < n → Pv D i ys H2 → (∀ y H6, H6 D = some (.lst ys) → ys.length < sizeLine → Pv D (i + 1) (ys ++ [y]) (upd H6 D (.lst (ys ++ [y]))) → R y H6) → g (.int (lo + i)) (compSt k caps σ) H2 fun σ4 H4 => te σ4 H4 R)
    (hd : ∀ D ys H2, H1 D = none → Pv D n ys H2 → Q D H2) :
    ∀ D, H1 D = none → ∃ W : Nat → Nat → List V → Hp → Prop, (∃ m, W 0 m [] (upd H1 D (.lst []))) ∧ ∀ i m ys H2, W i m ys H2 →
      ((Itr lo n).stop i H2 ∧ Q D H2) ∨ ((Itr lo n).go i H2 ∧ ∀ x H3, (Itr lo n).yld i H2 x H3 → g x (compSt k caps σ) H3 fun σ4 H4 => tYes σ4 H4 fun b H5 =>
        if b = true then te σ4 H5 fun y H6 => H6 D = some (.lst ys) ∧ ys.length < sizeLine ∧ ∃ m', m' < m ∧ W (i + 1) m' (ys ++ [y]) (upd H6 D (.lst (ys ++ [y]))) else ∃ m', m' < m ∧ W (i + 1) m' ys H5) := by
  intro D hD
  refine ⟨fun i m ys H2 => m = n - i ∧ i ≤ n ∧ Pv D i ys H2, ⟨n, rfl, Nat.zero_le _, h0 D hD⟩, ?_⟩
  rintro i m ys H2 ⟨rfl, hi, p⟩
  by_cases hlt : i < n
  · refine .inr ⟨hlt, fun x H3 y => ?_⟩
    obtain ⟨rfl, rfl⟩ := y
    refine hs D i ys H3 _ hD hlt p fun v H6 e6 hz p6 => ?_
    exact ⟨e6, hz, n - (i + 1), by omega, rfl, hlt, p6⟩
  · have e : i = n := by omega
    subst e
    exact .inl ⟨Nat.le_refl _, hd D ys H2 hD p⟩
theorem pair_kle {p q : Str × Str} (h : (lexO strO strO).kle p q) (hn : p ≠ q) : ltS p.1 q.1 ∨ (p.1 = q.1 ∧ ltS p.2 q.2) := by
  have h' : (lexO strO strO).blt q p = false := h
  cases e : (lexO strO strO).blt p q with
  | false => exact absurd ((lexO strO strO).total _ _ e h') hn
  | true =>
    by_cases e1 : p.1 = q.1
    · rw [lexO_eq (c := strC) (d := strC) p q e1] at e
      exact .inr ⟨e1, show p.2.cps.toList < q.2.cps.toList from of_decide_eq_true e⟩
    · rw [lexO_ne (c := strC) (d := strC) p q e1] at e
      exact .inl (show p.1.cps.toList < q.1.cps.toList from of_decide_eq_true e)
end L2
namespace L2
open PySem PySem.Spec PyProof.Rows Ord
structure Keeps (M : Addr → Prop) (H H' : Hp) : Prop where
  at_ : ∀ x o, H x = some o → ¬ M x → H' x = some o
  ls : ∀ x o, M x → H x = some o → ∃ xs, o = HO.lst xs
section
variable {K : PySem.W.Frag} {M : Addr → Prop} {H H' : Hp}
theorem Keeps.refl (h : ∀ x o, M x → H x = some o → ∃ xs, o = HO.lst xs) : Keeps M H H := ⟨fun _ _ e _ => e, h⟩
theorem Keeps.set {D : Addr} {o : HO} (k : Keeps M H H') (hD : M D) : Keeps M H (upd H' D o) := ⟨fun x u e n => by
  have hn : x ≠ D := fun z => n (by rw [z]; exact hD)
  rw [upd_ne hn]; exact k.at_ x u e n, k.ls⟩
theorem Keeps.one {D : Addr} {xs : List V} {o : HO} (hD : H D = some (.lst xs)) : Keeps (· = D) H (upd H D o) :=
  ⟨fun x u e n => by rw [upd_ne n]; exact e, fun x u m e => by rw [m, hD] at e; exact ⟨xs, (Option.some.inj e).symm⟩⟩
theorem Keeps.same {H2 : Hp} (k : Keeps M H H') (s : Same H' H2) : Keeps M H H2 := ⟨fun x o e n => s _ _ (k.at_ x o e n), k.ls⟩
theorem Keeps.noT (k : Keeps M H H') {a : Addr} {xs : List V} (h : H a = some (.tup xs)) : ¬ M a := fun m => by
  obtain ⟨_, e⟩ := k.ls _ _ m h
  cases e
theorem Keeps.tup (k : Keeps M H H') {a : Addr} {xs : List V} (h : H a = some (.tup xs)) : H' a = some (.tup xs) := k.at_ _ _ h (k.noT h)
theorem Keeps.seq (k : Keeps M H H') {a : Addr} {xs : List V} (hn : ¬ M a) (h : SqL K H a xs) : SqL K H' a xs := by
  rcases h with (h | ⟨u, h⟩) | h
  · exact .inl (.inl (k.at_ _ _ h hn))
  · exact .inl (.inr ⟨u, k.at_ _ _ h hn⟩)
  · exact .inr h
theorem Keeps.seqT (k : Keeps M H H') {a : Addr} {xs : List V} (h : SqT K H a xs) : SqT K H' a xs := by
  rcases h with (h | ⟨u, h⟩) | h
  · exact .inl (.inl (k.tup h))
  · refine .inl (.inr ⟨u, k.at_ _ _ h fun m => ?_⟩)
    obtain ⟨_, e⟩ := k.ls _ _ m h
    cases e
  · exact .inr h
theorem Keeps.gos (k : Keeps M H H') : ∀ {vs : List V} {gs : List (Str × Int)}, IsDts K H vs (gs.map goD) → IsDts K H' vs (gs.map goD)
  | _, [], .nil => .nil
  | _, p :: gs, .cons h t => by
    obtain ⟨a, e, sq⟩ := go_at h
    subst e
    exact .cons (.tup (k.seqT sq) (.cons (.str _) (.cons (.int _) .nil))) (Keeps.gos k t)
theorem Keeps.goes (k : Keeps M H H') {a : Addr} {gs : List (Str × Int)} (hn : ¬ M a) (h : Goes K H a gs) : Goes K H' a gs := by
  obtain ⟨vs, h1, h2⟩ := h
  exact ⟨vs, k.seq hn h1, k.gos h2⟩
theorem Keeps.tups (k : Keeps M H H') {ts : List Addr} {ps : List (Str × Str)} (h : Tups H ts ps) : Tups H' ts ps := ⟨h.len, fun n t p h1 h2 => k.tup (h.at_ n t p h1 h2)⟩
theorem Keeps.rows (k : Keeps M H H') {F : Addr → Prop} {D : Addr} {us : List Addr} {rs : List Stt} (hF : ∀ x, F x → ¬ M x) (h : StRows K F H D us rs) : StRows K F H' D us rs := by
  refine ⟨h.len, fun i u r h1 h2 => ?_⟩
  obtain ⟨G, E, xs, a1, a2, a3, a4, a5, a6, a7, a8⟩ := h.at_ i u r h1 h2
  exact ⟨G, E, xs, k.tup a1, k.goes (hF _ a7) a2, k.at_ _ _ a3 (hF _ a7), k.at_ _ _ a4 (hF _ a8), a5, a6, a7, a8⟩
end
theorem StRows.stE {K : PySem.W.Frag} {F : Addr → Prop} {H : Hp} {a : Addr} {us : List Addr} {rs : List Stt} (e : H a = some (.lst (us.map V.ref))) (h : StRows K F H a us rs) : StE K H a rs := by
  refine ⟨_, SqL.of e, by rw [List.length_map, h.len], fun i v s hv hs => ?_⟩
  rw [List.getElem?_map] at hv
  obtain ⟨u, hu, rfl⟩ := Option.map_eq_some_iff.mp hv
  obtain ⟨G, E, xs, a1, a2, a3, a4, _⟩ := h.at_ i u s hu hs
  exact ⟨u, G, E, rfl, SqT.of a1, a2, a4⟩
theorem StRows.mono {K : PySem.W.Frag} {F F' : Addr → Prop} {H : Hp} {D : Addr} {us : List Addr} {rs : List Stt} (hF : ∀ x, F x → F' x) (h : StRows K F H D us rs) : StRows K F' H D us rs := by
  refine ⟨h.len, fun i u r h1 h2 => ?_⟩
  obtain ⟨G, E, xs, a1, a2, a3, a4, a5, a6, a7, a8⟩ := h.at_ i u r h1 h2
  exact ⟨G, E, xs, a1, a2, a3, a4, a5, a6, hF _ a7, hF _ a8⟩
theorem StRows.alive {K : PySem.W.Frag} {F : Addr → Prop} {H : Hp} {D : Addr} {us : List Addr} {rs : List Stt} (h : StRows K F H D us rs) : StRows K (fun x => F x ∧ ∃ o, H x = some o) H D us rs := by
  refine ⟨h.len, fun i u r h1 h2 => ?_⟩
  obtain ⟨G, E, xs, a1, a2, a3, a4, a5, a6, a7, a8⟩ := h.at_ i u r h1 h2
  exact ⟨G, E, xs, a1, a2, a3, a4, a5, a6, ⟨a7, _, a3⟩, a8, _, a4⟩
structure Tab (K : PySem.W.Frag) (F : Addr → Prop) (H : Hp) (t : Addr) (rs : List Stt) (n : Int) (ord : List (Str × Str)) : Prop where
  ex : ∃ (a o : Addr) (us : List Addr) (ts : List Addr), H t = some (.tup [.ref a, .int n, .ref o]) ∧ F a ∧ F o ∧ a ≠ o ∧ H a = some (.lst (us.map V.ref)) ∧ StRows K F H a us rs ∧ H o = some (.lst (ts.map V.ref)) ∧ Tups H ts ord
theorem Tab.keeps {K : PySem.W.Frag} {M F : Addr → Prop} {H H' : Hp} {t : Addr} {rs : List Stt} {n : Int} {ord : List (Str × Str)} (k : Keeps M H H') (hF : ∀ x, F x → ¬ M x) (h : Tab K F H t rs n ord) : Tab K F H' t rs n ord := by
  obtain ⟨a, o, us, ts, h1, h2, h3, h4, h5, h6, h7, h8⟩ := h.ex
  exact ⟨a, o, us, ts, k.tup h1, h2, h3, h4, k.at_ _ _ h5 (hF _ h2), k.rows hF h6, k.at_ _ _ h7 (hF _ h3), k.tups h8⟩
theorem Tab.same {K : PySem.W.Frag} {F : Addr → Prop} {H H' : Hp} {t : Addr} {rs : List Stt} {n : Int} {ord : List (Str × Str)} (s : Same H H') (h : Tab K F H t rs n ord) : Tab K F H' t rs n ord := by
  obtain ⟨a, o, us, ts, h1, h2, h3, h4, h5, h6, h7, h8⟩ := h.ex
  exact ⟨a, o, us, ts, s _ _ h1, h2, h3, h4, s _ _ h5, h6.same s, s _ _ h7, h8.same s⟩
theorem Tab.mono {K : PySem.W.Frag} {F F' : Addr → Prop} {H : Hp} {t : Addr} {rs : List Stt} {n : Int} {ord : List (Str × Str)} (hF : ∀ x, F x → F' x) (h : Tab K F H t rs n ord) : Tab K F' H t rs n ord := by
  obtain ⟨a, o, us, ts, h1, h2, h3, h4, h5, h6, h7, h8⟩ := h.ex
  exact ⟨a, o, us, ts, h1, hF _ h2, hF _ h3, h4, h5, h6.mono hF, h7, h8⟩
def uStates : List Stt := [([("all", 1), ("allon", 1), ("elder", 1), ("up", 0)], ["let", "open", "own"]), ([("allon", 1), ("elder", 1)], ["open"]), ([("up", 0)], ["let", "open", "own"])]
def uPairs : List (Str × Str) := [("let", "elder"), ("open", "elder"), ("own", "elder"), ("elder", "all"), ("elder", "allon"), ("all", "up"), ("allon", "up")]
def uOrd : List (Str × Str) := [("all", "up"), ("allon", "up"), ("elder", "all"), ("elder", "allon"), ("elder", "up"), ("let", "all"), ("let", "allon"), ("let", "elder"), ("let", "up"), ("open", "all"), ("open", "allon"), ("open", "elder"), ("open", "up"), ("own", "all"), ("own", "allon"), ("own", "elder"), ("own", "up")]
theorem u_one : ∀ q ∈ uPairs, q ∈ uOrd := by decide +kernel
theorem u_step : ∀ p ∈ uOrd, ∀ q ∈ uPairs, p.2 = q.1 → (p.1, q.2) ∈ uOrd := by decide +kernel
theorem u_path : ∀ p ∈ uOrd, p ∈ uPairs ∨ (∃ q ∈ uPairs, ∃ r ∈ uPairs, q.1 = p.1 ∧ q.2 = r.1 ∧ r.2 = p.2) ∨ ∃ q ∈ uPairs, ∃ r ∈ uPairs, ∃ s ∈ uPairs, q.1 = p.1 ∧ q.2 = r.1 ∧ r.2 = s.1 ∧ s.2 = p.2 := by decide +kernel
theorem u_mem (a b : Str) : (a, b) ∈ uOrd ↔ Path uPairs a b := by
  constructor
  · intro h
    rcases u_path _ h with h | ⟨⟨q1, q2⟩, hq, ⟨r1, r2⟩, hr, e1, e2, e3⟩ | ⟨⟨q1, q2⟩, hq, ⟨r1, r2⟩, hr, ⟨t1, t2⟩, ht, e1, e2, e3, e4⟩
    · exact .one h
    · dsimp only at e1 e2 e3
      subst e1 e2 e3
      exact .snoc (.one hq) hr
    · dsimp only at e1 e2 e3 e4
      subst e1 e2 e3 e4
      exact .snoc (.snoc (.one hq) hr) ht
  · intro h
    induction h with
    | one e => exact u_one _ e
    | snoc _ e ih => exact u_step _ ih _ e rfl
theorem u_nd : uOrd.Nodup := by decide +kernel
instance kle_dec {O : KeyOrd} (a b : O.α) : Decidable (O.kle a b) := inferInstanceAs (Decidable (O.blt b a = false))
theorem u_srt : uOrd.Pairwise (lexO strO strO).kle := by decide +kernel
theorem u_ac (x : Str) : ¬ Path uPairs x x := fun h => by
  have h := (u_mem x x).mpr h
  exact absurd rfl ((show ∀ p ∈ uOrd, p.1 ≠ p.2 by decide +kernel) _ h)
theorem u_og : ∀ s ∈ uStates, s.1.Pairwise (lexO strO intO).kle ∧ s.2.Pairwise strO.kle := by decide +kernel
theorem u_rs {rs : List Stt} (hl : rs.length = uStates.length) (h : ∀ (i : Nat) (s r : Stt), uStates[i]? = some s → rs[i]? = some r → SrtOf s r) : rs = uStates := by
  refine List.ext_getElem hl fun i h1 h2 => ?_
  have so := h i _ _ (List.getElem?_eq_getElem h2) (List.getElem?_eq_getElem h1)
  obtain ⟨o1, o2⟩ := u_og _ (List.getElem_mem h2)
  exact Prod.ext (srt_uniq (O := lexO strO intO) so.pg so.og o1) (srt_uniq (O := strO) so.pe so.oe o2)
end L2
namespace L2
open PySem PySem.Spec PyProof.Rows Ord
section
variable {X : Cx}
end
theorem atI_in {α : Type} {xs : List α} {i : Int} (h0 : 0 ≤ i) (h1 : i < xs.length) : ∃ c, atI xs i = some c := by
  obtain ⟨n, rfl⟩ := Int.eq_ofNat_of_zero_le h0
  exact ⟨xs[n]'(by omega), atI_nat (List.getElem?_eq_getElem (by omega))⟩
abbrev ansD : Option (Str × Int) → Dt
  | none => .non
  | some p => goD p
def Ans (K : PySem.W.Frag) (H : Hp) (a : Addr) (as : List (Option (Str × Int))) : Prop := ∃ vs, SqL K H a vs ∧ IsDts K H vs (as.map ansD)
abbrev Qu : Type := Int × Int × List Str
abbrev quD (q : Qu) : Dt := .tup [.int q.1, .int q.2.1, .tup (q.2.2.map Dt.str)]
section
variable {K : PySem.W.Frag} {H H' : Hp} {a : Addr}
theorem Ans.same {as : List (Option (Str × Int))} (e : Same H H') (h : Ans K H a as) : Ans K H' a as := by
  obtain ⟨vs, h1, h2⟩ := h
  exact ⟨vs, e.seq h1, h2.same e⟩
theorem ans_at {v : V} {o : Option (Str × Int)} (h : IsDt K H v (ansD o)) : (o = none ∧ v = .non) ∨ ∃ p t, o = some p ∧ v = .ref t ∧ SqT K H t [.str p.1, .int p.2] := by
  cases o with
  | none => cases h; exact .inl ⟨rfl, rfl⟩
  | some p =>
    obtain ⟨t, e, sq⟩ := go_at h
    exact .inr ⟨p, t, rfl, e, sq⟩
theorem Ans.get {as : List (Option (Str × Int))} (h : Ans K H a as) {k : Nat} (hk : k < as.length) : ∃ vs v, SqL K H a vs ∧ vs[k]? = some v ∧ ((as[k]? = some none ∧ v = .non) ∨ ∃ p t, as[k]? = some (some p) ∧ v = .ref t ∧ SqT K H t [.str p.1, .int p.2]) := by
  obtain ⟨vs, h1, h2⟩ := h
  have hs := List.getElem?_eq_getElem hk
  obtain ⟨v, hv, hd⟩ := h2.get' (i := k) (d := ansD as[k]) (by rw [List.getElem?_map, hs]; rfl)
  refine ⟨vs, v, h1, hv, ?_⟩
  rcases ans_at hd with ⟨e1, e2⟩ | ⟨p, t, e1, e2, e3⟩
  · exact .inl ⟨by rw [hs, e1], e2⟩
  · exact .inr ⟨p, t, by rw [hs, e1], e2, e3⟩
theorem Goes.get {gs : List (Str × Int)} (h : Goes K H a gs) {k : Nat} {p : Str × Int} (hk : gs[k]? = some p) : ∃ vs t, SqL K H a vs ∧ vs[k]? = some (.ref t) ∧ SqT K H t [.str p.1, .int p.2] := by
  obtain ⟨vs, h1, h2⟩ := h
  obtain ⟨v, hv, hd⟩ := h2.get' (i := k) (d := goD p) (by rw [List.getElem?_map, hk]; rfl)
  obtain ⟨t, rfl, sq⟩ := go_at hd
  exact ⟨vs, t, h1, hv, sq⟩
theorem Keeps.anss {M : Addr → Prop} (k : Keeps M H H') : ∀ {vs : List V} {as : List (Option (Str × Int))}, IsDts K H vs (as.map ansD) → IsDts K H' vs (as.map ansD)
  | _, [], .nil => .nil
  | _, none :: as, .cons h t => by
    cases h
    exact .cons .non (Keeps.anss k t)
  | _, some p :: as, .cons h t => by
    obtain ⟨a, e, sq⟩ := go_at h
    subst e
    exact .cons (.tup (k.seqT sq) (.cons (.str _) (.cons (.int _) .nil))) (Keeps.anss k t)
end
structure QT (H : Hp) (ts : List Addr) (qs : List Qu) : Prop where
  len : ts.length = qs.length
  at_ : ∀ (n : Nat) (t : Addr) (q : Qu), ts[n]? = some t → qs[n]? = some q → ∃ u, H t = some (.tup [.int q.1, .int q.2.1, .ref u]) ∧ H u = some (.tup (q.2.2.map V.str))
theorem QT.nil {H : Hp} : QT H [] [] := ⟨rfl, fun n t p h => by simp at h⟩
theorem QT.same {H H' : Hp} {ts : List Addr} {qs : List Qu} (e : Same H H') (h : QT H ts qs) : QT H' ts qs := ⟨h.len, fun n t p h1 h2 => by
  obtain ⟨u, e1, e2⟩ := h.at_ n t p h1 h2
  exact ⟨u, e _ _ e1, e _ _ e2⟩⟩
theorem QT.keeps {M : Addr → Prop} {H H' : Hp} {ts : List Addr} {qs : List Qu} (k : Keeps M H H') (h : QT H ts qs) : QT H' ts qs := ⟨h.len, fun n t p h1 h2 => by
  obtain ⟨u, e1, e2⟩ := h.at_ n t p h1 h2
  exact ⟨u, k.tup e1, k.tup e2⟩⟩
theorem GT.keeps {M : Addr → Prop} {H H' : Hp} {ts : List Addr} {gs : List (Str × Int)} (k : Keeps M H H') (h : GT H ts gs) : GT H' ts gs := ⟨h.len, fun n t p h1 h2 => k.tup (h.at_ n t p h1 h2)⟩
theorem QT.snoc {H : Hp} {t u : Addr} {ts : List Addr} {qs : List Qu} {q : Qu} (h : QT H ts qs) (e : H t = some (.tup [.int q.1, .int q.2.1, .ref u])) (e2 : H u = some (.tup (q.2.2.map V.str))) : QT H (ts ++ [t]) (qs ++ [q]) := by
  refine ⟨by rw [List.length_append, List.length_append, h.len]; rfl, fun n v q' h1 h2 => ?_⟩
  rcases Nat.lt_or_ge n ts.length with hlt | hge
  · rw [List.getElem?_append_left hlt] at h1
    rw [List.getElem?_append_left (by rw [← h.len]; exact hlt)] at h2
    exact h.at_ n v q' h1 h2
  · have hn1 : n < (ts ++ [t]).length := (List.getElem?_eq_some_iff.mp h1).1
    rw [List.length_append, List.length_singleton] at hn1
    have e' : n = ts.length := by omega
    subst e'
    rw [List.getElem?_append_right (Nat.le_refl _), Nat.sub_self] at h1
    rw [List.getElem?_append_right (by rw [h.len]; exact Nat.le_refl _), h.len, Nat.sub_self] at h2
    cases h1; cases h2
    exact ⟨u, e, e2⟩
theorem QT.dts {K : PySem.W.Frag} {H : Hp} {ts : List Addr} {qs : List Qu} (h : QT H ts qs) : IsDts K H (ts.map V.ref) (qs.map quD) := by
  refine IsDts.of_get (by simpa using h.len) fun n v d e1 e2 => ?_
  rw [List.getElem?_map] at e1 e2
  obtain ⟨t, h1, rfl⟩ := Option.map_eq_some_iff.mp e1
  obtain ⟨q, h2, rfl⟩ := Option.map_eq_some_iff.mp e2
  obtain ⟨u, a1, a2⟩ := h.at_ n t q h1 h2
  exact .tup (SqT.of a1) (.cons (.int _) (.cons (.int _) (.cons (.tup (SqT.of a2) (IsDts.strs _)) .nil)))
def sortV (ths : List (Str × Int)) (as : List (Option (Str × Int))) (q : Int) : Str × Int := match as[q.toNat]? with
  | some (some p) => if p.1 = ("thing" : Str) then (match ths[p.2.toNat]? with
    | some k => if k.1 = ("part" : Str) then ("to", k.2) else ("no", 0)
    | none => ("no", 0)) else ("no", 0)
  | some none => ("open", q)
  | none => ("no", 0)
def insideV (ths : List (Str × Int)) (as : List (Option (Str × Int))) (p : Str × Int) : Str × Int :=
  if p.1 = ("part" : Str) then ("to", p.2) else if p.1 = ("sort" : Str) then sortV ths as p.2 else ("no", 0)
structure NetOk (ths : List (Str × Int)) (as : List (Option (Str × Int))) : Prop where
  q : ∀ p ∈ ths, p.1 = ("sort" : Str) → 0 ≤ p.2 ∧ p.2 < as.length
  t : ∀ p, some p ∈ as → p.1 = ("thing" : Str) → 0 ≤ p.2 ∧ p.2 < ths.length
theorem sortV_open {ths : List (Str × Int)} {as : List (Option (Str × Int))} {n : Nat} (h : as[n]? = some none) : sortV ths as (n : Int) = (("open" : Str), (n : Int)) := by
  unfold sortV; rw [Int.toNat_natCast, h]
theorem sortV_no {ths : List (Str × Int)} {as : List (Option (Str × Int))} {n : Nat} {p : Str × Int} (h : as[n]? = some (some p)) (hp : p.1 ≠ ("thing" : Str)) : sortV ths as (n : Int) = (("no" : Str), 0) := by
  unfold sortV; rw [Int.toNat_natCast, h]; exact if_neg hp
theorem sortV_part {ths : List (Str × Int)} {as : List (Option (Str × Int))} {n m : Nat} {p k : Str × Int} (h : as[n]? = some (some p)) (hp : p.1 = ("thing" : Str)) (hm : p.2 = (m : Int)) (hk : ths[m]? = some k) (hk1 : k.1 = ("part" : Str)) : sortV ths as (n : Int) = (("to" : Str), k.2) := by
  unfold sortV; rw [Int.toNat_natCast, h]
  show (if p.1 = ("thing" : Str) then _ else _) = _
  rw [if_pos hp, hm, Int.toNat_natCast, hk]
  exact if_pos hk1
theorem sortV_none {ths : List (Str × Int)} {as : List (Option (Str × Int))} {n m : Nat} {p k : Str × Int} (h : as[n]? = some (some p)) (hp : p.1 = ("thing" : Str)) (hm : p.2 = (m : Int)) (hk : ths[m]? = some k) (hk1 : k.1 ≠ ("part" : Str)) : sortV ths as (n : Int) = (("no" : Str), 0) := by
  unfold sortV; rw [Int.toNat_natCast, h]
  show (if p.1 = ("thing" : Str) then _ else _) = _
  rw [if_pos hp, hm, Int.toNat_natCast, hk]
  exact if_neg hk1
end L2
namespace L2
open PySem PySem.Spec PyProof.Rows Ord
theorem ps_augR {X : Cx} {pos : Pos} {i : Nat} {x : Str} {e : Expr} {te : TE} {op : Operator} {ti : R2} {pos' : Pos} (hN : X.N.Nodup) (hi : X.N[i]? = some x) (hx : Loc X.env.scope x) (he : PE X e te) (ho : OpR X (inplaceOp op) ti) (hf : X.fn x = true ∨ X.env.scope.names.lookup x = some .local := by first | exact .inl rfl | exact .inr rfl | assumption) :
    PS X (.AugAssign (.Name x pos') op e pos) (tAug i te ti) := ps_aug hN hi hx he ho hf
abbrev Stp : Type := Str × Str × Int
abbrev stpV (p : Stp) : List V := [.str p.1, .str p.2.1, .int p.2.2]
abbrev Tlg : Type := Str × Str × Str × Int
abbrev tlgV (p : Tlg) : List V := [.str p.1, .str p.2.1, .str p.2.2.1, .int p.2.2.2]
abbrev stpD (p : Stp) : Dt := .tup [.str p.1, .str p.2.1, .int p.2.2]
abbrev tlgD (p : Tlg) : Dt := .tup [.str p.1, .str p.2.1, .str p.2.2.1, .int p.2.2.2]
section
variable {α : Type} {f : α → List V} {H H' : Hp} {ts : List Addr} {rs : List α}
structure RT (f : α → List V) (H : Hp) (ts : List Addr) (rs : List α) : Prop where
  len : ts.length = rs.length
  at_ : ∀ (n : Nat) (t : Addr) (r : α), ts[n]? = some t → rs[n]? = some r → H t = some (.tup (f r))
theorem RT.nil : RT f H [] [] := ⟨rfl, fun n t p h => by simp at h⟩
theorem RT.same (e : Same H H') (h : RT f H ts rs) : RT f H' ts rs := ⟨h.len, fun n t p h1 h2 => e _ _ (h.at_ n t p h1 h2)⟩
theorem RT.keeps {M : Addr → Prop} (k : Keeps M H H') (h : RT f H ts rs) : RT f H' ts rs := ⟨h.len, fun n t p h1 h2 => k.tup (h.at_ n t p h1 h2)⟩
theorem RT.snoc {t : Addr} {r : α} (h : RT f H ts rs) (e : H t = some (.tup (f r))) : RT f H (ts ++ [t]) (rs ++ [r]) := by
  refine ⟨by rw [List.length_append, List.length_append, h.len]; rfl, fun n v q h1 h2 => ?_⟩
  rcases Nat.lt_or_ge n ts.length with hlt | hge
  · rw [List.getElem?_append_left hlt] at h1
    rw [List.getElem?_append_left (by rw [← h.len]; exact hlt)] at h2
    exact h.at_ n v q h1 h2
  · have hn1 : n < (ts ++ [t]).length := (List.getElem?_eq_some_iff.mp h1).1
    rw [List.length_append, List.length_singleton] at hn1
    have e' : n = ts.length := by omega
    subst e'
    rw [List.getElem?_append_right (Nat.le_refl _), Nat.sub_self] at h1
    rw [List.getElem?_append_right (by rw [h.len]; exact Nat.le_refl _), h.len, Nat.sub_self] at h2
    cases h1; cases h2
    exact e
theorem RT.dts {K : PySem.W.Frag} {g : α → Dt} (hg : ∀ (r : α) (t : Addr), H t = some (.tup (f r)) → IsDt K H (.ref t) (g r)) (h : RT f H ts rs) : IsDts K H (ts.map V.ref) (rs.map g) := by
  refine IsDts.of_get (by simpa using h.len) fun n v d e1 e2 => ?_
  rw [List.getElem?_map] at e1 e2
  obtain ⟨t, h1, rfl⟩ := Option.map_eq_some_iff.mp e1
  obtain ⟨q, h2, rfl⟩ := Option.map_eq_some_iff.mp e2
  exact hg q t (h.at_ n t q h1 h2)
end
theorem stp_dt {K : PySem.W.Frag} {H : Hp} (r : Stp) (t : Addr) (h : H t = some (.tup (stpV r))) : IsDt K H (.ref t) (stpD r) := .tup (SqT.of h) (.cons (.str _) (.cons (.str _) (.cons (.int _) .nil)))
theorem tlg_dt {K : PySem.W.Frag} {H : Hp} (r : Tlg) (t : Addr) (h : H t = some (.tup (tlgV r))) : IsDt K H (.ref t) (tlgD r) := .tup (SqT.of h) (.cons (.str _) (.cons (.str _) (.cons (.str _) (.cons (.int _) .nil))))
abbrev Sco : Type := List Stp × List Tlg
abbrev scoD (s : Sco) : Dt := .tup [.lst (s.1.map stpD), .lst (s.2.map tlgD)]
structure ScH (H : Hp) (u G E : Addr) (s : Sco) : Prop where
  u : H u = some (.tup [.ref G, .ref E])
  g : ∃ ts : List Addr, H G = some (.lst (ts.map V.ref)) ∧ RT stpV H ts s.1
  e : ∃ ts : List Addr, H E = some (.lst (ts.map V.ref)) ∧ RT tlgV H ts s.2
theorem ScH.same {H H' : Hp} {u G E : Addr} {s : Sco} (e : Same H H') (h : ScH H u G E s) : ScH H' u G E s := by
  obtain ⟨a, ⟨ts, b1, b2⟩, ⟨us, c1, c2⟩⟩ := h
  exact ⟨e _ _ a, ⟨ts, e _ _ b1, b2.same e⟩, ⟨us, e _ _ c1, c2.same e⟩⟩
theorem ScH.keeps {M : Addr → Prop} {H H' : Hp} {u G E : Addr} {s : Sco} (k : Keeps M H H') (hG : ¬ M G) (hE : ¬ M E) (h : ScH H u G E s) : ScH H' u G E s := by
  obtain ⟨a, ⟨ts, b1, b2⟩, ⟨us, c1, c2⟩⟩ := h
  exact ⟨k.tup a, ⟨ts, k.at_ _ _ b1 hG, b2.keeps k⟩, ⟨us, k.at_ _ _ c1 hE, c2.keeps k⟩⟩
theorem ScH.dt {K : PySem.W.Frag} {H : Hp} {u G E : Addr} {s : Sco} (h : ScH H u G E s) : IsDt K H (.ref u) (scoD s) := by
  obtain ⟨a, ⟨ts, b1, b2⟩, ⟨us, c1, c2⟩⟩ := h
  exact .tup (SqT.of a) (.cons (.lst (SqL.of b1) (b2.dts stp_dt)) (.cons (.lst (SqL.of c1) (c2.dts tlg_dt)) .nil))
structure Scs (H : Hp) (D : Addr) (us Gs Es : List Addr) (ss : List Sco) : Prop where
  top : H D = some (.lst (us.map V.ref))
  lu : us.length = ss.length
  lg : Gs.length = ss.length
  le : Es.length = ss.length
  at_ : ∀ (i : Nat) (u G E : Addr) (s : Sco), us[i]? = some u → Gs[i]? = some G → Es[i]? = some E → ss[i]? = some s → ScH H u G E s
theorem Scs.same {H H' : Hp} {D : Addr} {us Gs Es : List Addr} {ss : List Sco} (e : Same H H') (h : Scs H D us Gs Es ss) : Scs H' D us Gs Es ss :=
  ⟨e _ _ h.top, h.lu, h.lg, h.le, fun i u G E s h1 h2 h3 h4 => (h.at_ i u G E s h1 h2 h3 h4).same e⟩
theorem Scs.get {H : Hp} {D : Addr} {us Gs Es : List Addr} {ss : List Sco} (h : Scs H D us Gs Es ss) {i : Nat} (hi : i < ss.length) :
    ∃ u G E, us[i]? = some u ∧ Gs[i]? = some G ∧ Es[i]? = some E ∧ ss[i]? = some ss[i] ∧ ScH H u G E ss[i] := by
  have h1 : us[i]? = some (us[i]'(by rw [h.lu]; exact hi)) := List.getElem?_eq_getElem _
  have h2 : Gs[i]? = some (Gs[i]'(by rw [h.lg]; exact hi)) := List.getElem?_eq_getElem _
  have h3 : Es[i]? = some (Es[i]'(by rw [h.le]; exact hi)) := List.getElem?_eq_getElem _
  exact ⟨_, _, _, h1, h2, h3, List.getElem?_eq_getElem hi, h.at_ i _ _ _ _ h1 h2 h3 (List.getElem?_eq_getElem hi)⟩
theorem Scs.dts {K : PySem.W.Frag} {H : Hp} {D : Addr} {us Gs Es : List Addr} {ss : List Sco} (h : Scs H D us Gs Es ss) : IsDts K H (us.map V.ref) (ss.map scoD) := by
  refine IsDts.of_get (by simpa using h.lu) fun n v d e1 e2 => ?_
  rw [List.getElem?_map] at e1 e2
  obtain ⟨u, h1, rfl⟩ := Option.map_eq_some_iff.mp e1
  obtain ⟨s, h2, rfl⟩ := Option.map_eq_some_iff.mp e2
  have hn : n < ss.length := (List.getElem?_eq_some_iff.mp h2).1
  obtain ⟨u', G, E, g1, g2, g3, g4, g5⟩ := h.get hn
  rw [h1] at g1; cases g1
  rw [h2] at g4
  rw [Option.some.inj g4]
  exact g5.dt
theorem Scs.step {H : Hp} {D : Addr} {us Gs Es : List Addr} {ss : List Sco} (h : Scs H D us Gs Es ss) (nd : (D :: (Gs ++ Es)).Nodup) {i : Nat} {G t : Addr} {ts : List Addr} {p : Stp} (hi : i < ss.length) (hG : Gs[i]? = some G) (eG : H G = some (.lst (ts.map V.ref))) (T : RT stpV H ts ss[i].1) (et : H t = some (.tup (stpV p))) :
    Scs (upd H G (.lst (ts.map V.ref ++ [.ref t]))) D us Gs Es (ss.set i (ss[i].1 ++ [p], ss[i].2)) := by
  have k : Keeps (· = G) H (upd H G (.lst (ts.map V.ref ++ [.ref t]))) := Keeps.one eG
  obtain ⟨nD, nd2⟩ := List.nodup_cons.mp nd
  obtain ⟨ng, ne, nge⟩ := List.nodup_append.mp nd2
  have mG : G ∈ Gs := List.mem_of_getElem? hG
  refine ⟨k.at_ _ _ h.top fun z => nD (z ▸ List.mem_append_left _ mG), by rw [List.length_set]; exact h.lu, by rw [List.length_set]; exact h.lg, by rw [List.length_set]; exact h.le, fun j u G' E s h1 h2 h3 h4 => ?_⟩
  have hE : E ≠ G := fun z => nge G mG E (List.mem_of_getElem? h3) z.symm
  by_cases e : i = j
  · subst e
    rw [hG] at h2; cases h2
    rw [List.getElem?_set_self hi] at h4; cases h4
    obtain ⟨a, _, ⟨es, c1, c2⟩⟩ := h.at_ i u G E _ h1 hG h3 (List.getElem?_eq_getElem hi)
    exact ⟨k.tup a, ⟨ts ++ [t], by rw [upd_same, List.map_append]; rfl, (T.keeps k).snoc (k.tup et)⟩, ⟨es, k.at_ _ _ c1 hE, c2.keeps k⟩⟩
  · rw [List.getElem?_set_ne e] at h4
    have hG' : G' ≠ G := fun z => by
      subst z
      obtain ⟨q1, e1⟩ := List.getElem?_eq_some_iff.mp h2
      obtain ⟨q2, e2⟩ := List.getElem?_eq_some_iff.mp hG
      exact e ((List.getElem_inj ng).mp (e2.trans e1.symm))
    exact (h.at_ j u G' E s h1 h2 h3 h4).keeps k hG' hE
theorem Scs.alive {H : Hp} {D : Addr} {us Gs Es : List Addr} {ss : List Sco} (h : Scs H D us Gs Es ss) : ∀ x ∈ Gs ++ Es, ∃ xs, H x = some (.lst xs) := fun x hx => by
  rcases List.mem_append.mp hx with hx | hx
  · obtain ⟨j, hj⟩ := List.getElem?_of_mem hx
    have hjl : j < ss.length := by rw [← h.lg]; exact (List.getElem?_eq_some_iff.mp hj).1
    obtain ⟨u', G', E', g1, g2, g3, g4, ⟨_, ⟨ts', b1, _⟩, _⟩⟩ := h.get hjl
    rw [hj] at g2; cases g2
    exact ⟨_, b1⟩
  · obtain ⟨j, hj⟩ := List.getElem?_of_mem hx
    have hjl : j < ss.length := by rw [← h.le]; exact (List.getElem?_eq_some_iff.mp hj).1
    obtain ⟨u', G', E', g1, g2, g3, g4, ⟨_, _, ⟨ts', b1, _⟩⟩⟩ := h.get hjl
    rw [hj] at g3; cases g3
    exact ⟨_, b1⟩
theorem Scs.nil {H : Hp} {D : Addr} (h : H D = some (.lst [])) : Scs H D [] [] [] [] := ⟨h, rfl, rfl, rfl, fun i u G E s h1 => by simp at h1⟩
theorem Scs.snoc {H : Hp} {D u G E : Addr} {us Gs Es : List Addr} {ss : List Sco} {s : Sco} (h : Scs H D us Gs Es ss) (hs : ScH H u G E s) (hG : G ≠ D) (hE : E ≠ D) (hD : ∀ x ∈ Gs ++ Es, x ≠ D) :
    Scs (upd H D (.lst (us.map V.ref ++ [.ref u]))) D (us ++ [u]) (Gs ++ [G]) (Es ++ [E]) (ss ++ [s]) := by
  have k : Keeps (· = D) H (upd H D (.lst (us.map V.ref ++ [.ref u]))) := Keeps.one h.top
  refine ⟨by rw [upd_same, List.map_append]; rfl, by simp [h.lu], by simp [h.lg], by simp [h.le], fun i u' G' E' s' h1 h2 h3 h4 => ?_⟩
  rcases Nat.lt_or_ge i ss.length with hlt | hge
  · rw [List.getElem?_append_left (by rw [h.lu]; exact hlt)] at h1
    rw [List.getElem?_append_left (by rw [h.lg]; exact hlt)] at h2
    rw [List.getElem?_append_left (by rw [h.le]; exact hlt)] at h3
    rw [List.getElem?_append_left hlt] at h4
    exact (h.at_ i u' G' E' s' h1 h2 h3 h4).keeps k (hD _ (List.mem_append_left _ (List.mem_of_getElem? h2))) (hD _ (List.mem_append_right _ (List.mem_of_getElem? h3)))
  · have hn1 : i < (ss ++ [s]).length := (List.getElem?_eq_some_iff.mp h4).1
    rw [List.length_append, List.length_singleton] at hn1
    have e' : i = ss.length := by omega
    subst e'
    rw [List.getElem?_append_right (by rw [h.lu]; exact Nat.le_refl _), h.lu, Nat.sub_self] at h1
    rw [List.getElem?_append_right (by rw [h.lg]; exact Nat.le_refl _), h.lg, Nat.sub_self] at h2
    rw [List.getElem?_append_right (by rw [h.le]; exact Nat.le_refl _), h.le, Nat.sub_self] at h3
    rw [List.getElem?_append_right (Nat.le_refl _), Nat.sub_self] at h4
    cases h1; cases h2; cases h3; cases h4
    exact hs.keeps k hG hE
theorem nd_snoc2 {D G E : Addr} {Gs Es : List Addr} (nd : (D :: (Gs ++ Es)).Nodup) (h1 : G ∉ D :: (Gs ++ Es)) (h2 : E ∉ D :: (Gs ++ Es)) (h3 : G ≠ E) : (D :: ((Gs ++ [G]) ++ (Es ++ [E]))).Nodup := by
  have p : (D :: ((Gs ++ [G]) ++ (Es ++ [E]))).Perm (G :: E :: (D :: (Gs ++ Es))) := by
    have p1 : (D :: ((Gs ++ [G]) ++ (Es ++ [E]))).Perm (E :: (D :: ((Gs ++ [G]) ++ Es))) := by
      have : (D :: ((Gs ++ [G]) ++ (Es ++ [E]))) = (D :: ((Gs ++ [G]) ++ Es)) ++ [E] := by simp
      rw [this]
      exact List.perm_append_singleton _ _
    have p2 : (D :: ((Gs ++ [G]) ++ Es)).Perm (G :: (D :: (Gs ++ Es))) := by
      have : (D :: ((Gs ++ [G]) ++ Es)) = (D :: Gs) ++ G :: Es := by simp
      rw [this]
      exact List.perm_middle
    exact (p1.trans (p2.cons E)).trans (List.Perm.swap _ _ _)
  rw [p.nodup_iff, List.nodup_cons, List.nodup_cons]
  refine ⟨fun z => ?_, h2, nd⟩
  rcases List.mem_cons.mp z with z | z
  · exact h3 z
  · exact h1 z
def goalV (ths : List (Str × Int)) (as : List (Option (Str × Int))) (p : Stp) : Str × Int :=
  if p.2.1 = ("to" : Str) then ("to", p.2.2) else match as[p.2.2.toNat]? with
  | some (some w) => if w.1 = ("thing" : Str) then (match ths[w.2.toNat]? with
    | some k => insideV ths as k
    | none => ("no", 0)) else ("no", 0)
  | some none => ("open", p.2.2)
  | none => ("no", 0)
theorem goalV_to {ths : List (Str × Int)} {as : List (Option (Str × Int))} {p : Stp} (h : p.2.1 = ("to" : Str)) : goalV ths as p = (("to" : Str), p.2.2) := if_pos h
theorem goalV_open {ths : List (Str × Int)} {as : List (Option (Str × Int))} {p : Stp} {n : Nat} (h : p.2.1 ≠ ("to" : Str)) (hn : p.2.2 = (n : Int)) (ha : as[n]? = some none) : goalV ths as p = (("open" : Str), p.2.2) := by
  unfold goalV; rw [if_neg h, hn, Int.toNat_natCast, ha]
theorem goalV_no {ths : List (Str × Int)} {as : List (Option (Str × Int))} {p : Stp} {n : Nat} {w : Str × Int} (h : p.2.1 ≠ ("to" : Str)) (hn : p.2.2 = (n : Int)) (ha : as[n]? = some (some w)) (hw : w.1 ≠ ("thing" : Str)) : goalV ths as p = (("no" : Str), 0) := by
  unfold goalV; rw [if_neg h, hn, Int.toNat_natCast, ha]; exact if_neg hw
theorem goalV_in {ths : List (Str × Int)} {as : List (Option (Str × Int))} {p : Stp} {n m : Nat} {w k : Str × Int} (h : p.2.1 ≠ ("to" : Str)) (hn : p.2.2 = (n : Int)) (ha : as[n]? = some (some w)) (hw : w.1 = ("thing" : Str)) (hm : w.2 = (m : Int)) (hk : ths[m]? = some k) : goalV ths as p = insideV ths as k := by
  unfold goalV; rw [if_neg h, hn, Int.toNat_natCast, ha]
  show (if w.1 = ("thing" : Str) then _ else _) = _
  rw [if_pos hw, hm, Int.toNat_natCast, hk]
end L2
namespace L2
open PySem PySem.Spec PyProof.Rows Ord
section
variable {X : Cx}
end
def LowW (x : Str) : Prop := 1 ≤ x.length ∧ x.length ≤ 8 ∧ ∀ c ∈ x.cps.toList, 97 ≤ c ∧ c ≤ 122
def thOk (s q : Int) (p : Str × Int) : Prop := (p.1 = ("plain" : Str) ∧ p.2 = 0) ∨ (p.1 = ("part" : Str) ∧ 0 ≤ p.2 ∧ p.2 < s) ∨ (p.1 = ("sort" : Str) ∧ 0 ≤ p.2 ∧ p.2 < q)
def stOk (s q : Int) (p : Stp) : Prop := (p.2.1 = ("to" : Str) ∧ 0 ≤ p.2.2 ∧ p.2.2 < s) ∨ (p.2.1 = ("by" : Str) ∧ 0 ≤ p.2.2 ∧ p.2.2 < q)
def tlOk (t q : Int) (p : Tlg) : Prop := (p.2.2.1 = ("thing" : Str) ∧ 0 ≤ p.2.2.2 ∧ p.2.2.2 < t) ∨ (p.2.2.1 = ("by" : Str) ∧ 0 ≤ p.2.2.2 ∧ p.2.2.2 < q)
structure Net3 (H : Hp) (S T R : Addr) (us Gs Es ts qt : List Addr) (ss : List Sco) (gs : List (Str × Int)) (qs : List Qu) : Prop where
  sc : Scs H S us Gs Es ss
  et : H T = some (.lst (ts.map V.ref))
  tg : GT H ts gs
  er : H R = some (.lst (qt.map V.ref))
  tq : QT H qt qs
theorem Net3.same {H H' : Hp} {S T R : Addr} {us Gs Es ts qt : List Addr} {ss : List Sco} {gs : List (Str × Int)} {qs : List Qu} (e : Same H H') (h : Net3 H S T R us Gs Es ts qt ss gs qs) : Net3 H' S T R us Gs Es ts qt ss gs qs :=
  ⟨h.sc.same e, e _ _ h.et, h.tg.same e, e _ _ h.er, h.tq.same e⟩
abbrev netD (ss : List Sco) (gs : List (Str × Int)) (qs : List Qu) : Dt := .tup [.lst (ss.map scoD), .lst (gs.map goD), .lst (qs.map quD)]
theorem Net3.dt {K : PySem.W.Frag} {H : Hp} {nt S T R : Addr} {us Gs Es ts qt : List Addr} {ss : List Sco} {gs : List (Str × Int)} {qs : List Qu} (h : Net3 H S T R us Gs Es ts qt ss gs qs) (e : H nt = some (.tup [.ref S, .ref T, .ref R])) : IsDt K H (.ref nt) (netD ss gs qs) :=
  .tup (SqT.of e) (.cons (.lst (SqL.of h.sc.top) h.sc.dts) (.cons (.lst (SqL.of h.et) h.tg.dts) (.cons (.lst (SqL.of h.er) h.tq.dts) .nil)))
theorem cmp_sco (s r : Sco) : Cmp 4 (scoD s) (scoD r) := by
  refine .tup (.cons (.lst (Cmps.of fun d hd e he => ?_)) (.cons (.lst (Cmps.of fun d hd e he => ?_)) (.nil _)))
  · obtain ⟨p, _, rfl⟩ := List.mem_map.mp hd
    obtain ⟨q, _, rfl⟩ := List.mem_map.mp he
    exact .tup (.cons (.str _ _) (.cons (.str _ _) (.cons (.int _ _) (.nil _))))
  · obtain ⟨p, _, rfl⟩ := List.mem_map.mp hd
    obtain ⟨q, _, rfl⟩ := List.mem_map.mp he
    exact .tup (.cons (.str _ _) (.cons (.str _ _) (.cons (.str _ _) (.cons (.int _ _) (.nil _)))))
theorem cmp_net (ss ss' : List Sco) (gs gs' : List (Str × Int)) (qs qs' : List Qu) : Cmp 6 (netD ss gs qs) (netD ss' gs' qs') := by
  refine .tup (.cons (.lst (Cmps.of fun d hd e he => ?_)) (.cons (.lst (Cmps.of fun d hd e he => ?_)) (.cons (.lst (Cmps.of fun d hd e he => ?_)) (.nil _))))
  · obtain ⟨p, _, rfl⟩ := List.mem_map.mp hd
    obtain ⟨q, _, rfl⟩ := List.mem_map.mp he
    exact cmp_sco p q
  · obtain ⟨p, _, rfl⟩ := List.mem_map.mp hd
    obtain ⟨q, _, rfl⟩ := List.mem_map.mp he
    exact .tup (.cons (.str _ _) (.cons (.int _ _) (.nil _)))
  · obtain ⟨p, _, rfl⟩ := List.mem_map.mp hd
    obtain ⟨q, _, rfl⟩ := List.mem_map.mp he
    refine .tup (.cons (.int _ _) (.cons (.int _ _) (.cons (.tup (Cmps.of fun d hd e he => ?_)) (.nil _))))
    obtain ⟨p, _, rfl⟩ := List.mem_map.mp hd
    obtain ⟨q, _, rfl⟩ := List.mem_map.mp he
    exact .str _ _
theorem atI_mem {α : Type} {xs : List α} {i : Int} {v : α} (h : atI xs i = some v) : v ∈ xs := by
  unfold atI at h
  obtain ⟨n, _, hn⟩ := Option.bind_eq_some_iff.mp h
  exact List.mem_of_getElem? hn
abbrev rListOf (K : PySem.W.Frag) : List V → Hp → VK → Prop := fun xs H Q => ∃ p ys, xs = [V.ref p] ∧ (SqL K H p ys ∨ SqT K H p ys) ∧ ∀ l, H l = none → Q (V.ref l) (upd H l (HO.lst ys))
theorem Scs.tell {H : Hp} {D : Addr} {us Gs Es : List Addr} {ss : List Sco} (h : Scs H D us Gs Es ss) (nd : (D :: (Gs ++ Es)).Nodup) {i : Nat} {E t : Addr} {ts : List Addr} {p : Tlg} (hi : i < ss.length) (hE : Es[i]? = some E) (eE : H E = some (.lst (ts.map V.ref))) (T : RT tlgV H ts ss[i].2) (et : H t = some (.tup (tlgV p))) :
    Scs (upd H E (.lst (ts.map V.ref ++ [.ref t]))) D us Gs Es (ss.set i (ss[i].1, ss[i].2 ++ [p])) := by
  have k : Keeps (· = E) H (upd H E (.lst (ts.map V.ref ++ [.ref t]))) := Keeps.one eE
  obtain ⟨nD, nd2⟩ := List.nodup_cons.mp nd
  obtain ⟨ng, ne, nge⟩ := List.nodup_append.mp nd2
  have mE : E ∈ Es := List.mem_of_getElem? hE
  refine ⟨k.at_ _ _ h.top fun z => nD (z ▸ List.mem_append_right _ mE), by rw [List.length_set]; exact h.lu, by rw [List.length_set]; exact h.lg, by rw [List.length_set]; exact h.le, fun j u G E' s h1 h2 h3 h4 => ?_⟩
  have hG : G ≠ E := fun z => nge G (List.mem_of_getElem? h2) E mE z
  by_cases e : i = j
  · subst e
    rw [hE] at h3; cases h3
    rw [List.getElem?_set_self hi] at h4; cases h4
    obtain ⟨a, ⟨gts, c1, c2⟩, _⟩ := h.at_ i u G E _ h1 h2 hE (List.getElem?_eq_getElem hi)
    exact ⟨k.tup a, ⟨gts, k.at_ _ _ c1 hG, c2.keeps k⟩, ⟨ts ++ [t], by rw [upd_same, List.map_append]; rfl, (T.keeps k).snoc (k.tup et)⟩⟩
  · rw [List.getElem?_set_ne e] at h4
    have hE' : E' ≠ E := fun z => by
      subst z
      obtain ⟨q1, e1⟩ := List.getElem?_eq_some_iff.mp h3
      obtain ⟨q2, e2⟩ := List.getElem?_eq_some_iff.mp hE
      exact e ((List.getElem_inj ne).mp (e2.trans e1.symm))
    exact (h.at_ j u G E' s h1 h2 h3 h4).keeps k hG hE'
end L2
namespace L2
open PySem PySem.Spec PyProof.Rows
def Ite (K : PySem.W.Frag) (l : Addr) : It :=
  ⟨fun i H => ∃ xs x, SqL K H l xs ∧ xs[i]? = some x,
   fun i H v H' => ∃ T x, H T = none ∧ v = .ref T ∧ H' = upd H T (.tup [.int i, x]) ∧ ∀ xs, SqL K H l xs → xs[i]? = some x,
   fun i H => ∃ xs, SqL K H l xs ∧ xs.length ≤ i⟩
def EnumSt (e it l : Addr) (i : Nat) (h : Heap) : Prop := (∃ old, IsEnum h e it i old) ∧ h.IsListIter it l i
theorem turn_enum {P : Program} {w : World} {K : PySem.W.Frag} {es : List Expr} {k : Nat} {pos : Pos} {e it l : Addr} (hei : e ≠ it) :
    Turn P w K (.Tuple es k pos) (Ite K l) [e, it] e (EnumSt e it l) where
  mem := by simp
  obj := fun i h st b hb => by
    obtain ⟨⟨old, he⟩, ⟨o1, e1, c1, d1⟩⟩ := st
    simp at hb
    rcases hb with rfl | rfl
    · exact ⟨_, he, fun v q => by cases q⟩
    · exact ⟨_, e1, fun v q => by rw [d1] at q; cases q⟩
  keep := fun i h h' st kk => by
    obtain ⟨⟨old, he⟩, h1⟩ := st
    exact ⟨⟨old, kk e (by simp) _ he⟩, h1.at fun o x => kk it (by simp) o x⟩
  item := by
    intro X hP hw hK hc i pins s σ H E I hf st hg
    subst hP hw hK
    obtain ⟨xs, x, hq1, hx⟩ := hg
    obtain ⟨⟨old, he⟩, h1⟩ := st
    obtain ⟨its1, rv1, p1, hz1⟩ := I.list hq1
    obtain ⟨u1, hu1, ru1⟩ := rv1.get hx
    refine wpAny_pyNext_enum_item he h1 p1.isList (x := u1) (by simpa using hu1) hei fun h' a1 a2 a3 a4 hk => ?_
    refine ⟨_, rfl, wpAny_letOwnedTupleGo_enum (s := { s with heap := h', toks := s.toks + 1 }) a1 fun h'' hz'' hs'' => ?_⟩
    have fe := hf e (by simp)
    have fi := hf it (by simp)
    have trk : ∀ b u, H b = some u → b ≠ e ∧ b ≠ it := fun b u z => ⟨ne_of_none z fe.1, ne_of_none z fi.1⟩
    have keep : ∀ b o, b ≠ e → b ≠ it → s.heap.get? b = some o → h''.get? b = some o := fun b o n1 n2 z => (hs''.2 b n1).trans (hk b o n1 n2 z)
    have nch : ∀ {b : Addr}, b ∉ [e, it] → b ≠ e ∧ b ≠ it := fun {b} hb => by simpa using hb
    have I1 : Inv X pins σ H { s with heap := h'', toks := s.toks + 1 } := by
      refine I.step (g' := s.gens) (t' := s.toks + 1) (d' := s.drawn) (h' := h'') (ch := [e, it]) (fun b hb => ?_) (fun b ob _ _ hb z _ => keep b ob (nch hb).1 (nch hb).2 z) (fun b ob _ _ hb z _ => ⟨ob.slots, keep b ob (nch hb).1 (nch hb).2 z⟩)
        (fun _ _ _ _ n => n) (fun b ob hb z => ⟨ob, keep b ob (nch hb).1 (nch hb).2 z⟩) (fun _ _ z => z) (fun _ _ _ z => z) (fun b ps z => ⟨#[], by rw [z]; simp⟩) (fun m hm => ?_) (fun b u z => ?_) I.bare
      · have : b = e ∨ b = it := by simpa using hb
        rcases this with rfl | rfl
        · exact ⟨fe.2.2.2.1, fe.2.1, fe.2.2.2.2.1, fe.2.2.2.2.2⟩
        · exact ⟨fi.2.2.2.1, fi.2.1, fi.2.2.2.2.1, fi.2.2.2.2.2⟩
      · obtain ⟨o, es, ep, ho, r⟩ := hm
        exact ⟨o, es, ep, keep _ o (Ne.symm fe.2.1) (Ne.symm fi.2.1) ho, r⟩
      · refine (I.hok b u z).stay (fun c v hc q => ?_) (fun _ q => q) fun _ _ q => q
        have hc' : ∃ u', H c = some u' := by
          rcases hc with rfl | hc
          · exact ⟨_, z⟩
          · exact ⟨_, hc⟩
        obtain ⟨u', e'⟩ := hc'
        obtain ⟨n1, n2⟩ := trk c u' e'
        exact keep c v n1 n2 q
    have hTz : s.heap.objs.size ≠ e := Nat.ne_of_gt (Heap.lt_size he)
    have hT0 : H s.heap.objs.size = none := I.hok.fresh (Nat.le_refl _)
    have hTget : h''.get? s.heap.objs.size = some { cls := .type "tuple", data := .seq #[.int i s.toks, u1] } := (hs''.2 _ hTz).trans a3
    have I2 : Inv X pins σ (upd H s.heap.objs.size (.tup [.int i, x])) { s with heap := h'', toks := s.toks + 1 } := by
      refine I1.track (I.fpOk (Nat.le_refl _) hT0) ⟨_, hTget⟩ ?_
      exact ⟨by show 2 ≤ sizeLine; decide, [.int i s.toks, u1], .cons ⟨_, rfl⟩ (.cons ru1 .nil), ⟨_, hTget, rfl, _, rfl⟩⟩
    refine ⟨.ref s.heap.objs.size, _, I2, rfl, ⟨s.heap.objs.size, x, hT0, rfl, rfl, fun zs hzs => by rw [I.list_inj hzs hq1]; exact hx⟩, ?_, fun b hb => ?_⟩
    · refine ⟨⟨u1, by simpa using hz''⟩, a2.extBut hs''.extBut (Ne.symm hei)⟩
    · have hb' := (hf b hb).1
      rw [upd_ne (fun q => ?_)]
      · exact hb'
      · have hb2 : b = e ∨ b = it := by simpa using hb
        obtain ⟨o1, e1, _⟩ := h1
        have lt : b < s.heap.objs.size := by
          rcases hb2 with rfl | rfl
          · exact Heap.lt_size he
          · exact Heap.lt_size e1
        rw [q] at lt
        exact absurd lt (Nat.lt_irrefl _)
  done := by
    intro X hP hw hK hc i pins s σ H E I hf st hg
    subst hP hw hK
    obtain ⟨xs, hq1, hend⟩ := hg
    obtain ⟨⟨old, he⟩, h1⟩ := st
    obtain ⟨its1, rv1, p1, hz1⟩ := I.list hq1
    have l1' := rv1.length
    obtain ⟨f0, f1, f2, f3, f4, f5⟩ := hf it (by simp)
    exact wpAny_pyNext_enum_end (I.ok.hd hc) he h1 p1.isList (by simp; omega) fun h' eb => ⟨rfl, I.turned (t' := s.toks) (fun b o hb z => eb b o hb z) f0 f1 f3 f4 f5⟩
  self := fun _ _ _ _ _ st h => by
    obtain ⟨⟨old, he⟩, _⟩ := st
    exact wpAny_pyIter_enum he h
def iEnum (K : PySem.W.Frag) (ta : TA) : TI := fun σ H R => ta σ H fun vs H1 => ∃ l, vs = [.ref l] ∧ (∃ xs, H1 l = some (.lst xs)) ∧ R (Ite K l) H1
theorem pi_enum {X : Cx} {es : List Expr} {k : Nat} {tpos : Pos} {a : Expr} {ta : TA} {p pos : Pos} (hg : Gl X "enumerate") (hm : X.mg "enumerate" = none) (ha : PA X [a] ta) (hs : starEach [a] X.env = [(false, eval a X.env)] := by rfl) :
    PI X (.Tuple es k tpos) (.Call (.Name "enumerate" p) [a] [] pos) (iEnum X.K ta) := by
  intro pins s σ H R I h
  refine Call_ (ld_blt I hg hm (u := .type "enumerate") (by decide +kernel) (PyProof.Rows.callWith_type1 (thn (ha pos pins s σ H _ I h) fun us s1 ⟨vs, H1, I1, r1, q1⟩ => ?_) (by rw [hs]; rfl) (by rfl)))
  obtain ⟨l, rfl, ⟨xs, hq⟩, q⟩ := q1
  obtain ⟨u1, rfl, ru1⟩ := vals1 r1
  obtain rfl : u1 = Value.ref l := ru1
  obtain ⟨z, its, n, rv, e⟩ := I1.hok l _ hq
  have a1 : l < s1.heap.objs.size := Heap.lt_size e
  refine call_enumerate_1 e fun h' he hi hsz hk => ?_
  refine wpAny_pyIter_enum (s := { s1 with heap := h' }) he ?_
  refine ⟨_, [s1.heap.objs.size + 1, s1.heap.objs.size], _, _, H1, rfl, I1.kept (t' := s1.toks) hk, turn_enum (Nat.succ_ne_self _), ⟨⟨_, he⟩, hi⟩, fun b hb => ?_, q⟩
  have hb' : s1.heap.objs.size ≤ b := by
    have hb2 : b = s1.heap.objs.size + 1 ∨ b = s1.heap.objs.size := by simpa using hb
    rcases hb2 with rfl | rfl
    · exact Nat.le_add_right _ _
    · exact Nat.le_refl _
  exact I1.fpOk hb' (I1.hok.fresh hb')
theorem for_enum {K : PySem.W.Frag} {l : Addr} {xs : List V} {g : TG} {tb : TS} {D : Ends} {σ : St} {H : Hp} (Pv : Nat → St → Hp → Prop) (h0 : Pv 0 σ H) (hl : ∀ i σ H, Pv i σ H → SqL K H l xs)
    (hs : ∀ i x T σ H, xs[i]? = some x → H T = none → Pv i σ H → g (.ref T) σ (upd H T (.tup [.int i, x])) fun σ2 H2 => tb { D with nx := Pv (i + 1), ct := Pv (i + 1), bk := D.nx } σ2 H2) (hd : ∀ σ H, Pv xs.length σ H → D.nx σ H) :
    ∃ W : Nat → Nat → St → Hp → Prop, (∃ m, W 0 m σ H) ∧ ∀ i m σ H, W i m σ H →
      ((Ite K l).stop i H ∧ D.nx σ H) ∨ ((Ite K l).go i H ∧ ∃ N : St → Hp → Prop, (∀ σ' H', N σ' H' → ∃ m', m' < m ∧ W (i + 1) m' σ' H') ∧ ∀ x H', (Ite K l).yld i H x H' → g x σ H' fun σ2 H2 => tb { D with nx := N, ct := N, bk := D.nx } σ2 H2) := by
  refine ⟨fun i m σ H => m = xs.length - i ∧ i ≤ xs.length ∧ Pv i σ H, ⟨_, rfl, Nat.zero_le _, h0⟩, ?_⟩
  rintro i m σ H ⟨rfl, hi, p⟩
  have q1 := hl i σ H p
  by_cases hlt : i < xs.length
  · refine .inr ⟨⟨xs, xs[i], q1, by simp [hlt]⟩, Pv (i + 1), fun σ' H' p' => ⟨xs.length - (i + 1), by omega, rfl, hlt, p'⟩, fun v H' y => ?_⟩
    obtain ⟨T, x, hT, rfl, rfl, e1⟩ := y
    exact hs i x T σ H (e1 xs q1) hT p
  · have e : i = xs.length := by omega
    refine .inl ⟨⟨xs, q1, by omega⟩, ?_⟩
    rw [e] at p
    exact hd σ H p
end L2
namespace L2
open PySem PySem.Spec PyProof.Rows PySem.SeqAt
open PySem.AutoSeq1 (wpAny_loadPart')
open PySem.MeetsSeq PySem.MeetsSeq2 PySem.MeetsSeq3
def RcLtAt (A : Around) (s : Shared) (x y : Value) (b : Bool) : Prop :=
  ∀ (prog : Program) (w : World) (E : Value → Shared → Prop) (Q : Value → Shared → Prop), Q (.bool b) s → wpAny (model prog w) A (richCompare .Lt x y) Q E s
inductive LexAt (A : Around) (s : Shared) : List Value → List Value → Bool → Prop where
  | nil : LexAt A s [] [] false
  | lt (w : Value) (ws : List Value) : LexAt A s [] (w :: ws) true
  | gt (v : Value) (vs : List Value) : LexAt A s (v :: vs) [] false
  | eq {v w : Value} {vs ws : List Value} {b : Bool} (h : EqAt A s v w true) (t : LexAt A s vs ws b) : LexAt A s (v :: vs) (w :: ws) b
  | ne {v w : Value} {vs ws : List Value} {b : Bool} (h : EqAt A s v w false) (l : RcLtAt A s v w b) : LexAt A s (v :: vs) (w :: ws) b
theorem tuple_ltAt (l b : Addr) (items items2 : Array Value) (n n2 : Nat) (dd dd2 : Option Addr) (sl sl2 : Array (Option Value)) (c : Bool) :
    Meets (Builtin.«tuple.__lt__» ⟨[.ref l, .ref b], []⟩)
      (fun A R s => s.heap.get? l = some { cls := .type "tuple", dict := dd, data := .seq items n, slots := sl } ∧ s.heap.get? b = some { cls := .type "tuple", dict := dd2, data := .seq items2 n2, slots := sl2 } ∧
        LexAt A.in1 s items.toList items2.toList c ∧ R (.ok (.ret (.bool c))) s) :=
  .of_wp fun prog w A R s h => by
    obtain ⟨hp, g, d, tk, os⟩ := s; obtain ⟨hl, hb, hx, h⟩ := h
    have f2 := AutoSeq1.sub_tuple_tuple
    wp_walk using wpAny_loadPart' hl, wpAny_loadPart' hb, wpAny_forIn_list _ (fun rest b s' => b.1 = none ∧ s' = ⟨hp, g, d, tk, os⟩ ∧ ∃ (vs ws : List Value), rest = vs.zip ws ∧
      LexAt A.in1 ⟨hp, g, d, tk, os⟩ vs ws c ∧ vs.length + items2.size = ws.length + items.size) _
    case turn =>
      rintro ⟨y, x⟩ rest b s' ⟨hb', rfl, vs, ws, hz, hvi, hlen⟩
      cases hvi with
      | nil => rw [List.zip_nil_left] at hz; cases hz
      | lt => rw [List.zip_nil_left] at hz; cases hz
      | gt => rw [List.zip_nil_right] at hz; cases hz
      | eq he ht =>
        rw [List.zip_cons_cons] at hz
        injection hz with hyx hrest
        injection hyx with hy hx
        subst hy hx
        simp only [List.length_cons] at hlen
        refine wpAny_bind (he prog w _ _ ?_)
        wp_walk
        exact ⟨rfl, rfl, _, _, hrest, ht, by omega⟩
      | ne he hL =>
        rw [List.zip_cons_cons] at hz
        injection hz with hyx hrest
        injection hyx with hy hx
        subst hy hx
        refine wpAny_bind (he prog w _ _ ?_)
        have hri := hL prog w
        wp_walk using hri
        exact ⟨_, rfl, by simpa using h⟩
    case fin =>
      rintro ⟨b1, b2⟩ s' ⟨hb', rfl, vs, ws, hz, hvi, hlen⟩
      simp only at hb'
      subst hb'
      have hv : c = decide (items.size < items2.size) := by
        cases hvi with
        | nil =>
          simp only [List.length_nil] at hlen
          exact (decide_eq_false (by omega)).symm
        | lt =>
          simp only [List.length_nil, List.length_cons] at hlen
          exact (decide_eq_true (by omega)).symm
        | gt =>
          simp only [List.length_nil, List.length_cons] at hlen
          exact (decide_eq_false (by omega)).symm
        | eq => rw [List.zip_cons_cons] at hz; cases hz
        | ne => rw [List.zip_cons_cons] at hz; cases hz
      rw [hv] at h
      wp_walk
      exact ⟨_, rfl, by simpa [Builtin.Tuple.tupleCompareSizes] using h⟩
    case h =>
      exact ⟨rfl, rfl, items.toList, items2.toList, rfl, hx, by simp [Nat.add_comm]⟩
theorem lt_loopAt (l b : Addr) (items items2 : Array Value) (n n2 : Nat) (dd dd2 : Option Addr) (sl sl2 : Array (Option Value)) (c : Bool) (k : Nat) :
    ∀ i : Nat, items.size - i = k → i ≤ items.size → i ≤ items2.size → Meets (Builtin.«list.__eq__.loop» ⟨[.ref l, .ref b, rawInt i, rawInt 0], []⟩)
      (fun A R s => s.heap.get? l = some { cls := .type "list", dict := dd, data := .seq items n, slots := sl } ∧ s.heap.get? b = some { cls := .type "list", dict := dd2, data := .seq items2 n2, slots := sl2 } ∧
        LexAt A.in1 s (items.toList.drop i) (items2.toList.drop i) c ∧ R (.ok (.ret (.bool c))) s) := by
  induction k with
  | zero =>
    intro i hk hi hi2 prog w A R s h
    obtain ⟨hp, g, d, tk, os⟩ := s; obtain ⟨hl, hb, hx, h⟩ := h
    have e1 : items.toList.drop i = [] := by simp; omega
    rw [e1] at hx
    have hv : c = decide (items.size < items2.size) := by
      generalize e2 : items2.toList.drop i = r at hx
      have l2 := congrArg List.length e2
      simp only [List.length_drop, Array.length_toList] at l2
      cases hx with
      | nil => simp only [List.length_nil] at l2; exact (decide_eq_false (by omega)).symm
      | lt => simp only [List.length_cons] at l2; exact (decide_eq_true (by omega)).symm
    wp_walk using wpAny_loadPart' hl, wpAny_loadPart' hb
    have hi1 : items[((i : Nat) : Int).toNat]? = none := by simp; omega
    rw [hi1]
    wp_walk using wpAny_loadPart' hl, wpAny_loadPart' hb
    show R (.ok (.ret (.bool (decide (items.size < items2.size))))) _
    rw [← hv]
    exact h
  | succ k ih =>
    intro i hk hi hi2 prog w A R s h
    obtain ⟨hp, g, d, tk, os⟩ := s; obtain ⟨hl, hb, hx, h⟩ := h
    have hlt : i < items.size := by omega
    have hi1 : items[((i : Nat) : Int).toNat]? = some items[i] := by simp [hlt]
    have e1 : items.toList.drop i = items[i] :: items.toList.drop (i + 1) := by simp [List.drop_eq_getElem_cons, hlt]
    rw [e1] at hx
    wp_walk using wpAny_loadPart' hl, wpAny_loadPart' hb
    by_cases hlt2 : i < items2.size
    · have hj1 : items2[((i : Nat) : Int).toNat]? = some items2[i] := by simp [hlt2]
      have e2 : items2.toList.drop i = items2[i] :: items2.toList.drop (i + 1) := by simp [List.drop_eq_getElem_cons, hlt2]
      have hc : ((i : Int) + 1) = ((i + 1 : Nat) : Int) := by push_cast; rfl
      rw [e2] at hx
      rw [hi1, hj1]
      cases hx with
      | eq he ht =>
        refine wpAny_bind (he prog w _ _ ?_)
        wp_walk
        rw [hc]
        exact ⟨plainId_quiet plain_eq_loop _, codeAny_builtin entry_eq_loop (by
          rw [Around.under_plainId plain_eq_loop _]
          exact ih (i + 1) (by omega) (by omega) (by omega) prog w A R _ ⟨hl, hb, ht, h⟩)⟩
      | ne he hL =>
        refine wpAny_bind (he prog w _ _ ?_)
        have hri := hL prog w
        wp_walk using wpAny_loadPart' hl, wpAny_loadPart' hb
        rw [hi1, hj1]
        wp_walk using hri
        exact h
    · have hj1 : items2[((i : Nat) : Int).toNat]? = none := by simp; omega
      have e2 : items2.toList.drop i = [] := by simp; omega
      rw [e2] at hx
      have hv : c = decide (items.size < items2.size) := by
        cases hx
        exact (decide_eq_false (by omega)).symm
      rw [hi1, hj1]
      wp_walk using wpAny_loadPart' hl, wpAny_loadPart' hb
      show R (.ok (.ret (.bool (decide (items.size < items2.size))))) _
      rw [← hv]
      exact h
theorem list_ltAt (l b : Addr) (items items2 : Array Value) (n n2 : Nat) (dd dd2 : Option Addr) (sl sl2 : Array (Option Value)) (c : Bool) :
    Meets (Builtin.«list.__lt__» ⟨[.ref l, .ref b], []⟩)
      (fun A R s => s.heap.get? l = some { cls := .type "list", dict := dd, data := .seq items n, slots := sl } ∧ s.heap.get? b = some { cls := .type "list", dict := dd2, data := .seq items2 n2, slots := sl2 } ∧
        LexAt A.in1 s items.toList items2.toList c ∧ R (.ok (.ret (.bool c))) s) := by
  intro prog w A R s h
  obtain ⟨hp, g, d, tk, os⟩ := s; obtain ⟨hl, hb, hx, h⟩ := h
  have f3 := AutoSeq1.sub_list_list
  wp_walk using wpAny_loadPart' hl, wpAny_loadPart' hb
  exact ⟨plainId_quiet plain_eq_loop _, codeAny_builtin entry_eq_loop (by
    rw [Around.under_plainId plain_eq_loop _]
    exact lt_loopAt l b items items2 n n2 dd dd2 sl sl2 c _ 0 rfl (Nat.zero_le _) (Nat.zero_le _) prog w A R _ ⟨hl, hb, by simpa using hx, h⟩)⟩
section
variable {A : Around} {s : Shared}
theorem RcLtAt.tuples {l b : Addr} {items items2 : Array Value} {c : Bool} (hl : IsTup s.heap l items) (hb : IsTup s.heap b items2) (hx : LexAt A.in1 s items.toList items2.toList c) (hu : A.units < cLine) : RcLtAt A s (.ref l) (.ref b) c := fun prog w E Q h => by
  obtain ⟨⟨cls, dd, data, sl⟩, ho, hc, n, hd⟩ := id hl
  obtain ⟨⟨cls2, dd2, data2, sl2⟩, ho2, hc2, n2, hd2⟩ := id hb
  simp only at hc hd hc2 hd2
  subst hc hd hc2 hd2
  exact richCompare_meets_room (op := .Lt) ⟨_, ho, rfl⟩ ⟨_, ho2, rfl⟩ PySem.F.slot_tuple_lt PySem.F.entry_tuple_lt (PySem.F.args_tuple_lt_2 _ _) (tuple_ltAt l b items items2 n n2 dd dd2 sl sl2 c)
    ⟨ho, ho2, hx, show Value.bool c ≠ Value.notImplemented ∧ Q (.bool c) s from ⟨(fun x => nomatch x), h⟩⟩ hu
theorem RcLtAt.lists {l b : Addr} {items items2 : Array Value} {c : Bool} (hl : s.heap.IsList l items) (hb : s.heap.IsList b items2) (hx : LexAt A.in1 s items.toList items2.toList c) (hu : A.units < cLine) : RcLtAt A s (.ref l) (.ref b) c := fun prog w E Q h => by
  obtain ⟨⟨cls, dd, data, sl⟩, ho, hc, n, hd⟩ := id hl
  obtain ⟨⟨cls2, dd2, data2, sl2⟩, ho2, hc2, n2, hd2⟩ := id hb
  simp only at hc hd hc2 hd2
  subst hc hd hc2 hd2
  exact richCompare_meets_room (op := .Lt) ⟨_, ho, rfl⟩ ⟨_, ho2, rfl⟩ PySem.F.slot_list_lt PySem.F.entry_list_lt (PySem.F.args_list_lt_2 _ _) (list_ltAt l b items items2 n n2 dd dd2 sl sl2 c)
    ⟨ho, ho2, hx, show Value.bool c ≠ Value.notImplemented ∧ Q (.bool c) s from ⟨(fun x => nomatch x), h⟩⟩ hu
theorem oneLt_lists {prog : Program} {w : World} {E : Value → Shared → Prop} {l b : Addr} {items items2 : Array Value} {c : Bool} {Q : Bool → Shared → Prop} (hl : s.heap.IsList l items) (hb : s.heap.IsList b items2) (hx : LexAt A.in1 s items.toList items2.toList c) (hu : A.units < cLine) (h : Q c s) :
    wpAny (model prog w) A (oneLt' true (.ref l) (.ref b)) Q E s := by
  obtain ⟨⟨cls, dd, data, sl⟩, ho, hc, n, hd⟩ := id hl
  obtain ⟨⟨cls2, dd2, data2, sl2⟩, ho2, hc2, n2, hd2⟩ := id hb
  simp only at hc hd hc2 hd2
  subst hc hd hc2 hd2
  rw [oneLt'_eq]
  simp only [if_true]
  refine wpAny_bind (wpAny_cRoomFor hu ?_)
  refine wpAny_bind (wpAny_callSpecialIfBound?_slot (T := "list") ⟨_, ho, rfl⟩ PySem.F.slot_list_lt (call_meets PySem.F.slot_list_lt ⟨_, ho, rfl⟩ PySem.F.entry_list_lt (PySem.F.args_list_lt_2 _ _) (list_ltAt l b items items2 n n2 dd dd2 sl sl2 c) ⟨ho, ho2, hx, ?_⟩))
  exact wpAny_truthy_bool h
end
def listBlt (O : KeyOrd) : List O.α → List O.α → Bool
  | [], [] => false
  | [], _ :: _ => true
  | _ :: _, [] => false
  | x :: xs, y :: ys => O.blt x y || (!O.blt y x && listBlt O xs ys)
theorem listBlt_cons (O : KeyOrd) (x y : O.α) (xs ys : List O.α) : listBlt O (x :: xs) (y :: ys) = (O.blt x y || (!O.blt y x && listBlt O xs ys)) := rfl
theorem listBlt_irrefl (O : KeyOrd) : ∀ xs, listBlt O xs xs = false
  | [] => rfl
  | x :: xs => by rw [listBlt_cons, O.irrefl, listBlt_irrefl O xs]; rfl
theorem listBlt_trans (O : KeyOrd) : ∀ xs ys zs, listBlt O xs ys = true → listBlt O ys zs = true → listBlt O xs zs = true
  | [], [], _, h, _ => by cases h
  | [], _ :: _, [], _, k => by cases k
  | [], _ :: _, _ :: _, _, _ => rfl
  | _ :: _, [], _, h, _ => by cases h
  | _ :: _, _ :: _, [], _, k => by cases k
  | x :: xs, y :: ys, z :: zs, h1, h2 => by
    rw [listBlt_cons] at *
    simp only [Bool.or_eq_true, Bool.and_eq_true, Bool.not_eq_true'] at h1 h2 ⊢
    rcases h1 with h1 | ⟨h1, k1⟩ <;> rcases h2 with h2 | ⟨h2, k2⟩
    · exact .inl (O.trans _ _ _ h1 h2)
    · exact .inl (KeyOrd.klt_of_klt_of_kle h1 h2)
    · exact .inl (KeyOrd.klt_of_kle_of_klt h1 h2)
    · exact .inr ⟨KeyOrd.kle_trans (O := O) h1 h2, listBlt_trans O xs ys zs k1 k2⟩
theorem listBlt_neg (O : KeyOrd) : ∀ xs ys zs, listBlt O xs zs = true → listBlt O xs ys = true ∨ listBlt O ys zs = true
  | [], [], [], h => by cases h
  | [], [], _ :: _, _ => .inr rfl
  | [], _ :: _, _, _ => .inl rfl
  | _ :: _, _, [], h => by cases h
  | _ :: _, [], _ :: _, _ => .inr rfl
  | x :: xs, y :: ys, z :: zs, h => by
    rw [listBlt_cons] at *
    rw [listBlt_cons]
    simp only [Bool.or_eq_true, Bool.and_eq_true, Bool.not_eq_true'] at h ⊢
    rcases h with h | ⟨h, k⟩
    · rcases O.negTrans _ y _ h with h | h
      · exact .inl (.inl h)
      · exact .inr (.inl h)
    · cases e1 : O.blt x y with
      | true => exact .inl (.inl rfl)
      | false =>
        cases e2 : O.blt y z with
        | true => exact .inr (.inl rfl)
        | false =>
          have a1 : O.kle y x := e1
          have a2 : O.kle z y := e2
          have a3 : O.kle x z := h
          have b1 : O.blt y x = false := KeyOrd.kle_trans (O := O) a3 a2
          have b2 : O.blt z y = false := KeyOrd.kle_trans (O := O) a1 a3
          rcases listBlt_neg O xs ys zs k with k | k
          · exact .inl (.inr ⟨b1, k⟩)
          · exact .inr (.inr ⟨b2, k⟩)
theorem listBlt_total (O : KeyOrd) : ∀ xs ys, listBlt O xs ys = false → listBlt O ys xs = false → xs = ys
  | [], [], _, _ => rfl
  | [], _ :: _, h, _ => by cases h
  | _ :: _, [], _, k => by cases k
  | x :: xs, y :: ys, h1, h2 => by
    rw [listBlt_cons] at h1 h2
    simp only [Bool.or_eq_false_iff, Bool.and_eq_false_iff, Bool.not_eq_false'] at h1 h2
    have e1 : x = y := O.total _ _ h1.1 h2.1
    have e2 : xs = ys := listBlt_total O xs ys (by rcases h1.2 with z | z; exact absurd (h2.1.symm.trans z) (by simp); exact z) (by rcases h2.2 with z | z; exact absurd (h1.1.symm.trans z) (by simp); exact z)
    rw [e1, e2]
@[reducible] def listO (O : KeyOrd) : KeyOrd where
  α := List O.α
  blt := listBlt O
  irrefl := listBlt_irrefl O
  trans := listBlt_trans O
  negTrans := listBlt_neg O
  total := listBlt_total O
theorem lexO_same {O P : KeyOrd} (x y : (lexO O P).α) (e : x.1 = y.1) : (lexO O P).blt x y = P.blt x.2 y.2 := by
  show (O.blt x.1 y.1 || (!O.blt y.1 x.1 && P.blt x.2 y.2)) = _
  rw [e, O.irrefl]; rfl
theorem lexO_diff {O P : KeyOrd} (x y : (lexO O P).α) (e : x.1 ≠ y.1) : (lexO O P).blt x y = O.blt x.1 y.1 := by
  show (O.blt x.1 y.1 || (!O.blt y.1 x.1 && P.blt x.2 y.2)) = _
  cases h1 : O.blt x.1 y.1 with
  | true => rfl
  | false =>
    cases h2 : O.blt y.1 x.1 with
    | true => rfl
    | false => exact absurd (O.total _ _ h1 h2) e
theorem listBlt_same {O : KeyOrd} (x : O.α) (xs ys : List O.α) : listBlt O (x :: xs) (x :: ys) = listBlt O xs ys := by
  rw [listBlt_cons, O.irrefl]; rfl
theorem listBlt_diff {O : KeyOrd} {x y : O.α} (xs ys : List O.α) (e : x ≠ y) : listBlt O (x :: xs) (y :: ys) = O.blt x y := by
  rw [listBlt_cons]
  cases h1 : O.blt x y with
  | true => rfl
  | false =>
    cases h2 : O.blt y x with
    | true => rfl
    | false => exact absurd (O.total _ _ h1 h2) e
mutual
theorem Cmp.mono : ∀ {n m : Nat} {d e : Dt}, Cmp n d e → n ≤ m → Cmp m d e
  | _, _, _, _, .non, _ => .non
  | _, _, _, _, .bl a b, _ => .bl a b
  | _, _, _, _, .int a b, _ => .int a b
  | _, _, _, _, .str a b, _ => .str a b
  | _ + 1, 0, _, _, .tup _, h => absurd h (by omega)
  | _ + 1, _ + 1, _, _, .tup t, h => .tup (Cmps.mono t (Nat.le_of_succ_le_succ h))
  | _ + 1, 0, _, _, .lst _, h => absurd h (by omega)
  | _ + 1, _ + 1, _, _, .lst t, h => .lst (Cmps.mono t (Nat.le_of_succ_le_succ h))
  | _ + 1, 0, _, _, .apart _, h => absurd h (by omega)
  | _ + 1, _ + 1, _, _, .apart a, _ => .apart a
theorem Cmps.mono : ∀ {n m : Nat} {ds es : List Dt}, Cmps n ds es → n ≤ m → Cmps m ds es
  | _, _, _, _, .nil es, _ => .nil es
  | _, _, _, _, .nil' ds, _ => .nil' ds
  | _, _, _, _, .cons h t, k => .cons (Cmp.mono h k) (Cmps.mono t k)
end
structure Enc where
  O : KeyOrd
  D : O.α → Dt
  dflt : O.α
  dep : Nat
  cmp : ∀ a b, Cmp dep (D a) (D b)
  inj : ∀ a b, D a = D b → a = b
  lt : ∀ {X : Cx} {pins : List (Addr × Obj)} {σ : St} {H : Hp} {s : Shared}, Inv X pins σ H s → ∀ {a b : O.α} {v u : V} {x y : Value} {A : Around}, IsDt X.K H v (D a) → IsDt X.K H u (D b) → RelV v x → RelV u y → A.units + dep < cLine → RcLtAt A s x y (O.blt a b)
section
variable {X : Cx} {pins : List (Addr × Obj)} {σ : St} {H : Hp} {s : Shared}
theorem Enc.eq (c : Enc) (I : Inv X pins σ H s) {a b : c.O.α} {v u : V} {x y : Value} {A : Around} (hv : IsDt X.K H v (c.D a)) (hu : IsDt X.K H u (c.D b)) (rx : RelV v x) (ry : RelV u y) (hA : A.units + c.dep < cLine) : EqAt A s x y (dec (a = b)) := by
  have := eqD (A := A) I (c.cmp a b) hv hu rx ry hA
  rwa [dec_congr (p := c.D a = c.D b) (q := a = b) ⟨c.inj a b, fun z => by rw [z]⟩] at this
theorem Enc.lex (c : Enc) (I : Inv X pins σ H s) {a b : c.O.α} {v u : V} {x y : Value} {A : Around} {vs ws : List Value} {e f : Bool} (hv : IsDt X.K H v (c.D a)) (hu : IsDt X.K H u (c.D b)) (rx : RelV v x) (ry : RelV u y) (hA : A.units + c.dep < cLine) (h1 : a = b → LexAt A s vs ws e ∧ f = e) (h2 : a ≠ b → f = c.O.blt a b) : LexAt A s (x :: vs) (y :: ws) f := by
  have he := c.eq (A := A) I hv hu rx ry hA
  by_cases hab : a = b
  · rw [dec_true hab] at he
    obtain ⟨t, rfl⟩ := h1 hab
    exact .eq he t
  · rw [dec_false hab] at he
    rw [h2 hab]
    exact .ne he (c.lt I hv hu rx ry hA)
end
@[reducible] def intE : Enc where
  O := intO
  D := Dt.int
  dflt := (0 : Int)
  dep := 0
  cmp a b := .int a b
  inj a b h := Dt.int.inj h
  lt {X pins σ H s} I {a b v u x y A} hv hu rx ry _ := by
    cases hv; cases hu
    obtain ⟨t, rfl⟩ := rx; obtain ⟨t', rfl⟩ := ry
    exact fun prog w E Q h => (PySem.P.lt_int h : wpAny (model prog w) _ (compareOp .Lt _ _) Q E _)
@[reducible] def strE : Enc where
  O := strO
  D := Dt.str
  dflt := (default : Str)
  dep := 0
  cmp a b := .str a b
  inj a b h := Dt.str.inj h
  lt {X pins σ H s} I {a b v u x y A} hv hu rx ry _ := by
    cases hv; cases hu
    obtain ⟨t, rfl⟩ := rx; obtain ⟨t', rfl⟩ := ry
    exact fun prog w E Q h => (PySem.P.lt_str h : wpAny (model prog w) _ (compareOp .Lt _ _) Q E _)
section
variable {X : Cx} {pins : List (Addr × Obj)} {σ : St} {H : Hp} {s : Shared}
theorem Enc.lexL (c : Enc) (I : Inv X pins σ H s) {A : Around} (hA : A.units + c.dep < cLine) : ∀ {as bs : List c.O.α} {vs us : List V} {xs ys : List Value}, IsDts X.K H vs (as.map c.D) → IsDts X.K H us (bs.map c.D) → Vals vs xs → Vals us ys → LexAt A s xs ys (listBlt c.O as bs)
  | [], [], _, _, _, _, .nil, .nil, .nil, .nil => .nil
  | [], b :: bs, _, _, _, _, .nil, .cons _ _, .nil, .cons _ _ => .lt _ _
  | a :: as, [], _, _, _, _, .cons _ _, .nil, .cons _ _, .nil => .gt _ _
  | a :: as, b :: bs, _, _, _, _, .cons h t, .cons h' t', .cons r q, .cons r' q' =>
    c.lex I h h' r r' hA (fun e => ⟨c.lexL I hA t t' q q', by subst e; exact listBlt_same a as bs⟩) (fun e => listBlt_diff as bs e)
end
theorem map_D_inj (c : Enc) : ∀ {a b : List c.O.α}, a.map c.D = b.map c.D → a = b
  | [], [], _ => rfl
  | [], _ :: _, h => by cases h
  | _ :: _, [], h => by cases h
  | x :: a, y :: b, h => by
    rw [List.map_cons, List.map_cons] at h
    injection h with h1 h2
    rw [c.inj x y h1, map_D_inj c h2]
@[reducible] def listE (c : Enc) : Enc where
  O := listO c.O
  D l := Dt.lst (l.map c.D)
  dflt := ([] : List c.O.α)
  dep := c.dep + 1
  cmp a b := .lst (Cmps.of fun d hd e he => by
    obtain ⟨x, _, rfl⟩ := List.mem_map.mp hd
    obtain ⟨y, _, rfl⟩ := List.mem_map.mp he
    exact c.cmp x y)
  inj a b h := map_D_inj c (Dt.lst.inj h)
  lt {X pins σ H s} I {a b v u x y A} hv hu rx ry hA := by
    cases hv with
    | lst h t =>
      cases hu with
      | lst h' t' =>
        cases rx; cases ry
        obtain ⟨its, r, p, _⟩ := I.list h
        obtain ⟨its', r', p', _⟩ := I.list h'
        exact RcLtAt.lists p.isList p'.isList (c.lexL (A := A.in1) I (by rw [in1_units]; omega) t t' r r') (by omega)
@[reducible] def tripE (c d e : Enc) : Enc where
  O := lexO c.O (lexO d.O e.O)
  D p := Dt.tup [c.D p.1, d.D p.2.1, e.D p.2.2]
  dflt := (c.dflt, d.dflt, e.dflt)
  dep := max c.dep (max d.dep e.dep) + 1
  cmp a b := .tup (.cons ((c.cmp a.1 b.1).mono (Nat.le_max_left _ _)) (.cons ((d.cmp a.2.1 b.2.1).mono (by omega)) (.cons ((e.cmp a.2.2 b.2.2).mono (by omega)) (.nil _))))
  inj a b h := by
    injection h with h
    injection h with h1 h2
    injection h2 with h2 h3
    injection h3 with h3 _
    exact Prod.ext (c.inj _ _ h1) (Prod.ext (d.inj _ _ h2) (e.inj _ _ h3))
  lt {X pins σ H s} I {a b v u x y A} hv hu rx ry hA := by
    have m1 := Nat.le_max_left c.dep (max d.dep e.dep)
    have m2 := Nat.le_max_right c.dep (max d.dep e.dep)
    have m3 := Nat.le_max_left d.dep e.dep
    have m4 := Nat.le_max_right d.dep e.dep
    cases hv with
    | tup h t =>
      cases hu with
      | tup h' t' =>
        cases rx; cases ry
        obtain ⟨its, r, p, _⟩ := I.tuple h
        obtain ⟨its', r', p', _⟩ := I.tuple h'
        cases t with
        | cons t1 t => cases t with
          | cons t2 t => cases t with
            | cons t3 t => cases t; cases t' with
              | cons s1 t' => cases t' with
                | cons s2 t' => cases t' with
                  | cons s3 t' => cases t'; cases r with
                    | cons r1 r => cases r with
                      | cons r2 r => cases r with
                        | cons r3 r => cases r; cases r' with
                          | cons q1 r' => cases r' with
                            | cons q2 r' => cases r' with
                              | cons q3 r' =>
                                cases r'
                                refine RcLtAt.tuples p p' (c.lex (A := A.in1) I t1 s1 r1 q1 (by rw [in1_units]; omega) (fun g => ⟨d.lex (A := A.in1) I t2 s2 r2 q2 (by rw [in1_units]; omega) (fun g' => ⟨e.lex (A := A.in1) I t3 s3 r3 q3 (by rw [in1_units]; omega) (fun g'' => ⟨.nil, ?_⟩) fun _ => rfl, lexO_same a.2 b.2 g'⟩) fun g' => lexO_diff a.2 b.2 g', lexO_same a b g⟩) fun g => lexO_diff a b g) (by omega)
                                rw [g'', e.O.irrefl]
end L2
namespace L2
open PySem PySem.Spec PyProof.Rows PySem.SeqAt
section
variable {X : Cx}
abbrev RowE (c : Enc) : Type := V × c.O.α
def rSortE (X : Cx) (c : Enc) : List V → Hp → VK → Prop := fun vs H Q => ∃ (l : Addr) (zs : List (RowE c)), vs = [.ref l] ∧ SqL X.K H l (zs.map (·.1)) ∧ zs.length < 64 ∧
  (∀ z ∈ zs, IsDt X.K H z.1 (c.D z.2)) ∧ ∀ (D : Addr) (zs' : List (RowE c)), zs'.Perm zs → (zs'.map (·.2)).Pairwise c.O.kle → H D = none → Q (.ref D) (upd H D (.lst (zs'.map (·.1))))
theorem sortE_of (c : Enc) (κ : SortKind)
    (hkind : ∀ (pins : List (Addr × Obj)) (σ : St) (H : Hp) (s : Shared) (zs : List (RowE c)) (its : List Value) (Q : SortKind → Shared → Prop), Inv X pins σ H s → Vals (zs.map (·.1)) its → (∀ z ∈ zs, IsDt X.K H z.1 (c.D z.2)) → 2 ≤ its.length → Q κ s → wpAny (model X.prog X.w) X.A.in1.in1 (keyKind' its.toArray) Q (fun _ _ => False) s)
    (hcmp : ∀ (pins : List (Addr × Obj)) (σ : St) (H : Hp) (s : Shared) (z z' : RowE c) (x y : Value) (C : Bool → Shared → Prop), Inv X pins σ H s → IsDt X.K H z.1 (c.D z.2) → IsDt X.K H z'.1 (c.D z'.2) → RelV z.1 x → RelV z'.1 y → C (c.O.blt z.2 z'.2) s → wpAny (model X.prog X.w) X.A.in1.in1 (keyLt' κ x y) C (fun _ _ => False) s) :
    CallR X (.builtin "sorted") (rSortE X c) := by
  intro pins s σ H vs us Q I r h
  obtain ⟨l, zs, rfl, hl, h64, hr, q⟩ := h
  obtain ⟨u, rfl, ru⟩ := vals1 r
  obtain rfl : u = Value.ref l := ru
  obtain ⟨its, ri, pl, _⟩ := I.list hl
  have hlen : zs.length = its.length := by have := ri.length; rwa [List.length_map] at this
  let dz : RowE c := (V.non, c.dflt)
  have hat : ∀ i, i < zs.length → RelV (zs.getD i dz).1 (its.getD i Value.none) ∧ IsDt X.K H (zs.getD i dz).1 (c.D (zs.getD i dz).2) := fun i hi => by
    have := paired_at ri i V.non Value.none (by rw [List.length_map]; exact hi)
    have e : (zs.map (·.1)).getD i V.non = (zs.getD i dz).1 := by
      rw [List.getD_eq_getElem?_getD, List.getElem?_map, List.getD_eq_getElem?_getD, List.getElem?_eq_getElem hi]; rfl
    rw [e] at this
    refine ⟨this, hr _ ?_⟩
    rw [List.getD_eq_getElem?_getD, List.getElem?_eq_getElem hi]
    exact List.getElem_mem hi
  refine sorted_kas (O := c.O) (key := fun i => (zs.getD i dz).2) (κ := κ) (vs := its) pl.isList (by omega) (fun h2 h' k Q' hq => ?_) (fun h' k i j C hi hj hC => ?_) fun D h' n is kk hD hpm hst hg => ?_
  · exact hkind pins σ H _ zs its Q' (I.kept (t' := s.toks) k) ri hr h2 hq
  · obtain ⟨a1, a2⟩ := hat i (by omega)
    obtain ⟨b1, b2⟩ := hat j (by omega)
    unfold PySem.W.kas_ask
    exact hcmp pins σ H _ _ _ _ _ C (I.kept (t' := s.toks) k) a2 b2 a1 b1 hC
  · have hin : ∀ i ∈ is, i < zs.length := fun i hi => by
      have := hpm.mem_iff.mp hi
      rw [hlen]; simpa using this
    have hrange : (List.range zs.length).map (fun i => zs.getD i dz) = zs := by
      apply List.ext_getElem?
      intro k
      by_cases hk : k < zs.length
      · simp [hk, List.getD_eq_getElem?_getD]
      · simp [hk]
    have hperm : (is.map fun i => zs.getD i dz).Perm zs := by
      have := hpm.map (fun i => zs.getD i dz)
      rwa [← hlen, hrange] at this
    have hv : Vals ((is.map fun i => zs.getD i dz).map (·.1)) (is.map fun i => its.getD i Value.none) := by
      rw [List.map_map]
      exact paired_map is fun i hi => (hat i (hin i hi)).1
    have hpw : ((is.map fun i => zs.getD i dz).map (·.2)).Pairwise c.O.kle := by
      refine pairwise_of_steps (fun _ _ _ => KeyOrd.kle_trans) _ fun i a b h1 h2 => ?_
      rw [List.map_map, List.getElem?_map, Option.map_eq_some_iff] at h1 h2
      obtain ⟨x, e1, rfl⟩ := h1
      obtain ⟨y, e2, rfl⟩ := h2
      obtain ⟨hlt, _⟩ := List.getElem?_eq_some_iff.mp e2
      have := hst i hlt
      have g1 : is.getD i 0 = x := by rw [List.getD_eq_getElem?_getD, e1]; rfl
      have g2 : is.getD (i + 1) 0 = y := by rw [List.getD_eq_getElem?_getD, e2]; rfl
      rw [g1, g2] at this
      exact this
    exact ⟨.ref D, upd H D (.lst ((is.map fun i => zs.getD i dz).map (·.1))), I.laidN (t' := s.toks) kk hD ⟨by rw [List.length_map, hperm.length_eq]; exact Nat.le_of_lt (small1000 (by omega)), _, n, hv, hg⟩, rfl, q D _ hperm hpw (I.freshN hD)⟩
theorem look_list {pins : List (Addr × Obj)} {σ : St} {H : Hp} {s : Shared} {M : Model} (I : Inv X pins σ H s) {v : V} {ds : List Dt} {x : Value} (h : IsDt X.K H v (.lst ds)) (r : RelV v x) : PySem.W.Looks M s.heap (typeOf x) (.type "list") := by
  cases h with
  | lst h t =>
    cases r
    obtain ⟨its, _, p, _⟩ := I.list h
    obtain ⟨o, ho, hc, _⟩ := p.isList
    rw [← hc]
    exact (PySem.W.Looks.ld ho).andThen .now
theorem call_sortL (c : Enc) (hu : X.A.units + 64 < cLine) (hd : c.dep ≤ 50) : CallR X (.builtin "sorted") (rSortE X (listE c)) := by
  refine sortE_of (listE c) oneType' (fun pins σ H s zs its Q I rv hz h2 hq => ?_) fun pins σ H s z z' x y C I h h' r r' hC => ?_
  · refine PySem.W.kas_kind (T := .type "list") h2 (fun v hv => ?_) (by decide) (by decide) hq
    obtain ⟨i, hi⟩ := List.getElem?_of_mem hv
    have hi' := (List.getElem?_eq_some_iff.mp hi).1
    have hl := rv.length
    rw [List.length_map] at hl
    obtain ⟨x, hx, rx⟩ := rv.get (i := i) (x := (zs[i]'(by omega)).1) (by rw [List.getElem?_map, List.getElem?_eq_getElem (by omega)]; rfl)
    rw [hi] at hx; cases hx
    exact look_list I (hz _ (List.getElem_mem (by omega))) rx
  · rw [keyLt'_oneType]
    obtain ⟨v, as⟩ := z
    obtain ⟨u, bs⟩ := z'
    cases h with
    | lst h t =>
      cases h' with
      | lst h' t' =>
        cases r; cases r'
        obtain ⟨its, rr, p, _⟩ := I.list h
        obtain ⟨its', rr', p', _⟩ := I.list h'
        exact oneLt_lists p.isList p'.isList (c.lexL I (by show _ + 1 + 1 + 1 + _ < _; omega) t t' rr rr') (by show _ + 1 + 1 < _; omega) hC
theorem tups_of (c : Enc) {pins : List (Addr × Obj)} {σ : St} {H : Hp} {s : Shared} (I : Inv X pins σ H s) {g : c.O.α → List Dt} : ∀ {zs : List (V × c.O.α)} {its : List Value} {k : c.O.α → List Dt}, Vals (zs.map (·.1)) its → (∀ z ∈ zs, ∃ ds, k z.2 = Dt.lst ds :: g z.2 ∧ IsDt X.K H z.1 (.tup (k z.2))) →
    ∃ fs, PySem.W.KatTups s.heap its fs ∧ fs.length = zs.length ∧ ∀ v ∈ fs, ∃ (u : V) (ds : List Dt), IsDt X.K H u (.lst ds) ∧ RelV u v
  | [], _, _, .nil, _ => ⟨[], .nil, rfl, fun _ x => by cases x⟩
  | z :: zs, _, k, .cons r rr, h => by
    obtain ⟨fs, k1, k2, k3⟩ := tups_of c I (zs := zs) rr fun y hy => h y (List.mem_cons_of_mem _ hy)
    obtain ⟨ds, e, hd⟩ := h z List.mem_cons_self
    rw [e] at hd
    obtain ⟨v, a⟩ := z
    dsimp only at r hd
    cases hd with
    | tup hs t =>
      cases r
      obtain ⟨its, ri, ⟨o, b1, b2, n, b3⟩, _⟩ := I.tuple hs
      cases t with
      | cons t1 t2 =>
        cases ri with
        | cons r1 r2 =>
          refine ⟨_ :: fs, .cons b1 b2 b3 rfl k1, by simp [k2], fun w hw => ?_⟩
          rcases List.mem_cons.mp hw with e | hw
          · exact ⟨_, ds, t1, e ▸ r1⟩
          · exact k3 w hw
theorem oneLt_of {A : Around} {s : Shared} {prog : Program} {w : World} {E : Value → Shared → Prop} {x y : Value} {b : Bool} {Q : Bool → Shared → Prop} (h : RcLtAt A s x y b) (q : Q b s) : wpAny (model prog w) A (oneLt' false x y) Q E s :=
  PySem.W.kat_one _ _ (h prog w E _ q)
theorem oneLtL (c : Enc) {pins : List (Addr × Obj)} {σ : St} {H : Hp} {s : Shared} (I : Inv X pins σ H s) {A : Around} {as bs : List c.O.α} {v u : V} {x y : Value} {prog : Program} {w : World} {E : Value → Shared → Prop} {Q : Bool → Shared → Prop} (h : IsDt X.K H v ((listE c).D as)) (h' : IsDt X.K H u ((listE c).D bs)) (r : RelV v x) (r' : RelV u y) (hA : A.units + (c.dep + 1) < cLine) (q : Q (listBlt c.O as bs) s) : wpAny (model prog w) A (oneLt' true x y) Q E s := by
  cases h with
  | lst h t =>
    cases h' with
    | lst h' t' =>
      cases r; cases r'
      obtain ⟨its, rr, p, _⟩ := I.list h
      obtain ⟨its', rr', p', _⟩ := I.list h'
      exact oneLt_lists p.isList p'.isList (c.lexL I (by rw [in1_units]; omega) t t' rr rr') (by omega) q
theorem call_sortLT (c d e : Enc) (hu : X.A.units + 64 < cLine) (h1 : c.dep ≤ 50) (h2 : d.dep ≤ 50) (h3 : e.dep ≤ 50) : CallR X (.builtin "sorted") (rSortE X (tripE (listE c) d e)) := by
  refine sortE_of (tripE (listE c) d e) (tuples' true) (fun pins σ H s zs its Q I rv hz hl hq => ?_) fun pins σ H s z z' x y C I h h' r r' hC => ?_
  · obtain ⟨fs, k1, k2, k3⟩ := tups_of (tripE (listE c) d e) I (k := fun p => [(listE c).D p.1, d.D p.2.1, e.D p.2.2]) (g := fun p => [d.D p.2.1, e.D p.2.2]) rv fun z hz' => ⟨_, rfl, hz z hz'⟩
    have hl2 := rv.length
    rw [List.length_map] at hl2
    refine PySem.W.kat_kind (T := .type "list") k1 (by omega) (fun v hv => ?_) (by decide) hq
    obtain ⟨u, ds, a1, a2⟩ := k3 v hv
    exact look_list I a1 a2
  · obtain ⟨v, p⟩ := z
    obtain ⟨u, q⟩ := z'
    dsimp only at h h' r r'
    change C ((tripE (listE c) d e).O.blt p q) s at hC
    have hun : X.A.in1.in1.units = X.A.units + 1 + 1 := rfl
    cases h with
    | tup hs t =>
      cases h' with
      | tup hs' t' =>
        cases r; cases r'
        obtain ⟨its, rr, ⟨ox, hox, _, n, dx⟩, _⟩ := I.tuple hs
        obtain ⟨its', rr', ⟨oy, hoy, _, m, dy⟩, _⟩ := I.tuple hs'
        cases t with
        | cons t1 t => cases t with
          | cons t2 t => cases t with
            | cons t3 t => cases t; cases t' with
              | cons s1 t' => cases t' with
                | cons s2 t' => cases t' with
                  | cons s3 t' => cases t'; cases rr with
                    | cons r1 rr => cases rr with
                      | cons r2 rr => cases rr with
                        | cons r3 rr => cases rr; cases rr' with
                          | cons q1 rr' => cases rr' with
                            | cons q2 rr' => cases rr' with
                              | cons q3 rr' =>
                                cases rr'
                                refine PySem.W.kat_lt hox dx hoy dy (PySem.W.kat_cons ((listE c).eq (A := X.A.in1.in1) I t1 s1 r1 q1 (by rw [hun]; show _ + (c.dep + 1) < _; omega) _ _ _ _ ?_))
                                by_cases e1 : p.1 = q.1
                                · rw [dec_true e1]
                                  rw [show (tripE (listE c) d e).O.blt p q = (lexO d.O e.O).blt p.2 q.2 from lexO_same p q e1] at hC
                                  refine PySem.W.kat_yes (PySem.W.kat_cons (d.eq (A := X.A.in1.in1) I t2 s2 r2 q2 (by rw [hun]; omega) _ _ _ _ ?_))
                                  by_cases e2 : p.2.1 = q.2.1
                                  · rw [dec_true e2]
                                    rw [show (lexO d.O e.O).blt p.2 q.2 = e.O.blt p.2.2 q.2.2 from lexO_same p.2 q.2 e2] at hC
                                    refine PySem.W.kat_yes (PySem.W.kat_cons (e.eq (A := X.A.in1.in1) I t3 s3 r3 q3 (by rw [hun]; omega) _ _ _ _ ?_))
                                    by_cases e3 : p.2.2 = q.2.2
                                    · rw [dec_true e3]
                                      refine PySem.W.kat_yes (PySem.W.kat_nil ?_)
                                      rw [e3, e.O.irrefl] at hC
                                      exact hC
                                    · rw [dec_false e3]
                                      exact PySem.W.kat_no (oneLt_of (e.lt I t3 s3 r3 q3 (by rw [hun]; omega)) hC)
                                  · rw [dec_false e2]
                                    rw [show (lexO d.O e.O).blt p.2 q.2 = d.O.blt p.2.1 q.2.1 from lexO_diff p.2 q.2 e2] at hC
                                    exact PySem.W.kat_no (oneLt_of (d.lt I t2 s2 r2 q2 (by rw [hun]; omega)) hC)
                                · rw [dec_false e1]
                                  rw [show (tripE (listE c) d e).O.blt p q = listBlt c.O p.1 q.1 from lexO_diff p q e1] at hC
                                  exact PySem.W.kat_no (oneLtL c I t1 s1 r1 q1 (by rw [hun]; omega) hC)
end
end L2
namespace L2
open PySem PySem.Spec PyProof.Rows Ord
def goN : List (Str × Int) → Str → Option Int
  | [], _ => none
  | (y, n) :: r, x => if y = x then some n else goN r x
def onV : Option Int → V
  | some n => .int n
  | none => .non
theorem goN_at : ∀ {gs : List (Str × Int)} {i : Nat} {p : Str × Int} {x : Str}, gs[i]? = some p → p.1 = x → (∀ q ∈ gs.take i, q.1 ≠ x) → goN gs x = some p.2
  | [], _, _, _, h, _, _ => by simp at h
  | q :: r, 0, p, x, h, e, _ => by
    simp at h; subst h
    obtain ⟨y, n⟩ := q
    exact if_pos e
  | q :: r, i + 1, p, x, h, e, k => by
    obtain ⟨y, n⟩ := q
    have k1 : y ≠ x := k (y, n) (by simp)
    show (if y = x then some n else goN r x) = _
    rw [if_neg k1]
    exact goN_at (i := i) (by simpa using h) e fun q hq => k q (by simp [hq])
theorem goN_none : ∀ {gs : List (Str × Int)} {x : Str}, (∀ q ∈ gs, q.1 ≠ x) → goN gs x = none
  | [], _, _ => rfl
  | (y, n) :: r, x, k => by
    show (if y = x then some n else goN r x) = _
    rw [if_neg (k (y, n) (by simp))]
    exact goN_none fun q hq => k q (by simp [hq])
theorem goN_mem : ∀ {gs : List (Str × Int)} {x : Str} {n : Int}, goN gs x = some n → (x, n) ∈ gs
  | [], _, _, h => by cases h
  | (y, m) :: r, x, n, h => by
    have h' : (if y = x then some m else goN r x) = some n := h
    by_cases e : y = x
    · rw [if_pos e] at h'
      rw [← e, ← Option.some.inj h']
      exact List.mem_cons_self
    · rw [if_neg e] at h'
      exact List.mem_cons_of_mem _ (goN_mem h')
abbrev Mrk : Type := Int × Str × Int
abbrev mkV (m : Mrk) : List V := [.int m.1, .str m.2.1, .int m.2.2]
abbrev Beg : Type := List Mrk × Int × Int
structure Wd where
  ss : List Sco
  gs : List (Str × Int)
  as : List (Option (Str × Int))
  sts : List Stt
abbrev Gn : Type := Mrk × (Str × Int) × Int
def gone1 (W : Wd) (sc : Int) (go : List (Str × Int)) (p : Stp) (i : Nat) : List Gn := match goN go p.1 with
  | some a => [((sc, ("step" : Str), (i : Int)), goalV W.gs W.as p, a)]
  | none => []
def gone0 (W : Wd) (sc : Int) (go : List (Str × Int)) : List Stp → Nat → List Gn
  | [], _ => []
  | p :: r, i => gone1 W sc go p i ++ gone0 W sc go r (i + 1)
def stepsOf (W : Wd) (sc : Int) : List Stp := match W.ss[sc.toNat]? with
  | some s => s.1
  | none => []
def goesOf (W : Wd) (st : Int) : List (Str × Int) := match W.sts[st.toNat]? with
  | some s => s.1
  | none => []
def goneAt (W : Wd) (sc st : Int) : List Gn := gone0 W sc (goesOf W st) (stepsOf W sc) 0
theorem gone0_snoc (W : Wd) (sc : Int) (go : List (Str × Int)) (p : Stp) : ∀ (l : List Stp) (i : Nat), gone0 W sc go (l ++ [p]) i = gone0 W sc go l i ++ gone1 W sc go p (i + l.length)
  | [], i => by simp [gone0]
  | q :: l, i => by
    show gone1 W sc go q i ++ gone0 W sc go (l ++ [p]) (i + 1) = (gone1 W sc go q i ++ gone0 W sc go l (i + 1)) ++ _
    rw [gone0_snoc W sc go p l (i + 1), List.append_assoc, List.length_cons, show i + 1 + l.length = i + (l.length + 1) by omega]
theorem mem_gone1 {W : Wd} {sc : Int} {go : List (Str × Int)} {p : Stp} {i : Nat} {r : Gn} : r ∈ gone1 W sc go p i ↔ ∃ a, goN go p.1 = some a ∧ r = ((sc, ("step" : Str), (i : Int)), goalV W.gs W.as p, a) := by
  unfold gone1
  cases e : goN go p.1 with
  | none => simp
  | some a => simp
theorem mem_gone0 {W : Wd} {sc : Int} {go : List (Str × Int)} {r : Gn} : ∀ {l : List Stp} {i : Nat}, r ∈ gone0 W sc go l i ↔ ∃ (j : Nat) (p : Stp) (a : Int), l[j]? = some p ∧ goN go p.1 = some a ∧ r = ((sc, ("step" : Str), ((i + j : Nat) : Int)), goalV W.gs W.as p, a)
  | [], i => by simp [gone0]
  | q :: l, i => by
    show r ∈ gone1 W sc go q i ++ gone0 W sc go l (i + 1) ↔ _
    rw [List.mem_append, mem_gone1, mem_gone0 (l := l) (i := i + 1)]
    constructor
    · rintro (⟨a, h1, h2⟩ | ⟨j, p, a, h1, h2, h3⟩)
      · exact ⟨0, q, a, rfl, h1, by rw [h2]; rfl⟩
      · exact ⟨j + 1, p, a, by simpa using h1, h2, by rw [h3, show i + 1 + j = i + (j + 1) by omega]⟩
    · rintro ⟨j, p, a, h1, h2, h3⟩
      cases j with
      | zero =>
        simp at h1; subst h1
        exact .inl ⟨a, h2, by rw [h3]; rfl⟩
      | succ j => exact .inr ⟨j, p, a, by simpa using h1, h2, by rw [h3, show i + 1 + j = i + (j + 1) by omega]⟩
theorem gone0_pw (W : Wd) (sc : Int) (go : List (Str × Int)) : ∀ (l : List Stp) (i : Nat), (gone0 W sc go l i).Pairwise (fun r r' => r.1 ≠ r'.1)
  | [], i => List.Pairwise.nil
  | q :: l, i => by
    show (gone1 W sc go q i ++ gone0 W sc go l (i + 1)).Pairwise _
    refine List.pairwise_append.mpr ⟨?_, gone0_pw W sc go l (i + 1), fun r hr r' hr' e => ?_⟩
    · unfold gone1
      split
      · exact List.pairwise_singleton _ _
      · exact List.Pairwise.nil
    · obtain ⟨a, _, rfl⟩ := mem_gone1.mp hr
      obtain ⟨j, p, a', _, _, rfl⟩ := mem_gone0.mp hr'
      have := congrArg (fun m : Mrk => m.2.2) e
      simp only at this
      omega
theorem gone0_len (W : Wd) (sc : Int) (go : List (Str × Int)) : ∀ (l : List Stp) (i : Nat), (gone0 W sc go l i).length ≤ l.length
  | [], i => Nat.le_refl _
  | q :: l, i => by
    show (gone1 W sc go q i ++ gone0 W sc go l (i + 1)).length ≤ _
    have h1 : (gone1 W sc go q i).length ≤ 1 := by unfold gone1; split <;> simp
    have h2 := gone0_len W sc go l (i + 1)
    rw [List.length_append, List.length_cons]
    omega
theorem gone_mark {W : Wd} {sc : Int} {go : List (Str × Int)} {l : List Stp} {i : Nat} {r r' : Gn} (h : r ∈ gone0 W sc go l i) (h' : r' ∈ gone0 W sc go l i) (e : r.1 = r'.1) : r = r' := by
  obtain ⟨j, p, a, h1, h2, rfl⟩ := mem_gone0.mp h
  obtain ⟨j', p', a', h1', h2', rfl⟩ := mem_gone0.mp h'
  have := congrArg (fun m : Mrk => m.2.2) e
  simp only at this
  have ej : j = j' := by omega
  subst ej
  rw [h1] at h1'; cases h1'
  rw [h2] at h2'; cases h2'
  rfl
def been (b : Beg) : List Int := b.1.map (·.1) ++ [b.2.1]
def kid (b : Beg) (r : Gn) : Option Beg := if r.2.1.1 = ("to" : Str) ∧ r.2.1.2 ∉ been b then some (b.1 ++ [r.1], r.2.1.2, r.2.2) else none
def kids (W : Wd) (b : Beg) : List Beg := (goneAt W b.2.1 b.2.2).filterMap (kid b)
theorem mem_kids {W : Wd} {b c : Beg} : c ∈ kids W b ↔ ∃ r ∈ goneAt W b.2.1 b.2.2, r.2.1.1 = ("to" : Str) ∧ r.2.1.2 ∉ been b ∧ c = (b.1 ++ [r.1], r.2.1.2, r.2.2) := by
  unfold kids kid
  rw [List.mem_filterMap]
  constructor
  · rintro ⟨r, hr, e⟩
    split at e
    · rename_i h
      exact ⟨r, hr, h.1, h.2, (Option.some.inj e).symm⟩
    · cases e
  · rintro ⟨r, hr, h1, h2, e⟩
    exact ⟨r, hr, by rw [if_pos ⟨h1, h2⟩, e]⟩
theorem kids_len (W : Wd) (b : Beg) : (kids W b).length ≤ (stepsOf W b.2.1).length := Nat.le_trans (List.length_filterMap_le _ _) (gone0_len _ _ _ _ _)
theorem kids_nd (W : Wd) (b : Beg) : (kids W b).Nodup := by
  refine List.Pairwise.filterMap (kid b) (fun r r' hne c hc c' hc' e => ?_) (gone0_pw W b.2.1 (goesOf W b.2.2) (stepsOf W b.2.1) 0)
  unfold kid at hc hc'
  split at hc
  · split at hc'
    · cases hc; cases hc'
      have := congrArg Prod.fst e
      simp only at this
      have := (List.append_inj' this rfl).2
      exact hne (by simpa using this)
    · cases hc'
  · cases hc
inductive IsBeg (W : Wd) (sc st : Int) : Beg → Prop where
  | root : IsBeg W sc st ([], sc, st)
  | kid {b c : Beg} (h : IsBeg W sc st b) (k : c ∈ kids W b) : IsBeg W sc st c
structure WOk (W : Wd) : Prop where
  s5 : W.ss.length ≤ 5
  st : ∀ s ∈ W.ss, s.1.length ≤ 3 ∧ (4 ≤ W.ss.length → s.1.length ≤ 2)
  tl : ∀ s ∈ W.ss, s.2.length ≤ 3 ∧ (5 ≤ W.ss.length → s.2.length ≤ 2)
  kst : ∀ s ∈ W.ss, ∀ p ∈ s.1, stOk W.ss.length W.as.length p
  kth : ∀ p ∈ W.gs, thOk W.ss.length W.as.length p
  an : ∀ p, some p ∈ W.as → p.1 = ("thing" : Str) → 0 ≤ p.2 ∧ p.2 < W.gs.length
  go : ∀ s ∈ W.sts, ∀ p ∈ s.1, 0 ≤ p.2 ∧ p.2 < W.sts.length
theorem WOk.net {W : Wd} (h : WOk W) : NetOk W.gs W.as := ⟨fun p hp e => by
  rcases h.kth p hp with ⟨e1, _⟩ | ⟨e1, _⟩ | ⟨_, e2⟩
  · rw [e] at e1; exact absurd e1 (by decide +kernel)
  · rw [e] at e1; exact absurd e1 (by decide +kernel)
  · exact e2, h.an⟩
theorem WOk.by_ {W : Wd} (h : WOk W) {s : Sco} (hs : s ∈ W.ss) {p : Stp} (hp : p ∈ s.1) (hn : p.2.1 ≠ ("to" : Str)) : 0 ≤ p.2.2 ∧ p.2.2 < W.as.length := by
  rcases h.kst s hs p hp with ⟨e, _⟩ | ⟨_, e⟩
  · exact absurd e hn
  · exact e
theorem no_to : (("no" : Str), (0 : Int)).1 ≠ ("to" : Str) := by decide +kernel
theorem open_to : ("open" : Str) ≠ ("to" : Str) := by decide +kernel
theorem part_rng {W : Wd} (h : WOk W) {k : Str × Int} (hk : k ∈ W.gs) (ek : k.1 = ("part" : Str)) : 0 ≤ k.2 ∧ k.2 < W.ss.length := by
  rcases h.kth k hk with ⟨e1, _⟩ | ⟨_, e2⟩ | ⟨e1, _⟩
  · rw [ek] at e1; exact absurd e1 (by decide +kernel)
  · exact e2
  · rw [ek] at e1; exact absurd e1 (by decide +kernel)
theorem sort_rng {W : Wd} (h : WOk W) {q : Int} {g : Str × Int} (e : sortV W.gs W.as q = g) (hg : g.1 = ("to" : Str)) : 0 ≤ g.2 ∧ g.2 < W.ss.length := by
  unfold sortV at e
  split at e
  · split at e
    · split at e
      · rename_i k hk
        split at e
        · rename_i hp
          subst e
          exact part_rng (k := k) h (List.mem_of_getElem? hk) hp
        · subst e; exact absurd hg no_to
      · subst e; exact absurd hg no_to
    · subst e; exact absurd hg no_to
  · subst e; exact absurd hg open_to
  · subst e; exact absurd hg no_to
theorem inside_rng {W : Wd} (h : WOk W) {p : Str × Int} (hp : p ∈ W.gs) {g : Str × Int} (e : insideV W.gs W.as p = g) (hg : g.1 = ("to" : Str)) : 0 ≤ g.2 ∧ g.2 < W.ss.length := by
  unfold insideV at e
  split at e
  · rename_i hpart
    subst e
    exact part_rng (k := p) h hp hpart
  · split at e
    · exact sort_rng h e hg
    · subst e; exact absurd hg no_to
theorem goal_rng {W : Wd} (h : WOk W) {s : Sco} (hs : s ∈ W.ss) {p : Stp} (hp : p ∈ s.1) {g : Str × Int} (e : goalV W.gs W.as p = g) (hg : g.1 = ("to" : Str)) : 0 ≤ g.2 ∧ g.2 < W.ss.length := by
  unfold goalV at e
  split at e
  · rename_i hto
    subst e
    rcases h.kst s hs p hp with ⟨_, e2⟩ | ⟨e1, _⟩
    · exact e2
    · rw [hto] at e1; exact absurd e1 (by decide +kernel)
  · split at e
    · split at e
      · split at e
        · rename_i k hk
          exact inside_rng h (List.mem_of_getElem? hk) e hg
        · subst e; exact absurd hg no_to
      · subst e; exact absurd hg no_to
    · subst e; exact absurd hg open_to
    · subst e; exact absurd hg no_to
structure BegOk (W : Wd) (b : Beg) : Prop where
  nd : (been b).Nodup
  rng : ∀ x ∈ been b, 0 ≤ x ∧ x < W.ss.length
  st : 0 ≤ b.2.2 ∧ b.2.2 < W.sts.length
theorem steps_mem {W : Wd} {sc : Int} {p : Stp} (h : p ∈ stepsOf W sc) : ∃ s ∈ W.ss, p ∈ s.1 := by
  unfold stepsOf at h
  split at h
  · rename_i s hs
    exact ⟨s, List.mem_of_getElem? hs, h⟩
  · cases h
theorem goes_mem {W : Wd} {st : Int} {p : Str × Int} (h : p ∈ goesOf W st) : ∃ s ∈ W.sts, p ∈ s.1 := by
  unfold goesOf at h
  split at h
  · rename_i s hs
    exact ⟨s, List.mem_of_getElem? hs, h⟩
  · cases h
theorem gone_of {W : Wd} {sc st : Int} {r : Gn} (h : r ∈ goneAt W sc st) : ∃ (j : Nat) (p : Stp) (a : Int), (stepsOf W sc)[j]? = some p ∧ goN (goesOf W st) p.1 = some a ∧ r = ((sc, ("step" : Str), (j : Int)), goalV W.gs W.as p, a) := by
  obtain ⟨j, p, a, h1, h2, h3⟩ := mem_gone0.mp h
  exact ⟨j, p, a, h1, h2, by rw [h3, Nat.zero_add]⟩
theorem been_kid {W : Wd} {b : Beg} {r : Gn} (h : r ∈ goneAt W b.2.1 b.2.2) : been (b.1 ++ [r.1], r.2.1.2, r.2.2) = been b ++ [r.2.1.2] := by
  obtain ⟨j, p, a, _, _, rfl⟩ := gone_of h
  unfold been
  simp
theorem BegOk.kid {W : Wd} (ok : WOk W) {b c : Beg} (h : BegOk W b) (k : c ∈ kids W b) : BegOk W c := by
  obtain ⟨r, hr, h1, h2, rfl⟩ := mem_kids.mp k
  have eb := been_kid hr
  obtain ⟨j, p, a, g1, g2, rfl⟩ := gone_of hr
  obtain ⟨s, hs, hp⟩ := steps_mem (List.mem_of_getElem? g1)
  refine ⟨?_, ?_, ?_⟩
  · rw [eb, List.nodup_append]
    exact ⟨h.nd, by simp, fun x hx y hy => by
      rw [List.mem_singleton.mp hy]
      exact fun z => h2 (z ▸ hx)⟩
  · rw [eb]
    intro x hx
    rcases List.mem_append.mp hx with hx | hx
    · exact h.rng x hx
    · rw [List.mem_singleton.mp hx]
      exact goal_rng ok hs hp rfl h1
  · obtain ⟨t, ht, hpt⟩ := goes_mem (goN_mem g2)
    exact ok.go t ht _ hpt
theorem IsBeg.ok {W : Wd} (ok : WOk W) {sc st : Int} (hsc : 0 ≤ sc ∧ sc < W.ss.length) (hst : 0 ≤ st ∧ st < W.sts.length) {b : Beg} (h : IsBeg W sc st b) : BegOk W b := by
  induction h with
  | root => exact ⟨by simp [been], fun x hx => by simp [been] at hx; rw [hx]; exact hsc, hst⟩
  | kid _ k ih => exact ih.kid ok k
theorem IsBeg.uniq {W : Wd} {sc st : Int} {b : Beg} (h : IsBeg W sc st b) : ∀ {c : Beg}, IsBeg W sc st c → b.1 = c.1 → b = c := by
  induction h with
  | root =>
    intro c hc e
    cases hc with
    | root => rfl
    | kid _ k =>
      obtain ⟨r, _, _, _, rfl⟩ := mem_kids.mp k
      simp at e
  | @kid b0 b1 h0 k ih =>
    intro c hc e
    obtain ⟨r, hr, h1, h2, rfl⟩ := mem_kids.mp k
    cases hc with
    | root => simp at e
    | @kid c0 _ hc0 k' =>
      obtain ⟨r', hr', h1', h2', rfl⟩ := mem_kids.mp k'
      simp only at e
      obtain ⟨e1, e2⟩ := List.append_inj' e rfl
      have e0 := ih hc0 e1
      subst e0
      have := gone_mark hr hr' (by simpa using e2)
      subst this
      rfl
def capR (B : Nat) : Nat → Nat
  | 0 => 1
  | r + 1 => 1 + B * capR B r
theorem capR_pos (B : Nat) : ∀ r, 1 ≤ capR B r
  | 0 => Nat.le_refl _
  | r + 1 => Nat.le_add_right _ _
def bOf (W : Wd) : Nat := if W.ss.length < 4 then 3 else 2
def pot (W : Wd) (b : Beg) : Nat := capR (bOf W) (W.ss.length - 1 - b.1.length)
theorem nodup_rng : ∀ (n : Nat) (l : List Int), l.Nodup → (∀ x ∈ l, 0 ≤ x ∧ x < (n : Int)) → l.length ≤ n
  | 0, [], _, _ => Nat.le_refl _
  | 0, x :: l, _, h => by have := h x List.mem_cons_self; omega
  | n + 1, l, nd, h => by
    have nd' : (l.erase (n : Int)).Nodup := nd.erase _
    have h' : ∀ x ∈ l.erase (n : Int), 0 ≤ x ∧ x < (n : Int) := fun x hx => by
      obtain ⟨hne, hm⟩ := (nd.mem_erase_iff).mp hx
      have := h x hm
      omega
    have := nodup_rng n _ nd' h'
    have hle : l.length ≤ (l.erase (n : Int)).length + 1 := by
      by_cases hm : (n : Int) ∈ l
      · rw [List.length_erase_of_mem hm]; omega
      · rw [List.erase_of_not_mem hm]; omega
    omega
theorem List_sum_le {l : List Beg} {f : Beg → Nat} {k : Nat} (h : ∀ x ∈ l, f x ≤ k) : (l.map f).sum ≤ l.length * k := by
  induction l with
  | nil => simp
  | cons x l ih =>
    rw [List.map_cons, List.sum_cons, List.length_cons, Nat.succ_mul]
    have := h x List.mem_cons_self
    have := ih fun y hy => h y (List.mem_cons_of_mem _ hy)
    omega
theorem bOf_st {W : Wd} (ok : WOk W) (sc : Int) : (stepsOf W sc).length ≤ bOf W := by
  unfold stepsOf
  split
  · rename_i s hs
    obtain ⟨h1, h2⟩ := ok.st s (List.mem_of_getElem? hs)
    unfold bOf
    split
    · exact h1
    · exact h2 (by omega)
  · exact Nat.zero_le _
theorem pot_kids {W : Wd} (ok : WOk W) {b : Beg} (h : BegOk W b) : ((kids W b).map (pot W)).sum + 1 ≤ pot W b := by
  have hl := nodup_rng W.ss.length (been b) h.nd h.rng
  have hbl : (been b).length = b.1.length + 1 := by unfold been; simp
  rw [hbl] at hl
  have hk := kids_len W b
  have hb := bOf_st ok b.2.1
  cases e : W.ss.length - 1 - b.1.length with
  | zero =>
    have hnil : kids W b = [] := by
      refine List.eq_nil_iff_forall_not_mem.mpr fun c hc => ?_
      have hc' := h.kid ok hc
      have := nodup_rng W.ss.length (been c) hc'.nd hc'.rng
      obtain ⟨r, hr, _, _, rfl⟩ := mem_kids.mp hc
      rw [been_kid hr, List.length_append, hbl, List.length_singleton] at this
      omega
    rw [hnil]
    exact capR_pos _ _
  | succ r =>
    have hs : ((kids W b).map (pot W)).sum ≤ (kids W b).length * capR (bOf W) r := List_sum_le fun c hc => by
      obtain ⟨g, hg, _, _, rfl⟩ := mem_kids.mp hc
      unfold pot
      dsimp only
      rw [List.length_append, List.length_singleton, show W.ss.length - 1 - (b.1.length + 1) = r by omega]
      exact Nat.le_refl _
    have hm : (kids W b).length * capR (bOf W) r ≤ bOf W * capR (bOf W) r := Nat.mul_le_mul_right _ (by omega)
    unfold pot at hs ⊢
    rw [e]
    show _ ≤ 1 + bOf W * capR (bOf W) r
    omega
structure Bfs (W : Wd) (sc st : Int) (F : List Beg) (p : Nat) : Prop where
  root : ([], sc, st) ∈ F
  is : ∀ b ∈ F, IsBeg W sc st b
  nd : F.Nodup
  done : ∀ (j : Nat) (b : Beg), j < p → F[j]? = some b → ∀ c ∈ kids W b, c ∈ F
  src : ∀ c ∈ F, c = ([], sc, st) ∨ ∃ (j : Nat) (b : Beg), j < p ∧ F[j]? = some b ∧ c ∈ kids W b
  le : p ≤ F.length
  pt : p + ((F.drop p).map (pot W)).sum ≤ capR (bOf W) (W.ss.length - 1)
theorem Bfs.start (W : Wd) (sc st : Int) : Bfs W sc st [([], sc, st)] 0 where
  root := List.mem_cons_self
  is b hb := by rw [List.mem_singleton.mp hb]; exact .root
  nd := by simp
  done j b hj := by omega
  src c hc := .inl (List.mem_singleton.mp hc)
  le := Nat.zero_le _
  pt := by
    show 0 + (pot W ([], sc, st) + 0) ≤ _
    unfold pot
    simp
theorem Bfs.turn {W : Wd} (ok : WOk W) {sc st : Int} (hsc : 0 ≤ sc ∧ sc < W.ss.length) (hst : 0 ≤ st ∧ st < W.sts.length) {F : List Beg} {p : Nat} {b : Beg} (h : Bfs W sc st F p) (hb : F[p]? = some b) : Bfs W sc st (F ++ kids W b) (p + 1) := by
  have hpl : p < F.length := (List.getElem?_eq_some_iff.mp hb).1
  have hbF := List.mem_of_getElem? hb
  have ib := h.is b hbF
  have at_ : ∀ (j : Nat), j < F.length → (F ++ kids W b)[j]? = F[j]? := fun j hj => List.getElem?_append_left hj
  have one : ∀ (j : Nat) (c : Beg), j < p + 1 → (F ++ kids W b)[j]? = some c → (j < p ∧ F[j]? = some c) ∨ c = b := fun j c hj e => by
    rw [at_ j (by omega)] at e
    by_cases hjp : j < p
    · exact .inl ⟨hjp, e⟩
    · have : j = p := by omega
      subst this
      rw [hb] at e
      exact .inr (Option.some.inj e).symm
  refine ⟨List.mem_append_left _ h.root, fun c hc => ?_, ?_, fun j c hj e d hd => ?_, fun c hc => ?_, by rw [List.length_append]; omega, ?_⟩
  · rcases List.mem_append.mp hc with hc | hc
    · exact h.is c hc
    · exact .kid ib hc
  · refine List.nodup_append.mpr ⟨h.nd, kids_nd W b, fun c hc d hd e => ?_⟩
    subst e
    obtain ⟨r, hr, _, _, ec⟩ := mem_kids.mp hd
    rcases h.src c hc with e0 | ⟨j, b', hj, hb', hk⟩
    · rw [e0] at ec
      have := congrArg Prod.fst ec
      simp at this
    · obtain ⟨r', hr', _, _, ec'⟩ := mem_kids.mp hk
      have e1 : b'.1 = b.1 := by
        have := congrArg Prod.fst (ec'.symm.trans ec)
        simp only at this
        exact (List.append_inj' this rfl).1
      have e2 := (h.is b' (List.mem_of_getElem? hb')).uniq ib e1
      subst e2
      obtain ⟨q1, g1⟩ := List.getElem?_eq_some_iff.mp hb'
      obtain ⟨q2, g2⟩ := List.getElem?_eq_some_iff.mp hb
      have := (List.getElem_inj h.nd).mp (g1.trans g2.symm)
      omega
  · rcases one j c hj e with ⟨hj', e'⟩ | rfl
    · exact List.mem_append_left _ (h.done j c hj' e' d hd)
    · exact List.mem_append_right _ hd
  · rcases List.mem_append.mp hc with hc | hc
    · rcases h.src c hc with e0 | ⟨j, b', hj, hb', hk⟩
      · exact .inl e0
      · exact .inr ⟨j, b', by omega, by rw [at_ j (by omega)]; exact hb', hk⟩
    · exact .inr ⟨p, b, by omega, by rw [at_ p hpl]; exact hb, hc⟩
  · have hd : F.drop p = b :: F.drop (p + 1) := by
      obtain ⟨q, g⟩ := List.getElem?_eq_some_iff.mp hb
      rw [← g]
      exact List.drop_eq_getElem_cons hpl
    have h1 := h.pt
    rw [hd, List.map_cons, List.sum_cons] at h1
    rw [List.drop_append_of_le_length (by omega), List.map_append, List.sum_append]
    have := pot_kids ok (ib.ok ok hsc hst)
    omega
theorem Bfs.few {W : Wd} {sc st : Int} {F : List Beg} {p : Nat} (h : Bfs W sc st F p) : F.length ≤ capR (bOf W) (W.ss.length - 1) := by
  have h1 := h.pt
  have h2 : (F.drop p).length ≤ ((F.drop p).map (pot W)).sum := by
    generalize F.drop p = l
    induction l with
    | nil => simp
    | cons x l ih =>
      rw [List.length_cons, List.map_cons, List.sum_cons]
      have := capR_pos (bOf W) (W.ss.length - 1 - x.1.length)
      unfold pot at ih ⊢
      omega
  rw [List.length_drop] at h2
  have := h.le
  omega
theorem cap_few {W : Wd} (ok : WOk W) : capR (bOf W) (W.ss.length - 1) ≤ 31 ∧ (4 ≤ W.ss.length → True) := by
  have h := ok.s5
  refine ⟨?_, fun _ => trivial⟩
  unfold bOf
  rcases (show W.ss.length = 0 ∨ W.ss.length = 1 ∨ W.ss.length = 2 ∨ W.ss.length = 3 ∨ W.ss.length = 4 ∨ W.ss.length = 5 by omega) with e | e | e | e | e | e <;> rw [e] <;> decide
theorem cap_two {W : Wd} (ok : WOk W) {k : Nat} (h3 : k ≤ 3) (h2 : 5 ≤ W.ss.length → k ≤ 2) : capR (bOf W) (W.ss.length - 1) * k ≤ 62 := by
  have h := ok.s5
  unfold bOf
  have hk : k = 0 ∨ k = 1 ∨ k = 2 ∨ (k = 3 ∧ W.ss.length < 5) := by omega
  rcases (show W.ss.length = 0 ∨ W.ss.length = 1 ∨ W.ss.length = 2 ∨ W.ss.length = 3 ∨ W.ss.length = 4 ∨ W.ss.length = 5 by omega) with e | e | e | e | e | e <;> rw [e] at hk ⊢ <;> rcases hk with rfl | rfl | rfl | ⟨rfl, hk⟩ <;> first | omega | decide
abbrev mkE : Enc := tripE intE strE intE
abbrev begE : Enc := tripE (listE mkE) intE intE
structure Begs (W : Wd) (sc st : Int) (bs : List Beg) : Prop where
  mem : ∀ b, b ∈ bs ↔ IsBeg W sc st b
  nd : bs.Nodup
  srt : bs.Pairwise begE.O.kle
  few : bs.length ≤ capR (bOf W) (W.ss.length - 1)
theorem Begs.uniq {W : Wd} {sc st : Int} {l m : List Beg} (h : Begs W sc st l) (k : Begs W sc st m) : l = m :=
  srt_uniq (O := begE.O) ((List.perm_ext_iff_of_nodup h.nd k.nd).mpr fun b => (h.mem b).trans (k.mem b).symm) h.srt k.srt
theorem Bfs.all {W : Wd} {sc st : Int} {F l : List Beg} (h : Bfs W sc st F F.length) (hp : l.Perm F) (hs : l.Pairwise begE.O.kle) : Begs W sc st l := by
  refine ⟨fun b => ?_, hp.nodup_iff.mpr h.nd, hs, by rw [hp.length_eq]; exact h.few⟩
  rw [hp.mem_iff]
  refine ⟨h.is b, fun hb => ?_⟩
  induction hb with
  | root => exact h.root
  | kid _ k ih =>
    obtain ⟨j, hj⟩ := List.getElem?_of_mem ih
    exact h.done j _ (List.getElem?_eq_some_iff.mp hj).1 hj _ k
def BgH (F : Addr → Prop) (H : Hp) (t : Addr) (b : Beg) : Prop := ∃ (l : Addr) (ms : List Addr), H t = some (.tup [.ref l, .int b.2.1, .int b.2.2]) ∧ H l = some (.lst (ms.map V.ref)) ∧ RT mkV H ms b.1 ∧ F l
theorem BgH.same {F : Addr → Prop} {H H' : Hp} {t : Addr} {b : Beg} (e : Same H H') (h : BgH F H t b) : BgH F H' t b := by
  obtain ⟨l, ms, a1, a2, a3, a4⟩ := h
  exact ⟨l, ms, e _ _ a1, e _ _ a2, a3.same e, a4⟩
theorem BgH.mono {F G : Addr → Prop} {H : Hp} {t : Addr} {b : Beg} (e : ∀ x, F x → G x) (h : BgH F H t b) : BgH G H t b := by
  obtain ⟨l, ms, a1, a2, a3, a4⟩ := h
  exact ⟨l, ms, a1, a2, a3, e _ a4⟩
theorem BgH.keeps {M F : Addr → Prop} {H H' : Hp} {t : Addr} {b : Beg} (k : Keeps M H H') (hF : ∀ x, F x → ¬ M x) (h : BgH F H t b) : BgH F H' t b := by
  obtain ⟨l, ms, a1, a2, a3, a4⟩ := h
  exact ⟨l, ms, k.tup a1, k.at_ _ _ a2 (hF _ a4), a3.keeps k, a4⟩
abbrev mkD (m : Mrk) : Dt := .tup [.int m.1, .str m.2.1, .int m.2.2]
theorem mk_dt {K : PySem.W.Frag} {H : Hp} (r : Mrk) (t : Addr) (h : H t = some (.tup (mkV r))) : IsDt K H (.ref t) (mkD r) := .tup (SqT.of h) (.cons (.int _) (.cons (.str _) (.cons (.int _) .nil)))
theorem BgH.dt {K : PySem.W.Frag} {F : Addr → Prop} {H : Hp} {t : Addr} {b : Beg} (h : BgH F H t b) : IsDt K H (.ref t) (begE.D b) := by
  obtain ⟨l, ms, a1, a2, a3, a4⟩ := h
  exact .tup (SqT.of a1) (.cons (.lst (SqL.of a2) (a3.dts mk_dt)) (.cons (.int _) (.cons (.int _) .nil)))
def GnH (H : Hp) (t : Addr) (r : Gn) : Prop := ∃ m, H t = some (.tup [.ref m, .str r.2.1.1, .int r.2.1.2, .int r.2.2]) ∧ H m = some (.tup (mkV r.1))
theorem GnH.same {H H' : Hp} {t : Addr} {r : Gn} (e : Same H H') (h : GnH H t r) : GnH H' t r := by
  obtain ⟨m, a1, a2⟩ := h
  exact ⟨m, e _ _ a1, e _ _ a2⟩
theorem GnH.keeps {M : Addr → Prop} {H H' : Hp} {t : Addr} {r : Gn} (k : Keeps M H H') (h : GnH H t r) : GnH H' t r := by
  obtain ⟨m, a1, a2⟩ := h
  exact ⟨m, k.tup a1, k.tup a2⟩
structure CaseH (K : PySem.W.Frag) (H : Hp) (nt A t : Addr) (W : Wd) : Prop where
  net : ∃ (S T R : Addr) (us Gs Es ts qt : List Addr) (qs : List Qu), H nt = some (.tup [.ref S, .ref T, .ref R]) ∧ Net3 H S T R us Gs Es ts qt W.ss W.gs qs
  ans : Ans K H A W.as
  tab : ∃ (a o : Addr) (inn : V), SqT K H t [.ref a, inn, .ref o] ∧ Stts K H a W.sts
theorem CaseH.same {K : PySem.W.Frag} {H H' : Hp} {nt A t : Addr} {W : Wd} (e : Same H H') (h : CaseH K H nt A t W) : CaseH K H' nt A t W := by
  obtain ⟨S, T, R, us, Gs, Es, ts, qt, qs, a1, a2⟩ := h.net
  obtain ⟨a, o, inn, b1, vs, b2, b3⟩ := h.tab
  exact ⟨⟨S, T, R, us, Gs, Es, ts, qt, qs, e _ _ a1, a2.same e⟩, h.ans.same e, ⟨a, o, inn, e.seqT b1, vs, e.seq b2, b3.same e⟩⟩
theorem BgH.mono' {F G : Addr → Prop} {H : Hp} {t : Addr} {b : Beg} (e : ∀ x o, H x = some o → F x → G x) (h : BgH F H t b) : BgH G H t b := by
  obtain ⟨l, ms, a1, a2, a3, a4⟩ := h
  exact ⟨l, ms, a1, a2, a3, e _ _ a2 a4⟩
structure LayW (g q : Nat) (ls ws : List Str) (ss : List Sco) : Prop where
  st : ∀ s ∈ ss, s.1.length ≤ 3 ∧ (4 ≤ ss.length → s.1.length ≤ 2)
  tl : ∀ s ∈ ss, s.2.length ≤ 3 ∧ (5 ≤ ss.length → s.2.length ≤ 2)
  kst : ∀ s ∈ ss, ∀ p ∈ s.1, p.1 ∈ ls ∧ stOk ss.length q p
  ktl : ∀ s ∈ ss, ∀ p ∈ s.2, p.1 ∈ ls ∧ p.2.1 ∈ ws ∧ tlOk g q p
theorem LayW.step {g q : Nat} {ls ws : List Str} {ss : List Sco} (h : LayW g q ls ws ss) {i : Nat} (hi : i < ss.length) {p : Stp} (h1 : p.1 ∈ ls) (hp : stOk ss.length q p) (h3 : ss[i].1.length < 3) (h2 : 4 ≤ ss.length → ss[i].1.length < 2) : LayW g q ls ws (ss.set i (ss[i].1 ++ [p], ss[i].2)) := by
  refine ⟨fun s hs => ?_, fun s hs => ?_, fun s hs => ?_, fun s hs => ?_⟩ <;> try rw [List.length_set]
  all_goals rcases List.mem_or_eq_of_mem_set hs with hs | rfl
  · exact h.st s hs
  · show (ss[i].1 ++ [p]).length ≤ 3 ∧ (_ → (ss[i].1 ++ [p]).length ≤ 2)
    rw [List.length_append, List.length_singleton]
    exact ⟨by omega, fun z => by have := h2 z; omega⟩
  · exact h.tl s hs
  · exact h.tl ss[i] (List.getElem_mem hi)
  · exact h.kst s hs
  · intro x hx
    rcases List.mem_append.mp hx with hx | hx
    · exact h.kst _ (List.getElem_mem hi) x hx
    · rw [List.mem_singleton.mp hx]; exact ⟨h1, hp⟩
  · exact h.ktl s hs
  · exact h.ktl ss[i] (List.getElem_mem hi)
theorem LayW.tell {g q : Nat} {ls ws : List Str} {ss : List Sco} (h : LayW g q ls ws ss) {i : Nat} (hi : i < ss.length) {p : Tlg} (h1 : p.1 ∈ ls) (h0 : p.2.1 ∈ ws) (hp : tlOk g q p) (h3 : ss[i].2.length < 3) (h2 : 5 ≤ ss.length → ss[i].2.length < 2) : LayW g q ls ws (ss.set i (ss[i].1, ss[i].2 ++ [p])) := by
  refine ⟨fun s hs => ?_, fun s hs => ?_, fun s hs => ?_, fun s hs => ?_⟩ <;> try rw [List.length_set]
  all_goals rcases List.mem_or_eq_of_mem_set hs with hs | rfl
  · exact h.st s hs
  · exact h.st ss[i] (List.getElem_mem hi)
  · exact h.tl s hs
  · show (ss[i].2 ++ [p]).length ≤ 3 ∧ (_ → (ss[i].2 ++ [p]).length ≤ 2)
    rw [List.length_append, List.length_singleton]
    exact ⟨by omega, fun z => by have := h2 z; omega⟩
  · exact h.kst s hs
  · exact h.kst ss[i] (List.getElem_mem hi)
  · exact h.ktl s hs
  · intro x hx
    rcases List.mem_append.mp hx with hx | hx
    · exact h.ktl _ (List.getElem_mem hi) x hx
    · rw [List.mem_singleton.mp hx]; exact ⟨h1, h0, hp⟩
structure CaseOk (W : Wd) (qs : List Qu) (ls ws : List Str) : Prop where
  ok : WOk W
  lay : LayW W.gs.length W.as.length ls ws W.ss
  one : 1 ≤ W.ss.length
  lq : qs.length = W.as.length
  q5 : 1 ≤ qs.length ∧ qs.length ≤ 5
  g6 : 1 ≤ W.gs.length ∧ W.gs.length ≤ 6
  q : ∀ q ∈ qs, (0 ≤ q.1 ∧ q.1 < W.ss.length) ∧ (0 ≤ q.2.1 ∧ q.2.1 < W.sts.length) ∧ 1 ≤ q.2.2.length ∧ q.2.2.length ≤ 3 ∧ ∀ x ∈ q.2.2, x ∈ ws
theorem strs_ix {ws : List Str} {i : Int} (h0 : 0 ≤ i) (h1 : i < ws.length) : ∃ x ∈ ws, atI (ws.map V.str) i = some (.str x) := by
  obtain ⟨n, rfl⟩ := Int.eq_ofNat_of_zero_le h0
  have hn : n < ws.length := by omega
  exact ⟨ws[n], List.getElem_mem hn, atI_nat (by rw [List.getElem?_map, List.getElem?_eq_getElem hn]; rfl)⟩
theorem ints_at {xs : List Int} {i : Int} (h0 : 0 ≤ i) (h1 : i < xs.length) : ∃ v, atI (xs.map V.int) i = some (.int v) := by
  obtain ⟨n, rfl⟩ := Int.eq_ofNat_of_zero_le h0
  have hn : n < xs.length := by omega
  exact ⟨xs[n], atI_nat (by rw [List.getElem?_map, List.getElem?_eq_getElem hn]; rfl)⟩
theorem pairs_rows {H : Hp} : ∀ {ts : List Addr} {ps : List (Str × Str)}, Tups H ts ps → ∃ zs : List (Row strC strC), zs.map (·.1) = ts.map V.ref ∧ zs.map (·.2) = ps ∧ ∀ z ∈ zs, ∃ t, z.1 = .ref t ∧ H t = some (.tup [.str z.2.1, .str z.2.2])
  | [], [], _ => ⟨[], rfl, rfl, fun z hz => by cases hz⟩
  | [], _ :: _, h => by have := h.len; simp at this
  | _ :: _, [], h => by have := h.len; simp at this
  | a :: ts, p :: ps, h => by
    obtain ⟨zs, h1, h2, h3⟩ := pairs_rows (ts := ts) (ps := ps) ⟨by simpa using h.len, fun n t p a1 a2 => h.at_ (n + 1) t p (by simpa using a1) (by simpa using a2)⟩
    refine ⟨(V.ref a, p) :: zs, by rw [List.map_cons, h1]; rfl, by rw [List.map_cons, h2], fun z hz => ?_⟩
    rcases List.mem_cons.mp hz with e | hz
    · rw [e]; exact ⟨a, rfl, h.at_ 0 a p rfl rfl⟩
    · exact h3 z hz
theorem rows_pairs {H : Hp} : ∀ {zs : List (Row strC strC)}, (∀ z ∈ zs, ∃ t, z.1 = .ref t ∧ H t = some (.tup [.str z.2.1, .str z.2.2])) → ∃ ts : List Addr, zs.map (·.1) = ts.map V.ref ∧ Tups H ts (zs.map (·.2))
  | [], _ => ⟨[], rfl, Tups.nil⟩
  | z :: zs, h => by
    obtain ⟨ts, h1, h2⟩ := rows_pairs (zs := zs) fun y hy => h y (List.mem_cons_of_mem _ hy)
    obtain ⟨t, e, et⟩ := h z List.mem_cons_self
    refine ⟨t :: ts, by rw [List.map_cons, h1, e]; rfl, by simp [h2.len], fun n u p a1 a2 => ?_⟩
    cases n with
    | zero => simp at a1 a2; subst a1; subst a2; exact et
    | succ n => exact h2.at_ n u p (by simpa using a1) (by simpa using a2)
structure TabOk (sts : List Stt) (inn : Int) (ord : List (Str × Str)) : Prop where
  n : 1 ≤ sts.length ∧ sts.length ≤ 4
  go : ∀ s ∈ sts, ∀ p ∈ s.1, 0 ≤ p.2 ∧ p.2 < sts.length
  inn : 0 ≤ inn ∧ inn < sts.length
  few : ∀ s ∈ sts, s.1.length ≤ 8 ∧ s.2.length ≤ 8
  ol : ord.length ≤ 40
structure CaseL (K : PySem.W.Frag) (H0 H : Hp) (nt t A WW : Addr) (W : Wd) (qs : List Qu) (inn : Int) (ord : List (Str × Str)) (ls ws : List Str) : Prop where
  net : ∃ (S T R : Addr) (us Gs Es ts qt : List Addr), H nt = some (.tup [.ref S, .ref T, .ref R]) ∧ Net3 H S T R us Gs Es ts qt W.ss W.gs qs ∧ ∀ x ∈ S :: T :: R :: (Gs ++ Es), x ≠ A ∧ H0 x = none
  tab : Tab K (fun x => H0 x = none ∧ x ≠ A) H t W.sts inn ord
  ans : ∃ avs, H A = some (.lst avs) ∧ IsDts K H avs (W.as.map ansD)
  wds : H WW = some (.lst (ws.map V.str))
  nWA : WW ≠ A
  fA : H0 A = none
  ok : CaseOk W qs ls ws
  tok : TabOk W.sts inn ord
  w9 : ws.length = 9
theorem CaseL.same {K : PySem.W.Frag} {H0 H H' : Hp} {nt t A WW : Addr} {W : Wd} {qs : List Qu} {inn : Int} {ord : List (Str × Str)} {ls ws : List Str} (e : Same H H') (h : CaseL K H0 H nt t A WW W qs inn ord ls ws) : CaseL K H0 H' nt t A WW W qs inn ord ls ws := by
  obtain ⟨⟨S, T, R, us, Gs, Es, ts, qt, a1, a2, a3⟩, b, ⟨avs, c1, c2⟩, d, f1, f2, f3, f4, f5⟩ := h
  exact ⟨⟨S, T, R, us, Gs, Es, ts, qt, e _ _ a1, a2.same e, a3⟩, b.same e, ⟨avs, e _ _ c1, c2.same e⟩, e _ _ d, f1, f2, f3, f4, f5⟩
theorem Tab.caseT {K : PySem.W.Frag} {F : Addr → Prop} {H : Hp} {t : Addr} {rs : List Stt} {n : Int} {ord : List (Str × Str)} (h : Tab K F H t rs n ord) : ∃ (a o : Addr) (inn : V), SqT K H t [.ref a, inn, .ref o] ∧ Stts K H a rs := by
  obtain ⟨a, o, us, ts, h1, _, _, _, h5, h6, _⟩ := h.ex
  exact ⟨a, o, _, SqT.of h1, h6.stts h5⟩
theorem CaseL.caseH {K : PySem.W.Frag} {H0 H : Hp} {nt t A WW : Addr} {W : Wd} {qs : List Qu} {inn : Int} {ord : List (Str × Str)} {ls ws : List Str} (h : CaseL K H0 H nt t A WW W qs inn ord ls ws) : CaseH K H nt A t W := by
  obtain ⟨S, T, R, us, Gs, Es, ts, qt, a1, a2, _⟩ := h.net
  obtain ⟨avs, c1, c2⟩ := h.ans
  exact ⟨⟨S, T, R, us, Gs, Es, ts, qt, qs, a1, a2⟩, ⟨avs, SqL.of c1, c2⟩, h.tab.caseT⟩
theorem Tab.alive {K : PySem.W.Frag} {F : Addr → Prop} {H : Hp} {t : Addr} {rs : List Stt} {n : Int} {ord : List (Str × Str)} (h : Tab K F H t rs n ord) : Tab K (fun x => F x ∧ ∃ o, H x = some o) H t rs n ord := by
  obtain ⟨a, o, us, ts, h1, h2, h3, h4, h5, h6, h7, h8⟩ := h.ex
  exact ⟨a, o, us, ts, h1, ⟨h2, _, h5⟩, ⟨h3, _, h7⟩, h4, h5, h6.alive, h7, h8⟩
theorem ints_in {x : Int} {l : List Int} : Dt.int x ∈ l.map Dt.int ↔ x ∈ l := ⟨fun h => by
  obtain ⟨y, hy, z⟩ := List.mem_map.mp h
  rw [← Dt.int.inj z]; exact hy, fun h => List.mem_map.mpr ⟨x, h, rfl⟩⟩
theorem ints_dts {K : PySem.W.Frag} {H : Hp} : ∀ (l : List Int), IsDts K H (l.map V.int) (l.map Dt.int)
  | [] => .nil
  | x :: l => .cons (.int x) (ints_dts l)
theorem IsBeg.next {W : Wd} {sc st : Int} {b : Beg} (h : IsBeg W sc st b) : ∀ {i : Nat}, i < b.1.length → ∃ (c : Beg) (r : Gn), IsBeg W sc st c ∧ c.1 = b.1.take i ∧ r ∈ goneAt W c.2.1 c.2.2 ∧ r.2.1.1 = ("to" : Str) ∧ r.2.1.2 ∉ been c ∧ b.1[i]? = some r.1 ∧ b.1.take (i + 1) = c.1 ++ [r.1] := by
  induction h with
  | root => intro i hi; simp at hi
  | @kid b0 b1 h0 k ih =>
    intro i hi
    obtain ⟨r, hr, h1, h2, rfl⟩ := mem_kids.mp k
    rw [List.length_append, List.length_singleton] at hi
    by_cases hlt : i < b0.1.length
    · obtain ⟨c, r', a1, a2, a3, a4, a5, a6, a7⟩ := ih hlt
      refine ⟨c, r', a1, ?_, a3, a4, a5, ?_, ?_⟩
      · show c.1 = (b0.1 ++ [r.1]).take i
        rw [List.take_append_of_le_length (by omega)]; exact a2
      · show (b0.1 ++ [r.1])[i]? = some r'.1
        rw [List.getElem?_append_left hlt]; exact a6
      · show (b0.1 ++ [r.1]).take (i + 1) = _
        rw [List.take_append_of_le_length (by omega)]; exact a7
    · have e : i = b0.1.length := by omega
      subst e
      refine ⟨b0, r, h0, ?_, hr, h1, h2, ?_, ?_⟩
      · show b0.1 = (b0.1 ++ [r.1]).take b0.1.length
        simp
      · show (b0.1 ++ [r.1])[b0.1.length]? = _
        simp
      · show (b0.1 ++ [r.1]).take (b0.1.length + 1) = _
        rw [List.take_of_length_le (by simp)]
theorem atI_lastS {α : Type} (xs : List α) (x : α) : atI (xs ++ [x]) (-1) = some x := by
  have e : ixN (xs ++ [x]).length (-1) = some xs.length := by
    unfold ixN
    rw [if_neg (by decide), if_pos (by rw [List.length_append, List.length_singleton]; omega), List.length_append, List.length_singleton]
    congr 1
    omega
  unfold atI
  rw [e]
  show (xs ++ [x])[xs.length]? = some x
  simp
theorem been_last (b : Beg) : atI ((been b).map V.int) (-1) = some (.int b.2.1) := by
  unfold been
  rw [List.map_append]
  exact atI_lastS _ _
abbrev tabDt (sts : List Stt) (inn : Int) (ord : List (Str × Str)) : Dt := .tup [.lst (sts.map stD), .int inn, .lst (ord.map prD)]
theorem cmp_stt (s r : Stt) : Cmp 4 (stD s) (stD r) := by
  refine .tup (.cons (.lst (Cmps.of fun d hd e he => ?_)) (.cons (.lst (Cmps.of fun d hd e he => ?_)) (.nil _)))
  · obtain ⟨p, _, rfl⟩ := List.mem_map.mp hd
    obtain ⟨q, _, rfl⟩ := List.mem_map.mp he
    exact cmp_go p q
  · obtain ⟨p, _, rfl⟩ := List.mem_map.mp hd
    obtain ⟨q, _, rfl⟩ := List.mem_map.mp he
    exact .str _ _
theorem cmp_tabDt (s r : List Stt) (m n : Int) (o u : List (Str × Str)) : Cmp 6 (tabDt s m o) (tabDt r n u) := by
  refine .tup (.cons (.lst (Cmps.of fun d hd e he => ?_)) (.cons (.int _ _) (.cons (.lst (Cmps.of fun d hd e he => ?_)) (.nil _))))
  · obtain ⟨p, _, rfl⟩ := List.mem_map.mp hd
    obtain ⟨q, _, rfl⟩ := List.mem_map.mp he
    exact cmp_stt p q
  · obtain ⟨p, _, rfl⟩ := List.mem_map.mp hd
    obtain ⟨q, _, rfl⟩ := List.mem_map.mp he
    exact .tup (.cons (.str _ _) (.cons (.str _ _) (.nil _)))
theorem Tab.dt {K : PySem.W.Frag} {F : Addr → Prop} {H : Hp} {t : Addr} {sts : List Stt} {inn : Int} {ord : List (Str × Str)} (h : Tab K F H t sts inn ord) : IsDt K H (.ref t) (tabDt sts inn ord) := by
  obtain ⟨a, o, us, ts, et, _, _, _, ea, SR, eo, TO⟩ := h.ex
  exact .tup (SqT.of et) (.cons (.lst (SqL.of ea) SR.dts) (.cons (.int _) (.cons (.lst (SqL.of eo) TO.dts) .nil)))
theorem cmp_ansD (x y : Option (Str × Int)) : Cmp 2 (ansD x) (ansD y) := by
  cases x with
  | none => cases y with
    | none => exact .non
    | some q => exact .apart rfl
  | some p => cases y with
    | none => exact .apart rfl
    | some q => exact cmp_go p q
theorem cmp_ansL (l m : List (Option (Str × Int))) : Cmp 3 (Dt.lst (l.map ansD)) (Dt.lst (m.map ansD)) := .lst (Cmps.of fun d hd e he => by
  obtain ⟨q1, _, rfl⟩ := List.mem_map.mp hd
  obtain ⟨q2, _, rfl⟩ := List.mem_map.mp he
  exact cmp_ansD q1 q2)
end L2
namespace L2
open PySem PySem.Spec PyProof.Rows Ord
abbrev wayE : Enc := listE mkE
def tellsOf (W : Wd) (sc : Int) : List Tlg := match W.ss[sc.toNat]? with
  | some s => s.2
  | none => []
def endsOf (W : Wd) (st : Int) : List Str := match W.sts[st.toNat]? with
  | some s => s.2
  | none => []
def told1 (W : Wd) (b : Beg) (x : Str) (q : Tlg) (i : Nat) : List (List Mrk) := if q.2.1 = x ∧ q.1 ∈ endsOf W b.2.2 then [b.1 ++ [(b.2.1, ("told" : Str), (i : Int))]] else []
def told0 (W : Wd) (b : Beg) (x : Str) : List Tlg → Nat → List (List Mrk)
  | [], _ => []
  | q :: r, i => told1 W b x q i ++ told0 W b x r (i + 1)
def foundOf (W : Wd) (x : Str) (bs : List Beg) : List (List Mrk) := bs.flatMap fun b => told0 W b x (tellsOf W b.2.1) 0
theorem told0_snoc (W : Wd) (b : Beg) (x : Str) (q : Tlg) : ∀ (l : List Tlg) (i : Nat), told0 W b x (l ++ [q]) i = told0 W b x l i ++ told1 W b x q (i + l.length)
  | [], i => by simp [told0]
  | p :: l, i => by
    show told1 W b x p i ++ told0 W b x (l ++ [q]) (i + 1) = (told1 W b x p i ++ told0 W b x l (i + 1)) ++ _
    rw [told0_snoc W b x q l (i + 1), List.append_assoc, List.length_cons, show i + 1 + l.length = i + (l.length + 1) by omega]
theorem told0_len (W : Wd) (b : Beg) (x : Str) : ∀ (l : List Tlg) (i : Nat), (told0 W b x l i).length ≤ l.length
  | [], i => Nat.le_refl _
  | q :: l, i => by
    show (told1 W b x q i ++ told0 W b x l (i + 1)).length ≤ _
    have h1 : (told1 W b x q i).length ≤ 1 := by unfold told1; split <;> simp
    have h2 := told0_len W b x l (i + 1)
    rw [List.length_append, List.length_cons]
    omega
theorem mem_told0 {W : Wd} {b : Beg} {x : Str} {w : List Mrk} : ∀ {l : List Tlg} {i : Nat}, w ∈ told0 W b x l i → ∃ (j : Nat) (q : Tlg), l[j]? = some q ∧ q.2.1 = x ∧ q.1 ∈ endsOf W b.2.2 ∧ w = b.1 ++ [(b.2.1, ("told" : Str), ((i + j : Nat) : Int))]
  | [], i, h => by cases h
  | q :: l, i, h => by
    rcases List.mem_append.mp (show w ∈ told1 W b x q i ++ told0 W b x l (i + 1) from h) with h | h
    · unfold told1 at h
      split at h
      · rename_i hq
        exact ⟨0, q, rfl, hq.1, hq.2, List.mem_singleton.mp h⟩
      · cases h
    · obtain ⟨j, q', h1, h2, h3, h4⟩ := mem_told0 h
      exact ⟨j + 1, q', by simpa using h1, h2, h3, by rw [h4, show i + 1 + j = i + (j + 1) by omega]⟩
theorem found_mem {W : Wd} {x : Str} {bs : List Beg} {w : List Mrk} (h : w ∈ foundOf W x bs) : ∃ b ∈ bs, ∃ (j : Nat) (q : Tlg), (tellsOf W b.2.1)[j]? = some q ∧ q.2.1 = x ∧ q.1 ∈ endsOf W b.2.2 ∧ w = b.1 ++ [(b.2.1, ("told" : Str), (j : Int))] := by
  obtain ⟨b, hb, hw⟩ := List.mem_flatMap.mp h
  obtain ⟨j, q, h1, h2, h3, h4⟩ := mem_told0 hw
  exact ⟨b, hb, j, q, h1, h2, h3, by rw [h4, Nat.zero_add]⟩
def tMost (W : Wd) : Nat := if W.ss.length < 5 then 3 else 2
theorem tells_len {W : Wd} (ok : WOk W) (sc : Int) : (tellsOf W sc).length ≤ tMost W := by
  unfold tellsOf
  split
  · rename_i s hs
    obtain ⟨h1, h2⟩ := ok.tl s (List.mem_of_getElem? hs)
    unfold tMost
    split
    · exact h1
    · exact h2 (by omega)
  · exact Nat.zero_le _
theorem flat_len {α : Type} {f : Beg → List α} {k : Nat} : ∀ (bs : List Beg), (∀ b, (f b).length ≤ k) → (bs.flatMap f).length ≤ bs.length * k
  | [], _ => by simp
  | b :: bs, h => by
    rw [List.flatMap_cons, List.length_append, List.length_cons, Nat.succ_mul]
    have := h b
    have := flat_len bs h
    omega
theorem found_len {W : Wd} (ok : WOk W) {x : Str} {bs : List Beg} (h : bs.length ≤ capR (bOf W) (W.ss.length - 1)) : (foundOf W x bs).length ≤ 62 := by
  have h1 := flat_len (k := tMost W) bs fun b => Nat.le_trans (told0_len W b x (tellsOf W b.2.1) 0) (tells_len ok b.2.1)
  have h2 : bs.length * tMost W ≤ capR (bOf W) (W.ss.length - 1) * tMost W := Nat.mul_le_mul_right _ h
  have h3 := cap_two ok (k := tMost W) (by unfold tMost; split <;> omega) (fun z => by unfold tMost; rw [if_neg (by omega)]; omega)
  unfold foundOf
  omega
structure Fnd (W : Wd) (x : Str) (bs : List Beg) (ws : List (List Mrk)) : Prop where
  perm : ws.Perm (foundOf W x bs)
  srt : ws.Pairwise wayE.O.kle
theorem Fnd.uniq {W : Wd} {x : Str} {bs : List Beg} {l m : List (List Mrk)} (h : Fnd W x bs l) (k : Fnd W x bs m) : l = m := srt_uniq (O := wayE.O) (h.perm.trans k.perm.symm) h.srt k.srt
def WyH (F : Addr → Prop) (H : Hp) (l : Addr) (w : List Mrk) : Prop := ∃ ms : List Addr, H l = some (.lst (ms.map V.ref)) ∧ RT mkV H ms w ∧ F l
theorem WyH.same {F : Addr → Prop} {H H' : Hp} {t : Addr} {b : List Mrk} (e : Same H H') (h : WyH F H t b) : WyH F H' t b := by
  obtain ⟨ms, a2, a3, a4⟩ := h
  exact ⟨ms, e _ _ a2, a3.same e, a4⟩
theorem WyH.mono' {F G : Addr → Prop} {H : Hp} {t : Addr} {b : List Mrk} (e : ∀ x o, H x = some o → F x → G x) (h : WyH F H t b) : WyH G H t b := by
  obtain ⟨ms, a2, a3, a4⟩ := h
  exact ⟨ms, a2, a3, e _ _ a2 a4⟩
theorem WyH.keeps {M F : Addr → Prop} {H H' : Hp} {t : Addr} {b : List Mrk} (k : Keeps M H H') (hF : ∀ x, F x → ¬ M x) (h : WyH F H t b) : WyH F H' t b := by
  obtain ⟨ms, a2, a3, a4⟩ := h
  exact ⟨ms, k.at_ _ _ a2 (hF _ a4), a3.keeps k, a4⟩
theorem WyH.dt {K : PySem.W.Frag} {F : Addr → Prop} {H : Hp} {t : Addr} {b : List Mrk} (h : WyH F H t b) : IsDt K H (.ref t) (wayE.D b) := by
  obtain ⟨ms, a2, a3, _⟩ := h
  exact .lst (SqL.of a2) (a3.dts mk_dt)
theorem ways_dts {K : PySem.W.Frag} {H : Hp} {F : Addr → Prop} : ∀ {zs : List (Addr × List Mrk)}, (∀ z ∈ zs, WyH F H z.1 z.2) → IsDts K H (zs.map fun z => V.ref z.1) ((zs.map (·.2)).map wayE.D)
  | [], _ => .nil
  | z :: zs, h => .cons (h z List.mem_cons_self).dt (ways_dts fun y hy => h y (List.mem_cons_of_mem _ hy))
theorem cmp_ways (l m : List (List Mrk)) : Cmp 4 (Dt.lst (l.map wayE.D)) (Dt.lst (m.map wayE.D)) := .lst (Cmps.of fun d hd e he => by
  obtain ⟨q1, _, rfl⟩ := List.mem_map.mp hd
  obtain ⟨q2, _, rfl⟩ := List.mem_map.mp he
  exact (wayE.cmp q1 q2).mono (by decide))
theorem rows_apart {c : Enc} {zs : List (Addr × c.O.α)} {zs' : List (RowE c)} (hp : zs'.Perm (zs.map fun z => ((V.ref z.1, z.2) : RowE c))) :
    ∃ ws : List (Addr × c.O.α), zs'.map (·.1) = (ws.map fun z => V.ref z.1) ∧ zs'.map (·.2) = ws.map (·.2) ∧ (ws.map (·.2)).Perm (zs.map (·.2)) ∧ ∀ z ∈ ws, z ∈ zs := by
  have : ∀ {l : List (RowE c)}, (∀ y ∈ l, y ∈ zs.map fun z => ((V.ref z.1, z.2) : RowE c)) → ∃ ws : List (Addr × c.O.α), l = ws.map fun z => (V.ref z.1, z.2) := by
    intro l
    induction l with
    | nil => exact fun _ => ⟨[], rfl⟩
    | cons y l ih =>
      intro h
      obtain ⟨ws, rfl⟩ := ih fun z hz => h z (List.mem_cons_of_mem _ hz)
      obtain ⟨z, _, rfl⟩ := List.mem_map.mp (h y List.mem_cons_self)
      exact ⟨z :: ws, rfl⟩
  obtain ⟨ws, rfl⟩ := this fun y hy => hp.mem_iff.mp hy
  refine ⟨ws, by rw [List.map_map]; rfl, by rw [List.map_map]; rfl, ?_, fun z hz' => ?_⟩
  · have := hp.map (·.2)
    rw [List.map_map, List.map_map] at this
    exact this
  · have := hp.mem_iff.mp (List.mem_map.mpr ⟨z, hz', rfl⟩)
    obtain ⟨y, hy, e⟩ := List.mem_map.mp this
    injection e with e1 e2
    have : y = z := Prod.ext (V.ref.inj e1) e2
    rw [← this]; exact hy
end L2
namespace L2
open PySem PySem.Spec PyProof.Rows Ord
theorem nx_sq {u : TS} {D : Ends} {σ : St} {H : Hp} (h : u D σ H) : tNext { D with nx := u D } σ H := h
end L2
theorem L2.new_at {H : L2.Hp} {a : PySem.Addr} {o : L2.HO} (h : H a = none) : ∃ H' : L2.Hp, H' = L2.upd H a o ∧ L2.Same H H' ∧ H' a = some o := ⟨_, rfl, L2.same_new h, L2.upd_same⟩
theorem L2.getm {α β : Type} {f : α → β} {l : List α} {i : Nat} {x : β} (h : (l.map f)[i]? = some x) : ∃ z, l[i]? = some z ∧ f z = x := by
  rw [List.getElem?_map] at h
  exact Option.map_eq_some_iff.mp h
namespace K23
open PySem PySem.Spec PyProof.Rows L2 Ord
theorem sc__law_words : FnScope ["_law_cell", "_law_many", "_law_letters", "_law_size", "_law_at", "_law_words_here", "_law_k", "_law_word", "_law_j", "_law_number"] ["_law_cell", "_law_many"] (defScope s__law_words) := ⟨rfl, rfl, rfl, by decide +kernel, rfl, by decide +kernel, by decide +kernel⟩
theorem sc__law_cell_at : FnScope ["_law_script", "_law_k"] ["_law_script", "_law_k"] (defScope s__law_cell_at) := ⟨rfl, rfl, rfl, by decide +kernel, rfl, by decide +kernel, by decide +kernel⟩
theorem sc__law_stream : FnScope ["_law_cell", "_law_many", "_law_numbers", "_law_number", "_law_k"] ["_law_cell", "_law_many"] (defScope s__law_stream) := ⟨rfl, rfl, rfl, by decide +kernel, rfl, by decide +kernel, by decide +kernel⟩
theorem sc__law_under : FnScope ["_law_one", "_law_other"] ["_law_one", "_law_other"] (defScope s__law_under) := ⟨rfl, rfl, rfl, by decide +kernel, rfl, by decide +kernel, by decide +kernel⟩
theorem sc__law_table : FnScope ["_law_cell", "_law_labels", "_law_xs", "_law_many", "_law_states", "_law_k", "_law_goes", "_law_ends", "_law_j", "_law_order"] ["_law_cell", "_law_labels"] (defScope s__law_table) := ⟨rfl, rfl, rfl, by decide +kernel, rfl, by decide +kernel, by decide +kernel⟩
theorem sc_refuse_too_great : FnScope ["states", "pairs", "goes", "ends"] ["states", "pairs"] (defScope s_refuse_too_great) := ⟨rfl, rfl, rfl, by decide +kernel, rfl, by decide +kernel, by decide +kernel⟩
theorem sc_labels_of : FnScope ["goes"] ["goes"] (defScope s_labels_of) := ⟨rfl, rfl, rfl, by decide +kernel, rfl, by decide +kernel, by decide +kernel⟩
theorem labels_of_cs1 : CompScope (defScope s_labels_of) ["goes"] { kind := PySem.ScopeKind.function, names := [ (PySem.Str.ofString ".0", PySem.NameKind.local), (PySem.Str.ofString "label", PySem.NameKind.local), (PySem.Str.ofString "number", PySem.NameKind.local)], isGenerator := false, isCoroutine := false, more := [] : PySem.Scope } ["label", "number"] 2 [] := ⟨rfl, by decide +kernel, by decide +kernel, by decide +kernel, rfl, by decide +kernel, by decide +kernel⟩
theorem sc_labels_told : FnScope ["states", "pairs", "labels", "goes", "ends", "better", "worse"] ["states", "pairs"] (defScope s_labels_told) := ⟨rfl, rfl, rfl, by decide +kernel, rfl, by decide +kernel, by decide +kernel⟩
theorem sc_is_name : FnScope ["thing"] ["thing"] (defScope s_is_name) := ⟨rfl, rfl, rfl, by decide +kernel, rfl, by decide +kernel, by decide +kernel⟩
theorem is_name_cs1 : CompScope (defScope s_is_name) ["thing"] { kind := PySem.ScopeKind.function, names := [(PySem.Str.ofString ".0", PySem.NameKind.local), (PySem.Str.ofString "sign", PySem.NameKind.local)], isGenerator := false, isCoroutine := false, more := [] : PySem.Scope } ["sign"] 1 [] := ⟨rfl, by decide +kernel, by decide +kernel, by decide +kernel, rfl, by decide +kernel, by decide +kernel⟩
theorem sc_refuse_no_names : FnScope ["states", "pairs", "label"] ["states", "pairs"] (defScope s_refuse_no_names) := ⟨rfl, rfl, rfl, by decide +kernel, rfl, by decide +kernel, by decide +kernel⟩
theorem sc_is_whole : FnScope ["thing"] ["thing"] (defScope s_is_whole) := ⟨rfl, rfl, rfl, by decide +kernel, rfl, by decide +kernel, by decide +kernel⟩
theorem sc_is_place : FnScope ["number", "many"] ["number", "many"] (defScope s_is_place) := ⟨rfl, rfl, rfl, by decide +kernel, rfl, by decide +kernel, by decide +kernel⟩
theorem sc_refuse_no_places : FnScope ["states", "inner", "goes", "ends", "label", "number"] ["states", "inner"] (defScope s_refuse_no_places) := ⟨rfl, rfl, rfl, by decide +kernel, rfl, by decide +kernel, by decide +kernel⟩
theorem sc_is_one_twice : FnScope ["labels"] ["labels"] (defScope s_is_one_twice) := ⟨rfl, rfl, rfl, by decide +kernel, rfl, by decide +kernel, by decide +kernel⟩
theorem sc_refuse_twice : FnScope ["states", "goes", "ends"] ["states"] (defScope s_refuse_twice) := ⟨rfl, rfl, rfl, by decide +kernel, rfl, by decide +kernel, by decide +kernel⟩
theorem sc_worse_by_better : FnScope ["pairs", "worse_labels", "better", "worse"] ["pairs"] (defScope s_worse_by_better) := ⟨rfl, rfl, rfl, by decide +kernel, rfl, by decide +kernel, by decide +kernel⟩
theorem sc_reached : FnScope ["worse_labels", "start", "came_from", "layer", "further", "better", "worse"] ["worse_labels", "start"] (defScope s_reached) := ⟨rfl, rfl, rfl, by decide +kernel, rfl, by decide +kernel, by decide +kernel⟩
theorem sc_all_that_follows : FnScope ["pairs", "worse_labels", "order", "better", "worse"] ["pairs"] (defScope s_all_that_follows) := ⟨rfl, rfl, rfl, by decide +kernel, rfl, by decide +kernel, by decide +kernel⟩
theorem sc_order_of : FnScope ["pairs", "order", "better", "worse"] ["pairs"] (defScope s_order_of) := ⟨rfl, rfl, rfl, by decide +kernel, rfl, by decide +kernel, by decide +kernel⟩
theorem sc_sorted_state : FnScope ["goes", "ends"] ["goes", "ends"] (defScope s_sorted_state) := ⟨rfl, rfl, rfl, by decide +kernel, rfl, by decide +kernel, by decide +kernel⟩
theorem sorted_state_cs1 : CompScope (defScope s_sorted_state) ["goes", "ends"] { kind := PySem.ScopeKind.function, names := [ (PySem.Str.ofString ".0", PySem.NameKind.local), (PySem.Str.ofString "label", PySem.NameKind.local), (PySem.Str.ofString "number", PySem.NameKind.local)], isGenerator := false, isCoroutine := false, more := [] : PySem.Scope } ["label", "number"] 2 [] := ⟨rfl, by decide +kernel, by decide +kernel, by decide +kernel, rfl, by decide +kernel, by decide +kernel⟩
theorem sc_table_of : FnScope ["states", "inner", "pairs", "order"] ["states", "inner", "pairs"] (defScope s_table_of) := ⟨rfl, rfl, rfl, by decide +kernel, rfl, by decide +kernel, by decide +kernel⟩
theorem table_of_cs1 : CompScope (defScope s_table_of) ["states", "inner", "pairs", "order"] { kind := PySem.ScopeKind.function, names := [ (PySem.Str.ofString ".0", PySem.NameKind.local), (PySem.Str.ofString "goes", PySem.NameKind.local), (PySem.Str.ofString "ends", PySem.NameKind.local), (PySem.Str.ofString "sorted_state", PySem.NameKind.globalImplicit)], isGenerator := false, isCoroutine := false, more := [] : PySem.Scope } ["goes", "ends"] 2 [] := ⟨rfl, by decide +kernel, by decide +kernel, by decide +kernel, rfl, by decide +kernel, by decide +kernel⟩
theorem sc_usual : FnScope ["states", "pairs"] [] (defScope s_usual) := ⟨rfl, rfl, rfl, by decide +kernel, rfl, by decide +kernel, by decide +kernel⟩
theorem sc__law_things : FnScope ["_law_cell", "_law_many", "_law_scopes", "_law_questions_here", "_law_things_here", "_law_number"] ["_law_cell", "_law_many", "_law_scopes", "_law_questions_here"] (defScope s__law_things) := ⟨rfl, rfl, rfl, by decide +kernel, rfl, by decide +kernel, by decide +kernel⟩
theorem sc__law_questions : FnScope ["_law_cell", "_law_many", "_law_scopes", "_law_states", "_law_words_here", "_law_questions_here", "_law_number", "_law_path"] ["_law_cell", "_law_many", "_law_scopes", "_law_states", "_law_words_here"] (defScope s__law_questions) := ⟨rfl, rfl, rfl, by decide +kernel, rfl, by decide +kernel, by decide +kernel⟩
theorem _law_questions_cs1 : CompScope (defScope s__law_questions) ["_law_cell", "_law_many", "_law_scopes", "_law_states", "_law_words_here", "_law_questions_here", "_law_number", "_law_path"] { kind := PySem.ScopeKind.function, names := [ (PySem.Str.ofString ".0", PySem.NameKind.local), (PySem.Str.ofString "_law_k", PySem.NameKind.local), (PySem.Str.ofString "_law_number", PySem.NameKind.free), (PySem.Str.ofString "_law_words_here", PySem.NameKind.free)], isGenerator := false, isCoroutine := false, more := [] : PySem.Scope } ["_law_k", "_law_words_here", "_law_number"] 1 [4, 6] := ⟨rfl, by decide +kernel, by decide +kernel, by decide +kernel, rfl, by decide +kernel, by decide +kernel⟩
theorem sc__law_lay : FnScope ["_law_net", "_law_labels", "_law_words_here", "_law_cell", "_law_number", "_law_steps", "_law_tellings", "_law_label", "_law_name"] ["_law_net", "_law_labels", "_law_words_here", "_law_cell"] (defScope s__law_lay) := ⟨rfl, rfl, rfl, by decide +kernel, rfl, by decide +kernel, by decide +kernel⟩
theorem sc__law_answers : FnScope ["_law_cell", "_law_net", "_law_answers_here", "_law_number", "_law_path"] ["_law_cell", "_law_net"] (defScope s__law_answers) := ⟨rfl, rfl, rfl, by decide +kernel, rfl, by decide +kernel, by decide +kernel⟩
theorem sc__law_case : FnScope ["_law_script", "_law_words_here", "_law_labels", "_law_table_here", "_law_scopes", "_law_asked", "_law_things_here", "_law_questions_here", "_law_net", "_law_cell", "_law_answers_here"] ["_law_script"] (defScope s__law_case) := ⟨rfl, rfl, rfl, by decide +kernel, rfl, by decide +kernel, by decide +kernel⟩
theorem _law_case_cs1 : CompScope (defScope s__law_case) ["_law_script", "_law_words_here", "_law_labels", "_law_table_here", "_law_scopes", "_law_asked", "_law_things_here", "_law_questions_here", "_law_net", "_law_cell", "_law_answers_here"] { kind := PySem.ScopeKind.function, names := [(PySem.Str.ofString ".0", PySem.NameKind.local), (PySem.Str.ofString "_law_k", PySem.NameKind.local)], isGenerator := false, isCoroutine := false, more := [] : PySem.Scope } ["_law_k"] 1 [] := ⟨rfl, by decide +kernel, by decide +kernel, by decide +kernel, rfl, by decide +kernel, by decide +kernel⟩
theorem sc__law_copy : FnScope ["_law_parts", "_law_scopes"] ["_law_parts"] (defScope s__law_copy) := ⟨rfl, rfl, rfl, by decide +kernel, rfl, by decide +kernel, by decide +kernel⟩
theorem _law_copy_cs1 : CompScope (defScope s__law_copy) ["_law_parts", "_law_scopes"] { kind := PySem.ScopeKind.function, names := [ (PySem.Str.ofString ".0", PySem.NameKind.local), (PySem.Str.ofString "_law_steps", PySem.NameKind.local), (PySem.Str.ofString "_law_tellings", PySem.NameKind.local), (PySem.Str.ofString "list", PySem.NameKind.globalImplicit)], isGenerator := false, isCoroutine := false, more := [] : PySem.Scope } ["_law_steps", "_law_tellings"] 2 [] := ⟨rfl, by decide +kernel, by decide +kernel, by decide +kernel, rfl, by decide +kernel, by decide +kernel⟩
theorem sc__law_copy_table : FnScope ["_law_table_here", "_law_states"] ["_law_table_here"] (defScope s__law_copy_table) := ⟨rfl, rfl, rfl, by decide +kernel, rfl, by decide +kernel, by decide +kernel⟩
theorem _law_copy_table_cs1 : CompScope (defScope s__law_copy_table) ["_law_table_here", "_law_states"] { kind := PySem.ScopeKind.function, names := [ (PySem.Str.ofString ".0", PySem.NameKind.local), (PySem.Str.ofString "_law_goes", PySem.NameKind.local), (PySem.Str.ofString "_law_ends", PySem.NameKind.local), (PySem.Str.ofString "list", PySem.NameKind.globalImplicit)], isGenerator := false, isCoroutine := false, more := [] : PySem.Scope } ["_law_goes", "_law_ends"] 2 [] := ⟨rfl, by decide +kernel, by decide +kernel, by decide +kernel, rfl, by decide +kernel, by decide +kernel⟩
theorem sc_has_end : FnScope ["table", "state", "label", "ends"] ["table", "state", "label"] (defScope s_has_end) := ⟨rfl, rfl, rfl, by decide +kernel, rfl, by decide +kernel, by decide +kernel⟩
theorem sc_found_behind : FnScope ["net", "table", "begun", "name", "ways", "marks", "last", "then", "index", "telling"] ["net", "table", "begun", "name"] (defScope s_found_behind) := ⟨rfl, rfl, rfl, by decide +kernel, rfl, by decide +kernel, by decide +kernel⟩
theorem sc_next_state : FnScope ["table", "state", "label", "goes", "known", "number"] ["table", "state", "label"] (defScope s_next_state) := ⟨rfl, rfl, rfl, by decide +kernel, rfl, by decide +kernel, by decide +kernel⟩
theorem sc_inside_of_sort : FnScope ["net", "answers", "question", "answer", "kind", "number"] ["net", "answers", "question"] (defScope s_inside_of_sort) := ⟨rfl, rfl, rfl, by decide +kernel, rfl, by decide +kernel, by decide +kernel⟩
theorem sc_inside : FnScope ["net", "answers", "thing", "kind", "number"] ["net", "answers", "thing"] (defScope s_inside) := ⟨rfl, rfl, rfl, by decide +kernel, rfl, by decide +kernel, by decide +kernel⟩
theorem sc_goal : FnScope ["net", "answers", "step", "label", "kind", "number", "answer"] ["net", "answers", "step"] (defScope s_goal) := ⟨rfl, rfl, rfl, by decide +kernel, rfl, by decide +kernel, by decide +kernel⟩
theorem sc_steps_gone : FnScope ["net", "answers", "table", "scope", "state", "gone", "index", "step", "after", "kind", "number"] ["net", "answers", "table", "scope", "state"] (defScope s_steps_gone) := ⟨rfl, rfl, rfl, by decide +kernel, rfl, by decide +kernel, by decide +kernel⟩
theorem sc_longer_by_a_step : FnScope ["net", "answers", "table", "beginning", "marks", "last", "then", "come_to", "longer", "mark", "kind", "number", "after"] ["net", "answers", "table", "beginning"] (defScope s_longer_by_a_step) := ⟨rfl, rfl, rfl, by decide +kernel, rfl, by decide +kernel, by decide +kernel⟩
theorem longer_by_a_step_cs1 : CompScope (defScope s_longer_by_a_step) ["net", "answers", "table", "beginning", "marks", "last", "then", "come_to", "longer", "mark", "kind", "number", "after"] { kind := PySem.ScopeKind.function, names := [(PySem.Str.ofString ".0", PySem.NameKind.local), (PySem.Str.ofString "mark", PySem.NameKind.local)], isGenerator := false, isCoroutine := false, more := [] : PySem.Scope } ["mark"] 1 [] := ⟨rfl, by decide +kernel, by decide +kernel, by decide +kernel, rfl, by decide +kernel, by decide +kernel⟩
theorem sc_beginnings : FnScope ["net", "answers", "table", "scope", "state", "found", "place"] ["net", "answers", "table", "scope", "state"] (defScope s_beginnings) := ⟨rfl, rfl, rfl, by decide +kernel, rfl, by decide +kernel, by decide +kernel⟩
theorem sc_found_ways : FnScope ["net", "answers", "table", "scope", "state", "name"] ["net", "answers", "table", "scope", "state", "name"] (defScope s_found_ways) := ⟨rfl, rfl, rfl, by decide +kernel, rfl, by decide +kernel, by decide +kernel⟩
theorem sc__law_whole : FnScope ["_law_found"] ["_law_found"] (defScope s__law_whole) := ⟨rfl, rfl, rfl, by decide +kernel, rfl, by decide +kernel, by decide +kernel⟩
theorem sc__law_is_mark : FnScope ["_law_mark", "_law_word", "_law_net"] ["_law_mark", "_law_word", "_law_net"] (defScope s__law_is_mark) := ⟨rfl, rfl, rfl, by decide +kernel, rfl, by decide +kernel, by decide +kernel⟩
theorem sc__law_next : FnScope ["_law_table_here", "_law_state", "_law_label", "_law_word", "_law_number"] ["_law_table_here", "_law_state", "_law_label"] (defScope s__law_next) := ⟨rfl, rfl, rfl, by decide +kernel, rfl, by decide +kernel, by decide +kernel⟩
theorem sc__law_inside : FnScope ["_law_net", "_law_answers_here", "_law_number", "_law_thing", "_law_answer"] ["_law_net", "_law_answers_here", "_law_number"] (defScope s__law_inside) := ⟨rfl, rfl, rfl, by decide +kernel, rfl, by decide +kernel, by decide +kernel⟩
theorem sc__law_goal : FnScope ["_law_net", "_law_answers_here", "_law_step", "_law_answer"] ["_law_net", "_law_answers_here", "_law_step"] (defScope s__law_goal) := ⟨rfl, rfl, rfl, by decide +kernel, rfl, by decide +kernel, by decide +kernel⟩
theorem sc__law_walk : FnScope ["_law_net", "_law_answers_here", "_law_table_here", "_law_scope", "_law_state", "_law_marks", "_law_been", "_law_mark", "_law_step", "_law_there"] ["_law_net", "_law_answers_here", "_law_table_here", "_law_scope", "_law_state", "_law_marks"] (defScope s__law_walk) := ⟨rfl, rfl, rfl, by decide +kernel, rfl, by decide +kernel, by decide +kernel⟩
theorem sc__law_good : FnScope ["_law_net", "_law_answers_here", "_law_table_here", "_law_look", "_law_name", "_law_way", "_law_come", "_law_telling"] ["_law_net", "_law_answers_here", "_law_table_here", "_law_look", "_law_name", "_law_way"] (defScope s__law_good) := ⟨rfl, rfl, rfl, by decide +kernel, rfl, by decide +kernel, by decide +kernel⟩
theorem sc__law_due : FnScope ["_law_net", "_law_table_here", "_law_rows", "_law_name", "_law_ways", "_law_marks", "_law_here", "_law_state", "_law_index", "_law_telling"] ["_law_net", "_law_table_here", "_law_rows", "_law_name"] (defScope s__law_due) := ⟨rfl, rfl, rfl, by decide +kernel, rfl, by decide +kernel, by decide +kernel⟩
theorem sc__law_right : FnScope ["_law_net", "_law_answers_here", "_law_table_here", "_law_look", "_law_name", "_law_kept", "_law_held", "_law_rules", "_law_ways", "_law_way", "_law_due_here"] ["_law_net", "_law_answers_here", "_law_table_here", "_law_look", "_law_name"] (defScope s__law_right) := ⟨rfl, rfl, rfl, by decide +kernel, rfl, by decide +kernel, by decide +kernel⟩
theorem sc_law : FnScope ["_law_script", "_law_net", "_law_table_here", "_law_answers_here", "_law_words_here", "_law_scope", "_law_state", "_law_path", "_law_name"] ["_law_script"] (defScope s_law) := ⟨rfl, rfl, rfl, by decide +kernel, rfl, by decide +kernel, by decide +kernel⟩
structure Blt (mg : Str → Option Value) : Prop where
  b_all : mg "all" = none
  b_bool : mg "bool" = none
  b_enumerate : mg "enumerate" = none
  b_int : mg "int" = none
  b_isinstance : mg "isinstance" = none
  b_len : mg "len" = none
  b_list : mg "list" = none
  b_range : mg "range" = none
  b_set : mg "set" = none
  b_sorted : mg "sorted" = none
  b_str : mg "str" = none
  b_tuple : mg "tuple" = none
  c_LONGEST_NAME : ∃ t, mg "LONGEST_NAME" = some (.int 8 t)
  c_MOST_BEGINNINGS : ∃ t, mg "MOST_BEGINNINGS" = some (.int 200 t)
  c_MOST_ENDS : ∃ t, mg "MOST_ENDS" = some (.int 8 t)
  c_MOST_GOES : ∃ t, mg "MOST_GOES" = some (.int 8 t)
  c_MOST_PAIRS : ∃ t, mg "MOST_PAIRS" = some (.int 40 t)
  c_MOST_STATES : ∃ t, mg "MOST_STATES" = some (.int 8 t)
theorem len_1 {us : List Value} (h : us.length = 1) : ∃ x0, us = [x0] := by
  cases us with
  | nil => cases h
  | cons x0 t => exact ⟨x0, by rw [List.length_eq_zero_iff.mp (Nat.succ.inj h)]⟩
theorem len_2 {us : List Value} (h : us.length = 2) : ∃ x0 x1, us = [x0, x1] := by
  cases us with
  | nil => cases h
  | cons x0 t =>
    obtain ⟨x1, rfl⟩ := len_1 (Nat.succ.inj h)
    exact ⟨x0, x1, rfl⟩
theorem len_3 {us : List Value} (h : us.length = 3) : ∃ x0 x1 x2, us = [x0, x1, x2] := by
  cases us with
  | nil => cases h
  | cons x0 t =>
    obtain ⟨x1, x2, rfl⟩ := len_2 (Nat.succ.inj h)
    exact ⟨x0, x1, x2, rfl⟩
theorem len_4 {us : List Value} (h : us.length = 4) : ∃ x0 x1 x2 x3, us = [x0, x1, x2, x3] := by
  cases us with
  | nil => cases h
  | cons x0 t =>
    obtain ⟨x1, x2, x3, rfl⟩ := len_3 (Nat.succ.inj h)
    exact ⟨x0, x1, x2, x3, rfl⟩
theorem len_5 {us : List Value} (h : us.length = 5) : ∃ x0 x1 x2 x3 x4, us = [x0, x1, x2, x3, x4] := by
  cases us with
  | nil => cases h
  | cons x0 t =>
    obtain ⟨x1, x2, x3, x4, rfl⟩ := len_4 (Nat.succ.inj h)
    exact ⟨x0, x1, x2, x3, x4, rfl⟩
theorem len_6 {us : List Value} (h : us.length = 6) : ∃ x0 x1 x2 x3 x4 x5, us = [x0, x1, x2, x3, x4, x5] := by
  cases us with
  | nil => cases h
  | cons x0 t =>
    obtain ⟨x1, x2, x3, x4, x5, rfl⟩ := len_5 (Nat.succ.inj h)
    exact ⟨x0, x1, x2, x3, x4, x5, rfl⟩
theorem len_7 {us : List Value} (h : us.length = 7) : ∃ x0 x1 x2 x3 x4 x5 x6, us = [x0, x1, x2, x3, x4, x5, x6] := by
  cases us with
  | nil => cases h
  | cons x0 t =>
    obtain ⟨x1, x2, x3, x4, x5, x6, rfl⟩ := len_6 (Nat.succ.inj h)
    exact ⟨x0, x1, x2, x3, x4, x5, x6, rfl⟩
theorem len_8 {us : List Value} (h : us.length = 8) : ∃ x0 x1 x2 x3 x4 x5 x6 x7, us = [x0, x1, x2, x3, x4, x5, x6, x7] := by
  cases us with
  | nil => cases h
  | cons x0 t =>
    obtain ⟨x1, x2, x3, x4, x5, x6, x7, rfl⟩ := len_7 (Nat.succ.inj h)
    exact ⟨x0, x1, x2, x3, x4, x5, x6, x7, rfl⟩
section
set_option maxHeartbeats 4000000
seal L2.PE L2.PA L2.PS L2.PSs L2.PT L2.PW L2.PC L2.PG L2.PGs L2.PI L2.PF L2.PSet L2.OpR L2.UnR L2.CallR L2.MtR L2.IxR L2.SlR L2.PO
variable {P : Program} {w : World} {K : PySem.W.Frag} {mg : Str → Option Value} {base : Heap} {f : Addr} {fd : FuncData}
theorem let26 : (("abcdefghijklmnopqrstuvwxyz" : Str)).cps.toList.length = 26 := by decide +kernel
theorem letLow : ∀ c ∈ (("abcdefghijklmnopqrstuvwxyz" : Str)).cps.toList, 97 ≤ c ∧ c ≤ 122 := by decide +kernel
theorem str_snoc (w : Str) (c : Nat) : (w ++ (⟨#[c]⟩ : Str)).length = w.length + 1 := by
  show (w.cps ++ #[c]).size = w.cps.size + 1
  simp
theorem str_mem {w : Str} {c d : Nat} (h : d ∈ (w ++ (⟨#[c]⟩ : Str)).cps.toList) : d ∈ w.cps.toList ∨ d = c := by
  have h : d ∈ (w.cps ++ #[c]).toList := h
  simpa using h
def sp__law_words (_ : PySem.W.Frag) : Sp := fun vs H Q _ => ∃ (c m : Int), vs = [.int c, .int m] ∧ 2 ≤ m ∧ m ≤ 9 ∧ ∀ (L : Addr) (ls : List Str) (H' : Hp), ls.length = m.toNat → (∀ x ∈ ls, LowW x) → H L = none → Same H H' → H' L = some (.lst (ls.map V.str)) → Q (.ref L) H'
theorem ok__law_words (B : Blt mg) (F : Fun K "_law_words" "_law_words" s__law_words f fd) : FnOk P w K mg base CX0 1 f fd ["_law_cell", "_law_many"] (sp__law_words K) := by
  refine F.ok sc__law_words (fun vs H Q E h => ?_) (fun cdv A outer s H vs Q E hr h => ?_)
  · obtain ⟨c, m, rfl, _⟩ := h
    rfl
  · obtain ⟨c, m, rfl, m0, m9, q⟩ := h
    refine ⟨_, (pss_cons (ps_set (i := 2) sc__law_words.nd rfl (Or.inl rfl) pe_str)
      (pss_cons (ps_set (i := 3) sc__law_words.nd rfl (Or.inl rfl) (pe_op op_add pe_int (pe_op op_mod (pv 0) pe_int)))
      (pss_cons (ps_set (i := 4) sc__law_words.nd rfl (Or.inl rfl) (pe_op op_mod (pe_op op_fdiv (pv 0) pe_int) (pv 3)))
      (pss_cons (ps_set (i := 5) sc__law_words.nd rfl (Or.inl rfl) (pe_lst pa_nil))
      (pss_cons (ps_for PassesOwn.never rfl (pi_range1 rfl B.b_range (pa_cons (pv 1) pa_nil)) (pg_name (i := 6) sc__law_words.nd rfl (Or.inl rfl)) (pss_cons (ps_set (i := 7) sc__law_words.nd rfl (Or.inl rfl) pe_str)
        (pss_cons (ps_for PassesOwn.never rfl (pi_range1 rfl B.b_range (pa_cons (pv 3) pa_nil)) (pg_name (i := 8) sc__law_words.nd rfl (Or.inl rfl)) (pss_cons (ps_set (i := 9) sc__law_words.nd rfl (Or.inl rfl) (pe_op op_add (pe_op op_fdiv (pe_op op_fdiv (pv 0) pe_int) (pe_op op_add (pv 8) pe_int)) (pe_op op_mul (pv 8) (pv 8))))
          (pss_cons (ps_if (pt_cmpR op_eq (pv 8) (pv 4) (nomark _)) (pss_one (ps_augR (i := 9) sc__law_words.nd rfl (Or.inl rfl) (pv 6) iop_add)) pss_nil)
          (pss_one (ps_set (i := 7) sc__law_words.nd rfl (Or.inl rfl) (pe_op op_add_str (pv 7) (pe_ix ix_seq (pv 2) (pe_op op_mod (pv 9) pe_int) (fun _ _ => rfl))))))))
        (pss_one (ps_expr (pe_bm PySem.F.plainAttrs_list PySem.F.slot_list_append PySem.F.type_list_append mr_append (pv 5) (pa_cons (pv 7) pa_nil)))))))
      (pss_cons (ps_if (pt_cmpR op_eq (pe_op op_mod (pe_op op_fdiv (pv 0) pe_int) pe_int) pe_int (nomark _)) (pss_one (ps_asg (pe_op op_add_str (pe_ix ix_seq (pv 5) pe_int (fun _ _ => rfl)) (pe_ix ix_seq (pv 2) (pe_op op_mod (pe_op op_fdiv (pv 0) pe_int) pe_int) (fun _ _ => rfl))) (pg_sub (pv 5) pe_int set_list))) pss_nil)
      (pss_one (ps_ret (pv 5))))))))), ?_⟩
    refine seq_setC ?_
    try dsimp only
    refine ⟨_, rfl, _, _, rfl, rfl, (by show (0 : Int) < 7; decide), _, _, rfl, rfl, ?_⟩
    try dsimp only
    obtain ⟨z, ez⟩ : ∃ z, z = 1 + c % 7 := ⟨_, rfl⟩
    rw [← ez]
    have z0 : 1 ≤ z ∧ z ≤ 7 := by omega
    refine g_in ?_
    try dsimp only
    refine ⟨_, rfl, _, _, rfl, rfl, ⟨by decide, by decide⟩, _, rfl, _, _, rfl, rfl, (by show 0 < z; omega), ?_⟩
    try dsimp only
    generalize c / 7 % z = at0'
    refine g_in ?_
    try dsimp only
    refine ⟨by decide, fun L hL => ?_⟩
    obtain ⟨H1, qH1, s1, eL1⟩ := new_at (o := .lst []) hL
    rw [← qH1]
    refine g_in ?_
    try dsimp only
    refine ⟨_, rfl, _, rfl, by omega, by omega, for_range (lo := 0) (n := m.toNat) (fun i σ H' => ∃ u6 u7 u8 u9 ls, σ = [some (.int c), some (.int m), some (.str "abcdefghijklmnopqrstuvwxyz"), some (.int z), some (.int at0'), some (.ref L), u6, u7, u8, u9] ∧ Same H H' ∧ H' L = some (.lst (ls.map V.str)) ∧ ls.length = i ∧ ∀ x ∈ ls, LowW x ∧ x.length ≤ 7) ⟨none, none, none, none, [], rfl, s1, eL1, rfl, fun x hx => by simp at hx⟩ ?_ ?_⟩
    rotate_left
    · rintro σ H2 ⟨u6, u7, u8, u9, ls, rfl, s2, eL2, hl, hlow⟩
      try dsimp only
      refine seq_cut (fun σ' H' => ∃ ls : List Str, σ' = [some (.int c), some (.int m), some (.str "abcdefghijklmnopqrstuvwxyz"), some (.int z), some (.int at0'), some (.ref L), u6, u7, u8, u9] ∧ Same H H' ∧ H' L = some (.lst (ls.map V.str)) ∧ ls.length = m.toNat ∧ ∀ x ∈ ls, LowW x) ?_ (fun N hN => ?_)
      case refine_2 =>
        refine ⟨_, rfl, _, _, rfl, rfl, ⟨by decide, by decide⟩, _, _, rfl, rfl, (by show (0 : Int) < 3; decide), rfl, _, rfl, ite2 (fun _ => ?_) (fun _ => hN _ _ ⟨ls, rfl, s2, eL2, hl, fun x hx => (hlow x hx).1⟩)⟩
        have y0 := Int.emod_nonneg (c / 147) (by decide : (26 : Int) ≠ 0)
        have y1 := Int.emod_lt_of_pos (c / 147) (by decide : (0 : Int) < 26)
        obtain ⟨cc, hcc⟩ := atI_in (xs := (("abcdefghijklmnopqrstuvwxyz" : Str)).cps.toList) y0 (by rw [let26]; exact y1)
        have hw0 := List.getElem?_eq_getElem (show 0 < ls.length by omega)
        obtain ⟨lw, l7⟩ := hlow _ (List.getElem_mem (show 0 < ls.length by omega))
        have hat : atI (ls.map V.str) 0 = some (V.str (ls[0]'(by omega))) := atI_nat (j := 0) (by rw [List.getElem?_map, hw0]; rfl)
        generalize ls[0]'(by omega) = w0 at lw l7 hat
        refine ⟨_, rfl, Or.inl ⟨L, _, _, .str w0, rfl, rfl, SqL.of eL2, hat, _, rfl, _, rfl, _, _, rfl, rfl, ⟨by decide, by decide⟩, _, _, rfl, rfl, (by show (0 : Int) < 26; decide), Or.inr (Or.inr ⟨_, _, cc, rfl, rfl, by decide +kernel, hcc, w0, _, rfl, rfl, ?_, _, rfl, L, _, _, 1, rfl, rfl, eL2, ?_, ?_⟩)⟩⟩
        · show w0.length + 1 ≤ sizeLine
          exact Nat.le_of_lt (small1000 (by omega))
        · exact ixN_in (k := 1) (by decide) (by rw [List.length_map]; omega)
        · refine hN _ _ ⟨ls.set 1 (w0 ++ ⟨#[cc]⟩), rfl, fun b o e => ?_, by rw [upd_same, List.map_set], by rw [List.length_set]; exact hl, fun x hx => ?_⟩
          · rw [upd_ne (ne_of_none e hL)]; exact s2 _ _ e
          · rcases List.mem_or_eq_of_mem_set hx with hx | rfl
            · exact (hlow x hx).1
            · refine ⟨by rw [str_snoc]; omega, by rw [str_snoc]; omega, fun d hd => ?_⟩
              rcases str_mem hd with hd | rfl
              · exact lw.2.2 d hd
              · exact letLow _ (atI_mem hcc)
      rintro σ' H3 ⟨ls, rfl, s3, eL3, hl, hlow⟩
      exact ⟨_, rfl, q L ls H3 hl hlow hL s3 eL3⟩
    rintro i σ H2 hi ⟨u6, u7, u8, u9, ls, rfl, s2, eL2, hl, hlow⟩
    refine g_in ?_
    try dsimp only
    refine seq_setC ?_
    try dsimp only
    refine ⟨_, rfl, _, rfl, by omega, by omega, for_range (lo := 0) (n := z.toNat) (fun j σ H' => ∃ (w : Str) (u8 u9 : Option V), σ = [some (.int c), some (.int m), some (.str "abcdefghijklmnopqrstuvwxyz"), some (.int z), some (.int at0'), some (.ref L), some (.int (0 + (i : Int))), some (.str w), u8, u9] ∧ H' = H2 ∧ w.length = j ∧ ∀ d ∈ w.cps.toList, 97 ≤ d ∧ d ≤ 122) ⟨"", _, _, rfl, rfl, by decide +kernel, by decide +kernel⟩ ?_ ?_⟩
    rotate_left
    · rintro σ H3 ⟨w, u8, u9, rfl, rfl, hw, hwl⟩
      refine ⟨_, rfl, Or.inl ⟨rfl, _, SqL.of eL2⟩, _, rfl, L, _, _, rfl, rfl, eL2, by rw [List.length_map, hl]; exact small1000 (by omega), ?_⟩
      refine ⟨_, _, _, _, ls ++ [w], rfl, fun b o e => ?_, by rw [upd_same, List.map_append]; rfl, by rw [List.length_append, hl]; rfl, fun x hx => ?_⟩
      · rw [upd_ne (ne_of_none e hL)]; exact s2 _ _ e
      · rcases List.mem_append.mp hx with hx | hx
        · exact hlow x hx
        · rw [List.mem_singleton.mp hx]
          exact ⟨⟨by omega, by omega, hwl⟩, by omega⟩
    rintro j σ H3 hj ⟨w, u8, u9, rfl, rfl, hw, hwl⟩
    refine g_in ?_
    try dsimp only
    refine ⟨_, rfl, _, _, rfl, rfl, ⟨by decide, by decide⟩, _, rfl, _, _, rfl, rfl, _, _, rfl, rfl, ⟨by omega, by omega⟩, _, rfl, _, rfl, _, _, rfl, rfl, Or.inl ⟨by omega, by omega⟩, _, _, rfl, rfl, ?_⟩
    try dsimp only
    generalize c / 49 / (0 + (j : Int) + 1) + (0 + (j : Int)) * (0 + (j : Int)) = num
    refine g_in ?_
    try dsimp only
    refine seq_cut (fun σ' H' => ∃ num : Int, σ' = [some (.int c), some (.int m), some (.str "abcdefghijklmnopqrstuvwxyz"), some (.int z), some (.int at0'), some (.ref L), some (.int (0 + (i : Int))), some (.str w), some (.int (0 + (j : Int))), some (.int num)] ∧ H' = H3) ?_ (fun N hN => ?_)
    case refine_2 =>
      refine ⟨_, rfl, _, rfl, rfl, _, rfl, ite2 (fun _ => ?_) (fun _ => ?_)⟩
      · exact ⟨_, rfl, _, rfl, _, _, rfl, rfl, hN _ _ ⟨_, rfl, rfl⟩⟩
      · exact hN _ _ ⟨_, rfl, rfl⟩
    rintro σ' H4 ⟨num, rfl, rfl⟩
    have y0 := Int.emod_nonneg num (by decide : (26 : Int) ≠ 0)
    have y1 := Int.emod_lt_of_pos num (by decide : (0 : Int) < 26)
    obtain ⟨cc, hcc⟩ := atI_in (xs := (("abcdefghijklmnopqrstuvwxyz" : Str)).cps.toList) y0 (by rw [let26]; exact y1)
    refine ⟨_, rfl, _, rfl, _, rfl, _, _, rfl, rfl, (by show (0 : Int) < 26; decide), Or.inr (Or.inr ⟨_, _, cc, rfl, rfl, by decide +kernel, hcc, w, _, rfl, rfl, ?_, ?_⟩)⟩
    · show w.length + 1 ≤ sizeLine
      exact Nat.le_of_lt (small1000 (by omega))
    · refine ⟨_, _, _, rfl, rfl, by rw [str_snoc, hw], fun d hd => ?_⟩
      rcases str_mem hd with hd | rfl
      · exact hwl d hd
      · exact letLow _ (atI_mem hcc)
variable (P w K mg base) in
abbrev C__law_words : Prop := Callee P w K mg base "_law_words" 1 ["_law_cell", "_law_many"] (sp__law_words K)
theorem call__law_words (B : Blt mg) (F : Fun K "_law_words" "_law_words" s__law_words f fd) (hm : mg "_law_words" = some (.ref f)) : C__law_words P w K mg base :=
  ⟨f, fd, ok__law_words B  F, hm, F.kp, F.binds fun _ _ _ _ _ _ us hl => (by obtain ⟨x0, x1, rfl⟩ := len_2 hl; rfl)⟩
theorem cell_some {ns : List Int} {k : Int} (hk : 0 ≤ k) (hlt : k < ns.length) : atI (ns.map V.int) k = some (V.int (cellAt ns k)) := by
  obtain ⟨n, rfl⟩ := Int.eq_ofNat_of_zero_le hk
  have hn : n < ns.length := by omega
  refine atI_nat ?_
  rw [List.getElem?_map, List.getElem?_eq_getElem hn]
  show some (V.int ns[n]) = some (V.int ((ns[((n : Int)).toNat]?).getD 0))
  rw [Int.toNat_natCast, List.getElem?_eq_getElem hn]
  rfl
theorem cell_none {ns : List Int} {k : Int} (hk : 0 ≤ k) (hlt : ¬ k < ns.length) : cellAt ns k = 0 := by
  unfold cellAt
  rw [List.getElem?_eq_none (by omega)]
  rfl
def sp__law_cell_at (K : PySem.W.Frag) : Sp := fun vs H Q _ => ∃ a ns k, vs = [.ref a, .int k] ∧ 0 ≤ k ∧ SqL K H a (ns.map V.int) ∧ Q (.int (cellAt ns k)) H
theorem ok__law_cell_at (B : Blt mg) (F : Fun K "_law_cell_at" "_law_cell_at" s__law_cell_at f fd) : FnOk P w K mg base CX0 1 f fd ["_law_script", "_law_k"] (sp__law_cell_at K) := by
  refine F.ok sc__law_cell_at (fun vs H Q E h => ?_) (fun cdv A outer s H vs Q E hr h => ?_)
  · obtain ⟨a, ns, k, rfl, _⟩ := h
    rfl
  · obtain ⟨a, ns, k, rfl, hk, hS, q⟩ := h
    refine ⟨_, (pss_cons (ps_if (pt_cmpR op_lt (pv 1) (pe_callB call_len (by rfl) B.b_len (by decide +kernel) (pa_cons (pv 0) pa_nil)) (nomark _)) (pss_one (ps_ret (pe_ix ix_seq (pv 0) (pv 1) (fun _ _ => rfl)))) pss_nil)
      (pss_one (ps_ret pe_int))), ?_⟩
    refine ⟨_, rfl, _, rfl, _, _, rfl, Or.inl ⟨_, hS, rfl⟩, _, _, rfl, rfl, _, rfl, ?_⟩
    rw [List.length_map]
    refine ite2 (fun hlt => ?_) (fun hge => ?_)
    · have hlt := of_decide_eq_true hlt
      exact ⟨_, rfl, _, rfl, Or.inl ⟨_, _, _, _, rfl, rfl, hS, cell_some hk hlt, q⟩⟩
    · have hge : ¬ k < (ns.length : Int) := fun z => hge (decide_eq_true z)
      show Q (.int 0) H
      rw [cell_none hk hge] at q
      exact q
variable (P w K mg base) in
abbrev C__law_cell_at : Prop := Callee P w K mg base "_law_cell_at" 1 ["_law_script", "_law_k"] (sp__law_cell_at K)
theorem call__law_cell_at (B : Blt mg) (F : Fun K "_law_cell_at" "_law_cell_at" s__law_cell_at f fd) (hm : mg "_law_cell_at" = some (.ref f)) : C__law_cell_at P w K mg base :=
  ⟨f, fd, ok__law_cell_at B  F, hm, F.kp, F.binds fun _ _ _ _ _ _ us hl => (by obtain ⟨x0, x1, rfl⟩ := len_2 hl; rfl)⟩
def sp__law_stream (_ : PySem.W.Frag) : Sp := fun vs H Q _ => ∃ (c m : Int), vs = [.int c, .int m] ∧ 0 ≤ m ∧ m ≤ 60 ∧ ∀ (L : Addr) (xs : List Int) (H' : Hp), xs.length = m.toNat → H L = none → Same H H' → H' L = some (.lst (xs.map V.int)) → Q (.ref L) H'
theorem ok__law_stream (B : Blt mg) (F : Fun K "_law_stream" "_law_stream" s__law_stream f fd) : FnOk P w K mg base CX0 1 f fd ["_law_cell", "_law_many"] (sp__law_stream K) := by
  refine F.ok sc__law_stream (fun vs H Q E h => ?_) (fun cdv A outer s H vs Q E hr h => ?_)
  · obtain ⟨c, m, rfl, _⟩ := h
    rfl
  · obtain ⟨c, m, rfl, m0, m6, q⟩ := h
    refine ⟨_, (pss_cons (ps_set (i := 2) sc__law_stream.nd rfl (Or.inl rfl) (pe_lst pa_nil))
      (pss_cons (ps_set (i := 3) sc__law_stream.nd rfl (Or.inl rfl) (pe_op op_add (pe_op op_mod (pv 0) pe_int) pe_int))
      (pss_cons (ps_for PassesOwn.never rfl (pi_range1 rfl B.b_range (pa_cons (pv 1) pa_nil)) (pg_name (i := 4) sc__law_stream.nd rfl (Or.inl rfl)) (pss_cons (ps_set (i := 3) sc__law_stream.nd rfl (Or.inl rfl) (pe_op op_mod (pe_op op_add (pe_op op_add (pe_op op_mul (pv 3) (pv 3)) (pe_op op_mul pe_int (pv 3))) (pv 4)) pe_int))
        (pss_one (ps_expr (pe_bm PySem.F.plainAttrs_list PySem.F.slot_list_append PySem.F.type_list_append mr_append (pv 2) (pa_cons (pe_op op_fdiv (pv 3) pe_int) pa_nil))))))
      (pss_one (ps_ret (pv 2)))))), ?_⟩
    refine ⟨by decide, fun L hL => ?_⟩
    obtain ⟨H1, qH1, s1, eL1⟩ := new_at (o := .lst []) hL
    rw [← qH1]
    have n0 := Int.emod_nonneg c (by decide : (2147483629 : Int) ≠ 0)
    have n1 := Int.emod_lt_of_pos c (by decide : (0 : Int) < 2147483629)
    refine ⟨_, rfl, _, _, rfl, rfl, (by show (0 : Int) < 2147483629; decide), _, _, rfl, rfl, ?_⟩
    try dsimp only
    obtain ⟨num, enum⟩ : ∃ num, num = c % 2147483629 + 1 := ⟨_, rfl⟩
    rw [← enum]
    refine g_in ?_
    try dsimp only
    refine ⟨_, rfl, _, rfl, by omega, by omega, for_range (lo := 0) (n := m.toNat)
      (fun i σ H' => ∃ num u4 xs, σ = [some (.int c), some (.int m), some (.ref L), some (.int num), u4] ∧ 0 ≤ num ∧ num < 2147483647 ∧ Same H H' ∧ H' L = some (.lst (xs.map V.int)) ∧ xs.length = i)
      ⟨num, none, [], rfl, by omega, by omega, s1, eL1, rfl⟩ ?_ ?_⟩
    rotate_left
    · rintro σ H2 ⟨num, u4, xs, rfl, p0, p1, s2, eL2, hl⟩
      exact ⟨_, rfl, q L xs H2 hl hL s2 eL2⟩
    rintro i σ H2 hi ⟨num, u4, xs, rfl, p0, p1, s2, eL2, hl⟩
    refine ⟨_, rfl, _, rfl, _, _, rfl, rfl, Or.inl ⟨by omega, by omega⟩, _, rfl, _, _, rfl, rfl, Or.inl ⟨by decide, by decide⟩, _, _, rfl, rfl, _, rfl, _, _, rfl, rfl, _, _, rfl, rfl, (by show (0 : Int) < 2147483647; decide), ?_⟩
    try dsimp only
    generalize num * num + 48271 * num + (0 + (i : Int)) = big
    have b0 := Int.emod_nonneg big (by decide : (2147483647 : Int) ≠ 0)
    have b1 := Int.emod_lt_of_pos big (by decide : (0 : Int) < 2147483647)
    generalize big % 2147483647 = nn at b0 b1 ⊢
    refine g_in ?_
    try dsimp only
    refine ⟨_, rfl, Or.inl ⟨rfl, _, SqL.of eL2⟩, _, rfl, _, _, rfl, rfl, ⟨by decide, by decide⟩, L, _, _, rfl, rfl, eL2, by rw [List.length_map, hl]; exact small1000 (by omega), ?_⟩
    refine ⟨nn, _, xs ++ [nn / 8], rfl, b0, b1, fun b o e => ?_, by rw [upd_same, List.map_append]; rfl, by rw [List.length_append, hl]; rfl⟩
    rw [upd_ne (ne_of_none e hL)]; exact s2 _ _ e
variable (P w K mg base) in
abbrev C__law_stream : Prop := Callee P w K mg base "_law_stream" 1 ["_law_cell", "_law_many"] (sp__law_stream K)
theorem call__law_stream (B : Blt mg) (F : Fun K "_law_stream" "_law_stream" s__law_stream f fd) (hm : mg "_law_stream" = some (.ref f)) : C__law_stream P w K mg base :=
  ⟨f, fd, ok__law_stream B  F, hm, F.kp, F.binds fun _ _ _ _ _ _ us hl => (by obtain ⟨x0, x1, rfl⟩ := len_2 hl; rfl)⟩
def underB (a b : Int) : Bool := !(decide (b % 4 < a % 4) || decide (b / 4 % 4 < a / 4 % 4)) && decide (a % 16 ≠ b % 16)
def sp__law_under (_ : PySem.W.Frag) : Sp := fun vs H Q _ => ∃ (a b : Int), vs = [.int a, .int b] ∧ Q (.bl (underB a b)) H
theorem ok__law_under (B : Blt mg) (F : Fun K "_law_under" "_law_under" s__law_under f fd) : FnOk P w K mg base CX0 1 f fd ["_law_one", "_law_other"] (sp__law_under K) := by
  refine F.ok sc__law_under (fun vs H Q E h => ?_) (fun cdv A outer s H vs Q E hr h => ?_)
  · obtain ⟨a, b, rfl, _⟩ := h
    rfl
  · obtain ⟨a, b, rfl, q⟩ := h
    refine ⟨_, (pss_cons (ps_if (PW.pt (pw_or (pt_cmpR op_gt (pe_op op_mod (pv 0) pe_int) (pe_op op_mod (pv 1) pe_int) (nomark _)) (pw_or1 (pt_cmpR op_gt (pe_op op_mod (pe_op op_fdiv (pv 0) pe_int) pe_int) (pe_op op_mod (pe_op op_fdiv (pv 1) pe_int) pe_int) (nomark _))))) (pss_one (ps_ret pe_bl)) pss_nil)
      (pss_one (ps_ret (pe_cmpR op_ne (pe_op op_mod (pv 0) pe_int) (pe_op op_mod (pv 1) pe_int) (nomark _))))), ?_⟩
    refine ⟨_, rfl, _, _, rfl, rfl, (by show (0 : Int) < 4; decide), _, rfl, _, _, rfl, rfl, (by show (0 : Int) < 4; decide), _, _, rfl, rfl, _, rfl, ite2 (fun h1 => iteT ?_) (fun h1 => ?_)⟩
    · have h1 := of_decide_eq_true h1
      rw [show underB a b = false by unfold underB; rw [decide_eq_true h1]; rfl] at q
      exact q
    have h1 : ¬ b % 4 < a % 4 := fun z => h1 (decide_eq_true z)
    refine ⟨_, rfl, _, _, rfl, rfl, ⟨by decide, by decide⟩, _, _, rfl, rfl, (by show (0 : Int) < 4; decide), _, rfl, _, _, rfl, rfl, ⟨by decide, by decide⟩, _, _, rfl, rfl, (by show (0 : Int) < 4; decide), _, _, rfl, rfl, _, rfl, ite2 (fun h2 => ?_) (fun h2 => ?_)⟩
    · have h2 := of_decide_eq_true h2
      rw [show underB a b = false by unfold underB; rw [decide_eq_true h2, Bool.or_true]; rfl] at q
      exact q
    have h2 : ¬ b / 4 % 4 < a / 4 % 4 := fun z => h2 (decide_eq_true z)
    refine ⟨_, rfl, _, _, rfl, rfl, (by show (0 : Int) < 16; decide), _, rfl, _, _, rfl, rfl, (by show (0 : Int) < 16; decide), rfl, ?_⟩
    rw [show underB a b = !decide (V.int (a % 16) = V.int (b % 16)) by unfold underB; rw [decide_eq_false h1, decide_eq_false h2]; simp] at q
    exact q
variable (P w K mg base) in
abbrev C__law_under : Prop := Callee P w K mg base "_law_under" 1 ["_law_one", "_law_other"] (sp__law_under K)
theorem call__law_under (B : Blt mg) (F : Fun K "_law_under" "_law_under" s__law_under f fd) (hm : mg "_law_under" = some (.ref f)) : C__law_under P w K mg base :=
  ⟨f, fd, ok__law_under B  F, hm, F.kp, F.binds fun _ _ _ _ _ _ us hl => (by obtain ⟨x0, x1, rfl⟩ := len_2 hl; rfl)⟩
def sp__law_table (K : PySem.W.Frag) : Sp := fun vs H Q _ => ∃ (c : Int) (L : Addr) (ls : List Str), vs = [.int c, .ref L] ∧ SqL K H L (ls.map V.str) ∧ ls.length = 5 ∧
  ∀ (t : Addr) (sts : List Stt) (inn : Int) (ord : List (Str × Str)) (H' : Hp), H t = none → Same H H' → Tab K (fun x => H x = none) H' t sts inn ord → TabOk sts inn ord → Q (.ref t) H'
theorem ok__law_table (B : Blt mg) (c__law_stream : C__law_stream P w K mg base) (c__law_under : C__law_under P w K mg base) (F : Fun K "_law_table" "_law_table" s__law_table f fd) : FnOk P w K mg base CX0 2 f fd ["_law_cell", "_law_labels"] (sp__law_table K) := by
  refine F.ok sc__law_table (fun vs H Q E h => ?_) (fun cdv A outer s H vs Q E hr h => ?_)
  · obtain ⟨c, L, ls, rfl, _⟩ := h
    rfl
  · obtain ⟨c, L, ls, rfl, hL, l5, q⟩ := h
    refine ⟨_, (pss_cons (ps_set (i := 2) sc__law_table.nd rfl (Or.inl rfl) (pe_fn c__law_stream (hr.mono (by decide)) rfl (pa_cons (pv 0) (pa_cons pe_int pa_nil))))
      (pss_cons (ps_set (i := 3) sc__law_table.nd rfl (Or.inl rfl) (pe_op op_add pe_int (pe_op op_mod (pe_ix ix_seq (pv 2) pe_int (fun _ _ => rfl)) pe_int)))
      (pss_cons (ps_set (i := 4) sc__law_table.nd rfl (Or.inl rfl) (pe_lst pa_nil))
      (pss_cons (ps_for PassesOwn.never rfl (pi_range1 rfl B.b_range (pa_cons (pv 3) pa_nil)) (pg_name (i := 5) sc__law_table.nd rfl (Or.inl rfl)) (pss_cons (ps_set (i := 6) sc__law_table.nd rfl (Or.inl rfl) (pe_lst pa_nil))
        (pss_cons (ps_set (i := 7) sc__law_table.nd rfl (Or.inl rfl) (pe_lst pa_nil))
        (pss_cons (ps_for PassesOwn.never rfl (pi_range1 rfl B.b_range (pa_cons pe_int pa_nil)) (pg_name (i := 8) sc__law_table.nd rfl (Or.inl rfl)) (pss_cons (ps_if (pt_cmpR op_gt (pe_op op_mod (pe_ix ix_seq (pv 2) (pe_op op_add (pe_op op_add pe_int (pe_op op_mul pe_int (pv 5))) (pv 8)) (fun _ _ => rfl)) pe_int) pe_int (nomark _)) (pss_one (ps_expr (pe_bm PySem.F.plainAttrs_list PySem.F.slot_list_append PySem.F.type_list_append mr_append (pv 6) (pa_cons (pe_tup (pa_cons (pe_ix ix_seq (pv 1) (pv 8) (fun _ _ => rfl)) (pa_cons (pe_op op_mod (pe_op op_fdiv (pe_ix ix_seq (pv 2) (pe_op op_add (pe_op op_add pe_int (pe_op op_mul pe_int (pv 5))) (pv 8)) (fun _ _ => rfl)) pe_int) (pv 3)) pa_nil))) pa_nil)))) pss_nil)
          (pss_one (ps_if (pt_cmpR op_gt (pe_op op_mod (pe_ix ix_seq (pv 2) (pe_op op_add (pe_op op_add pe_int (pe_op op_mul pe_int (pv 5))) (pv 8)) (fun _ _ => rfl)) pe_int) pe_int (nomark _)) (pss_one (ps_expr (pe_bm PySem.F.plainAttrs_list PySem.F.slot_list_append PySem.F.type_list_append mr_append (pv 7) (pa_cons (pe_ix ix_seq (pv 1) (pv 8) (fun _ _ => rfl)) pa_nil)))) pss_nil))))
        (pss_one (ps_expr (pe_bm PySem.F.plainAttrs_list PySem.F.slot_list_append PySem.F.type_list_append mr_append (pv 4) (pa_cons (pe_tup (pa_cons (pe_callB (call_sortP strC intC) (by rfl) B.b_sorted (by decide +kernel) (pa_cons (pv 6) pa_nil)) (pa_cons (pe_callB call_sortS (by rfl) B.b_sorted (by decide +kernel) (pa_cons (pv 7) pa_nil)) pa_nil))) pa_nil))))))))
      (pss_cons (ps_set (i := 9) sc__law_table.nd rfl (Or.inl rfl) (pe_lst pa_nil))
      (pss_cons (ps_for PassesOwn.never rfl (pi_range1 rfl B.b_range (pa_cons pe_int pa_nil)) (pg_name (i := 8) sc__law_table.nd rfl (Or.inl rfl)) (pss_one (ps_for PassesOwn.never rfl (pi_range1 rfl B.b_range (pa_cons pe_int pa_nil)) (pg_name (i := 5) sc__law_table.nd rfl (Or.inl rfl)) (pss_one (ps_if (pt_val (pe_fn c__law_under (hr.mono (by decide)) rfl (pa_cons (pe_ix ix_seq (pv 2) (pe_op op_add pe_int (pv 8)) (fun _ _ => rfl)) (pa_cons (pe_ix ix_seq (pv 2) (pe_op op_add pe_int (pv 5)) (fun _ _ => rfl)) pa_nil)))) (pss_one (ps_expr (pe_bm PySem.F.plainAttrs_list PySem.F.slot_list_append PySem.F.type_list_append mr_append (pv 9) (pa_cons (pe_tup (pa_cons (pe_ix ix_seq (pv 1) (pv 8) (fun _ _ => rfl)) (pa_cons (pe_ix ix_seq (pv 1) (pv 5) (fun _ _ => rfl)) pa_nil))) pa_nil)))) pss_nil)))))
      (pss_one (ps_ret (pe_tup (pa_cons (pv 4) (pa_cons (pe_op op_mod (pe_ix ix_seq (pv 2) pe_int (fun _ _ => rfl)) (pv 3)) (pa_cons (pe_callB (call_sortP strC strC) (by rfl) B.b_sorted (by decide +kernel) (pa_cons (pv 9) pa_nil)) pa_nil)))))))))))), ?_⟩
    refine ⟨_, rfl, c, 47, rfl, by decide, by decide, fun X xs H1 hxl hX s1 eX => ?_⟩
    have hx47 : xs.length = 47 := hxl
    refine g_in ?_
    try dsimp only
    have ixx : ∀ (i : Int), 0 ≤ i → i < 47 → ∃ v, atI (xs.map V.int) i = some (.int v) := fun i h0 h1 => ints_at h0 (by omega)
    have ixl : ∀ (i : Int), 0 ≤ i → i < 5 → ∃ x ∈ ls, atI (ls.map V.str) i = some (.str x) := fun i h0 h1 => strs_ix h0 (by omega)
    obtain ⟨x0, hx0⟩ := ixx 0 (by decide) (by decide)
    refine ⟨_, rfl, Or.inl ⟨X, _, _, .int x0, rfl, rfl, SqL.of eX, hx0, _, _, rfl, rfl, (by show (0 : Int) < 4; decide), _, _, rfl, rfl, ?_⟩⟩
    try dsimp only
    obtain ⟨m, em⟩ : ∃ m, m = 1 + x0 % 4 := ⟨_, rfl⟩
    rw [← em]
    have m0 : 1 ≤ m ∧ m ≤ 4 := by omega
    refine g_in ?_
    try dsimp only
    refine ⟨by decide, fun D hD => ?_⟩
    have hDH : H D = none := s1.free hD
    obtain ⟨H2, qH2, s2, eD2⟩ := new_at (o := .lst []) hD
    rw [← qH2]
    refine g_in ?_
    try dsimp only
    have nXD : X ≠ D := ne_of_none eX hD
    have L2 : ∀ {H' : Hp}, Keeps (· = D) H2 H' → SqL K H' L (ls.map V.str) := fun {H'} k => by
      have h1 := (s1.trans s2).seq hL
      rcases hL with (h | ⟨u, h⟩) | h
      · exact .inl (.inl (k.at_ _ _ (s2 _ _ (s1 _ _ h)) (ne_of_none h hDH)))
      · exact .inl (.inr ⟨u, k.at_ _ _ (s2 _ _ (s1 _ _ h)) (ne_of_none h hDH)⟩)
      · exact .inr h
    have up : ∀ {H' : Hp}, Keeps (· = D) H2 H' → Same H H' := fun k x o e => k.at_ _ _ (s2 _ _ (s1 _ _ e)) (ne_of_none e hDH)
    refine ⟨_, rfl, _, rfl, by omega, by omega, for_range (lo := 0) (n := m.toNat) (fun i σ H' => ∃ u5 u6 u7 u8 u9 us rs, σ = [some (.int c), some (.ref L), some (.ref X), some (.int m), some (.ref D), u5, u6, u7, u8, u9] ∧ Keeps (· = D) H2 H' ∧ H' D = some (.lst (us.map V.ref)) ∧ StRows K (fun x => H x = none) H' D us rs ∧ rs.length = i ∧ ∀ r ∈ rs, (∀ p ∈ r.1, 0 ≤ p.2 ∧ p.2 < m) ∧ r.1.length ≤ 5 ∧ r.2.length ≤ 5)
      ⟨none, none, none, none, none, [], [], rfl, Keeps.refl fun x o m e => by rw [m, eD2] at e; exact ⟨_, (Option.some.inj e).symm⟩, eD2, StRows.nil, rfl, fun r hr => by simp at hr⟩ ?_ ?_⟩
    · -- a state
      rintro i σ H3 hi ⟨u5, u6, u7, u8, u9, us, rs, rfl, k3, eD3, SR3, hrl, hok⟩
      have i4 : i < 4 := by omega
      refine ⟨by decide, fun G0 hG0 => ?_⟩
      obtain ⟨H4, qH4, s4, eG4⟩ := new_at (o := .lst []) hG0
      rw [← qH4]
      refine g_in ?_
      try dsimp only
      refine ⟨by decide, fun E0 hE0 => ?_⟩
      have s5 := same_new (o := .lst []) hE0
      have eE5 : (upd H4 E0 (.lst [])) E0 = some (.lst []) := upd_same
      have eG5' := s5 _ _ eG4
      generalize upd H4 E0 (.lst []) = H5 at s5 eE5 eG5' ⊢
      refine g_in ?_
      try dsimp only
      have s35 := s4.trans s5
      have nGE : G0 ≠ E0 := ne_of_none eG4 hE0
      have eX3 := k3.at_ _ _ (s2 _ _ eX) nXD
      have hE3 : H3 E0 = none := s4.free hE0
      have nXG : X ≠ G0 := ne_of_none eX3 hG0
      have nXE : X ≠ E0 := ne_of_none eX3 hE3
      have nDG : D ≠ G0 := ne_of_none eD3 hG0
      have nDE : D ≠ E0 := ne_of_none eD3 hE3
      have L3 := L2 k3
      have Lk : ∀ {H' : Hp}, Keeps (fun x => x = G0 ∨ x = E0) H5 H' → SqL K H' L (ls.map V.str) := fun {H'} k => by
        rcases L3 with (h | ⟨u, h⟩) | h
        · exact .inl (.inl (k.at_ _ _ (s35 _ _ h) fun z => z.elim (ne_of_none h hG0) (ne_of_none h hE3)))
        · exact .inl (.inr ⟨u, k.at_ _ _ (s35 _ _ h) fun z => z.elim (ne_of_none h hG0) (ne_of_none h hE3)⟩)
        · exact .inr h
      have up5 : ∀ {H' : Hp}, Keeps (fun x => x = G0 ∨ x = E0) H5 H' → Same H3 H' := fun k x o e => k.at_ _ _ (s35 _ _ e) fun z => z.elim (ne_of_none e hG0) (ne_of_none e hE3)
      have lsk : ∀ x o, (x = G0 ∨ x = E0) → H5 x = some o → ∃ xs, o = HO.lst xs := fun x o m e => by
        rcases m with rfl | rfl
        · rw [eG5'] at e; exact ⟨_, (Option.some.inj e).symm⟩
        · rw [eE5] at e; exact ⟨_, (Option.some.inj e).symm⟩
      refine ⟨5, rfl, by decide, by decide, for_range (lo := 0) (n := 5) (fun j σ H' => ∃ u8 ts gs es, σ = [some (.int c), some (.ref L), some (.ref X), some (.int m), some (.ref D), some (.int (0 + (i : Int))), some (.ref G0), some (.ref E0), u8, u9] ∧ Keeps (fun x => x = G0 ∨ x = E0) H5 H' ∧ H' G0 = some (.lst (ts.map V.ref)) ∧ GT H' ts gs ∧ gs.length ≤ j ∧ (∀ p ∈ gs, 0 ≤ p.2 ∧ p.2 < m) ∧ H' E0 = some (.lst (es.map V.str)) ∧ es.length ≤ j)
        ⟨_, [], [], [], rfl, ⟨fun x o e _ => e, lsk⟩, eG5', GT.nil, Nat.le_refl _, fun p hp => by simp at hp, eE5, Nat.le_refl _⟩ ?_ ?_⟩
      · rintro j σ H6 hj ⟨u8, ts, gs, es, rfl, k6, eG6, T6, hgl, hgm, eE6, hel⟩
        refine g_in ?_
        try dsimp only
        have eX6 := k6.at_ _ _ (s35 _ _ eX3) fun z => z.elim nXG nXE
        have L6 := Lk k6
        obtain ⟨v1, hv1⟩ := ixx (1 + 5 * (0 + (i : Int)) + (0 + (j : Int))) (by omega) (by omega)
        obtain ⟨v2, hv2⟩ := ixx (21 + 5 * (0 + (i : Int)) + (0 + (j : Int))) (by omega) (by omega)
        obtain ⟨lb, hlb, hvl⟩ := ixl (0 + (j : Int)) (by omega) (by omega)
        have lts : (ts.map V.ref).length < sizeLine := by rw [List.length_map, T6.len]; exact small1000 (by omega)
        have les : (es.map V.str).length < sizeLine := by rw [List.length_map]; exact small1000 (by omega)
        refine seq_cut (fun σ' H' => ∃ ts gs, σ' = [some (.int c), some (.ref L), some (.ref X), some (.int m), some (.ref D), some (.int (0 + (i : Int))), some (.ref G0), some (.ref E0), some (.int (0 + (j : Int))), u9] ∧ Keeps (fun x => x = G0 ∨ x = E0) H5 H' ∧ H' G0 = some (.lst (ts.map V.ref)) ∧ GT H' ts gs ∧ gs.length ≤ j + 1 ∧ (∀ p ∈ gs, 0 ≤ p.2 ∧ p.2 < m) ∧ H' E0 = some (.lst (es.map V.str))) ?_ (fun N hN => ?_)
        · rintro σ' H7 ⟨ts, gs, rfl, k7, eG7, T7, hgl7, hgm7, eE7⟩
          have eX7 := k7.at_ _ _ (s35 _ _ eX3) fun z => z.elim nXG nXE
          have L7 := Lk k7
          refine ⟨_, rfl, _, rfl, _, _, rfl, rfl, Or.inl ⟨by decide, by decide⟩, _, _, rfl, rfl, _, rfl, _, _, rfl, rfl, Or.inl ⟨X, _, _, .int v2, rfl, rfl, SqL.of eX7, hv2, _, _, rfl, rfl, (by show (0 : Int) < 3; decide), _, _, rfl, rfl, _, rfl, ite2 (fun _ => ?_) (fun _ => ?_)⟩⟩
          · refine ⟨_, rfl, Or.inl ⟨rfl, _, SqL.of eE7⟩, _, rfl, _, rfl, Or.inl ⟨L, _, _, .str lb, rfl, rfl, L7, hvl, E0, _, _, rfl, rfl, eE7, les, ?_⟩⟩
            refine ⟨_, ts, gs, es ++ [lb], rfl, k7.set (.inr rfl), by rw [upd_ne nGE]; exact eG7, T7.updL eE7, hgl7, hgm7, by rw [upd_same, List.map_append]; rfl, by rw [List.length_append, List.length_singleton]; omega⟩
          · exact ⟨_, ts, gs, es, rfl, k7, eG7, T7, hgl7, hgm7, eE7, by omega⟩
        refine ⟨_, rfl, _, rfl, _, _, rfl, rfl, Or.inl ⟨by decide, by decide⟩, _, _, rfl, rfl, _, rfl, _, _, rfl, rfl, Or.inl ⟨X, _, _, .int v1, rfl, rfl, SqL.of eX6, hv1, _, _, rfl, rfl, (by show (0 : Int) < 4; decide), _, _, rfl, rfl, _, rfl, ite2 (fun _ => ?_) (fun _ => ?_)⟩⟩
        rotate_left
        · exact hN _ _ ⟨ts, gs, rfl, k6, eG6, T6, by omega, hgm, eE6⟩
        refine ⟨_, rfl, Or.inl ⟨rfl, _, SqL.of eG6⟩, _, rfl, _, rfl, Or.inl ⟨L, _, _, .str lb, rfl, rfl, L6, hvl, _, rfl, _, rfl, _, _, rfl, rfl, Or.inl ⟨by decide, by decide⟩, _, _, rfl, rfl, _, rfl, _, _, rfl, rfl, Or.inl ⟨X, _, _, .int v1, rfl, rfl, SqL.of eX6, hv1, _, _, rfl, rfl, ⟨by decide, by decide⟩, _, rfl, _, _, rfl, rfl, (by show 0 < m; omega), two_le, fun t ht => ?_⟩⟩⟩
        obtain ⟨H7, qH7, s7, et⟩ := new_at (o := .tup [.str lb, .int (v1 / 4 % m)]) ht
        rw [← qH7]
        have eG7 := s7 _ _ eG6
        refine ⟨G0, _, _, rfl, rfl, eG7, lts, ?_⟩
        refine hN _ _ ⟨ts ++ [t], gs ++ [(lb, v1 / 4 % m)], rfl, (k6.same s7).set (.inl rfl), by rw [upd_same, List.map_append]; rfl, ((T6.same s7).snoc et).updL eG7, by rw [List.length_append, List.length_singleton]; omega, fun p hp => ?_, by rw [upd_ne (Ne.symm nGE)]; exact s7 _ _ eE6⟩
        rcases List.mem_append.mp hp with hp | hp
        · exact hgm p hp
        · rw [List.mem_singleton.mp hp]
          exact ⟨Int.emod_nonneg _ (by omega), Int.emod_lt_of_pos _ (by omega)⟩
      · rintro σ H6 ⟨u8, ts, gs, es, rfl, k6, eG6, T6, hgl, hgm, eE6, hel⟩
        have s36 := up5 k6
        have k06 : Keeps (· = D) H2 H6 := ⟨fun x o e n => s36 _ _ (k3.at_ x o e n), k3.ls⟩
        have eD6 := s36 _ _ eD3
        obtain ⟨zs, z1, z2, z3⟩ := zip_rows (K := K) T6.len T6.at_
        have lzs : zs.length = gs.length := by rw [← z2, List.length_map]
        refine ⟨_, rfl, Or.inl ⟨rfl, _, SqL.of eD6⟩, _, rfl, G0, zs, rfl, SqL.of (by rw [z1]; exact eG6), by omega, z3, fun G zs' hp hw hG => ?_⟩
        have s7 := same_new (o := .lst (zs'.map (·.1))) hG
        have eG7 : (upd H6 G (.lst (zs'.map (·.1)))) G = some (.lst (zs'.map (·.1))) := upd_same
        have z3' : ∀ z ∈ zs', RowGo K (upd H6 G (.lst (zs'.map (·.1)))) z := fun z hz => by
          obtain ⟨t, a1, a2⟩ := z3 z (hp.mem_iff.mp hz)
          exact ⟨t, a1, s7.seqT a2⟩
        generalize upd H6 G (.lst (zs'.map (·.1))) = H7 at s7 eG7 z3' ⊢
        refine ⟨_, rfl, E0, es, rfl, SqL.of (s7 _ _ eE6), by omega, fun E1 es' hpe hwe hE1 => ?_⟩
        have s8 := same_new (o := .lst (es'.map V.str)) hE1
        have eE8 : (upd H7 E1 (.lst (es'.map V.str))) E1 = some (.lst (es'.map V.str)) := upd_same
        have z4 : ∀ z ∈ zs', RowGo K (upd H7 E1 (.lst (es'.map V.str))) z := fun z hz => by
          obtain ⟨t, a1, a2⟩ := z3' z hz
          exact ⟨t, a1, s8.seqT a2⟩
        generalize upd H7 E1 (.lst (es'.map V.str)) = H8 at s8 eE8 z4 ⊢
        refine ⟨two_le, fun u hu => ?_⟩
        obtain ⟨H9, qH9, s9, eu⟩ := new_at (o := .tup [.ref G, .ref E1]) hu
        rw [← qH9]
        have s69 := (s7.trans s8).trans s9
        have eD9 := s69 _ _ eD6
        have s06 := up k06
        have hGH : H G = none := s06.free hG
        have hEH : H E1 = none := (s06.trans s7).free hE1
        have nG : G ≠ D := fun y => by rw [y, eD6] at hG; cases hG
        have nE : E1 ≠ D := fun y => by rw [y, s7 _ _ eD6] at hE1; cases hE1
        have gG : Goes K H9 G (zs'.map (·.2)) := ⟨_, SqL.of ((s8.trans s9) _ _ eG7), (rows_dts zs' z4).same s9⟩
        refine ⟨D, _, _, rfl, rfl, eD9, by rw [List.length_map, SR3.len, hrl]; exact small1000 (by omega), ?_⟩
        have SR9 := ((SR3.same (s36.trans s69)).snoc (r := (zs'.map (·.2), es')) eu gG ((s8.trans s9) _ _ eG7) (s9 _ _ eE8) nG nE hGH hEH).updL (o := .lst (us.map V.ref ++ [.ref u])) eD9
        refine ⟨_, _, _, _, _, us ++ [u], rs ++ [(zs'.map (·.2), es')], rfl, (k06.same s69).set rfl, by rw [upd_same, List.map_append]; rfl, SR9, by rw [List.length_append, hrl]; rfl, fun r hr => ?_⟩
        rcases List.mem_append.mp hr with hr | hr
        · exact hok r hr
        · rw [List.mem_singleton.mp hr]
          refine ⟨fun p hp' => hgm p ?_, ?_, ?_⟩
          · have : (zs'.map (·.2)).Perm gs := by rw [← z2]; exact hp.map _
            exact this.mem_iff.mp hp'
          · show (zs'.map (·.2)).length ≤ 5
            rw [List.length_map, hp.length_eq]; omega
          · show es'.length ≤ 5
            rw [hpe.length_eq]; omega
    rintro σ H3 ⟨u5, u6, u7, u8, u9, us, rs, rfl, k3, eD3, SR3, hrl, hok⟩
    have s03 := up k3
    have eX3 := k3.at_ _ _ (s2 _ _ eX) nXD
    have L3 := s03.seq hL
    refine ⟨by decide, fun O hO => ?_⟩
    have hOH : H O = none := s03.free hO
    obtain ⟨H4, qH4, s4, eO4⟩ := new_at (o := .lst []) hO
    rw [← qH4]
    refine g_in ?_
    try dsimp only
    have nXO : X ≠ O := ne_of_none eX3 hO
    have Lk : ∀ {H' : Hp}, Keeps (· = O) H4 H' → SqL K H' L (ls.map V.str) := fun {H'} k => by
      rcases L3 with (h | ⟨u, h⟩) | h
      · exact .inl (.inl (k.at_ _ _ (s4 _ _ h) (ne_of_none h hO)))
      · exact .inl (.inr ⟨u, k.at_ _ _ (s4 _ _ h) (ne_of_none h hO)⟩)
      · exact .inr h
    refine ⟨5, rfl, by decide, by decide, for_range (lo := 0) (n := 5) (fun j σ H' => ∃ u5 u8 ts ps, σ = [some (.int c), some (.ref L), some (.ref X), some (.int m), some (.ref D), u5, u6, u7, u8, some (.ref O)] ∧ Keeps (· = O) H4 H' ∧ H' O = some (.lst (ts.map V.ref)) ∧ Tups H' ts ps ∧ ps.length ≤ 5 * j)
      ⟨_, _, [], [], rfl, Keeps.refl fun x o m e => by rw [m, eO4] at e; exact ⟨_, (Option.some.inj e).symm⟩, eO4, Tups.nil, Nat.le_refl _⟩ ?_ ?_⟩
    · rintro j σ H5 hj ⟨u5, u8, ts, ps, rfl, k5, eO5, T5, hpl⟩
      refine ⟨5, rfl, by decide, by decide, for_range (lo := 0) (n := 5) (fun k σ H' => ∃ u5 ts ps, σ = [some (.int c), some (.ref L), some (.ref X), some (.int m), some (.ref D), u5, u6, u7, some (.int (0 + (j : Int))), some (.ref O)] ∧ Keeps (· = O) H4 H' ∧ H' O = some (.lst (ts.map V.ref)) ∧ Tups H' ts ps ∧ ps.length ≤ 5 * j + k)
        ⟨_, ts, ps, rfl, k5, eO5, T5, hpl⟩ ?_ ?_⟩
      · rintro k σ H6 hk ⟨u5, ts, ps, rfl, k6, eO6, T6, hpl6⟩
        have eX6 := k6.at_ _ _ (s4 _ _ eX3) nXO
        have L6 := Lk k6
        obtain ⟨v1, hv1⟩ := ixx (41 + (0 + (j : Int))) (by omega) (by omega)
        obtain ⟨v2, hv2⟩ := ixx (41 + (0 + (k : Int))) (by omega) (by omega)
        obtain ⟨la, hla, hvla⟩ := ixl (0 + (j : Int)) (by omega) (by omega)
        obtain ⟨lb, hlb, hvlb⟩ := ixl (0 + (k : Int)) (by omega) (by omega)
        refine ⟨_, rfl, _, rfl, _, _, rfl, rfl, Or.inl ⟨X, _, _, .int v1, rfl, rfl, SqL.of eX6, hv1, _, rfl, _, rfl, _, _, rfl, rfl, Or.inl ⟨X, _, _, .int v2, rfl, rfl, SqL.of eX6, hv2, v1, v2, rfl, _, rfl, ite2 (fun _ => ?_) (fun _ => ?_)⟩⟩⟩
        rotate_left
        · exact ⟨_, ts, ps, rfl, k6, eO6, T6, by omega⟩
        refine ⟨_, rfl, Or.inl ⟨rfl, _, SqL.of eO6⟩, _, rfl, _, rfl, Or.inl ⟨L, _, _, .str la, rfl, rfl, L6, hvla, _, rfl, _, rfl, Or.inl ⟨L, _, _, .str lb, rfl, rfl, L6, hvlb, two_le, fun t ht => ?_⟩⟩⟩
        obtain ⟨H7, qH7, s7, et⟩ := new_at (o := .tup [.str la, .str lb]) ht
        rw [← qH7]
        have eO7 := s7 _ _ eO6
        have k7 : Keeps (· = O) H7 (upd H7 O (.lst (ts.map V.ref ++ [.ref t]))) := Keeps.one eO7
        refine ⟨O, _, _, rfl, rfl, eO7, by rw [List.length_map, T6.len]; exact small1000 (by omega), ?_⟩
        exact ⟨_, ts ++ [t], ps ++ [(la, lb)], rfl, (k6.same s7).set rfl, by rw [upd_same, List.map_append]; rfl, k7.tups ((T6.same s7).snoc et), by rw [List.length_append, List.length_singleton]; omega⟩
      · rintro σ H6 ⟨u5, ts, ps, rfl, k6, eO6, T6, hpl6⟩
        exact ⟨_, _, ts, ps, rfl, k6, eO6, T6, by omega⟩
    rintro σ H5 ⟨u5', u8', ts, ps, rfl, k5, eO5, T5, hpl⟩
    have s35 : Same H3 H5 := fun x o e => k5.at_ _ _ (s4 _ _ e) (ne_of_none e hO)
    have eX5 := s35 _ _ eX3
    have eD5 := s35 _ _ eD3
    obtain ⟨v46, hv46⟩ := ixx 46 (by decide) (by decide)
    obtain ⟨zs, z1, z2, z3⟩ := pairs_rows T5
    have lzs : zs.length = ps.length := by rw [← z2, List.length_map]
    refine ⟨_, rfl, _, rfl, Or.inl ⟨X, _, _, .int v46, rfl, rfl, SqL.of eX5, hv46, _, rfl, _, _, rfl, rfl, (by show 0 < m; omega), _, rfl, O, zs, rfl, SqL.of (by rw [z1]; exact eO5), by omega, fun z hz => ?_, fun O2 zs' hp hw hO2 => ?_⟩⟩
    · obtain ⟨t, a1, a2⟩ := z3 z hz
      exact ⟨t, a1, SqT.of a2⟩
    have s6 := same_new (o := .lst (zs'.map (·.1))) hO2
    obtain ⟨ts', t1, t2⟩ := rows_pairs (H := upd H5 O2 (.lst (zs'.map (·.1)))) (zs := zs') fun z hz => by
      obtain ⟨t, a1, a2⟩ := z3 z (hp.mem_iff.mp hz)
      exact ⟨t, a1, s6 _ _ a2⟩
    have eO6 : (upd H5 O2 (.lst (zs'.map (·.1)))) O2 = some (.lst (ts'.map V.ref)) := by rw [upd_same, t1]
    generalize upd H5 O2 (.lst (zs'.map (·.1))) = H6 at s6 t2 eO6 ⊢
    try dsimp only
    refine ⟨three_le, fun t ht => ?_⟩
    have a0 := Int.emod_nonneg v46 (show m ≠ 0 by omega)
    have a1 := Int.emod_lt_of_pos v46 (show 0 < m by omega)
    generalize v46 % m = inn at a0 a1 ht ⊢
    obtain ⟨H7, qH7, s7, et⟩ := new_at (o := .tup [.ref D, .int inn, .ref O2]) ht
    rw [← qH7]
    have s37 := (s35.trans s6).trans s7
    have hO2H : H O2 = none := (s03.trans s35).free hO2
    have hrm : (rs.length : Int) = m := by rw [hrl]; omega
    refine q t rs inn (zs'.map (·.2)) H7 ((s03.trans (s35.trans s6)).free ht) (s03.trans s37) ⟨D, O2, us, ts', et, hDH, hO2H, fun y => ?_, s37 _ _ eD3, SR3.same s37, s7 _ _ eO6, t2.same s7⟩ ⟨by omega, fun s hs p hp' => ?_, by omega, fun s hs => ?_, ?_⟩
    · rw [← y, eD5] at hO2; cases hO2
    · have := (hok s hs).1 p hp'; omega
    · have := (hok s hs).2; omega
    · rw [List.length_map, hp.length_eq]; omega
variable (P w K mg base) in
abbrev C__law_table : Prop := Callee P w K mg base "_law_table" 2 ["_law_cell", "_law_labels"] (sp__law_table K)
theorem call__law_table (B : Blt mg) (c__law_stream : C__law_stream P w K mg base) (c__law_under : C__law_under P w K mg base) (F : Fun K "_law_table" "_law_table" s__law_table f fd) (hm : mg "_law_table" = some (.ref f)) : C__law_table P w K mg base :=
  ⟨f, fd, ok__law_table B c__law_stream c__law_under F, hm, F.kp, F.binds fun _ _ _ _ _ _ us hl => (by obtain ⟨x0, x1, rfl⟩ := len_2 hl; rfl)⟩
def sp_refuse_too_great (K : PySem.W.Frag) : Sp := fun vs H Q _ => ∃ (a p : Addr) (ss : List Stt) (ps : List V), vs = [.ref a, .ref p] ∧ Stts K H a ss ∧ Fits ss ∧ SqL K H p ps ∧ ps.length ≤ 40 ∧ Q .non H
theorem ok_refuse_too_great (B : Blt mg) (F : Fun K "refuse_too_great" "refuse_too_great" s_refuse_too_great f fd) : FnOk P w K mg base CX0 1 f fd ["states", "pairs"] (sp_refuse_too_great K) := by
  refine F.ok sc_refuse_too_great (fun vs H Q E h => ?_) (fun cdv A outer s H vs Q E hr h => ?_)
  · obtain ⟨a, p, ss, ps, rfl, _⟩ := h
    rfl
  · obtain ⟨a, p, ss, ps, rfl, ⟨vs, hS, hD⟩, hF, hP, hpl, q⟩ := h
    have lvs := hD.len_map
    have hn8 := hF.n
    refine ⟨_, (pss_cons (ps_if (pt_cmpR op_gt (pe_callB call_len (by rfl) B.b_len (by decide +kernel) (pa_cons (pv 0) pa_nil)) (pe_glob (v := .int 8) rfl (Classical.choose_spec B.c_MOST_STATES) ⟨_, rfl⟩) (nomark _)) (pss_one ps_never) pss_nil)
      (pss_cons (ps_for PassesOwn.never rfl (pi_list (pv 0)) (pg_tup rfl (pgs_cons (pg_name (i := 2) sc_refuse_too_great.nd rfl (Or.inl rfl)) (pgs_cons (pg_name (i := 3) sc_refuse_too_great.nd rfl (Or.inl rfl)) pgs_nil))) (pss_cons (ps_if (pt_cmpR op_gt (pe_callB call_len (by rfl) B.b_len (by decide +kernel) (pa_cons (pv 2) pa_nil)) (pe_glob (v := .int 8) rfl (Classical.choose_spec B.c_MOST_GOES) ⟨_, rfl⟩) (nomark _)) (pss_one ps_never) pss_nil)
        (pss_one (ps_if (pt_cmpR op_gt (pe_callB call_len (by rfl) B.b_len (by decide +kernel) (pa_cons (pv 3) pa_nil)) (pe_glob (v := .int 8) rfl (Classical.choose_spec B.c_MOST_ENDS) ⟨_, rfl⟩) (nomark _)) (pss_one ps_never) pss_nil))))
      (pss_one (ps_if (pt_cmpR op_gt (pe_callB call_len (by rfl) B.b_len (by decide +kernel) (pa_cons (pv 1) pa_nil)) (pe_glob (v := .int 40) rfl (Classical.choose_spec B.c_MOST_PAIRS) ⟨_, rfl⟩) (nomark _)) (pss_one ps_never) pss_nil)))), ?_⟩
    refine ⟨_, rfl, _, _, rfl, Or.inl ⟨_, hS, rfl⟩, _, _, rfl, rfl, _, rfl, ?_⟩
    rw [decide_eq_false (show ¬ ((vs.length : Nat) : Int) > 8 by omega)]
    refine iteF ?_
    refine ⟨_, rfl, a, rfl, ⟨_, hS⟩, for_list (xs := vs) (fun i σ H' => ∃ u2 u3, σ = [some (.ref a), some (.ref p), u2, u3] ∧ H' = H) ⟨none, none, rfl, rfl⟩ (fun i σ H' _ ⟨_, _, _, e⟩ => by rw [e]; exact hS) ?_ ?_⟩
    · rintro i x σ H2 hx ⟨u2, u3, rfl, rfl⟩
      obtain ⟨s, t, g, e, hs, rfl, ht, ⟨gv, hg, hgd⟩, he⟩ := hD.sts_get hx
      have lgv := hgd.len_map
      have b1 := hF.gs s (List.mem_of_getElem? hs)
      have b2 := hF.es s (List.mem_of_getElem? hs)
      refine ⟨t, _, rfl, ht, rfl, _, _, rfl, _, _, rfl, rfl, ?_⟩
      refine ⟨_, rfl, _, _, rfl, Or.inl ⟨_, hg, rfl⟩, _, _, rfl, rfl, _, rfl, ?_⟩
      rw [decide_eq_false (show ¬ ((gv.length : Nat) : Int) > 8 by omega)]
      refine iteF ⟨_, rfl, _, _, rfl, Or.inl ⟨_, he, rfl⟩, _, _, rfl, rfl, _, rfl, ?_⟩
      rw [List.length_map, decide_eq_false (show ¬ ((s.2.length : Nat) : Int) > 8 by omega)]
      exact iteF ⟨_, _, rfl, rfl⟩
    · rintro σ H2 ⟨u2, u3, rfl, rfl⟩
      refine ⟨_, rfl, _, _, rfl, Or.inl ⟨_, hP, rfl⟩, _, _, rfl, rfl, _, rfl, ?_⟩
      rw [decide_eq_false (show ¬ ((ps.length : Nat) : Int) > 40 by omega)]
      exact iteF q
variable (P w K mg base) in
abbrev C_refuse_too_great : Prop := Callee P w K mg base "refuse_too_great" 1 ["states", "pairs"] (sp_refuse_too_great K)
theorem call_refuse_too_great (B : Blt mg) (F : Fun K "refuse_too_great" "refuse_too_great" s_refuse_too_great f fd) (hm : mg "refuse_too_great" = some (.ref f)) : C_refuse_too_great P w K mg base :=
  ⟨f, fd, ok_refuse_too_great B  F, hm, F.kp, F.binds fun _ _ _ _ _ _ us hl => (by obtain ⟨x0, x1, rfl⟩ := len_2 hl; rfl)⟩
def sp_labels_of (K : PySem.W.Frag) : Sp := fun vs H Q _ => ∃ (g : Addr) (gs : List (Str × Int)), vs = [.ref g] ∧ Goes K H g gs ∧ gs.length ≤ 100 ∧ ∀ (p : Addr) (H' : Hp), H p = none → Same H H' → H' p = some (.lst ((gs.map (·.1)).map V.str)) → Q (.ref p) H'
theorem ok_labels_of (B : Blt mg) (F : Fun K "labels_of" "labels_of" s_labels_of f fd) : FnOk P w K mg base CX0 1 f fd ["goes"] (sp_labels_of K) := by
  refine F.ok sc_labels_of (fun vs H Q E h => ?_) (fun cdv A outer s H vs Q E hr h => ?_)
  · obtain ⟨g, gs, rfl, _⟩ := h
    rfl
  · obtain ⟨g, gs, rfl, ⟨vs, hS, hD⟩, hlen, q⟩ := h
    have lvs := hD.len_map
    refine ⟨_, (pss_one (ps_ret (pe_comp (g := gTup K 2 (gCons (gName 0) (gCons (gName 1) gNil))) rfl labels_of_cs1 (pi_list (pv 0)) (fun _ _ _ _ _ => (pg_tup rfl (pgs_cons (pg_name (i := 0) labels_of_cs1.nd rfl (Or.inl rfl)) (pgs_cons (pg_name (i := 1) labels_of_cs1.nd rfl (Or.inl rfl)) pgs_nil)))) (fun _ _ _ _ _ => pf_nil) (fun _ _ _ _ _ => (pv 0))))), ?_⟩
    refine ⟨_, rfl, g, rfl, ⟨_, hS⟩, comp_listI (xs := vs) (fun D i ys H' => Same H H' ∧ H' D = some (.lst ys) ∧ ys = ((gs.take i).map (·.1)).map V.str)
      (fun D hD => ⟨same_new hD, upd_same, rfl⟩) (fun D i ys H' ⟨s1, _⟩ => s1.seq hS) (fun D i x ys H2 R hD0 hx hv k => ?_) (fun R ys H2 hR hv => ?_)⟩
    · obtain ⟨s2, eD, rfl⟩ := hv
      obtain ⟨p, t, hp, rfl, ht⟩ := hD.goes_get hx
      have hil : i < gs.length := (List.getElem?_eq_some_iff.mp hp).1
      refine ⟨t, _, rfl, s2.seqT ht, rfl, _, _, rfl, _, _, rfl, rfl, ?_⟩
      refine ⟨_, rfl, k _ _ eD (by rw [List.length_map, List.length_map, List.length_take]; exact small1000 (by omega)) ⟨fun b o e => ?_, upd_same, ?_⟩⟩
      · rw [upd_ne (ne_of_none e hD0)]; exact s2 b o e
      · rw [List.take_succ, hp, List.map_append, List.map_append]; rfl
    · obtain ⟨s2, eD, rfl⟩ := hv
      rw [lvs, List.take_length] at eD
      exact q R H2 hR s2 eD
variable (P w K mg base) in
abbrev C_labels_of : Prop := Callee P w K mg base "labels_of" 1 ["goes"] (sp_labels_of K)
theorem call_labels_of (B : Blt mg) (F : Fun K "labels_of" "labels_of" s_labels_of f fd) (hm : mg "labels_of" = some (.ref f)) : C_labels_of P w K mg base :=
  ⟨f, fd, ok_labels_of B  F, hm, F.kp, F.binds fun _ _ _ _ _ _ us hl => (by obtain ⟨x0, rfl⟩ := len_1 hl; rfl)⟩
def sp_labels_told (K : PySem.W.Frag) : Sp := fun vs H Q _ => ∃ (a p : Addr) (ss : List Stt) (ps : List (Str × Str)), vs = [.ref a, .ref p] ∧ StE K H a ss ∧ Fits ss ∧ Prs K H p ps ∧ ps.length ≤ 60 ∧ ∀ (l : Addr) (H' : Hp), H l = none → Same H H' → H' l = some (.lst ((labelsOf ss ++ labelsP ps).map V.str)) → Q (.ref l) H'
theorem ok_labels_told (B : Blt mg) (c_labels_of : C_labels_of P w K mg base) (F : Fun K "labels_told" "labels_told" s_labels_told f fd) : FnOk P w K mg base CX0 2 f fd ["states", "pairs"] (sp_labels_told K) := by
  refine F.ok sc_labels_told (fun vs H Q E h => ?_) (fun cdv A outer s H vs Q E hr h => ?_)
  · obtain ⟨a, p, ss, ps, rfl, _⟩ := h
    rfl
  · obtain ⟨a, p, ss, ps, rfl, ⟨vs, hS, lvs, hE⟩, hF, ⟨pws, hP, hPD⟩, hpl, q⟩ := h
    have lpws := hPD.len_map
    have hn8 := hF.n
    have tkl : ∀ i, (labelsOf (ss.take i)).length ≤ 128 := fun i => by
      have := labelsOf_len (ss.take i) (fun s hs => hF.gs s (List.mem_of_mem_take hs)) (fun s hs => hF.es s (List.mem_of_mem_take hs))
      rw [List.length_take] at this
      omega
    refine ⟨_, (pss_cons (ps_set (i := 2) sc_labels_told.nd rfl (Or.inl rfl) (pe_lst pa_nil))
      (pss_cons (ps_for PassesOwn.never rfl (pi_list (pv 0)) (pg_tup rfl (pgs_cons (pg_name (i := 3) sc_labels_told.nd rfl (Or.inl rfl)) (pgs_cons (pg_name (i := 4) sc_labels_told.nd rfl (Or.inl rfl)) pgs_nil))) (pss_cons (ps_expr (pe_bm PySem.F.plainAttrs_list PySem.F.slot_list_extend PySem.F.type_list_extend mr_extend (pv 2) (pa_cons (pe_fn c_labels_of (hr.mono (by decide)) rfl (pa_cons (pv 3) pa_nil)) pa_nil)))
        (pss_one (ps_expr (pe_bm PySem.F.plainAttrs_list PySem.F.slot_list_extend PySem.F.type_list_extend mr_extend (pv 2) (pa_cons (pv 4) pa_nil))))))
      (pss_cons (ps_for PassesOwn.never rfl (pi_list (pv 1)) (pg_tup rfl (pgs_cons (pg_name (i := 5) sc_labels_told.nd rfl (Or.inl rfl)) (pgs_cons (pg_name (i := 6) sc_labels_told.nd rfl (Or.inl rfl)) pgs_nil))) (pss_cons (ps_expr (pe_bm PySem.F.plainAttrs_list PySem.F.slot_list_append PySem.F.type_list_append mr_append (pv 2) (pa_cons (pv 5) pa_nil)))
        (pss_one (ps_expr (pe_bm PySem.F.plainAttrs_list PySem.F.slot_list_append PySem.F.type_list_append mr_append (pv 2) (pa_cons (pv 6) pa_nil))))))
      (pss_one (ps_ret (pv 2)))))), ?_⟩
    refine ⟨by decide, fun D hD => ?_⟩
    refine ⟨_, rfl, a, rfl, ⟨_, (same_new hD).seq hS⟩, for_list (xs := vs) (fun i σ H' => ∃ u3 u4, σ = [some (.ref a), some (.ref p), some (.ref D), u3, u4, none, none] ∧ Same H H' ∧ H' D = some (.lst ((labelsOf (ss.take i)).map V.str))) ⟨none, none, rfl, same_new hD, upd_same⟩ (fun i σ H' _ ⟨_, _, _, e, _⟩ => e.seq hS) ?_ ?_⟩
    · rintro i x σ H2 hx ⟨u3, u4, rfl, s2, eD⟩
      have hil : i < ss.length := by rw [← lvs]; exact (List.getElem?_eq_some_iff.mp hx).1
      have hs := List.getElem?_eq_getElem hil
      obtain ⟨t, g, e, rfl, ht, hg, he⟩ := hE i x _ hx hs
      have b1 := hF.gs _ (List.mem_of_getElem? hs)
      have b2 := hF.es _ (List.mem_of_getElem? hs)
      have etk : ss.take (i + 1) = ss.take i ++ [ss[i]] := by rw [List.take_succ, hs]; rfl
      have tki := tkl i
      refine ⟨t, _, rfl, s2.seqT ht, rfl, _, _, rfl, _, _, rfl, rfl, ?_⟩
      refine ⟨_, rfl, Or.inl ⟨rfl, _, SqL.of eD⟩, _, rfl, g, _, rfl, hg.same s2, by omega, fun l1 H3 hl1 s3 e1 => ?_⟩
      have eD3 := s3 _ _ eD
      refine ⟨D, l1, _, _, rfl, rfl, eD3, e1, ?_, ?_⟩
      · rw [List.length_map, List.length_map, List.length_map]; exact Nat.le_of_lt (small1000 (by omega))
      have eD4 : (upd H3 D (.lst ((labelsOf (ss.take i)).map V.str ++ (ss[i].1.map (·.1)).map V.str))) D = some (.lst ((labelsOf (ss.take i)).map V.str ++ (ss[i].1.map (·.1)).map V.str)) := upd_same
      have s4 : Same H (upd H3 D (.lst ((labelsOf (ss.take i)).map V.str ++ (ss[i].1.map (·.1)).map V.str))) := fun b o e => by
        rw [upd_ne (ne_of_none e hD)]; exact s3 _ _ (s2 b o e)
      generalize upd H3 D (.lst ((labelsOf (ss.take i)).map V.str ++ (ss[i].1.map (·.1)).map V.str)) = H4 at eD4 s4 ⊢
      refine ⟨_, rfl, Or.inl ⟨rfl, _, SqL.of eD4⟩, _, rfl, D, e, _, _, rfl, rfl, eD4, s4 _ _ he, ?_, ?_⟩
      · rw [List.length_append, List.length_map, List.length_map, List.length_map, List.length_map]; exact Nat.le_of_lt (small1000 (by omega))
      refine ⟨_, _, rfl, fun b o e => ?_, ?_⟩
      · rw [upd_ne (ne_of_none e hD)]; exact s4 b o e
      · rw [upd_same, etk, labelsOf_snoc, List.map_append, List.map_append]
    · rintro σ H2 ⟨u3, u4, rfl, s2, eD⟩
      rw [lvs, List.take_length] at eD
      have tk8 := tkl ss.length
      rw [List.take_length] at tk8
      refine ⟨_, rfl, p, rfl, ⟨_, s2.seq hP⟩, for_list (xs := pws) (fun i σ H' => ∃ u5 u6, σ = [some (.ref a), some (.ref p), some (.ref D), u3, u4, u5, u6] ∧ Same H H' ∧ H' D = some (.lst ((labelsOf ss ++ labelsP (ps.take i)).map V.str))) ⟨none, none, rfl, s2, by rw [eD]; show _ = some (HO.lst ((labelsOf ss ++ []).map V.str)); rw [List.append_nil]⟩ (fun i σ H' _ ⟨_, _, _, e, _⟩ => e.seq hP) ?_ ?_⟩
      · rintro i x σ H3 hx ⟨u5, u6, rfl, s3, eD3⟩
        obtain ⟨pr, t, hp, rfl, ht⟩ := hPD.pairs_get hx
        have hil : i < ps.length := (List.getElem?_eq_some_iff.mp hp).1
        have etk : ps.take (i + 1) = ps.take i ++ [pr] := by rw [List.take_succ, hp]; rfl
        have lp := labelsP_len (ps.take i)
        rw [List.length_take] at lp
        refine ⟨t, _, rfl, s3.seqT ht, rfl, _, _, rfl, _, _, rfl, rfl, ?_⟩
        refine ⟨_, rfl, Or.inl ⟨rfl, _, SqL.of eD3⟩, _, rfl, D, _, _, rfl, rfl, eD3, ?_, ?_⟩
        · rw [List.length_map, List.length_append]; exact small1000 (by omega)
        refine ⟨_, rfl, Or.inl ⟨rfl, _, SqL.of upd_same⟩, _, rfl, D, _, _, rfl, rfl, upd_same, ?_, ?_⟩
        · rw [List.length_append, List.length_map, List.length_append]; exact small1000 (by simp; omega)
        refine ⟨_, _, rfl, fun b o e => ?_, ?_⟩
        · rw [upd_ne (ne_of_none e hD), upd_ne (ne_of_none e hD)]; exact s3 b o e
        · rw [upd_same, etk, labelsP_snoc]; simp only [List.map_append, List.map_cons, List.map_nil, List.append_assoc]
      · rintro σ H3 ⟨u5, u6, rfl, s3, eD3⟩
        rw [lpws, List.take_length] at eD3
        exact ⟨_, rfl, q D H3 hD s3 eD3⟩
variable (P w K mg base) in
abbrev C_labels_told : Prop := Callee P w K mg base "labels_told" 2 ["states", "pairs"] (sp_labels_told K)
theorem call_labels_told (B : Blt mg) (c_labels_of : C_labels_of P w K mg base) (F : Fun K "labels_told" "labels_told" s_labels_told f fd) (hm : mg "labels_told" = some (.ref f)) : C_labels_told P w K mg base :=
  ⟨f, fd, ok_labels_told B c_labels_of F, hm, F.kp, F.binds fun _ _ _ _ _ _ us hl => (by obtain ⟨x0, x1, rfl⟩ := len_2 hl; rfl)⟩
def signB (c : Nat) : Bool := decide (97 ≤ c) && decide (c ≤ 122)
def nameB (x : Str) : Bool := decide (1 ≤ x.length) && (decide (x.length ≤ 8) && x.cps.toList.all signB)
theorem sign_a (c : Nat) : (!decide ((⟨#[c]⟩ : Str).cps.toList < ("a" : Str).cps.toList)) = decide (97 ≤ c) := by
  show (!decide (([c] : List Nat) < ("a" : Str).cps.toList)) = _
  have e : ("a" : Str).cps.toList = [97] := by decide +kernel
  rw [e, lt_sing]
  by_cases h : c < 97
  · rw [decide_eq_true h, decide_eq_false (by omega)]; rfl
  · rw [decide_eq_false h, decide_eq_true (by omega)]; rfl
theorem sign_z (c : Nat) : (!decide (("z" : Str).cps.toList < (⟨#[c]⟩ : Str).cps.toList)) = decide (c ≤ 122) := by
  show (!decide (("z" : Str).cps.toList < ([c] : List Nat))) = _
  have e : ("z" : Str).cps.toList = [122] := by decide +kernel
  rw [e, lt_sing]
  by_cases h : 122 < c
  · rw [decide_eq_true h, decide_eq_false (by omega)]; rfl
  · rw [decide_eq_false h, decide_eq_true (by omega)]; rfl
def sp_is_name (K : PySem.W.Frag) : Sp := fun vs H Q _ => ∃ v, vs = [v] ∧
  ((∃ x, v = .str x ∧ x.length ≤ 1000 ∧ ∀ H', Same H H' → Q (.bl (nameB x)) H') ∨ ∃ T, TyN K H v T ∧ T ≠ .str ∧ Q (.bl false) H)
theorem ok_is_name (B : Blt mg) (F : Fun K "is_name" "is_name" s_is_name f fd) : FnOk P w K mg base CX0 1 f fd ["thing"] (sp_is_name K) := by
  refine F.ok sc_is_name (fun vs H Q E h => ?_) (fun cdv A outer s H vs Q E hr h => ?_)
  · obtain ⟨v, rfl, _⟩ := h
    rfl
  · obtain ⟨v, rfl, h⟩ := h
    refine ⟨_, (pss_cons (ps_if (PW.pt (pw_or (pt_not (pt_val (pe_callB call_isi (by rfl) B.b_isinstance (by decide +kernel) (pa_cons (pv 0) (pa_cons (pe_ty "str" rfl B.b_str (by decide +kernel)) pa_nil))))) (pw_or1 (pt_not (pt_chain op_le op_le pe_int (pe_callB call_len (by rfl) B.b_len (by decide +kernel) (pa_cons (pv 0) pa_nil)) (pe_glob (v := .int 8) rfl (Classical.choose_spec B.c_LONGEST_NAME) ⟨_, rfl⟩)))))) (pss_one (ps_ret pe_bl)) pss_nil)
      (pss_one (ps_ret (pe_callB (call_allL rfl) (by rfl) B.b_all (by decide +kernel) (pa_cons (pe_comp rfl is_name_cs1 (pi_str (pv 0)) (fun _ _ _ _ _ => (pg_name (i := 0) is_name_cs1.nd rfl (Or.inl rfl))) (fun _ _ _ _ _ => pf_nil) (fun _ _ _ _ _ => (pe_chain op_leS op_leS pe_str (pv 0) pe_str))) pa_nil))))), ?_⟩
    rcases h with ⟨x, rfl, hx, q⟩ | ⟨T, ty, hT, q⟩
    · have hz : x.length ≤ sizeLine := Nat.le_of_lt (small1000 hx)
      refine ⟨_, rfl, _, .str, .str, rfl, .str x, _, rfl, iteF ?_⟩
      refine ⟨_, rfl, _, _, rfl, ⟨hz, rfl⟩, _, _, rfl, rfl, _, rfl, ?_⟩
      refine ite2 (fun h1 => ?_) (fun h1 => ?_)
      · have h1 : 1 ≤ x.length := by have := of_decide_eq_true h1; omega
        refine ⟨_, _, rfl, rfl, _, rfl, ?_⟩
        refine ite2 (fun h2 => ?_) (fun h2 => ?_)
        · have h2 : ¬ x.length ≤ 8 := fun z => by
            rw [decide_eq_true (show ((x.length : Nat) : Int) ≤ 8 by omega)] at h2
            cases h2
          have e : nameB x = false := by unfold nameB; rw [decide_eq_false h2]; simp
          have := q H (Same.refl _)
          rw [e] at this
          exact this
        · have h2 : x.length ≤ 8 := by
            refine Nat.le_of_not_lt fun z => h2 ?_
            rw [decide_eq_false (show ¬ ((x.length : Nat) : Int) ≤ 8 by omega)]; rfl
          have e : nameB x = (x.cps.toList.map signB).all id := by
            unfold nameB; rw [decide_eq_true h1, decide_eq_true h2, List.all_map]; rfl
          refine ⟨_, rfl, _, rfl, comp_str (f := fun c => V.bl (signB c)) hz (fun i c H2 D R hc s2 hD k => ?_) (fun H2 D s2 hD e2 => ?_)⟩
          · refine ⟨_, rfl, _, _, rfl, rfl, _, rfl, ?_⟩
            show if (!decide ((⟨#[c]⟩ : Str).cps.toList < ("a" : Str).cps.toList)) = true then _ else _
            rw [show (!decide ((⟨#[c]⟩ : Str).cps.toList < ("a" : Str).cps.toList)) = decide (97 ≤ c) from sign_a c]
            refine ite2 (fun h3 => ?_) (fun h3 => ?_)
            · refine ⟨_, _, rfl, rfl, ?_⟩
              rw [show (V.bl ((fun a b : Str => !decide (b.cps.toList < a.cps.toList)) ⟨#[c]⟩ "z")) = V.bl (decide (c ≤ 122)) from congrArg V.bl (sign_z c)]
              have := k H2 (Same.refl _)
              unfold signB at this
              rw [h3] at this
              exact this
            · have := k H2 (Same.refl _)
              unfold signB at this
              rw [Bool.not_eq_true _ |>.mp h3] at this
              exact this
          · refine ⟨_, x.cps.toList.map signB, rfl, SqL.of (by rw [List.map_map]; exact e2), ?_⟩
            rw [← e]
            exact q H2 s2
      · have h1 : ¬ 1 ≤ x.length := fun z => h1 (decide_eq_true (by omega))
        have e : nameB x = false := by unfold nameB; rw [decide_eq_false h1]; rfl
        have := q H (Same.refl _)
        rw [e] at this
        exact ⟨_, rfl, iteT this⟩
    · refine ⟨_, rfl, _, .str, T, rfl, ty, _, rfl, ?_⟩
      cases T with
      | str => exact absurd rfl hT
      | _ => exact iteT (iteT q)
variable (P w K mg base) in
abbrev C_is_name : Prop := Callee P w K mg base "is_name" 1 ["thing"] (sp_is_name K)
theorem call_is_name (B : Blt mg) (F : Fun K "is_name" "is_name" s_is_name f fd) (hm : mg "is_name" = some (.ref f)) : C_is_name P w K mg base :=
  ⟨f, fd, ok_is_name B  F, hm, F.kp, F.binds fun _ _ _ _ _ _ us hl => (by obtain ⟨x0, rfl⟩ := len_1 hl; rfl)⟩
def sp_refuse_no_names (K : PySem.W.Frag) : Sp := fun vs H Q _ => ∃ (a p : Addr) (ss : List Stt) (ps : List (Str × Str)), vs = [.ref a, .ref p] ∧ StE K H a ss ∧ Fits ss ∧ Prs K H p ps ∧ ps.length ≤ 60 ∧ (∀ x ∈ labelsOf ss ++ labelsP ps, nameB x = true) ∧ ∀ H', Same H H' → Q .non H'
theorem ok_refuse_no_names (B : Blt mg) (c_labels_told : C_labels_told P w K mg base) (c_is_name : C_is_name P w K mg base) (F : Fun K "refuse_no_names" "refuse_no_names" s_refuse_no_names f fd) : FnOk P w K mg base CX0 3 f fd ["states", "pairs"] (sp_refuse_no_names K) := by
  refine F.ok sc_refuse_no_names (fun vs H Q E h => ?_) (fun cdv A outer s H vs Q E hr h => ?_)
  · obtain ⟨a, p, ss, ps, rfl, _⟩ := h
    rfl
  · obtain ⟨a, p, ss, ps, rfl, hS, hF, hP, hpl, hN, q⟩ := h
    refine ⟨_, (pss_one (ps_for PassesOwn.never rfl (pi_list (pe_fn c_labels_told (hr.mono (by decide)) rfl (pa_cons (pv 0) (pa_cons (pv 1) pa_nil)))) (pg_name (i := 2) sc_refuse_no_names.nd rfl (Or.inl rfl)) (pss_one (ps_if (pt_not (pt_val (pe_fn c_is_name (hr.mono (by decide)) rfl (pa_cons (pv 2) pa_nil)))) (pss_one ps_never) pss_nil)))), ?_⟩
    refine ⟨_, rfl, _, rfl, a, p, ss, ps, rfl, hS, hF, hP, hpl, fun l H1 hl s1 el => ?_⟩
    refine ⟨l, rfl, ⟨_, SqL.of el⟩, for_list (xs := (labelsOf ss ++ labelsP ps).map V.str) (fun i σ H' => ∃ u2, σ = [some (.ref a), some (.ref p), u2] ∧ Same H1 H') ⟨none, rfl, Same.refl _⟩ (fun i σ H' _ ⟨_, _, e⟩ => SqL.of (e _ _ el)) ?_ ?_⟩
    · rintro i x σ H2 hx ⟨u2, rfl, s2⟩
      obtain ⟨b, hb, rfl⟩ := map_at hx
      have hn := hN b (List.mem_of_getElem? hb)
      have hlen : b.length ≤ 8 := by
        unfold nameB at hn
        rw [Bool.and_eq_true, Bool.and_eq_true] at hn
        exact of_decide_eq_true hn.2.1
      refine ⟨_, rfl, _, rfl, Or.inl ⟨b, rfl, by omega, fun H3 s3 => ?_⟩⟩
      rw [hn]
      exact ⟨_, rfl, iteF ⟨_, rfl, s2.trans s3⟩⟩
    · rintro σ H2 ⟨u2, rfl, s2⟩
      exact q H2 (s1.trans s2)
variable (P w K mg base) in
abbrev C_refuse_no_names : Prop := Callee P w K mg base "refuse_no_names" 3 ["states", "pairs"] (sp_refuse_no_names K)
theorem call_refuse_no_names (B : Blt mg) (c_labels_told : C_labels_told P w K mg base) (c_is_name : C_is_name P w K mg base) (F : Fun K "refuse_no_names" "refuse_no_names" s_refuse_no_names f fd) (hm : mg "refuse_no_names" = some (.ref f)) : C_refuse_no_names P w K mg base :=
  ⟨f, fd, ok_refuse_no_names B c_labels_told c_is_name F, hm, F.kp, F.binds fun _ _ _ _ _ _ us hl => (by obtain ⟨x0, x1, rfl⟩ := len_2 hl; rfl)⟩
def wholeT : Ty → Bool
  | .int => true
  | _ => false
def sp_is_whole (K : PySem.W.Frag) : Sp := fun vs H Q _ => ∃ v T, vs = [v] ∧ TyN K H v T ∧ Q (.bl (wholeT T)) H
theorem ok_is_whole (B : Blt mg) (F : Fun K "is_whole" "is_whole" s_is_whole f fd) : FnOk P w K mg base CX0 1 f fd ["thing"] (sp_is_whole K) := by
  refine F.ok sc_is_whole (fun vs H Q E h => ?_) (fun cdv A outer s H vs Q E hr h => ?_)
  · obtain ⟨v, T, rfl, _⟩ := h
    rfl
  · obtain ⟨v, T, rfl, ty, q⟩ := h
    refine ⟨_, (pss_one (ps_ret (pe_and (pe_callB call_isi (by rfl) B.b_isinstance (by decide +kernel) (pa_cons (pv 0) (pa_cons (pe_ty "int" rfl B.b_int (by decide +kernel)) pa_nil))) (pe_one (pe_not (pe_callB call_isi (by rfl) B.b_isinstance (by decide +kernel) (pa_cons (pv 0) (pa_cons (pe_ty "bool" rfl B.b_bool (by decide +kernel)) pa_nil)))))))), ?_⟩
    refine ⟨_, rfl, _, .int, T, rfl, ty, _, rfl, ?_⟩
    cases T with
    | int => exact iteT ⟨_, rfl, _, .bool, .int, rfl, ty, _, rfl, q⟩
    | bool => exact iteT ⟨_, rfl, _, .bool, .bool, rfl, ty, _, rfl, q⟩
    | _ => exact iteF q
variable (P w K mg base) in
abbrev C_is_whole : Prop := Callee P w K mg base "is_whole" 1 ["thing"] (sp_is_whole K)
theorem call_is_whole (B : Blt mg) (F : Fun K "is_whole" "is_whole" s_is_whole f fd) (hm : mg "is_whole" = some (.ref f)) : C_is_whole P w K mg base :=
  ⟨f, fd, ok_is_whole B  F, hm, F.kp, F.binds fun _ _ _ _ _ _ us hl => (by obtain ⟨x0, rfl⟩ := len_1 hl; rfl)⟩
def sp_is_place (_ : PySem.W.Frag) : Sp := fun vs H Q _ => ∃ (n m : Int), vs = [.int n, .int m] ∧ 0 ≤ n ∧ n < m ∧ Q (.bl true) H
theorem ok_is_place (B : Blt mg) (c_is_whole : C_is_whole P w K mg base) (F : Fun K "is_place" "is_place" s_is_place f fd) : FnOk P w K mg base CX0 2 f fd ["number", "many"] (sp_is_place K) := by
  refine F.ok sc_is_place (fun vs H Q E h => ?_) (fun cdv A outer s H vs Q E hr h => ?_)
  · obtain ⟨n, m, rfl, _⟩ := h
    rfl
  · obtain ⟨n, m, rfl, h0, h1, q⟩ := h
    refine ⟨_, (pss_one (ps_ret (pe_and (pe_fn c_is_whole (hr.mono (by decide)) rfl (pa_cons (pv 0) pa_nil)) (pe_one (pe_chain op_le op_lt pe_int (pv 0) (pv 1)))))), ?_⟩
    refine ⟨_, rfl, _, .int, rfl, .int n, _, rfl, iteT ?_⟩
    refine ⟨_, rfl, _, _, rfl, rfl, _, rfl, ?_⟩
    rw [decide_eq_true h0]
    refine iteT ⟨_, rfl, _, _, rfl, rfl, ?_⟩
    have e : V.bl true = V.bl (decide (n < m)) := by rw [decide_eq_true h1]
    rw [e] at q
    exact q
variable (P w K mg base) in
abbrev C_is_place : Prop := Callee P w K mg base "is_place" 2 ["number", "many"] (sp_is_place K)
theorem call_is_place (B : Blt mg) (c_is_whole : C_is_whole P w K mg base) (F : Fun K "is_place" "is_place" s_is_place f fd) (hm : mg "is_place" = some (.ref f)) : C_is_place P w K mg base :=
  ⟨f, fd, ok_is_place B c_is_whole F, hm, F.kp, F.binds fun _ _ _ _ _ _ us hl => (by obtain ⟨x0, x1, rfl⟩ := len_2 hl; rfl)⟩
def sp_refuse_no_places (K : PySem.W.Frag) : Sp := fun vs H Q _ => ∃ (a : Addr) (ss : List Stt) (n : Int), vs = [.ref a, .int n] ∧ Stts K H a ss ∧ 0 ≤ n ∧ n < ss.length ∧ (∀ s ∈ ss, ∀ g ∈ s.1, 0 ≤ g.2 ∧ g.2 < ss.length) ∧ Q .non H
theorem ok_refuse_no_places (B : Blt mg) (c_is_place : C_is_place P w K mg base) (F : Fun K "refuse_no_places" "refuse_no_places" s_refuse_no_places f fd) : FnOk P w K mg base CX0 3 f fd ["states", "inner"] (sp_refuse_no_places K) := by
  refine F.ok sc_refuse_no_places (fun vs H Q E h => ?_) (fun cdv A outer s H vs Q E hr h => ?_)
  · obtain ⟨a, ss, n, rfl, _⟩ := h
    rfl
  · obtain ⟨a, ss, n, rfl, ⟨vs, hS, hD⟩, n0, n1, hG, q⟩ := h
    have lvs := hD.len_map
    refine ⟨_, (pss_cons (ps_if (pt_not (pt_list (pv 0))) (pss_one ps_never) pss_nil)
      (pss_cons (ps_if (pt_not (pt_val (pe_fn c_is_place (hr.mono (by decide)) rfl (pa_cons (pv 1) (pa_cons (pe_callB call_len (by rfl) B.b_len (by decide +kernel) (pa_cons (pv 0) pa_nil)) pa_nil))))) (pss_one ps_never) pss_nil)
      (pss_one (ps_for PassesOwn.never rfl (pi_list (pv 0)) (pg_tup rfl (pgs_cons (pg_name (i := 2) sc_refuse_no_places.nd rfl (Or.inl rfl)) (pgs_cons (pg_name (i := 3) sc_refuse_no_places.nd rfl (Or.inl rfl)) pgs_nil))) (pss_one (ps_for PassesOwn.never rfl (pi_list (pv 2)) (pg_tup rfl (pgs_cons (pg_name (i := 4) sc_refuse_no_places.nd rfl (Or.inl rfl)) (pgs_cons (pg_name (i := 5) sc_refuse_no_places.nd rfl (Or.inl rfl)) pgs_nil))) (pss_one (ps_if (pt_not (pt_val (pe_fn c_is_place (hr.mono (by decide)) rfl (pa_cons (pv 5) (pa_cons (pe_callB call_len (by rfl) B.b_len (by decide +kernel) (pa_cons (pv 0) pa_nil)) pa_nil))))) (pss_one ps_never) pss_nil)))))))), ?_⟩
    refine ⟨_, rfl, a, vs, rfl, hS, ?_⟩
    have hne : vs.isEmpty = false := by
      cases vs with
      | nil => simp at lvs; omega
      | cons _ _ => rfl
    rw [hne]
    refine iteF ⟨_, rfl, _, rfl, _, _, rfl, Or.inl ⟨_, hS, rfl⟩, n, _, rfl, n0, by omega, _, rfl, iteF ?_⟩
    refine ⟨_, rfl, a, rfl, ⟨_, hS⟩, for_list (xs := vs) (fun i σ H' => ∃ u2 u3 u4 u5, σ = [some (.ref a), some (.int n), u2, u3, u4, u5] ∧ H' = H) ⟨none, none, none, none, rfl, rfl⟩ (fun i σ H' _ ⟨_, _, _, _, _, e⟩ => by rw [e]; exact hS) ?_ ?_⟩
    · rintro i x σ H2 hx ⟨u2, u3, u4, u5, rfl, rfl⟩
      obtain ⟨s, t, g, e, hs, rfl, ht, ⟨gv, hg, hgd⟩, he⟩ := hD.sts_get hx
      refine ⟨t, _, rfl, ht, rfl, _, _, rfl, _, _, rfl, rfl, ?_⟩
      refine ⟨_, rfl, g, rfl, ⟨_, hg⟩, for_list (xs := gv) (fun i σ H' => ∃ u4 u5, σ = [some (.ref a), some (.int n), some (.ref g), some (.ref e), u4, u5] ∧ H' = H2) ⟨_, _, rfl, rfl⟩ (fun i σ H' _ ⟨_, _, _, e⟩ => by rw [e]; exact hg) ?_ ?_⟩
      · rintro j y σ H3 hy ⟨u4, u5, rfl, rfl⟩
        obtain ⟨p, t', hp, rfl, ht'⟩ := hgd.goes_get hy
        obtain ⟨p0, p1⟩ := hG s (List.mem_of_getElem? hs) p (List.mem_of_getElem? hp)
        refine ⟨t', _, rfl, ht', rfl, _, _, rfl, _, _, rfl, rfl, ?_⟩
        exact ⟨_, rfl, _, rfl, _, _, rfl, Or.inl ⟨_, hS, rfl⟩, p.2, _, rfl, p0, by omega, _, rfl, iteF ⟨_, _, rfl, rfl⟩⟩
      · rintro σ H3 ⟨u4, u5, rfl, rfl⟩
        exact ⟨_, _, _, _, rfl, rfl⟩
    · rintro σ H2 ⟨u2, u3, u4, u5, rfl, rfl⟩
      exact q
variable (P w K mg base) in
abbrev C_refuse_no_places : Prop := Callee P w K mg base "refuse_no_places" 3 ["states", "inner"] (sp_refuse_no_places K)
theorem call_refuse_no_places (B : Blt mg) (c_is_place : C_is_place P w K mg base) (F : Fun K "refuse_no_places" "refuse_no_places" s_refuse_no_places f fd) (hm : mg "refuse_no_places" = some (.ref f)) : C_refuse_no_places P w K mg base :=
  ⟨f, fd, ok_refuse_no_places B c_is_place F, hm, F.kp, F.binds fun _ _ _ _ _ _ us hl => (by obtain ⟨x0, x1, rfl⟩ := len_2 hl; rfl)⟩
def sp_is_one_twice (K : PySem.W.Frag) : Sp := fun vs H Q _ => ∃ (l : Addr) (ls : List Str), vs = [.ref l] ∧ SqL K H l (ls.map V.str) ∧ ls.length ≤ 1000 ∧ ls.Nodup ∧ ∀ H', Same H H' → Q (.bl false) H'
theorem ok_is_one_twice (B : Blt mg) (F : Fun K "is_one_twice" "is_one_twice" s_is_one_twice f fd) : FnOk P w K mg base CX0 1 f fd ["labels"] (sp_is_one_twice K) := by
  refine F.ok sc_is_one_twice (fun vs H Q E h => ?_) (fun cdv A outer s H vs Q E hr h => ?_)
  · obtain ⟨l, ls, rfl, _⟩ := h
    rfl
  · obtain ⟨l, ls, rfl, hL, hll, hnd, q⟩ := h
    refine ⟨_, (pss_one (ps_ret (pe_cmpR op_lt (pe_callB call_len_setS (by rfl) B.b_len (by decide +kernel) (pa_cons (pe_callTy (call_set_of rfl) (by rfl) B.b_set (by decide +kernel) (pa_cons (pv 0) pa_nil)) pa_nil)) (pe_callB call_len (by rfl) B.b_len (by decide +kernel) (pa_cons (pv 0) pa_nil)) (nomark _)))), ?_⟩
    refine ⟨_, rfl, l, ls, rfl, hL, hll, fun s n hn hs => ?_⟩
    refine ⟨_, n, rfl, upd_same, by rw [hn.mpr hnd]; exact hll, _, rfl, _, ls.length, rfl, Or.inl ⟨_, (same_new hs).seq hL, by rw [List.length_map]⟩, _, _, rfl, rfl, ?_⟩
    have key : ∀ o, Q (V.bl (decide ((n : Int) < (ls.length : Int)))) (upd H s o) := fun o => by
      have := q _ (same_new (o := o) hs)
      rw [show V.bl false = V.bl (decide ((n : Int) < (ls.length : Int))) by rw [hn.mpr hnd, decide_eq_false (by omega)]] at this
      exact this
    exact key _
variable (P w K mg base) in
abbrev C_is_one_twice : Prop := Callee P w K mg base "is_one_twice" 1 ["labels"] (sp_is_one_twice K)
theorem call_is_one_twice (B : Blt mg) (F : Fun K "is_one_twice" "is_one_twice" s_is_one_twice f fd) (hm : mg "is_one_twice" = some (.ref f)) : C_is_one_twice P w K mg base :=
  ⟨f, fd, ok_is_one_twice B  F, hm, F.kp, F.binds fun _ _ _ _ _ _ us hl => (by obtain ⟨x0, rfl⟩ := len_1 hl; rfl)⟩
def sp_refuse_twice (K : PySem.W.Frag) : Sp := fun vs H Q _ => ∃ (a : Addr) (ss : List Stt), vs = [.ref a] ∧ Stts K H a ss ∧ Fits ss ∧ (∀ s ∈ ss, (s.1.map (·.1)).Nodup ∧ s.2.Nodup) ∧ ∀ H', Same H H' → Q .non H'
theorem ok_refuse_twice (B : Blt mg) (c_is_one_twice : C_is_one_twice P w K mg base) (c_labels_of : C_labels_of P w K mg base) (F : Fun K "refuse_twice" "refuse_twice" s_refuse_twice f fd) : FnOk P w K mg base CX0 2 f fd ["states"] (sp_refuse_twice K) := by
  refine F.ok sc_refuse_twice (fun vs H Q E h => ?_) (fun cdv A outer s H vs Q E hr h => ?_)
  · obtain ⟨a, ss, rfl, _⟩ := h
    rfl
  · obtain ⟨a, ss, rfl, ⟨vs, hS, hD⟩, hF, hN, q⟩ := h
    have lvs := hD.len_map
    refine ⟨_, (pss_one (ps_for PassesOwn.never rfl (pi_list (pv 0)) (pg_tup rfl (pgs_cons (pg_name (i := 1) sc_refuse_twice.nd rfl (Or.inl rfl)) (pgs_cons (pg_name (i := 2) sc_refuse_twice.nd rfl (Or.inl rfl)) pgs_nil))) (pss_cons (ps_if (pt_val (pe_fn c_is_one_twice (hr.mono (by decide)) rfl (pa_cons (pe_fn c_labels_of (hr.mono (by decide)) rfl (pa_cons (pv 1) pa_nil)) pa_nil))) (pss_one ps_never) pss_nil)
        (pss_one (ps_if (pt_val (pe_fn c_is_one_twice (hr.mono (by decide)) rfl (pa_cons (pv 2) pa_nil))) (pss_one ps_never) pss_nil))))), ?_⟩
    refine ⟨_, rfl, a, rfl, ⟨_, hS⟩, for_list (xs := vs) (fun i σ H' => ∃ u1 u2, σ = [some (.ref a), u1, u2] ∧ Same H H') ⟨none, none, rfl, Same.refl _⟩ (fun i σ H' _ ⟨_, _, _, e⟩ => e.seq hS) ?_ ?_⟩
    · rintro i x σ H2 hx ⟨u1, u2, rfl, s2⟩
      obtain ⟨s, t, g, e, hs, rfl, ht, hg, he⟩ := hD.sts_get hx
      have b1 := hF.gs s (List.mem_of_getElem? hs)
      have b2 := hF.es s (List.mem_of_getElem? hs)
      obtain ⟨d1, d2⟩ := hN s (List.mem_of_getElem? hs)
      refine ⟨t, _, rfl, s2.seqT ht, rfl, _, _, rfl, _, _, rfl, rfl, ?_⟩
      refine ⟨_, rfl, g, s.1, rfl, hg.same s2, by omega, fun l H3 hl s3 el => ?_⟩
      refine ⟨l, _, rfl, SqL.of el, by rw [List.length_map]; omega, d1, fun H4 s4 => ⟨_, rfl, iteF ?_⟩⟩
      have s24 := (s2.trans s3).trans s4
      exact ⟨_, rfl, e, s.2, rfl, s24.seq he, by omega, d2, fun H5 s5 => ⟨_, rfl, iteF ⟨_, _, rfl, s24.trans s5⟩⟩⟩
    · rintro σ H2 ⟨u1, u2, rfl, s2⟩
      exact q H2 s2
variable (P w K mg base) in
abbrev C_refuse_twice : Prop := Callee P w K mg base "refuse_twice" 2 ["states"] (sp_refuse_twice K)
theorem call_refuse_twice (B : Blt mg) (c_is_one_twice : C_is_one_twice P w K mg base) (c_labels_of : C_labels_of P w K mg base) (F : Fun K "refuse_twice" "refuse_twice" s_refuse_twice f fd) (hm : mg "refuse_twice" = some (.ref f)) : C_refuse_twice P w K mg base :=
  ⟨f, fd, ok_refuse_twice B c_is_one_twice c_labels_of F, hm, F.kp, F.binds fun _ _ _ _ _ _ us hl => (by obtain ⟨x0, rfl⟩ := len_1 hl; rfl)⟩
def sp_worse_by_better (K : PySem.W.Frag) : Sp := fun vs H Q _ => ∃ p ps, vs = [.ref p] ∧ Prs K H p ps ∧ ps.length ≤ 100 ∧ ∀ d ks H', H d = none → Same H H' → WBB H' d ps ks → ks.length ≤ ps.length → Q (.ref d) H'
theorem ok_worse_by_better (B : Blt mg) (F : Fun K "worse_by_better" "worse_by_better" s_worse_by_better f fd) : FnOk P w K mg base CX0 1 f fd ["pairs"] (sp_worse_by_better K) := by
  refine F.ok sc_worse_by_better (fun vs H Q E h => ?_) (fun cdv A outer s H vs Q E hr h => ?_)
  · obtain ⟨p, ps, rfl, _⟩ := h
    rfl
  · obtain ⟨p, ps, rfl, ⟨vs, hS, hD⟩, hlen, q⟩ := h
    have lvs : vs.length = ps.length := by have := hD.length; rw [List.length_map] at this; exact this
    refine ⟨_, (pss_cons (ps_set (i := 1) sc_worse_by_better.nd rfl (Or.inl rfl) pe_dnewK)
      (pss_cons (ps_for PassesOwn.never rfl (pi_list (pv 0)) (pg_tup rfl (pgs_cons (pg_name (i := 2) sc_worse_by_better.nd rfl (Or.inl rfl)) (pgs_cons (pg_name (i := 3) sc_worse_by_better.nd rfl (Or.inl rfl)) pgs_nil))) (pss_one (ps_expr (pe_bm PySem.F.plainAttrs_list PySem.F.slot_list_append PySem.F.type_list_append mr_append (pe_bm PySem.F.plainAttrs_dict PySem.F.slot_dict_setdefault PySem.F.type_dict_setdefault mt_setdefault (pv 1) (pa_cons (pv 2) (pa_cons (pe_lst pa_nil) pa_nil))) (pa_cons (pv 3) pa_nil)))))
      (pss_one (ps_ret (pv 1))))), ?_⟩
    intro d hd
    refine ⟨_, rfl, p, rfl, ⟨vs, (same_new hd).seq hS⟩, for_list (xs := vs) (fun i σ H' => ∃ u2 u3 ks, σ = [some (.ref p), some (.ref d), u2, u3] ∧ Same H H' ∧ WBB H' d (ps.take i) ks ∧ (∀ q ∈ ks, H q.2 = none) ∧ ks.length ≤ i) ⟨none, none, [], rfl, same_new hd, WBB.start upd_same, fun q hq => by simp at hq, Nat.le_refl _⟩ (fun i σ H' _ ⟨_, _, _, _, s2, _⟩ => s2.seq hS) ?_ ?_⟩
    · rintro i x σ H2 hx ⟨u2, u3, ks, rfl, s2, W, hk, hkl⟩
      obtain ⟨pr, t, hp, rfl, ht⟩ := hD.pairs_get hx
      have hil : i < ps.length := (List.getElem?_eq_some_iff.mp hp).1
      have etk : ps.take (i + 1) = ps.take i ++ [(pr.1, pr.2)] := by rw [List.take_succ, hp]; rfl
      have wl : ∀ b, (worseOf (ps.take i) b).length ≤ 100 := fun b => by
        unfold worseOf
        rw [List.length_map]
        refine Nat.le_trans (List.length_filter_le _ _) ?_
        rw [List.length_take]; omega
      refine ⟨t, _, rfl, s2.seqT ht, rfl, _, _, rfl, _, _, rfl, rfl, ?_⟩
      refine ⟨_, rfl, Or.inr (Or.inr (Or.inl ⟨rfl, Or.inl ⟨_, W.dict⟩⟩)), _, rfl, by decide, fun a ha => ?_⟩
      have nda : d ≠ a := ne_of_none W.dict ha
      have haH : H a = none := s2.free ha
      refine ⟨d, kvR ks, Sum.inr pr.1, .ref a, rfl, rfl, by rw [upd_ne nda]; exact W.dict, small1000 (by rw [List.length_map]; omega), fun v hv => ?_, fun hn => ?_⟩
      · rw [val_R] at hv
        obtain ⟨a0, h0, rfl⟩ := Option.map_eq_some_iff.mp hv
        have W1 : WBB (upd H2 a (.lst [])) d (ps.take i) ks := W.same (same_new ha)
        have hl := W1.worse.1 a0 h0
        refine ⟨Or.inl ⟨rfl, _, SqL.of hl⟩, _, rfl, a0, _, _, rfl, rfl, hl, small1000 (by rw [List.length_map]; exact Nat.le_trans (wl _) (by decide)), ?_⟩
        refine ⟨_, _, ks, rfl, fun b o e => ?_, by rw [etk]; exact W1.known h0, hk, Nat.le_succ_of_le hkl⟩
        have n0 : b ≠ a0 := ne_of_none e (hk _ (lookA_mem h0))
        rw [upd_ne n0, upd_ne (ne_of_none e haH)]
        exact s2 b o e
      · rw [val_R] at hn
        have h0 : ks.lookup pr.1 = none := by
          cases e : ks.lookup pr.1 with
          | none => rfl
          | some z => rw [e] at hn; cases hn
        have hl : (upd (upd H2 a (.lst [])) d (.dK (putK (kvR ks) (Sum.inr pr.1) (.ref a)))) a = some (.lst []) := by rw [upd_ne nda.symm, upd_same]
        refine ⟨Or.inl ⟨rfl, _, SqL.of hl⟩, _, rfl, a, _, _, rfl, rfl, hl, small1000 (by decide), ?_⟩
        refine ⟨_, _, ks ++ [(pr.1, a)], rfl, fun b o e => ?_, by rw [etk]; exact W.more h0 ha, fun z hz => ?_, by rw [List.length_append]; exact Nat.add_le_add_right hkl 1⟩
        · rw [upd_ne (ne_of_none e haH), upd_ne (ne_of_none e hd), upd_ne (ne_of_none e haH)]
          exact s2 b o e
        · rcases List.mem_append.mp hz with hz | hz
          · exact hk z hz
          · rw [List.mem_singleton] at hz; subst hz; exact haH
    · rintro σ H2 ⟨u2, u3, ks, rfl, s2, W, hk, hkl⟩
      rw [lvs, List.take_length] at W
      rw [lvs] at hkl
      exact ⟨_, rfl, q d ks H2 hd s2 W hkl⟩
variable (P w K mg base) in
abbrev C_worse_by_better : Prop := Callee P w K mg base "worse_by_better" 1 ["pairs"] (sp_worse_by_better K)
theorem call_worse_by_better (B : Blt mg) (F : Fun K "worse_by_better" "worse_by_better" s_worse_by_better f fd) (hm : mg "worse_by_better" = some (.ref f)) : C_worse_by_better P w K mg base :=
  ⟨f, fd, ok_worse_by_better B  F, hm, F.kp, F.binds fun _ _ _ _ _ _ us hl => (by obtain ⟨x0, rfl⟩ := len_1 hl; rfl)⟩
def sp_reached (_ : PySem.W.Frag) : Sp := fun vs H Q _ => ∃ d ks ps st, vs = [.ref d, .str st] ∧ WBB H d ps ks ∧ ps.length ≤ 100 ∧ ∀ c cf H', H c = none → Same H H' → H' c = some (.dK (kvS cf)) → Tree ps st cf → Full ps st cf → Q (.ref c) H'
theorem ok_reached (B : Blt mg) (F : Fun K "reached" "reached" s_reached f fd) : FnOk P w K mg base CX0 1 f fd ["worse_labels", "start"] (sp_reached K) := by
  refine F.ok sc_reached (fun vs H Q E h => ?_) (fun cdv A outer s H vs Q E hr h => ?_)
  · obtain ⟨d, ks, ps, st, rfl, _⟩ := h
    rfl
  · obtain ⟨d, ks, ps, st, rfl, W, hlen, q⟩ := h
    refine ⟨_, (pss_cons (ps_set (i := 2) sc_reached.nd rfl (Or.inl rfl) pe_dnewK)
      (pss_cons (ps_set (i := 3) sc_reached.nd rfl (Or.inl rfl) (pe_lst (pa_cons (pv 1) pa_nil)))
      (pss_cons (ps_while PassesOwn.never (pt_list (pv 3)) (pss_cons (ps_set (i := 4) sc_reached.nd rfl (Or.inl rfl) (pe_lst pa_nil))
        (pss_cons (ps_for PassesOwn.never rfl (pi_list (pv 3)) (pg_name (i := 5) sc_reached.nd rfl (Or.inl rfl)) (pss_one (ps_for PassesOwn.never rfl (pi_list (pe_bm PySem.F.plainAttrs_dict PySem.F.slot_dict_get PySem.F.type_dict_get (mt_get (hu_of hr)) (pv 0) (pa_cons (pv 5) (pa_cons (pe_lst pa_nil) pa_nil)))) (pg_name (i := 6) sc_reached.nd rfl (Or.inl rfl)) (pss_one (ps_if (pt_cmpR (op_notinDict (hu_of hr)) (pv 6) (pv 2) (by with_unfolding_all rfl)) (pss_cons (ps_asg (pv 5) (pg_sub (pv 2) (pv 6) (set_dict (hu_of hr))))
              (pss_one (ps_expr (pe_bm PySem.F.plainAttrs_list PySem.F.slot_list_append PySem.F.type_list_append mr_append (pv 4) (pa_cons (pv 6) pa_nil))))) pss_nil)))))
        (pss_one (ps_set (i := 3) sc_reached.nd rfl (Or.inl rfl) (pv 4))))))
      (pss_one (ps_ret (pv 2)))))), ?_⟩
    intro c hc
    refine ⟨_, rfl, one_le, fun l hl => ?_⟩
    have hlH : H l = none := (same_new hc).free hl
    have ncl : c ≠ l := ne_of_none upd_same hl
    refine ⟨fun m σ H' => ∃ u4 u5 u6 cf ly la, σ = [some (.ref d), some (.str st), some (.ref c), some (.ref la), u4, u5, u6] ∧ Same H H' ∧ H la = none ∧ H' c = some (.dK (kvS cf)) ∧ H' la = some (.lst (ly.map V.str)) ∧ Lay ps st cf ly [] ∧ m = 2 * (ps.length - cf.length) + (if ly.length = 0 then 0 else 1), ⟨_, none, none, none, [], [st], l, rfl, (same_new hc).trans (same_new hl), hlH, ?_, upd_same, Lay.start, rfl⟩, ?_⟩
    · rw [upd_ne ncl, upd_same]; rfl
    rintro m σ H1 ⟨u4, u5, u6, cf, ly, la, rfl, s1, hlaH, ec, ela, L, em⟩
    refine ⟨_, rfl, la, _, rfl, SqL.of ela, ?_⟩
    cases ly with
    | nil => exact iteF ⟨_, rfl, q c cf H1 hc s1 ec L.tree L.done⟩
    | cons b0 ly0 =>
      refine iteT ?_
      generalize hly : b0 :: ly0 = ly at *
      have hlp : 0 < ly.length := by rw [← hly]; exact Nat.succ_pos _
      refine ⟨fun σ' H' => ∃ u5 u6 cf' fu fa, σ' = [some (.ref d), some (.str st), some (.ref c), some (.ref fa), some (.ref fa), u5, u6] ∧ Same H H' ∧ H fa = none ∧ H' c = some (.dK (kvS cf')) ∧ H' fa = some (.lst (fu.map V.str)) ∧ Lay ps st cf' fu [] ∧ cf'.length = cf.length + fu.length, ?_, ?_⟩
      · rintro σ' H' ⟨u5, u6, cf', fu, fa, rfl, s2, hfa, ec2, efa, L2, el⟩
        refine ⟨_, ?_, _, u5, u6, cf', fu, fa, rfl, s2, hfa, ec2, efa, L2, rfl⟩
        have h1 := L2.tree.length
        rw [em, if_neg (show ¬ ly.length = 0 by omega)]
        by_cases hf0 : fu.length = 0
        · rw [if_pos hf0]; omega
        · rw [if_neg hf0]; omega
      refine ⟨by decide, fun fa hfa => ?_⟩
      have hfaH : H fa = none := s1.free hfa
      have ncf : c ≠ fa := ne_of_none ec hfa
      have nlf : la ≠ fa := ne_of_none ela hfa
      have ncla : c ≠ la := ne_of ec ela (by intro z; cases z)
      refine ⟨_, rfl, la, rfl, ⟨_, SqL.of (by rw [upd_ne nlf]; exact ela)⟩, for_list (xs := ly.map V.str) (fun i σ H' => ∃ u5 u6 cf' fu, σ = [some (.ref d), some (.str st), some (.ref c), some (.ref la), some (.ref fa), u5, u6] ∧ Same H H' ∧ H' la = some (.lst (ly.map V.str)) ∧ H' c = some (.dK (kvS cf')) ∧ H' fa = some (.lst (fu.map V.str)) ∧ Lay ps st cf' (ly.drop i) fu ∧ cf'.length = cf.length + fu.length)
        ⟨_, _, cf, [], rfl, s1.trans (same_new hfa), by rw [upd_ne nlf]; exact ela, by rw [upd_ne ncf]; exact ec, upd_same, L, rfl⟩ (fun i σ H' _ ⟨_, _, _, _, _, _, e, _⟩ => SqL.of e) ?_ ?_⟩
      · rintro i x σ H2 hx ⟨u5, u6, cf', fu, rfl, s2, ela2, ec2, efa2, L2, el⟩
        obtain ⟨b, hb, rfl⟩ : ∃ b, ly[i]? = some b ∧ x = V.str b := by
          rw [List.getElem?_map] at hx
          obtain ⟨b, h1, h2⟩ := Option.map_eq_some_iff.mp hx
          exact ⟨b, h1, h2.symm⟩
        have hil : i < ly.length := (List.getElem?_eq_some_iff.mp hb).1
        have edr : ly.drop i = b :: ly.drop (i + 1) := by
          rw [List.drop_eq_getElem_cons hil]
          rw [List.getElem?_eq_getElem hil] at hb
          rw [Option.some.inj hb]
        rw [edr] at L2
        have W2 := W.same s2
        refine ⟨_, rfl, Or.inr (Or.inr (Or.inl ⟨rfl, Or.inl ⟨_, W2.dict⟩⟩)), _, rfl, by decide, fun na hna => ?_⟩
        have hnaH : H na = none := s2.free hna
        have s3 := s2.trans (same_new (o := .lst []) hna)
        have nac : c ≠ na := ne_of_none ec2 hna
        have naf : fa ≠ na := ne_of_none efa2 hna
        have nal : la ≠ na := ne_of_none ela2 hna
        have W3 := W.same s3
        obtain ⟨wa, hwa, ewa, nwc, nwf, nwl⟩ : ∃ wa, ((ks.lookup b).map V.ref).getD (.ref na) = .ref wa ∧ (upd H2 na (.lst [])) wa = some (.lst ((worseOf ps b).map V.str)) ∧ wa ≠ c ∧ wa ≠ fa ∧ wa ≠ la := by
          cases e : ks.lookup b with
          | none => exact ⟨na, rfl, by rw [upd_same, W.worse.2 e]; rfl, nac.symm, naf.symm, nal.symm⟩
          | some a0 =>
            have h0 := W.worse.1 a0 e
            exact ⟨a0, rfl, s3 _ _ h0, ne_of_none h0 hc, ne_of_none h0 hfaH, ne_of_none h0 hlaH⟩
        refine ⟨d, _, _, ((ks.lookup b).map V.ref), rfl, rfl, by rw [← val_R]; exact DGet.k (k := Sum.inr b) W3.dict, ?_⟩
        rw [hwa]
        refine ⟨wa, rfl, ⟨_, SqL.of ewa⟩, for_list (xs := (worseOf ps b).map V.str) (fun j σ H' => ∃ u6 cf' fu, σ = [some (.ref d), some (.str st), some (.ref c), some (.ref la), some (.ref fa), some (.str b), u6] ∧ Same H H' ∧ H' wa = some (.lst ((worseOf ps b).map V.str)) ∧ H' la = some (.lst (ly.map V.str)) ∧ H' c = some (.dK (kvS cf')) ∧ H' fa = some (.lst (fu.map V.str)) ∧ LayB ps st b ((worseOf ps b).take j) cf' (ly.drop (i + 1)) fu ∧ cf'.length = cf.length + fu.length)
          ⟨_, cf', fu, rfl, s3, ewa, by rw [upd_ne nal]; exact ela2, by rw [upd_ne nac]; exact ec2, by rw [upd_ne naf]; exact efa2, L2.into, el⟩ (fun j σ H' _ ⟨_, _, _, _, _, e, _⟩ => SqL.of e) ?_ ?_⟩
        · rintro j y σ H4 hy ⟨u6, cf2, fu2, rfl, s4, ewa4, ela4, ec4, efa4, L4, el4⟩
          obtain ⟨w, hw, rfl⟩ : ∃ w, (worseOf ps b)[j]? = some w ∧ y = V.str w := by
            rw [List.getElem?_map] at hy
            obtain ⟨w, h1, h2⟩ := Option.map_eq_some_iff.mp hy
            exact ⟨w, h1, h2.symm⟩
          have etk : (worseOf ps b).take (j + 1) = (worseOf ps b).take j ++ [w] := by rw [List.take_succ, hw]; rfl
          have hmem : (b, w) ∈ ps := mem_worseOf.mp (List.mem_of_getElem? hw)
          refine ⟨_, rfl, _, rfl, c, _, rfl, DGet.k (k := Sum.inr w) ec4, _, rfl, ?_⟩
          rw [val_S]
          cases e : cf2.lookup w with
          | some z =>
            refine iteF ?_
            have hk : w ∈ cf2.map (·.1) := List.mem_map.mpr ⟨_, look_mem e, rfl⟩
            exact ⟨_, cf2, fu2, rfl, s4, ewa4, ela4, ec4, efa4, by rw [etk]; exact L4.known hk, el4⟩
          | none =>
            refine iteT ?_
            have hk : w ∉ cf2.map (·.1) := lookA_none e
            have hv : valV (kvS cf2) (Sum.inr w) = none := by rw [val_S, e]; rfl
            have L5 := L4.more hk hmem
            have hcl := L4.tree.length
            have hfl : fu2.length ≤ 100 := by omega
            have ncf' : c ≠ fa := ne_of ec4 efa4 (by intro z; cases z)
            refine ⟨_, rfl, _, rfl, _, rfl, c, _, rfl, DPut.k (k := Sum.inr w) ec4 (small1000 (by rw [List.length_map]; omega)), ?_⟩
            have efa5 : (upd H4 c (.dK (putK (kvS cf2) (Sum.inr w) (.str b)))) fa = some (.lst (fu2.map V.str)) := by rw [upd_ne ncf'.symm]; exact efa4
            refine ⟨_, rfl, Or.inl ⟨rfl, _, SqL.of efa5⟩, _, rfl, fa, _, _, rfl, rfl, efa5, small1000 (by rw [List.length_map]; omega), ?_⟩
            refine ⟨_, cf2 ++ [(w, b)], fu2 ++ [w], rfl, fun z o ez => ?_, ?_, ?_, ?_, ?_, by rw [etk]; exact L5, by rw [List.length_append, List.length_append, el4]; simp; omega⟩
            · rw [upd_ne (ne_of_none ez hfaH), upd_ne (ne_of_none ez hc)]
              exact s4 z o ez
            · rw [upd_ne nwf, upd_ne nwc]; exact ewa4
            · rw [upd_ne nlf, upd_ne ncla.symm]; exact ela4
            · rw [upd_ne ncf', upd_same, putK_new _ hv]
              simp [kvS]
            · rw [upd_same, List.map_append]; rfl
        · rintro σ H4 ⟨u6, cf2, fu2, rfl, s4, ewa4, ela4, ec4, efa4, L4, el4⟩
          rw [List.length_map, List.take_length] at L4
          exact ⟨_, _, cf2, fu2, rfl, s4, ela4, ec4, efa4, L4.out, el4⟩
      · rintro σ H2 ⟨u5, u6, cf', fu, rfl, s2, ela2, ec2, efa2, L2, el⟩
        rw [List.length_map, List.drop_length] at L2
        exact ⟨_, rfl, _, _, cf', fu, fa, rfl, s2, hfaH, ec2, efa2, L2.next, el⟩
variable (P w K mg base) in
abbrev C_reached : Prop := Callee P w K mg base "reached" 1 ["worse_labels", "start"] (sp_reached K)
theorem call_reached (B : Blt mg) (F : Fun K "reached" "reached" s_reached f fd) (hm : mg "reached" = some (.ref f)) : C_reached P w K mg base :=
  ⟨f, fd, ok_reached B  F, hm, F.kp, F.binds fun _ _ _ _ _ _ us hl => (by obtain ⟨x0, x1, rfl⟩ := len_2 hl; rfl)⟩
def ltP (p q : Str × Str) : Prop := ltS p.1 q.1 ∨ (p.1 = q.1 ∧ ltS p.2 q.2)
structure OrdOf (ps ord : List (Str × Str)) : Prop where
  mem : ∀ a b, (a, b) ∈ ord ↔ Path ps a b
  srt : ord.Pairwise ltP
structure OrdUp (ps : List (Str × Str)) (kk : List Str) (ord : List (Str × Str)) : Prop where
  mem : ∀ a b, (a, b) ∈ ord ↔ a ∈ kk ∧ Path ps a b
  srt : ord.Pairwise ltP
theorem OrdUp.more {ps : List (Str × Str)} {kk ss : List Str} {b : Str} {ord : List (Str × Str)} (O : OrdUp ps kk ord) (hk : (kk ++ [b]).Pairwise ltS) (hs : ss.Pairwise ltS) (hm : ∀ w, w ∈ ss ↔ Path ps b w) : OrdUp ps (kk ++ [b]) (ord ++ ss.map fun w => (b, w)) := by
  refine ⟨fun x y => ?_, ?_⟩
  · rw [List.mem_append, O.mem, List.mem_append, List.mem_singleton, List.mem_map]
    constructor
    · rintro (⟨h1, h2⟩ | ⟨w, hw, e⟩)
      · exact ⟨.inl h1, h2⟩
      · cases e
        exact ⟨.inr rfl, (hm _).mp hw⟩
    · rintro ⟨h1 | h1, h2⟩
      · exact .inl ⟨h1, h2⟩
      · subst h1
        exact .inr ⟨y, (hm y).mpr h2, rfl⟩
  · rw [List.pairwise_append] at hk ⊢
    refine ⟨O.srt, ?_, fun x hx y hy => ?_⟩
    · rw [List.pairwise_map]
      exact hs.imp fun {x y} h => .inr ⟨rfl, h⟩
    · obtain ⟨w, _, rfl⟩ := List.mem_map.mp hy
      obtain ⟨x1, x2⟩ := x
      exact .inl (hk.2.2 x1 ((O.mem x1 x2).mp hx).1 b (by simp))
theorem perm_mem {l m : List Str} (h : l.Perm m) {x : Str} : x ∈ l ↔ x ∈ m := h.mem_iff
def sp_all_that_follows (K : PySem.W.Frag) : Sp := fun vs H Q _ => ∃ (p : Addr) (ps : List (Str × Str)), vs = [.ref p] ∧ Prs K H p ps ∧ ps.length ≤ 60 ∧ ∀ (ts : List Addr) (ord : List (Str × Str)) (D : Addr) (H' : Hp), OrdOf ps ord → ord.length ≤ 4000 → H D = none → Same H H' → H' D = some (.lst (ts.map V.ref)) → Tups H' ts ord → Q (.ref D) H'
theorem ok_all_that_follows (B : Blt mg) (c_worse_by_better : C_worse_by_better P w K mg base) (c_reached : C_reached P w K mg base) (F : Fun K "all_that_follows" "all_that_follows" s_all_that_follows f fd) : FnOk P w K mg base CX0 2 f fd ["pairs"] (sp_all_that_follows K) := by
  refine F.ok sc_all_that_follows (fun vs H Q E h => ?_) (fun cdv A outer s H vs Q E hr h => ?_)
  · obtain ⟨p, ps, rfl, _⟩ := h
    rfl
  · obtain ⟨p, ps, rfl, hP, hlen, q⟩ := h
    refine ⟨_, (pss_cons (ps_set (i := 1) sc_all_that_follows.nd rfl (Or.inl rfl) (pe_fn c_worse_by_better (hr.mono (by decide)) rfl (pa_cons (pv 0) pa_nil)))
      (pss_cons (ps_set (i := 2) sc_all_that_follows.nd rfl (Or.inl rfl) (pe_lst pa_nil))
      (pss_cons (ps_for PassesOwn.never rfl (pi_list (pe_callB (call_sortD rfl) (by rfl) B.b_sorted (by decide +kernel) (pa_cons (pv 1) pa_nil))) (pg_name (i := 3) sc_all_that_follows.nd rfl (Or.inl rfl)) (pss_one (ps_for PassesOwn.never rfl (pi_list (pe_callB (call_sortD rfl) (by rfl) B.b_sorted (by decide +kernel) (pa_cons (pe_fn c_reached (hr.mono (by decide)) rfl (pa_cons (pv 1) (pa_cons (pv 3) pa_nil))) pa_nil))) (pg_name (i := 4) sc_all_that_follows.nd rfl (Or.inl rfl)) (pss_one (ps_expr (pe_bm PySem.F.plainAttrs_list PySem.F.slot_list_append PySem.F.type_list_append mr_append (pv 2) (pa_cons (pe_tup (pa_cons (pv 3) (pa_cons (pv 4) pa_nil))) pa_nil)))))))
      (pss_one (ps_ret (pv 2)))))), ?_⟩
    refine ⟨_, rfl, p, ps, rfl, hP, by omega, fun d ks H1 hd s1 W hkl => ?_⟩
    refine ⟨by decide, fun D hD => ?_⟩
    have hDH : H D = none := s1.free hD
    have s2 := s1.trans (same_new (o := .lst []) hD)
    have W2 := W.same (same_new (o := .lst []) hD)
    have eD2 : (upd H1 D (.lst [])) D = some (.lst []) := upd_same
    generalize upd H1 D (.lst []) = H2 at s2 W2 eD2 ⊢
    have hkeys : (kvR ks).map (·.1) = (ks.map (·.1)).map Sum.inr := by rw [List.map_map, List.map_map]; rfl
    refine ⟨_, rfl, d, _, ks.map (·.1), rfl, W2.dict, hkeys, by rw [List.length_map]; omega, fun S kk hkp hks hS => ?_⟩
    have ndk : kk.Nodup := hkp.nodup_iff.mpr W2.nd
    have pwk : kk.Pairwise ltS := sorted_pw hks ndk
    have lkk : kk.length ≤ 60 := by rw [hkp.length_eq, List.length_map]; omega
    have s3 := same_new (o := .lst (kk.map V.str)) hS
    have eS : (upd H2 S (.lst (kk.map V.str))) S = some (.lst (kk.map V.str)) := upd_same
    have hSH : H S = none := s2.free hS
    have nSD : S ≠ D := fun z => by rw [z, eD2] at hS; cases hS
    have eD3 : (upd H2 S (.lst (kk.map V.str))) D = some (.lst []) := s3 _ _ eD2
    have W3 := W2.same s3
    have s03 := s2.trans s3
    generalize upd H2 S (.lst (kk.map V.str)) = H3 at s3 eS eD3 W3 s03 ⊢
    have hdD : d ≠ D := ne_of W3.dict eD3 (by intro z; cases z)
    refine ⟨S, rfl, ⟨_, SqL.of eS⟩, for_list (xs := kk.map V.str) (fun i σ H' => ∃ u3 u4 ts ord, σ = [some (.ref p), some (.ref d), some (.ref D), u3, u4] ∧ Same H H' ∧ H' S = some (.lst (kk.map V.str)) ∧ WBB H' d ps ks ∧ H' D = some (.lst (ts.map V.ref)) ∧ Tups H' ts ord ∧ OrdUp ps (kk.take i) ord ∧ ord.length ≤ 60 * i)
      ⟨none, none, [], [], rfl, s03, eS, W3, eD3, Tups.nil, ⟨fun a b => by simp, List.Pairwise.nil⟩, Nat.le_refl _⟩ (fun i σ H' _ ⟨_, _, _, _, _, _, e, _⟩ => SqL.of e) ?_ ?_⟩
    · rintro i x σ H4 hx ⟨u3, u4, ts, ord, rfl, s4, eS4, W4, eD4, T4, O4, ol⟩
      obtain ⟨b, hb, rfl⟩ := map_at hx
      have hil : i < kk.length := (List.getElem?_eq_some_iff.mp hb).1
      have etk : kk.take (i + 1) = kk.take i ++ [b] := by rw [List.take_succ, hb]; rfl
      refine ⟨_, rfl, _, rfl, d, ks, ps, b, rfl, W4, by omega, fun c cf H5 hc s5 ec Tr Fu => ?_⟩
      have hcf : cf.length ≤ 60 := Nat.le_trans Tr.length hlen
      have hck : (kvS cf).map (·.1) = (cf.map (·.1)).map Sum.inr := by rw [List.map_map, List.map_map]; rfl
      refine ⟨c, _, cf.map (·.1), rfl, ec, hck, by rw [List.length_map]; omega, fun S2 ss hsp hss hS2 => ?_⟩
      have nds : ss.Nodup := hsp.nodup_iff.mpr Tr.nd
      have pws : ss.Pairwise ltS := sorted_pw hss nds
      have lss : ss.length ≤ 60 := by rw [hsp.length_eq, List.length_map]; exact hcf
      have hms : ∀ w, w ∈ ss ↔ Path ps b w := fun w => (perm_mem hsp).trans (Tr.iff Fu)
      have s6 := s5.trans (same_new (o := .lst (ss.map V.str)) hS2)
      have eS2 : (upd H5 S2 (.lst (ss.map V.str))) S2 = some (.lst (ss.map V.str)) := upd_same
      have nS2D : S2 ≠ D := fun z => by rw [z, s5 _ _ eD4] at hS2; cases hS2
      generalize upd H5 S2 (.lst (ss.map V.str)) = H6 at s6 eS2 ⊢
      refine ⟨S2, rfl, ⟨_, SqL.of eS2⟩, for_list (xs := ss.map V.str) (fun j σ H' => ∃ u4 ts, σ = [some (.ref p), some (.ref d), some (.ref D), some (.str b), u4] ∧ Same H H' ∧ H' S = some (.lst (kk.map V.str)) ∧ H' S2 = some (.lst (ss.map V.str)) ∧ WBB H' d ps ks ∧ H' D = some (.lst (ts.map V.ref)) ∧ Tups H' ts (ord ++ (ss.take j).map fun w => (b, w)))
        ⟨_, ts, rfl, s4.trans s6, s6 _ _ eS4, eS2, W4.same s6, s6 _ _ eD4, by rw [List.take_zero, List.map_nil, List.append_nil]; exact T4.same s6⟩ (fun j σ H' _ ⟨_, _, _, _, _, e, _⟩ => SqL.of e) ?_ ?_⟩
      · rintro j y σ H7 hy ⟨u4, ts7, rfl, s7, eS7, eS27, W7, eD7, T7⟩
        obtain ⟨w, hw, rfl⟩ := map_at hy
        have hjl : j < ss.length := (List.getElem?_eq_some_iff.mp hw).1
        refine ⟨_, rfl, Or.inl ⟨rfl, _, SqL.of eD7⟩, _, rfl, _, rfl, two_le, fun t ht => ?_⟩
        have s8 := same_new (o := .tup [.str b, .str w]) ht
        have T8 : Tups (upd H7 t (.tup [.str b, .str w])) (ts7 ++ [t]) (ord ++ (ss.take (j + 1)).map fun w => (b, w)) := by
          rw [List.take_succ, hw, List.map_append, ← List.append_assoc]
          exact (T7.same s8).snoc (p := (b, w)) upd_same
        have eD8 := s8 _ _ eD7
        have nD := T8.ne eD8
        have W8 := W7.same s8
        refine ⟨D, _, _, rfl, rfl, eD8, by rw [List.length_map, T7.len, List.length_append, List.length_map, List.length_take]; exact Nat.lt_of_lt_of_le (show _ < 5000 by omega) (by decide), ?_⟩
        refine ⟨_, ts7 ++ [t], rfl, fun z o e => ?_, ?_, ?_, ?_, by rw [upd_same, List.map_append]; rfl, T8.upd nD⟩
        · rw [upd_ne (ne_of_none e hDH)]; exact s8 _ _ (s7 z o e)
        · rw [upd_ne nSD]; exact s8 _ _ eS7
        · rw [upd_ne nS2D]; exact s8 _ _ eS27
        · refine ⟨by rw [upd_ne hdD]; exact W8.dict, W8.nd, fun r hr => ?_, W8.all, W8.adr⟩
          have nr : r.2 ≠ D := fun z => ne_of_none (W.lst r hr) hD z
          rw [upd_ne nr]
          exact W8.lst r hr
      · rintro σ H7 ⟨u4, ts7, rfl, s7, eS7, eS27, W7, eD7, T7⟩
        rw [List.length_map, List.take_length] at T7
        refine ⟨_, _, ts7, _, rfl, s7, eS7, W7, eD7, T7, ?_, by rw [List.length_append, List.length_map]; omega⟩
        rw [etk]
        refine O4.more ?_ pws hms
        rw [← etk]
        exact pwk.sublist (List.take_sublist _ _)
    · rintro σ H4 ⟨u3, u4, ts, ord, rfl, s4, eS4, W4, eD4, T4, O4, ol⟩
      rw [List.length_map, List.take_length] at O4
      rw [List.length_map] at ol
      refine ⟨_, rfl, q ts ord D H4 ⟨fun a b => ?_, O4.srt⟩ (by omega) hDH s4 eD4 T4⟩
      rw [O4.mem]
      refine ⟨fun h => h.2, fun h => ⟨?_, h⟩⟩
      obtain ⟨pr, hpr, e⟩ := List.mem_map.mp h.fst
      have := W4.all pr hpr
      rw [e] at this
      exact (perm_mem hkp).mpr this
variable (P w K mg base) in
abbrev C_all_that_follows : Prop := Callee P w K mg base "all_that_follows" 2 ["pairs"] (sp_all_that_follows K)
theorem call_all_that_follows (B : Blt mg) (c_worse_by_better : C_worse_by_better P w K mg base) (c_reached : C_reached P w K mg base) (F : Fun K "all_that_follows" "all_that_follows" s_all_that_follows f fd) (hm : mg "all_that_follows" = some (.ref f)) : C_all_that_follows P w K mg base :=
  ⟨f, fd, ok_all_that_follows B c_worse_by_better c_reached F, hm, F.kp, F.binds fun _ _ _ _ _ _ us hl => (by obtain ⟨x0, rfl⟩ := len_1 hl; rfl)⟩
def sp_order_of (K : PySem.W.Frag) : Sp := fun vs H Q _ => ∃ (p : Addr) (ps : List (Str × Str)), vs = [.ref p] ∧ Prs K H p ps ∧ ps.length ≤ 60 ∧ (∀ a, ¬ Path ps a a) ∧ ∀ (ts : List Addr) (ord : List (Str × Str)) (D : Addr) (H' : Hp), OrdOf ps ord → ord.length ≤ 4000 → H D = none → Same H H' → H' D = some (.lst (ts.map V.ref)) → Tups H' ts ord → Q (.ref D) H'
theorem ok_order_of (B : Blt mg) (c_all_that_follows : C_all_that_follows P w K mg base) (F : Fun K "order_of" "order_of" s_order_of f fd) : FnOk P w K mg base CX0 3 f fd ["pairs"] (sp_order_of K) := by
  refine F.ok sc_order_of (fun vs H Q E h => ?_) (fun cdv A outer s H vs Q E hr h => ?_)
  · obtain ⟨p, ps, rfl, _⟩ := h
    rfl
  · obtain ⟨p, ps, rfl, hP, hlen, hac, q⟩ := h
    refine ⟨_, (pss_cons (ps_set (i := 1) sc_order_of.nd rfl (Or.inl rfl) (pe_fn c_all_that_follows (hr.mono (by decide)) rfl (pa_cons (pv 0) pa_nil)))
      (pss_cons (ps_for PassesOwn.never rfl (pi_list (pv 1)) (pg_tup rfl (pgs_cons (pg_name (i := 2) sc_order_of.nd rfl (Or.inl rfl)) (pgs_cons (pg_name (i := 3) sc_order_of.nd rfl (Or.inl rfl)) pgs_nil))) (pss_one (ps_if (pt_cmpR op_eq (pv 2) (pv 3) (nomark _)) (pss_one ps_never) pss_nil)))
      (pss_one (ps_ret (pv 1))))), ?_⟩
    refine ⟨_, rfl, p, ps, rfl, hP, hlen, fun ts ord D H1 O hol hD s1 eD T => ?_⟩
    refine ⟨_, rfl, D, rfl, ⟨_, SqL.of eD⟩, for_list (xs := ts.map V.ref) (fun i σ H' => ∃ u2 u3, σ = [some (.ref p), some (.ref D), u2, u3] ∧ H' = H1) ⟨none, none, rfl, rfl⟩ (fun i σ H' _ ⟨_, _, _, e⟩ => by rw [e]; exact SqL.of eD) ?_ ?_⟩
    · rintro i x σ H2 hx ⟨u2, u3, rfl, rfl⟩
      obtain ⟨t, ht, rfl⟩ := getm hx
      have hil : i < ord.length := by rw [← T.len]; exact (List.getElem?_eq_some_iff.mp ht).1
      have hp := T.at_ i t ord[i] ht (List.getElem?_eq_getElem hil)
      have hne : ¬ (ord[i].1 = ord[i].2) := fun z => by
        have hm : (ord[i].1, ord[i].2) ∈ ord := List.getElem_mem hil
        have := (O.mem _ _).mp hm
        rw [← z] at this
        exact hac _ this
      refine ⟨t, _, rfl, SqT.of hp, rfl, _, _, rfl, _, _, rfl, rfl, ?_⟩
      refine ⟨_, rfl, _, rfl, rfl, _, rfl, ?_⟩
      rw [show decide (V.str ord[i].1 = V.str ord[i].2) = false from decide_eq_false fun z => hne (V.str.inj z)]
      exact iteF ⟨_, _, rfl, rfl⟩
    · rintro σ H2 ⟨u2, u3, rfl, rfl⟩
      exact ⟨_, rfl, q ts ord D _ O hol hD s1 eD T⟩
variable (P w K mg base) in
abbrev C_order_of : Prop := Callee P w K mg base "order_of" 3 ["pairs"] (sp_order_of K)
theorem call_order_of (B : Blt mg) (c_all_that_follows : C_all_that_follows P w K mg base) (F : Fun K "order_of" "order_of" s_order_of f fd) (hm : mg "order_of" = some (.ref f)) : C_order_of P w K mg base :=
  ⟨f, fd, ok_order_of B c_all_that_follows F, hm, F.kp, F.binds fun _ _ _ _ _ _ us hl => (by obtain ⟨x0, rfl⟩ := len_1 hl; rfl)⟩
def sp_sorted_state (K : PySem.W.Frag) : Sp := fun vs H Q _ => ∃ (g e : Addr) (s : Stt), vs = [.ref g, .ref e] ∧ Goes K H g s.1 ∧ SqL K H e (s.2.map V.str) ∧ s.1.length ≤ 8 ∧ s.2.length ≤ 8 ∧
  ∀ (t G E : Addr) (r : Stt) (H' : Hp), SrtOf s r → H t = none → H G = none → H E = none → Same H H' → H' t = some (.tup [.ref G, .ref E]) → Goes K H' G r.1 → (∃ xs, H' G = some (.lst xs)) → H' E = some (.lst (r.2.map V.str)) → Q (.ref t) H'
theorem ok_sorted_state (B : Blt mg) (F : Fun K "sorted_state" "sorted_state" s_sorted_state f fd) : FnOk P w K mg base CX0 1 f fd ["goes", "ends"] (sp_sorted_state K) := by
  refine F.ok sc_sorted_state (fun vs H Q E h => ?_) (fun cdv A outer s H vs Q E hr h => ?_)
  · obtain ⟨g, e, s, rfl, _⟩ := h
    rfl
  · obtain ⟨g, e, s, rfl, ⟨gv, hg, hgd⟩, he, l1, l2, q⟩ := h
    have lgv := hgd.len_map
    refine ⟨_, (pss_one (ps_ret (pe_tup (pa_cons (pe_callB (call_sortP strC intC) (by rfl) B.b_sorted (by decide +kernel) (pa_cons (pe_comp (g := gTup K 2 (gCons (gName 0) (gCons (gName 1) gNil))) rfl sorted_state_cs1 (pi_list (pv 0)) (fun _ _ _ _ _ => (pg_tup rfl (pgs_cons (pg_name (i := 0) sorted_state_cs1.nd rfl (Or.inl rfl)) (pgs_cons (pg_name (i := 1) sorted_state_cs1.nd rfl (Or.inl rfl)) pgs_nil)))) (fun _ _ _ _ _ => pf_nil) (fun _ _ _ _ _ => (pe_tup (pa_cons (pv 0) (pa_cons (pv 1) pa_nil))))) pa_nil)) (pa_cons (pe_callB call_sortS (by rfl) B.b_sorted (by decide +kernel) (pa_cons (pv 1) pa_nil)) pa_nil))))), ?_⟩
    refine ⟨_, rfl, g, rfl, ⟨_, hg⟩, comp_listI (xs := gv) (fun D i ys H' => ∃ ts : List Addr, ts.length = i ∧ Same H H' ∧ H' D = some (.lst ys) ∧ ys = ts.map V.ref ∧ (∀ a ∈ ts, a ≠ D) ∧ ∀ (n : Nat) (a : Addr) (p : Str × Int), ts[n]? = some a → s.1[n]? = some p → H' a = some (.tup [.str p.1, .int p.2]))
      (fun D hD => ⟨[], rfl, same_new hD, upd_same, rfl, fun a ha => by simp at ha, fun n a p hn => by simp at hn⟩) (fun D i ys H' ⟨_, _, s1, _⟩ => s1.seq hg) (fun D i x ys H2 R hD0 hx hv k => ?_) (fun D ys H2 hD0 hv => ?_)⟩
    · obtain ⟨ts, hts, s2, eD, rfl, hnd, hat⟩ := hv
      obtain ⟨p, t, hp, rfl, ht⟩ := hgd.goes_get hx
      have hil : i < s.1.length := (List.getElem?_eq_some_iff.mp hp).1
      refine ⟨t, _, rfl, s2.seqT ht, rfl, _, _, rfl, _, _, rfl, rfl, ?_⟩
      refine ⟨_, rfl, _, rfl, two_le, fun z hz => ?_⟩
      have nz : z ≠ D := fun y => by rw [y, eD] at hz; cases hz
      have s3 := same_new (o := .tup [.str p.1, .int p.2]) hz
      refine k _ _ (s3 _ _ eD) (by rw [List.length_map, hts]; exact small1000 (by omega)) ⟨ts ++ [z], by rw [List.length_append, hts]; rfl, fun b o e => ?_, upd_same, by rw [List.map_append]; rfl, fun a ha => ?_, fun n a p' hn hp' => ?_⟩
      · rw [upd_ne (ne_of_none e hD0)]; exact s3 _ _ (s2 b o e)
      · rcases List.mem_append.mp ha with ha | ha
        · exact hnd a ha
        · rw [List.mem_singleton.mp ha]; exact nz
      · rcases Nat.lt_or_ge n ts.length with hlt | hge
        · rw [List.getElem?_append_left hlt] at hn
          rw [upd_ne (hnd a (List.mem_of_getElem? hn))]
          exact s3 _ _ (hat n a p' hn hp')
        · have hn1 : n < (ts ++ [z]).length := (List.getElem?_eq_some_iff.mp hn).1
          rw [List.length_append, List.length_singleton] at hn1
          obtain rfl : n = i := by omega
          rw [hp] at hp'; cases hp'
          rw [List.getElem?_append_right (by omega), hts, Nat.sub_self] at hn
          cases hn
          rw [upd_ne nz, upd_same]
    · obtain ⟨ts, hts, s2, eD, rfl, hnd, hat⟩ := hv
      rw [lgv] at hts
      obtain ⟨zs, z1, z2, z3⟩ := zip_rows (K := K) hts hat
      have lzs : zs.length = s.1.length := by rw [← z2, List.length_map]
      refine ⟨D, zs, rfl, SqL.of (by rw [z1]; exact eD), by omega, z3, fun G zs' hp hw hG => ?_⟩
      have s3 := same_new (o := .lst (zs'.map (·.1))) hG
      have eG : (upd H2 G (.lst (zs'.map (·.1)))) G = some (.lst (zs'.map (·.1))) := upd_same
      have hGH : H G = none := s2.free hG
      have z3' : ∀ z ∈ zs', RowGo K (upd H2 G (.lst (zs'.map (·.1)))) z := fun z hz => by
        obtain ⟨t, a1, a2⟩ := z3 z (hp.mem_iff.mp hz)
        exact ⟨t, a1, s3.seqT a2⟩
      have s23 := s2.trans s3
      generalize upd H2 G (.lst (zs'.map (·.1))) = H3 at s3 eG z3' s23 ⊢
      refine ⟨_, rfl, e, s.2, rfl, s23.seq he, by omega, fun E es hpe hwe hE => ?_⟩
      have s4 := same_new (o := .lst (es.map V.str)) hE
      have eE : (upd H3 E (.lst (es.map V.str))) E = some (.lst (es.map V.str)) := upd_same
      have hEH : H E = none := s23.free hE
      have s24 := s23.trans s4
      have eG4 := s4 _ _ eG
      have z4 : ∀ z ∈ zs', RowGo K (upd H3 E (.lst (es.map V.str))) z := fun z hz => by
        obtain ⟨t, a1, a2⟩ := z3' z hz
        exact ⟨t, a1, s4.seqT a2⟩
      generalize upd H3 E (.lst (es.map V.str)) = H4 at s4 eE s24 eG4 z4 ⊢
      refine ⟨two_le, fun t ht => ?_⟩
      have s5 := same_new (o := .tup [.ref G, .ref E]) ht
      refine q t G E (zs'.map (·.2), es) _ ⟨by rw [← z2]; exact hp.map _, hpe, hw, hwe⟩ (s24.free ht) hGH hEH (s24.trans s5) upd_same ⟨_, SqL.of (s5 _ _ eG4), ?_⟩ ⟨_, s5 _ _ eG4⟩ (s5 _ _ eE)
      exact (rows_dts zs' z4).same s5
variable (P w K mg base) in
abbrev C_sorted_state : Prop := Callee P w K mg base "sorted_state" 1 ["goes", "ends"] (sp_sorted_state K)
theorem call_sorted_state (B : Blt mg) (F : Fun K "sorted_state" "sorted_state" s_sorted_state f fd) (hm : mg "sorted_state" = some (.ref f)) : C_sorted_state P w K mg base :=
  ⟨f, fd, ok_sorted_state B  F, hm, F.kp, F.binds fun _ _ _ _ _ _ us hl => (by obtain ⟨x0, x1, rfl⟩ := len_2 hl; rfl)⟩
def sp_table_of (K : PySem.W.Frag) : Sp := fun vs H Q _ => ∃ (a p : Addr) (ss : List Stt) (ps : List (Str × Str)) (n : Int), vs = [.ref a, .int n, .ref p] ∧ StE K H a ss ∧ Stts K H a ss ∧ Fits ss ∧ Prs K H p ps ∧ ps.length ≤ 40 ∧ (∀ x ∈ labelsOf ss ++ labelsP ps, nameB x = true) ∧
  0 ≤ n ∧ n < ss.length ∧ (∀ s ∈ ss, ∀ g ∈ s.1, 0 ≤ g.2 ∧ g.2 < ss.length) ∧ (∀ s ∈ ss, (s.1.map (·.1)).Nodup ∧ s.2.Nodup) ∧ (∀ x, ¬ Path ps x x) ∧
  ∀ (t : Addr) (rs : List Stt) (ord : List (Str × Str)) (H' : Hp), rs.length = ss.length → (∀ (i : Nat) (s r : Stt), ss[i]? = some s → rs[i]? = some r → SrtOf s r) → OrdOf ps ord → H t = none → Same H H' → Tab K (fun x => H x = none) H' t rs n ord → Q (.ref t) H'
theorem ok_table_of (B : Blt mg) (c_refuse_too_great : C_refuse_too_great P w K mg base) (c_refuse_no_names : C_refuse_no_names P w K mg base) (c_refuse_no_places : C_refuse_no_places P w K mg base) (c_refuse_twice : C_refuse_twice P w K mg base) (c_order_of : C_order_of P w K mg base) (c_sorted_state : C_sorted_state P w K mg base) (F : Fun K "table_of" "table_of" s_table_of f fd) : FnOk P w K mg base CX0 4 f fd ["states", "inner", "pairs"] (sp_table_of K) := by
  refine F.ok sc_table_of (fun vs H Q E h => ?_) (fun cdv A outer s H vs Q E hr h => ?_)
  · obtain ⟨a, p, ss, ps, n, rfl, _⟩ := h
    rfl
  · obtain ⟨a, p, ss, ps, n, rfl, hSE, hS, hF, hP, hpl, hN, n0, n1, hG, hT, hR, q⟩ := h
    have hS' := hS
    obtain ⟨vs, hV, hD⟩ := hS'
    have lvs := hD.len_map
    have hn8 := hF.n
    refine ⟨_, (pss_cons (ps_expr (pe_fn c_refuse_too_great (hr.mono (by decide)) rfl (pa_cons (pv 0) (pa_cons (pv 2) pa_nil))))
      (pss_cons (ps_expr (pe_fn c_refuse_no_names (hr.mono (by decide)) rfl (pa_cons (pv 0) (pa_cons (pv 2) pa_nil))))
      (pss_cons (ps_expr (pe_fn c_refuse_no_places (hr.mono (by decide)) rfl (pa_cons (pv 0) (pa_cons (pv 1) pa_nil))))
      (pss_cons (ps_expr (pe_fn c_refuse_twice (hr.mono (by decide)) rfl (pa_cons (pv 0) pa_nil)))
      (pss_cons (ps_set (i := 3) sc_table_of.nd rfl (Or.inl rfl) (pe_fn c_order_of (hr.mono (by decide)) rfl (pa_cons (pv 2) pa_nil)))
      (pss_one (ps_ret (pe_tup (pa_cons (pe_comp (g := gTup K 2 (gCons (gName 0) (gCons (gName 1) gNil))) rfl table_of_cs1 (pi_list (pv 0)) (fun _ _ _ _ _ => (pg_tup rfl (pgs_cons (pg_name (i := 0) table_of_cs1.nd rfl (Or.inl rfl)) (pgs_cons (pg_name (i := 1) table_of_cs1.nd rfl (Or.inl rfl)) pgs_nil)))) (fun _ _ _ _ _ => pf_nil) (fun _ _ _ _ _ => (pe_fn c_sorted_state (hr.mono (by decide)) rfl (pa_cons (pv 0) (pa_cons (pv 1) pa_nil))))) (pa_cons (pv 1) (pa_cons (pv 3) pa_nil))))))))))), ?_⟩
    obtain ⟨pws, hPL, hPD⟩ := id hP
    refine ⟨_, rfl, _, rfl, a, p, ss, pws, rfl, hS, hF, hPL, by rw [hPD.len_map]; exact hpl, ?_⟩
    refine ⟨_, rfl, _, rfl, a, p, ss, ps, rfl, hSE, hF, hP, by omega, hN, fun H1 s1 => ?_⟩
    refine ⟨_, rfl, _, rfl, a, ss, n, rfl, hS.same s1, n0, n1, hG, ?_⟩
    refine ⟨_, rfl, a, ss, rfl, hS.same s1, hF, hT, fun H2 s2 => ?_⟩
    have s12 := s1.trans s2
    refine ⟨_, rfl, p, ps, rfl, hP.same s12, by omega, hR, fun ts ord o H3 hO hol ho s3 eo T => ?_⟩
    have s13 := s12.trans s3
    have hoH : H o = none := s12.free ho
    refine ⟨_, rfl, a, rfl, ⟨_, s13.seq hV⟩, comp_listI (xs := vs) (fun D i ys H' => ∃ (us : List Addr) (rs : List Stt), us.length = i ∧ Same H3 H' ∧ H' D = some (.lst ys) ∧ ys = us.map V.ref ∧ StRows K (fun x => H x = none) H' D us rs ∧ ∀ (n : Nat) (s r : Stt), ss[n]? = some s → rs[n]? = some r → SrtOf s r)
      (fun D hD => ⟨[], [], rfl, same_new hD, upd_same, rfl, StRows.nil, fun n s r _ h => by simp at h⟩) (fun D i ys H' ⟨_, _, _, s1, _⟩ => (s13.trans s1).seq hV) (fun D i x ys H4 R hD0 hx hv k => ?_) (fun D ys H4 hD0 hv => ?_)⟩
    · obtain ⟨us, rs, hus, s4, eD, rfl, SR, hso⟩ := hv
      obtain ⟨s, t, g, e, hs, rfl, ht, hg, he⟩ := hD.sts_get hx
      have b1 := hF.gs s (List.mem_of_getElem? hs)
      have b2 := hF.es s (List.mem_of_getElem? hs)
      have s14 := s13.trans s4
      have hil : i < ss.length := (List.getElem?_eq_some_iff.mp hs).1
      refine ⟨t, _, rfl, s14.seqT ht, rfl, _, _, rfl, _, _, rfl, rfl, ?_⟩
      refine ⟨_, rfl, _, rfl, g, e, s, rfl, hg.same s14, s14.seq he, b1, b2, fun u G E r H5 so hu hG hE s5 eu eG eGx eE => ?_⟩
      obtain ⟨xs, eGx⟩ := eGx
      have eD5 := s5 _ _ eD
      have nG : G ≠ D := fun z => by rw [z, eD] at hG; cases hG
      have nE : E ≠ D := fun z => by rw [z, eD] at hE; cases hE
      refine k _ _ eD5 (by rw [List.length_map, hus]; exact small1000 (by omega)) ⟨us ++ [u], rs ++ [r], by rw [List.length_append, hus]; rfl, fun b o e => ?_, upd_same, by rw [List.map_append]; rfl, ((SR.same s5).snoc eu eG eGx eE nG nE (s14.free hG) (s14.free hE)).updL eD5, fun m s' r' h1 h2 => ?_⟩
      · rw [upd_ne (ne_of_none e hD0)]; exact s5 _ _ (s4 b o e)
      · rcases Nat.lt_or_ge m rs.length with hlt | hge
        · rw [List.getElem?_append_left hlt] at h2
          exact hso m s' r' h1 h2
        · have hn1 : m < (rs ++ [r]).length := (List.getElem?_eq_some_iff.mp h2).1
          rw [List.length_append, List.length_singleton] at hn1
          have hrl := SR.len
          obtain rfl : m = i := by omega
          rw [hs] at h1; cases h1
          rw [List.getElem?_append_right hge, show m - rs.length = 0 by omega] at h2
          cases h2
          exact so
    · obtain ⟨us, rs, hus, s4, eD, rfl, SR, hso⟩ := hv
      refine ⟨_, rfl, _, rfl, three_le, fun t ht => ?_⟩
      have s5 := same_new (o := .tup [.ref D, .int n, .ref o]) ht
      have s45 := s4.trans s5
      refine q t rs ord _ (by rw [← SR.len, hus, lvs]) hso hO ((s13.trans s4).free ht) (s13.trans s45) ⟨D, o, us, ts, upd_same, s13.free hD0, hoH, (fun z => by rw [z, eo] at hD0; cases hD0), s5 _ _ eD, SR.same s5, s45 _ _ eo, T.same s45⟩
variable (P w K mg base) in
abbrev C_table_of : Prop := Callee P w K mg base "table_of" 4 ["states", "inner", "pairs"] (sp_table_of K)
theorem call_table_of (B : Blt mg) (c_refuse_too_great : C_refuse_too_great P w K mg base) (c_refuse_no_names : C_refuse_no_names P w K mg base) (c_refuse_no_places : C_refuse_no_places P w K mg base) (c_refuse_twice : C_refuse_twice P w K mg base) (c_order_of : C_order_of P w K mg base) (c_sorted_state : C_sorted_state P w K mg base) (F : Fun K "table_of" "table_of" s_table_of f fd) (hm : mg "table_of" = some (.ref f)) : C_table_of P w K mg base :=
  ⟨f, fd, ok_table_of B c_refuse_too_great c_refuse_no_names c_refuse_no_places c_refuse_twice c_order_of c_sorted_state F, hm, F.kp, F.binds fun _ _ _ _ _ _ us hl => (by obtain ⟨x0, x1, x2, rfl⟩ := len_3 hl; rfl)⟩
theorem ltP_irrefl (p : Str × Str) : ¬ ltP p p := fun h => by
  rcases h with h | ⟨_, h⟩
  · exact ltS_irrefl _ h
  · exact ltS_irrefl _ h
theorem ltP_asymm {p q : Str × Str} (h : ltP p q) (k : ltP q p) : False := by
  rcases h with h | ⟨e, h⟩ <;> rcases k with k | ⟨e', k⟩
  · exact ltS_irrefl _ (ltS_trans h k)
  · rw [e'] at h; exact ltS_irrefl _ h
  · rw [e] at k; exact ltS_irrefl _ k
  · exact ltS_irrefl _ (ltS_trans h k)
theorem sorted_same : ∀ {l m : List (Str × Str)}, l.Pairwise ltP → m.Pairwise ltP → (∀ x, x ∈ l ↔ x ∈ m) → l = m
  | [], [], _, _, _ => rfl
  | [], y :: m, _, _, h => absurd ((h y).mpr List.mem_cons_self) (by simp)
  | x :: l, [], _, _, h => absurd ((h x).mp List.mem_cons_self) (by simp)
  | x :: l, y :: m, hl, hm, h => by
    obtain ⟨a1, a2⟩ := List.pairwise_cons.mp hl
    obtain ⟨b1, b2⟩ := List.pairwise_cons.mp hm
    have exy : x = y := by
      rcases List.mem_cons.mp ((h x).mp List.mem_cons_self) with e | h1
      · exact e
      · rcases List.mem_cons.mp ((h y).mpr List.mem_cons_self) with e | h2
        · exact e.symm
        · exact (ltP_asymm (a1 y h2) (b1 x h1)).elim
    subst exy
    have : l = m := sorted_same a2 b2 fun z => by
      constructor
      · intro hz
        rcases List.mem_cons.mp ((h z).mp (List.mem_cons_of_mem _ hz)) with e | h1
        · rw [e] at hz; exact absurd (a1 x hz) (ltP_irrefl x)
        · exact h1
      · intro hz
        rcases List.mem_cons.mp ((h z).mpr (List.mem_cons_of_mem _ hz)) with e | h1
        · rw [e] at hz; exact absurd (b1 x hz) (ltP_irrefl x)
        · exact h1
    rw [this]
theorem OrdOf.same {ps o1 o2 : List (Str × Str)} (h : OrdOf ps o1) (k : OrdOf ps o2) : o1 = o2 := sorted_same h.srt k.srt fun ⟨a, b⟩ => (h.mem a b).trans (k.mem a b).symm
theorem ord_of {ps ord : List (Str × Str)} (hm : ∀ a b, (a, b) ∈ ord ↔ Path ps a b) (nd : ord.Nodup) (hs : ord.Pairwise (lexO strO strO).kle) : OrdOf ps ord :=
  ⟨hm, (hs.and nd).imp fun h => pair_kle h.1 h.2⟩
def sp_usual (K : PySem.W.Frag) : Sp := fun vs H Q _ => vs = [] ∧ ∀ (t : Addr) (H' : Hp), H t = none → Same H H' → Tab K (fun x => H x = none) H' t uStates 1 uOrd → Q (.ref t) H'
theorem ok_usual (B : Blt mg) (c_table_of : C_table_of P w K mg base) (F : Fun K "usual" "usual" s_usual f fd) : FnOk P w K mg base CX0 5 f fd [] (sp_usual K) := by
  refine F.ok sc_usual (fun vs H Q E h => ?_) (fun cdv A outer s H vs Q E hr h => ?_)
  · obtain ⟨rfl, _⟩ := h
    rfl
  · obtain ⟨rfl, q⟩ := h
    refine ⟨_, (pss_cons (ps_set (i := 0) sc_usual.nd rfl (Or.inl rfl) (pe_lst (pa_cons (pe_tup (pa_cons (pe_lst (pa_cons (pe_tup (pa_cons pe_str (pa_cons pe_int pa_nil))) (pa_cons (pe_tup (pa_cons pe_str (pa_cons pe_int pa_nil))) (pa_cons (pe_tup (pa_cons pe_str (pa_cons pe_int pa_nil))) (pa_cons (pe_tup (pa_cons pe_str (pa_cons pe_int pa_nil))) pa_nil))))) (pa_cons (pe_lst (pa_cons pe_str (pa_cons pe_str (pa_cons pe_str pa_nil)))) pa_nil))) (pa_cons (pe_tup (pa_cons (pe_lst (pa_cons (pe_tup (pa_cons pe_str (pa_cons pe_int pa_nil))) (pa_cons (pe_tup (pa_cons pe_str (pa_cons pe_int pa_nil))) pa_nil))) (pa_cons (pe_lst (pa_cons pe_str pa_nil)) pa_nil))) (pa_cons (pe_tup (pa_cons (pe_lst (pa_cons (pe_tup (pa_cons pe_str (pa_cons pe_int pa_nil))) pa_nil)) (pa_cons (pe_lst (pa_cons pe_str (pa_cons pe_str (pa_cons pe_str pa_nil)))) pa_nil))) pa_nil)))))
      (pss_cons (ps_set (i := 1) sc_usual.nd rfl (Or.inl rfl) (pe_lst (pa_cons (pe_tup (pa_cons pe_str (pa_cons pe_str pa_nil))) (pa_cons (pe_tup (pa_cons pe_str (pa_cons pe_str pa_nil))) (pa_cons (pe_tup (pa_cons pe_str (pa_cons pe_str pa_nil))) (pa_cons (pe_tup (pa_cons pe_str (pa_cons pe_str pa_nil))) (pa_cons (pe_tup (pa_cons pe_str (pa_cons pe_str pa_nil))) (pa_cons (pe_tup (pa_cons pe_str (pa_cons pe_str pa_nil))) (pa_cons (pe_tup (pa_cons pe_str (pa_cons pe_str pa_nil))) pa_nil)))))))))
      (pss_one (ps_ret (pe_fn c_table_of (hr.mono (by decide)) rfl (pa_cons (pv 0) (pa_cons pe_int (pa_cons (pv 1) pa_nil)))))))), ?_⟩
    refine ⟨two_le, fun a00 fa00 => ?_⟩
    obtain ⟨ha00, qha00, sa00, ea00⟩ := new_at (o := (.tup [.str "all", .int 1])) fa00
    rw [← qha00]
    refine ⟨two_le, fun a01 fa01 => ?_⟩
    obtain ⟨ha01, qha01, sa01, ea01⟩ := new_at (o := (.tup [.str "allon", .int 1])) fa01
    rw [← qha01]
    refine ⟨two_le, fun a02 fa02 => ?_⟩
    obtain ⟨ha02, qha02, sa02, ea02⟩ := new_at (o := (.tup [.str "elder", .int 1])) fa02
    rw [← qha02]
    refine ⟨two_le, fun a03 fa03 => ?_⟩
    obtain ⟨ha03, qha03, sa03, ea03⟩ := new_at (o := (.tup [.str "up", .int 0])) fa03
    rw [← qha03]
    refine ⟨(show 4 ≤ sizeLine by decide), fun G0 fG0 => ?_⟩
    obtain ⟨hG0, qhG0, sG0, eG0⟩ := new_at (o := (.lst [.ref a00, .ref a01, .ref a02, .ref a03])) fG0
    rw [← qhG0]
    refine ⟨three_le, fun E0 fE0 => ?_⟩
    obtain ⟨hE0, qhE0, sE0, eE0⟩ := new_at (o := (.lst [.str "let", .str "open", .str "own"])) fE0
    rw [← qhE0]
    refine ⟨two_le, fun U0 fU0 => ?_⟩
    obtain ⟨hU0, qhU0, sU0, eU0⟩ := new_at (o := (.tup [.ref G0, .ref E0])) fU0
    rw [← qhU0]
    refine ⟨two_le, fun a10 fa10 => ?_⟩
    obtain ⟨ha10, qha10, sa10, ea10⟩ := new_at (o := (.tup [.str "allon", .int 1])) fa10
    rw [← qha10]
    refine ⟨two_le, fun a11 fa11 => ?_⟩
    obtain ⟨ha11, qha11, sa11, ea11⟩ := new_at (o := (.tup [.str "elder", .int 1])) fa11
    rw [← qha11]
    refine ⟨two_le, fun G1 fG1 => ?_⟩
    obtain ⟨hG1, qhG1, sG1, eG1⟩ := new_at (o := (.lst [.ref a10, .ref a11])) fG1
    rw [← qhG1]
    refine ⟨(show 1 ≤ sizeLine by decide), fun E1 fE1 => ?_⟩
    obtain ⟨hE1, qhE1, sE1, eE1⟩ := new_at (o := (.lst [.str "open"])) fE1
    rw [← qhE1]
    refine ⟨two_le, fun U1 fU1 => ?_⟩
    obtain ⟨hU1, qhU1, sU1, eU1⟩ := new_at (o := (.tup [.ref G1, .ref E1])) fU1
    rw [← qhU1]
    refine ⟨two_le, fun a20 fa20 => ?_⟩
    obtain ⟨ha20, qha20, sa20, ea20⟩ := new_at (o := (.tup [.str "up", .int 0])) fa20
    rw [← qha20]
    refine ⟨(show 1 ≤ sizeLine by decide), fun G2 fG2 => ?_⟩
    obtain ⟨hG2, qhG2, sG2, eG2⟩ := new_at (o := (.lst [.ref a20])) fG2
    rw [← qhG2]
    refine ⟨three_le, fun E2 fE2 => ?_⟩
    obtain ⟨hE2, qhE2, sE2, eE2⟩ := new_at (o := (.lst [.str "let", .str "open", .str "own"])) fE2
    rw [← qhE2]
    refine ⟨two_le, fun U2 fU2 => ?_⟩
    obtain ⟨hU2, qhU2, sU2, eU2⟩ := new_at (o := (.tup [.ref G2, .ref E2])) fU2
    rw [← qhU2]
    refine ⟨three_le, fun DD fDD => ?_⟩
    obtain ⟨hDD, qhDD, sDD, eDD⟩ := new_at (o := (.lst [.ref U0, .ref U1, .ref U2])) fDD
    rw [← qhDD]
    refine ⟨two_le, fun p0 fp0 => ?_⟩
    obtain ⟨hp0, qhp0, sp0, ep0⟩ := new_at (o := (.tup [.str "let", .str "elder"])) fp0
    rw [← qhp0]
    refine ⟨two_le, fun p1 fp1 => ?_⟩
    obtain ⟨hp1, qhp1, sp1, ep1⟩ := new_at (o := (.tup [.str "open", .str "elder"])) fp1
    rw [← qhp1]
    refine ⟨two_le, fun p2 fp2 => ?_⟩
    obtain ⟨hp2, qhp2, sp2, ep2⟩ := new_at (o := (.tup [.str "own", .str "elder"])) fp2
    rw [← qhp2]
    refine ⟨two_le, fun p3 fp3 => ?_⟩
    obtain ⟨hp3, qhp3, sp3, ep3⟩ := new_at (o := (.tup [.str "elder", .str "all"])) fp3
    rw [← qhp3]
    refine ⟨two_le, fun p4 fp4 => ?_⟩
    obtain ⟨hp4, qhp4, sp4, ep4⟩ := new_at (o := (.tup [.str "elder", .str "allon"])) fp4
    rw [← qhp4]
    refine ⟨two_le, fun p5 fp5 => ?_⟩
    obtain ⟨hp5, qhp5, sp5, ep5⟩ := new_at (o := (.tup [.str "all", .str "up"])) fp5
    rw [← qhp5]
    refine ⟨two_le, fun p6 fp6 => ?_⟩
    obtain ⟨hp6, qhp6, sp6, ep6⟩ := new_at (o := (.tup [.str "allon", .str "up"])) fp6
    rw [← qhp6]
    refine ⟨(show 7 ≤ sizeLine by decide), fun PP fPP => ?_⟩
    obtain ⟨hPP, qhPP, sPP, ePP⟩ := new_at (o := (.lst [.ref p0, .ref p1, .ref p2, .ref p3, .ref p4, .ref p5, .ref p6])) fPP
    rw [← qhPP]
    have tPP := Same.refl hPP
    have tp6 := sPP.trans tPP
    have tp5 := sp6.trans tp6
    have tp4 := sp5.trans tp5
    have tp3 := sp4.trans tp4
    have tp2 := sp3.trans tp3
    have tp1 := sp2.trans tp2
    have tp0 := sp1.trans tp1
    have tDD := sp0.trans tp0
    have tU2 := sDD.trans tDD
    have tE2 := sU2.trans tU2
    have tG2 := sE2.trans tE2
    have ta20 := sG2.trans tG2
    have tU1 := sa20.trans ta20
    have tE1 := sU1.trans tU1
    have tG1 := sE1.trans tE1
    have ta11 := sG1.trans tG1
    have ta10 := sa11.trans ta11
    have tU0 := sa10.trans ta10
    have tE0 := sU0.trans tU0
    have tG0 := sE0.trans tE0
    have ta03 := sG0.trans tG0
    have ta02 := sa03.trans ta03
    have ta01 := sa02.trans ta02
    have ta00 := sa01.trans ta01
    have ea00 := ta00 _ _ ea00
    have ea01 := ta01 _ _ ea01
    have ea02 := ta02 _ _ ea02
    have ea03 := ta03 _ _ ea03
    have eG0 := tG0 _ _ eG0
    have eE0 := tE0 _ _ eE0
    have eU0 := tU0 _ _ eU0
    have ea10 := ta10 _ _ ea10
    have ea11 := ta11 _ _ ea11
    have eG1 := tG1 _ _ eG1
    have eE1 := tE1 _ _ eE1
    have eU1 := tU1 _ _ eU1
    have ea20 := ta20 _ _ ea20
    have eG2 := tG2 _ _ eG2
    have eE2 := tE2 _ _ eE2
    have eU2 := tU2 _ _ eU2
    have eDD := tDD _ _ eDD
    have ep0 := tp0 _ _ ep0
    have ep1 := tp1 _ _ ep1
    have ep2 := tp2 _ _ ep2
    have ep3 := tp3 _ _ ep3
    have ep4 := tp4 _ _ ep4
    have ep5 := tp5 _ _ ep5
    have ep6 := tp6 _ _ ep6
    have ePP := tPP _ _ ePP
    have s0 := sa00.trans ta00
    have nG0 : G0 ≠ DD := fun y => by
      have z := eG0
      rw [y, eDD] at z
      simp at z
    have nG1 : G1 ≠ DD := fun y => by
      have z := eG1
      rw [y, eDD] at z
      simp at z
    have nG2 : G2 ≠ DD := fun y => by
      have z := eG2
      rw [y, eDD] at z
      simp at z
    have nE0 : E0 ≠ DD := fun y => by
      have z := eE0
      rw [y, eDD] at z
      simp at z
    have nE1 : E1 ≠ DD := fun y => by
      have z := eE1
      rw [y, eDD] at z
      simp at z
    have nE2 : E2 ≠ DD := fun y => by
      have z := eE2
      rw [y, eDD] at z
      simp at z
    have SR : StRows K (fun _ => True) hPP DD [U0, U1, U2] uStates := (((StRows.nil.snoc (r := ([("all", 1), ("allon", 1), ("elder", 1), ("up", 0)], ["let", "open", "own"])) eU0 ⟨_, SqL.of eG0, (.cons (.tup (SqT.of ea00) (.cons (.str _) (.cons (.int _) .nil))) (.cons (.tup (SqT.of ea01) (.cons (.str _) (.cons (.int _) .nil))) (.cons (.tup (SqT.of ea02) (.cons (.str _) (.cons (.int _) .nil))) (.cons (.tup (SqT.of ea03) (.cons (.str _) (.cons (.int _) .nil))) .nil))))⟩ eG0 eE0 nG0 nE0 trivial trivial).snoc (r := ([("allon", 1), ("elder", 1)], ["open"])) eU1 ⟨_, SqL.of eG1, (.cons (.tup (SqT.of ea10) (.cons (.str _) (.cons (.int _) .nil))) (.cons (.tup (SqT.of ea11) (.cons (.str _) (.cons (.int _) .nil))) .nil))⟩ eG1 eE1 nG1 nE1 trivial trivial).snoc (r := ([("up", 0)], ["let", "open", "own"])) eU2 ⟨_, SqL.of eG2, (.cons (.tup (SqT.of ea20) (.cons (.str _) (.cons (.int _) .nil))) .nil)⟩ eG2 eE2 nG2 nE2 trivial trivial)
    have TP : Tups hPP [p0, p1, p2, p3, p4, p5, p6] uPairs := ⟨rfl, fun n t p h1 h2 => by
      match n, h1, h2 with
      | 0, h1, h2 => cases h1; cases h2; exact ep0
      | 1, h1, h2 => cases h1; cases h2; exact ep1
      | 2, h1, h2 => cases h1; cases h2; exact ep2
      | 3, h1, h2 => cases h1; cases h2; exact ep3
      | 4, h1, h2 => cases h1; cases h2; exact ep4
      | 5, h1, h2 => cases h1; cases h2; exact ep5
      | 6, h1, h2 => cases h1; cases h2; exact ep6
      | _ + 7, h1, _ => simp at h1⟩
    refine ⟨_, rfl, _, rfl, DD, PP, uStates, uPairs, 1, rfl, StRows.stE (us := [U0, U1, U2]) eDD SR, StRows.stts (us := [U0, U1, U2]) eDD SR, ⟨by decide, by decide +kernel, by decide +kernel⟩, TP.prs ePP, by decide, by decide +kernel, by decide, by decide, by decide +kernel, by decide +kernel, u_ac, fun t rs ord H' hrl hso hO ht sH TB => ?_⟩
    have e1 := u_rs hrl hso
    have e2 := OrdOf.same hO (ord_of u_mem u_nd u_srt)
    subst e1 e2
    exact q t H' (s0.free ht) (s0.trans sH) (TB.mono fun x hx => s0.free hx)
variable (P w K mg base) in
abbrev C_usual : Prop := Callee P w K mg base "usual" 5 [] (sp_usual K)
theorem call_usual (B : Blt mg) (c_table_of : C_table_of P w K mg base) (F : Fun K "usual" "usual" s_usual f fd) (hm : mg "usual" = some (.ref f)) : C_usual P w K mg base :=
  ⟨f, fd, ok_usual B c_table_of F, hm, F.kp, F.binds fun _ _ _ _ _ _ us hl => (by obtain rfl := List.length_eq_zero_iff.mp hl; rfl)⟩
def sp__law_things (_ : PySem.W.Frag) : Sp := fun vs H Q _ => ∃ (c m s qn : Int), vs = [.int c, .int m, .int s, .int qn] ∧ 0 ≤ m ∧ m ≤ 60 ∧ 0 < s ∧ 0 < qn ∧ ∀ (D : Addr) (ts : List Addr) (gs : List (Str × Int)) (H' : Hp), gs.length = m.toNat → (∀ p ∈ gs, thOk s qn p) → H D = none → Same H H' → H' D = some (.lst (ts.map V.ref)) → GT H' ts gs → Q (.ref D) H'
theorem ok__law_things (B : Blt mg) (c__law_stream : C__law_stream P w K mg base) (F : Fun K "_law_things" "_law_things" s__law_things f fd) : FnOk P w K mg base CX0 2 f fd ["_law_cell", "_law_many", "_law_scopes", "_law_questions_here"] (sp__law_things K) := by
  refine F.ok sc__law_things (fun vs H Q E h => ?_) (fun cdv A outer s H vs Q E hr h => ?_)
  · obtain ⟨c, m, s, qn, rfl, _⟩ := h
    rfl
  · obtain ⟨c, m, s, qn, rfl, m0, m6, hs, hq, q⟩ := h
    refine ⟨_, (pss_cons (ps_set (i := 4) sc__law_things.nd rfl (Or.inl rfl) (pe_lst pa_nil))
      (pss_cons (ps_for PassesOwn.never rfl (pi_list (pe_fn c__law_stream (hr.mono (by decide)) rfl (pa_cons (pv 0) (pa_cons (pv 1) pa_nil)))) (pg_name (i := 5) sc__law_things.nd rfl (Or.inl rfl)) (pss_one (ps_if (pt_cmpR op_eq (pe_op op_mod (pv 5) pe_int) pe_int (nomark _)) (pss_one (ps_expr (pe_bm PySem.F.plainAttrs_list PySem.F.slot_list_append PySem.F.type_list_append mr_append (pv 4) (pa_cons (pe_tup (pa_cons pe_str (pa_cons pe_int pa_nil))) pa_nil)))) (pss_one (ps_if (pt_cmpR op_eq (pe_op op_mod (pv 5) pe_int) pe_int (nomark _)) (pss_one (ps_expr (pe_bm PySem.F.plainAttrs_list PySem.F.slot_list_append PySem.F.type_list_append mr_append (pv 4) (pa_cons (pe_tup (pa_cons pe_str (pa_cons (pe_op op_mod (pe_op op_fdiv (pv 5) pe_int) (pv 3)) pa_nil))) pa_nil)))) (pss_one (ps_expr (pe_bm PySem.F.plainAttrs_list PySem.F.slot_list_append PySem.F.type_list_append mr_append (pv 4) (pa_cons (pe_tup (pa_cons pe_str (pa_cons (pe_op op_mod (pe_op op_fdiv (pv 5) pe_int) (pv 2)) pa_nil))) pa_nil)))))))))
      (pss_one (ps_ret (pv 4))))), ?_⟩
    refine ⟨by decide, fun D hD => ?_⟩
    obtain ⟨H1, qH1, s1, eD1⟩ := new_at (o := .lst []) hD
    rw [← qH1]
    refine ⟨_, rfl, _, rfl, c, m, rfl, m0, m6, fun L xs H2 hxl hL s2 eL => ⟨L, rfl, ⟨_, SqL.of eL⟩, ?_⟩⟩
    have nLD : L ≠ D := fun y => by rw [y, eD1] at hL; cases hL
    refine for_list (xs := xs.map V.int) (fun i σ H' => ∃ u5 ts gs, σ = [some (.int c), some (.int m), some (.int s), some (.int qn), some (.ref D), u5] ∧ Keeps (· = D) H2 H' ∧ H' D = some (.lst (ts.map V.ref)) ∧ GT H' ts gs ∧ gs.length = i ∧ ∀ p ∈ gs, thOk s qn p)
      ⟨none, [], [], rfl, Keeps.refl fun x o m e => by rw [m, s2 _ _ eD1] at e; exact ⟨_, (Option.some.inj e).symm⟩, s2 _ _ eD1, GT.nil, rfl, fun p hp => by simp at hp⟩ (fun i σ H' _ ⟨_, _, _, _, k, _⟩ => SqL.of (k.at_ _ _ eL nLD)) ?_ ?_
    rotate_left
    · rintro σ H3 ⟨u5, ts, gs, rfl, k3, eD3, T3, hgl, hok⟩
      refine ⟨_, rfl, q D ts gs H3 (by rw [hgl, List.length_map, hxl]) hok hD (fun x o e => k3.at_ _ _ (s2 _ _ (s1 _ _ e)) (ne_of_none e hD)) eD3 T3⟩
    rintro i x σ H3 hx ⟨u5, ts, gs, rfl, k3, eD3, T3, hgl, hok⟩
    obtain ⟨num, hnum, rfl⟩ := getm hx
    have hil : i < xs.length := (List.getElem?_eq_some_iff.mp hnum).1
    have one : ∀ (t : Addr) (p : Str × Int) (H4 : Hp), Same H3 H4 → H4 t = some (.tup [.str p.1, .int p.2]) → thOk s qn p →
        Keeps (· = D) H2 (upd H4 D (.lst (ts.map V.ref ++ [.ref t]))) ∧ (upd H4 D (.lst (ts.map V.ref ++ [.ref t]))) D = some (.lst ((ts ++ [t]).map V.ref)) ∧ GT (upd H4 D (.lst (ts.map V.ref ++ [.ref t]))) (ts ++ [t]) (gs ++ [p]) ∧ (gs ++ [p]).length = i + 1 ∧ ∀ p' ∈ gs ++ [p], thOk s qn p' := fun t p H4 s4 et ht => by
      refine ⟨⟨fun x o e n => ?_, k3.ls⟩, by rw [upd_same, List.map_append]; rfl, ((T3.same s4).snoc et).updL (s4 _ _ eD3), by rw [List.length_append, hgl]; rfl, fun p' hp => ?_⟩
      · rw [upd_ne n]; exact s4 _ _ (k3.at_ x o e n)
      · rcases List.mem_append.mp hp with hp | hp
        · exact hok p' hp
        · rw [List.mem_singleton.mp hp]; exact ht
    have lts : (ts.map V.ref).length < sizeLine := by rw [List.length_map, T3.len, hgl]; exact small1000 (by omega)
    refine ⟨_, rfl, _, _, rfl, rfl, (by show (0 : Int) < 5; decide), rfl, _, rfl, ite2 (fun _ => ?_) (fun _ => ?_)⟩
    · refine ⟨_, rfl, Or.inl ⟨rfl, _, SqL.of eD3⟩, two_le, fun t ht => ?_⟩
      have s4 := same_new (o := .tup [.str "plain", .int 0]) ht
      obtain ⟨o1, o2, o3, o4, o5⟩ := one t ("plain", 0) _ s4 upd_same (.inl ⟨rfl, rfl⟩)
      refine ⟨D, _, _, rfl, rfl, s4 _ _ eD3, lts, ?_⟩
      exact ⟨_, _, _, rfl, o1, o2, o3, o4, o5⟩
    refine ⟨_, rfl, _, _, rfl, rfl, (by show (0 : Int) < 5; decide), rfl, _, rfl, ite2 (fun _ => ?_) (fun _ => ?_)⟩
    · refine ⟨_, rfl, Or.inl ⟨rfl, _, SqL.of eD3⟩, _, rfl, _, _, rfl, rfl, ⟨by decide, by decide⟩, _, rfl, _, _, rfl, rfl, hq, two_le, fun t ht => ?_⟩
      have s4 := same_new (o := .tup [.str "sort", .int (num / 5 % qn)]) ht
      obtain ⟨o1, o2, o3, o4, o5⟩ := one t ("sort", num / 5 % qn) _ s4 upd_same (.inr (.inr ⟨rfl, Int.emod_nonneg _ (by omega), Int.emod_lt_of_pos _ hq⟩))
      refine ⟨D, _, _, rfl, rfl, s4 _ _ eD3, lts, ?_⟩
      exact ⟨_, _, _, rfl, o1, o2, o3, o4, o5⟩
    · refine ⟨_, rfl, Or.inl ⟨rfl, _, SqL.of eD3⟩, _, rfl, _, _, rfl, rfl, ⟨by decide, by decide⟩, _, rfl, _, _, rfl, rfl, hs, two_le, fun t ht => ?_⟩
      have s4 := same_new (o := .tup [.str "part", .int (num / 5 % s)]) ht
      obtain ⟨o1, o2, o3, o4, o5⟩ := one t ("part", num / 5 % s) _ s4 upd_same (.inr (.inl ⟨rfl, Int.emod_nonneg _ (by omega), Int.emod_lt_of_pos _ hs⟩))
      refine ⟨D, _, _, rfl, rfl, s4 _ _ eD3, lts, ?_⟩
      exact ⟨_, _, _, rfl, o1, o2, o3, o4, o5⟩
variable (P w K mg base) in
abbrev C__law_things : Prop := Callee P w K mg base "_law_things" 2 ["_law_cell", "_law_many", "_law_scopes", "_law_questions_here"] (sp__law_things K)
theorem call__law_things (B : Blt mg) (c__law_stream : C__law_stream P w K mg base) (F : Fun K "_law_things" "_law_things" s__law_things f fd) (hm : mg "_law_things" = some (.ref f)) : C__law_things P w K mg base :=
  ⟨f, fd, ok__law_things B c__law_stream F, hm, F.kp, F.binds fun _ _ _ _ _ _ us hl => (by obtain ⟨x0, x1, x2, x3, rfl⟩ := len_4 hl; rfl)⟩
def sp__law_questions (K : PySem.W.Frag) : Sp := fun vs H Q _ => ∃ (c m s st : Int) (W : Addr) (ws : List Str), vs = [.int c, .int m, .int s, .int st, .ref W] ∧ SqL K H W (ws.map V.str) ∧ 3 ≤ ws.length ∧ 0 ≤ m ∧ m ≤ 60 ∧ 0 < s ∧ 0 < st ∧ ∀ (D : Addr) (ts : List Addr) (qs : List Qu) (H' : Hp), qs.length = m.toNat → (∀ q ∈ qs, (0 ≤ q.1 ∧ q.1 < s) ∧ (0 ≤ q.2.1 ∧ q.2.1 < st) ∧ 1 ≤ q.2.2.length ∧ q.2.2.length ≤ 3 ∧ ∀ x ∈ q.2.2, x ∈ ws) → H D = none → Same H H' → H' D = some (.lst (ts.map V.ref)) → QT H' ts qs → Q (.ref D) H'
theorem ok__law_questions (B : Blt mg) (c__law_stream : C__law_stream P w K mg base) (F : Fun K "_law_questions" "_law_questions" s__law_questions f fd) : FnOk P w K mg base CX0 2 f fd ["_law_cell", "_law_many", "_law_scopes", "_law_states", "_law_words_here"] (sp__law_questions K) := by
  refine F.ok sc__law_questions (fun vs H Q E h => ?_) (fun cdv A outer s H vs Q E hr h => ?_)
  · obtain ⟨c, m, s, st, W, ws, rfl, _⟩ := h
    rfl
  · obtain ⟨c, m, s, st, W, ws, rfl, hW, hw3, m0, m6, hs, hst, q⟩ := h
    refine ⟨_, (pss_cons (ps_set (i := 5) sc__law_questions.nd rfl (Or.inl rfl) (pe_lst pa_nil))
      (pss_cons (ps_for PassesOwn.never rfl (pi_list (pe_fn c__law_stream (hr.mono (by decide)) rfl (pa_cons (pv 0) (pa_cons (pv 1) pa_nil)))) (pg_name (i := 6) sc__law_questions.nd rfl (Or.inr rfl)) (pss_cons (ps_setC (i := 7) sc__law_questions.nd rfl (Or.inl rfl) (te := tOp (rIx K) (tVar 1) (tOp xMod (tOp xAdd (tOp xDiv (tOp xDiv (tVar 2) (tC (.int 60))) (tOp xAdd (tVar 0) (tC (.int 1)))) (tVar 0)) (tC (.int 3)))) rfl _law_questions_cs1 (pi_range1 rfl B.b_range (pa_cons (pe_op op_add pe_int (pe_op op_mod (pe_op op_fdiv (pv 6) pe_int) pe_int)) pa_nil)) (fun _ _ _ _ _ => (pg_name (i := 0) _law_questions_cs1.nd rfl (Or.inl rfl))) (fun _ _ _ _ _ => pf_nil) (fun _ _ _ _ _ => (pe_ix ix_seq (pv 1) (pe_op op_mod (pe_op op_add (pe_op op_fdiv (pe_op op_fdiv (pv 2) pe_int) (pe_op op_add (pv 0) pe_int)) (pv 0)) pe_int) (fun _ _ => rfl))))
        (pss_one (ps_expr (pe_bm PySem.F.plainAttrs_list PySem.F.slot_list_append PySem.F.type_list_append mr_append (pv 5) (pa_cons (pe_tup (pa_cons (pe_op op_mod (pv 6) (pv 2)) (pa_cons (pe_op op_mod (pe_op op_fdiv (pv 6) pe_int) (pv 3)) (pa_cons (pe_callTy call_tuple_of (by rfl) B.b_tuple (by decide +kernel) (pa_cons (pv 7) pa_nil)) pa_nil)))) pa_nil))))))
      (pss_one (ps_ret (pv 5))))), ?_⟩
    refine ⟨by decide, fun D hD => ?_⟩
    obtain ⟨H1, qH1, s1, eD1⟩ := new_at (o := .lst []) hD
    rw [← qH1]
    refine ⟨_, rfl, _, rfl, c, m, rfl, m0, m6, fun L xs H2 hxl hL s2 eL => ⟨L, rfl, ⟨_, SqL.of eL⟩, ?_⟩⟩
    have nLD : L ≠ D := fun y => by rw [y, eD1] at hL; cases hL
    have W2 : ∀ {H' : Hp}, Keeps (· = D) H2 H' → SqL K H' W (ws.map V.str) := fun {H'} k => by
      rcases hW with (h | ⟨u, h⟩) | h
      · exact .inl (.inl (k.at_ _ _ (s2 _ _ (s1 _ _ h)) (ne_of_none h hD)))
      · exact .inl (.inr ⟨u, k.at_ _ _ (s2 _ _ (s1 _ _ h)) (ne_of_none h hD)⟩)
      · exact .inr h
    refine for_list (xs := xs.map V.int) (fun i σ H' => ∃ u6 u7 ts qs, σ = [some (.int c), some (.int m), some (.int s), some (.int st), some (.ref W), some (.ref D), u6, u7] ∧ Keeps (· = D) H2 H' ∧ H' D = some (.lst (ts.map V.ref)) ∧ QT H' ts qs ∧ qs.length = i ∧ ∀ q ∈ qs, (0 ≤ q.1 ∧ q.1 < s) ∧ (0 ≤ q.2.1 ∧ q.2.1 < st) ∧ 1 ≤ q.2.2.length ∧ q.2.2.length ≤ 3 ∧ ∀ x ∈ q.2.2, x ∈ ws)
      ⟨none, none, [], [], rfl, Keeps.refl fun x o m e => by rw [m, s2 _ _ eD1] at e; exact ⟨_, (Option.some.inj e).symm⟩, s2 _ _ eD1, QT.nil, rfl, fun p hp => by simp at hp⟩ (fun i σ H' _ ⟨_, _, _, _, _, k, _⟩ => SqL.of (k.at_ _ _ eL nLD)) ?_ ?_
    rotate_left
    · rintro σ H3 ⟨u6, u7, ts, qs, rfl, k3, eD3, T3, hql, hok⟩
      refine ⟨_, rfl, q D ts qs H3 (by rw [hql, List.length_map, hxl]) hok hD (fun x o e => k3.at_ _ _ (s2 _ _ (s1 _ _ e)) (ne_of_none e hD)) eD3 T3⟩
    rintro i x σ H3 hx ⟨u6, u7, ts, qs, rfl, k3, eD3, T3, hql, hok⟩
    obtain ⟨num, hnum, rfl⟩ := getm hx
    have hil : i < xs.length := (List.getElem?_eq_some_iff.mp hnum).1
    have z0 := Int.emod_nonneg (num / 20) (by decide : (3 : Int) ≠ 0)
    have z1 := Int.emod_lt_of_pos (num / 20) (by decide : (0 : Int) < 3)
    refine ⟨_, rfl, _, _, rfl, rfl, ⟨by decide, by decide⟩, _, _, rfl, rfl, (by show (0 : Int) < 3; decide), _, _, rfl, rfl, _, rfl, ?_⟩
    try dsimp only
    generalize num / 20 % 3 = k3' at z0 z1 ⊢
    refine ⟨by omega, by omega, comp_rangeI (fun D' j ys H' => ∃ ps : List Str, ys = ps.map V.str ∧ ps.length = j ∧ Same H3 H' ∧ H' D' = some (.lst ys) ∧ ∀ x ∈ ps, x ∈ ws)
      (fun D' hD' => ⟨[], rfl, rfl, same_new hD', upd_same, fun x hx => by simp at hx⟩) (fun D' j ys H4 R hD' hj hv k => ?_) (fun N ys H4 hN hv => ?_)⟩
    · obtain ⟨ps, rfl, hpl, s4, eD', hpw⟩ := hv
      have W4 := s4.seq (W2 k3)
      have y0 := Int.emod_nonneg (num / 60 / ((0 + (j : Int)) + 1) + (0 + (j : Int))) (by decide : (3 : Int) ≠ 0)
      have y1 := Int.emod_lt_of_pos (num / 60 / ((0 + (j : Int)) + 1) + (0 + (j : Int))) (by decide : (0 : Int) < 3)
      obtain ⟨zz, hzz, hat⟩ := strs_ix (ws := ws) y0 (by omega)
      refine ⟨_, rfl, _, rfl, _, _, rfl, rfl, ⟨by decide, by decide⟩, _, rfl, _, _, rfl, rfl, _, _, rfl, rfl, ⟨by omega, by omega⟩, _, rfl, _, _, rfl, rfl, _, _, rfl, rfl, (by show (0 : Int) < 3; decide), Or.inl ⟨W, _, _, .str zz, rfl, rfl, W4, hat, ?_⟩⟩
      refine k _ _ eD' (by rw [List.length_map, hpl]; exact small1000 (by omega)) ⟨ps ++ [zz], by rw [List.map_append]; rfl, by rw [List.length_append, hpl]; rfl, fun b o e => ?_, upd_same, fun x hx => ?_⟩
      · rw [upd_ne (ne_of_none e hD')]; exact s4 _ _ e
      · rcases List.mem_append.mp hx with hx | hx
        · exact hpw x hx
        · rw [List.mem_singleton.mp hx]; exact hzz
    obtain ⟨ps, rfl, hpl, s4, eN, hpw⟩ := hv
    have eD4 := s4 _ _ eD3
    refine ⟨_, rfl, Or.inl ⟨rfl, _, SqL.of eD4⟩, _, rfl, _, rfl, _, _, rfl, rfl, hs, _, rfl, _, _, rfl, rfl, ⟨by decide, by decide⟩, _, rfl, _, _, rfl, rfl, hst, _, rfl, N, _, rfl, Or.inl ⟨SqL.of eN, fun u hu => ?_⟩⟩
    obtain ⟨H5, qH5, s5, eu⟩ := new_at (o := .tup (ps.map V.str)) hu
    rw [← qH5]
    have a0 := Int.emod_nonneg num (show s ≠ 0 by omega)
    have a1 := Int.emod_lt_of_pos num hs
    have b0 := Int.emod_nonneg (num / 5) (show st ≠ 0 by omega)
    have b1 := Int.emod_lt_of_pos (num / 5) hst
    try dsimp only
    generalize num % s = w1 at a0 a1 ⊢
    generalize num / 5 % st = w2 at b0 b1 ⊢
    refine ⟨three_le, fun t ht => ?_⟩
    obtain ⟨H6, qH6, s6, et⟩ := new_at (o := .tup [.int w1, .int w2, .ref u]) ht
    rw [← qH6]
    have s36 := (s4.trans s5).trans s6
    have eD6 := s36 _ _ eD3
    have T6 := (T3.same s36).snoc (q := (w1, w2, ps)) et (s6 _ _ eu)
    have k6 : Keeps (· = D) H6 (upd H6 D (.lst (ts.map V.ref ++ [.ref t]))) := Keeps.one eD6
    refine ⟨D, _, _, rfl, rfl, eD6, by rw [List.length_map, T3.len, hql]; exact small1000 (by omega), ?_⟩
    refine ⟨_, _, ts ++ [t], qs ++ [(w1, w2, ps)], rfl, ⟨fun x o e n => ?_, k3.ls⟩, by rw [upd_same, List.map_append]; rfl, T6.keeps k6, by rw [List.length_append, hql]; rfl, fun z hz => ?_⟩
    · rw [upd_ne n]; exact s36 _ _ (k3.at_ x o e n)
    · rcases List.mem_append.mp hz with hz | hz
      · exact hok z hz
      · rw [List.mem_singleton.mp hz]
        refine ⟨⟨a0, a1⟩, ⟨b0, b1⟩, ?_, ?_, hpw⟩
        · show 1 ≤ ps.length; omega
        · show ps.length ≤ 3; omega
variable (P w K mg base) in
abbrev C__law_questions : Prop := Callee P w K mg base "_law_questions" 2 ["_law_cell", "_law_many", "_law_scopes", "_law_states", "_law_words_here"] (sp__law_questions K)
theorem call__law_questions (B : Blt mg) (c__law_stream : C__law_stream P w K mg base) (F : Fun K "_law_questions" "_law_questions" s__law_questions f fd) (hm : mg "_law_questions" = some (.ref f)) : C__law_questions P w K mg base :=
  ⟨f, fd, ok__law_questions B c__law_stream F, hm, F.kp, F.binds fun _ _ _ _ _ _ us hl => (by obtain ⟨x0, x1, x2, x3, x4, rfl⟩ := len_5 hl; rfl)⟩
theorem four_le' : ([] : List V).length + 1 + 1 + 1 + 1 ≤ sizeLine := by decide
def sp__law_lay (K : PySem.W.Frag) : Sp := fun vs H Q _ => ∃ (nt L W : Addr) (c : Int) (S T R : Addr) (us Gs Es ts qt : List Addr) (ss : List Sco) (gs : List (Str × Int)) (qs : List Qu) (ls ws : List Str), vs = [.ref nt, .ref L, .ref W, .int c] ∧ H nt = some (.tup [.ref S, .ref T, .ref R]) ∧ Net3 H S T R us Gs Es ts qt ss gs qs ∧ (S :: (Gs ++ Es)).Nodup ∧ T ∉ Gs ++ Es ∧ R ∉ Gs ++ Es ∧ 1 ≤ ss.length ∧ ss.length ≤ 5 ∧ 1 ≤ gs.length ∧ gs.length ≤ 60 ∧ 1 ≤ qs.length ∧ qs.length ≤ 60 ∧ SqL K H L (ls.map V.str) ∧ 1 ≤ ls.length ∧ ls.length ≤ 60 ∧ SqL K H W (ws.map V.str) ∧ 3 ≤ ws.length ∧ LayW gs.length qs.length ls ws ss ∧
  ∀ (ss' : List Sco) (H' : Hp), Keeps (fun x => x ∈ Gs ++ Es) H H' → Net3 H' S T R us Gs Es ts qt ss' gs qs → ss'.length = ss.length → LayW gs.length qs.length ls ws ss' → Q .non H'
theorem ok__law_lay (B : Blt mg) (F : Fun K "_law_lay" "_law_lay" s__law_lay f fd) : FnOk P w K mg base CX0 1 f fd ["_law_net", "_law_labels", "_law_words_here", "_law_cell"] (sp__law_lay K) := by
  refine F.ok sc__law_lay (fun vs H Q E h => ?_) (fun cdv A outer s H vs Q E hr h => ?_)
  · obtain ⟨nt, L, W, c, S, T, R, us, Gs, Es, ts, qt, ss, gs, qs, ls, ws, rfl, _⟩ := h
    rfl
  · obtain ⟨nt, L, W, c, S, T, R, us, Gs, Es, ts, qt, ss, gs, qs, ls, ws, rfl, eN, N3, nd, nT, nR, hs1, hs5, hg1, hg6, hq1, hq6, hL, hl1, hl6, hW, hw3, ok, q⟩ := h
    have lus : (us.map V.ref).length = ss.length := by rw [List.length_map, N3.sc.lu]
    have lts : (ts.map V.ref).length = gs.length := by rw [List.length_map, N3.tg.len]
    have lqt : (qt.map V.ref).length = qs.length := by rw [List.length_map, N3.tq.len]
    have lls : (ls.map V.str).length = ls.length := List.length_map ..
    refine ⟨_, (pss_cons (ps_set (i := 4) sc__law_lay.nd rfl (Or.inl rfl) (pe_op op_mod (pe_op op_mul (pe_op op_fdiv (pv 3) pe_int) pe_int) pe_int))
      (pss_cons (ps_asg (pe_ix ix_seq (pe_ix ix_seq (pv 0) pe_int (fun _ _ => rfl)) (pe_op op_mod (pv 4) (pe_callB call_len (by rfl) B.b_len (by decide +kernel) (pa_cons (pe_ix ix_seq (pv 0) pe_int (fun _ _ => rfl)) pa_nil))) (fun _ _ => rfl)) (pg_tup rfl (pgs_cons (pg_name (i := 5) sc__law_lay.nd rfl (Or.inl rfl)) (pgs_cons (pg_name (i := 6) sc__law_lay.nd rfl (Or.inl rfl)) pgs_nil))))
      (pss_cons (ps_augR (i := 4) sc__law_lay.nd rfl (Or.inl rfl) (pe_callB call_len (by rfl) B.b_len (by decide +kernel) (pa_cons (pe_ix ix_seq (pv 0) pe_int (fun _ _ => rfl)) pa_nil)) iop_fdiv)
      (pss_cons (ps_set (i := 7) sc__law_lay.nd rfl (Or.inl rfl) (pe_ix ix_seq (pv 1) (pe_op op_mod (pv 4) (pe_callB call_len (by rfl) B.b_len (by decide +kernel) (pa_cons (pv 1) pa_nil))) (fun _ _ => rfl)))
      (pss_cons (ps_augR (i := 4) sc__law_lay.nd rfl (Or.inl rfl) (pe_callB call_len (by rfl) B.b_len (by decide +kernel) (pa_cons (pv 1) pa_nil)) iop_fdiv)
      (pss_one (ps_if (pt_cmpR op_eq (pe_op op_mod (pv 3) pe_int) pe_int (nomark _)) (pss_one (ps_if (pt_cmpR op_lt (pe_callB call_len (by rfl) B.b_len (by decide +kernel) (pa_cons (pv 5) pa_nil)) (pe_op op_add pe_int (pe_callTy call_int1 (by rfl) B.b_int (by decide +kernel) (pa_cons (pe_cmpR op_lt (pe_callB call_len (by rfl) B.b_len (by decide +kernel) (pa_cons (pe_ix ix_seq (pv 0) pe_int (fun _ _ => rfl)) pa_nil)) pe_int (nomark _)) pa_nil))) (nomark _)) (pss_one (ps_if (pt_cmpR op_eq (pe_op op_mod (pv 4) pe_int) pe_int (nomark _)) (pss_one (ps_expr (pe_bm PySem.F.plainAttrs_list PySem.F.slot_list_append PySem.F.type_list_append mr_append (pv 5) (pa_cons (pe_tup (pa_cons (pv 7) (pa_cons pe_str (pa_cons (pe_op op_mod (pe_op op_fdiv (pv 4) pe_int) (pe_callB call_len (by rfl) B.b_len (by decide +kernel) (pa_cons (pe_ix ix_seq (pv 0) pe_int (fun _ _ => rfl)) pa_nil))) pa_nil)))) pa_nil)))) (pss_one (ps_expr (pe_bm PySem.F.plainAttrs_list PySem.F.slot_list_append PySem.F.type_list_append mr_append (pv 5) (pa_cons (pe_tup (pa_cons (pv 7) (pa_cons pe_str (pa_cons (pe_op op_mod (pe_op op_fdiv (pv 4) pe_int) (pe_callB call_len (by rfl) B.b_len (by decide +kernel) (pa_cons (pe_ix ix_seq (pv 0) pe_int (fun _ _ => rfl)) pa_nil))) pa_nil)))) pa_nil)))))) pss_nil)) (pss_one (ps_if (pt_cmpR op_lt (pe_callB call_len (by rfl) B.b_len (by decide +kernel) (pa_cons (pv 6) pa_nil)) (pe_op op_add pe_int (pe_callTy call_int1 (by rfl) B.b_int (by decide +kernel) (pa_cons (pe_cmpR op_lt (pe_callB call_len (by rfl) B.b_len (by decide +kernel) (pa_cons (pe_ix ix_seq (pv 0) pe_int (fun _ _ => rfl)) pa_nil)) pe_int (nomark _)) pa_nil))) (nomark _)) (pss_cons (ps_set (i := 8) sc__law_lay.nd rfl (Or.inl rfl) (pe_ix ix_seq (pv 2) (pe_op op_mod (pv 4) pe_int) (fun _ _ => rfl)))
          (pss_cons (ps_augR (i := 4) sc__law_lay.nd rfl (Or.inl rfl) pe_int iop_fdiv)
          (pss_one (ps_if (pt_cmpR op_eq (pe_op op_mod (pv 4) pe_int) pe_int (nomark _)) (pss_one (ps_expr (pe_bm PySem.F.plainAttrs_list PySem.F.slot_list_append PySem.F.type_list_append mr_append (pv 6) (pa_cons (pe_tup (pa_cons (pv 7) (pa_cons (pv 8) (pa_cons pe_str (pa_cons (pe_op op_mod (pe_op op_fdiv (pv 4) pe_int) (pe_callB call_len (by rfl) B.b_len (by decide +kernel) (pa_cons (pe_ix ix_seq (pv 0) pe_int (fun _ _ => rfl)) pa_nil))) pa_nil))))) pa_nil)))) (pss_one (ps_expr (pe_bm PySem.F.plainAttrs_list PySem.F.slot_list_append PySem.F.type_list_append mr_append (pv 6) (pa_cons (pe_tup (pa_cons (pv 7) (pa_cons (pv 8) (pa_cons pe_str (pa_cons (pe_op op_mod (pe_op op_fdiv (pv 4) pe_int) (pe_callB call_len (by rfl) B.b_len (by decide +kernel) (pa_cons (pe_ix ix_seq (pv 0) pe_int (fun _ _ => rfl)) pa_nil))) pa_nil))))) pa_nil)))))))) pss_nil))))))))), ?_⟩
    have lss : ∀ x o, x ∈ Gs ++ Es → H x = some o → ∃ xs, o = HO.lst xs := fun x o m e => by
      obtain ⟨xs, e'⟩ := N3.sc.alive x m
      rw [e'] at e; exact ⟨_, (Option.some.inj e).symm⟩
    have fin : Q .non H := q ss H ⟨fun x o e _ => e, lss⟩ N3 rfl ok
    refine ⟨_, rfl, _, _, rfl, rfl, ⟨by decide, by decide⟩, _, _, rfl, rfl, Or.inr ⟨by decide, by decide⟩, _, _, rfl, rfl, (by show (0 : Int) < 2147483647; decide), ?_⟩
    try dsimp only
    generalize c / 2 * 48271 % 2147483647 = n
    refine g_in ?_
    try dsimp only
    have l0 : (0 : Int) < ((us.map V.ref).length : Nat) := by rw [lus]; omega
    have a0 := Int.emod_nonneg n (show (((us.map V.ref).length : Nat) : Int) ≠ 0 by omega)
    have a1 := Int.emod_lt_of_pos n l0
    obtain ⟨i, ei⟩ := Int.eq_ofNat_of_zero_le a0
    have hil : i < ss.length := by omega
    obtain ⟨u, G, E1, g1, g2, g3, g4, ⟨b0, ⟨tG, b1, b2⟩, ⟨tE, c1, c2⟩⟩⟩ := N3.sc.get hil
    have hat : atI (us.map V.ref) (n % ((us.map V.ref).length : Nat)) = some (.ref u) := by rw [ei]; exact atI_nat (by rw [List.getElem?_map, g1]; rfl)
    have hN := SqT.of (K := K) eN
    have hS := SqL.of (K := K) N3.sc.top
    refine ⟨_, rfl, Or.inr (Or.inl ⟨nt, _, _, .ref S, rfl, rfl, hN, rfl, _, rfl, _, rfl, Or.inr (Or.inl ⟨nt, _, _, .ref S, rfl, rfl, hN, rfl, _, _, rfl, Or.inl ⟨_, hS, rfl⟩, _, _, rfl, rfl, l0, Or.inl ⟨S, _, _, .ref u, rfl, rfl, hS, hat, ?_⟩⟩)⟩)⟩
    refine ⟨u, _, rfl, SqT.of b0, rfl, _, _, rfl, _, _, rfl, rfl, ?_⟩
    refine ⟨_, rfl, _, rfl, Or.inr (Or.inl ⟨nt, _, _, .ref S, rfl, rfl, hN, rfl, _, _, rfl, Or.inl ⟨_, hS, rfl⟩, _, _, rfl, rfl, ⟨l0, by omega⟩, ?_⟩)⟩
    try dsimp only
    generalize n / ((us.map V.ref).length : Nat) = n2
    have w0 : (0 : Int) < ((ls.map V.str).length : Nat) := by omega
    have y0 := Int.emod_nonneg n2 (show (((ls.map V.str).length : Nat) : Int) ≠ 0 by omega)
    have y1 := Int.emod_lt_of_pos n2 w0
    obtain ⟨lb, hlb, hv⟩ := strs_ix (ws := ls) y0 (by omega)
    refine ⟨_, rfl, _, rfl, _, rfl, _, _, rfl, Or.inl ⟨_, hL, rfl⟩, _, _, rfl, rfl, w0, Or.inl ⟨L, _, _, .str lb, rfl, rfl, hL, hv, ?_⟩⟩
    refine g_in ?_
    try dsimp only
    refine ⟨_, rfl, _, rfl, _, _, rfl, Or.inl ⟨_, hL, rfl⟩, _, _, rfl, rfl, ⟨w0, by omega⟩, ?_⟩
    try dsimp only
    generalize n2 / ((ls.map V.str).length : Nat) = n3
    have mG : G ∈ Gs := List.mem_of_getElem? g2
    have mE : E1 ∈ Es := List.mem_of_getElem? g3
    have lG := b2.len
    have lE := c2.len
    have q0 : (0 : Int) < ((qt.map V.ref).length : Nat) := by omega
    have t0 : (0 : Int) < ((ts.map V.ref).length : Nat) := by omega
    have more : ∀ (t : Addr) (p : Stp) (H2 : Hp), Same H H2 → H2 t = some (.tup (stpV p)) → p.1 ∈ ls → stOk ss.length qs.length p → ss[i].1.length < 3 → (4 ≤ ss.length → ss[i].1.length < 2) → Q .non (upd H2 G (.lst (tG.map V.ref ++ [.ref t]))) := fun t p H2 s2 et h1 hp h3 h4 => by
      have k2 : Keeps (· = G) H2 (upd H2 G (.lst (tG.map V.ref ++ [.ref t]))) := Keeps.one (s2 _ _ b1)
      have S2 := (N3.sc.same s2).step nd hil g2 (s2 _ _ b1) (b2.same s2) et
      have mGE : G ∈ Gs ++ Es := List.mem_append_left _ mG
      refine q _ _ ⟨fun x o e n => ?_, lss⟩ ⟨S2, ?_, (N3.tg.same s2).keeps k2, ?_, (N3.tq.same s2).keeps k2⟩ (List.length_set ..) (ok.step hil h1 hp h3 h4)
      · rw [upd_ne (show x ≠ G from fun z => n (z ▸ mGE))]; exact s2 _ _ e
      · rw [upd_ne (show T ≠ G from fun z => nT (z ▸ mGE))]; exact s2 _ _ N3.et
      · rw [upd_ne (show R ≠ G from fun z => nR (z ▸ mGE))]; exact s2 _ _ N3.er
    have tell : ∀ (t : Addr) (p : Tlg) (H2 : Hp), Same H H2 → H2 t = some (.tup (tlgV p)) → p.1 ∈ ls → p.2.1 ∈ ws → tlOk gs.length qs.length p → ss[i].2.length < 3 → (5 ≤ ss.length → ss[i].2.length < 2) → Q .non (upd H2 E1 (.lst (tE.map V.ref ++ [.ref t]))) := fun t p H2 s2 et h1 h0 hp h3 h4 => by
      have k2 : Keeps (· = E1) H2 (upd H2 E1 (.lst (tE.map V.ref ++ [.ref t]))) := Keeps.one (s2 _ _ c1)
      have S2 := (N3.sc.same s2).tell nd hil g3 (s2 _ _ c1) (c2.same s2) et
      have mGE : E1 ∈ Gs ++ Es := List.mem_append_right _ mE
      refine q _ _ ⟨fun x o e n => ?_, lss⟩ ⟨S2, ?_, (N3.tg.same s2).keeps k2, ?_, (N3.tq.same s2).keeps k2⟩ (List.length_set ..) (ok.tell hil h1 h0 hp h3 h4)
      · rw [upd_ne (show x ≠ E1 from fun z => n (z ▸ mGE))]; exact s2 _ _ e
      · rw [upd_ne (show T ≠ E1 from fun z => nT (z ▸ mGE))]; exact s2 _ _ N3.et
      · rw [upd_ne (show R ≠ E1 from fun z => nR (z ▸ mGE))]; exact s2 _ _ N3.er
    refine ⟨_, rfl, _, _, rfl, rfl, (by show (0 : Int) < 2; decide), rfl, _, rfl, ite2 (fun _ => ?_) (fun _ => ?_)⟩
    · refine ⟨_, rfl, _, _, rfl, Or.inl ⟨_, SqL.of b1, rfl⟩, _, rfl, Or.inr (Or.inl ⟨nt, _, _, .ref S, rfl, rfl, hN, rfl, _, _, rfl, Or.inl ⟨_, hS, rfl⟩, _, _, rfl, rfl, Or.inr ⟨_, rfl, _, _, rfl, rfl, _, _, rfl, rfl, _, rfl, ite2 (fun h => ?_) (fun _ => fin)⟩⟩)⟩
      have h := of_decide_eq_true h
      rw [List.length_map, lus] at h
      have h3 : ss[i].1.length < 3 := by
        rw [← lG]; split at h <;> omega
      have h4 : 4 ≤ ss.length → ss[i].1.length < 2 := fun z => by
        rw [decide_eq_false (by omega)] at h
        rw [← lG]
        simp at h
        omega
      have lt3 : (tG.map V.ref).length < sizeLine := by rw [List.length_map]; exact small1000 (by omega)
      refine ⟨_, rfl, _, _, rfl, rfl, (by show (0 : Int) < 3; decide), rfl, _, rfl, ite2 (fun _ => ?_) (fun _ => ?_)⟩
      · refine ⟨_, rfl, Or.inl ⟨rfl, _, SqL.of b1⟩, _, rfl, _, rfl, _, _, rfl, rfl, ⟨by decide, by decide⟩, _, rfl, Or.inr (Or.inl ⟨nt, _, _, .ref R, rfl, rfl, hN, rfl, _, _, rfl, Or.inl ⟨_, SqL.of N3.er, rfl⟩, _, _, rfl, rfl, q0, three_le, fun t ht => ?_⟩)⟩
        have s2 := same_new (o := .tup [.str lb, .str "by", .int (n3 / 3 % ((qt.map V.ref).length : Nat))]) ht
        refine ⟨G, _, _, rfl, rfl, s2 _ _ b1, lt3, ?_⟩
        exact more t (lb, "by", n3 / 3 % ((qt.map V.ref).length : Nat)) _ s2 upd_same hlb (.inr ⟨rfl, Int.emod_nonneg _ (by omega), by have := Int.emod_lt_of_pos (n3 / 3) q0; show n3 / 3 % ((qt.map V.ref).length : Nat) < _; omega⟩) h3 h4
      · refine ⟨_, rfl, Or.inl ⟨rfl, _, SqL.of b1⟩, _, rfl, _, rfl, _, _, rfl, rfl, ⟨by decide, by decide⟩, _, rfl, Or.inr (Or.inl ⟨nt, _, _, .ref S, rfl, rfl, hN, rfl, _, _, rfl, Or.inl ⟨_, hS, rfl⟩, _, _, rfl, rfl, l0, three_le, fun t ht => ?_⟩)⟩
        have s2 := same_new (o := .tup [.str lb, .str "to", .int (n3 / 3 % ((us.map V.ref).length : Nat))]) ht
        refine ⟨G, _, _, rfl, rfl, s2 _ _ b1, lt3, ?_⟩
        exact more t (lb, "to", n3 / 3 % ((us.map V.ref).length : Nat)) _ s2 upd_same hlb (.inl ⟨rfl, Int.emod_nonneg _ (by omega), by have := Int.emod_lt_of_pos (n3 / 3) l0; show n3 / 3 % ((us.map V.ref).length : Nat) < _; omega⟩) h3 h4
    · refine ⟨_, rfl, _, _, rfl, Or.inl ⟨_, SqL.of c1, rfl⟩, _, rfl, Or.inr (Or.inl ⟨nt, _, _, .ref S, rfl, rfl, hN, rfl, _, _, rfl, Or.inl ⟨_, hS, rfl⟩, _, _, rfl, rfl, Or.inr ⟨_, rfl, _, _, rfl, rfl, _, _, rfl, rfl, _, rfl, ite2 (fun h => ?_) (fun _ => fin)⟩⟩)⟩
      have h := of_decide_eq_true h
      rw [List.length_map, lus] at h
      have h3 : ss[i].2.length < 3 := by
        rw [← lE]; split at h <;> omega
      have h4 : 5 ≤ ss.length → ss[i].2.length < 2 := fun z => by
        rw [decide_eq_false (by omega)] at h
        rw [← lE]
        simp at h
        omega
      have lt3 : (tE.map V.ref).length < sizeLine := by rw [List.length_map]; exact small1000 (by omega)
      have v0 := Int.emod_nonneg n3 (by decide : (3 : Int) ≠ 0)
      have v1 := Int.emod_lt_of_pos n3 (by decide : (0 : Int) < 3)
      obtain ⟨nm, hnm, hvn⟩ := strs_ix (ws := ws) v0 (by omega)
      refine ⟨_, rfl, _, rfl, _, _, rfl, rfl, (by show (0 : Int) < 3; decide), Or.inl ⟨W, _, _, .str nm, rfl, rfl, hW, hvn, ?_⟩⟩
      refine g_in ?_
      try dsimp only
      refine ⟨_, rfl, _, _, rfl, rfl, ⟨by decide, by decide⟩, ?_⟩
      try dsimp only
      generalize n3 / 3 = n4
      refine ⟨_, rfl, _, _, rfl, rfl, (by show (0 : Int) < 4; decide), rfl, _, rfl, ite2 (fun _ => ?_) (fun _ => ?_)⟩
      · refine ⟨_, rfl, Or.inl ⟨rfl, _, SqL.of c1⟩, _, rfl, _, rfl, _, rfl, _, _, rfl, rfl, ⟨by decide, by decide⟩, _, rfl, Or.inr (Or.inl ⟨nt, _, _, .ref R, rfl, rfl, hN, rfl, _, _, rfl, Or.inl ⟨_, SqL.of N3.er, rfl⟩, _, _, rfl, rfl, q0, four_le', fun t ht => ?_⟩)⟩
        have s2 := same_new (o := .tup [.str lb, .str nm, .str "by", .int (n4 / 4 % ((qt.map V.ref).length : Nat))]) ht
        refine ⟨E1, _, _, rfl, rfl, s2 _ _ c1, lt3, ?_⟩
        exact tell t (lb, nm, "by", n4 / 4 % ((qt.map V.ref).length : Nat)) _ s2 upd_same hlb hnm (.inr ⟨rfl, Int.emod_nonneg _ (by omega), by have := Int.emod_lt_of_pos (n4 / 4) q0; show n4 / 4 % ((qt.map V.ref).length : Nat) < _; omega⟩) h3 h4
      · refine ⟨_, rfl, Or.inl ⟨rfl, _, SqL.of c1⟩, _, rfl, _, rfl, _, rfl, _, _, rfl, rfl, ⟨by decide, by decide⟩, _, rfl, Or.inr (Or.inl ⟨nt, _, _, .ref T, rfl, rfl, hN, rfl, _, _, rfl, Or.inl ⟨_, SqL.of N3.et, rfl⟩, _, _, rfl, rfl, t0, four_le', fun t ht => ?_⟩)⟩
        have s2 := same_new (o := .tup [.str lb, .str nm, .str "thing", .int (n4 / 4 % ((ts.map V.ref).length : Nat))]) ht
        refine ⟨E1, _, _, rfl, rfl, s2 _ _ c1, lt3, ?_⟩
        exact tell t (lb, nm, "thing", n4 / 4 % ((ts.map V.ref).length : Nat)) _ s2 upd_same hlb hnm (.inl ⟨rfl, Int.emod_nonneg _ (by omega), by have := Int.emod_lt_of_pos (n4 / 4) t0; show n4 / 4 % ((ts.map V.ref).length : Nat) < _; omega⟩) h3 h4
variable (P w K mg base) in
abbrev C__law_lay : Prop := Callee P w K mg base "_law_lay" 1 ["_law_net", "_law_labels", "_law_words_here", "_law_cell"] (sp__law_lay K)
theorem call__law_lay (B : Blt mg) (F : Fun K "_law_lay" "_law_lay" s__law_lay f fd) (hm : mg "_law_lay" = some (.ref f)) : C__law_lay P w K mg base :=
  ⟨f, fd, ok__law_lay B  F, hm, F.kp, F.binds fun _ _ _ _ _ _ us hl => (by obtain ⟨x0, x1, x2, x3, rfl⟩ := len_4 hl; rfl)⟩
theorem none_torn {r : Int} (h0 : 0 ≤ r) (h1 : r < 2) : ∃ w : Str, atI [V.str "none", V.str "torn"] r = some (V.str w) ∧ w ≠ ("thing" : Str) := by
  rcases (show r = 0 ∨ r = 1 by omega) with rfl | rfl
  · exact ⟨"none", rfl, by decide +kernel⟩
  · exact ⟨"torn", rfl, by decide +kernel⟩
def sp__law_answers (K : PySem.W.Frag) : Sp := fun vs H Q _ => ∃ (c : Int) (nt S T R : Addr) (ts qt : List Addr) (qs : List Qu), vs = [.int c, .ref nt] ∧ H nt = some (.tup [.ref S, .ref T, .ref R]) ∧ H T = some (.lst (ts.map V.ref)) ∧ 1 ≤ ts.length ∧ H R = some (.lst (qt.map V.ref)) ∧ QT H qt qs ∧ qs.length ≤ 60 ∧ (∀ q ∈ qs, 1 ≤ q.2.2.length) ∧
  ∀ (D : Addr) (us : List V) (as : List (Option (Str × Int))) (H' : Hp), H D = none → Same H H' → H' D = some (.lst us) → IsDts K H' us (as.map ansD) → as.length = qs.length → (∀ p, some p ∈ as → p.1 = ("thing" : Str) → 0 ≤ p.2 ∧ p.2 < ts.length) → Q (.ref D) H'
theorem ok__law_answers (B : Blt mg) (c__law_stream : C__law_stream P w K mg base) (F : Fun K "_law_answers" "_law_answers" s__law_answers f fd) : FnOk P w K mg base CX0 2 f fd ["_law_cell", "_law_net"] (sp__law_answers K) := by
  refine F.ok sc__law_answers (fun vs H Q E h => ?_) (fun cdv A outer s H vs Q E hr h => ?_)
  · obtain ⟨c, nt, S, T, R, ts, qt, qs, rfl, _⟩ := h
    rfl
  · obtain ⟨c, nt, S, T, R, ts, qt, qs, rfl, eN, eT, ht1, eR, TQ, q60, hq1, q⟩ := h
    have lqt : (qt.map V.ref).length = qs.length := by rw [List.length_map, TQ.len]
    have lts : (ts.map V.ref).length = ts.length := List.length_map ..
    refine ⟨_, (pss_cons (ps_set (i := 2) sc__law_answers.nd rfl (Or.inl rfl) (pe_lst pa_nil))
      (pss_cons (ps_for PassesOwn.never rfl (pi_list (pe_fn c__law_stream (hr.mono (by decide)) rfl (pa_cons (pv 0) (pa_cons (pe_callB call_len (by rfl) B.b_len (by decide +kernel) (pa_cons (pe_ix ix_seq (pv 1) pe_int (fun _ _ => rfl)) pa_nil)) pa_nil)))) (pg_name (i := 3) sc__law_answers.nd rfl (Or.inl rfl)) (pss_cons (ps_set (i := 4) sc__law_answers.nd rfl (Or.inl rfl) (pe_ix ix_seq (pe_ix ix_seq (pe_ix ix_seq (pv 1) pe_int (fun _ _ => rfl)) (pe_callB call_len (by rfl) B.b_len (by decide +kernel) (pa_cons (pv 2) pa_nil)) (fun _ _ => rfl)) pe_int (fun _ _ => rfl)))
        (pss_one (ps_if (pt_cmpR op_eq (pe_op op_mod (pv 3) pe_int) pe_int (nomark _)) (pss_one (ps_expr (pe_bm PySem.F.plainAttrs_list PySem.F.slot_list_append PySem.F.type_list_append mr_append (pv 2) (pa_cons pe_non pa_nil)))) (pss_one (ps_if (pt_cmpR op_eq (pe_op op_mod (pv 3) pe_int) pe_int (nomark _)) (pss_one (ps_expr (pe_bm PySem.F.plainAttrs_list PySem.F.slot_list_append PySem.F.type_list_append mr_append (pv 2) (pa_cons (pe_tup (pa_cons (pe_ix ix_seq (pe_lst (pa_cons pe_str (pa_cons pe_str pa_nil))) (pe_op op_mod (pe_op op_fdiv (pv 3) pe_int) pe_int) (fun _ _ => rfl)) (pa_cons (pe_op op_mod (pe_op op_fdiv (pv 3) pe_int) (pe_callB call_len (by rfl) B.b_len (by decide +kernel) (pa_cons (pv 4) pa_nil))) pa_nil))) pa_nil)))) (pss_one (ps_expr (pe_bm PySem.F.plainAttrs_list PySem.F.slot_list_append PySem.F.type_list_append mr_append (pv 2) (pa_cons (pe_tup (pa_cons pe_str (pa_cons (pe_op op_mod (pe_op op_fdiv (pv 3) pe_int) (pe_callB call_len (by rfl) B.b_len (by decide +kernel) (pa_cons (pe_ix ix_seq (pv 1) pe_int (fun _ _ => rfl)) pa_nil))) pa_nil))) pa_nil))))))))))
      (pss_one (ps_ret (pv 2))))), ?_⟩
    refine ⟨by decide, fun D hD => ?_⟩
    obtain ⟨H1, qH1, s1, eD1⟩ := new_at (o := .lst []) hD
    rw [← qH1]
    refine ⟨_, rfl, _, rfl, Or.inr (Or.inl ⟨nt, _, _, .ref R, rfl, rfl, SqT.of (s1 _ _ eN), rfl, _, _, rfl, Or.inl ⟨_, SqL.of (s1 _ _ eR), rfl⟩, c, _, rfl, by omega, by omega, fun L xs H2 hxl hL s2 eL => ⟨L, rfl, ⟨_, SqL.of eL⟩, ?_⟩⟩)⟩
    have nLD : L ≠ D := fun y => by rw [y, eD1] at hL; cases hL
    have hxq : xs.length = qs.length := by rw [hxl, lqt, Int.toNat_natCast]
    have up : ∀ {H' : Hp}, Keeps (· = D) H2 H' → Same H H' := fun k x o e => k.at_ _ _ (s2 _ _ (s1 _ _ e)) (ne_of_none e hD)
    refine for_list (xs := xs.map V.int) (fun i σ H' => ∃ (u3 u4 : Option V) (us : List V) (as : List (Option (Str × Int))), σ = [some (.int c), some (.ref nt), some (.ref D), u3, u4] ∧ Keeps (· = D) H2 H' ∧ H' D = some (.lst us) ∧ IsDts K H' us (as.map ansD) ∧ as.length = i ∧ ∀ p, some p ∈ as → p.1 = ("thing" : Str) → 0 ≤ p.2 ∧ p.2 < ts.length)
      ⟨none, none, [], [], rfl, Keeps.refl fun x o m e => by rw [m, s2 _ _ eD1] at e; exact ⟨_, (Option.some.inj e).symm⟩, s2 _ _ eD1, .nil, rfl, fun p hp => by simp at hp⟩ (fun i σ H' _ ⟨_, _, _, _, _, k, _⟩ => SqL.of (k.at_ _ _ eL nLD)) ?_ ?_
    rotate_left
    · rintro σ H3 ⟨u3, u4, us, as, rfl, k3, eD3, A3, hal, hok⟩
      refine ⟨_, rfl, q D us as H3 hD (up k3) eD3 A3 (by rw [hal, List.length_map, hxq]) hok⟩
    rintro i x σ H3 hx ⟨u3, u4, us, as, rfl, k3, eD3, A3, hal, hok⟩
    obtain ⟨nn, hnum, rfl⟩ := getm hx
    have hil : i < qs.length := by rw [← hxq]; exact (List.getElem?_eq_some_iff.mp hnum).1
    have hus : us.length = i := by rw [A3.len_map, hal]
    have s3 := up k3
    have hqi := List.getElem?_eq_getElem hil
    have hti : qt[i]? = some (qt[i]'(by rw [TQ.len]; exact hil)) := List.getElem?_eq_getElem _
    obtain ⟨pu, ep1, ep2⟩ := TQ.at_ i _ _ hti hqi
    have hl1 := hq1 _ (List.getElem_mem hil)
    generalize qs[i].2.2 = pth at ep2 hl1
    generalize qt[i]'(by rw [TQ.len]; exact hil) = qi at hti ep1
    have hat : atI (qt.map V.ref) ((us.length : Nat) : Int) = some (.ref qi) := atI_nat (by rw [hus, List.getElem?_map, hti]; rfl)
    refine ⟨_, rfl, Or.inr (Or.inl ⟨nt, _, _, .ref R, rfl, rfl, SqT.of (s3 _ _ eN), rfl, _, rfl, _, _, rfl, Or.inl ⟨_, SqL.of eD3, rfl⟩, Or.inl ⟨R, _, _, .ref qi, rfl, rfl, SqL.of (s3 _ _ eR), hat, Or.inr (Or.inl ⟨qi, _, _, .ref pu, rfl, rfl, SqT.of (s3 _ _ ep1), rfl, ?_⟩)⟩⟩)⟩
    refine g_in ?_
    try dsimp only
    have ll : us.length < sizeLine := by rw [hus]; exact small1000 (by omega)
    refine ⟨_, rfl, _, _, rfl, rfl, (by show (0 : Int) < 4; decide), rfl, _, rfl, ite2 (fun _ => ?_) (fun _ => ?_)⟩
    · have k4 : Keeps (· = D) H3 (upd H3 D (.lst (us ++ [.non]))) := Keeps.one eD3
      refine ⟨_, rfl, Or.inl ⟨rfl, _, SqL.of eD3⟩, D, _, _, rfl, rfl, eD3, ll, ?_⟩
      refine ⟨_, _, us ++ [.non], as ++ [none], rfl, ⟨fun x o e n => ?_, k3.ls⟩, upd_same, ?_, by rw [List.length_append, hal]; rfl, fun p hp => ?_⟩
      · rw [upd_ne n]; exact k3.at_ x o e n
      · rw [List.map_append]; exact (k4.anss A3).append (.cons .non .nil)
      · rcases List.mem_append.mp hp with hp | hp
        · exact hok p hp
        · simp at hp
    have one : ∀ (t : Addr) (p : Str × Int) (H4 : Hp), Same H3 H4 → H4 t = some (.tup [.str p.1, .int p.2]) → (p.1 = ("thing" : Str) → 0 ≤ p.2 ∧ p.2 < ts.length) →
        IsDts K (upd H4 D (.lst (us ++ [.ref t]))) (us ++ [.ref t]) ((as ++ [some p]).map ansD) ∧ Keeps (· = D) H2 (upd H4 D (.lst (us ++ [.ref t]))) ∧ (as ++ [some p]).length = i + 1 ∧ ∀ p', some p' ∈ as ++ [some p] → p'.1 = ("thing" : Str) → 0 ≤ p'.2 ∧ p'.2 < ts.length := fun t p H4 s4 et ht => by
      have k4 : Keeps (· = D) H4 (upd H4 D (.lst (us ++ [.ref t]))) := Keeps.one (s4 _ _ eD3)
      refine ⟨?_, ⟨fun x o e n => ?_, k3.ls⟩, by rw [List.length_append, hal]; rfl, fun p' hp => ?_⟩
      · rw [List.map_append]
        exact (k4.anss (A3.same s4)).append (.cons (.tup (k4.seqT (SqT.of et)) (.cons (.str _) (.cons (.int _) .nil))) .nil)
      · rw [upd_ne n]; exact s4 _ _ (k3.at_ x o e n)
      · rcases List.mem_append.mp hp with hp | hp
        · exact hok p' hp
        · rw [Option.some.inj (List.mem_singleton.mp hp)]; exact ht
    refine ⟨_, rfl, _, _, rfl, rfl, (by show (0 : Int) < 8; decide), rfl, _, rfl, ite2 (fun _ => ?_) (fun _ => ?_)⟩
    · obtain ⟨wd, hwd, hwn⟩ := none_torn (Int.emod_nonneg (nn / 8) (by decide : (2 : Int) ≠ 0)) (Int.emod_lt_of_pos (nn / 8) (by decide : (0 : Int) < 2))
      refine ⟨_, rfl, Or.inl ⟨rfl, _, SqL.of eD3⟩, two_le, fun l hl => ?_⟩
      obtain ⟨H4, qH4, s4, el⟩ := new_at (o := .lst [.str "none", .str "torn"]) hl
      rw [← qH4]
      refine ⟨_, rfl, _, _, rfl, rfl, ⟨by decide, by decide⟩, _, _, rfl, rfl, (by show (0 : Int) < 2; decide), Or.inl ⟨l, _, _, .str wd, rfl, rfl, SqL.of el, hwd, ?_⟩⟩
      refine ⟨_, rfl, _, _, rfl, rfl, ⟨by decide, by decide⟩, _, rfl, _, _, rfl, Or.inr ⟨_, SqT.of ((s3.trans s4) _ _ ep2), rfl⟩, _, _, rfl, rfl, ?_, two_le, fun t ht => ?_⟩
      · show (0 : Int) < _
        rw [List.length_map]; omega
      have s5 := s4.trans (same_new (o := .tup [.str wd, .int (nn / 16 % ((pth.map V.str).length : Nat))]) ht)
      obtain ⟨o1, o2, o3, o4⟩ := one t (wd, nn / 16 % ((pth.map V.str).length : Nat)) _ s5 upd_same (fun e => absurd e hwn)
      refine ⟨D, _, _, rfl, rfl, s5 _ _ eD3, ll, ?_⟩
      exact ⟨_, _, _, _, rfl, o2, upd_same, o1, o3, o4⟩
    · have th0 : (0 : Int) < ((ts.map V.ref).length : Nat) := by omega
      refine ⟨_, rfl, Or.inl ⟨rfl, _, SqL.of eD3⟩, _, rfl, _, _, rfl, rfl, ⟨by decide, by decide⟩, _, rfl, Or.inr (Or.inl ⟨nt, _, _, .ref T, rfl, rfl, SqT.of (s3 _ _ eN), rfl, _, _, rfl, Or.inl ⟨_, SqL.of (s3 _ _ eT), rfl⟩, _, _, rfl, rfl, th0, two_le, fun t ht => ?_⟩)⟩
      have s4 := same_new (o := .tup [.str "thing", .int (nn / 8 % ((ts.map V.ref).length : Nat))]) ht
      obtain ⟨o1, o2, o3, o4⟩ := one t ("thing", nn / 8 % ((ts.map V.ref).length : Nat)) _ s4 upd_same (fun _ => ⟨Int.emod_nonneg _ (by omega), by have := Int.emod_lt_of_pos (nn / 8) th0; show nn / 8 % ((ts.map V.ref).length : Nat) < _; omega⟩)
      refine ⟨D, _, _, rfl, rfl, s4 _ _ eD3, ll, ?_⟩
      exact ⟨_, _, _, _, rfl, o2, upd_same, o1, o3, o4⟩
variable (P w K mg base) in
abbrev C__law_answers : Prop := Callee P w K mg base "_law_answers" 2 ["_law_cell", "_law_net"] (sp__law_answers K)
theorem call__law_answers (B : Blt mg) (c__law_stream : C__law_stream P w K mg base) (F : Fun K "_law_answers" "_law_answers" s__law_answers f fd) (hm : mg "_law_answers" = some (.ref f)) : C__law_answers P w K mg base :=
  ⟨f, fd, ok__law_answers B c__law_stream F, hm, F.kp, F.binds fun _ _ _ _ _ _ us hl => (by obtain ⟨x0, x1, rfl⟩ := len_2 hl; rfl)⟩
theorem four_le3 : ([] : List V).length + 1 + 1 + 1 + 1 ≤ sizeLine := by decide
theorem words_cut (ws : List Str) : cutV (ws.map V.str) (some 4) none = (ws.drop 4).map V.str := by
  rw [show cutV (ws.map V.str) (some 4) none = (ws.map V.str).drop 4 from cutV_drop _ 4, ← List.map_drop]
theorem cells_cut6 (ns : List Int) : cutV (ns.map V.int) (some 6) none = (ns.drop 6).map V.int := by
  rw [show cutV (ns.map V.int) (some 6) none = (ns.map V.int).drop 6 from cutV_drop _ 6, ← List.map_drop]
theorem u_tok : TabOk uStates 1 uOrd := ⟨by decide +kernel, by decide +kernel, by decide +kernel, by decide +kernel, by decide +kernel⟩
def sp__law_case (K : PySem.W.Frag) : Sp := fun vs H Q _ => ∃ (a : Addr) (ns : List Int), vs = [.ref a] ∧ SqL K H a (ns.map V.int) ∧ ns.length ≤ 63 ∧
  ∀ (r nt t A WW : Addr) (W : Wd) (qs : List Qu) (inn : Int) (ord : List (Str × Str)) (ls ws : List Str) (H' : Hp), H r = none → Same H H' → H' r = some (.tup [.ref nt, .ref t, .ref A, .ref WW]) → CaseL K H H' nt t A WW W qs inn ord ls ws → Q (.ref r) H'
theorem ok__law_case (B : Blt mg) (c__law_words : C__law_words P w K mg base) (c__law_cell_at : C__law_cell_at P w K mg base) (c__law_table : C__law_table P w K mg base) (c_usual : C_usual P w K mg base) (c__law_things : C__law_things P w K mg base) (c__law_questions : C__law_questions P w K mg base) (c__law_lay : C__law_lay P w K mg base) (c__law_answers : C__law_answers P w K mg base) (F : Fun K "_law_case" "_law_case" s__law_case f fd) : FnOk P w K mg base CX0 6 f fd ["_law_script"] (sp__law_case K) := by
  refine F.ok sc__law_case (fun vs H Q E h => ?_) (fun cdv A outer s H vs Q E hr h => ?_)
  · obtain ⟨a, ns, rfl, _⟩ := h
    rfl
  · obtain ⟨a, ns, rfl, hS, hlen, q⟩ := h
    refine ⟨_, (pss_cons (ps_set (i := 1) sc__law_case.nd rfl (Or.inl rfl) (pe_fn c__law_words (hr.mono (by decide)) rfl (pa_cons (pe_op op_mod (pe_fn c__law_cell_at (hr.mono (by decide)) rfl (pa_cons (pv 0) (pa_cons pe_int pa_nil))) (pe_op op_pow pe_int pe_int)) (pa_cons pe_int pa_nil))))
      (pss_cons (ps_set (i := 2) sc__law_case.nd rfl (Or.inl rfl) (pe_slice sl_list (pv 1) (po_some pe_int) po_none))
      (pss_cons (ps_set (i := 3) sc__law_case.nd rfl (Or.inl rfl) (pe_fn c__law_table (hr.mono (by decide)) rfl (pa_cons (pe_op op_fdiv (pe_fn c__law_cell_at (hr.mono (by decide)) rfl (pa_cons (pv 0) (pa_cons pe_int pa_nil))) pe_int) (pa_cons (pv 2) pa_nil))))
      (pss_cons (ps_if (pt_cmpR op_eq (pe_op op_mod (pe_fn c__law_cell_at (hr.mono (by decide)) rfl (pa_cons (pv 0) (pa_cons pe_int pa_nil))) pe_int) pe_int (nomark _)) (pss_cons (ps_set (i := 3) sc__law_case.nd rfl (Or.inl rfl) (pe_fn0 c_usual (hr.mono (by decide)) rfl))
        (pss_one (ps_set (i := 2) sc__law_case.nd rfl (Or.inl rfl) (pe_lst (pa_cons pe_str (pa_cons pe_str (pa_cons pe_str (pa_cons pe_str (pa_cons pe_str (pa_cons pe_str (pa_cons pe_str pa_nil))))))))))) pss_nil)
      (pss_cons (ps_set (i := 4) sc__law_case.nd rfl (Or.inl rfl) (pe_op op_add pe_int (pe_op op_mod (pe_fn c__law_cell_at (hr.mono (by decide)) rfl (pa_cons (pv 0) (pa_cons pe_int pa_nil))) pe_int)))
      (pss_cons (ps_set (i := 5) sc__law_case.nd rfl (Or.inl rfl) (pe_op op_add pe_int (pe_op op_mod (pe_op op_fdiv (pe_fn c__law_cell_at (hr.mono (by decide)) rfl (pa_cons (pv 0) (pa_cons pe_int pa_nil))) pe_int) pe_int)))
      (pss_cons (ps_set (i := 6) sc__law_case.nd rfl (Or.inl rfl) (pe_fn c__law_things (hr.mono (by decide)) rfl (pa_cons (pe_op op_fdiv (pe_fn c__law_cell_at (hr.mono (by decide)) rfl (pa_cons (pv 0) (pa_cons pe_int pa_nil))) pe_int) (pa_cons (pe_op op_add pe_int (pe_op op_mod (pe_fn c__law_cell_at (hr.mono (by decide)) rfl (pa_cons (pv 0) (pa_cons pe_int pa_nil))) pe_int)) (pa_cons (pv 4) (pa_cons (pv 5) pa_nil))))))
      (pss_cons (ps_set (i := 7) sc__law_case.nd rfl (Or.inl rfl) (pe_fn c__law_questions (hr.mono (by decide)) rfl (pa_cons (pe_fn c__law_cell_at (hr.mono (by decide)) rfl (pa_cons (pv 0) (pa_cons pe_int pa_nil))) (pa_cons (pv 5) (pa_cons (pv 4) (pa_cons (pe_callB call_len (by rfl) B.b_len (by decide +kernel) (pa_cons (pe_ix ix_seq (pv 3) pe_int (fun _ _ => rfl)) pa_nil)) (pa_cons (pv 1) pa_nil)))))))
      (pss_cons (ps_set (i := 8) sc__law_case.nd rfl (Or.inl rfl) (pe_tup (pa_cons (pe_comp rfl _law_case_cs1 (pi_range1 rfl B.b_range (pa_cons (pv 4) pa_nil)) (fun _ _ _ _ _ => (pg_name (i := 0) _law_case_cs1.nd rfl (Or.inl rfl))) (fun _ _ _ _ _ => pf_nil) (fun _ _ _ _ _ => (pe_tup (pa_cons (pe_lst pa_nil) (pa_cons (pe_lst pa_nil) pa_nil))))) (pa_cons (pv 6) (pa_cons (pv 7) pa_nil)))))
      (pss_cons (ps_for PassesOwn.never rfl (pi_list (pe_slice sl_list (pv 0) (po_some pe_int) po_none)) (pg_name (i := 9) sc__law_case.nd rfl (Or.inl rfl)) (pss_one (ps_expr (pe_fn c__law_lay (hr.mono (by decide)) rfl (pa_cons (pv 8) (pa_cons (pv 2) (pa_cons (pv 1) (pa_cons (pv 9) pa_nil))))))))
      (pss_cons (ps_set (i := 10) sc__law_case.nd rfl (Or.inl rfl) (pe_fn c__law_answers (hr.mono (by decide)) rfl (pa_cons (pe_fn c__law_cell_at (hr.mono (by decide)) rfl (pa_cons (pv 0) (pa_cons pe_int pa_nil))) (pa_cons (pv 8) pa_nil))))
      (pss_one (ps_ret (pe_tup (pa_cons (pv 8) (pa_cons (pv 3) (pa_cons (pv 10) (pa_cons (pv 1) pa_nil)))))))))))))))))), ?_⟩
    refine ⟨_, rfl, a, ns, 0, rfl, by decide, hS, _, _, rfl, rfl, ⟨by decide, by decide, by decide⟩, _, _, rfl, rfl, (by show (0 : Int) < 10 ^ Int.toNat 9; decide), _, _, rfl, by decide, by decide, fun WW ws H1 hwl hlow hWW s1 eW => ?_⟩
    have hw9 : ws.length = 9 := hwl
    refine g_in ?_
    try dsimp only
    refine ⟨_, rfl, _, rfl, WW, _, rfl, SqL.of eW, fun L0 hL0 => ?_⟩
    rw [words_cut]
    obtain ⟨H2, qH2, s2, eL0⟩ := new_at (o := .lst ((ws.drop 4).map V.str)) hL0
    rw [← qH2]
    refine g_in ?_
    try dsimp only
    have s02 := s1.trans s2
    refine ⟨_, rfl, a, ns, 1, rfl, by decide, s02.seq hS, _, _, rfl, rfl, ⟨by decide, by decide⟩, _, rfl, _, L0, ws.drop 4, rfl, SqL.of eL0, by rw [List.length_drop, hw9], fun t0 sts0 inn0 ord0 H3 ht0 s3 TB0 tok0 => ?_⟩
    refine g_in ?_
    try dsimp only
    have s03 := s02.trans s3
    refine seq_cut (fun σ' H' => ∃ (t L : Addr) (sts : List Stt) (inn : Int) (ord : List (Str × Str)) (ls : List Str), σ' = [some (.ref a), some (.ref WW), some (.ref L), some (.ref t), none, none, none, none, none, none, none] ∧ Same H3 H' ∧ Tab K (fun x => H x = none) H' t sts inn ord ∧ TabOk sts inn ord ∧ H' L = some (.lst (ls.map V.str)) ∧ 1 ≤ ls.length ∧ ls.length ≤ 9) ?_ (fun N hN => ?_)
    case refine_2 =>
      refine ⟨_, rfl, a, ns, 1, rfl, by decide, s03.seq hS, _, _, rfl, rfl, (by show (0 : Int) < 4; decide), rfl, _, rfl, ite2 (fun _ => ?_) (fun _ => ?_)⟩
      · refine ⟨rfl, fun t H4 ht s4 TB => ?_⟩
        refine g_in ?_
        try dsimp only
        refine ⟨(show 7 ≤ sizeLine by decide), fun L hL => ?_⟩
        refine hN _ _ ⟨t, L, uStates, 1, uOrd, ["all", "allon", "elder", "let", "open", "own", "up"], rfl, s4.trans (same_new hL), (TB.same (same_new hL)).mono fun x hx => s03.free hx, u_tok, upd_same, by decide, by decide⟩
      · exact hN _ _ ⟨t0, L0, sts0, inn0, ord0, ws.drop 4, rfl, Same.refl _, TB0.mono fun x hx => s02.free hx, tok0, s3 _ _ eL0, by rw [List.length_drop]; omega, by rw [List.length_drop]; omega⟩
    rintro σ' H4 ⟨t, L, sts, inn, ord, ls, rfl, s4, TB, tok, eL, l1, l9⟩
    have s04 := s03.trans s4
    obtain ⟨ta, to, tus, tts, et, _, _, _, eta, SRt, _⟩ := TB.ex
    have lsts : (tus.map V.ref).length = sts.length := by rw [List.length_map, SRt.len]
    refine ⟨_, rfl, a, ns, 2, rfl, by decide, s04.seq hS, _, _, rfl, rfl, (by show (0 : Int) < 5; decide), _, _, rfl, rfl, ?_⟩
    try dsimp only
    obtain ⟨S0, eS0⟩ : ∃ S0, S0 = 1 + cellAt ns 2 % 5 := ⟨_, rfl⟩
    rw [← eS0]
    have hS0 : 1 ≤ S0 ∧ S0 ≤ 5 := by omega
    refine g_in ?_
    try dsimp only
    refine ⟨_, rfl, a, ns, 2, rfl, by decide, s04.seq hS, _, _, rfl, rfl, ⟨by decide, by decide⟩, _, _, rfl, rfl, (by show (0 : Int) < 5; decide), _, _, rfl, rfl, ?_⟩
    try dsimp only
    obtain ⟨Q0, eQ0⟩ : ∃ Q0, Q0 = 1 + cellAt ns 2 / 5 % 5 := ⟨_, rfl⟩
    rw [← eQ0]
    have hQ0 : 1 ≤ Q0 ∧ Q0 ≤ 5 := by omega
    refine g_in ?_
    try dsimp only
    have g0 : 0 ≤ cellAt ns 3 % 6 ∧ cellAt ns 3 % 6 < 6 := by omega
    refine ⟨_, rfl, a, ns, 3, rfl, by decide, s04.seq hS, _, _, rfl, rfl, ⟨by decide, by decide⟩, _, rfl, a, ns, 3, rfl, by decide, s04.seq hS, _, _, rfl, rfl, (by show (0 : Int) < 6; decide), _, _, rfl, rfl, _, rfl, _, rfl, _, _, _, _, rfl, by omega, by omega, by omega, by omega, fun T ts gs H5 hgl hgok hT s5 eT TG => ?_⟩
    have hg0 : 1 ≤ gs.length ∧ gs.length ≤ 6 := by omega
    refine g_in ?_
    try dsimp only
    have s05 := s04.trans s5
    have hlst : (0 : Int) < ((tus.map V.ref).length : Nat) := by rw [lsts]; have := tok.n; omega
    refine ⟨_, rfl, a, ns, 4, rfl, by decide, s05.seq hS, _, rfl, _, rfl, _, rfl, Or.inr (Or.inl ⟨t, _, _, .ref ta, rfl, rfl, SqT.of (s5 _ _ et), rfl, _, _, rfl, Or.inl ⟨_, SqL.of (s5 _ _ eta), rfl⟩, _, rfl, _, _, _, _, WW, ws, rfl, SqL.of ((((s2.trans s3).trans s4).trans s5) _ _ eW), by omega, by omega, by omega, by omega, hlst, fun R qt qs H6 hql hqok hR s6 eR TQ => ?_⟩)⟩
    have hq0 : 1 ≤ qs.length ∧ qs.length ≤ 5 := by omega
    rw [lsts] at hqok
    refine g_in ?_
    try dsimp only
    have s06 := s05.trans s6
    have s16 := (((s2.trans s3).trans s4).trans s5).trans s6
    have hTH : H T = none := s04.free hT
    have hRH : H R = none := s05.free hR
    refine ⟨_, rfl, _, rfl, by omega, by omega, comp_rangeI (fun D i ys H' => ∃ us Gs Es : List Addr, ys = us.map V.ref ∧ Same H6 H' ∧ Scs H' D us Gs Es (List.replicate i (([], []) : Sco)) ∧ (D :: (Gs ++ Es)).Nodup ∧ ∀ x ∈ Gs ++ Es, H6 x = none)
      (fun D hD => ⟨[], [], [], rfl, same_new hD, Scs.nil upd_same, by simp, fun x hx => by simp at hx⟩) (fun D i ys H7 RR hD hi hv k => ?_) (fun S ys H7 hS7 hv => ?_)⟩
    · obtain ⟨us, Gs, Es, rfl, s7, SC, nd, hfr⟩ := hv
      have lus := SC.lu
      rw [List.length_replicate] at lus
      refine ⟨by decide, fun G hG => ?_⟩
      obtain ⟨H8, qH8, t1, eG⟩ := new_at (o := .lst []) hG
      rw [← qH8]
      refine ⟨by decide, fun E1 hE1 => ?_⟩
      obtain ⟨H9, qH9, t2, eE1⟩ := new_at (o := .lst []) hE1
      rw [← qH9]
      refine ⟨two_le, fun u hu => ?_⟩
      obtain ⟨H10, qH10, t3, eu⟩ := new_at (o := .tup [.ref G, .ref E1]) hu
      rw [← qH10]
      have t13 := (t1.trans t2).trans t3
      have t23 := t2.trans t3
      have SC8 := SC.same t13
      have al := SC.alive
      have nG : G ∉ D :: (Gs ++ Es) := fun y => by
        rcases List.mem_cons.mp y with y | y
        · rw [y, SC.top] at hG; cases hG
        · obtain ⟨xs, e⟩ := al G y
          rw [e] at hG; cases hG
      have nE : E1 ∉ D :: (Gs ++ Es) := fun y => by
        rcases List.mem_cons.mp y with y | y
        · rw [y, t1 _ _ SC.top] at hE1; cases hE1
        · obtain ⟨xs, e⟩ := al E1 y
          rw [t1 _ _ e] at hE1; cases hE1
      have nGE : G ≠ E1 := fun y => by rw [← y, eG] at hE1; cases hE1
      have hs8 : ScH H10 u G E1 ([], []) := ⟨eu, ⟨[], t23 _ _ eG, RT.nil⟩, ⟨[], t3 _ _ eE1, RT.nil⟩⟩
      have SC9 := SC8.snoc hs8 (fun z => nG (z ▸ List.mem_cons_self)) (fun z => nE (z ▸ List.mem_cons_self)) (fun x hx z => (List.nodup_cons.mp nd).1 (z ▸ hx))
      refine k _ _ SC8.top (by rw [List.length_map, lus]; exact small1000 (by omega)) ⟨us ++ [u], Gs ++ [G], Es ++ [E1], by rw [List.map_append]; rfl, fun b o e => ?_, ?_, nd_snoc2 nd nG nE nGE, fun x hx => ?_⟩
      · rw [upd_ne (ne_of_none e hD)]; exact t13 _ _ (s7 _ _ e)
      · rw [List.replicate_succ']; exact SC9
      · have : x ∈ Gs ++ Es ∨ x = G ∨ x = E1 := by
          simp only [List.mem_append, List.mem_singleton] at hx ⊢
          rcases hx with (h | h) | (h | h)
          · exact .inl (.inl h)
          · exact .inr (.inl h)
          · exact .inl (.inr h)
          · exact .inr (.inr h)
        rcases this with h | h | h
        · exact hfr x h
        · rw [h]; exact s7.free hG
        · rw [h]; exact (s7.trans t1).free hE1
    obtain ⟨us, Gs, Es, rfl, s7, SC7, nd, hfr⟩ := hv
    have hSn : H6 S = none := hS7
    have s07 := s06.trans s7
    refine ⟨_, rfl, _, rfl, three_le, fun nt hnt => ?_⟩
    obtain ⟨H8, qH8, s8, ent⟩ := new_at (o := .tup [.ref S, .ref T, .ref R]) hnt
    rw [← qH8]
    refine g_in ?_
    try dsimp only
    have s08 := s07.trans s8
    refine ⟨_, rfl, _, rfl, a, _, rfl, s08.seq hS, fun p0 h0 => ?_⟩
    rw [cells_cut6]
    have hcl : (ns.drop 6).length ≤ 63 := by rw [List.length_drop]; omega
    generalize ns.drop 6 = cells at hcl ⊢
    obtain ⟨H9, qH9, s9, ep⟩ := new_at (o := .lst (cells.map V.int)) h0
    rw [← qH9]
    have s68 := s7.trans s8
    have s69 := s68.trans s9
    have M6 : ∀ x o, H6 x = some o → x ∉ Gs ++ Es := fun x o e y => by rw [hfr x y] at e; cases e
    have M7 : ∀ x, H7 x = none → x ∉ Gs ++ Es := fun x e y => by
      obtain ⟨xs, e'⟩ := SC7.alive x y
      rw [e'] at e; cases e
    have MS : S ∉ Gs ++ Es := (List.nodup_cons.mp nd).1
    have N39 : Net3 H9 S T R us Gs Es ts qt (List.replicate S0.toNat (([], []) : Sco)) gs qs := ⟨SC7.same (s8.trans s9), (s6.trans s69) _ _ eT, TG.same (s6.trans s69), s69 _ _ eR, TQ.same s69⟩
    have k9 : Keeps (fun x => x ∈ Gs ++ Es) H9 H9 := Keeps.refl fun x o y e => by
      obtain ⟨xs, e'⟩ := N39.sc.alive x y
      rw [e'] at e
      exact ⟨xs, (Option.some.inj e).symm⟩
    have hp0 : p0 ∉ Gs ++ Es := M7 p0 (s8.free h0)
    have lay0 : LayW gs.length qs.length ls ws (List.replicate S0.toNat (([], []) : Sco)) := ⟨fun s hs => by rw [List.eq_of_mem_replicate hs]; simp, fun s hs => by rw [List.eq_of_mem_replicate hs]; simp, fun s hs p hp => by rw [List.eq_of_mem_replicate hs] at hp; simp at hp, fun s hs p hp => by rw [List.eq_of_mem_replicate hs] at hp; simp at hp⟩
    refine ⟨p0, rfl, ⟨_, SqL.of ep⟩, for_list (xs := cells.map V.int) (fun i σ H' => ∃ u9 ss, σ = [some (.ref a), some (.ref WW), some (.ref L), some (.ref t), some (.int S0), some (.int Q0), some (.ref T), some (.ref R), some (.ref nt), u9, none] ∧ Keeps (fun x => x ∈ Gs ++ Es) H9 H' ∧ Net3 H' S T R us Gs Es ts qt ss gs qs ∧ ss.length = S0.toNat ∧ LayW gs.length qs.length ls ws ss)
      ⟨none, _, rfl, k9, N39, List.length_replicate .., lay0⟩ (fun i σ H' _ ⟨_, _, _, k, _⟩ => SqL.of (k.at_ _ _ ep hp0)) ?_ ?_⟩
    · rintro i x σ H10 hx ⟨u9, ss, rfl, k10, N10, hsl, lay⟩
      obtain ⟨c, hc, rfl⟩ := getm hx
      have eL10 := k10.at_ _ _ ((s5.trans (s6.trans s69)) _ _ eL) (M6 _ _ ((s5.trans s6) _ _ eL))
      have eW10 := k10.at_ _ _ ((s16.trans s69) _ _ eW) (M6 _ _ (s16 _ _ eW))
      refine ⟨_, rfl, _, rfl, _, rfl, _, rfl, nt, L, WW, c, S, T, R, us, Gs, Es, ts, qt, ss, gs, qs, ls, ws, rfl, k10.tup (s9 _ _ ent), N10, nd, M6 _ _ (s6 _ _ eT), M6 _ _ eR, by omega, by omega, by omega, by omega, by omega, by omega, SqL.of eL10, l1, by omega, SqL.of eW10, by omega, lay, fun ss' H11 k11 N11 hsl11 lay11 => ?_⟩
      exact ⟨_, ss', rfl, ⟨fun x o e n => k11.at_ _ _ (k10.at_ x o e n) n, k10.ls⟩, N11, by omega, lay11⟩
    rintro σ H10 ⟨u9, ss, rfl, k10, N10, hsl, lay⟩
    have up : Same H H10 := fun x o e => k10.at_ _ _ ((s08.trans s9) _ _ e) (M6 _ _ (s06 _ _ e))
    have ent10 := k10.tup (s9 _ _ ent)
    refine ⟨_, rfl, a, ns, 5, rfl, by decide, up.seq hS, _, rfl, _, nt, S, T, R, ts, qt, qs, rfl, ent10, N10.et, ?_, N10.er, N10.tq, by omega, fun z hz => (hqok z hz).2.2.1, fun A avs as H11 hA s11 eA dA hal hao => ?_⟩
    · rw [N10.tg.len]; omega
    refine g_in ?_
    try dsimp only
    refine ⟨_, rfl, _, rfl, _, rfl, _, rfl, four_le3, fun r hr => ?_⟩
    obtain ⟨H12, qH12, s12, er⟩ := new_at (o := .tup [.ref nt, .ref t, .ref A, .ref WW]) hr
    rw [← qH12]
    have s1012 := s11.trans s12
    have eW10 := k10.at_ _ _ ((s16.trans s69) _ _ eW) (M6 _ _ (s16 _ _ eW))
    have t10 : Keeps (fun x => x ∈ Gs ++ Es) H4 H10 := ⟨fun x o e n => k10.at_ _ _ ((s5.trans (s6.trans s69)) _ _ e) n, fun x o m e => by
      rw [hfr x m |> fun z => (s5.trans s6).free z] at e; cases e⟩
    have TB4' := TB.alive.keeps t10 fun x hx m => by
      obtain ⟨o, e⟩ := hx.2
      exact M6 _ _ ((s5.trans s6) _ _ e) m
    have nA : ∀ x o, H10 x = some o → x ≠ A := fun x o e y => by rw [y, hA] at e; cases e
    have TB12 : Tab K (fun x => H x = none ∧ x ≠ A) H12 t sts inn ord := (TB4'.same s1012).mono fun x hx => by
      obtain ⟨h1, o, e⟩ := hx
      exact ⟨h1, nA x o (t10.at_ _ _ e (M6 _ _ ((s5.trans s6) _ _ e)))⟩
    have hlq : qs.length = as.length := hal.symm
    refine q r nt t A WW ⟨ss, gs, as, sts⟩ qs inn ord ls ws H12 ((up.trans s11).free hr) (up.trans s1012) er ⟨⟨S, T, R, us, Gs, Es, ts, qt, s1012 _ _ ent10, N10.same s1012, fun x hx => ?_⟩, TB12, ⟨avs, s12 _ _ eA, dA.same s12⟩, ?_, ?_, up.free hA, ⟨⟨by show ss.length ≤ 5; omega, lay.st, lay.tl, fun s hs p hp => ?_, fun p hp => ?_, fun p hp e => ?_, tok.go⟩, ?_, by show 1 ≤ ss.length; omega, hlq, hq0, hg0, fun z hz => ?_⟩, tok, hw9⟩
    · have al := N10.sc.alive
      rcases List.mem_cons.mp hx with rfl | hx
      · exact ⟨nA _ _ N10.sc.top, s06.free hSn⟩
      rcases List.mem_cons.mp hx with rfl | hx
      · exact ⟨nA _ _ N10.et, hTH⟩
      rcases List.mem_cons.mp hx with rfl | hx
      · exact ⟨nA _ _ N10.er, hRH⟩
      obtain ⟨xs, e⟩ := al x hx
      exact ⟨nA _ _ e, s06.free (hfr x hx)⟩
    · exact s1012 _ _ eW10
    · exact nA _ _ eW10
    · have := (lay.kst s hs p hp).2
      rwa [hlq] at this
    · have := hgok p hp
      rwa [show S0 = ((ss.length : Nat) : Int) by omega, show Q0 = ((as.length : Nat) : Int) by omega] at this
    · have := hao p hp e
      rwa [N10.tg.len] at this
    · rw [← hlq]; exact lay
    · have := hqok z hz
      rwa [show S0 = ((ss.length : Nat) : Int) by omega] at this
variable (P w K mg base) in
abbrev C__law_case : Prop := Callee P w K mg base "_law_case" 6 ["_law_script"] (sp__law_case K)
theorem call__law_case (B : Blt mg) (c__law_words : C__law_words P w K mg base) (c__law_cell_at : C__law_cell_at P w K mg base) (c__law_table : C__law_table P w K mg base) (c_usual : C_usual P w K mg base) (c__law_things : C__law_things P w K mg base) (c__law_questions : C__law_questions P w K mg base) (c__law_lay : C__law_lay P w K mg base) (c__law_answers : C__law_answers P w K mg base) (F : Fun K "_law_case" "_law_case" s__law_case f fd) (hm : mg "_law_case" = some (.ref f)) : C__law_case P w K mg base :=
  ⟨f, fd, ok__law_case B c__law_words c__law_cell_at c__law_table c_usual c__law_things c__law_questions c__law_lay c__law_answers F, hm, F.kp, F.binds fun _ _ _ _ _ _ us hl => (by obtain ⟨x0, rfl⟩ := len_1 hl; rfl)⟩
def sp__law_copy (K : PySem.W.Frag) : Sp := fun vs H Q _ => ∃ (pt S T R : Addr) (us Gs Es ts qt : List Addr) (ss : List Sco) (gs : List (Str × Int)) (qs : List Qu), vs = [.ref pt] ∧ H pt = some (.tup [.ref S, .ref T, .ref R]) ∧ Net3 H S T R us Gs Es ts qt ss gs qs ∧ ss.length ≤ 1000 ∧
  ∀ (nt S2 T2 R2 : Addr) (u2 G2 E2 : List Addr) (H' : Hp), Same H H' → H' nt = some (.tup [.ref S2, .ref T2, .ref R2]) → Net3 H' S2 T2 R2 u2 G2 E2 ts qt ss gs qs → (S2 :: (G2 ++ E2)).Nodup → H S2 = none → H T2 = none → H R2 = none → (∀ x ∈ G2 ++ E2, H x = none) → T2 ≠ R2 → S2 ≠ T2 → S2 ≠ R2 → (∀ x ∈ G2 ++ E2, x ≠ S2 ∧ x ≠ T2 ∧ x ≠ R2) → Q (.ref nt) H'
theorem ok__law_copy (B : Blt mg) (F : Fun K "_law_copy" "_law_copy" s__law_copy f fd) : FnOk P w K mg base CX0 1 f fd ["_law_parts"] (sp__law_copy K) := by
  refine F.ok sc__law_copy (fun vs H Q E h => ?_) (fun cdv A outer s H vs Q E hr h => ?_)
  · obtain ⟨pt, S, T, R, us, Gs, Es, ts, qt, ss, gs, qs, rfl, _⟩ := h
    rfl
  · obtain ⟨pt, S, T, R, us, Gs, Es, ts, qt, ss, gs, qs, rfl, ept, hN, l1, q⟩ := h
    refine ⟨_, (pss_cons (ps_setC (i := 1) sc__law_copy.nd rfl (Or.inl rfl) (g := gTup K 2 (gCons (gName 0) (gCons (gName 1) gNil))) (te := tTup (tCons (tCB (rListOf K) (tCons (tVar 0) tNil)) (tCons (tCB (rListOf K) (tCons (tVar 1) tNil)) tNil))) rfl _law_copy_cs1 (pi_list (pe_ix ix_seq (pv 0) pe_int (fun _ _ => rfl))) (fun _ _ _ _ _ => (pg_tup rfl (pgs_cons (pg_name (i := 0) _law_copy_cs1.nd rfl (Or.inl rfl)) (pgs_cons (pg_name (i := 1) _law_copy_cs1.nd rfl (Or.inl rfl)) pgs_nil)))) (fun _ _ _ _ _ => pf_nil) (fun _ _ _ _ _ => (pe_tup (pa_cons (pe_callTy call_list_of (by rfl) B.b_list (by decide +kernel) (pa_cons (pv 0) pa_nil)) (pa_cons (pe_callTy call_list_of (by rfl) B.b_list (by decide +kernel) (pa_cons (pv 1) pa_nil)) pa_nil)))))
      (pss_one (ps_ret (pe_tup (pa_cons (pv 1) (pa_cons (pe_callTy call_list_of (by rfl) B.b_list (by decide +kernel) (pa_cons (pe_ix ix_seq (pv 0) pe_int (fun _ _ => rfl)) pa_nil)) (pa_cons (pe_callTy call_list_of (by rfl) B.b_list (by decide +kernel) (pa_cons (pe_ix ix_seq (pv 0) pe_int (fun _ _ => rfl)) pa_nil)) pa_nil))))))), ?_⟩
    refine ⟨_, rfl, Or.inr (Or.inl ⟨pt, _, _, .ref S, rfl, rfl, SqT.of ept, rfl, S, rfl, ⟨_, SqL.of hN.sc.top⟩, comp_listI (xs := us.map V.ref) (fun D i ys H' => ∃ u2 G2 E2 : List Addr, ys = u2.map V.ref ∧ Same H H' ∧ Scs H' D u2 G2 E2 (ss.take i) ∧ (D :: (G2 ++ E2)).Nodup ∧ ∀ x ∈ G2 ++ E2, H x = none)
      (fun D hD => ⟨[], [], [], rfl, same_new hD, by rw [List.take_zero]; exact Scs.nil upd_same, by simp, fun x hx => by simp at hx⟩) (fun D i ys H' ⟨_, _, _, _, s9, _⟩ => SqL.of (s9 _ _ hN.sc.top)) (fun D i x ys H9 RR hD hx hv k => ?_) (fun D2 ys H9 hD2 hv => ?_)⟩)⟩
    · obtain ⟨u2, G2, E2, rfl, s9, SC9, nd, hfr⟩ := hv
      obtain ⟨u, hu, rfl⟩ := getm hx
      have hil : i < ss.length := by rw [← hN.sc.lu]; exact (List.getElem?_eq_some_iff.mp hu).1
      obtain ⟨u', G, E1, g1, g2, g3, g4, g5⟩ := (hN.sc.same s9).get hil
      rw [hu] at g1; cases g1
      obtain ⟨a1, ⟨tG, b1, b2⟩, ⟨tE, c1, c2⟩⟩ := g5
      have etk : ss.take (i + 1) = ss.take i ++ [ss[i]] := by rw [List.take_succ, g4]; rfl
      have lu2 := SC9.lu
      rw [List.length_take] at lu2
      refine ⟨u, _, rfl, SqT.of a1, rfl, _, _, rfl, _, _, rfl, rfl, ?_⟩
      refine ⟨_, rfl, G, _, rfl, Or.inl (SqL.of b1), fun G3 hG3 => ?_⟩
      obtain ⟨H10, qH10, t1, eG3⟩ := new_at (o := .lst (tG.map V.ref)) hG3
      rw [← qH10]
      refine ⟨_, rfl, E1, _, rfl, Or.inl (SqL.of (t1 _ _ c1)), fun E3 hE3 => ?_⟩
      obtain ⟨H11, qH11, t2, eE3⟩ := new_at (o := .lst (tE.map V.ref)) hE3
      rw [← qH11]
      refine ⟨two_le, fun u3 hu3 => ?_⟩
      obtain ⟨H12, qH12, t3, eu3⟩ := new_at (o := .tup [.ref G3, .ref E3]) hu3
      rw [← qH12]
      have t13 := (t1.trans t2).trans t3
      have t23 := t2.trans t3
      have SC12 := SC9.same t13
      have al := SC9.alive
      have nG : G3 ∉ D :: (G2 ++ E2) := fun y => by
        rcases List.mem_cons.mp y with y | y
        · rw [y, SC9.top] at hG3; cases hG3
        · obtain ⟨xs, e⟩ := al _ y
          rw [e] at hG3; cases hG3
      have nE : E3 ∉ D :: (G2 ++ E2) := fun y => by
        rcases List.mem_cons.mp y with y | y
        · rw [y, t1 _ _ SC9.top] at hE3; cases hE3
        · obtain ⟨xs, e⟩ := al _ y
          rw [t1 _ _ e] at hE3; cases hE3
      have nGE : G3 ≠ E3 := fun y => by rw [← y, eG3] at hE3; cases hE3
      have hs12 : ScH H12 u3 G3 E3 ss[i] := ⟨eu3, ⟨tG, t23 _ _ eG3, b2.same t13⟩, ⟨tE, t3 _ _ eE3, c2.same t13⟩⟩
      refine k _ _ SC12.top (by rw [List.length_map, lu2]; exact small1000 (by omega)) ⟨u2 ++ [u3], G2 ++ [G3], E2 ++ [E3], by rw [List.map_append]; rfl, fun b o e => ?_, ?_, nd_snoc2 nd nG nE nGE, fun x hx => ?_⟩
      · rw [upd_ne (ne_of_none e hD)]; exact t13 _ _ (s9 _ _ e)
      · rw [etk]; exact SC12.snoc hs12 (fun z => nG (z ▸ List.mem_cons_self)) (fun z => nE (z ▸ List.mem_cons_self)) (fun x hx z => (List.nodup_cons.mp nd).1 (z ▸ hx))
      · simp only [List.mem_append, List.mem_singleton] at hx
        rcases hx with (h | h) | (h | h)
        · exact hfr x (List.mem_append_left _ h)
        · rw [h]; exact s9.free hG3
        · exact hfr x (List.mem_append_right _ h)
        · rw [h]; exact (s9.trans t1).free hE3
    obtain ⟨u2, G2, E2, rfl, s9, SC9, nd, hfr⟩ := hv
    rw [show (us.map V.ref).length = ss.length by rw [List.length_map, hN.sc.lu], List.take_length] at SC9
    refine ⟨_, rfl, _, rfl, Or.inr (Or.inl ⟨pt, _, _, .ref T, rfl, rfl, SqT.of (s9 _ _ ept), rfl, T, _, rfl, Or.inl (SqL.of (s9 _ _ hN.et)), fun T2 hT2 => ?_⟩)⟩
    obtain ⟨H10, qH10, t1, eT2⟩ := new_at (o := .lst (ts.map V.ref)) hT2
    rw [← qH10]
    refine ⟨_, rfl, Or.inr (Or.inl ⟨pt, _, _, .ref R, rfl, rfl, SqT.of (t1 _ _ (s9 _ _ ept)), rfl, R, _, rfl, Or.inl (SqL.of (t1 _ _ (s9 _ _ hN.er))), fun R2 hR2 => ?_⟩)⟩
    obtain ⟨H11, qH11, t2, eR2⟩ := new_at (o := .lst (qt.map V.ref)) hR2
    rw [← qH11]
    refine ⟨three_le, fun kt hkt => ?_⟩
    obtain ⟨H12, qH12, t3, ekt⟩ := new_at (o := .tup [.ref D2, .ref T2, .ref R2]) hkt
    rw [← qH12]
    have t23 := t2.trans t3
    have t13 := t1.trans t23
    have sA := s9.trans t13
    have al := SC9.alive
    refine q kt D2 T2 R2 u2 G2 E2 H12 sA ekt ⟨SC9.same t13, t23 _ _ eT2, hN.tg.same (s9.trans t13), t3 _ _ eR2, hN.tq.same (s9.trans t13)⟩ nd (id hD2) (id (s9.free hT2)) (id ((s9.trans t1).free hR2)) (fun x hx => id (hfr x hx)) (fun z => by rw [← z, eT2] at hR2; cases hR2) (fun z => by rw [← z, SC9.top] at hT2; cases hT2) (fun z => by rw [← z, t1 _ _ SC9.top] at hR2; cases hR2) (fun x hx => ⟨fun z => (List.nodup_cons.mp nd).1 (z ▸ hx), fun z => ?_, fun z => ?_⟩)
    · obtain ⟨xs, e⟩ := al x hx
      rw [z, hT2] at e; cases e
    · obtain ⟨xs, e⟩ := al x hx
      rw [z] at e
      rw [t1 _ _ e] at hR2; cases hR2
variable (P w K mg base) in
abbrev C__law_copy : Prop := Callee P w K mg base "_law_copy" 1 ["_law_parts"] (sp__law_copy K)
theorem call__law_copy (B : Blt mg) (F : Fun K "_law_copy" "_law_copy" s__law_copy f fd) (hm : mg "_law_copy" = some (.ref f)) : C__law_copy P w K mg base :=
  ⟨f, fd, ok__law_copy B  F, hm, F.kp, F.binds fun _ _ _ _ _ _ us hl => (by obtain ⟨x0, rfl⟩ := len_1 hl; rfl)⟩
def sp__law_copy_table (K : PySem.W.Frag) : Sp := fun vs H Q _ => ∃ (t : Addr) (F : Addr → Prop) (sts : List Stt) (inn : Int) (ord : List (Str × Str)), vs = [.ref t] ∧ Tab K F H t sts inn ord ∧ sts.length ≤ 1000 ∧
  ∀ (t2 : Addr) (H' : Hp), H t2 = none → Same H H' → Tab K (fun x => H x = none) H' t2 sts inn ord → Q (.ref t2) H'
theorem ok__law_copy_table (B : Blt mg) (F : Fun K "_law_copy_table" "_law_copy_table" s__law_copy_table f fd) : FnOk P w K mg base CX0 1 f fd ["_law_table_here"] (sp__law_copy_table K) := by
  refine F.ok sc__law_copy_table (fun vs H Q E h => ?_) (fun cdv A outer s H vs Q E hr h => ?_)
  · obtain ⟨t, F, sts, inn, ord, rfl, _⟩ := h
    rfl
  · obtain ⟨t, F, sts, inn, ord, rfl, TB, l1, q⟩ := h
    obtain ⟨a, o, us, ts, et, _, _, _, ea, SR, eo, TO⟩ := TB.ex
    refine ⟨_, (pss_cons (ps_setC (i := 1) sc__law_copy_table.nd rfl (Or.inl rfl) (g := gTup K 2 (gCons (gName 0) (gCons (gName 1) gNil))) (te := tTup (tCons (tCB (rListOf K) (tCons (tVar 0) tNil)) (tCons (tCB (rListOf K) (tCons (tVar 1) tNil)) tNil))) rfl _law_copy_table_cs1 (pi_list (pe_ix ix_seq (pv 0) pe_int (fun _ _ => rfl))) (fun _ _ _ _ _ => (pg_tup rfl (pgs_cons (pg_name (i := 0) _law_copy_table_cs1.nd rfl (Or.inl rfl)) (pgs_cons (pg_name (i := 1) _law_copy_table_cs1.nd rfl (Or.inl rfl)) pgs_nil)))) (fun _ _ _ _ _ => pf_nil) (fun _ _ _ _ _ => (pe_tup (pa_cons (pe_callTy call_list_of (by rfl) B.b_list (by decide +kernel) (pa_cons (pv 0) pa_nil)) (pa_cons (pe_callTy call_list_of (by rfl) B.b_list (by decide +kernel) (pa_cons (pv 1) pa_nil)) pa_nil)))))
      (pss_one (ps_ret (pe_tup (pa_cons (pv 1) (pa_cons (pe_ix ix_seq (pv 0) pe_int (fun _ _ => rfl)) (pa_cons (pe_callTy call_list_of (by rfl) B.b_list (by decide +kernel) (pa_cons (pe_ix ix_seq (pv 0) pe_int (fun _ _ => rfl)) pa_nil)) pa_nil))))))), ?_⟩
    refine ⟨_, rfl, Or.inr (Or.inl ⟨t, _, _, .ref a, rfl, rfl, SqT.of et, rfl, a, rfl, ⟨_, SqL.of ea⟩, comp_listI (xs := us.map V.ref) (fun D i ys H' => ∃ u2 : List Addr, ys = u2.map V.ref ∧ Same H H' ∧ H' D = some (.lst ys) ∧ StRows K (fun x => H x = none) H' D u2 (sts.take i))
      (fun D hD => ⟨[], rfl, same_new hD, upd_same, by rw [List.take_zero]; exact StRows.nil⟩) (fun D i ys H' ⟨_, _, s9, _⟩ => SqL.of (s9 _ _ ea)) (fun D i x ys H9 RR hD hx hv k => ?_) (fun D2 ys H9 hD2 hv => ?_)⟩)⟩
    · obtain ⟨u2, rfl, s9, eD, SR9⟩ := hv
      obtain ⟨u, hu, rfl⟩ := getm hx
      have hil : i < sts.length := by rw [← SR.len]; exact (List.getElem?_eq_some_iff.mp hu).1
      have hsi := List.getElem?_eq_getElem hil
      obtain ⟨G, E1, xs, a1, ⟨gv, a2, a2'⟩, a3, a4, _⟩ := SR.at_ i u _ hu hsi
      have etk : sts.take (i + 1) = sts.take i ++ [sts[i]] := by rw [List.take_succ, hsi]; rfl
      have lu2 := SR9.len
      rw [List.length_take] at lu2
      refine ⟨u, _, rfl, SqT.of (s9 _ _ a1), rfl, _, _, rfl, _, _, rfl, rfl, ?_⟩
      refine ⟨_, rfl, G, _, rfl, Or.inl (s9.seq a2), fun G3 hG3 => ?_⟩
      obtain ⟨H10, qH10, t1, eG3⟩ := new_at (o := .lst gv) hG3
      rw [← qH10]
      refine ⟨_, rfl, E1, _, rfl, Or.inl (SqL.of (t1 _ _ (s9 _ _ a4))), fun E3 hE3 => ?_⟩
      obtain ⟨H11, qH11, t2, eE3⟩ := new_at (o := .lst (sts[i].2.map V.str)) hE3
      rw [← qH11]
      refine ⟨two_le, fun u3 hu3 => ?_⟩
      obtain ⟨H12, qH12, t3, eu3⟩ := new_at (o := .tup [.ref G3, .ref E3]) hu3
      rw [← qH12]
      have t13 := (t1.trans t2).trans t3
      have t23 := t2.trans t3
      have eD12 := t13 _ _ eD
      have nG : G3 ≠ D := fun y => by rw [y, eD] at hG3; cases hG3
      have nE : E3 ≠ D := fun y => by rw [y, t1 _ _ eD] at hE3; cases hE3
      have gG : Goes K H12 G3 sts[i].1 := ⟨_, SqL.of (t23 _ _ eG3), a2'.same (s9.trans t13)⟩
      have SR12 := ((SR9.same t13).snoc (r := sts[i]) eu3 gG (t23 _ _ eG3) (t3 _ _ eE3) nG nE (s9.free hG3) ((s9.trans t1).free hE3)).updL (o := .lst (u2.map V.ref ++ [.ref u3])) eD12
      refine k _ _ eD12 (by rw [List.length_map, lu2]; exact small1000 (by omega)) ⟨u2 ++ [u3], by rw [List.map_append]; rfl, fun b o e => ?_, upd_same, by rw [etk]; exact SR12⟩
      rw [upd_ne (ne_of_none e hD)]; exact t13 _ _ (s9 _ _ e)
    obtain ⟨u2, rfl, s9, eD, SR9⟩ := hv
    rw [show (us.map V.ref).length = sts.length by rw [List.length_map, SR.len], List.take_length] at SR9
    refine ⟨_, rfl, _, rfl, Or.inr (Or.inl ⟨t, _, _, .int inn, rfl, rfl, SqT.of (s9 _ _ et), rfl, _, rfl, Or.inr (Or.inl ⟨t, _, _, .ref o, rfl, rfl, SqT.of (s9 _ _ et), rfl, o, _, rfl, Or.inl (SqL.of (s9 _ _ eo)), fun O2 hO2 => ?_⟩)⟩)⟩
    obtain ⟨H10, qH10, t1, eO2⟩ := new_at (o := .lst (ts.map V.ref)) hO2
    rw [← qH10]
    refine ⟨three_le, fun kt hkt => ?_⟩
    obtain ⟨H11, qH11, t2, ekt⟩ := new_at (o := .tup [.ref D2, .int inn, .ref O2]) hkt
    rw [← qH11]
    have t12 := t1.trans t2
    refine q kt H11 ((s9.trans t1).free hkt) (s9.trans t12) ⟨D2, O2, u2, ts, ekt, hD2, s9.free hO2, fun y => ?_, t12 _ _ eD, SR9.same t12, t2 _ _ eO2, TO.same (s9.trans t12)⟩
    rw [← y, eD] at hO2; cases hO2
variable (P w K mg base) in
abbrev C__law_copy_table : Prop := Callee P w K mg base "_law_copy_table" 1 ["_law_table_here"] (sp__law_copy_table K)
theorem call__law_copy_table (B : Blt mg) (F : Fun K "_law_copy_table" "_law_copy_table" s__law_copy_table f fd) (hm : mg "_law_copy_table" = some (.ref f)) : C__law_copy_table P w K mg base :=
  ⟨f, fd, ok__law_copy_table B  F, hm, F.kp, F.binds fun _ _ _ _ _ _ us hl => (by obtain ⟨x0, rfl⟩ := len_1 hl; rfl)⟩
def sp_has_end (K : PySem.W.Frag) : Sp := fun vs H Q _ => ∃ (t a o : Addr) (inn : V) (ss : List Stt) (n : Int) (k : Nat) (s : Stt) (x : Str), vs = [.ref t, .int n, .str x] ∧ n = k ∧ SqT K H t [.ref a, inn, .ref o] ∧ Stts K H a ss ∧ ss[k]? = some s ∧ Q (.bl (dec (x ∈ s.2))) H
theorem ok_has_end (B : Blt mg) (F : Fun K "has_end" "has_end" s_has_end f fd) : FnOk P w K mg base CX0 1 f fd ["table", "state", "label"] (sp_has_end K) := by
  refine F.ok sc_has_end (fun vs H Q E h => ?_) (fun cdv A outer s H vs Q E hr h => ?_)
  · obtain ⟨t, a, o, inn, ss, n, k, s, x, rfl, _⟩ := h
    rfl
  · obtain ⟨t, a, o, inn, ss, n, k, s, x, rfl, rfl, hT, ⟨vs, hS, hD⟩, hs, q⟩ := h
    obtain ⟨v, hv, hvs⟩ := hD.get' (i := k) (d := stD s) (by rw [List.getElem?_map, hs]; rfl)
    obtain ⟨st, g, e, rfl, hst, hg, he⟩ := st_at hvs
    refine ⟨_, (pss_cons (ps_set (i := 3) sc_has_end.nd rfl (Or.inl rfl) (pe_ix ix_seq (pe_ix ix_seq (pe_ix ix_seq (pv 0) pe_int (fun _ _ => rfl)) (pv 1) (fun _ _ => rfl)) pe_int (fun _ _ => rfl)))
      (pss_one (ps_ret (pe_cmpR (op_inD hr.units) (pv 2) (pv 3) (by with_unfolding_all rfl))))), ?_⟩
    refine ⟨_, rfl, Or.inr (Or.inl ⟨t, _, _, .ref a, rfl, rfl, hT, rfl, ?_⟩)⟩
    refine ⟨_, rfl, Or.inl ⟨a, vs, _, .ref st, rfl, rfl, hS, atI_nat hv, ?_⟩⟩
    refine Or.inr (Or.inl ⟨st, _, _, .ref e, rfl, rfl, hst, rfl, ?_⟩)
    refine ⟨_, rfl, _, rfl, 2, .str x, s.2.map Dt.str, e, _, fun d hd => ?_, by decide, .str x, rfl, he, IsDts.strs _, ?_⟩
    · obtain ⟨y, _, rfl⟩ := List.mem_map.mp hd
      exact .str _ _
    have e1 : dec (Dt.str x ∈ s.2.map Dt.str) = dec (x ∈ s.2) := dec_congr ⟨fun h => by
      obtain ⟨y, hy, z⟩ := List.mem_map.mp h
      rw [← Dt.str.inj z]; exact hy, fun h => List.mem_map.mpr ⟨x, h, rfl⟩⟩
    rw [e1]
    exact q
variable (P w K mg base) in
abbrev C_has_end : Prop := Callee P w K mg base "has_end" 1 ["table", "state", "label"] (sp_has_end K)
theorem call_has_end (B : Blt mg) (F : Fun K "has_end" "has_end" s_has_end f fd) (hm : mg "has_end" = some (.ref f)) : C_has_end P w K mg base :=
  ⟨f, fd, ok_has_end B  F, hm, F.kp, F.binds fun _ _ _ _ _ _ us hl => (by obtain ⟨x0, x1, x2, rfl⟩ := len_3 hl; rfl)⟩
theorem fb_ends {W : Wd} {k : Nat} {s : Stt} (h : W.sts[k]? = some s) : endsOf W (k : Int) = s.2 := by unfold endsOf; rw [Int.toNat_natCast, h]
theorem fb_tells {W : Wd} {k : Nat} {s : Sco} (h : W.ss[k]? = some s) : tellsOf W (k : Int) = s.2 := by unfold tellsOf; rw [Int.toNat_natCast, h]
theorem fb_one {W : Wd} {b : Beg} {x : Str} {q : Tlg} {i : Nat} (h1 : q.2.1 = x) (h2 : q.1 ∈ endsOf W b.2.2) : told1 W b x q i = [b.1 ++ [(b.2.1, ("told" : Str), (i : Int))]] := if_pos ⟨h1, h2⟩
theorem fb_none {W : Wd} {b : Beg} {x : Str} {q : Tlg} {i : Nat} (h : ¬ (q.2.1 = x ∧ q.1 ∈ endsOf W b.2.2)) : told1 W b x q i = [] := if_neg h
theorem fb_take {W : Wd} {x : Str} {bs : List Beg} {i : Nat} {b : Beg} (h : bs[i]? = some b) : foundOf W x (bs.take (i + 1)) = foundOf W x (bs.take i) ++ told0 W b x (tellsOf W b.2.1) 0 := by
  rw [List.take_succ, h]
  show (bs.take i ++ [b]).flatMap _ = _
  rw [List.flatMap_append]
  simp [foundOf]
theorem fb_le {W : Wd} {x : Str} {bs : List Beg} (i : Nat) : (foundOf W x (bs.take i)).length ≤ (foundOf W x bs).length := by
  have : foundOf W x bs = foundOf W x (bs.take i) ++ foundOf W x (bs.drop i) := by
    unfold foundOf
    rw [← List.flatMap_append, List.take_append_drop]
  rw [this, List.length_append]
  omega
def sp_found_behind (K : PySem.W.Frag) : Sp := fun vs H Q _ => ∃ (nt A t D : Addr) (x : Str) (F : Addr → Prop) (W : Wd) (zs : List (Addr × Beg)), vs = [.ref nt, .ref t, .ref D, .str x] ∧ CaseH K H nt A t W ∧ WOk W ∧ H D = some (.lst (zs.map fun z => V.ref z.1)) ∧ (∀ z ∈ zs, BgH F H z.1 z.2) ∧ (∀ z ∈ zs, BegOk W z.2) ∧ zs.length ≤ capR (bOf W) (W.ss.length - 1) ∧
  ∀ (D2 : Addr) (ws : List (Addr × List Mrk)) (H' : Hp), H D2 = none → Same H H' → H' D2 = some (.lst (ws.map fun z => V.ref z.1)) → (∀ z ∈ ws, WyH (fun l => H l = none ∧ l ≠ D2) H' z.1 z.2) → Fnd W x (zs.map (·.2)) (ws.map (·.2)) → Q (.ref D2) H'
theorem ok_found_behind (B : Blt mg) (c_has_end : C_has_end P w K mg base) (F : Fun K "found_behind" "found_behind" s_found_behind f fd) : FnOk P w K mg base CX0 2 f fd ["net", "table", "begun", "name"] (sp_found_behind K) := by
  refine F.ok sc_found_behind (fun vs H Q E h => ?_) (fun cdv A outer s H vs Q E hr h => ?_)
  · obtain ⟨nt, A, t, D, x, F, W, zs, rfl, _⟩ := h
    rfl
  · obtain ⟨nt, A, t, D, x, F, W, zs, rfl, hC, ok, eD, hz, hbo, hzl, q⟩ := h
    obtain ⟨S, T, R, us, Gs, Es, ts, qt, qs, eN, N3⟩ := hC.net
    obtain ⟨a, o, inn, b1, tv, b2, b3⟩ := hC.tab
    have hfl : (foundOf W x (zs.map (·.2))).length ≤ 62 := found_len ok (by rw [List.length_map]; exact hzl)
    refine ⟨_, (pss_cons (ps_set (i := 4) sc_found_behind.nd rfl (Or.inl rfl) (pe_lst pa_nil))
      (pss_cons (ps_for PassesOwn.never rfl (pi_list (pv 2)) (pg_tup rfl (pgs_cons (pg_name (i := 5) sc_found_behind.nd rfl (Or.inl rfl)) (pgs_cons (pg_name (i := 6) sc_found_behind.nd rfl (Or.inl rfl)) (pgs_cons (pg_name (i := 7) sc_found_behind.nd rfl (Or.inl rfl)) pgs_nil)))) (pss_one (ps_for PassesOwn.never rfl (pi_enum rfl B.b_enumerate (pa_cons (pe_ix ix_seq (pe_ix ix_seq (pe_ix ix_seq (pv 0) pe_int (fun _ _ => rfl)) (pv 6) (fun _ _ => rfl)) pe_int (fun _ _ => rfl)) pa_nil)) (pg_tup rfl (pgs_cons (pg_name (i := 8) sc_found_behind.nd rfl (Or.inl rfl)) (pgs_cons (pg_name (i := 9) sc_found_behind.nd rfl (Or.inl rfl)) pgs_nil))) (pss_one (ps_if (PW.pt (pw_and (pt_cmpR op_eq (pe_ix ix_seq (pv 9) pe_int (fun _ _ => rfl)) (pv 3) (nomark _)) (pw_and1 (pt_val (pe_fn c_has_end (hr.mono (by decide)) rfl (pa_cons (pv 1) (pa_cons (pv 7) (pa_cons (pe_ix ix_seq (pv 9) pe_int (fun _ _ => rfl)) pa_nil)))))))) (pss_one (ps_expr (pe_bm PySem.F.plainAttrs_list PySem.F.slot_list_append PySem.F.type_list_append mr_append (pv 4) (pa_cons (pe_op op_cat (pv 5) (pe_lst (pa_cons (pe_tup (pa_cons (pv 6) (pa_cons pe_str (pa_cons (pv 8) pa_nil)))) pa_nil))) pa_nil)))) pss_nil)))))
      (pss_one (ps_ret (pe_callB (call_sortL mkE hr.units (by decide)) (by rfl) B.b_sorted (by decide +kernel) (pa_cons (pv 4) pa_nil)))))), ?_⟩
    refine ⟨by decide, fun P hP => ?_⟩
    obtain ⟨H1, qH1, s1, eP1⟩ := new_at (o := .lst []) hP
    rw [← qH1]
    have nDP : D ≠ P := ne_of_none eD hP
    have upK : ∀ {H' : Hp}, Keeps (· = P) H1 H' → Same H H' := fun k x o e => k.at_ _ _ (s1 _ _ e) (ne_of_none e hP)
    refine ⟨_, rfl, D, rfl, ⟨_, SqL.of (s1 _ _ eD)⟩, for_list (xs := zs.map fun z => V.ref z.1) (fun i σ H' => ∃ u5 u6 u7 u8 u9 ws, σ = [some (.ref nt), some (.ref t), some (.ref D), some (.str x), some (.ref P), u5, u6, u7, u8, u9] ∧ Keeps (· = P) H1 H' ∧ H' P = some (.lst (ws.map fun z : Addr × List Mrk => V.ref z.1)) ∧ (∀ z ∈ ws, WyH (fun l => H l = none ∧ l ≠ P) H' z.1 z.2) ∧ ws.map (·.2) = foundOf W x ((zs.map (·.2)).take i))
      ⟨none, none, none, none, none, [], rfl, Keeps.refl fun x o m e => by rw [m, eP1] at e; exact ⟨_, (Option.some.inj e).symm⟩, eP1, fun z hz => by simp at hz, by rw [List.take_zero]; rfl⟩ (fun i σ H' _ ⟨_, _, _, _, _, _, _, k, _⟩ => SqL.of (upK k _ _ eD)) ?_ ?_⟩
    rotate_left
    · rintro σ H2 ⟨u5, u6, u7, u8, u9, ws, rfl, k2, eP2, hw, hm⟩
      rw [List.length_map, ← List.length_map (f := (·.2)), List.take_length] at hm
      have lw : ws.length ≤ 62 := by have := congrArg List.length hm; rw [List.length_map] at this; omega
      refine ⟨_, rfl, P, ws.map fun z => (V.ref z.1, z.2), rfl, ?_, by rw [List.length_map]; omega, fun y hy => ?_, fun D2 zs' hp hs hD2 => ?_⟩
      · rw [List.map_map]; exact SqL.of eP2
      · obtain ⟨z, hz', rfl⟩ := List.mem_map.mp hy
        exact (hw z hz').dt
      obtain ⟨vs, r1, r2, r3, r4⟩ := rows_apart (c := wayE) hp
      have s3 := same_new (o := .lst (zs'.map (·.1))) hD2
      rw [r1] at s3 ⊢
      rw [r2] at hs
      have s02 := upK k2
      refine q D2 vs _ (s02.free hD2) (s02.trans s3) upd_same (fun z hz' => ?_) ⟨by rw [← hm]; exact r3, hs⟩
      refine ((hw z (r4 z hz')).mono' ?_).same s3
      intro x o ex hx
      exact ⟨hx.1, fun y => by rw [y, hD2] at ex; cases ex⟩
    rintro i y σ H2 hy ⟨u5, u6, u7, u8, u9, ws, rfl, k2, eP2, hw, hm⟩
    obtain ⟨z, hzi, rfl⟩ := getm hy
    have mz := List.mem_of_getElem? hzi
    have hbz := hbo z mz
    have s02 := upK k2
    obtain ⟨l, ms, f1, f2, e3, _⟩ := hz z mz
    have e1 := s02 _ _ f1
    have hsc := hbz.rng z.2.2.1 (by unfold been; simp)
    have hst := hbz.st
    obtain ⟨n, hn⟩ := Int.eq_ofNat_of_zero_le hsc.1
    obtain ⟨k, hk⟩ := Int.eq_ofNat_of_zero_le hst.1
    have hnl : n < W.ss.length := by omega
    have hkl : k < W.sts.length := by omega
    obtain ⟨u, G, E1, g1, g2, g3, g4, ⟨c0, _, ⟨tE, c1, c2⟩⟩⟩ := N3.sc.get hnl
    have hks := List.getElem?_eq_getElem hkl
    have eT : tellsOf W z.2.2.1 = W.ss[n].2 := by rw [hn]; exact fb_tells g4
    have eE : endsOf W z.2.2.2 = W.sts[k].2 := by rw [hk]; exact fb_ends hks
    have hat : atI (us.map V.ref) z.2.2.1 = some (.ref u) := by rw [hn]; exact atI_nat (by rw [List.getElem?_map, g1]; rfl)
    have htk : (zs.map (·.2))[i]? = some z.2 := by rw [List.getElem?_map, hzi]; rfl
    have hml : ms.length ≤ 5 := by
      have := nodup_rng W.ss.length (been z.2) hbz.nd hbz.rng
      rw [show (been z.2).length = z.2.1.length + 1 by unfold been; simp] at this
      have := ok.s5
      rw [e3.len]; omega
    have hle := fb_le (W := W) (x := x) (bs := zs.map (·.2)) (i + 1)
    rw [fb_take htk, List.length_append] at hle
    refine ⟨z.1, _, rfl, SqT.of e1, rfl, _, _, rfl, _, _, rfl, _, _, rfl, rfl, ?_⟩
    refine ⟨_, rfl, Or.inr (Or.inl ⟨nt, _, _, .ref S, rfl, rfl, SqT.of (s02 _ _ eN), rfl, _, rfl, Or.inl ⟨S, _, _, .ref u, rfl, rfl, SqL.of (s02 _ _ N3.sc.top), hat, Or.inr (Or.inl ⟨u, _, _, .ref E1, rfl, rfl, SqT.of (s02 _ _ c0), rfl, E1, rfl, ⟨_, s02 _ _ c1⟩, ?_⟩)⟩⟩)⟩
    refine for_enum (xs := tE.map V.ref) (fun j σ H' => ∃ u8 u9 ws, σ = [some (.ref nt), some (.ref t), some (.ref D), some (.str x), some (.ref P), some (.ref l), some (.int z.2.2.1), some (.int z.2.2.2), u8, u9] ∧ Keeps (· = P) H1 H' ∧ H' P = some (.lst (ws.map fun z : Addr × List Mrk => V.ref z.1)) ∧ (∀ z ∈ ws, WyH (fun l => H l = none ∧ l ≠ P) H' z.1 z.2) ∧ ws.map (·.2) = foundOf W x ((zs.map (·.2)).take i) ++ told0 W z.2 x ((tellsOf W z.2.2.1).take j) 0)
      ⟨_, _, ws, rfl, k2, eP2, hw, by rw [hm, List.take_zero]; simp [told0]⟩ (fun j σ H' ⟨_, _, _, _, k, _⟩ => SqL.of (upK k _ _ c1)) ?_ ?_
    rotate_left
    · rintro σ H3 ⟨u8, u9, ws, rfl, k3, eP3, hw3, hm3⟩
      refine ⟨_, _, _, _, _, ws, rfl, k3, eP3, hw3, ?_⟩
      rw [fb_take htk, hm3, List.length_map, c2.len, eT, List.take_length]
    rintro j y T' σ H3 hy hT' ⟨u8, u9, ws, rfl, k3, eP3, hw3, hm3⟩
    obtain ⟨tp, htp, rfl⟩ := getm hy
    have hjl : j < W.ss[n].2.length := by rw [← c2.len]; exact (List.getElem?_eq_some_iff.mp htp).1
    have hp := List.getElem?_eq_getElem hjl
    have etp := c2.at_ j tp _ htp hp
    generalize W.ss[n].2[j] = p at hp etp
    obtain ⟨H4, qH4, s4, eT'⟩ := new_at (o := .tup [.int j, .ref tp]) hT'
    rw [← qH4]
    have s03 := upK k3
    have s04 := s03.trans s4
    have k4 : Keeps (· = P) H1 H4 := k3.same s4
    have eP4 := s4 _ _ eP3
    have hw4 : ∀ z ∈ ws, WyH (fun l => H l = none ∧ l ≠ P) H4 z.1 z.2 := fun z h => (hw3 z h).same s4
    have htp4 := SqT.of (K := K) (s04 _ _ etp)
    have etk : told0 W z.2 x ((tellsOf W z.2.2.1).take (j + 1)) 0 = told0 W z.2 x ((tellsOf W z.2.2.1).take j) 0 ++ told1 W z.2 x p j := by
      rw [List.take_succ, eT, hp]
      show told0 W z.2 x (W.ss[n].2.take j ++ [p]) 0 = _
      rw [told0_snoc, List.length_take, Nat.zero_add, Nat.min_eq_left (by omega)]
    have skip : ¬ (p.2.1 = x ∧ p.1 ∈ endsOf W z.2.2.2) → ws.map (·.2) = foundOf W x ((zs.map (·.2)).take i) ++ told0 W z.2 x ((tellsOf W z.2.2.1).take (j + 1)) 0 := fun hn => by
      rw [etk, fb_none hn, List.append_nil, hm3]
    have lw : ws.length < 100 := by
      have := congrArg List.length hm3
      rw [List.length_map, List.length_append] at this
      have h1 := told0_len W z.2 x ((tellsOf W z.2.2.1).take j) 0
      have h2 := tells_len ok z.2.2.1
      have h3 : tMost W ≤ 3 := by unfold tMost; split <;> omega
      rw [List.length_take] at h1
      omega
    refine ⟨T', _, rfl, SqT.of eT', rfl, _, _, rfl, _, _, rfl, rfl, ?_⟩
    refine ⟨_, rfl, Or.inr (Or.inl ⟨tp, _, _, .str p.2.1, rfl, rfl, htp4, rfl, _, rfl, rfl, _, rfl, ite2 (fun h1 => ?_) (fun h1 => iteF ?_)⟩)⟩
    rotate_left
    · exact ⟨_, _, ws, rfl, k4, eP4, hw4, skip fun h => h1 (decide_eq_true (by rw [h.1]))⟩
    have h1 : p.2.1 = x := V.str.inj (of_decide_eq_true h1)
    refine ⟨_, rfl, _, rfl, _, rfl, Or.inr (Or.inl ⟨tp, _, _, .str p.1, rfl, rfl, htp4, rfl, t, a, o, inn, W.sts, z.2.2.2, k, _, p.1, rfl, hk, s04.seqT b1, ⟨tv, s04.seq b2, b3.same s04⟩, hks, _, rfl, ite2 (fun h2 => ?_) (fun h2 => ?_)⟩)⟩
    rotate_left
    · exact ⟨_, _, ws, rfl, k4, eP4, hw4, skip fun h => h2 (dec_true (by rw [← eE]; exact h.2))⟩
    have h2 : p.1 ∈ endsOf W z.2.2.2 := by rw [eE]; exact dec_iff.mp h2
    refine ⟨_, rfl, Or.inl ⟨rfl, _, SqL.of eP4⟩, _, rfl, _, rfl, _, rfl, three_le, fun m hm' => ?_⟩
    obtain ⟨H5, qH5, s5, em⟩ := new_at (o := .tup [.int z.2.2.1, .str "told", .int j]) hm'
    rw [← qH5]
    refine ⟨one_le, fun M hM => ?_⟩
    obtain ⟨H6, qH6, s6, eM⟩ := new_at (o := .lst [.ref m]) hM
    rw [← qH6]
    have s46 := s5.trans s6
    refine ⟨l, M, _, _, rfl, rfl, s46 _ _ (s04 _ _ f2), eM, by rw [List.length_map]; exact Nat.le_of_lt (small1000 (by show ms.length + 1 ≤ 1000; omega)), fun L hL => ?_⟩
    have hLH : H L = none := (s04.trans s46).free hL
    have nLP : L ≠ P := fun y => by rw [y, s46 _ _ eP4] at hL; cases hL
    have s7 := same_new (o := .lst (ms.map V.ref ++ [.ref m])) hL
    have eL : (upd H6 L (.lst (ms.map V.ref ++ [.ref m]))) L = some (.lst ((ms ++ [m]).map V.ref)) := by rw [upd_same, List.map_append]; rfl
    generalize upd H6 L (.lst (ms.map V.ref ++ [.ref m])) = H7 at s7 eL ⊢
    have s47 := s46.trans s7
    have eP7 := s47 _ _ eP4
    have k7 : Keeps (· = P) H7 (upd H7 P (.lst (ws.map (fun z => V.ref z.1) ++ [.ref L]))) := Keeps.one eP7
    refine ⟨P, _, _, rfl, rfl, eP7, by rw [List.length_map]; exact small1000 (by omega), ?_⟩
    refine ⟨_, _, ws ++ [(L, z.2.1 ++ [(z.2.2.1, ("told" : Str), (j : Int))])], rfl, (k4.same s47).set rfl, by rw [upd_same, List.map_append]; rfl, fun y hy => ?_, ?_⟩
    · rcases List.mem_append.mp hy with hy | hy
      · exact ((hw4 y hy).same s47).keeps k7 fun x hx => hx.2
      · rw [List.mem_singleton.mp hy]
        refine ⟨ms ++ [m], k7.at_ _ _ eL nLP, ?_, hLH, nLP⟩
        exact RT.snoc ((e3.same (s04.trans s47)).keeps k7) (k7.tup ((s6.trans s7) _ _ em))
    · rw [etk, fb_one h1 h2, List.map_append, hm3, List.append_assoc]; rfl
variable (P w K mg base) in
abbrev C_found_behind : Prop := Callee P w K mg base "found_behind" 2 ["net", "table", "begun", "name"] (sp_found_behind K)
theorem call_found_behind (B : Blt mg) (c_has_end : C_has_end P w K mg base) (F : Fun K "found_behind" "found_behind" s_found_behind f fd) (hm : mg "found_behind" = some (.ref f)) : C_found_behind P w K mg base :=
  ⟨f, fd, ok_found_behind B c_has_end F, hm, F.kp, F.binds fun _ _ _ _ _ _ us hl => (by obtain ⟨x0, x1, x2, x3, rfl⟩ := len_4 hl; rfl)⟩
def sp_next_state (K : PySem.W.Frag) : Sp := fun vs H Q _ => ∃ (t a o : Addr) (inn : V) (ss : List Stt) (n : Int) (k : Nat) (s : Stt) (x : Str), vs = [.ref t, .int n, .str x] ∧ n = k ∧ SqT K H t [.ref a, inn, .ref o] ∧ Stts K H a ss ∧ ss[k]? = some s ∧ Q (onV (goN s.1 x)) H
theorem ok_next_state (B : Blt mg) (F : Fun K "next_state" "next_state" s_next_state f fd) : FnOk P w K mg base CX0 1 f fd ["table", "state", "label"] (sp_next_state K) := by
  refine F.ok sc_next_state (fun vs H Q E h => ?_) (fun cdv A outer s H vs Q E hr h => ?_)
  · obtain ⟨t, a, o, inn, ss, n, k, s, x, rfl, _⟩ := h
    rfl
  · obtain ⟨t, a, o, inn, ss, n, k, s, x, rfl, rfl, hT, ⟨vs, hS, hD⟩, hs, q⟩ := h
    obtain ⟨v, hv, hvs⟩ := hD.get' (i := k) (d := stD s) (by rw [List.getElem?_map, hs]; rfl)
    obtain ⟨st, g, e, rfl, hst, ⟨gv, hg, hgd⟩, he⟩ := st_at hvs
    have lgv := hgd.len_map
    refine ⟨_, (pss_cons (ps_set (i := 3) sc_next_state.nd rfl (Or.inl rfl) (pe_ix ix_seq (pe_ix ix_seq (pe_ix ix_seq (pv 0) pe_int (fun _ _ => rfl)) (pv 1) (fun _ _ => rfl)) pe_int (fun _ _ => rfl)))
      (pss_cons (ps_for PassesOwn.never rfl (pi_list (pv 3)) (pg_tup rfl (pgs_cons (pg_name (i := 4) sc_next_state.nd rfl (Or.inl rfl)) (pgs_cons (pg_name (i := 5) sc_next_state.nd rfl (Or.inl rfl)) pgs_nil))) (pss_one (ps_if (pt_cmpR op_eq (pv 4) (pv 2) (nomark _)) (pss_one (ps_ret (pv 5))) pss_nil)))
      (pss_one (ps_ret pe_non)))), ?_⟩
    refine ⟨_, rfl, Or.inr (Or.inl ⟨t, _, _, .ref a, rfl, rfl, hT, rfl, ?_⟩)⟩
    refine ⟨_, rfl, Or.inl ⟨a, vs, _, .ref st, rfl, rfl, hS, atI_nat hv, ?_⟩⟩
    refine Or.inr (Or.inl ⟨st, _, _, .ref g, rfl, rfl, hst, rfl, ?_⟩)
    refine ⟨_, rfl, g, rfl, ⟨_, hg⟩, for_list (xs := gv) (fun i σ H' => ∃ u4 u5, σ = [some (.ref t), some (.int k), some (.str x), some (.ref g), u4, u5] ∧ H' = H ∧ ∀ q ∈ s.1.take i, q.1 ≠ x) ⟨none, none, rfl, rfl, fun q hq => by simp at hq⟩ (fun i σ H' _ ⟨_, _, _, e, _⟩ => by rw [e]; exact hg) ?_ ?_⟩
    · rintro i y σ H2 hy ⟨u4, u5, rfl, rfl, hno⟩
      obtain ⟨p, t', hp, rfl, ht⟩ := hgd.goes_get hy
      refine ⟨t', _, rfl, ht, rfl, _, _, rfl, _, _, rfl, rfl, ?_⟩
      refine ⟨_, rfl, _, rfl, rfl, _, rfl, ?_⟩
      refine ite2 (fun h1 => ?_) (fun h1 => ?_)
      · have h1 : p.1 = x := V.str.inj (of_decide_eq_true h1)
        refine ⟨_, rfl, ?_⟩
        rw [goN_at hp h1 hno] at q
        exact q
      · have h1 : p.1 ≠ x := fun z => h1 (decide_eq_true (by rw [z]))
        refine ⟨_, _, rfl, rfl, fun q hq => ?_⟩
        rw [List.take_succ, hp] at hq
        rcases List.mem_append.mp hq with hq | hq
        · exact hno q hq
        · rw [List.mem_singleton.mp hq]; exact h1
    · rintro σ H2 ⟨u4, u5, rfl, rfl, hno⟩
      rw [lgv, List.take_length] at hno
      rw [goN_none hno] at q
      exact q
variable (P w K mg base) in
abbrev C_next_state : Prop := Callee P w K mg base "next_state" 1 ["table", "state", "label"] (sp_next_state K)
theorem call_next_state (B : Blt mg) (F : Fun K "next_state" "next_state" s_next_state f fd) (hm : mg "next_state" = some (.ref f)) : C_next_state P w K mg base :=
  ⟨f, fd, ok_next_state B  F, hm, F.kp, F.binds fun _ _ _ _ _ _ us hl => (by obtain ⟨x0, x1, x2, rfl⟩ := len_3 hl; rfl)⟩
def sp_inside_of_sort (K : PySem.W.Frag) : Sp := fun vs H Q _ => ∃ (t S T R A : Addr) (ths : List (Str × Int)) (as : List (Option (Str × Int))) (n : Int) (k : Nat), vs = [.ref t, .ref A, .int n] ∧ n = k ∧ k < as.length ∧ SqT K H t [.ref S, .ref T, .ref R] ∧ Goes K H T ths ∧ Ans K H A as ∧ NetOk ths as ∧
  ∀ (r : Addr) (H' : Hp), H r = none → Same H H' → H' r = some (.tup [.str (sortV ths as n).1, .int (sortV ths as n).2]) → Q (.ref r) H'
theorem ok_inside_of_sort (B : Blt mg) (F : Fun K "inside_of_sort" "inside_of_sort" s_inside_of_sort f fd) : FnOk P w K mg base CX0 1 f fd ["net", "answers", "question"] (sp_inside_of_sort K) := by
  refine F.ok sc_inside_of_sort (fun vs H Q E h => ?_) (fun cdv A outer s H vs Q E hr h => ?_)
  · obtain ⟨t, S, T, R, A, ths, as, n, k, rfl, _⟩ := h
    rfl
  · obtain ⟨t, S, T, R, A, ths, as, n, k, rfl, rfl, hk, hT, hG, hA, ok, q⟩ := h
    obtain ⟨vs, v, hA1, hv, hc⟩ := hA.get hk
    refine ⟨_, (pss_cons (ps_set (i := 3) sc_inside_of_sort.nd rfl (Or.inl rfl) (pe_ix ix_seq (pv 1) (pv 2) (fun _ _ => rfl)))
      (pss_cons (ps_if (pt_cmp (pc_isN (pv 3))) (pss_one (ps_ret (pe_tup (pa_cons pe_str (pa_cons (pv 2) pa_nil))))) pss_nil)
      (pss_cons (ps_if (pt_cmpR op_eq (pe_ix ix_seq (pv 3) pe_int (fun _ _ => rfl)) pe_str (nomark _)) (pss_cons (ps_asg (pe_ix ix_seq (pe_ix ix_seq (pv 0) pe_int (fun _ _ => rfl)) (pe_ix ix_seq (pv 3) pe_int (fun _ _ => rfl)) (fun _ _ => rfl)) (pg_tup rfl (pgs_cons (pg_name (i := 4) sc_inside_of_sort.nd rfl (Or.inl rfl)) (pgs_cons (pg_name (i := 5) sc_inside_of_sort.nd rfl (Or.inl rfl)) pgs_nil))))
        (pss_one (ps_if (pt_cmpR op_eq (pv 4) pe_str (nomark _)) (pss_one (ps_ret (pe_tup (pa_cons pe_str (pa_cons (pv 5) pa_nil))))) pss_nil))) pss_nil)
      (pss_one (ps_ret (pe_tup (pa_cons pe_str (pa_cons pe_int pa_nil)))))))), ?_⟩
    refine ⟨_, rfl, _, rfl, Or.inl ⟨A, vs, _, v, rfl, rfl, hA1, atI_nat hv, ?_⟩⟩
    refine g_in ?_
    try dsimp only
    rcases hc with ⟨e1, rfl⟩ | ⟨p, ta, e1, rfl, hta⟩
    · refine ⟨_, rfl, _, rfl, ite2 (fun _ => ?_) (fun h => absurd (decide_eq_true rfl) h)⟩
      refine ⟨_, rfl, two_le, fun r hr => ?_⟩
      rw [sortV_open e1] at q
      exact q r _ hr (same_new hr) upd_same
    refine ⟨_, rfl, _, rfl, ite2 (fun h => absurd (of_decide_eq_true h) (by simp)) (fun _ => ?_)⟩
    refine ⟨_, rfl, Or.inr (Or.inl ⟨ta, _, _, .str p.1, rfl, rfl, hta, rfl, rfl, _, rfl, ite2 (fun h => ?_) (fun h => ?_)⟩)⟩
    · have hp : p.1 = ("thing" : Str) := V.str.inj (of_decide_eq_true h)
      obtain ⟨p0, p1⟩ := ok.t p (List.mem_of_getElem? e1) hp
      obtain ⟨m, hm⟩ := Int.eq_ofNat_of_zero_le p0
      have hml : m < ths.length := by omega
      have hkk := List.getElem?_eq_getElem hml
      obtain ⟨tv, th, hT1, hth, sth⟩ := hG.get hkk
      have hat : atI tv p.2 = some (.ref th) := by rw [hm]; exact atI_nat hth
      refine ⟨_, rfl, Or.inr (Or.inl ⟨t, _, _, .ref T, rfl, rfl, hT, rfl, _, rfl, Or.inr (Or.inl ⟨ta, _, _, .int p.2, rfl, rfl, hta, rfl, Or.inl ⟨T, tv, _, .ref th, rfl, rfl, hT1, hat, ?_⟩⟩)⟩)⟩
      refine ⟨th, _, rfl, sth, rfl, _, _, rfl, _, _, rfl, rfl, ?_⟩
      refine ⟨_, rfl, rfl, _, rfl, ite2 (fun h => ?_) (fun h => ?_)⟩
      · have hk1 : ths[m].1 = ("part" : Str) := V.str.inj (of_decide_eq_true h)
        refine ⟨_, rfl, two_le, fun r hr => ?_⟩
        rw [sortV_part e1 hp hm hkk hk1] at q
        exact q r _ hr (same_new hr) upd_same
      · have hk1 : ths[m].1 ≠ ("part" : Str) := fun z => h (decide_eq_true (by rw [z]))
        refine ⟨two_le, fun r hr => ?_⟩
        rw [sortV_none e1 hp hm hkk hk1] at q
        exact q r _ hr (same_new hr) upd_same
    · have hp : p.1 ≠ ("thing" : Str) := fun z => h (decide_eq_true (by rw [z]))
      refine ⟨two_le, fun r hr => ?_⟩
      rw [sortV_no e1 hp] at q
      exact q r _ hr (same_new hr) upd_same
variable (P w K mg base) in
abbrev C_inside_of_sort : Prop := Callee P w K mg base "inside_of_sort" 1 ["net", "answers", "question"] (sp_inside_of_sort K)
theorem call_inside_of_sort (B : Blt mg) (F : Fun K "inside_of_sort" "inside_of_sort" s_inside_of_sort f fd) (hm : mg "inside_of_sort" = some (.ref f)) : C_inside_of_sort P w K mg base :=
  ⟨f, fd, ok_inside_of_sort B  F, hm, F.kp, F.binds fun _ _ _ _ _ _ us hl => (by obtain ⟨x0, x1, x2, rfl⟩ := len_3 hl; rfl)⟩
def sp_inside (K : PySem.W.Frag) : Sp := fun vs H Q _ => ∃ (t S T R A : Addr) (ths : List (Str × Int)) (as : List (Option (Str × Int))) (n : Int) (k : Nat) (p : Str × Int), vs = [.ref t, .ref A, .int n] ∧ n = k ∧ ths[k]? = some p ∧ SqT K H t [.ref S, .ref T, .ref R] ∧ Goes K H T ths ∧ Ans K H A as ∧ NetOk ths as ∧
  ∀ (r : Addr) (H' : Hp), H r = none → Same H H' → H' r = some (.tup [.str (insideV ths as p).1, .int (insideV ths as p).2]) → Q (.ref r) H'
theorem ok_inside (B : Blt mg) (c_inside_of_sort : C_inside_of_sort P w K mg base) (F : Fun K "inside" "inside" s_inside f fd) : FnOk P w K mg base CX0 2 f fd ["net", "answers", "thing"] (sp_inside K) := by
  refine F.ok sc_inside (fun vs H Q E h => ?_) (fun cdv A outer s H vs Q E hr h => ?_)
  · obtain ⟨t, S, T, R, A, ths, as, n, k, p, rfl, _⟩ := h
    rfl
  · obtain ⟨t, S, T, R, A, ths, as, n, k, p, rfl, rfl, hp, hT, hG, hA, ok, q⟩ := h
    obtain ⟨tv, th, hT1, hth, sth⟩ := hG.get hp
    refine ⟨_, (pss_cons (ps_asg (pe_ix ix_seq (pe_ix ix_seq (pv 0) pe_int (fun _ _ => rfl)) (pv 2) (fun _ _ => rfl)) (pg_tup rfl (pgs_cons (pg_name (i := 3) sc_inside.nd rfl (Or.inl rfl)) (pgs_cons (pg_name (i := 4) sc_inside.nd rfl (Or.inl rfl)) pgs_nil))))
      (pss_cons (ps_if (pt_cmpR op_eq (pv 3) pe_str (nomark _)) (pss_one (ps_ret (pe_tup (pa_cons pe_str (pa_cons (pv 4) pa_nil))))) pss_nil)
      (pss_cons (ps_if (pt_cmpR op_eq (pv 3) pe_str (nomark _)) (pss_one (ps_ret (pe_fn c_inside_of_sort (hr.mono (by decide)) rfl (pa_cons (pv 0) (pa_cons (pv 1) (pa_cons (pv 4) pa_nil)))))) pss_nil)
      (pss_one (ps_ret (pe_tup (pa_cons pe_str (pa_cons pe_int pa_nil)))))))), ?_⟩
    refine ⟨_, rfl, Or.inr (Or.inl ⟨t, _, _, .ref T, rfl, rfl, hT, rfl, _, rfl, Or.inl ⟨T, tv, _, .ref th, rfl, rfl, hT1, atI_nat hth, ?_⟩⟩)⟩
    refine ⟨th, _, rfl, sth, rfl, _, _, rfl, _, _, rfl, rfl, ?_⟩
    refine ⟨_, rfl, rfl, _, rfl, ite2 (fun h => ?_) (fun h => ?_)⟩
    · have h1 : p.1 = ("part" : Str) := V.str.inj (of_decide_eq_true h)
      refine ⟨_, rfl, two_le, fun r hr => ?_⟩
      rw [show insideV ths as p = (("to" : Str), p.2) from if_pos h1] at q
      exact q r _ hr (same_new hr) upd_same
    have h1 : p.1 ≠ ("part" : Str) := fun z => h (decide_eq_true (by rw [z]))
    refine ⟨_, rfl, rfl, _, rfl, ite2 (fun h => ?_) (fun h => ?_)⟩
    · have h2 : p.1 = ("sort" : Str) := V.str.inj (of_decide_eq_true h)
      obtain ⟨p0, p1⟩ := ok.q p (List.mem_of_getElem? hp) h2
      obtain ⟨m, hm⟩ := Int.eq_ofNat_of_zero_le p0
      rw [show insideV ths as p = sortV ths as p.2 from (if_neg h1).trans (if_pos h2)] at q
      exact ⟨_, rfl, _, rfl, _, rfl, t, S, T, R, A, ths, as, p.2, m, rfl, hm, by omega, hT, hG, hA, ok, q⟩
    · have h2 : p.1 ≠ ("sort" : Str) := fun z => h (decide_eq_true (by rw [z]))
      refine ⟨two_le, fun r hr => ?_⟩
      rw [show insideV ths as p = (("no" : Str), 0) from (if_neg h1).trans (if_neg h2)] at q
      exact q r _ hr (same_new hr) upd_same
variable (P w K mg base) in
abbrev C_inside : Prop := Callee P w K mg base "inside" 2 ["net", "answers", "thing"] (sp_inside K)
theorem call_inside (B : Blt mg) (c_inside_of_sort : C_inside_of_sort P w K mg base) (F : Fun K "inside" "inside" s_inside f fd) (hm : mg "inside" = some (.ref f)) : C_inside P w K mg base :=
  ⟨f, fd, ok_inside B c_inside_of_sort F, hm, F.kp, F.binds fun _ _ _ _ _ _ us hl => (by obtain ⟨x0, x1, x2, rfl⟩ := len_3 hl; rfl)⟩
def sp_goal (K : PySem.W.Frag) : Sp := fun vs H Q _ => ∃ (t S T R A st : Addr) (ths : List (Str × Int)) (as : List (Option (Str × Int))) (p : Stp), vs = [.ref t, .ref A, .ref st] ∧ SqT K H t [.ref S, .ref T, .ref R] ∧ Goes K H T ths ∧ Ans K H A as ∧ NetOk ths as ∧ SqT K H st (stpV p) ∧ (p.2.1 ≠ ("to" : Str) → 0 ≤ p.2.2 ∧ p.2.2 < as.length) ∧
  ∀ (r : Addr) (H' : Hp), H r = none → Same H H' → H' r = some (.tup [.str (goalV ths as p).1, .int (goalV ths as p).2]) → Q (.ref r) H'
theorem ok_goal (B : Blt mg) (c_inside : C_inside P w K mg base) (F : Fun K "goal" "goal" s_goal f fd) : FnOk P w K mg base CX0 3 f fd ["net", "answers", "step"] (sp_goal K) := by
  refine F.ok sc_goal (fun vs H Q E h => ?_) (fun cdv A outer s H vs Q E hr h => ?_)
  · obtain ⟨t, S, T, R, A, st, ths, as, p, rfl, _⟩ := h
    rfl
  · obtain ⟨t, S, T, R, A, st, ths, as, p, rfl, hT, hG, hA, ok, hst, hp, q⟩ := h
    refine ⟨_, (pss_cons (ps_asg (pv 2) (pg_tup rfl (pgs_cons (pg_name (i := 3) sc_goal.nd rfl (Or.inl rfl)) (pgs_cons (pg_name (i := 4) sc_goal.nd rfl (Or.inl rfl)) (pgs_cons (pg_name (i := 5) sc_goal.nd rfl (Or.inl rfl)) pgs_nil)))))
      (pss_cons (ps_if (pt_cmpR op_eq (pv 4) pe_str (nomark _)) (pss_one (ps_ret (pe_tup (pa_cons pe_str (pa_cons (pv 5) pa_nil))))) pss_nil)
      (pss_cons (ps_set (i := 6) sc_goal.nd rfl (Or.inl rfl) (pe_ix ix_seq (pv 1) (pv 5) (fun _ _ => rfl)))
      (pss_cons (ps_if (pt_cmp (pc_isN (pv 6))) (pss_one (ps_ret (pe_tup (pa_cons pe_str (pa_cons (pv 5) pa_nil))))) pss_nil)
      (pss_cons (ps_if (pt_cmpR op_eq (pe_ix ix_seq (pv 6) pe_int (fun _ _ => rfl)) pe_str (nomark _)) (pss_one (ps_ret (pe_fn c_inside (hr.mono (by decide)) rfl (pa_cons (pv 0) (pa_cons (pv 1) (pa_cons (pe_ix ix_seq (pv 6) pe_int (fun _ _ => rfl)) pa_nil)))))) pss_nil)
      (pss_one (ps_ret (pe_tup (pa_cons pe_str (pa_cons pe_int pa_nil)))))))))), ?_⟩
    refine ⟨_, rfl, st, _, rfl, hst, rfl, _, _, rfl, _, _, rfl, _, _, rfl, rfl, ?_⟩
    refine ⟨_, rfl, rfl, _, rfl, ite2 (fun h => ?_) (fun h => ?_)⟩
    · have h1 : p.2.1 = ("to" : Str) := V.str.inj (of_decide_eq_true h)
      refine ⟨_, rfl, two_le, fun r hr => ?_⟩
      rw [goalV_to h1] at q
      exact q r _ hr (same_new hr) upd_same
    have h1 : p.2.1 ≠ ("to" : Str) := fun z => h (decide_eq_true (by rw [z]))
    obtain ⟨p0, p1⟩ := hp h1
    obtain ⟨n, hn⟩ := Int.eq_ofNat_of_zero_le p0
    obtain ⟨vs, v, hA1, hv, hc⟩ := hA.get (k := n) (by omega)
    have hatn : atI vs p.2.2 = some v := by rw [hn]; exact atI_nat hv
    refine ⟨_, rfl, _, rfl, Or.inl ⟨A, vs, _, v, rfl, rfl, hA1, hatn, ?_⟩⟩
    refine g_in ?_
    try dsimp only
    rcases hc with ⟨e1, rfl⟩ | ⟨pa, ta, e1, rfl, hta⟩
    · refine ⟨_, rfl, _, rfl, ite2 (fun _ => ?_) (fun h => absurd (decide_eq_true rfl) h)⟩
      refine ⟨_, rfl, two_le, fun r hr => ?_⟩
      rw [goalV_open h1 hn e1] at q
      exact q r _ hr (same_new hr) upd_same
    refine ⟨_, rfl, _, rfl, ite2 (fun h => absurd (of_decide_eq_true h) (by simp)) (fun _ => ?_)⟩
    refine ⟨_, rfl, Or.inr (Or.inl ⟨ta, _, _, .str pa.1, rfl, rfl, hta, rfl, rfl, _, rfl, ite2 (fun h => ?_) (fun h => ?_)⟩)⟩
    · have hpa : pa.1 = ("thing" : Str) := V.str.inj (of_decide_eq_true h)
      obtain ⟨q0, q1⟩ := ok.t pa (List.mem_of_getElem? e1) hpa
      obtain ⟨m, hm⟩ := Int.eq_ofNat_of_zero_le q0
      have hkk := List.getElem?_eq_getElem (show m < ths.length by omega)
      rw [goalV_in h1 hn e1 hpa hm hkk] at q
      exact ⟨_, rfl, _, rfl, _, rfl, Or.inr (Or.inl ⟨ta, _, _, .int pa.2, rfl, rfl, hta, rfl, t, S, T, R, A, ths, as, pa.2, m, _, rfl, hm, hkk, hT, hG, hA, ok, q⟩)⟩
    · have hpa : pa.1 ≠ ("thing" : Str) := fun z => h (decide_eq_true (by rw [z]))
      refine ⟨two_le, fun r hr => ?_⟩
      rw [goalV_no h1 hn e1 hpa] at q
      exact q r _ hr (same_new hr) upd_same
variable (P w K mg base) in
abbrev C_goal : Prop := Callee P w K mg base "goal" 3 ["net", "answers", "step"] (sp_goal K)
theorem call_goal (B : Blt mg) (c_inside : C_inside P w K mg base) (F : Fun K "goal" "goal" s_goal f fd) (hm : mg "goal" = some (.ref f)) : C_goal P w K mg base :=
  ⟨f, fd, ok_goal B c_inside F, hm, F.kp, F.binds fun _ _ _ _ _ _ us hl => (by obtain ⟨x0, x1, x2, rfl⟩ := len_3 hl; rfl)⟩
theorem four_le : ([] : List V).length + 1 + 1 + 1 + 1 ≤ sizeLine := by decide
theorem goesOf_at {W : Wd} {k : Nat} {s : Stt} (h : W.sts[k]? = some s) : goesOf W (k : Int) = s.1 := by unfold goesOf; rw [Int.toNat_natCast, h]
theorem stepsOf_at {W : Wd} {k : Nat} {s : Sco} (h : W.ss[k]? = some s) : stepsOf W (k : Int) = s.1 := by unfold stepsOf; rw [Int.toNat_natCast, h]
theorem gone1_some {W : Wd} {sc : Int} {go : List (Str × Int)} {p : Stp} {i : Nat} {a : Int} (h : goN go p.1 = some a) : gone1 W sc go p i = [((sc, ("step" : Str), (i : Int)), goalV W.gs W.as p, a)] := by unfold gone1; rw [h]
theorem gone1_none {W : Wd} {sc : Int} {go : List (Str × Int)} {p : Stp} {i : Nat} (h : goN go p.1 = none) : gone1 W sc go p i = [] := by unfold gone1; rw [h]
def sp_steps_gone (K : PySem.W.Frag) : Sp := fun vs H Q _ => ∃ (nt A t : Addr) (W : Wd) (sc st : Int), vs = [.ref nt, .ref A, .ref t, .int sc, .int st] ∧ CaseH K H nt A t W ∧ WOk W ∧ (0 ≤ sc ∧ sc < W.ss.length) ∧ (0 ≤ st ∧ st < W.sts.length) ∧
  ∀ (D : Addr) (zs : List (Addr × Gn)) (H' : Hp), H D = none → Same H H' → H' D = some (.lst (zs.map fun z => V.ref z.1)) → (∀ z ∈ zs, GnH H' z.1 z.2) → zs.map (·.2) = goneAt W sc st → Q (.ref D) H'
theorem ok_steps_gone (B : Blt mg) (c_next_state : C_next_state P w K mg base) (c_goal : C_goal P w K mg base) (F : Fun K "steps_gone" "steps_gone" s_steps_gone f fd) : FnOk P w K mg base CX0 4 f fd ["net", "answers", "table", "scope", "state"] (sp_steps_gone K) := by
  refine F.ok sc_steps_gone (fun vs H Q E h => ?_) (fun cdv A outer s H vs Q E hr h => ?_)
  · obtain ⟨nt, A, t, W, sc, st, rfl, _⟩ := h
    rfl
  · obtain ⟨nt, A, t, W, sc, st, rfl, hC, ok, hsc, hst, q⟩ := h
    obtain ⟨S, T, R, us, Gs, Es, ts, qt, qs, eN, N3⟩ := hC.net
    obtain ⟨a, o, inn, b1, tv, b2, b3⟩ := hC.tab
    obtain ⟨n, hn⟩ := Int.eq_ofNat_of_zero_le hsc.1
    obtain ⟨k, hk⟩ := Int.eq_ofNat_of_zero_le hst.1
    subst hn hk
    have hnl : n < W.ss.length := by omega
    have hkl : k < W.sts.length := by omega
    obtain ⟨u, G, E1, g1, g2, g3, g4, ⟨c0, ⟨tG, c1, c2⟩, _⟩⟩ := N3.sc.get hnl
    have hks := List.getElem?_eq_getElem hkl
    have eS := stepsOf_at g4
    have eG := goesOf_at hks
    have hat : atI (us.map V.ref) (n : Int) = some (.ref u) := atI_nat (by rw [List.getElem?_map, g1]; rfl)
    have st3 := (ok.st _ (List.getElem_mem hnl)).1
    refine ⟨_, (pss_cons (ps_set (i := 5) sc_steps_gone.nd rfl (Or.inl rfl) (pe_lst pa_nil))
      (pss_cons (ps_for PassesOwn.never rfl (pi_enum rfl B.b_enumerate (pa_cons (pe_ix ix_seq (pe_ix ix_seq (pe_ix ix_seq (pv 0) pe_int (fun _ _ => rfl)) (pv 3) (fun _ _ => rfl)) pe_int (fun _ _ => rfl)) pa_nil)) (pg_tup rfl (pgs_cons (pg_name (i := 6) sc_steps_gone.nd rfl (Or.inl rfl)) (pgs_cons (pg_name (i := 7) sc_steps_gone.nd rfl (Or.inl rfl)) pgs_nil))) (pss_cons (ps_set (i := 8) sc_steps_gone.nd rfl (Or.inl rfl) (pe_fn c_next_state (hr.mono (by decide)) rfl (pa_cons (pv 2) (pa_cons (pv 4) (pa_cons (pe_ix ix_seq (pv 7) pe_int (fun _ _ => rfl)) pa_nil)))))
        (pss_one (ps_if (pt_cmp (pc_notN (pv 8))) (pss_cons (ps_asg (pe_fn c_goal (hr.mono (by decide)) rfl (pa_cons (pv 0) (pa_cons (pv 1) (pa_cons (pv 7) pa_nil)))) (pg_tup rfl (pgs_cons (pg_name (i := 9) sc_steps_gone.nd rfl (Or.inl rfl)) (pgs_cons (pg_name (i := 10) sc_steps_gone.nd rfl (Or.inl rfl)) pgs_nil))))
          (pss_one (ps_expr (pe_bm PySem.F.plainAttrs_list PySem.F.slot_list_append PySem.F.type_list_append mr_append (pv 5) (pa_cons (pe_tup (pa_cons (pe_tup (pa_cons (pv 3) (pa_cons pe_str (pa_cons (pv 6) pa_nil)))) (pa_cons (pv 9) (pa_cons (pv 10) (pa_cons (pv 8) pa_nil))))) pa_nil))))) pss_nil))))
      (pss_one (ps_ret (pv 5))))), ?_⟩
    refine ⟨by decide, fun D hD => ?_⟩
    obtain ⟨H1, qH1, s1, eD1⟩ := new_at (o := .lst []) hD
    rw [← qH1]
    refine ⟨_, rfl, Or.inr (Or.inl ⟨nt, _, _, .ref S, rfl, rfl, SqT.of (s1 _ _ eN), rfl, _, rfl, Or.inl ⟨S, _, _, .ref u, rfl, rfl, SqL.of (s1 _ _ N3.sc.top), hat, Or.inr (Or.inl ⟨u, _, _, .ref G, rfl, rfl, SqT.of (s1 _ _ c0), rfl, G, rfl, ⟨_, s1 _ _ c1⟩, ?_⟩)⟩⟩)⟩
    refine for_enum (xs := tG.map V.ref) (fun i σ H' => ∃ u6 u7 u8 u9 u10 zs, σ = [some (.ref nt), some (.ref A), some (.ref t), some (.int n), some (.int k), some (.ref D), u6, u7, u8, u9, u10] ∧ Same H H' ∧ H' D = some (.lst (zs.map fun z : Addr × Gn => V.ref z.1)) ∧ (∀ z ∈ zs, GnH H' z.1 z.2) ∧ zs.map (·.2) = gone0 W n (goesOf W k) ((stepsOf W n).take i) 0)
      ⟨none, none, none, none, none, [], rfl, s1, eD1, fun z hz => by simp at hz, by rw [List.take_zero]; rfl⟩ (fun i σ H' ⟨_, _, _, _, _, _, _, s, _⟩ => SqL.of (s _ _ c1)) ?_ ?_
    rotate_left
    · rintro σ H2 ⟨u6, u7, u8, u9, u10, zs, rfl, s2, eD2, hz, hm⟩
      refine ⟨_, rfl, q D zs H2 hD s2 eD2 hz ?_⟩
      rw [hm, List.length_map, c2.len, eS, List.take_length]
      unfold goneAt
      rw [eS]
    rintro i x T' σ H2 hx hT' ⟨u6, u7, u8, u9, u10, zs, rfl, s2, eD2, hz, hm⟩
    obtain ⟨tp, htp, rfl⟩ := getm hx
    have hil : i < W.ss[n].1.length := by rw [← c2.len]; exact (List.getElem?_eq_some_iff.mp htp).1
    have hp := List.getElem?_eq_getElem hil
    have etp := c2.at_ i tp _ htp hp
    have mp := List.getElem_mem hil
    generalize W.ss[n].1[i] = p at hp etp mp
    obtain ⟨H3, qH3, s3, eT'⟩ := new_at (o := .tup [.int i, .ref tp]) hT'
    rw [← qH3]
    have s03 := s2.trans s3
    have etk : gone0 W n (goesOf W k) ((stepsOf W n).take (i + 1)) 0 = gone0 W n (goesOf W k) ((stepsOf W n).take i) 0 ++ gone1 W n (goesOf W k) p i := by
      rw [List.take_succ, eS, hp]
      show gone0 W n (goesOf W k) (W.ss[n].1.take i ++ [p]) 0 = _
      rw [gone0_snoc, List.length_take, Nat.zero_add, Nat.min_eq_left (by omega)]
    refine ⟨T', _, rfl, SqT.of eT', rfl, _, _, rfl, _, _, rfl, rfl, ?_⟩
    refine ⟨_, rfl, _, rfl, _, rfl, Or.inr (Or.inl ⟨tp, _, _, .str p.1, rfl, rfl, SqT.of (s03 _ _ etp), rfl, t, a, o, inn, W.sts, k, k, _, p.1, rfl, rfl, s03.seqT b1, ⟨tv, s03.seq b2, b3.same s03⟩, hks, ?_⟩)⟩
    rw [← eG]
    refine g_in ?_
    try dsimp only
    cases eg : goN (goesOf W k) p.1 with
    | none =>
      refine ⟨_, rfl, _, rfl, ite2 (fun h => absurd h (by simp [onV])) (fun _ => ?_)⟩
      refine ⟨_, _, _, _, _, zs, rfl, s03, s3 _ _ eD2, fun z h => (hz z h).same s3, ?_⟩
      rw [etk, gone1_none eg, List.append_nil, hm]
    | some af =>
      refine ⟨_, rfl, _, rfl, ite2 (fun _ => ?_) (fun h => absurd (by simp [onV]) h)⟩
      refine ⟨_, rfl, _, rfl, _, rfl, nt, S, T, R, A, tp, W.gs, W.as, p, rfl, SqT.of (s03 _ _ eN), ⟨_, SqL.of (s03 _ _ N3.et), (N3.tg.same s03).dts⟩, hC.ans.same s03, ok.net, SqT.of (s03 _ _ etp), fun e => ok.by_ (List.getElem_mem hnl) mp e, fun r H4 hr s4 er => ?_⟩
      refine ⟨r, _, rfl, SqT.of er, rfl, _, _, rfl, _, _, rfl, rfl, ?_⟩
      have eD4 := s4 _ _ (s3 _ _ eD2)
      refine ⟨_, rfl, Or.inl ⟨rfl, _, SqL.of eD4⟩, _, rfl, _, rfl, three_le, fun m hm' => ?_⟩
      obtain ⟨H5, qH5, s5, em⟩ := new_at (o := .tup [.int n, .str "step", .int i]) hm'
      rw [← qH5]
      refine ⟨_, rfl, _, rfl, _, rfl, four_le, fun z hz' => ?_⟩
      obtain ⟨H6, qH6, s6, ez⟩ := new_at (o := .tup [.ref m, .str (goalV W.gs W.as p).1, .int (goalV W.gs W.as p).2, onV (some af)]) hz'
      rw [← qH6]
      have s36 := (s4.trans s5).trans s6
      have eD6 := s36 _ _ (s3 _ _ eD2)
      have k6 : Keeps (· = D) H6 (upd H6 D (.lst (zs.map (fun z => V.ref z.1) ++ [.ref z]))) := Keeps.one eD6
      have lz : zs.length ≤ 3 := by
        have e1 := congrArg List.length hm
        have e2 := gone0_len W n (goesOf W k) ((stepsOf W n).take i) 0
        rw [List.length_take, eS] at e2
        rw [List.length_map] at e1
        rw [eS] at e1
        omega
      refine ⟨D, _, _, rfl, rfl, eD6, by rw [List.length_map]; exact small1000 (by omega), ?_⟩
      refine ⟨_, _, _, _, _, zs ++ [(z, (((n : Int), ("step" : Str), (i : Int)), goalV W.gs W.as p, af))], rfl, fun b o e => ?_, by rw [upd_same, List.map_append]; rfl, fun y hy => ?_, ?_⟩
      · rw [upd_ne (ne_of_none e hD)]; exact s36 _ _ (s03 _ _ e)
      · rcases List.mem_append.mp hy with hy | hy
        · exact ((hz y hy).same (s3.trans s36)).keeps k6
        · rw [List.mem_singleton.mp hy]
          exact ⟨m, k6.tup ez, k6.tup (s6 _ _ em)⟩
      · rw [etk, gone1_some eg, List.map_append, hm]; rfl
variable (P w K mg base) in
abbrev C_steps_gone : Prop := Callee P w K mg base "steps_gone" 4 ["net", "answers", "table", "scope", "state"] (sp_steps_gone K)
theorem call_steps_gone (B : Blt mg) (c_next_state : C_next_state P w K mg base) (c_goal : C_goal P w K mg base) (F : Fun K "steps_gone" "steps_gone" s_steps_gone f fd) (hm : mg "steps_gone" = some (.ref f)) : C_steps_gone P w K mg base :=
  ⟨f, fd, ok_steps_gone B c_next_state c_goal F, hm, F.kp, F.binds fun _ _ _ _ _ _ us hl => (by obtain ⟨x0, x1, x2, x3, x4, rfl⟩ := len_5 hl; rfl)⟩
theorem kid_some {b : Beg} {r : Gn} (h1 : r.2.1.1 = ("to" : Str)) (h2 : r.2.1.2 ∉ been b) : kid b r = some (b.1 ++ [r.1], r.2.1.2, r.2.2) := if_pos ⟨h1, h2⟩
theorem kid_none {b : Beg} {r : Gn} (h : ¬ (r.2.1.1 = ("to" : Str) ∧ r.2.1.2 ∉ been b)) : kid b r = none := if_neg h
theorem fm_snoc {α β : Type} (f : α → Option β) (l : List α) (x : α) : (l ++ [x]).filterMap f = l.filterMap f ++ (f x).toList := by
  rw [List.filterMap_append]
  cases e : f x <;> simp [e]
theorem been_len (b : Beg) : (been b).length = b.1.length + 1 := by unfold been; simp
def sp_longer_by_a_step (K : PySem.W.Frag) : Sp := fun vs H Q _ => ∃ (nt A t bt : Addr) (W : Wd) (b : Beg), vs = [.ref nt, .ref A, .ref t, .ref bt] ∧ CaseH K H nt A t W ∧ WOk W ∧ BegOk W b ∧ (∃ F, BgH F H bt b) ∧
  ∀ (D : Addr) (zs : List (Addr × Beg)) (H' : Hp), H D = none → Same H H' → H' D = some (.lst (zs.map fun z => V.ref z.1)) → (∀ z ∈ zs, BgH (fun l => H l = none ∧ l ≠ D) H' z.1 z.2) → zs.map (·.2) = kids W b → Q (.ref D) H'
theorem ok_longer_by_a_step (B : Blt mg) (c_steps_gone : C_steps_gone P w K mg base) (F : Fun K "longer_by_a_step" "longer_by_a_step" s_longer_by_a_step f fd) : FnOk P w K mg base CX0 5 f fd ["net", "answers", "table", "beginning"] (sp_longer_by_a_step K) := by
  refine F.ok sc_longer_by_a_step (fun vs H Q E h => ?_) (fun cdv A outer s H vs Q E hr h => ?_)
  · obtain ⟨nt, A, t, bt, W, b, rfl, _⟩ := h
    rfl
  · obtain ⟨nt, A, t, bt, W, b, rfl, hC, ok, hb, ⟨F, l, ms, e1, e2, e3, _⟩, q⟩ := h
    have hml : ms.length ≤ 5 := by
      have := nodup_rng W.ss.length (been b) hb.nd hb.rng
      rw [been_len] at this
      have := ok.s5
      rw [e3.len]; omega
    have hsc := hb.rng b.2.1 (by unfold been; simp)
    refine ⟨_, (pss_cons (ps_asg (pv 3) (pg_tup rfl (pgs_cons (pg_name (i := 4) sc_longer_by_a_step.nd rfl (Or.inl rfl)) (pgs_cons (pg_name (i := 5) sc_longer_by_a_step.nd rfl (Or.inl rfl)) (pgs_cons (pg_name (i := 6) sc_longer_by_a_step.nd rfl (Or.inl rfl)) pgs_nil)))))
      (pss_cons (ps_set (i := 7) sc_longer_by_a_step.nd rfl (Or.inl rfl) (pe_op op_cat (pe_comp (te := tOp (rIx K) (tVar 0) (tC (.int ((0 : Nat) : Int)))) rfl longer_by_a_step_cs1 (pi_list (pv 4)) (fun _ _ _ _ _ => (pg_name (i := 0) longer_by_a_step_cs1.nd rfl (Or.inl rfl))) (fun _ _ _ _ _ => pf_nil) (fun _ _ _ _ _ => (pe_ix ix_seq (pv 0) pe_int (fun _ _ => rfl)))) (pe_lst (pa_cons (pv 5) pa_nil))))
      (pss_cons (ps_set (i := 8) sc_longer_by_a_step.nd rfl (Or.inl rfl) (pe_lst pa_nil))
      (pss_cons (ps_for PassesOwn.never rfl (pi_list (pe_fn c_steps_gone (hr.mono (by decide)) rfl (pa_cons (pv 0) (pa_cons (pv 1) (pa_cons (pv 2) (pa_cons (pv 5) (pa_cons (pv 6) pa_nil))))))) (pg_tup rfl (pgs_cons (pg_name (i := 9) sc_longer_by_a_step.nd rfl (Or.inl rfl)) (pgs_cons (pg_name (i := 10) sc_longer_by_a_step.nd rfl (Or.inl rfl)) (pgs_cons (pg_name (i := 11) sc_longer_by_a_step.nd rfl (Or.inl rfl)) (pgs_cons (pg_name (i := 12) sc_longer_by_a_step.nd rfl (Or.inl rfl)) pgs_nil))))) (pss_one (ps_if (PW.pt (pw_and (pt_cmpR op_eq (pv 10) pe_str (nomark _)) (pw_and1 (pt_cmpR (op_notinD hr.units) (pv 11) (pv 7) (by with_unfolding_all rfl))))) (pss_one (ps_expr (pe_bm PySem.F.plainAttrs_list PySem.F.slot_list_append PySem.F.type_list_append mr_append (pv 8) (pa_cons (pe_tup (pa_cons (pe_op op_cat (pv 4) (pe_lst (pa_cons (pv 9) pa_nil))) (pa_cons (pv 11) (pa_cons (pv 12) pa_nil)))) pa_nil)))) pss_nil)))
      (pss_one (ps_ret (pv 8))))))), ?_⟩
    refine ⟨_, rfl, bt, _, rfl, SqT.of e1, rfl, _, _, rfl, _, _, rfl, _, _, rfl, rfl, ?_⟩
    refine ⟨_, rfl, l, rfl, ⟨_, SqL.of e2⟩, comp_listI (xs := ms.map V.ref) (fun D i ys H' => Same H H' ∧ H' D = some (.lst ys) ∧ ys = (b.1.take i).map fun m => V.int m.1)
      (fun D hD => ⟨same_new hD, upd_same, by rw [List.take_zero]; rfl⟩) (fun D i ys H' ⟨s, _⟩ => SqL.of (s _ _ e2)) (fun D i x ys H2 RR hD hx hv k => ?_) (fun C ys H1 hC0 hv => ?_)⟩
    · obtain ⟨s2, eD, rfl⟩ := hv
      obtain ⟨tm, htm, rfl⟩ := getm hx
      have hil : i < b.1.length := by rw [← e3.len]; exact (List.getElem?_eq_some_iff.mp htm).1
      have hm := List.getElem?_eq_getElem hil
      have etm := e3.at_ i tm _ htm hm
      have etk : b.1.take (i + 1) = b.1.take i ++ [b.1[i]] := by rw [List.take_succ, hm]; rfl
      have hl5 := e3.len
      refine ⟨_, rfl, Or.inr (Or.inl ⟨tm, _, _, .int b.1[i].1, rfl, rfl, SqT.of (s2 _ _ etm), rfl, ?_⟩)⟩
      refine k _ _ eD (by rw [List.length_map, List.length_take]; exact small1000 (by omega)) ⟨fun x o e => ?_, upd_same, by rw [etk, List.map_append]; rfl⟩
      rw [upd_ne (ne_of_none e hD)]; exact s2 _ _ e
    obtain ⟨s1, eC, rfl⟩ := hv
    rw [List.length_map, e3.len, List.take_length] at eC
    refine ⟨_, rfl, one_le, fun C2 hC2 => ?_⟩
    obtain ⟨H2, qH2, s2, eC2⟩ := new_at (o := .lst [.int b.2.1]) hC2
    rw [← qH2]
    have hl5 := e3.len
    refine ⟨C, C2, _, _, rfl, rfl, s2 _ _ eC, eC2, ?_, fun B hB => ?_⟩
    · rw [List.length_map]
      exact Nat.le_of_lt (small1000 (by show b.1.length + 1 ≤ 1000; omega))
    have s3 := same_new (o := .lst ((b.1.map fun m => V.int m.1) ++ [.int b.2.1])) hB
    have eB : (upd H2 B (.lst ((b.1.map fun m => V.int m.1) ++ [.int b.2.1]))) B = some (.lst ((been b).map V.int)) := by
      rw [upd_same]
      unfold been
      simp
    generalize upd H2 B (.lst ((b.1.map fun m => V.int m.1) ++ [.int b.2.1])) = H3 at s3 eB ⊢
    have s03 := (s1.trans s2).trans s3
    refine g_in ?_
    try dsimp only
    refine ⟨by decide, fun D hD => ?_⟩
    have hDH : H D = none := s03.free hD
    obtain ⟨H4, qH4, s4, eD4⟩ := new_at (o := .lst []) hD
    rw [← qH4]
    have s04 := s03.trans s4
    refine ⟨_, rfl, _, rfl, _, rfl, _, rfl, _, rfl, nt, A, t, W, b.2.1, b.2.2, rfl, hC.same s04, ok, hsc, hb.st, fun G gz H5 hG s5 eG hgz hgm => ⟨G, rfl, ⟨_, SqL.of eG⟩, ?_⟩⟩
    have s05 := s04.trans s5
    have lgz : gz.length ≤ 3 := by
      have e1 := congrArg List.length hgm
      have e2 := gone0_len W b.2.1 (goesOf W b.2.2) (stepsOf W b.2.1) 0
      have e3 := bOf_st ok b.2.1
      have e4 : bOf W ≤ 3 := by unfold bOf; split <;> omega
      rw [List.length_map] at e1
      unfold goneAt at e1
      omega
    refine for_list (xs := gz.map fun z => V.ref z.1) (fun i σ H' => ∃ u9 u10 u11 u12 zs, σ = [some (.ref nt), some (.ref A), some (.ref t), some (.ref bt), some (.ref l), some (.int b.2.1), some (.int b.2.2), some (.ref B), some (.ref D), u9, u10, u11, u12] ∧ Keeps (· = D) H5 H' ∧ H' D = some (.lst (zs.map fun z : Addr × Beg => V.ref z.1)) ∧ (∀ z ∈ zs, BgH (fun l => H l = none ∧ l ≠ D) H' z.1 z.2) ∧ zs.map (·.2) = ((gz.map (·.2)).take i).filterMap (kid b))
      ⟨none, none, none, none, [], rfl, Keeps.refl fun x o m e => by rw [m, s5 _ _ eD4] at e; exact ⟨_, (Option.some.inj e).symm⟩, s5 _ _ eD4, fun z hz => by simp at hz, by rw [List.take_zero]; rfl⟩ (fun i σ H' _ ⟨_, _, _, _, _, _, k, _⟩ => SqL.of (k.at_ _ _ eG fun z => by rw [z, eD4] at hG; cases hG)) ?_ ?_
    rotate_left
    · rintro σ H6 ⟨u9, u10, u11, u12, zs, rfl, k6, eD6, hz, hm⟩
      refine ⟨_, rfl, q D zs H6 hDH (fun x o e => ?_) eD6 hz ?_⟩
      · exact k6.at_ _ _ (s05 _ _ e) (ne_of_none e hDH)
      · rw [hm, List.length_map, ← List.length_map (f := (·.2)), List.take_length, hgm]; rfl
    rintro i x σ H6 hx ⟨u9, u10, u11, u12, zs, rfl, k6, eD6, hz, hm⟩
    obtain ⟨z, hz0, rfl⟩ := getm hx
    obtain ⟨m, em1, em2⟩ := hgz z (List.mem_of_getElem? hz0)
    have em1 := k6.tup em1
    have em2 := k6.tup em2
    have etk : ((gz.map (·.2)).take (i + 1)).filterMap (kid b) = ((gz.map (·.2)).take i).filterMap (kid b) ++ (kid b z.2).toList := by
      rw [List.take_succ, List.getElem?_map, hz0]
      exact fm_snoc _ _ _
    have lz : zs.length ≤ 3 := by
      have e1 := congrArg List.length hm
      have e2 := List.length_filterMap_le (kid b) ((gz.map (·.2)).take i)
      rw [List.length_take, List.length_map] at e2
      rw [List.length_map] at e1
      omega
    refine ⟨z.1, _, rfl, SqT.of em1, rfl, _, _, rfl, _, _, rfl, _, _, rfl, _, _, rfl, rfl, ?_⟩
    have skip : ¬ (z.2.2.1.1 = ("to" : Str) ∧ z.2.2.1.2 ∉ been b) → zs.map (·.2) = ((gz.map (·.2)).take (i + 1)).filterMap (kid b) := fun hn => by
      rw [etk, kid_none hn, hm]; simp
    have eB6 := k6.at_ _ _ ((s4.trans s5) _ _ eB) (fun z => by rw [z, hD] at eB; cases eB)
    refine ⟨_, rfl, rfl, _, rfl, ite2 (fun h1 => ?_) (fun h1 => iteF ?_)⟩
    rotate_left
    · exact ⟨_, _, _, _, zs, rfl, k6, eD6, hz, skip fun h => h1 (decide_eq_true (by rw [h.1]))⟩
    have h1 : z.2.2.1.1 = ("to" : Str) := V.str.inj (of_decide_eq_true h1)
    refine ⟨_, rfl, _, rfl, 2, .int z.2.2.1.2, (been b).map Dt.int, B, _, fun d hd => ?_, by decide, .int _, rfl, SqL.of eB6, ints_dts _, _, rfl, ite2 (fun h2 => ?_) (fun h2 => ?_)⟩
    · obtain ⟨y, _, rfl⟩ := List.mem_map.mp hd
      exact .int _ _
    rotate_left
    · refine ⟨_, _, _, _, zs, rfl, k6, eD6, hz, skip fun h => h2 ?_⟩
      rw [dec_false fun z => h.2 (ints_in.mp z)]; rfl
    have h2 : z.2.2.1.2 ∉ been b := fun z => by
      rw [dec_true (ints_in.mpr z)] at h2
      cases h2
    have el6 := k6.at_ _ _ (s05 _ _ e2) (ne_of_none e2 hDH)
    refine ⟨_, rfl, Or.inl ⟨rfl, _, SqL.of eD6⟩, _, rfl, _, rfl, one_le, fun M hM => ?_⟩
    obtain ⟨H7, qH7, s7, eM⟩ := new_at (o := .lst [.ref m]) hM
    rw [← qH7]
    refine ⟨l, M, _, _, rfl, rfl, s7 _ _ el6, eM, by rw [List.length_map]; exact Nat.le_of_lt (small1000 (by show ms.length + 1 ≤ 1000; omega)), fun L hL => ?_⟩
    have hLH : H L = none := by
      have h6 := s7.free hL
      cases e : H L with
      | none => rfl
      | some o => rw [k6.at_ _ _ (s05 _ _ e) (ne_of_none e hDH)] at h6; cases h6
    have nLD : L ≠ D := fun y => by rw [y, s7 _ _ eD6] at hL; cases hL
    have s8 := same_new (o := .lst (ms.map V.ref ++ [.ref m])) hL
    have eL : (upd H7 L (.lst (ms.map V.ref ++ [.ref m]))) L = some (.lst ((ms ++ [m]).map V.ref)) := by rw [upd_same, List.map_append]; rfl
    generalize upd H7 L (.lst (ms.map V.ref ++ [.ref m])) = H8 at s8 eL ⊢
    refine ⟨_, rfl, _, rfl, three_le, fun r hr => ?_⟩
    obtain ⟨H9, qH9, s9, er⟩ := new_at (o := .tup [.ref L, .int z.2.2.1.2, .int z.2.2.2]) hr
    rw [← qH9]
    have s69 := (s7.trans s8).trans s9
    have eD9 := s69 _ _ eD6
    have k9 : Keeps (· = D) H9 (upd H9 D (.lst (zs.map (fun z => V.ref z.1) ++ [.ref r]))) := Keeps.one eD9
    refine ⟨D, _, _, rfl, rfl, eD9, by rw [List.length_map]; exact small1000 (by omega), ?_⟩
    refine ⟨_, _, _, _, zs ++ [(r, (b.1 ++ [z.2.1], z.2.2.1.2, z.2.2.2))], rfl, ⟨fun x o e n => ?_, k6.ls⟩, by rw [upd_same, List.map_append]; rfl, fun y hy => ?_, ?_⟩
    · rw [upd_ne n]; exact s69 _ _ (k6.at_ x o e n)
    · rcases List.mem_append.mp hy with hy | hy
      · exact ((hz y hy).same s69).keeps k9 fun x hx => hx.2
      · rw [List.mem_singleton.mp hy]
        refine ⟨L, ms ++ [m], k9.tup er, k9.at_ _ _ (s9 _ _ eL) nLD, ?_, hLH, nLD⟩
        refine RT.snoc ?_ (k9.tup ((s69) _ _ em2))
        exact ((e3.same s05).keeps k6 |>.same s69).keeps k9
    · rw [etk, kid_some h1 h2, List.map_append, hm]; rfl
variable (P w K mg base) in
abbrev C_longer_by_a_step : Prop := Callee P w K mg base "longer_by_a_step" 5 ["net", "answers", "table", "beginning"] (sp_longer_by_a_step K)
theorem call_longer_by_a_step (B : Blt mg) (c_steps_gone : C_steps_gone P w K mg base) (F : Fun K "longer_by_a_step" "longer_by_a_step" s_longer_by_a_step f fd) (hm : mg "longer_by_a_step" = some (.ref f)) : C_longer_by_a_step P w K mg base :=
  ⟨f, fd, ok_longer_by_a_step B c_steps_gone F, hm, F.kp, F.binds fun _ _ _ _ _ _ us hl => (by obtain ⟨x0, x1, x2, x3, rfl⟩ := len_4 hl; rfl)⟩
def sp_beginnings (K : PySem.W.Frag) : Sp := fun vs H Q _ => ∃ (nt A t : Addr) (W : Wd) (sc st : Int), vs = [.ref nt, .ref A, .ref t, .int sc, .int st] ∧ CaseH K H nt A t W ∧ WOk W ∧ (0 ≤ sc ∧ sc < W.ss.length) ∧ (0 ≤ st ∧ st < W.sts.length) ∧
  ∀ (D : Addr) (zs : List (Addr × Beg)) (H' : Hp), H D = none → Same H H' → H' D = some (.lst (zs.map fun z => V.ref z.1)) → (∀ z ∈ zs, BgH (fun l => H l = none ∧ l ≠ D) H' z.1 z.2) → Begs W sc st (zs.map (·.2)) → Q (.ref D) H'
theorem ok_beginnings (B : Blt mg) (c_longer_by_a_step : C_longer_by_a_step P w K mg base) (F : Fun K "beginnings" "beginnings" s_beginnings f fd) : FnOk P w K mg base CX0 6 f fd ["net", "answers", "table", "scope", "state"] (sp_beginnings K) := by
  refine F.ok sc_beginnings (fun vs H Q E h => ?_) (fun cdv A outer s H vs Q E hr h => ?_)
  · obtain ⟨nt, A, t, W, sc, st, rfl, _⟩ := h
    rfl
  · obtain ⟨nt, A, t, W, sc, st, rfl, hC, ok, hsc, hst, q⟩ := h
    refine ⟨_, (pss_cons (ps_set (i := 5) sc_beginnings.nd rfl (Or.inl rfl) (pe_lst (pa_cons (pe_tup (pa_cons (pe_lst pa_nil) (pa_cons (pv 3) (pa_cons (pv 4) pa_nil)))) pa_nil)))
      (pss_cons (ps_set (i := 6) sc_beginnings.nd rfl (Or.inl rfl) pe_int)
      (pss_cons (ps_while PassesOwn.never (pt_cmpR op_lt (pv 6) (pe_callB call_len (by rfl) B.b_len (by decide +kernel) (pa_cons (pv 5) pa_nil)) (nomark _)) (pss_cons (ps_expr (pe_bm PySem.F.plainAttrs_list PySem.F.slot_list_extend PySem.F.type_list_extend mr_extend (pv 5) (pa_cons (pe_fn c_longer_by_a_step (hr.mono (by decide)) rfl (pa_cons (pv 0) (pa_cons (pv 1) (pa_cons (pv 2) (pa_cons (pe_ix ix_seq (pv 5) (pv 6) (fun _ _ => rfl)) pa_nil))))) pa_nil)))
        (pss_cons (ps_if (pt_cmpR op_gt (pe_callB call_len (by rfl) B.b_len (by decide +kernel) (pa_cons (pv 5) pa_nil)) (pe_glob (v := .int 200) rfl (Classical.choose_spec B.c_MOST_BEGINNINGS) ⟨_, rfl⟩) (nomark _)) (pss_one ps_never) pss_nil)
        (pss_one (ps_augR (i := 6) sc_beginnings.nd rfl (Or.inl rfl) pe_int iop_add)))))
      (pss_one (ps_ret (pe_callB (call_sortLT mkE intE intE hr.units (by decide) (by decide) (by decide)) (by rfl) B.b_sorted (by decide +kernel) (pa_cons (pv 5) pa_nil))))))), ?_⟩
    refine ⟨by decide, fun l hl => ?_⟩
    obtain ⟨H1, qH1, s1, el⟩ := new_at (o := .lst []) hl
    rw [← qH1]
    refine ⟨_, rfl, _, rfl, three_le, fun r hr => ?_⟩
    obtain ⟨H2, qH2, s2, er⟩ := new_at (o := .tup [.ref l, .int sc, .int st]) hr
    rw [← qH2]
    refine ⟨one_le, fun D hD => ?_⟩
    have s02 := s1.trans s2
    have hDH : H D = none := s02.free hD
    have nlD : l ≠ D := ne_of_none (s2 _ _ el) hD
    obtain ⟨H3, qH3, s3, eD3⟩ := new_at (o := .lst [.ref r]) hD
    rw [← qH3]
    have s03 := s02.trans s3
    refine g_in ?_
    try dsimp only
    refine seq_setC ?_
    try dsimp only
    have cap := (cap_few ok).1
    refine seq_cut (fun σ' H' => ∃ (u6 : V) (zs : List (Addr × Beg)), σ' = [some (.ref nt), some (.ref A), some (.ref t), some (.int sc), some (.int st), some (.ref D), some u6] ∧ Same H H' ∧ H' D = some (.lst (zs.map fun z => V.ref z.1)) ∧ (∀ z ∈ zs, BgH (fun l => H l = none ∧ l ≠ D) H' z.1 z.2) ∧ Bfs W sc st (zs.map fun z : Addr × Beg => z.2) (zs.map fun z : Addr × Beg => z.2).length) ?_ (fun N hN => ?_)
    · rintro σ' H4 ⟨u6, zs, rfl, s4, eD4, hz, hB⟩
      have hf := hB.few
      rw [List.length_map] at hf
      refine ⟨_, rfl, D, zs.map fun z => (V.ref z.1, z.2), rfl, ?_, by rw [List.length_map]; omega, fun y hy => ?_, fun D2 zs' hp hs hD2 => ?_⟩
      · rw [List.map_map]; exact SqL.of eD4
      · obtain ⟨z, hz', rfl⟩ := List.mem_map.mp hy
        exact (hz z hz').dt
      have s5 := same_new (o := .lst (zs'.map (·.1))) hD2
      obtain ⟨ws, rfl⟩ : ∃ ws : List (Addr × Beg), zs' = ws.map fun z => (V.ref z.1, z.2) := by
        have : ∀ {l : List (RowE begE)}, (∀ y ∈ l, y ∈ zs.map fun z => ((V.ref z.1, z.2) : RowE begE)) → ∃ ws : List (Addr × Beg), l = ws.map fun z => (V.ref z.1, z.2) := by
          intro l
          induction l with
          | nil => exact fun _ => ⟨[], rfl⟩
          | cons y l ih =>
            intro h
            obtain ⟨ws, rfl⟩ := ih fun z hz => h z (List.mem_cons_of_mem _ hz)
            obtain ⟨z, _, rfl⟩ := List.mem_map.mp (h y List.mem_cons_self)
            exact ⟨z :: ws, rfl⟩
        exact this fun y hy => hp.mem_iff.mp hy
      have e2 : (ws.map fun z => ((V.ref z.1, z.2) : RowE begE)).map (·.2) = ws.map (·.2) := by rw [List.map_map]; rfl
      have e1 : (ws.map fun z => ((V.ref z.1, z.2) : RowE begE)).map (·.1) = ws.map fun z => V.ref z.1 := by rw [List.map_map]; rfl
      have hp2 : (ws.map (·.2)).Perm (zs.map (·.2)) := by
        have := hp.map (·.2)
        rwa [e2, List.map_map] at this
      rw [e2] at hs
      rw [e1] at s5 ⊢
      have nm : ∀ z ∈ ws, z ∈ zs := fun z hz' => by
        have := hp.mem_iff.mp (List.mem_map.mpr ⟨z, hz', rfl⟩)
        obtain ⟨y, hy, e⟩ := List.mem_map.mp this
        injection e with e1 e2
        have : y = z := Prod.ext (V.ref.inj e1) e2
        rw [← this]; exact hy
      refine q D2 ws _ (s4.free hD2) (s4.trans s5) upd_same (fun z hz' => ?_) (hB.all hp2 hs)
      refine ((hz z (nm z hz')).mono' ?_).same s5
      intro x o ex hx
      exact ⟨hx.1, fun y => by rw [y, hD2] at ex; cases ex⟩
    refine ⟨fun m σ H' => ∃ (p : Nat) (zs : List (Addr × Beg)), σ = [some (.ref nt), some (.ref A), some (.ref t), some (.int sc), some (.int st), some (.ref D), some (.int p)] ∧ Same H H' ∧ H' D = some (.lst (zs.map fun z => V.ref z.1)) ∧ (∀ z ∈ zs, BgH (fun l => H l = none ∧ l ≠ D) H' z.1 z.2) ∧ Bfs W sc st (zs.map fun z : Addr × Beg => z.2) p ∧ m = 31 - p, ⟨_, 0, [(r, ([], sc, st))], rfl, s03, eD3, fun z hz => ?_, Bfs.start W sc st, rfl⟩, ?_⟩
    · rw [List.mem_singleton.mp hz]
      exact ⟨l, [], s3 _ _ er, (s2.trans s3) _ _ el, RT.nil, hl, nlD⟩
    rintro m σ H4 ⟨p, zs, rfl, s4, eD4, hz, hB, em⟩
    have hf := hB.few
    have hle := hB.le
    rw [List.length_map] at hf hle
    refine ⟨_, rfl, _, rfl, _, _, rfl, Or.inl ⟨_, SqL.of eD4, rfl⟩, _, _, rfl, rfl, _, rfl, ?_⟩
    by_cases hlt : p < zs.length
    rotate_left
    · have ep : p = zs.length := by omega
      rw [decide_eq_false (by rw [List.length_map]; omega)]
      refine iteF (hN _ _ ⟨_, zs, rfl, s4, eD4, hz, ?_⟩)
      rw [List.length_map, ← ep]; exact hB
    rw [decide_eq_true (by rw [List.length_map]; omega)]
    refine iteT ?_
    have hzp := List.getElem?_eq_getElem hlt
    have hbp : (zs.map (·.2))[p]? = some zs[p].2 := by rw [List.getElem?_map, hzp]; rfl
    have hBn := hB.turn ok hsc hst hbp
    have ib := (hB.is _ (List.mem_of_getElem? hbp)).ok ok hsc hst
    refine ⟨fun σ' H' => ∃ (zs' : List (Addr × Beg)), σ' = [some (.ref nt), some (.ref A), some (.ref t), some (.int sc), some (.int st), some (.ref D), some (.int ((p + 1 : Nat) : Int))] ∧ Same H H' ∧ H' D = some (.lst (zs'.map fun z => V.ref z.1)) ∧ (∀ z ∈ zs', BgH (fun l => H l = none ∧ l ≠ D) H' z.1 z.2) ∧ Bfs W sc st (zs'.map fun z : Addr × Beg => z.2) (p + 1), ?_, ?_⟩
    · rintro σ' H' ⟨zs', rfl, s5, eD5, hz5, hB5⟩
      exact ⟨_, by omega, p + 1, zs', rfl, s5, eD5, hz5, hB5, rfl⟩
    have hat : atI (zs.map fun z => V.ref z.1) (p : Int) = some (.ref zs[p].1) := atI_nat (by rw [List.getElem?_map, hzp]; rfl)
    refine ⟨_, rfl, Or.inl ⟨rfl, _, SqL.of eD4⟩, _, rfl, _, rfl, _, rfl, _, rfl, _, rfl, Or.inl ⟨D, _, _, .ref zs[p].1, rfl, rfl, SqL.of eD4, hat, nt, A, t, zs[p].1, W, zs[p].2, rfl, hC.same s4, ok, ib, ⟨_, hz _ (List.getElem_mem hlt)⟩, fun D2 ks H5 hD2 s5 eD2 hks hkm => ?_⟩⟩
    have hkl : ks.length ≤ 3 := by
      have e1 := congrArg List.length hkm
      have e2 := kids_len W zs[p].2
      have e3 := bOf_st ok zs[p].2.2.1
      have e4 : bOf W ≤ 3 := by unfold bOf; split <;> omega
      rw [List.length_map] at e1
      omega
    have eD5 := s5 _ _ eD4
    have k5 : Keeps (· = D) H5 (upd H5 D (.lst (zs.map (fun z => V.ref z.1) ++ ks.map fun z => V.ref z.1))) := Keeps.one eD5
    refine ⟨D, D2, _, _, rfl, rfl, eD5, eD2, by rw [List.length_map, List.length_map]; exact Nat.le_of_lt (small1000 (by omega)), ?_⟩
    have few2 := hBn.few
    rw [← hkm, ← List.map_append, List.length_map] at few2
    rw [← hkm, ← List.map_append] at hBn
    have eDn : (upd H5 D (.lst (zs.map (fun z => V.ref z.1) ++ ks.map fun z => V.ref z.1))) D = some (.lst ((zs ++ ks).map fun z => V.ref z.1)) := by rw [upd_same, List.map_append]
    have sn : Same H (upd H5 D (.lst (zs.map (fun z => V.ref z.1) ++ ks.map fun z => V.ref z.1))) := fun b o e => by
      rw [upd_ne (ne_of_none e hDH)]; exact s5 _ _ (s4 _ _ e)
    have hzn : ∀ z ∈ zs ++ ks, BgH (fun l => H l = none ∧ l ≠ D) (upd H5 D (.lst (zs.map (fun z => V.ref z.1) ++ ks.map fun z => V.ref z.1))) z.1 z.2 := fun z h => by
      rcases List.mem_append.mp h with h | h
      · exact ((hz z h).same s5).keeps k5 fun x hx => hx.2
      · refine ((hks z h).mono fun x hx => ⟨s4.free hx.1, ?_⟩).keeps k5 fun x hx => hx.2
        intro y
        rw [y, eD4] at hx
        cases hx.1
    generalize upd H5 D (.lst (zs.map (fun z => V.ref z.1) ++ ks.map fun z => V.ref z.1)) = H6 at eDn sn hzn ⊢
    refine ⟨_, rfl, _, _, rfl, Or.inl ⟨_, SqL.of eDn, rfl⟩, _, _, rfl, rfl, _, rfl, ?_⟩
    rw [decide_eq_false (by rw [List.length_map]; omega)]
    refine iteF ?_
    refine ⟨_, rfl, _, _, rfl, rfl, zs ++ ks, ?_, sn, eDn, hzn, hBn⟩
    simp
variable (P w K mg base) in
abbrev C_beginnings : Prop := Callee P w K mg base "beginnings" 6 ["net", "answers", "table", "scope", "state"] (sp_beginnings K)
theorem call_beginnings (B : Blt mg) (c_longer_by_a_step : C_longer_by_a_step P w K mg base) (F : Fun K "beginnings" "beginnings" s_beginnings f fd) (hm : mg "beginnings" = some (.ref f)) : C_beginnings P w K mg base :=
  ⟨f, fd, ok_beginnings B c_longer_by_a_step F, hm, F.kp, F.binds fun _ _ _ _ _ _ us hl => (by obtain ⟨x0, x1, x2, x3, x4, rfl⟩ := len_5 hl; rfl)⟩
def sp_found_ways (K : PySem.W.Frag) : Sp := fun vs H Q _ => ∃ (nt A t : Addr) (x : Str) (W : Wd) (sc st : Int), vs = [.ref nt, .ref A, .ref t, .int sc, .int st, .str x] ∧ CaseH K H nt A t W ∧ WOk W ∧ (0 ≤ sc ∧ sc < W.ss.length) ∧ (0 ≤ st ∧ st < W.sts.length) ∧
  ∀ (D2 : Addr) (bs : List Beg) (ws : List (Addr × List Mrk)) (H' : Hp), H D2 = none → Same H H' → H' D2 = some (.lst (ws.map fun z => V.ref z.1)) → (∀ z ∈ ws, WyH (fun l => H l = none ∧ l ≠ D2) H' z.1 z.2) → Begs W sc st bs → Fnd W x bs (ws.map (·.2)) → Q (.ref D2) H'
theorem ok_found_ways (B : Blt mg) (c_found_behind : C_found_behind P w K mg base) (c_beginnings : C_beginnings P w K mg base) (F : Fun K "found_ways" "found_ways" s_found_ways f fd) : FnOk P w K mg base CX0 7 f fd ["net", "answers", "table", "scope", "state", "name"] (sp_found_ways K) := by
  refine F.ok sc_found_ways (fun vs H Q E h => ?_) (fun cdv A outer s H vs Q E hr h => ?_)
  · obtain ⟨nt, A, t, x, W, sc, st, rfl, _⟩ := h
    rfl
  · obtain ⟨nt, A, t, x, W, sc, st, rfl, hC, ok, hsc, hst, q⟩ := h
    refine ⟨_, (pss_one (ps_ret (pe_fn c_found_behind (hr.mono (by decide)) rfl (pa_cons (pv 0) (pa_cons (pv 2) (pa_cons (pe_fn c_beginnings (hr.mono (by decide)) rfl (pa_cons (pv 0) (pa_cons (pv 1) (pa_cons (pv 2) (pa_cons (pv 3) (pa_cons (pv 4) pa_nil)))))) (pa_cons (pv 5) pa_nil))))))), ?_⟩
    refine ⟨_, rfl, _, rfl, _, rfl, _, rfl, _, rfl, _, rfl, _, rfl, nt, A, t, W, sc, st, rfl, hC, ok, hsc, hst, fun D zs H1 hD s1 eD hz hB => ?_⟩
    have hf := hB.few
    rw [List.length_map] at hf
    refine ⟨_, rfl, nt, A, t, D, x, _, W, zs, rfl, hC.same s1, ok, eD, hz, fun z hz' => ((hB.mem _).mp (List.mem_map.mpr ⟨z, hz', rfl⟩)).ok ok hsc hst, hf, fun D2 ws H2 hD2 s2 eD2 hw hF => ?_⟩
    exact q D2 _ ws H2 (s1.free hD2) (s1.trans s2) eD2 (fun z h => (hw z h).mono' fun x o _ hx => ⟨s1.free hx.1, hx.2⟩) hB hF
variable (P w K mg base) in
abbrev C_found_ways : Prop := Callee P w K mg base "found_ways" 7 ["net", "answers", "table", "scope", "state", "name"] (sp_found_ways K)
theorem call_found_ways (B : Blt mg) (c_found_behind : C_found_behind P w K mg base) (c_beginnings : C_beginnings P w K mg base) (F : Fun K "found_ways" "found_ways" s_found_ways f fd) (hm : mg "found_ways" = some (.ref f)) : C_found_ways P w K mg base :=
  ⟨f, fd, ok_found_ways B c_found_behind c_beginnings F, hm, F.kp, F.binds fun _ _ _ _ _ _ us hl => (by obtain ⟨x0, x1, x2, x3, x4, x5, rfl⟩ := len_6 hl; rfl)⟩
def sp__law_whole (_ : PySem.W.Frag) : Sp := fun vs H Q _ => ∃ (i : Int), vs = [.int i] ∧ Q (.bl true) H
theorem ok__law_whole (B : Blt mg) (F : Fun K "_law_whole" "_law_whole" s__law_whole f fd) : FnOk P w K mg base CX0 1 f fd ["_law_found"] (sp__law_whole K) := by
  refine F.ok sc__law_whole (fun vs H Q E h => ?_) (fun cdv A outer s H vs Q E hr h => ?_)
  · obtain ⟨i, rfl, _⟩ := h
    rfl
  · obtain ⟨i, rfl, q⟩ := h
    refine ⟨_, (pss_one (ps_ret (pe_and (pe_callB call_isi (by rfl) B.b_isinstance (by decide +kernel) (pa_cons (pv 0) (pa_cons (pe_ty "int" rfl B.b_int (by decide +kernel)) pa_nil))) (pe_one (pe_not (pe_callB call_isi (by rfl) B.b_isinstance (by decide +kernel) (pa_cons (pv 0) (pa_cons (pe_ty "bool" rfl B.b_bool (by decide +kernel)) pa_nil)))))))), ?_⟩
    exact ⟨_, rfl, _, .int, .int, rfl, .int i, _, rfl, iteT ⟨_, rfl, _, .bool, .int, rfl, .int i, _, rfl, q⟩⟩
variable (P w K mg base) in
abbrev C__law_whole : Prop := Callee P w K mg base "_law_whole" 1 ["_law_found"] (sp__law_whole K)
theorem call__law_whole (B : Blt mg) (F : Fun K "_law_whole" "_law_whole" s__law_whole f fd) (hm : mg "_law_whole" = some (.ref f)) : C__law_whole P w K mg base :=
  ⟨f, fd, ok__law_whole B  F, hm, F.kp, F.binds fun _ _ _ _ _ _ us hl => (by obtain ⟨x0, rfl⟩ := len_1 hl; rfl)⟩
def sp__law_is_mark (K : PySem.W.Frag) : Sp := fun vs H Q _ => ∃ (m nt S T R : Addr) (us Gs Es : List Addr) (ss : List Sco) (mk : Mrk) (n : Nat) (s : Sco), vs = [.ref m, .str mk.2.1, .ref nt] ∧ SqT K H m (mkV mk) ∧ SqT K H nt [.ref S, .ref T, .ref R] ∧ Scs H S us Gs Es ss ∧ mk.1 = (n : Int) ∧ ss[n]? = some s ∧ 0 ≤ mk.2.2 ∧ (mk.2.1 = ("told" : Str) → mk.2.2 < s.2.length) ∧ (mk.2.1 ≠ ("told" : Str) → mk.2.2 < s.1.length) ∧ Q (.bl true) H
theorem ok__law_is_mark (B : Blt mg) (c__law_whole : C__law_whole P w K mg base) (F : Fun K "_law_is_mark" "_law_is_mark" s__law_is_mark f fd) : FnOk P w K mg base CX0 2 f fd ["_law_mark", "_law_word", "_law_net"] (sp__law_is_mark K) := by
  refine F.ok sc__law_is_mark (fun vs H Q E h => ?_) (fun cdv A outer s H vs Q E hr h => ?_)
  · obtain ⟨m, nt, S, T, R, us, Gs, Es, ss, mk, n, s, rfl, _⟩ := h
    rfl
  · obtain ⟨m, nt, S, T, R, us, Gs, Es, ss, mk, n, s, rfl, hT, hN, SC, hn, hs, h0, h1, h2, q⟩ := h
    have hnl : n < ss.length := (List.getElem?_eq_some_iff.mp hs).1
    have lus : (us.map V.ref).length = ss.length := by rw [List.length_map, SC.lu]
    obtain ⟨u, G, E1, g1, g2, g3, g4, ⟨c0, ⟨tG, c1, c2⟩, ⟨tE, d1, d2⟩⟩⟩ := SC.get hnl
    rw [hs] at g4
    have es := Option.some.inj g4
    rw [← es] at c2 d2
    have hat : atI (us.map V.ref) mk.1 = some (.ref u) := by rw [hn]; exact atI_nat (by rw [List.getElem?_map, g1]; rfl)
    refine ⟨_, (pss_cons (ps_if (PW.pt (pw_or (pt_not (pt_val (pe_callB call_isi (by rfl) B.b_isinstance (by decide +kernel) (pa_cons (pv 0) (pa_cons (pe_ty "tuple" rfl B.b_tuple (by decide +kernel)) pa_nil))))) (pw_or (pt_cmpR op_ne (pe_callB call_len (by rfl) B.b_len (by decide +kernel) (pa_cons (pv 0) pa_nil)) pe_int (nomark _)) (pw_or (pt_not (pt_val (pe_fn c__law_whole (hr.mono (by decide)) rfl (pa_cons (pe_ix ix_seq (pv 0) pe_int (fun _ _ => rfl)) pa_nil)))) (pw_or1 (pt_not (pt_val (pe_fn c__law_whole (hr.mono (by decide)) rfl (pa_cons (pe_ix ix_seq (pv 0) pe_int (fun _ _ => rfl)) pa_nil))))))))) (pss_one (ps_ret pe_bl)) pss_nil)
      (pss_cons (ps_if (PW.pt (pw_or (pt_cmpR op_ne (pe_ix ix_seq (pv 0) pe_int (fun _ _ => rfl)) (pv 1) (nomark _)) (pw_or (pt_cmpR op_lt (pe_ix ix_seq (pv 0) pe_int (fun _ _ => rfl)) pe_int (nomark _)) (pw_or1 (pt_cmpR op_ge (pe_ix ix_seq (pv 0) pe_int (fun _ _ => rfl)) (pe_callB call_len (by rfl) B.b_len (by decide +kernel) (pa_cons (pe_ix ix_seq (pv 2) pe_int (fun _ _ => rfl)) pa_nil)) (nomark _)))))) (pss_one (ps_ret pe_bl)) pss_nil)
      (pss_one (ps_ret (pe_chain op_le op_lt pe_int (pe_ix ix_seq (pv 0) pe_int (fun _ _ => rfl)) (pe_callB call_len (by rfl) B.b_len (by decide +kernel) (pa_cons (pe_ix ix_seq (pe_ix ix_seq (pe_ix ix_seq (pv 2) pe_int (fun _ _ => rfl)) (pe_ix ix_seq (pv 0) pe_int (fun _ _ => rfl)) (fun _ _ => rfl)) (pe_callTy call_int1 (by rfl) B.b_int (by decide +kernel) (pa_cons (pe_cmpR op_eq (pv 1) pe_str (nomark _)) pa_nil)) (fun _ _ => rfl)) pa_nil))))))), ?_⟩
    refine ⟨_, rfl, _, .tup, .tup, rfl, .tup hT, _, rfl, iteF ?_⟩
    refine ⟨_, rfl, _, _, rfl, Or.inr ⟨_, hT, rfl⟩, rfl, _, rfl, iteNS rfl ?_⟩
    refine ⟨_, rfl, Or.inr (Or.inl ⟨m, _, _, .int mk.1, rfl, rfl, hT, rfl, mk.1, rfl, _, rfl, iteF ?_⟩)⟩
    refine ⟨_, rfl, Or.inr (Or.inl ⟨m, _, _, .int mk.2.2, rfl, rfl, hT, rfl, mk.2.2, rfl, _, rfl, iteF ?_⟩)⟩
    refine ⟨_, rfl, Or.inr (Or.inl ⟨m, _, _, .str mk.2.1, rfl, rfl, hT, rfl, _, rfl, rfl, _, rfl, iteNS rfl ?_⟩)⟩
    refine ⟨_, rfl, Or.inr (Or.inl ⟨m, _, _, .int mk.1, rfl, rfl, hT, rfl, _, _, rfl, rfl, _, rfl, ?_⟩)⟩
    rw [decide_eq_false (by omega)]
    refine iteF ?_
    refine ⟨_, rfl, Or.inr (Or.inl ⟨m, _, _, .int mk.1, rfl, rfl, hT, rfl, _, rfl, Or.inr (Or.inl ⟨nt, _, _, .ref S, rfl, rfl, hN, rfl, _, _, rfl, Or.inl ⟨_, SqL.of SC.top, rfl⟩, _, _, rfl, rfl, _, rfl, ?_⟩)⟩)⟩
    rw [decide_eq_false (by rw [lus]; omega)]
    refine iteF ?_
    refine ⟨_, rfl, Or.inr (Or.inl ⟨m, _, _, .int mk.2.2, rfl, rfl, hT, rfl, _, _, rfl, rfl, _, rfl, ?_⟩)⟩
    rw [decide_eq_true h0]
    refine iteT ?_
    refine ⟨_, rfl, Or.inr (Or.inl ⟨nt, _, _, .ref S, rfl, rfl, hN, rfl, _, rfl, Or.inr (Or.inl ⟨m, _, _, .int mk.1, rfl, rfl, hT, rfl, Or.inl ⟨S, _, _, .ref u, rfl, rfl, SqL.of SC.top, hat, _, rfl, rfl, Or.inr ⟨_, rfl, ?_⟩⟩⟩)⟩)⟩
    by_cases hw : mk.2.1 = ("told" : Str)
    · have hl := h1 hw
      rw [decide_eq_true (show V.str mk.2.1 = V.str "told" by rw [hw])]
      refine Or.inr (Or.inl ⟨u, _, _, .ref E1, rfl, rfl, SqT.of c0, rfl, _, _, rfl, Or.inl ⟨_, SqL.of d1, rfl⟩, _, _, rfl, rfl, ?_⟩)
      rw [List.length_map, d2.len]
      show Q (.bl (decide (mk.2.2 < ((s.2.length : Nat) : Int)))) H
      rw [decide_eq_true hl]
      exact q
    · have hl := h2 hw
      rw [decide_eq_false (show ¬ V.str mk.2.1 = V.str "told" from fun z => hw (V.str.inj z))]
      refine Or.inr (Or.inl ⟨u, _, _, .ref G, rfl, rfl, SqT.of c0, rfl, _, _, rfl, Or.inl ⟨_, SqL.of c1, rfl⟩, _, _, rfl, rfl, ?_⟩)
      rw [List.length_map, c2.len]
      show Q (.bl (decide (mk.2.2 < ((s.1.length : Nat) : Int)))) H
      rw [decide_eq_true hl]
      exact q
variable (P w K mg base) in
abbrev C__law_is_mark : Prop := Callee P w K mg base "_law_is_mark" 2 ["_law_mark", "_law_word", "_law_net"] (sp__law_is_mark K)
theorem call__law_is_mark (B : Blt mg) (c__law_whole : C__law_whole P w K mg base) (F : Fun K "_law_is_mark" "_law_is_mark" s__law_is_mark f fd) (hm : mg "_law_is_mark" = some (.ref f)) : C__law_is_mark P w K mg base :=
  ⟨f, fd, ok__law_is_mark B c__law_whole F, hm, F.kp, F.binds fun _ _ _ _ _ _ us hl => (by obtain ⟨x0, x1, x2, rfl⟩ := len_3 hl; rfl)⟩
def sp__law_next (K : PySem.W.Frag) : Sp := fun vs H Q _ => ∃ (t a o : Addr) (inn : V) (ss : List Stt) (n : Int) (k : Nat) (s : Stt) (x : Str), vs = [.ref t, .int n, .str x] ∧ n = k ∧ SqT K H t [.ref a, inn, .ref o] ∧ Stts K H a ss ∧ ss[k]? = some s ∧ Q (onV (goN s.1 x)) H
theorem ok__law_next (B : Blt mg) (F : Fun K "_law_next" "_law_next" s__law_next f fd) : FnOk P w K mg base CX0 1 f fd ["_law_table_here", "_law_state", "_law_label"] (sp__law_next K) := by
  refine F.ok sc__law_next (fun vs H Q E h => ?_) (fun cdv A outer s H vs Q E hr h => ?_)
  · obtain ⟨t, a, o, inn, ss, n, k, s, x, rfl, _⟩ := h
    rfl
  · obtain ⟨t, a, o, inn, ss, n, k, s, x, rfl, rfl, hT, ⟨vs, hS, hD⟩, hs, q⟩ := h
    obtain ⟨v, hv, hvs⟩ := hD.get' (i := k) (d := stD s) (by rw [List.getElem?_map, hs]; rfl)
    obtain ⟨st, g, e, rfl, hst, ⟨gv, hg, hgd⟩, he⟩ := st_at hvs
    have lgv := hgd.len_map
    refine ⟨_, (pss_cons (ps_for PassesOwn.never rfl (pi_list (pe_ix ix_seq (pe_ix ix_seq (pe_ix ix_seq (pv 0) pe_int (fun _ _ => rfl)) (pv 1) (fun _ _ => rfl)) pe_int (fun _ _ => rfl))) (pg_tup rfl (pgs_cons (pg_name (i := 3) sc__law_next.nd rfl (Or.inl rfl)) (pgs_cons (pg_name (i := 4) sc__law_next.nd rfl (Or.inl rfl)) pgs_nil))) (pss_one (ps_if (pt_cmpR op_eq (pv 3) (pv 2) (nomark _)) (pss_one (ps_ret (pv 4))) pss_nil)))
      (pss_one (ps_ret pe_non))), ?_⟩
    refine ⟨_, rfl, Or.inr (Or.inl ⟨t, _, _, .ref a, rfl, rfl, hT, rfl, ?_⟩)⟩
    refine ⟨_, rfl, Or.inl ⟨a, vs, _, .ref st, rfl, rfl, hS, atI_nat hv, ?_⟩⟩
    refine Or.inr (Or.inl ⟨st, _, _, .ref g, rfl, rfl, hst, rfl, ?_⟩)
    refine ⟨g, rfl, ⟨_, hg⟩, for_list (xs := gv) (fun i σ H' => ∃ u4 u5, σ = [some (.ref t), some (.int k), some (.str x), u4, u5] ∧ H' = H ∧ ∀ q ∈ s.1.take i, q.1 ≠ x) ⟨none, none, rfl, rfl, fun q hq => by simp at hq⟩ (fun i σ H' _ ⟨_, _, _, e, _⟩ => by rw [e]; exact hg) ?_ ?_⟩
    · rintro i y σ H2 hy ⟨u4, u5, rfl, rfl, hno⟩
      obtain ⟨p, t', hp, rfl, ht⟩ := hgd.goes_get hy
      refine ⟨t', _, rfl, ht, rfl, _, _, rfl, _, _, rfl, rfl, ?_⟩
      refine ⟨_, rfl, _, rfl, rfl, _, rfl, ?_⟩
      refine ite2 (fun h1 => ?_) (fun h1 => ?_)
      · have h1 : p.1 = x := V.str.inj (of_decide_eq_true h1)
        refine ⟨_, rfl, ?_⟩
        rw [goN_at hp h1 hno] at q
        exact q
      · have h1 : p.1 ≠ x := fun z => h1 (decide_eq_true (by rw [z]))
        refine ⟨_, _, rfl, rfl, fun q hq => ?_⟩
        rw [List.take_succ, hp] at hq
        rcases List.mem_append.mp hq with hq | hq
        · exact hno q hq
        · rw [List.mem_singleton.mp hq]; exact h1
    · rintro σ H2 ⟨u4, u5, rfl, rfl, hno⟩
      rw [lgv, List.take_length] at hno
      rw [goN_none hno] at q
      exact q
variable (P w K mg base) in
abbrev C__law_next : Prop := Callee P w K mg base "_law_next" 1 ["_law_table_here", "_law_state", "_law_label"] (sp__law_next K)
theorem call__law_next (B : Blt mg) (F : Fun K "_law_next" "_law_next" s__law_next f fd) (hm : mg "_law_next" = some (.ref f)) : C__law_next P w K mg base :=
  ⟨f, fd, ok__law_next B  F, hm, F.kp, F.binds fun _ _ _ _ _ _ us hl => (by obtain ⟨x0, x1, x2, rfl⟩ := len_3 hl; rfl)⟩
def sp__law_inside (K : PySem.W.Frag) : Sp := fun vs H Q _ => ∃ (t S T R A : Addr) (ths : List (Str × Int)) (as : List (Option (Str × Int))) (n : Int) (k : Nat) (p : Str × Int), vs = [.ref t, .ref A, .int n] ∧ n = k ∧ ths[k]? = some p ∧ SqT K H t [.ref S, .ref T, .ref R] ∧ Goes K H T ths ∧ Ans K H A as ∧ NetOk ths as ∧
  ∀ (r : Addr) (H' : Hp), H r = none → Same H H' → H' r = some (.tup [.str (insideV ths as p).1, .int (insideV ths as p).2]) → Q (.ref r) H'
theorem ok__law_inside (B : Blt mg) (F : Fun K "_law_inside" "_law_inside" s__law_inside f fd) : FnOk P w K mg base CX0 1 f fd ["_law_net", "_law_answers_here", "_law_number"] (sp__law_inside K) := by
  refine F.ok sc__law_inside (fun vs H Q E h => ?_) (fun cdv A outer s H vs Q E hr h => ?_)
  · obtain ⟨t, S, T, R, A, ths, as, n, k, p, rfl, _⟩ := h
    rfl
  · obtain ⟨t, S, T, R, A, ths, as, n, k, p, rfl, rfl, hp, hT, hG, hA, ok, q⟩ := h
    obtain ⟨tv, th, hT1, hth, sth⟩ := hG.get hp
    refine ⟨_, (pss_cons (ps_set (i := 3) sc__law_inside.nd rfl (Or.inl rfl) (pe_ix ix_seq (pe_ix ix_seq (pv 0) pe_int (fun _ _ => rfl)) (pv 2) (fun _ _ => rfl)))
      (pss_cons (ps_if (pt_cmpR op_eq (pe_ix ix_seq (pv 3) pe_int (fun _ _ => rfl)) pe_str (nomark _)) (pss_one (ps_ret (pe_tup (pa_cons pe_str (pa_cons (pe_ix ix_seq (pv 3) pe_int (fun _ _ => rfl)) pa_nil))))) pss_nil)
      (pss_cons (ps_if (pt_cmpR op_eq (pe_ix ix_seq (pv 3) pe_int (fun _ _ => rfl)) pe_str (nomark _)) (pss_cons (ps_set (i := 4) sc__law_inside.nd rfl (Or.inl rfl) (pe_ix ix_seq (pv 1) (pe_ix ix_seq (pv 3) pe_int (fun _ _ => rfl)) (fun _ _ => rfl)))
        (pss_cons (ps_if (pt_cmp (pc_isN (pv 4))) (pss_one (ps_ret (pe_tup (pa_cons pe_str (pa_cons (pe_ix ix_seq (pv 3) pe_int (fun _ _ => rfl)) pa_nil))))) pss_nil)
        (pss_one (ps_if (PW.pt (pw_and (pt_cmpR op_eq (pe_ix ix_seq (pv 4) pe_int (fun _ _ => rfl)) pe_str (nomark _)) (pw_and1 (pt_cmpR op_eq (pe_ix ix_seq (pe_ix ix_seq (pe_ix ix_seq (pv 0) pe_int (fun _ _ => rfl)) (pe_ix ix_seq (pv 4) pe_int (fun _ _ => rfl)) (fun _ _ => rfl)) pe_int (fun _ _ => rfl)) pe_str (nomark _))))) (pss_one (ps_ret (pe_tup (pa_cons pe_str (pa_cons (pe_ix ix_seq (pe_ix ix_seq (pe_ix ix_seq (pv 0) pe_int (fun _ _ => rfl)) (pe_ix ix_seq (pv 4) pe_int (fun _ _ => rfl)) (fun _ _ => rfl)) pe_int (fun _ _ => rfl)) pa_nil))))) pss_nil)))) pss_nil)
      (pss_one (ps_ret (pe_tup (pa_cons pe_str (pa_cons pe_int pa_nil)))))))), ?_⟩
    refine ⟨_, rfl, Or.inr (Or.inl ⟨t, _, _, .ref T, rfl, rfl, hT, rfl, _, rfl, Or.inl ⟨T, tv, _, .ref th, rfl, rfl, hT1, atI_nat hth, ?_⟩⟩)⟩
    refine g_in ?_
    try dsimp only
    refine ⟨_, rfl, Or.inr (Or.inl ⟨th, _, _, .str p.1, rfl, rfl, sth, rfl, rfl, _, rfl, ite2 (fun h => ?_) (fun h => ?_)⟩)⟩
    · have h1 : p.1 = ("part" : Str) := V.str.inj (of_decide_eq_true h)
      refine ⟨_, rfl, Or.inr (Or.inl ⟨th, _, _, .int p.2, rfl, rfl, sth, rfl, two_le, fun r hr => ?_⟩)⟩
      rw [show insideV ths as p = (("to" : Str), p.2) from if_pos h1] at q
      exact q r _ hr (same_new hr) upd_same
    have h1 : p.1 ≠ ("part" : Str) := fun z => h (decide_eq_true (by rw [z]))
    refine ⟨_, rfl, Or.inr (Or.inl ⟨th, _, _, .str p.1, rfl, rfl, sth, rfl, rfl, _, rfl, ite2 (fun h => ?_) (fun h => ?_)⟩)⟩
    rotate_left
    · have h2 : p.1 ≠ ("sort" : Str) := fun z => h (decide_eq_true (by rw [z]))
      refine ⟨two_le, fun r hr => ?_⟩
      rw [show insideV ths as p = (("no" : Str), 0) from (if_neg h1).trans (if_neg h2)] at q
      exact q r _ hr (same_new hr) upd_same
    have h2 : p.1 = ("sort" : Str) := V.str.inj (of_decide_eq_true h)
    obtain ⟨p0, p1⟩ := ok.q p (List.mem_of_getElem? hp) h2
    obtain ⟨n, hn⟩ := Int.eq_ofNat_of_zero_le p0
    rw [show insideV ths as p = sortV ths as p.2 from (if_neg h1).trans (if_pos h2)] at q
    obtain ⟨vs, v, hA1, hv, hc⟩ := hA.get (k := n) (by omega)
    have hatn : atI vs p.2 = some v := by rw [hn]; exact atI_nat hv
    refine ⟨_, rfl, _, rfl, Or.inr (Or.inl ⟨th, _, _, .int p.2, rfl, rfl, sth, rfl, Or.inl ⟨A, vs, _, v, rfl, rfl, hA1, hatn, ?_⟩⟩)⟩
    refine g_in ?_
    try dsimp only
    rw [hn] at q
    rcases hc with ⟨e1, rfl⟩ | ⟨pa, ta, e1, rfl, hta⟩
    · refine ⟨_, rfl, _, rfl, ite2 (fun _ => ?_) (fun h => absurd (decide_eq_true rfl) h)⟩
      refine ⟨_, rfl, Or.inr (Or.inl ⟨th, _, _, .int p.2, rfl, rfl, sth, rfl, two_le, fun r hr => ?_⟩)⟩
      rw [sortV_open e1] at q
      rw [hn]
      exact q r _ hr (same_new hr) upd_same
    refine ⟨_, rfl, _, rfl, ite2 (fun h => absurd (of_decide_eq_true h) (by simp)) (fun _ => ?_)⟩
    refine ⟨_, rfl, Or.inr (Or.inl ⟨ta, _, _, .str pa.1, rfl, rfl, hta, rfl, rfl, _, rfl, ite2 (fun h => ?_) (fun h => iteF ?_)⟩)⟩
    · have hpa : pa.1 = ("thing" : Str) := V.str.inj (of_decide_eq_true h)
      obtain ⟨q0, q1⟩ := ok.t pa (List.mem_of_getElem? e1) hpa
      obtain ⟨m, hm⟩ := Int.eq_ofNat_of_zero_le q0
      have hml : m < ths.length := by omega
      have hkk := List.getElem?_eq_getElem hml
      obtain ⟨tv2, th2, hT2, hth2, sth2⟩ := hG.get hkk
      have hat2 : atI tv2 pa.2 = some (.ref th2) := by rw [hm]; exact atI_nat hth2
      refine ⟨_, rfl, Or.inr (Or.inl ⟨t, _, _, .ref T, rfl, rfl, hT, rfl, _, rfl, Or.inr (Or.inl ⟨ta, _, _, .int pa.2, rfl, rfl, hta, rfl, Or.inl ⟨T, tv2, _, .ref th2, rfl, rfl, hT2, hat2, Or.inr (Or.inl ⟨th2, _, _, .str ths[m].1, rfl, rfl, sth2, rfl, rfl, _, rfl, ite2 (fun h => ?_) (fun h => ?_)⟩)⟩⟩)⟩)⟩
      · have hk1 : ths[m].1 = ("part" : Str) := V.str.inj (of_decide_eq_true h)
        refine ⟨_, rfl, Or.inr (Or.inl ⟨t, _, _, .ref T, rfl, rfl, hT, rfl, _, rfl, Or.inr (Or.inl ⟨ta, _, _, .int pa.2, rfl, rfl, hta, rfl, Or.inl ⟨T, tv2, _, .ref th2, rfl, rfl, hT2, hat2, Or.inr (Or.inl ⟨th2, _, _, .int ths[m].2, rfl, rfl, sth2, rfl, two_le, fun r hr => ?_⟩)⟩⟩)⟩)⟩
        rw [sortV_part e1 hpa hm hkk hk1] at q
        exact q r _ hr (same_new hr) upd_same
      · have hk1 : ths[m].1 ≠ ("part" : Str) := fun z => h (decide_eq_true (by rw [z]))
        refine ⟨two_le, fun r hr => ?_⟩
        rw [sortV_none e1 hpa hm hkk hk1] at q
        exact q r _ hr (same_new hr) upd_same
    · have hpa : pa.1 ≠ ("thing" : Str) := fun z => h (decide_eq_true (by rw [z]))
      refine ⟨two_le, fun r hr => ?_⟩
      rw [sortV_no e1 hpa] at q
      exact q r _ hr (same_new hr) upd_same
variable (P w K mg base) in
abbrev C__law_inside : Prop := Callee P w K mg base "_law_inside" 1 ["_law_net", "_law_answers_here", "_law_number"] (sp__law_inside K)
theorem call__law_inside (B : Blt mg) (F : Fun K "_law_inside" "_law_inside" s__law_inside f fd) (hm : mg "_law_inside" = some (.ref f)) : C__law_inside P w K mg base :=
  ⟨f, fd, ok__law_inside B  F, hm, F.kp, F.binds fun _ _ _ _ _ _ us hl => (by obtain ⟨x0, x1, x2, rfl⟩ := len_3 hl; rfl)⟩
def sp__law_goal (K : PySem.W.Frag) : Sp := fun vs H Q _ => ∃ (t S T R A st : Addr) (ths : List (Str × Int)) (as : List (Option (Str × Int))) (p : Stp), vs = [.ref t, .ref A, .ref st] ∧ SqT K H t [.ref S, .ref T, .ref R] ∧ Goes K H T ths ∧ Ans K H A as ∧ NetOk ths as ∧ SqT K H st (stpV p) ∧ (p.2.1 ≠ ("to" : Str) → 0 ≤ p.2.2 ∧ p.2.2 < as.length) ∧
  ∀ (r : Addr) (H' : Hp), H r = none → Same H H' → H' r = some (.tup [.str (goalV ths as p).1, .int (goalV ths as p).2]) → Q (.ref r) H'
theorem ok__law_goal (B : Blt mg) (c__law_inside : C__law_inside P w K mg base) (F : Fun K "_law_goal" "_law_goal" s__law_goal f fd) : FnOk P w K mg base CX0 2 f fd ["_law_net", "_law_answers_here", "_law_step"] (sp__law_goal K) := by
  refine F.ok sc__law_goal (fun vs H Q E h => ?_) (fun cdv A outer s H vs Q E hr h => ?_)
  · obtain ⟨t, S, T, R, A, st, ths, as, p, rfl, _⟩ := h
    rfl
  · obtain ⟨t, S, T, R, A, st, ths, as, p, rfl, hT, hG, hA, ok, hst, hp, q⟩ := h
    refine ⟨_, (pss_cons (ps_if (pt_cmpR op_eq (pe_ix ix_seq (pv 2) pe_int (fun _ _ => rfl)) pe_str (nomark _)) (pss_one (ps_ret (pe_tup (pa_cons pe_str (pa_cons (pe_ix ix_seq (pv 2) pe_int (fun _ _ => rfl)) pa_nil))))) pss_nil)
      (pss_cons (ps_set (i := 3) sc__law_goal.nd rfl (Or.inl rfl) (pe_ix ix_seq (pv 1) (pe_ix ix_seq (pv 2) pe_int (fun _ _ => rfl)) (fun _ _ => rfl)))
      (pss_cons (ps_if (pt_cmp (pc_isN (pv 3))) (pss_one (ps_ret (pe_tup (pa_cons pe_str (pa_cons (pe_ix ix_seq (pv 2) pe_int (fun _ _ => rfl)) pa_nil))))) pss_nil)
      (pss_cons (ps_if (pt_cmpR op_eq (pe_ix ix_seq (pv 3) pe_int (fun _ _ => rfl)) pe_str (nomark _)) (pss_one (ps_ret (pe_fn c__law_inside (hr.mono (by decide)) rfl (pa_cons (pv 0) (pa_cons (pv 1) (pa_cons (pe_ix ix_seq (pv 3) pe_int (fun _ _ => rfl)) pa_nil)))))) pss_nil)
      (pss_one (ps_ret (pe_tup (pa_cons pe_str (pa_cons pe_int pa_nil))))))))), ?_⟩
    refine ⟨_, rfl, Or.inr (Or.inl ⟨st, _, _, .str p.2.1, rfl, rfl, hst, rfl, rfl, _, rfl, ite2 (fun h => ?_) (fun h => ?_)⟩)⟩
    · have h1 : p.2.1 = ("to" : Str) := V.str.inj (of_decide_eq_true h)
      refine ⟨_, rfl, Or.inr (Or.inl ⟨st, _, _, .int p.2.2, rfl, rfl, hst, rfl, two_le, fun r hr => ?_⟩)⟩
      rw [goalV_to h1] at q
      exact q r _ hr (same_new hr) upd_same
    have h1 : p.2.1 ≠ ("to" : Str) := fun z => h (decide_eq_true (by rw [z]))
    obtain ⟨p0, p1⟩ := hp h1
    obtain ⟨n, hn⟩ := Int.eq_ofNat_of_zero_le p0
    obtain ⟨vs, v, hA1, hv, hc⟩ := hA.get (k := n) (by omega)
    have hatn : atI vs p.2.2 = some v := by rw [hn]; exact atI_nat hv
    refine ⟨_, rfl, _, rfl, Or.inr (Or.inl ⟨st, _, _, .int p.2.2, rfl, rfl, hst, rfl, Or.inl ⟨A, vs, _, v, rfl, rfl, hA1, hatn, ?_⟩⟩)⟩
    refine g_in ?_
    try dsimp only
    rcases hc with ⟨e1, rfl⟩ | ⟨pa, ta, e1, rfl, hta⟩
    · refine ⟨_, rfl, _, rfl, ite2 (fun _ => ?_) (fun h => absurd (decide_eq_true rfl) h)⟩
      refine ⟨_, rfl, Or.inr (Or.inl ⟨st, _, _, .int p.2.2, rfl, rfl, hst, rfl, two_le, fun r hr => ?_⟩)⟩
      rw [goalV_open h1 hn e1] at q
      exact q r _ hr (same_new hr) upd_same
    refine ⟨_, rfl, _, rfl, ite2 (fun h => absurd (of_decide_eq_true h) (by simp)) (fun _ => ?_)⟩
    refine ⟨_, rfl, Or.inr (Or.inl ⟨ta, _, _, .str pa.1, rfl, rfl, hta, rfl, rfl, _, rfl, ite2 (fun h => ?_) (fun h => ?_)⟩)⟩
    · have hpa : pa.1 = ("thing" : Str) := V.str.inj (of_decide_eq_true h)
      obtain ⟨q0, q1⟩ := ok.t pa (List.mem_of_getElem? e1) hpa
      obtain ⟨m, hm⟩ := Int.eq_ofNat_of_zero_le q0
      have hkk := List.getElem?_eq_getElem (show m < ths.length by omega)
      rw [goalV_in h1 hn e1 hpa hm hkk] at q
      exact ⟨_, rfl, _, rfl, _, rfl, Or.inr (Or.inl ⟨ta, _, _, .int pa.2, rfl, rfl, hta, rfl, t, S, T, R, A, ths, as, pa.2, m, _, rfl, hm, hkk, hT, hG, hA, ok, q⟩)⟩
    · have hpa : pa.1 ≠ ("thing" : Str) := fun z => h (decide_eq_true (by rw [z]))
      refine ⟨two_le, fun r hr => ?_⟩
      rw [goalV_no h1 hn e1 hpa] at q
      exact q r _ hr (same_new hr) upd_same
variable (P w K mg base) in
abbrev C__law_goal : Prop := Callee P w K mg base "_law_goal" 2 ["_law_net", "_law_answers_here", "_law_step"] (sp__law_goal K)
theorem call__law_goal (B : Blt mg) (c__law_inside : C__law_inside P w K mg base) (F : Fun K "_law_goal" "_law_goal" s__law_goal f fd) (hm : mg "_law_goal" = some (.ref f)) : C__law_goal P w K mg base :=
  ⟨f, fd, ok__law_goal B c__law_inside F, hm, F.kp, F.binds fun _ _ _ _ _ _ us hl => (by obtain ⟨x0, x1, x2, rfl⟩ := len_3 hl; rfl)⟩
theorem step_told : ("step" : Str) ≠ ("told" : Str) := by decide +kernel
def sp__law_walk (K : PySem.W.Frag) : Sp := fun vs H Q _ => ∃ (nt A t l : Addr) (ms : List Addr) (W : Wd) (sc st : Int) (b : Beg), vs = [.ref nt, .ref A, .ref t, .int sc, .int st, .ref l] ∧ CaseH K H nt A t W ∧ WOk W ∧ (0 ≤ sc ∧ sc < W.ss.length) ∧ (0 ≤ st ∧ st < W.sts.length) ∧ IsBeg W sc st b ∧ H l = some (.lst (ms.map V.ref)) ∧ RT mkV H ms b.1 ∧
  ∀ (r : Addr) (H' : Hp), Same H H' → H' r = some (.tup [.int b.2.1, .int b.2.2]) → Q (.ref r) H'
theorem ok__law_walk (B : Blt mg) (c__law_is_mark : C__law_is_mark P w K mg base) (c__law_next : C__law_next P w K mg base) (c__law_goal : C__law_goal P w K mg base) (F : Fun K "_law_walk" "_law_walk" s__law_walk f fd) : FnOk P w K mg base CX0 3 f fd ["_law_net", "_law_answers_here", "_law_table_here", "_law_scope", "_law_state", "_law_marks"] (sp__law_walk K) := by
  refine F.ok sc__law_walk (fun vs H Q E h => ?_) (fun cdv A outer s H vs Q E hr h => ?_)
  · obtain ⟨nt, A, t, l, ms, W, sc, st, b, rfl, _⟩ := h
    rfl
  · obtain ⟨nt, A, t, l, ms, W, sc, st, b, rfl, hC, ok, hsc, hst, ib, el, hms, q⟩ := h
    obtain ⟨S, T, R, us, Gs, Es, ts, qt, qs, eN, N3⟩ := hC.net
    obtain ⟨a, o, inn, b1, tv, b2, b3⟩ := hC.tab
    have hml : b.1.length + 1 ≤ 5 := by
      have h := ib.ok ok hsc hst
      have := nodup_rng W.ss.length (been b) h.nd h.rng
      rw [show (been b).length = b.1.length + 1 by unfold been; simp] at this
      have := ok.s5
      omega
    refine ⟨_, (pss_cons (ps_set (i := 6) sc__law_walk.nd rfl (Or.inl rfl) (pe_lst (pa_cons (pv 3) pa_nil)))
      (pss_cons (ps_for PassesOwn.never rfl (pi_list (pv 5)) (pg_name (i := 7) sc__law_walk.nd rfl (Or.inl rfl)) (pss_cons (ps_if (PW.pt (pw_or (pt_not (pt_val (pe_fn c__law_is_mark (hr.mono (by decide)) rfl (pa_cons (pv 7) (pa_cons pe_str (pa_cons (pv 0) pa_nil)))))) (pw_or1 (pt_cmpR op_ne (pe_ix ix_seq (pv 7) pe_int (fun _ _ => rfl)) (pe_ix ix_seq (pv 6) (pe_un un_neg pe_int) (fun _ _ => rfl)) (nomark _))))) (pss_one (ps_ret pe_non)) pss_nil)
        (pss_cons (ps_set (i := 8) sc__law_walk.nd rfl (Or.inl rfl) (pe_ix ix_seq (pe_ix ix_seq (pe_ix ix_seq (pe_ix ix_seq (pv 0) pe_int (fun _ _ => rfl)) (pe_ix ix_seq (pv 7) pe_int (fun _ _ => rfl)) (fun _ _ => rfl)) pe_int (fun _ _ => rfl)) (pe_ix ix_seq (pv 7) pe_int (fun _ _ => rfl)) (fun _ _ => rfl)))
        (pss_cons (ps_set (i := 4) sc__law_walk.nd rfl (Or.inl rfl) (pe_fn c__law_next (hr.mono (by decide)) rfl (pa_cons (pv 2) (pa_cons (pv 4) (pa_cons (pe_ix ix_seq (pv 8) pe_int (fun _ _ => rfl)) pa_nil)))))
        (pss_cons (ps_set (i := 9) sc__law_walk.nd rfl (Or.inl rfl) (pe_fn c__law_goal (hr.mono (by decide)) rfl (pa_cons (pv 0) (pa_cons (pv 1) (pa_cons (pv 8) pa_nil)))))
        (pss_cons (ps_if (PW.pt (pw_or (pt_cmp (pc_isN (pv 4))) (pw_or (pt_cmpR op_ne (pe_ix ix_seq (pv 9) pe_int (fun _ _ => rfl)) pe_str (nomark _)) (pw_or1 (pt_cmpR (op_inD hr.units) (pe_ix ix_seq (pv 9) pe_int (fun _ _ => rfl)) (pv 6) (by with_unfolding_all rfl)))))) (pss_one (ps_ret pe_non)) pss_nil)
        (pss_one (ps_expr (pe_bm PySem.F.plainAttrs_list PySem.F.slot_list_append PySem.F.type_list_append mr_append (pv 6) (pa_cons (pe_ix ix_seq (pv 9) pe_int (fun _ _ => rfl)) pa_nil))))))))))
      (pss_one (ps_ret (pe_tup (pa_cons (pe_ix ix_seq (pv 6) (pe_un un_neg pe_int) (fun _ _ => rfl)) (pa_cons (pv 4) pa_nil))))))), ?_⟩
    refine ⟨_, rfl, one_le, fun B hB => ?_⟩
    obtain ⟨H1, qH1, s1, eB1⟩ := new_at (o := .lst [.int sc]) hB
    rw [← qH1]
    have nlB : l ≠ B := ne_of_none el hB
    have upK : ∀ {H' : Hp}, Keeps (· = B) H1 H' → Same H H' := fun k x o e => k.at_ _ _ (s1 _ _ e) (ne_of_none e hB)
    refine ⟨_, rfl, l, rfl, ⟨_, SqL.of (s1 _ _ el)⟩, for_list (xs := ms.map V.ref) (fun i σ H' => ∃ u7 u8 u9 c, σ = [some (.ref nt), some (.ref A), some (.ref t), some (.int sc), some (.int c.2.2), some (.ref l), some (.ref B), u7, u8, u9] ∧ Keeps (· = B) H1 H' ∧ H' B = some (.lst ((been c).map V.int)) ∧ IsBeg W sc st c ∧ c.1 = b.1.take i)
      ⟨none, none, none, ([], sc, st), rfl, Keeps.refl fun x o m e => by rw [m, eB1] at e; exact ⟨_, (Option.some.inj e).symm⟩, eB1, .root, by rw [List.take_zero]⟩ (fun i σ H' _ ⟨_, _, _, _, _, k, _⟩ => SqL.of (upK k _ _ el)) ?_ ?_⟩
    rotate_left
    · rintro σ H2 ⟨u7, u8, u9, c, rfl, k2, eB2, ic, ec⟩
      rw [List.length_map, hms.len, List.take_length] at ec
      have := ic.uniq ib ec
      subst this
      refine ⟨_, rfl, _, rfl, Or.inl ⟨B, _, _, .int c.2.1, rfl, rfl, SqL.of eB2, been_last c, _, rfl, two_le, fun r hr => ?_⟩⟩
      exact q r _ ((upK k2).trans (same_new hr)) upd_same
    rintro i x σ H2 hx ⟨u7, u8, u9, c, rfl, k2, eB2, ic, ec⟩
    obtain ⟨tm, htm, rfl⟩ := getm hx
    have hil : i < b.1.length := by rw [← hms.len]; exact (List.getElem?_eq_some_iff.mp htm).1
    obtain ⟨c', r, ic', ec', hr, h1, h2, hbi, etk⟩ := ib.next hil
    have := ic.uniq ic' (ec.trans ec'.symm)
    subst this
    have etm := hms.at_ i tm _ htm hbi
    have s2 := upK k2
    have hok := ic.ok ok hsc hst
    have hkid := mem_kids.mpr ⟨r, hr, h1, h2, rfl⟩
    have ik : IsBeg W sc st (c.1 ++ [r.1], r.2.1.2, r.2.2) := .kid ic hkid
    have ebk := been_kid hr
    obtain ⟨j, p, af, g1, g2, er⟩ := gone_of hr
    subst er
    have hcs := hok.rng c.2.1 (by unfold been; simp)
    have hct := hok.st
    obtain ⟨n, hn⟩ := Int.eq_ofNat_of_zero_le hcs.1
    obtain ⟨k, hk⟩ := Int.eq_ofNat_of_zero_le hct.1
    have hnl : n < W.ss.length := by omega
    have hkl : k < W.sts.length := by omega
    obtain ⟨u, G, E1, f1, f2, f3, f4, ⟨c0, ⟨tG, c1, c2⟩, _⟩⟩ := N3.sc.get hnl
    have hks := List.getElem?_eq_getElem hkl
    have eS : stepsOf W c.2.1 = W.ss[n].1 := by unfold stepsOf; rw [hn, Int.toNat_natCast, f4]
    have eG : goesOf W c.2.2 = W.sts[k].1 := by unfold goesOf; rw [hk, Int.toNat_natCast, hks]
    rw [eS] at g1
    have hjl : j < W.ss[n].1.length := (List.getElem?_eq_some_iff.mp g1).1
    have mp := List.mem_of_getElem? g1
    have hjt : tG[j]? = some (tG[j]'(by rw [c2.len]; exact hjl)) := List.getElem?_eq_getElem _
    generalize tG[j]'(by rw [c2.len]; exact hjl) = tp at hjt
    have etp := c2.at_ j tp p hjt g1
    have hatn : atI (us.map V.ref) c.2.1 = some (.ref u) := by rw [hn]; exact atI_nat (by rw [List.getElem?_map, f1]; rfl)
    have hatj : atI (tG.map V.ref) (j : Int) = some (.ref tp) := atI_nat (by rw [List.getElem?_map, hjt]; rfl)
    have hTm := SqT.of (K := K) (s2 _ _ etm)
    have hN := SqT.of (K := K) (s2 _ _ eN)
    have hS := SqL.of (K := K) (s2 _ _ N3.sc.top)
    refine ⟨_, rfl, _, rfl, tm, nt, S, T, R, us, Gs, Es, W.ss, (c.2.1, ("step" : Str), (j : Int)), n, _, rfl, hTm, hN, N3.sc.same s2, hn, f4, by show (0 : Int) ≤ (j : Int); omega, fun e => absurd e step_told, fun _ => by show (j : Int) < _; omega, _, rfl, iteF ?_⟩
    refine ⟨_, rfl, Or.inr (Or.inl ⟨tm, _, _, .int c.2.1, rfl, rfl, hTm, rfl, _, rfl, _, rfl, Or.inl ⟨B, _, _, .int c.2.1, rfl, rfl, SqL.of eB2, been_last c, rfl, _, rfl, iteNS rfl ?_⟩⟩)⟩
    refine ⟨_, rfl, Or.inr (Or.inl ⟨nt, _, _, .ref S, rfl, rfl, hN, rfl, _, rfl, Or.inr (Or.inl ⟨tm, _, _, .int c.2.1, rfl, rfl, hTm, rfl, Or.inl ⟨S, _, _, .ref u, rfl, rfl, hS, hatn, Or.inr (Or.inl ⟨u, _, _, .ref G, rfl, rfl, SqT.of (s2 _ _ c0), rfl, _, rfl, Or.inr (Or.inl ⟨tm, _, _, .int j, rfl, rfl, hTm, rfl, Or.inl ⟨G, _, _, .ref tp, rfl, rfl, SqL.of (s2 _ _ c1), hatj, ?_⟩⟩)⟩)⟩⟩)⟩)⟩
    refine g_in ?_
    try dsimp only
    refine ⟨_, rfl, _, rfl, _, rfl, Or.inr (Or.inl ⟨tp, _, _, .str p.1, rfl, rfl, SqT.of (s2 _ _ etp), rfl, t, a, o, inn, W.sts, c.2.2, k, _, p.1, rfl, hk, s2.seqT b1, ⟨tv, s2.seq b2, b3.same s2⟩, hks, ?_⟩)⟩
    rw [← eG, g2]
    refine g_in ?_
    try dsimp only
    refine ⟨_, rfl, _, rfl, _, rfl, nt, S, T, R, A, tp, W.gs, W.as, p, rfl, hN, ⟨_, SqL.of (s2 _ _ N3.et), (N3.tg.same s2).dts⟩, hC.ans.same s2, ok.net, SqT.of (s2 _ _ etp), fun e => ok.by_ (List.getElem_mem hnl) mp e, fun w H3 hw s3 ew => ?_⟩
    refine g_in ?_
    try dsimp only
    have hw3 := SqT.of (K := K) ew
    have eB3 := s3 _ _ eB2
    refine ⟨_, rfl, _, rfl, ite2 (fun h => absurd (of_decide_eq_true h) (by simp [onV])) (fun _ => ?_)⟩
    refine ⟨_, rfl, Or.inr (Or.inl ⟨w, _, _, .str (goalV W.gs W.as p).1, rfl, rfl, hw3, rfl, rfl, _, rfl, iteNS (by rw [show (goalV W.gs W.as p).1 = ("to" : Str) from h1]) ?_⟩)⟩
    refine ⟨_, rfl, Or.inr (Or.inl ⟨w, _, _, .int (goalV W.gs W.as p).2, rfl, rfl, hw3, rfl, _, rfl, 2, .int (goalV W.gs W.as p).2, (been c).map Dt.int, B, _, fun d hd => ?_, by decide, .int _, rfl, SqL.of eB3, ints_dts _, _, rfl, ?_⟩)⟩
    · obtain ⟨y, _, rfl⟩ := List.mem_map.mp hd
      exact .int _ _
    rw [dec_false fun z => h2 (ints_in.mp z)]
    refine iteF ?_
    refine ⟨_, rfl, Or.inl ⟨rfl, _, SqL.of eB3⟩, _, rfl, Or.inr (Or.inl ⟨w, _, _, .int (goalV W.gs W.as p).2, rfl, rfl, hw3, rfl, B, _, _, rfl, rfl, eB3, ?_, ?_⟩)⟩
    · rw [List.length_map, show (been c).length = c.1.length + 1 by unfold been; simp, ec, List.length_take]
      exact small1000 (by omega)
    refine ⟨_, _, _, (c.1 ++ [(c.2.1, ("step" : Str), (j : Int))], (goalV W.gs W.as p).2, af), rfl, (k2.same s3).set rfl, ?_, ik, etk.symm⟩
    rw [upd_same, ebk, List.map_append]
    rfl
variable (P w K mg base) in
abbrev C__law_walk : Prop := Callee P w K mg base "_law_walk" 3 ["_law_net", "_law_answers_here", "_law_table_here", "_law_scope", "_law_state", "_law_marks"] (sp__law_walk K)
theorem call__law_walk (B : Blt mg) (c__law_is_mark : C__law_is_mark P w K mg base) (c__law_next : C__law_next P w K mg base) (c__law_goal : C__law_goal P w K mg base) (F : Fun K "_law_walk" "_law_walk" s__law_walk f fd) (hm : mg "_law_walk" = some (.ref f)) : C__law_walk P w K mg base :=
  ⟨f, fd, ok__law_walk B c__law_is_mark c__law_next c__law_goal F, hm, F.kp, F.binds fun _ _ _ _ _ _ us hl => (by obtain ⟨x0, x1, x2, x3, x4, x5, rfl⟩ := len_6 hl; rfl)⟩
theorem told_told : ("told" : Str) = ("told" : Str) := rfl
def sp__law_good (K : PySem.W.Frag) : Sp := fun vs H Q _ => ∃ (nt A t lk l : Addr) (x : Str) (F : Addr → Prop) (W : Wd) (sc st : Int) (b : Beg) (j : Nat) (q : Tlg), vs = [.ref nt, .ref A, .ref t, .ref lk, .str x, .ref l] ∧ CaseH K H nt A t W ∧ WOk W ∧ (0 ≤ sc ∧ sc < W.ss.length) ∧ (0 ≤ st ∧ st < W.sts.length) ∧ SqT K H lk [.int sc, .int st] ∧ IsBeg W sc st b ∧ (tellsOf W b.2.1)[j]? = some q ∧ q.2.1 = x ∧ q.1 ∈ endsOf W b.2.2 ∧ WyH F H l (b.1 ++ [(b.2.1, ("told" : Str), (j : Int))]) ∧ ∀ H', Same H H' → Q (.bl true) H'
theorem ok__law_good (B : Blt mg) (c__law_is_mark : C__law_is_mark P w K mg base) (c__law_walk : C__law_walk P w K mg base) (F : Fun K "_law_good" "_law_good" s__law_good f fd) : FnOk P w K mg base CX0 4 f fd ["_law_net", "_law_answers_here", "_law_table_here", "_law_look", "_law_name", "_law_way"] (sp__law_good K) := by
  refine F.ok sc__law_good (fun vs H Q E h => ?_) (fun cdv A outer s H vs Q E hr h => ?_)
  · obtain ⟨nt, A, t, lk, l, x, F, W, sc, st, b, j, q, rfl, _⟩ := h
    rfl
  · obtain ⟨nt, A, t, lk, l, x, F, W, sc, st, b, j, qt', rfl, hC, ok, hsc, hst, hlk, ib, htl, hx, hen, ⟨ms, el, hms, _⟩, q⟩ := h
    obtain ⟨S, T, R, us, Gs, Es, ts, qt, qs, eN, N3⟩ := hC.net
    obtain ⟨a, o, inn, b1, tv, b2, b3⟩ := hC.tab
    have hbz := ib.ok ok hsc hst
    have hs' := hbz.rng b.2.1 (by unfold been; simp)
    have ht' := hbz.st
    obtain ⟨n, hn⟩ := Int.eq_ofNat_of_zero_le hs'.1
    obtain ⟨k, hk⟩ := Int.eq_ofNat_of_zero_le ht'.1
    have hnl : n < W.ss.length := by omega
    have hkl : k < W.sts.length := by omega
    obtain ⟨u, G, E1, g1, g2, g3, g4, ⟨c0, _, ⟨tE, c1, c2⟩⟩⟩ := N3.sc.get hnl
    have hks := List.getElem?_eq_getElem hkl
    have eT : tellsOf W b.2.1 = W.ss[n].2 := by unfold tellsOf; rw [hn, Int.toNat_natCast, g4]
    have eE : endsOf W b.2.2 = W.sts[k].2 := by unfold endsOf; rw [hk, Int.toNat_natCast, hks]
    rw [eT] at htl
    rw [eE] at hen
    have hjl : j < W.ss[n].2.length := (List.getElem?_eq_some_iff.mp htl).1
    have hjt : tE[j]? = some (tE[j]'(by rw [c2.len]; exact hjl)) := List.getElem?_eq_getElem _
    generalize tE[j]'(by rw [c2.len]; exact hjl) = tp at hjt
    have etp := c2.at_ j tp qt' hjt htl
    have hatn : atI (us.map V.ref) b.2.1 = some (.ref u) := by rw [hn]; exact atI_nat (by rw [List.getElem?_map, g1]; rfl)
    have hatj : atI (tE.map V.ref) (j : Int) = some (.ref tp) := atI_nat (by rw [List.getElem?_map, hjt]; rfl)
    have lms := hms.len
    rw [List.length_append, List.length_singleton] at lms
    obtain ⟨m0, tm, rfl⟩ : ∃ m0 tm, ms = m0 ++ [tm] := by
      rcases List.eq_nil_or_concat ms with h | ⟨m0, tm, h⟩
      · rw [h] at lms; simp at lms
      · exact ⟨m0, tm, by simpa using h⟩
    rw [List.length_append, List.length_singleton] at lms
    have l0 : m0.length = b.1.length := by omega
    have hml : b.1.length + 1 ≤ 5 := by
      have := nodup_rng W.ss.length (been b) hbz.nd hbz.rng
      rw [show (been b).length = b.1.length + 1 by unfold been; simp] at this
      have := ok.s5
      omega
    have etm : H tm = some (.tup (mkV (b.2.1, ("told" : Str), (j : Int)))) := hms.at_ b.1.length tm _ (by rw [← l0]; simp) (by simp)
    have hm0 : RT mkV H m0 b.1 := ⟨l0, fun i t r h1 h2 => hms.at_ i t r (by rw [List.getElem?_append_left (List.getElem?_eq_some_iff.mp h1).1]; exact h1) (by rw [List.getElem?_append_left (List.getElem?_eq_some_iff.mp h2).1]; exact h2)⟩
    have hlast : atI ((m0 ++ [tm]).map V.ref) (-1) = some (.ref tm) := by rw [List.map_append]; exact atI_lastS _ _
    have hL := SqL.of (K := K) el
    have hTm := SqT.of (K := K) etm
    have hN := SqT.of (K := K) eN
    refine ⟨_, (pss_cons (ps_if (PW.pt (pw_or (pt_not (pt_val (pe_callB call_isi (by rfl) B.b_isinstance (by decide +kernel) (pa_cons (pv 5) (pa_cons (pe_ty "list" rfl B.b_list (by decide +kernel)) pa_nil))))) (pw_or (pt_cmpR (op_eqD hr.units) (pv 5) (pe_lst pa_nil) (nomark _)) (pw_or1 (pt_not (pt_val (pe_fn c__law_is_mark (hr.mono (by decide)) rfl (pa_cons (pe_ix ix_seq (pv 5) (pe_un un_neg pe_int) (fun _ _ => rfl)) (pa_cons pe_str (pa_cons (pv 0) pa_nil)))))))))) (pss_one (ps_ret pe_bl)) pss_nil)
      (pss_cons (ps_set (i := 6) sc__law_good.nd rfl (Or.inl rfl) (pe_fn c__law_walk (hr.mono (by decide)) rfl (pa_cons (pv 0) (pa_cons (pv 1) (pa_cons (pv 2) (pa_cons (pe_ix ix_seq (pv 3) pe_int (fun _ _ => rfl)) (pa_cons (pe_ix ix_seq (pv 3) pe_int (fun _ _ => rfl)) (pa_cons (pe_slice sl_list (pv 5) po_none (po_some (pe_un un_neg pe_int))) pa_nil))))))))
      (pss_cons (ps_if (PW.pt (pw_or (pt_cmp (pc_isN (pv 6))) (pw_or1 (pt_cmpR op_ne (pe_ix ix_seq (pv 6) pe_int (fun _ _ => rfl)) (pe_ix ix_seq (pe_ix ix_seq (pv 5) (pe_un un_neg pe_int) (fun _ _ => rfl)) pe_int (fun _ _ => rfl)) (nomark _))))) (pss_one (ps_ret pe_bl)) pss_nil)
      (pss_cons (ps_set (i := 7) sc__law_good.nd rfl (Or.inl rfl) (pe_ix ix_seq (pe_ix ix_seq (pe_ix ix_seq (pe_ix ix_seq (pv 0) pe_int (fun _ _ => rfl)) (pe_ix ix_seq (pv 6) pe_int (fun _ _ => rfl)) (fun _ _ => rfl)) pe_int (fun _ _ => rfl)) (pe_ix ix_seq (pe_ix ix_seq (pv 5) (pe_un un_neg pe_int) (fun _ _ => rfl)) pe_int (fun _ _ => rfl)) (fun _ _ => rfl)))
      (pss_one (ps_ret (pe_and (pe_cmpR op_eq (pe_ix ix_seq (pv 7) pe_int (fun _ _ => rfl)) (pv 4) (nomark _)) (pe_one (pe_cmpR (op_inD hr.units) (pe_ix ix_seq (pv 7) pe_int (fun _ _ => rfl)) (pe_ix ix_seq (pe_ix ix_seq (pe_ix ix_seq (pv 2) pe_int (fun _ _ => rfl)) (pe_ix ix_seq (pv 6) pe_int (fun _ _ => rfl)) (fun _ _ => rfl)) pe_int (fun _ _ => rfl)) (by with_unfolding_all rfl)))))))))), ?_⟩
    refine ⟨_, rfl, _, .lst, .lst, rfl, .lst hL, _, rfl, iteF ?_⟩
    refine ⟨_, rfl, by decide, fun e0 he0 => ?_⟩
    obtain ⟨H1, qH1, s1, ee0⟩ := new_at (o := .lst []) he0
    rw [← qH1]
    have hw : WyH (fun _ => True) H l (b.1 ++ [(b.2.1, ("told" : Str), (j : Int))]) := ⟨_, el, hms, trivial⟩
    refine ⟨3, wayE.D (b.1 ++ [(b.2.1, ("told" : Str), (j : Int))]), Dt.lst [], .lst (.nil' _), by decide, (hw.same s1).dt, .lst (SqL.of ee0) .nil, _, rfl, ?_⟩
    rw [dec_false (fun z => by
      have z := Dt.lst.inj z
      have := congrArg List.length z
      simp at this)]
    refine iteF ?_
    refine ⟨_, rfl, _, rfl, Or.inl ⟨l, _, _, .ref tm, rfl, rfl, s1.seq hL, hlast, _, rfl, tm, nt, S, T, R, us, Gs, Es, W.ss, (b.2.1, ("told" : Str), (j : Int)), n, _, rfl, s1.seqT hTm, s1.seqT hN, N3.sc.same s1, hn, g4, by show (0 : Int) ≤ (j : Int); omega, fun _ => by show (j : Int) < _; omega, fun e => absurd rfl e, _, rfl, iteF ?_⟩⟩
    refine ⟨_, rfl, _, rfl, _, rfl, _, rfl, Or.inr (Or.inl ⟨lk, _, _, .int sc, rfl, rfl, s1.seqT hlk, rfl, _, rfl, Or.inr (Or.inl ⟨lk, _, _, .int st, rfl, rfl, s1.seqT hlk, rfl, _, rfl, _, rfl, _, rfl, l, _, rfl, s1.seq hL, fun P hP => ?_⟩)⟩)⟩
    rw [cutV_init, List.map_append]
    rw [show (m0.map V.ref ++ [tm].map V.ref).dropLast = m0.map V.ref by simp]
    obtain ⟨H2, qH2, s2, eP⟩ := new_at (o := .lst (m0.map V.ref)) hP
    rw [← qH2]
    have s02 := s1.trans s2
    refine ⟨nt, A, t, P, m0, W, sc, st, b, rfl, hC.same s02, ok, hsc, hst, ib, eP, hm0.same s02, fun r H3 s3 er => ?_⟩
    refine g_in ?_
    try dsimp only
    have s03 := s02.trans s3
    have hr := SqT.of (K := K) er
    have hL3 := s03.seq hL
    have hTm3 := s03.seqT hTm
    refine ⟨_, rfl, _, rfl, ite2 (fun h => absurd (of_decide_eq_true h) (by simp)) (fun _ => ?_)⟩
    refine ⟨_, rfl, Or.inr (Or.inl ⟨r, _, _, .int b.2.1, rfl, rfl, hr, rfl, _, rfl, _, rfl, Or.inl ⟨l, _, _, .ref tm, rfl, rfl, hL3, hlast, Or.inr (Or.inl ⟨tm, _, _, .int b.2.1, rfl, rfl, hTm3, rfl, rfl, _, rfl, iteNS rfl ?_⟩)⟩⟩)⟩
    refine ⟨_, rfl, Or.inr (Or.inl ⟨nt, _, _, .ref S, rfl, rfl, s03.seqT hN, rfl, _, rfl, Or.inr (Or.inl ⟨r, _, _, .int b.2.1, rfl, rfl, hr, rfl, Or.inl ⟨S, _, _, .ref u, rfl, rfl, SqL.of (s03 _ _ N3.sc.top), hatn, Or.inr (Or.inl ⟨u, _, _, .ref E1, rfl, rfl, SqT.of (s03 _ _ c0), rfl, _, rfl, _, rfl, Or.inl ⟨l, _, _, .ref tm, rfl, rfl, hL3, hlast, Or.inr (Or.inl ⟨tm, _, _, .int j, rfl, rfl, hTm3, rfl, Or.inl ⟨E1, _, _, .ref tp, rfl, rfl, SqL.of (s03 _ _ c1), hatj, ?_⟩⟩)⟩⟩)⟩⟩)⟩)⟩
    refine g_in ?_
    try dsimp only
    have htp := SqT.of (K := K) (s03 _ _ etp)
    refine ⟨_, rfl, Or.inr (Or.inl ⟨tp, _, _, .str qt'.2.1, rfl, rfl, htp, rfl, _, rfl, rfl, _, rfl, ?_⟩)⟩
    rw [decide_eq_true (show V.str qt'.2.1 = V.str x by rw [hx])]
    refine iteT ?_
    obtain ⟨v, hv, hvs⟩ := (b3.same s03).get' (i := k) (d := stD W.sts[k]) (by rw [List.getElem?_map, hks]; rfl)
    obtain ⟨sv, gv, ev, rfl, hsv, _, hev⟩ := st_at hvs
    have hatk : atI tv b.2.2 = some (.ref sv) := by rw [hk]; exact atI_nat hv
    refine ⟨_, rfl, Or.inr (Or.inl ⟨tp, _, _, .str qt'.1, rfl, rfl, htp, rfl, _, rfl, Or.inr (Or.inl ⟨t, _, _, .ref a, rfl, rfl, s03.seqT b1, rfl, _, rfl, Or.inr (Or.inl ⟨r, _, _, .int b.2.2, rfl, rfl, hr, rfl, Or.inl ⟨a, tv, _, .ref sv, rfl, rfl, s03.seq b2, hatk, Or.inr (Or.inl ⟨sv, _, _, .ref ev, rfl, rfl, hsv, rfl, 2, .str qt'.1, W.sts[k].2.map Dt.str, ev, _, fun d hd => ?_, by decide, .str _, rfl, hev, IsDts.strs _, ?_⟩)⟩⟩)⟩)⟩)⟩
    · obtain ⟨y, _, rfl⟩ := List.mem_map.mp hd
      exact .str _ _
    rw [dec_true (List.mem_map.mpr ⟨_, hen, rfl⟩)]
    exact q H3 s03
variable (P w K mg base) in
abbrev C__law_good : Prop := Callee P w K mg base "_law_good" 4 ["_law_net", "_law_answers_here", "_law_table_here", "_law_look", "_law_name", "_law_way"] (sp__law_good K)
theorem call__law_good (B : Blt mg) (c__law_is_mark : C__law_is_mark P w K mg base) (c__law_walk : C__law_walk P w K mg base) (F : Fun K "_law_good" "_law_good" s__law_good f fd) (hm : mg "_law_good" = some (.ref f)) : C__law_good P w K mg base :=
  ⟨f, fd, ok__law_good B c__law_is_mark c__law_walk F, hm, F.kp, F.binds fun _ _ _ _ _ _ us hl => (by obtain ⟨x0, x1, x2, x3, x4, x5, rfl⟩ := len_6 hl; rfl)⟩
theorem du_ends {W : Wd} {k : Nat} {s : Stt} (h : W.sts[k]? = some s) : endsOf W (k : Int) = s.2 := by unfold endsOf; rw [Int.toNat_natCast, h]
theorem du_tells {W : Wd} {k : Nat} {s : Sco} (h : W.ss[k]? = some s) : tellsOf W (k : Int) = s.2 := by unfold tellsOf; rw [Int.toNat_natCast, h]
theorem du_one {W : Wd} {b : Beg} {x : Str} {q : Tlg} {i : Nat} (h1 : q.2.1 = x) (h2 : q.1 ∈ endsOf W b.2.2) : told1 W b x q i = [b.1 ++ [(b.2.1, ("told" : Str), (i : Int))]] := if_pos ⟨h1, h2⟩
theorem du_none {W : Wd} {b : Beg} {x : Str} {q : Tlg} {i : Nat} (h : ¬ (q.2.1 = x ∧ q.1 ∈ endsOf W b.2.2)) : told1 W b x q i = [] := if_neg h
theorem du_take {W : Wd} {x : Str} {bs : List Beg} {i : Nat} {b : Beg} (h : bs[i]? = some b) : foundOf W x (bs.take (i + 1)) = foundOf W x (bs.take i) ++ told0 W b x (tellsOf W b.2.1) 0 := by
  rw [List.take_succ, h]
  show (bs.take i ++ [b]).flatMap _ = _
  rw [List.flatMap_append]
  simp [foundOf]
theorem du_le {W : Wd} {x : Str} {bs : List Beg} (i : Nat) : (foundOf W x (bs.take i)).length ≤ (foundOf W x bs).length := by
  have : foundOf W x bs = foundOf W x (bs.take i) ++ foundOf W x (bs.drop i) := by
    unfold foundOf
    rw [← List.flatMap_append, List.take_append_drop]
  rw [this, List.length_append]
  omega
def sp__law_due (K : PySem.W.Frag) : Sp := fun vs H Q _ => ∃ (nt A t D : Addr) (x : Str) (F : Addr → Prop) (W : Wd) (zs : List (Addr × Beg)), vs = [.ref nt, .ref t, .ref D, .str x] ∧ CaseH K H nt A t W ∧ WOk W ∧ H D = some (.lst (zs.map fun z => V.ref z.1)) ∧ (∀ z ∈ zs, BgH F H z.1 z.2) ∧ (∀ z ∈ zs, BegOk W z.2) ∧ zs.length ≤ capR (bOf W) (W.ss.length - 1) ∧
  ∀ (D2 : Addr) (ws : List (Addr × List Mrk)) (H' : Hp), H D2 = none → Same H H' → H' D2 = some (.lst (ws.map fun z => V.ref z.1)) → (∀ z ∈ ws, WyH (fun l => H l = none ∧ l ≠ D2) H' z.1 z.2) → Fnd W x (zs.map (·.2)) (ws.map (·.2)) → Q (.ref D2) H'
theorem ok__law_due (B : Blt mg) (F : Fun K "_law_due" "_law_due" s__law_due f fd) : FnOk P w K mg base CX0 1 f fd ["_law_net", "_law_table_here", "_law_rows", "_law_name"] (sp__law_due K) := by
  refine F.ok sc__law_due (fun vs H Q E h => ?_) (fun cdv A outer s H vs Q E hr h => ?_)
  · obtain ⟨nt, A, t, D, x, F, W, zs, rfl, _⟩ := h
    rfl
  · obtain ⟨nt, A, t, D, x, F, W, zs, rfl, hC, ok, eD, hz, hbo, hzl, q⟩ := h
    obtain ⟨S, T, R, us, Gs, Es, ts, qt, qs, eN, N3⟩ := hC.net
    obtain ⟨a, o, inn, b1, tv, b2, b3⟩ := hC.tab
    have hfl : (foundOf W x (zs.map (·.2))).length ≤ 62 := found_len ok (by rw [List.length_map]; exact hzl)
    refine ⟨_, (pss_cons (ps_set (i := 4) sc__law_due.nd rfl (Or.inl rfl) (pe_lst pa_nil))
      (pss_cons (ps_for PassesOwn.never rfl (pi_list (pv 2)) (pg_tup rfl (pgs_cons (pg_name (i := 5) sc__law_due.nd rfl (Or.inl rfl)) (pgs_cons (pg_name (i := 6) sc__law_due.nd rfl (Or.inl rfl)) (pgs_cons (pg_name (i := 7) sc__law_due.nd rfl (Or.inl rfl)) pgs_nil)))) (pss_one (ps_for PassesOwn.never rfl (pi_enum rfl B.b_enumerate (pa_cons (pe_ix ix_seq (pe_ix ix_seq (pe_ix ix_seq (pv 0) pe_int (fun _ _ => rfl)) (pv 6) (fun _ _ => rfl)) pe_int (fun _ _ => rfl)) pa_nil)) (pg_tup rfl (pgs_cons (pg_name (i := 8) sc__law_due.nd rfl (Or.inl rfl)) (pgs_cons (pg_name (i := 9) sc__law_due.nd rfl (Or.inl rfl)) pgs_nil))) (pss_one (ps_if (PW.pt (pw_and (pt_cmpR op_eq (pe_ix ix_seq (pv 9) pe_int (fun _ _ => rfl)) (pv 3) (nomark _)) (pw_and1 (pt_cmpR (op_inD hr.units) (pe_ix ix_seq (pv 9) pe_int (fun _ _ => rfl)) (pe_ix ix_seq (pe_ix ix_seq (pe_ix ix_seq (pv 1) pe_int (fun _ _ => rfl)) (pv 7) (fun _ _ => rfl)) pe_int (fun _ _ => rfl)) (by with_unfolding_all rfl))))) (pss_one (ps_expr (pe_bm PySem.F.plainAttrs_list PySem.F.slot_list_append PySem.F.type_list_append mr_append (pv 4) (pa_cons (pe_op op_cat (pv 5) (pe_lst (pa_cons (pe_tup (pa_cons (pv 6) (pa_cons pe_str (pa_cons (pv 8) pa_nil)))) pa_nil))) pa_nil)))) pss_nil)))))
      (pss_one (ps_ret (pe_callB (call_sortL mkE hr.units (by decide)) (by rfl) B.b_sorted (by decide +kernel) (pa_cons (pv 4) pa_nil)))))), ?_⟩
    refine ⟨by decide, fun P hP => ?_⟩
    obtain ⟨H1, qH1, s1, eP1⟩ := new_at (o := .lst []) hP
    rw [← qH1]
    have nDP : D ≠ P := ne_of_none eD hP
    have upK : ∀ {H' : Hp}, Keeps (· = P) H1 H' → Same H H' := fun k x o e => k.at_ _ _ (s1 _ _ e) (ne_of_none e hP)
    refine ⟨_, rfl, D, rfl, ⟨_, SqL.of (s1 _ _ eD)⟩, for_list (xs := zs.map fun z => V.ref z.1) (fun i σ H' => ∃ u5 u6 u7 u8 u9 ws, σ = [some (.ref nt), some (.ref t), some (.ref D), some (.str x), some (.ref P), u5, u6, u7, u8, u9] ∧ Keeps (· = P) H1 H' ∧ H' P = some (.lst (ws.map fun z : Addr × List Mrk => V.ref z.1)) ∧ (∀ z ∈ ws, WyH (fun l => H l = none ∧ l ≠ P) H' z.1 z.2) ∧ ws.map (·.2) = foundOf W x ((zs.map (·.2)).take i))
      ⟨none, none, none, none, none, [], rfl, Keeps.refl fun x o m e => by rw [m, eP1] at e; exact ⟨_, (Option.some.inj e).symm⟩, eP1, fun z hz => by simp at hz, by rw [List.take_zero]; rfl⟩ (fun i σ H' _ ⟨_, _, _, _, _, _, _, k, _⟩ => SqL.of (upK k _ _ eD)) ?_ ?_⟩
    rotate_left
    · rintro σ H2 ⟨u5, u6, u7, u8, u9, ws, rfl, k2, eP2, hw, hm⟩
      rw [List.length_map, ← List.length_map (f := (·.2)), List.take_length] at hm
      have lw : ws.length ≤ 62 := by have := congrArg List.length hm; rw [List.length_map] at this; omega
      refine ⟨_, rfl, P, ws.map fun z => (V.ref z.1, z.2), rfl, ?_, by rw [List.length_map]; omega, fun y hy => ?_, fun D2 zs' hp hs hD2 => ?_⟩
      · rw [List.map_map]; exact SqL.of eP2
      · obtain ⟨z, hz', rfl⟩ := List.mem_map.mp hy
        exact (hw z hz').dt
      obtain ⟨vs, r1, r2, r3, r4⟩ := rows_apart (c := wayE) hp
      have s3 := same_new (o := .lst (zs'.map (·.1))) hD2
      rw [r1] at s3 ⊢
      rw [r2] at hs
      have s02 := upK k2
      refine q D2 vs _ (s02.free hD2) (s02.trans s3) upd_same (fun z hz' => ?_) ⟨by rw [← hm]; exact r3, hs⟩
      refine ((hw z (r4 z hz')).mono' ?_).same s3
      intro x o ex hx
      exact ⟨hx.1, fun y => by rw [y, hD2] at ex; cases ex⟩
    rintro i y σ H2 hy ⟨u5, u6, u7, u8, u9, ws, rfl, k2, eP2, hw, hm⟩
    obtain ⟨z, hzi, rfl⟩ := getm hy
    have mz := List.mem_of_getElem? hzi
    have hbz := hbo z mz
    have s02 := upK k2
    obtain ⟨l, ms, f1, f2, e3, _⟩ := hz z mz
    have e1 := s02 _ _ f1
    have hsc := hbz.rng z.2.2.1 (by unfold been; simp)
    have hst := hbz.st
    obtain ⟨n, hn⟩ := Int.eq_ofNat_of_zero_le hsc.1
    obtain ⟨k, hk⟩ := Int.eq_ofNat_of_zero_le hst.1
    have hnl : n < W.ss.length := by omega
    have hkl : k < W.sts.length := by omega
    obtain ⟨u, G, E1, g1, g2, g3, g4, ⟨c0, _, ⟨tE, c1, c2⟩⟩⟩ := N3.sc.get hnl
    have hks := List.getElem?_eq_getElem hkl
    have eT : tellsOf W z.2.2.1 = W.ss[n].2 := by rw [hn]; exact du_tells g4
    have eE : endsOf W z.2.2.2 = W.sts[k].2 := by rw [hk]; exact du_ends hks
    have hat : atI (us.map V.ref) z.2.2.1 = some (.ref u) := by rw [hn]; exact atI_nat (by rw [List.getElem?_map, g1]; rfl)
    have htk : (zs.map (·.2))[i]? = some z.2 := by rw [List.getElem?_map, hzi]; rfl
    have hml : ms.length ≤ 5 := by
      have := nodup_rng W.ss.length (been z.2) hbz.nd hbz.rng
      rw [show (been z.2).length = z.2.1.length + 1 by unfold been; simp] at this
      have := ok.s5
      rw [e3.len]; omega
    have hle := du_le (W := W) (x := x) (bs := zs.map (·.2)) (i + 1)
    rw [du_take htk, List.length_append] at hle
    refine ⟨z.1, _, rfl, SqT.of e1, rfl, _, _, rfl, _, _, rfl, _, _, rfl, rfl, ?_⟩
    refine ⟨_, rfl, Or.inr (Or.inl ⟨nt, _, _, .ref S, rfl, rfl, SqT.of (s02 _ _ eN), rfl, _, rfl, Or.inl ⟨S, _, _, .ref u, rfl, rfl, SqL.of (s02 _ _ N3.sc.top), hat, Or.inr (Or.inl ⟨u, _, _, .ref E1, rfl, rfl, SqT.of (s02 _ _ c0), rfl, E1, rfl, ⟨_, s02 _ _ c1⟩, ?_⟩)⟩⟩)⟩
    refine for_enum (xs := tE.map V.ref) (fun j σ H' => ∃ u8 u9 ws, σ = [some (.ref nt), some (.ref t), some (.ref D), some (.str x), some (.ref P), some (.ref l), some (.int z.2.2.1), some (.int z.2.2.2), u8, u9] ∧ Keeps (· = P) H1 H' ∧ H' P = some (.lst (ws.map fun z : Addr × List Mrk => V.ref z.1)) ∧ (∀ z ∈ ws, WyH (fun l => H l = none ∧ l ≠ P) H' z.1 z.2) ∧ ws.map (·.2) = foundOf W x ((zs.map (·.2)).take i) ++ told0 W z.2 x ((tellsOf W z.2.2.1).take j) 0)
      ⟨_, _, ws, rfl, k2, eP2, hw, by rw [hm, List.take_zero]; simp [told0]⟩ (fun j σ H' ⟨_, _, _, _, k, _⟩ => SqL.of (upK k _ _ c1)) ?_ ?_
    rotate_left
    · rintro σ H3 ⟨u8, u9, ws, rfl, k3, eP3, hw3, hm3⟩
      refine ⟨_, _, _, _, _, ws, rfl, k3, eP3, hw3, ?_⟩
      rw [du_take htk, hm3, List.length_map, c2.len, eT, List.take_length]
    rintro j y T' σ H3 hy hT' ⟨u8, u9, ws, rfl, k3, eP3, hw3, hm3⟩
    obtain ⟨tp, htp, rfl⟩ := getm hy
    have hjl : j < W.ss[n].2.length := by rw [← c2.len]; exact (List.getElem?_eq_some_iff.mp htp).1
    have hp := List.getElem?_eq_getElem hjl
    have etp := c2.at_ j tp _ htp hp
    generalize W.ss[n].2[j] = p at hp etp
    obtain ⟨H4, qH4, s4, eT'⟩ := new_at (o := .tup [.int j, .ref tp]) hT'
    rw [← qH4]
    have s03 := upK k3
    have s04 := s03.trans s4
    have k4 : Keeps (· = P) H1 H4 := k3.same s4
    have eP4 := s4 _ _ eP3
    have hw4 : ∀ z ∈ ws, WyH (fun l => H l = none ∧ l ≠ P) H4 z.1 z.2 := fun z h => (hw3 z h).same s4
    have htp4 := SqT.of (K := K) (s04 _ _ etp)
    have etk : told0 W z.2 x ((tellsOf W z.2.2.1).take (j + 1)) 0 = told0 W z.2 x ((tellsOf W z.2.2.1).take j) 0 ++ told1 W z.2 x p j := by
      rw [List.take_succ, eT, hp]
      show told0 W z.2 x (W.ss[n].2.take j ++ [p]) 0 = _
      rw [told0_snoc, List.length_take, Nat.zero_add, Nat.min_eq_left (by omega)]
    have skip : ¬ (p.2.1 = x ∧ p.1 ∈ endsOf W z.2.2.2) → ws.map (·.2) = foundOf W x ((zs.map (·.2)).take i) ++ told0 W z.2 x ((tellsOf W z.2.2.1).take (j + 1)) 0 := fun hn => by
      rw [etk, du_none hn, List.append_nil, hm3]
    have lw : ws.length < 100 := by
      have := congrArg List.length hm3
      rw [List.length_map, List.length_append] at this
      have h1 := told0_len W z.2 x ((tellsOf W z.2.2.1).take j) 0
      have h2 := tells_len ok z.2.2.1
      have h3 : tMost W ≤ 3 := by unfold tMost; split <;> omega
      rw [List.length_take] at h1
      omega
    refine ⟨T', _, rfl, SqT.of eT', rfl, _, _, rfl, _, _, rfl, rfl, ?_⟩
    refine ⟨_, rfl, Or.inr (Or.inl ⟨tp, _, _, .str p.2.1, rfl, rfl, htp4, rfl, _, rfl, rfl, _, rfl, ite2 (fun h1 => ?_) (fun h1 => iteF ?_)⟩)⟩
    rotate_left
    · exact ⟨_, _, ws, rfl, k4, eP4, hw4, skip fun h => h1 (decide_eq_true (by rw [h.1]))⟩
    have h1 : p.2.1 = x := V.str.inj (of_decide_eq_true h1)
    obtain ⟨v, hv, hvs⟩ := (b3.same s04).get' (i := k) (d := stD W.sts[k]) (by rw [List.getElem?_map, hks]; rfl)
    obtain ⟨sv, gv, ev, rfl, hsv, _, hev⟩ := st_at hvs
    have hatk : atI tv z.2.2.2 = some (.ref sv) := by rw [hk]; exact atI_nat hv
    have eqd : dec (Dt.str p.1 ∈ W.sts[k].2.map Dt.str) = dec (p.1 ∈ W.sts[k].2) := dec_congr ⟨fun h => by
      obtain ⟨y, hy, z⟩ := List.mem_map.mp h
      rw [← Dt.str.inj z]; exact hy, fun h => List.mem_map.mpr ⟨p.1, h, rfl⟩⟩
    refine ⟨_, rfl, Or.inr (Or.inl ⟨tp, _, _, .str p.1, rfl, rfl, htp4, rfl, _, rfl, Or.inr (Or.inl ⟨t, _, _, .ref a, rfl, rfl, s04.seqT b1, rfl, _, rfl, Or.inl ⟨a, tv, _, .ref sv, rfl, rfl, s04.seq b2, hatk, Or.inr (Or.inl ⟨sv, _, _, .ref ev, rfl, rfl, hsv, rfl, 2, .str p.1, W.sts[k].2.map Dt.str, ev, _, fun d hd => ?_, by decide, .str _, rfl, hev, IsDts.strs _, _, rfl, ite2 (fun h2 => ?_) (fun h2 => ?_)⟩)⟩⟩)⟩)⟩
    · obtain ⟨y, _, rfl⟩ := List.mem_map.mp hd
      exact .str _ _
    rotate_left
    · exact ⟨_, _, ws, rfl, k4, eP4, hw4, skip fun h => h2 (by rw [eqd]; exact dec_true (by rw [← eE]; exact h.2))⟩
    rw [eqd] at h2
    have h2 : p.1 ∈ endsOf W z.2.2.2 := by rw [eE]; exact dec_iff.mp h2
    refine ⟨_, rfl, Or.inl ⟨rfl, _, SqL.of eP4⟩, _, rfl, _, rfl, _, rfl, three_le, fun m hm' => ?_⟩
    obtain ⟨H5, qH5, s5, em⟩ := new_at (o := .tup [.int z.2.2.1, .str "told", .int j]) hm'
    rw [← qH5]
    refine ⟨one_le, fun M hM => ?_⟩
    obtain ⟨H6, qH6, s6, eM⟩ := new_at (o := .lst [.ref m]) hM
    rw [← qH6]
    have s46 := s5.trans s6
    refine ⟨l, M, _, _, rfl, rfl, s46 _ _ (s04 _ _ f2), eM, by rw [List.length_map]; exact Nat.le_of_lt (small1000 (by show ms.length + 1 ≤ 1000; omega)), fun L hL => ?_⟩
    have hLH : H L = none := (s04.trans s46).free hL
    have nLP : L ≠ P := fun y => by rw [y, s46 _ _ eP4] at hL; cases hL
    have s7 := same_new (o := .lst (ms.map V.ref ++ [.ref m])) hL
    have eL : (upd H6 L (.lst (ms.map V.ref ++ [.ref m]))) L = some (.lst ((ms ++ [m]).map V.ref)) := by rw [upd_same, List.map_append]; rfl
    generalize upd H6 L (.lst (ms.map V.ref ++ [.ref m])) = H7 at s7 eL ⊢
    have s47 := s46.trans s7
    have eP7 := s47 _ _ eP4
    have k7 : Keeps (· = P) H7 (upd H7 P (.lst (ws.map (fun z => V.ref z.1) ++ [.ref L]))) := Keeps.one eP7
    refine ⟨P, _, _, rfl, rfl, eP7, by rw [List.length_map]; exact small1000 (by omega), ?_⟩
    refine ⟨_, _, ws ++ [(L, z.2.1 ++ [(z.2.2.1, ("told" : Str), (j : Int))])], rfl, (k4.same s47).set rfl, by rw [upd_same, List.map_append]; rfl, fun y hy => ?_, ?_⟩
    · rcases List.mem_append.mp hy with hy | hy
      · exact ((hw4 y hy).same s47).keeps k7 fun x hx => hx.2
      · rw [List.mem_singleton.mp hy]
        refine ⟨ms ++ [m], k7.at_ _ _ eL nLP, ?_, hLH, nLP⟩
        exact RT.snoc ((e3.same (s04.trans s47)).keeps k7) (k7.tup ((s6.trans s7) _ _ em))
    · rw [etk, du_one h1 h2, List.map_append, hm3, List.append_assoc]; rfl
variable (P w K mg base) in
abbrev C__law_due : Prop := Callee P w K mg base "_law_due" 1 ["_law_net", "_law_table_here", "_law_rows", "_law_name"] (sp__law_due K)
theorem call__law_due (B : Blt mg) (F : Fun K "_law_due" "_law_due" s__law_due f fd) (hm : mg "_law_due" = some (.ref f)) : C__law_due P w K mg base :=
  ⟨f, fd, ok__law_due B  F, hm, F.kp, F.binds fun _ _ _ _ _ _ us hl => (by obtain ⟨x0, x1, x2, x3, rfl⟩ := len_4 hl; rfl)⟩
def sp__law_right (K : PySem.W.Frag) : Sp := fun vs H Q _ => ∃ (H0 : Hp) (nt A t WW lk : Addr) (x : Str) (W : Wd) (qs : List Qu) (inn : Int) (ord : List (Str × Str)) (ls ws : List Str) (sc st : Int), vs = [.ref nt, .ref A, .ref t, .ref lk, .str x] ∧ CaseL K H0 H nt t A WW W qs inn ord ls ws ∧ (0 ≤ sc ∧ sc < W.ss.length) ∧ (0 ≤ st ∧ st < W.sts.length) ∧ SqT K H lk [.int sc, .int st] ∧ ∀ H', Same H H' → Q (.bl true) H'
theorem ok__law_right (B : Blt mg) (c__law_copy : C__law_copy P w K mg base) (c__law_copy_table : C__law_copy_table P w K mg base) (c_found_ways : C_found_ways P w K mg base) (c__law_good : C__law_good P w K mg base) (c__law_due : C__law_due P w K mg base) (c_beginnings : C_beginnings P w K mg base) (F : Fun K "_law_right" "_law_right" s__law_right f fd) : FnOk P w K mg base CX0 8 f fd ["_law_net", "_law_answers_here", "_law_table_here", "_law_look", "_law_name"] (sp__law_right K) := by
  refine F.ok sc__law_right (fun vs H Q E h => ?_) (fun cdv A outer s H vs Q E hr h => ?_)
  · obtain ⟨H0, nt, A, t, WW, lk, x, W, qs, inn, ord, ls, ws, sc, st, rfl, _⟩ := h
    rfl
  · obtain ⟨H0, nt, A, t, WW, lk, x, W, qs, inn, ord, ls, wds, sc, st, rfl, CL, hsc, hst, hlk, kq⟩ := h
    obtain ⟨S, T, R, us, Gs, Es, ts, qt, eN, N3, _⟩ := CL.net
    obtain ⟨avs, eA, dA⟩ := CL.ans
    have TB := CL.tab
    have ok := CL.ok.ok
    refine ⟨_, (pss_cons (ps_set (i := 5) sc__law_right.nd rfl (Or.inl rfl) (pe_fn c__law_copy (hr.mono (by decide)) rfl (pa_cons (pv 0) pa_nil)))
      (pss_cons (ps_set (i := 6) sc__law_right.nd rfl (Or.inl rfl) (pe_callTy call_list_of (by rfl) B.b_list (by decide +kernel) (pa_cons (pv 1) pa_nil)))
      (pss_cons (ps_set (i := 7) sc__law_right.nd rfl (Or.inl rfl) (pe_fn c__law_copy_table (hr.mono (by decide)) rfl (pa_cons (pv 2) pa_nil)))
      (pss_cons (ps_set (i := 8) sc__law_right.nd rfl (Or.inl rfl) (pe_fn c_found_ways (hr.mono (by decide)) rfl (pa_cons (pv 0) (pa_cons (pv 1) (pa_cons (pv 2) (pa_cons (pe_ix ix_seq (pv 3) pe_int (fun _ _ => rfl)) (pa_cons (pe_ix ix_seq (pv 3) pe_int (fun _ _ => rfl)) (pa_cons (pv 4) pa_nil))))))))
      (pss_cons (ps_if (PW.pt (pw_or (pt_not (pt_val (pe_callB call_isi (by rfl) B.b_isinstance (by decide +kernel) (pa_cons (pv 8) (pa_cons (pe_ty "list" rfl B.b_list (by decide +kernel)) pa_nil))))) (pw_or (pt_cmpR (op_neD hr.units) (pv 0) (pv 5) (nomark _)) (pw_or (pt_cmpR (op_neD hr.units) (pv 1) (pv 6) (nomark _)) (pw_or1 (pt_cmpR (op_neD hr.units) (pv 2) (pv 7) (nomark _))))))) (pss_one (ps_ret pe_bl)) pss_nil)
      (pss_cons (ps_for PassesOwn.never rfl (pi_list (pv 8)) (pg_name (i := 9) sc__law_right.nd rfl (Or.inl rfl)) (pss_one (ps_if (pt_not (pt_val (pe_fn c__law_good (hr.mono (by decide)) rfl (pa_cons (pv 5) (pa_cons (pv 6) (pa_cons (pv 7) (pa_cons (pv 3) (pa_cons (pv 4) (pa_cons (pv 9) pa_nil))))))))) (pss_one (ps_ret pe_bl)) pss_nil)))
      (pss_cons (ps_set (i := 10) sc__law_right.nd rfl (Or.inl rfl) (pe_fn c__law_due (hr.mono (by decide)) rfl (pa_cons (pv 5) (pa_cons (pv 7) (pa_cons (pe_fn c_beginnings (hr.mono (by decide)) rfl (pa_cons (pv 0) (pa_cons (pv 1) (pa_cons (pv 2) (pa_cons (pe_ix ix_seq (pv 3) pe_int (fun _ _ => rfl)) (pa_cons (pe_ix ix_seq (pv 3) pe_int (fun _ _ => rfl)) pa_nil)))))) (pa_cons (pv 4) pa_nil))))))
      (pss_cons (ps_if (pt_cmpR (op_neD hr.units) (pv 8) (pv 10) (nomark _)) (pss_one (ps_ret pe_bl)) pss_nil)
      (pss_cons (ps_for PassesOwn.never rfl (pi_list (pv 8)) (pg_name (i := 9) sc__law_right.nd rfl (Or.inl rfl)) (pss_one (ps_expr (pe_bm PySem.F.plainAttrs_list PySem.F.slot_list_append PySem.F.type_list_append mr_append (pv 9) (pa_cons (pe_tup (pa_cons pe_int (pa_cons pe_str (pa_cons pe_int pa_nil)))) pa_nil)))))
      (pss_cons (ps_expr (pe_bm0 PySem.F.plainAttrs_list PySem.F.slot_list_clear PySem.F.type_list_clear mr_clear (pv 8)))
      (pss_one (ps_ret (pe_cmpR (op_eqD hr.units) (pe_fn c_found_ways (hr.mono (by decide)) rfl (pa_cons (pv 0) (pa_cons (pv 1) (pa_cons (pv 2) (pa_cons (pe_ix ix_seq (pv 3) pe_int (fun _ _ => rfl)) (pa_cons (pe_ix ix_seq (pv 3) pe_int (fun _ _ => rfl)) (pa_cons (pv 4) pa_nil))))))) (pv 10) (nomark _)))))))))))))), ?_⟩
    refine ⟨_, rfl, nt, S, T, R, us, Gs, Es, ts, qt, W.ss, W.gs, qs, rfl, eN, N3, by have := ok.s5; omega, fun kn S2 T2 R2 u2 G2 E2 H2 s2 ekn N2 _ _ _ _ _ _ _ _ _ => ?_⟩
    refine g_in ?_
    try dsimp only
    refine ⟨_, rfl, A, _, rfl, Or.inl (SqL.of (s2 _ _ eA)), fun A2 hA2 => ?_⟩
    obtain ⟨H3, qH3, s3, eA2⟩ := new_at (o := .lst avs) hA2
    rw [← qH3]
    refine g_in ?_
    try dsimp only
    have s03 := s2.trans s3
    refine ⟨_, rfl, t, _, W.sts, inn, ord, rfl, TB.same s03, by have := CL.tok.n; omega, fun t2 H4 ht2 s4 TB2 => ?_⟩
    refine g_in ?_
    try dsimp only
    have s34 := s3.trans s4
    have s04 := s2.trans s34
    have C4 := CL.caseH.same s04
    have K4 : CaseH K H4 kn A2 t2 W := ⟨⟨S2, T2, R2, u2, G2, E2, ts, qt, qs, s34 _ _ ekn, N2.same s34⟩, ⟨avs, SqL.of (s4 _ _ eA2), dA.same s04⟩, TB2.caseT⟩
    have hlk4 := s04.seqT hlk
    refine ⟨_, rfl, _, rfl, _, rfl, _, rfl, Or.inr (Or.inl ⟨lk, _, _, .int sc, rfl, rfl, hlk4, rfl, _, rfl, Or.inr (Or.inl ⟨lk, _, _, .int st, rfl, rfl, hlk4, rfl, _, rfl, nt, A, t, x, W, sc, st, rfl, C4, ok, hsc, hst, fun D bs ws H5 hD s5 eD hw hB hF => ?_⟩)⟩)⟩
    refine g_in ?_
    try dsimp only
    have s05 := s04.trans s5
    have s25 := s34.trans s5
    have hbl := hB.few
    have lw : ws.length ≤ 62 := by
      have h1 := found_len ok (x := x) hbl
      have h2 := hF.perm.length_eq
      rw [List.length_map] at h2
      omega
    refine ⟨_, rfl, _, .lst, .lst, rfl, .lst (SqL.of eD), _, rfl, iteF ?_⟩
    refine ⟨_, rfl, _, rfl, 6, _, _, cmp_net W.ss W.ss W.gs W.gs qs qs, by decide, (N3.same s05).dt (s05 _ _ eN), (N2.same s25).dt (s25 _ _ ekn), _, rfl, ?_⟩
    rw [dec_true rfl]
    refine iteF ⟨_, rfl, _, rfl, 3, _, _, cmp_ansL W.as W.as, by decide, .lst (SqL.of (s05 _ _ eA)) (dA.same s05), .lst (SqL.of ((s4.trans s5) _ _ eA2)) (dA.same s05), _, rfl, ?_⟩
    rw [dec_true rfl]
    refine iteF ⟨_, rfl, _, rfl, 6, _, _, cmp_tabDt W.sts W.sts inn inn ord ord, by decide, (TB.same s05).dt, (TB2.same s5).dt, _, rfl, ?_⟩
    rw [dec_true rfl]
    refine iteF ?_
    refine nx_sq ?_
    refine seq_cut (fun σ' H' => ∃ u9 : Option V, σ' = [some (.ref nt), some (.ref A), some (.ref t), some (.ref lk), some (.str x), some (.ref kn), some (.ref A2), some (.ref t2), some (.ref D), u9, none] ∧ Same H5 H') ?_ (fun N hN => ?_)
    case refine_2 =>
      refine ⟨_, rfl, D, rfl, ⟨_, SqL.of eD⟩, for_list (xs := ws.map fun z => V.ref z.1) (fun i σ H' => ∃ u9 : Option V, σ = [some (.ref nt), some (.ref A), some (.ref t), some (.ref lk), some (.str x), some (.ref kn), some (.ref A2), some (.ref t2), some (.ref D), u9, none] ∧ Same H5 H') ⟨_, rfl, Same.refl _⟩ (fun i σ H' _ ⟨_, _, s⟩ => SqL.of (s _ _ eD)) ?_ ?_⟩
      rotate_left
      · rintro σ H6 ⟨u9, rfl, s6⟩
        exact hN _ _ ⟨u9, rfl, s6⟩
      rintro i y σ H6 hy ⟨u9, rfl, s6⟩
      obtain ⟨z, hzi, rfl⟩ := getm hy
      have mz := List.mem_of_getElem? hzi
      obtain ⟨b, hb, j, q, g1, g2, g3, g4⟩ := found_mem (hF.perm.mem_iff.mp (List.mem_map.mpr ⟨z, mz, rfl⟩))
      have hwz := (hw z mz).same s6
      rw [g4] at hwz
      refine ⟨_, rfl, _, rfl, _, rfl, _, rfl, _, rfl, _, rfl, kn, A2, t2, lk, z.1, x, _, W, sc, st, b, j, q, rfl, K4.same (s5.trans s6), ok, hsc, hst, (s5.trans s6).seqT hlk4, (hB.mem b).mp hb, g1, g2, g3, hwz, fun H7 s7 => ⟨_, rfl, iteF ?_⟩⟩
      exact ⟨_, rfl, s6.trans s7⟩
    rintro σ' H6 ⟨u9', rfl, s6⟩
    have s46 := s5.trans s6
    have hlk6 := s46.seqT hlk4
    have eD6 := s6 _ _ eD
    refine ⟨_, rfl, _, rfl, _, rfl, _, rfl, _, rfl, _, rfl, Or.inr (Or.inl ⟨lk, _, _, .int sc, rfl, rfl, hlk6, rfl, _, rfl, Or.inr (Or.inl ⟨lk, _, _, .int st, rfl, rfl, hlk6, rfl, nt, A, t, W, sc, st, rfl, C4.same s46, ok, hsc, hst, fun D3 zs H7 hD3 s7 eD3 hz hB3 => ?_⟩)⟩)⟩
    have hf3 := hB3.few
    rw [List.length_map] at hf3
    refine ⟨_, rfl, kn, A2, t2, D3, x, _, W, zs, rfl, K4.same (s46.trans s7), ok, eD3, hz, fun z hz' => ((hB3.mem _).mp (List.mem_map.mpr ⟨z, hz', rfl⟩)).ok ok hsc hst, hf3, fun D4 vs H8 hD4 s8 eD4 hv hF4 => ?_⟩
    have ebs := hB3.uniq hB
    rw [ebs] at hF4
    have evw := hF4.uniq hF
    refine g_in ?_
    try dsimp only
    have s68 := s7.trans s8
    have eD8 := s68 _ _ eD6
    have hw8 : ∀ z ∈ ws, WyH (fun l => H4 l = none ∧ l ≠ D) H8 z.1 z.2 := fun z h => (hw z h).same (s6.trans s68)
    refine ⟨_, rfl, _, rfl, 4, Dt.lst ((ws.map (·.2)).map wayE.D), Dt.lst ((vs.map (·.2)).map wayE.D), cmp_ways _ _, by decide, .lst (SqL.of eD8) (ways_dts hw8), .lst (SqL.of eD4) (ways_dts hv), _, rfl, ?_⟩
    rw [dec_true (by rw [evw])]
    refine iteF ?_
    obtain ⟨M, hM⟩ : ∃ M : Addr → Prop, M = fun x => ∃ z ∈ ws, z.1 = x := ⟨_, rfl⟩
    have Mat : ∀ y, M y → (H4 y = none ∧ y ≠ D) ∧ (∃ o, H7 y = some o) ∧ ∃ xs, H8 y = some (.lst xs) ∧ xs.length ≤ 6 := fun y hy => by
      rw [hM] at hy
      obtain ⟨z, mz, rfl⟩ := hy
      obtain ⟨ms, e1, e2, e3⟩ := hw z mz
      refine ⟨e3, ⟨_, (s6.trans s7) _ _ e1⟩, _, (s6.trans s68) _ _ e1, ?_⟩
      obtain ⟨b, hb, j, q, _, _, _, g4⟩ := found_mem (hF.perm.mem_iff.mp (List.mem_map.mpr ⟨z, mz, rfl⟩))
      have h := ((hB.mem b).mp hb).ok ok hsc hst
      have := nodup_rng W.ss.length (been b) h.nd h.rng
      rw [show (been b).length = b.1.length + 1 by unfold been; simp] at this
      have := ok.s5
      rw [List.length_map, e2.len, g4, List.length_append, List.length_singleton]
      omega
    refine nx_sq ?_
    refine seq_cut (fun σ' H' => ∃ u9 : Option V, σ' = [some (.ref nt), some (.ref A), some (.ref t), some (.ref lk), some (.str x), some (.ref kn), some (.ref A2), some (.ref t2), some (.ref D), u9, some (.ref D4)] ∧ Keeps M H8 H') ?_ (fun N hN => ?_)
    case refine_2 =>
      refine ⟨_, rfl, D, rfl, ⟨_, SqL.of eD8⟩, for_list (xs := ws.map fun z => V.ref z.1) (fun j σ H' => ∃ u9 : Option V, σ = [some (.ref nt), some (.ref A), some (.ref t), some (.ref lk), some (.str x), some (.ref kn), some (.ref A2), some (.ref t2), some (.ref D), u9, some (.ref D4)] ∧ Keeps M H8 H' ∧ ∀ x, M x → ∃ xs, H' x = some (.lst xs) ∧ xs.length ≤ 6 + j) ⟨_, rfl, Keeps.refl fun x o m e => by
          obtain ⟨_, _, xs, h, _⟩ := Mat x m
          rw [h] at e; exact ⟨xs, (Option.some.inj e).symm⟩, fun x hx => (Mat x hx).2.2⟩ (fun i σ H' _ ⟨_, _, k, _⟩ => SqL.of (k.at_ _ _ eD8 fun m => (Mat _ m).1.2 rfl)) ?_ ?_⟩
      rotate_left
      · rintro σ H10 ⟨u9, rfl, k10, _⟩
        exact hN _ _ ⟨u9, rfl, k10⟩
      rintro j y σ H10 hy ⟨u9, rfl, k10, hl10⟩
      obtain ⟨z, hzj, rfl⟩ := getm hy
      have mz := List.mem_of_getElem? hzj
      have hjl : j < ws.length := (List.getElem?_eq_some_iff.mp hzj).1
      have Ml : M z.1 := by rw [hM]; exact ⟨z, mz, rfl⟩
      obtain ⟨xs, exl, lxs⟩ := hl10 z.1 Ml
      refine ⟨_, rfl, Or.inl ⟨rfl, _, SqL.of exl⟩, three_le, fun w hw' => ?_⟩
      have t1 := same_new (o := .tup [.int 0, .str "told", .int 0]) hw'
      generalize upd H10 w (.tup [.int 0, .str "told", .int 0]) = H11 at t1 ⊢
      refine ⟨z.1, _, _, rfl, rfl, t1 _ _ exl, small1000 (by omega), ?_⟩
      refine ⟨_, rfl, (k10.same t1).set Ml, fun x hx => ?_⟩
      by_cases e : x = z.1
      · subst e
        exact ⟨_, upd_same, by rw [List.length_append, List.length_singleton]; omega⟩
      · obtain ⟨ys, ey, ly⟩ := hl10 x hx
        exact ⟨ys, by rw [upd_ne e]; exact t1 _ _ ey, by omega⟩
    rintro σ' H10 ⟨u9'', rfl, k10⟩
    have eD10 := k10.at_ _ _ eD8 fun m => (Mat _ m).1.2 rfl
    refine ⟨_, rfl, Or.inl ⟨rfl, _, SqL.of eD10⟩, D, _, rfl, rfl, eD10, ?_⟩
    have s48 := s46.trans s68
    have s4n : Same H4 (upd H10 D (.lst [])) := fun x o e => by
      rw [upd_ne (ne_of_none e hD)]
      exact k10.at_ _ _ (s48 _ _ e) fun m => by rw [(Mat x m).1.1] at e; cases e
    have kD : Keeps (· = D) H10 (upd H10 D (.lst [])) := Keeps.one eD10
    have eD7 := s7 _ _ eD6
    have nD4 : D4 ≠ D := fun y => by rw [y, eD7] at hD4; cases hD4
    have hM7 : ∀ x, H7 x = none → ¬ M x := fun x e m => by
      obtain ⟨o, e'⟩ := (Mat x m).2.1
      rw [e'] at e; cases e
    have e4n : (upd H10 D (.lst [])) D4 = some (.lst (vs.map fun z => V.ref z.1)) := by
      rw [upd_ne nD4]
      exact k10.at_ _ _ eD4 (hM7 D4 hD4)
    have hvn : ∀ z ∈ vs, WyH (fun l => H7 l = none ∧ l ≠ D4) (upd H10 D (.lst [])) z.1 z.2 := fun z h => by
      refine ((hv z h).keeps k10 fun x hx => hM7 x hx.1).keeps kD fun x hx y => ?_
      rw [y, eD7] at hx
      cases hx.1
    generalize upd H10 D (.lst []) = H11 at s4n e4n hvn ⊢
    have hlkn := s4n.seqT hlk4
    refine ⟨_, rfl, _, rfl, _, rfl, _, rfl, Or.inr (Or.inl ⟨lk, _, _, .int sc, rfl, rfl, hlkn, rfl, _, rfl, Or.inr (Or.inl ⟨lk, _, _, .int st, rfl, rfl, hlkn, rfl, _, rfl, nt, A, t, x, W, sc, st, rfl, C4.same s4n, ok, hsc, hst, fun D5 bs5 ws5 H12 hD5 s12 eD5 hw5 hB5 hF5 => ?_⟩)⟩)⟩
    rw [hB5.uniq hB] at hF5
    have e5 := hF5.uniq hF4
    refine ⟨_, rfl, 4, Dt.lst ((ws5.map (·.2)).map wayE.D), Dt.lst ((vs.map (·.2)).map wayE.D), cmp_ways _ _, by decide, .lst (SqL.of eD5) (ways_dts hw5), .lst (SqL.of (s12 _ _ e4n)) (ways_dts fun z h => (hvn z h).same s12), ?_⟩
    rw [dec_true (by rw [e5])]
    exact kq H12 (s04.trans (s4n.trans s12))
variable (P w K mg base) in
abbrev C__law_right : Prop := Callee P w K mg base "_law_right" 8 ["_law_net", "_law_answers_here", "_law_table_here", "_law_look", "_law_name"] (sp__law_right K)
theorem call__law_right (B : Blt mg) (c__law_copy : C__law_copy P w K mg base) (c__law_copy_table : C__law_copy_table P w K mg base) (c_found_ways : C_found_ways P w K mg base) (c__law_good : C__law_good P w K mg base) (c__law_due : C__law_due P w K mg base) (c_beginnings : C_beginnings P w K mg base) (F : Fun K "_law_right" "_law_right" s__law_right f fd) (hm : mg "_law_right" = some (.ref f)) : C__law_right P w K mg base :=
  ⟨f, fd, ok__law_right B c__law_copy c__law_copy_table c_found_ways c__law_good c__law_due c_beginnings F, hm, F.kp, F.binds fun _ _ _ _ _ _ us hl => (by obtain ⟨x0, x1, x2, x3, x4, rfl⟩ := len_5 hl; rfl)⟩
def sp_law (K : PySem.W.Frag) : Sp := fun vs H Q _ => ∃ (a : Addr) (ns : List Int), vs = [.ref a] ∧ SqL K H a (ns.map V.int) ∧ ns.length ≤ 63 ∧ ∀ H', Q (.bl true) H'
theorem ok_law (B : Blt mg) (c__law_case : C__law_case P w K mg base) (c__law_right : C__law_right P w K mg base) (F : Fun K "law" "law" s_law f fd) : FnOk P w K mg base CX0 9 f fd ["_law_script"] (sp_law K) := by
  refine F.ok sc_law (fun vs H Q E h => ?_) (fun cdv A outer s H vs Q E hr h => ?_)
  · obtain ⟨a, ns, rfl, _⟩ := h
    rfl
  · obtain ⟨a, ns, rfl, hS, hlen, kq⟩ := h
    refine ⟨_, (pss_cons (ps_asg (pe_fn c__law_case (hr.mono (by decide)) rfl (pa_cons (pv 0) pa_nil)) (pg_tup rfl (pgs_cons (pg_name (i := 1) sc_law.nd rfl (Or.inl rfl)) (pgs_cons (pg_name (i := 2) sc_law.nd rfl (Or.inl rfl)) (pgs_cons (pg_name (i := 3) sc_law.nd rfl (Or.inl rfl)) (pgs_cons (pg_name (i := 4) sc_law.nd rfl (Or.inl rfl)) pgs_nil))))))
      (pss_cons (ps_for PassesOwn.never rfl (pi_list (pe_ix ix_seq (pv 1) pe_int (fun _ _ => rfl))) (pg_tup rfl (pgs_cons (pg_name (i := 5) sc_law.nd rfl (Or.inl rfl)) (pgs_cons (pg_name (i := 6) sc_law.nd rfl (Or.inl rfl)) (pgs_cons (pg_name (i := 7) sc_law.nd rfl (Or.inl rfl)) pgs_nil)))) (pss_one (ps_for PassesOwn.never rfl (pi_list (pe_slice sl_list (pv 4) po_none (po_some pe_int))) (pg_name (i := 8) sc_law.nd rfl (Or.inl rfl)) (pss_one (ps_if (pt_not (pt_val (pe_fn c__law_right (hr.mono (by decide)) rfl (pa_cons (pv 1) (pa_cons (pv 3) (pa_cons (pv 2) (pa_cons (pe_tup (pa_cons (pv 5) (pa_cons (pv 6) pa_nil))) (pa_cons (pv 8) pa_nil)))))))) (pss_one (ps_ret pe_bl)) pss_nil)))))
      (pss_one (ps_ret pe_bl)))), ?_⟩
    refine ⟨_, rfl, a, ns, rfl, hS, hlen, fun r nt t A WW W qs inn ord ls ws H1 hr s1 er CL => ?_⟩
    refine ⟨r, _, rfl, SqT.of er, rfl, _, _, rfl, _, _, rfl, _, _, rfl, _, _, rfl, rfl, ?_⟩
    obtain ⟨S, T, R, us, Gs, Es, ts, qt, eN, N3, _⟩ := CL.net
    have eW := CL.wds
    refine ⟨_, rfl, Or.inr (Or.inl ⟨nt, _, _, .ref R, rfl, rfl, SqT.of eN, rfl, R, rfl, ⟨_, SqL.of N3.er⟩, ?_⟩)⟩
    refine for_list (xs := qt.map V.ref) (fun i σ H' => ∃ u5 u6 u7 u8, σ = [some (.ref a), some (.ref nt), some (.ref t), some (.ref A), some (.ref WW), u5, u6, u7, u8] ∧ Same H1 H') ⟨none, none, none, none, rfl, Same.refl _⟩ (fun i σ H' _ ⟨_, _, _, _, _, s⟩ => SqL.of (s _ _ N3.er)) ?_ ?_
    rotate_left
    · rintro σ H2 ⟨u5, u6, u7, u8, rfl, s2⟩
      exact kq _
    rintro i x σ H2 hx ⟨u5, u6, u7, u8, rfl, s2⟩
    obtain ⟨tq, htq, rfl⟩ := getm hx
    have hil : i < qs.length := by rw [← N3.tq.len]; exact (List.getElem?_eq_some_iff.mp htq).1
    have hqi := List.getElem?_eq_getElem hil
    obtain ⟨pu, ep1, ep2⟩ := N3.tq.at_ i tq _ htq hqi
    obtain ⟨hsc, hst, _⟩ := CL.ok.q _ (List.getElem_mem hil)
    generalize qs[i] = qq at ep1 ep2 hsc hst
    refine ⟨tq, _, rfl, SqT.of (s2 _ _ ep1), rfl, _, _, rfl, _, _, rfl, _, _, rfl, rfl, ?_⟩
    refine ⟨_, rfl, _, rfl, WW, _, rfl, SqL.of (s2 _ _ eW), fun P hP => ?_⟩
    rw [show cutV (ws.map V.str) none (some 4) = (ws.map V.str).take 4 from cutV_take _ 4, ← List.map_take]
    obtain ⟨H3, qH3, s3, eP⟩ := new_at (o := .lst ((ws.take 4).map V.str)) hP
    rw [← qH3]
    refine ⟨P, rfl, ⟨_, SqL.of eP⟩, for_list (xs := (ws.take 4).map V.str) (fun i σ H' => ∃ u8, σ = [some (.ref a), some (.ref nt), some (.ref t), some (.ref A), some (.ref WW), some (.int qq.1), some (.int qq.2.1), some (.ref pu), u8] ∧ Same H3 H') ⟨_, rfl, Same.refl _⟩ (fun i σ H' _ ⟨_, _, s⟩ => SqL.of (s _ _ eP)) ?_ ?_⟩
    rotate_left
    · rintro σ H4 ⟨u8, rfl, s4⟩
      exact ⟨_, _, _, _, rfl, s2.trans (s3.trans s4)⟩
    rintro j y σ H4 hy ⟨u8, rfl, s4⟩
    obtain ⟨nm, _, rfl⟩ := getm hy
    refine ⟨_, rfl, _, rfl, _, rfl, _, rfl, _, rfl, two_le, fun lk hlk => ?_⟩
    obtain ⟨H5, qH5, s5, elk⟩ := new_at (o := .tup [.int qq.1, .int qq.2.1]) hlk
    rw [← qH5]
    refine ⟨_, rfl, H, nt, A, t, WW, lk, nm, W, qs, inn, ord, ls, ws, qq.1, qq.2.1, rfl, CL.same (s2.trans (s3.trans (s4.trans s5))), hsc, hst, SqT.of elk, fun H6 s6 => ⟨_, rfl, iteF ?_⟩⟩
    exact ⟨_, rfl, s4.trans (s5.trans s6)⟩
variable (P w K mg base) in
abbrev C_law : Prop := Callee P w K mg base "law" 9 ["_law_script"] (sp_law K)
theorem call_law (B : Blt mg) (c__law_case : C__law_case P w K mg base) (c__law_right : C__law_right P w K mg base) (F : Fun K "law" "law" s_law f fd) (hm : mg "law" = some (.ref f)) : C_law P w K mg base :=
  ⟨f, fd, ok_law B c__law_case c__law_right F, hm, F.kp, F.binds fun _ _ _ _ _ _ us hl => (by obtain ⟨x0, rfl⟩ := len_1 hl; rfl)⟩
end
abbrev Fin (K : PySem.W.Frag) (mg : Str → Option Value) (x : Str) (st : Stmt) : Prop := ∃ f fd, Fun K x x st f fd ∧ mg x = some (.ref f)
theorem fin_of {K : PySem.W.Frag} {h : Heap} {mg : Str → Option Value} (X : K.In h) (G : h.Ns mainGlobals mg) {x : Str} {st : Stmt} (q : Fx K x st) : Fin K mg x st := by
  obtain ⟨f, oc, od, an, osl, kV, doc, pm, cdv, ct, a, l, c, k⟩ := q
  exact ⟨f, _, fun_mk l c k, PySem.W.mg_of X G a⟩
theorem all_mk {l : PySem.W.OpenLaw} {w : World} {K : PySem.W.Frag} {h : Heap} {mg : Str → Option Value} {fa : Addr} (X : K.In h) (G : h.Ns mainGlobals mg) (hfa : mg "law" = some (.ref fa)) (q : Facts K)
    : ∃ fd : FuncData, (∀ (s : Shared) (v : Value), BindsTo s fd ⟨[v], []⟩ [("_law_script", v)]) ∧ ∀ base : Heap, K.In base → base.Ns mainGlobals mg → FnOk l.prog w K mg base CX0 9 fa fd ["_law_script"] (sp_law K) := by
  obtain ⟨f48, oc48, od48, an48, sl48, kV48, dc48, pm48, cd48, ct48, a48, l48, c48, k48⟩ := q.q48
  have e := hfa.symm.trans (PySem.W.mg_of X G a48)
  cases e
  have B : Blt mg := ⟨PySem.W.mg_none_of X G q.z_all, PySem.W.mg_none_of X G q.z_bool, PySem.W.mg_none_of X G q.z_enumerate, PySem.W.mg_none_of X G q.z_int, PySem.W.mg_none_of X G q.z_isinstance, PySem.W.mg_none_of X G q.z_len, PySem.W.mg_none_of X G q.z_list, PySem.W.mg_none_of X G q.z_range, PySem.W.mg_none_of X G q.z_set, PySem.W.mg_none_of X G q.z_sorted, PySem.W.mg_none_of X G q.z_str, PySem.W.mg_none_of X G q.z_tuple, q.y_LONGEST_NAME.imp fun _ y => PySem.W.mg_of X G y, q.y_MOST_BEGINNINGS.imp fun _ y => PySem.W.mg_of X G y, q.y_MOST_ENDS.imp fun _ y => PySem.W.mg_of X G y, q.y_MOST_GOES.imp fun _ y => PySem.W.mg_of X G y, q.y_MOST_PAIRS.imp fun _ y => PySem.W.mg_of X G y, q.y_MOST_STATES.imp fun _ y => PySem.W.mg_of X G y⟩
  obtain ⟨_, _, F0, m0⟩ := fin_of X G q.q0
  obtain ⟨_, _, F1, m1⟩ := fin_of X G q.q1
  obtain ⟨_, _, F2, m2⟩ := fin_of X G q.q2
  obtain ⟨_, _, F3, m3⟩ := fin_of X G q.q3
  obtain ⟨_, _, F4, m4⟩ := fin_of X G q.q4
  obtain ⟨_, _, F5, m5⟩ := fin_of X G q.q5
  obtain ⟨_, _, F6, m6⟩ := fin_of X G q.q6
  obtain ⟨_, _, F7, m7⟩ := fin_of X G q.q7
  obtain ⟨_, _, F8, m8⟩ := fin_of X G q.q8
  obtain ⟨_, _, F9, m9⟩ := fin_of X G q.q9
  obtain ⟨_, _, F10, m10⟩ := fin_of X G q.q10
  obtain ⟨_, _, F11, m11⟩ := fin_of X G q.q11
  obtain ⟨_, _, F12, m12⟩ := fin_of X G q.q12
  obtain ⟨_, _, F13, m13⟩ := fin_of X G q.q13
  obtain ⟨_, _, F14, m14⟩ := fin_of X G q.q14
  obtain ⟨_, _, F15, m15⟩ := fin_of X G q.q15
  obtain ⟨_, _, F16, m16⟩ := fin_of X G q.q16
  obtain ⟨_, _, F17, m17⟩ := fin_of X G q.q17
  obtain ⟨_, _, F18, m18⟩ := fin_of X G q.q18
  obtain ⟨_, _, F19, m19⟩ := fin_of X G q.q19
  obtain ⟨_, _, F20, m20⟩ := fin_of X G q.q20
  obtain ⟨_, _, F21, m21⟩ := fin_of X G q.q21
  obtain ⟨_, _, F22, m22⟩ := fin_of X G q.q22
  obtain ⟨_, _, F23, m23⟩ := fin_of X G q.q23
  obtain ⟨_, _, F24, m24⟩ := fin_of X G q.q24
  obtain ⟨_, _, F25, m25⟩ := fin_of X G q.q25
  obtain ⟨_, _, F26, m26⟩ := fin_of X G q.q26
  obtain ⟨_, _, F27, m27⟩ := fin_of X G q.q27
  obtain ⟨_, _, F28, m28⟩ := fin_of X G q.q28
  obtain ⟨_, _, F29, m29⟩ := fin_of X G q.q29
  obtain ⟨_, _, F30, m30⟩ := fin_of X G q.q30
  obtain ⟨_, _, F31, m31⟩ := fin_of X G q.q31
  obtain ⟨_, _, F32, m32⟩ := fin_of X G q.q32
  obtain ⟨_, _, F33, m33⟩ := fin_of X G q.q33
  obtain ⟨_, _, F34, m34⟩ := fin_of X G q.q34
  obtain ⟨_, _, F35, m35⟩ := fin_of X G q.q35
  obtain ⟨_, _, F36, m36⟩ := fin_of X G q.q36
  obtain ⟨_, _, F37, m37⟩ := fin_of X G q.q37
  obtain ⟨_, _, F38, m38⟩ := fin_of X G q.q38
  obtain ⟨_, _, F39, m39⟩ := fin_of X G q.q39
  obtain ⟨_, _, F40, m40⟩ := fin_of X G q.q40
  obtain ⟨_, _, F41, m41⟩ := fin_of X G q.q41
  obtain ⟨_, _, F42, m42⟩ := fin_of X G q.q42
  obtain ⟨_, _, F43, m43⟩ := fin_of X G q.q43
  obtain ⟨_, _, F44, m44⟩ := fin_of X G q.q44
  obtain ⟨_, _, F45, m45⟩ := fin_of X G q.q45
  obtain ⟨_, _, F46, m46⟩ := fin_of X G q.q46
  obtain ⟨_, _, F47, m47⟩ := fin_of X G q.q47
  have F48 := fun_mk (st := s_law) l48 c48 k48
  refine ⟨PySem.W.fnOf "law" "law" (defArgs s_law) (defBody s_law) (defScope s_law) .none kV48 dc48 pm48 an48 cd48 ct48, fun s v => .of_eq rfl, fun base _ _ => ?_⟩
  have K__law_words : C__law_words l.prog w K mg base := call__law_words B  F0 m0
  have K__law_cell_at : C__law_cell_at l.prog w K mg base := call__law_cell_at B  F1 m1
  have K__law_stream : C__law_stream l.prog w K mg base := call__law_stream B  F2 m2
  have K__law_under : C__law_under l.prog w K mg base := call__law_under B  F3 m3
  have K__law_table : C__law_table l.prog w K mg base := call__law_table B K__law_stream K__law_under F4 m4
  have K_refuse_too_great : C_refuse_too_great l.prog w K mg base := call_refuse_too_great B  F5 m5
  have K_labels_of : C_labels_of l.prog w K mg base := call_labels_of B  F6 m6
  have K_labels_told : C_labels_told l.prog w K mg base := call_labels_told B K_labels_of F7 m7
  have K_is_name : C_is_name l.prog w K mg base := call_is_name B  F8 m8
  have K_refuse_no_names : C_refuse_no_names l.prog w K mg base := call_refuse_no_names B K_labels_told K_is_name F9 m9
  have K_is_whole : C_is_whole l.prog w K mg base := call_is_whole B  F10 m10
  have K_is_place : C_is_place l.prog w K mg base := call_is_place B K_is_whole F11 m11
  have K_refuse_no_places : C_refuse_no_places l.prog w K mg base := call_refuse_no_places B K_is_place F12 m12
  have K_is_one_twice : C_is_one_twice l.prog w K mg base := call_is_one_twice B  F13 m13
  have K_refuse_twice : C_refuse_twice l.prog w K mg base := call_refuse_twice B K_is_one_twice K_labels_of F14 m14
  have K_worse_by_better : C_worse_by_better l.prog w K mg base := call_worse_by_better B  F15 m15
  have K_reached : C_reached l.prog w K mg base := call_reached B  F16 m16
  have K_all_that_follows : C_all_that_follows l.prog w K mg base := call_all_that_follows B K_worse_by_better K_reached F17 m17
  have K_order_of : C_order_of l.prog w K mg base := call_order_of B K_all_that_follows F18 m18
  have K_sorted_state : C_sorted_state l.prog w K mg base := call_sorted_state B  F19 m19
  have K_table_of : C_table_of l.prog w K mg base := call_table_of B K_refuse_too_great K_refuse_no_names K_refuse_no_places K_refuse_twice K_order_of K_sorted_state F20 m20
  have K_usual : C_usual l.prog w K mg base := call_usual B K_table_of F21 m21
  have K__law_things : C__law_things l.prog w K mg base := call__law_things B K__law_stream F22 m22
  have K__law_questions : C__law_questions l.prog w K mg base := call__law_questions B K__law_stream F23 m23
  have K__law_lay : C__law_lay l.prog w K mg base := call__law_lay B  F24 m24
  have K__law_answers : C__law_answers l.prog w K mg base := call__law_answers B K__law_stream F25 m25
  have K__law_case : C__law_case l.prog w K mg base := call__law_case B K__law_words K__law_cell_at K__law_table K_usual K__law_things K__law_questions K__law_lay K__law_answers F26 m26
  have K__law_copy : C__law_copy l.prog w K mg base := call__law_copy B  F27 m27
  have K__law_copy_table : C__law_copy_table l.prog w K mg base := call__law_copy_table B  F28 m28
  have K_has_end : C_has_end l.prog w K mg base := call_has_end B  F29 m29
  have K_found_behind : C_found_behind l.prog w K mg base := call_found_behind B K_has_end F30 m30
  have K_next_state : C_next_state l.prog w K mg base := call_next_state B  F31 m31
  have K_inside_of_sort : C_inside_of_sort l.prog w K mg base := call_inside_of_sort B  F32 m32
  have K_inside : C_inside l.prog w K mg base := call_inside B K_inside_of_sort F33 m33
  have K_goal : C_goal l.prog w K mg base := call_goal B K_inside F34 m34
  have K_steps_gone : C_steps_gone l.prog w K mg base := call_steps_gone B K_next_state K_goal F35 m35
  have K_longer_by_a_step : C_longer_by_a_step l.prog w K mg base := call_longer_by_a_step B K_steps_gone F36 m36
  have K_beginnings : C_beginnings l.prog w K mg base := call_beginnings B K_longer_by_a_step F37 m37
  have K_found_ways : C_found_ways l.prog w K mg base := call_found_ways B K_found_behind K_beginnings F38 m38
  have K__law_whole : C__law_whole l.prog w K mg base := call__law_whole B  F39 m39
  have K__law_is_mark : C__law_is_mark l.prog w K mg base := call__law_is_mark B K__law_whole F40 m40
  have K__law_next : C__law_next l.prog w K mg base := call__law_next B  F41 m41
  have K__law_inside : C__law_inside l.prog w K mg base := call__law_inside B  F42 m42
  have K__law_goal : C__law_goal l.prog w K mg base := call__law_goal B K__law_inside F43 m43
  have K__law_walk : C__law_walk l.prog w K mg base := call__law_walk B K__law_is_mark K__law_next K__law_goal F44 m44
  have K__law_good : C__law_good l.prog w K mg base := call__law_good B K__law_is_mark K__law_walk F45 m45
  have K__law_due : C__law_due l.prog w K mg base := call__law_due B  F46 m46
  have K__law_right : C__law_right l.prog w K mg base := call__law_right B K__law_copy K__law_copy_table K_found_ways K__law_good K__law_due K_beginnings F47 m47
  exact ok_law B K__law_case K__law_right F48
theorem walk {l : PySem.W.OpenLaw} {q : Program} {loose : List Str} {XP : (Str → Option Value) → Heap → Prop} {YP : World → Heap → Prop} {d : DefRec} {K : Params → PySem.W.Frag} (hn : l.most = some 63) (hdf : d.params.defaults = [])
    (hY : ∀ (w : World) (h : Heap), YP w h → (K w.params).In h)
    (F : ∀ (w : World) (mg : Str → Option Value) (fa : Addr) (h : Heap), (K w.params).In h → h.Ns mainGlobals mg → mg d.name = some (.ref fa) →
      ∃ fd : FuncData, (∀ (s : Shared) (u : Value), BindsTo s fd ⟨[u], []⟩ [("_law_script", u)]) ∧ ∀ base : Heap, (K w.params).In base → base.Ns mainGlobals mg → FnOk l.prog w (K w.params) mg base CX0 9 fa fd ["_law_script"] (sp_law (K w.params))) :
    PySem.W.WalkO q loose XP YP l.row.toRowW d [] (fun f vs => PySem.call f vs) :=
  L2.walk_of (n := 63) (k := 9) (x := "_law_script") (CX := fun _ => CX0) (sp := fun w => sp_law (K w.params)) hn (by decide) hdf ⟨rfl, by decide, by decide⟩ hY F (fun _ _ a ns hl _ hS => ⟨a, ns, rfl, hS, hl, fun _ => rfl⟩) fun _ _ _ _ _ z => z
end K23
open PySem PySem.W PyProof.Rows in
theorem PySem.Challenge.cw_namepaths_k23_found_ways_are_ways_to_tel_holds : PySem.Challenge.rw_namepaths_k23_found_ways_are_ways_to_tel.Holds :=
  K23.hd fun K q YP d h1 h2 hY => K23.walk (l := PySem.Challenge.rw_namepaths_k23_found_ways_are_ways_to_tel) rfl h1 hY fun w mg fa h X G hm => K23.all_mk X G (h2 ▸ hm) (q w)
