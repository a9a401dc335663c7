import PyProof.Rows.All
import Wide.All
import OpenK.AllK
import Wide.FinOn
import Lean
import PyProof.EqAt
import PyProof.EqKinds
import PyProof.TupleCall
import PySem.Challenge.RW_namepaths_k27_hidden_ways_and_what_hides
set_option Elab.async false
set_option linter.all false
set_option maxRecDepth 100000
set_option maxHeartbeats 1000000
abbrev XFg := PySem.W.Frag
def Xaa := @List.length_map
def Xab := @List.getElem?_eq_getElem
def Xac := @List.length_append
def Xad := @List.map_append
def Xae := @List.getElem?_eq_some_iff
def Xaf := @List.mem_append
def Xag := @List.getElem?_map
def Xah := @List.mem_of_getElem?
def Xai := @List.mem_map
def Xaj := @List.mem_singleton
def Xak := @List.size_toArray
def Xal := @List.mem_cons_self
def Xam := @List.mem_cons
def Xan := @List.mem_append_right
def Xao := @List.map_cons
def Xap := @List.mem_cons_of_mem
def Xaq := @List.getD_eq_getElem?_getD
def Xar := @List.take_succ
def Xas := @List.take_length
def Xat := @List.getElem?_append_left
def Xau := @List.length_singleton
def Xav := @List.getElem_mem
def Xaw := @List.length_take
def Xax := @List.map_map
def Xay := @List.getElem?_append_right
def Xaz := @List.take_zero
def XaA := @List.mem_append_left
def XaB := @List.length_cons
def XaC := @List.nodup_cons
def XaD := @List.length_set
def XaE := @List.append_assoc
def XaF := @List.length_drop
def XaG := @List.mem_iff_getElem
def XaH := @List.append_nil
def XaI := @List.lookup_cons
def XaJ := @List.getElem?_eq_none
def XaK := @List.mem_filter
def XaL := @List.drop_eq_getElem_cons
def XaM := @List.filter_cons
def XaN := @List.length_nil
def XaO := @List.map_nil
def XaP := @List.map_drop
def XaQ := @List.prefix_append
def XaR := @List.find?_cons
def XaS := @List.filter_append
def XaT := @List.foldl_append
def XaU := @List.length_filter_le
def XaV := @Option.map_eq_some_iff
def XaW := @Nat.le_refl
def XaX := @Nat.lt_irrefl
def XaY := @Nat.le_of_lt
def XaZ := @Nat.ne_of_lt
def Xa0 := @Nat.lt_succ_self
def Xa1 := @Nat.zero_le
def Xa2 := @Int.emod_lt_of_pos
def Xa3 := @Int.emod_nonneg
def Xa4 := @Int.eq_ofNat_of_zero_le
def Xa5 := @Int.toNat_natCast
def Xa6 := @decide_eq_true
def Xa7 := @decide_eq_false
def Xa8 := @of_decide_eq_true
def Xa9 := @PySem.F.plainAttrs_list
def Xba := @PySem.F.slot_list_append
def Xbb := @PySem.F.type_list_append
def Xbc := @Bool.false_ne_true
def Xbd := @Option.some.inj
def Xbe := @if_neg
def Xbf := @if_pos
def Xbg := @Nat.lt_of_lt_of_le
def Xbh := @Nat.le_trans
def Xbi := @Bool.false_eq_true
def Xbj := @List.filterMap_cons
def Xbk := @congrArg
open PySem PySem.Spec PyProof.Rows in
def Xbl := @wpAny_bind
open PySem PySem.Spec PyProof.Rows in
def Xbm := @wpAny_pure
open PySem PySem.Spec PyProof.Rows in
def Xbn := @wpAny_holding
open PySem PySem.Spec PyProof.Rows in
def Xbo := @wpAny_truthy_bool
open PySem PySem.Spec PyProof.Rows in
def Xbp := @Heap.get?_push_of_some
open PySem PySem.Spec PyProof.Rows in
def Xbq := @Heap.lt_size
open PySem PySem.Spec PyProof.Rows in
def Xbr := @Heap.get?_push_size
open PySem PySem.Spec PyProof.Rows in
def Xbs := @PassesOwn.never
open PySem PySem.Spec PyProof.Rows in
def Xbt := @PySem.W.mg_none_of
open PySem PySem.Spec PyProof.Rows in
def Xbu := @PySem.mem_of_lookup
open PySem PySem.Spec PyProof.Rows in
def Xbv := @wpAny_typeOf
open PySem PySem.Spec PyProof.Rows in
def Xbw := @wpAny_mono
open PySem PySem.Spec PyProof.Rows in
def Xbx := @wpAny_seqItems
open PySem PySem.Spec PyProof.Rows in
def Xby := @wpAny_rule
noncomputable section
noncomputable def PySem.W.Fast.tw16693602194948932558:PySem.Program:=PySem.Challenge.pw_namepaths_k27_hidden_ways_and_what_hides
theorem PySem.W.Fast.te16693602194948932558:PySem.Challenge.pw_namepaths_k27_hidden_ways_and_what_hides=PySem.W.Fast.tw16693602194948932558:=rfl
namespace L2
open PySem PySem.Spec PyProof.Rows
noncomputable def Zej (s:Stmt):Arguments:=match s with
 | .FunctionDef _ a _ _ _ _ _ _ _ _=>a
 | _=>{ posonlyargs:=[],args:=[],vararg:=none,kwonlyargs:=[],kw_defaults:=[],kwarg:=none,defaults:=[] }
noncomputable def Zdr (s:Stmt):List Stmt:=match s with
 | .FunctionDef _ _ b _ _ _ _ _ _ _=>b
 | _=>[]
noncomputable def Zaj (s:Stmt):Scope:=match s with
 | .FunctionDef _ _ _ _ _ _ sc _ _ _=>sc
 | _=>{ kind:=.function,names:=[],isGenerator:=false,isCoroutine:=false }
section
open PySem.W PySem.W.Fast
noncomputable def runF (p:Program) (w:World) (N:Nat):Option Shared:=((tw10274390034422433532 tw14364793385576792824 (opening p) w N (PySem.start (opening p)).1 (PySem.start (opening p)).2).bind (tw14289696077712309145 p)).bind fun s₀ =>
 match s₀.heap.isNs mainGlobals && s₀.gens.size == 0 with
 | true=>(tw14082659384304107361 tw14364793385576792824 p w s₀.heap.objs.size (s₀.heap.nsMap mainGlobals "__annotations__") N s₀ (topStub p)).bind fun s₁=>match staticsOk (tw5923862056798008813 p.main.body) s₀.heap s₁.heap && namesBound p s₁.heap && gensDone s₁ && laidKept s₀.heap s₁.heap with
   | true=>some s₁
   | false=>none
 | false=>none
theorem left_of {p q:Program}{loose:List Str}{Xt:Shared→Bool}{α:Type}{Yf:Shared→α}{Ya:World→α}{N:Nat}
 (A:∀ w:World,Option.map (fun s=>tw4187177175401517315 q loose (tw5923862056798008813 p.main.body) Xt true s) (runF p w N)=some (openGood q loose))
 (B:∀ w:World,Option.map Yf (runF p w N)=some (Ya w)):LeftO p q loose Xt Yf Ya N:=by
 intro w;have a:=A w;have b:=B w
 have h:Option.map (fun s=>(tw4187177175401517315 q loose (tw5923862056798008813 p.main.body) Xt true s,Yf s)) (runF p w N)=some (openGood q loose,Ya w):=by
  cases e:runF p w N with
  | none=>rw [e] at a;cases a
  | some s =>
    rw [e] at a b;simp only [Option.map_some] at a b ⊢;rw [Xbd a,Xbd b]
 unfold runF at h;rw [←te14082659384304107361,←te10274390034422433532,←te14364793385576792824,←te4187177175401517315,←te5923862056798008813,←te14289696077712309145] at h;exact h
end
end L2
namespace K27
open PySem PySem.Spec PyProof.Rows PySem.W L2
noncomputable def top (i:Nat):Stmt:=PySem.Challenge.pw_namepaths_k27_hidden_ways_and_what_hides.main.body.getD i (.Pass ⟨0,0,0,0⟩)
abbrev ZcB:Stmt:=top 61
abbrev ZbS:Stmt:=top 60
abbrev Zb9:Stmt:=top 62
abbrev ZcC:Stmt:=top 63
abbrev ZcD:Stmt:=top 64
abbrev Zbe:Stmt:=top 38
abbrev Zcl:Stmt:=top 41
abbrev Zca:Stmt:=top 40
abbrev Zds:Stmt:=top 13
abbrev Zbp:Stmt:=top 39
abbrev ZdK:Stmt:=top 12
abbrev ZdL:Stmt:=top 14
abbrev Zbf:Stmt:=top 42
abbrev ZbT:Stmt:=top 44
abbrev ZbU:Stmt:=top 43
abbrev Zbq:Stmt:=top 27
abbrev Zeu:Stmt:=top 28
abbrev Zbg:Stmt:=top 26
abbrev ZdM:Stmt:=top 24
abbrev ZbB:Stmt:=top 45
abbrev Zc1:Stmt:=top 34
abbrev Zhh:Stmt:=top 37
abbrev Zcb:Stmt:=top 65
abbrev Za9:Stmt:=top 66
abbrev ZdN:Stmt:=top 68
abbrev ZbV:Stmt:=top 67
abbrev Zcm:Stmt:=top 69
abbrev Zev:Stmt:=top 36
abbrev ZbW:Stmt:=top 55
abbrev ZcE:Stmt:=top 35
abbrev ZbF:Stmt:=top 49
abbrev ZfG:Stmt:=top 47
abbrev ZjH:Stmt:=top 48
abbrev ZcF:Stmt:=top 58
abbrev ZaY:Stmt:=top 57
abbrev ZcG:Stmt:=top 52
abbrev ZcH:Stmt:=top 53
abbrev Zcc:Stmt:=top 56
abbrev Zdb:Stmt:=top 54
abbrev Zcn:Stmt:=top 74
abbrev Zco:Stmt:=top 70
abbrev Za2:Stmt:=top 71
abbrev ZbC:Stmt:=top 20
abbrev Zew:Stmt:=top 21
abbrev ZdO:Stmt:=top 16
abbrev Zcd:Stmt:=top 22
abbrev Zcp:Stmt:=top 18
abbrev Zce:Stmt:=top 19
abbrev ZcI:Stmt:=top 72
abbrev ZcJ:Stmt:=top 73
abbrev ZcK:Stmt:=top 75
abbrev ZdP:Stmt:=top 76
abbrev Za6:Stmt:=top 77
abbrev Zh5:Stmt:=top 78
noncomputable def own:Stmt→Bool
 | .Assign [.Name x _] _ _=>x != "__name__"
 | _=>true
noncomputable def view:Program:={ PySem.Challenge.pw_namepaths_k27_hidden_ways_and_what_hides with main:={ PySem.Challenge.pw_namepaths_k27_hidden_ways_and_what_hides.main with body:=PySem.Challenge.pw_namepaths_k27_hidden_ways_and_what_hides.main.body.filter own } }
noncomputable abbrev Fx (K:Frag) (x:Str) (st:Stmt):Prop:=∃ (f:Addr) (oc:Value) (od an:Option Addr) (osl:Array (Option Value)) (kV doc pm cdv ct:Value),nsIn K mainGlobals x=some (some (.ref f))∧K.lookup f=some ⟨oc,od,.func (fnOf x x (Zej st) (Zdr st) (Zaj st) .none kV doc pm an cdv ct),osl⟩∧codeIn K cdv x=true∧keepIn K (.ref f)=true
theorem fx_mk {K:Frag}{x:Str}{st:Stmt}{f:Addr}{oc:Value}{od an:Option Addr}{osl:Array (Option Value)} {kV doc pm cdv ct:Value} (a:nsIn K mainGlobals x=some (some (.ref f))) (l:K.lookup f=some ⟨oc,od,.func (fnOf x x (Zej st) (Zdr st) (Zaj st) .none kV doc pm an cdv ct),osl⟩) (c:codeIn K cdv x=true) (k:keepIn K (.ref f)=true):Fx K x st:=⟨f,oc,od,an,osl,kV,doc,pm,cdv,ct,a,l,c,k⟩
theorem y_mk {K:Frag}{x:Str}{v:Int}{t:Tok} (h:nsIn K mainGlobals x=some (some (.int v t))):∃ t,nsIn K mainGlobals x=some (some (.int v t)):=⟨t,h⟩
structure Facts (K:Frag):Prop where
 q0:Fx K "_law_words" ZcB
 q1:Fx K "_law_cell_at" ZbS
 q2:Fx K "_law_stream" Zb9
 q3:Fx K "_law_under" ZcC
 q4:Fx K "_law_table" ZcD
 q5:Fx K "refuse_too_great" Zbe
 q6:Fx K "labels_of" Zcl
 q7:Fx K "labels_told" Zca
 q8:Fx K "is_name" Zds
 q9:Fx K "refuse_no_names" Zbp
 q10:Fx K "is_whole" ZdK
 q11:Fx K "is_place" ZdL
 q12:Fx K "refuse_no_places" Zbf
 q13:Fx K "is_one_twice" ZbT
 q14:Fx K "refuse_twice" ZbU
 q15:Fx K "worse_by_better" Zbq
 q16:Fx K "reached" Zeu
 q17:Fx K "all_that_follows" Zbg
 q18:Fx K "order_of" ZdM
 q19:Fx K "sorted_state" ZbB
 q20:Fx K "table_of" Zc1
 q21:Fx K "usual" Zhh
 q22:Fx K "_law_things" Zcb
 q23:Fx K "_law_questions" Za9
 q24:Fx K "_law_lay" ZdN
 q25:Fx K "_law_answers" ZbV
 q26:Fx K "_law_case" Zcm
 q27:Fx K "has_end" Zev
 q28:Fx K "found_behind" ZbW
 q29:Fx K "next_state" ZcE
 q30:Fx K "inside_of_sort" ZbF
 q31:Fx K "inside" ZfG
 q32:Fx K "goal" ZjH
 q33:Fx K "steps_gone" ZcF
 q34:Fx K "longer_by_a_step" ZaY
 q35:Fx K "beginnings" ZcG
 q36:Fx K "found_ways" ZcH
 q37:Fx K "owed_behind" Zcc
 q38:Fx K "owed_ways" Zdb
 q39:Fx K "_law_ways" Zcn
 q40:Fx K "_law_copy" Zco
 q41:Fx K "_law_copy_table" Za2
 q42:Fx K "better_pairs" ZbC
 q43:Fx K "tree_of" Zew
 q44:Fx K "label_at" ZdO
 q45:Fx K "first_hider" Zcd
 q46:Fx K "seen_ways" Zcp
 q47:Fx K "hidden_ways" Zce
 q48:Fx K "_law_label" ZcI
 q49:Fx K "_law_hides" ZcJ
 q50:Fx K "_law_first" ZcK
 q51:Fx K "_law_row" ZdP
 q52:Fx K "_law_right" Za6
 q53:Fx K "law" Zh5
 z_all:nsIn K mainGlobals "all" = some none
 z_bool:nsIn K mainGlobals "bool" = some none
 z_dict:nsIn K mainGlobals "dict" = some none
 z_enumerate:nsIn K mainGlobals "enumerate" = some none
 z_int:nsIn K mainGlobals "int" = some none
 z_isinstance:nsIn K mainGlobals "isinstance" = some none
 z_len:nsIn K mainGlobals "len" = some none
 z_list:nsIn K mainGlobals "list" = some none
 z_min:nsIn K mainGlobals "min" = some none
 z_range:nsIn K mainGlobals "range" = some none
 z_reversed:nsIn K mainGlobals "reversed" = some none
 z_set:nsIn K mainGlobals "set" = some none
 z_sorted:nsIn K mainGlobals "sorted" = some none
 z_str:nsIn K mainGlobals "str" = some none
 z_tuple:nsIn K mainGlobals "tuple" = some none
 z_zip:nsIn K mainGlobals "zip" = some none
 y_LONGEST_NAME:∃ t,nsIn K mainGlobals "LONGEST_NAME" = some (some (.int 8 t))
 y_MOST_BEGINNINGS:∃ t,nsIn K mainGlobals "MOST_BEGINNINGS" = some (some (.int 200 t))
 y_MOST_ENDS:∃ t,nsIn K mainGlobals "MOST_ENDS" = some (some (.int 8 t))
 y_MOST_GOES:∃ t,nsIn K mainGlobals "MOST_GOES" = some (some (.int 8 t))
 y_MOST_PAIRS:∃ t,nsIn K mainGlobals "MOST_PAIRS" = some (some (.int 40 t))
 y_MOST_STATES:∃ t,nsIn K mainGlobals "MOST_STATES" = some (some (.int 8 t))
theorem run_seen (w:World):Option.map (fun s=>Fast.tw4187177175401517315 view [] (Fast.tw5923862056798008813 PySem.Challenge.pw_namepaths_k27_hidden_ways_and_what_hides.main.body) (fun s=>xlAt view [] s && recOk [] s) true s) (runF PySem.Challenge.pw_namepaths_k27_hidden_ways_and_what_hides w 40000)=some (openGood view []):=by kernel_rfl
end K27
section
open PySem PySem.W PyProof.Rows
local macro_rules | `(tactic| o_head $H:term) => `(tactic| refine holds_open (q := K27.view) (loose := []) (Xt := fun s => xlAt K27.view [] s && recOk [] s) (XP := XL K27.view []) (Yf := Hook.obs $H) (Ya := Hook.val $H) (YP := Hook.says $H) (N := 40000) ?hl (Hook.of $H) (Hook.keeps $H) (fun s e => xl_of s (Bool.and_eq_true_iff.mp e).1) XL.keeps (by rfl) (by rfl) (by rfl) (fun s e => recFacts_of (Bool.and_eq_true_iff.mp e).2) (by rfl) (by first | assumption | decide +kernel) (by decide +kernel) ⟨rfl, rfl, rfl, rfl, rfl, by decide +kernel⟩ ?hw ?hc)
set_option maxHeartbeats 0 in
theorem K27.hd (hyp:∀ K:Params→Frag,(∀ w:World,K27.Facts (K w.params))→∀ (YP:World→Heap→Prop) (d:DefRec),d.params.defaults=[]→d.name = "law" → (∀ (w:World) (h:Heap),YP w h→(K w.params).In h)→WalkO K27.view [] (XL K27.view []) YP PySem.Challenge.rw_namepaths_k27_hidden_ways_and_what_hides.row.toRowW d [] (fun f vs=>PySem.call f vs)):PySem.Challenge.rw_namepaths_k27_hidden_ways_and_what_hides.Holds:=by
 w_on;o_law;k_head
 case hl =>
  refine L2.left_of K27.run_seen fun w=>?_
  kernel_rfl
 case hw=>w_witness2
 k_fill
 refine hyp _ (fun w=>?fx) _ _ rfl rfl (fun w h Y=>PySem.W.kIn_of Y)
 case fx =>
  refine' ⟨K27.fx_mk ?a0 ?l0 ?c0 ?k0,K27.fx_mk ?a1 ?l1 ?c1 ?k1,K27.fx_mk ?a2 ?l2 ?c2 ?k2,K27.fx_mk ?a3 ?l3 ?c3 ?k3,K27.fx_mk ?a4 ?l4 ?c4 ?k4,K27.fx_mk ?a5 ?l5 ?c5 ?k5,K27.fx_mk ?a6 ?l6 ?c6 ?k6,K27.fx_mk ?a7 ?l7 ?c7 ?k7,K27.fx_mk ?a8 ?l8 ?c8 ?k8,K27.fx_mk ?a9 ?l9 ?c9 ?k9,K27.fx_mk ?a10 ?l10 ?c10 ?k10,K27.fx_mk ?a11 ?l11 ?c11 ?k11,K27.fx_mk ?a12 ?l12 ?c12 ?k12,K27.fx_mk ?a13 ?l13 ?c13 ?k13,K27.fx_mk ?a14 ?l14 ?c14 ?k14,K27.fx_mk ?a15 ?l15 ?c15 ?k15,K27.fx_mk ?a16 ?l16 ?c16 ?k16,K27.fx_mk ?a17 ?l17 ?c17 ?k17,K27.fx_mk ?a18 ?l18 ?c18 ?k18,K27.fx_mk ?a19 ?l19 ?c19 ?k19,K27.fx_mk ?a20 ?l20 ?c20 ?k20,K27.fx_mk ?a21 ?l21 ?c21 ?k21,K27.fx_mk ?a22 ?l22 ?c22 ?k22,K27.fx_mk ?a23 ?l23 ?c23 ?k23,K27.fx_mk ?a24 ?l24 ?c24 ?k24,K27.fx_mk ?a25 ?l25 ?c25 ?k25,K27.fx_mk ?a26 ?l26 ?c26 ?k26,K27.fx_mk ?a27 ?l27 ?c27 ?k27,K27.fx_mk ?a28 ?l28 ?c28 ?k28,K27.fx_mk ?a29 ?l29 ?c29 ?k29,K27.fx_mk ?a30 ?l30 ?c30 ?k30,K27.fx_mk ?a31 ?l31 ?c31 ?k31,K27.fx_mk ?a32 ?l32 ?c32 ?k32,K27.fx_mk ?a33 ?l33 ?c33 ?k33,K27.fx_mk ?a34 ?l34 ?c34 ?k34,K27.fx_mk ?a35 ?l35 ?c35 ?k35,K27.fx_mk ?a36 ?l36 ?c36 ?k36,K27.fx_mk ?a37 ?l37 ?c37 ?k37,K27.fx_mk ?a38 ?l38 ?c38 ?k38,K27.fx_mk ?a39 ?l39 ?c39 ?k39,K27.fx_mk ?a40 ?l40 ?c40 ?k40,K27.fx_mk ?a41 ?l41 ?c41 ?k41,K27.fx_mk ?a42 ?l42 ?c42 ?k42,K27.fx_mk ?a43 ?l43 ?c43 ?k43,K27.fx_mk ?a44 ?l44 ?c44 ?k44,K27.fx_mk ?a45 ?l45 ?c45 ?k45,K27.fx_mk ?a46 ?l46 ?c46 ?k46,K27.fx_mk ?a47 ?l47 ?c47 ?k47,K27.fx_mk ?a48 ?l48 ?c48 ?k48,K27.fx_mk ?a49 ?l49 ?c49 ?k49,K27.fx_mk ?a50 ?l50 ?c50 ?k50,K27.fx_mk ?a51 ?l51 ?c51 ?k51,K27.fx_mk ?a52 ?l52 ?c52 ?k52,K27.fx_mk ?a53 ?l53 ?c53 ?k53,?z_all,?z_bool,?z_dict,?z_enumerate,?z_int,?z_isinstance,?z_len,?z_list,?z_min,?z_range,?z_reversed,?z_set,?z_sorted,?z_str,?z_tuple,?z_zip,K27.y_mk ?y_LONGEST_NAME,K27.y_mk ?y_MOST_BEGINNINGS,K27.y_mk ?y_MOST_ENDS,K27.y_mk ?y_MOST_GOES,K27.y_mk ?y_MOST_PAIRS,K27.y_mk ?y_MOST_STATES⟩
  case a0 | l0 | c0 | k0 | a1 | l1 | c1 | k1 | a2 | l2 | c2 | k2 | a3 | l3 | c3 | k3 | a4 | l4 | c4 | k4 | a5 | l5 | c5 | k5 | a6 | l6 | c6 | k6 | a7 | l7 | c7 | k7 | a8 | l8 | c8 | k8 | a9 | l9 | c9 | k9 | a10 | l10 | c10 | k10 | a11 | l11 | c11 | k11 | a12 | l12 | c12 | k12 | a13 | l13 | c13 | k13 | a14 | l14 | c14 | k14 | a15 | l15 | c15 | k15 | a16 | l16 | c16 | k16 | a17 | l17 | c17 | k17 | a18 | l18 | c18 | k18 | a19 | l19 | c19 | k19 | a20 | l20 | c20 | k20 | a21 | l21 | c21 | k21 | a22 | l22 | c22 | k22 | a23 | l23 | c23 | k23 | a24 | l24 | c24 | k24 | a25 | l25 | c25 | k25 | a26 | l26 | c26 | k26 | a27 | l27 | c27 | k27 | a28 | l28 | c28 | k28 | a29 | l29 | c29 | k29 | a30 | l30 | c30 | k30 | a31 | l31 | c31 | k31 | a32 | l32 | c32 | k32 | a33 | l33 | c33 | k33 | a34 | l34 | c34 | k34 | a35 | l35 | c35 | k35 | a36 | l36 | c36 | k36 | a37 | l37 | c37 | k37 | a38 | l38 | c38 | k38 | a39 | l39 | c39 | k39 | a40 | l40 | c40 | k40 | a41 | l41 | c41 | k41 | a42 | l42 | c42 | k42 | a43 | l43 | c43 | k43 | a44 | l44 | c44 | k44 | a45 | l45 | c45 | k45 | a46 | l46 | c46 | k46 | a47 | l47 | c47 | k47 | a48 | l48 | c48 | k48 | a49 | l49 | c49 | k49 | a50 | l50 | c50 | k50 | a51 | l51 | c51 | k51 | a52 | l52 | c52 | k52 | a53 | l53 | c53 | k53 | z_all | z_bool | z_dict | z_enumerate | z_int | z_isinstance | z_len | z_list | z_min | z_range | z_reversed | z_set | z_sorted | z_str | z_tuple | z_zip | y_LONGEST_NAME | y_MOST_BEGINNINGS | y_MOST_ENDS | y_MOST_GOES | y_MOST_PAIRS | y_MOST_STATES=>k_is
end
set_option Elab.async false
set_option linter.all false
set_option maxRecDepth 100000
namespace L2
open PySem PySem.Spec PyProof.Rows
abbrev Key:=Sum Int Str
def Zi5:Key→Value→Bool
 | .inl k,v=>Value.isInt k v
 | .inr x,v=>Value.isStrOf x v
def keyH (w:World):Key→Int
 | .inl k=>hashInt k
 | .inr x=>hashStr w x
theorem Za8:∀ {k:Key}{v:Value},Zi5 k v=true→(∃ i t,k=Sum.inl i∧v=Value.int i t)∨(∃ x t,k=Sum.inr x∧v=Value.str x t)
 | .inl i,v,h=>by
   obtain ⟨t,e⟩:=Value.isInt_shape (k:=i) (v:=v) h;exact .inl ⟨i,t,rfl,e⟩
 | .inr x,v,h=>by
   obtain ⟨t,e⟩:=Value.isStrOf_shape (x:=x) (v:=v) h;exact .inr ⟨x,t,rfl,e⟩
theorem Zk1 (i:Int) (t:Tok):Zi5 (.inl i) (.int i t)=true:=by simp [Zi5,Value.isInt]
theorem Zk2 (x:Str) (t:Tok):Zi5 (.inr x) (.str x t)=true:=by simp [Zi5,Value.isStrOf]
theorem key_ll (a b:Int):decide ((Sum.inl a:Key)=Sum.inl b)=(a == b):=by
 by_cases e:a=b
 · subst e;simp
 · have h:¬(Sum.inl a:Key)=Sum.inl b:=fun q=>e (Sum.inl.inj q)
   rw [Xa7 h];exact (beq_eq_false_iff_ne.mpr e).symm
theorem key_rr (a b:Str):decide ((Sum.inr a:Key)=Sum.inr b)=decide (a=b):=by
 by_cases e:a=b
 · subst e;simp
 · have h:¬(Sum.inr a:Key)=Sum.inr b:=fun q=>e (Sum.inr.inj q)
   rw [Xa7 h,Xa7 e]
theorem key_lr (a:Int) (b:Str):decide ((Sum.inl a:Key)=Sum.inr b)=false:=Xa7 (fun q=>nomatch q)
theorem key_rl (a:Str) (b:Int):decide ((Sum.inr a:Key)=Sum.inl b)=false:=Xa7 (fun q=>nomatch q)
def ZaU (prog : Program) (w : World) : PySem.KeyKind prog w Key where
 is:=Zi5
 hash:=keyH w
 inj:=fun v a b ha hb=>by
  rcases Za8 ha with ⟨i,t,rfl,rfl⟩ | ⟨x,t,rfl,rfl⟩
  · rcases Za8 hb with ⟨j,u,rfl,e⟩ | ⟨y,u,rfl,e⟩
    · injection e with e1 _;rw [e1]
    · exact nomatch e
  · rcases Za8 hb with ⟨j,u,rfl,e⟩ | ⟨y,u,rfl,e⟩
    · exact nomatch e
    · injection e with e1 _;rw [e1]
 byValue:=fun k v h=>by
  rcases Za8 h with ⟨i,t,rfl,rfl⟩ | ⟨x,t,rfl,rfl⟩ <;> rfl
 pyHash:=fun hv h=>by
  rcases Za8 hv with ⟨i,t,rfl,rfl⟩ | ⟨x,t,rfl,rfl⟩
  · exact wpAny_pyHash_int h
  · exact wpAny_pyHash_str h
 eqBool:=fun hu hv h=>by
  rcases Za8 hu with ⟨i,t,rfl,rfl⟩ | ⟨x,t,rfl,rfl⟩
  · rcases Za8 hv with ⟨j,u,rfl,rfl⟩ | ⟨y,u,rfl,rfl⟩
    · rw [key_ll] at h;exact wpAny_eqBool_int h
    · rw [key_lr] at h;exact SeqAt.EqAt.int_str i t y u _ _ _ _ h
  · rcases Za8 hv with ⟨j,u,rfl,rfl⟩ | ⟨y,u,rfl,rfl⟩
    · rw [key_rl] at h;exact SeqAt.EqAt.str_int x t j u _ _ _ _ h
    · rw [key_rr] at h;exact wpAny_eqBool_str h
 «strs»:=fun k x t v h=>by
  rcases Za8 h with ⟨i,u,rfl,e⟩ | ⟨y,u,rfl,e⟩
  · exact nomatch e
  · injection e with e1 _
    subst e1
    cases v <;> rfl
theorem Zi6 (prog:Program) (w:World) (i:Int) (t:Tok):(ZaU prog w).is (.inl i) (.int i t)=true:=Zk1 i t
theorem Zi7 (prog:Program) (w:World) (x:Str) (t:Tok):(ZaU prog w).is (.inr x) (.str x t)=true:=Zk2 x t
inductive V where
 | non | bl (b:Bool) | int (i:Int) | str (x:Str) | byt (b:Array UInt8) | flt (b:UInt64) | ref (a:Addr) | ty (n:String)
 deriving DecidableEq
def RelV:V→Value→Prop
 | .non,u=>u=Value.none
 | .bl b,u=>u=Value.bool b
 | .int i,u=>∃ t,u=Value.int i t
 | .str x,u=>∃ t,u=Value.str x t
 | .byt b,u=>∃ t,u=Value.bytes b t
 | .flt b,u=>∃ t,u=Value.float b t
 | .ref a,u=>u=Value.ref a
 | .ty n,u=>u=Value.type n
abbrev Vals:List V→List Value→Prop:=Paired RelV
theorem Vals.length {xs:List V}{us:List Value} (r:Vals xs us):xs.length=us.length:=Paired.length r
theorem Vals.get:∀ {xs:List V}{us:List Value}{i:Nat}{x:V},Vals xs us→xs[i]?=some x→∃ u,us[i]?=some u∧RelV x u
 | _,_,_,_,.nil,e=>by simp at e
 | _,_,0,_,.cons r _,e=>by simp at e;subst e;exact ⟨_,rfl,r⟩
 | _,_,i+1,x,.cons _ t,e=>by
   obtain ⟨u,h1,h2⟩:=Vals.get (i:=i) (x:=x) t (by simpa using e);exact ⟨u,by simpa using h1,h2⟩
theorem Vals.set {x:V}{u:Value} (r:RelV x u):∀ {xs:List V} {us:List Value} (i:Nat),Vals xs us→Vals (xs.set i x) (us.set i u)
 | _,_,_,.nil=>.nil
 | _,_,0,.cons _ t=>.cons r t
 | _,_,i+1,.cons q t=>.cons q (Vals.set r i t)
theorem Vals.append:∀ {xs ys:List V}{us ws:List Value},Vals xs us→Vals ys ws→Vals (xs++ys) (us++ws)
 | _,_,_,_,.nil,s=>s
 | _,_,_,_,.cons r t,s=>.cons r (Vals.append t s)
theorem Vals.take:∀ {xs:List V}{us:List Value} (n:Nat),Vals xs us→Vals (xs.take n) (us.take n)
 | _,_,0,_=>.nil
 | _,_,_+1,.nil=>.nil
 | _,_,n+1,.cons r t=>.cons r (Vals.take n t)
theorem Vals.drop:∀ {xs:List V}{us:List Value} (n:Nat),Vals xs us→Vals (xs.drop n) (us.drop n)
 | _,_,0,r=>r
 | _,_,_+1,.nil=>.nil
 | _,_,n+1,.cons _ t=>Vals.drop n t
def RelO:Option V→Option Value→Prop
 | some v,some u=>RelV v u
 | none,none=>True
 | _,_=>False
def KV {κ:Type}:List (κ×V)→List (κ×Value)→Prop:=Paired fun (p:κ×V) (q:κ×Value)=>p.1=q.1∧RelV p.2 q.2
def kV:Key→V
 | .inl i=>.int i
 | .inr x=>.str x
inductive HO where
 | lst (xs:List V)
 | tup (xs:List V)
 | dK (kvs:List (Key×V)) | dT (kvs:List (List Key×V))
 | set (S:Int→Bool) (n:Nat)
 | ins (C dx:Addr) (fs:List (Str×V))
 | own (x:Addr)
 | xd (fs:List (Str×V))
 | met (f x:Addr)
 | rng (lo hi:Int)
 | frz (o:Obj) (u:HO)
 | tbl (ps:Array Value)
 | ext (φ:Heap→Prop)
abbrev Hp:=Addr→Option HO
def upd (H:Hp) (a:Addr) (o:HO):Hp:=fun b=>if b=a then some o else H b
theorem upd_same {H:Hp}{a:Addr}{o:HO}:upd H a o a=some o:=by unfold upd;rw [Xbf rfl]
theorem Zah {H:Hp}{a b:Addr}{o:HO} (h:b≠a):upd H a o b=H b:=by unfold upd;rw [Xbe h]
theorem upd_upd {H:Hp}{a:Addr}{o u:HO}:upd (upd H a o) a u=upd H a u:=by
 funext b;unfold upd;split <;> rfl
theorem ZfN {H:Hp}{a b:Addr}{o u:HO} (h:H a=some o) (h':H b=some u) (d:o≠u):a≠b:=by
 intro e;subst e;rw [h] at h';exact d (Xbd h')
theorem Zac {H:Hp}{a b:Addr}{o:HO} (h:H a=some o) (h':H b=none):a≠b:=by
 intro e;subst e;rw [h] at h';cases h'
section
variable (P:Program) (w:World)
def ObjOk (H:Hp) (h:Heap) (a:Addr):HO→Prop
 | .lst xs=>xs.length≤sizeLine∧∃ (its:List Value) (n:Nat),Vals xs its∧h.get? a=some { cls:=.type "list",data:=.seq its.toArray n }
 | .tup xs=>xs.length≤sizeLine∧∃ its:List Value,Vals xs its∧IsTup h a its.toArray
 | .dK kvs=>kvs.length≤sizeLine∧(a == sysModules)=false∧∃ vs,KV kvs vs∧h.DictOf (ZaU P w) a vs
 | .dT kvs=>kvs.length≤sizeLine∧(a == sysModules)=false∧∃ xs:List (List Key×Addr×Value),
  Paired (fun (p:List Key×V) (q:List Key×Addr×Value)=>p.1=q.1∧H q.2.1=some (.tup (p.1.map kV))∧RelV p.2 q.2.2) kvs xs ∧
  ∃ o es ep,h.get? a=some o∧o.ExactDict∧o.data=.dict es ep∧es.toList=xs.map (entryOfKey (tupleKind (ZaU P w)))∧(xs.map (·.1)).Nodup
 | .set S n=>h.SetOf (intKind P w) a S n
 | .ins C dx fs=>H dx=some (.own a)∧fs.length≤1000∧dx≠a∧h.get? a=some (PySem.W.instObj C dx) ∧
  ∃ mA,h.Ns1 dx mA∧(∀ f,RelO (fs.lookup f) (mA f))∧PySem.Within mA (fs.map (·.1))
 | .own _=>∃ o,h.get? a=some o
 | .xd fs=>∃ mA,h.Ns1 a mA∧∀ f,RelO (fs.lookup f) (mA f)
 | .rng lo hi=>∃ t u v,h.get? a=some { cls:=.type "range",data:=.fields #[.int lo t,.int hi u,.int 1 v] }
 | .frz o u=>h.get? a=some o∧ObjOk H h a u
 | .tbl ps=>h.get? a=some { cls:=.none,data:=.fields ps }
 | .met f x=>h.get? a=some (PySem.W.methodObj (.ref f) (.ref x))
 | .ext φ=>φ h∧(∃ o,h.get? a=some o)∧∀ h1 h2:Heap,φ h1→(∀ o,h1.get? a=some o→h2.get? a=some o)→φ h2
def HOk (H:Hp) (h:Heap):Prop:=∀ a o,H a=some o→ObjOk P w H h a o
end
section
variable {P:Program} {w:World} {H H':Hp} {h h':Heap} {a:Addr} {o:HO}
theorem ObjOk.lt (x:ObjOk P w H h a o):a<h.objs.size:=by
 cases o with
 | lst xs=>obtain ⟨_,_,_,_,e⟩:=x;exact Xbq e
 | tup xs=>obtain ⟨_,_,_,p⟩:=x;exact p.lt
 | dK kvs=>obtain ⟨_,_,_,_,o,_,_,e,_⟩:=x;exact Xbq e
 | dT kvs=>obtain ⟨_,_,_,_,o,_,_,e,_⟩:=x;exact Xbq e
 | set S n=>obtain ⟨o,_,_,_,e,_⟩:=x;exact Xbq e
 | ins C dx fs=>obtain ⟨_,_,_,e,_⟩:=x;exact Xbq e
 | own y=>obtain ⟨_,e⟩:=x;exact Xbq e
 | xd fs=>obtain ⟨_,⟨_,_,_,e,_⟩,_⟩:=x;exact Xbq e
 | rng lo hi=>obtain ⟨_,_,_,e⟩:=x;exact Xbq e
 | frz ob u=>obtain ⟨e,_⟩:=x;exact Xbq e
 | tbl ps=>exact Xbq (show h.get? a=some _ from x)
 | met f y=>exact Xbq (show h.get? a=some _ from x)
 | ext φ=>obtain ⟨_,⟨_,e⟩,_⟩:=x;exact Xbq e
theorem Paired.mapP {α β:Type}{F G:α→β→Prop}:∀ {l₁:List α}{l₂:List β},Paired F l₁ l₂→(∀ a b,F a b→G a b)→Paired G l₁ l₂
 | _,_,.nil,_=>.nil
 | _,_,.cons r t,f=>.cons (f _ _ r) (Paired.mapP t f)
theorem ObjOk.stay (x:ObjOk P w H h a o) (k:∀ b u,(b=a∨H b=some (.own a))→h.get? b=some u→h'.get? b=some u)
 (ho:∀ b,H b=some (.own a)→H' b=some (.own a)) (ht:∀ b xs,H b=some (.tup xs)→H' b=some (.tup xs)):ObjOk P w H' h' a o:=by
 induction o with
 | lst xs=>obtain ⟨z,its,n,r,e⟩:=x;exact ⟨z,its,n,r,k _ _ (.inl rfl) e⟩
 | tup xs=>obtain ⟨z,its,r,ob,e,c⟩:=x;exact ⟨z,its,r,ob,k _ _ (.inl rfl) e,c⟩
 | dK kvs=>obtain ⟨z,y,vs,r,ob,es,ep,e,c⟩:=x;exact ⟨z,y,vs,r,ob,es,ep,k _ _ (.inl rfl) e,c⟩
 | dT kvs =>
   obtain ⟨z,y,xs,r,ob,es,ep,e,c⟩:=x;exact ⟨z,y,xs,Paired.mapP r fun p q z=>⟨z.1,ht _ _ z.2.1,z.2.2⟩,ob,es,ep,k _ _ (.inl rfl) e,c⟩
 | set S n=>obtain ⟨ob,es,ep,t,e,c⟩:=x;exact ⟨ob,es,ep,t,k _ _ (.inl rfl) e,c⟩
 | ins C dx fs =>
   obtain ⟨d,z,ne,e,mA,⟨od,es,ep,e2,c⟩,r⟩:=x;exact ⟨ho _ d,z,ne,k _ _ (.inl rfl) e,mA,⟨od,es,ep,k _ _ (.inr d) e2,c⟩,r⟩
 | own y=>obtain ⟨ob,e⟩:=x;exact ⟨ob,k _ _ (.inl rfl) e⟩
 | xd fs=>obtain ⟨mA,⟨od,es,ep,e,c⟩,r⟩:=x;exact ⟨mA,⟨od,es,ep,k _ _ (.inl rfl) e,c⟩,r⟩
 | rng lo hi=>obtain ⟨t,u,v,e⟩:=x;exact ⟨t,u,v,k _ _ (.inl rfl) e⟩
 | frz ob u ih=>obtain ⟨e,q⟩:=x;exact ⟨k _ _ (.inl rfl) e,ih q⟩
 | tbl ps =>
   have e:h.get? a=some { cls:=.none,data:=.fields ps }:=x;show h'.get? a=some { cls:=.none,data:=.fields ps };exact k a _ (.inl rfl) e
 | met f y =>
   have e:h.get? a=some (PySem.W.methodObj (.ref f) (.ref y)):=x;show h'.get? a=some (PySem.W.methodObj (.ref f) (.ref y));exact k a _ (.inl rfl) e
 | ext φ=>obtain ⟨p,⟨o,e⟩,st⟩:=x;exact ⟨st _ _ p fun o q=>k _ _ (.inl rfl) q,⟨o,k _ _ (.inl rfl) e⟩,st⟩
theorem HOk.lt (x:HOk P w H h) (e:H a=some o):a<h.objs.size:=(x a o e).lt
theorem HOk.fresh (x:HOk P w H h) (e:h.objs.size≤a):H a=none:=by
 cases q:H a with
 | none=>rfl
 | some u=>exact absurd (Xbg (x.lt q) e) (XaX _)
theorem HOk.kept (x:HOk P w H h) (k:∀ b u,h.get? b=some u→h'.get? b=some u):HOk P w H h':=fun a o e =>
 (x a o e).stay (fun b u _ q=>k b u q) (fun _ q=>q) fun _ _ q=>q
theorem HOk.laid (x:HOk P w H h) (k:∀ b u,h.get? b=some u→h'.get? b=some u) (hp:h.objs.size≤a) (new:ObjOk P w (upd H a o) h' a o):HOk P w (upd H a o) h':=fun b u e=>by
 have hn:=x.fresh hp
 by_cases hb:b=a
 · subst hb;rw [upd_same] at e;cases e;exact new
 · rw [Zah hb] at e
   exact (x b u e).stay (fun c v _ q=>k c v q) (fun c q=>by rw [Zah (Zac q hn)];exact q) fun c xs q=>by rw [Zah (Zac q hn)];exact q
end
def Rd (H:Hp) (a:Addr) (u:HO):Prop:=H a=some u∨∃ o,H a=some (.frz o u)
theorem Rd.ok {P:Program}{w:World}{H:Hp}{h:Heap}{a:Addr}{u:HO} (r:Rd H a u) (x:HOk P w H h):ObjOk P w H h a u:=by
 rcases r with r | ⟨o,r⟩
 · exact x a u r
 · obtain ⟨_,q⟩:=x a _ r
   exact q
def Mut:Option HO→Prop
 | some (.lst _)=>True
 | some (.dK _)=>True
 | some (.dT _)=>True
 | some (.set _ _)=>True
 | some (.ins _ _ _)=>True
 | some (.ext _)=>True
 | _=>False
section
variable {P:Program} {w:World} {H:Hp} {h h':Heap} {x e:Addr} {o':HO}
theorem HOk.write (ok:HOk P w H h) (mu:Mut (H x)) (he:e=x∨H e=some (.own x)) (k:∀ b u,b≠e→h.get? b=some u→h'.get? b=some u) (heo:∃ u,h'.get? e=some u)
 (new:ObjOk P w (upd H x o') h' x o'):HOk P w (upd H x o') h':=fun b u q=>by
 have nown:∀ c y,H c=some (.own y)→c≠x:=fun c y r z=>by subst z;rw [r] at mu;exact mu
 have ntup:∀ c xs,H c=some (.tup xs)→c≠x:=fun c xs r z=>by subst z;rw [r] at mu;exact mu
 by_cases hb:b=x
 · subst hb;rw [upd_same] at q;cases q;exact new
 · rw [Zah hb] at q
   by_cases hbe:b=e
   · have q':H b=some (.own x):=by
      rcases he with z | z
      · exact absurd (hbe.trans z) hb
      · rw [hbe];exact z
     rw [q] at q';cases q';obtain ⟨v,hv⟩:=heo;exact ⟨v,by rw [hbe];exact hv⟩
   · refine (ok b u q).stay (fun c v hc r=>k c v ?_ r) (fun c r=>by rw [Zah (nown c b r)];exact r) fun c xs r=>by rw [Zah (ntup c xs r)];exact r
     rcases hc with rfl | hc
     · exact hbe
     · rintro rfl
       rcases he with z | z
       · exact nown c b hc z
       · rw [hc] at z;cases z;exact hb rfl
end
structure Un (fs ex:List Addr) (H H':Hp) (h h':Heap):Prop where
 keep:∀ b o,h.get? b=some o→H b=none→b ∉ fs→b ∉ ex→h'.get? b=some o
 slot:∀ b o,h.get? b=some o→H b=none→b∈fs→b ∉ ex→∃ sl,h'.get? b=some { o with slots:=sl }
 free:∀ b o,h.get? b=some o→H b=none→b ∉ ex→H' b=none
 there:∀ b o,h.get? b=some o→b ∉ ex→∃ o',h'.get? b=some o'
 tups:∀ b xs,H b=some (.tup xs)→H' b=some (.tup xs)
 frzs:∀ b o u,H b=some (.frz o u)→H' b=some (.frz o u)
 tbls:∀ b ps,H b=some (.tbl ps)→∃ more,H' b=some (.tbl (ps++more))
section
variable {fs fs' ex ex':List Addr} {H H1 H2:Hp} {h h1 h2 h':Heap} {a x e:Addr} {o:HO}
theorem Un.any (u:Un fs ex H H1 h h1) {b:Addr} {ob:Obj} (q:h.get? b=some ob) (n:H b=none) (hx:b ∉ ex):∃ sl,h1.get? b=some { ob with slots:=sl }:=by
 by_cases hb:b∈fs
 · exact u.slot b ob q n hb hx
 · exact ⟨ob.slots,u.keep b ob q n hb hx⟩
theorem Un.kept (k:∀ b u,h.get? b=some u→h'.get? b=some u):Un fs ex H H h h' :=
 ⟨fun b ob q _ _ _=>k b ob q,fun b ob q _ _ _=>⟨ob.slots,k b ob q⟩,fun _ _ _ n _=>n,fun b ob q _=>⟨ob,k b ob q⟩,fun _ _ q=>q,fun _ _ _ q=>q,fun _ ps q=>⟨#[],by rw [q];simp⟩⟩
theorem Un.refl:Un fs ex H H h h:=Un.kept fun _ _ q=>q
theorem Un.laid (k:∀ b u,h.get? b=some u→h'.get? b=some u) (hp:h.objs.size≤a) (hn:H a=none):Un fs ex H (upd H a o) h h' where
 keep:=fun b u q _ _ _=>k b u q
 slot:=fun b u q _ _ _=>⟨u.slots,k b u q⟩
 free:=fun b u q n _=>by rw [Zah (XaZ (Xbg (Xbq q) hp))];exact n
 there:=fun b u q _=>⟨u,k b u q⟩
 tups:=fun b xs q=>by rw [Zah (Zac q hn)];exact q
 frzs:=fun b u xs q=>by rw [Zah (Zac q hn)];exact q
 tbls:=fun b ps q=>⟨#[],by rw [Zah (Zac q hn),q];simp⟩
theorem Un.write (mu:Mut (H x)) (he:e=x∨H e=some (.own x)) (k:∀ b u,b≠e→h.get? b=some u→h'.get? b=some u) (heo:∃ u,h'.get? e=some u):Un fs ex H (upd H x o) h h':=by
 have hx:∀ b,H b=none→b≠x:=fun b n z=>by subst z;rw [n] at mu;exact mu
 have hb:∀ b,H b=none→b≠e:=fun b n z=>by
  subst z
  rcases he with r | r
  · exact hx b n r
  · rw [n] at r;cases r
 have hm:∀ b u,H b=some u→¬Mut (some u)→b≠x:=fun b u q nm z=>by subst z;rw [q] at mu;exact nm mu
 refine ⟨fun b u q n _ _=>k b u (hb b n) q,fun b u q n _ _=>⟨u.slots,k b u (hb b n) q⟩,fun b u q n _=>by rw [Zah (hx b n)];exact n,fun b u q _=>?_,
  fun b xs q=>by rw [Zah (hm b _ q fun z=>z)];exact q,fun b u xs q=>by rw [Zah (hm b _ q fun z=>z)];exact q,fun b ps q=>⟨#[],by rw [Zah (hm b _ q fun z=>z),q];simp⟩⟩
 by_cases hbe:b=e
 · subst hbe;exact heo
 · exact ⟨u,k b u hbe q⟩
end
def trk (h:Heap) (H:Hp):List Addr:=(List.range h.objs.size).filter fun a=>(H a).isSome
def hidT (h:Heap) (H:Hp):Heap:=PySem.W.hideAll h (trk h H)
theorem Zk3 (h:Heap) (H:Hp):(hidT h H).objs.size=h.objs.size:=PySem.W.hideAll_size _ _
theorem Zmh {h:Heap}{H:Hp}{b:Addr}{o:Obj} (e:h.get? b=some o) (n:H b=none):(hidT h H).get? b=some o :=
 PySem.W.hideAll_get _ e fun hm=>by
  have q:(H b).isSome=true:=(XaK.mp hm).2;rw [n] at q;simp at q
theorem of_hidT {h:Heap}{H:Hp}{b:Addr}{o:Obj} (e:(hidT h H).get? b=some o):h.get? b=some o∧H b=none:=by
 have e':h.get? b=some o:=PySem.W.of_hideAll (trk h H) e;refine ⟨e',?_⟩
 cases q:H b with
 | none=>rfl
 | some x =>
   have hm:b∈trk h H:=XaK.mpr ⟨List.mem_range.mpr (Xbq e'),by simp [q]⟩;have z:(hidT h H).get? b=none:=PySem.W.hideAll_none (trk h H) hm;rw [z] at e;cases e
structure Mod (K:XFg) (mg:Str→Option Value) (base:Heap):Prop where
 kin:K.In base
 glob:base.Ns mainGlobals mg
 blt:∃ mb,base.Ns builtinsNs mb∧∀ x:Str,x ≠ "__name__" → mb x=bootBuiltins x
 nolimit:base.NoLimit
structure Cx where
 prog:Program
 w:World
 K:XFg
 mg:Str→Option Value
 base:Heap
 A:Around
 N:List Str
 s₀:Shared
 H₀:Hp
 env:Env
 outer:List Env
 stack:List Env
 ex:List Addr
 fn:Str→Bool
 calm:Bool
 pn:List (Addr×Obj)
 xe:Value→Shared→Prop
def frs (l:List Env):List Addr:=l.filterMap (·.frame)
abbrev Cx.fs (X:Cx):List Addr:=frs X.outer
def Vis (sc:Scope) (x:Str):Prop:=sc.names.lookup x=some .local∨sc.names.lookup x=some .cell∨sc.names.lookup x=some .free
def Loc (sc:Scope) (x:Str):Prop:=sc.names.lookup x=some .local∨sc.names.lookup x=some .cell
def Look (env:Env) (h:Heap) (m:Str→Option Value) (x:Str) (u:Value):Prop :=
 (env.kindOf x=some .local∧m x=some u)∨((env.kindOf x=some .cell∨env.kindOf x=some .free)∧∃ c,env.cells.lookup x=some c∧h.IsCell c (some u))
structure Cx.Ok (X:Cx):Prop where
 mod:Mod X.K X.mg X.base
 kind:X.env.scope.kind=.function
 glob:X.env.globals=mainGlobals
 blt:X.env.builtins=builtinsNs
 above:X.s₀.heap.objs.size≤X.env.locals
 inj:∀ x y c,X.env.cells.lookup x=some c→X.env.cells.lookup y=some c→x=y
 has:∀ x,(X.env.kindOf x=some .cell∨X.env.kindOf x=some .free)→∃ c,X.env.cells.lookup x=some c
 cab:∀ x c,X.fn x=true→X.env.cells.lookup x=some c→X.s₀.heap.objs.size≤c
 hd:X.calm=true→X.A.handled=none
 frames:X.A.frames=some X.stack
 stk:X.stack=X.outer∨(X.stack=X.env :: X.outer∧X.env.frame=some X.env.locals)
 exf:∀ b∈X.ex,b≠X.env.locals∧∀ x c,X.env.cells.lookup x=some c→c≠b
 bs:∀ b o,X.base.get? b=some o→X.s₀.heap.get? b=some o∧X.H₀ b=none
 bsz:X.base.objs.size≤X.s₀.heap.objs.size
 noex:∀ b o,X.base.get? b=some o→b ∉ X.ex
 exfs:∀ b∈X.ex,b ∉ X.fs
 funs:X.s₀.heap.FunFrames X.base X.outer
 frf:∀ b∈X.fs,X.H₀ b=none
structure Inv (X:Cx) (pins:List (Addr×Obj)) (σ:List (Option V)) (H:Hp) (s:Shared):Prop where
 ok:X.Ok
 os:s.os=X.s₀.os
 bare:AllBare s.gens
 base:Un X.fs X.ex X.H₀ H X.s₀.heap s.heap
 loc:∃ m,s.heap.Ns X.env.locals m∧∀ (i:Nat) (x:Str) (v:V),X.N[i]?=some x→σ[i]?=some (some v)→Vis X.env.scope x→∃ u,RelV v u∧Look X.env s.heap m x u
 cell:∀ x c,X.env.cells.lookup x=some c→∃ v,s.heap.IsCell c v
 free:H X.env.locals=none
 freeC:∀ x c,X.env.cells.lookup x=some c→H c=none
 pin:∀ p∈X.pn++pins,s.heap.get? p.1=some p.2∧H p.1=none∧p.1≠X.env.locals∧p.1 ∉ X.fs∧∀ v,p.2.data≠.cell v
 hok:HOk X.prog X.w H s.heap
 len:σ.length=X.N.length
section
variable {X:Cx} {pins:List (Addr×Obj)} {σ:List (Option V)} {H H':Hp} {s:Shared} {h':Heap}
theorem Cx.Ok.nofr (ok:X.Ok) {b:Addr} {o:Obj} (e:X.base.get? b=some o):b ∉ X.fs:=fun hb=>by
 have:=(ok.funs.mem hb).1
 rw [e] at this;cases this
theorem Inv.bs (I:Inv X pins σ H s):∀ b o,X.base.get? b=some o→s.heap.get? b=some o∧H b=none:=fun b o e =>
 ⟨I.base.keep b o (I.ok.bs b o e).1 (I.ok.bs b o e).2 (I.ok.nofr e) (I.ok.noex b o e),I.base.free b o (I.ok.bs b o e).1 (I.ok.bs b o e).2 (I.ok.noex b o e)⟩
theorem Inv.bk (I:Inv X pins σ H s):∀ b o,X.base.get? b=some o→s.heap.get? b=some o:=fun b o e=>(I.bs b o e).1
theorem Inv.mod (I:Inv X pins σ H s):Mod X.K X.mg X.base:=I.ok.mod
theorem Inv.kIn (I:Inv X pins σ H s):X.K.In s.heap:=I.ok.mod.kin.keeps I.bk
theorem Inv.lt (I:Inv X pins σ H s):X.env.locals<s.heap.objs.size:=let ⟨_,hn,_⟩:=I.loc;hn.lt
theorem Inv.sz (I:Inv X pins σ H s):X.s₀.heap.objs.size≤s.heap.objs.size:=Xbh I.ok.above (XaY I.lt)
theorem Inv.nofs (I:Inv X pins σ H s) {a:Addr} (h:s.heap.objs.size≤a):a ∉ X.fs:=fun hb=>by
 obtain ⟨_,o,ho,_⟩:=I.ok.funs.mem hb;exact absurd (Xbg (Xbq ho) (Xbh I.sz h)) (XaX _)
theorem Inv.cne (I:Inv X pins σ H s):∀ x c,X.env.cells.lookup x=some c→c≠X.env.locals:=fun x c e z=>by
 obtain ⟨v,o,ho,hd⟩:=I.cell x c e;obtain ⟨m,⟨o',es,ep,ho',hd',_⟩,_⟩:=I.loc;rw [z,ho'] at ho;cases ho;rw [hd'] at hd;cases hd
theorem Inv.funs (I:Inv X pins σ H s):s.heap.FunFrames X.base X.outer:=by
 have all:∀ (l:List Env),(∀ b∈frs l,b∈X.fs)→X.s₀.heap.FunFrames X.base l→s.heap.FunFrames X.base l:=by
  intro l
  induction l with
  | nil=>intro _ _;trivial
  | cons env r ih =>
    intro hs hl;obtain ⟨hk,⟨L,o,hf,hn,ho,hd⟩,hr⟩:=hl;have hL:L∈X.fs:=hs L (by unfold frs;rw [Xbj,hf];exact Xal);obtain ⟨sl,e⟩:=I.base.slot L o ho (I.ok.frf L hL) hL fun z=>I.ok.exfs L z hL;exact ⟨hk,⟨L,_,hf,hn,e,hd⟩,ih (fun b hb=>hs b (by unfold frs;rw [Xbj,hf];exact Xap _ hb)) hr⟩
 exact all X.outer (fun _ hb=>hb) I.ok.funs
theorem Inv.stack (I:Inv X pins σ H s):s.heap.FunFrames X.base X.stack:=by
 rcases I.ok.stk with e | ⟨e,hf⟩
 · rw [e];exact I.funs
 · rw [e]
   obtain ⟨m,hn,_⟩:=I.loc;refine .cons (by rw [I.ok.kind];decide) hf hn ?_ I.funs;exact Heap.get?_none_of_le (Xbh I.ok.bsz I.ok.above)
theorem Inv.stkSub (I:Inv X pins σ H s):∀ b∈frs X.stack,b∈X.env.locals :: X.fs:=fun b hb=>by
 rcases I.ok.stk with e | ⟨e,hf⟩
 · rw [e] at hb;exact Xap _ hb
 · rw [e] at hb
   unfold frs at hb;rw [Xbj,hf] at hb;exact hb
theorem Inv.stkFree (I:Inv X pins σ H s):∀ b∈frs X.stack,H b=none:=fun b hb=>by
 rcases Xam.mp (I.stkSub b hb) with e | hb
 · rw [e];exact I.free
 · obtain ⟨_,o,ho,_⟩:=I.ok.funs.mem hb
   exact I.base.free b o ho (I.ok.frf b hb) fun z=>I.ok.exfs b z hb
theorem Inv.step {g':Array GenState}{t':Nat}{d':Drawn}{ch:List Addr} (I:Inv X pins σ H s)
 (hch:∀ b∈ch,(b∈X.ex∨X.s₀.heap.objs.size≤b)∧b≠X.env.locals∧(∀ x c,X.env.cells.lookup x=some c→c≠b)∧∀ p∈X.pn++pins,p.1≠b)
 (keep:∀ b o,b≠X.env.locals→b ∉ X.fs→b ∉ ch→s.heap.get? b=some o→H b=none→h'.get? b=some o)
 (slot:∀ b o,b≠X.env.locals→b∈X.fs→b ∉ ch→s.heap.get? b=some o→H b=none→∃ sl,h'.get? b=some { o with slots:=sl }) (free:∀ b o,b ∉ ch→s.heap.get? b=some o→H b=none→H' b=none)
 (there:∀ b o,b ∉ ch→s.heap.get? b=some o→∃ o',h'.get? b=some o')
 (tups:∀ b xs,H b=some (.tup xs)→H' b=some (.tup xs)) (frzs:∀ b o u,H b=some (.frz o u)→H' b=some (.frz o u)) (tbls:∀ b ps,H b=some (.tbl ps)→∃ more,H' b=some (.tbl (ps++more)))
 (ns:∀ m,s.heap.Ns X.env.locals m→h'.Ns X.env.locals m) (hok:HOk X.prog X.w H' h') (hg:AllBare g') :
 Inv X pins σ H' { s with heap:=h',gens:=g',drawn:=d',toks:=t' }:=by
 have neL:∀ b o,X.s₀.heap.get? b=some o→b≠X.env.locals:=fun b o e=>XaZ (Xbg (Xbq e) I.ok.above)
 have neC:∀ b o,X.s₀.heap.get? b=some o→b ∉ X.ex→b ∉ ch:=fun b o e hx hb=>by
  rcases (hch b hb).1 with z | z
  · exact hx z
  · exact absurd (Xbg (Xbq e) z) (XaX _)
 have cellK:∀ x c,X.env.cells.lookup x=some c→∀ v,s.heap.IsCell c v→h'.IsCell c v:=fun x c e v ⟨o,ho,hd⟩=>by
  have nch:c ∉ ch:=fun z=>(hch c z).2.2.1 x c e rfl
  by_cases hc:c∈X.fs
  · obtain ⟨sl,q⟩:=slot c o (I.cne x c e) hc nch ho (I.freeC x c e)
    exact ⟨_,q,hd⟩
  · exact ⟨o,keep c o (I.cne x c e) hc nch ho (I.freeC x c e),hd⟩
 refine ⟨I.ok,I.os,hg,⟨fun b o e n hb hx=>?_,fun b o e n hb hx=>?_,fun b o e n hx=>?_,fun b o e hx=>?_,fun b xs e=>tups b xs (I.base.tups b xs e),fun b o xs e=>frzs b o xs (I.base.frzs b o xs e),fun b ps e=>?_⟩,?_,fun x c e=>?_,?_,fun x c e=>?_,fun p hp=>?_,hok,I.len⟩
 · exact keep b o (neL b o e) hb (neC b o e hx) (I.base.keep b o e n hb hx) (I.base.free b o e n hx)
 · obtain ⟨sl,e1⟩:=I.base.slot b o e n hb hx
   obtain ⟨sl',e2⟩:=slot b _ (neL b o e) hb (neC b o e hx) e1 (I.base.free b o e n hx);exact ⟨sl',e2⟩
 · obtain ⟨o',e1⟩:=I.base.there b o e hx
   exact free b o' (neC b o e hx) e1 (I.base.free b o e n hx)
 · obtain ⟨o',e1⟩:=I.base.there b o e hx
   exact there b o' (neC b o e hx) e1
 · obtain ⟨m1,e1⟩:=I.base.tbls b ps e
   obtain ⟨m2,e2⟩:=tbls b _ e1;exact ⟨m1++m2,by rw [e2,Array.append_assoc]⟩
 · obtain ⟨m,hn,hl⟩:=I.loc
   refine ⟨m,ns m hn,fun i x v e1 e2 e3=>?_⟩;obtain ⟨u,r,l⟩:=hl i x v e1 e2 e3;refine ⟨u,r,?_⟩
   rcases l with l | ⟨k,c,e,z⟩
   · exact .inl l
   · exact .inr ⟨k,c,e,cellK x c e _ z⟩
 · obtain ⟨v,z⟩:=I.cell x c e
   exact ⟨v,cellK x c e v z⟩
 · obtain ⟨m,⟨o,_,_,ho,_⟩,_⟩:=I.loc
   exact free _ o (fun z=>(hch _ z).2.1 rfl) ho I.free
 · obtain ⟨v,o,ho,hd⟩:=I.cell x c e
   exact free c o (fun z=>(hch c z).2.2.1 x c e rfl) ho (I.freeC x c e)
 · obtain ⟨e,n,ne,nf,d⟩:=I.pin p hp
   have nch:p.1 ∉ ch:=fun z=>(hch p.1 z).2.2.2 p hp rfl;exact ⟨keep p.1 p.2 ne nf nch e n,free p.1 p.2 nch e n,ne,nf,d⟩
theorem Inv.un {t':Nat} (I:Inv X pins σ H s) (u:Un X.fs [] H H' s.heap h') (hok:HOk X.prog X.w H' h'):Inv X pins σ H' { s with heap:=h',toks:=t' }:=by
 obtain ⟨m,⟨o,es,ep,ho,r⟩,_⟩:=id I.loc;obtain ⟨sl,hL⟩:=u.any ho I.free (by simp)
 exact I.step (g':=s.gens) (d':=s.drawn) (ch:=[]) (fun _ z=>nomatch z) (fun b o _ hb _ e n=>u.keep b o e n hb (by simp)) (fun b o _ hb _ e n=>u.slot b o e n hb (by simp)) (fun b o _ e n=>u.free b o e n (by simp)) (fun b o _ e=>u.there b o e (by simp)) u.tups u.frzs u.tbls (fun m' hm=>by
  obtain ⟨o',es',ep',ho',r'⟩:=hm;rw [ho] at ho';cases ho'
  exact ⟨_,es',ep',hL,r'⟩) hok I.bare
theorem Inv.call {g':Array GenState}{t':Nat}{d':Drawn}{ch:List Addr} (I:Inv X pins σ H s) (u:Un (frs X.stack) ch H H' s.heap h') (hok:HOk X.prog X.w H' h') (hg:AllBare g')
 (hch:∀ b∈ch,(b∈X.ex∨X.s₀.heap.objs.size≤b)∧b≠X.env.locals∧(∀ x c,X.env.cells.lookup x=some c→c≠b)∧∀ p∈X.pn++pins,p.1≠b) :
 Inv X pins σ H' { s with heap:=h',gens:=g',drawn:=d',toks:=t' }:=by
 obtain ⟨m,⟨o,es,ep,ho,r⟩,_⟩:=id I.loc;obtain ⟨sl,hL⟩:=u.any ho I.free fun z=>(hch _ z).2.1 rfl
 exact I.step (ch:=ch) hch (fun b o hL hb hc e n=>u.keep b o e n (fun z=>(Xam.mp (I.stkSub b z)).elim hL hb) hc) (fun b o _ _ hc e n=>u.any e n hc) (fun b o hc e n=>u.free b o e n hc) (fun b o hc e=>u.there b o e hc) u.tups u.frzs u.tbls (fun m' hm=>by
  obtain ⟨o',es',ep',ho',r'⟩:=hm;rw [ho] at ho';cases ho'
  exact ⟨_,es',ep',hL,r'⟩) hok hg
theorem Inv.turned {t':Nat}{it:Addr} (I:Inv X pins σ H s) (k:∀ b o,b≠it→s.heap.get? b=some o→h'.get? b=some o) (hn:H it=none) (hL:it≠X.env.locals)
 (h1:it∈X.ex∨X.s₀.heap.objs.size≤it) (h2:∀ x c,X.env.cells.lookup x=some c→c≠it) (h3:∀ p∈X.pn++pins,p.1≠it):Inv X pins σ H { s with heap:=h',toks:=t' }:=by
 have nit:∀ b u,H b=some u→b≠it:=fun b u e z=>by rw [z,hn] at e;cases e
 refine I.step (g':=s.gens) (d':=s.drawn) (ch:=[it]) (fun b hb=>?_) (fun b o _ _ hc e _=>k b o (fun z=>hc (by simp [z])) e) (fun b o _ _ hc e _=>⟨o.slots,k b o (fun z=>hc (by simp [z])) e⟩) (fun _ _ _ _ n=>n)
  (fun b o hc e=>⟨o,k b o (fun z=>hc (by simp [z])) e⟩) (fun _ _ e=>e) (fun _ _ _ e=>e) (fun b ps e=>⟨#[],by rw [e];simp⟩) (fun m hm=>?_) (fun b u e=>?_) I.bare
 · have e:b=it:=by simpa using hb
   subst e;exact ⟨h1,hL,h2,h3⟩
 · obtain ⟨o,es,ep,ho,r⟩:=hm
   exact ⟨o,es,ep,k _ o (Ne.symm hL) ho,r⟩
 · refine (I.hok b u e).stay (fun c v hc q=>k c v ?_ q) (fun _ q=>q) fun _ _ q=>q
   rcases hc with z | z
   · rw [z];exact nit b u e
   · exact nit c _ z
theorem Inv.tok (I:Inv X pins σ H s) (t:Nat):Inv X pins σ H { s with toks:=t }:=I.un (h':=s.heap) (t':=t) Un.refl I.hok
theorem Inv.kept {t':Nat} (I:Inv X pins σ H s) (k:∀ b u,s.heap.get? b=some u→h'.get? b=some u):Inv X pins σ H { s with heap:=h',toks:=t' }:=I.un (Un.kept k) (I.hok.kept k)
theorem Inv.laid {a:Addr}{o:HO}{t':Nat} (I:Inv X pins σ H s) (k:∀ b u,s.heap.get? b=some u→h'.get? b=some u) (hp:s.heap.objs.size≤a) (new:ObjOk X.prog X.w (upd H a o) h' a o) :
 Inv X pins σ (upd H a o) { s with heap:=h',toks:=t' }:=I.un (Un.laid k hp (I.hok.fresh hp)) (I.hok.laid k hp new)
theorem Inv.write {x e:Addr}{o:HO}{t':Nat} (I:Inv X pins σ H s) (mu:Mut (H x)) (he:e=x∨H e=some (.own x)) (k:∀ b u,b≠e→s.heap.get? b=some u→h'.get? b=some u) (heo:∃ u,h'.get? e=some u)
 (new:ObjOk X.prog X.w (upd H x o) h' x o):Inv X pins σ (upd H x o) { s with heap:=h',toks:=t' }:=I.un (Un.write mu he k heo) (I.hok.write mu he k heo new)
theorem Inv.pins_of {pins':List (Addr×Obj)} (I:Inv X pins σ H s) (h:∀ p∈pins',s.heap.get? p.1=some p.2∧H p.1=none∧p.1≠X.env.locals∧p.1 ∉ X.fs∧∀ v,p.2.data≠.cell v):Inv X pins' σ H s :=
 ⟨I.ok,I.os,I.bare,I.base,I.loc,I.cell,I.free,I.freeC,fun p hp=>(Xaf.mp hp).elim (fun z=>I.pin p (XaA _ z)) (h p),I.hok,I.len⟩
theorem ZjI {N:List Str} (hN:N.Nodup) {i j:Nat} {x:Str} (a:N[i]?=some x) (b:N[j]?=some x):i=j:=by
 obtain ⟨h1,e1⟩:=Xae.mp a;obtain ⟨h2,e2⟩:=Xae.mp b;exact (List.getElem_inj hN).mp (e1.trans e2.symm)
theorem Zh6 {M:Model}{A:Around}{E:Value→Shared→Prop}{i:Nat}{x:Str}{v:V}{u:Value}{Q:Unit→Shared→Prop} (I:Inv X pins σ H s) (hN:X.N.Nodup) (hi:X.N[i]?=some x) (hx:Loc X.env.scope x) (r:RelV v u)
 (h:∀ s',Inv X pins (σ.set i (some v)) H s'→(∃ a,Heap.SameBut a s.heap s'.heap∧(a=X.env.locals∨X.env.cells.lookup x=some a))→Q () s') (hf:X.fn x=true∨X.env.scope.names.lookup x=some .local:=by first | exact .inl rfl | exact .inr rfl | assumption):wpAny M A (storeName X.env x u) Q E s:=by
 obtain ⟨m,hn,hl⟩:=id I.loc
 have hcls:(X.env.scope.kind == .class || (X.env.scope.kind == .module && X.env.locals != X.env.globals))=false:=by rw [I.ok.kind];rfl
 have hiσ:i<σ.length:=by rw [I.len];exact (Xae.mp hi).1
 have cne:=I.cne
 have tracked:∀ {a:Addr} {h':Heap},(∃ o,s.heap.get? a=some o∧H a=none)→Heap.SameBut a s.heap h'→HOk X.prog X.w H h':=fun {a h'} ha hs b ob e=>by
  obtain ⟨_,_,hfree⟩:=ha;refine (I.hok b ob e).stay (fun c w' hc q=>(hs.2 c ?_).trans q) (fun _ q=>q) fun _ _ q=>q;rintro rfl
  rcases hc with rfl | hc
  · rw [hfree] at e;cases e
  · rw [hfree] at hc;cases hc
 rcases hx with hk | hk
 · refine wpAny_storeName_local hk hn (fun h' hn' hs=>?_) hcls
   obtain ⟨oL,_,_,hoL,_⟩:=id hn;refine h _ ⟨I.ok,I.os,I.bare,⟨fun b o e n hb hx=>?_,fun b o e n hb hx=>?_,I.base.free,fun b o e hx=>?_,I.base.tups,I.base.frzs,I.base.tbls⟩,⟨_,hn',fun j y v' e1 e2 e3=>?_⟩,fun y c e=>?_,I.free,I.freeC,fun p hp=>?_,tracked ⟨oL,hoL,I.free⟩ hs,by simpa using I.len⟩ ⟨_,hs,.inl rfl⟩
   · exact (hs.2 b (XaZ (Xbg (Xbq e) I.ok.above))).trans (I.base.keep b o e n hb hx)
   · obtain ⟨sl,e1⟩:=I.base.slot b o e n hb hx
     exact ⟨sl,(hs.2 b (XaZ (Xbg (Xbq e) I.ok.above))).trans e1⟩
   · obtain ⟨o',e1⟩:=I.base.there b o e hx
     exact ⟨o',(hs.2 b (XaZ (Xbg (Xbq e) I.ok.above))).trans e1⟩
   · by_cases hj:j=i
     · subst hj
       rw [hi] at e1;cases e1;rw [List.getElem?_set_self hiσ] at e2;cases e2;exact ⟨u,r,.inl ⟨hk,by simp⟩⟩
     · rw [List.getElem?_set_ne (Ne.symm hj)] at e2
       obtain ⟨u',r',q⟩:=hl j y v' e1 e2 e3;refine ⟨u',r',?_⟩
       rcases q with ⟨k,e⟩ | ⟨k,c,e,z⟩
       · refine .inl ⟨k,?_⟩
         have:y≠x:=fun e=>hj (ZjI hN e1 (e ▸ hi))
         simp [this,e]
       · exact .inr ⟨k,c,e,z.sameBut hs (cne y c e)⟩
   · obtain ⟨w',z⟩:=I.cell y c e
     exact ⟨w',z.sameBut hs (cne y c e)⟩
   · obtain ⟨e,n,ne,nf,d⟩:=I.pin p hp
     exact ⟨(hs.2 p.1 ne).trans e,n,ne,nf,d⟩
 · have hfn:X.fn x=true:=by
    rcases hf with z | z
    · exact z
    · rw [z] at hk;cases hk
   obtain ⟨c,hc⟩:=I.ok.has x (.inl hk);obtain ⟨w',z⟩:=I.cell x c hc;refine wpAny_storeName_cell I.ok.kind hk hc z (fun h' hc' hs=>?_);obtain ⟨oc,hoc,hocd⟩:=id z;refine h { s with heap:=h' } ⟨I.ok,I.os,I.bare,⟨fun b o e n hb hx=>?_,fun b o e n hb hx=>?_,I.base.free,fun b o e hx=>?_,I.base.tups,I.base.frzs,I.base.tbls⟩,⟨m,hn.sameBut hs (Ne.symm (cne x c hc)),fun j y v' e1 e2 e3=>?_⟩,fun y c' e=>?_,I.free,I.freeC,fun p hp=>?_,tracked ⟨oc,hoc,I.freeC x c hc⟩ hs,by simpa using I.len⟩ ⟨c,hs,.inr hc⟩
   · exact (hs.2 b (XaZ (Xbg (Xbq e) (I.ok.cab x c hfn hc)))).trans (I.base.keep b o e n hb hx)
   · obtain ⟨sl,e1⟩:=I.base.slot b o e n hb hx
     exact ⟨sl,(hs.2 b (XaZ (Xbg (Xbq e) (I.ok.cab x c hfn hc)))).trans e1⟩
   · obtain ⟨o',e1⟩:=I.base.there b o e hx
     exact ⟨o',(hs.2 b (XaZ (Xbg (Xbq e) (I.ok.cab x c hfn hc)))).trans e1⟩
   · by_cases hj:j=i
     · subst hj
       rw [hi] at e1;cases e1;rw [List.getElem?_set_self hiσ] at e2;cases e2;exact ⟨u,r,.inr ⟨.inl hk,c,hc,hc'⟩⟩
     · rw [List.getElem?_set_ne (Ne.symm hj)] at e2
       obtain ⟨u',r',q⟩:=hl j y v' e1 e2 e3;refine ⟨u',r',?_⟩
       rcases q with q | ⟨k,c',e,z'⟩
       · exact .inl q
       · refine .inr ⟨k,c',e,z'.sameBut hs ?_⟩
         rintro rfl;exact hj (ZjI hN e1 (I.ok.inj _ _ _ e hc ▸ hi))
   · by_cases hcc:c'=c
     · subst hcc;exact ⟨_,hc'⟩
     · obtain ⟨w2,z2⟩:=I.cell y c' e
       exact ⟨w2,z2.sameBut hs hcc⟩
   · obtain ⟨e,n,ne,nf,d⟩:=I.pin p hp
     refine ⟨(hs.2 p.1 ?_).trans e,n,ne,nf,d⟩;intro q;rw [q,hoc] at e;have q':oc=p.2:=Xbd e;exact d w' (by rw [←q'];exact hocd)
theorem Zhi {M:Model}{A:Around}{E:Value→Shared→Prop}{i:Nat}{x:Str}{v:V}{u:Value}{Q:Unit→Shared→Prop} (I:Inv X pins σ H s) (hN:X.N.Nodup) (hi:X.N[i]?=some x) (hx:Loc X.env.scope x) (r:RelV v u)
 (h:∀ s',Inv X pins (σ.set i (some v)) H s'→Q () s') (hf:X.fn x=true∨X.env.scope.names.lookup x=some .local:=by first | exact .inl rfl | exact .inr rfl | assumption):wpAny M A (storeName X.env x u) Q E s :=
 Zh6 I hN hi hx r (fun s' I' _=>h s' I') hf
theorem Inv.call' {s':Shared}{ch:List Addr} (I:Inv X pins σ H s) (ho:s'.os=s.os) (u:Un (frs X.stack) ch H H' s.heap s'.heap) (hok:HOk X.prog X.w H' s'.heap) (hg:AllBare s'.gens)
 (hch:∀ b∈ch,(b∈X.ex∨X.s₀.heap.objs.size≤b)∧b≠X.env.locals∧(∀ x c,X.env.cells.lookup x=some c→c≠b)∧∀ p∈X.pn++pins,p.1≠b):Inv X pins σ H' s':=by
 obtain ⟨h',g',d',t',o'⟩:=s';have e:o'=s.os:=ho;subst e;exact I.call (g':=g') (t':=t') (d':=d') u hok hg hch
end
abbrev XK:=Value→Option Addr→Hp→Prop
abbrev St:=List (Option V)
abbrev VK:=V→Hp→Prop
abbrev TE:=St→Hp→VK→Prop
abbrev TT:=St→Hp→(Bool→Hp→Prop)→Prop
abbrev TA:=St→Hp→(List V→Hp→Prop)→Prop
structure Ends where
 nx:St→Hp→Prop
 rt:VK
 bk:St→Hp→Prop:=fun _ _=>False
 ct:St→Hp→Prop:=fun _ _=>False
abbrev TS:=Ends→St→Hp→Prop
def EP (X:Cx) (pins:List (Addr×Obj)) (σ:St) (Q:VK) (u:Value) (s':Shared):Prop:=∃ v H',Inv X pins σ H' s'∧RelV v u∧Q v H'
def TP (X:Cx) (pins:List (Addr×Obj)) (σ:St) (Q:Bool→Hp→Prop) (b:Bool) (s':Shared):Prop:=∃ H',Inv X pins σ H' s'∧Q b H'
def AP (X:Cx) (pins:List (Addr×Obj)) (σ:St) (Q:List V→Hp→Prop) (us:List Value) (s':Shared):Prop:=∃ vs H',Inv X pins σ H' s'∧Vals vs us∧Q vs H'
def SP (X:Cx) (pins:List (Addr×Obj)) (D:Ends) (f:Flow) (s':Shared):Prop :=
 match f with
 | .next=>∃ σ' H',Inv X pins σ' H' s'∧D.nx σ' H'
 | .brk=>∃ σ' H',Inv X pins σ' H' s'∧D.bk σ' H'
 | .cont=>∃ σ' H',Inv X pins σ' H' s'∧D.ct σ' H'
 | .ret u=>∃ v σ' H',Inv X pins σ' H' s'∧RelV v u∧D.rt v H'
def PE (X:Cx) (e:Expr) (t:TE):Prop :=
 ∀ (pins:List (Addr×Obj)) (s:Shared) (σ:St) (H:Hp) (Q:VK),Inv X pins σ H s→t σ H Q→wpAny (model X.prog X.w) X.A (eval e X.env) (EP X pins σ Q) X.xe s
def PT (X:Cx) (e:Expr) (t:TT):Prop :=
 ∀ (pins:List (Addr×Obj)) (s:Shared) (σ:St) (H:Hp) (Q:Bool→Hp→Prop),Inv X pins σ H s→t σ H Q→wpAny (model X.prog X.w) X.A (isTrue e X.env (eval e X.env)) (TP X pins σ Q) X.xe s
def PW (X:Cx) (e:Expr) (t:TT):Prop :=
 ∀ (whole:Sem Value) (pins:List (Addr×Obj)) (s:Shared) (σ:St) (H:Hp) (Q:Bool→Hp→Prop),Inv X pins σ H s→t σ H Q→wpAny (model X.prog X.w) X.A (isTrue e X.env whole) (TP X pins σ Q) X.xe s
theorem PW.pt {X:Cx}{e:Expr}{t:TT} (h:PW X e t):PT X e t:=h _
def PA (X:Cx) (es:List Expr) (t:TA):Prop :=
 ∀ (pos:Pos) (pins:List (Addr×Obj)) (s:Shared) (σ:St) (H:Hp) (Q:List V→Hp→Prop),Inv X pins σ H s→t σ H Q→wpAny (model X.prog X.w) X.A (spliced (backTo pos (starEach es X.env))) (AP X pins σ Q) X.xe s
def PS (X:Cx) (st:Stmt) (t:TS):Prop :=
 ∀ (pins:List (Addr×Obj)) (s:Shared) (σ:St) (H:Hp) (D:Ends),Inv X pins σ H s→t D σ H→wpAny (model X.prog X.w) X.A (exec st X.env) (SP X pins D) X.xe s
def PSs (X:Cx) (st:List Stmt) (t:TS):Prop :=
 ∀ (pins:List (Addr×Obj)) (s:Shared) (σ:St) (H:Hp) (D:Ends),Inv X pins σ H s→t D σ H→wpAny (model X.prog X.w) X.A (execs st X.env) (SP X pins D) X.xe s
theorem thn {α:Type}{t:Sem α}{Q Q':α→Shared→Prop}{M:Model}{A:Around}{E:Value→Shared→Prop}{s:Shared} (h:wpAny M A t Q E s) (hQ:∀ a s,Q a s→Q' a s):wpAny M A t Q' E s:=Xbw h hQ fun _ _ x=>x
section
variable {X:Cx}
def tVar (i:Nat):TE:=fun σ H Q=>∃ v,σ[i]?=some (some v)∧Q v H
def tC (v:V):TE:=fun _ H Q=>Q v H
theorem pe_var {i:Nat}{x:Str}{pos:Pos} (hN:X.N[i]?=some x) (hv:Vis X.env.scope x) (hd:(x == ("__debug__" : Str))=false:=by decide) (hcd:(x == ("__classdict__" : Str))=false:=by decide):PE X (.Name x pos) (tVar i):=by
 intro pins s σ H Q I h;obtain ⟨v,e,h⟩:=h;obtain ⟨m,hn,hl⟩:=I.loc;obtain ⟨u,r,l⟩:=hl i x v hN e hv;have fin:EP X pins σ Q u s:=⟨v,H,I,r,h⟩
 rcases l with ⟨hk,hm⟩ | ⟨hk,c,hc,hcell⟩
 · exact wpAny_Name (wpAny_loadName_local I.ok.kind hk hn hm fin) hd
 · rcases hk with hk | hk
   · exact wpAny_Name (wpAny_loadName_cell I.ok.kind hk hc hcell fin) hd
   · exact wpAny_Name (wpAny_loadName_free I.ok.kind hk hc hcell fin hcd) hd
theorem Zaf {i j pos}:PE X (.Constant (.int i) j pos) (tC (.int i)):=fun _ _ _ H _ I h=>wpAny_Constant_int ⟨.int i,H,I.tok _,⟨_,rfl⟩,h⟩
theorem Zh7 {b j pos}:PE X (.Constant (.bool b) j pos) (tC (.bl b)):=fun _ _ _ H _ I h=>Constant_bool ⟨.bl b,H,I,rfl,h⟩
theorem Zk4 {j pos}:PE X (.Constant .none j pos) (tC .non):=fun _ _ _ H _ I h=>Constant_none ⟨.non,H,I,rfl,h⟩
theorem Zaq {x j pos}:PE X (.Constant (.str x) j pos) (tC (.str x)):=fun _ _ _ H _ I h=>Calls.Constant_str ⟨.str x,H,I.tok _,⟨_,rfl⟩,h⟩
def Gl (X:Cx) (x:Str):Prop:=X.env.kindOf x=some .globalImplicit
theorem Zi8 {E:Value→Shared→Prop}{pins:List (Addr×Obj)} {s:Shared} {σ:St} {H:Hp} {x:Str} {u:Value} {pos:Pos} {Q:Value→Shared→Prop} (I:Inv X pins σ H s) (hg:Gl X x) (hm:X.mg x=some u) (h:Q u s)
 (hd:(x == ("__debug__" : Str))=false:=by decide):wpAny (model X.prog X.w) X.A (eval (.Name x pos) X.env) Q E s :=
 Calls.Name_function_global I.ok.kind hg (Calls.loadGlobal_global (by rw [I.ok.glob];exact I.mod.glob.keeps I.bk) hm h) hd
theorem ZfO {E:Value→Shared→Prop}{pins:List (Addr×Obj)} {s:Shared} {σ:St} {H:Hp} {x:Str} {u:Value} {pos:Pos} {Q:Value→Shared→Prop} (I:Inv X pins σ H s) (hg:Gl X x) (hm:X.mg x=none) (hv:bootBuiltins x=some u) (h:Q u s)
 (hn:x ≠ "__name__" := by decide) (hd:(x == ("__debug__" : Str))=false:=by decide):wpAny (model X.prog X.w) X.A (eval (.Name x pos) X.env) Q E s:=by
 obtain ⟨mb,h1,h2⟩:=I.mod.blt;exact Calls.Name_function_global I.ok.kind hg (Calls.loadGlobal_builtin (by rw [I.ok.glob];exact I.mod.glob.keeps I.bk) hm (by rw [I.ok.blt];exact h1.keeps I.bk) ((h2 x hn).trans hv) h) hd
theorem ZeV {x:Str}{v:V}{u:Value}{pos:Pos} (hg:Gl X x) (hm:X.mg x=some u) (r:RelV v u) (hd:(x == ("__debug__" : Str))=false:=by decide):PE X (.Name x pos) (tC v) :=
 fun _ _ _ H _ I h=>Zi8 I hg hm ⟨v,H,I,r,h⟩ hd
theorem pe_bltn {x:Str}{v:V}{u:Value}{pos:Pos} (hg:Gl X x) (hm:X.mg x=none) (hv:bootBuiltins x=some u) (r:RelV v u) (hn:x ≠ "__name__" := by decide) (hd:(x == ("__debug__" : Str))=false:=by decide):PE X (.Name x pos) (tC v) :=
 fun _ _ _ H _ I h=>ZfO I hg hm hv ⟨v,H,I,r,h⟩ hn hd
variable {a b:Expr} {ta tb:TE} {pos:Pos}
def PC (X:Cx) (op:CmpOp) (a b:Expr) (t:TE):Prop :=
 ∀ (pins:List (Addr×Obj)) (s:Shared) (σ:St) (H:Hp) (Q:VK),Inv X pins σ H s→t σ H Q →
  wpAny (model X.prog X.w) X.A (eval a X.env) (fun v s₁=>wpAny (model X.prog X.w) X.A (eval b X.env) (fun u s₂=>wpAny (model X.prog X.w) X.A (compareOp op v u) (EP X pins σ Q) X.xe s₂) X.xe s₁) X.xe s
theorem Zmi (b:Expr) {op:CmpOp} (h:op≠.In) (h2:op≠.NotIn):behindInMarks op b=false:=by
 have e1:(op == CmpOp.In)=false:=by cases op <;> first | rfl | exact absurd rfl h
 have e2:(op == CmpOp.NotIn)=false:=by cases op <;> first | rfl | exact absurd rfl h2
 cases b <;> simp [behindInMarks,e1,e2]
def tIsN (ta:TE):TE:=fun σ H Q=>ta σ H fun x H1=>Q (.bl (decide (x=.non))) H1
def tNotN (ta:TE):TE:=fun σ H Q=>ta σ H fun x H1=>Q (.bl (!decide (x=.non))) H1
theorem RelV.none_iff {x:V}{v:Value} (r:RelV x v):(v == Value.none)=decide (x=.non):=by
 cases x with
 | non=>cases r;rfl
 | bl _=>cases r;rfl
 | int _=>obtain ⟨t,rfl⟩:=r;rfl
 | str _=>obtain ⟨t,rfl⟩:=r;rfl
 | byt _=>obtain ⟨t,rfl⟩:=r;rfl
 | flt _=>obtain ⟨t,rfl⟩:=r;rfl
 | ref _=>cases r;rfl
 | ty _=>cases r;rfl
theorem Zk5 {j pos'} (ha:PE X a ta):PC X .Is a (.Constant .none j pos') (tIsN ta):=by
 intro pins s σ H Q I h;refine thn (ha pins s σ H _ I h) fun v s1 ⟨x,H1,I1,r1,q1⟩=>?_;exact Constant_none (is_none_gen ⟨.bl _,H1,I1,by rw [r1.none_iff];rfl,q1⟩)
theorem Zk6 {j pos'} (ha:PE X a ta):PC X .IsNot a (.Constant .none j pos') (tNotN ta):=by
 intro pins s σ H Q I h;refine thn (ha pins s σ H _ I h) fun v s1 ⟨x,H1,I1,r1,q1⟩=>?_;exact Constant_none (isnot_none_gen ⟨.bl _,H1,I1,by rw [r1.none_iff];rfl,q1⟩)
def tB (t:TE):TT:=fun σ H Q=>t σ H fun x H1=>∃ c,x=.bl c∧Q c H1
theorem Zh8 {op:CmpOp}{t:TE} (h:PC X op a b t) (h1:behindInMarks op b=false:=by first | exact Zmi _ (by decide) (by decide) | rfl):PT X (.Compare a [op] [b] pos) (tB t):=by
 intro pins s σ H Q I hw;refine wpAny_isTrue_Compare1 (thn (h pins s σ H _ I hw) fun v s1 h1=>thn h1 fun u s2 h2=>thn h2 fun c s3 ⟨x,H1,I1,r1,q1⟩=>?_) h1;obtain ⟨d,rfl,q⟩:=q1;cases r1;exact Xbo ⟨H1,I1,q⟩
theorem Zb7 {e:Expr}{t:TE} (h:PE X e t) (he:∀ whole,isTrue e X.env whole=(do let v ←whole;standAt e.pos;holding [v] (truthy v)):=by intro _;rfl):PT X e (tB t):=by
 intro pins s σ H Q I hw;refine isTrue_plain (thn (h pins s σ H _ I hw) fun v s1 ⟨x,H1,I1,r1,q1⟩=>?_) (he _);obtain ⟨d,rfl,q⟩:=q1;cases r1;exact Xbo ⟨H1,I1,q⟩
variable {tA tB':TT} {rest:List Expr}
def tAnd (t u:TT):TT:=fun σ H Q=>t σ H fun c H1=>if c=true then u σ H1 Q else Q false H1
def tOr (t u:TT):TT:=fun σ H Q=>t σ H fun c H1=>if c=true then Q true H1 else u σ H1 Q
def tNot (t:TT):TT:=fun σ H Q=>t σ H fun c H1=>Q (!c) H1
theorem Zk7 (ha:PT X a tA):PW X (.BoolOp .And [a] pos) tA:=by
 intro wh pins s σ H Q I h;refine isTrue_and (thn (ha pins s σ H Q I h) fun c s1 e=>?_)
 cases c with
 | true=>exact isTrue_and_nil e
 | false=>exact e
theorem Zh9 (ha:PT X a tA):PW X (.BoolOp .Or [a] pos) tA:=by
 intro wh pins s σ H Q I h;refine isTrue_or (thn (ha pins s σ H Q I h) fun c s1 e=>?_)
 cases c with
 | false=>exact isTrue_or_nil e
 | true=>exact e
theorem pw_and (ha:PT X a tA) (hb:PW X (.BoolOp .And (b :: rest) pos) tB'):PW X (.BoolOp .And (a :: b :: rest) pos) (tAnd tA tB'):=by
 intro wh pins s σ H Q I h;refine isTrue_and (thn (ha pins s σ H _ I h) fun c s1 ⟨H1,I1,q1⟩=>?_)
 cases c with
 | true=>exact hb wh pins s1 σ H1 Q I1 q1
 | false=>exact ⟨H1,I1,q1⟩
theorem ZgD (ha:PT X a tA) (hb:PW X (.BoolOp .Or (b :: rest) pos) tB'):PW X (.BoolOp .Or (a :: b :: rest) pos) (tOr tA tB'):=by
 intro wh pins s σ H Q I h;refine isTrue_or (thn (ha pins s σ H _ I h) fun c s1 ⟨H1,I1,q1⟩=>?_)
 cases c with
 | true=>exact ⟨H1,I1,q1⟩
 | false=>exact hb wh pins s1 σ H1 Q I1 q1
theorem Zc2 (ha:PT X a tA):PT X (.UnaryOp .Not a pos) (tNot tA):=by
 intro pins s σ H Q I h;exact isTrue_not (ha pins s σ H (fun c H1=>Q (!c) H1) I h)
def tAndV (ta tb:TE):TE:=fun σ H Q=>ta σ H fun x H1=>∃ c,x=.bl c∧if c=true then tb σ H1 Q else Q (.bl false) H1
def tNotV (ta:TE):TE:=fun σ H Q=>ta σ H fun x H1=>∃ c,x=.bl c∧Q (.bl (!c)) H1
theorem ZjJ {op}{t:TE} (h:PE X a t):PE X (.BoolOp op [a] pos) t:=fun pins s σ H Q I hw=>BoolOp_one (h pins s σ H Q I hw)
theorem ZjK (ha:PE X a ta) (hb:PE X (.BoolOp .And (b :: rest) pos) tb):PE X (.BoolOp .And (a :: b :: rest) pos) (tAndV ta tb):=by
 intro pins s σ H Q I h;refine BoolOp_and (thn (ha pins s σ H _ I h) fun v s1 ⟨x,H1,I1,r1,q1⟩=>?_);obtain ⟨c,rfl,q1⟩:=q1;cases r1;refine Xbo ?_
 cases c with
 | true=>exact hb pins s1 σ H1 Q I1 q1
 | false=>exact ⟨.bl false,H1,I1,rfl,q1⟩
theorem pe_not (ha:PE X a ta):PE X (.UnaryOp .Not a pos) (tNotV ta):=by
 intro pins s σ H Q I h;refine UnaryOp_ (thn (ha pins s σ H _ I h) fun v s1 ⟨x,H1,I1,r1,q1⟩=>?_);obtain ⟨c,rfl,q1⟩:=q1;cases r1;exact not_of (Xbo ⟨.bl (!c),H1,I1,rfl,q1⟩)
end
def SqL (K:XFg) (H:Hp) (a:Addr) (xs:List V):Prop :=
 Rd H a (.lst xs) ∨
  ∃ (o:Obj) (its:Array Value) (n:Nat),K.lookup a=some o∧o.cls=.type "list" ∧ o.dict=none∧o.data=.seq its n∧its.size≤sizeLine∧Vals xs its.toList
def SqT (K:XFg) (H:Hp) (a:Addr) (xs:List V):Prop :=
 Rd H a (.tup xs) ∨
  ∃ (o:Obj) (its:Array Value) (n:Nat),K.lookup a=some o∧o.cls=.type "tuple" ∧ o.data=.seq its n∧its.size≤sizeLine∧Vals xs its.toList
def absV:Value→Option V
 | .none=>some .non
 | .bool b=>some (.bl b)
 | .int i _=>some (.int i)
 | .str x _=>some (.str x)
 | .bytes b _=>some (.byt b)
 | .float b _=>some (.flt b)
 | .ref a=>some (.ref a)
 | .type n=>some (.ty n)
 | _=>none
theorem RelV.abs {x:V}{u:Value} (r:RelV x u):absV u=some x:=by
 cases x with
 | non=>cases r;rfl
 | bl _=>cases r;rfl
 | int _=>obtain ⟨t,rfl⟩:=r;rfl
 | str _=>obtain ⟨t,rfl⟩:=r;rfl
 | byt _=>obtain ⟨t,rfl⟩:=r;rfl
 | flt _=>obtain ⟨t,rfl⟩:=r;rfl
 | ref _=>cases r;rfl
 | ty _=>cases r;rfl
theorem RelV.inj {x y:V}{u:Value} (r:RelV x u) (q:RelV y u):x=y:=Xbd (r.abs.symm.trans q.abs)
theorem Vals.inj:∀ {xs ys:List V}{us:List Value},Vals xs us→Vals ys us→xs=ys
 | _,_,_,.nil,.nil=>rfl
 | _,_,_,.cons r t,.cons r' t'=>by rw [r.inj r',Vals.inj t t']
section
variable {X:Cx} {pins:List (Addr×Obj)} {σ:St} {H:Hp} {s:Shared} {a:Addr} {xs ys:List V}
theorem SqL.of {K:XFg} (h:H a=some (.lst xs)):SqL K H a xs:=.inl (.inl h)
theorem SqT.of {K:XFg} (h:H a=some (.tup xs)):SqT K H a xs:=.inl (.inl h)
theorem Inv.list (I:Inv X pins σ H s) (h:SqL X.K H a xs):∃ its:List Value,Vals xs its∧PlainL s.heap a its.toArray∧xs.length≤sizeLine:=by
 rcases h with h | ⟨o,its,n,hk,hc,hd,hs,hz,r⟩
 · obtain ⟨z,its,n,r,e⟩:=h.ok I.hok
   exact ⟨its,r,⟨_,n,e,rfl,rfl,rfl⟩,z⟩
 · refine ⟨its.toList,r,⟨o,n,I.kIn a o hk,hc,hd,by simpa using hs⟩,?_⟩
   have e:=r.length;simp only [Array.length_toList] at e;omega
theorem Inv.tuple (I:Inv X pins σ H s) (h:SqT X.K H a xs):∃ its:List Value,Vals xs its∧IsTup s.heap a its.toArray∧xs.length≤sizeLine:=by
 rcases h with h | ⟨o,its,n,hk,hc,hs,hz,r⟩
 · obtain ⟨z,its,r,p⟩:=h.ok I.hok
   exact ⟨its,r,p,z⟩
 · refine ⟨its.toList,r,⟨o,I.kIn a o hk,hc,n,by simpa using hs⟩,?_⟩
   have e:=r.length;simp only [Array.length_toList] at e;omega
theorem Inv.list_inj (I:Inv X pins σ H s) (h:SqL X.K H a xs) (h':SqL X.K H a ys):xs=ys:=by
 obtain ⟨its,r,⟨o,n,e,_,_,d⟩,_⟩:=I.list h;obtain ⟨its',r',⟨o',n',e',_,_,d'⟩,_⟩:=I.list h';rw [e] at e';cases e';rw [d] at d'
 injection d' with d1 _
 have:its=its':=by simpa using Xbk Array.toList d1
 subst this;exact r.inj r'
theorem Inv.tuple_inj (I:Inv X pins σ H s) (h:SqT X.K H a xs) (h':SqT X.K H a ys):xs=ys:=by
 obtain ⟨its,r,⟨o,e,_,n,d⟩,_⟩:=I.tuple h;obtain ⟨its',r',⟨o',e',_,n',d'⟩,_⟩:=I.tuple h';rw [e] at e';cases e';rw [d] at d'
 injection d' with d1 _
 have:its=its':=by simpa using Xbk Array.toList d1
 subst this;exact r.inj r'
end
abbrev Cx.wish (X:Cx) (E:Value→Shared→Prop):Cx:={ X with xe:=E }
abbrev Cx.nox (X:Cx):Cx:=X.wish fun _ _=>False
theorem Cx.Ok.wish {X:Cx} (ok:X.Ok) (E:Value→Shared→Prop):(X.wish E).Ok :=
 ⟨ok.mod,ok.kind,ok.glob,ok.blt,ok.above,ok.inj,ok.has,ok.cab,ok.hd,ok.frames,ok.stk,ok.exf,ok.bs,ok.bsz,ok.noex,ok.exfs,ok.funs,ok.frf⟩
theorem Cx.Ok.unwish {X:Cx}{E:Value→Shared→Prop} (ok:(X.wish E).Ok):X.Ok :=
 ⟨ok.mod,ok.kind,ok.glob,ok.blt,ok.above,ok.inj,ok.has,ok.cab,ok.hd,ok.frames,ok.stk,ok.exf,ok.bs,ok.bsz,ok.noex,ok.exfs,ok.funs,ok.frf⟩
section
variable {X:Cx} {pins:List (Addr×Obj)} {σ:St} {H:Hp} {s:Shared} {E:Value→Shared→Prop}
theorem Inv.wish (I:Inv X pins σ H s) (E:Value→Shared→Prop):Inv (X.wish E) pins σ H s:=⟨I.ok.wish E,I.os,I.bare,I.base,I.loc,I.cell,I.free,I.freeC,I.pin,I.hok,I.len⟩
theorem Inv.unwish (I:Inv (X.wish E) pins σ H s):Inv X pins σ H s:=⟨I.ok.unwish,I.os,I.bare,I.base,I.loc,I.cell,I.free,I.freeC,I.pin,I.hok,I.len⟩
theorem SP.unwish {D:Ends}{f:Flow}{s':Shared} (h:SP (X.wish E) pins D f s'):SP X pins D f s':=by
 cases f with
 | next=>obtain ⟨σ',H',I,q⟩:=h;exact ⟨σ',H',I.unwish,q⟩
 | brk=>obtain ⟨σ',H',I,q⟩:=h;exact ⟨σ',H',I.unwish,q⟩
 | cont=>obtain ⟨σ',H',I,q⟩:=h;exact ⟨σ',H',I.unwish,q⟩
 | ret u=>obtain ⟨v,σ',H',I,r,q⟩:=h;exact ⟨v,σ',H',I.unwish,r,q⟩
theorem PSs.nox {st:List Stmt}{t:TS} (h:PSs X.nox st t):PSs X st t:=fun pins s σ H D I hw =>
 Xbw (h pins s σ H D (I.wish _) hw) (fun _ _ q=>q.unwish) fun _ _ z=>False.elim z
end
section
variable {X:Cx} {st:Stmt} {rest:List Stmt} {t u:TS} {e:Expr} {te:TE} {pos:Pos}
def tNext:TS:=fun D σ H=>D.nx σ H
def tSeq (t u:TS):TS:=fun D σ H=>t { D with nx:=u D } σ H
theorem Zau:PSs X [] tNext:=fun _ _ σ H _ I h=>wpAny_execs_nil ⟨σ,H,I,h⟩
theorem Zad (h1:PS X st t) (h2:PSs X rest u):PSs X (st :: rest) (tSeq t u):=by
 intro pins s σ H D I h;refine wpAny_execs_cons (thn (h1 pins s σ H { D with nx:=u D } I h) fun f s1 q=>?_)
 cases f with
 | next =>
   obtain ⟨σ',H',I',q⟩:=q;exact h2 pins s1 σ' H' D I' q
 | ret v=>exact q
 | brk=>exact q
 | cont=>exact q
theorem Zae (h1:PS X st t):PSs X [st] t:=by
 intro pins s σ H D I h;refine wpAny_execs_cons (thn (h1 pins s σ H D I h) fun f s1 q=>?_)
 cases f with
 | next=>exact wpAny_execs_nil q
 | ret v=>exact q
 | brk=>exact q
 | cont=>exact q
theorem Inv.quiet {pins:List (Addr×Obj)} {σ:St} {H:Hp} {s:Shared} (I:Inv X pins σ H s):interactive X.env=false:=by simp [interactive,I.ok.kind]
def tDrop (te:TE):TS:=fun D σ H=>te σ H fun _ H1=>D.nx σ H1
theorem ZaB (he:PE X e te) (hs:swapsWith e none pos.line X.env=pure false:=by rfl):PS X (.Expr e pos) (tDrop te):=by
 intro pins s σ H D I h;exact wpAny_Expr_any (thn (he pins s σ H _ I h) fun v s1 ⟨x,H1,I1,r1,q1⟩=>⟨σ,H1,I1,q1⟩) I.quiet hs
def tRet (te:TE):TS:=fun D σ H=>te σ H D.rt
theorem Zar (he:PE X e te):PS X (.Return (some e) pos) (tRet te):=by
 intro pins s σ H D I h;exact wpAny_Return_some (thn (he pins s σ H _ I h) fun v s1 ⟨x,H1,I1,r1,q1⟩=>⟨x,σ,H1,I1,r1,q1⟩)
def tIfS (c:TT) (t u:TS):TS:=fun D σ H=>c σ H fun b H1=>if b=true then t D σ H1 else u D σ H1
theorem ZaS {c:Expr}{a b:List Stmt}{tc:TT} (hc:PT X c tc) (ha:PSs X a t) (hb:PSs X b u):PS X (.If c a b pos) (tIfS tc t u):=by
 intro pins s σ H D I h;refine wpAny_If (thn (hc pins s σ H _ I h) fun d s1 ⟨H1,I1,q1⟩=>?_)
 cases d with
 | true=>exact ha pins s1 σ H1 D I1 q1
 | false=>exact hb pins s1 σ H1 D I1 q1
def tNever:TS:=fun _ _ _=>False
theorem ZbG:PS X st tNever:=fun _ _ _ _ _ _ h=>h.elim
end
abbrev TG:=V→St→Hp→(St→Hp→Prop)→Prop
abbrev TGs:=List V→St→Hp→(St→Hp→Prop)→Prop
def PG (X:Cx) (target:Expr) (t:TG):Prop :=
 ∀ (pins:List (Addr×Obj)) (s:Shared) (σ:St) (H:Hp) (v:V) (u:Value) (Q:St→Hp→Prop),Inv X pins σ H s→RelV v u→t v σ H Q →
  wpAny (model X.prog X.w) X.A (assign target X.env u) (fun _ s'=>∃ σ' H',Inv X pins σ' H' s'∧Q σ' H') X.xe s
def PGs (X:Cx) (ts:List Expr) (t:TGs):Prop :=
 ∀ (pins:List (Addr×Obj)) (s:Shared) (σ:St) (H:Hp) (vs:List V) (us:List Value) (Q:St→Hp→Prop),Inv X pins σ H s→Vals vs us→t vs σ H Q →
  wpAny (model X.prog X.w) X.A (assignInOrder ((assignEach ts X.env).map (·.2)) us) (fun _ s'=>∃ σ' H',Inv X pins σ' H' s'∧Q σ' H') X.xe s
abbrev TSet:=V→V→V→Hp→(Hp→Prop)→Prop
def PSet (X:Cx) (t:TSet):Prop :=
 ∀ (pins:List (Addr×Obj)) (s:Shared) (σ:St) (H:Hp) (o i v:V) (ov iv u:Value) (Q:Hp→Prop),Inv X pins σ H s→RelV o ov→RelV i iv→RelV v u→t o i v H Q →
  wpAny (model X.prog X.w) X.A (setItem ov iv u) (fun _ s'=>∃ H',Inv X pins σ H' s'∧Q H') X.xe s
abbrev TIp:=V→V→Hp→VK→Prop
def PIp (X:Cx) (op:Operator) (t:TIp):Prop :=
 ∀ (pins:List (Addr×Obj)) (s:Shared) (σ:St) (H:Hp) (x y:V) (v u:Value) (Q:VK),Inv X pins σ H s→RelV x v→RelV y u→t x y H Q →
  wpAny (model X.prog X.w) X.A (inplaceOp op v u) (EP X pins σ Q) X.xe s
section
variable {X:Cx} {pos:Pos}
def Zc3 (i:Nat):TG:=fun v σ H Q=>Q (σ.set i (some v)) H
theorem Zag {i:Nat}{x:Str} (hN:X.N.Nodup) (hi:X.N[i]?=some x) (hx:Loc X.env.scope x) (hf:X.fn x=true∨X.env.scope.names.lookup x=some .local:=by first | exact .inl rfl | exact .inr rfl | assumption):PG X (.Name x pos) (Zc3 i):=by
 intro pins s σ H v u Q I r h;exact wpAny_assign_Name (Zhi I hN hi hx r (fun s' I'=>⟨_,H,I',h⟩) hf)
def gNil:TGs:=fun vs σ H Q=>vs=[]∧Q σ H
def Zek (t:TG) (u:TGs):TGs:=fun vs σ H Q=>∃ v r,vs=v :: r∧t v σ H fun σ' H'=>u r σ' H' Q
theorem ZaG:PGs X [] gNil:=by
 intro pins s σ H vs us Q I r h;obtain ⟨e,h⟩:=h;subst e;cases r;exact assignInOrder_nil ⟨σ,H,I,h⟩
theorem Zai {e:Expr}{es:List Expr}{t:TG}{u:TGs} (h1:PG X e t) (h2:PGs X es u)
 (hs:(assignEach (e :: es) X.env).map (·.2)=assign e X.env :: (assignEach es X.env).map (·.2):=by rfl):PGs X (e :: es) (Zek t u):=by
 intro pins s σ H vs us Q I r h;obtain ⟨v,vr,e1,h⟩:=h;subst e1
 cases r with
 | cons r rr =>
   rw [hs];refine assignInOrder_cons (thn (h1 pins s σ H _ _ _ I r h) fun _ s1 ⟨σ1,H1,I1,q1⟩=>?_);exact h2 pins s1 σ1 H1 _ _ Q I1 rr q1
def gTup (K:XFg) (n:Nat) (t:TGs):TG:=fun v σ H Q=>∃ a xs,v=.ref a∧SqT K H a xs∧xs.length=n∧t xs σ H Q
theorem ZaR {es:List Expr}{k:Nat}{t:TGs}{n:Nat} (hc:X.calm=true) (h:PGs X es t)
 (hn:(assignEach es X.env).length=n:=by rfl) (hst:(assignEach es X.env).findIdx? (·.1)=none:=by rfl):PG X (.Tuple es k pos) (gTup X.K n t):=by
 intro pins s σ H v u Q I r hw;obtain ⟨a,xs,e1,hq,hl,hw⟩:=hw;subst e1;cases r;obtain ⟨its,rv,ht,hz⟩:=I.tuple hq;refine assign_Tuple_tuple (I.ok.hd hc) ht (by simp [hn,←hl,rv.length]) hst fun h' hx=>?_;have I1:Inv X pins σ H { s with heap:=h' }:=I.kept (t':=s.toks) fun b o e=>hx b o (XaZ (Xbq e)) e;exact h pins _ σ H xs _ Q I1 (by simpa using rv) hw
def gSub (to ti:TE) (t:TSet):TG:=fun v σ H Q=>to σ H fun o H1=>ti σ H1 fun i H2=>t o i v H2 fun H3=>Q σ H3
theorem pg_sub {o i:Expr}{to ti:TE}{t:TSet} (ho:PE X o to) (hi:PE X i ti) (hs:PSet X t)
 (ha:∀ v,assign (.Subscript o i pos) X.env v=(do
  let ov ←holding [v] (eval o X.env)
  let iv ←holding [v,ov] (eval i X.env)
  standAt pos
  holding [v,ov,iv] (setItem ov iv v)
  release [v,ov,iv] []):=by intro _;rfl):PG X (.Subscript o i pos) (gSub to ti t):=by
 intro pins s σ H v u Q I r h;rw [ha];refine Xbl (Xbn (thn (ho pins s σ H _ I h) fun ov s1 ⟨x,H1,I1,r1,q1⟩=>?_));refine Xbl (Xbn (thn (hi pins s1 σ H1 _ I1 q1) fun iv s2 ⟨y,H2,I2,r2,q2⟩=>?_));refine Xbl (wpAny_standAt (Xbl (Xbn (thn (hs pins s2 σ H2 x y v ov iv u _ I2 r1 r2 r q2) fun _ s3 ⟨H3,I3,q3⟩=>?_))));exact wpAny_release ⟨σ,H3,I3,q3⟩
def tAsg (te:TE) (g:TG):TS:=fun D σ H=>te σ H fun x H1=>g x σ H1 D.nx
theorem Zdl {tg e:Expr}{te:TE}{g:TG} (he:PE X e te) (hg:PG X tg g) (hs:swapsWithSole [tg] e pos.line X.env=pure false:=by rfl) (hw:swappedStores [tg] e X.env=pure none:=by rfl)
 (h1:(assignEach [tg] X.env).map (·.2)=[assign tg X.env]:=by rfl):PS X (.Assign [tg] e pos) (tAsg te g):=by
 intro pins s σ H D I h;refine wpAny_Assign_stores (thn (he pins s σ H _ I h) fun v s1 ⟨x,H1,I1,r1,q1⟩=>?_) hs hw;rw [h1];exact thn (hg pins s1 σ H1 x v _ I1 r1 q1) fun _ s2 q=>q
theorem Zao {i:Nat}{x:Str}{e:Expr}{te:TE}{pos':Pos} (hN:X.N.Nodup) (hi:X.N[i]?=some x) (hx:Loc X.env.scope x) (he:PE X e te) (hs:swapsWith e (some (.Name x pos')) pos.line X.env=pure false:=by rfl) (hf:X.fn x=true∨X.env.scope.names.lookup x=some .local:=by first | exact .inl rfl | exact .inr rfl | assumption) :
 PS X (.Assign [.Name x pos'] e pos) (tAsg te (Zc3 i)):=by
 intro pins s σ H D I h;refine wpAny_Assign_Name (thn (he pins s σ H _ I h) fun v s1 ⟨y,H1,I1,r1,q1⟩=>?_) hs;exact Zhi I1 hN hi hx r1 (fun s2 I2=>⟨_,H1,I2,q1⟩) hf
def tAug (i:Nat) (te:TE) (ti:TIp):TS:=fun D σ H=>∃ x,σ[i]?=some (some x)∧te σ H fun y H1=>ti x y H1 fun z H2=>D.nx (σ.set i (some z)) H2
theorem ps_aug {i:Nat}{x:Str}{e:Expr}{te:TE}{op:Operator}{ti:TIp}{pos':Pos} (hN:X.N.Nodup) (hi:X.N[i]?=some x) (hx:Loc X.env.scope x) (he:PE X e te) (ho:PIp X op ti) (hf:X.fn x=true∨X.env.scope.names.lookup x=some .local:=by first | exact .inl rfl | exact .inr rfl | assumption) :
 PS X (.AugAssign (.Name x pos') op e pos) (tAug i te ti):=by
 intro pins s σ H D I h;obtain ⟨v,e1,h⟩:=h;obtain ⟨m,hn,hl⟩:=I.loc
 have vis:Vis X.env.scope x:=by rcases hx with k | k;exact .inl k;exact .inr (.inl k)
 obtain ⟨u,r,l⟩:=hl i x v hi e1 vis;refine wpAny_AugAssign_Name ?_
 have go:wpAny (model X.prog X.w) X.A (eval e X.env) (fun w s₂=>wpAny (model X.prog X.w) X.A (inplaceOp op u w) (fun r s₃=>wpAny (model X.prog X.w) X.A (storeName X.env x r) (fun _=>SP X pins D .next) X.xe s₃) X.xe s₂) X.xe s:=by
  refine thn (he pins s σ H _ I h) fun w s1 ⟨y,H1,I1,r1,q1⟩=>?_;refine thn (ho pins s1 σ H1 v y u w _ I1 r r1 q1) fun z s2 ⟨zv,H2,I2,r2,q2⟩=>?_;exact Zhi I2 hN hi hx r2 (fun s3 I3=>⟨_,H2,I3,q2⟩) hf
 rcases l with ⟨hk,hm⟩ | ⟨hk,c,hc,hcell⟩
 · exact wpAny_loadName_local I.ok.kind hk hn hm go
 · rcases hk with hk | hk
   · exact wpAny_loadName_cell I.ok.kind hk hc hcell go
   · rcases hx with k | k
     · have:X.env.scope.names.lookup x=some .free:=hk
       rw [k] at this;cases this
     · have:X.env.scope.names.lookup x=some .free:=hk
       rw [k] at this;cases this
end
section
variable {X:Cx} {pos:Pos}
def tWhile (c:TT) (tb:TS):TS:=fun D σ H=>∃ W:Nat→St→Hp→Prop,(∃ m,W m σ H)∧∀ m σ H,W m σ H →
 c σ H fun b H1=>if b=true then ∃ N:St→Hp→Prop,(∀ σ' H',N σ' H'→∃ m',m' < m∧W m' σ' H')∧tb { D with nx:=N,ct:=N,bk:=D.nx } σ H1 else D.nx σ H1
theorem ZjL {c:Expr}{body:List Stmt}{tc:TT}{tb:TS} (hp:PassesOwn (model X.prog X.w) X.A X.env X.xe) (hc:PT X c tc) (hb:PSs X body tb):PS X (.While c body [] pos) (tWhile tc tb):=by
 intro pins s σ H D I h;obtain ⟨W,⟨m0,w0⟩,turn⟩:=h;refine wpAny_While (codeAny_whileLoop (fun n s'=>∃ σ' H',Inv X pins σ' H' s'∧W n σ' H') ?_ m0 ⟨σ,H,I,w0⟩);rintro n s1 ⟨σ1,H1,I1,w1⟩;refine wpAny_passesOwn hp (thn (hc pins s1 σ1 H1 _ I1 (turn n σ1 H1 w1)) fun b s2 ⟨H2,I2,q2⟩=>?_)
 cases b with
 | true =>
   obtain ⟨N,hN,q2⟩:=q2;rw [Xbf rfl];refine wpAny_passesOwn hp (thn (hb pins s2 σ1 H2 _ I2 q2) fun f s3 q3=>?_)
   cases f with
   | next =>
     obtain ⟨σ3,H3,I3,n3⟩:=q3;obtain ⟨m',hm,w3⟩:=hN σ3 H3 n3;exact ⟨m',hm,σ3,H3,I3,w3⟩
   | cont =>
     obtain ⟨σ3,H3,I3,n3⟩:=q3;obtain ⟨m',hm,w3⟩:=hN σ3 H3 n3;exact ⟨m',hm,σ3,H3,I3,w3⟩
   | brk=>exact q3
   | ret v=>exact q3
 | false =>
   rw [Xbe Xbc];exact wpAny_execs_nil ⟨σ1,H2,I2,q2⟩
end
structure It where
 go:Nat→Hp→Prop
 yld:Nat→Hp→V→Hp→Prop
 stop:Nat→Hp→Prop
def FpOk (X:Cx) (pins:List (Addr×Obj)) (H:Hp) (b:Addr):Prop :=
 H b=none∧b≠X.env.locals∧b ∉ X.fs∧(b∈X.ex∨X.s₀.heap.objs.size≤b)∧(∀ x c,X.env.cells.lookup x=some c→c≠b)∧∀ p∈X.pn++pins,p.1≠b
theorem Inv.fpOk {X:Cx}{pins:List (Addr×Obj)} {σ:St} {H H':Hp} {s:Shared} {b:Addr} (I:Inv X pins σ H s) (hb:s.heap.objs.size≤b) (hn:H' b=none):FpOk X pins H' b:=by
 refine ⟨hn,Nat.ne_of_gt (Xbg I.lt hb),I.nofs hb,.inr (Xbh I.sz hb),fun x c e z=>?_,fun p hp z=>?_⟩
 · obtain ⟨v,q⟩:=I.cell x c e
   exact absurd (Xbg q.lt (by rw [z];exact hb)) (XaX _)
 · exact absurd (Xbg (Xbq (I.pin p hp).1) (by rw [z];exact hb)) (XaX _)
structure Turn (P:Program) (w:World) (K:XFg) (tg:Expr) (J:It) (fp:List Addr) (it:Addr) (tn:Nat→Heap→Prop):Prop where
 mem:it∈fp
 obj:∀ i h,tn i h→∀ b∈fp,∃ o,h.get? b=some o∧∀ v,o.data≠.cell v
 keep:∀ i h h',tn i h→(∀ b∈fp,∀ o,h.get? b=some o→h'.get? b=some o)→tn i h'
 item:∀ (X:Cx),X.prog=P→X.w=w→X.K=K→X.calm=true→∀ (i:Nat) (pins:List (Addr×Obj)) (s:Shared) (σ:St) (H:Hp) (E:Value→Shared→Prop),Inv X pins σ H s→(∀ b∈fp,FpOk X pins H b)→tn i s.heap→J.go i H →
  wpAny (model P w) X.A (pyNext (.ref it)) (fun r s1=>∃ u,r=some u ∧
   wpAny (model P w) X.A (letOwnedTupleGo tg (.ref it) u) (fun _ s2=>∃ x H',Inv X pins σ H' s2∧RelV x u∧J.yld i H x H'∧tn (i+1) s2.heap∧∀ b∈fp,H' b=none) E s1) E s
 done:∀ (X:Cx),X.prog=P→X.w=w→X.K=K→X.calm=true→∀ (i:Nat) (pins:List (Addr×Obj)) (s:Shared) (σ:St) (H:Hp) (E:Value→Shared→Prop),Inv X pins σ H s→(∀ b∈fp,FpOk X pins H b)→tn i s.heap→J.stop i H →
  wpAny (model P w) X.A (pyNext (.ref it)) (fun r s1=>r=none∧Inv X pins σ H s1) E s
 self:∀ (A:Around) (i:Nat) (s:Shared) (Q:Value→Shared→Prop) (E:Value→Shared→Prop),tn i s.heap→Q (.ref it) s→wpAny (model P w) A (pyIter (.ref it)) Q E s
abbrev TI:=St→Hp→(It→Hp→Prop)→Prop
def PIE (X:Cx) (pins:List (Addr×Obj)) (σ:St) (tg:Expr) (R:It→Hp→Prop) (itv:Value) (s2:Shared):Prop :=
 ∃ (it:Addr) (fp:List Addr) (tn:Nat→Heap→Prop) (J:It) (H':Hp),itv=.ref it∧Inv X pins σ H' s2∧Turn X.prog X.w X.K tg J fp it tn∧tn 0 s2.heap∧(∀ b∈fp,FpOk X pins H' b)∧R J H'
def PI (X:Cx) (tg iter:Expr) (wi:TI):Prop :=
 ∀ (pins:List (Addr×Obj)) (s:Shared) (σ:St) (H:Hp) (R:It→Hp→Prop),Inv X pins σ H s→wi σ H R →
  wpAny (model X.prog X.w) X.A (eval iter X.env) (fun v s1=>wpAny (model X.prog X.w) X.A (pyIter v) (PIE X pins σ tg R) X.xe s1) X.xe s
theorem Zmj {M:Model}{A:Around}{E:Value→Shared→Prop}{s:Shared}{tg:Expr}{it:Addr}{u:Value}{o:Obj}{n:String}{vs:Array Value}{Q:Unit→Shared→Prop} (ho:s.heap.get? it=some o) (hc:o.cls=.type n) (hd:o.data=.fields vs)
 (hn:["enumerate", "zip", "dict_itemiterator", "dict_reverseitemiterator", "odict_iterator", "itertools.zip_longest", "itertools.pairwise"].contains n=false) (hQ:Q () s):wpAny M A (letOwnedTupleGo tg (.ref it) u) Q E s:=by
 unfold letOwnedTupleGo
 cases tg <;> first
  | exact Xbm hQ
  | (cases u <;> first
   | exact Xbm hQ
   | (refine Xbl (wpAny_load ho ?_)
      rw [hc,hd]
      show wpAny M A (if (["enumerate", "zip", "dict_itemiterator", "dict_reverseitemiterator", "odict_iterator", "itertools.zip_longest", "itertools.pairwise"].contains n && vs[0]? == some (rawInt _))=true then _ else _) Q E s
      rw [Xbe (by intro h;rw [hn,Bool.false_and] at h;cases h)]
      exact Xbm hQ))
def Itl (K:XFg) (a:Addr):It :=
 ⟨fun i H=>∃ xs x,SqL K H a xs∧xs[i]?=some x,fun i H x H'=>H'=H∧∀ xs,SqL K H a xs→xs[i]?=some x,fun i H=>∃ xs,SqL K H a xs∧xs.length≤i⟩
def Itr (lo:Int) (n:Nat):It:=⟨fun i _=>i<n,fun i H x H'=>H'=H∧x=.int (lo+i),fun i _=>n≤i⟩
theorem Zk8 {P:Program}{w:World}{K:XFg}{tg:Expr} (a it:Addr):Turn P w K tg (Itl K a) [it] it (fun i h=>h.IsListIter it a i) where
 mem:=by simp
 obj:=fun i h st b hb=>by
  have e:b=it:=by simpa using hb
  subst e;obtain ⟨o,e,c,d⟩:=st;exact ⟨o,e,fun v z=>by rw [d] at z;cases z⟩
 keep:=fun i h h' st k=>st.at fun o e=>k it (by simp) o e
 item:=by
  intro X hP hw hK hc i pins s σ H E I hf st hg;subst hP hw hK;obtain ⟨xs,x,hq,hx⟩:=hg;obtain ⟨its,rv,p,hz⟩:=I.list hq;obtain ⟨u,hu,ru⟩:=rv.get hx;obtain ⟨f0,f1,f2,f3,f4,f5⟩:=hf it (by simp);refine wpAny_pyNext_list_item st p.isList (x:=u) (by simpa using hu) fun h' st' sb=>?_;have I1:Inv X pins σ H { s with heap:=h' }:=I.turned (t':=s.toks) (fun b o hb e=>(sb.2 b hb).trans e) f0 f1 f3 f4 f5;obtain ⟨o,e,c,d⟩:=id st';exact ⟨u,rfl,Zmj (s:={ s with heap:=h' }) e c d (by decide) ⟨x,H,I1,ru,⟨rfl,fun ys hy=>by rw [I.list_inj hy hq];exact hx⟩,st',fun b hb=>(hf b hb).1⟩⟩
 done:=by
  intro X hP hw hK hc i pins s σ H E I hf st hg;subst hP hw hK;obtain ⟨xs,hq,hx⟩:=hg;obtain ⟨its,rv,p,hz⟩:=I.list hq;obtain ⟨f0,f1,f2,f3,f4,f5⟩:=hf it (by simp);have hl:=rv.length;exact wpAny_pyNext_list_end (I.ok.hd hc) st p.isList (by simp;omega) fun h' eb=>⟨rfl,I.turned (t':=s.toks) (fun b o hb e=>eb b o hb e) f0 f1 f3 f4 f5⟩
 self:=fun _ _ _ _ _ st h=>wpAny_pyIter_listiter st h
theorem Zkt {P:Program}{w:World}{K:XFg}{tg:Expr} (it:Addr) (lo:Int) (n:Nat):Turn P w K tg (Itr lo n) [it] it (fun i h=>IsRangeIter h it (lo+(i:Nat) * 1) ((n:Int) - (i:Nat)) 1) where
 mem:=by simp
 obj:=fun i h st b hb=>by
  have e:b=it:=by simpa using hb
  subst e
  exact ⟨_,st,fun v z=>by
   have z':Data.fields _=Data.cell v:=z
   cases z'⟩
 keep:=fun i h h' st k=>k it (by simp) _ st
 item:=by
  intro X hP hw hK hc i pins s σ H E I hf st hg;subst hP hw hK;obtain ⟨f0,f1,f2,f3,f4,f5⟩:=hf it (by simp);have W:=Walks.range (prog:=X.prog) (w:=X.w) (I.ok.hd hc) it lo 1 n;refine W.item i s _ _ hg st fun v h' tk hv st' kk=>?_;obtain ⟨t,rfl⟩:=hv;have I1:Inv X pins σ H { s with heap:=h',toks:=tk }:=I.turned (fun b o hb e=>kk b o (by simpa using hb) e) f0 f1 f3 f4 f5
  refine ⟨_,rfl,Zmj (s:={ s with heap:=h',toks:=tk }) (n := "range_iterator") st' rfl rfl (by decide) ⟨.int (lo+i),H,I1,⟨t,?_⟩,⟨rfl,rfl⟩,st',fun b hb=>(hf b hb).1⟩⟩
  rw [Int.mul_one]
 done:=by
  intro X hP hw hK hc i pins s σ H E I hf st hg;subst hP hw hK;obtain ⟨f0,f1,f2,f3,f4,f5⟩:=hf it (by simp);exact wpAny_pyNext_range_end (I.ok.hd hc) st (by have:n≤i:=hg;omega) fun h' eb=>⟨rfl,I.turned (t':=s.toks) (fun b o hb e=>eb b o hb e) f0 f1 f3 f4 f5⟩
 self:=fun _ _ _ _ _ st h=>wpAny_pyIter_rangeiter st h
section
variable {X:Cx} {tg:Expr}
def iList (K:XFg) (tl:TE):TI:=fun σ H R=>tl σ H fun x H1=>∃ a,x=.ref a∧(∃ xs,SqL K H1 a xs)∧R (Itl K a) H1
theorem Zaz {l:Expr}{tl:TE} (hl:PE X l tl):PI X tg l (iList X.K tl):=by
 intro pins s σ H R I h;refine thn (hl pins s σ H _ I h) fun v s1 ⟨x,H1,I1,r1,q1⟩=>?_;obtain ⟨a,e,⟨xs,hq⟩,q⟩:=q1;subst e;cases r1;obtain ⟨its,rv,p,hz⟩:=I1.list hq;refine wpAny_pyIter_list p.isList ?_;refine ⟨s1.heap.objs.size,[s1.heap.objs.size],_,_,H1,rfl,I1.kept (t':=s1.toks) fun b o e=>Xbp _ e,Zk8 a _,⟨_,Xbr _ rfl,rfl,rfl⟩,fun b hb=>?_,q⟩
 have e:b=s1.heap.objs.size:=by simpa using hb
 subst e;exact I1.fpOk (XaW _) (I1.hok.fresh (XaW _))
theorem Zmk {pins:List (Addr×Obj)} {σ:St} {H:Hp} {s:Shared} {R:It→Hp→Prop} {E:Value→Shared→Prop} {lo hi:Int} {t u v:Tok} {tk:Nat} (I:Inv X pins σ H s) (h1:-(2 ^ 62)≤lo) (h2:lo<2 ^ 62) (h3:-(2 ^ 62)≤hi) (h4:hi<2 ^ 62)
 (q:R (Itr lo (hi - lo).toNat) H):wpAny (model X.prog X.w) X.A (pyIter (.ref s.heap.objs.size)) (PIE X pins σ tg R) E { s with heap:=s.heap.push { cls:=.type "range",data:=.fields #[.int lo t,.int hi u,.int 1 v] },toks:=tk }:=by
 refine wpAny_pyIter_range (IsRange.new ..) (small_one h1 h2 h3 h4) ?_
 have I1:Inv X pins σ H { s with heap:=s.heap.push { cls:=.type "range",data:=.fields #[.int lo t,.int hi u,.int 1 v] },toks:=tk }:=I.kept fun b o e=>Xbp _ e
 refine ⟨(s.heap.push { cls:=.type "range",data:=.fields #[.int lo t,.int hi u,.int 1 v] }).objs.size,[(s.heap.push { cls:=.type "range",data:=.fields #[.int lo t,.int hi u,.int 1 v] }).objs.size],_,_,H,rfl,
  I1.kept (t':=tk) fun b o e=>Xbp _ e,Zkt _ lo (hi - lo).toNat,?_,fun b hb=>?_,q⟩
 · have e1:lo+((0:Nat):Int) * 1=lo:=by simp
   have e2:(((hi - lo).toNat:Nat):Int) - ((0:Nat):Int)=Builtin.Range.rangeSize lo hi 1:=by rw [rangeSize_one];split <;> omega
   show IsRangeIter _ _ (lo+((0:Nat):Int) * 1) ((((hi - lo).toNat:Nat):Int) - ((0:Nat):Int)) 1;rw [e1,e2];exact Xbr _ rfl
 · have e:b=(s.heap.push { cls:=.type "range",data:=.fields #[.int lo t,.int hi u,.int 1 v] }).objs.size:=by simpa using hb
   subst e;exact I1.fpOk (XaW _) (I1.hok.fresh (XaW _))
def iRng1 (ta:TA):TI:=fun σ H R=>ta σ H fun vs H1=>∃ j:Int,vs=[.int j]∧-(2 ^ 62)≤j∧j<2 ^ 62∧R (Itr 0 j.toNat) H1
theorem ZbD {a:Expr}{ta:TA}{p pos:Pos} (hg:Gl X "range") (hm:X.mg "range" = none) (ha:PA X [a] ta) (hs:starEach [a] X.env=[(false,eval a X.env)]:=by rfl):PI X tg (.Call (.Name "range" p) [a] [] pos) (iRng1 ta):=by
 intro pins s σ H R I h;refine Call_ (ZfO I hg hm boot_range (PyProof.Rows.callWith_type1 (thn (ha pos pins s σ H _ I h) fun us s1 ⟨vs,H1,I1,r1,q1⟩=>?_) hs rfl));obtain ⟨j,e,q1,q2,q⟩:=q1;subst e
 cases r1 with
 | cons r rr =>
   cases rr;obtain ⟨t,rfl⟩:=r;exact call_range_1 (Zmk I1 (by omega) (by omega) q1 q2 (by simpa using q))
def tFor (wi:TI) (g:TG) (tb:TS):TS:=fun D σ H=>wi σ H fun J H1=>∃ W:Nat→Nat→St→Hp→Prop,(∃ m,W 0 m σ H1)∧∀ i m σ H,W i m σ H →
 (J.stop i H∧D.nx σ H)∨(J.go i H∧∃ N:St→Hp→Prop,(∀ σ' H',N σ' H'→∃ m',m' < m∧W (i+1) m' σ' H')∧∀ x H',J.yld i H x H'→g x σ H' fun σ2 H2=>tb { D with nx:=N,ct:=N,bk:=D.nx } σ2 H2)
def Zia (fp:List Addr) (h:Heap):List (Addr×Obj):=fp.filterMap fun b=>(h.get? b).map fun o=>(b,o)
theorem ZdQ {fp:List Addr}{h:Heap}{b:Addr}{o:Obj} (hb:b∈fp) (e:h.get? b=some o):(b,o)∈Zia fp h:=List.mem_filterMap.mpr ⟨b,hb,by rw [e];rfl⟩
theorem Zk9 {fp:List Addr}{h:Heap}{p:Addr×Obj} (hp:p∈Zia fp h):p.1∈fp∧h.get? p.1=some p.2:=by
 obtain ⟨b,hb,e⟩:=List.mem_filterMap.mp hp
 cases q:h.get? b with
 | none=>rw [q] at e;cases e
 | some o =>
   rw [q] at e;have e':(b,o)=p:=Xbd e;subst e';exact ⟨hb,q⟩
theorem Inv.pinned {pins:List (Addr×Obj)} {σ:St} {H:Hp} {s:Shared} {fp:List Addr} (I:Inv X pins σ H s) (hf:∀ b∈fp,FpOk X pins H b) (ho:∀ b∈fp,∃ o,s.heap.get? b=some o∧∀ v,o.data≠.cell v):Inv X (pins++Zia fp s.heap) σ H s :=
 I.pins_of fun p hp=>(Xaf.mp hp).elim (fun z=>I.pin p (Xan _ z)) fun z=>by
  obtain ⟨hb,e⟩:=Zk9 z;obtain ⟨f0,f1,f2,_⟩:=hf p.1 hb;obtain ⟨o,e',d⟩:=ho p.1 hb;rw [e] at e';cases e';exact ⟨e,f0,f1,f2,d⟩
theorem Inv.unpinned {pins pl:List (Addr×Obj)} {σ:St} {H:Hp} {s:Shared} (I:Inv X (pins++pl) σ H s):Inv X pins σ H s:=I.pins_of fun p hp=>I.pin p (Xan _ (XaA _ hp))
theorem ZaL {iter:Expr}{body:List Stmt}{wi:TI}{g:TG}{tb:TS}{pos:Pos} (hp:PassesOwn (model X.prog X.w) X.A X.env X.xe) (hc:X.calm=true) (hi:PI X tg iter wi) (hg:PG X tg g) (hb:PSs X body tb)
 (hs:∀ x,foldedSetIterable iter X.env x=pure x:=by intro _;rfl):PS X (.For tg iter body [] pos) (tFor wi g tb):=by
 intro pins s σ H D I h;refine wpAny_For (thn (hi pins s σ H _ I h) fun v s1 h1=>thn h1 fun itv s2 h2=>?_) hs;obtain ⟨it,fp,tn,J,H2,e,I2,T,st2,f2,W,⟨m0,w0⟩,turn⟩:=h2;subst e;have stat:∀ {H':Hp},(∀ b∈fp,H' b=none)→∀ b∈fp,FpOk X pins H' b:=fun hn b hb=>⟨hn b hb,(f2 b hb).2⟩;refine codeAny_forLoop_any (fun n s'=>∃ i σ' H',Inv X pins σ' H' s'∧tn i s'.heap∧(∀ b∈fp,H' b=none)∧W i n σ' H') ?_ m0 ⟨0,σ,H2,I2,st2,fun b hb=>(f2 b hb).1,w0⟩;rintro n s3 ⟨i,σ3,H3,I3,st3,fr3,w3⟩
 rcases turn i n σ3 H3 w3 with ⟨stop,qn⟩ | ⟨go,N,hN,step⟩
 · refine wpAny_passesOwn hp (thn (T.done X rfl rfl rfl hc i pins s3 σ3 H3 X.xe I3 (stat fr3) st3 stop) fun r s4 ⟨hr,I4⟩=>?_)
   subst hr;exact wpAny_execs_nil ⟨σ3,H3,I4,qn⟩
 · refine wpAny_passesOwn hp (thn (T.item X rfl rfl rfl hc i pins s3 σ3 H3 X.xe I3 (stat fr3) st3 go) fun r s4 ⟨u,hr,h4⟩=>?_)
   subst hr;refine wpAny_passesOwn hp (thn h4 fun _ s5 ⟨x,H5,I5,r5,y5,st5,fr5⟩=>?_);have I5':=I5.pinned (stat fr5) (T.obj _ _ st5);refine wpAny_passesOwn hp (thn (hg _ s5 σ3 H5 x u _ I5' r5 (step x H5 y5)) fun _ s6 ⟨σ6,H6,I6,q6⟩=>?_);refine wpAny_passesOwn hp (thn (hb _ s6 σ6 H6 _ I6 q6) fun f s7 q7=>?_)
   have again:∀ {σ7:St} {H7:Hp},Inv X (pins++Zia fp s5.heap) σ7 H7 s7→N σ7 H7→∃ m,m<n∧∃ i σ' H',Inv X pins σ' H' s7∧tn i s7.heap∧(∀ b∈fp,H' b=none)∧W i m σ' H':=fun {σ7 H7} I7 n7=>by
    obtain ⟨m',hm,w7⟩:=hN σ7 H7 n7;refine ⟨m',hm,i+1,σ7,H7,I7.unpinned,T.keep _ _ _ st5 fun b hb o e=>(I7.pin (b,o) (Xan _ (Xan _ (ZdQ hb e)))).1,fun b hb=>?_,w7⟩;obtain ⟨o,e,d⟩:=T.obj _ _ st5 b hb;exact (I7.pin (b,o) (Xan _ (Xan _ (ZdQ hb e)))).2.1
   cases f with
   | next=>obtain ⟨σ7,H7,I7,n7⟩:=q7;exact again I7 n7
   | cont=>obtain ⟨σ7,H7,I7,n7⟩:=q7;exact again I7 n7
   | brk=>obtain ⟨σ7,H7,I7,q7⟩:=q7;exact ⟨σ7,H7,I7.unpinned,q7⟩
   | ret v=>obtain ⟨x7,σ7,H7,I7,r7,q7⟩:=q7;exact ⟨x7,σ7,H7,I7.unpinned,r7,q7⟩
end
theorem ZaI {K:XFg}{a:Addr}{xs:List V}{g:TG}{tb:TS}{D:Ends}{σ:St}{H:Hp} (Pv:Nat→St→Hp→Prop) (h0:Pv 0 σ H) (hl:∀ i σ H,i≤xs.length→Pv i σ H→SqL K H a xs)
 (hs:∀ i x σ H,xs[i]?=some x→Pv i σ H→g x σ H fun σ2 H2=>tb { D with nx:=Pv (i+1),ct:=Pv (i+1),bk:=D.nx } σ2 H2) (hd:∀ σ H,Pv xs.length σ H→D.nx σ H) :
 ∃ W:Nat→Nat→St→Hp→Prop,(∃ m,W 0 m σ H)∧∀ i m σ H,W i m σ H →
  ((Itl K a).stop i H∧D.nx σ H)∨((Itl K a).go i H∧∃ N:St→Hp→Prop,(∀ σ' H',N σ' H'→∃ m',m' < m∧W (i+1) m' σ' H')∧∀ x H',(Itl K a).yld i H x H'→g x σ H' fun σ2 H2=>tb { D with nx:=N,ct:=N,bk:=D.nx } σ2 H2):=by
 refine ⟨fun i m σ H=>m=xs.length - i∧i≤xs.length∧Pv i σ H,⟨xs.length,by simp,Xa1 _,h0⟩,?_⟩;rintro i m σ H ⟨rfl,hi,p⟩;have q:=hl i σ H hi p
 by_cases hlt:i<xs.length
 · refine .inr ⟨⟨xs,xs[i],q,by simp [hlt]⟩,Pv (i+1),fun σ' H' p'=>⟨xs.length - (i+1),by omega,rfl,hlt,p'⟩,fun x H' y=>?_⟩
   obtain ⟨e,y⟩:=y;subst e;exact hs i x σ _ (y xs q) p
 · have e:i=xs.length:=by omega
   subst e;exact .inl ⟨⟨xs,q,XaW _⟩,hd σ H p⟩
theorem Zb3 {lo:Int}{n:Nat}{g:TG}{tb:TS}{D:Ends}{σ:St}{H:Hp} (Pv:Nat→St→Hp→Prop) (h0:Pv 0 σ H)
 (hs:∀ i σ H,i<n→Pv i σ H→g (.int (lo+i)) σ H fun σ2 H2=>tb { D with nx:=Pv (i+1),ct:=Pv (i+1),bk:=D.nx } σ2 H2) (hd:∀ σ H,Pv n σ H→D.nx σ H) :
 ∃ W:Nat→Nat→St→Hp→Prop,(∃ m,W 0 m σ H)∧∀ i m σ H,W i m σ H →
  ((Itr lo n).stop i H∧D.nx σ H)∨((Itr lo n).go i H∧∃ N:St→Hp→Prop,(∀ σ' H',N σ' H'→∃ m',m' < m∧W (i+1) m' σ' H')∧∀ x H',(Itr lo n).yld i H x H'→g x σ H' fun σ2 H2=>tb { D with nx:=N,ct:=N,bk:=D.nx } σ2 H2):=by
 refine ⟨fun i m σ H=>m=n - i∧i≤n∧Pv i σ H,⟨n,by simp,Xa1 _,h0⟩,?_⟩;rintro i m σ H ⟨rfl,hi,p⟩
 by_cases hlt:i<n
 · refine .inr ⟨hlt,Pv (i+1),fun σ' H' p'=>⟨n - (i+1),by omega,rfl,hlt,p'⟩,fun x H' y=>?_⟩
   obtain ⟨e,y⟩:=y;subst e y;exact hs i σ _ hlt p
 · have e:i=n:=by omega
   subst e;exact .inl ⟨XaW _,hd σ H p⟩
abbrev R2:=V→V→Hp→VK→Prop
def OpR (X:Cx) (f:Value→Value→Sem Value) (r:R2):Prop :=
 ∀ (pins:List (Addr×Obj)) (s:Shared) (σ:St) (H:Hp) (x y:V) (v u:Value) (Q:VK),Inv X pins σ H s→RelV x v→RelV y u→r x y H Q →
  wpAny (model X.prog X.w) X.A (f v u) (EP X pins σ Q) X.xe s
def UnR (X:Cx) (f:Value→Sem Value) (r:V→Hp→VK→Prop):Prop :=
 ∀ (pins:List (Addr×Obj)) (s:Shared) (σ:St) (H:Hp) (x:V) (v:Value) (Q:VK),Inv X pins σ H s→RelV x v→r x H Q →
  wpAny (model X.prog X.w) X.A (f v) (EP X pins σ Q) X.xe s
def CallR (X:Cx) (f:Value) (r:List V→Hp→VK→Prop):Prop :=
 ∀ (pins:List (Addr×Obj)) (s:Shared) (σ:St) (H:Hp) (xs:List V) (us:List Value) (Q:VK),Inv X pins σ H s→Vals xs us→r xs H Q →
  wpAny (model X.prog X.w) X.A (call f us) (EP X pins σ Q) X.xe s
def TruR (X:Cx) (r:V→Hp→(Bool→Hp→Prop)→Prop):Prop :=
 ∀ (pins:List (Addr×Obj)) (s:Shared) (σ:St) (H:Hp) (x:V) (v:Value) (Q:Bool→Hp→Prop),Inv X pins σ H s→RelV x v→r x H Q →
  wpAny (model X.prog X.w) X.A (truthy v) (TP X pins σ Q) X.xe s
def tOp (r:R2) (ta tb:TE):TE:=fun σ H Q=>ta σ H fun x H1=>tb σ H1 fun y H2=>r x y H2 Q
def rI (C:Int→Int→Prop) (g:Int→Int→V):R2:=fun x y H Q=>∃ i j,x=.int i∧y=.int j∧C i j∧Q (g i j) H
def rI0 (g:Int→Int→V):R2:=fun x y H Q=>∃ i j,x=.int i∧y=.int j∧Q (g i j) H
section
variable {X:Cx} {a b c:Expr} {ta tb tc:TE} {pos:Pos}
theorem binT (ha:PE X a ta) (hb:PE X b tb) {pins:List (Addr×Obj)} {s:Shared} {σ:St} {H:Hp} {R:V→V→Hp→Prop} (I:Inv X pins σ H s)
 (h:ta σ H fun x H1=>tb σ H1 fun y H2=>R x y H2) {Q:Value→Shared→Prop} {f:Value→Value→Sem Value}
 (hf:∀ v u s2 x y H2,Inv X pins σ H2 s2→RelV x v→RelV y u→R x y H2→wpAny (model X.prog X.w) X.A (f v u) Q X.xe s2) :
 wpAny (model X.prog X.w) X.A (eval a X.env) (fun v s₁=>wpAny (model X.prog X.w) X.A (eval b X.env) (fun u s₂=>wpAny (model X.prog X.w) X.A (f v u) Q X.xe s₂) X.xe s₁) X.xe s:=by
 refine thn (ha pins s σ H _ I h) fun v s1 ⟨x,H1,I1,r1,q1⟩=>?_;refine thn (hb pins s1 σ H1 _ I1 q1) fun u s2 ⟨y,H2,I2,r2,q2⟩=>?_;exact hf v u s2 x y H2 I2 r1 r2 q2
theorem Zap {op:Operator}{r:R2} (ho:OpR X (binaryOp op) r) (ha:PE X a ta) (hb:PE X b tb):PE X (.BinOp a op b pos) (tOp r ta tb):=by
 intro pins s σ H Q I h;exact wpAny_BinOp (binT ha hb I h fun v u s2 x y H2 I2 rx ry q=>ho pins s2 σ H2 x y v u Q I2 rx ry q)
theorem opI {f:Value→Value→Sem Value}{C:Int→Int→Prop}{g:Int→Int→Int}
 (rule:∀ (i j:Int) (t u:Tok) (s:Shared) (Q:Value→Shared→Prop) (E:Value→Shared→Prop),C i j→Q (.int (g i j) s.toks) { s with toks:=s.toks+1 }→wpAny (model X.prog X.w) X.A (f (.int i t) (.int j u)) Q E s) :
 OpR X f (rI C fun i j=>.int (g i j)):=by
 intro pins s σ H x y v u Q I rx ry h;obtain ⟨i,j,rfl,rfl,hc,q⟩:=h;obtain ⟨t,rfl⟩:=rx;obtain ⟨t',rfl⟩:=ry;exact rule i j t t' s _ _ hc ⟨.int (g i j),H,I.tok _,⟨_,rfl⟩,q⟩
theorem opI0 {f:Value→Value→Sem Value}{g:Int→Int→Int}
 (rule:∀ (i j:Int) (t u:Tok) (s:Shared) (Q:Value→Shared→Prop) (E:Value→Shared→Prop),Q (.int (g i j) s.toks) { s with toks:=s.toks+1 }→wpAny (model X.prog X.w) X.A (f (.int i t) (.int j u)) Q E s) :
 OpR X f (rI0 fun i j=>.int (g i j)):=by
 intro pins s σ H x y v u Q I rx ry h;obtain ⟨i,j,rfl,rfl,q⟩:=h;obtain ⟨t,rfl⟩:=rx;obtain ⟨t',rfl⟩:=ry;exact rule i j t t' s _ _ ⟨.int (g i j),H,I.tok _,⟨_,rfl⟩,q⟩
theorem opB0 {f:Value→Value→Sem Value}{g:Int→Int→Bool}
 (rule:∀ (i j:Int) (t u:Tok) (s:Shared) (Q:Value→Shared→Prop) (E:Value→Shared→Prop),Q (.bool (g i j)) s→wpAny (model X.prog X.w) X.A (f (.int i t) (.int j u)) Q E s) :
 OpR X f (rI0 fun i j=>.bl (g i j)):=by
 intro pins s σ H x y v u Q I rx ry h;obtain ⟨i,j,rfl,rfl,q⟩:=h;obtain ⟨t,rfl⟩:=rx;obtain ⟨t',rfl⟩:=ry;exact rule i j t t' s _ _ ⟨.bl (g i j),H,I,rfl,q⟩
def CDiv (i j:Int):Prop:=0<j∧j<1073741824
def CPow (i j:Int):Prop:=0≤j∧j≤1000000∧i.natAbs<2 ^ 64
def CMul (i j:Int):Prop:=(-(2 ^ 64)<i∧i<2 ^ 64)∨(-(2 ^ 64)<j∧j<2 ^ 64)
theorem CMul.ok {i j:Int} (h:CMul i j):IntMulOk i j:=by
 rcases h with ⟨h1,h2⟩ | ⟨h1,h2⟩
 · exact .of_left (intBits_le_64 h1 h2)
 · exact .of_right (intBits_le_64 h1 h2)
theorem Zba:OpR X (binaryOp .Add) (rI0 fun i j=>.int (i+j)):=opI0 fun _ _ _ _ _ _ _ q=>add_int q
theorem ZfP:OpR X (binaryOp .Mult) (rI CMul fun i j=>.int (i * j)):=opI fun _ _ _ _ _ _ _ hc q=>mul_int q hc.ok
theorem ZaN:OpR X (binaryOp .FloorDiv) (rI CDiv fun i j=>.int (i / j)):=opI fun i j _ _ _ _ _ hc q=>by
 have h1:(0:Int)<j:=hc.1;have h2:j<1073741824:=hc.2;exact floordiv_int (by omega) (by rw [Int.fdiv_eq_ediv_of_nonneg i (by omega)];exact q) (.inl (PyProof.noPylong_small (by omega)))
theorem ZaE:OpR X (binaryOp .Mod) (rI (fun _ j=>0<j) fun i j=>.int (i % j)):=opI fun i j _ _ _ _ _ hc q=>by
 have h1:(0:Int)<j:=hc;exact mod_int' (by omega) (by rw [Int.fmod_eq_emod_of_nonneg i (by omega)];exact q)
theorem op_pow:OpR X (binaryOp .Pow) (rI CPow fun i j=>.int (i ^ j.toNat)):=opI fun _ _ _ _ _ _ _ hc q=>pow_int_small hc.1 hc.2.1 hc.2.2 q
theorem Zla:OpR X (inplaceOp .Add) (rI0 fun i j=>.int (i+j)):=opI0 fun _ _ _ _ _ _ _ q=>iadd_int q
theorem Zhj:OpR X (inplaceOp .FloorDiv) (rI CDiv fun i j=>.int (i / j)):=opI fun i j _ _ _ _ _ hc q=>by
 have h1:(0:Int)<j:=hc.1;have h2:j<1073741824:=hc.2;exact ifloordiv_int (by omega) (by rw [Int.fdiv_eq_ediv_of_nonneg i (by omega)];exact q) (.inl (PyProof.noPylong_small (by omega)))
end
def scal:V→V→Bool
 | .non,.non=>true | .non,.int _=>true | .int _,.non=>true | .non,.bl _=>true | .bl _,.non=>true | .non,.str _=>true | .str _,.non=>true
 | .int _,.int _=>true | .bl _,.bl _=>true | .str _,.str _=>true | .byt _,.byt _=>true
 | .int _,.str _=>true | .str _,.int _=>true | .bl _,.str _=>true | .str _,.bl _=>true
 | _,_=>false
def rEq:R2:=fun x y H Q=>scal x y=true∧Q (.bl (decide (x=y))) H
def rNe:R2:=fun x y H Q=>scal x y=true∧Q (.bl (!decide (x=y))) H
theorem Zlb {i j:Int}:decide (V.int i=V.int j)=(i == j):=by
 rw [Bool.eq_iff_iff]
 simp
theorem dec_bl {i j:Bool}:decide (V.bl i=V.bl j)=(i == j):=by
 rw [Bool.eq_iff_iff]
 simp
theorem Zlc {i j:Str}:decide (V.str i=V.str j)=(i == j):=by
 rw [Bool.eq_iff_iff]
 simp
theorem Zld {i j:Array UInt8}:decide (V.byt i=V.byt j)=(i.toList == j.toList):=by
 rw [Bool.eq_iff_iff];cases i;cases j
 simp
section
variable {X:Cx} {a b c:Expr} {ta tb tc:TE} {pos:Pos}
theorem ZaW {pins:List (Addr×Obj)} {σ:St} {H:Hp} {s:Shared} {Q:VK} {k k':Bool} (I:Inv X pins σ H s) (q:Q (.bl k) H) (e:k=k'):EP X pins σ Q (.bool k') s:=by
 subst e;exact ⟨.bl k,H,I,rfl,q⟩
theorem Zcf:OpR X (compareOp .Eq) rEq:=by
 intro pins s σ H x y v u Q I rx ry h;obtain ⟨hs,q⟩:=h
 cases x with
 | non =>
   cases rx
   cases y with
   | non=>cases ry;exact PySem.EqNone.eq_none_none (ZaW I q (by simp))
   | bl j=>cases ry;exact PySem.EqNone.eq_none_bool (ZaW I q (by simp))
   | int j=>obtain ⟨t',rfl⟩:=ry;exact PySem.EqNone.eq_none_int (ZaW I q (by simp))
   | str j=>obtain ⟨t',rfl⟩:=ry;exact PySem.EqNone.eq_none_str (ZaW I q (by simp))
   | _=>exact absurd (show false=true from hs) Xbc
 | bl i =>
   cases rx
   cases y with
   | non=>cases ry;exact PySem.EqNone.eq_bool_none (ZaW I q (by simp))
   | bl j=>cases ry;exact eq_bool (ZaW I q dec_bl)
   | str j=>obtain ⟨t',rfl⟩:=ry;exact PySem.EqMixed.eq_bool_str (ZaW I q (by simp))
   | _=>exact absurd (show false=true from hs) Xbc
 | int i =>
   obtain ⟨t,rfl⟩:=rx
   cases y with
   | non=>cases ry;exact PySem.EqNone.eq_int_none (ZaW I q (by simp))
   | int j=>obtain ⟨t',rfl⟩:=ry;exact eq_int (ZaW I q Zlb)
   | str j=>obtain ⟨t',rfl⟩:=ry;exact PySem.EqMixed.eq_int_str (ZaW I q (by simp))
   | _=>exact absurd (show false=true from hs) Xbc
 | str i =>
   obtain ⟨t,rfl⟩:=rx
   cases y with
   | non=>cases ry;exact PySem.EqNone.eq_str_none (ZaW I q (by simp))
   | bl j=>cases ry;exact PySem.EqMixed.eq_str_bool (ZaW I q (by simp))
   | int j=>obtain ⟨t',rfl⟩:=ry;exact PySem.EqMixed.eq_str_int (ZaW I q (by simp))
   | str j=>obtain ⟨t',rfl⟩:=ry;exact eq_str (ZaW I q Zlc)
   | _=>exact absurd (show false=true from hs) Xbc
 | byt i =>
   obtain ⟨t,rfl⟩:=rx
   cases y with
   | byt j=>obtain ⟨t',rfl⟩:=ry;exact PySem.W.eq_bytes (ZaW I q Zld)
   | _=>exact absurd (show false=true from hs) Xbc
 | _=>cases y <;> exact absurd (show false=true from hs) Xbc
theorem op_ne:OpR X (compareOp .NotEq) rNe:=by
 intro pins s σ H x y v u Q I rx ry h;obtain ⟨hs,q⟩:=h
 cases x with
 | non =>
   cases rx
   cases y with
   | non=>cases ry;exact PySem.EqNone.ne_none_none (ZaW I q (by simp))
   | bl j=>cases ry;exact PySem.EqNone.ne_none_bool (ZaW I q (by simp))
   | int j=>obtain ⟨t',rfl⟩:=ry;exact PySem.EqNone.ne_none_int (ZaW I q (by simp))
   | str j=>obtain ⟨t',rfl⟩:=ry;exact PySem.EqNone.ne_none_str (ZaW I q (by simp))
   | _=>exact absurd (show false=true from hs) Xbc
 | bl i =>
   cases rx
   cases y with
   | non=>cases ry;exact PySem.EqNone.ne_bool_none (ZaW I q (by simp))
   | bl j=>cases ry;exact ne_bool (ZaW I q (Xbk not dec_bl))
   | str j=>obtain ⟨t',rfl⟩:=ry;exact PySem.EqMixed.ne_bool_str (ZaW I q (by simp))
   | _=>exact absurd (show false=true from hs) Xbc
 | int i =>
   obtain ⟨t,rfl⟩:=rx
   cases y with
   | non=>cases ry;exact PySem.EqNone.ne_int_none (ZaW I q (by simp))
   | int j=>obtain ⟨t',rfl⟩:=ry;exact ne_int (ZaW I q (Xbk not Zlb))
   | str j=>obtain ⟨t',rfl⟩:=ry;exact PySem.EqMixed.ne_int_str (ZaW I q (by simp))
   | _=>exact absurd (show false=true from hs) Xbc
 | str i =>
   obtain ⟨t,rfl⟩:=rx
   cases y with
   | non=>cases ry;exact PySem.EqNone.ne_str_none (ZaW I q (by simp))
   | bl j=>cases ry;exact PySem.EqMixed.ne_str_bool (ZaW I q (by simp))
   | int j=>obtain ⟨t',rfl⟩:=ry;exact PySem.EqMixed.ne_str_int (ZaW I q (by simp))
   | str j=>obtain ⟨t',rfl⟩:=ry;exact ne_str (ZaW I q (Xbk not Zlc))
   | _=>exact absurd (show false=true from hs) Xbc
 | byt i =>
   obtain ⟨t,rfl⟩:=rx
   cases y with
   | byt j=>obtain ⟨t',rfl⟩:=ry;exact PySem.W.ne_bytes (ZaW I q (Xbk not Zld))
   | _=>exact absurd (show false=true from hs) Xbc
 | _=>cases y <;> exact absurd (show false=true from hs) Xbc
theorem Zib:OpR X (compareOp .Lt) (rI0 fun i j=>.bl (decide (i<j))):=opB0 fun _ _ _ _ _ _ _ q=>lt_int q
theorem op_le:OpR X (compareOp .LtE) (rI0 fun i j=>.bl (decide (i≤j))):=opB0 fun _ _ _ _ _ _ _ q=>le_int q
theorem Zhk:OpR X (compareOp .Gt) (rI0 fun i j=>.bl (decide (j<i))):=opB0 fun _ _ _ _ _ _ _ q=>gt_int q
theorem ZaD (b:Expr) {op:CmpOp} (h:op≠.In:=by decide) (h2:op≠.NotIn:=by decide):behindInMarks op b=false:=by
 have e1:(op == CmpOp.In)=false:=by cases op <;> first | rfl | exact absurd rfl h
 have e2:(op == CmpOp.NotIn)=false:=by cases op <;> first | rfl | exact absurd rfl h2
 cases b <;> simp [behindInMarks,e1,e2]
theorem Zb6 {op:CmpOp}{r:R2} (ho:OpR X (compareOp op) r) (ha:PE X a ta) (hb:PE X b tb) (hm:behindInMarks op b=false):PE X (.Compare a [op] [b] pos) (tOp r ta tb):=by
 intro pins s σ H Q I h;exact wpAny_Compare1 (binT ha hb I h fun v u s2 x y H2 I2 rx ry q=>ho pins s2 σ H2 x y v u Q I2 rx ry q) hm
def tTest (t:TE):TT:=fun σ H Q=>t σ H fun x H'=>∃ k,x=.bl k∧Q k H'
theorem Zav {op:CmpOp}{r:R2} (ho:OpR X (compareOp op) r) (ha:PE X a ta) (hb:PE X b tb) (hm:behindInMarks op b=false):PT X (.Compare a [op] [b] pos) (tTest (tOp r ta tb)):=by
 intro pins s σ H Q I h
 refine wpAny_isTrue_Compare1 (thn (ha pins s σ H _ I h) fun v s1 ⟨x,H1,I1,r1,q1⟩=>thn (hb pins s1 σ H1 _ I1 q1) fun u s2 ⟨y,H2,I2,r2,q2⟩ =>
  thn (ho pins s2 σ H2 x y v u _ I2 r1 r2 q2) fun c s3 ⟨z,H3,I3,r3,k,e,q3⟩=>?_) hm
 subst e;cases r3;exact Xbo ⟨H3,I3,q3⟩
def tChain (r r':R2) (ta tb tc:TE):TE:=fun σ H Q=>ta σ H fun x H1=>tb σ H1 fun y H2=>r x y H2 fun z H3=>∃ k,z=.bl k ∧
 (if k=true then tc σ H3 fun w' H4=>r' y w' H4 Q else Q (.bl false) H3)
theorem ZjM {op op':CmpOp}{r r':R2} (ho:OpR X (compareOp op) r) (ho':OpR X (compareOp op') r') (ha:PE X a ta) (hb:PE X b tb) (hc:PE X c tc)
 (hm:lastMarks [op,op'] [b,c]=false:=by with_unfolding_all rfl):PE X (.Compare a [op,op'] [b,c] pos) (tChain r r' ta tb tc):=by
 intro pins s σ H Q I h
 refine Compare_chain (thn (ha pins s σ H _ I h) fun v s1 ⟨x,H1,I1,r1,q1⟩=>chain_link (thn (hb pins s1 σ H1 _ I1 q1) fun u s2 ⟨y,H2,I2,r2,q2⟩ =>
  thn (ho pins s2 σ H2 x y v u _ I2 r1 r2 q2) fun d s3 ⟨z,H3,I3,r3,k,e,q3⟩=>?_)) hm
 subst e;cases r3;refine Xbo ?_
 cases k with
 | false=>exact ite_ff ⟨.bl false,H3,I3,rfl,q3⟩
 | true=>exact ite_tt (chain_last (thn (hc pins s3 σ H3 _ I3 q3) fun w' s4 ⟨z',H4,I4,r4,q4⟩=>ho' pins s4 σ H4 y z' u w' Q I4 r2 r4 q4))
theorem Zml {op op':CmpOp}{r r':R2} (ho:OpR X (compareOp op) r) (ho':OpR X (compareOp op') r') (ha:PE X a ta) (hb:PE X b tb) (hc:PE X c tc)
 (hm:lastMarks [op,op'] [b,c]=false:=by with_unfolding_all rfl):PT X (.Compare a [op,op'] [b,c] pos) (tTest (tChain r r' ta tb tc)):=by
 intro pins s σ H Q I h
 refine isTrue_chain (thn (ha pins s σ H _ I h) fun v s1 ⟨x,H1,I1,r1,q1⟩=>test_link (thn (hb pins s1 σ H1 _ I1 q1) fun u s2 ⟨y,H2,I2,r2,q2⟩ =>
  thn (ho pins s2 σ H2 x y v u _ I2 r1 r2 q2) fun d s3 ⟨z,H3,I3,r3,k,e,q3⟩=>?_)) hm
 subst e;cases r3;refine Xbo ?_
 cases k with
 | false =>
   obtain ⟨k',e',q'⟩:=q3;cases e';exact ite_ff ⟨H3,I3,q'⟩
 | true =>
   refine ite_tt (test_last (thn (hc pins s3 σ H3 _ I3 q3) fun w' s4 ⟨z',H4,I4,r4,q4⟩=>thn (ho' pins s4 σ H4 y z' u w' _ I4 r2 r4 q4) fun d' s5 ⟨z2,H5,I5,r5,k2,e2,q5⟩=>?_));subst e2;cases r5;exact Xbo ⟨H5,I5,q5⟩
def TruV (K:XFg) (x:V) (H:Hp) (k:Bool):Prop :=
 match x with
 | .non=>k=false
 | .bl b=>k=b
 | .int i=>k=(i != 0)
 | .str y=>y.length≤sizeLine∧k=((y.length:Int) != 0)
 | .byt y=>y.size≤sizeLine∧k=((y.size:Int) != 0)
 | .ref p=>(∃ xs,SqL K H p xs∧k=!xs.isEmpty)∨(∃ xs,SqT K H p xs∧k=!xs.isEmpty)∨∃ kvs,H p=some (.dK kvs)∧k=!kvs.isEmpty
 | _=>False
theorem Zku {κ:Type}{kvs:List (κ×V)} {vs:List (κ×Value)} (r:KV kvs vs):(!vs.isEmpty)=!kvs.isEmpty:=by
 cases r <;> rfl
theorem ZgU {xs:List V}{its:List Value} (r:Vals xs its):(!its.toArray.isEmpty)=!xs.isEmpty:=by
 cases r <;> simp
theorem ZgV:(sizeLine:Nat)<2 ^ 63:=by rw [sizeLine_eq];decide
theorem tru_ok:TruR X (fun x H Q=>∃ k,TruV X.K x H k∧Q k H):=by
 intro pins s σ H x v Q I rx h;obtain ⟨k,e,q⟩:=h;have hl:=ZgV;have hs:sizeLine=16777216:=sizeLine_eq
 cases x with
 | non =>
   cases rx;have e':k=false:=e;subst e';exact truthy_none ⟨H,I,q⟩
 | bl b =>
   cases rx;have e':k=b:=e;subst e';exact Xbo ⟨H,I,q⟩
 | int i =>
   obtain ⟨t,rfl⟩:=rx;have e':k=(i != 0):=e;subst e';exact PySem.P.truthy_int ⟨H,I,q⟩
 | str y =>
   obtain ⟨t,rfl⟩:=rx;obtain ⟨hy,e'⟩:y.length≤sizeLine∧k=((y.length:Int) != 0):=e;subst e';exact PySem.P.truthy_str (by omega) ⟨H,I.tok _,q⟩
 | byt y =>
   obtain ⟨t,rfl⟩:=rx;obtain ⟨hy,e'⟩:y.size≤sizeLine∧k=((y.size:Int) != 0):=e;subst e';exact PySem.W.truthy_bytes (by omega) ⟨H,I.tok _,q⟩
 | ref p =>
   cases rx;have e':(∃ xs,SqL X.K H p xs∧k=!xs.isEmpty)∨(∃ xs,SqT X.K H p xs∧k=!xs.isEmpty)∨∃ kvs,H p=some (.dK kvs)∧k=!kvs.isEmpty:=e
   rcases e' with ⟨xs,hx,e'⟩ | ⟨xs,hx,e'⟩ | ⟨kvs,hx,e'⟩
   · subst e'
     obtain ⟨its,r,pl,hz⟩:=I.list hx;have hlen:=r.length;exact wpAny_truthy_list pl.isList (by simp only [Xak];omega) ⟨H,I.tok _,by rw [ZgU r];exact q⟩
   · subst e'
     obtain ⟨its,r,pl,hz⟩:=I.tuple hx;have hlen:=r.length;exact truthy_tuple pl (by simp only [Xak];omega) ⟨H,I.tok _,by rw [ZgU r];exact q⟩
   · subst e'
     obtain ⟨hz,hS,vs,r,m⟩:kvs.length≤sizeLine∧(p == sysModules)=false∧∃ vs,KV kvs vs∧s.heap.DictOf (ZaU X.prog X.w) p vs:=I.hok p _ hx;have hlen:kvs.length=vs.length:=Paired.length r;exact wpAny_truthy_dict hS m (by omega) ⟨H,I.tok _,by rw [Zku r];exact q⟩
 | _=>exact (show False from e).elim
theorem ZgW:OpR X (binaryOp .Add) (fun x y H Q=>∃ i j,x=.str i∧y=.str j∧i.length+j.length≤sizeLine∧Q (.str (i++j)) H):=by
 intro pins s σ H x y v u Q I rx ry h;obtain ⟨i,j,rfl,rfl,hz,q⟩:=h;obtain ⟨t,rfl⟩:=rx;obtain ⟨t',rfl⟩:=ry;exact add_str (fun t' tk=>⟨.str (i++j),H,I.tok _,⟨_,rfl⟩,q⟩) hz
theorem Zdt {x:V}{us:List Value} (r:Vals [x] us):∃ u,us=[u]∧RelV x u:=by
 cases r with
 | cons r1 r2=>cases r2;exact ⟨_,rfl,r1⟩
theorem Zhl {x y:V}{us:List Value} (r:Vals [x,y] us):∃ u w',us=[u,w']∧RelV x u∧RelV y w':=by
 cases r with
 | cons r1 r2 =>
   cases r2 with
   | cons r3 r4=>cases r4;exact ⟨_,_,rfl,r1,r3⟩
theorem ZfQ:CallR X (.type "int") (fun xs H Q=>(∃ i,xs=[.int i]∧Q (.int i) H)∨∃ k,xs=[.bl k]∧Q (.int (if k then 1 else 0)) H):=by
 intro pins s σ H xs us Q I r h
 rcases h with ⟨i,rfl,q⟩ | ⟨k,rfl,q⟩
 · obtain ⟨u,rfl,t,rfl⟩:=Zdt r
   exact call_int_int ⟨.int i,H,I,⟨_,rfl⟩,q⟩
 · obtain ⟨u,rfl,r1⟩:=Zdt r
   cases r1;exact call_int_bool ⟨.int (if k then 1 else 0),H,I.tok _,⟨_,rfl⟩,q⟩
def LenV (K:XFg) (x:V) (H:Hp) (n:Nat):Prop :=
 match x with
 | .str y=>y.length≤sizeLine∧n=y.length
 | .byt y=>y.size≤sizeLine∧n=y.size
 | .ref p=>(∃ xs,SqL K H p xs∧n=xs.length)∨∃ xs,SqT K H p xs∧n=xs.length
 | _=>False
theorem Zay:CallR X (.builtin "len") (fun xs H Q=>∃ x n,xs=[x]∧LenV X.K x H n∧Q (.int n) H):=by
 intro pins s σ H xs us Q I r h;obtain ⟨x,n,rfl,e,q⟩:=h;obtain ⟨u,rfl,rx⟩:=Zdt r;have hl:=ZgV;have hs:sizeLine=16777216:=sizeLine_eq
 cases x with
 | str y =>
   obtain ⟨t,rfl⟩:=rx;obtain ⟨hy,e'⟩:y.length≤sizeLine∧n=y.length:=e;subst e';exact len_str (by omega) ⟨.int _,H,I.tok _,⟨_,rfl⟩,q⟩
 | byt y =>
   obtain ⟨t,rfl⟩:=rx;obtain ⟨hy,e'⟩:y.size≤sizeLine∧n=y.size:=e;subst e';exact PySem.W.len_bytes (by omega) ⟨.int _,H,I.tok _,⟨_,rfl⟩,q⟩
 | ref p =>
   cases rx;have e':(∃ xs,SqL X.K H p xs∧n=xs.length)∨∃ xs,SqT X.K H p xs∧n=xs.length:=e
   rcases e' with ⟨xs,hx,e'⟩ | ⟨xs,hx,e'⟩
   · subst e'
     obtain ⟨its,r',pl,hz⟩:=I.list hx;have hlen:=r'.length;exact Calls.call_len_list pl.isList (by simp only [Xak];omega) ⟨.int xs.length,H,I.tok _,⟨_,by simp only [Xak];rw [hlen]⟩,q⟩
   · subst e'
     obtain ⟨its,r',pl,hz⟩:=I.tuple hx;have hlen:=r'.length;exact len_tuple pl (by simp only [Xak];omega) ⟨.int xs.length,H,I.tok _,⟨_,by simp only [Xak];rw [hlen]⟩,q⟩
 | _=>exact (show False from e).elim
end
section
variable {prog:Program} {w:World} {A:Around} {E:Value→Shared→Prop} {s:Shared} {K:XFg} {x dx C f:Addr} {mA:Str→Option Value} {name:Str} {v:Value}
end
theorem RelO.some_of {v:V}{o:Option Value} (r:RelO (some v) o):∃ u,o=some u∧RelV v u:=by
 cases o with
 | none=>exact (show False from r).elim
 | some u=>exact ⟨u,rfl,r⟩
section
variable {P:Program} {w:World} {H H':Hp} {h h':Heap} {a C dx:Addr} {fs fs':List (Str×V)}
end
section
variable {X:Cx} {pins:List (Addr×Obj)} {σ:St} {H:Hp} {s:Shared} {a C dx:Addr} {fs:List (Str×V)} {f:Str} {v:V} {A:Around} {E:Value→Shared→Prop}
end
section
variable {X:Cx} {o e value:Expr} {f:Str} {pos pos' tpos:Pos} {ta tv:TE}
end
section
variable {X:Cx} {pins:List (Addr×Obj)} {σ:St} {H:Hp} {s:Shared} {A:Around} {E:Value→Shared→Prop} {Q:Value→Shared→Prop} {c:Value} {b:Bool}
end
structure Room (k:Nat) (A:Around):Prop where
 hd:A.handled=none
 dp:A.depth+3 * k+5<recursionLimit
 un:A.units+16 * k+200<cLine
theorem Room.mono {j k:Nat}{A:Around} (r:Room k A) (h:j≤k):Room j A:=⟨r.hd,by have:=r.dp;omega,by have:=r.un;omega⟩
theorem Room.deeper {k:Nat}{A:Around} (r:Room (k+1) A) (env:Env):Room k (A.deeper env) :=
 ⟨r.hd,by have:=r.dp;show A.depth+1+3 * k+5<_;omega,by have:=r.un;show A.units+3+16 * k+200<_;omega⟩
theorem Room.depth {k:Nat}{A:Around} (r:Room k A):A.depth<recursionLimit:=by have:=r.dp;omega
theorem Room.units {k:Nat}{A:Around} (r:Room k A):A.units+64<cLine:=by have:=r.un;omega
def tNil:TA:=fun _ H Q=>Q [] H
def Zd3 (ta:TE) (tr:TA):TA:=fun σ H Q=>ta σ H fun x H1=>tr σ H1 fun xs H2=>Q (x :: xs) H2
section
variable {X:Cx} {e:Expr} {es:List Expr} {te:TE} {t:TA} {pos:Pos}
theorem Zab:PA X [] tNil:=fun _ _ _ _ H Q I h=>Calls.spliced_nil ⟨[],H,I,.nil,h⟩
theorem Zaa (ha:PE X e te) (hr:PA X es t) (hs:starEach (e :: es) X.env=(false,eval e X.env) :: starEach es X.env:=by rfl):PA X (e :: es) (Zd3 te t):=by
 intro pos pins s σ H Q I h;rw [hs];show wpAny _ _ (spliced ((false,eval e X.env) :: backTo pos (starEach es X.env))) _ _ s;refine Calls.spliced_cons (thn (ha pins s σ H _ I h) fun u s1 ⟨x,H1,I1,r1,q1⟩=>?_);exact thn (hr pos pins s1 σ H1 _ I1 q1) fun us s2 ⟨xs,H2,I2,r2,q2⟩=>⟨x :: xs,H2,I2,.cons r1 r2,q2⟩
def tTup (t:TA):TE:=fun σ H Q=>t σ H fun xs H1=>xs.length≤sizeLine∧∀ p,H1 p=none→Q (.ref p) (upd H1 p (.tup xs))
def tLst (t:TA):TE:=fun σ H Q=>t σ H fun xs H1=>xs.length≤sizeLine∧∀ p,H1 p=none→Q (.ref p) (upd H1 p (.lst xs))
theorem Zat {x1} (h:PA X es t):PE X (.Tuple es x1 pos) (tTup t):=by
 intro pins s σ H Q I hq;refine wpAny_Tuple_spliced (thn (h pos pins s σ H _ I hq) fun us s1 ⟨xs,H1,I1,r,z,q⟩=>⟨by rw [←r.length];exact z,?_⟩);have hf:H1 s1.heap.objs.size=none:=I1.hok.fresh (XaW _);refine ⟨.ref s1.heap.objs.size,upd H1 s1.heap.objs.size (.tup xs),I1.laid (t':=s1.toks) (fun b u e=>Xbp _ e) (XaW _) ?_,rfl,q _ hf⟩;exact ⟨z,us,r,⟨_,Xbr _ rfl,rfl,_,rfl⟩⟩
theorem ZaM (h:PA X es t):PE X (.List es pos) (tLst t):=by
 intro pins s σ H Q I hq;refine wpAny_List_spliced (thn (h pos pins s σ H _ I hq) fun us s1 ⟨xs,H1,I1,r,z,q⟩=>⟨by rw [←r.length];exact z,?_⟩);have hf:H1 s1.heap.objs.size=none:=I1.hok.fresh (XaW _);refine ⟨.ref s1.heap.objs.size,upd H1 s1.heap.objs.size (.lst xs),I1.laid (t':=s1.toks) (fun b u e=>Xbp _ e) (XaW _) ?_,rfl,q _ hf⟩;exact ⟨z,us,0,r,Xbr _ rfl⟩
end
abbrev Sp:=List V→Hp→VK→XK→Prop
abbrev CXT:=List Env→Hp→Shared→XK→Value→Shared→Prop
structure Env0 (P:Program) (w:World) (K:XFg) (mg:Str→Option Value) (base:Heap) (A:Around) (outer:List Env) (s:Shared) (H:Hp):Prop where
 frames:A.frames=some outer
 mod:Mod K mg base
 bs:∀ b o,base.get? b=some o→s.heap.get? b=some o∧H b=none
 bsz:base.objs.size≤s.heap.objs.size
 funs:s.heap.FunFrames base outer
 frf:∀ b∈frs outer,H b=none
 hok:HOk P w H s.heap
 bare:AllBare s.gens
def CE (outer:List Env) (P:Program) (w:World) (H:Hp) (s:Shared) (Q:VK) (u:Value) (s':Shared):Prop :=
 ∃ v H',s'.os=s.os∧AllBare s'.gens∧Un (frs outer) [] H H' s.heap s'.heap∧HOk P w H' s'.heap∧RelV v u∧Q v H'
def CR (CX:CXT) (outer:List Env) (P:Program) (w:World) (H:Hp) (s:Shared) (Q:VK) (E:XK) (r:Result) (s':Shared):Prop :=
 match r with
 | .ok (.ret u)=>CE outer P w H s Q u s'
 | .ok _=>False
 | .error e=>CX outer H s E e s'
structure FnOk (P:Program) (w:World) (K:XFg) (mg:Str→Option Value) (base:Heap) (CX:CXT) (k:Nat) (f:Addr) (fd:FuncData) (ps:List Str) (sp:Sp):Prop where
 len:∀ vs H Q E,sp vs H Q E→vs.length=ps.length
 run:∀ (A:Around) (outer:List Env) (s:Shared) (H:Hp) (args:Args) (us:List Value) (vs:List V) (Q:VK) (E:XK),Room k A→Env0 P w K mg base A outer s H→BindsTo s fd args (ps.zip us)→Vals vs us→sp vs H Q E →
  codeAny (model P w) A (.call (.ref f) args) (CR CX outer P w H s Q E) s
section
variable {X:Cx} {pins:List (Addr×Obj)} {σ:St} {H:Hp} {s s':Shared}
theorem Inv.env0 (I:Inv X pins σ H s):Env0 X.prog X.w X.K X.mg X.base X.A X.stack s H :=
 ⟨I.ok.frames,I.ok.mod,I.bs,Xbh I.ok.bsz I.sz,I.stack,I.stkFree,I.hok,I.bare⟩
theorem Inv.after {Q:VK}{u:Value} (I:Inv X pins σ H s) (h:CE X.stack X.prog X.w H s Q u s'):EP X pins σ Q u s':=by
 obtain ⟨v,H',os,bare,un,hok,r,q⟩:=h;obtain ⟨hh,g,d,t,os'⟩:=s';obtain rfl:os'=s.os:=os;exact ⟨v,H',I.call (h':=hh) (g':=g) (d':=d) (t':=t) (ch:=[]) un hok bare (fun b z=>absurd z (by simp)),r,q⟩
end
def Zmm (sp:Sp) (dvs:List V) (E:XK) (t:TA):TE:=fun σ H Q=>t σ H fun vs H1=>sp (vs++dvs) H1 Q E
def Binds (K:XFg) (fd:FuncData) (ps:List Str) (ds:List Value):Prop :=
 ∀ (s:Shared) (us:List Value),K.In s.heap→(us++ds).length=ps.length→BindsTo s fd ⟨us,[]⟩ (ps.zip (us++ds))
theorem Binds.all {K:XFg}{fd:FuncData}{ps:List Str} (h:∀ us:List Value,us.length=ps.length→bindArgs fd ⟨us,[]⟩=pure (ps.zip us)):Binds K fd ps []:=fun s us _ hl=>by
 rw [XaH] at hl ⊢;exact .of_eq (h us hl)
def ZjN (CX:CXT) (X:Cx) (E:XK):Prop:=∀ (pins:List (Addr×Obj)) (σ:St) (H:Hp) (s:Shared) (e:Value) (s':Shared),Inv X pins σ H s→CX X.stack H s E e s'→X.xe e s'
section
variable {X:Cx} {CX:CXT} {k:Nat} {f C:Addr} {fd:FuncData} {ps:List Str} {sp:Sp} {dvs:List V} {ds:List Value} {E:XK} {x m:Str} {p pos apos:Pos} {e o:Expr} {es:List Expr} {ta:TE} {t:TA}
theorem run_fn {pins:List (Addr×Obj)} {σ:St} {H:Hp} {s:Shared} {Q:VK} {us:List Value} {vs:List V} (F:FnOk X.prog X.w X.K X.mg X.base CX k f fd ps sp) (hr:Room k X.A) (hb:Binds X.K fd ps ds) (hd:Vals dvs ds) (hx:ZjN CX X E)
 (I:Inv X pins σ H s) (r:Vals vs us) (h:sp (vs++dvs) H Q E):wpAny (model X.prog X.w) X.A (call (.ref f) us) (EP X pins σ Q) X.xe s:=by
 have r2:Vals (vs++dvs) (us++ds):=r.append hd
 have hl:(us++ds).length=ps.length:=by rw [←r2.length];exact F.len _ _ _ _ h
 refine wpAny_call (codeAny_mono (F.run X.A X.stack s H ⟨us,[]⟩ (us++ds) (vs++dvs) Q E hr I.env0 (hb s us I.kIn hl) r2 h) fun r s' hq=>?_)
 cases r with
 | error e=>exact hx pins σ H s e s' I hq
 | ok fl =>
   cases fl with
   | ret u=>exact I.after hq
   | next=>exact False.elim hq
   | brk=>exact False.elim hq
   | cont=>exact False.elim hq
theorem pe_call (F:FnOk X.prog X.w X.K X.mg X.base CX k f fd ps sp) (hr:Room k X.A) (hg:Gl X x) (hm:X.mg x=some (.ref f)) (hk:PySem.W.keepIn X.K (.ref f)=true) (hb:Binds X.K fd ps ds) (hd:Vals dvs ds) (hx:ZjN CX X E)
 (ha:PA X (e :: es) t) (hdb:(x == ("__debug__" : Str))=false:=by decide) (he:starEach (e :: es) X.env=(false,eval e X.env) :: starEach es X.env:=by rfl) (hpl:(backTo pos (starEach es X.env)).any (·.1)=false:=by rfl) :
 PE X (.Call (.Name x p) (e :: es) [] pos) (Zmm sp dvs E t):=by
 intro pins s σ H Q I h;refine wpAny_Call_Name_kw (Zi8 I hg hm ?_ hdb);refine PySem.W.callWith_K (h₀:=X.base) I.ok.mod.kin hk (thn (ha pos pins s σ H _ I h) fun us s1 ⟨vs,H1,I1,r,q⟩=>⟨I1.kIn,?_⟩) he hpl;exact run_fn F hr hb hd hx I1 r q
theorem Zmn (F:FnOk X.prog X.w X.K X.mg X.base CX k f fd ps sp) (hr:Room k X.A) (hg:Gl X x) (hm:X.mg x=some (.ref f)) (hk:PySem.W.keepIn X.K (.ref f)=true) (hb:Binds X.K fd ps ds) (hd:Vals dvs ds) (hx:ZjN CX X E)
 (hdb:(x == ("__debug__" : Str))=false:=by decide):PE X (.Call (.Name x p) [] [] pos) (Zmm sp dvs E tNil):=by
 intro pins s σ H Q I h;refine wpAny_Call_Name_kw (Zi8 I hg hm ?_ hdb);exact PySem.W.callWith_K0 I.kIn hk (run_fn (us:=[]) F hr hb hd hx I .nil h)
end
section
variable {X:Cx} {CX:CXT} {k:Nat} {f C:Addr} {fd:FuncData} {ps ks:List Str} {sp:Sp} {E:XK} {x m:Str} {p pos apos kpos:Pos} {e o:Expr} {es:List Expr} {kws:List Keyword} {te ta:TE} {t tk:TA} {nm:Option Str}
variable {g:List Value→List Value→List Value} {gV:List V→List V→List V}
end
structure FnScope (N P:List Str) (sc:Scope):Prop where
 kind:sc.kind=.function
 co:sc.isCoroutine=false
 gen:sc.isGenerator=false
 nd:N.Nodup
 pre:N.take P.length=P
 par:∀ x∈P,sc.names.lookup x=some .local∨sc.names.lookup x=some .cell
 nofree:∀ y∈sc.names,y.2≠.free
theorem Zic {kindOf:Str→Option NameKind}{x:Str}:∀ {binds:List (Str×Value)} {m:Str→Option Value},(∀ v,(x,v) ∉ binds)→bindL kindOf binds m x=m x
 | [],_,_=>rfl
 | (n,v) :: r,m,h=>by
   unfold bindL;rw [Zic fun w hw=>h w (Xap _ hw)]
   split
   · have:x≠n:=by rintro rfl;exact h v Xal
     simp [this]
   · rfl
theorem Zid {kindOf:Str→Option NameKind}{x:Str}:∀ {binds:List (Str×Value)} {m:Str→Option Value},(∀ v,(x,v) ∉ binds)→bindC kindOf binds m x=m x
 | [],_,_=>rfl
 | (n,v) :: r,m,h=>by
   unfold bindC;rw [Zid fun w hw=>h w (Xap _ hw)]
   split
   · rfl
   · have:x≠n:=by rintro rfl;exact h v Xal
     simp [this]
theorem Zie {kindOf:Str→Option NameKind}{x:Str}{v:Value}:∀ {P:List Str}{vs:List Value}{i:Nat}{m:Str→Option Value},P.Nodup→P[i]?=some x→vs[i]?=some v→kindOf x=some .local →
 bindL kindOf (P.zip vs) m x=some v
 | [],_,_,_,_,h,_,_=>by simp at h
 | _ :: _,[],_,_,_,_,h,_=>by simp at h
 | p :: P,w :: vs,0,m,nd,h1,h2,hk=>by
   simp at h1 h2;subst h1;subst h2;show bindL kindOf ((p,w) :: P.zip vs) m p=_;unfold bindL;rw [Zic fun v hv=>(XaC.mp nd).1 (List.of_mem_zip hv).1,Xbf hk]
   simp
 | p :: P,w :: vs,i+1,m,nd,h1,h2,hk=>by
   show bindL kindOf ((p,w) :: P.zip vs) m x=_;unfold bindL;exact Zie (i:=i) (XaC.mp nd).2 (by simpa using h1) (by simpa using h2) hk
theorem Zif {kindOf:Str→Option NameKind}{x:Str}{v:Value}:∀ {P:List Str}{vs:List Value}{i:Nat}{m:Str→Option Value},P.Nodup→P[i]?=some x→vs[i]?=some v→kindOf x≠some .local →
 bindC kindOf (P.zip vs) m x=some v
 | [],_,_,_,_,h,_,_=>by simp at h
 | _ :: _,[],_,_,_,_,h,_=>by simp at h
 | p :: P,w :: vs,0,m,nd,h1,h2,hk=>by
   simp at h1 h2;subst h1;subst h2;show bindC kindOf ((p,w) :: P.zip vs) m p=_;unfold bindC;rw [Zid fun v hv=>(XaC.mp nd).1 (List.of_mem_zip hv).1,Xbe hk]
   simp
 | p :: P,w :: vs,i+1,m,nd,h1,h2,hk=>by
   show bindC kindOf ((p,w) :: P.zip vs) m x=_;unfold bindC;exact Zif (i:=i) (XaC.mp nd).2 (by simpa using h1) (by simpa using h2) hk
def start (N:List Str) (vs:List V):St:=vs.map some++List.replicate (N.length - vs.length) none
def cxOf (CX:CXT) (P:Program) (w:World) (K:XFg) (mg:Str→Option Value) (base:Heap) (N:List Str) (qual:Str) (scope:Scope) (f:Addr) (cd:Value) (A:Around) (outer:List Env) (s:Shared) (H:Hp) (E:XK):Cx where
 prog:=P
 w:=w
 K:=K
 mg:=mg
 base:=base
 A:=A.deeper (envOfC qual scope s.heap.objs.size f cd)
 N:=N
 s₀:=s
 H₀:=H
 env:=envOfC qual scope s.heap.objs.size f cd
 outer:=outer
 stack:=envOfC qual scope s.heap.objs.size f cd :: outer
 ex:=[]
 calm:=true
 fn:=fun _=>true
 pn:=[]
 xe:=fun e s'=>wpAny (model P w) (A.deeper (envOfC qual scope s.heap.objs.size f cd)) (leaving (envOfC qual scope s.heap.objs.size f cd) e) (fun _ s''=>CX outer H s E e s'') (fun e' s''=>CX outer H s E e' s'') s'
theorem ZjO {sc:Scope}{n:Nat}{x:Str} (h:sc.names.lookup x=some .cell):∃ c,(cellsFrom n sc.names []).lookup x=some c:=by
 have q:=PySem.W.cellsFrom_some sc.names n [] (.inl h);exact Option.isSome_iff_exists.mp q
theorem Zle {CX:CXT}{P:Program}{w:World}{K:XFg}{mg:Str→Option Value}{base:Heap}{N ps:List Str}{qual:Str}{scope:Scope}{f:Addr}{cd:Value}{A:Around}{outer:List Env}{s s1:Shared}{H:Hp}{E:XK}{us:List Value}{vs:List V}
 (S:FnScope N ps scope) (hd:A.handled=none) (e0:Env0 P w K mg base A outer s H) (hl:vs.length=ps.length) (r:Vals vs us)
 (x:InCallC s s.heap.objs.size (bindL (envOfC qual scope s.heap.objs.size f cd).kindOf (ps.zip us) fun _=>none) (cellsFrom (s.heap.objs.size+1) scope.names []) (bindC (envOfC qual scope s.heap.objs.size f cd).kindOf (ps.zip us) fun _=>none) s1) :
 Inv (cxOf CX P w K mg base N qual scope f cd A outer s H E) [] (start N vs) H s1:=by
 have hpl:ps.length≤N.length:=by have:=Xbk List.length S.pre;rw [Xaw] at this;omega
 obtain ⟨h1,tk,rfl,hk⟩:=x.done;have noA:∀ b:Addr,b ∉ (cxOf CX P w K mg base N qual scope f cd A outer s H E).ex:=fun b z=>absurd (show b∈([]:List Addr) from z) (by simp)
 refine ⟨⟨e0.mod,S.kind,rfl,rfl,XaW _,fun y z c h1 h2=>?_,fun y hy=>?_,fun y c _ h=>?_,fun _=>hd,Around.frames_deeper e0.frames,.inr ⟨rfl,rfl⟩,fun b z=>absurd z (noA b),e0.bs,e0.bsz,fun b _ _=>noA b,fun b z=>absurd z (noA b),e0.funs,e0.frf⟩,
  rfl,e0.bare,Un.kept hk,⟨_,x.toInCall.ns,fun i y v h1 h2 h3=>?_⟩,fun y c h=>⟨_,x.cell y c h⟩,e0.hok.fresh (XaW _),fun y c h=>?_,fun p hp=>absurd (show p∈([]:List (Addr×Obj)) from hp) (by simp),e0.hok.kept hk,?_⟩
 · exact name_of_addr x.apart (Xbu h1) (Xbu h2)
 · have hy:scope.names.lookup y=some .cell∨scope.names.lookup y=some .free:=hy
   rcases hy with hy | hy
   · exact ZjO hy
   · exact absurd rfl (S.nofree _ (Xbu hy))
 · exact XaY (x.above y c (Xbu h))
 · have hi:i<vs.length:=by
    unfold start at h2
    by_cases hi:i<vs.length
    · exact hi
    · rw [Xay (by simpa using hi)] at h2
      rw [List.getElem?_replicate] at h2
      split at h2 <;> cases h2
   have ha:vs[i]?=some v:=by
    unfold start at h2;rw [Xat (by simpa using hi),Xag] at h2
    cases e:vs[i]? with
    | none=>rw [e] at h2;cases h2
    | some a=>rw [e] at h2;cases h2;rfl
   obtain ⟨u,hu,rv⟩:=r.get ha
   have hp:ps[i]?=some y:=by
    rw [←S.pre,List.getElem?_take_of_lt (by omega)];exact h1
   have ndP:ps.Nodup:=by rw [←S.pre];exact S.nd.sublist (List.take_sublist _ _)
   refine ⟨u,rv,?_⟩
   rcases S.par y (Xah hp) with k | k
   · exact .inl ⟨k,Zie ndP hp hu k⟩
   · obtain ⟨c,e⟩:=ZjO (n:=s.heap.objs.size+1) k
     refine .inr ⟨.inl k,c,e,?_⟩;have q:=x.cell y c e;rw [Zif ndP hp hu (by show scope.names.lookup y≠_;rw [k];decide)] at q;exact q
 · exact e0.hok.fresh (XaY (x.above y c (Xbu h)))
 · unfold start
   show _=N.length;rw [Xac,Xaa,List.length_replicate];omega
theorem fn_of {CX:CXT}{P:Program}{w:World}{K:XFg}{mg:Str→Option Value}{base:Heap}{k:Nat}{f:Addr}{name qual:Str}{params:Arguments}{body:List Stmt}{scope:Scope}{dV kV doc pm cdv ct oc:Value}{an od:Option Addr}
 {osl:Array (Option Value)} {N ps:List Str} {sp:Sp} (lk:K.lookup f=some ⟨oc,od,.func (PySem.W.fnOf name qual params body scope dV kV doc pm an cdv ct),osl⟩) (hcd:PySem.W.codeIn K cdv qual=true) (S:FnScope N ps scope)
 (len:∀ vs H Q E,sp vs H Q E→vs.length=ps.length)
 (hbody:∀ (A:Around) (outer:List Env) (s:Shared) (H:Hp) (vs:List V) (Q:VK) (E:XK),Room k (A.deeper (envOfC qual scope s.heap.objs.size f cdv))→sp vs H Q E →
  ∃ t,PSs (cxOf CX P w K mg base N qual scope f cdv A outer s H E) body t∧t { nx:=fun _ H'=>Q .non H',rt:=Q } (start N vs) H) :
 FnOk P w K mg base CX (k+1) f (PySem.W.fnOf name qual params body scope dV kV doc pm an cdv ct) ps sp:=by
 refine ⟨len,fun A outer s H args us vs Q E hr e0 hb r hsp=>?_⟩;have hl:=len _ _ _ _ hsp;have KX:K.In s.heap:=e0.mod.kin.keeps fun b o e=>(e0.bs b o e).1;have lim:s.heap.NoLimit:=e0.mod.nolimit.keeps fun b o e=>(e0.bs b o e).1
 have hkind:∀ y∈ps.zip us,scope.names.lookup y.1=some .local∨(scope.names.lookup y.1=some .cell∧((cellsFrom (s.heap.objs.size+1) scope.names []).lookup y.1).isSome=true):=fun ⟨n,v⟩ hy=>by
  rcases S.par n (List.of_mem_zip hy).1 with q | q
  · exact .inl q
  · exact .inr ⟨q,PySem.W.cellsFrom_some _ _ _ (.inl q)⟩
 refine codeAny_call_function hr.depth (KX _ _ lk) rfl S.co S.gen rfl (PySem.W.codeRec_of KX hcd) (hb _ _ _ _ ?_);refine wpAny_newFunctionEnv_cells S.kind hkind fun env he s1 x=>?_;subst he;refine ⟨lim.keeps x.toInCall.keep,codeAny_func ?_⟩;obtain ⟨t,ht,hq⟩:=hbody A outer s H vs Q E (hr.deeper _) hsp;have I:Inv (cxOf CX P w K mg base N qual scope f cdv A outer s H E) [] (start N vs) H s1:=Zle S hr.hd e0 hl r x;refine Xbw (ht [] s1 (start N vs) H _ I hq) (fun fl s' hs=>?_) fun e s' hs=>hs
 have fin:∀ {σ':St} {H':Hp} {v:V} {u:Value},Inv (cxOf CX P w K mg base N qual scope f cdv A outer s H E) [] σ' H' s'→RelV v u→Q v H'→CE outer P w H s Q u s' :=
  fun {σ' H' v u} J rv q=>⟨v,H',J.os,J.bare,J.base,J.hok,rv,q⟩
 cases fl with
 | ret u =>
   obtain ⟨v,σ',H',J,rv,q⟩:=hs;exact fin J rv q
 | next =>
   obtain ⟨σ',H',J,q⟩:=hs;exact fin (v:=V.non) (u:=Value.none) J rfl q
 | brk =>
   obtain ⟨_,_,_,q⟩:=hs;exact False.elim q
 | cont =>
   obtain ⟨_,_,_,q⟩:=hs;exact False.elim q
section
variable {X:Cx} {x:Str} {p pos:Pos} {e:Expr} {es:List Expr} {t:TA} {id T:String} {r:List V→Hp→VK→Prop}
def tCB (r:List V→Hp→VK→Prop) (t:TA):TE:=fun σ H Q=>t σ H fun vs H1=>r vs H1 Q
theorem Zan (hc:CallR X (.builtin id) r) (hg:Gl X x) (hm:X.mg x=none) (hv:bootBuiltins x=some (.builtin id)) (ha:PA X (e :: es) t) (hn:x ≠ "__name__" := by decide) (hdb:(x == ("__debug__" : Str))=false:=by decide)
 (he:starEach (e :: es) X.env=(false,eval e X.env) :: starEach es X.env:=by rfl) (hpl:(backTo pos (starEach es X.env)).any (·.1)=false:=by rfl):PE X (.Call (.Name x p) (e :: es) [] pos) (tCB r t):=by
 intro pins s σ H Q I h;refine wpAny_Call_Name_kw (ZfO I hg hm hv ?_ hn hdb);exact PyProof.Rows.callWith_builtin1 (thn (ha pos pins s σ H _ I h) fun us s1 ⟨vs,H1,I1,r1,q1⟩=>hc pins s1 σ H1 vs us Q I1 r1 q1) he hpl
theorem ZaJ (hc:CallR X (.type T) r) (hg:Gl X x) (hm:X.mg x=none) (hv:bootBuiltins x=some (.type T)) (ha:PA X (e :: es) t) (hn:x ≠ "__name__" := by decide) (hdb:(x == ("__debug__" : Str))=false:=by decide)
 (he:starEach (e :: es) X.env=(false,eval e X.env) :: starEach es X.env:=by rfl) (hpl:(backTo pos (starEach es X.env)).any (·.1)=false:=by rfl):PE X (.Call (.Name x p) (e :: es) [] pos) (tCB r t):=by
 intro pins s σ H Q I h;refine wpAny_Call_Name_kw (ZfO I hg hm hv ?_ hn hdb);exact PyProof.Rows.callWith_type1 (thn (ha pos pins s σ H _ I h) fun us s1 ⟨vs,H1,I1,r1,q1⟩=>hc pins s1 σ H1 vs us Q I1 r1 q1) he hpl
end
end L2
namespace HT
open PySem PyProof.Rows
section
open PySem.SeqAt
open PySem.AutoSeq1 (wpAny_loadPart')
open PySem.MeetsSeq PySem.MeetsSeq2 PySem.MeetsSeq3
end
section
variable {prog:Program} {w:World} {A:Around} {E:Value→Shared→Prop} {s:Shared}
def sIx (n d:Nat):Option Int→Nat
 | none=>d
 | some v=>if v<0 then (v+(n:Int)).toNat else min v.toNat n
theorem sIx_none (n d:Nat):sIx n d none=d:=rfl
theorem sIx_nat (n d k:Nat):sIx n d (some (k:Int))=min k n:=by
 show (if (k:Int)<0 then ((k:Int)+(n:Int)).toNat else min (k:Int).toNat n)=min k n;rw [Xbe (by omega),Xa5]
end
end HT
namespace L2
open PySem PySem.Spec PyProof.Rows
abbrev TO:=St→Hp→(Option Int→Hp→Prop)→Prop
def PO (X:Cx) (e:Option Expr) (t:TO):Prop :=
 ∀ (pins:List (Addr×Obj)) (s:Shared) (σ:St) (H:Hp) (Q:Option Int→Hp→Prop),Inv X pins σ H s→t σ H Q →
  wpAny (model X.prog X.w) X.A (evalPart e X.env) (fun u s'=>∃ o H',Inv X pins σ H' s'∧IsPart u o∧Q o H') X.xe s
def tNoPart:TO:=fun _ H Q=>Q none H
def tPart (t:TE):TO:=fun σ H Q=>t σ H fun x H1=>∃ i,x=.int i∧Q (some i) H1
theorem Zkv {ns:List Int}:∀ {us:List Value},Vals (ns.map V.int) us→IntsAre us ns:=by
 induction ns with
 | nil=>intro us r;rw [XaO] at r;cases r;exact .nil
 | cons n ns ih =>
   intro us r;rw [Xao] at r
   cases r with
   | cons r1 r2 =>
     obtain ⟨t,e⟩:=r1;subst e;exact .cons n t (ih r2)
section
variable {X:Cx} {e:Expr} {te:TE} {lo hi:Option Expr} {tl th:TO} {pos p2:Pos}
theorem ZeW:PO X none tNoPart:=by
 intro pins s σ H Q I h;rw [evalPart_none];exact Xbm ⟨none,H,I,.none,h⟩
theorem ZeX (h:PE X e te):PO X (some e) (tPart te):=by
 intro pins s σ H Q I hw;rw [evalPart_some];refine thn (h pins s σ H _ I hw) fun u s1 ⟨x,H1,I1,r1,q1⟩=>?_;obtain ⟨i,rfl,q⟩:=q1;obtain ⟨t,rfl⟩:=r1;exact ⟨some i,H1,I1,.int i t,q⟩
def SlR (X:Cx) (r:V→Option Int→Option Int→Hp→VK→Prop):Prop :=
 ∀ (pins:List (Addr×Obj)) (s:Shared) (σ:St) (H:Hp) (x:V) (v vl vu:Value) (lo hi:Option Int) (sl:Addr) (Q:VK),Inv X pins σ H s→RelV x v→s.heap.IsSliceOf sl vl vu .none→IsPart vl lo→IsPart vu hi→r x lo hi H Q →
  ∃ T id,typeLookup (.type T) "__getitem__" = pure (some (.builtin id))∧s.TypeIs v T∧wpAny (model X.prog X.w) X.A (getItem v (.ref sl)) (EP X pins σ Q) X.xe s
def tSl (r:V→Option Int→Option Int→Hp→VK→Prop) (te:TE) (tl th:TO):TE:=fun σ H Q=>te σ H fun x H1=>tl σ H1 fun l H2=>th σ H2 fun u H3=>r x l u H3 Q
theorem ZdR {r:V→Option Int→Option Int→Hp→VK→Prop} (hr:SlR X r) (he:PE X e te) (hl:PO X lo tl) (hu:PO X hi th):PE X (.Subscript e (.Slice lo hi none p2) pos) (tSl r te tl th):=by
 intro pins s σ H Q I h;refine Subscript_ (thn (he pins s σ H _ I h) fun v s1 ⟨x,H1,I1,r1,q1⟩=>?_);refine wpAny_Slice (thn (hl pins s1 σ H1 _ I1 q1) fun vl s2 ⟨l,H2,I2,pl,q2⟩=>thn (hu pins s2 σ H2 _ I2 q2) fun vu s3 ⟨u,H3,I3,pu,q3⟩=>?_);rw [evalPart_none];refine Xbm ?_
 have I4:Inv X pins σ H3 { s3 with heap:=s3.heap.push { cls:=.type "slice",data:=.fields #[vl,vu,.none] } }:=I3.kept (t':=s3.toks) fun b ob q=>Xbp _ q
 obtain ⟨T,id,hT,ht,hg⟩:=hr pins { s3 with heap:=s3.heap.push { cls:=.type "slice",data:=.fields #[vl,vu,.none] } } σ H3 x v vl vu l u s3.heap.objs.size Q I4 r1 (Heap.IsSliceOf.new ..) pl pu q3
 show wpAny (model X.prog X.w) X.A (subscriptTail e (.Slice lo hi none p2) v (.ref s3.heap.objs.size)) (EP X pins σ Q) X.xe { s3 with heap:=s3.heap.push { cls:=.type "slice",data:=.fields #[vl,vu,.none] } }
 exact tail_any (ops:=[.ref s3.heap.objs.size,v]) ht hT hg (by with_unfolding_all rfl)
def cutV (xs:List V) (lo hi:Option Int):List V:=(xs.drop (HT.sIx xs.length 0 lo)).take (HT.sIx xs.length xs.length hi - HT.sIx xs.length 0 lo)
theorem Zi9 (xs:List V) (lo hi:Option Int):(cutV xs lo hi).length≤xs.length:=by
 unfold cutV;rw [Xaw,XaF];omega
end
def ixN (n:Nat) (i:Int):Option Nat:=if 0≤i then (if i<n then some i.toNat else none) else if -(n:Int)≤i then some (i+n).toNat else none
def atI {α:Type} (xs:List α) (i:Int):Option α:=(ixN xs.length i).bind fun j=>xs[j]?
theorem Zlf {n:Nat}{i:Int}{j:Nat} (h:ixN n i=some j):seqIndex? i n=some j∧j<n∧-(n:Int)≤i∧i<n:=by
 unfold ixN at h
 by_cases h0:0≤i
 · rw [Xbf h0] at h
   by_cases h1:i<n
   · rw [Xbf h1] at h
     have e:i.toNat=j:=Xbd h;exact ⟨by rw [seqIndex_of h0 h1,e],by omega,by omega,h1⟩
   · rw [Xbe h1] at h;cases h
 · rw [Xbe h0] at h
   by_cases h1:-(n:Int)≤i
   · rw [Xbf h1] at h
     have e:(i+n).toNat=j:=Xbd h;exact ⟨by rw [seqIndex_neg (by omega) h1,e],by omega,h1,by omega⟩
   · rw [Xbe h1] at h;cases h
theorem Zja {α:Type}{xs:List α}{i:Int}{v:α} (h:atI xs i=some v):∃ j,seqIndex? i xs.length=some j∧xs[j]?=some v∧j<xs.length∧-(xs.length:Int)≤i∧i<xs.length:=by
 unfold atI at h
 cases e:ixN xs.length i with
 | none=>rw [e] at h;cases h
 | some j =>
   rw [e] at h;obtain ⟨h1,h2,h3,h4⟩:=Zlf e;exact ⟨j,h1,h,h2,h3,h4⟩
theorem ZaQ {α:Type}{xs:List α}{j:Nat}{v:α} (h:xs[j]?=some v):atI xs (j:Int)=some v:=by
 have hj:j<xs.length:=(Xae.mp h).1
 have e:ixN xs.length (j:Int)=some j:=by
  unfold ixN;rw [Xbf (by omega),Xbf (by omega)];simp
 unfold atI;rw [e];exact h
def PlainIx (b:Expr):Prop:=∀ o i,subscripted b false o i=operate [o,i] (getItem o i)
def IxR (X:Cx) (r:R2):Prop :=
 ∀ (value slice:Expr) (pins:List (Addr×Obj)) (s:Shared) (σ:St) (H:Hp) (x y:V) (v u:Value) (Q:VK),Inv X pins σ H s→RelV x v→RelV y u→r x y H Q →
  subscripted slice false v u=operate [v,u] (getItem v u)→wpAny (model X.prog X.w) X.A (subscriptTail value slice v u) (EP X pins σ Q) X.xe s
def MtR (X:Cx) (id:String) (r:V→List V→Hp→VK→Prop):Prop :=
 ∀ (pins:List (Addr×Obj)) (s:Shared) (σ:St) (H:Hp) (x:V) (xs:List V) (v:Value) (us:List Value) (Q:VK),Inv X pins σ H s→RelV x v→Vals xs us→r x xs H Q →
  wpAny (model X.prog X.w) X.A (call (.builtin id) (v :: us)) (EP X pins σ Q) X.xe s
section
variable {X:Cx} {a b:Expr} {ta tb:TE} {pos:Pos}
theorem IxR.or {r r':R2} (h:IxR X r) (h':IxR X r'):IxR X (fun x y H Q=>r x y H Q∨r' x y H Q):=by
 intro value slice pins s σ H x y v u Q I rx ry q hs
 rcases q with q | q
 · exact h value slice pins s σ H x y v u Q I rx ry q hs
 · exact h' value slice pins s σ H x y v u Q I rx ry q hs
theorem Zas {r:R2} (hr:IxR X r) (ha:PE X a ta) (hb:PE X b tb) (hs:PlainIx b):PE X (.Subscript a b pos) (tOp r ta tb):=by
 intro pins s σ H Q I h;exact Subscript_ (binT ha hb I h fun v u s2 x y H2 I2 rx ry q=>hr a b pins s2 σ H2 x y v u Q I2 rx ry q (hs _ _))
def rIxL (K:XFg):R2:=fun x y H Q=>∃ p xs i v,x=.ref p∧y=.int i∧SqL K H p xs∧atI xs i=some v∧Q v H
def rIxT (K:XFg):R2:=fun x y H Q=>∃ p xs i v,x=.ref p∧y=.int i∧SqT K H p xs∧atI xs i=some v∧Q v H
def rIxS:R2:=fun x y H Q=>∃ z i c,x=.str z∧y=.int i∧z.length≤sizeLine∧atI z.cps.toList i=some c∧Q (.str ⟨#[c]⟩) H
theorem ix_list:IxR X (rIxL X.K):=by
 intro value slice pins s σ H x y v u Q I rx ry h hs;obtain ⟨p,xs,i,z,rfl,rfl,hq,he,q⟩:=h;cases rx;obtain ⟨t,rfl⟩:=ry;obtain ⟨its,r,pl,hz⟩:=I.list hq;obtain ⟨j,h1,h2,h3,h4,h5⟩:=Zja he;obtain ⟨w,ew,rw'⟩:=r.get h2;have hl:=r.length;have hn:=ZgV;have fin:EP X pins σ Q w s:=⟨z,H,I,rw',q⟩
 by_cases h0:0≤i
 · have hj:i.toNat=j:=by
    rw [seqIndex_of h0 h5] at h1;exact Xbd h1
   exact item_listR pl.isList h0 (by omega) (by rw [hj];simpa using ew) fin hs
 · have hj:(i+(its.toArray.size:Int)).toNat=j:=by
    rw [seqIndex_neg (by omega) h4] at h1;rw [Xak,←hl];exact Xbd h1
   exact subscriptTail_builtinR (x:=w) pl.isList.typeIs slot_list_getitem.lookup
    (wpAny_getItem_list_neg (Q:=fun r s'=>r=w∧EP X pins σ Q r s') pl.isList (by omega) (by rw [Xak] <;> omega) (by omega) (by rw [hj];simpa using ew) ⟨rfl,fin⟩) hs
theorem ix_tup:IxR X (rIxT X.K):=by
 intro value slice pins s σ H x y v u Q I rx ry h hs;obtain ⟨p,xs,i,z,rfl,rfl,hq,he,q⟩:=h;cases rx;obtain ⟨t,rfl⟩:=ry;obtain ⟨its,r,pl,hz⟩:=I.tuple hq;obtain ⟨j,h1,h2,h3,h4,h5⟩:=Zja he;obtain ⟨w,ew,rw'⟩:=r.get h2;have hl:=r.length;have hn:=ZgV;have fin:EP X pins σ Q w s:=⟨z,H,I,rw',q⟩
 exact subscriptTail_builtinR (x:=w) pl.typeIs slot_tuple_getitem.lookup
  (getItem_tuple (j:=j) (Q:=fun r s'=>r=w∧EP X pins σ Q r s') pl (by omega) (by omega) (by rw [Xak,←hl];exact h1) (by simpa using ew) ⟨rfl,fin⟩) hs
theorem ix_str:IxR X rIxS:=by
 intro value slice pins s σ H x y v u Q I rx ry h hs;obtain ⟨z,i,c,rfl,rfl,hz,he,q⟩:=h;obtain ⟨t,rfl⟩:=rx;obtain ⟨t',rfl⟩:=ry;obtain ⟨j,h1,h2,h3,h4,h5⟩:=Zja he
 have hl:z.cps.toList.length=z.length:=by simp [Str.length]
 rw [hl] at h1 h4 h5;have hn:=ZgV
 exact tail_any (typeIs_str s z t) slot_str_getitem.lookup (getItem_str (c:=c) (by
  have e1:decide (i < -(2 ^ 63:Int))=false:=Xa7 (by omega);have e2:decide (i ≥ 2 ^ 63)=false:=Xa7 (by omega)
  rw [e1,e2,Bool.or_false]) (by rw [h1];simpa using h2) ⟨.str ⟨#[c]⟩,H,I.tok _,⟨_,rfl⟩,q⟩) hs
def rIx (K:XFg):R2:=fun x y H Q=>rIxL K x y H Q∨rIxT K x y H Q∨rIxS x y H Q
theorem Zam:IxR X (rIx X.K):=ix_list.or (ix_tup.or ix_str)
theorem Zkw (its:List Value) (n j:Nat) (u:Value):Obj.mapSeq (·.setIfInBounds j u) { cls:=.type "list",data:=.seq its.toArray n }={ cls:=.type "list",data:=.seq (its.set j u).toArray n }:=by
 simp [Obj.mapSeq]
theorem Inv.lst {pins:List (Addr×Obj)} {σ:St} {H:Hp} {s:Shared} {p:Addr} {xs:List V} (I:Inv X pins σ H s) (h:H p=some (.lst xs)) :
 ∃ (its:List Value) (n:Nat),Vals xs its∧s.heap.get? p=some { cls:=.type "list",data:=.seq its.toArray n }∧xs.length≤sizeLine:=by
 obtain ⟨z,its,n,r,e⟩:=I.hok p _ h;exact ⟨its,n,r,e,z⟩
theorem Inv.lstUpd {pins:List (Addr×Obj)} {σ:St} {H:Hp} {s:Shared} {p:Addr} {xs ys:List V} {its its':List Value} {n n':Nat} {f:Obj→Obj} (I:Inv X pins σ H s) (h:H p=some (.lst xs))
 (ho:s.heap.get? p=some { cls:=.type "list",data:=.seq its.toArray n }) (hf:f { cls:=.type "list",data:=.seq its.toArray n }={ cls:=.type "list",data:=.seq its'.toArray n' }) (r:Vals ys its') (hz:ys.length≤sizeLine) (t:Nat) :
 Inv X pins σ (upd H p (.lst ys)) { s with heap:=s.heap.update p f,toks:=t }:=by
 have e:(s.heap.update p f).get? p=some { cls:=.type "list",data:=.seq its'.toArray n' }:=by
  rw [Heap.get?_update_self f ho (by rw [hf] <;> rfl),hf]
 refine I.write (x:=p) (e:=p) (by rw [h];trivial) (.inl rfl) (fun b u hb q=>(Heap.get?_update_other _ _ (Ne.symm hb)).trans q) ⟨_,e⟩ ?_;exact ⟨hz,its',n',r,e⟩
def rSetL:V→V→V→Hp→(Hp→Prop)→Prop:=fun o i v H Q=>∃ p xs k j,o=.ref p∧i=.int k∧H p=some (.lst xs)∧ixN xs.length k=some j∧Q (upd H p (.lst (xs.set j v)))
theorem Zmo:PSet X rSetL:=by
 intro pins s σ H o i v ov iv u Q I ro ri rv h;obtain ⟨p,xs,k,j,rfl,rfl,hp,hj,q⟩:=h;cases ro;obtain ⟨t,rfl⟩:=ri;obtain ⟨its,n,r,ho,hz⟩:=I.lst hp;obtain ⟨h1,h2,h3,h4⟩:=Zlf hj;have hl:=r.length;have hn:=ZgV
 have I':Inv X pins σ (upd H p (.lst (xs.set j v))) { s with heap:=s.heap.update p (Obj.mapSeq (·.setIfInBounds j u)) } :=
  I.lstUpd hp ho (Zkw its n j u) (r.set rv j) (by rw [XaD];exact hz) s.toks
 by_cases h0:0≤k
 · have hk:k.toNat=j:=by
    rw [seqIndex_of h0 h4] at h1;exact Xbd h1
   exact PySem.W.ki_setAt ho h0 (by omega) (by rw [Xak,←hl];exact h4) (by rw [hk];exact ⟨_,I',q⟩)
 · have hk:(k+(its.toArray.size:Int)).toNat=j:=by
    rw [seqIndex_neg (by omega) h3] at h1;rw [Xak,←hl];exact Xbd h1
   exact PySem.W.ki_setBack ho (by omega) (by rw [Xak,←hl];exact h3) (by omega) (by rw [hk];exact ⟨_,I',q⟩)
theorem Zig (lo hi:Option Int) (n:Nat):(sliceBounds lo hi none n).1=((HT.sIx n 0 lo:Nat):Int)∧(sliceBounds lo hi none n).2.1=((HT.sIx n n hi:Nat):Int)∧(sliceBounds lo hi none n).2.2=1:=by
 refine ⟨?_,?_,rfl⟩
 · cases lo with
   | none=>simp [sliceBounds,HT.sIx]
   | some i =>
     simp only [sliceBounds,HT.sIx,Option.getD_none,show (1:Int) > 0 by decide,if_true]
     by_cases h:i<0
     · simp only [h,if_true] <;> omega
     · simp only [h,if_false] <;> omega
 · cases hi with
   | none=>simp [sliceBounds,HT.sIx]
   | some i =>
     simp only [sliceBounds,HT.sIx,Option.getD_none,show (1:Int) > 0 by decide,if_true]
     by_cases h:i<0
     · simp only [h,if_true] <;> omega
     · simp only [h,if_false] <;> omega
theorem Zhm (its:List Value) (lo hi:Option Int):slicePick its.toArray lo hi none=((its.drop (HT.sIx its.length 0 lo)).take (HT.sIx its.length its.length hi - HT.sIx its.length 0 lo)).toArray:=by
 obtain ⟨h1,h2,h3⟩:=Zig lo hi its.toArray.size;unfold slicePick;rw [h1,h2,h3]
 simp only [sliceRange_one,pick_run,Xak] <;> rfl
def rSlL (K:XFg):V→Option Int→Option Int→Hp→VK→Prop:=fun x lo hi H Q=>∃ a xs,x=.ref a∧SqL K H a xs∧∀ p,H p=none→Q (.ref p) (upd H p (.lst (cutV xs lo hi)))
theorem ZeY:SlR X (rSlL X.K):=by
 intro pins s σ H x v vl vu lo hi sl Q I rx hs pl pu h;obtain ⟨a,xs,rfl,hx,q⟩:=h;cases rx;obtain ⟨its,r,ht,hz⟩:=I.list hx;have hlen:=r.length
 refine ⟨"list",_,slot_list_getitem.lookup,ht.isList.typeIs,?_⟩
 refine wpAny_getItem_list_slice ht.isList hs pl pu .none (by simp) ?_ (by rw [Xak] <;> omega)
 rw [Zhm,←hlen];refine ⟨.ref s.heap.objs.size,_,I.laid (t':=s.toks) (o:=.lst (cutV xs lo hi)) (fun b ob q=>Xbp _ q) (XaW _) ?_,rfl,q _ (I.hok.fresh (XaW _))⟩;exact ⟨Xbh (Zi9 xs lo hi) hz,_,0,(r.drop (HT.sIx xs.length 0 lo)).take (HT.sIx xs.length xs.length hi - HT.sIx xs.length 0 lo),Xbr _ rfl⟩
theorem ZaK:CallR X (.type "list") (fun xs H Q=>∃ p ys,xs=[.ref p]∧(SqL X.K H p ys∨SqT X.K H p ys)∧∀ l,H l=none→Q (.ref l) (upd H l (.lst ys))):=by
 intro pins s σ H xs us Q I r h;obtain ⟨p,ys,rfl,hq,q⟩:=h;obtain ⟨u,rfl,rx⟩:=Zdt r;cases rx
 have fin:∀ (its:List Value),Vals ys its→ys.length≤sizeLine→∀ (h':Heap) (c':Nat),(∀ b o',s.heap.get? b=some o'→h'.get? b=some o') →
  h'.get? s.heap.objs.size=some { cls:=.type "list",dict:=none,data:=.seq its.toArray c',slots:=#[] }→EP X pins σ Q (.ref s.heap.objs.size) { s with heap:=h' }:=fun its r' hz h' c' kp e =>
  ⟨.ref s.heap.objs.size,_,I.laid (t':=s.toks) kp (XaW _) (show ObjOk X.prog X.w _ h' _ (.lst ys) from ⟨hz,its,c',r',e⟩),rfl,q _ (I.hok.fresh (XaW _))⟩
 rcases hq with hq | hq
 · obtain ⟨its,r',pl,hz⟩:=I.list hq
   have hlen:=r'.length;obtain ⟨o,ho,hc,n,hd⟩:=pl.isList
   exact call_list_seq p (.inl rfl) ho hc hd (fun h' c' kp e=>fin its r' hz h' c' kp e) (by simp only [Xak] <;> omega)
 · obtain ⟨its,r',pl,hz⟩:=I.tuple hq
   have hlen:=r'.length;obtain ⟨o,ho,hc,n,hd⟩:=pl
   exact call_list_seq p (.inr rfl) ho hc hd (fun h' c' kp e=>fin its r' hz h' c' kp e) (by simp only [Xak] <;> omega)
theorem Zhn:CallR X (.type "tuple") (fun xs H Q=>∃ p ys,xs=[.ref p]∧((SqL X.K H p ys∧∀ l,H l=none→Q (.ref l) (upd H l (.tup ys)))∨(SqT X.K H p ys∧Q (.ref p) H))):=by
 intro pins s σ H xs us Q I r h;obtain ⟨p,ys,rfl,h⟩:=h;obtain ⟨u,rfl,rx⟩:=Zdt r;cases rx
 rcases h with ⟨hq,q⟩ | ⟨hq,q⟩
 · obtain ⟨its,r',pl,hz⟩:=I.list hq
   have hlen:=r'.length
   refine call_tuple_list pl.isList (fun h' kp=>?_) (by simp only [Xak] <;> omega)
   have I1:Inv X pins σ H { s with heap:=h' }:=I.kept (t':=s.toks) kp
   have I2:Inv X pins σ (upd H h'.objs.size (.tup ys)) { s with heap:=h'.push { cls:=.type "tuple",data:=.seq its.toArray } } :=
    I1.laid (t':=s.toks) (fun b o e=>Xbp _ e) (XaW _) (show ObjOk X.prog X.w _ _ _ (.tup ys) from ⟨hz,its,r',IsTup.new _ _⟩)
   exact ⟨.ref h'.objs.size,_,I2,rfl,q _ (I1.hok.fresh (XaW _))⟩
 · obtain ⟨its,r',pl,hz⟩:=I.tuple hq
   exact call_tuple_same pl ⟨.ref p,H,I,rfl,q⟩
def tyV (K:XFg) (T:String) (x:V) (H:Hp):Prop:=match x with
 | .str _=>T = "str"
 | .int _=>T = "int"
 | .ref p=>(T = "list" ∧ ∃ xs,SqL K H p xs)∨(T = "tuple" ∧ ∃ o,K.lookup p=some o∧o.cls=.type "tuple" ∧ o.dict=none) ∨
  (T = "dict" ∧ ((∃ kvs,H p=some (.dK kvs))∨∃ kvs,H p=some (.dT kvs)))∨(T = "set" ∧ ∃ S n,H p=some (.set S n))
 | _=>False
theorem tyV_is {pins : List (Addr × Obj)} {σ : St} {H : Hp} {s : Shared} {T : String} {x : V} {v : Value} (I : Inv X pins σ H s) (r : RelV x v) (ty : tyV X.K T x H) :
 s.TypeIs v T∧∀ a,v=.ref a→∃ ob,s.heap.get? a=some ob∧ob.dict=none:=by
 cases x with
 | str z =>
   obtain ⟨t,rfl⟩:=r
   cases (show T = "str" from ty)
   exact ⟨typeIs_str s z t,fun _ e=>nomatch e⟩
 | int i =>
   obtain ⟨t,rfl⟩:=r
   cases (show T = "int" from ty)
   exact ⟨typeIs_int s i t,fun _ e=>nomatch e⟩
 | ref p =>
   cases r
   rcases ty with ⟨rfl,xs,hq⟩ | ⟨rfl,o,hk,hc,hd⟩ | ⟨rfl,hk⟩ | ⟨rfl,S,n,hk⟩
   · obtain ⟨its,_,pl,_⟩:=I.list hq
     refine ⟨pl.isList.typeIs,fun a e=>?_⟩;cases e;obtain ⟨o,n,e,c,hd,_⟩:=pl;exact ⟨o,e,hd⟩
   · refine ⟨⟨o,I.kIn p o hk,hc⟩,fun a e=>?_⟩
     cases e;exact ⟨o,I.kIn _ o hk,hd⟩
   · have z:∃ o,s.heap.get? p=some o∧o.ExactDict:=by
      rcases hk with ⟨kvs,hk⟩ | ⟨kvs,hk⟩
      · obtain ⟨_,_,_,_,o,_,_,e,ex,_⟩:=I.hok p _ hk
        exact ⟨o,e,ex⟩
      · obtain ⟨_,_,_,_,o,_,_,e,ex,_⟩:=I.hok p _ hk
        exact ⟨o,e,ex⟩
     obtain ⟨o,e,ex⟩:=z;refine ⟨⟨o,e,ex.1⟩,fun a e2=>?_⟩;cases e2;exact ⟨o,e,ex.2.1⟩
   · obtain ⟨o,_,_,_,e,ex,_⟩:=I.hok p _ hk
     refine ⟨⟨o,e,ex.1⟩,fun a e2=>?_⟩;cases e2;exact ⟨o,e,ex.2.1⟩
 | _=>exact False.elim ty
def tBM0 (K:XFg) (T:String) (r:V→List V→Hp→VK→Prop) (to:TE):TE:=fun σ H Q=>to σ H fun x H1=>tyV K T x H1∧r x [] H1 Q
def tBM (K:XFg) (T:String) (r:V→List V→Hp→VK→Prop) (to:TE) (t:TA):TE:=fun σ H Q=>to σ H fun x H1=>tyV K T x H1∧t σ H1 fun xs H2=>r x xs H2 Q
variable {o e:Expr} {es:List Expr} {to:TE} {t:TA} {name:Str} {apos cpos:Pos} {T id:String} {r:V→List V→Hp→VK→Prop}
theorem pe_bm0 (pa:PlainAttrs T) (slot:Slot T name id) (hty:typeOf (.builtin id)=pure (.type "method_descriptor")) (hm:MtR X id r) (ho:PE X o to)
 (hbase:attributeBase o name X.env (eval o X.env)=eval o X.env:=by rfl) (hline:(apos.endLine == cpos.line)=true:=by rfl):PE X (.Call (.Attribute o name apos) [] [] cpos) (tBM0 X.K T r to):=by
 intro pins s σ H Q I h;refine wpAny_Call_method0_late hbase hline (thn (ho pins s σ H _ I h) fun v s1 ⟨x,H1,I1,r1,ty,q1⟩=>?_);obtain ⟨h1,h2⟩:=tyV_is I1 r1 ty;exact ⟨T,id,pa,slot,hty,h1,h2,Calls.callWith_builtin rfl (PySem.evalArgs_none (hm pins s1 σ H1 x [] v [] Q I1 r1 .nil q1))⟩
theorem Zbl (pa:PlainAttrs T) (slot:Slot T name id) (hty:typeOf (.builtin id)=pure (.type "method_descriptor")) (hm:MtR X id r) (ho:PE X o to) (ha:PA X (e :: es) t)
 (hbase:attributeBase o name X.env (eval o X.env)=eval o X.env:=by rfl)
 (hfew:((backTo cpos (starEach (e :: es) X.env)).all (fun x=>!x.1) && (backToKw cpos (keywordEach [] X.env)).all (fun x=>x.1.isSome)
  && decide ((e :: es).length+([]:List Keyword).length+(if ([]:List Keyword).isEmpty then 0 else 1)<30))=true:=by rfl)
 (hline:(apos.endLine == cpos.line)=true:=by rfl) (hs:starEach (e :: es) X.env=(false,eval e X.env) :: starEach es X.env:=by rfl) (hplain:(backTo cpos (starEach es X.env)).any (·.1)=false:=by rfl) :
 PE X (.Call (.Attribute o name apos) (e :: es) [] cpos) (tBM X.K T r to t):=by
 intro pins s σ H Q I h;refine wpAny_Call_method_late hbase hfew hline rfl (thn (ho pins s σ H _ I h) fun v s1 ⟨x,H1,I1,r1,ty,q1⟩=>?_);obtain ⟨h1,h2⟩:=tyV_is I1 r1 ty;refine ⟨T,id,pa,slot,hty,h1,h2,?_⟩;have hA:=ha cpos pins s1 σ H1 _ I1 q1;rw [hs] at hA ⊢
 refine Calls.callWith_builtin (by show (false || (backTo cpos (starEach es X.env)).any (·.1))=false;rw [hplain] <;> rfl) (Calls.evalArgs_plain ?_)
 exact thn hA fun us s2 ⟨vs,H2,I2,r2,q2⟩=>hm pins s2 σ H2 x vs v us Q I2 r1 r2 q2
end
def MtM (X:Cx) (id:String) (r:V→List V→Hp→VK→Prop):Prop :=
 ∀ (pins:List (Addr×Obj)) (s:Shared) (σ:St) (H:Hp) (x:V) (xs:List V) (v:Value) (us:List Value) (Q:VK),Inv X pins σ H s→RelV x v→Vals xs us→r x xs H Q →
  wpAny (model X.prog X.w) X.A (call (.builtin id) (v :: us)) (EP X pins σ Q) X.xe s
theorem Vals.one:∀ {x:V}{us:List Value},Vals [x] us→∃ u,us=[u]∧RelV x u
 | _,_,.cons r .nil=>⟨_,rfl,r⟩
theorem Vals.zero:∀ {us:List Value},Vals [] us→us=[]
 | _,.nil=>rfl
theorem Vals.reverse {xs:List V}{us:List Value} (h:Vals xs us):Vals xs.reverse us.reverse:=by
 induction h with
 | nil=>exact .nil
 | cons r t ih=>rw [List.reverse_cons,List.reverse_cons];exact Vals.append ih (.cons r .nil)
section
variable {X:Cx} {pins:List (Addr×Obj)} {σ:St} {H:Hp} {s:Shared} {l b:Addr} {xs ys zs:List V}
theorem Inv.lset {its its':List Value}{n:Nat}{f:Array Value→Array Value}{t':Nat} (I:Inv X pins σ H s) (hH:H l=some (.lst xs))
 (e:s.heap.get? l=some { cls:=.type "list",data:=.seq its.toArray n }) (hf:f its.toArray=its'.toArray) (hv:Vals ys its') (hz:ys.length≤sizeLine) :
 Inv X pins σ (upd H l (.lst ys)) { s with heap:=s.heap.update l (Obj.mapSeq f),toks:=t' }:=by
 have q:=PySem.IsL.update e f;rw [hf] at q;refine I.write (x:=l) (e:=l) (by rw [hH];exact trivial) (.inl rfl) (fun b' u hb hu=>(Heap.get?_update_other s.heap (Obj.mapSeq f) (Ne.symm hb)).trans hu) ⟨_,q⟩ ?_;exact ⟨hz,its',_,hv,q⟩
theorem Inv.lnew {its:List Value}{t':Nat} (I:Inv X pins σ H s) (hv:Vals ys its) (hz:ys.length≤sizeLine) :
 Inv X pins σ (upd H s.heap.objs.size (.lst ys)) { s with heap:=s.heap.push { cls:=.type "list",data:=.seq its.toArray },toks:=t' } :=
 I.laid (fun _ _ q=>Xbp _ q) (XaW _) ⟨hz,its,0,hv,Xbr _ rfl⟩
theorem Inv.fresh (I:Inv X pins σ H s):H s.heap.objs.size=none:=I.hok.fresh (XaW _)
theorem Inv.lstM (I:Inv X pins σ H s) (hH:H l=some (.lst xs)):xs.length≤sizeLine∧∃ (its:List Value) (n:Nat),Vals xs its∧xs.length=its.length∧s.heap.get? l=some { cls:=.type "list",data:=.seq its.toArray n }:=by
 obtain ⟨z,its,n,r,e⟩:=I.hok l _ hH;exact ⟨z,its,n,r,r.length,e⟩
theorem Zmp {n:Nat} (h:n≤sizeLine):Builtin.List.listTooLong n=false:=by
 unfold Builtin.List.listTooLong;exact Xa7 (by omega)
end
section
variable {X:Cx}
def Zlg:V→List V→Hp→VK→Prop:=fun x vs H Q=>∃ l xs y,x=.ref l∧vs=[y]∧H l=some (.lst xs)∧xs.length<sizeLine∧Q .non (upd H l (.lst (xs++[y])))
theorem Zih:MtM X "list.append" Zlg:=by
 intro pins s σ H x vs v us Q I rx rv h;obtain ⟨l,xs,y,rfl,rfl,hH,hz,q⟩:=h;cases rx;obtain ⟨u,rfl,ru⟩:=rv.one;obtain ⟨z,its,n,r,hl,e⟩:=I.lstM hH;refine call_meets F.slot_list_append ⟨_,e,rfl⟩ F.entry_list_append (F.args_list_append_2 _ _) (PySem.list_append l its.toArray n u (by rw [Xak];omega)) ⟨e,?_⟩;refine ⟨.non,_,I.lset (its':=its++[u]) hH e (by simp) (r.append (.cons ru .nil)) ?_,rfl,q⟩;rw [Xac,Xau];omega
def Zlh:V→List V→Hp→VK→Prop:=fun x vs H Q=>∃ l b xs zs,x=.ref l∧vs=[.ref b]∧H l=some (.lst xs)∧H b=some (.lst zs)∧xs.length+zs.length≤sizeLine∧Q .non (upd H l (.lst (xs++zs)))
theorem Zli:MtM X "list.extend" Zlh:=by
 intro pins s σ H x vs v us Q I rx rv h;obtain ⟨l,b,xs,zs,rfl,rfl,hH,hB,hz,q⟩:=h;cases rx;obtain ⟨u,rfl,ru⟩:=rv.one;cases ru;obtain ⟨z,its,n,r,hl,e⟩:=I.lstM hH;obtain ⟨z2,its2,n2,r2,hl2,e2⟩:=I.lstM hB
 have hsz:its.toArray.size+its2.toArray.size≤sizeLine:=by rw [Xak,Xak];omega
 have hlong:¬(!its.toArray.isEmpty && Builtin.List.listTooLong (its.toArray.size+its2.toArray.size))=true:=by
  rw [Zmp hsz,Bool.and_false];exact Xbc
 refine call_meets F.slot_list_extend ⟨_,e,rfl⟩ F.entry_list_extend (F.args_list_extend_2 _ _)
  (AutoSeq1.list_extend_list_list_0 l its.toArray n b its2.toArray n2 hlong (by rw [Xak];omega) (by omega)) ⟨e,e2,?_⟩
 refine ⟨.non,_,I.lset (its':=its++its2) hH e (by simp) (r.append r2) ?_,rfl,q⟩;rw [Xac];omega
def rClear:V→List V→Hp→VK→Prop:=fun x vs H Q=>∃ l xs,x=.ref l∧vs=[]∧H l=some (.lst xs)∧Q .non (upd H l (.lst []))
theorem Zmq:MtM X "list.clear" rClear:=by
 intro pins s σ H x vs v us Q I rx rv h;obtain ⟨l,xs,rfl,rfl,hH,q⟩:=h;cases rx;have hus:=rv.zero;subst hus;obtain ⟨z,its,n,r,hl,e⟩:=I.lstM hH;refine call_meets F.slot_list_clear ⟨_,e,rfl⟩ F.entry_list_clear (F.args_list_clear_1 _) (AutoSeq1.list_clear_list_0 l its.toArray n (by rw [Xak];omega)) ⟨e,?_⟩;exact ⟨.non,_,I.lset (its':=[]) (ys:=[]) hH e rfl .nil (Xa1 _),rfl,q⟩
def rCat:R2:=fun x y H Q=>∃ l b xs zs,x=.ref l∧y=.ref b∧H l=some (.lst xs)∧H b=some (.lst zs)∧xs.length+zs.length≤sizeLine∧∀ p,H p=none→Q (.ref p) (upd H p (.lst (xs++zs)))
theorem ZgX:OpR X (binaryOp .Add) rCat:=by
 intro pins s σ H x y v u Q I rx ry h;obtain ⟨l,b,xs,zs,rfl,rfl,hH,hB,hz,q⟩:=h;cases rx;cases ry;obtain ⟨z,its,n,r,hl,e⟩:=I.lstM hH;obtain ⟨z2,its2,n2,r2,hl2,e2⟩:=I.lstM hB;refine PySem.P.add_list e e2 ?_ (by rw [Xak,Xak];omega)
 have ea:its.toArray++its2.toArray=(its++its2).toArray:=by simp
 rw [ea];exact ⟨.ref _,_,I.lnew (t':=s.toks) (r.append r2) (by rw [Xac];omega),rfl,q _ I.fresh⟩
end
section
variable {prog:Program} {w:World} {A:Around} {E:Value→Shared→Prop} {s:Shared}
end
section
variable {X:Cx}
end
section
variable {κ:Type} [DecidableEq κ]
def valV (kvs:List (κ×V)) (k:κ):Option V:=(kvs.find? fun kv=>decide (kv.1=k)).map (·.2)
def putK (kvs:List (κ×V)) (k:κ) (v:V):List (κ×V) :=
 if (kvs.any fun kv=>decide (kv.1=k))=true then kvs.map (fun kv=>if kv.1=k then (kv.1,v) else kv) else kvs++[(k,v)]
theorem Zbr {p:κ×V}{r:List (κ×V)} {k:κ} (e:p.1=k):valV (p :: r) k=some p.2:=by simp [valV,XaR,e]
theorem Zbs {p:κ×V}{r:List (κ×V)} {k:κ} (e:¬p.1=k):valV (p :: r) k=valV r k:=by simp [valV,XaR,e]
theorem ZdS (k:κ):∀ kvs:List (κ×V),(kvs.any fun kv=>decide (kv.1=k))=(valV kvs k).isSome
 | []=>rfl
 | p :: r=>by
   rw [List.any_cons]
   by_cases e:p.1=k
   · simp only [Zbr e,Xa6 e,Bool.true_or,Option.isSome_some]
   · rw [Zbs e,Xa7 e,Bool.false_or];exact ZdS k r
theorem ZjP (k j:κ) (y:V):∀ kvs:List (κ×V),valV (kvs.map fun kv=>if kv.1=k then (kv.1,y) else kv) j=(valV kvs j).map fun x=>if j=k then y else x
 | []=>rfl
 | p :: r => by
   have ih:=ZjP k j y r;rw [Xao]
   by_cases h:p.1=k
   · rw [Xbf h]
     by_cases e:p.1=j
     · rw [Zbr (p:=(p.1,y)) e,Zbr e,Option.map_some,Xbf (e.symm.trans h)]
     · rw [Zbs (p:=(p.1,y)) e,Zbs e,ih]
   · rw [Xbe h]
     by_cases e:p.1=j
     · rw [Zbr (p:=p) e,Zbr e,Option.map_some,Xbe (fun z=>h (e.trans z))]
     · rw [Zbs (p:=p) e,Zbs e,ih]
theorem Zii (k j:κ) (y:V):∀ kvs:List (κ×V),valV kvs k=none→valV (kvs++[(k,y)]) j=if j=k then some y else valV kvs j
 | [],_=>by
   by_cases e:k=j
   · rw [Xbf e.symm];exact Zbr (p:=(k,y)) e
   · rw [Xbe (fun z=>e z.symm)];exact Zbs (p:=(k,y)) e
 | p :: r,hn=>by
   rw [List.cons_append]
   have hk:¬p.1=k:=fun z=>by rw [Zbr z] at hn;cases hn
   rw [Zbs hk] at hn;have ih:=Zii k j y r hn
   by_cases e:p.1=j
   · rw [Zbr e,Zbr e,Xbe (fun z=>hk (e.trans z))]
   · rw [Zbs e,Zbs e,ih]
theorem Zmr (kvs:List (κ×V)) (k j:κ) (y:V):valV (putK kvs k y) j=if j=k then some y else valV kvs j:=by
 unfold putK
 by_cases a:(kvs.any fun kv=>decide (kv.1=k))=true
 · rw [Xbf a,ZjP]
   rw [ZdS] at a
   by_cases e:j=k
   · obtain ⟨x,hx⟩:=Option.isSome_iff_exists.mp a
     rw [Xbf e,e,hx,Option.map_some,Xbf rfl]
   · rw [Xbe e]
     cases valV kvs j with
     | none=>rfl
     | some x=>rw [Option.map_some,Xbe e]
 · rw [Xbe a]
   refine Zii k j y kvs ?_;rw [ZdS] at a
   cases q:valV kvs k with
   | none=>rfl
   | some x=>rw [q] at a;exact (a rfl).elim
theorem Zcq (kvs:List (κ×V)) (k:κ) (v:V):(putK kvs k v).length≤kvs.length+1:=by
 unfold putK
 split
 · rw [Xaa];omega
 · rw [Xac,XaB,XaN];omega
theorem ZjQ {kvs:List (κ×V)} {k:κ} (v:V) (h:valV kvs k=none):putK kvs k v=kvs++[(k,v)]:=by
 unfold putK;rw [ZdS,h];exact Xbe (by decide)
theorem RelO.isSome_eq {o:Option V}{u:Option Value} (r:RelO o u):o.isSome=u.isSome:=by
 cases o with
 | none=>cases u with
   | none=>rfl
   | some _=>exact (show False from r).elim
 | some _=>cases u with
   | none=>exact (show False from r).elim
   | some _=>rfl
theorem RelO.getD {o:Option V}{u:Option Value}{d:V}{d':Value} (r:RelO o u) (rd:RelV d d'):RelV (o.getD d) (u.getD d'):=by
 cases o with
 | none=>cases u with
   | none=>exact rd
   | some _=>exact (show False from r).elim
 | some _=>cases u with
   | none=>exact (show False from r).elim
   | some _=>exact r
theorem KV.val {kvs:List (κ×V)} {vs:List (κ×Value)} (r:KV kvs vs) (k:κ):RelO (valV kvs k) (valueAt vs k):=by
 unfold KV at r
 induction r with
 | nil=>exact True.intro
 | @cons p q ps qs h t ih =>
   obtain ⟨h1,h2⟩:=h
   by_cases e:p.1=k
   · have e':q.1=k:=h1.symm.trans e
     have b:valueAt (q :: qs) k=some q.2:=by simp [valueAt,XaR,e']
     rw [Zbr e,b];exact h2
   · have e':¬q.1=k:=fun z=>e (h1.trans z)
     have b:valueAt (q :: qs) k=valueAt qs k:=by simp [valueAt,XaR,e']
     rw [Zbs e,b];exact ih
theorem KV.any {kvs:List (κ×V)} {vs:List (κ×Value)} (r:KV kvs vs) (k:κ):(kvs.any fun kv=>decide (kv.1=k))=vs.any fun kv=>decide (kv.1=k):=by
 unfold KV at r
 induction r with
 | nil=>rfl
 | cons h t ih=>rw [List.any_cons,List.any_cons,ih,h.1]
theorem KV.repl {kvs:List (κ×V)} {vs:List (κ×Value)} (r:KV kvs vs) (k:κ) {y:V} {u:Value} (ry:RelV y u) :
 KV (kvs.map fun kv=>if kv.1=k then (kv.1,y) else kv) (vs.map fun kv=>if kv.1=k then (kv.1,u) else kv):=by
 unfold KV at r ⊢
 induction r with
 | nil=>exact .nil
 | @cons p q ps qs h t ih =>
   rw [Xao,Xao];refine .cons ?_ ih;obtain ⟨h1,h2⟩:=h
   by_cases e:p.1=k
   · rw [Xbf e,Xbf (h1.symm.trans e)];exact ⟨h1,ry⟩
   · rw [Xbe e,Xbe (fun z=>e (h1.trans z))];exact ⟨h1,h2⟩
theorem KV.put {kvs:List (κ×V)} {vs:List (κ×Value)} (r:KV kvs vs) (k:κ) {y:V} {u:Value} (ry:RelV y u):KV (putK kvs k y) (stored vs k u):=by
 unfold putK stored;rw [r.any k]
 by_cases e:(vs.any fun kv=>decide (kv.1=k))=true
 · rw [Xbf e,Xbf e];exact r.repl k ry
 · rw [Xbe e,Xbe e];exact Paired.snoc r ⟨rfl,ry⟩
theorem KV.keys {kvs:List (κ×V)} {vs:List (κ×Value)} (r:KV kvs vs):kvs.map (·.1)=vs.map (·.1):=by
 unfold KV at r
 induction r with
 | nil=>rfl
 | cons h t ih=>rw [Xao,Xao,ih,h.1]
theorem KV.length {kvs:List (κ×V)} {vs:List (κ×Value)} (r:KV kvs vs):kvs.length=vs.length:=Paired.length r
end
theorem Zjb {P:Program}{w:World}{k:Key}{u:Value} (r:RelV (kV k) u):(ZaU P w).is k u=true:=by
 cases k with
 | inl i=>obtain ⟨t,e⟩:=(show ∃ t,u=Value.int i t from r);subst e;exact Zi6 P w i t
 | inr x=>obtain ⟨t,e⟩:=(show ∃ t,u=Value.str x t from r);subst e;exact Zi7 P w x t
theorem Zij {P:Program}{w:World}:∀ {ks:List Key}{us:List Value},Vals (ks.map kV) us→ItemsAre (ZaU P w) ks us
 | [],_,r=>by rw [XaO] at r;cases r;exact .nil
 | k :: ks,_,r=>by
   rw [Xao] at r
   cases r with
   | cons h t=>exact .cons (Zjb h) (Zij t)
abbrev KT (H:Hp):List (List Key×V)→List (List Key×Addr×Value)→Prop:=Paired fun p q=>p.1=q.1∧H q.2.1=some (.tup (p.1.map kV))∧RelV p.2 q.2.2
theorem KT.val {H:Hp}{kvs:List (List Key×V)} {xs:List (List Key×Addr×Value)} (r:KT H kvs xs) (k:List Key):RelO (valV kvs k) ((atKey xs k).map (·.2)):=by
 induction r with
 | nil=>exact True.intro
 | @cons p q ps qs h t ih =>
   obtain ⟨h1,_,h2⟩:=h
   by_cases e:p.1=k
   · have e':q.1=k:=h1.symm.trans e
     have b:atKey (q :: qs) k=some q.2:=by simp [atKey,XaR,e']
     rw [Zbr e,b];exact h2
   · have e':¬q.1=k:=fun z=>e (h1.trans z)
     have b:atKey (q :: qs) k=atKey qs k:=by simp [atKey,XaR,e']
     rw [Zbs e,b];exact ih
theorem KT.repl {H:Hp}{kvs:List (List Key×V)} {xs:List (List Key×Addr×Value)} (r:KT H kvs xs) (k:List Key) {y:V} {u:Value} (ry:RelV y u) :
 KT H (kvs.map fun kv=>if kv.1=k then (kv.1,y) else kv) (xs.map (putAt k u)):=by
 induction r with
 | nil=>exact .nil
 | @cons p q ps qs h t ih =>
   rw [Xao,Xao];refine .cons ?_ ih;obtain ⟨h1,h2,h3⟩:=h;unfold putAt
   by_cases e:p.1=k
   · rw [Xbf e,Xbf (h1.symm.trans e)];exact ⟨h1,h2,ry⟩
   · rw [Xbe e,Xbe (fun z=>e (h1.trans z))];exact ⟨h1,h2,h3⟩
theorem KT.put {H:Hp}{kvs:List (List Key×V)} {xs:List (List Key×Addr×Value)} (r:KT H kvs xs) (k:List Key) {b:Addr} {y:V} {u:Value} (hb:H b=some (.tup (k.map kV))) (ry:RelV y u) :
 KT H (putK kvs k y) (storedH xs k b u):=by
 have e:(kvs.any fun kv=>decide (kv.1=k))=(atKey xs k).isSome:=by
  rw [ZdS,(r.val k).isSome_eq,Option.isSome_map]
 unfold putK storedH;rw [e]
 by_cases q:(atKey xs k).isSome=true
 · rw [Xbf q,Xbf q];exact r.repl k ry
 · rw [Xbe q,Xbe q];exact Paired.snoc r ⟨rfl,hb,ry⟩
theorem KT.keeps {H H':Hp}{kvs:List (List Key×V)} {xs:List (List Key×Addr×Value)} (r:KT H kvs xs) (ht:∀ b ys,H b=some (.tup ys)→H' b=some (.tup ys)):KT H' kvs xs :=
 Paired.mapP r fun _ _ z=>⟨z.1,ht _ _ z.2.1,z.2.2⟩
section
variable {P:Program} {w:World} {H:Hp} {h:Heap} {a:Addr}
theorem rd_of {u:HO} (ok:HOk P w H h) (e:Rd H a u):ObjOk P w H h a u:=e.ok ok
theorem Zjc {kvs:List (Key×V)} (ok:HOk P w H h) (e:Rd H a (.dK kvs)):kvs.length≤sizeLine∧(a == sysModules)=false∧∃ vs,KV kvs vs∧h.DictOf (ZaU P w) a vs :=
 show ObjOk P w H h a (.dK kvs) from rd_of ok e
theorem dk_of {kvs:List (Key×V)} (ok:HOk P w H h) (e:H a=some (.dK kvs)):kvs.length≤sizeLine∧(a == sysModules)=false∧∃ vs,KV kvs vs∧h.DictOf (ZaU P w) a vs:=Zjc ok (.inl e)
theorem Zfi {ks:List Key} (ok:HOk P w H h) (e:H a=some (.tup (ks.map kV))):(tupleKind (ZaU P w)).is h ks a:=by
 obtain ⟨_,its,r,o,h1,h2,n,h3⟩:=(show ObjOk P w H h a (.tup (ks.map kV)) from ok a _ e);exact ⟨o,its.toArray,n,h1,h2,h3,by simpa using Zij r⟩
theorem Zjd {kvs:List (List Key×V)} (ok:HOk P w H h) (e:Rd H a (.dT kvs)):kvs.length≤sizeLine∧(a == sysModules)=false ∧
 ∃ xs,KT H kvs xs∧h.DictOfH (tupleKind (ZaU P w)) a xs:=by
 obtain ⟨z,y,xs,r,o,es,ep,h1,h2,h3,h4,h5⟩:=(show ObjOk P w H h a (.dT kvs) from rd_of ok e);refine ⟨z,y,xs,r,o,es,ep,h1,h2,h3,h4,fun x hx=>?_,h5⟩
 have all : ∀ {l : List (List Key × V)} {m : List (List Key × Addr × Value)}, KT H l m → ∀ x ∈ m, (tupleKind (ZaU P w)).is h x.1 x.2.1 := by
  intro l m q
  induction q with
  | nil=>intro x hx;exact nomatch hx
  | @cons p q ps qs hq t ih =>
    intro x hx
    rcases Xam.mp hx with e | hx
    · subst e
      exact Zfi ok (by rw [←hq.1];exact hq.2.1)
    · exact ih x hx
 exact all r x hx
theorem dt_of {kvs:List (List Key×V)} (ok:HOk P w H h) (e:H a=some (.dT kvs)):kvs.length≤sizeLine∧(a == sysModules)=false ∧
 ∃ xs,KT H kvs xs∧h.DictOfH (tupleKind (ZaU P w)) a xs:=Zjd ok (.inl e)
end
def DGet (H:Hp) (a:Addr) (y:V) (r:Option V):Prop :=
 (∃ kvs k,Rd H a (.dK kvs)∧y=kV k∧r=valV kvs k)∨∃ kvs k b,Rd H a (.dT kvs)∧y=.ref b∧H b=some (.tup (k.map kV))∧r=valV kvs k
def DPut (H:Hp) (a:Addr) (y v:V) (H':Hp):Prop :=
 (∃ kvs k,H a=some (.dK kvs)∧y=kV k∧kvs.length<sizeLine∧H'=upd H a (.dK (putK kvs k v))) ∨
 ∃ kvs k b,H a=some (.dT kvs)∧y=.ref b∧H b=some (.tup (k.map kV))∧kvs.length<sizeLine∧H'=upd H a (.dT (putK kvs k v))
theorem DGet.k {H:Hp}{a:Addr}{kvs:List (Key×V)} {k:Key} (e:H a=some (.dK kvs)):DGet H a (kV k) (valV kvs k):=.inl ⟨kvs,k,.inl e,rfl,rfl⟩
theorem DGet.t {H:Hp}{a b:Addr}{kvs:List (List Key×V)} {k:List Key} (e:H a=some (.dT kvs)) (eb:H b=some (.tup (k.map kV))):DGet H a (.ref b) (valV kvs k):=.inr ⟨kvs,k,b,.inl e,rfl,eb,rfl⟩
theorem DPut.k {H:Hp}{a:Addr}{kvs:List (Key×V)} {k:Key} {v:V} (e:H a=some (.dK kvs)) (hl:kvs.length<sizeLine):DPut H a (kV k) v (upd H a (.dK (putK kvs k v))):=.inl ⟨kvs,k,e,rfl,hl,rfl⟩
section
variable {X:Cx} {pins:List (Addr×Obj)} {σ:St} {H:Hp} {s:Shared} {a:Addr} {y v:V} {u r:Value} {o:Option V} {A:Around} {E:Value→Shared→Prop}
theorem Inv.big (I:Inv X pins σ H s):sysModules<s.heap.objs.size:=by
 have h:mainGlobals<s.heap.objs.size:=(I.mod.glob.keeps I.bk).lt;exact Nat.lt_trans (by decide) h
theorem Zlj {Q:Value→Shared→Prop} (hu:A.units+1<cLine) (I:Inv X pins σ H s) (g:DGet H a y (some v)) (ry:RelV y u) (h:∀ w' s',Inv X pins σ H s'→RelV v w'→Q w' s') :
 wpAny (model X.prog X.w) A (getItem (.ref a) u) Q E s:=by
 rcases g with ⟨kvs,k,e,ey,l⟩ | ⟨kvs,k,b,e,ey,eb,l⟩
 · subst ey
   obtain ⟨z,hd,vs,rel,dd⟩:=Zjc I.hok e;obtain ⟨w',hw,rw'⟩:=RelO.some_of (v:=v) (o:=valueAt vs k) (by rw [l];exact rel.val k);exact wpAny_getItem_of (Zjb ry) dd.mapOf hw (h w' _ (I.tok _) rw')
 · subst ey
   cases (show u=Value.ref b from ry);obtain ⟨z,hd,xs,rel,dd⟩:=Zjd I.hok e;obtain ⟨w',hw,rw'⟩:=RelO.some_of (v:=v) (o:=(atKey xs k).map (·.2)) (by rw [l];exact rel.val k);obtain ⟨p,hp,hp2⟩:=XaV.mp hw;refine wpAny_getItem_heap (tupleKind_room_in1 hu) (Zfi I.hok eb) dd hp ?_;rw [hp2];exact h w' _ (I.tok _) rw'
theorem d_in {Q:Value→Shared→Prop} (hu:A.units+1<cLine) (I:Inv X pins σ H s) (g:DGet H a y o) (ry:RelV y u) (h:∀ s',Inv X pins σ H s'→Q (.bool o.isSome) s') :
 wpAny (model X.prog X.w) A (compareOp .In u (.ref a)) Q E s:=by
 rcases g with ⟨kvs,k,e,ey,l⟩ | ⟨kvs,k,b,e,ey,eb,l⟩
 · subst ey
   obtain ⟨z,hd,vs,rel,dd⟩:=Zjc I.hok e;refine wpAny_in_of (Zjb ry) hd dd.mapOf ?_;rw [←(rel.val k).isSome_eq,←l];exact h _ (I.tok _)
 · subst ey
   cases (show u=Value.ref b from ry);obtain ⟨z,hd,xs,rel,dd⟩:=Zjd I.hok e;refine wpAny_in_heap (tupleKind_room_in1 hu) (Zfi I.hok eb) hd dd ?_;have q:=(rel.val k).isSome_eq;rw [Option.isSome_map] at q;rw [←q,←l];exact h _ (I.tok _)
theorem d_notIn {Q:Value→Shared→Prop} (hu:A.units+1<cLine) (I:Inv X pins σ H s) (g:DGet H a y o) (ry:RelV y u) (h:∀ s',Inv X pins σ H s'→Q (.bool (!o.isSome)) s') :
 wpAny (model X.prog X.w) A (compareOp .NotIn u (.ref a)) Q E s:=by
 rcases g with ⟨kvs,k,e,ey,l⟩ | ⟨kvs,k,b,e,ey,eb,l⟩
 · subst ey
   obtain ⟨z,hd,vs,rel,dd⟩:=Zjc I.hok e;refine wpAny_notIn_of (Zjb ry) hd dd.mapOf ?_;rw [←(rel.val k).isSome_eq,←l];exact h _ (I.tok _)
 · subst ey
   cases (show u=Value.ref b from ry);obtain ⟨z,hd,xs,rel,dd⟩:=Zjd I.hok e;refine wpAny_notIn_heap (tupleKind_room_in1 hu) (Zfi I.hok eb) hd dd ?_;have q:=(rel.val k).isSome_eq;rw [Option.isSome_map] at q;rw [←q,←l];exact h _ (I.tok _)
theorem ZfR {h':Heap}{t':Nat}{ob:HO} (I:Inv X pins σ H s) (mu:Mut (H a)) (hs:Heap.SameBut a s.heap h') (he:∃ q,h'.get? a=some q) (new:ObjOk X.prog X.w (upd H a ob) h' a ob) :
 Inv X pins σ (upd H a ob) { s with heap:=h',toks:=t' } :=
 I.write (x:=a) (e:=a) mu (.inl rfl) (fun b q hb z=>(hs.2 b hb).trans z) he new
theorem dk_new {P:Program}{w:World}{H':Hp}{h':Heap}{kvs:List (Key×V)} {vs:List (Key×Value)} (z:kvs.length≤sizeLine) (hd:(a == sysModules)=false) (rel:KV kvs vs) (dd:h'.DictOf (ZaU P w) a vs) :
 ObjOk P w H' h' a (.dK kvs):=⟨z,hd,vs,rel,dd⟩
theorem Zlk {H':Hp}{Q:Unit→Shared→Prop} (hu:A.units+1<cLine) (I:Inv X pins σ H s) (g:DPut H a y v H') (ry:RelV y u) (rv:RelV v r) (h:∀ s',Inv X pins σ H' s'→Q () s') :
 wpAny (model X.prog X.w) A (setItem (.ref a) u r) Q E s:=by
 rcases g with ⟨kvs,k,e,ey,l,eH⟩ | ⟨kvs,k,b,e,ey,eb,l,eH⟩
 · subst ey eH
   obtain ⟨z,hd,vs,rel,dd⟩:=dk_of I.hok e
   have hz:vs.length≤sizeLine:=by rw [←rel.length];exact z
   have hl:(putK kvs k v).length≤sizeLine:=by have:=Zcq kvs k v;omega
   refine wpAny_setItem_pairs (hsz:=hz) (Zjb ry) dd fun h' dd' hs=>h _ ?_;have he:∃ q,h'.get? a=some q:=let ⟨q,_,_,hq,_⟩:=dd';⟨q,hq⟩;exact ZfR I (by rw [e];exact True.intro) hs he (dk_new hl hd (rel.put k rv) dd')
 · subst ey eH
   cases (show u=Value.ref b from ry);obtain ⟨z,hd,xs,rel,dd⟩:=dt_of I.hok e
   have hz:xs.length≤sizeLine:=by rw [←Paired.length rel];exact z
   have hl:(putK kvs k v).length≤sizeLine:=by have:=Zcq kvs k v;omega
   refine wpAny_setItem_heap (hsz:=hz) (tupleKind_room_in1 hu) (Zfi I.hok eb) dd fun h' dd' hs=>h _ ?_;obtain ⟨q,es,ep,hq,h2,h3,h4,_,h5⟩:=dd';refine ZfR I (by rw [e];exact True.intro) hs ⟨q,hq⟩ ⟨hl,hd,_,(rel.put k eb rv).keeps fun c ys ec=>?_,q,es,ep,hq,h2,h3,h4,h5⟩
   rw [Zah (ZfN ec e (fun z=>nomatch z))]
   exact ec
end
section
variable {X:Cx} {pins:List (Addr×Obj)} {σ:St} {H:Hp} {s:Shared} {a:Addr} {kvs:List (Key×V)} {k:Key} {u:Value} {A:Around} {E:Value→Shared→Prop}
end
def NoSl (i:Expr):Prop:=∀ ov iv,subscripted i false ov iv=operate [ov,iv] (getItem ov iv)
theorem subD_of {prog:Program}{w:World}{A:Around}{E:Value→Shared→Prop}{s:Shared}{env:Env}{value slice:Expr}{pos:Pos}{T id:String}{Q:Value→Shared→Prop}
 (hl:typeLookup (.type T) "__getitem__" = pure (some (.builtin id))) (hs:NoSl slice)
 (h:wpAny (model prog w) A (eval value env) (fun o s₁=>wpAny (model prog w) A (eval slice env) (fun i s₂=>s₂.TypeIs o T∧wpAny (model prog w) A (getItem o i) Q E s₂) E s₁) E s) :
 wpAny (model prog w) A (eval (.Subscript value slice pos) env) Q E s:=by
 refine Subscript_ (Xbw h (fun o s₁ h₁=>Xbw h₁ (fun i s₂ h₂=>?_) fun _ _ x=>x) fun _ _ x=>x);obtain ⟨hT,h₂⟩:=h₂;unfold subscriptTail;refine Xbl ?_;rw [getitemInPython_of_ne hT.not_modules];refine Xbl (wpAny_specialOf hT hl ?_)
 have fin:wpAny (model prog w) A (subscripted slice false o i) (fun r s₃=>wpAny (model prog w) A (letTemporaryGo value o r >>= fun _=>pure r) Q E s₃) E s₂:=by
  rw [hs o i];exact wpAny_operating (Xbw h₂ (fun r s₃ h₃=>Xbl (wpAny_letTemporaryGo (Xbm h₃))) fun _ _ x=>x)
 first
  | exact Xbm (Xbl fin)
  | exact Xbl (Xbm (Xbl fin))
  | exact Xbl fin
theorem Zje {X:Cx}{pins:List (Addr×Obj)} {σ:St} {H:Hp} {s:Shared} {a:Addr} {y:V} {o:Option V} (I:Inv X pins σ H s) (g:DGet H a y o):s.TypeIs (.ref a) "dict" := by
 rcases g with ⟨kvs,k,e,_,_⟩ | ⟨kvs,k,b,e,_,_,_⟩
 · obtain ⟨_,_,vs,_,dd⟩:=Zjc I.hok e
   exact dd.typeIs
 · obtain ⟨_,_,xs,_,dd⟩:=Zjd I.hok e
   exact dd.typeIs
def tDGet (td ty:TE):TE:=fun σ H Q=>td σ H fun x H1=>ty σ H1 fun y H2=>∃ a v,x=.ref a∧DGet H2 a y (some v)∧Q v H2
section
variable {X:Cx} {o i e value:Expr} {pos pos' tpos:Pos} {td ty tv:TE}
theorem pe_dget (hu:X.A.units+1<cLine) (ho:PE X o td) (hi:PE X i ty) (hs:NoSl i):PE X (.Subscript o i pos) (tDGet td ty):=by
 intro pins s σ H Q I h;refine subD_of PySem.F.slot_dict_getitem.lookup hs (thn (ho pins s σ H _ I h) fun u s1 ⟨x,H1,I1,rx,q1⟩=>thn (hi pins s1 σ H1 _ I1 q1) fun iv s2 ⟨y,H2,I2,ry,a,v,ex,g,q2⟩=>?_);subst ex;obtain rfl:u=Value.ref a:=rx;exact ⟨Zje I2 g,Zlj hu I2 g ry fun w' s3 I3 rw'=>⟨v,H2,I3,rw',q2⟩⟩
end
theorem Zms {P:Program}{w:World}{H:Hp} (h:Heap) (hb:sysModules<h.objs.size):ObjOk P w H (h.push { cls:=.type "dict",data:=.dict #[] }) h.objs.size (.dK []) :=
 ⟨Xa1 _,beq_eq_false_iff_ne.mpr (Ne.symm (XaZ hb)),[],.nil,Heap.DictOf.new h⟩
theorem ZjR {P:Program}{w:World}{H:Hp} (h:Heap) (hb:sysModules<h.objs.size):ObjOk P w H (h.push { cls:=.type "dict",data:=.dict #[] }) h.objs.size (.dT []) :=
 ⟨Xa1 _,beq_eq_false_iff_ne.mpr (Ne.symm (XaZ hb)),[],.nil,_,#[],0,Xbr _ rfl,⟨rfl,rfl,rfl⟩,rfl,rfl,List.nodup_nil⟩
def tDNewK:TE:=fun _ H Q=>∀ p,H p=none→Q (.ref p) (upd H p (.dK []))
def tDNewT:TE:=fun _ H Q=>∀ p,H p=none→Q (.ref p) (upd H p (.dT []))
section
variable {X:Cx} {pos:Pos}
theorem ZjS:PE X (.Dict [] [] pos) tDNewK:=fun pins s σ H Q I h =>
 wpAny_Dict_empty ⟨.ref s.heap.objs.size,_,I.laid (a:=s.heap.objs.size) (o:=.dK []) (t':=s.toks) (fun _ _ q=>Xbp _ q) (XaW _) (Zms s.heap I.big),rfl,h _ (I.hok.fresh (XaW _))⟩
theorem Zho:PE X (.Dict [] [] pos) tDNewT:=fun pins s σ H Q I h =>
 wpAny_Dict_empty ⟨.ref s.heap.objs.size,_,I.laid (a:=s.heap.objs.size) (o:=.dT []) (t':=s.toks) (fun _ _ q=>Xbp _ q) (XaW _) (ZjR s.heap I.big),rfl,h _ (I.hok.fresh (XaW _))⟩
end
structure M2 (X:Cx) (o:Expr) (m:Str) (apos:Pos) (e f:Expr) (cpos:Pos):Prop where
 base:attributeBase o m X.env (eval o X.env)=eval o X.env
 few:((backTo cpos (starEach [e,f] X.env)).all (fun x=>!x.1) && (backToKw cpos (keywordEach [] X.env)).all (fun x=>x.1.isSome)
  && decide (([e,f]:List Expr).length+([]:List Keyword).length+(if ([]:List Keyword).isEmpty then 0 else 1)<30))=true
 line:(apos.endLine == cpos.line)=true
 trees:backTo cpos (starEach [e,f] X.env)=[(false,eval e X.env),(false,eval f X.env)]
def IsD (H:Hp) (a:Addr):Prop:=(∃ kvs,Rd H a (.dK kvs))∨∃ kvs,Rd H a (.dT kvs)
theorem isD_at {X:Cx}{pins:List (Addr×Obj)} {σ:St} {H:Hp} {s:Shared} {a:Addr} (I:Inv X pins σ H s) (d:IsD H a) :
 s.TypeIs (.ref a) "dict" ∧ (∀ b,Value.ref a=.ref b→∃ ob,s.heap.get? b=some ob∧ob.dict=none)∧(a == sysModules)=false:=by
 rcases d with ⟨kvs,e⟩ | ⟨kvs,e⟩
 · obtain ⟨_,hd,vs,_,dd⟩:=Zjc I.hok e
   refine ⟨dd.typeIs,fun b q=>?_,hd⟩;cases q;obtain ⟨ob,_,_,h1,h2,_⟩:=dd;exact ⟨ob,h1,h2.2.1⟩
 · obtain ⟨_,hd,xs,_,dd⟩:=Zjd I.hok e
   refine ⟨dd.typeIs,fun b q=>?_,hd⟩;cases q;obtain ⟨ob,_,_,h1,h2,_⟩:=dd;exact ⟨ob,h1,h2.2.1⟩
section
variable {X:Cx} {pins:List (Addr×Obj)} {σ:St} {H:Hp} {s:Shared} {a:Addr} {y d:V} {u r:Value} {o:Option V} {A:Around} {E:Value→Shared→Prop}
theorem d_get2 {Q:Value→Shared→Prop} (hu:A.units+1<cLine) (I:Inv X pins σ H s) (g:DGet H a y o) (ry:RelV y u) (rd:RelV d r) (h:∀ w' s',Inv X pins σ H s'→RelV (o.getD d) w'→Q w' s') :
 wpAny (model X.prog X.w) A (call (.builtin "dict.get") [.ref a,u,r]) Q E s:=by
 rcases g with ⟨kvs,k,e,ey,l⟩ | ⟨kvs,k,b,e,ey,eb,l⟩
 · subst ey
   obtain ⟨z,hd,vs,rel,dd⟩:=Zjc I.hok e;refine call_meetsIn PySem.F.slot_dict_get dd.typeIs PySem.F.entry_dict_get (PySem.F.args_dict_get_3 _ _ _) (meets_dict_get_default (ZaU X.prog X.w) a (Zjb ry) hd r) ⟨_,dd.mapOf,h _ _ (I.tok _) ?_⟩;rw [l];exact (rel.val k).getD rd
 · subst ey
   cases (show u=Value.ref b from ry);obtain ⟨z,hd,xs,rel,dd⟩:=Zjd I.hok e;refine call_meetsIn PySem.F.slot_dict_get dd.typeIs PySem.F.entry_dict_get (PySem.F.args_dict_get_3 _ _ _) (meetsH_dict_get_default (tupleKind (ZaU X.prog X.w)) a b hd r) ⟨tupleKind_room_in1 hu,k,xs,Zfi I.hok eb,dd,h _ _ (I.tok _) ?_⟩;rw [l];exact (rel.val k).getD rd
end
def tDGet2 (td ty tx:TE):TE:=fun σ H Q=>td σ H fun x H1=>∃ a,x=.ref a∧IsD H1 a∧ty σ H1 fun y H2=>tx σ H2 fun z H3=>∃ o,DGet H3 a y o∧Q (o.getD z) H3
section
variable {X:Cx} {o e f:Expr} {apos cpos:Pos} {td ty tx:TE}
theorem Zmt (hu:X.A.units+1<cLine) (ho:PE X o td) (he:PE X e ty) (hf:PE X f tx) (m:M2 X o "get" apos e f cpos):PE X (.Call (.Attribute o "get" apos) [e,f] [] cpos) (tDGet2 td ty tx):=by
 intro pins s σ H Q I h;refine wpAny_Call_method m.base m.few m.line PySem.F.plainAttrs_dict PySem.F.slot_dict_get PySem.F.type_dict_get (thn (ho pins s σ H _ I h) fun u s1 ⟨x,H1,I1,rx,a,ex,d,q1⟩=>?_);subst ex;obtain rfl:u=Value.ref a:=rx;obtain ⟨t1,t2,_⟩:=isD_at I1 d;refine ⟨t1,t2,?_⟩;rw [m.trees]
 refine Calls.callWith_builtin rfl (Calls.evalArgs_plain (Calls.spliced_cons (thn (he pins s1 σ H1 _ I1 q1) fun iv s2 ⟨y,H2,I2,ry,q2⟩ =>
  Calls.spliced_cons (thn (hf pins s2 σ H2 _ I2 q2) fun fv s3 ⟨z,H3,I3,rz,ov,g,q3⟩=>Calls.spliced_nil ?_))))
 exact d_get2 hu I3 g ry rz fun w' s4 I4 rw'=>⟨_,H3,I4,rw',q3⟩
end
section
variable {X:Cx} {pins:List (Addr×Obj)} {σ:St} {H:Hp} {s:Shared} {a:Addr} {kvs:List (Key×V)} {A:Around} {E:Value→Shared→Prop}
end
section
variable {X:Cx} {pins:List (Addr×Obj)} {σ:St} {H:Hp} {s:Shared} {a:Addr} {y:V} {u:Value} {A:Around} {E:Value→Shared→Prop}
end
end L2
namespace Att
open PySem PySem.W PySem.Calls PyProof.Rows
theorem ZfS {P:Params}{h:Heap}:∀ (ns:List Int) (vs:List Value),WellAll P h vs (ns.map WData.int)→IntsAre vs ns:=by
 intro ns
 induction ns with
 | nil =>
   intro vs w;rw [XaO] at w;cases w;exact .nil
 | cons n ns ih =>
   intro vs w;rw [Xao] at w
   cases w with
   | cons a b =>
     cases a;exact .cons _ _ (ih _ b)
theorem Zll {l:OpenLaw}{n:Nat} (hn:l.most=some n) {P:Params} {h:Heap} {args:List WData} {vals:List Value}
 (hpre:l.row.toRowW.claim.pre args=true) (hwl:WellAll P h vals args) :
 ∃ a vs ns,vals=[Value.ref a]∧args=[WData.list (ns.map WData.int)]∧h.get? a=some { cls:=.type "list",data:=.seq vs.toArray }∧IntsAre vs ns∧ns.length≤n:=by
 have hsh:WShape.hasAll [] args [.list .int]=true:=(pre_splitW hpre).1;have hc:l.pre.holds [] { args:=args }=true:=(pre_splitW hpre).2;obtain ⟨d,r,rfl,h1,h2⟩:=hasAllW_cons hsh;obtain rfl:=hasAllW_nil h2;obtain ⟨xs,rfl,h3⟩:=hasW_list h1;obtain ⟨ns,rfl⟩:=items_int h3
 have hlen:ns.length≤n:=by
  unfold OpenLaw.pre at hc
  have h4:(WTm.not (.lt (.lit (.int (n:Int))) (.len (.arg 0)))).holds [] { args:=[.list (ns.map .int)] }=true:=by
   have h4:=(holds_andW hc).1;rw [hn] at h4;exact h4
  have h5:=condW_of h4 (w_not (w_lt w_lit (w_len_list (w_arg rfl))));rw [Xaa] at h5;refine Nat.le_of_not_lt fun q=>?_
  have q':(n:Int)<((ns.length:Nat):Int):=by omega
  first
   | (rw [Xa6 q'] at h5;exact absurd h5 (by decide))
   | (simp at h5;omega)
 cases hwl with
 | cons w1 w2 =>
   cases w2
   cases w1 with
   | list ho hall=>exact ⟨_,_,ns,rfl,rfl,ho,ZfS ns _ hall,hlen⟩
theorem Zlm (l:OpenLaw) (args:List WData):l.row.toRowW.claim.post args (.bool true) args=true :=
 postW_of (r:=l.row.toRowW) (X:=(true == true))
  (show WShape.has [] (.bool true) .bool=true by first | rfl | decide | simp [WShape.has,WShape.arms,WShape.armsAll])
  (show (WTm.eq .res (.lit (.bool true))).value [] { args:=args,res:=some (.bool true),after:=args }=some (.bool (true == true)) from w_eq_bool (w_res rfl) w_lit) rfl
theorem attach_call {l:OpenLaw}{n:Nat}{q:Program}{loose:List Str}{XP:(Str→Option Value)→Heap→Prop} {YP:World→Heap→Prop} {d:DefRec}
 (hn:l.most=some n) (hdf:d.params.defaults=[])
 (call:∀ (w:World) (s₀ s₁:Shared) (mg mb:Str→Option Value) (fa:Addr) (o:Obj) (pm cd doc:Value) (a:Addr) (vs:List Value) (ns:List Int),
  Ground q loose [] XP w s₀ mg mb s₁.heap→YP w s₁.heap →
  s₁.heap.get? fa=some o→o.data=.func (docDef d.name d.params d.body d.scope pm cd doc)→s₁.heap.CodeRec cd d.name→mg d.name=some (.ref fa) →
  s₁.heap.get? a=some { cls:=.type "list",data:=.seq vs.toArray }→IntsAre vs ns→ns.length≤n→s₁.gens=#[] →
  codeAny (model l.prog w) callerA (.call (.ref fa) ⟨[.ref a],[]⟩) (fun r s'=>r=.ok (.ret (.bool true))∧OldK s₁.heap s'.heap∧s'.os=s₁.os∧AllBare s'.gens) s₁) :
 WalkO q loose XP YP l.row.toRowW d [] (fun f vs=>PySem.call f vs):=by
 intro w s₀ s₁ mg mb G Y fa o pm cd doc dV kV ho hd hcd hD hmg hg args vals as hpre hlay hrd hwl hlo;obtain rfl:dV=.none:=Dflts.none hD hdf;obtain rfl:kV=.none:=Dflts.noKw hD;obtain ⟨a,vs,ns,rfl,rfl,hobj,hints,hlen⟩:=Zll hn hpre hwl;refine enter_call (codeAny_mono (call w s₀ s₁ mg mb fa o pm cd doc a vs ns G Y ho (fd_plain hd) hcd hmg hobj hints hlen hg) fun r s' hq=>?_);obtain ⟨rfl,h2,h3,h4⟩:=hq
 exact ⟨.inl ⟨.bool true,.bool true,[],rfl,fun _=>rfl,.bool true,Zlm l _,fun _=>⟨List.Pairwise.nil,fun _ hm=>(nomatch hm)⟩⟩,h2,h3,h4⟩
section
variable {prog:Program} {w:World} {A:Around} {E:Value→Shared→Prop} {s:Shared} {K:Frag}
end
end Att
namespace L2
open PySem PySem.Spec PyProof.Rows
theorem Zik:∀ {vs:List Value}{ns:List Int},IntsAre vs ns→Vals (ns.map V.int) vs
 | _,_,.nil=>.nil
 | _,_,.cons n t h=>.cons ⟨t,rfl⟩ (Zik h)
def Only (H:Hp):Prop:=∀ b,H b=none∨∃ o xs,H b=some (.frz o (.lst xs))
theorem Zmu {P : Program} {w : World} {K : XFg} {mg mb : Str → Option Value} {CX : CXT} {k : Nat} {fa a : Addr} {fd : FuncData} {x : Str} {sp : Sp} {s₁ : Shared} {vs : List Value} {ns : List Int}
 (KX:K.In s₁.heap) (hns:s₁.heap.Ns mainGlobals mg) (hb:s₁.heap.Ns builtinsNs mb) (hbb:∀ x:Str,x ≠ "__name__" → mb x=bootBuiltins x) (hlim:s₁.heap.NoLimit) (hg:s₁.gens=#[])
 (ha:s₁.heap.get? a=some { cls:=.type "list",data:=.seq vs.toArray }) (hi:IntsAre vs ns) (hl:ns.length≤sizeLine) (hr:Room k callerA)
 (F:∀ base:Heap,K.In base→base.Ns mainGlobals mg→FnOk P w K mg base CX k fa fd [x] sp) (hbind:∀ (s:Shared) (u:Value),BindsTo s fd ⟨[u],[]⟩ [(x,u)])
 (hsp:∀ H:Hp,Only H→SqL K H a (ns.map V.int)→sp [.ref a] H (fun v _=>v=.bl true) fun _ _ _=>False)
 (hCX:∀ H e s',CX [] H s₁ (fun _ _ _=>False) e s'→False) :
 codeAny (model P w) callerA (.call (.ref fa) ⟨[.ref a],[]⟩) (fun r s'=>r=.ok (.ret (.bool true))∧OldK s₁.heap s'.heap∧s'.os=s₁.os∧AllBare s'.gens) s₁:=by
 have rv:=Zik hi;have lenV:=hi.length
 have core : ∀ H : Hp, Only H → SqL K H a (ns.map V.int) → HOk P w H s₁.heap → (∀ b, H b ≠ none → b = a) → (H a ≠ none → K.lookup a = none) →
  codeAny (model P w) callerA (.call (.ref fa) ⟨[.ref a],[]⟩) (fun r s'=>r=.ok (.ret (.bool true))∧OldK s₁.heap s'.heap∧s'.os=s₁.os∧AllBare s'.gens) s₁:=by
  intro H hO hS hok hA hK;have base_of:∀ {b:Addr} {o:Obj},s₁.heap.get? b=some o→H b=none→(hidT s₁.heap H).get? b=some o:=fun e n=>Zmh e n
  have noA:∀ {b:Addr} {o:Obj} {es:Array DictEntry} {ep:Nat},s₁.heap.get? b=some o→o.data=.dict es ep→H b=none:=fun {b o es ep} e d=>by
   cases q:H b with
   | none=>rfl
   | some u =>
     have e':b=a:=hA b (by rw [q];simp);subst e';rw [ha] at e;cases e;have d':Data.seq vs.toArray _=Data.dict es ep:=d;cases d'
  have nsK:∀ {b:Addr} {m:Str→Option Value},s₁.heap.Ns b m→(hidT s₁.heap H).Ns b m:=fun {b m} ⟨o,es,ep,e,d,r⟩=>⟨o,es,ep,base_of e (noA e d),d,r⟩
  have hKb:K.In (hidT s₁.heap H):=fun b o e=>base_of (KX b o e) (by
   cases q:H b with
   | none=>rfl
   | some u =>
     have e':b=a:=hA b (by rw [q];simp);subst e'
     rw [hK (by rw [q];simp)] at e;cases e)
  have hM:Mod K mg (hidT s₁.heap H):=⟨hKb,nsK hns,⟨mb,nsK hb,hbb⟩,let ⟨mc,h1,h2⟩:=hlim;⟨mc,nsK h1,h2⟩⟩;have e0:Env0 P w K mg (hidT s₁.heap H) callerA [] s₁ H:=⟨rfl,hM,fun b o e=>of_hidT e,Nat.le_of_eq (Zk3 _ _),trivial,fun b hb=>absurd (show b∈([]:List Addr) from hb) (by simp),hok,.of_eq hg⟩;refine codeAny_mono ((F _ hKb (nsK hns)).run callerA [] s₁ H ⟨[.ref a],[]⟩ [.ref a] [.ref a] _ _ hr e0 (hbind s₁ (.ref a)) (.cons rfl .nil) (hsp H hO hS)) fun r s' h=>?_
  cases r with
  | error e=>exact (hCX H e s' h).elim
  | ok fl =>
    cases fl with
    | next=>exact False.elim h
    | brk=>exact False.elim h
    | cont=>exact False.elim h
    | ret u =>
      obtain ⟨v,H',os,bare,un,hok',r',q⟩:=h;have q':v=.bl true:=q;subst q';obtain rfl:u=Value.bool true:=r';refine ⟨rfl,OldK.of_keep fun b o e=>?_,os,bare⟩
      cases q:H b with
      | none=>exact un.keep b o e q (by intro z;exact absurd (show b∈([]:List Addr) from z) (by simp)) (by simp)
      | some u =>
        rcases hO b with z | ⟨ob,xs,z⟩
        · rw [q] at z;cases z
        · have z2:=un.frzs b ob _ z
          obtain ⟨e1,_⟩:=hok b _ z;obtain ⟨e2,_⟩:=hok' b _ z2;rw [e] at e1;cases e1;exact e2
 cases hk:K.lookup a with
 | some o =>
   have e:=KX a o hk;rw [ha] at e;cases e;refine core (fun _=>none) (fun _=>.inl rfl) (.inr ⟨_,vs.toArray,_,hk,rfl,rfl,rfl,by rw [Xak,lenV];exact hl,by simpa using rv⟩) (fun b u z=>by have z':(none:Option HO)=some u:=z;cases z') (fun b z=>absurd rfl z) fun z=>absurd rfl z
 | none =>
   refine core (fun b=>if b=a then some (.frz { cls:=.type "list",data:=.seq vs.toArray } (.lst (ns.map V.int))) else none) (fun b=>?_) (.inl (.inr ⟨{ cls:=.type "list",data:=.seq vs.toArray },Xbf rfl⟩)) (fun b u z=>?_) (fun b z=>?_) fun _=>hk
   · by_cases hb:b=a
     · exact .inr ⟨_,_,Xbf hb⟩
     · exact .inl (Xbe hb)
   · by_cases hb:b=a
     · have z':=(Xbf hb).symm.trans z
       cases z';subst hb;exact ⟨ha,by rw [Xaa];exact hl,vs,_,rv,ha⟩
     · have z':=(Xbe hb).symm.trans z
       cases z'
   · by_cases hb:b=a
     · exact hb
     · exact absurd (Xbe hb) z
theorem walk_of {l:PySem.W.OpenLaw}{n k:Nat}{q:Program}{loose:List Str}{XP:(Str→Option Value)→Heap→Prop} {YP:World→Heap→Prop} {d:DefRec} {K:Params→XFg} {CX:World→CXT} {sp:World→Sp} {x:Str}
 (hn:l.most=some n) (hn2:n≤sizeLine) (hdf:d.params.defaults=[]) (hr:Room k callerA)
 (hY:∀ (w:World) (h:Heap),YP w h→(K w.params).In h)
 (F:∀ (w:World) (mg:Str→Option Value) (fa:Addr) (h:Heap),(K w.params).In h→h.Ns mainGlobals mg→mg d.name=some (.ref fa) →
  ∃ fd:FuncData,(∀ (s:Shared) (u:Value),BindsTo s fd ⟨[u],[]⟩ [(x,u)]) ∧
   ∀ base:Heap,(K w.params).In base→base.Ns mainGlobals mg→FnOk l.prog w (K w.params) mg base (CX w) k fa fd [x] (sp w))
 (hsp:∀ (w:World) (H:Hp) (a:Addr) (ns:List Int),ns.length≤n→Only H→SqL (K w.params) H a (ns.map V.int)→sp w [.ref a] H (fun v _=>v=.bl true) fun _ _ _=>False)
 (hCX:∀ (w:World) (H:Hp) (s:Shared) (e:Value) (s':Shared),CX w [] H s (fun _ _ _=>False) e s'→False) :
 PySem.W.WalkO q loose XP YP l.row.toRowW d [] (fun f vs=>PySem.call f vs):=by
 refine Att.attach_call hn hdf fun w s₀ s₁ mg mb fa o pm cd doc a vs ns G Y ho hd hcd hmg hobj hints hlen hg=>?_;have KX:=hY w _ Y;obtain ⟨fd,hb,hF⟩:=F w mg fa _ KX G.T.g hmg;exact Zmu KX G.T.g G.T.b G.T.builtins G.T.nolimit hg hobj hints (Xbh hlen hn2) hr hF hb (fun H hO hS=>hsp w H a ns hlen hO hS) fun H e s'=>hCX w H s₁ e s'
abbrev CX0:CXT:=fun _ _ _ _ _ _=>False
abbrev E0:XK:=fun _ _ _=>False
theorem pass0 {X:Cx}:ZjN CX0 X E0:=fun _ _ _ _ _ _ _ h=>h.elim
structure Fun (K:XFg) (x qual:Str) (st:Stmt) (f:Addr) (fd:FuncData):Prop where
 ex:∃ (oc:Value) (od:Option Addr) (kV doc pm:Value) (an:Option Addr) (cdv ct:Value) (osl:Array (Option Value)),
  fd=PySem.W.fnOf x qual (Zej st) (Zdr st) (Zaj st) .none kV doc pm an cdv ct∧K.lookup f=some ⟨oc,od,.func fd,osl⟩∧PySem.W.codeIn K cdv qual=true
 kp:PySem.W.keepIn K (.ref f)=true
section
variable {P:Program} {w:World} {K:XFg} {mg:Str→Option Value} {base:Heap}
theorem Fun.ok {x qual:Str}{st:Stmt}{f:Addr}{fd:FuncData}{N ps:List Str}{k:Nat}{sp:Sp} (F:Fun K x qual st f fd) (S:FnScope N ps (Zaj st)) (len:∀ vs H Q E,sp vs H Q E→vs.length=ps.length)
 (hbody:∀ (cdv:Value) (A:Around) (outer:List Env) (s:Shared) (H:Hp) (vs:List V) (Q:VK) (E:XK),Room k (A.deeper (envOfC qual (Zaj st) s.heap.objs.size f cdv))→sp vs H Q E →
  ∃ t,PSs (cxOf CX0 P w K mg base N qual (Zaj st) f cdv A outer s H E).nox (Zdr st) t∧t { nx:=fun _ H'=>Q .non H',rt:=Q } (start N vs) H):FnOk P w K mg base CX0 (k+1) f fd ps sp:=by
 obtain ⟨oc,od,kV,doc,pm,an,cdv,ct,osl,rfl,lk,hcd⟩:=F.ex;refine fn_of lk hcd S len fun A outer s H vs Q E hr hsp=>?_;obtain ⟨t,h,q⟩:=hbody cdv A outer s H vs Q E hr hsp;exact ⟨t,h.nox,q⟩
theorem Fun.binds {x qual:Str}{st:Stmt}{f:Addr}{fd:FuncData}{ps:List Str} (F:Fun K x qual st f fd)
 (h:∀ (kV doc pm:Value) (an:Option Addr) (cdv ct:Value) (us:List Value),us.length=ps.length→bindArgs (PySem.W.fnOf x qual (Zej st) (Zdr st) (Zaj st) .none kV doc pm an cdv ct) ⟨us,[]⟩=pure (ps.zip us)):Binds K fd ps []:=by
 obtain ⟨oc,od,kV,doc,pm,an,cdv,ct,osl,rfl,lk,hcd⟩:=F.ex;exact .all (h kV doc pm an cdv ct)
theorem fun_mk {x qual:Str}{st:Stmt}{f:Addr}{oc:Value}{od an:Option Addr}{osl:Array (Option Value)} {kV doc pm cdv ct:Value} (l:K.lookup f=some ⟨oc,od,.func (PySem.W.fnOf x qual (Zej st) (Zdr st) (Zaj st) .none kV doc pm an cdv ct),osl⟩)
 (c:PySem.W.codeIn K cdv qual=true) (k:PySem.W.keepIn K (.ref f)=true):Fun K x qual st f (PySem.W.fnOf x qual (Zej st) (Zdr st) (Zaj st) .none kV doc pm an cdv ct):=⟨⟨oc,od,kV,doc,pm,an,cdv,ct,osl,rfl,l,c⟩,k⟩
end
theorem Zjf {A:Around}{k:Nat} (hr:Room k A):A.units+1<cLine:=Nat.lt_of_le_of_lt (Nat.add_le_add_left (by decide:1≤64) _) hr.units
theorem Zal {n:Nat} (h:n≤1000):n<sizeLine:=Nat.lt_of_le_of_lt h (by decide)
section
variable {X:Cx}
theorem pv (i:Nat) {x:Str} {pos:Pos} (hN:X.N[i]?=some x:=by rfl) (hv:Vis X.env.scope x:=by first | exact Or.inl rfl | exact Or.inr (Or.inl rfl) | exact Or.inr (Or.inr rfl)) (hd:(x == ("__debug__" : Str))=false:=by decide)
 (hcd:(x == ("__classdict__" : Str))=false:=by decide):PE X (.Name x pos) (tVar i):=pe_var hN hv hd hcd
end
theorem iteF {A B:Prop} (h:B):if false=true then A else B:=by
 rw [Xbe Xbc];exact h
theorem iteT {A B:Prop} (h:A):if true=true then A else B:=by
 rw [Xbf rfl];exact h
theorem ite2 {c A B:Prop} [Decidable c] (h1:c→A) (h2:¬c→B):if c then A else B:=by
 by_cases h:c
 · rw [Xbf h]
   exact h1 h
 · rw [Xbe h]
   exact h2 h
def Same (H H':Hp):Prop:=∀ b o,H b=some o→H' b=some o
theorem Same.refl (H:Hp):Same H H:=fun _ _ h=>h
theorem Same.trans {H H1 H2:Hp} (a:Same H H1) (b:Same H1 H2):Same H H2:=fun c o h=>b c o (a c o h)
theorem Same.free {H H':Hp} (e:Same H H') {l:Addr} (h:H' l=Option.none):H l=Option.none:=by
 cases q:H l with
 | none=>rfl
 | some o =>
   rw [e l o q] at h;cases h
theorem Same.seq {K:XFg}{H H':Hp}{a:Addr}{xs:List V} (e:Same H H') (h:SqL K H a xs):SqL K H' a xs:=by
 rcases h with (h | ⟨o,h⟩) | h
 · exact .inl (.inl (e _ _ h))
 · exact .inl (.inr ⟨o,e _ _ h⟩)
 · exact .inr h
section
variable {κ:Type} [DecidableEq κ]
end
inductive Ty where
 | int | bool | str | non | lst | tup | dct
 deriving DecidableEq
def Ty.name:Ty→String
 | .int => "int" | .bool => "bool" | .str => "str" | .non => "NoneType" | .lst => "list" | .tup => "tuple" | .dct => "dict"
inductive TyN (K:XFg) (H:Hp):V→Ty→Prop where
 | int (i:Int):TyN K H (.int i) .int
 | bl (b:Bool):TyN K H (.bl b) .bool
 | str (x:Str):TyN K H (.str x) .str
 | non:TyN K H .non .non
 | lst {a:Addr} {xs:List V} (h:SqL K H a xs):TyN K H (.ref a) .lst
 | tup {a:Addr} {xs:List V} (h:SqT K H a xs):TyN K H (.ref a) .tup
 | dk {a:Addr} {kvs:List (Key×V)} (h:H a=some (.dK kvs)):TyN K H (.ref a) .dct
def isiB:Ty→Ty→Bool
 | .int,.int=>true | .bool,.bool=>true | .bool,.int=>true | .str,.str=>true | .non,.non=>true | .lst,.lst=>true | .tup,.tup=>true | .dct,.dct=>true | _,_=>false
def rIsi (K:XFg):List V→Hp→VK→Prop:=fun vs H Q=>∃ x T T',vs=[x,.ty (Ty.name T)]∧TyN K H x T'∧Q (.bl (isiB T' T)) H
theorem Zdc {X:Cx}:CallR X (.builtin "isinstance") (rIsi X.K):=by
 intro pins s σ H vs us Q I r h;obtain ⟨x,T,T',rfl,ty,q⟩:=h;obtain ⟨u,u2,rfl,ru,ru2⟩:=Zhl r;have e2:u2=Value.type (Ty.name T):=ru2;subst e2
 cases ty with
 | int i =>
   obtain ⟨t,rfl⟩:=ru
   cases T with
   | int=>exact IsiPair.int_int ⟨.bl true,H,I,rfl,q⟩
   | bool=>exact IsiPair.int_bool ⟨.bl false,H,I.tok _,rfl,q⟩
   | str=>exact IsiPair.int_str ⟨.bl false,H,I.tok _,rfl,q⟩
   | non=>exact IsiPair.int_NoneType ⟨.bl false,H,I.tok _,rfl,q⟩
   | lst=>exact IsiPair.int_list ⟨.bl false,H,I.tok _,rfl,q⟩
   | tup=>exact IsiPair.int_tuple ⟨.bl false,H,I.tok _,rfl,q⟩
   | dct=>exact IsiPair.int_dict ⟨.bl false,H,I.tok _,rfl,q⟩
 | bl b =>
   obtain rfl:u=Value.bool b:=ru
   cases T with
   | int=>exact IsiPair.bool_int ⟨.bl true,H,I,rfl,q⟩
   | bool=>exact IsiPair.bool_bool ⟨.bl true,H,I,rfl,q⟩
   | str=>exact IsiPair.bool_str ⟨.bl false,H,I.tok _,rfl,q⟩
   | non=>exact IsiPair.bool_NoneType ⟨.bl false,H,I.tok _,rfl,q⟩
   | lst=>exact IsiPair.bool_list ⟨.bl false,H,I.tok _,rfl,q⟩
   | tup=>exact IsiPair.bool_tuple ⟨.bl false,H,I.tok _,rfl,q⟩
   | dct=>exact IsiPair.bool_dict ⟨.bl false,H,I.tok _,rfl,q⟩
 | str y =>
   obtain ⟨t,rfl⟩:=ru
   cases T with
   | int=>exact IsiPair.str_int ⟨.bl false,H,I.tok _,rfl,q⟩
   | bool=>exact IsiPair.str_bool ⟨.bl false,H,I.tok _,rfl,q⟩
   | str=>exact IsiPair.str_str ⟨.bl true,H,I,rfl,q⟩
   | non=>exact IsiPair.str_NoneType ⟨.bl false,H,I.tok _,rfl,q⟩
   | lst=>exact IsiPair.str_list ⟨.bl false,H,I.tok _,rfl,q⟩
   | tup=>exact IsiPair.str_tuple ⟨.bl false,H,I.tok _,rfl,q⟩
   | dct=>exact IsiPair.str_dict ⟨.bl false,H,I.tok _,rfl,q⟩
 | non =>
   obtain rfl:u=Value.none:=ru
   cases T with
   | int=>exact IsiPair.NoneType_int ⟨.bl false,H,I.tok _,rfl,q⟩
   | bool=>exact IsiPair.NoneType_bool ⟨.bl false,H,I.tok _,rfl,q⟩
   | str=>exact IsiPair.NoneType_str ⟨.bl false,H,I.tok _,rfl,q⟩
   | non=>exact IsiPair.NoneType_NoneType ⟨.bl true,H,I,rfl,q⟩
   | lst=>exact IsiPair.NoneType_list ⟨.bl false,H,I.tok _,rfl,q⟩
   | tup=>exact IsiPair.NoneType_tuple ⟨.bl false,H,I.tok _,rfl,q⟩
   | dct=>exact IsiPair.NoneType_dict ⟨.bl false,H,I.tok _,rfl,q⟩
 | lst hq =>
   obtain rfl:u=Value.ref _:=ru;obtain ⟨its,rv,⟨o,n,e,hc,hd,hs⟩,hz⟩:=I.list hq
   cases T with
   | int=>exact IsiPair.list_int e hc ⟨.bl false,H,I.tok _,rfl,q⟩
   | bool=>exact IsiPair.list_bool e hc ⟨.bl false,H,I.tok _,rfl,q⟩
   | str=>exact IsiPair.list_str e hc ⟨.bl false,H,I.tok _,rfl,q⟩
   | non=>exact IsiPair.list_NoneType e hc ⟨.bl false,H,I.tok _,rfl,q⟩
   | lst=>exact IsiPair.list_list e hc ⟨.bl true,H,I,rfl,q⟩
   | tup=>exact IsiPair.list_tuple e hc ⟨.bl false,H,I.tok _,rfl,q⟩
   | dct=>exact IsiPair.list_dict e hc ⟨.bl false,H,I.tok _,rfl,q⟩
 | tup hq =>
   obtain rfl:u=Value.ref _:=ru;obtain ⟨its,rv,⟨o,e,hc,n,hs⟩,hz⟩:=I.tuple hq
   cases T with
   | int=>exact IsiPair.tuple_int e hc ⟨.bl false,H,I.tok _,rfl,q⟩
   | bool=>exact IsiPair.tuple_bool e hc ⟨.bl false,H,I.tok _,rfl,q⟩
   | str=>exact IsiPair.tuple_str e hc ⟨.bl false,H,I.tok _,rfl,q⟩
   | non=>exact IsiPair.tuple_NoneType e hc ⟨.bl false,H,I.tok _,rfl,q⟩
   | lst=>exact IsiPair.tuple_list e hc ⟨.bl false,H,I.tok _,rfl,q⟩
   | tup=>exact IsiPair.tuple_tuple e hc ⟨.bl true,H,I,rfl,q⟩
   | dct=>exact IsiPair.tuple_dict e hc ⟨.bl false,H,I.tok _,rfl,q⟩
 | dk hq =>
   obtain rfl:u=Value.ref _:=ru;obtain ⟨hz,hm,vs,rel,o,es,ep,e,ex,hr⟩:=I.hok _ _ hq;have hc:=ex.1
   cases T with
   | int=>exact IsiPair.dict_int e hc ⟨.bl false,H,I.tok _,rfl,q⟩
   | bool=>exact IsiPair.dict_bool e hc ⟨.bl false,H,I.tok _,rfl,q⟩
   | str=>exact IsiPair.dict_str e hc ⟨.bl false,H,I.tok _,rfl,q⟩
   | non=>exact IsiPair.dict_NoneType e hc ⟨.bl false,H,I.tok _,rfl,q⟩
   | lst=>exact IsiPair.dict_list e hc ⟨.bl false,H,I.tok _,rfl,q⟩
   | tup=>exact IsiPair.dict_tuple e hc ⟨.bl false,H,I.tok _,rfl,q⟩
   | dct=>exact IsiPair.dict_dict e hc ⟨.bl true,H,I,rfl,q⟩
theorem Zmv {P:Program}{w:World}{A:Around}{bs:List Bool}{its:List Value} (r:Vals (bs.map V.bl) its):TruthOf P w A (fun i v=>its.toArray[i]?=some v) (fun i=>bs.getD i false):=by
 intro i v s Q E hv hq
 have hv':its[i]?=some v:=by simpa using hv
 have hl:=r.length;rw [Xaa] at hl;have hi:i<its.length:=(Xae.mp hv').1
 have hb:(bs.map V.bl)[i]?=some (V.bl (bs.getD i false)):=by
  rw [Xag,Xaq]
  have:bs[i]?=some bs[i]:=Xab (by omega)
  rw [this];rfl
 obtain ⟨u,hu,ru⟩:=r.get hb;rw [hv'] at hu;cases hu;have e:v=Value.bool (bs.getD i false):=ru;subst e;exact Xbo hq
theorem Zln {bs:List Bool}:(List.range bs.length).all (fun i=>bs.getD i false)=bs.all id:=by
 rw [Bool.eq_iff_iff,List.all_eq_true,List.all_eq_true]
 constructor
 · intro h b hb
   obtain ⟨i,hi,e⟩:=XaG.mp hb
   have:=h i (List.mem_range.mpr hi)
   rw [Xaq,Xab hi] at this;rw [←e];exact this
 · intro h i hi
   have hi':=List.mem_range.mp hi;rw [Xaq,Xab hi'];exact h _ (Xav hi')
def rAll (K:XFg):List V→Hp→VK→Prop:=fun vs H Q=>∃ (a:Addr) (bs:List Bool),vs=[.ref a]∧SqL K H a (bs.map V.bl)∧Q (.bl (bs.all id)) H
theorem Zlo {X:Cx} (hc:X.calm=true):CallR X (.builtin "all") (rAll X.K):=by
 intro pins s σ H vs us Q I r h;obtain ⟨a,bs,rfl,hq,q⟩:=h;obtain ⟨u,rfl,ru⟩:=Zdt r;obtain rfl:u=Value.ref a:=ru;obtain ⟨its,rv,p,hz⟩:=I.list hq;have hl:=rv.length;rw [Xaa] at hl
 have hlt:a<s.heap.objs.size:=by obtain ⟨_,e,_⟩:=p.isList;exact Xbq e
 refine call_all_walk (wpAny_pyIter_list p.isList ?_);refine ⟨s.heap.objs.size,[s.heap.objs.size,a],[s.heap.objs.size],its.toArray.size,(fun i v=>its.toArray[i]?=some v),(fun i h=>h.IsListIter s.heap.objs.size a i∧h.IsList a its.toArray),(fun i=>bs.getD i false),rfl,Walks.list (A:=X.A.in1) (I.ok.hd hc) s.heap.objs.size a (XaZ hlt) its.toArray,⟨⟨_,Xbr _ rfl,rfl,rfl⟩,p.isList.push _⟩,Zmv rv,fun h' tk hk=>?_⟩;refine ⟨.bl (bs.all id),H,I.kept fun b o e=>hk b o (fun z=>?_) (Xbp _ e),?_,q⟩
 · have z':b=s.heap.objs.size:=by simpa using z
   exact absurd (Xbq e) (by rw [z'];exact XaX _)
 · have e:its.toArray.size=bs.length:=by rw [Xak,hl]
   show Value.bool _=Value.bool _;rw [e,Zln]
def rS (g:Str→Str→Bool):R2:=fun x y H Q=>∃ a b,x=.str a∧y=.str b∧Q (.bl (g a b)) H
theorem op_leS {X:Cx}:OpR X (compareOp .LtE) (rS fun a b=>!decide (b.cps.toList<a.cps.toList)):=by
 intro pins s σ H x y v u Q I rx ry h;obtain ⟨a,b,rfl,rfl,q⟩:=h;obtain ⟨t,rfl⟩:=rx;obtain ⟨t',rfl⟩:=ry;exact P.le_str ⟨.bl _,H,I,rfl,q⟩
def Its (x:Str):It:=⟨fun i _=>i<x.cps.size,fun i H v H'=>H'=H∧∃ c,x.cps[i]?=some c∧v=.str ⟨#[c]⟩,fun i _=>i=x.cps.size⟩
theorem ZjT {P:Program}{w:World}{K:XFg}{tg:Expr}{x:Str}{t:Tok}{ty:String} (it:Addr) (hn:["enumerate", "zip", "dict_itemiterator", "dict_reverseitemiterator", "odict_iterator", "itertools.zip_longest", "itertools.pairwise"].contains ty=false)
 (W:∀ A:Around,A.handled=none→Walks P w A it [it] [it] x.cps.size (SignAt x) (fun i h=>h.IsStrIter it ty x t i))
 (hself:∀ (A:Around) (i:Nat) (s:Shared) (Q:Value→Shared→Prop) (E:Value→Shared→Prop),s.heap.IsStrIter it ty x t i→Q (.ref it) s→wpAny (model P w) A (pyIter (.ref it)) Q E s):Turn P w K tg (Its x) [it] it (fun i h=>h.IsStrIter it ty x t i) where
 mem:=by simp
 obj:=fun i h st b hb=>by
  have e:b=it:=by simpa using hb
  subst e;obtain ⟨o,e,c,d⟩:=st;exact ⟨o,e,fun v z=>by rw [d] at z;cases z⟩
 keep:=fun i h h' st k=>by
  obtain ⟨o,e,r⟩:=st;exact ⟨o,k it (by simp) o e,r⟩
 item:=by
  intro X hP hw hK hc i pins s σ H E I hf st hg;subst hP hw hK;obtain ⟨f0,f1,f2,f3,f4,f5⟩:=hf it (by simp);refine (W X.A (I.ok.hd hc)).item i s _ _ hg st fun v h' tk hv st' kk=>?_;obtain ⟨c,u,hc',rfl⟩:=hv;have I1:Inv X pins σ H { s with heap:=h',toks:=tk }:=I.turned (fun b o hb e=>kk b o (by simpa using hb) e) f0 f1 f3 f4 f5;obtain ⟨o,e,c1,d⟩:=id st';exact ⟨_,rfl,Zmj (s:={ s with heap:=h',toks:=tk }) e c1 d hn ⟨.str ⟨#[c]⟩,H,I1,⟨u,rfl⟩,⟨rfl,c,hc',rfl⟩,st',fun b hb=>(hf b hb).1⟩⟩
 done:=by
  intro X hP hw hK hc i pins s σ H E I hf st hg;subst hP hw hK;obtain ⟨f0,f1,f2,f3,f4,f5⟩:=hf it (by simp);have hg':i=x.cps.size:=hg;subst hg';exact (W X.A (I.ok.hd hc)).done s _ _ st fun h' tk kk=>⟨rfl,I.turned (fun b o hb e=>kk b o (by simpa using hb) e) f0 f1 f3 f4 f5⟩
 self:=hself
def iStr (te:TE):TI:=fun σ H R=>te σ H fun x H1=>∃ y,x=.str y∧R (Its y) H1
theorem pi_str {X:Cx}{tg e:Expr}{te:TE} (he:PE X e te):PI X tg e (iStr te):=by
 intro pins s σ H R I h;refine thn (he pins s σ H _ I h) fun v s1 ⟨x,H1,I1,r1,q1⟩=>?_;obtain ⟨y,rfl,q⟩:=q1;obtain ⟨t,rfl⟩:=r1
 have fin:∀ b∈[s1.heap.objs.size],FpOk X pins H1 b:=fun b hb=>by
  have e:b=s1.heap.objs.size:=by simpa using hb
  subst e;exact I1.fpOk (XaW _) (I1.hok.fresh (XaW _))
 cases ha:y.cps.all (· < 128)
 · refine wpAny_pyIter_wide ha ⟨s1.heap.objs.size,[s1.heap.objs.size],_,_,H1,rfl,I1.kept (t':=s1.toks) fun b o e=>Xbp _ e,ZjT (ty := "str_iterator") (t:=t) _ (by decide) (fun A hA=>Walks.strWide hA _ y t) (fun A i s Q E st hQ=>wpAny_pyIter_striter_wide st hQ),⟨_,Xbr _ rfl,rfl,rfl⟩,fin,q⟩
 · refine wpAny_pyIter_ascii ha ⟨s1.heap.objs.size,[s1.heap.objs.size],_,_,H1,rfl,I1.kept (t':=s1.toks) fun b o e=>Xbp _ e,ZjT (ty := "str_ascii_iterator") (t:=t) _ (by decide) (fun A hA=>Walks.strAscii hA _ y t) (fun A i s Q E st hQ=>wpAny_pyIter_striter_ascii st hQ),⟨_,Xbr _ rfl,rfl,rfl⟩,fin,q⟩
theorem Inv.track {X:Cx}{pins:List (Addr×Obj)} {σ:St} {H:Hp} {s:Shared} {T:Addr} {o:HO} (I:Inv X pins σ H s) (hn:FpOk X pins H T) (hT:∃ ob,s.heap.get? T=some ob) (new:ObjOk X.prog X.w (upd H T o) s.heap T o):Inv X pins σ (upd H T o) s:=by
 obtain ⟨f0,f1,f2,f3,f4,f5⟩:=hn;refine I.step (g':=s.gens) (t':=s.toks) (d':=s.drawn) (h':=s.heap) (ch:=[T]) (fun b hb=>?_) (fun b ob _ _ _ e _=>e) (fun b ob _ _ _ e _=>⟨ob.slots,e⟩) (fun b ob hb e n=>?_) (fun b ob _ e=>⟨ob,e⟩) (fun b xs e=>?_) (fun b ob u e=>?_) (fun b ps e=>?_) (fun m hm=>hm) (fun b u e=>?_) I.bare
 · have e:b=T:=by simpa using hb
   subst e;exact ⟨f3,f1,f4,f5⟩
 · rw [Zah (by simpa using hb)];exact n
 · rw [Zah (Zac e f0)];exact e
 · rw [Zah (Zac e f0)];exact e
 · exact ⟨#[],by rw [Zah (Zac e f0),e];simp⟩
 · by_cases hb:b=T
   · subst hb;rw [upd_same] at e;cases e;exact new
   · rw [Zah hb] at e
     exact (I.hok b u e).stay (fun c v _ q=>q) (fun c q=>by rw [Zah (Zac q f0)];exact q) fun c xs q=>by rw [Zah (Zac q f0)];exact q
def Itz (K:XFg) (l1 l2:Addr):It :=
 ⟨fun i H=>∃ xs ys x y,SqL K H l1 xs∧SqL K H l2 ys∧xs[i]?=some x∧ys[i]?=some y,
  fun i H v H'=>∃ T x y,H T=none∧v=.ref T∧H'=upd H T (.tup [x,y])∧(∀ xs,SqL K H l1 xs→xs[i]?=some x)∧∀ ys,SqL K H l2 ys→ys[i]?=some y,
  fun i H=>∃ xs ys,SqL K H l1 xs∧SqL K H l2 ys∧(xs.length≤i∨ys.length≤i)⟩
def ZipSt (z TI TO i1 i2 l1 l2:Addr) (i:Nat) (h:Heap):Prop:=IsZip h z TI TO .none∧IsPair h TI (.ref i1) (.ref i2)∧(∃ a b,IsPair h TO a b)∧h.IsListIter i1 l1 i∧h.IsListIter i2 l2 i
theorem Zmw {P:Program}{w:World}{K:XFg}{es:List Expr}{k:Nat}{pos:Pos}{z TI TO i1 i2 l1 l2:Addr} (D:ZipApart z TI TO i1 i2 l1 l2) :
 Turn P w K (.Tuple es k pos) (Itz K l1 l2) [z,TI,TO,i1,i2] z (ZipSt z TI TO i1 i2 l1 l2) where
 mem:=by simp
 obj:=fun i h st b hb=>by
  obtain ⟨hz,hTI,⟨a,c,hTO⟩,⟨o1,e1,c1,d1⟩,⟨o2,e2,c2,d2⟩⟩:=st;simp at hb
  rcases hb with rfl | rfl | rfl | rfl | rfl
  · exact ⟨_,hz,fun v q=>by cases q⟩
  · exact ⟨_,hTI,fun v q=>by cases q⟩
  · exact ⟨_,hTO,fun v q=>by cases q⟩
  · exact ⟨_,e1,fun v q=>by rw [d1] at q;cases q⟩
  · exact ⟨_,e2,fun v q=>by rw [d2] at q;cases q⟩
 keep:=fun i h h' st kk=>by
  obtain ⟨hz,hTI,⟨a,c,hTO⟩,h1,h2⟩:=st;exact ⟨kk z (by simp) _ hz,kk TI (by simp) _ hTI,⟨a,c,kk TO (by simp) _ hTO⟩,h1.at fun o e=>kk i1 (by simp) o e,h2.at fun o e=>kk i2 (by simp) o e⟩
 item := by
  intro X hP hw hK hc i pins s σ H E I hf st hg;subst hP hw hK;obtain ⟨xs,ys,x,y,hq1,hq2,hx,hy⟩:=hg;obtain ⟨hz,hTI,⟨a,c,hTO⟩,h1,h2⟩:=st;obtain ⟨its1,rv1,p1,hz1⟩:=I.list hq1;obtain ⟨its2,rv2,p2,hz2⟩:=I.list hq2;obtain ⟨u1,hu1,ru1⟩:=rv1.get hx;obtain ⟨u2,hu2,ru2⟩:=rv2.get hy;refine wpAny_pyNext_zip_item D hz hTI hTO h1 h2 p1.isList p2.isList (x:=u1) (y:=u2) (by simpa using hu1) (by simpa using hu2) fun h' a1 a2 a3 a4 a5 a6 hk=>?_;refine ⟨_,rfl,wpAny_letOwnedTupleGo_zip (s:={ s with heap:=h' }) a1 fun h'' hz'' hs''=>?_⟩;have fz:=hf z (by simp);have fTO:=hf TO (by simp);have f1:=hf i1 (by simp);have f2:=hf i2 (by simp);have trk:∀ b u,H b=some u→b≠z∧b≠TO∧b≠i1∧b≠i2:=fun b u e=>⟨Zac e fz.1,Zac e fTO.1,Zac e f1.1,Zac e f2.1⟩;have keep:∀ b o,b≠z→b≠TO→b≠i1→b≠i2→s.heap.get? b=some o→h''.get? b=some o:=fun b o n1 n2 n3 n4 e=>(hs''.2 b n1).trans (hk b o n1 n2 n3 n4 e)
  have nch:∀ {b:Addr},b ∉ [z,TO,i1,i2]→b≠z∧b≠TO∧b≠i1∧b≠i2:=fun {b} hb=>by simpa using hb
  have I1:Inv X pins σ H { s with heap:=h'' }:=by
   refine I.step (g':=s.gens) (t':=s.toks) (d':=s.drawn) (h':=h'') (ch:=[z,TO,i1,i2]) (fun b hb=>?_) (fun b ob _ _ hb e _=>keep b ob (nch hb).1 (nch hb).2.1 (nch hb).2.2.1 (nch hb).2.2.2 e) (fun b ob _ _ hb e _=>⟨ob.slots,keep b ob (nch hb).1 (nch hb).2.1 (nch hb).2.2.1 (nch hb).2.2.2 e⟩)
    (fun _ _ _ _ n=>n) (fun b ob hb e=>⟨ob,keep b ob (nch hb).1 (nch hb).2.1 (nch hb).2.2.1 (nch hb).2.2.2 e⟩) (fun _ _ e=>e) (fun _ _ _ e=>e) (fun b ps e=>⟨#[],by rw [e];simp⟩) (fun m hm=>?_) (fun b u e=>?_) I.bare
   · have:b=z∨b=TO∨b=i1∨b=i2:=by simpa using hb
     rcases this with rfl | rfl | rfl | rfl
     · exact ⟨fz.2.2.2.1,fz.2.1,fz.2.2.2.2.1,fz.2.2.2.2.2⟩
     · exact ⟨fTO.2.2.2.1,fTO.2.1,fTO.2.2.2.2.1,fTO.2.2.2.2.2⟩
     · exact ⟨f1.2.2.2.1,f1.2.1,f1.2.2.2.2.1,f1.2.2.2.2.2⟩
     · exact ⟨f2.2.2.2.1,f2.2.1,f2.2.2.2.2.1,f2.2.2.2.2.2⟩
   · obtain ⟨o,es,ep,ho,r⟩:=hm
     exact ⟨o,es,ep,keep _ o (Ne.symm fz.2.1) (Ne.symm fTO.2.1) (Ne.symm f1.2.1) (Ne.symm f2.2.1) ho,r⟩
   · refine (I.hok b u e).stay (fun c v hc q=>?_) (fun _ q=>q) fun _ _ q=>q
     have hc':∃ u',H c=some u':=by
      rcases hc with rfl | hc
      · exact ⟨_,e⟩
      · exact ⟨_,hc⟩
     obtain ⟨u',e'⟩:=hc';obtain ⟨n1,n2,n3,n4⟩:=trk c u' e';exact keep c v n1 n2 n3 n4 q
  have hTz:s.heap.objs.size≠z:=Nat.ne_of_gt (Xbq hz);have hT0:H s.heap.objs.size=none:=I.hok.fresh (XaW _)
  have hTget:h''.get? s.heap.objs.size=some { cls:=.type "tuple",data:=.seq #[u1,u2] }:=(hs''.2 _ hTz).trans a5
  have I2:Inv X pins σ (upd H s.heap.objs.size (.tup [x,y])) { s with heap:=h'' }:=by
   refine I1.track (I.fpOk (XaW _) hT0) ⟨_,hTget⟩ ?_;exact ⟨by show 2≤sizeLine;decide,[u1,u2],.cons ru1 (.cons ru2 .nil),⟨_,hTget,rfl,_,rfl⟩⟩
  refine ⟨.ref s.heap.objs.size,_,I2,rfl,⟨s.heap.objs.size,x,y,hT0,rfl,rfl,fun zs hzs=>by rw [I.list_inj hzs hq1];exact hx,fun zs hzs=>by rw [I.list_inj hzs hq2];exact hy⟩,?_,fun b hb=>?_⟩
  · refine ⟨hz'',hs''.extBut _ _ D.TIz (hk _ _ D.TIz D.TITO D.TIi1 D.TIi2 hTI),⟨u1,u2,hs''.extBut _ _ D.TOz a2⟩,a3.extBut hs''.extBut D.i1z,a4.extBut hs''.extBut D.i2z⟩
  · have hb':=(hf b hb).1
    rw [Zah (fun q=>?_)]
    · exact hb'
    · have hb2:b=z∨b=TI∨b=TO∨b=i1∨b=i2:=by simpa using hb
      obtain ⟨o1,e1,_⟩:=h1;obtain ⟨o2,e2,_⟩:=h2
      have lt:b<s.heap.objs.size:=by
       rcases hb2 with rfl | rfl | rfl | rfl | rfl
       · exact Xbq hz
       · exact Xbq hTI
       · exact Xbq hTO
       · exact Xbq e1
       · exact Xbq e2
      rw [q] at lt;exact absurd lt (XaX _)
 done:=by
  intro X hP hw hK hc i pins s σ H E I hf st hg;subst hP hw hK;obtain ⟨xs,ys,hq1,hq2,hend⟩:=hg;obtain ⟨hz,hTI,⟨a,c,hTO⟩,h1,h2⟩:=st;obtain ⟨its1,rv1,p1,hz1⟩:=I.list hq1;obtain ⟨its2,rv2,p2,hz2⟩:=I.list hq2;have l1':=rv1.length;have l2':=rv2.length;refine wpAny_pyNext_zip_end (I.ok.hd hc) D hz hTI hTO h1 h2 p1.isList p2.isList (by simp;omega) fun h' hk=>⟨rfl,?_⟩;have fz:=hf z (by simp);have fTO:=hf TO (by simp);have f1:=hf i1 (by simp);have f2:=hf i2 (by simp)
  have nch:∀ {b:Addr},b ∉ [z,TO,i1,i2]→b≠z∧b≠TO∧b≠i1∧b≠i2:=fun {b} hb=>by simpa using hb
  refine I.step (g':=s.gens) (t':=s.toks) (d':=s.drawn) (h':=h') (ch:=[z,TO,i1,i2]) (fun b hb=>?_) (fun b ob _ _ hb e _=>hk b ob (nch hb).1 (nch hb).2.1 (nch hb).2.2.1 (nch hb).2.2.2 e) (fun b ob _ _ hb e _=>⟨ob.slots,hk b ob (nch hb).1 (nch hb).2.1 (nch hb).2.2.1 (nch hb).2.2.2 e⟩)
   (fun _ _ _ _ n=>n) (fun b ob hb e=>⟨ob,hk b ob (nch hb).1 (nch hb).2.1 (nch hb).2.2.1 (nch hb).2.2.2 e⟩) (fun _ _ e=>e) (fun _ _ _ e=>e) (fun b ps e=>⟨#[],by rw [e];simp⟩) (fun m hm=>?_) (fun b u e=>?_) I.bare
  · have:b=z∨b=TO∨b=i1∨b=i2:=by simpa using hb
    rcases this with rfl | rfl | rfl | rfl
    · exact ⟨fz.2.2.2.1,fz.2.1,fz.2.2.2.2.1,fz.2.2.2.2.2⟩
    · exact ⟨fTO.2.2.2.1,fTO.2.1,fTO.2.2.2.2.1,fTO.2.2.2.2.2⟩
    · exact ⟨f1.2.2.2.1,f1.2.1,f1.2.2.2.2.1,f1.2.2.2.2.2⟩
    · exact ⟨f2.2.2.2.1,f2.2.1,f2.2.2.2.2.1,f2.2.2.2.2.2⟩
  · obtain ⟨o,es,ep,ho,r⟩:=hm
    exact ⟨o,es,ep,hk _ o (Ne.symm fz.2.1) (Ne.symm fTO.2.1) (Ne.symm f1.2.1) (Ne.symm f2.2.1) ho,r⟩
  · refine (I.hok b u e).stay (fun c v hc q=>?_) (fun _ q=>q) fun _ _ q=>q
    have hc':∃ u',H c=some u':=by
     rcases hc with rfl | hc
     · exact ⟨_,e⟩
     · exact ⟨_,hc⟩
    obtain ⟨u',e'⟩:=hc';exact hk c v (Zac e' fz.1) (Zac e' fTO.1) (Zac e' f1.1) (Zac e' f2.1) q
 self:=fun _ _ _ _ _ st h=>wpAny_pyIter_zip st.1 h
def iZip (K:XFg) (ta:TA):TI:=fun σ H R=>ta σ H fun vs H1=>∃ l1 l2,vs=[.ref l1,.ref l2]∧(∃ xs,SqL K H1 l1 xs)∧(∃ ys,SqL K H1 l2 ys)∧R (Itz K l1 l2) H1
theorem pi_zip {X:Cx}{es:List Expr}{k:Nat}{tpos:Pos}{a b:Expr}{ta:TA}{p pos:Pos} (hg:Gl X "zip") (hm:X.mg "zip" = none) (ha:PA X [a,b] ta) (hs:starEach [a,b] X.env=[(false,eval a X.env),(false,eval b X.env)]:=by rfl) (hs2:starEach [b] X.env=[(false,eval b X.env)]:=by rfl) :
 PI X (.Tuple es k tpos) (.Call (.Name "zip" p) [a,b] [] pos) (iZip X.K ta):=by
 intro pins s σ H R I h
 refine Call_ (ZfO I hg hm (u:=.type "zip") (by decide +kernel) (PyProof.Rows.callWith_type1 (thn (ha pos pins s σ H _ I h) fun us s1 ⟨vs,H1,I1,r1,q1⟩=>?_) (by rw [hs,hs2]) (by rw [hs2];rfl)))
 obtain ⟨l1,l2,rfl,⟨xs,hq1⟩,⟨ys,hq2⟩,q⟩:=q1;obtain ⟨u1,u2,rfl,ru1,ru2⟩:=Zhl r1;obtain rfl:u1=Value.ref l1:=ru1;obtain rfl:u2=Value.ref l2:=ru2;obtain ⟨its1,rv1,p1,hz1⟩:=I1.list hq1;obtain ⟨its2,rv2,p2,hz2⟩:=I1.list hq2
 have a1:l1<s1.heap.objs.size:=by obtain ⟨_,e,_⟩:=p1.isList;exact Xbq e
 have a2:l2<s1.heap.objs.size:=by obtain ⟨_,e,_⟩:=p2.isList;exact Xbq e
 refine call_zip_2 p1.isList p2.isList fun h' hz hTI hTO hi1 hi2 hsz hk=>?_;refine wpAny_pyIter_zip (s:={ s1 with heap:=h' }) hz ?_;refine ⟨_,[s1.heap.objs.size+4,s1.heap.objs.size+2,s1.heap.objs.size+3,s1.heap.objs.size,s1.heap.objs.size+1],_,_,H1,rfl,I1.kept (t':=s1.toks) hk,Zmw (zipApart_new a1 a2),⟨hz,hTI,⟨_,_,hTO⟩,hi1,hi2⟩,fun b hb=>?_,q⟩
 have hb':s1.heap.objs.size≤b:=by
  have hb2:b=s1.heap.objs.size+4∨b=s1.heap.objs.size+2∨b=s1.heap.objs.size+3∨b=s1.heap.objs.size∨b=s1.heap.objs.size+1:=by simpa using hb
  rcases hb2 with rfl | rfl | rfl | rfl | rfl
  · exact Nat.le_add_right _ _
  · exact Nat.le_add_right _ _
  · exact Nat.le_add_right _ _
  · exact XaW _
  · exact Nat.le_add_right _ _
 exact I1.fpOk hb' (I1.hok.fresh hb')
theorem Zlp {K:XFg}{l1 l2:Addr}{xs ys:List V}{g:TG}{tb:TS}{D:Ends}{σ:St}{H:Hp} (Pv:Nat→St→Hp→Prop) (h0:Pv 0 σ H) (hl:∀ i σ H,Pv i σ H→SqL K H l1 xs∧SqL K H l2 ys)
 (hs:∀ i x y T σ H,xs[i]?=some x→ys[i]?=some y→H T=none→Pv i σ H→g (.ref T) σ (upd H T (.tup [x,y])) fun σ2 H2=>tb { D with nx:=Pv (i+1),ct:=Pv (i+1),bk:=D.nx } σ2 H2) (hd:∀ σ H,Pv (min xs.length ys.length) σ H→D.nx σ H) :
 ∃ W:Nat→Nat→St→Hp→Prop,(∃ m,W 0 m σ H)∧∀ i m σ H,W i m σ H →
  ((Itz K l1 l2).stop i H∧D.nx σ H)∨((Itz K l1 l2).go i H∧∃ N:St→Hp→Prop,(∀ σ' H',N σ' H'→∃ m',m' < m∧W (i+1) m' σ' H')∧∀ x H',(Itz K l1 l2).yld i H x H'→g x σ H' fun σ2 H2=>tb { D with nx:=N,ct:=N,bk:=D.nx } σ2 H2):=by
 refine ⟨fun i m σ H=>m=min xs.length ys.length - i∧i≤min xs.length ys.length∧Pv i σ H,⟨_,rfl,Xa1 _,h0⟩,?_⟩;rintro i m σ H ⟨rfl,hi,p⟩;obtain ⟨q1,q2⟩:=hl i σ H p
 by_cases hlt:i<min xs.length ys.length
 · have hx:i<xs.length:=by omega
   have hy:i<ys.length:=by omega
   refine .inr ⟨⟨xs,ys,xs[i],ys[i],q1,q2,by simp [hx],by simp [hy]⟩,Pv (i+1),fun σ' H' p'=>⟨min xs.length ys.length - (i+1),by omega,rfl,hlt,p'⟩,fun v H' y=>?_⟩;obtain ⟨T,x,y',hT,rfl,rfl,e1,e2⟩:=y;exact hs i x y' T σ H (e1 xs q1) (e2 ys q2) hT p
 · have e:i=min xs.length ys.length:=by omega
   refine .inl ⟨⟨xs,ys,q1,q2,by omega⟩,?_⟩;rw [e] at p;exact hd σ H p
def Zb8 (env:Env):List (Str×NameKind)→List (Str×Addr)→List (Str×Addr)
 | [],acc=>acc
 | (n,k) :: r,acc=>if k == .free then Zb8 env r ((n,(env.cells.lookup n).getD 0) :: acc) else Zb8 env r acc
theorem ZeZ {env:Env} (f:Str×NameKind→List (Str×Addr)→Sem (ForInStep (List (Str×Addr))))
 (hf:∀ n k cs,f (n,k) cs=if (k == NameKind.free)=true then (cellOf env n >>= fun a=>pure (.yield ((n,a) :: cs))) else pure (.yield cs)) :
 ∀ (names:List (Str×NameKind)) (acc:List (Str×Addr)),(∀ x∈names,x.2=.free→∃ c,env.cells.lookup x.1=some c)→forIn names acc f=pure (Zb8 env names acc)
 | [],acc,_=>by rw [List.forIn_nil];rfl
 | (n,k) :: r,acc,h=>by
   rw [List.forIn_cons,hf];unfold Zb8
   by_cases hk:(k == NameKind.free)=true
   · rw [Xbf hk,Xbf hk]
     obtain ⟨c,hc⟩:=h (n,k) Xal (beq_iff_eq.mp hk)
     have e:cellOf env n=pure c:=by unfold cellOf;rw [hc]
     rw [e,hc];exact ZeZ f hf r _ fun x hx=>h x (Xap _ hx)
   · rw [Xbe hk,Xbe hk]
     exact ZeZ f hf r _ fun x hx=>h x (Xap _ hx)
theorem Zex {scope:Scope}{env:Env} (h:∀ x∈scope.names,x.2=.free→∃ c,env.cells.lookup x.1=some c):closureFor scope env=pure (Zb8 env scope.names []):=by
 simp only [closureFor]
 rw [ZeZ (env:=env) _ (fun n k cs=>by cases hk:k == NameKind.free <;> simp [hk]) scope.names [] h]
 rfl
theorem ZdT {env:Env}:∀ {names:List (Str×NameKind)} {acc:List (Str×Addr)} {x:Str} {c:Addr},(x,c)∈Zb8 env names acc→(x,c)∈acc∨((x,NameKind.free)∈names∧c=(env.cells.lookup x).getD 0)
 | [],_,_,_,h=>.inl h
 | (n, k) :: r, acc, x, c, h => by
   unfold Zb8 at h
   by_cases hk:(k == NameKind.free)=true
   · rw [Xbf hk] at h
     rcases ZdT h with h | ⟨h,e⟩
     · rcases Xam.mp h with h | h
       · cases h
         rw [beq_iff_eq.mp hk];exact .inr ⟨Xal,rfl⟩
       · exact .inl h
     · exact .inr ⟨Xap _ h,e⟩
   · rw [Xbe hk] at h
     rcases ZdT h with h | ⟨h,e⟩
     · exact .inl h
     · exact .inr ⟨Xap _ h,e⟩
theorem Ze0 {env:Env}:∀ {names:List (Str×NameKind)} {acc:List (Str×Addr)} {p:Str×Addr},p∈acc→p∈Zb8 env names acc
 | [],_,_,h=>h
 | (n,k) :: r,acc,p,h=>by
   unfold Zb8
   by_cases hk:(k == NameKind.free)=true
   · rw [Xbf hk];exact Ze0 (Xap _ h)
   · rw [Xbe hk];exact Ze0 h
theorem Zc4 {env:Env}:∀ {names:List (Str×NameKind)} {acc:List (Str×Addr)} {x:Str},(x,NameKind.free)∈names→∃ c,(x,c)∈Zb8 env names acc
 | (n,k) :: r,acc,x,h=>by
   unfold Zb8
   rcases Xam.mp h with h | h
   · cases h
     rw [Xbf (show (NameKind.free == NameKind.free)=true by rfl)];exact ⟨_,Ze0 Xal⟩
   · by_cases hk:(k == NameKind.free)=true
     · rw [Xbf hk];exact Zc4 h
     · rw [Xbe hk];exact Zc4 h
theorem ZbO {α:Type}:∀ {l:List (Str×α)} {x:Str} {c:α},(x,c)∈l→∃ c',l.lookup x=some c'
 | (n, d) :: r, x, c, h => by
   rw [XaI]
   cases hb:x == n with
   | true=>exact ⟨d,rfl⟩
   | false =>
     rcases Xam.mp h with h | h
     · cases h
       simp at hb
     · exact ZbO h
theorem ZaZ:∀ (names:List (Str×NameKind)) (n:Nat) (acc:List (Str×Addr)),cellsFrom n names acc=cellsFrom n names []++acc
 | [],_,_=>rfl
 | (x,k) :: r,n,acc=>by
   unfold cellsFrom
   by_cases hk:(k == NameKind.cell)=true
   · rw [Xbf hk,Xbf hk,ZaZ r (n+1) ((x,n) :: acc),ZaZ r (n+1) [(x,n)],XaE]
     rfl
   · rw [Xbe hk,Xbe hk];exact ZaZ r n acc
theorem ZbX:∀ {names:List (Str×NameKind)} {n:Nat} {acc:List (Str×Addr)} {x:Str} {c:Addr},(x,c)∈cellsFrom n names acc→(x,c)∈acc∨(x,NameKind.cell)∈names
 | [],_,_,_,_,h=>.inl h
 | (y, k) :: r, n, acc, x, c, h => by
   unfold cellsFrom at h
   by_cases hk:(k == NameKind.cell)=true
   · rw [Xbf hk] at h
     rcases ZbX h with h | h
     · rcases Xam.mp h with h | h
       · cases h
         rw [beq_iff_eq.mp hk];exact .inr Xal
       · exact .inl h
     · exact .inr (Xap _ h)
   · rw [Xbe hk] at h
     rcases ZbX h with h | h
     · exact .inl h
     · exact .inr (Xap _ h)
section
variable {M:Model} {A:Around} {E:Value→Shared→Prop} {s:Shared}
theorem Zmx {scope:Scope}{env:Env}{cl:List (Str×Addr)} {Q:Env→Shared→Prop}
 (hQ:Q (newEnv scope s.heap.objs.size env.globals (cellsFrom (s.heap.objs.size+1) scope.names cl) env.qual none .none (some env) builtinsNs) { s with heap:=pushCells (s.heap.push { cls:=.type "dict",data:=.dict #[] }) scope.names }) :
 wpAny M A (newFunctionEnv scope env.globals cl [] env.qual none .none (some env)) Q E s:=by
 simp only [newFunctionEnv,Option.isSome_some,if_true];refine Xbl (wpAny_alloc ?_)
 refine Xbl (wpAny_layCells _ (fun name kind cells=>by cases hkc:kind == NameKind.cell <;> simp [hkc]) _ _ _ _ ?_)
 rw [show ({ s with heap:=s.heap.push { cls:=.type "dict",data:=.dict #[] } }:Shared).heap.objs.size=s.heap.objs.size+1 from Heap.size_push ..]
 exact Xbl (Xbm (Xbm hQ))
end
abbrev ZbE (X:Cx) (N:List Str) (scope:Scope) (cs:List (Str×Addr)) (C:Addr) (s:Shared) (H:Hp) (ex:List Addr):Cx where
 prog:=X.prog
 w:=X.w
 K:=X.K
 mg:=X.mg
 base:=X.base
 A:=X.A
 N:=N
 s₀:=s
 H₀:=H
 env:=compEnvC scope cs C X.env
 outer:=X.stack
 stack:=X.stack
 ex:=ex
 fn:=fun x=>decide (scope.names.lookup x≠some .free)
 calm:=X.calm
 pn:=[]
 xe:=fun _ _=>False
structure CompScope (psc:Scope) (PN:List Str) (scope:Scope) (N:List Str) (k:Nat) (caps:List Nat):Prop where
 kind:scope.kind=.function
 loc:∀ x∈scope.names,x.2=.local→scope.names.lookup x.1=some .local
 ndn:(scope.names.map (·.1)).Nodup
 nd:N.Nodup
 len:N.length=k+caps.length
 free:∀ x∈scope.names,x.2=.free→psc.names.lookup x.1=some .cell∨psc.names.lookup x.1=some .free
 cap:∀ p∈(N.drop k).zip caps,PN[p.2]?=some p.1∧scope.names.lookup p.1=some .free
def ZbJ (k:Nat) (caps:List Nat) (σ:St):St:=List.replicate k none++caps.map fun j=>(σ[j]?).getD none
theorem Zil {k:Nat}{caps:List Nat}{σ:St}{i:Nat}{v:V} (h:(ZbJ k caps σ)[i]?=some (some v)):∃ j,k≤i∧caps[i - k]?=some j∧σ[j]?=some (some v):=by
 unfold ZbJ at h
 by_cases hi:i<k
 · rw [Xat (by simpa using hi),List.getElem?_replicate,Xbf hi] at h
   cases h
 · rw [Xay (by simpa using hi),List.length_replicate,Xag] at h
   cases e:caps[i - k]? with
   | none=>rw [e] at h;cases h
   | some j =>
     rw [e] at h;have h':(σ[j]?).getD none=some v:=Xbd h;refine ⟨j,by omega,rfl,?_⟩
     cases q:σ[j]? with
     | none=>rw [q] at h';cases h'
     | some o=>rw [q] at h';exact Xbk some h'
theorem Zfj {scope:Scope}{env:Env}{x:Str}{k':NameKind} (h:(relabel scope env).names.lookup x=some k'):∃ k,(x,k)∈scope.names∧(k'=k∨(k=.free∧k'=.cell)):=by
 have hm:=Xbu h;have hm':(x,k')∈scope.names.map (fun (n,k)=>if (k == NameKind.free && env.scope.kind == .function && env.kindOf n == some .cell) then (n,NameKind.cell) else (n,k)):=hm;obtain ⟨⟨n,k⟩,h1,h2⟩:=Xai.mp hm';dsimp only at h2
 by_cases hc:(k == NameKind.free && env.scope.kind == .function && env.kindOf n == some .cell)=true
 · rw [Xbf hc] at h2
   cases h2;simp only [Bool.and_eq_true,beq_iff_eq] at hc;exact ⟨k,h1,.inr ⟨hc.1.1,rfl⟩⟩
 · rw [Xbe hc] at h2
   cases h2;exact ⟨k',h1,.inl rfl⟩
theorem ZjU {f:Str×NameKind→Str×NameKind} (hf:∀ n k,f (n,k)=(n,k)∨(k=.free∧f (n,k)=(n,NameKind.cell))):∀ {names:List (Str×NameKind)} {x:Str},names.lookup x=some .free→(names.map f).lookup x=some .cell∨(names.map f).lookup x=some .free
 | [],_,h=>by simp at h
 | (n,k) :: r,x,h=>by
   have ih:=@ZjU f hf r x;rw [XaI] at h;rw [Xao]
   cases hx:x == n with
   | true =>
     rw [hx] at h;cases h
     rcases hf n .free with e | ⟨_,e⟩
     · right;rw [e,XaI,hx]
     · left;rw [e,XaI,hx]
   | false =>
     rw [hx] at h;have h':=ih h
     rcases hf n k with e | ⟨_,e⟩
     · rw [e,XaI,hx];exact h'
     · rw [e,XaI,hx];exact h'
theorem Zfk {scope:Scope}{env:Env}{x:Str} (h:scope.names.lookup x=some .free):(relabel scope env).names.lookup x=some .cell∨(relabel scope env).names.lookup x=some .free:=by
 refine ZjU (fun n k=>?_) h
 by_cases hc:(k == NameKind.free && env.scope.kind == .function && env.kindOf n == some .cell)=true
 · right
   refine ⟨?_,Xbf hc⟩;simp only [Bool.and_eq_true,beq_iff_eq] at hc;exact hc.1.1
 · left;exact Xbe hc
theorem Zey {names:List (Str×NameKind)} (h:(names.map (·.1)).Nodup) {x:Str} {k k':NameKind} (h1:(x,k)∈names) (h2:(x,k')∈names):k=k':=by
 induction names with
 | nil=>simp at h1
 | cons p r ih =>
   rw [Xao] at h;obtain ⟨ha,hb⟩:=XaC.mp h
   rcases Xam.mp h1 with e1 | h1 <;> rcases Xam.mp h2 with e2 | h2
   · rw [←e1] at e2;exact (Prod.mk.inj e2).2.symm
   · exact absurd (Xai.mpr ⟨_,h2,by rw [←e1]⟩) ha
   · exact absurd (Xai.mpr ⟨_,h1,by rw [←e2]⟩) ha
   · exact ih hb h1 h2
theorem Un.but {fs ex:List Addr}{H H':Hp}{h h1 h2:Heap}{C:Addr} (u:Un fs ex H H' h h1) (hs:Heap.SameBut C h1 h2) (hC:h.objs.size≤C):Un fs ex H H' h h2:=by
 have ne:∀ b o,h.get? b=some o→b≠C:=fun b o e=>XaZ (Xbg (Xbq e) hC);refine ⟨fun b o e n hb hx=>(hs.2 b (ne b o e)).trans (u.keep b o e n hb hx),fun b o e n hb hx=>?_,u.free,fun b o e hx=>?_,u.tups,u.frzs,u.tbls⟩
 · obtain ⟨sl,q⟩:=u.slot b o e n hb hx
   exact ⟨sl,(hs.2 b (ne b o e)).trans q⟩
 · obtain ⟨o',q⟩:=u.there b o e hx
   exact ⟨o',(hs.2 b (ne b o e)).trans q⟩
theorem HOk.but {P:Program}{w:World}{H:Hp}{h1 h2:Heap}{C:Addr} (x:HOk P w H h1) (hs:Heap.SameBut C h1 h2) (hn:H C=none):HOk P w H h2:=fun b u e=>by
 refine (x b u e).stay (fun c v hc q=>(hs.2 c ?_).trans q) (fun _ q=>q) fun _ _ q=>q;rintro rfl
 rcases hc with rfl | hc
 · rw [hn] at e;cases e
 · rw [hn] at hc;cases hc
section
variable {X:Cx} {scope:Scope} {N:List Str} {k:Nat} {caps:List Nat} {psc:Scope} {PN:List Str} {pins:List (Addr×Obj)} {σ:St} {H:Hp} {s:Shared}
abbrev Za7 (X:Cx) (scope:Scope) (C:Addr):List (Str×Addr):=cellsFrom (C+1) scope.names (Zb8 X.env scope.names [])
theorem Zfl {C:Addr} (I:Inv X pins σ H s) (S:CompScope X.env.scope X.N scope N k caps) {x:Str} {c:Addr} (h:(x,c)∈Za7 X scope C) :
 (x,c)∈cellsFrom (C+1) scope.names []∨X.env.cells.lookup x=some c:=by
 unfold Za7 at h;rw [ZaZ] at h
 rcases Xaf.mp h with h | h
 · exact .inl h
 · rcases ZdT h with h | ⟨h,e⟩
   · simp at h
   · obtain ⟨c',hc⟩:=I.ok.has x (S.free _ h rfl)
     rw [hc] at e;exact .inr (by rw [hc];exact Xbk some e.symm)
theorem Zkx {fp:List Addr} (I:Inv X pins σ H s) (S:CompScope X.env.scope X.N scope N k caps) (hf:∀ b∈fp,FpOk X pins H b) (hfo:∀ b∈fp,∃ o,s.heap.get? b=some o) {D C:Nat} {h1:Heap} {t':Nat} (hD:D=s.heap.objs.size) (hC:C=D+1)
 (hh:h1=pushCells ((s.heap.push { cls:=.type "list",data:=.seq #[] }).push { cls:=.type "dict",data:=.dict #[] }) scope.names) :
 Inv (ZbE X N scope (Za7 X scope C) C s H fp) [] (ZbJ k caps σ) (upd H D (.lst [])) { s with heap:=h1,toks:=t' }:=by
 have hsz1:(s.heap.push { cls:=.type "list",data:=.seq #[] }).objs.size=C:=by rw [Heap.size_push,hC,hD]
 have hsz2:((s.heap.push { cls:=.type "list",data:=.seq #[] }).push { cls:=.type "dict",data:=.dict #[] }).objs.size=C+1:=by rw [Heap.size_push,hsz1]
 have old:∀ b o,s.heap.get? b=some o→h1.get? b=some o:=fun b o e=>by
  rw [hh];exact pushCells_keeps _ _ b o (Xbp _ (Xbp _ e))
 have hacc:h1.get? D=some { cls:=.type "list",data:=.seq #[] }:=by
  rw [hh,hD];exact pushCells_keeps _ _ _ _ (Xbp _ (Xbr _ rfl))
 have hns:h1.Ns C (fun _=>none):=by
  rw [hh,←hsz1]
  exact (Heap.Ns.new _ (.type "dict")).keeps (pushCells_keeps _ _)
 have ok:=cellsFrom_ok scope.names ((s.heap.push { cls:=.type "list",data:=.seq #[] }).push { cls:=.type "dict",data:=.dict #[] }) (C+1) [] ⟨fun _ _ hm=>(nomatch hm),List.Pairwise.nil⟩ (by rw [hsz2];exact XaW _)
 rw [hsz2] at ok
 have own:∀ x c,(x,c)∈cellsFrom (C+1) scope.names []→h1.IsCell c none∧C+1≤c:=fun x c h=>by rw [hh];exact ok.empty x c h
 have par:∀ x c,X.env.cells.lookup x=some c→c<D:=fun x c e=>by
  obtain ⟨v,q⟩:=I.cell x c e;rw [hD];exact q.lt
 have fpD:∀ b∈fp,b<D:=fun b hb=>by
  obtain ⟨o,e⟩:=hfo b hb;rw [hD];exact Xbq e
 have hCfree:H C=none:=I.hok.fresh (by rw [hC,hD];exact Nat.le_succ _);have split:=fun x c (h:(Za7 X scope C).lookup x=some c)=>Zfl (C:=C) I S (Xbu h)
 have updn:∀ b,b≠D→H b=none→(upd H D (.lst [])) b=none:=fun b hb e=>by rw [Zah hb];exact e
 have capt:∀ x,scope.names.lookup x=some .free→∃ c,X.env.cells.lookup x=some c∧(Za7 X scope C).lookup x=some c:=fun x hx=>by
  have hm:=Xbu hx;obtain ⟨c0,h0⟩:=Zc4 (env:=X.env) (acc:=[]) hm;obtain ⟨c,hc⟩:=ZbO (l:=Za7 X scope C) (x:=x) (c:=c0) (by unfold Za7;rw [ZaZ];exact Xan _ h0);refine ⟨c,?_,hc⟩
  rcases split x c hc with q | q
  · rcases ZbX q with z | z
    · simp at z
    · have:=Zey S.ndn hm z;cases this
  · exact q
 have okX : (ZbE X N scope (Za7 X scope C) C s H fp).Ok := by
  refine ⟨I.ok.mod,S.kind,I.ok.glob,I.ok.blt,?above,?inj,?has,?cab,I.ok.hd,I.ok.frames,.inl rfl,?exf,fun b o e=>I.bs b o e,Xbh I.ok.bsz I.sz,?noex,?exfs,I.stack,I.stkFree⟩
  case above =>
   show s.heap.objs.size≤C;rw [hC,hD];exact Nat.le_succ _
  case inj =>
   intro x y c e1 e2
   rcases split x c e1 with q1 | q1 <;> rcases split y c e2 with q2 | q2
   · exact name_of_addr ok.apart q1 q2
   · have h1:@LE.le Nat _ (C+1) c:=(own x c q1).2
     have h2:@LT.lt Nat _ c D:=par y c q2;exfalso;omega
   · have h1:@LE.le Nat _ (C+1) c:=(own y c q2).2
     have h2:@LT.lt Nat _ c D:=par x c q1;exfalso;omega
   · exact I.ok.inj x y c q1 q2
  case has =>
   intro x hx;have hx':(relabel scope X.env).names.lookup x=some .cell∨(relabel scope X.env).names.lookup x=some .free:=hx
   have hk:∃ k',(x,k')∈scope.names∧(k'=.cell∨k'=.free):=by
    rcases hx' with q | q
    · obtain ⟨k',h1,h2⟩:=Zfj q
      rcases h2 with h2 | ⟨h2,_⟩
      · exact ⟨k',h1,.inl h2.symm⟩
      · exact ⟨k',h1,.inr h2⟩
    · obtain ⟨k',h1,h2⟩:=Zfj q
      rcases h2 with h2 | ⟨_,h2⟩
      · exact ⟨k',h1,.inr h2.symm⟩
      · cases h2
   obtain ⟨k',hm,hk | hk⟩:=hk
   · subst hk
     have q:=PySem.W.cellsFrom_some scope.names (C+1) (Zb8 X.env scope.names []) (x:=x) (.inl (by
      obtain ⟨k2,hk2⟩:=ZbO hm
      rw [hk2,Zey S.ndn (Xbu hk2) hm]))
     exact Option.isSome_iff_exists.mp q
   · subst hk
     obtain ⟨c0,h0⟩:=Zc4 (env:=X.env) (acc:=[]) hm;exact ZbO (c:=c0) (by show (x,c0)∈Za7 X scope C;unfold Za7;rw [ZaZ];exact Xan _ h0)
  case cab =>
   intro x c hx e;have hx':decide (scope.names.lookup x≠some .free)=true:=hx;have hx2:=Xa8 hx';show s.heap.objs.size≤c;have e':(Za7 X scope C).lookup x=some c:=e;have hm:=Xbu e';unfold Za7 at hm;rw [ZaZ] at hm
   rcases Xaf.mp hm with z | z
   · have h1:@LE.le Nat _ (C+1) c:=(own x c z).2
     have h2:@LE.le Nat _ s.heap.objs.size c:=by omega
     exact h2
   · rcases ZdT z with z | ⟨z,_⟩
     · simp at z
     · obtain ⟨k2,hk2⟩:=ZbO z
       exact absurd (by rw [hk2,Zey S.ndn (Xbu hk2) z]) hx2
  case exf =>
   intro b hb;refine ⟨?_,fun x c e z=>?_⟩
   · have h1:@LT.lt Nat _ b D:=fpD b hb
     exact XaZ (show @LT.lt Nat _ b C by omega)
   · rcases split x c e with q | q
     · have h1:@LE.le Nat _ (C+1) c:=(own x c q).2
       have h2:@LT.lt Nat _ b D:=fpD b hb;have z':@Eq Nat c b:=z;omega
     · exact (hf b hb).2.2.2.2.1 x c q z
  case noex =>
   intro b o e hb
   rcases (hf b hb).2.2.2.1 with q | q
   · exact I.ok.noex b o e q
   · exact absurd (Xbg (Xbq e) (Xbh I.ok.bsz q)) (XaX _)
  case exfs =>
   intro b hb z;have z':b∈frs X.stack:=z
   rcases Xam.mp (I.stkSub b z') with q | q
   · exact (hf b hb).2.1 q
   · exact (hf b hb).2.2.1 q
 refine ⟨okX,rfl,I.bare,Un.laid old (by rw [hD];exact XaW _) (I.hok.fresh (by rw [hD];exact XaW _)),⟨_,hns,?loc⟩,?cell,updn _ (show @Ne Nat C D by omega) hCfree,?freeC,fun p hp=>absurd hp (by simp),?hok,?len⟩
 case loc =>
  intro i x v e1 e2 e3;obtain ⟨j,hi,hj,hv⟩:=Zil e2
  have hz:(x,j)∈(N.drop k).zip caps:=by
   refine List.mem_iff_getElem?.mpr ⟨i - k,?_⟩;rw [List.getElem?_zip_eq_some];refine ⟨?_,hj⟩;rw [List.getElem?_drop,show k+(i - k)=i by omega];exact e1
  obtain ⟨hp,hfr⟩:=S.cap (x,j) hz;have hk:=S.free (x,.free) (Xbu hfr) rfl;obtain ⟨m,hn,hl⟩:=I.loc;obtain ⟨u,r,l⟩:=hl j x v hp hv (by rcases hk with q | q;exact .inr (.inl q);exact .inr (.inr q));refine ⟨u,r,?_⟩;obtain ⟨c,hc1,hc2⟩:=capt x hfr
  have hcell:s.heap.IsCell c (some u):=by
   rcases l with ⟨q,_⟩ | ⟨_,c',q1,q2⟩
   · have q':X.env.scope.names.lookup x=some .local:=q
     rcases hk with z | z
     · rw [q'] at z;cases z
     · rw [q'] at z;cases z
   · rw [hc1] at q1;cases q1;exact q2
  exact .inr ⟨Zfk hfr,c,hc2,hcell.keeps old⟩
 case cell =>
  intro x c e
  rcases split x c e with q | q
  · exact ⟨_,(own x c q).1⟩
  · obtain ⟨v,z⟩:=I.cell x c q
    exact ⟨v,z.keeps old⟩
 case freeC =>
  intro x c e
  rcases split x c e with q | q
  · have h1:@LE.le Nat _ (C+1) c:=(own x c q).2
    have h2:@LE.le Nat _ s.heap.objs.size c:=by omega
    exact updn c (show @Ne Nat c D by omega) (I.hok.fresh h2)
  · exact updn c (XaZ (par x c q)) (I.freeC x c q)
 case hok =>
  exact I.hok.laid old (by rw [hD];exact XaW _) ⟨Xa1 _,[],0,.nil,hacc⟩
 case len =>
  show (ZbJ k caps σ).length=N.length;unfold ZbJ;rw [Xac,List.length_replicate,Xaa,S.len]
theorem Zky {fp:List Addr} (I:Inv X pins σ H s) (S:CompScope X.env.scope X.N scope N k caps) {C:Addr} {pins':List (Addr×Obj)} {σ':St} {H':Hp} {s':Shared} (hfc:∀ x c,X.env.cells.lookup x=some c→c ∉ fp) (hD:s.heap.objs.size≤C)
 (J:Inv (ZbE X N scope (Za7 X scope C) C s H fp) pins' σ' H' s'):Inv (ZbE X N scope (Za7 X scope C) C s H fp) pins' (ZbJ k caps σ) H' s':=by
 obtain ⟨m,hn,_⟩:=id J.loc;refine ⟨J.ok,J.os,J.bare,J.base,⟨m,hn,fun i x v e1 e2 e3=>?_⟩,J.cell,J.free,J.freeC,J.pin,J.hok,?_⟩
 · obtain ⟨j,hi,hj,hv⟩:=Zil e2
   have hz:(x,j)∈(N.drop k).zip caps:=by
    refine List.mem_iff_getElem?.mpr ⟨i - k,?_⟩;rw [List.getElem?_zip_eq_some];refine ⟨?_,hj⟩;rw [List.getElem?_drop,show k+(i - k)=i by omega];exact e1
   obtain ⟨hp,hfr⟩:=S.cap (x,j) hz;have hk:=S.free (x,.free) (Xbu hfr) rfl;obtain ⟨m2,hn2,hl⟩:=I.loc;obtain ⟨u,r,l⟩:=hl j x v hp hv (by rcases hk with q | q;exact .inr (.inl q);exact .inr (.inr q));refine ⟨u,r,?_⟩
   have hcell:∃ c,X.env.cells.lookup x=some c∧s.heap.IsCell c (some u):=by
    rcases l with ⟨q,_⟩ | ⟨_,c',q1,q2⟩
    · have q':X.env.scope.names.lookup x=some .local:=q
      rcases hk with z | z
      · rw [q'] at z;cases z
      · rw [q'] at z;cases z
    · exact ⟨c',q1,q2⟩
   obtain ⟨c,hc1,o,ho,hd⟩:=hcell
   have hc2:(Za7 X scope C).lookup x=some c:=by
    have hm:=Xbu hfr;obtain ⟨c0,h0⟩:=Zc4 (env:=X.env) (acc:=[]) hm;obtain ⟨c',hc'⟩:=ZbO (l:=Za7 X scope C) (x:=x) (c:=c0) (by unfold Za7;rw [ZaZ];exact Xan _ h0)
    rcases Zfl (C:=C) I S (Xbu hc') with q | q
    · rcases ZbX q with z | z
      · simp at z
      · have:=Zey S.ndn hm z;cases this
    · rw [hc1] at q;cases q;exact hc'
   obtain ⟨sl,q⟩:=J.base.any ho (I.freeC x c hc1) (hfc x c hc1);exact .inr ⟨Zfk hfr,c,hc2,_,q,hd⟩
 · show (ZbJ k caps σ).length=N.length
   unfold ZbJ;rw [Xac,List.length_replicate,Xaa,S.len]
end
def PF (X:Cx) (ifs:List Expr) (t:TT):Prop :=
 ∀ (pins:List (Addr×Obj)) (s:Shared) (σ:St) (H:Hp) (Q:Bool→Hp→Prop),Inv X pins σ H s→t σ H Q →
  wpAny (model X.prog X.w) X.A (forIn ifs true fun c r=>if r=true then do let ok ←isTrue c X.env (eval c X.env);pure (ForInStep.yield ok) else pure (ForInStep.yield r)) (TP X pins σ Q) X.xe s
def tYes:TT:=fun _ H Q=>Q true H
theorem ZcL {X:Cx}:PF X [] tYes:=fun _ _ _ H _ I h=>wpAny_tests_nil ⟨H,I,h⟩
theorem pf_one {X:Cx}{c:Expr}{t:TT} (h:PT X c t):PF X [c] t:=fun pins s σ H Q I hw=>wpAny_tests_one (h pins s σ H Q I hw)
theorem Zlq {prog:Program}{w:World}{A:Around}{R:Result→Shared→Prop}{s:Shared}{elt target iter:Expr}{ifs:List Expr}{scope:Scope}{pos:Pos}{it acc:Value}{env:Env} (I:Nat→Shared→Prop)
 (turn:∀ n s,I n s→wpAny (model prog w) A (pyNext it) (fun r s₁=>match r with
  | none=>R (.ok .next) s₁
  | some v=>wpAny (model prog w) A (letOwnedTupleGo target it v) (fun _ s₁=>wpAny (model prog w) A (assign target env v) (fun _ s₂ =>
   wpAny (model prog w) A (forIn ifs true fun c r=>if r=true then do let ok ←isTrue c env (eval c env);pure (ForInStep.yield ok) else pure (ForInStep.yield r)) (fun ok s₃ =>
    if ok=true then wpAny (model prog w) A (eval elt env) (fun x s₄ =>
     wpAny (model prog w) A (call (.builtin "list.append") [acc,x]) (fun _ s₅=>∃ m,m<n∧I m s₅) (fun _ _=>False) s₄) (fun _ _=>False) s₃
    else ∃ m,m<n∧I m s₃) (fun _ _=>False) s₂) (fun _ _=>False) s₁) (fun _ _=>False) s₁) (fun _ _=>False) s)
 (n:Nat) (h:I n s) :
 codeAny (model prog w) A (.compLoop (.ListComp elt [⟨target,iter,ifs,0⟩] scope pos) 0 it acc env) R s:=by
 refine codeAny_loop rfl I (fun n s hI=>?_) n h
 show wpAny _ A ((compTurn (.ListComp elt [⟨target,iter,ifs,0⟩] scope pos) 0 it acc env).onRaise (fun x=>do noteFrame x env;theTreesLotGoes x)) _ _ s
 refine wpAny_noted ?_;rw [compTurn_list];refine Xbl (wpAny_standAt (Xbl (Xbw (turn n s hI) (fun r s₁ h₁=>?_) fun _ _ h'=>h'.elim)))
 cases r with
 | none=>exact Xbm h₁
 | some v =>
   refine Xbl (Xbw h₁ (fun _ s₁ h₁=>?_) fun _ _ h'=>h'.elim);refine Xbl (Xbw h₁ (fun _ s₂ h₂=>Xbl (Xbw h₂ (fun ok s₃ h₃=>?_) fun _ _ h'=>h'.elim)) fun _ _ h'=>h'.elim)
   cases ok with
   | false=>exact Xbm ⟨rfl,h₃⟩
   | true =>
     exact Xbl (Xbl (Xbw h₃ (fun x s₄ h₄=>Xbl (Xbw h₄ (fun _ s₅ h₅=>Xbm (Xbm ⟨rfl,h₅⟩)) fun _ _ h'=>h'.elim)) fun _ _ h'=>h'.elim))
def tComp (k:Nat) (caps:List Nat) (wi:TI) (g:TG) (tc:TT) (te:TE):TE:=fun σ H Q=>wi σ H fun J H1=>∀ D,H1 D=none→∃ W:Nat→Nat→List V→Hp→Prop,(∃ m,W 0 m [] (upd H1 D (.lst [])))∧∀ i m ys H2,W i m ys H2 →
 (J.stop i H2∧Q (.ref D) H2)∨(J.go i H2∧∀ x H3,J.yld i H2 x H3→g x (ZbJ k caps σ) H3 fun σ4 H4=>tc σ4 H4 fun b H5 =>
  if b=true then te σ4 H5 fun y H6=>H6 D=some (.lst ys)∧ys.length<sizeLine∧∃ m',m' < m∧W (i+1) m' (ys++[y]) (upd H6 D (.lst (ys++[y]))) else ∃ m',m' < m∧W (i+1) m' ys H5)
theorem ZgY {X:Cx}{elt iter tg:Expr}{ifs:List Expr}{scope:Scope}{pos:Pos}{N:List Str}{k:Nat}{caps:List Nat}{g:TG}{tc:TT}{te:TE}{pins:List (Addr×Obj)} {σ:St} {H:Hp} {s:Shared} {E:Value→Shared→Prop} {Q:VK}
 {it:Addr} {fp:List Addr} {tn:Nat→Heap→Prop} {J:It} {RR:Value→Addr→Result→Shared→Prop} (hc:X.calm=true) (S:CompScope X.env.scope X.N scope N k caps) (I:Inv X pins σ H s)
 (T:Turn X.prog X.w X.K tg J fp it tn) (st:tn 0 s.heap) (hf:∀ b∈fp,FpOk X pins H b)
 (hg:∀ cs C s H ex,PG (ZbE X N scope cs C s H ex) tg g) (ht:∀ cs C s H ex,PF (ZbE X N scope cs C s H ex) ifs tc) (he:∀ cs C s H ex,PE (ZbE X N scope cs C s H ex) elt te)
 (q:∀ D,H D=none→∃ W:Nat→Nat→List V→Hp→Prop,(∃ m,W 0 m [] (upd H D (.lst [])))∧∀ i m ys H2,W i m ys H2 →
  (J.stop i H2∧Q (.ref D) H2)∨(J.go i H2∧∀ x H3,J.yld i H2 x H3→g x (ZbJ k caps σ) H3 fun σ4 H4=>tc σ4 H4 fun b H5 =>
   if b=true then te σ4 H5 fun y H6=>H6 D=some (.lst ys)∧ys.length<sizeLine∧∃ m',m' < m∧W (i+1) m' (ys++[y]) (upd H6 D (.lst (ys++[y]))) else ∃ m',m' < m∧W (i+1) m' ys H5))
 (hRR:∀ D C H' s' m,C≠X.env.locals→(∀ x c,X.env.cells.lookup x=some c→c≠C)→s'.heap.Ns C m→(∀ h',Heap.SameBut C s'.heap h'→Inv X pins σ H' { s' with heap:=h' })→H' C=none→s.heap.objs.size≤C→Q (.ref D) H'→RR (.ref D) C (.ok .next) s') :
 wpAny (model X.prog X.w) X.A (newList []) (fun acc s₃=>wpAny (model X.prog X.w) X.A (newFunctionEnv scope X.env.globals (Zb8 X.env scope.names []) [] X.env.qual none .none (some X.env)) (fun cenv s₄ =>
  codeAny (model X.prog X.w) X.A (.compStart (.ListComp elt [⟨tg,iter,ifs,0⟩] scope pos) 0 (.ref it) acc { cenv with scope:=relabel scope X.env }) (RR acc cenv.locals) s₄) E s₃) E s:=by
 refine wpAny_newObj_type (Zmx ?_);generalize hD:s.heap.objs.size=D
 have hsz1:(s.heap.push { cls:=.type "list",dict:=none,data:=.seq ([]:List Value).toArray }).objs.size=D+1:=by rw [Heap.size_push,hD]
 dsimp only;rw [hsz1];have hfo:∀ b∈fp,∃ o,s.heap.get? b=some o:=fun b hb=>let ⟨o,e,_⟩:=T.obj 0 _ st b hb;⟨o,e⟩;have hHD:H D=none:=I.hok.fresh (by rw [hD];exact XaW _);have J0:=Zkx (t':=s.toks) I S hf hfo (D:=D) (C:=D+1) hD.symm rfl rfl;have hfc:∀ x c,X.env.cells.lookup x=some c→c ∉ fp:=fun x c e hb=>(hf c hb).2.2.2.2.1 x c e rfl
 have fpo:∀ {pins':List (Addr×Obj)} {H':Hp},(∀ b∈fp,H' b=none)→pins'=[]→∀ b∈fp,FpOk (ZbE X N scope (Za7 X scope (D+1)) (D+1) s H fp) pins' H' b:=fun {pins' H'} hn hp b hb=>by
  obtain ⟨o,e⟩:=hfo b hb
  have hlt:@LT.lt Nat _ b D:=by rw [←hD];exact Xbq e
  subst hp;refine ⟨hn b hb,?_,fun z=>?_,.inl hb,fun x c e=>(J0.ok.exf b hb).2 x c e,fun p hp=>absurd hp (by simp)⟩
  · show @Ne Nat b (D+1)
    omega
  · have z':b∈frs X.stack:=z
    rcases Xam.mp (I.stkSub b z') with w | w
    · exact (hf b hb).2.1 w
    · exact (hf b hb).2.2.1 w
 obtain ⟨W,⟨m0,w0⟩,turn⟩:=q D hHD
 have st1:tn 0 (pushCells ((s.heap.push { cls:=.type "list",data:=.seq #[] }).push { cls:=.type "dict",data:=.dict #[] }) scope.names):=T.keep 0 _ _ st fun b hb o e=>pushCells_keeps _ _ b o (Xbp _ (Xbp _ e))
 have fr0:∀ b∈fp,(upd H D (.lst [])) b=none:=fun b hb=>by
  obtain ⟨o,e⟩:=hfo b hb
  have hlt:@LT.lt Nat _ b D:=by rw [←hD];exact Xbq e
  rw [Zah (show @Ne Nat b D by omega)];exact (hf b hb).1
 have fin:∀ {H':Hp} {s':Shared} {σ':St} {pins':List (Addr×Obj)},Inv (ZbE X N scope (Za7 X scope (D+1)) (D+1) s H fp) pins' σ' H' s'→Q (.ref D) H'→RR (.ref D) (D+1) (.ok .next) s':=fun {H' s' σ' pins'} J q=>by
  obtain ⟨m,hn,_⟩:=id J.loc;refine hRR D (D+1) H' s' m (fun z=>?_) (fun x c e z=>?_) hn (fun h' hs=>?_) J.free (by rw [hD];exact Nat.le_succ _) q
  · have h1:@LT.lt Nat _ X.env.locals D:=by rw [←hD];exact I.lt
    have z':@Eq Nat (D+1) X.env.locals:=z;omega
  · obtain ⟨v,y⟩:=I.cell x c e
    have h1:@LT.lt Nat _ c D:=by rw [←hD];exact y.lt
    have z':@Eq Nat c (D+1):=z;omega
  · refine I.call' (ch:=fp) J.os (J.base.but hs (by rw [hD];exact Nat.le_succ _)) (J.hok.but hs J.free) J.bare fun b hb=>?_
    exact ⟨(hf b hb).2.2.2.1,(hf b hb).2.1,(hf b hb).2.2.2.2.1,(hf b hb).2.2.2.2.2⟩
 have loop : codeAny (model X.prog X.w) X.A (.compLoop (.ListComp elt [⟨tg, iter, ifs, 0⟩] scope pos) 0 (.ref it) (.ref D) (compEnvC scope (Za7 X scope (D + 1)) (D + 1) X.env)) (RR (.ref D) (D + 1))
  { s with heap:=pushCells ((s.heap.push { cls:=.type "list",data:=.seq #[] }).push { cls:=.type "dict",data:=.dict #[] }) scope.names }:=by
  refine Zlq (fun n s'=>∃ i ys H',Inv (ZbE X N scope (Za7 X scope (D+1)) (D+1) s H fp) [] (ZbJ k caps σ) H' s'∧tn i s'.heap∧(∀ b∈fp,H' b=none)∧W i n ys H') ?_ m0 ⟨0,[],_,J0,st1,fr0,w0⟩;rintro n s3 ⟨i,ys,H3,I3,st3,fr3,w3⟩
  rcases turn i n ys H3 w3 with ⟨stop,qn⟩ | ⟨go,step⟩
  · refine thn (T.done (ZbE X N scope (Za7 X scope (D+1)) (D+1) s H fp) rfl rfl rfl hc i [] s3 _ H3 _ I3 (fpo fr3 rfl) st3 stop) fun r s4 ⟨hr,I4⟩=>?_
    subst hr;exact fin I4 qn
  · refine thn (T.item (ZbE X N scope (Za7 X scope (D+1)) (D+1) s H fp) rfl rfl rfl hc i [] s3 _ H3 _ I3 (fpo fr3 rfl) st3 go) fun r s4 ⟨u,hr,h4⟩=>?_
    subst hr;refine thn h4 fun _ s5 ⟨x,H5,I5,r5,y5,st5,fr5⟩=>?_;have I5':=I5.pinned (fpo fr5 rfl) (T.obj _ _ st5)
    have again:∀ {σ7:St} {H7:Hp} {s7:Shared} {m':Nat} {zs:List V},Inv (ZbE X N scope (Za7 X scope (D+1)) (D+1) s H fp) ([]++Zia fp s5.heap) σ7 H7 s7→m' < n→W (i+1) m' zs H7 →
     ∃ m,m<n∧∃ i ys H',Inv (ZbE X N scope (Za7 X scope (D+1)) (D+1) s H fp) [] (ZbJ k caps σ) H' s7∧tn i s7.heap∧(∀ b∈fp,H' b=none)∧W i m ys H':=fun {σ7 H7 s7 m' zs} I7 hm w7=>by
     refine ⟨m',hm,i+1,zs,H7,Zky I S hfc (by rw [hD];exact Nat.le_succ _) I7.unpinned,T.keep _ _ _ st5 fun b hb o e=>(I7.pin (b,o) (Xan _ (Xan _ (ZdQ hb e)))).1,fun b hb=>?_,w7⟩;obtain ⟨o,e,d⟩:=T.obj _ _ st5 b hb;exact (I7.pin (b,o) (Xan _ (Xan _ (ZdQ hb e)))).2.1
    refine thn (hg _ _ _ _ _ _ s5 _ H5 x u _ I5' r5 (step x H5 y5)) fun _ s6 ⟨σ6,H6,I6,q6⟩=>?_;refine thn (ht _ _ _ _ _ _ s6 σ6 H6 _ I6 q6) fun b s7 ⟨H7,I7,q7⟩=>?_
    cases b with
    | false =>
      rw [Xbe Xbc] at q7 ⊢;obtain ⟨m',hm,w7⟩:=q7;exact again I7 hm w7
    | true =>
      rw [Xbf rfl] at q7 ⊢;refine thn (he _ _ _ _ _ _ s7 σ6 H7 _ I7 q7) fun y s8 ⟨yv,H8,I8,r8,hD8,hz8,m',hm,w8⟩=>?_;refine thn (Zih (X:=ZbE X N scope (Za7 X scope (D+1)) (D+1) s H fp) _ s8 σ6 H8 (.ref D) [yv] (.ref D) [y] (fun _ H9=>W (i+1) m' (ys++[yv]) H9) I8 rfl (.cons r8 .nil) ⟨D,ys,yv,rfl,rfl,hD8,hz8,w8⟩) fun _ s9 ⟨_,H9,I9,_,w9⟩=>?_;exact again I9 hm w9
 exact codeAny_compStart_list loop (T.self _ 0 _ _ _ st1 loop)
theorem ZcY {X:Cx}{elt iter tg:Expr}{ifs:List Expr}{scope:Scope}{pos:Pos}{N:List Str}{k:Nat}{caps:List Nat}{wi:TI}{g:TG}{tc:TT}{te:TE} (hc:X.calm=true) (S:CompScope X.env.scope X.N scope N k caps) (hi:PI X tg iter wi)
 (hg:∀ cs C s H ex,PG (ZbE X N scope cs C s H ex) tg g) (ht:∀ cs C s H ex,PF (ZbE X N scope cs C s H ex) ifs tc) (he:∀ cs C s H ex,PE (ZbE X N scope cs C s H ex) elt te)
 (hs:∀ x,foldedSetIterable iter X.env x=pure x:=by intro _;rfl):PE X (.ListComp elt [⟨tg,iter,ifs,0⟩] scope pos) (tComp k caps wi g tc te):=by
 intro pins s σ H Q I h;have hcl:closureFor scope X.env=pure (Zb8 X.env scope.names []):=Zex fun x hx hfr=>I.ok.has x.1 (S.free x hx hfr);rw [eval_ListComp];refine wpAny_comprehension_free (use:=none) rfl hs hcl S.kind S.loc (thn (hi pins s σ H _ I h) fun v s1 h1=>thn h1 fun itv s2 h2=>?_);obtain ⟨it,fp,tn,J,H2,e,I2,T,st2,f2,q⟩:=h2;subst e;refine ZgY (Q:=Q) hc S I2 T st2 f2 hg ht he q ?_;intro D C H' s' m _ _ hn hI _ _ hq;exact ⟨m,hn,fun h' hs'=>⟨.ref D,H',hI h' hs',rfl,hq⟩⟩
theorem Ze1 {X:Cx}{elt iter tg:Expr}{ifs:List Expr}{scope:Scope}{pos spos:Pos}{N:List Str}{k i:Nat}{x:Str}{pos':Pos}{caps:List Nat}{wi:TI}{g:TG}{tc:TT}{te:TE} (hN:X.N.Nodup) (hi':X.N[i]?=some x) (hx:Loc X.env.scope x)
 (hc:X.calm=true) (S:CompScope X.env.scope X.N scope N k caps) (hi:PI X tg iter wi)
 (hg:∀ cs C s H ex,PG (ZbE X N scope cs C s H ex) tg g) (ht:∀ cs C s H ex,PF (ZbE X N scope cs C s H ex) ifs tc) (he:∀ cs C s H ex,PE (ZbE X N scope cs C s H ex) elt te)
 (hsw:swapsWith (.ListComp elt [⟨tg,iter,ifs,0⟩] scope pos) (some (.Name x pos')) spos.line X.env=pure true:=by rfl)
 (hs:∀ x,foldedSetIterable iter X.env x=pure x:=by intro _;rfl) (hfn:X.fn x=true∨X.env.scope.names.lookup x=some .local:=by first | exact .inl rfl | exact .inr rfl | assumption) :
 PS X (.Assign [.Name x pos'] (.ListComp elt [⟨tg,iter,ifs,0⟩] scope pos) spos) (tAsg (tComp k caps wi g tc te) (Zc3 i)):=by
 intro pins s σ H D I h;have hcl:closureFor scope X.env=pure (Zb8 X.env scope.names []):=Zex fun x hx hfr=>I.ok.has x.1 (S.free x hx hfr);rw [exec_Assign_Name_used _ _ _ _ hsw];refine Xbl (wpAny_standAt (Xbl ?_))
 show wpAny _ _ (do let _ ←comprehension (.ListComp elt [⟨tg,iter,ifs,0⟩] scope pos) scope X.env _ (newList []) false (eval iter X.env) (some (assign (.Name x pos') X.env))) _ _ s
 refine Xbl (Xbw (wpAny_comprehension_free (use:=some (assign (.Name x pos') X.env)) (Q:=fun _ s'=>SP X pins D .next s') rfl hs hcl S.kind S.loc
  (thn (hi pins s σ H _ I h) fun v s1 h1=>thn h1 fun itv s2 h2=>?_)) (fun _ s' hq=>Xbm (Xbm hq)) fun _ _ e=>e)
 obtain ⟨it,fp,tn,J,H2,e,I2,T,st2,f2,q⟩:=h2;subst e;refine ZgY (Q:=fun x H1=>Zc3 i x σ H1 D.nx) hc S I2 T st2 f2 hg ht he q ?_;intro D' C H' s' m hCL hCc hn hI hHC hCs hq;have I3:=hI s'.heap (.refl ..);have I3':Inv X pins σ H' s':=I3;refine wpAny_assign_Name (Zh6 I3' hN hi' hx (show RelV (V.ref D') (.ref D') from rfl) (fun s'' I4 ⟨a,hsb,ha⟩=>?_) hfn)
 have hCa:C≠a:=by
  rcases ha with ha | ha
  · rw [ha];exact hCL
  · exact Ne.symm (hCc x a ha)
 refine ⟨m,hn.sameBut hsb hCa,fun h' hs'=>?_⟩;refine ⟨_,H',?_,hq⟩
 exact I4.turned (t':=s''.toks) (fun b o hb e=>(hs'.2 b hb).trans e) hHC hCL (.inr (Xbh I2.sz hCs)) hCc fun p hp z=>by
  have:=Xbq (I2.pin p hp).1
  rw [z] at this;exact absurd (Xbg this hCs) (XaX _)
def Zax (P:Program) (w:World) (K:XFg) (mg:Str→Option Value) (base:Heap) (x:Str) (k:Nat) (ps:List Str) (sp:Sp):Prop :=
 ∃ f fd,FnOk P w K mg base CX0 k f fd ps sp∧mg x=some (.ref f)∧PySem.W.keepIn K (.ref f)=true∧Binds K fd ps []
section
variable {X:Cx} {x:Str} {k:Nat} {ps:List Str} {sp:Sp} {e:Expr} {es:List Expr} {t:TA} {p pos:Pos}
theorem ZaC (C:Zax X.prog X.w X.K X.mg X.base x k ps sp) (hr:Room k X.A) (hg:Gl X x) (ha:PA X (e :: es) t) (hdb:(x == ("__debug__" : Str))=false:=by decide)
 (he:starEach (e :: es) X.env=(false,eval e X.env) :: starEach es X.env:=by rfl) (hpl:(backTo pos (starEach es X.env)).any (·.1)=false:=by rfl):PE X (.Call (.Name x p) (e :: es) [] pos) (Zmm sp [] E0 t):=by
 obtain ⟨f,fd,F,hm,hk,hb⟩:=C;exact pe_call F hr hg hm hk hb .nil pass0 ha hdb he hpl
theorem pe_fn0 (C:Zax X.prog X.w X.K X.mg X.base x k ps sp) (hr:Room k X.A) (hg:Gl X x) (hdb:(x == ("__debug__" : Str))=false:=by decide):PE X (.Call (.Name x p) [] [] pos) (Zmm sp [] E0 tNil):=by
 obtain ⟨f,fd,F,hm,hk,hb⟩:=C;exact Zmn F hr hg hm hk hb .nil pass0 hdb
end
theorem Zjg {X:Cx}{x:Str}{pos:Pos} (n:String) (hg:Gl X x) (hm:X.mg x=none) (hv:bootBuiltins x=some (.type n)) (hn:x ≠ "__name__" := by decide) (hd:(x == ("__debug__" : Str))=false:=by decide):PE X (.Name x pos) (tC (.ty n)):=pe_bltn (v:=.ty n) hg hm hv rfl hn hd
theorem Zdd {t u:TS}{D:Ends}{σ:L2.St}{H:Hp} (P:L2.St→Hp→Prop) (hu:∀ σ' H',P σ' H'→u D σ' H') (ht:∀ N:L2.St→Hp→Prop,(∀ σ' H',P σ' H'→N σ' H')→t { D with nx:=N } σ H):tSeq t u D σ H:=ht (u D) hu
theorem Same.upd {H H':Hp}{D:Addr}{o:HO} (h:Same H H') (hn:H D=none):Same H (upd H' D o):=fun b u e=>by
 rw [Zah (Zac e hn)];exact h b u e
theorem Same.seqT {K:XFg}{H H':Hp}{a:Addr}{xs:List V} (e:Same H H') (h:SqT K H a xs):SqT K H' a xs:=by
 rcases h with (h | ⟨o,h⟩) | h
 · exact .inl (.inl (e _ _ h))
 · exact .inl (.inr ⟨o,e _ _ h⟩)
 · exact .inr h
theorem Zmy {x:Str}{k:Nat}{caps:List Nat}{g:TG}{te:TE}{σ:St}{H1:Hp}{Q:Addr→Hp→Prop} (f:Nat→V) (hn:x.cps.size≤sizeLine)
 (hs:∀ (i c:Nat) (H2:Hp) (D:Addr) (R:VK),x.cps[i]?=some c→Same H1 H2→H1 D=none→(∀ H3,Same H2 H3→R (f c) H3)→g (.str ⟨#[c]⟩) (ZbJ k caps σ) H2 fun σ4 H4=>te σ4 H4 R)
 (hd:∀ (H2:Hp) (D:Addr),Same H1 H2→H1 D=none→H2 D=some (.lst (x.cps.toList.map f))→Q D H2) :
 ∀ D,H1 D=none→∃ W:Nat→Nat→List V→Hp→Prop,(∃ m,W 0 m [] (upd H1 D (.lst [])))∧∀ i m ys H2,W i m ys H2 →
  ((Its x).stop i H2∧Q D H2)∨((Its x).go i H2∧∀ y H3,(Its x).yld i H2 y H3→g y (ZbJ k caps σ) H3 fun σ4 H4=>tYes σ4 H4 fun b H5 =>
   if b=true then te σ4 H5 fun y H6=>H6 D=some (.lst ys)∧ys.length<sizeLine∧∃ m',m' < m∧W (i+1) m' (ys++[y]) (upd H6 D (.lst (ys++[y]))) else ∃ m',m' < m∧W (i+1) m' ys H5):=by
 intro D hD;refine ⟨fun i m ys H2=>m=x.cps.size - i∧i≤x.cps.size∧ys=(x.cps.toList.take i).map f∧Same H1 H2∧H2 D=some (.lst ys),⟨x.cps.size,rfl,Xa1 _,rfl,(Same.refl _).upd hD,upd_same⟩,?_⟩;rintro i m ys H2 ⟨rfl,hi,rfl,s2,e2⟩
 by_cases hlt:i<x.cps.size
 · refine .inr ⟨hlt,fun y H3 hy=>?_⟩
   obtain ⟨rfl,c,hc,rfl⟩:=hy
   have hc':x.cps.toList[i]?=some c:=by simpa using hc
   refine hs i c H3 D _ hc s2 hD fun H4 s4=>?_;refine ⟨s4 _ _ e2,by rw [Xaa,Xaw];omega,x.cps.size - (i+1),by omega,rfl,hlt,?_,(s2.trans s4).upd hD,upd_same⟩;rw [Xar,hc',Xad];rfl
 · have e:i=x.cps.size:=by omega
   rw [e,List.take_of_length_le (by simp)] at e2;exact .inl ⟨e,hd H2 D s2 hD e2⟩
theorem Zlr {c d:Nat}:(decide (([c]:List Nat) < [d]))=decide (c<d):=by
 by_cases h:c<d
 · rw [Xa6 h,Xa6]
   exact List.Lex.rel h
 · rw [Xa7 h,Xa7]
   intro q
   cases q with
   | rel q=>exact h q
   | cons q=>cases q
def Zd9 (ns:List Int) (k:Int):Int:=(ns[k.toNat]?).getD 0
theorem Zhp {v:V}{i:Nat}{u:TS}{D:Ends}{σ:St}{H:Hp} (h:u D (σ.set i (some v)) H):tSeq (tAsg (tC v) (Zc3 i)) u D σ H:=h
theorem ixN_in {n:Nat}{k:Int} (h0:0≤k) (h1:k<n):ixN n k=some k.toNat:=by
 unfold ixN;rw [Xbf h0,Xbf h1]
theorem Zim (xs:List V) (n:Nat):cutV xs none (some (n:Int))=xs.take n:=by
 unfold cutV;rw [HT.sIx_none,HT.sIx_nat,List.drop_zero,Nat.sub_zero]
 by_cases h:n≤xs.length
 · rw [Nat.min_eq_left h]
 · rw [Nat.min_eq_right (by omega),List.take_of_length_le (XaW _),List.take_of_length_le (by omega)]
theorem Zez (xs:List V) (n:Nat):cutV xs (some (n:Int)) none=xs.drop n:=by
 unfold cutV;rw [HT.sIx_none,HT.sIx_nat]
 by_cases h:n≤xs.length
 · rw [Nat.min_eq_left h,List.take_of_length_le (by rw [XaF];exact XaW _)]
 · rw [Nat.min_eq_right (by omega),List.drop_of_length_le (XaW _),List.drop_of_length_le (by omega)]
   simp
theorem Zak {H:Hp}{p:Addr}{o:HO} (h:H p=none):Same H (upd H p o):=(Same.refl H).upd h
theorem g_in {i:Nat}{v:V}{σ:L2.St}{H:Hp}{N:L2.St→Hp→Prop} (h:N (σ.set i (some v)) H):Zc3 i v σ H N:=h
section
variable {X:Cx}
theorem Zaw:MtR X "list.append" Zlg:=Zih
theorem ZfT:MtR X "list.extend" Zlh:=Zli
theorem ZjV:MtR X "list.clear" rClear:=Zmq
end
abbrev xMod:R2:=rI (fun _ j=>0<j) fun i j=>.int (i % j)
abbrev xDiv:R2:=rI CDiv fun i j=>.int (i / j)
abbrev xAdd:R2:=rI0 fun i j=>.int (i+j)
section
variable {X:Cx}
def rSetD:V→List V→Hp→VK→Prop:=fun x vs H Q=>∃ a kvs k d,x=.ref a∧vs=[kV k,d]∧H a=some (.dK kvs)∧kvs.length<sizeLine∧(∀ v,valV kvs k=some v→Q v H)∧(valV kvs k=none→Q d (upd H a (.dK (putK kvs k d))))
theorem Zhq:MtR X "dict.setdefault" rSetD:=by
 intro pins s σ H x vs v us Q I rx rv h;obtain ⟨a,kvs,k,d,rfl,rfl,hd,hz,q1,q2⟩:=h;cases rx;obtain ⟨u,r,rfl,ru,rr⟩:=Zhl rv;obtain ⟨z,hm,ws,rel,dd⟩:=dk_of I.hok hd
 have hl:ws.length≤sizeLine:=by rw [←rel.length];exact z
 have hv:=rel.val k
 refine call_meetsIn PySem.F.slot_dict_setdefault dd.typeIs PySem.F.entry_dict_setdefault (PySem.F.args_dict_setdefault_3 _ _ _) (kt_meets_setdefault (ZaU X.prog X.w) a (Zjb ru) hm r)
  ⟨ws,dd,hl,fun y hy=>?_,fun hn h' dd' hs=>?_⟩
 · rw [hy] at hv
   cases e:valV kvs k with
   | none=>rw [e] at hv;exact False.elim hv
   | some v0 =>
     rw [e] at hv;exact ⟨v0,H,I.tok _,hv,q1 v0 e⟩
 · rw [hn] at hv
   cases e:valV kvs k with
   | some v0=>rw [e] at hv;exact False.elim hv
   | none =>
     have hl:(putK kvs k d).length≤sizeLine:=by have:=Zcq kvs k d;omega
     have he:∃ q,h'.get? a=some q:=let ⟨q,_,_,hq,_⟩:=dd';⟨q,hq⟩;exact ⟨d,_,ZfR I (by rw [hd];exact True.intro) hs he (dk_new hl hm (rel.put k rr) dd'),rr,q2 e⟩
def rGetD:V→List V→Hp→VK→Prop:=fun x vs H Q=>∃ a y z o,x=.ref a∧vs=[y,z]∧DGet H a y o∧Q (o.getD z) H
theorem mt_get (hu:X.A.units+1<cLine):MtR X "dict.get" rGetD:=by
 intro pins s σ H x vs v us Q I rx rv h;obtain ⟨a,y,z,o,rfl,rfl,g,q⟩:=h;cases rx;obtain ⟨u,r,rfl,ru,rr⟩:=Zhl rv;exact d_get2 hu I g ru rr fun w' s' I' rw'=>⟨_,H,I',rw',q⟩
def Zls (neg:Bool):R2:=fun x y H Q=>∃ a o,y=.ref a∧DGet H a x o∧Q (.bl (o.isSome != neg)) H
theorem Zlt (hu:X.A.units+1<cLine):OpR X (compareOp .In) (Zls false):=by
 intro pins s σ H x y v u Q I rx ry h;obtain ⟨a,o,rfl,g,q⟩:=h;cases ry;refine d_in hu I g rx fun s' I'=>⟨.bl _,H,I',?_,q⟩
 cases o <;> rfl
theorem Zin (hu:X.A.units+1<cLine):OpR X (compareOp .NotIn) (Zls true):=by
 intro pins s σ H x y v u Q I rx ry h;obtain ⟨a,o,rfl,g,q⟩:=h;cases ry;refine d_notIn hu I g rx fun s' I'=>⟨.bl _,H,I',?_,q⟩
 cases o <;> rfl
def Zmz:V→V→V→Hp→(Hp→Prop)→Prop:=fun o i v H Q=>∃ a H',o=.ref a∧DPut H a i v H'∧Q H'
theorem ZmA (hu:X.A.units+1<cLine):PSet X Zmz:=by
 intro pins s σ H o i v ov iv u Q I ro ri rv h;obtain ⟨a,H',rfl,g,q⟩:=h;cases ro;exact Zlk hu I g ri rv fun s' I'=>⟨H',I',q⟩
theorem Zlu {a:Expr}{ta:TE} (ha:PE X a ta) (he:∀ whole,isTrue a X.env whole=(do let v ←whole;standAt a.pos;holding [v] (truthy v)):=by intro _;rfl) :
 PT X a (fun σ H Q=>ta σ H fun x H1=>∃ p xs,x=.ref p∧SqL X.K H1 p xs∧Q (!xs.isEmpty) H1):=by
 intro pins s σ H Q I hw;refine isTrue_plain (thn (ha pins s σ H _ I hw) fun v s1 ⟨x,H1,I1,r1,q1⟩=>?_) (he _);obtain ⟨p,xs,rfl,hq,q⟩:=q1;exact tru_ok pins s1 σ H1 _ v Q I1 r1 ⟨_,Or.inl ⟨xs,hq,rfl⟩,q⟩
end
def metS (f:Nat→Str) (i:Nat):List Str:=((List.range i).map f).foldl step_dedup []
theorem Zdu (f:Nat→Str) (i:Nat):metS f (i+1)=step_dedup (metS f i) (f i):=by
 unfold metS;rw [List.range_succ,Xad,XaT];rfl
theorem Zlv (l:List Str) (x:Str):(step_dedup l x).length=if l.any (· == x) then l.length else l.length+1:=by
 unfold step_dedup
 split <;> simp
theorem dd_any (l:List Str) (x y:Str):(step_dedup l x).any (· == y)=(l.any (· == y) || decide (y=x)):=by
 unfold step_dedup
 by_cases h:l.any (· == x)=true
 · rw [Xbf h]
   by_cases e:y=x
   · subst e;rw [h];rfl
   · rw [Xa7 e,Bool.or_false]
 · rw [Xbe h,List.any_append]
   congr 1
   by_cases e:y=x
   · subst e;simp
   · rw [Xa7 e]
     simp
     exact fun z=>e z.symm
theorem Zjh (f:Nat→Str):∀ i,(metS f i).length≤i
 | 0=>XaW _
 | i+1=>by
   have:=Zjh f i
   rw [Zdu,Zlv]
   split <;> omega
theorem Zhr (f:Nat→Str):∀ (i:Nat) (y:Str),(metS f i).any (· == y)=true↔∃ j,j<i∧f j=y
 | 0,y=>by
   constructor
   · intro h;cases h
   · rintro ⟨j,h,_⟩;omega
 | i + 1, y => by
   rw [Zdu,dd_any,Bool.or_eq_true,Zhr f i y,decide_eq_true_iff]
   constructor
   · rintro (⟨j,h,e⟩ | e)
     · exact ⟨j,by omega,e⟩
     · exact ⟨i,by omega,e.symm⟩
   · rintro ⟨j,h,e⟩
     by_cases hj:j=i
     · subst hj;exact .inr e.symm
     · exact .inl ⟨j,by omega,e⟩
theorem ZjW (f:Nat→Str):∀ i,(metS f i).length=i↔∀ a b,a<b→b<i→f a≠f b
 | 0=>⟨fun _ a b _ h=>by omega,fun _=>rfl⟩
 | i + 1 => by
   have ih:=ZjW f i;have hle:=Zjh f i;rw [Zdu,Zlv]
   constructor
   · intro h a b hab hb e
     split at h
     · omega
     · rename_i hn
       have hi:(metS f i).length=i:=by omega
       by_cases hbi:b=i
       · subst hbi
         exact hn ((Zhr f b _).mpr ⟨a,hab,e⟩)
       · exact ih.mp hi a b hab (by omega) e
   · intro h
     have hi:(metS f i).length=i:=ih.mpr fun a b hab hb=>h a b hab (by omega);rw [Xbe,hi];intro hn;obtain ⟨j,hj,e⟩:=(Zhr f i _).mp hn;exact h j i hj (by omega) e
section
variable {prog:Program} {w:World} {A:Around} {R:Result→Shared→Prop} {It:Addr} {fp wr:List Addr} {G:Array GenState→Array GenState→Prop} {n:Nat} {Pn:Nat→Value→Prop} {Sn:Nat→Shared→Prop}
theorem Zlw (Wk:WalksS prog w A.in1 It fp wr G n Pn Sn) (D:Addr) (nD:D ∉ fp) (f:Nat→Str) (hf:∀ i v,Pn i v→∃ t,v=.str (f i) t) (small:n+1<scanBound) :
 ∀ (k i:Nat) (s:Shared),n - i=k→i≤n→Sn i s→s.heap.SetOf (strKind prog w) D (fun y=>(metS f i).any (· == y)) (metS f i).length →
  (∀ s',Moved (D :: wr) G s s'→s'.heap.SetOf (strKind prog w) D (fun y=>(metS f n).any (· == y)) (metS f n).length→R (.ok (.ret .none)) s') →
  codeAny (model prog w) A (.builtin "set.update.loop" ⟨[.ref D,.ref It],[]⟩) R s:=by
 have nDw:D ∉ wr:=fun z=>nD (Wk.sub _ z);have sub:∀ b∈wr,b∈D :: wr:=fun b z=>Xap _ z;intro k
 induction k with
 | zero =>
   intro i s hk hi st hS fin
   obtain rfl:i=n:=by omega
   refine codeAny_builtin F.entry_set_update_loop ?_;rw [Around.under_plainId F.plain_set_update_loop _];show wpAny _ A.in1 (pyNext (.ref It) >>= _) _ _ s;refine Xbl (Wk.done s _ _ st fun s2 mv=>?_);show wpAny _ A.in1 (ret Value.none) _ _ s2;refine Xbm (fin s2 (mv.mono sub) ?_);obtain ⟨ob,es,ep,tb,e,more⟩:=hS;exact ⟨ob,es,ep,tb,mv.heap D _ nDw e,more⟩
 | succ k ih =>
   intro i s hk hi st hS fin
   have lt:i<n:=by omega
   refine codeAny_builtin F.entry_set_update_loop ?_;rw [Around.under_plainId F.plain_set_update_loop _];show wpAny _ A.in1 (pyNext (.ref It) >>= _) _ _ s;refine Xbl (Wk.item i s _ _ lt st fun v s2 pv st2 mv=>?_);obtain ⟨t,rfl⟩:=hf i v pv
   have hS2:s2.heap.SetOf (strKind prog w) D (fun y=>(metS f i).any (· == y)) (metS f i).length:=by
    obtain ⟨ob,es,ep,tb,e,more⟩:=hS;exact ⟨ob,es,ep,tb,mv.heap D _ nDw e,more⟩
   show wpAny _ A.in1 (holding [Value.str (f i) t] (setAdd D (.str (f i) t)) >>= _) _ _ s2;refine Xbl (Xbn ?_);unfold setAdd;refine Xbn ?_;have isk:(strKind prog w).is (f i) (.str (f i) t)=true:=strKind_is _ _ _ _;refine Xbl ((strKind prog w).pyHash (k:=f i) isk ?_)
   have room:(metS f i).length+1<scanBound:=by have:=Zjh f i;omega
   refine wpAny_setAddHashed_of (knd:=strKind prog w) (s:={ s2 with toks:=s2.toks+1 }) isk rfl hS2 room fun h3 sb hS3=>?_
   have hS4:h3.SetOf (strKind prog w) D (fun y=>(metS f (i+1)).any (· == y)) (metS f (i+1)).length :=
    SetOf_congr hS3 (fun y=>by rw [Zdu,dd_any]) (by rw [Zdu,Zlv])
   refine Xbm ⟨plainId_quiet F.plain_set_update_loop _,ih (i+1) _ (by omega) lt (Wk.frame _ s2 _ _ st2 (Nat.le_succ _) fun b hb o e=>?_) hS4 fun s5 mv5 hS5=>?_⟩
   · rw [sb.2 b fun z:b=D=>nD (by rw [←z];exact hb)]
     exact e
   · refine fin s5 (Moved.trans Wk.gtrans ((mv.mono sub).then_heap (Nat.le_succ _) fun b o hb e=>?_) mv5) hS5
     rw [sb.2 b fun z:b=D=>hb (by rw [z];exact Xal)];exact e
end
abbrev Zea (b:Bool):Obj:={ cls:=.type "set",dict:=none,data:=.set #[] 0 (.fresh 0 0 b) }
section
variable {prog:Program} {w:World} {A:Around} {E:Value→Shared→Prop} {s:Shared}
set_option maxRecDepth 100000 in
set_option maxHeartbeats 3200000 in
theorem Zhs {l : Addr} {its : Array Value} {f : Nat → Str} {Q : Value → Shared → Prop} (hh : A.handled = none) (hl : s.heap.IsList l its) (hi : ∀ (i : Nat) (v : Value), its[i]? = some v → ∃ t, v = .str (f i) t) (hb : its.size + 1 < scanBound)
 (h:∀ (h':Heap) (tk:Nat),h'.SetOf (strKind prog w) s.heap.objs.size (fun y=>(metS f its.size).any (· == y)) (metS f its.size).length →
  (∀ b o,b<s.heap.objs.size→s.heap.get? b=some o→h'.get? b=some o)→Q (.ref s.heap.objs.size) { s with heap:=h',toks:=tk }) :
 wpAny (model prog w) A (call (.type "set") [.ref l]) Q E s:=by
 obtain ⟨c,tl,hmro⟩:=F.called_set.mro;have hmade:=F.called_set.made;have hsub:=F.called_set.sub;refine wpAny_call (codeAny_of_tree ?_)
 show wpAny _ _ (callAny (.type "set") _) _ _ _
 refine Xbm ⟨Code.quiet_builtin _ (by decide +kernel),codeAny_builtin F.entry_type_call ?_⟩
 rw [Around.under_plain (weight_type_call_type "set" [.ref l] []) rfl]
 have h1:=F.called_set.notType;have h2:=F.called_set.canCreate;have hct:=F.typeCall_set_1 (.ref l)
 repeat (any_goals (first | assumption | wp_step))
 refine codeAny_mono (code_set_new_1 (.ref l) (E:=E) (Q₁:=fun ob s1=>∃ b:Bool,ob=.ref s.heap.objs.size∧s1={ s with heap:=s.heap.push (Zea b) }) fun b=>⟨b,rfl,rfl⟩) fun r s1 hr=>?_
 cases r with
 | error e=>exact hr
 | ok fl =>
   cases fl with
   | ret ob =>
     obtain ⟨b0,rfl,rfl⟩:=hr;have hS:(s.heap.push (Zea b0)).get? s.heap.objs.size=some (Zea b0):=Xbr _ rfl
     have hT:Shared.TypeIs { s with heap:=s.heap.push (Zea b0) } (.ref s.heap.objs.size) "set" := ⟨_,hS,rfl⟩
     have hli:=F.called_set.init.lookup;have hbi:=F.called_set.init.bind (.ref s.heap.objs.size)
     repeat (any_goals (first | assumption | wp_step))
     refine codeAny_mono (codeAny_call_builtin (R:=wants (fun r s2=>r=.none∧∃ h' tk,s2={ s with heap:=h',toks:=tk }∧h'.SetOf (strKind prog w) s.heap.objs.size (fun y=>(metS f its.size).any (· == y)) (metS f its.size).length ∧
      (∀ b o,b<s.heap.objs.size→s.heap.get? b=some o→h'.get? b=some o)) E) F.called_set.init.plain F.entry_set_init (check_set_init_1 hT ?_)) fun r2 s2 hr2=>?_
     · obtain ⟨⟨oc,od,oda,osl⟩,hol,hcl,nl,hdl⟩:=hl
       simp only at hcl hdl;subst hcl;subst hdl
       have hol2:(s.heap.push (Zea b0)).get? l=some { cls:=.type "list",dict:=od,data:=.seq its nl,slots:=osl }:=Xbp _ hol
       have hsls:=F.sub_list_set;have hslf:=F.sub_list_frozenset
       have hne:(Value.type "list" == Value.type "dict")=false:=by decide
       have hl1:(s.heap.push (Zea b0)).IsList l its:=⟨_,hol2,rfl,nl,rfl⟩;unfold Builtin.«set.__init__» noKeywords Builtin.Frozenset.updateFrom;generalize hPI:pyIter=PI
       wp_walk
       subst hPI;refine wpAny_pyIter_list hl1 (Xbl (wpAny_runValue ?_));have ltl:l<s.heap.objs.size:=Xbq hol
       have hh3:A.in1.in1.in1.handled=none:=by simp [hh]
       have neI:l≠(s.heap.push (Zea b0)).objs.size:=by
        rw [Heap.size_push];exact XaZ (Nat.lt_succ_of_lt ltl)
       have nSf:s.heap.objs.size ∉ [(s.heap.push (Zea b0)).objs.size,l]:=by
        rw [Heap.size_push];intro z
        rcases Xam.mp z with z | z
        · exact absurd z (XaZ (Xa0 _))
        · exact absurd (Xaj.mp z) (Nat.ne_of_gt ltl)
       refine Zlw ((Walks.list hh3 _ l neI its).toS) s.heap.objs.size nSf f hi hb (its.size - 0) 0 _ (by omega) (Xa1 _) ⟨⟨_,Xbr _ rfl,rfl,rfl⟩,(hl1.push _)⟩ ?hS0 ?hR
       case hS0 =>
        have hg:((s.heap.push (Zea b0)).push { cls:=.type "list_iterator",data:=.fields #[.ref l,.int 0 0] }).get? s.heap.objs.size=some (Zea b0):=Xbp _ hS
        exact SetOf_congr ((setObjOf_fresh (knd:=strKind prog w) b0).setOf hg (by unfold scanBound;omega)) (fun _=>rfl) rfl
       case hR =>
        rintro ⟨h',g',d',tk',os'⟩ mv hS';obtain rfl:g'=s.gens:=mv.gens;obtain rfl:d'=s.drawn:=mv.drawn;obtain rfl:os'=s.os:=mv.os;show wpAny _ _ _ _ _ _;refine Xbm ?_;show wpAny _ _ (ret Value.none) _ _ _;refine Xbm ⟨rfl,h',tk',rfl,hS',fun b o hb e=>?_⟩;refine mv.heap b o (fun z=>?_) (Xbp _ (Xbp _ e))
        rcases Xam.mp z with z | z
        · exact absurd z (XaZ hb)
        · have z':=Xaj.mp z
          rw [Heap.size_push] at z';exact absurd z' (XaZ (Nat.lt_succ_of_lt hb))
     · cases r2 with
       | error e=>exact hr2
       | ok fl2 =>
         cases fl2 with
         | ret r =>
           obtain ⟨rfl,h',tk,rfl,hS',hk'⟩:=hr2
           repeat (any_goals (first | assumption | wp_step))
           exact h _ _ hS' hk'
         | _=>exact hr2.elim
   | _=>exact hr.elim
end
def SetS (P:Program) (w:World) (a:Addr) (n:Nat):HO:=.ext fun h=>∃ S,h.SetOf (strKind P w) a S n
section
variable {X:Cx}
def rSetS (P:Program) (w:World) (K:XFg):List V→Hp→VK→Prop:=fun vs H Q=>∃ (p:Addr) (xs:List Str),vs=[.ref p]∧SqL K H p (xs.map V.str)∧xs.length≤1000∧∀ q n,(n=xs.length↔xs.Nodup)→H q=none→Q (.ref q) (upd H q (SetS P w q n))
theorem strs_at {xs:List Str}{its:List Value} (r:Vals (xs.map V.str) its):∀ (i:Nat) (v:Value),its.toArray[i]?=some v→∃ t,v=.str (xs.getD i default) t:=by
 intro i v hv
 have hv':its[i]?=some v:=by simpa using hv
 have hl:=r.length;rw [Xaa] at hl
 have hi:i<xs.length:=by
  have:=(Xae.mp hv').1
  omega
 obtain ⟨u,hu,ru⟩:=r.get (i:=i) (x:=.str xs[i]) (by rw [Xag,Xab hi];rfl);rw [hv'] at hu;cases hu;rw [Xaq,Xab hi];exact ru
theorem ZmB {xs:List Str}:(∀ a b,a<b→b<xs.length→xs.getD a default≠xs.getD b default)↔xs.Nodup:=by
 unfold List.Nodup;rw [List.pairwise_iff_getElem]
 constructor
 · intro h i j hi hj hij
   have:=h i j hij hj
   rwa [Xaq,Xaq,Xab hi,Xab hj] at this
 · intro h a b hab hb
   have:=h a b (by omega) hb hab
   rw [Xaq,Xaq,Xab (by omega),Xab hb];exact this
theorem Zji (hc:X.calm=true):CallR X (.type "set") (rSetS X.prog X.w X.K):=by
 intro pins s σ H vs us Q I r h;obtain ⟨p,xs,rfl,hq,hz,q⟩:=h;obtain ⟨u,rfl,ru⟩:=Zdt r;obtain rfl:u=Value.ref p:=ru;obtain ⟨its,rv,pl,_⟩:=I.list hq;have hl:=rv.length;rw [Xaa] at hl
 have hsz:its.toArray.size=xs.length:=by rw [Xak,hl]
 refine Zhs (f:=fun i=>xs.getD i default) (I.ok.hd hc) pl.isList (strs_at rv) (by rw [hsz];unfold scanBound;omega) fun h' tk hS k=>?_
 have hn:(metS (fun i=>xs.getD i default) its.toArray.size).length=xs.length↔xs.Nodup:=by
  rw [hsz,ZjW,ZmB]
 have kk:∀ b u,s.heap.get? b=some u→h'.get? b=some u:=fun b u e=>k b u (Xbq e) e;refine ⟨.ref s.heap.objs.size,upd H s.heap.objs.size (SetS X.prog X.w s.heap.objs.size _),I.laid (t':=tk) kk (XaW _) ?_,rfl,q _ _ hn I.fresh⟩;refine ⟨⟨_,hS⟩,?_,fun h1 h2 ⟨S,o,es,ep,t,e,more⟩ hk=>⟨S,o,es,ep,t,hk o e,more⟩⟩;obtain ⟨o,_,_,_,e,_⟩:=hS;exact ⟨o,e⟩
theorem Zht:CallR X (.builtin "len") (fun vs H Q=>∃ q n,vs=[.ref q]∧H q=some (SetS X.prog X.w q n)∧n≤1000∧Q (.int n) H):=by
 intro pins s σ H vs us Q I r h;obtain ⟨a,n,rfl,e,hn,q⟩:=h;obtain ⟨u,rfl,ru⟩:=Zdt r;obtain rfl:u=Value.ref a:=ru;obtain ⟨⟨S,o,es,ep,t,ho,hex,hd,_,_,_,hf,hsz⟩,_,_⟩:=I.hok a _ e;subst hsz;exact PySem.call_len_set ho hex hd hf (by omega) ⟨.int _,H,I.tok _,⟨_,rfl⟩,q⟩
end
open PySem.SeqAt
inductive Dt where
 | non | bl (b:Bool) | int (i:Int) | str (x:Str) | tup (l:List Dt) | lst (l:List Dt)
mutual
inductive IsDt (K:XFg) (H:Hp):V→Dt→Prop where
 | non:IsDt K H .non .non
 | bl (b:Bool):IsDt K H (.bl b) (.bl b)
 | int (i:Int):IsDt K H (.int i) (.int i)
 | str (x:Str):IsDt K H (.str x) (.str x)
 | tup {a:Addr} {vs:List V} {ds:List Dt} (h:SqT K H a vs) (t:IsDts K H vs ds):IsDt K H (.ref a) (.tup ds)
 | lst {a:Addr} {vs:List V} {ds:List Dt} (h:SqL K H a vs) (t:IsDts K H vs ds):IsDt K H (.ref a) (.lst ds)
inductive IsDts (K:XFg) (H:Hp):List V→List Dt→Prop where
 | nil:IsDts K H [] []
 | cons {v:V} {d:Dt} {vs:List V} {ds:List Dt} (h:IsDt K H v d) (t:IsDts K H vs ds):IsDts K H (v :: vs) (d :: ds)
end
mutual
theorem IsDt.same {K:XFg}{H H':Hp} (e:Same H H') {v:V} {d:Dt} (h:IsDt K H v d):IsDt K H' v d:=by
 cases h with
 | non=>exact .non
 | bl b=>exact .bl b
 | int i=>exact .int i
 | str x=>exact .str x
 | tup h t=>exact .tup (e.seqT h) (IsDts.same e t)
 | lst h t=>exact .lst (e.seq h) (IsDts.same e t)
theorem IsDts.same {K:XFg}{H H':Hp} (e:Same H H') {vs:List V} {ds:List Dt} (h:IsDts K H vs ds):IsDts K H' vs ds:=by
 cases h with
 | nil=>exact .nil
 | cons h t=>exact .cons (IsDt.same e h) (IsDts.same e t)
end
theorem IsDts.length {K:XFg}{H:Hp}:∀ {vs:List V}{ds:List Dt},IsDts K H vs ds→vs.length=ds.length
 | _,_,.nil=>rfl
 | _,_,.cons _ t=>Xbk (· + 1) t.length
theorem IsDts.get {K:XFg}{H:Hp}:∀ {vs:List V}{ds:List Dt}{i:Nat}{v:V},IsDts K H vs ds→vs[i]?=some v→∃ d,ds[i]?=some d∧IsDt K H v d
 | _,_,_,_,.nil,e=>by simp at e
 | _,_,0,_,.cons h _,e=>by simp at e;subst e;exact ⟨_,rfl,h⟩
 | _,_,i+1,v,.cons _ t,e=>by
   obtain ⟨d,h1,h2⟩:=IsDts.get (i:=i) (v:=v) t (by simpa using e);exact ⟨d,by simpa using h1,h2⟩
theorem IsDts.get' {K:XFg}{H:Hp}:∀ {vs:List V}{ds:List Dt}{i:Nat}{d:Dt},IsDts K H vs ds→ds[i]?=some d→∃ v,vs[i]?=some v∧IsDt K H v d
 | _,_,_,_,.nil,e=>by simp at e
 | _,_,0,_,.cons h _,e=>by simp at e;subst e;exact ⟨_,rfl,h⟩
 | _,_,i+1,v,.cons _ t,e=>by
   obtain ⟨d,h1,h2⟩:=IsDts.get' (i:=i) (d:=v) t (by simpa using e);exact ⟨d,by simpa using h1,h2⟩
theorem IsDts.append {K:XFg}{H:Hp}:∀ {vs us:List V}{ds es:List Dt},IsDts K H vs ds→IsDts K H us es→IsDts K H (vs++us) (ds++es)
 | _,_,_,_,.nil,t=>t
 | _,_,_,_,.cons h r,t=>.cons h (IsDts.append r t)
theorem IsDts.strs {K:XFg}{H:Hp}:∀ (xs:List Str),IsDts K H (xs.map V.str) (xs.map Dt.str)
 | []=>.nil
 | x :: xs=>.cons (.str x) (IsDts.strs xs)
section
variable {X:Cx} {pins:List (Addr×Obj)} {σ:St} {H:Hp} {s:Shared}
theorem Inv.not_both (I:Inv X pins σ H s) {a:Addr} {xs ys:List V} (h:SqL X.K H a xs) (h':SqT X.K H a ys):False:=by
 obtain ⟨_,_,⟨o,n,e,c,_⟩,_⟩:=I.list h;obtain ⟨_,_,⟨o',e',c',_⟩,_⟩:=I.tuple h';rw [e] at e';cases e';rw [c] at c';exact absurd c' (by decide)
mutual
theorem IsDt.inj (I:Inv X pins σ H s) {v:V} {d e:Dt} (h:IsDt X.K H v d) (h':IsDt X.K H v e):d=e:=by
 cases h with
 | non=>cases h';rfl
 | bl _=>cases h';rfl
 | int _=>cases h';rfl
 | str _=>cases h';rfl
 | tup h t=>cases h' with
   | tup h' t' =>
     have e:=I.tuple_inj h h';subst e;rw [IsDts.inj I t t']
   | lst h' _=>exact (I.not_both h' h).elim
 | lst h t=>cases h' with
   | lst h' t' =>
     have e:=I.list_inj h h';subst e;rw [IsDts.inj I t t']
   | tup h' _=>exact (I.not_both h h').elim
theorem IsDts.inj (I:Inv X pins σ H s) {vs:List V} {ds es:List Dt} (h:IsDts X.K H vs ds) (h':IsDts X.K H vs es):ds=es:=by
 cases h with
 | nil=>cases h';rfl
 | cons h t=>cases h' with
   | cons h' t'=>rw [IsDt.inj I h h',IsDts.inj I t t']
end
end
def Dt.kd:Dt→Nat
 | .non=>0 | .bl _=>1 | .int _=>2 | .str _=>3 | .tup _=>4 | .lst _=>5
def Zfx (a b:Nat):Bool:=a != b && !(a == 1 && b == 2) && !(a == 2 && b == 1)
mutual
inductive Cmp:Nat→Dt→Dt→Prop where
 | non {n:Nat}:Cmp n .non .non
 | bl {n:Nat} (a b:Bool):Cmp n (.bl a) (.bl b)
 | int {n:Nat} (a b:Int):Cmp n (.int a) (.int b)
 | str {n:Nat} (a b:Str):Cmp n (.str a) (.str b)
 | tup {n:Nat} {ds es:List Dt} (t:Cmps n ds es):Cmp (n+1) (.tup ds) (.tup es)
 | lst {n:Nat} {ds es:List Dt} (t:Cmps n ds es):Cmp (n+1) (.lst ds) (.lst es)
 | apart {n:Nat} {d e:Dt} (h:Zfx d.kd e.kd=true):Cmp (n+1) d e
inductive Cmps:Nat→List Dt→List Dt→Prop where
 | nil {n:Nat} (es:List Dt):Cmps n [] es
 | nil' {n:Nat} (ds:List Dt):Cmps n ds []
 | cons {n:Nat} {d e:Dt} {ds es:List Dt} (h:Cmp n d e) (t:Cmps n ds es):Cmps n (d :: ds) (e :: es)
end
theorem Cmps.of {n:Nat}:∀ {ds es:List Dt},(∀ d∈ds,∀ e∈es,Cmp n d e)→Cmps n ds es
 | [],es,_=>.nil es
 | d :: ds,[],_=>.nil' _
 | d :: ds,e :: es,h=>.cons (h d (by simp) e (by simp)) (Cmps.of fun x hx y hy=>h x (by simp [hx]) y (by simp [hy]))
open Classical in
noncomputable def dec (p:Prop):Bool:=decide p
theorem ZaH {p:Prop} (h:p):dec p=true:=@Xa6 p (Classical.propDecidable p) h
theorem ZaP {p:Prop} (h:¬p):dec p=false:=@Xa7 p (Classical.propDecidable p) h
theorem dec_iff {p:Prop}:dec p=true↔p:=⟨fun h=>@Xa8 p (Classical.propDecidable p) h,ZaH⟩
theorem Zb4 {p q:Prop} (h:p↔q):dec p=dec q:=by rw [propext h]
theorem Zjj {α:Type} [BEq α] [LawfulBEq α] {a b:α}{p:Prop} (h:p↔a=b):(a == b)=dec p:=by
 by_cases e:a=b
 · subst e;rw [ZaH (h.mpr rfl)];exact beq_self_eq_true _
 · rw [ZaP fun q=>e (h.mp q)];exact beq_false_of_ne e
theorem Zio {ds es:List Dt} (hl:ds.length=es.length) (h:∀ i,i<ds.length→ds[i]?=es[i]?):ds=es:=List.ext_getElem? fun i=>by
 by_cases hi:i<ds.length
 · exact h i hi
 · rw [XaJ (by omega),XaJ (by omega)]
section
variable {X:Cx} {pins:List (Addr×Obj)} {σ:St} {H:Hp} {s:Shared}
theorem Zbm (A:Around):A.in1.units=A.units+1:=rfl
theorem ZjX (I:Inv X pins σ H s) {A:Around} {vs us:List V} {ds es:List Dt} {ivs ius:List Value} (rv:Vals vs ivs) (ru:Vals us ius) (tv:IsDts X.K H vs ds) (tu:IsDts X.K H us es)
 (hc:∀ (i:Nat) (d e:Dt) (v u:V) (x y:Value),ds[i]?=some d→es[i]?=some e→RelV v x→RelV u y→IsDt X.K H v d→IsDt X.K H u e→EqAt A s x y (dec (d=e))) :
 ∀ j (h1:j<ivs.toArray.size) (h2:j<ius.toArray.size),EqAt A s ivs.toArray[j] ius.toArray[j] (dec (ds[j]?=es[j]?)):=by
 intro j h1 h2;have l1:=rv.length;have l2:=ru.length
 have h1':j<ivs.length:=by simpa using h1
 have h2':j<ius.length:=by simpa using h2
 obtain ⟨x,hx,rx⟩:=rv.get (i:=j) (x:=vs[j]'(by omega)) (Xab (by omega));obtain ⟨y,hy,ry⟩:=ru.get (i:=j) (x:=us[j]'(by omega)) (Xab (by omega));obtain ⟨d,hd,td⟩:=tv.get (i:=j) (v:=vs[j]'(by omega)) (Xab (by omega));obtain ⟨e,he,te⟩:=tu.get (i:=j) (v:=us[j]'(by omega)) (Xab (by omega))
 have ex:ivs.toArray[j]=x:=by
  rw [Xab h1'] at hx
  simpa using hx
 have ey:ius.toArray[j]=y:=by
  rw [Xab h2'] at hy
  simpa using hy
 rw [ex,ey,hd,he]
 have:=hc j d e _ _ x y hd he rx ry td te
 rw [Zb4 (p:=some d=some e) (q:=d=e) (by simp)];exact this
theorem Zip {ds es:List Dt}{n:Nat} (hn:n=ds.length) (hl:ds.length=es.length):(List.range n).all (fun j=>dec (ds[j]?=es[j]?))=dec (ds=es):=by
 subst hn
 by_cases h:ds=es
 · subst h
   rw [ZaH rfl,List.all_eq_true];exact fun i _=>ZaH rfl
 · rw [ZaP h,Bool.eq_false_iff]
   intro q;rw [List.all_eq_true] at q;exact h (Zio hl fun i hi=>dec_iff.mp (q i (List.mem_range.mpr hi)))
theorem Zlx (I:Inv X pins σ H s) {d e:Dt} {v u:V} {x y:Value} {A:Around} (h:Zfx d.kd e.kd=true) (td:IsDt X.K H v d) (te:IsDt X.K H u e) (rx:RelV v x) (ry:RelV u y) (hu:A.units<cLine):EqAt A s x y false∧RcAt A s x y false∧RcNeAt A s x y true:=by
 cases td with
 | non =>
   cases rx
   cases te with
   | non=>exact absurd h (by simp [Zfx,Dt.kd])
   | bl b =>
     cases ry;exact ⟨EqAt.none_bool _,RcAt.none_bool _,RcNeAt.none_bool _⟩
   | int b =>
     obtain ⟨t2,rfl⟩:=ry;exact ⟨EqAt.none_int _ _,RcAt.none_int _ _,RcNeAt.none_int _ _⟩
   | str b =>
     obtain ⟨t2,rfl⟩:=ry;exact ⟨EqAt.none_str _ _,RcAt.none_str _ _,RcNeAt.none_str _ _⟩
   | tup h2 t2 =>
     cases ry;obtain ⟨_,_,p2,_⟩:=I.tuple h2;exact ⟨EqAt.none_tuple  p2 hu,RcAt.none_tuple  p2 hu,RcNeAt.none_tuple  p2 hu⟩
   | lst h2 t2 =>
     cases ry;obtain ⟨_,_,p2,_⟩:=I.list h2;have p2:=p2.isList;exact ⟨EqAt.none_list  p2 hu,RcAt.none_list  p2 hu,RcNeAt.none_list  p2 hu⟩
 | bl a =>
   cases rx
   cases te with
   | non =>
     cases ry;exact ⟨EqAt.bool_none _,RcAt.bool_none _,RcNeAt.bool_none _⟩
   | bl b=>exact absurd h (by simp [Zfx,Dt.kd])
   | int b=>exact absurd h (by simp [Zfx,Dt.kd])
   | str b =>
     obtain ⟨t2,rfl⟩:=ry;exact ⟨EqAt.bool_str _ _ _,RcAt.bool_str _ _ _,RcNeAt.bool_str _ _ _⟩
   | tup h2 t2 =>
     cases ry;obtain ⟨_,_,p2,_⟩:=I.tuple h2;exact ⟨EqAt.bool_tuple _ p2 hu,RcAt.bool_tuple _ p2 hu,RcNeAt.bool_tuple _ p2 hu⟩
   | lst h2 t2 =>
     cases ry;obtain ⟨_,_,p2,_⟩:=I.list h2;have p2:=p2.isList;exact ⟨EqAt.bool_list _ p2 hu,RcAt.bool_list _ p2 hu,RcNeAt.bool_list _ p2 hu⟩
 | int a =>
   obtain ⟨t,rfl⟩:=rx
   cases te with
   | non =>
     cases ry;exact ⟨EqAt.int_none _ _,RcAt.int_none _ _,RcNeAt.int_none _ _⟩
   | bl b=>exact absurd h (by simp [Zfx,Dt.kd])
   | int b=>exact absurd h (by simp [Zfx,Dt.kd])
   | str b =>
     obtain ⟨t2,rfl⟩:=ry;exact ⟨EqAt.int_str _ _ _ _,RcAt.int_str _ _ _ _,RcNeAt.int_str _ _ _ _⟩
   | tup h2 t2 =>
     cases ry;obtain ⟨_,_,p2,_⟩:=I.tuple h2;exact ⟨EqAt.int_tuple _ _ p2 hu,RcAt.int_tuple _ _ p2 hu,RcNeAt.int_tuple _ _ p2 hu⟩
   | lst h2 t2 =>
     cases ry;obtain ⟨_,_,p2,_⟩:=I.list h2;have p2:=p2.isList;exact ⟨EqAt.int_list _ _ p2 hu,RcAt.int_list _ _ p2 hu,RcNeAt.int_list _ _ p2 hu⟩
 | str a =>
   obtain ⟨t,rfl⟩:=rx
   cases te with
   | non =>
     cases ry;exact ⟨EqAt.str_none _ _,RcAt.str_none _ _,RcNeAt.str_none _ _⟩
   | bl b =>
     cases ry;exact ⟨EqAt.str_bool _ _ _,RcAt.str_bool _ _ _,RcNeAt.str_bool _ _ _⟩
   | int b =>
     obtain ⟨t2,rfl⟩:=ry;exact ⟨EqAt.str_int _ _ _ _,RcAt.str_int _ _ _ _,RcNeAt.str_int _ _ _ _⟩
   | str b=>exact absurd h (by simp [Zfx,Dt.kd])
   | tup h2 t2 =>
     cases ry;obtain ⟨_,_,p2,_⟩:=I.tuple h2;exact ⟨EqAt.str_tuple _ _ p2 hu,RcAt.str_tuple _ _ p2 hu,RcNeAt.str_tuple _ _ p2 hu⟩
   | lst h2 t2 =>
     cases ry;obtain ⟨_,_,p2,_⟩:=I.list h2;have p2:=p2.isList;exact ⟨EqAt.str_list _ _ p2 hu,RcAt.str_list _ _ p2 hu,RcNeAt.str_list _ _ p2 hu⟩
 | tup h1 t1 =>
   cases rx;obtain ⟨_,_,p,_⟩:=I.tuple h1
   cases te with
   | non =>
     cases ry;exact ⟨EqAt.tuple_none  p hu,RcAt.tuple_none  p hu,RcNeAt.tuple_none  p hu⟩
   | bl b =>
     cases ry;exact ⟨EqAt.tuple_bool _ p hu,RcAt.tuple_bool _ p hu,RcNeAt.tuple_bool _ p hu⟩
   | int b =>
     obtain ⟨t2,rfl⟩:=ry;exact ⟨EqAt.tuple_int _ _ p hu,RcAt.tuple_int _ _ p hu,RcNeAt.tuple_int _ _ p hu⟩
   | str b =>
     obtain ⟨t2,rfl⟩:=ry;exact ⟨EqAt.tuple_str _ _ p hu,RcAt.tuple_str _ _ p hu,RcNeAt.tuple_str _ _ p hu⟩
   | tup h2 t2=>exact absurd h (by simp [Zfx,Dt.kd])
   | lst h2 t2 =>
     cases ry;obtain ⟨_,_,p2,_⟩:=I.list h2;have p2:=p2.isList;exact ⟨EqAt.tuple_list p p2 hu,RcAt.tuple_list p p2 hu,RcNeAt.tuple_list p p2 hu⟩
 | lst h1 t1 =>
   cases rx;obtain ⟨_,_,p,_⟩:=I.list h1;have p:=p.isList
   cases te with
   | non =>
     cases ry;exact ⟨EqAt.list_none  p hu,RcAt.list_none  p hu,RcNeAt.list_none  p hu⟩
   | bl b =>
     cases ry;exact ⟨EqAt.list_bool _ p hu,RcAt.list_bool _ p hu,RcNeAt.list_bool _ p hu⟩
   | int b =>
     obtain ⟨t2,rfl⟩:=ry;exact ⟨EqAt.list_int _ _ p hu,RcAt.list_int _ _ p hu,RcNeAt.list_int _ _ p hu⟩
   | str b =>
     obtain ⟨t2,rfl⟩:=ry;exact ⟨EqAt.list_str _ _ p hu,RcAt.list_str _ _ p hu,RcNeAt.list_str _ _ p hu⟩
   | tup h2 t2 =>
     cases ry;obtain ⟨_,_,p2,_⟩:=I.tuple h2;exact ⟨EqAt.list_tuple p p2 hu,RcAt.list_tuple p p2 hu,RcNeAt.list_tuple p p2 hu⟩
   | lst h2 t2=>exact absurd h (by simp [Zfx,Dt.kd])
theorem ZjY (I:Inv X pins σ H s) {d e:Dt} {v u:V} {x y:Value} {A:Around} (td:IsDt X.K H v d) (te:IsDt X.K H u e) (rx:RelV v x) (ry:RelV u y) (h:RcAt A s x y (dec (d=e))):EqAt A s x y (dec (d=e)):=by
 by_cases hxy:x=y
 · subst hxy
   have e1:=rx.inj ry;subst e1;rw [ZaH (IsDt.inj I td te)];exact EqAt.same _
 · intro prog w E Q hq
   unfold eqBool;refine Xbn ?_;refine wpAny_ite_split (fun hab=>absurd (eq_of_beq hab) hxy) (fun _=>?_)
   cases td with
   | non=>cases rx;exact Xbl (h prog w E _ (Xbo hq))
   | bl a=>cases rx;exact Xbl (h prog w E _ (Xbo hq))
   | int a=>obtain ⟨t,rfl⟩:=rx;exact Xbl (h prog w E _ (Xbo hq))
   | str a=>obtain ⟨t,rfl⟩:=rx;exact Xbl (h prog w E _ (Xbo hq))
   | tup _ _=>cases rx;exact Xbl (h prog w E _ (Xbo hq))
   | lst _ _=>cases rx;exact Xbl (h prog w E _ (Xbo hq))
theorem kd_ne {d e:Dt} (h:Zfx d.kd e.kd=true):¬d=e:=fun z=>by
 subst z;simp [Zfx] at h
mutual
theorem rcD (I:Inv X pins σ H s) {n:Nat} {d e:Dt} {v u:V} {x y:Value} {A:Around} (c:Cmp n d e) (td:IsDt X.K H v d) (te:IsDt X.K H u e) (rx:RelV v x) (ry:RelV u y) (hu:A.units+n<cLine):RcAt A s x y (dec (d=e))∧RcNeAt A s x y (!dec (d=e)):=by
 cases c with
 | non =>
   cases td;cases te;cases rx;cases ry;rw [ZaH rfl];exact ⟨RcAt.none_none,RcNeAt.none_none⟩
 | bl a b =>
   cases td;cases te;cases rx;cases ry;rw [←Zjj (a:=a) (b:=b) (by simp)];exact ⟨RcAt.bool_bool a b,RcNeAt.bool_bool a b⟩
 | int a b =>
   cases td;cases te;obtain ⟨t,rfl⟩:=rx;obtain ⟨t',rfl⟩:=ry;rw [←Zjj (a:=a) (b:=b) (by simp)];exact ⟨RcAt.int_int a t b t',RcNeAt.int_int a t b t'⟩
 | str a b =>
   cases td;cases te;obtain ⟨t,rfl⟩:=rx;obtain ⟨t',rfl⟩:=ry;rw [←Zjj (a:=a) (b:=b) (by simp)];exact ⟨RcAt.str_str a t b t',RcNeAt.str_str a t b t'⟩
 | @tup n ds es c =>
   cases td;cases te
   rename_i a vs h t b us h' t'
   cases rx;cases ry;obtain ⟨its,r,p,_⟩:=I.tuple h;obtain ⟨its',r',p',_⟩:=I.tuple h';have l1:=r.length;have l2:=r'.length;have l3:=t.length;have l4:=t'.length;have he:=ZjX (A:=A.in1) I r r' t t' (eqDs I c (by rw [Zbm];omega))
   have e:dec (Dt.tup ds=Dt.tup es)=((List.range (min its.toArray.size its'.toArray.size)).all (fun j=>dec (ds[j]?=es[j]?)) && its.toArray.size == its'.toArray.size):=by
    rw [Zb4 (p:=Dt.tup ds=Dt.tup es) (q:=ds=es) (by simp)];simp only [Xak]
    by_cases hl:ds.length=es.length
    · rw [show (its.length == its'.length)=true from beq_iff_eq.mpr (by omega),Bool.and_true,Zip (by omega) hl]
    · rw [show (its.length == its'.length)=false from beq_false_of_ne (by omega),Bool.and_false,ZaP fun z=>hl (by rw [z])]
   rw [e];exact ⟨RcAt.tuples (A:=A) p p' (by omega) he,RcNeAt.tuples (A:=A) p p' (by omega) he⟩
 | @lst n ds es c =>
   cases td;cases te
   rename_i a vs h t b us h' t'
   cases rx;cases ry;obtain ⟨its,r,p,_⟩:=I.list h;obtain ⟨its',r',p',_⟩:=I.list h';have l1:=r.length;have l2:=r'.length;have l3:=t.length;have l4:=t'.length
   by_cases hl:ds.length=es.length
   · have he:=ZjX (A:=A.in1) I r r' t t' (eqDs I c (by rw [Zbm];omega))
     rw [Zb4 (p:=Dt.lst ds=Dt.lst es) (q:=ds=es) (by simp),←Zip (n:=its.toArray.size) (by simp only [Xak];omega) hl];exact ⟨RcAt.lists (A:=A) p.isList p'.isList (by simp only [Xak];omega) (by omega) he,RcNeAt.lists (A:=A) p.isList p'.isList (by simp only [Xak];omega) (by omega) he⟩
   · rw [ZaP (show ¬Dt.lst ds=Dt.lst es from fun z=>hl (by cases z;rfl))]
     have hz:(its.toArray.size != its'.toArray.size)=true:=by simp only [Xak];rw [bne_iff_ne];omega
     exact ⟨RcAt.lists_lengths p.isList p'.isList hz (by omega),RcNeAt.lists_lengths p.isList p'.isList hz (by omega)⟩
 | apart h =>
   obtain ⟨_,h1,h2⟩:=Zlx (A:=A) I h td te rx ry (by omega);rw [ZaP (kd_ne h)];exact ⟨h1,h2⟩
theorem eqDs (I:Inv X pins σ H s) {n:Nat} {ds es:List Dt} {A:Around} (c:Cmps n ds es) (hu:A.units+n<cLine)
 (i:Nat) (d e:Dt) (v u:V) (x y:Value) (h:ds[i]?=some d) (h':es[i]?=some e) (rx:RelV v x) (ry:RelV u y) (td:IsDt X.K H v d) (te:IsDt X.K H u e):EqAt A s x y (dec (d=e)):=by
 cases c with
 | nil=>simp at h
 | nil'=>simp at h'
 | cons c t=>cases i with
   | zero =>
     simp at h h';subst h;subst h';have hrc:=rcD (A:=A) I c td te rx ry hu;exact ZjY I td te rx ry hrc.1
   | succ i=>exact eqDs I t hu i d e v u x y (by simpa using h) (by simpa using h') rx ry td te
end
theorem eqD (I:Inv X pins σ H s) {n:Nat} {d e:Dt} {v u:V} {x y:Value} {A:Around} (c:Cmp n d e) (td:IsDt X.K H v d) (te:IsDt X.K H u e) (rx:RelV v x) (ry:RelV u y) (hu:A.units+n<cLine):EqAt A s x y (dec (d=e)) :=
 ZjY I td te rx ry (rcD I c td te rx ry hu).1
end
section
variable {X:Cx}
def rEqD (K:XFg):R2:=fun x y H Q=>∃ n d e,Cmp n d e∧n≤60∧IsDt K H x d∧IsDt K H y e∧Q (.bl (dec (d=e))) H
def rNeD (K:XFg):R2:=fun x y H Q=>∃ n d e,Cmp n d e∧n≤60∧IsDt K H x d∧IsDt K H y e∧Q (.bl (!dec (d=e))) H
theorem Ziq (hu:X.A.units+64<cLine):OpR X (compareOp .Eq) (rEqD X.K):=by
 intro pins s σ H x y v u Q I rx ry h;obtain ⟨n,d,e,c,hn,td,te,q⟩:=h;exact (rcD (A:=X.A) I c td te rx ry (by omega)).1 _ _ _ _ ⟨.bl _,H,I,rfl,q⟩
theorem ZjZ (hu:X.A.units+64<cLine):OpR X (compareOp .NotEq) (rNeD X.K):=by
 intro pins s σ H x y v u Q I rx ry h;obtain ⟨n,d,e,c,hn,td,te,q⟩:=h;exact (rcD (A:=X.A) I c td te rx ry (by omega)).2 _ _ _ _ ⟨.bl _,H,I,rfl,q⟩
def rInD (K:XFg):R2:=fun x y H Q=>∃ n d ds a vs,(∀ e∈ds,Cmp n e d)∧n≤60∧IsDt K H x d∧y=.ref a∧SqL K H a vs∧IsDts K H vs ds∧Q (.bl (dec (d∈ds))) H
def Zly (K:XFg):R2:=fun x y H Q=>∃ n d ds a vs,(∀ e∈ds,Cmp n e d)∧n≤60∧IsDt K H x d∧y=.ref a∧SqL K H a vs∧IsDts K H vs ds∧Q (.bl (!dec (d∈ds))) H
theorem Zj0 {pins:List (Addr×Obj)} {σ:St} {H:Hp} {s:Shared} (I:Inv X pins σ H s) {n:Nat} {d:Dt} {ds:List Dt} {vs:List V} {its:List Value} {v:V} {x:Value} {A:Around} (r:Vals vs its) (t:IsDts X.K H vs ds) (hc:∀ e∈ds,Cmp n e d) (td:IsDt X.K H v d) (rx:RelV v x) (hu:A.units+n<cLine) :
 (∀ y,y∈its.toArray→EqAt A s y x (dec (∃ u,RelV u y∧IsDt X.K H u d)))∧its.toArray.any (fun y=>dec (∃ u,RelV u y∧IsDt X.K H u d))=dec (d∈ds):=by
 have ll:=r.length;have lt:=t.length
 have one:∀ y,y∈its→∃ e∈ds,∃ u,RelV u y∧IsDt X.K H u e:=fun y hy=>by
  obtain ⟨i,hi,e⟩:=XaG.mp hy;obtain ⟨y',hy',ry⟩:=r.get (i:=i) (x:=vs[i]'(by omega)) (Xab (by omega));obtain ⟨e',he,te⟩:=t.get (i:=i) (v:=vs[i]'(by omega)) (Xab (by omega));rw [Xab hi,e] at hy';cases hy';exact ⟨e',Xah he,_,ry,te⟩
 refine ⟨fun y hy=>?_,?_⟩
 · obtain ⟨e,he,u,ru,te⟩:=one y (by simpa using hy)
   have:=eqD (A:=A) I (hc e he) te td ru rx hu
   rw [Zb4 (p:=∃ u,RelV u y∧IsDt X.K H u d) (q:=e=d) ⟨fun ⟨u',ru',te'⟩=>by
    have e1:=ru.inj ru';subst e1
    exact IsDt.inj I te te',fun z=>⟨u,ru,by rw [←z];exact te⟩⟩]
   exact this
 · by_cases hm:d∈ds
   · rw [ZaH hm,Array.any_eq_true]
     obtain ⟨i,hi,e⟩:=XaG.mp hm;obtain ⟨u,hu',te⟩:=t.get' (i:=i) (d:=d) (by rw [Xab hi,e]);obtain ⟨y,hy,ry⟩:=r.get hu';have hi':i<its.length:=(Xae.mp hy).1;refine ⟨i,by simpa using hi',?_⟩
     have:its.toArray[i]'(by simpa using hi')=y:=by
      rw [Xab hi'] at hy
      simpa using hy
     rw [this];exact ZaH ⟨u,ry,te⟩
   · rw [ZaP hm,Bool.eq_false_iff]
     intro q;obtain ⟨i,hi,q⟩:=Array.any_eq_true.mp q;obtain ⟨u,ru,te⟩:=dec_iff.mp q;obtain ⟨e,he,u',ru',te'⟩:=one (its.toArray[i]) (by simp);have e1:=ru.inj ru';subst e1;have e2:=IsDt.inj I te te';subst e2;exact hm he
theorem op_inD (hu:X.A.units+64<cLine):OpR X (compareOp .In) (rInD X.K):=by
 intro pins s σ H x y v u Q I rx ry h;obtain ⟨n,d,ds,a,vs,hc,hn,td,rfl,hq,t,q⟩:=h;cases ry;obtain ⟨its,r,p,_⟩:=I.list hq;obtain ⟨h1,h2⟩:=Zj0 (A:=X.A.in1) I r t hc td rx (by rw [Zbm];omega);exact in_listAt _ p.isList h1 (by rw [h2];exact ⟨.bl _,H,I,rfl,q⟩)
theorem Zir (hu:X.A.units+64<cLine):OpR X (compareOp .NotIn) (Zly X.K):=by
 intro pins s σ H x y v u Q I rx ry h;obtain ⟨n,d,ds,a,vs,hc,hn,td,rfl,hq,t,q⟩:=h;cases ry;obtain ⟨its,r,p,_⟩:=I.list hq;obtain ⟨h1,h2⟩:=Zj0 (A:=X.A.in1) I r t hc td rx (by rw [Zbm];omega);exact notIn_listAt _ p.isList h1 (by rw [h2];exact ⟨.bl _,H,I,rfl,q⟩)
end
end L2
namespace Ord
variable {α:Type} [DecidableEq α]
inductive Path (ps:List (α×α)):α→α→Prop where
 | one {a b}:(a,b)∈ps→Path ps a b
 | snoc {a b c}:Path ps a b→(b,c)∈ps→Path ps a c
theorem Path.snd {ps:List (α×α)} {a b:α} (h:Path ps a b):b∈ps.map (·.2):=by
 cases h with
 | one e=>exact Xai.mpr ⟨_,e,rfl⟩
 | snoc _ e=>exact Xai.mpr ⟨_,e,rfl⟩
theorem Path.fst {ps:List (α×α)} {a b:α} (h:Path ps a b):a∈ps.map (·.1):=by
 induction h with
 | one e=>exact Xai.mpr ⟨_,e,rfl⟩
 | snoc _ _ ih=>exact ih
def ZaX (ps:List (α×α)) (a:α):List α:=(ps.filter (fun p=>decide (p.1=a))).map (·.2)
theorem mem_worseOf {ps:List (α×α)} {a b:α}:b∈ZaX ps a↔(a,b)∈ps:=by
 unfold ZaX;rw [Xai]
 constructor
 · rintro ⟨⟨x,y⟩,h,rfl⟩
   obtain ⟨h1,h2⟩:=XaK.mp h;have e:x=a:=Xa8 h2;subst e;exact h1
 · intro h
   exact ⟨(a,b),XaK.mpr ⟨h,Xa6 rfl⟩,rfl⟩
theorem Zfm {ps:List (α×α)} {x y a:α}:ZaX (ps++[(x,y)]) a=if x=a then ZaX ps a++[y] else ZaX ps a:=by
 unfold ZaX;rw [XaS]
 by_cases e:x=a
 · simp [e]
 · simp [e]
structure Tree (ps:List (α×α)) (st:α) (cf:List (α×α)):Prop where
 nd:(cf.map (·.1)).Nodup
 par:∀ (i:Nat) (p:α×α),cf[i]?=some p→(p.2,p.1)∈ps∧(p.2=st∨∃ (j:Nat) (q:α×α),j<i∧cf[j]?=some q∧q.1=p.2)
theorem Tree.nil {ps:List (α×α)} {st:α}:Tree ps st []:=⟨List.nodup_nil,fun i p h=>by simp at h⟩
theorem Ze2 {l:List α}{x:α} (h:l.Nodup) (hx:x ∉ l):(l++[x]).Nodup:=by
 rw [List.nodup_append];refine ⟨h,by simp,?_⟩;intro a ha b hb e;rw [Xaj] at hb;subst hb;subst e;exact hx ha
theorem Tree.snoc {ps:List (α×α)} {st:α} {cf:List (α×α)} (T:Tree ps st cf) {w b:α} (hw:w ∉ cf.map (·.1)) (hb:(b,w)∈ps) (hp:b=st∨b∈cf.map (·.1)):Tree ps st (cf++[(w,b)]):=by
 refine ⟨?_,fun i p h=>?_⟩
 · rw [Xad]
   exact Ze2 T.nd hw
 · by_cases hi:i<cf.length
   · rw [Xat hi] at h
     obtain ⟨h1,h2⟩:=T.par i p h;refine ⟨h1,?_⟩
     rcases h2 with h2 | ⟨j,q,hj,hq,e⟩
     · exact .inl h2
     · exact .inr ⟨j,q,hj,by rw [Xat (by omega)];exact hq,e⟩
   · have hi':i=cf.length:=by
      have:=(Xae.mp h).1
      simp at this;omega
     subst hi'
     have e:p=(w,b):=by simpa using h.symm
     subst e;refine ⟨hb,?_⟩
     rcases hp with hp | hp
     · exact .inl hp
     · obtain ⟨q,hq,e⟩:=Xai.mp hp
       obtain ⟨j,hj,e2⟩:=XaG.mp hq;refine .inr ⟨j,q,hj,?_,e⟩;rw [Xat hj];exact Xae.mpr ⟨hj,e2⟩
theorem Tree.path {ps:List (α×α)} {st:α} {cf:List (α×α)} (T:Tree ps st cf):∀ (n i:Nat) (p:α×α),i<n→cf[i]?=some p→Path ps st p.1:=by
 intro n
 induction n with
 | zero=>intro i p h;omega
 | succ n ih =>
   intro i p hi h;obtain ⟨h1,h2⟩:=T.par i p h
   rcases h2 with h2 | ⟨j,q,hj,hq,e⟩
   · rw [h2] at h1;exact .one h1
   · have:=ih j q (by omega) hq
     rw [e] at this;exact .snoc this h1
theorem Tree.path_mem {ps:List (α×α)} {st:α} {cf:List (α×α)} (T:Tree ps st cf) {k:α} (h:k∈cf.map (·.1)):Path ps st k:=by
 obtain ⟨q,hq,e⟩:=Xai.mp h;obtain ⟨j,hj,e2⟩:=XaG.mp hq
 have:=T.path (j+1) j q (by omega) (Xae.mpr ⟨hj,e2⟩)
 rw [e] at this;exact this
def Full (ps:List (α×α)) (st:α) (cf:List (α×α)):Prop:=∀ b,(b=st∨b∈cf.map (·.1))→∀ w,(b,w)∈ps→w∈cf.map (·.1)
theorem Tree.iff {ps:List (α×α)} {st:α} {cf:List (α×α)} (T:Tree ps st cf) (F:Full ps st cf) {k:α}:k∈cf.map (·.1)↔Path ps st k:=by
 constructor
 · exact T.path_mem
 · intro h
   induction h with
   | one e=>exact F _ (.inl rfl) _ e
   | snoc _ e ih=>exact F _ (.inr ih) _ e
theorem Zfy {l m:List α} (h:l.Nodup) (hs:∀ x∈l,x∈m):l.length≤m.length:=by
 induction l generalizing m with
 | nil=>simp
 | cons x r ih =>
   have hx:=hs x (by simp);have hn:=(XaC.mp h)
   have:r.length≤(m.erase x).length:=ih hn.2 (fun y hy=>by
    have hy':=hs y (by simp [hy]);have ne:y≠x:=fun e=>hn.1 (e ▸ hy)
    exact (List.mem_erase_of_ne ne).mpr hy')
   rw [List.length_erase_of_mem hx] at this;have hp:0<m.length:=List.length_pos_of_mem hx
   simp;omega
theorem Tree.length {ps:List (α×α)} {st:α} {cf:List (α×α)} (T:Tree ps st cf):cf.length≤ps.length:=by
 have:=Zfy T.nd (m:=ps.map (·.2)) (fun x hx=>(T.path_mem hx).snd)
 simpa using this
structure Lay (ps:List (α×α)) (st:α) (cf:List (α×α)) (rest further:List α):Prop where
 tree:Tree ps st cf
 inR:∀ b∈rest,b=st∨b∈cf.map (·.1)
 inF:∀ b∈further,b∈cf.map (·.1)
 full:∀ b,(b=st∨b∈cf.map (·.1))→b∈rest∨b∈further∨∀ w,(b,w)∈ps→w∈cf.map (·.1)
theorem Lay.start {ps:List (α×α)} {st:α}:Lay ps st [] [st] [] :=
 ⟨Tree.nil,fun b hb=>.inl (by simpa using hb),fun b hb=>by simp at hb,fun b hb=>.inl (by simpa using hb)⟩
theorem Lay.next {ps:List (α×α)} {st:α} {cf:List (α×α)} {further:List α} (L:Lay ps st cf [] further):Lay ps st cf further [] :=
 ⟨L.tree,fun b hb=>.inr (L.inF b hb),fun b hb=>by simp at hb,fun b hb=>by
  rcases L.full b hb with h | h | h
  · simp at h
  · exact .inl h
  · exact .inr (.inr h)⟩
theorem Lay.done {ps:List (α×α)} {st:α} {cf:List (α×α)} (L:Lay ps st cf [] []):Full ps st cf:=fun b hb=>by
 rcases L.full b hb with h | h | h
 · simp at h
 · simp at h
 · exact h
structure LayB (ps:List (α×α)) (st b:α) (pre:List α) (cf:List (α×α)) (rest further:List α):Prop where
 tree:Tree ps st cf
 inR:∀ c∈b :: rest,c=st∨c∈cf.map (·.1)
 inF:∀ c∈further,c∈cf.map (·.1)
 pre:∀ w∈pre,w∈cf.map (·.1)
 full:∀ c,(c=st∨c∈cf.map (·.1))→c=b∨c∈rest∨c∈further∨∀ w,(c,w)∈ps→w∈cf.map (·.1)
theorem Lay.into {ps:List (α×α)} {st b:α} {cf:List (α×α)} {rest further:List α} (L:Lay ps st cf (b :: rest) further):LayB ps st b [] cf rest further :=
 ⟨L.tree,L.inR,L.inF,fun w hw=>by simp at hw,fun c hc=>by
  rcases L.full c hc with h | h | h
  · rcases Xam.mp h with h | h
    · exact .inl h
    · exact .inr (.inl h)
  · exact .inr (.inr (.inl h))
  · exact .inr (.inr (.inr h))⟩
theorem LayB.out {ps:List (α×α)} {st b:α} {cf:List (α×α)} {rest further:List α} (L:LayB ps st b (ZaX ps b) cf rest further):Lay ps st cf rest further :=
 ⟨L.tree,fun c hc=>L.inR c (by simp [hc]),L.inF,fun c hc=>by
  rcases L.full c hc with h | h | h | h
  · subst h
    exact .inr (.inr fun w hw=>L.pre w (mem_worseOf.mpr hw))
  · exact .inl h
  · exact .inr (.inl h)
  · exact .inr (.inr h)⟩
theorem LayB.known {ps:List (α×α)} {st b w:α} {pre:List α} {cf:List (α×α)} {rest further:List α} (L:LayB ps st b pre cf rest further) (hw:w∈cf.map (·.1)):LayB ps st b (pre++[w]) cf rest further :=
 ⟨L.tree,L.inR,L.inF,fun x hx=>by
  rcases Xaf.mp hx with h | h
  · exact L.pre x h
  · rw [Xaj] at h;subst h;exact hw,L.full⟩
theorem LayB.more {ps:List (α×α)} {st b w:α} {pre:List α} {cf:List (α×α)} {rest further:List α} (L:LayB ps st b pre cf rest further) (hw:w ∉ cf.map (·.1)) (hb:(b,w)∈ps) :
 LayB ps st b (pre++[w]) (cf++[(w,b)]) rest (further++[w]):=by
 have up:∀ c,c∈cf.map (·.1)→c∈(cf++[(w,b)]).map (·.1):=fun c hc=>by rw [Xad];exact XaA _ hc
 have upw:w∈(cf++[(w,b)]).map (·.1):=by rw [Xad];exact Xan _ (by simp)
 refine ⟨L.tree.snoc hw hb (L.inR b (by simp)),fun c hc=>(L.inR c hc).imp id (up c),fun c hc=>?_,fun c hc=>?_,fun c hc=>?_⟩
 · rcases Xaf.mp hc with h | h
   · exact up c (L.inF c h)
   · rw [Xaj] at h;subst h;exact upw
 · rcases Xaf.mp hc with h | h
   · exact up c (L.pre c h)
   · rw [Xaj] at h;subst h;exact upw
 · have hc':c=st∨c∈cf.map (·.1)∨c=w:=by
    rcases hc with h | h
    · exact .inl h
    · rw [Xad] at h
      rcases Xaf.mp h with h | h
      · exact .inr (.inl h)
      · exact .inr (.inr (by simpa using h))
   have old:(c=st∨c∈cf.map (·.1))→c=b∨c∈rest∨c∈further++[w]∨∀ x,(c,x)∈ps→x∈(cf++[(w,b)]).map (·.1):=fun hc=>by
    rcases L.full c hc with h | h | h | h
    · exact .inl h
    · exact .inr (.inl h)
    · exact .inr (.inr (.inl (XaA _ h)))
    · exact .inr (.inr (.inr fun x hx=>up x (h x hx)))
   rcases hc' with h | h | h
   · exact old (.inl h)
   · exact old (.inr h)
   · exact .inr (.inr (.inl (by rw [h];exact Xan _ (by simp))))
end Ord
namespace War
end War
namespace Ord
variable {α:Type} [DecidableEq α]
theorem ZmC {cf:List (α×α)} {w b:α} (h:cf.lookup w=some b):(w,b)∈cf:=by
 induction cf with
 | nil=>simp at h
 | cons p r ih =>
   obtain ⟨x,y⟩:=p;rw [XaI] at h
   by_cases e:w=x
   · subst e
     simp at h;subst h;exact Xal
   · have hb:(w == x)=false:=beq_false_of_ne e
     rw [hb] at h;exact Xap _ (ih h)
end Ord
namespace L2
open PySem PySem.Spec PyProof.Rows Ord
abbrev prD (p:Str×Str):Dt:=.tup [.str p.1,.str p.2]
def Prs (K:XFg) (H:Hp) (a:Addr) (ps:List (Str×Str)):Prop:=∃ vs,SqL K H a vs∧IsDts K H vs (ps.map prD)
theorem Zlz {ls:List Str}{i:Nat}{x:V} (h:(ls.map V.str)[i]?=some x):∃ z,ls[i]?=some z∧x=V.str z:=by
 rw [Xag] at h;obtain ⟨b,h1,h2⟩:=XaV.mp h;exact ⟨b,h1,h2.symm⟩
theorem ZgZ:([]:List V).length+1≤sizeLine:=by decide
theorem ZaF:([]:List V).length+1+1≤sizeLine:=by decide
theorem Prs.same {K:XFg}{H H':Hp}{a:Addr}{ps:List (Str×Str)} (e:Same H H') (h:Prs K H a ps):Prs K H' a ps:=by
 obtain ⟨vs,h1,h2⟩:=h;exact ⟨vs,e.seq h1,h2.same e⟩
theorem pair_at {K:XFg}{H:Hp}{v:V}{p:Str×Str} (h:IsDt K H v (prD p)):∃ t,v=.ref t∧SqT K H t [.str p.1,.str p.2]:=by
 cases h with
 | tup h t =>
   cases t with
   | cons h1 t =>
     cases t with
     | cons h2 t =>
       cases t;cases h1;cases h2;exact ⟨_,rfl,h⟩
theorem IsDts.pairs_get {K:XFg}{H:Hp}{vs:List V}{ps:List (Str×Str)} (h:IsDts K H vs (ps.map prD)) {i:Nat} {v:V} (hv:vs[i]?=some v):∃ p t,ps[i]?=some p∧v=.ref t∧SqT K H t [.str p.1,.str p.2]:=by
 obtain ⟨d,hd,hi⟩:=h.get hv;rw [Xag] at hd
 cases e:ps[i]? with
 | none=>rw [e] at hd;cases hd
 | some p =>
   rw [e] at hd;cases hd;obtain ⟨t,h1,h2⟩:=pair_at hi;exact ⟨p,t,rfl,h1,h2⟩
abbrev kvR (ks:List (Str×Addr)):List (Key×V):=ks.map fun p=>(Sum.inr p.1,V.ref p.2)
abbrev kvS (cf:List (Str×Str)):List (Key×V):=cf.map fun p=>(Sum.inr p.1,V.str p.2)
theorem Zjk {β:Type} (g:β→V):∀ (ks:List (Str×β)) (k:Str),valV (ks.map fun p=>((Sum.inr p.1:Key),g p.2)) (Sum.inr k)=(ks.lookup k).map g
 | [],_=>rfl
 | p :: r, k => by
   obtain ⟨x,y⟩:=p;rw [Xao,XaI]
   by_cases e:k=x
   · subst e
     rw [Zbr rfl]
     simp
   · have e':¬((Sum.inr x:Key)=Sum.inr k):=fun z=>e (Sum.inr.inj z).symm
     rw [Zbs e',Zjk g r k];have hb:(k == x)=false:=beq_false_of_ne e;rw [hb]
theorem ZmD (ks:List (Str×Addr)) (k:Str):valV (kvR ks) (Sum.inr k)=(ks.lookup k).map V.ref:=Zjk V.ref ks k
theorem val_S (cf:List (Str×Str)) (k:Str):valV (kvS cf) (Sum.inr k)=(cf.lookup k).map V.str:=Zjk V.str cf k
theorem ZfU {β:Type}{ks:List (Str×β)} {k:Str} {a:β} (h:ks.lookup k=some a):(k,a)∈ks:=by
 induction ks with
 | nil=>simp at h
 | cons p r ih =>
   obtain ⟨x,y⟩:=p;rw [XaI] at h
   by_cases e:k=x
   · subst e
     simp at h;subst h;exact Xal
   · have hb:(k == x)=false:=beq_false_of_ne e
     rw [hb] at h;exact Xap _ (ih h)
theorem Ze3 {β:Type}{ks:List (Str×β)} {k:Str} (h:ks.lookup k=none):k ∉ ks.map (·.1):=by
 induction ks with
 | nil=>simp
 | cons p r ih =>
   obtain ⟨x,y⟩:=p;rw [XaI] at h
   by_cases e:k=x
   · subst e;simp at h
   · have hb:(k == x)=false:=beq_false_of_ne e
     rw [hb] at h;intro z
     rcases Xam.mp z with z | z
     · exact e z
     · exact ih h z
structure WBB (H:Hp) (d:Addr) (ps:List (Str×Str)) (ks:List (Str×Addr)):Prop where
 dict:H d=some (.dK (kvR ks))
 nd:(ks.map (·.1)).Nodup
 lst:∀ p∈ks,H p.2=some (.lst ((ZaX ps p.1).map V.str))
 all:∀ p∈ps,p.1∈ks.map (·.1)
 adr:(ks.map (·.2)).Nodup
theorem WBB.same {H H':Hp}{d:Addr}{ps:List (Str×Str)} {ks:List (Str×Addr)} (e:Same H H') (W:WBB H d ps ks):WBB H' d ps ks :=
 ⟨e _ _ W.dict,W.nd,fun p hp=>e _ _ (W.lst p hp),W.all,W.adr⟩
theorem WBB.ne {H:Hp}{d:Addr}{ps:List (Str×Str)} {ks:List (Str×Addr)} (W:WBB H d ps ks) {p:Str×Addr} (hp:p∈ks):p.2≠d:=ZfN (W.lst p hp) W.dict (by intro z;cases z)
theorem WBB.start {H:Hp}{d:Addr} (h:H d=some (.dK [])):WBB H d [] []:=⟨h,List.nodup_nil,fun p hp=>by simp at hp,fun p hp=>by simp at hp,List.nodup_nil⟩
theorem WBB.worse {H:Hp}{d:Addr}{ps:List (Str×Str)} {ks:List (Str×Addr)} (W:WBB H d ps ks) {b:Str}:(∀ a,ks.lookup b=some a→H a=some (.lst ((ZaX ps b).map V.str)))∧(ks.lookup b=none→ZaX ps b=[]):=by
 refine ⟨fun a h=>W.lst _ (ZfU h),fun h=>?_⟩
 cases e:ZaX ps b with
 | nil=>rfl
 | cons w r =>
   have:w∈ZaX ps b:=by rw [e];exact Xal
   exact absurd (W.all _ (mem_worseOf.mp this)) (Ze3 h)
theorem WBB.known {H:Hp}{d a:Addr}{ps:List (Str×Str)} {ks:List (Str×Addr)} (W:WBB H d ps ks) {b w:Str} (h:ks.lookup b=some a):WBB (upd H a (.lst ((ZaX ps b).map V.str++[.str w]))) d (ps++[(b,w)]) ks:=by
 have hm:=ZfU h;refine ⟨by rw [Zah (W.ne hm).symm];exact W.dict,W.nd,fun p hp=>?_,fun p hp=>?_,W.adr⟩
 · rw [Zfm]
   by_cases e:b=p.1
   · rw [Xbf e]
     have ep:p=(b,a):=by
      obtain ⟨i,hi,e1⟩:=XaG.mp hp;obtain ⟨j,hj,e2⟩:=XaG.mp hm
      have h1:(ks.map (·.1))[i]'(by simpa using hi)=(ks.map (·.1))[j]'(by simpa using hj):=by simp [e1,e2,e]
      have h2:=(List.getElem_inj W.nd).mp h1;subst h2;rw [←e1,e2]
     subst ep;rw [upd_same,Xad];rfl
   · rw [Xbe e]
     have na:p.2≠a:=fun z=>by
      obtain ⟨i,hi,e1⟩:=XaG.mp hp;obtain ⟨j,hj,e2⟩:=XaG.mp hm
      have h1:(ks.map (·.2))[i]'(by simpa using hi)=(ks.map (·.2))[j]'(by simpa using hj):=by simp [e1,e2,z]
      have h2:=(List.getElem_inj W.adr).mp h1;subst h2;rw [e1] at e2;exact e (by rw [e2])
     rw [Zah na];exact W.lst p hp
 · rcases Xaf.mp hp with hp | hp
   · exact W.all p hp
   · rw [Xaj] at hp;subst hp
     exact Xai.mpr ⟨_,hm,rfl⟩
theorem WBB.more {H:Hp}{d a:Addr}{ps:List (Str×Str)} {ks:List (Str×Addr)} (W:WBB H d ps ks) {b w:Str} (h:ks.lookup b=none) (ha:H a=none):WBB (upd (upd (upd H a (.lst [])) d (.dK (putK (kvR ks) (Sum.inr b) (.ref a)))) a (.lst ([]++[.str w]))) d (ps++[(b,w)]) (ks++[(b,a)]):=by
 have nda:d≠a:=Zac W.dict ha;have hn:=Ze3 h
 have hv:valV (kvR ks) (Sum.inr b)=none:=by rw [ZmD,h];rfl
 refine ⟨?_,?_,fun p hp=>?_,fun p hp=>?_,?_⟩
 · rw [Zah nda,upd_same,ZjQ _ hv]
   simp [kvR]
 · rw [Xad];exact Ze2 W.nd hn
 · rw [Zfm]
   rcases Xaf.mp hp with hp | hp
   · have e:¬b=p.1:=fun z=>hn (z ▸ Xai.mpr ⟨p,hp,rfl⟩)
     have na:p.2≠a:=Zac (W.lst p hp) ha;rw [Xbe e,Zah na,Zah (W.ne hp),Zah na];exact W.lst p hp
   · rw [Xaj] at hp;subst hp
     rw [Xbf rfl,W.worse.2 h,upd_same];rfl
 · rw [Xad]
   rcases Xaf.mp hp with hp | hp
   · exact XaA _ (W.all p hp)
   · rw [Xaj] at hp;subst hp
     exact Xan _ (by simp)
 · rw [Xad]
   refine Ze2 W.adr fun z=>?_;obtain ⟨p,hp,e⟩:=Xai.mp z;exact Zac (W.lst p hp) ha e
theorem IsDts.of_get {K:XFg}{H:Hp}:∀ {vs:List V}{ds:List Dt},vs.length=ds.length→(∀ (n:Nat) v d,vs[n]?=some v→ds[n]?=some d→IsDt K H v d)→IsDts K H vs ds
 | [],[],_,_=>.nil
 | v :: vs,d :: ds,hl,h=>.cons (h 0 v d rfl rfl) (IsDts.of_get (by simpa using hl) fun n x y e1 e2=>h (n+1) x y (by simpa using e1) (by simpa using e2))
structure Tups (H:Hp) (ts:List Addr) (ps:List (Str×Str)):Prop where
 len:ts.length=ps.length
 at_:∀ (n:Nat) t p,ts[n]?=some t→ps[n]?=some p→H t=some (.tup [.str p.1,.str p.2])
theorem Tups.nil {H:Hp}:Tups H [] []:=⟨rfl,fun n t p h=>by simp at h⟩
theorem Tups.same {H H':Hp}{ts:List Addr}{ps:List (Str×Str)} (e:Same H H') (h:Tups H ts ps):Tups H' ts ps:=⟨h.len,fun n t p h1 h2=>e _ _ (h.at_ n t p h1 h2)⟩
theorem Tups.dts {K:XFg}{H:Hp}{ts:List Addr}{ps:List (Str×Str)} (h:Tups H ts ps):IsDts K H (ts.map V.ref) (ps.map prD):=by
 refine IsDts.of_get (by simpa using h.len) fun n v d e1 e2=>?_;rw [Xag] at e1 e2;obtain ⟨t,h1,rfl⟩:=XaV.mp e1;obtain ⟨p,h2,rfl⟩:=XaV.mp e2;exact .tup (SqT.of (h.at_ n t p h1 h2)) (.cons (.str _) (.cons (.str _) .nil))
theorem Tups.prs {K:XFg}{H:Hp}{a:Addr}{ts:List Addr}{ps:List (Str×Str)} (h:Tups H ts ps) (e:H a=some (.lst (ts.map V.ref))):Prs K H a ps:=⟨_,SqL.of e,h.dts⟩
theorem Tups.ne {H:Hp}{a:Addr}{xs:List V}{ts:List Addr}{ps:List (Str×Str)} (h:Tups H ts ps) (e:H a=some (.lst xs)):a ∉ ts:=fun z=>by
 obtain ⟨n,hn,e1⟩:=XaG.mp z
 have hn':n<ps.length:=by rw [←h.len];exact hn
 have:=h.at_ n a ps[n] (by rw [Xab hn,e1]) (Xab hn')
 rw [e] at this;cases this
theorem Tups.upd {H:Hp}{a:Addr}{o:HO}{ts:List Addr}{ps:List (Str×Str)} (h:Tups H ts ps) (e:a ∉ ts):Tups (upd H a o) ts ps:=⟨h.len,fun n t p h1 h2=>by
 have ne:t≠a:=fun z=>by
  subst z;exact e (Xah h1)
 rw [L2.Zah ne]
 exact h.at_ n t p h1 h2⟩
theorem Tups.snoc {H:Hp}{t:Addr}{ts:List Addr}{ps:List (Str×Str)} {p:Str×Str} (h:Tups H ts ps) (e:H t=some (.tup [.str p.1,.str p.2])):Tups H (ts++[t]) (ps++[p]):=by
 refine ⟨by rw [Xac,Xac,h.len];rfl,fun n t' p' h1 h2=>?_⟩
 by_cases hn:n<ts.length
 · rw [Xat hn] at h1
   rw [Xat (by rw [←h.len];exact hn)] at h2;exact h.at_ n t' p' h1 h2
 · have hn2:n=ts.length:=by
    have:=(Xae.mp h1).1
    rw [Xac,Xau] at this;omega
   subst hn2;rw [Xay (XaW _)] at h1;rw [Xay (by rw [h.len];exact XaW _)] at h2;simp at h1;simp [h.len] at h2;subst h1;subst h2;exact e
theorem Za3 {K:XFg}{a:Addr}{xs:List V}{k:Nat}{caps:List Nat}{g:TG}{te:TE}{σ:St}{H1:Hp}{Q:Addr→Hp→Prop} (Pv:Addr→Nat→List V→Hp→Prop)
 (h0:∀ D,H1 D=none→Pv D 0 [] (upd H1 D (.lst []))) (hq:∀ D i ys H2,Pv D i ys H2→SqL K H2 a xs)
 (hs:∀ D i x ys H2 (R:VK),H1 D=none→xs[i]?=some x→Pv D i ys H2→(∀ y H6,H6 D=some (.lst ys)→ys.length<sizeLine→Pv D (i+1) (ys++[y]) (upd H6 D (.lst (ys++[y])))→R y H6)→g x (ZbJ k caps σ) H2 fun σ4 H4=>te σ4 H4 R)
 (hd:∀ D ys H2,H1 D=none→Pv D xs.length ys H2→Q D H2) :
 ∀ D,H1 D=none→∃ W:Nat→Nat→List V→Hp→Prop,(∃ m,W 0 m [] (upd H1 D (.lst [])))∧∀ i m ys H2,W i m ys H2 →
  ((Itl K a).stop i H2∧Q D H2)∨((Itl K a).go i H2∧∀ x H3,(Itl K a).yld i H2 x H3→g x (ZbJ k caps σ) H3 fun σ4 H4=>tYes σ4 H4 fun b H5 =>
   if b=true then te σ4 H5 fun y H6=>H6 D=some (.lst ys)∧ys.length<sizeLine∧∃ m',m' < m∧W (i+1) m' (ys++[y]) (upd H6 D (.lst (ys++[y]))) else ∃ m',m' < m∧W (i+1) m' ys H5):=by
 intro D hD;refine ⟨fun i m ys H2=>m=xs.length - i∧i≤xs.length∧Pv D i ys H2,⟨xs.length,rfl,Xa1 _,h0 D hD⟩,?_⟩;rintro i m ys H2 ⟨rfl,hi,p⟩;have q2:=hq D i ys H2 p
 by_cases hlt:i<xs.length
 · refine .inr ⟨⟨xs,xs[i],q2,by simp [hlt]⟩,fun x H3 y=>?_⟩
   obtain ⟨rfl,y⟩:=y;have hx:=y xs q2;refine hs D i x ys H3 _ hD hx p fun v H6 e6 hz p6=>?_;exact ⟨e6,hz,xs.length - (i+1),by omega,rfl,hlt,p6⟩
 · have e:i=xs.length:=by omega
   subst e;exact .inl ⟨⟨xs,q2,XaW _⟩,hd D ys H2 hD p⟩
theorem ObjOk.ex {P:Program}{w:World}{H:Hp}{h:Heap}{a:Addr}{o:HO} (x:ObjOk P w H h a o):∃ u,h.get? a=some u:=by
 cases o with
 | lst xs=>obtain ⟨_,_,_,_,e⟩:=x;exact ⟨_,e⟩
 | tup xs=>obtain ⟨_,_,_,u,e,_⟩:=x;exact ⟨u,e⟩
 | dK kvs=>obtain ⟨_,_,_,_,u,_,_,e,_⟩:=x;exact ⟨u,e⟩
 | dT kvs=>obtain ⟨_,_,_,_,u,_,_,e,_⟩:=x;exact ⟨u,e⟩
 | set S n=>obtain ⟨u,_,_,_,e,_⟩:=x;exact ⟨u,e⟩
 | ins C dx fs=>obtain ⟨_,_,_,e,_⟩:=x;exact ⟨_,e⟩
 | own y=>exact x
 | xd fs=>obtain ⟨_,⟨u,_,_,e,_⟩,_⟩:=x;exact ⟨u,e⟩
 | rng lo hi=>obtain ⟨_,_,_,e⟩:=x;exact ⟨_,e⟩
 | frz ob u=>obtain ⟨e,_⟩:=x;exact ⟨_,e⟩
 | tbl ps=>exact ⟨_,(show h.get? a=some _ from x)⟩
 | met f y=>exact ⟨_,(show h.get? a=some _ from x)⟩
 | ext φ=>exact x.2.1
theorem Inv.freshN {X:Cx}{pins:List (Addr×Obj)} {σ:L2.St} {H:Hp} {s:Shared} {a:Addr} (I:Inv X pins σ H s) (hne:∀ b u,s.heap.get? b=some u→b≠a):H a=none:=by
 cases e:H a with
 | none=>rfl
 | some o =>
   obtain ⟨u,hu⟩:=(I.hok a o e).ex;exact absurd rfl (hne a u hu)
theorem Inv.laidN {X:Cx}{pins:List (Addr×Obj)} {σ:L2.St} {H:Hp} {s:Shared} {h':Heap} {a:Addr} {o:HO} {t':Nat} (I:Inv X pins σ H s) (k:∀ b u,s.heap.get? b=some u→h'.get? b=some u) (hne:∀ b u,s.heap.get? b=some u→b≠a) (new:ObjOk X.prog X.w (upd H a o) h' a o) :
 Inv X pins σ (upd H a o) { s with heap:=h',toks:=t' }:=by
 have hn:=I.freshN hne;refine I.un ⟨fun b u q _ _ _=>k b u q,fun b u q _ _ _=>⟨u.slots,k b u q⟩,fun b u q n _=>by rw [Zah (hne b u q)];exact n,fun b u q _=>⟨u,k b u q⟩,fun b xs q=>by rw [Zah (Zac q hn)];exact q,fun b u xs q=>by rw [Zah (Zac q hn)];exact q,fun b ps q=>⟨#[],by rw [Zah (Zac q hn),q];simp⟩⟩ fun b u e=>?_
 by_cases hb:b=a
 · subst hb;rw [upd_same] at e;cases e;exact new
 · rw [Zah hb] at e
   exact (I.hok b u e).stay (fun c v _ q=>k c v q) (fun c q=>by rw [Zah (Zac q hn)];exact q) fun c xs q=>by rw [Zah (Zac q hn)];exact q
def ltS (a b:Str):Prop:=a.cps.toList<b.cps.toList
theorem Zck (a:Str):¬ltS a a:=List.lt_irrefl _
theorem ZfV {a b c:Str} (h:ltS a b) (k:ltS b c):ltS a c:=List.lt_trans h k
theorem ZlA {a b:Str} (h:¬ltS b a) (ne:a≠b):ltS a b:=by
 have h1:a.cps.toList≤b.cps.toList:=List.not_lt.mp h
 rcases Classical.em (a.cps.toList<b.cps.toList) with h2 | h2
 · exact h2
 · have h3:b.cps.toList≤a.cps.toList:=List.not_lt.mp h2
   exact absurd (ext_toList (List.le_antisymm h1 h3)) ne
theorem Zis:∀ (l:List Str) (p:Str),risingS p l=true→(p :: l).Nodup→(p :: l).Pairwise ltS
 | [],p,_,_=>by simp
 | q :: r,p,h,hn=>by
   have h':(!ltCps q.cps.toList p.cps.toList && risingS q r)=true:=by simpa [risingS] using h
   rw [Bool.and_eq_true] at h';have hn2:=(XaC.mp hn);have ih:=Zis r q h'.2 hn2.2
   have hpq:ltS p q:=ZlA (fun z=>by
    have:=h'.1
    rw [ltCps_eq,Xa6 (show q.cps.toList<p.cps.toList from z)] at this
    cases this) fun z=>hn2.1 (by rw [z];exact Xal)
   refine List.pairwise_cons.mpr ⟨fun x hx=>?_,ih⟩
   rcases Xam.mp hx with e | hx
   · rw [e];exact hpq
   · exact ZfV hpq ((List.pairwise_cons.mp ih).1 x hx)
theorem Zit {l:List Str} (h:sortedS l=true) (hn:l.Nodup):l.Pairwise ltS:=by
 cases l with
 | nil=>exact List.Pairwise.nil
 | cons p r=>exact Zis r p h hn
theorem Zfn:∀ {vs:List Value}{ss:List Str},StrsAre vs ss→Vals (ss.map V.str) vs
 | _,_,.nil=>.nil
 | _,_,.cons _ _ h=>.cons ⟨_,rfl⟩ (Zfn h)
theorem strs_of {ss:List Str}:∀ {vs:List Value},vs.length=ss.length→(∀ (i:Nat) (v:Value),vs[i]?=some v→∃ t,v=.str (ss.getD i default) t)→StrsAre vs ss:=by
 induction ss with
 | nil=>intro vs hl _;cases vs with
   | nil=>exact .nil
   | cons _ _=>simp at hl
 | cons x r ih =>
   intro vs hl h
   cases vs with
   | nil=>simp at hl
   | cons v vs =>
     obtain ⟨t,e⟩:=h 0 v rfl;have e':v=.str x t:=e;subst e';exact .cons _ _ (ih (by simpa using hl) fun i u hu=>h (i+1) u (by simpa using hu))
section
variable {prog:Program} {w:World} {A:Around} {E:Value→Shared→Prop} {s:Shared}
theorem Ziu {d:Addr}{kvs:List (Key×Value)} {ss:List Str} {Q:Value→Shared→Prop} (hh:A.handled=none) (dd:s.heap.DictOf (ZaU prog w) d kvs) (lo:(d == sysModules)=false)
 (hk:kvs.map (·.1)=ss.map Sum.inr) (h64:ss.length<64)
 (h:∀ (D:Addr) (h':Heap) (tk n:Nat) (out:List Value) (ss':List Str),(∀ b o,s.heap.get? b=some o→h'.get? b=some o)→(∀ b o,s.heap.get? b=some o→b≠D)→h'.get? D=some { cls:=.type "list",data:=.seq out.toArray n }→Vals (ss'.map V.str) out→ss'.Perm ss→sortedS ss'=true→Q (.ref D) { s with heap:=h',toks:=tk }) :
 wpAny (model prog w) A (call (.builtin "sorted") [.ref d]) Q E s:=by
 have hlk:kvs.length=ss.length:=by have:=Xbk List.length hk;simpa using this
 have hn:kvs.length≤sizeLine:=XaY (Zal (by omega));obtain ⟨ep,hat⟩:=dd.dictAt;refine Calls.call_function_entry kind_sorted plain_sorted entry_sorted (args_sorted1 _) ?_;unfold Builtin.«sorted»
 refine Xbl (m:=checkCount "sorted" 1 1 _) (Xbm ?_)
 refine Xbl (PySem.W.kdu_collect (A:=A.in1) (PySem.W.kdl_dict (knd:=ZaU prog w) (kvs:=kvs) (ep:=ep) lo) hh hat hn fun h1 tk acc k1 hacc=>?_)
 have la:acc.toList.length=ss.length:=by rw [Array.length_toList,hacc.1,hlk]
 have hS:StrsAre acc.toList ss:=strs_of la fun i v hv=>by
  obtain ⟨k,x,e1,e2⟩:=hacc.2 i v (by rw [←Array.getElem?_toList];exact hv)
  have e3:(kvs.map (·.1))[i]?=some k:=by rw [Xag,e1];rfl
  rw [hk,Xag] at e3;obtain ⟨z,e4,e5⟩:=XaV.mp e3;have e2':Zi5 k v=true:=e2;rw [←e5] at e2';obtain ⟨t,e6⟩:=Value.isStrOf_shape e2';exact ⟨t,by rw [e6,Xaq,e4];rfl⟩
 refine Xbl (wpAny_newList ?_ (by rw [la];exact XaY (Zal (by omega))))
 have hoL:(h1.push { cls:=.type "list",data:=.seq acc.toList.toArray }).get? h1.objs.size=some (seqObj "list" acc.toList.toArray 0):=Xbr _ rfl
 refine Xbl (Xbn (wpAny_call_entry slot_list_sort ⟨_,hoL,rfl⟩ entry_list_sort (list_sort_treeK strKind_oneLt hoL hS.keysOf (fun v₁ v₂ rest e=>keyKind_strs (by rw [←e];exact hS)) (by rw [la];exact h64) fun st' a1 a2=>⟨_,rfl,?_⟩) (args_list_sort _)));obtain ⟨ss',b1,b2,b3⟩:=sorted_out_str hS a1 a2;obtain ⟨n,hg⟩:=sortedHeap_at (vs:=acc.toList) (out:=(arrOf st').map (·.2)) hoL;have szle:∀ b o,s.heap.get? b=some o→b≠h1.objs.size:=fun b o e=>XaZ (Xbq (k1 b o e));refine Xbm ⟨_,rfl,h h1.objs.size _ tk n _ ss' (fun b o e=>?_) szle (by rw [Array.toArray_toList];exact hg) (Zfn b1) b2 b3⟩;have hb:=Xbq (k1 b o e);rw [sortedHeap_old (XaZ hb) (by rw [Heap.size_push];exact Nat.lt_succ_of_lt hb)];exact Xbp _ (k1 b o e)
end
section
variable {X:Cx}
def rSortD:List V→Hp→VK→Prop:=fun vs H Q=>∃ (d:Addr) (kvs:List (Key×V)) (ss:List Str),vs=[.ref d]∧H d=some (.dK kvs)∧kvs.map (·.1)=ss.map Sum.inr∧ss.length<64∧∀ D ss',ss'.Perm ss→sortedS ss'=true→H D=none→Q (.ref D) (upd H D (.lst (ss'.map V.str)))
theorem Zg0 (hc:X.calm=true):CallR X (.builtin "sorted") rSortD:=by
 intro pins s σ H vs us Q I r h;obtain ⟨d,kvs,ss,rfl,hd,hk,h64,q⟩:=h;obtain ⟨u,rfl,ru⟩:=Zdt r;obtain rfl:u=Value.ref d:=ru;obtain ⟨z,hm,ws,rel,dd⟩:=dk_of I.hok hd;refine Ziu (I.ok.hd hc) dd hm (ss:=ss) (by rw [←rel.keys];exact hk) h64 fun D h' tk n out ss' kk hD hg rv hp hs=>?_
 have hlen:(ss'.map V.str).length≤sizeLine:=by rw [Xaa,hp.length_eq];exact XaY (Zal (by omega))
 exact ⟨.ref D,upd H D (.lst (ss'.map V.str)),I.laidN (t':=tk) kk hD ⟨hlen,out,n,rv,hg⟩,rfl,q D ss' hp hs (I.freshN hD)⟩
end
end L2
namespace HT
open PySem PyProof.Rows
section
open PySem.SeqAt
open PySem.AutoSeq1 (wpAny_loadPart')
open PySem.MeetsSeq PySem.MeetsSeq2 PySem.MeetsSeq3
end
section
variable {prog:Program} {w:World} {A:Around} {E:Value→Shared→Prop} {s:Shared}
end
end HT
namespace L2
open PySem PySem.Spec PyProof.Rows
section
variable {X:Cx}
theorem Zkz {ss:List Str}:∀ {us:List Value},Vals (ss.map V.str) us→StrsAre us ss:=by
 induction ss with
 | nil=>intro us h;cases h;exact .nil
 | cons x r ih =>
   intro us h
   cases h with
   | cons a b =>
     obtain ⟨t,rfl⟩:=a;exact .cons _ _ (ih b)
end
end L2
namespace L2
end L2
namespace KasM
open PySem PySem.W PyProof.Rows
set_option autoImplicit false
def Tw {α:Type} (lt:Nat→Nat→Bool) (n:Nat):KasT α→(α→Prop)→Prop
 | .ret a,Q=>Q a
 | .ask i j k,Q=>i<n∧j<n∧Tw lt n (k (lt i j)) Q
theorem Ze4 {α β:Type}{lt:Nat→Nat→Bool}{n:Nat}{f:α→KasT β}{Q:β→Prop}:∀ (t:KasT α),Tw lt n t (fun a=>Tw lt n (f a) Q)→Tw lt n (t.bind f) Q
 | .ret _,h=>h
 | .ask _ _ k,⟨h1,h2,h3⟩=>⟨h1,h2,Ze4 (k _) h3⟩
theorem Tw_mono {α:Type}{lt:Nat→Nat→Bool}{n:Nat}{Q Q':α→Prop} (hq:∀ a,Q a→Q' a):∀ (t:KasT α),Tw lt n t Q→Tw lt n t Q'
 | .ret a,h=>hq a h
 | .ask _ _ k,⟨h1,h2,h3⟩=>⟨h1,h2,Tw_mono hq (k _) h3⟩
theorem Tw_wp {α:Type}{lt:Nat→Nat→Bool}{n:Nat}{cmp:Nat→Nat→(Bool→Shared→Prop)→Shared→Prop} {s:Shared} {Q:α→Shared→Prop} (hc:∀ i j C,i<n→j<n→C (lt i j) s→cmp i j C s) :
 ∀ (t:KasT α),Tw lt n t (fun a=>Q a s)→t.kasWp cmp Q s
 | .ret _,h=>h
 | .ask _ _ k,⟨h1,h2,h3⟩=>hc _ _ _ h1 h2 (Tw_wp hc (k _) h3)
section
variable {O:KeyOrd} {key:Nat→O.α} {n:Nat}
def K (key:Nat→O.α) (p:Array Nat) (i:Nat):O.α:=key (p.getD i 0)
def Asc (key:Nat→O.α) (p:Array Nat) (k:Nat):Prop:=∀ i,i+1<k→O.kle (K key p i) (K key p (i+1))
def Dsc (key:Nat→O.α) (p:Array Nat) (k:Nat):Prop:=∀ i,i+1<k→O.kle (K key p (i+1)) (K key p i)
def Pm (n:Nat) (p:Array Nat):Prop:=p.Perm (List.range n).toArray
theorem Pm.size {p:Array Nat} (h:Pm n p):p.size=n:=by have:=h.size_eq;simpa using this
theorem Pm.lt {p:Array Nat} (h:Pm n p) (hn:0<n) (i:Nat):p.getD i 0<n:=by
 by_cases hi:i<p.size
 · have e:p.getD i 0=p[i]:=by simp [Array.getD,hi]
   rw [e]
   have:p[i]∈p:=Array.getElem_mem hi
   have h2:=h.mem_iff.mp this
   simpa using h2
 · have e:p.getD i 0=0:=by simp [Array.getD,hi]
   rw [e];exact hn
theorem ZmE {p:Array Nat}{i j:Nat} (hj:j≤p.size) (k:Nat):(kas_rev p i j).getD k 0=if i≤k∧k<j then p.getD (i+j - 1 - k) 0 else p.getD k 0:=by
 unfold kas_rev;simp only [Array.getD_eq_getD_getElem?];rw [getElem?_mirror_all hj]
 split <;> rfl
theorem ZmF {p:Array Nat}{k l:Nat} (hk:k<p.size) (hl:l≤k) (t:Nat):(bubble p k (k - l)).getD t 0=if t=l then p.getD k 0 else if l<t∧t≤k then p.getD (t - 1) 0 else p.getD t 0:=by
 simp only [Array.getD_eq_getD_getElem?];rw [getElem?_bubble hk _ (by omega)];rw [show k - (k - l)=l by omega]
 split
 · rfl
 · split <;> rfl
theorem Pm.rev {p:Array Nat} (h:Pm n p) (i j:Nat):Pm n (kas_rev p i j):=(mirror_perm _ _ _ _).trans h
theorem Pm.bub {p:Array Nat} (h:Pm n p) (i j:Nat):Pm n (bubble p i j):=(bubble_perm _ _ _).trans h
theorem K_rev {p:Array Nat}{i j:Nat} (hj:j≤p.size) (k:Nat):K key (kas_rev p i j) k=if i≤k∧k<j then K key p (i+j - 1 - k) else K key p k:=by
 unfold K;rw [ZmE hj];split <;> rfl
theorem Zhu {p:Array Nat}{i j:Nat} (hj:j≤p.size) (he:∀ k,i≤k→k<j→K key p k=K key p (j - 1)) (k:Nat):K key (kas_rev p i j) k=K key p k:=by
 rw [K_rev hj]
 split
 · rw [he _ (by omega) (by omega),he k (by omega) (by omega)]
 · rfl
theorem K_bub {p:Array Nat}{k l:Nat} (hk:k<p.size) (hl:l≤k) (t:Nat):K key (bubble p k (k - l)) t=if t=l then K key p k else if l<t∧t≤k then K key p (t - 1) else K key p t:=by
 unfold K;rw [ZmF hk hl];split
 · rfl
 · split <;> rfl
theorem Asc.le {p:Array Nat}{k:Nat} (h:Asc key p k) {i:Nat}:∀ (d:Nat),i+d<k→O.kle (K key p i) (K key p (i+d))
 | 0,_=>KeyOrd.kle_refl _
 | d+1,hd=>KeyOrd.kle_trans (h.le d (by omega)) (h (i+d) (by omega))
theorem Asc.le' {p:Array Nat}{k:Nat} (h:Asc key p k) {i j:Nat} (hij:i≤j) (hj:j<k):O.kle (K key p i) (K key p j):=by
 have:=h.le (i:=i) (j - i) (by omega)
 rwa [show i+(j - i)=j by omega] at this
abbrev lt (O:KeyOrd) (key:Nat→O.α) (i j:Nat):Bool:=O.blt (key i) (key j)
theorem ZlB {p:Array Nat} (hp:Pm n p) (h0:0<n):∀ (f a:Nat),1≤a→Tw (lt O key) n (kas_asc p f a) fun m=>a≤m∧m≤a+f∧(∀ i,a - 1≤i→i+1<m→O.kle (K key p i) (K key p (i+1)))∧(m<a+f→O.klt (K key p m) (K key p (m - 1)))
 | 0,a,_=>⟨XaW _,XaW _,fun i h1 h2=>by omega,fun h=>by omega⟩
 | f + 1, a, ha => by
   refine ⟨hp.lt h0 _,hp.lt h0 _,?_⟩
   cases hc:lt O key (p.getD a 0) (p.getD (a - 1) 0) with
   | true =>
     simp only [if_true];exact ⟨XaW _,by omega,fun i h1 h2=>by omega,fun _=>hc⟩
   | false =>
     simp only [Xbi,if_false];refine Tw_mono ?_ _ (ZlB hp h0 f (a+1) (by omega));rintro m ⟨h1,h2,h3,h4⟩;refine ⟨by omega,by omega,fun i h5 h6=>?_,fun h=>h4 (by omega)⟩
     by_cases e:i=a - 1
     · subst e
       rw [show a - 1+1=a by omega];exact hc
     · exact h3 i (by omega) h6
theorem Zhv (h0 : 0 < n) : ∀ (f : Nat) (p : Array Nat) (a q : Nat), Pm n p → a + f ≤ n → Dsc key p a → q + 1 ≤ a → (∀ k, a - (q + 1) ≤ k → k < a → K key p k = K key p (a - 1)) →
 Tw (lt O key) n (kas_desc f p a q) fun r=>Pm n r.1∧a≤r.2.1∧r.2.1≤a+f∧Dsc key r.1 r.2.1∧r.2.2+1≤r.2.1∧(∀ k,r.2.1 - (r.2.2+1)≤k→k<r.2.1→K key r.1 k=K key r.1 (r.2.1 - 1))
 | 0,p,a,q,hp,_,hd,hq,he=>⟨hp,XaW _,XaW _,hd,hq,he⟩
 | f + 1, p, a, q, hp, hf, hd, hq, he => by
   have hz:=hp.size;refine ⟨hp.lt h0 _,hp.lt h0 _,?_⟩
   cases hc:lt O key (p.getD a 0) (p.getD (a - 1) 0) with
   | true =>
     have hc':O.klt (K key p a) (K key p (a - 1)):=hc
     have hd':Dsc key p (a+1):=fun i hi=>by
      by_cases e:i+1=a
      · rw [e];have:i=a - 1:=by omega
        rw [this];exact KeyOrd.kle_of_klt hc'
      · exact hd i (by omega)
     simp only [if_true]
     by_cases hq0:q > 0
     · rw [Xbf hq0]
       have kk:=Zhu (key:=key) (p:=p) (i:=a - (q+1)) (j:=a) (by omega) he;refine Tw_mono ?_ _ (Zhv h0 f _ (a+1) 0 (hp.rev _ _) (by omega) (fun i hi=>by rw [kk,kk];exact hd' i hi) (by omega) (fun k h1 h2=>by rw [show k=a+1 - 1 by omega]));rintro r ⟨b1,b2,b3,b4,b5,b6⟩;exact ⟨b1,by omega,by omega,b4,b5,b6⟩
     · rw [Xbe hq0]
       refine Tw_mono ?_ _ (Zhv h0 f _ (a+1) 0 hp (by omega) hd' (by omega) (fun k h1 h2=>by rw [show k=a+1 - 1 by omega]));rintro r ⟨b1,b2,b3,b4,b5,b6⟩;exact ⟨b1,by omega,by omega,b4,b5,b6⟩
   | false =>
     have hc':O.kle (K key p (a - 1)) (K key p a):=hc;simp only [Xbi,if_false];refine ⟨hp.lt h0 _,hp.lt h0 _,?_⟩
     cases hc2:lt O key (p.getD (a - 1) 0) (p.getD a 0) with
     | true =>
       simp only [if_true];exact ⟨hp,XaW _,Nat.le_add_right _ _,hd,hq,he⟩
     | false =>
       have hc2':O.kle (K key p a) (K key p (a - 1)):=hc2;have ee:K key p a=K key p (a - 1):=KeyOrd.kle_antisymm hc2' hc';simp only [Xbi,if_false];refine Tw_mono ?_ _ (Zhv h0 f _ (a+1) (q+1) hp (by omega) (fun i hi=>?_) (by omega) (fun k h1 h2=>?_))
       · rintro r ⟨b1,b2,b3,b4,b5,b6⟩
         exact ⟨b1,by omega,by omega,b4,b5,b6⟩
       · by_cases e:i+1=a
         · rw [e];have:i=a - 1:=by omega
           rw [this];exact hc2'
         · exact hd i (by omega)
       · rw [show a+1 - 1=a by omega]
         by_cases e:k=a
         · rw [e]
         · rw [he k (by omega) (by omega),ee]
abbrev Cnt (key:Nat→O.α) (n:Nat) (r:Nat×Array Nat):Prop:=Pm n r.2∧1≤r.1∧r.1≤n∧Asc key r.2 r.1
theorem Zj1 (h0:0<n) {p:Array Nat} {a:Nat} (hp:Pm n p) (h1:1≤a) (ha:a≤n) (hd:Dsc key p a):Tw (lt O key) n (kas_tail3 a n p) (Cnt key n):=by
 unfold kas_tail3;have hz:=hp.size;have kk:=K_rev (key:=key) (p:=p) (i:=0) (j:=a) (by omega);refine Ze4 _ (Tw_mono ?_ _ (ZlB (O:=O) (key:=key) (hp.rev 0 a) h0 (n - a) a h1));rintro m ⟨b1,b2,b3,_⟩;refine ⟨hp.rev _ _,by show 1≤m;omega,by show m≤n;omega,fun i hi=>?_⟩;have hi':i+1<m:=hi
 by_cases e:a - 1≤i
 · exact b3 i e hi'
 · show O.kle (K key (kas_rev p 0 a) i) (K key (kas_rev p 0 a) (i+1))
   rw [kk,kk,Xbf (by omega),Xbf (by omega)]
   have:=hd (0+a - 1 - (i+1)) (by omega)
   rwa [show 0+a - 1 - (i+1)+1=0+a - 1 - i by omega] at this
theorem ZfW (h0:0<n) {p:Array Nat} {a:Nat} (hp:Pm n p) (h1:1≤a) (ha:a+1≤n) (hd:Dsc key p (a+1)):Tw (lt O key) n (kas_descPart a n p) (Cnt key n):=by
 unfold kas_descPart;refine Ze4 _ (Tw_mono ?_ _ (Zhv (O:=O) (key:=key) h0 (n - (a+1)) p (a+1) 0 hp (by omega) hd (by omega) (fun k h1 h2=>by rw [show k=a+1 - 1 by omega])));rintro ⟨p',m,q⟩ ⟨b1,b2,b3,b4,b5,b6⟩;dsimp only at b1 b2 b3 b4 b5 b6 ⊢;have hz:=b1.size
 split
 · have kk:=Zhu (key:=key) (p:=p') (i:=m - (q+1)) (j:=m) (by omega) b6
   exact Zj1 h0 (b1.rev _ _) (by omega) (by omega) fun i hi=>by rw [kk,kk];exact b4 i hi
 · exact Zj1 h0 b1 (by omega) (by omega) b4
theorem ZmG (h0 : 0 < n) {p : Array Nat} (hp : Pm n p) : Tw (lt O key) n (kas_count n p) (Cnt key n) := by
 unfold kas_count;have hz:=hp.size;refine Ze4 _ (Tw_mono ?_ _ (ZlB (O:=O) (key:=key) hp h0 (n - 1) 1 (XaW _)));rintro m ⟨b1,b2,b3,b4⟩;have asc:Asc key p m:=fun i hi=>b3 i (by omega) hi
 by_cases e1:(m == n)=true
 · rw [Xbf e1]
   exact ⟨hp,b1,by show m≤n;omega,asc⟩
 · rw [Xbe e1]
   have hlt:m<n:=by
    have:m≠n:=fun q=>e1 (by rw [q];exact beq_self_eq_true _)
    omega
   have hk:=b4 (by omega)
   by_cases e2:m > 1
   · rw [Xbf e2]
     refine ⟨hp.lt h0 _,hp.lt h0 _,?_⟩
     cases hc:lt O key (p.getD 0 0) (p.getD (m - 1) 0) with
     | true =>
       simp only [if_true];exact ⟨hp,b1,by show m≤n;omega,asc⟩
     | false =>
       have hc':O.kle (K key p (m - 1)) (K key p 0):=hc;simp only [Xbi,if_false]
       have he:∀ k,0≤k→k<m→K key p k=K key p (m - 1):=fun k _ h2 =>
        KeyOrd.kle_antisymm (asc.le' (by omega) (by omega)) (KeyOrd.kle_trans hc' (asc.le' (by omega) h2))
       have kk:=Zhu (key:=key) (p:=p) (i:=0) (j:=m) (by omega) he;refine ZfW h0 (hp.rev _ _) b1 (by omega) fun i hi=>?_;rw [kk,kk]
       by_cases e:i+1=m
       · rw [e,show i=m - 1 by omega];exact KeyOrd.kle_of_klt hk
       · rw [he i (by omega) (by omega),he (i+1) (by omega) (by omega)];exact KeyOrd.kle_refl _
   · rw [Xbe e2]
     refine ZfW h0 hp b1 (by omega) fun i hi=>?_
     have:m=1:=by omega
     subst this
     obtain rfl:i=0:=by omega
     exact KeyOrd.kle_of_klt hk
theorem Zhw (h0:0<n) {p:Array Nat} {k:Nat} (hp:Pm n p) (ha:Asc key p k):∀ (f l r:Nat),r - l≤f→l≤r→r≤k→(∀ i,i<l→O.kle (K key p i) (K key p k))→(∀ i,r≤i→i<k→O.klt (K key p k) (K key p i)) →
 Tw (lt O key) n (kas_place p k f l r) fun m=>m≤k∧(∀ i,i<m→O.kle (K key p i) (K key p k))∧(∀ i,m≤i→i<k→O.klt (K key p k) (K key p i))
 | 0,l,r,hf,hl,hr,h1,h2=>⟨by omega,h1,fun i a b=>h2 i (by omega) b⟩
 | f + 1, l, r, hf, hl, hr, h1, h2 => by
   unfold kas_place
   by_cases e:l ≥ r
   · rw [Xbf e]
     exact ⟨by omega,h1,fun i a b=>h2 i (by omega) b⟩
   · rw [Xbe e]
     refine ⟨hp.lt h0 _,hp.lt h0 _,?_⟩
     cases hc:lt O key (p.getD k 0) (p.getD ((l+r) / 2) 0) with
     | true =>
       have hc':O.klt (K key p k) (K key p ((l+r) / 2)):=hc;simp only [if_true];exact Zhw h0 hp ha f l ((l+r) / 2) (by omega) (by omega) (by omega) h1 fun i a b=>KeyOrd.klt_of_klt_of_kle hc' (ha.le' a b)
     | false =>
       have hc':O.kle (K key p ((l+r) / 2)) (K key p k):=hc;simp only [Xbi,if_false];exact Zhw h0 hp ha f ((l+r) / 2+1) r (by omega) (by omega) hr (fun i a=>KeyOrd.kle_trans (ha.le' (by omega) (by omega)) hc') h2
theorem bin_ok (h0:0<n):∀ (f:Nat) (p:Array Nat) (k:Nat),Pm n p→k+f=n→Asc key p k→Tw (lt O key) n (kas_bin f p k) fun p'=>Pm n p'∧Asc key p' n
 | 0, p, k, hp, hk, ha => ⟨hp, by have : k = n := by omega
                                  rw [←this];exact ha⟩
 | f + 1, p, k, hp, hk, ha => by
   have hz:=hp.size;unfold kas_bin;refine Ze4 _ (Tw_mono ?_ _ (Zhw (O:=O) (key:=key) h0 hp ha k 0 k (by omega) (by omega) (XaW _) (fun i h=>by omega) fun i a b=>by omega));rintro l ⟨b1,b2,b3⟩;have kk:=K_bub (key:=key) (p:=p) (k:=k) (l:=l) (by omega) b1;refine bin_ok h0 f _ (k+1) (hp.bub _ _) (by omega) fun i hi=>?_;rw [kk,kk]
   by_cases e1:i=l
   · rw [Xbf e1,Xbe (by omega)]
     by_cases e2:i+1≤k
     · rw [Xbf (by omega)]
       exact KeyOrd.kle_of_klt (b3 (i+1 - 1) (by omega) (by omega))
     · omega
   · rw [Xbe e1]
     by_cases e2:i+1=l
     · rw [Xbf e2,Xbe (by omega)]
       exact b2 i (by omega)
     · rw [Xbe e2]
       by_cases e3:l<i
       · rw [Xbf (by omega),Xbf (by omega)]
         have:=ha (i - 1) (by omega)
         rwa [show i - 1+1=i+1 - 1 by omega] at this
       · rw [Xbe (by omega),Xbe (by omega)]
         exact ha i (by omega)
theorem sort_ok (h0:0<n):Tw (lt O key) n (kas_sort n) fun p=>Pm n p∧Asc key p n:=by
 unfold kas_sort;refine Ze4 _ (Tw_mono ?_ _ (ZmG (O:=O) (key:=key) h0 (Array.Perm.refl _)));rintro ⟨m,p⟩ ⟨b1,b2,b3,b4⟩;dsimp only at b1 b2 b3 b4 ⊢
 split
 · rw [show max m 1=m by omega]
   exact bin_ok h0 _ _ _ b1 (by omega) b4
 · exact ⟨b1, by have : m = n := by omega
                 rw [←this];exact b4⟩
end
end KasM
namespace L2
open PySem PySem.Spec PyProof.Rows
section
variable {prog:Program} {w:World} {A:Around} {E:Value→Shared→Prop} {s:Shared}
theorem Zhx {O:KeyOrd}{key:Nat→O.α}{κ:SortKind}{a:Addr}{vs:List Value}{n:Nat}{P:PySem.Fin→Shared→Prop} (ho:s.heap.get? a=some (seqObj "list" vs.toArray n)) (h64:vs.length<64)
 (hkind:2≤vs.length→∀ (h':Heap),(∀ b o,b≠a→s.heap.get? b=some o→h'.get? b=some o)→∀ (Q:SortKind→Shared→Prop),Q κ { s with heap:=h' }→wpAny (model prog w) A (keyKind' vs.toArray) Q (fun _ _=>False) { s with heap:=h' })
 (hcmp:∀ (h':Heap),(∀ b o,b≠a→s.heap.get? b=some o→h'.get? b=some o)→∀ (i j:Nat) (C:Bool→Shared→Prop),i<vs.length→j<vs.length→C (O.blt (key i) (key j)) { s with heap:=h' }→PySem.W.kas_ask prog w A κ vs i j C { s with heap:=h' })
 (h:∀ is:List Nat,is.Perm (List.range vs.length)→(∀ i,i+1<is.length→O.kle (key (is.getD i 0)) (key (is.getD (i+1) 0)))→P (.done (.ret .none)) { s with heap:=sortedHeap s.heap a vs (is.map fun i=>vs.getD i Value.none).toArray }) :
 wpAny (model prog w) A (Builtin.«list.sort» ⟨[.ref a],[]⟩) P E s:=by
 rw [list_sort_plain];have ha:a<s.heap.objs.size:=Xbq ho
 have hsz:vs.toArray.size=vs.length:=by simp
 refine Xbl (listItems_at ho rfl ?_);refine Xbl (listUpdate_at ho rfl ?_ (by rw [Xak,sizeLine_eq];omega) (Xa1 _))
 obtain ⟨e1,ho1⟩:∃ e1,(s.heap.update a (Obj.mapSeq fun _=>#[])).get? a=some (seqObj "list" #[] e1):=⟨_,get?_update_seq ho (fun _=>#[])⟩
 refine Xbl (seqEpoch_at ho1 rfl ?_);refine Xbl (wpAny_newTuple ?_ (by show vs.length≤_;rw [sizeLine_eq];omega));refine Xbl (wpAny_newList ?_ (Xa1 _));refine Xbn ?_
 have ho6:(((s.heap.update a (Obj.mapSeq fun _=>#[])).push (seqObj "tuple" vs.toArray 0)).push (seqObj "list" #[] 0)).get? a=some (seqObj "list" #[] e1):=by
  rw [Heap.get?_push_ne _ _ _ (by rw [size_push',Heap.size_update];exact XaZ (Nat.lt_succ_of_lt ha)),Heap.get?_push_ne _ _ _ (by rw [Heap.size_update];exact XaZ ha)];exact ho1
 have keep:∀ b o,b≠a→s.heap.get? b=some o→(((s.heap.update a (Obj.mapSeq fun _=>#[])).push (seqObj "tuple" vs.toArray 0)).push (seqObj "list" #[] 0)).get? b=some o:=fun b o hb q=>by
  refine Xbp _ (Xbp _ ?_);rw [Heap.get?_update_ne _ _ _ _ hb];exact q
 show wpAny (model prog w) A _ P E { s with heap:=((s.heap.update a (Obj.mapSeq fun _=>#[])).push (seqObj "tuple" vs.toArray 0)).push (seqObj "list" #[] 0) }
 dsimp only
 by_cases h2:vs.toArray.size<2
 · rw [Xbf h2,Xbf h2]
   refine Xbl (Xbm ?_);rw [StateT.run_pure];refine Xbl (Xbm ?_);dsimp only;refine Xbl (seqEpoch_at ho6 rfl ?_);refine Xbl (listUpdate_at ho6 rfl ?_ (Xa1 _) (by rw [Array.size_map];show (pairsOf vs).size≤_;rw [pairsOf_size,sizeLine_eq];omega));simp only [bne_self_eq_false,Xbi,if_false]
   have:=h (List.range vs.length) (List.Perm.refl _) (fun i hi=>by rw [List.length_range] at hi;omega)
   have e:((List.range vs.length).map fun i=>vs.getD i Value.none).toArray=(arrOf (SortSt.mk' general' (vs.toArray.zip vs.toArray) #[] 7 none)).map (·.2):=by
    apply Array.toList_inj.mp;show (List.range vs.length).map (fun i=>vs.getD i Value.none)=((vs.toArray.zip vs.toArray).map (·.2)).toList;apply List.ext_getElem?;intro k
    by_cases hk:k<vs.length
    · simp [hk,Xaq]
    · simp [hk]
   rw [e] at this;exact Xbm this
 · rw [Xbe h2,Xbe h2]
   have h2':2≤vs.length:=by omega
   refine Xbl (Xbw (hkind h2' _ keep (fun κ' s'=>κ'=κ∧s'=_) ⟨rfl,rfl⟩) ?_ fun _ _ x=>x.elim);rintro κ' s' ⟨rfl,rfl⟩
   refine Xbl (Xbw (PySem.W.kat_run (Q:=fun st' s'=>∃ p:Array Nat,arrOf st'=p.map (PySem.W.kas_item (vs.toArray.zip vs.toArray))∧failedOf st'=none∧KasM.Pm vs.length p∧KasM.Asc key p vs.length∧s'={ s with heap:=((s.heap.update a (Obj.mapSeq fun _=>#[])).push (seqObj "tuple" vs.toArray 0)).push (seqObj "list" #[] 0) })
    (G:=fun p s'=>KasM.Pm vs.length p∧KasM.Asc key p vs.length∧s'={ s with heap:=((s.heap.update a (Obj.mapSeq fun _=>#[])).push (seqObj "tuple" vs.toArray 0)).push (seqObj "list" #[] 0) })
    rfl h2' h64 (fun p' st' s' a1 a2 a3 a4=>⟨p',a2,a3,a4.1,a4.2.1,a4.2.2⟩)
    (KasM.Tw_wp (lt:=KasM.lt O key) (n:=vs.length) (hcmp _ keep) _ (KasM.Tw_mono (fun p hp=>⟨hp.1,hp.2,rfl⟩) _ (KasM.sort_ok (O:=O) (key:=key) (by omega))))) ?_ fun _ _ e=>e)
   rintro ⟨⟨⟩,st'⟩ s' ⟨p,har,hf,hp,hasc,rfl⟩;dsimp only;have hout:=PySem.W.kat_snds (ks:=vs) (vs:=vs) rfl har;rw [hout];refine Xbl (seqEpoch_at ho6 rfl ?_);refine Xbl (listUpdate_at ho6 rfl ?_ (Xa1 _) (by rw [Xak,Xaa,Array.length_toList,hp.size,sizeLine_eq];omega));rw [hf];simp only [bne_self_eq_false,Xbi,if_false];refine Xbm (h p.toList (by have:=Array.perm_iff_toList_perm.mp hp;simpa using this) fun i hi=>?_);have hz:=hp.size
   have:=hasc i (by simpa [hz] using hi)
   simpa [KasM.K,Array.getD_eq_getD_getElem?,Xaq] using this
theorem Ze5 {O:KeyOrd}{key:Nat→O.α}{κ:SortKind}{l:Addr}{vs:List Value}{Q:Value→Shared→Prop} (hl:s.heap.IsList l vs.toArray) (h64:vs.length<64)
 (hkind:2≤vs.length→∀ (h':Heap),(∀ b o,s.heap.get? b=some o→h'.get? b=some o)→∀ (Q:SortKind→Shared→Prop),Q κ { s with heap:=h' }→wpAny (model prog w) A.in1.in1 (keyKind' vs.toArray) Q (fun _ _=>False) { s with heap:=h' })
 (hcmp:∀ (h':Heap),(∀ b o,s.heap.get? b=some o→h'.get? b=some o)→∀ (i j:Nat) (C:Bool→Shared→Prop),i<vs.length→j<vs.length→C (O.blt (key i) (key j)) { s with heap:=h' }→PySem.W.kas_ask prog w A.in1.in1 κ vs i j C { s with heap:=h' })
 (h:∀ (D:Addr) (h':Heap) (n:Nat) (is:List Nat),(∀ b o,s.heap.get? b=some o→h'.get? b=some o)→(∀ b o,s.heap.get? b=some o→b≠D)→is.Perm (List.range vs.length)→(∀ i,i+1<is.length→O.kle (key (is.getD i 0)) (key (is.getD (i+1) 0))) →
  h'.get? D=some (seqObj "list" (is.map fun i=>vs.getD i Value.none).toArray n)→Q (.ref D) { s with heap:=h' }) :
 wpAny (model prog w) A (call (.builtin "sorted") [.ref l]) Q E s:=by
 refine Calls.call_function_entry kind_sorted plain_sorted entry_sorted (args_sorted1 _) ?_;unfold Builtin.«sorted»
 refine Xbl (m:=checkCount "sorted" 1 1 _) (Xbm ?_)
 refine Xbl (collect_list hl ?_ (by rw [sizeLine_eq];omega));refine Xbl (wpAny_newList ?_ (by rw [sizeLine_eq];omega))
 have hsz:((s.heap.push (seqObj "list" #[] 0)).update s.heap.objs.size (Obj.mapSeq (·++vs.toArray))).objs.size=s.heap.objs.size+1:=by
  rw [Heap.size_update,size_push']
 have hoL:(((s.heap.push (seqObj "list" #[] 0)).update s.heap.objs.size (Obj.mapSeq (·++vs.toArray))).push (seqObj "list" vs.toArray 0)).get? (s.heap.objs.size+1)=some (seqObj "list" vs.toArray 0):=by
  rw [←hsz];exact Xbr _ rfl
 have keep:∀ b o,s.heap.get? b=some o→(((s.heap.push (seqObj "list" #[] 0)).update s.heap.objs.size (Obj.mapSeq (·++vs.toArray))).push (seqObj "list" vs.toArray 0)).get? b=some o:=fun b o q=>by
  have hlt:b<s.heap.objs.size:=Xbq q;rw [Heap.get?_push_ne _ _ _ (by rw [hsz];exact XaZ (Nat.lt_succ_of_lt hlt)),Heap.get?_update_ne _ _ _ _ (XaZ hlt),Heap.get?_push_ne _ _ _ (XaZ hlt)];exact q
 have szne:∀ b o,s.heap.get? b=some o→b≠s.heap.objs.size+1:=fun b o q=>XaZ (Nat.lt_succ_of_lt (Xbq q))
 show wpAny _ _ _ _ _ { s with heap:=((s.heap.push (seqObj "list" #[] 0)).update s.heap.objs.size (Obj.mapSeq (·++vs.toArray))).push (seqObj "list" vs.toArray 0) }
 rw [hsz];refine Xbl (Xbn (wpAny_call_entry slot_list_sort ⟨_,hoL,rfl⟩ entry_list_sort ?body (args_list_sort _)))
 case body =>
  refine Zhx (s:={ s with heap:=((s.heap.push (seqObj "list" #[] 0)).update s.heap.objs.size (Obj.mapSeq (·++vs.toArray))).push (seqObj "list" vs.toArray 0) }) (key:=key) (κ:=κ) hoL h64
   (fun h2 h' k=>hkind h2 h' fun b o q=>k b o (szne b o q) (keep b o q)) (fun h' k=>hcmp h' fun b o q=>k b o (szne b o q) (keep b o q)) fun is hp hs=>?_
  obtain ⟨n,hg⟩:=sortedHeap_at (vs:=vs) (out:=(is.map fun i=>vs.getD i Value.none).toArray) hoL;refine ⟨_,rfl,Xbm ⟨_,rfl,h (s.heap.objs.size+1) _ n is (fun b o q=>?_) szne hp hs hg⟩⟩
  show (sortedHeap (((s.heap.push (seqObj "list" #[] 0)).update s.heap.objs.size (Obj.mapSeq (·++vs.toArray))).push (seqObj "list" vs.toArray 0)) (s.heap.objs.size+1) vs _).get? b=some o
  rw [sortedHeap_old (szne b o q) (Xbq (keep b o q))];exact keep b o q
end
@[reducible] def lexO (O P:KeyOrd):KeyOrd where
 α:=O.α×P.α
 blt x y:=O.blt x.1 y.1 || (!O.blt y.1 x.1 && P.blt x.2 y.2)
 irrefl x:=by simp [O.irrefl,P.irrefl]
 trans x y z h1 h2:=by
  simp only [Bool.or_eq_true,Bool.and_eq_true,Bool.not_eq_true'] at h1 h2 ⊢
  rcases h1 with h1 | ⟨h1,k1⟩ <;> rcases h2 with h2 | ⟨h2,k2⟩
  · exact .inl (O.trans _ _ _ h1 h2)
  · exact .inl (KeyOrd.klt_of_klt_of_kle h1 h2)
  · exact .inl (KeyOrd.klt_of_kle_of_klt h1 h2)
  · exact .inr ⟨KeyOrd.kle_trans (O:=O) h1 h2,P.trans _ _ _ k1 k2⟩
 negTrans x y z h:=by
  simp only [Bool.or_eq_true,Bool.and_eq_true,Bool.not_eq_true'] at h ⊢
  rcases h with h | ⟨h,k⟩
  · rcases O.negTrans _ y.1 _ h with h | h
    · exact .inl (.inl h)
    · exact .inr (.inl h)
  · cases e1:O.blt x.1 y.1 with
    | true=>exact .inl (.inl rfl)
    | false =>
      cases e2:O.blt y.1 z.1 with
      | true=>exact .inr (.inl rfl)
      | false =>
        have a1:O.kle y.1 x.1:=e1;have a2:O.kle z.1 y.1:=e2;have a3:O.kle x.1 z.1:=h;have b1:O.blt y.1 x.1=false:=KeyOrd.kle_trans (O:=O) a3 a2;have b2:O.blt z.1 y.1=false:=KeyOrd.kle_trans (O:=O) a1 a3
        rcases P.negTrans _ y.2 _ k with k | k
        · exact .inl (.inr ⟨b1,k⟩)
        · exact .inr (.inr ⟨b2,k⟩)
 total x y h1 h2:=by
  simp only [Bool.or_eq_false_iff,Bool.and_eq_false_iff,Bool.not_eq_false'] at h1 h2;have e1:x.1=y.1:=O.total _ _ h1.1 h2.1;have e2:x.2=y.2:=P.total _ _ (by rcases h1.2 with z | z;exact absurd (h2.1.symm.trans z) (by simp);exact z) (by rcases h2.2 with z | z;exact absurd (h1.1.symm.trans z) (by simp);exact z);exact Prod.ext e1 e2
@[reducible] def strO:KeyOrd where
 α:=Str
 blt a b:=decide (a.cps.toList<b.cps.toList)
 irrefl a:=by simpa using List.lt_irrefl a.cps.toList
 trans a b c h1 h2:=by simp only [decide_eq_true_eq] at *;exact List.lt_trans h1 h2
 negTrans a b c h:=by
  simp only [decide_eq_true_eq] at *
  by_cases hab:a.cps.toList<b.cps.toList
  · exact .inl hab
  · exact .inr (List.lt_of_le_of_lt (List.not_lt.mp hab) h)
 total a b h1 h2:=by simp only [decide_eq_false_iff_not] at *;exact ext_toList (List.le_antisymm (List.not_lt.mp h2) (List.not_lt.mp h1))
@[reducible] def intO:KeyOrd where
 α:=Int
 blt a b:=decide (a<b)
 irrefl a:=by simp
 trans a b c h1 h2:=by simp only [decide_eq_true_eq] at *;omega
 negTrans a b c h:=by simp only [decide_eq_true_eq] at *;omega
 total a b h1 h2:=by simp only [decide_eq_false_iff_not] at *;omega
structure Col where
 O:KeyOrd
 val:O.α→V
 dflt:O.α
 T:Value
 tT:(T == T)=true
 tN:(T != Value.type "tuple")=true
 look:∀ (M:Model) (h:Heap) (a:O.α) (u:Value),RelV (val a) u→PySem.W.Looks M h (typeOf u) T
 eqB:∀ (prog:Program) (w:World) (A:Around) (E:Value→Shared→Prop) (s:Shared) (a b:O.α) (u v:Value) (Q:Bool→Shared→Prop),RelV (val a) u→RelV (val b) v→(∀ e:Bool,(e=true↔a=b)→Q e s)→wpAny (model prog w) A (eqBool u v) Q E s
 ltB:∀ (prog:Program) (w:World) (A:Around) (E:Value→Shared→Prop) (s:Shared) (a b:O.α) (u v:Value) (Q:Bool→Shared→Prop),RelV (val a) u→RelV (val b) v→Q (O.blt a b) s→wpAny (model prog w) A (oneLt' true u v) Q E s
 ltC:∀ (prog:Program) (w:World) (A:Around) (E:Value→Shared→Prop) (s:Shared) (a b:O.α) (u v:Value) (Q:Bool→Shared→Prop),RelV (val a) u→RelV (val b) v→Q (O.blt a b) s→wpAny (model prog w) A (oneLt' false u v) Q E s
@[reducible] def strC:Col where
 O:=strO
 val:=V.str
 dflt:=default
 T:=.type "str"
 tT:=by decide
 tN:=by decide
 look M h a u r:=by obtain ⟨t,rfl⟩:=r;exact PySem.W.Looks.of_pure rfl
 eqB prog w A E s a b u v Q r r' h:=by
  obtain ⟨t,rfl⟩:=r;obtain ⟨t',rfl⟩:=r';exact eqBool_str (h _ (by simp))
 ltB prog w A E s a b u v Q r r' h:=by
  obtain ⟨t,rfl⟩:=r;obtain ⟨t',rfl⟩:=r';exact oneLt_str h
 ltC prog w A E s a b u v Q r r' h:=by
  obtain ⟨t,rfl⟩:=r;obtain ⟨t',rfl⟩:=r';exact PySem.W.kat_one _ _ (PySem.P.lt_str h)
@[reducible] def intC:Col where
 O:=intO
 val:=V.int
 dflt:=0
 T:=.type "int"
 tT:=by decide
 tN:=by decide
 look M h a u r:=by obtain ⟨t,rfl⟩:=r;exact PySem.W.Looks.of_pure rfl
 eqB prog w A E s a b u v Q r r' h:=by
  obtain ⟨t,rfl⟩:=r;obtain ⟨t',rfl⟩:=r';exact wpAny_eqBool_int (h _ (by simp))
 ltB prog w A E s a b u v Q r r' h:=by
  obtain ⟨t,rfl⟩:=r;obtain ⟨t',rfl⟩:=r';exact oneLt_int h
 ltC prog w A E s a b u v Q r r' h:=by
  obtain ⟨t,rfl⟩:=r;obtain ⟨t',rfl⟩:=r';exact PySem.W.kat_one _ _ (PySem.P.lt_int h)
theorem ZlC {c d:Col} (x y:(lexO c.O d.O).α) (e:x.1=y.1):(lexO c.O d.O).blt x y=d.O.blt x.2 y.2:=by
 show (c.O.blt x.1 y.1 || (!c.O.blt y.1 x.1 && d.O.blt x.2 y.2))=_;rw [e,c.O.irrefl];rfl
theorem ZlD {c d:Col} (x y:(lexO c.O d.O).α) (e:x.1≠y.1):(lexO c.O d.O).blt x y=c.O.blt x.1 y.1:=by
 show (c.O.blt x.1 y.1 || (!c.O.blt y.1 x.1 && d.O.blt x.2 y.2))=_
 cases h1:c.O.blt x.1 y.1 with
 | true=>rfl
 | false =>
   cases h2:c.O.blt y.1 x.1 with
   | true=>rfl
   | false=>exact absurd (c.O.total _ _ h1 h2) e
section
variable {prog:Program} {w:World} {A:Around} {E:Value→Shared→Prop} {s:Shared}
theorem ZmH (c d:Col) {x y:Addr} {p q:(lexO c.O d.O).α} {u1 u2 v1 v2:Value} {Q:Bool→Shared→Prop} (hx:IsTup s.heap x #[u1,u2]) (hy:IsTup s.heap y #[v1,v2]) (r1:RelV (c.val p.1) u1) (r2:RelV (d.val p.2) u2) (s1:RelV (c.val q.1) v1) (s2:RelV (d.val q.2) v2)
 (h:Q ((lexO c.O d.O).blt p q) s):wpAny (model prog w) A (keyLt' (tuples' true) (.ref x) (.ref y)) Q E s:=by
 obtain ⟨ox,hox,_,n,dx⟩:=hx;obtain ⟨oy,hoy,_,m,dy⟩:=hy;refine PySem.W.kat_lt hox dx hoy dy (PySem.W.kat_cons (c.eqB _ _ _ _ _ _ _ _ _ _ r1 s1 fun e he=>?_))
 cases e with
 | false =>
   have hne:p.1≠q.1:=fun z=>Xbc (he.mpr z);rw [ZlD _ _ hne] at h;exact PySem.W.kat_no (c.ltB _ _ _ _ _ _ _ _ _ _ r1 s1 h)
 | true =>
   rw [ZlC _ _ (he.mp rfl)] at h;refine PySem.W.kat_yes (PySem.W.kat_cons (d.eqB _ _ _ _ _ _ _ _ _ _ r2 s2 fun e he=>?_))
   cases e with
   | false=>exact PySem.W.kat_no (d.ltC _ _ _ _ _ _ _ _ _ _ r2 s2 h)
   | true =>
     refine PySem.W.kat_yes (PySem.W.kat_nil ?_);rw [he.mp rfl,d.O.irrefl] at h;exact h
end
theorem Zbt {α:Type}{R:α→α→Prop} (tr:∀ a b c,R a b→R b c→R a c):∀ (l:List α),(∀ i a b,l[i]?=some a→l[i+1]?=some b→R a b)→l.Pairwise R
 | [],_=>.nil
 | [x],_=>by simp
 | x :: y :: r,h=>by
   have ih:=Zbt tr (y :: r) fun i a b h1 h2=>h (i+1) a b (by simpa using h1) (by simpa using h2);have hxy:R x y:=h 0 x y rfl rfl;refine List.pairwise_cons.mpr ⟨fun z hz=>?_,ih⟩
   rcases Xam.mp hz with e | hz
   · rw [e];exact hxy
   · exact tr _ _ _ hxy ((List.pairwise_cons.mp ih).1 z hz)
section
variable {X:Cx}
abbrev Row (c d:Col):Type:=V×(lexO c.O d.O).α
def rSortP (X:Cx) (c d:Col):List V→Hp→VK→Prop:=fun vs H Q=>∃ (l:Addr) (zs:List (Row c d)),vs=[.ref l]∧SqL X.K H l (zs.map (·.1))∧zs.length<64 ∧
 (∀ z∈zs,∃ t,z.1=.ref t∧SqT X.K H t [c.val z.2.1,d.val z.2.2])∧∀ (D:Addr) (zs':List (Row c d)),zs'.Perm zs→(zs'.map (·.2)).Pairwise (lexO c.O d.O).kle→H D=none→Q (.ref D) (upd H D (.lst (zs'.map (·.1))))
def HR (c d:Col) (h:Heap) (z:Row c d) (v:Value):Prop:=∃ t u1 u2,z.1=.ref t∧v=.ref t∧IsTup h t #[u1,u2]∧RelV (c.val z.2.1) u1∧RelV (d.val z.2.2) u2
theorem HR.keeps {c d:Col}{h h':Heap}{z:Row c d}{v:Value} (k:∀ b o,h.get? b=some o→h'.get? b=some o) (x:HR c d h z v):HR c d h' z v:=by
 obtain ⟨t,u1,u2,a1,a2,a3,a4⟩:=x;exact ⟨t,u1,u2,a1,a2,a3.keeps k,a4⟩
theorem hr_tups {c d:Col}{h:Heap} (zs:List (Row c d)) (its:List Value) (hp:Paired (HR c d h) zs its):∃ fs,PySem.W.KatTups h its fs∧fs.length=zs.length∧∀ v∈fs,∃ a,RelV (c.val a) v:=by
 induction hp with
 | nil=>exact ⟨[],.nil,rfl,fun _ x=>by cases x⟩
 | cons hx r ih =>
   obtain ⟨t,u1,u2,a1,a2,⟨o,b1,b2,n,b3⟩,a4,a5⟩:=hx;obtain ⟨fs,k1,k2,k3⟩:=ih;subst a2;refine ⟨u1 :: fs,.cons b1 b2 b3 rfl k1,by simp [k2],fun v hv=>?_⟩
   rcases Xam.mp hv with e | hv
   · exact ⟨_,e ▸ a4⟩
   · exact k3 v hv
theorem Zdv {α β:Type}{R:α→β→Prop}{xs:List α}{ys:List β} (h:Paired R xs ys):∀ (i:Nat) (dx:α) (dy:β),i<xs.length→R (xs.getD i dx) (ys.getD i dy):=by
 induction h with
 | nil=>intro i dx dy h;simp at h
 | cons a r ih =>
   intro i dx dy h
   cases i with
   | zero=>exact a
   | succ i=>simpa using ih i dx dy (by simpa using h)
theorem ZdU {α β γ:Type}{R:α→β→Prop}{f:γ→α}{g:γ→β}:∀ (l:List γ),(∀ x∈l,R (f x) (g x))→Paired R (l.map f) (l.map g)
 | [],_=>.nil
 | x :: l,h=>.cons (h x Xal) (ZdU l fun y hy=>h y (Xap _ hy))
theorem hr_of {c d:Col}{pins:List (Addr×Obj)} {σ:L2.St} {H:Hp} {s:Shared} (I:Inv X pins σ H s):∀ (zs:List (Row c d)) (its:List Value),Vals (zs.map (·.1)) its→(∀ z∈zs,∃ t,z.1=.ref t∧SqT X.K H t [c.val z.2.1,d.val z.2.2])→Paired (HR c d s.heap) zs its
 | [],its,r,_=>by cases r;exact .nil
 | z :: zs, its, r, h => by
   cases r with
   | cons a b =>
     obtain ⟨t,e,sq⟩:=h z Xal;obtain ⟨us,r1,it,_⟩:=I.tuple sq
     cases r1 with
     | cons r1 r2 =>
       cases r2 with
       | cons r2 r3 =>
         cases r3;dsimp only at a;rw [e] at a;exact .cons ⟨t,_,_,e,a,it,r1,r2⟩ (hr_of I zs _ b fun y hy=>h y (Xap _ hy))
theorem Ze6 (c d:Col):CallR X (.builtin "sorted") (rSortP X c d):=by
 intro pins s σ H vs us Q I r h;obtain ⟨l,zs,rfl,hl,h64,hr,q⟩:=h;obtain ⟨u,rfl,ru⟩:=Zdt r;obtain rfl:u=Value.ref l:=ru;obtain ⟨its,ri,pl,_⟩:=I.list hl;have hp:=hr_of I zs its ri hr;have hlen:zs.length=its.length:=hp.length
 let dz:Row c d:=(V.non,(c.dflt,d.dflt))
 refine Ze5 (O:=lexO c.O d.O) (key:=fun i=>(zs.getD i dz).2) (κ:=tuples' true) (vs:=its) (by obtain ⟨o,n,a1,a2,a3,a4⟩:=pl;exact ⟨o,a1,a2,n,a4⟩) (by omega) (fun h2 h' k Q' hq=>?_) (fun h' k i j C hi hj hC=>?_) fun D h' n is kk hD hpm hst hg=>?_
 · have hp':Paired (HR c d h') zs its:=Paired.mapP hp fun _ _ x=>x.keeps k
   obtain ⟨fs,k1,k2,k3⟩:=hr_tups _ _ hp';refine PySem.W.kat_kind (T:=c.T) k1 (by omega) (fun v hv=>?_) c.tT (by rw [c.tN];exact hq);obtain ⟨a,ha⟩:=k3 v hv;exact c.look _ _ a v ha
 · obtain ⟨t,u1,u2,a1,a2,a3,a4,a5⟩:=(Zdv hp i dz Value.none (by omega)).keeps k
   obtain ⟨t',v1,v2,b1,b2,b3,b4,b5⟩:=(Zdv hp j dz Value.none (by omega)).keeps k;unfold PySem.W.kas_ask;rw [a2,b2];exact ZmH c d a3 b3 a4 a5 b4 b5 hC
 · have hin:∀ i∈is,i<zs.length:=fun i hi=>by
    have:=hpm.mem_iff.mp hi
    rw [hlen];simpa using this
   have hrange:(List.range zs.length).map (fun i=>zs.getD i dz)=zs:=by
    apply List.ext_getElem?;intro k
    by_cases hk:k<zs.length
    · simp [hk,Xaq]
    · simp [hk]
   have hperm:(is.map fun i=>zs.getD i dz).Perm zs:=by
    have:=hpm.map (fun i=>zs.getD i dz)
    rwa [←hlen,hrange] at this
   have hv:Vals ((is.map fun i=>zs.getD i dz).map (·.1)) (is.map fun i=>its.getD i Value.none):=by
    rw [Xax];refine ZdU is fun i hi=>?_;obtain ⟨t,u1,u2,a1,a2,_⟩:=Zdv hp i dz Value.none (hin i hi);show RelV (zs.getD i dz).1 (its.getD i Value.none);rw [a1,a2];exact rfl
   have hpw:((is.map fun i=>zs.getD i dz).map (·.2)).Pairwise (lexO c.O d.O).kle:=by
    refine Zbt (fun _ _ _=>KeyOrd.kle_trans) _ fun i a b h1 h2=>?_;rw [Xax,Xag,XaV] at h1 h2;obtain ⟨x,e1,rfl⟩:=h1;obtain ⟨y,e2,rfl⟩:=h2;obtain ⟨hlt,_⟩:=Xae.mp e2
    have:=hst i hlt
    have g1:is.getD i 0=x:=by rw [Xaq,e1];rfl
    have g2:is.getD (i+1) 0=y:=by rw [Xaq,e2];rfl
    rw [g1,g2] at this;exact this
   exact ⟨.ref D,upd H D (.lst ((is.map fun i=>zs.getD i dz).map (·.1))),I.laidN (t':=s.toks) kk hD ⟨by rw [Xaa,hperm.length_eq];exact XaY (Zal (by omega)),_,n,hv,hg⟩,rfl,q D _ hperm hpw (I.freshN hD)⟩
end
open Ord
abbrev goD (p:Str×Int):Dt:=.tup [.str p.1,.int p.2]
abbrev Stt:Type:=List (Str×Int)×List Str
abbrev stD (s:Stt):Dt:=.tup [.lst (s.1.map goD),.lst (s.2.map Dt.str)]
def Goes (K:XFg) (H:Hp) (a:Addr) (gs:List (Str×Int)):Prop:=∃ vs,SqL K H a vs∧IsDts K H vs (gs.map goD)
def Stts (K:XFg) (H:Hp) (a:Addr) (ss:List Stt):Prop:=∃ vs,SqL K H a vs∧IsDts K H vs (ss.map stD)
theorem Goes.same {K:XFg}{H H':Hp}{a:Addr}{gs:List (Str×Int)} (e:Same H H') (h:Goes K H a gs):Goes K H' a gs:=by
 obtain ⟨vs,h1,h2⟩:=h;exact ⟨vs,e.seq h1,h2.same e⟩
theorem Stts.same {K:XFg}{H H':Hp}{a:Addr}{ss:List Stt} (e:Same H H') (h:Stts K H a ss):Stts K H' a ss:=by
 obtain ⟨vs,h1,h2⟩:=h;exact ⟨vs,e.seq h1,h2.same e⟩
theorem Zj2 {K:XFg}{H:Hp}:∀ {vs:List V}{xs:List Str},IsDts K H vs (xs.map Dt.str)→vs=xs.map V.str
 | _,[],.nil=>rfl
 | _,_ :: _,.cons h t=>by cases h;rw [Zj2 t];rfl
theorem ZkA {K:XFg}{H:Hp}{v:V}{p:Str×Int} (h:IsDt K H v (goD p)):∃ t,v=.ref t∧SqT K H t [.str p.1,.int p.2]:=by
 cases h with
 | tup h t =>
   cases t with
   | cons h1 t =>
     cases t with
     | cons h2 t =>
       cases t;cases h1;cases h2;exact ⟨_,rfl,h⟩
theorem IsDts.goes_get {K:XFg}{H:Hp}{vs:List V}{gs:List (Str×Int)} (h:IsDts K H vs (gs.map goD)) {i:Nat} {v:V} (hv:vs[i]?=some v):∃ p t,gs[i]?=some p∧v=.ref t∧SqT K H t [.str p.1,.int p.2]:=by
 obtain ⟨d,hd,hi⟩:=h.get hv;rw [Xag] at hd
 cases e:gs[i]? with
 | none=>rw [e] at hd;cases hd
 | some p =>
   rw [e] at hd;cases hd;obtain ⟨t,h1,h2⟩:=ZkA hi;exact ⟨p,t,rfl,h1,h2⟩
theorem st_at {K:XFg}{H:Hp}{v:V}{s:Stt} (h:IsDt K H v (stD s)):∃ t g e,v=.ref t∧SqT K H t [.ref g,.ref e]∧Goes K H g s.1∧SqL K H e (s.2.map V.str):=by
 cases h with
 | tup h t =>
   cases t with
   | cons h1 t =>
     cases t with
     | cons h2 t =>
       cases t
       cases h1 with
       | lst a1 b1 =>
         cases h2 with
         | lst a2 b2 =>
           rw [Zj2 b2] at a2;exact ⟨_,_,_,rfl,h,⟨_,a1,b1⟩,a2⟩
theorem IsDts.sts_get {K:XFg}{H:Hp}{vs:List V}{ss:List Stt} (h:IsDts K H vs (ss.map stD)) {i:Nat} {v:V} (hv:vs[i]?=some v) :
 ∃ s t g e,ss[i]?=some s∧v=.ref t∧SqT K H t [.ref g,.ref e]∧Goes K H g s.1∧SqL K H e (s.2.map V.str):=by
 obtain ⟨d,hd,hi⟩:=h.get hv;rw [Xag] at hd
 cases e:ss[i]? with
 | none=>rw [e] at hd;cases hd
 | some p =>
   rw [e] at hd;cases hd;obtain ⟨t,g,e,h1,h2,h3,h4⟩:=st_at hi;exact ⟨p,t,g,e,rfl,h1,h2,h3,h4⟩
theorem IsDts.len_map {K:XFg}{H:Hp}{α:Type}{f:α→Dt}{vs:List V}{xs:List α} (h:IsDts K H vs (xs.map f)):vs.length=xs.length:=by
 have:=h.length
 rwa [Xaa] at this
def StE (K:XFg) (H:Hp) (a:Addr) (ss:List Stt):Prop:=∃ vs,SqL K H a vs∧vs.length=ss.length∧∀ (i:Nat) (v:V) (s:Stt),vs[i]?=some v→ss[i]?=some s→∃ t g e,v=.ref t∧SqT K H t [.ref g,.ref e]∧Goes K H g s.1∧H e=some (.lst (s.2.map V.str))
structure Fits (ss:List Stt):Prop where
 n:ss.length≤8
 gs:∀ s∈ss,s.1.length≤8
 es:∀ s∈ss,s.2.length≤8
def Za0 (ss:List Stt):List Str:=ss.flatMap fun s=>s.1.map (·.1)++s.2
def ZcZ (ps:List (Str×Str)):List Str:=ps.flatMap fun p=>[p.1,p.2]
theorem Zhy (ss:List Stt) (s:Stt):Za0 (ss++[s])=(Za0 ss++s.1.map (·.1))++s.2:=by
 unfold Za0;rw [List.flatMap_append];simp
theorem Ziv (ps:List (Str×Str)) (p:Str×Str):ZcZ (ps++[p])=(ZcZ ps++[p.1])++[p.2]:=by
 unfold ZcZ;rw [List.flatMap_append];simp
theorem Zfo:∀ (ss:List Stt),(∀ s∈ss,s.1.length≤8)→(∀ s∈ss,s.2.length≤8)→(Za0 ss).length≤16 * ss.length
 | [],_,_=>XaW _
 | s :: r,h1,h2=>by
   have ih:=Zfo r (fun x hx=>h1 x (Xap _ hx)) (fun x hx=>h2 x (Xap _ hx));have a1:=h1 s Xal;have a2:=h2 s Xal;unfold Za0 at ih ⊢;rw [List.flatMap_cons,Xac,Xac,Xaa,XaB];omega
theorem ZfX:∀ (ps:List (Str×Str)),(ZcZ ps).length=2 * ps.length
 | []=>rfl
 | p :: r=>by
   have ih:=ZfX r;unfold ZcZ at ih ⊢;rw [List.flatMap_cons,Xac,ih,XaB]
   simp;omega
theorem ZkB {its:List Value}{ss:List Str} (hS:StrsAre its ss) (h2:2≤its.length):keyKind' its.toArray=pure oneType':=by
 match its,hS,h2 with
 | [],_,h2=>simp at h2
 | [_],_,h2=>simp at h2
 | v₁ :: v₂ :: rest,hS,_=>exact keyKind_strs hS
section
variable {X:Cx}
def rSortS (X:Cx):List V→Hp→VK→Prop:=fun vs H Q=>∃ (l:Addr) (ss:List Str),vs=[.ref l]∧SqL X.K H l (ss.map V.str)∧ss.length<64∧∀ (D:Addr) (ss':List Str),ss'.Perm ss→ss'.Pairwise strO.kle→H D=none→Q (.ref D) (upd H D (.lst (ss'.map V.str)))
theorem Zg1:CallR X (.builtin "sorted") (rSortS X):=by
 intro pins s σ H vs us Q I r h;obtain ⟨l,ss,rfl,hl,h64,q⟩:=h;obtain ⟨u,rfl,ru⟩:=Zdt r;obtain rfl:u=Value.ref l:=ru;obtain ⟨its,ri,pl,_⟩:=I.list hl;have hS:=Zkz ri
 have hlen:ss.length=its.length:=by have:=ri.length;rwa [Xaa] at this
 have hat:∀ i,i<ss.length→∃ t,its.getD i Value.none=.str (ss.getD i default) t:=fun i hi=>by
  have:=Zdv ri i V.non Value.none (by rw [Xaa];exact hi)
  have e:(ss.map V.str).getD i V.non=V.str (ss.getD i default):=by
   rw [Xaq,Xag,Xaq,Xab hi];rfl
  rw [e] at this;exact this
 refine Ze5 (O:=strO) (key:=fun i=>ss.getD i default) (κ:=oneType') (vs:=its) pl.isList (by omega) (fun h2 h' k Q' hq=>?_) (fun h' k i j C hi hj hC=>?_) fun D h' n is kk hD hpm hst hg=>?_
 · rw [ZkB hS h2]
   exact Xbm hq
 · obtain ⟨t,e1⟩:=hat i (by omega)
   obtain ⟨t',e2⟩:=hat j (by omega);unfold PySem.W.kas_ask;rw [e1,e2,keyLt'_oneType];exact oneLt_str hC
 · have hin:∀ i∈is,i<ss.length:=fun i hi=>by
    have:=hpm.mem_iff.mp hi
    rw [hlen];simpa using this
   have hrange:(List.range ss.length).map (fun i=>ss.getD i default)=ss:=by
    apply List.ext_getElem?;intro k
    by_cases hk:k<ss.length
    · simp [hk,Xaq]
    · simp [hk]
   have hperm:(is.map fun i=>ss.getD i default).Perm ss:=by
    have:=hpm.map (fun i=>ss.getD i default)
    rwa [←hlen,hrange] at this
   have hv:Vals ((is.map fun i=>ss.getD i default).map V.str) (is.map fun i=>its.getD i Value.none):=by
    rw [Xax];exact ZdU is fun i hi=>hat i (hin i hi)
   have hpw:(is.map fun i=>ss.getD i default).Pairwise strO.kle:=by
    refine Zbt (R:=strO.kle) (fun _ _ _ h k=>KeyOrd.kle_trans (O:=strO) h k) _ fun i a b h1 h2=>?_;rw [Xag,XaV] at h1 h2;obtain ⟨x,e1,rfl⟩:=h1;obtain ⟨y,e2,rfl⟩:=h2;obtain ⟨hlt,_⟩:=Xae.mp e2
    have:=hst i hlt
    have g1:is.getD i 0=x:=by rw [Xaq,e1];rfl
    have g2:is.getD (i+1) 0=y:=by rw [Xaq,e2];rfl
    rw [g1,g2] at this;exact this
   exact ⟨.ref D,upd H D (.lst ((is.map fun i=>ss.getD i default).map V.str)),I.laidN (t':=s.toks) kk hD ⟨by rw [Xaa,hperm.length_eq];exact XaY (Zal (by omega)),_,n,hv,hg⟩,rfl,q D _ hperm hpw (I.freshN hD)⟩
end
abbrev ZkC (K:XFg) (H:Hp) (z:Row strC intC):Prop:=∃ t,z.1=.ref t∧SqT K H t [V.str z.2.1,V.int z.2.2]
theorem ZfH {K:XFg}{H:Hp}:∀ {ts:List Addr}{gs:List (Str×Int)},ts.length=gs.length→(∀ (n:Nat) (a:Addr) (p:Str×Int),ts[n]?=some a→gs[n]?=some p→H a=some (.tup [.str p.1,.int p.2])) →
 ∃ zs:List (Row strC intC),zs.map (·.1)=ts.map V.ref∧zs.map (·.2)=gs∧∀ z∈zs,ZkC K H z
 | [],[],_,_=>⟨[],rfl,rfl,fun z hz=>by cases hz⟩
 | [],_ :: _,h,_=>by simp at h
 | _ :: _,[],h,_=>by simp at h
 | a :: ts,p :: gs,h,k=>by
   obtain ⟨zs,h1,h2,h3⟩:=ZfH (K:=K) (H:=H) (ts:=ts) (gs:=gs) (by simpa using h) fun n a p h1 h2=>k (n+1) a p (by simpa using h1) (by simpa using h2);refine ⟨(V.ref a,p) :: zs,by rw [Xao,h1];rfl,by rw [Xao,h2],fun z hz=>?_⟩
   rcases Xam.mp hz with e | hz
   · rw [e];exact ⟨a,rfl,SqT.of (k 0 a p rfl rfl)⟩
   · exact h3 z hz
theorem ZfI {K:XFg}{H:Hp}:∀ (zs:List (Row strC intC)),(∀ z∈zs,ZkC K H z)→IsDts K H (zs.map (·.1)) ((zs.map (·.2)).map goD)
 | [],_=>.nil
 | z :: zs,h=>by
   obtain ⟨t,e,sq⟩:=h z Xal;refine .cons ?_ (ZfI zs fun y hy=>h y (Xap _ hy));show IsDt K H z.1 (goD z.2);rw [e];exact .tup sq (.cons (.str _) (.cons (.int _) .nil))
structure SrtOf (s r:Stt):Prop where
 pg:r.1.Perm s.1
 pe:r.2.Perm s.2
 og:r.1.Pairwise (lexO strO intO).kle
 oe:r.2.Pairwise strO.kle
theorem SqL.updN {K:XFg}{H:Hp}{a D:Addr}{o:HO}{xs:List V} (hn:a≠D) (h:SqL K H a xs):SqL K (upd H D o) a xs:=by
 rcases h with (h | ⟨u,h⟩) | h
 · exact .inl (.inl (by rw [Zah hn];exact h))
 · exact .inl (.inr ⟨u,by rw [Zah hn];exact h⟩)
 · exact .inr h
theorem SqT.updL {K:XFg}{H:Hp}{a D:Addr}{o:HO}{xs ys:List V} (hD:H D=some (.lst ys)) (h:SqT K H a xs):SqT K (upd H D o) a xs:=by
 rcases h with (h | ⟨u,h⟩) | h
 · exact .inl (.inl (by rw [Zah fun z=>by rw [z,hD] at h;cases h];exact h))
 · exact .inl (.inr ⟨u,by rw [Zah fun z=>by rw [z,hD] at h;cases h];exact h⟩)
 · exact .inr h
theorem Zj3 {K:XFg}{H:Hp}{D:Addr}{o:HO}{ys:List V} (hD:H D=some (.lst ys)):∀ {vs:List V} {gs:List (Str×Int)},IsDts K H vs (gs.map goD)→IsDts K (upd H D o) vs (gs.map goD)
 | _,[],.nil=>.nil
 | _,p :: gs,.cons h t=>by
   obtain ⟨a,e,sq⟩:=ZkA h;subst e;exact .cons (.tup (sq.updL hD) (.cons (.str _) (.cons (.int _) .nil))) (Zj3 hD t)
theorem Goes.updL {K:XFg}{H:Hp}{a D:Addr}{o:HO}{ys:List V}{gs:List (Str×Int)} (hD:H D=some (.lst ys)) (hn:a≠D) (h:Goes K H a gs):Goes K (upd H D o) a gs:=by
 obtain ⟨vs,h1,h2⟩:=h;exact ⟨vs,h1.updN hn,Zj3 hD h2⟩
structure StRows (K:XFg) (F:Addr→Prop) (H:Hp) (D:Addr) (us:List Addr) (rs:List Stt):Prop where
 len:us.length=rs.length
 at_:∀ (i:Nat) (u:Addr) (r:Stt),us[i]?=some u→rs[i]?=some r→∃ G E xs,H u=some (.tup [.ref G,.ref E])∧Goes K H G r.1∧H G=some (.lst xs)∧H E=some (.lst (r.2.map V.str))∧G≠D∧E≠D∧F G∧F E
theorem StRows.nil {K:XFg}{F:Addr→Prop}{H:Hp}{D:Addr}:StRows K F H D [] []:=⟨rfl,fun i u r h=>by simp at h⟩
theorem StRows.same {K:XFg}{F:Addr→Prop}{H H':Hp}{D:Addr}{us:List Addr}{rs:List Stt} (e:Same H H') (h:StRows K F H D us rs):StRows K F H' D us rs:=by
 refine ⟨h.len,fun i u r h1 h2=>?_⟩;obtain ⟨G,E,xs,a1,a2,a3,a4,a5,a6,a7⟩:=h.at_ i u r h1 h2;exact ⟨G,E,xs,e _ _ a1,a2.same e,e _ _ a3,e _ _ a4,a5,a6,a7⟩
theorem StRows.updL {K:XFg}{F:Addr→Prop}{H:Hp}{D:Addr}{o:HO}{ys:List V}{us:List Addr}{rs:List Stt} (hD:H D=some (.lst ys)) (h:StRows K F H D us rs):StRows K F (upd H D o) D us rs:=by
 refine ⟨h.len,fun i u r h1 h2=>?_⟩;obtain ⟨G,E,xs,a1,a2,a3,a4,a5,a6,a7⟩:=h.at_ i u r h1 h2;exact ⟨G,E,xs,by rw [Zah fun z=>by rw [z,hD] at a1;cases a1];exact a1,a2.updL hD a5,by rw [Zah a5];exact a3,by rw [Zah a6];exact a4,a5,a6,a7⟩
theorem StRows.snoc {K:XFg}{F:Addr→Prop}{H:Hp}{D u G E:Addr}{xs:List V}{us:List Addr}{rs:List Stt}{r:Stt} (h:StRows K F H D us rs) (a1:H u=some (.tup [.ref G,.ref E])) (a2:Goes K H G r.1) (a3:H G=some (.lst xs)) (a4:H E=some (.lst (r.2.map V.str))) (a5:G≠D) (a6:E≠D) (a7:F G) (a8:F E):StRows K F H D (us++[u]) (rs++[r]):=by
 refine ⟨by rw [Xac,Xac,h.len];rfl,fun i v q h1 h2=>?_⟩
 rcases Nat.lt_or_ge i us.length with hlt | hge
 · rw [Xat hlt] at h1
   rw [Xat (by rw [←h.len];exact hlt)] at h2;exact h.at_ i v q h1 h2
 · have hn1:i<(us++[u]).length:=(Xae.mp h1).1
   rw [Xac,Xau] at hn1
   have e:i=us.length:=by omega
   subst e;rw [Xay (XaW _),Nat.sub_self] at h1;rw [Xay (by rw [h.len];exact XaW _),h.len,Nat.sub_self] at h2;cases h1;cases h2;exact ⟨G,E,xs,a1,a2,a3,a4,a5,a6,a7,a8⟩
theorem Za1:([]:List V).length+1+1+1≤sizeLine:=by decide
theorem StRows.dts {K:XFg}{F:Addr→Prop}{H:Hp}{D:Addr}:∀ {us:List Addr}{rs:List Stt},StRows K F H D us rs→IsDts K H (us.map V.ref) (rs.map stD)
 | [],[],_=>.nil
 | [],_ :: _,h=>by have:=h.len;simp at this
 | _ :: _,[],h=>by have:=h.len;simp at this
 | u :: us,r :: rs,h=>by
   obtain ⟨G,E,xs,a1,⟨gv,a2,a2'⟩,a3,a4,_⟩:=h.at_ 0 u r rfl rfl;refine .cons (.tup (SqT.of a1) (.cons (.lst a2 a2') (.cons (.lst (SqL.of a4) (IsDts.strs _)) .nil))) ?_;exact StRows.dts (D:=D) ⟨by simpa using h.len,fun i v q h1 h2=>h.at_ (i+1) v q (by simpa using h1) (by simpa using h2)⟩
theorem StRows.stts {K:XFg}{F:Addr→Prop}{H:Hp}{a:Addr}{us:List Addr}{rs:List Stt} (e:H a=some (.lst (us.map V.ref))) (h:StRows K F H a us rs):Stts K H a rs:=⟨_,SqL.of e,h.dts⟩
theorem Zj4 {O:KeyOrd}{l m:List O.α} (h:l.Perm m) (h1:l.Pairwise O.kle) (h2:m.Pairwise O.kle):l=m :=
 h.eq_of_pairwise (fun a b _ _ x y=>KeyOrd.kle_antisymm x y) h1 h2
theorem cmp_go (p q:Str×Int):Cmp 2 (goD p) (goD q):=.tup (.cons (.str _ _) (.cons (.int _ _) (.nil _)))
structure GT (H:Hp) (ts:List Addr) (gs:List (Str×Int)):Prop where
 len:ts.length=gs.length
 at_:∀ (n:Nat) (t:Addr) (p:Str×Int),ts[n]?=some t→gs[n]?=some p→H t=some (.tup [.str p.1,.int p.2])
theorem GT.nil {H:Hp}:GT H [] []:=⟨rfl,fun n t p h=>by simp at h⟩
theorem GT.same {H H':Hp}{ts:List Addr}{gs:List (Str×Int)} (e:Same H H') (h:GT H ts gs):GT H' ts gs:=⟨h.len,fun n t p h1 h2=>e _ _ (h.at_ n t p h1 h2)⟩
theorem GT.updL {H:Hp}{a:Addr}{o:HO}{xs:List V}{ts:List Addr}{gs:List (Str×Int)} (hD:H a=some (.lst xs)) (h:GT H ts gs):GT (upd H a o) ts gs:=⟨h.len,fun n t p h1 h2=>by
 have:=h.at_ n t p h1 h2
 rw [Zah fun z=>by rw [z,hD] at this;cases this]
 exact this⟩
theorem GT.snoc {H:Hp}{t:Addr}{ts:List Addr}{gs:List (Str×Int)} {p:Str×Int} (h:GT H ts gs) (e:H t=some (.tup [.str p.1,.int p.2])):GT H (ts++[t]) (gs++[p]):=by
 refine ⟨by rw [Xac,Xac,h.len];rfl,fun n v q h1 h2=>?_⟩
 rcases Nat.lt_or_ge n ts.length with hlt | hge
 · rw [Xat hlt] at h1
   rw [Xat (by rw [←h.len];exact hlt)] at h2;exact h.at_ n v q h1 h2
 · have hn1:n<(ts++[t]).length:=(Xae.mp h1).1
   rw [Xac,Xau] at hn1
   have e':n=ts.length:=by omega
   subst e';rw [Xay (XaW _),Nat.sub_self] at h1;rw [Xay (by rw [h.len];exact XaW _),h.len,Nat.sub_self] at h2;cases h1;cases h2;exact e
theorem GT.dts {K:XFg}{H:Hp}{ts:List Addr}{gs:List (Str×Int)} (h:GT H ts gs):IsDts K H (ts.map V.ref) (gs.map goD):=by
 obtain ⟨zs,z1,z2,z3⟩:=ZfH (K:=K) h.len h.at_;rw [←z1,←z2];exact ZfI zs z3
theorem ZfY {k:Nat}{caps:List Nat}{g:TG}{te:TE}{σ:St}{H1:Hp}{Q:Addr→Hp→Prop}{lo:Int}{n:Nat} (Pv:Addr→Nat→List V→Hp→Prop)
 (h0:∀ D,H1 D=none→Pv D 0 [] (upd H1 D (.lst [])))
 (hs:∀ (D:Addr) (i:Nat) (ys:List V) (H2:Hp) (R:VK),H1 D=none→i<n→Pv D i ys H2→(∀ y H6,H6 D=some (.lst ys)→ys.length<sizeLine→Pv D (i+1) (ys++[y]) (upd H6 D (.lst (ys++[y])))→R y H6)→g (.int (lo+i)) (ZbJ k caps σ) H2 fun σ4 H4=>te σ4 H4 R)
 (hd:∀ D ys H2,H1 D=none→Pv D n ys H2→Q D H2) :
 ∀ D,H1 D=none→∃ W:Nat→Nat→List V→Hp→Prop,(∃ m,W 0 m [] (upd H1 D (.lst [])))∧∀ i m ys H2,W i m ys H2 →
  ((Itr lo n).stop i H2∧Q D H2)∨((Itr lo n).go i H2∧∀ x H3,(Itr lo n).yld i H2 x H3→g x (ZbJ k caps σ) H3 fun σ4 H4=>tYes σ4 H4 fun b H5 =>
   if b=true then te σ4 H5 fun y H6=>H6 D=some (.lst ys)∧ys.length<sizeLine∧∃ m',m' < m∧W (i+1) m' (ys++[y]) (upd H6 D (.lst (ys++[y]))) else ∃ m',m' < m∧W (i+1) m' ys H5):=by
 intro D hD;refine ⟨fun i m ys H2=>m=n - i∧i≤n∧Pv D i ys H2,⟨n,rfl,Xa1 _,h0 D hD⟩,?_⟩;rintro i m ys H2 ⟨rfl,hi,p⟩
 by_cases hlt:i<n
 · refine .inr ⟨hlt,fun x H3 y=>?_⟩
   obtain ⟨rfl,rfl⟩:=y;refine hs D i ys H3 _ hD hlt p fun v H6 e6 hz p6=>?_;exact ⟨e6,hz,n - (i+1),by omega,rfl,hlt,p6⟩
 · have e:i=n:=by omega
   subst e;exact .inl ⟨XaW _,hd D ys H2 hD p⟩
theorem ZmI {p q:Str×Str} (h:(lexO strO strO).kle p q) (hn:p≠q):ltS p.1 q.1∨(p.1=q.1∧ltS p.2 q.2):=by
 have h':(lexO strO strO).blt q p=false:=h
 cases e:(lexO strO strO).blt p q with
 | false=>exact absurd ((lexO strO strO).total _ _ e h') hn
 | true =>
   by_cases e1:p.1=q.1
   · rw [ZlC (c:=strC) (d:=strC) p q e1] at e
     exact .inr ⟨e1,show p.2.cps.toList<q.2.cps.toList from Xa8 e⟩
   · rw [ZlD (c:=strC) (d:=strC) p q e1] at e
     exact .inl (show p.1.cps.toList<q.1.cps.toList from Xa8 e)
structure Keeps (M:Addr→Prop) (H H':Hp):Prop where
 at_:∀ x o,H x=some o→¬M x→H' x=some o
 ls:∀ x o,M x→H x=some o→∃ xs,o=HO.lst xs
section
variable {K:XFg} {M:Addr→Prop} {H H':Hp}
theorem Keeps.refl (h:∀ x o,M x→H x=some o→∃ xs,o=HO.lst xs):Keeps M H H:=⟨fun _ _ e _=>e,h⟩
theorem Keeps.set {D:Addr}{o:HO} (k:Keeps M H H') (hD:M D):Keeps M H (upd H' D o):=⟨fun x u e n=>by
 have hn:x≠D:=fun z=>n (by rw [z];exact hD)
 rw [Zah hn];exact k.at_ x u e n,k.ls⟩
theorem Keeps.one {D:Addr}{xs:List V}{o:HO} (hD:H D=some (.lst xs)):Keeps (·=D) H (upd H D o) :=
 ⟨fun x u e n=>by rw [Zah n];exact e,fun x u m e=>by rw [m,hD] at e;exact ⟨xs,(Xbd e).symm⟩⟩
theorem Keeps.same {H2:Hp} (k:Keeps M H H') (s:Same H' H2):Keeps M H H2:=⟨fun x o e n=>s _ _ (k.at_ x o e n),k.ls⟩
theorem Keeps.noT (k:Keeps M H H') {a:Addr} {xs:List V} (h:H a=some (.tup xs)):¬M a:=fun m=>by
 obtain ⟨_,e⟩:=k.ls _ _ m h;cases e
theorem Keeps.tup (k:Keeps M H H') {a:Addr} {xs:List V} (h:H a=some (.tup xs)):H' a=some (.tup xs):=k.at_ _ _ h (k.noT h)
theorem Keeps.seq (k:Keeps M H H') {a:Addr} {xs:List V} (hn:¬M a) (h:SqL K H a xs):SqL K H' a xs:=by
 rcases h with (h | ⟨u,h⟩) | h
 · exact .inl (.inl (k.at_ _ _ h hn))
 · exact .inl (.inr ⟨u,k.at_ _ _ h hn⟩)
 · exact .inr h
theorem Keeps.seqT (k:Keeps M H H') {a:Addr} {xs:List V} (h:SqT K H a xs):SqT K H' a xs:=by
 rcases h with (h | ⟨u,h⟩) | h
 · exact .inl (.inl (k.tup h))
 · refine .inl (.inr ⟨u,k.at_ _ _ h fun m=>?_⟩)
   obtain ⟨_,e⟩:=k.ls _ _ m h;cases e
 · exact .inr h
theorem Keeps.gos (k:Keeps M H H'):∀ {vs:List V} {gs:List (Str×Int)},IsDts K H vs (gs.map goD)→IsDts K H' vs (gs.map goD)
 | _,[],.nil=>.nil
 | _,p :: gs,.cons h t=>by
   obtain ⟨a,e,sq⟩:=ZkA h;subst e;exact .cons (.tup (k.seqT sq) (.cons (.str _) (.cons (.int _) .nil))) (Keeps.gos k t)
theorem Keeps.goes (k:Keeps M H H') {a:Addr} {gs:List (Str×Int)} (hn:¬M a) (h:Goes K H a gs):Goes K H' a gs:=by
 obtain ⟨vs,h1,h2⟩:=h;exact ⟨vs,k.seq hn h1,k.gos h2⟩
theorem Keeps.tups (k:Keeps M H H') {ts:List Addr} {ps:List (Str×Str)} (h:Tups H ts ps):Tups H' ts ps:=⟨h.len,fun n t p h1 h2=>k.tup (h.at_ n t p h1 h2)⟩
theorem Keeps.rows (k:Keeps M H H') {F:Addr→Prop} {D:Addr} {us:List Addr} {rs:List Stt} (hF:∀ x,F x→¬M x) (h:StRows K F H D us rs):StRows K F H' D us rs:=by
 refine ⟨h.len,fun i u r h1 h2=>?_⟩;obtain ⟨G,E,xs,a1,a2,a3,a4,a5,a6,a7,a8⟩:=h.at_ i u r h1 h2;exact ⟨G,E,xs,k.tup a1,k.goes (hF _ a7) a2,k.at_ _ _ a3 (hF _ a7),k.at_ _ _ a4 (hF _ a8),a5,a6,a7,a8⟩
end
theorem StRows.stE {K:XFg}{F:Addr→Prop}{H:Hp}{a:Addr}{us:List Addr}{rs:List Stt} (e:H a=some (.lst (us.map V.ref))) (h:StRows K F H a us rs):StE K H a rs:=by
 refine ⟨_,SqL.of e,by rw [Xaa,h.len],fun i v s hv hs=>?_⟩;rw [Xag] at hv;obtain ⟨u,hu,rfl⟩:=XaV.mp hv;obtain ⟨G,E,xs,a1,a2,a3,a4,_⟩:=h.at_ i u s hu hs;exact ⟨u,G,E,rfl,SqT.of a1,a2,a4⟩
theorem StRows.mono {K:XFg}{F F':Addr→Prop}{H:Hp}{D:Addr}{us:List Addr}{rs:List Stt} (hF:∀ x,F x→F' x) (h:StRows K F H D us rs):StRows K F' H D us rs:=by
 refine ⟨h.len,fun i u r h1 h2=>?_⟩;obtain ⟨G,E,xs,a1,a2,a3,a4,a5,a6,a7,a8⟩:=h.at_ i u r h1 h2;exact ⟨G,E,xs,a1,a2,a3,a4,a5,a6,hF _ a7,hF _ a8⟩
theorem StRows.alive {K:XFg}{F:Addr→Prop}{H:Hp}{D:Addr}{us:List Addr}{rs:List Stt} (h:StRows K F H D us rs):StRows K (fun x=>F x∧∃ o,H x=some o) H D us rs:=by
 refine ⟨h.len,fun i u r h1 h2=>?_⟩;obtain ⟨G,E,xs,a1,a2,a3,a4,a5,a6,a7,a8⟩:=h.at_ i u r h1 h2;exact ⟨G,E,xs,a1,a2,a3,a4,a5,a6,⟨a7,_,a3⟩,a8,_,a4⟩
theorem Zg2 {K:XFg}{a:Addr}{xs:List V}{k:Nat}{caps:List Nat}{g:TG}{tc:TT}{te:TE}{σ:St}{H1:Hp}{Q:Addr→Hp→Prop} (Pv:Addr→Nat→List V→Hp→Prop)
 (h0:∀ D,H1 D=none→Pv D 0 [] (upd H1 D (.lst []))) (hq:∀ D i ys H2,Pv D i ys H2→SqL K H2 a xs)
 (hs:∀ D i x ys H2 (R:VK) (R0:Hp→Prop),H1 D=none→xs[i]?=some x→Pv D i ys H2→(∀ y H6,H6 D=some (.lst ys)→ys.length<sizeLine→Pv D (i+1) (ys++[y]) (upd H6 D (.lst (ys++[y])))→R y H6)→(∀ H5,Pv D (i+1) ys H5→R0 H5)→g x (ZbJ k caps σ) H2 fun σ4 H4=>tc σ4 H4 fun b H5=>if b=true then te σ4 H5 R else R0 H5)
 (hd:∀ D ys H2,H1 D=none→Pv D xs.length ys H2→Q D H2) :
 ∀ D,H1 D=none→∃ W:Nat→Nat→List V→Hp→Prop,(∃ m,W 0 m [] (upd H1 D (.lst [])))∧∀ i m ys H2,W i m ys H2 →
  ((Itl K a).stop i H2∧Q D H2)∨((Itl K a).go i H2∧∀ x H3,(Itl K a).yld i H2 x H3→g x (ZbJ k caps σ) H3 fun σ4 H4=>tc σ4 H4 fun b H5 =>
   if b=true then te σ4 H5 fun y H6=>H6 D=some (.lst ys)∧ys.length<sizeLine∧∃ m',m' < m∧W (i+1) m' (ys++[y]) (upd H6 D (.lst (ys++[y]))) else ∃ m',m' < m∧W (i+1) m' ys H5):=by
 intro D hD;refine ⟨fun i m ys H2=>m=xs.length - i∧i≤xs.length∧Pv D i ys H2,⟨xs.length,rfl,Xa1 _,h0 D hD⟩,?_⟩;rintro i m ys H2 ⟨rfl,hi,p⟩;have q2:=hq D i ys H2 p
 by_cases hlt:i<xs.length
 · refine .inr ⟨⟨xs,xs[i],q2,by simp [hlt]⟩,fun x H3 y=>?_⟩
   obtain ⟨rfl,y⟩:=y;have hx:=y xs q2;refine hs D i x ys H3 _ _ hD hx p (fun v H6 e6 hz p6=>?_) (fun H5 p5=>?_)
   · exact ⟨e6,hz,xs.length - (i+1),by omega,rfl,hlt,p6⟩
   · exact ⟨xs.length - (i+1),by omega,rfl,hlt,p5⟩
 · have e:i=xs.length:=by omega
   subst e;exact .inl ⟨⟨xs,q2,XaW _⟩,hd D ys H2 hD p⟩
structure Tab (K:XFg) (F:Addr→Prop) (H:Hp) (t:Addr) (rs:List Stt) (n:Int) (ord:List (Str×Str)):Prop where
 ex:∃ (a o:Addr) (us:List Addr) (ts:List Addr),H t=some (.tup [.ref a,.int n,.ref o])∧F a∧F o∧a≠o∧H a=some (.lst (us.map V.ref))∧StRows K F H a us rs∧H o=some (.lst (ts.map V.ref))∧Tups H ts ord
theorem Tab.keeps {K:XFg}{M F:Addr→Prop}{H H':Hp}{t:Addr}{rs:List Stt}{n:Int}{ord:List (Str×Str)} (k:Keeps M H H') (hF:∀ x,F x→¬M x) (h:Tab K F H t rs n ord):Tab K F H' t rs n ord:=by
 obtain ⟨a,o,us,ts,h1,h2,h3,h4,h5,h6,h7,h8⟩:=h.ex;exact ⟨a,o,us,ts,k.tup h1,h2,h3,h4,k.at_ _ _ h5 (hF _ h2),k.rows hF h6,k.at_ _ _ h7 (hF _ h3),k.tups h8⟩
theorem Tab.same {K:XFg}{F:Addr→Prop}{H H':Hp}{t:Addr}{rs:List Stt}{n:Int}{ord:List (Str×Str)} (s:Same H H') (h:Tab K F H t rs n ord):Tab K F H' t rs n ord:=by
 obtain ⟨a,o,us,ts,h1,h2,h3,h4,h5,h6,h7,h8⟩:=h.ex;exact ⟨a,o,us,ts,s _ _ h1,h2,h3,h4,s _ _ h5,h6.same s,s _ _ h7,h8.same s⟩
theorem Tab.mono {K:XFg}{F F':Addr→Prop}{H:Hp}{t:Addr}{rs:List Stt}{n:Int}{ord:List (Str×Str)} (hF:∀ x,F x→F' x) (h:Tab K F H t rs n ord):Tab K F' H t rs n ord:=by
 obtain ⟨a,o,us,ts,h1,h2,h3,h4,h5,h6,h7,h8⟩:=h.ex;exact ⟨a,o,us,ts,h1,hF _ h2,hF _ h3,h4,h5,h6.mono hF,h7,h8⟩
def uStates:List Stt:=[([("all",1),("allon",1),("elder",1),("up",0)],["let", "open", "own"]),([("allon",1),("elder",1)],["open"]),([("up",0)],["let", "open", "own"])]
def Zdm:List (Str×Str):=[("let", "elder"),("open", "elder"),("own", "elder"),("elder", "all"),("elder", "allon"),("all", "up"),("allon", "up")]
def uOrd:List (Str×Str):=[("all", "up"),("allon", "up"),("elder", "all"),("elder", "allon"),("elder", "up"),("let", "all"),("let", "allon"),("let", "elder"),("let", "up"),("open", "all"),("open", "allon"),("open", "elder"),("open", "up"),("own", "all"),("own", "allon"),("own", "elder"),("own", "up")]
theorem u_one:∀ q∈Zdm,q∈uOrd:=by decide +kernel
theorem u_step:∀ p∈uOrd,∀ q∈Zdm,p.2=q.1→(p.1,q.2)∈uOrd:=by decide +kernel
theorem u_path:∀ p∈uOrd,p∈Zdm∨(∃ q∈Zdm,∃ r∈Zdm,q.1=p.1∧q.2=r.1∧r.2=p.2)∨∃ q∈Zdm,∃ r∈Zdm,∃ s∈Zdm,q.1=p.1∧q.2=r.1∧r.2=s.1∧s.2=p.2:=by decide +kernel
theorem u_mem (a b:Str):(a,b)∈uOrd↔Path Zdm a b:=by
 constructor
 · intro h
   rcases u_path _ h with h | ⟨⟨q1,q2⟩,hq,⟨r1,r2⟩,hr,e1,e2,e3⟩ | ⟨⟨q1,q2⟩,hq,⟨r1,r2⟩,hr,⟨t1,t2⟩,ht,e1,e2,e3,e4⟩
   · exact .one h
   · dsimp only at e1 e2 e3
     subst e1 e2 e3;exact .snoc (.one hq) hr
   · dsimp only at e1 e2 e3 e4
     subst e1 e2 e3 e4;exact .snoc (.snoc (.one hq) hr) ht
 · intro h
   induction h with
   | one e=>exact u_one _ e
   | snoc _ e ih=>exact u_step _ ih _ e rfl
theorem u_nd:uOrd.Nodup:=by decide +kernel
instance kle_dec {O:KeyOrd} (a b:O.α):Decidable (O.kle a b):=inferInstanceAs (Decidable (O.blt b a=false))
theorem u_srt:uOrd.Pairwise (lexO strO strO).kle:=by decide +kernel
theorem u_ac (x:Str):¬Path Zdm x x:=fun h=>by
 have h:=(u_mem x x).mpr h;exact absurd rfl ((show ∀ p∈uOrd,p.1≠p.2 by decide +kernel) _ h)
theorem u_og:∀ s∈uStates,s.1.Pairwise (lexO strO intO).kle∧s.2.Pairwise strO.kle:=by decide +kernel
theorem u_rs {rs:List Stt} (hl:rs.length=uStates.length) (h:∀ (i:Nat) (s r:Stt),uStates[i]?=some s→rs[i]?=some r→SrtOf s r):rs=uStates:=by
 refine List.ext_getElem hl fun i h1 h2=>?_;have so:=h i _ _ (Xab h2) (Xab h1);obtain ⟨o1,o2⟩:=u_og _ (Xav h2);exact Prod.ext (Zj4 (O:=lexO strO intO) so.pg so.og o1) (Zj4 (O:=strO) so.pe so.oe o2)
section
variable {X:Cx}
end
theorem atI_in {α:Type}{xs:List α}{i:Int} (h0:0≤i) (h1:i<xs.length):∃ c,atI xs i=some c:=by
 obtain ⟨n,rfl⟩:=Xa4 h0;exact ⟨xs[n]'(by omega),ZaQ (Xab (by omega))⟩
abbrev ansD:Option (Str×Int)→Dt
 | none=>.non
 | some p=>goD p
def Ans (K:XFg) (H:Hp) (a:Addr) (as:List (Option (Str×Int))):Prop:=∃ vs,SqL K H a vs∧IsDts K H vs (as.map ansD)
abbrev Qu:Type:=Int×Int×List Str
abbrev quD (q:Qu):Dt:=.tup [.int q.1,.int q.2.1,.tup (q.2.2.map Dt.str)]
section
variable {K:XFg} {H H':Hp} {a:Addr}
theorem Ans.same {as:List (Option (Str×Int))} (e:Same H H') (h:Ans K H a as):Ans K H' a as:=by
 obtain ⟨vs,h1,h2⟩:=h;exact ⟨vs,e.seq h1,h2.same e⟩
theorem ans_at {v:V}{o:Option (Str×Int)} (h:IsDt K H v (ansD o)):(o=none∧v=.non)∨∃ p t,o=some p∧v=.ref t∧SqT K H t [.str p.1,.int p.2]:=by
 cases o with
 | none=>cases h;exact .inl ⟨rfl,rfl⟩
 | some p =>
   obtain ⟨t,e,sq⟩:=ZkA h;exact .inr ⟨p,t,rfl,e,sq⟩
theorem Ans.get {as:List (Option (Str×Int))} (h:Ans K H a as) {k:Nat} (hk:k<as.length):∃ vs v,SqL K H a vs∧vs[k]?=some v∧((as[k]?=some none∧v=.non)∨∃ p t,as[k]?=some (some p)∧v=.ref t∧SqT K H t [.str p.1,.int p.2]):=by
 obtain ⟨vs,h1,h2⟩:=h;have hs:=Xab hk;obtain ⟨v,hv,hd⟩:=h2.get' (i:=k) (d:=ansD as[k]) (by rw [Xag,hs];rfl);refine ⟨vs,v,h1,hv,?_⟩
 rcases ans_at hd with ⟨e1,e2⟩ | ⟨p,t,e1,e2,e3⟩
 · exact .inl ⟨by rw [hs,e1],e2⟩
 · exact .inr ⟨p,t,by rw [hs,e1],e2,e3⟩
theorem Goes.get {gs:List (Str×Int)} (h:Goes K H a gs) {k:Nat} {p:Str×Int} (hk:gs[k]?=some p):∃ vs t,SqL K H a vs∧vs[k]?=some (.ref t)∧SqT K H t [.str p.1,.int p.2]:=by
 obtain ⟨vs,h1,h2⟩:=h;obtain ⟨v,hv,hd⟩:=h2.get' (i:=k) (d:=goD p) (by rw [Xag,hk];rfl);obtain ⟨t,rfl,sq⟩:=ZkA hd;exact ⟨vs,t,h1,hv,sq⟩
theorem Keeps.anss {M:Addr→Prop} (k:Keeps M H H'):∀ {vs:List V} {as:List (Option (Str×Int))},IsDts K H vs (as.map ansD)→IsDts K H' vs (as.map ansD)
 | _,[],.nil=>.nil
 | _,none :: as,.cons h t=>by
   cases h;exact .cons .non (Keeps.anss k t)
 | _,some p :: as,.cons h t=>by
   obtain ⟨a,e,sq⟩:=ZkA h;subst e;exact .cons (.tup (k.seqT sq) (.cons (.str _) (.cons (.int _) .nil))) (Keeps.anss k t)
end
structure QT (H:Hp) (ts:List Addr) (qs:List Qu):Prop where
 len:ts.length=qs.length
 at_:∀ (n:Nat) (t:Addr) (q:Qu),ts[n]?=some t→qs[n]?=some q→∃ u,H t=some (.tup [.int q.1,.int q.2.1,.ref u])∧H u=some (.tup (q.2.2.map V.str))
theorem QT.nil {H:Hp}:QT H [] []:=⟨rfl,fun n t p h=>by simp at h⟩
theorem QT.same {H H':Hp}{ts:List Addr}{qs:List Qu} (e:Same H H') (h:QT H ts qs):QT H' ts qs:=⟨h.len,fun n t p h1 h2=>by
 obtain ⟨u,e1,e2⟩:=h.at_ n t p h1 h2
 exact ⟨u,e _ _ e1,e _ _ e2⟩⟩
theorem QT.keeps {M:Addr→Prop}{H H':Hp}{ts:List Addr}{qs:List Qu} (k:Keeps M H H') (h:QT H ts qs):QT H' ts qs:=⟨h.len,fun n t p h1 h2=>by
 obtain ⟨u,e1,e2⟩:=h.at_ n t p h1 h2
 exact ⟨u,k.tup e1,k.tup e2⟩⟩
theorem GT.keeps {M:Addr→Prop}{H H':Hp}{ts:List Addr}{gs:List (Str×Int)} (k:Keeps M H H') (h:GT H ts gs):GT H' ts gs:=⟨h.len,fun n t p h1 h2=>k.tup (h.at_ n t p h1 h2)⟩
theorem QT.snoc {H:Hp}{t u:Addr}{ts:List Addr}{qs:List Qu}{q:Qu} (h:QT H ts qs) (e:H t=some (.tup [.int q.1,.int q.2.1,.ref u])) (e2:H u=some (.tup (q.2.2.map V.str))):QT H (ts++[t]) (qs++[q]):=by
 refine ⟨by rw [Xac,Xac,h.len];rfl,fun n v q' h1 h2=>?_⟩
 rcases Nat.lt_or_ge n ts.length with hlt | hge
 · rw [Xat hlt] at h1
   rw [Xat (by rw [←h.len];exact hlt)] at h2;exact h.at_ n v q' h1 h2
 · have hn1:n<(ts++[t]).length:=(Xae.mp h1).1
   rw [Xac,Xau] at hn1
   have e':n=ts.length:=by omega
   subst e';rw [Xay (XaW _),Nat.sub_self] at h1;rw [Xay (by rw [h.len];exact XaW _),h.len,Nat.sub_self] at h2;cases h1;cases h2;exact ⟨u,e,e2⟩
theorem QT.dts {K:XFg}{H:Hp}{ts:List Addr}{qs:List Qu} (h:QT H ts qs):IsDts K H (ts.map V.ref) (qs.map quD):=by
 refine IsDts.of_get (by simpa using h.len) fun n v d e1 e2=>?_;rw [Xag] at e1 e2;obtain ⟨t,h1,rfl⟩:=XaV.mp e1;obtain ⟨q,h2,rfl⟩:=XaV.mp e2;obtain ⟨u,a1,a2⟩:=h.at_ n t q h1 h2;exact .tup (SqT.of a1) (.cons (.int _) (.cons (.int _) (.cons (.tup (SqT.of a2) (IsDts.strs _)) .nil)))
def ZeA (ths:List (Str×Int)) (as:List (Option (Str×Int))) (q:Int):Str×Int:=match as[q.toNat]? with
 | some (some p)=>if p.1=("thing" : Str) then (match ths[p.2.toNat]? with
   | some k=>if k.1=("part" : Str) then ("to",k.2) else ("no",0)
   | none=>("no",0)) else ("no",0)
 | some none=>("open",q)
 | none=>("no",0)
def Zde (ths:List (Str×Int)) (as:List (Option (Str×Int))) (p:Str×Int):Str×Int :=
 if p.1=("part" : Str) then ("to",p.2) else if p.1=("sort" : Str) then ZeA ths as p.2 else ("no",0)
structure NetOk (ths:List (Str×Int)) (as:List (Option (Str×Int))):Prop where
 q:∀ p∈ths,p.1=("sort" : Str)→0≤p.2∧p.2<as.length
 t:∀ p,some p∈as→p.1=("thing" : Str)→0≤p.2∧p.2<ths.length
theorem ZkD {ths:List (Str×Int)} {as:List (Option (Str×Int))} {n:Nat} (h:as[n]?=some none):ZeA ths as (n:Int)=(("open" : Str),(n:Int)):=by
 unfold ZeA;rw [Xa5,h]
theorem ZmJ {ths:List (Str×Int)} {as:List (Option (Str×Int))} {n:Nat} {p:Str×Int} (h:as[n]?=some (some p)) (hp:p.1≠("thing" : Str)):ZeA ths as (n:Int)=(("no" : Str),0):=by
 unfold ZeA;rw [Xa5,h];exact Xbe hp
theorem ZkE {ths:List (Str×Int)} {as:List (Option (Str×Int))} {n m:Nat} {p k:Str×Int} (h:as[n]?=some (some p)) (hp:p.1=("thing" : Str)) (hm:p.2=(m:Int)) (hk:ths[m]?=some k) (hk1:k.1=("part" : Str)):ZeA ths as (n:Int)=(("to" : Str),k.2):=by
 unfold ZeA;rw [Xa5,h]
 show (if p.1=("thing" : Str) then _ else _)=_
 rw [Xbf hp,hm,Xa5,hk];exact Xbf hk1
theorem ZkF {ths:List (Str×Int)} {as:List (Option (Str×Int))} {n m:Nat} {p k:Str×Int} (h:as[n]?=some (some p)) (hp:p.1=("thing" : Str)) (hm:p.2=(m:Int)) (hk:ths[m]?=some k) (hk1:k.1≠("part" : Str)):ZeA ths as (n:Int)=(("no" : Str),0):=by
 unfold ZeA;rw [Xa5,h]
 show (if p.1=("thing" : Str) then _ else _)=_
 rw [Xbf hp,hm,Xa5,hk];exact Xbe hk1
theorem ZfZ {X:Cx}{pos:Pos}{i:Nat}{x:Str}{e:Expr}{te:TE}{op:Operator}{ti:R2}{pos':Pos} (hN:X.N.Nodup) (hi:X.N[i]?=some x) (hx:Loc X.env.scope x) (he:PE X e te) (ho:OpR X (inplaceOp op) ti) (hf:X.fn x=true∨X.env.scope.names.lookup x=some .local:=by first | exact .inl rfl | exact .inr rfl | assumption) :
 PS X (.AugAssign (.Name x pos') op e pos) (tAug i te ti):=ps_aug hN hi hx he ho hf
abbrev Stp:Type:=Str×Str×Int
abbrev stpV (p:Stp):List V:=[.str p.1,.str p.2.1,.int p.2.2]
abbrev Tlg:Type:=Str×Str×Str×Int
abbrev tlgV (p:Tlg):List V:=[.str p.1,.str p.2.1,.str p.2.2.1,.int p.2.2.2]
abbrev stpD (p:Stp):Dt:=.tup [.str p.1,.str p.2.1,.int p.2.2]
abbrev tlgD (p:Tlg):Dt:=.tup [.str p.1,.str p.2.1,.str p.2.2.1,.int p.2.2.2]
section
variable {α:Type} {f:α→List V} {H H':Hp} {ts:List Addr} {rs:List α}
structure RT (f:α→List V) (H:Hp) (ts:List Addr) (rs:List α):Prop where
 len:ts.length=rs.length
 at_:∀ (n:Nat) (t:Addr) (r:α),ts[n]?=some t→rs[n]?=some r→H t=some (.tup (f r))
theorem RT.nil:RT f H [] []:=⟨rfl,fun n t p h=>by simp at h⟩
theorem RT.same (e:Same H H') (h:RT f H ts rs):RT f H' ts rs:=⟨h.len,fun n t p h1 h2=>e _ _ (h.at_ n t p h1 h2)⟩
theorem RT.keeps {M:Addr→Prop} (k:Keeps M H H') (h:RT f H ts rs):RT f H' ts rs:=⟨h.len,fun n t p h1 h2=>k.tup (h.at_ n t p h1 h2)⟩
theorem RT.snoc {t:Addr}{r:α} (h:RT f H ts rs) (e:H t=some (.tup (f r))):RT f H (ts++[t]) (rs++[r]):=by
 refine ⟨by rw [Xac,Xac,h.len];rfl,fun n v q h1 h2=>?_⟩
 rcases Nat.lt_or_ge n ts.length with hlt | hge
 · rw [Xat hlt] at h1
   rw [Xat (by rw [←h.len];exact hlt)] at h2;exact h.at_ n v q h1 h2
 · have hn1:n<(ts++[t]).length:=(Xae.mp h1).1
   rw [Xac,Xau] at hn1
   have e':n=ts.length:=by omega
   subst e';rw [Xay (XaW _),Nat.sub_self] at h1;rw [Xay (by rw [h.len];exact XaW _),h.len,Nat.sub_self] at h2;cases h1;cases h2;exact e
theorem RT.dts {K:XFg}{g:α→Dt} (hg:∀ (r:α) (t:Addr),H t=some (.tup (f r))→IsDt K H (.ref t) (g r)) (h:RT f H ts rs):IsDts K H (ts.map V.ref) (rs.map g):=by
 refine IsDts.of_get (by simpa using h.len) fun n v d e1 e2=>?_;rw [Xag] at e1 e2;obtain ⟨t,h1,rfl⟩:=XaV.mp e1;obtain ⟨q,h2,rfl⟩:=XaV.mp e2;exact hg q t (h.at_ n t q h1 h2)
end
theorem stp_dt {K:XFg}{H:Hp} (r:Stp) (t:Addr) (h:H t=some (.tup (stpV r))):IsDt K H (.ref t) (stpD r):=.tup (SqT.of h) (.cons (.str _) (.cons (.str _) (.cons (.int _) .nil)))
theorem tlg_dt {K:XFg}{H:Hp} (r:Tlg) (t:Addr) (h:H t=some (.tup (tlgV r))):IsDt K H (.ref t) (tlgD r):=.tup (SqT.of h) (.cons (.str _) (.cons (.str _) (.cons (.str _) (.cons (.int _) .nil))))
abbrev Sco:Type:=List Stp×List Tlg
abbrev scoD (s:Sco):Dt:=.tup [.lst (s.1.map stpD),.lst (s.2.map tlgD)]
structure ScH (H:Hp) (u G E:Addr) (s:Sco):Prop where
 u:H u=some (.tup [.ref G,.ref E])
 g:∃ ts:List Addr,H G=some (.lst (ts.map V.ref))∧RT stpV H ts s.1
 e:∃ ts:List Addr,H E=some (.lst (ts.map V.ref))∧RT tlgV H ts s.2
theorem ScH.same {H H':Hp}{u G E:Addr}{s:Sco} (e:Same H H') (h:ScH H u G E s):ScH H' u G E s:=by
 obtain ⟨a,⟨ts,b1,b2⟩,⟨us,c1,c2⟩⟩:=h;exact ⟨e _ _ a,⟨ts,e _ _ b1,b2.same e⟩,⟨us,e _ _ c1,c2.same e⟩⟩
theorem ScH.keeps {M:Addr→Prop}{H H':Hp}{u G E:Addr}{s:Sco} (k:Keeps M H H') (hG:¬M G) (hE:¬M E) (h:ScH H u G E s):ScH H' u G E s:=by
 obtain ⟨a,⟨ts,b1,b2⟩,⟨us,c1,c2⟩⟩:=h;exact ⟨k.tup a,⟨ts,k.at_ _ _ b1 hG,b2.keeps k⟩,⟨us,k.at_ _ _ c1 hE,c2.keeps k⟩⟩
theorem ScH.dt {K:XFg}{H:Hp}{u G E:Addr}{s:Sco} (h:ScH H u G E s):IsDt K H (.ref u) (scoD s):=by
 obtain ⟨a,⟨ts,b1,b2⟩,⟨us,c1,c2⟩⟩:=h;exact .tup (SqT.of a) (.cons (.lst (SqL.of b1) (b2.dts stp_dt)) (.cons (.lst (SqL.of c1) (c2.dts tlg_dt)) .nil))
structure Scs (H:Hp) (D:Addr) (us Gs Es:List Addr) (ss:List Sco):Prop where
 top:H D=some (.lst (us.map V.ref))
 lu:us.length=ss.length
 lg:Gs.length=ss.length
 le:Es.length=ss.length
 at_:∀ (i:Nat) (u G E:Addr) (s:Sco),us[i]?=some u→Gs[i]?=some G→Es[i]?=some E→ss[i]?=some s→ScH H u G E s
theorem Scs.same {H H':Hp}{D:Addr}{us Gs Es:List Addr}{ss:List Sco} (e:Same H H') (h:Scs H D us Gs Es ss):Scs H' D us Gs Es ss :=
 ⟨e _ _ h.top,h.lu,h.lg,h.le,fun i u G E s h1 h2 h3 h4=>(h.at_ i u G E s h1 h2 h3 h4).same e⟩
theorem Scs.get {H:Hp}{D:Addr}{us Gs Es:List Addr}{ss:List Sco} (h:Scs H D us Gs Es ss) {i:Nat} (hi:i<ss.length) :
 ∃ u G E,us[i]?=some u∧Gs[i]?=some G∧Es[i]?=some E∧ss[i]?=some ss[i]∧ScH H u G E ss[i]:=by
 have h1:us[i]?=some (us[i]'(by rw [h.lu];exact hi)):=Xab _;have h2:Gs[i]?=some (Gs[i]'(by rw [h.lg];exact hi)):=Xab _;have h3:Es[i]?=some (Es[i]'(by rw [h.le];exact hi)):=Xab _;exact ⟨_,_,_,h1,h2,h3,Xab hi,h.at_ i _ _ _ _ h1 h2 h3 (Xab hi)⟩
theorem Scs.dts {K:XFg}{H:Hp}{D:Addr}{us Gs Es:List Addr}{ss:List Sco} (h:Scs H D us Gs Es ss):IsDts K H (us.map V.ref) (ss.map scoD):=by
 refine IsDts.of_get (by simpa using h.lu) fun n v d e1 e2=>?_;rw [Xag] at e1 e2;obtain ⟨u,h1,rfl⟩:=XaV.mp e1;obtain ⟨s,h2,rfl⟩:=XaV.mp e2;have hn:n<ss.length:=(Xae.mp h2).1;obtain ⟨u',G,E,g1,g2,g3,g4,g5⟩:=h.get hn;rw [h1] at g1;cases g1;rw [h2] at g4;rw [Xbd g4];exact g5.dt
theorem Scs.step {H:Hp}{D:Addr}{us Gs Es:List Addr}{ss:List Sco} (h:Scs H D us Gs Es ss) (nd:(D :: (Gs++Es)).Nodup) {i:Nat} {G t:Addr} {ts:List Addr} {p:Stp} (hi:i<ss.length) (hG:Gs[i]?=some G) (eG:H G=some (.lst (ts.map V.ref))) (T:RT stpV H ts ss[i].1) (et:H t=some (.tup (stpV p))) :
 Scs (upd H G (.lst (ts.map V.ref++[.ref t]))) D us Gs Es (ss.set i (ss[i].1++[p],ss[i].2)):=by
 have k:Keeps (·=G) H (upd H G (.lst (ts.map V.ref++[.ref t]))):=Keeps.one eG;obtain ⟨nD,nd2⟩:=XaC.mp nd;obtain ⟨ng,ne,nge⟩:=List.nodup_append.mp nd2;have mG:G∈Gs:=Xah hG;refine ⟨k.at_ _ _ h.top fun z=>nD (z ▸ XaA _ mG),by rw [XaD];exact h.lu,by rw [XaD];exact h.lg,by rw [XaD];exact h.le,fun j u G' E s h1 h2 h3 h4=>?_⟩;have hE:E≠G:=fun z=>nge G mG E (Xah h3) z.symm
 by_cases e:i=j
 · subst e
   rw [hG] at h2;cases h2;rw [List.getElem?_set_self hi] at h4;cases h4;obtain ⟨a,_,⟨es,c1,c2⟩⟩:=h.at_ i u G E _ h1 hG h3 (Xab hi);exact ⟨k.tup a,⟨ts++[t],by rw [upd_same,Xad];rfl,(T.keeps k).snoc (k.tup et)⟩,⟨es,k.at_ _ _ c1 hE,c2.keeps k⟩⟩
 · rw [List.getElem?_set_ne e] at h4
   have hG':G'≠G:=fun z=>by
    subst z;obtain ⟨q1,e1⟩:=Xae.mp h2;obtain ⟨q2,e2⟩:=Xae.mp hG;exact e ((List.getElem_inj ng).mp (e2.trans e1.symm))
   exact (h.at_ j u G' E s h1 h2 h3 h4).keeps k hG' hE
theorem Scs.alive {H:Hp}{D:Addr}{us Gs Es:List Addr}{ss:List Sco} (h:Scs H D us Gs Es ss):∀ x∈Gs++Es,∃ xs,H x=some (.lst xs):=fun x hx=>by
 rcases Xaf.mp hx with hx | hx
 · obtain ⟨j,hj⟩:=List.getElem?_of_mem hx
   have hjl:j<ss.length:=by rw [←h.lg];exact (Xae.mp hj).1
   obtain ⟨u',G',E',g1,g2,g3,g4,⟨_,⟨ts',b1,_⟩,_⟩⟩:=h.get hjl;rw [hj] at g2;cases g2;exact ⟨_,b1⟩
 · obtain ⟨j,hj⟩:=List.getElem?_of_mem hx
   have hjl:j<ss.length:=by rw [←h.le];exact (Xae.mp hj).1
   obtain ⟨u',G',E',g1,g2,g3,g4,⟨_,_,⟨ts',b1,_⟩⟩⟩:=h.get hjl;rw [hj] at g3;cases g3;exact ⟨_,b1⟩
theorem Scs.nil {H:Hp}{D:Addr} (h:H D=some (.lst [])):Scs H D [] [] [] []:=⟨h,rfl,rfl,rfl,fun i u G E s h1=>by simp at h1⟩
theorem Scs.snoc {H:Hp}{D u G E:Addr}{us Gs Es:List Addr}{ss:List Sco}{s:Sco} (h:Scs H D us Gs Es ss) (hs:ScH H u G E s) (hG:G≠D) (hE:E≠D) (hD:∀ x∈Gs++Es,x≠D) :
 Scs (upd H D (.lst (us.map V.ref++[.ref u]))) D (us++[u]) (Gs++[G]) (Es++[E]) (ss++[s]):=by
 have k:Keeps (·=D) H (upd H D (.lst (us.map V.ref++[.ref u]))):=Keeps.one h.top;refine ⟨by rw [upd_same,Xad];rfl,by simp [h.lu],by simp [h.lg],by simp [h.le],fun i u' G' E' s' h1 h2 h3 h4=>?_⟩
 rcases Nat.lt_or_ge i ss.length with hlt | hge
 · rw [Xat (by rw [h.lu];exact hlt)] at h1
   rw [Xat (by rw [h.lg];exact hlt)] at h2;rw [Xat (by rw [h.le];exact hlt)] at h3;rw [Xat hlt] at h4;exact (h.at_ i u' G' E' s' h1 h2 h3 h4).keeps k (hD _ (XaA _ (Xah h2))) (hD _ (Xan _ (Xah h3)))
 · have hn1:i<(ss++[s]).length:=(Xae.mp h4).1
   rw [Xac,Xau] at hn1
   have e':i=ss.length:=by omega
   subst e';rw [Xay (by rw [h.lu];exact XaW _),h.lu,Nat.sub_self] at h1;rw [Xay (by rw [h.lg];exact XaW _),h.lg,Nat.sub_self] at h2;rw [Xay (by rw [h.le];exact XaW _),h.le,Nat.sub_self] at h3;rw [Xay (XaW _),Nat.sub_self] at h4;cases h1;cases h2;cases h3;cases h4;exact hs.keeps k hG hE
theorem Zj5 {D G E:Addr}{Gs Es:List Addr} (nd:(D :: (Gs++Es)).Nodup) (h1:G ∉ D :: (Gs++Es)) (h2:E ∉ D :: (Gs++Es)) (h3:G≠E):(D :: ((Gs++[G])++(Es++[E]))).Nodup:=by
 have p:(D :: ((Gs++[G])++(Es++[E]))).Perm (G :: E :: (D :: (Gs++Es))):=by
  have p1:(D :: ((Gs++[G])++(Es++[E]))).Perm (E :: (D :: ((Gs++[G])++Es))):=by
   have:(D :: ((Gs++[G])++(Es++[E])))=(D :: ((Gs++[G])++Es))++[E]:=by simp
   rw [this];exact List.perm_append_singleton _ _
  have p2:(D :: ((Gs++[G])++Es)).Perm (G :: (D :: (Gs++Es))):=by
   have:(D :: ((Gs++[G])++Es))=(D :: Gs)++G :: Es:=by simp
   rw [this];exact List.perm_middle
  exact (p1.trans (p2.cons E)).trans (List.Perm.swap _ _ _)
 rw [p.nodup_iff,XaC,XaC];refine ⟨fun z=>?_,h2,nd⟩
 rcases Xam.mp z with z | z
 · exact h3 z
 · exact h1 z
def Zc0 (ths:List (Str×Int)) (as:List (Option (Str×Int))) (p:Stp):Str×Int :=
 if p.2.1=("to" : Str) then ("to",p.2.2) else match as[p.2.2.toNat]? with
 | some (some w)=>if w.1=("thing" : Str) then (match ths[w.2.toNat]? with
   | some k=>Zde ths as k
   | none=>("no",0)) else ("no",0)
 | some none=>("open",p.2.2)
 | none=>("no",0)
theorem ZmK {ths:List (Str×Int)} {as:List (Option (Str×Int))} {p:Stp} (h:p.2.1=("to" : Str)):Zc0 ths as p=(("to" : Str),p.2.2):=Xbf h
theorem ZkG {ths:List (Str×Int)} {as:List (Option (Str×Int))} {p:Stp} {n:Nat} (h:p.2.1≠("to" : Str)) (hn:p.2.2=(n:Int)) (ha:as[n]?=some none):Zc0 ths as p=(("open" : Str),p.2.2):=by
 unfold Zc0;rw [Xbe h,hn,Xa5,ha]
theorem ZmL {ths:List (Str×Int)} {as:List (Option (Str×Int))} {p:Stp} {n:Nat} {w:Str×Int} (h:p.2.1≠("to" : Str)) (hn:p.2.2=(n:Int)) (ha:as[n]?=some (some w)) (hw:w.1≠("thing" : Str)):Zc0 ths as p=(("no" : Str),0):=by
 unfold Zc0;rw [Xbe h,hn,Xa5,ha];exact Xbe hw
theorem ZmM {ths:List (Str×Int)} {as:List (Option (Str×Int))} {p:Stp} {n m:Nat} {w k:Str×Int} (h:p.2.1≠("to" : Str)) (hn:p.2.2=(n:Int)) (ha:as[n]?=some (some w)) (hw:w.1=("thing" : Str)) (hm:w.2=(m:Int)) (hk:ths[m]?=some k):Zc0 ths as p=Zde ths as k:=by
 unfold Zc0;rw [Xbe h,hn,Xa5,ha]
 show (if w.1=("thing" : Str) then _ else _)=_
 rw [Xbf hw,hm,Xa5,hk]
section
variable {X:Cx}
end
def LowW (x:Str):Prop:=1≤x.length∧x.length≤8∧∀ c∈x.cps.toList,97≤c∧c≤122
def thOk (s q:Int) (p:Str×Int):Prop:=(p.1=("plain" : Str)∧p.2=0)∨(p.1=("part" : Str)∧0≤p.2∧p.2<s)∨(p.1=("sort" : Str)∧0≤p.2∧p.2<q)
def stOk (s q:Int) (p:Stp):Prop:=(p.2.1=("to" : Str)∧0≤p.2.2∧p.2.2<s)∨(p.2.1=("by" : Str)∧0≤p.2.2∧p.2.2<q)
def tlOk (t q:Int) (p:Tlg):Prop:=(p.2.2.1=("thing" : Str)∧0≤p.2.2.2∧p.2.2.2<t)∨(p.2.2.1=("by" : Str)∧0≤p.2.2.2∧p.2.2.2<q)
structure Net3 (H:Hp) (S T R:Addr) (us Gs Es ts qt:List Addr) (ss:List Sco) (gs:List (Str×Int)) (qs:List Qu):Prop where
 sc:Scs H S us Gs Es ss
 et:H T=some (.lst (ts.map V.ref))
 tg:GT H ts gs
 er:H R=some (.lst (qt.map V.ref))
 tq:QT H qt qs
theorem Net3.same {H H':Hp}{S T R:Addr}{us Gs Es ts qt:List Addr}{ss:List Sco}{gs:List (Str×Int)} {qs:List Qu} (e:Same H H') (h:Net3 H S T R us Gs Es ts qt ss gs qs):Net3 H' S T R us Gs Es ts qt ss gs qs :=
 ⟨h.sc.same e,e _ _ h.et,h.tg.same e,e _ _ h.er,h.tq.same e⟩
abbrev netD (ss:List Sco) (gs:List (Str×Int)) (qs:List Qu):Dt:=.tup [.lst (ss.map scoD),.lst (gs.map goD),.lst (qs.map quD)]
theorem Net3.dt {K:XFg}{H:Hp}{nt S T R:Addr}{us Gs Es ts qt:List Addr}{ss:List Sco}{gs:List (Str×Int)} {qs:List Qu} (h:Net3 H S T R us Gs Es ts qt ss gs qs) (e:H nt=some (.tup [.ref S,.ref T,.ref R])):IsDt K H (.ref nt) (netD ss gs qs) :=
 .tup (SqT.of e) (.cons (.lst (SqL.of h.sc.top) h.sc.dts) (.cons (.lst (SqL.of h.et) h.tg.dts) (.cons (.lst (SqL.of h.er) h.tq.dts) .nil)))
theorem cmp_sco (s r:Sco):Cmp 4 (scoD s) (scoD r):=by
 refine .tup (.cons (.lst (Cmps.of fun d hd e he=>?_)) (.cons (.lst (Cmps.of fun d hd e he=>?_)) (.nil _)))
 · obtain ⟨p,_,rfl⟩:=Xai.mp hd
   obtain ⟨q,_,rfl⟩:=Xai.mp he;exact .tup (.cons (.str _ _) (.cons (.str _ _) (.cons (.int _ _) (.nil _))))
 · obtain ⟨p,_,rfl⟩:=Xai.mp hd
   obtain ⟨q,_,rfl⟩:=Xai.mp he;exact .tup (.cons (.str _ _) (.cons (.str _ _) (.cons (.str _ _) (.cons (.int _ _) (.nil _)))))
theorem cmp_net (ss ss':List Sco) (gs gs':List (Str×Int)) (qs qs':List Qu):Cmp 6 (netD ss gs qs) (netD ss' gs' qs'):=by
 refine .tup (.cons (.lst (Cmps.of fun d hd e he=>?_)) (.cons (.lst (Cmps.of fun d hd e he=>?_)) (.cons (.lst (Cmps.of fun d hd e he=>?_)) (.nil _))))
 · obtain ⟨p,_,rfl⟩:=Xai.mp hd
   obtain ⟨q,_,rfl⟩:=Xai.mp he;exact cmp_sco p q
 · obtain ⟨p,_,rfl⟩:=Xai.mp hd
   obtain ⟨q,_,rfl⟩:=Xai.mp he;exact .tup (.cons (.str _ _) (.cons (.int _ _) (.nil _)))
 · obtain ⟨p,_,rfl⟩:=Xai.mp hd
   obtain ⟨q,_,rfl⟩:=Xai.mp he;refine .tup (.cons (.int _ _) (.cons (.int _ _) (.cons (.tup (Cmps.of fun d hd e he=>?_)) (.nil _))));obtain ⟨p,_,rfl⟩:=Xai.mp hd;obtain ⟨q,_,rfl⟩:=Xai.mp he;exact .str _ _
theorem ZlE {α:Type}{xs:List α}{i:Int}{v:α} (h:atI xs i=some v):v∈xs:=by
 unfold atI at h;obtain ⟨n,_,hn⟩:=Option.bind_eq_some_iff.mp h;exact Xah hn
abbrev Zdf (K:XFg):List V→Hp→VK→Prop:=fun xs H Q=>∃ p ys,xs=[V.ref p]∧(SqL K H p ys∨SqT K H p ys)∧∀ l,H l=none→Q (V.ref l) (upd H l (HO.lst ys))
theorem Scs.tell {H:Hp}{D:Addr}{us Gs Es:List Addr}{ss:List Sco} (h:Scs H D us Gs Es ss) (nd:(D :: (Gs++Es)).Nodup) {i:Nat} {E t:Addr} {ts:List Addr} {p:Tlg} (hi:i<ss.length) (hE:Es[i]?=some E) (eE:H E=some (.lst (ts.map V.ref))) (T:RT tlgV H ts ss[i].2) (et:H t=some (.tup (tlgV p))) :
 Scs (upd H E (.lst (ts.map V.ref++[.ref t]))) D us Gs Es (ss.set i (ss[i].1,ss[i].2++[p])):=by
 have k:Keeps (·=E) H (upd H E (.lst (ts.map V.ref++[.ref t]))):=Keeps.one eE;obtain ⟨nD,nd2⟩:=XaC.mp nd;obtain ⟨ng,ne,nge⟩:=List.nodup_append.mp nd2;have mE:E∈Es:=Xah hE;refine ⟨k.at_ _ _ h.top fun z=>nD (z ▸ Xan _ mE),by rw [XaD];exact h.lu,by rw [XaD];exact h.lg,by rw [XaD];exact h.le,fun j u G E' s h1 h2 h3 h4=>?_⟩;have hG:G≠E:=fun z=>nge G (Xah h2) E mE z
 by_cases e:i=j
 · subst e
   rw [hE] at h3;cases h3;rw [List.getElem?_set_self hi] at h4;cases h4;obtain ⟨a,⟨gts,c1,c2⟩,_⟩:=h.at_ i u G E _ h1 h2 hE (Xab hi);exact ⟨k.tup a,⟨gts,k.at_ _ _ c1 hG,c2.keeps k⟩,⟨ts++[t],by rw [upd_same,Xad];rfl,(T.keeps k).snoc (k.tup et)⟩⟩
 · rw [List.getElem?_set_ne e] at h4
   have hE':E'≠E:=fun z=>by
    subst z;obtain ⟨q1,e1⟩:=Xae.mp h3;obtain ⟨q2,e2⟩:=Xae.mp hE;exact e ((List.getElem_inj ne).mp (e2.trans e1.symm))
   exact (h.at_ j u G E' s h1 h2 h3 h4).keeps k hG hE'
def Ite (K:XFg) (l:Addr):It :=
 ⟨fun i H=>∃ xs x,SqL K H l xs∧xs[i]?=some x,
  fun i H v H'=>∃ T x,H T=none∧v=.ref T∧H'=upd H T (.tup [.int i,x])∧∀ xs,SqL K H l xs→xs[i]?=some x,
  fun i H=>∃ xs,SqL K H l xs∧xs.length≤i⟩
def EnumSt (e it l:Addr) (i:Nat) (h:Heap):Prop:=(∃ old,IsEnum h e it i old)∧h.IsListIter it l i
theorem ZlF {P:Program}{w:World}{K:XFg}{es:List Expr}{k:Nat}{pos:Pos}{e it l:Addr} (hei:e≠it) :
 Turn P w K (.Tuple es k pos) (Ite K l) [e,it] e (EnumSt e it l) where
 mem:=by simp
 obj:=fun i h st b hb=>by
  obtain ⟨⟨old,he⟩,⟨o1,e1,c1,d1⟩⟩:=st;simp at hb
  rcases hb with rfl | rfl
  · exact ⟨_,he,fun v q=>by cases q⟩
  · exact ⟨_,e1,fun v q=>by rw [d1] at q;cases q⟩
 keep:=fun i h h' st kk=>by
  obtain ⟨⟨old,he⟩,h1⟩:=st;exact ⟨⟨old,kk e (by simp) _ he⟩,h1.at fun o x=>kk it (by simp) o x⟩
 item := by
  intro X hP hw hK hc i pins s σ H E I hf st hg;subst hP hw hK;obtain ⟨xs,x,hq1,hx⟩:=hg;obtain ⟨⟨old,he⟩,h1⟩:=st;obtain ⟨its1,rv1,p1,hz1⟩:=I.list hq1;obtain ⟨u1,hu1,ru1⟩:=rv1.get hx;refine wpAny_pyNext_enum_item he h1 p1.isList (x:=u1) (by simpa using hu1) hei fun h' a1 a2 a3 a4 hk=>?_;refine ⟨_,rfl,wpAny_letOwnedTupleGo_enum (s:={ s with heap:=h',toks:=s.toks+1 }) a1 fun h'' hz'' hs''=>?_⟩;have fe:=hf e (by simp);have fi:=hf it (by simp);have trk:∀ b u,H b=some u→b≠e∧b≠it:=fun b u z=>⟨Zac z fe.1,Zac z fi.1⟩;have keep:∀ b o,b≠e→b≠it→s.heap.get? b=some o→h''.get? b=some o:=fun b o n1 n2 z=>(hs''.2 b n1).trans (hk b o n1 n2 z)
  have nch:∀ {b:Addr},b ∉ [e,it]→b≠e∧b≠it:=fun {b} hb=>by simpa using hb
  have I1:Inv X pins σ H { s with heap:=h'',toks:=s.toks+1 }:=by
   refine I.step (g':=s.gens) (t':=s.toks+1) (d':=s.drawn) (h':=h'') (ch:=[e,it]) (fun b hb=>?_) (fun b ob _ _ hb z _=>keep b ob (nch hb).1 (nch hb).2 z) (fun b ob _ _ hb z _=>⟨ob.slots,keep b ob (nch hb).1 (nch hb).2 z⟩)
    (fun _ _ _ _ n=>n) (fun b ob hb z=>⟨ob,keep b ob (nch hb).1 (nch hb).2 z⟩) (fun _ _ z=>z) (fun _ _ _ z=>z) (fun b ps z=>⟨#[],by rw [z];simp⟩) (fun m hm=>?_) (fun b u z=>?_) I.bare
   · have:b=e∨b=it:=by simpa using hb
     rcases this with rfl | rfl
     · exact ⟨fe.2.2.2.1,fe.2.1,fe.2.2.2.2.1,fe.2.2.2.2.2⟩
     · exact ⟨fi.2.2.2.1,fi.2.1,fi.2.2.2.2.1,fi.2.2.2.2.2⟩
   · obtain ⟨o,es,ep,ho,r⟩:=hm
     exact ⟨o,es,ep,keep _ o (Ne.symm fe.2.1) (Ne.symm fi.2.1) ho,r⟩
   · refine (I.hok b u z).stay (fun c v hc q=>?_) (fun _ q=>q) fun _ _ q=>q
     have hc':∃ u',H c=some u':=by
      rcases hc with rfl | hc
      · exact ⟨_,z⟩
      · exact ⟨_,hc⟩
     obtain ⟨u',e'⟩:=hc';obtain ⟨n1,n2⟩:=trk c u' e';exact keep c v n1 n2 q
  have hTz:s.heap.objs.size≠e:=Nat.ne_of_gt (Xbq he);have hT0:H s.heap.objs.size=none:=I.hok.fresh (XaW _)
  have hTget:h''.get? s.heap.objs.size=some { cls:=.type "tuple",data:=.seq #[.int i s.toks,u1] }:=(hs''.2 _ hTz).trans a3
  have I2:Inv X pins σ (upd H s.heap.objs.size (.tup [.int i,x])) { s with heap:=h'',toks:=s.toks+1 }:=by
   refine I1.track (I.fpOk (XaW _) hT0) ⟨_,hTget⟩ ?_;exact ⟨by show 2≤sizeLine;decide,[.int i s.toks,u1],.cons ⟨_,rfl⟩ (.cons ru1 .nil),⟨_,hTget,rfl,_,rfl⟩⟩
  refine ⟨.ref s.heap.objs.size,_,I2,rfl,⟨s.heap.objs.size,x,hT0,rfl,rfl,fun zs hzs=>by rw [I.list_inj hzs hq1];exact hx⟩,?_,fun b hb=>?_⟩
  · refine ⟨⟨u1,by simpa using hz''⟩,a2.extBut hs''.extBut (Ne.symm hei)⟩
  · have hb':=(hf b hb).1
    rw [Zah (fun q=>?_)]
    · exact hb'
    · have hb2:b=e∨b=it:=by simpa using hb
      obtain ⟨o1,e1,_⟩:=h1
      have lt:b<s.heap.objs.size:=by
       rcases hb2 with rfl | rfl
       · exact Xbq he
       · exact Xbq e1
      rw [q] at lt;exact absurd lt (XaX _)
 done:=by
  intro X hP hw hK hc i pins s σ H E I hf st hg;subst hP hw hK;obtain ⟨xs,hq1,hend⟩:=hg;obtain ⟨⟨old,he⟩,h1⟩:=st;obtain ⟨its1,rv1,p1,hz1⟩:=I.list hq1;have l1':=rv1.length;obtain ⟨f0,f1,f2,f3,f4,f5⟩:=hf it (by simp);exact wpAny_pyNext_enum_end (I.ok.hd hc) he h1 p1.isList (by simp;omega) fun h' eb=>⟨rfl,I.turned (t':=s.toks) (fun b o hb z=>eb b o hb z) f0 f1 f3 f4 f5⟩
 self:=fun _ _ _ _ _ st h=>by
  obtain ⟨⟨old,he⟩,_⟩:=st;exact wpAny_pyIter_enum he h
def iEnum (K:XFg) (ta:TA):TI:=fun σ H R=>ta σ H fun vs H1=>∃ l,vs=[.ref l]∧(∃ xs,H1 l=some (.lst xs))∧R (Ite K l) H1
theorem Zjl {X:Cx}{es:List Expr}{k:Nat}{tpos:Pos}{a:Expr}{ta:TA}{p pos:Pos} (hg:Gl X "enumerate") (hm:X.mg "enumerate" = none) (ha:PA X [a] ta) (hs:starEach [a] X.env=[(false,eval a X.env)]:=by rfl) :
 PI X (.Tuple es k tpos) (.Call (.Name "enumerate" p) [a] [] pos) (iEnum X.K ta):=by
 intro pins s σ H R I h
 refine Call_ (ZfO I hg hm (u:=.type "enumerate") (by decide +kernel) (PyProof.Rows.callWith_type1 (thn (ha pos pins s σ H _ I h) fun us s1 ⟨vs,H1,I1,r1,q1⟩=>?_) (by rw [hs];rfl) (by rfl)))
 obtain ⟨l,rfl,⟨xs,hq⟩,q⟩:=q1;obtain ⟨u1,rfl,ru1⟩:=Zdt r1;obtain rfl:u1=Value.ref l:=ru1;obtain ⟨z,its,n,rv,e⟩:=I1.hok l _ hq;have a1:l<s1.heap.objs.size:=Xbq e;refine call_enumerate_1 e fun h' he hi hsz hk=>?_;refine wpAny_pyIter_enum (s:={ s1 with heap:=h' }) he ?_;refine ⟨_,[s1.heap.objs.size+1,s1.heap.objs.size],_,_,H1,rfl,I1.kept (t':=s1.toks) hk,ZlF (Nat.succ_ne_self _),⟨⟨_,he⟩,hi⟩,fun b hb=>?_,q⟩
 have hb':s1.heap.objs.size≤b:=by
  have hb2:b=s1.heap.objs.size+1∨b=s1.heap.objs.size:=by simpa using hb
  rcases hb2 with rfl | rfl
  · exact Nat.le_add_right _ _
  · exact XaW _
 exact I1.fpOk hb' (I1.hok.fresh hb')
theorem Zhz {K:XFg}{l:Addr}{xs:List V}{g:TG}{tb:TS}{D:Ends}{σ:St}{H:Hp} (Pv:Nat→St→Hp→Prop) (h0:Pv 0 σ H) (hl:∀ i σ H,Pv i σ H→SqL K H l xs)
 (hs:∀ i x T σ H,xs[i]?=some x→H T=none→Pv i σ H→g (.ref T) σ (upd H T (.tup [.int i,x])) fun σ2 H2=>tb { D with nx:=Pv (i+1),ct:=Pv (i+1),bk:=D.nx } σ2 H2) (hd:∀ σ H,Pv xs.length σ H→D.nx σ H) :
 ∃ W:Nat→Nat→St→Hp→Prop,(∃ m,W 0 m σ H)∧∀ i m σ H,W i m σ H →
  ((Ite K l).stop i H∧D.nx σ H)∨((Ite K l).go i H∧∃ N:St→Hp→Prop,(∀ σ' H',N σ' H'→∃ m',m' < m∧W (i+1) m' σ' H')∧∀ x H',(Ite K l).yld i H x H'→g x σ H' fun σ2 H2=>tb { D with nx:=N,ct:=N,bk:=D.nx } σ2 H2):=by
 refine ⟨fun i m σ H=>m=xs.length - i∧i≤xs.length∧Pv i σ H,⟨_,rfl,Xa1 _,h0⟩,?_⟩;rintro i m σ H ⟨rfl,hi,p⟩;have q1:=hl i σ H p
 by_cases hlt:i<xs.length
 · refine .inr ⟨⟨xs,xs[i],q1,by simp [hlt]⟩,Pv (i+1),fun σ' H' p'=>⟨xs.length - (i+1),by omega,rfl,hlt,p'⟩,fun v H' y=>?_⟩
   obtain ⟨T,x,hT,rfl,rfl,e1⟩:=y;exact hs i x T σ H (e1 xs q1) hT p
 · have e:i=xs.length:=by omega
   refine .inl ⟨⟨xs,q1,by omega⟩,?_⟩;rw [e] at p;exact hd σ H p
open PySem.SeqAt
open PySem.AutoSeq1 (wpAny_loadPart')
open PySem.MeetsSeq PySem.MeetsSeq2 PySem.MeetsSeq3
def RcLtAt (A:Around) (s:Shared) (x y:Value) (b:Bool):Prop :=
 ∀ (prog:Program) (w:World) (E:Value→Shared→Prop) (Q:Value→Shared→Prop),Q (.bool b) s→wpAny (model prog w) A (richCompare .Lt x y) Q E s
inductive LexAt (A:Around) (s:Shared):List Value→List Value→Bool→Prop where
 | nil:LexAt A s [] [] false
 | lt (w:Value) (ws:List Value):LexAt A s [] (w :: ws) true
 | gt (v:Value) (vs:List Value):LexAt A s (v :: vs) [] false
 | eq {v w:Value} {vs ws:List Value} {b:Bool} (h:EqAt A s v w true) (t:LexAt A s vs ws b):LexAt A s (v :: vs) (w :: ws) b
 | ne {v w:Value} {vs ws:List Value} {b:Bool} (h:EqAt A s v w false) (l:RcLtAt A s v w b):LexAt A s (v :: vs) (w :: ws) b
theorem ZkH (l b:Addr) (items items2:Array Value) (n n2:Nat) (dd dd2:Option Addr) (sl sl2:Array (Option Value)) (c:Bool) :
 Meets (Builtin.«tuple.__lt__» ⟨[.ref l,.ref b],[]⟩)
  (fun A R s=>s.heap.get? l=some { cls:=.type "tuple",dict:=dd,data:=.seq items n,slots:=sl }∧s.heap.get? b=some { cls:=.type "tuple",dict:=dd2,data:=.seq items2 n2,slots:=sl2 } ∧
   LexAt A.in1 s items.toList items2.toList c∧R (.ok (.ret (.bool c))) s) :=
 .of_wp fun prog w A R s h=>by
  obtain ⟨hp,g,d,tk,os⟩:=s;obtain ⟨hl,hb,hx,h⟩:=h;have f2:=AutoSeq1.sub_tuple_tuple
  wp_walk using wpAny_loadPart' hl,wpAny_loadPart' hb,wpAny_forIn_list _ (fun rest b s'=>b.1=none∧s'=⟨hp,g,d,tk,os⟩∧∃ (vs ws:List Value),rest=vs.zip ws ∧
   LexAt A.in1 ⟨hp,g,d,tk,os⟩ vs ws c∧vs.length+items2.size=ws.length+items.size) _
  case turn =>
   rintro ⟨y,x⟩ rest b s' ⟨hb',rfl,vs,ws,hz,hvi,hlen⟩
   cases hvi with
   | nil=>rw [List.zip_nil_left] at hz;cases hz
   | lt=>rw [List.zip_nil_left] at hz;cases hz
   | gt=>rw [List.zip_nil_right] at hz;cases hz
   | eq he ht =>
     rw [List.zip_cons_cons] at hz
     injection hz with hyx hrest
     injection hyx with hy hx
     subst hy hx;simp only [XaB] at hlen;refine Xbl (he prog w _ _ ?_)
     wp_walk
     exact ⟨rfl,rfl,_,_,hrest,ht,by omega⟩
   | ne he hL =>
     rw [List.zip_cons_cons] at hz
     injection hz with hyx hrest
     injection hyx with hy hx
     subst hy hx;refine Xbl (he prog w _ _ ?_);have hri:=hL prog w
     wp_walk using hri
     exact ⟨_,rfl,by simpa using h⟩
  case fin =>
   rintro ⟨b1,b2⟩ s' ⟨hb',rfl,vs,ws,hz,hvi,hlen⟩;simp only at hb';subst hb'
   have hv:c=decide (items.size<items2.size):=by
    cases hvi with
    | nil =>
      simp only [XaN] at hlen;exact (Xa7 (by omega)).symm
    | lt =>
      simp only [XaN,XaB] at hlen;exact (Xa6 (by omega)).symm
    | gt =>
      simp only [XaN,XaB] at hlen;exact (Xa7 (by omega)).symm
    | eq=>rw [List.zip_cons_cons] at hz;cases hz
    | ne=>rw [List.zip_cons_cons] at hz;cases hz
   rw [hv] at h
   wp_walk
   exact ⟨_,rfl,by simpa [Builtin.Tuple.tupleCompareSizes] using h⟩
  case h =>
   exact ⟨rfl,rfl,items.toList,items2.toList,rfl,hx,by simp [Nat.add_comm]⟩
theorem ZlG (l b : Addr) (items items2 : Array Value) (n n2 : Nat) (dd dd2 : Option Addr) (sl sl2 : Array (Option Value)) (c : Bool) (k : Nat) :
 ∀ i:Nat,items.size - i=k→i≤items.size→i≤items2.size→Meets (Builtin.«list.__eq__.loop» ⟨[.ref l,.ref b,rawInt i,rawInt 0],[]⟩)
  (fun A R s=>s.heap.get? l=some { cls:=.type "list",dict:=dd,data:=.seq items n,slots:=sl }∧s.heap.get? b=some { cls:=.type "list",dict:=dd2,data:=.seq items2 n2,slots:=sl2 } ∧
   LexAt A.in1 s (items.toList.drop i) (items2.toList.drop i) c∧R (.ok (.ret (.bool c))) s):=by
 induction k with
 | zero =>
   intro i hk hi hi2 prog w A R s h;obtain ⟨hp,g,d,tk,os⟩:=s;obtain ⟨hl,hb,hx,h⟩:=h
   have e1:items.toList.drop i=[]:=by simp;omega
   rw [e1] at hx
   have hv:c=decide (items.size<items2.size):=by
    generalize e2:items2.toList.drop i=r at hx;have l2:=Xbk List.length e2;simp only [XaF,Array.length_toList] at l2
    cases hx with
    | nil=>simp only [XaN] at l2;exact (Xa7 (by omega)).symm
    | lt=>simp only [XaB] at l2;exact (Xa6 (by omega)).symm
   wp_walk using wpAny_loadPart' hl,wpAny_loadPart' hb
   have hi1:items[((i:Nat):Int).toNat]?=none:=by simp;omega
   rw [hi1]
   wp_walk using wpAny_loadPart' hl,wpAny_loadPart' hb
   show R (.ok (.ret (.bool (decide (items.size<items2.size))))) _;rw [←hv];exact h
 | succ k ih =>
   intro i hk hi hi2 prog w A R s h;obtain ⟨hp,g,d,tk,os⟩:=s;obtain ⟨hl,hb,hx,h⟩:=h
   have hlt:i<items.size:=by omega
   have hi1:items[((i:Nat):Int).toNat]?=some items[i]:=by simp [hlt]
   have e1:items.toList.drop i=items[i] :: items.toList.drop (i+1):=by simp [XaL,hlt]
   rw [e1] at hx
   wp_walk using wpAny_loadPart' hl,wpAny_loadPart' hb
   by_cases hlt2:i<items2.size
   · have hj1:items2[((i:Nat):Int).toNat]?=some items2[i]:=by simp [hlt2]
     have e2:items2.toList.drop i=items2[i] :: items2.toList.drop (i+1):=by simp [XaL,hlt2]
     have hc:((i:Int)+1)=((i+1:Nat):Int):=by push_cast;rfl
     rw [e2] at hx;rw [hi1,hj1]
     cases hx with
     | eq he ht =>
       refine Xbl (he prog w _ _ ?_)
       wp_walk
       rw [hc]
       exact ⟨plainId_quiet plain_eq_loop _,codeAny_builtin entry_eq_loop (by
        rw [Around.under_plainId plain_eq_loop _]
        exact ih (i+1) (by omega) (by omega) (by omega) prog w A R _ ⟨hl,hb,ht,h⟩)⟩
     | ne he hL =>
       refine Xbl (he prog w _ _ ?_);have hri:=hL prog w
       wp_walk using wpAny_loadPart' hl,wpAny_loadPart' hb
       rw [hi1,hj1]
       wp_walk using hri
       exact h
   · have hj1:items2[((i:Nat):Int).toNat]?=none:=by simp;omega
     have e2:items2.toList.drop i=[]:=by simp;omega
     rw [e2] at hx
     have hv:c=decide (items.size<items2.size):=by
      cases hx;exact (Xa7 (by omega)).symm
     rw [hi1,hj1]
     wp_walk using wpAny_loadPart' hl,wpAny_loadPart' hb
     show R (.ok (.ret (.bool (decide (items.size<items2.size))))) _;rw [←hv];exact h
theorem Ziw (l b:Addr) (items items2:Array Value) (n n2:Nat) (dd dd2:Option Addr) (sl sl2:Array (Option Value)) (c:Bool) :
 Meets (Builtin.«list.__lt__» ⟨[.ref l,.ref b],[]⟩)
  (fun A R s=>s.heap.get? l=some { cls:=.type "list",dict:=dd,data:=.seq items n,slots:=sl }∧s.heap.get? b=some { cls:=.type "list",dict:=dd2,data:=.seq items2 n2,slots:=sl2 } ∧
   LexAt A.in1 s items.toList items2.toList c∧R (.ok (.ret (.bool c))) s):=by
 intro prog w A R s h;obtain ⟨hp,g,d,tk,os⟩:=s;obtain ⟨hl,hb,hx,h⟩:=h;have f3:=AutoSeq1.sub_list_list
 wp_walk using wpAny_loadPart' hl,wpAny_loadPart' hb
 exact ⟨plainId_quiet plain_eq_loop _,codeAny_builtin entry_eq_loop (by
  rw [Around.under_plainId plain_eq_loop _]
  exact ZlG l b items items2 n n2 dd dd2 sl sl2 c _ 0 rfl (Xa1 _) (Xa1 _) prog w A R _ ⟨hl,hb,by simpa using hx,h⟩)⟩
section
variable {A:Around} {s:Shared}
theorem RcLtAt.tuples {l b:Addr}{items items2:Array Value}{c:Bool} (hl:IsTup s.heap l items) (hb:IsTup s.heap b items2) (hx:LexAt A.in1 s items.toList items2.toList c) (hu:A.units<cLine):RcLtAt A s (.ref l) (.ref b) c:=fun prog w E Q h=>by
 obtain ⟨⟨cls,dd,data,sl⟩,ho,hc,n,hd⟩:=id hl;obtain ⟨⟨cls2,dd2,data2,sl2⟩,ho2,hc2,n2,hd2⟩:=id hb;simp only at hc hd hc2 hd2;subst hc hd hc2 hd2
 exact richCompare_meets_room (op:=.Lt) ⟨_,ho,rfl⟩ ⟨_,ho2,rfl⟩ PySem.F.slot_tuple_lt PySem.F.entry_tuple_lt (PySem.F.args_tuple_lt_2 _ _) (ZkH l b items items2 n n2 dd dd2 sl sl2 c)
  ⟨ho,ho2,hx,show Value.bool c≠Value.notImplemented∧Q (.bool c) s from ⟨(fun x=>nomatch x),h⟩⟩ hu
theorem RcLtAt.lists {l b:Addr}{items items2:Array Value}{c:Bool} (hl:s.heap.IsList l items) (hb:s.heap.IsList b items2) (hx:LexAt A.in1 s items.toList items2.toList c) (hu:A.units<cLine):RcLtAt A s (.ref l) (.ref b) c:=fun prog w E Q h=>by
 obtain ⟨⟨cls,dd,data,sl⟩,ho,hc,n,hd⟩:=id hl;obtain ⟨⟨cls2,dd2,data2,sl2⟩,ho2,hc2,n2,hd2⟩:=id hb;simp only at hc hd hc2 hd2;subst hc hd hc2 hd2
 exact richCompare_meets_room (op:=.Lt) ⟨_,ho,rfl⟩ ⟨_,ho2,rfl⟩ PySem.F.slot_list_lt PySem.F.entry_list_lt (PySem.F.args_list_lt_2 _ _) (Ziw l b items items2 n n2 dd dd2 sl sl2 c)
  ⟨ho,ho2,hx,show Value.bool c≠Value.notImplemented∧Q (.bool c) s from ⟨(fun x=>nomatch x),h⟩⟩ hu
theorem Zf0 {prog:Program}{w:World}{E:Value→Shared→Prop}{l b:Addr}{items items2:Array Value}{c:Bool}{Q:Bool→Shared→Prop} (hl:s.heap.IsList l items) (hb:s.heap.IsList b items2) (hx:LexAt A.in1 s items.toList items2.toList c) (hu:A.units<cLine) (h:Q c s) :
 wpAny (model prog w) A (oneLt' true (.ref l) (.ref b)) Q E s:=by
 obtain ⟨⟨cls,dd,data,sl⟩,ho,hc,n,hd⟩:=id hl;obtain ⟨⟨cls2,dd2,data2,sl2⟩,ho2,hc2,n2,hd2⟩:=id hb;simp only at hc hd hc2 hd2;subst hc hd hc2 hd2;rw [oneLt'_eq];simp only [if_true];refine Xbl (wpAny_cRoomFor hu ?_)
 refine Xbl (wpAny_callSpecialIfBound?_slot (T := "list") ⟨_,ho,rfl⟩ PySem.F.slot_list_lt (call_meets PySem.F.slot_list_lt ⟨_,ho,rfl⟩ PySem.F.entry_list_lt (PySem.F.args_list_lt_2 _ _) (Ziw l b items items2 n n2 dd dd2 sl sl2 c) ⟨ho,ho2,hx,?_⟩))
 exact Xbo h
end
def Za4 (O:KeyOrd):List O.α→List O.α→Bool
 | [],[]=>false
 | [],_ :: _=>true
 | _ :: _,[]=>false
 | x :: xs,y :: ys=>O.blt x y || (!O.blt y x && Za4 O xs ys)
theorem Zbn (O:KeyOrd) (x y:O.α) (xs ys:List O.α):Za4 O (x :: xs) (y :: ys)=(O.blt x y || (!O.blt y x && Za4 O xs ys)):=rfl
theorem Zeb (O:KeyOrd):∀ xs,Za4 O xs xs=false
 | []=>rfl
 | x :: xs=>by rw [Zbn,O.irrefl,Zeb O xs];rfl
theorem ZeB (O:KeyOrd):∀ xs ys zs,Za4 O xs ys=true→Za4 O ys zs=true→Za4 O xs zs=true
 | [],[],_,h,_=>by cases h
 | [],_ :: _,[],_,k=>by cases k
 | [],_ :: _,_ :: _,_,_=>rfl
 | _ :: _,[],_,h,_=>by cases h
 | _ :: _,_ :: _,[],_,k=>by cases k
 | x :: xs,y :: ys,z :: zs,h1,h2=>by
   rw [Zbn] at *;simp only [Bool.or_eq_true,Bool.and_eq_true,Bool.not_eq_true'] at h1 h2 ⊢
   rcases h1 with h1 | ⟨h1,k1⟩ <;> rcases h2 with h2 | ⟨h2,k2⟩
   · exact .inl (O.trans _ _ _ h1 h2)
   · exact .inl (KeyOrd.klt_of_klt_of_kle h1 h2)
   · exact .inl (KeyOrd.klt_of_kle_of_klt h1 h2)
   · exact .inr ⟨KeyOrd.kle_trans (O:=O) h1 h2,ZeB O xs ys zs k1 k2⟩
theorem Zf1 (O:KeyOrd):∀ xs ys zs,Za4 O xs zs=true→Za4 O xs ys=true∨Za4 O ys zs=true
 | [],[],[],h=>by cases h
 | [],[],_ :: _,_=>.inr rfl
 | [],_ :: _,_,_=>.inl rfl
 | _ :: _,_,[],h=>by cases h
 | _ :: _,[],_ :: _,_=>.inr rfl
 | x :: xs, y :: ys, z :: zs, h => by
   rw [Zbn] at *;rw [Zbn];simp only [Bool.or_eq_true,Bool.and_eq_true,Bool.not_eq_true'] at h ⊢
   rcases h with h | ⟨h,k⟩
   · rcases O.negTrans _ y _ h with h | h
     · exact .inl (.inl h)
     · exact .inr (.inl h)
   · cases e1:O.blt x y with
     | true=>exact .inl (.inl rfl)
     | false =>
       cases e2:O.blt y z with
       | true=>exact .inr (.inl rfl)
       | false =>
         have a1:O.kle y x:=e1;have a2:O.kle z y:=e2;have a3:O.kle x z:=h;have b1:O.blt y x=false:=KeyOrd.kle_trans (O:=O) a3 a2;have b2:O.blt z y=false:=KeyOrd.kle_trans (O:=O) a1 a3
         rcases Zf1 O xs ys zs k with k | k
         · exact .inl (.inr ⟨b1,k⟩)
         · exact .inr (.inr ⟨b2,k⟩)
theorem ZeC (O:KeyOrd):∀ xs ys,Za4 O xs ys=false→Za4 O ys xs=false→xs=ys
 | [],[],_,_=>rfl
 | [],_ :: _,h,_=>by cases h
 | _ :: _,[],_,k=>by cases k
 | x :: xs,y :: ys,h1,h2=>by
   rw [Zbn] at h1 h2;simp only [Bool.or_eq_false_iff,Bool.and_eq_false_iff,Bool.not_eq_false'] at h1 h2;have e1:x=y:=O.total _ _ h1.1 h2.1;have e2:xs=ys:=ZeC O xs ys (by rcases h1.2 with z | z;exact absurd (h2.1.symm.trans z) (by simp);exact z) (by rcases h2.2 with z | z;exact absurd (h1.1.symm.trans z) (by simp);exact z);rw [e1,e2]
@[reducible] def listO (O:KeyOrd):KeyOrd where
 α:=List O.α
 blt:=Za4 O
 irrefl:=Zeb O
 trans:=ZeB O
 negTrans:=Zf1 O
 total:=ZeC O
theorem Zc5 {O P:KeyOrd} (x y:(lexO O P).α) (e:x.1=y.1):(lexO O P).blt x y=P.blt x.2 y.2:=by
 show (O.blt x.1 y.1 || (!O.blt y.1 x.1 && P.blt x.2 y.2))=_;rw [e,O.irrefl];rfl
theorem Zc6 {O P:KeyOrd} (x y:(lexO O P).α) (e:x.1≠y.1):(lexO O P).blt x y=O.blt x.1 y.1:=by
 show (O.blt x.1 y.1 || (!O.blt y.1 x.1 && P.blt x.2 y.2))=_
 cases h1:O.blt x.1 y.1 with
 | true=>rfl
 | false =>
   cases h2:O.blt y.1 x.1 with
   | true=>rfl
   | false=>exact absurd (O.total _ _ h1 h2) e
theorem Zix {O:KeyOrd} (x:O.α) (xs ys:List O.α):Za4 O (x :: xs) (x :: ys)=Za4 O xs ys:=by
 rw [Zbn,O.irrefl];rfl
theorem Ziy {O:KeyOrd}{x y:O.α} (xs ys:List O.α) (e:x≠y):Za4 O (x :: xs) (y :: ys)=O.blt x y:=by
 rw [Zbn]
 cases h1:O.blt x y with
 | true=>rfl
 | false =>
   cases h2:O.blt y x with
   | true=>rfl
   | false=>exact absurd (O.total _ _ h1 h2) e
mutual
theorem Cmp.mono {n m:Nat}{d e:Dt} (c:Cmp n d e) (h:n≤m):Cmp m d e:=by
 cases c with
 | non=>exact .non
 | bl a b=>exact .bl a b
 | int a b=>exact .int a b
 | str a b=>exact .str a b
 | tup t=>cases m with
   | zero=>exact absurd h (Nat.not_succ_le_zero _)
   | succ m=>exact .tup (Cmps.mono t (Nat.le_of_succ_le_succ h))
 | lst t=>cases m with
   | zero=>exact absurd h (Nat.not_succ_le_zero _)
   | succ m=>exact .lst (Cmps.mono t (Nat.le_of_succ_le_succ h))
 | apart a=>cases m with
   | zero=>exact absurd h (Nat.not_succ_le_zero _)
   | succ m=>exact .apart a
theorem Cmps.mono {n m:Nat}{ds es:List Dt} (c:Cmps n ds es) (h:n≤m):Cmps m ds es:=by
 cases c with
 | nil=>exact .nil _
 | nil'=>exact .nil' _
 | cons c t=>exact .cons (Cmp.mono c h) (Cmps.mono t h)
end
structure Enc where
 O:KeyOrd
 D:O.α→Dt
 dflt:O.α
 dep:Nat
 cmp:∀ a b,Cmp dep (D a) (D b)
 inj:∀ a b,D a=D b→a=b
 lt:∀ {X:Cx} {pins:List (Addr×Obj)} {σ:St} {H:Hp} {s:Shared},Inv X pins σ H s→∀ {a b:O.α} {v u:V} {x y:Value} {A:Around},IsDt X.K H v (D a)→IsDt X.K H u (D b)→RelV v x→RelV u y→A.units+dep<cLine→RcLtAt A s x y (O.blt a b)
section
variable {X:Cx} {pins:List (Addr×Obj)} {σ:St} {H:Hp} {s:Shared}
theorem Enc.eq (c:Enc) (I:Inv X pins σ H s) {a b:c.O.α} {v u:V} {x y:Value} {A:Around} (hv:IsDt X.K H v (c.D a)) (hu:IsDt X.K H u (c.D b)) (rx:RelV v x) (ry:RelV u y) (hA:A.units+c.dep<cLine):EqAt A s x y (dec (a=b)):=by
 have:=eqD (A:=A) I (c.cmp a b) hv hu rx ry hA
 rwa [Zb4 (p:=c.D a=c.D b) (q:=a=b) ⟨c.inj a b,fun z=>by rw [z]⟩] at this
theorem Enc.lex (c:Enc) (I:Inv X pins σ H s) {a b:c.O.α} {v u:V} {x y:Value} {A:Around} {vs ws:List Value} {e f:Bool} (hv:IsDt X.K H v (c.D a)) (hu:IsDt X.K H u (c.D b)) (rx:RelV v x) (ry:RelV u y) (hA:A.units+c.dep<cLine) (h1:a=b→LexAt A s vs ws e∧f=e) (h2:a≠b→f=c.O.blt a b):LexAt A s (x :: vs) (y :: ws) f:=by
 have he:=c.eq (A:=A) I hv hu rx ry hA
 by_cases hab:a=b
 · rw [ZaH hab] at he
   obtain ⟨t,rfl⟩:=h1 hab;exact .eq he t
 · rw [ZaP hab] at he
   rw [h2 hab];exact .ne he (c.lt I hv hu rx ry hA)
end
@[reducible] def intE:Enc where
 O:=intO
 D:=Dt.int
 dflt:=(0:Int)
 dep:=0
 cmp a b:=.int a b
 inj a b h:=Dt.int.inj h
 lt {X pins σ H s} I {a b v u x y A} hv hu rx ry _:=by
  cases hv;cases hu;obtain ⟨t,rfl⟩:=rx;obtain ⟨t',rfl⟩:=ry;exact fun prog w E Q h=>(PySem.P.lt_int h:wpAny (model prog w) _ (compareOp .Lt _ _) Q E _)
@[reducible] def strE:Enc where
 O:=strO
 D:=Dt.str
 dflt:=(default:Str)
 dep:=0
 cmp a b:=.str a b
 inj a b h:=Dt.str.inj h
 lt {X pins σ H s} I {a b v u x y A} hv hu rx ry _:=by
  cases hv;cases hu;obtain ⟨t,rfl⟩:=rx;obtain ⟨t',rfl⟩:=ry;exact fun prog w E Q h=>(PySem.P.lt_str h:wpAny (model prog w) _ (compareOp .Lt _ _) Q E _)
section
variable {X:Cx} {pins:List (Addr×Obj)} {σ:St} {H:Hp} {s:Shared}
theorem Enc.lexL (c:Enc) (I:Inv X pins σ H s) {A:Around} (hA:A.units+c.dep<cLine):∀ {as bs:List c.O.α} {vs us:List V} {xs ys:List Value},IsDts X.K H vs (as.map c.D)→IsDts X.K H us (bs.map c.D)→Vals vs xs→Vals us ys→LexAt A s xs ys (Za4 c.O as bs):=by
 intro as
 induction as with
 | nil =>
   intro bs vs us xs ys h1 h2 h3 h4;cases h1;cases h3
   cases bs with
   | nil=>cases h2;cases h4;exact .nil
   | cons b bs=>cases h2;cases h4;exact .lt _ _
 | cons a as ih =>
   intro bs vs us xs ys h1 h2 h3 h4
   cases h1 with
   | cons h t=>cases h3 with
     | cons r q=>cases bs with
       | nil=>cases h2;cases h4;exact .gt _ _
       | cons b bs=>cases h2 with
         | cons h' t'=>cases h4 with
           | cons r' q'=>exact c.lex I h h' r r' hA (fun e=>⟨ih t t' q q',by subst e;exact Zix a as bs⟩) (fun e=>Ziy as bs e)
end
theorem Ziz (c:Enc):∀ {a b:List c.O.α},a.map c.D=b.map c.D→a=b
 | [],[],_=>rfl
 | [],_ :: _,h=>by cases h
 | _ :: _,[],h=>by cases h
 | x :: a,y :: b,h=>by
   rw [Xao,Xao] at h
   injection h with h1 h2
   rw [c.inj x y h1,Ziz c h2]
@[reducible] def Zcr (c:Enc):Enc where
 O:=listO c.O
 D l:=Dt.lst (l.map c.D)
 dflt:=([]:List c.O.α)
 dep:=c.dep+1
 cmp a b:=.lst (Cmps.of fun d hd e he=>by
  obtain ⟨x,_,rfl⟩:=Xai.mp hd;obtain ⟨y,_,rfl⟩:=Xai.mp he
  exact c.cmp x y)
 inj a b h:=Ziz c (Dt.lst.inj h)
 lt {X pins σ H s} I {a b v u x y A} hv hu rx ry hA := by
  cases hv with
  | lst h t =>
    cases hu with
    | lst h' t' =>
      cases rx;cases ry;obtain ⟨its,r,p,_⟩:=I.list h;obtain ⟨its',r',p',_⟩:=I.list h';exact RcLtAt.lists p.isList p'.isList (c.lexL (A:=A.in1) I (by rw [Zbm];omega) t t' r r') (by omega)
theorem dts2 {K:XFg}{H:Hp}{vs:List V}{d e:Dt} (h:IsDts K H vs [d,e]):∃ a b,vs=[a,b]∧IsDt K H a d∧IsDt K H b e:=by
 cases h with
 | cons h1 t=>cases t with
   | cons h2 t=>cases t;exact ⟨_,_,rfl,h1,h2⟩
theorem dts3 {K:XFg}{H:Hp}{vs:List V}{d e f:Dt} (h:IsDts K H vs [d,e,f]):∃ a b c,vs=[a,b,c]∧IsDt K H a d∧IsDt K H b e∧IsDt K H c f:=by
 cases h with
 | cons h1 t=>obtain ⟨a,b,rfl,h2,h3⟩:=dts2 t;exact ⟨_,_,_,rfl,h1,h2,h3⟩
theorem vals3' {x y z:V}{us:List Value} (r:Vals [x,y,z] us):∃ u w v,us=[u,w,v]∧RelV x u∧RelV y w∧RelV z v:=by
 cases r with
 | cons r1 r2=>obtain ⟨a,b,rfl,h2,h3⟩:=Zhl r2;exact ⟨_,_,_,rfl,r1,h2,h3⟩
@[reducible] def ZiA (c d:Enc):Enc where
 O:=lexO c.O d.O
 D p:=Dt.tup [c.D p.1,d.D p.2]
 dflt:=(c.dflt,d.dflt)
 dep:=max c.dep d.dep+1
 cmp a b:=.tup (.cons ((c.cmp a.1 b.1).mono (Nat.le_max_left _ _)) (.cons ((d.cmp a.2 b.2).mono (Nat.le_max_right _ _)) (.nil _)))
 inj a b h:=by
  injection h with h
  injection h with h1 h2
  injection h2 with h2 _
  exact Prod.ext (c.inj _ _ h1) (d.inj _ _ h2)
 lt {X pins σ H s} I {a b v u x y A} hv hu rx ry hA := by
  have m1:=Nat.le_max_left c.dep d.dep;have m2:=Nat.le_max_right c.dep d.dep
  cases hv with
  | tup h t =>
    cases hu with
    | tup h' t' =>
      cases rx;cases ry;obtain ⟨its,r,p,_⟩:=I.tuple h;obtain ⟨its',r',p',_⟩:=I.tuple h';obtain ⟨v1,v2,rfl,t1,t2⟩:=dts2 t;obtain ⟨u1,u2,rfl,s1,s2⟩:=dts2 t';obtain ⟨x1,x2,rfl,r1,r2⟩:=Zhl r;obtain ⟨y1,y2,rfl,q1,q2⟩:=Zhl r';refine RcLtAt.tuples p p' (c.lex (A:=A.in1) I t1 s1 r1 q1 (by rw [Zbm];omega) (fun e=>⟨d.lex (A:=A.in1) I t2 s2 r2 q2 (by rw [Zbm];omega) (fun e'=>⟨.nil,?_⟩) fun e'=>rfl,Zc5 a b e⟩) fun e=>Zc6 a b e) (by omega);rw [e',d.O.irrefl]
@[reducible] def ZiB (c d e:Enc):Enc where
 O:=lexO c.O (lexO d.O e.O)
 D p:=Dt.tup [c.D p.1,d.D p.2.1,e.D p.2.2]
 dflt:=(c.dflt,d.dflt,e.dflt)
 dep:=max c.dep (max d.dep e.dep)+1
 cmp a b:=.tup (.cons ((c.cmp a.1 b.1).mono (Nat.le_max_left _ _)) (.cons ((d.cmp a.2.1 b.2.1).mono (by omega)) (.cons ((e.cmp a.2.2 b.2.2).mono (by omega)) (.nil _))))
 inj a b h:=by
  injection h with h
  injection h with h1 h2
  injection h2 with h2 h3
  injection h3 with h3 _
  exact Prod.ext (c.inj _ _ h1) (Prod.ext (d.inj _ _ h2) (e.inj _ _ h3))
 lt {X pins σ H s} I {a b v u x y A} hv hu rx ry hA := by
  have m1:=Nat.le_max_left c.dep (max d.dep e.dep);have m2:=Nat.le_max_right c.dep (max d.dep e.dep);have m3:=Nat.le_max_left d.dep e.dep;have m4:=Nat.le_max_right d.dep e.dep
  cases hv with
  | tup h t =>
    cases hu with
    | tup h' t' =>
      cases rx;cases ry;obtain ⟨its,r,p,_⟩:=I.tuple h;obtain ⟨its',r',p',_⟩:=I.tuple h';obtain ⟨v1,v2,v3,rfl,t1,t2,t3⟩:=dts3 t;obtain ⟨u1,u2,u3,rfl,s1,s2,s3⟩:=dts3 t';obtain ⟨x1,x2,x3,rfl,r1,r2,r3⟩:=vals3' r;obtain ⟨y1,y2,y3,rfl,q1,q2,q3⟩:=vals3' r';refine RcLtAt.tuples p p' (c.lex (A:=A.in1) I t1 s1 r1 q1 (by rw [Zbm];omega) (fun g=>⟨d.lex (A:=A.in1) I t2 s2 r2 q2 (by rw [Zbm];omega) (fun g'=>⟨e.lex (A:=A.in1) I t3 s3 r3 q3 (by rw [Zbm];omega) (fun g''=>⟨.nil,?_⟩) fun _=>rfl,Zc5 a.2 b.2 g'⟩) fun g'=>Zc6 a.2 b.2 g',Zc5 a b g⟩) fun g=>Zc6 a b g) (by omega);rw [g'',e.O.irrefl]
section
variable {X:Cx}
abbrev RowE (c:Enc):Type:=V×c.O.α
def Zj6 (X:Cx) (c:Enc):List V→Hp→VK→Prop:=fun vs H Q=>∃ (l:Addr) (zs:List (RowE c)),vs=[.ref l]∧SqL X.K H l (zs.map (·.1))∧zs.length<64 ∧
 (∀ z∈zs,IsDt X.K H z.1 (c.D z.2))∧∀ (D:Addr) (zs':List (RowE c)),zs'.Perm zs→(zs'.map (·.2)).Pairwise c.O.kle→H D=none→Q (.ref D) (upd H D (.lst (zs'.map (·.1))))
theorem ZhA (c:Enc) (κ:SortKind)
 (hkind:∀ (pins:List (Addr×Obj)) (σ:St) (H:Hp) (s:Shared) (zs:List (RowE c)) (its:List Value) (Q:SortKind→Shared→Prop),Inv X pins σ H s→Vals (zs.map (·.1)) its→(∀ z∈zs,IsDt X.K H z.1 (c.D z.2))→2≤its.length→Q κ s→wpAny (model X.prog X.w) X.A.in1.in1 (keyKind' its.toArray) Q (fun _ _=>False) s)
 (hcmp:∀ (pins:List (Addr×Obj)) (σ:St) (H:Hp) (s:Shared) (z z':RowE c) (x y:Value) (C:Bool→Shared→Prop),Inv X pins σ H s→IsDt X.K H z.1 (c.D z.2)→IsDt X.K H z'.1 (c.D z'.2)→RelV z.1 x→RelV z'.1 y→C (c.O.blt z.2 z'.2) s→wpAny (model X.prog X.w) X.A.in1.in1 (keyLt' κ x y) C (fun _ _=>False) s) :
 CallR X (.builtin "sorted") (Zj6 X c):=by
 intro pins s σ H vs us Q I r h;obtain ⟨l,zs,rfl,hl,h64,hr,q⟩:=h;obtain ⟨u,rfl,ru⟩:=Zdt r;obtain rfl:u=Value.ref l:=ru;obtain ⟨its,ri,pl,_⟩:=I.list hl
 have hlen:zs.length=its.length:=by have:=ri.length;rwa [Xaa] at this
 let dz:RowE c:=(V.non,c.dflt)
 have hat:∀ i,i<zs.length→RelV (zs.getD i dz).1 (its.getD i Value.none)∧IsDt X.K H (zs.getD i dz).1 (c.D (zs.getD i dz).2):=fun i hi=>by
  have:=Zdv ri i V.non Value.none (by rw [Xaa];exact hi)
  have e:(zs.map (·.1)).getD i V.non=(zs.getD i dz).1:=by
   rw [Xaq,Xag,Xaq,Xab hi];rfl
  rw [e] at this;refine ⟨this,hr _ ?_⟩;rw [Xaq,Xab hi];exact Xav hi
 refine Ze5 (O:=c.O) (key:=fun i=>(zs.getD i dz).2) (κ:=κ) (vs:=its) pl.isList (by omega) (fun h2 h' k Q' hq=>?_) (fun h' k i j C hi hj hC=>?_) fun D h' n is kk hD hpm hst hg=>?_
 · exact hkind pins σ H _ zs its Q' (I.kept (t':=s.toks) k) ri hr h2 hq
 · obtain ⟨a1,a2⟩:=hat i (by omega)
   obtain ⟨b1,b2⟩:=hat j (by omega);unfold PySem.W.kas_ask;exact hcmp pins σ H _ _ _ _ _ C (I.kept (t':=s.toks) k) a2 b2 a1 b1 hC
 · have hin:∀ i∈is,i<zs.length:=fun i hi=>by
    have:=hpm.mem_iff.mp hi
    rw [hlen];simpa using this
   have hrange:(List.range zs.length).map (fun i=>zs.getD i dz)=zs:=by
    apply List.ext_getElem?;intro k
    by_cases hk:k<zs.length
    · simp [hk,Xaq]
    · simp [hk]
   have hperm:(is.map fun i=>zs.getD i dz).Perm zs:=by
    have:=hpm.map (fun i=>zs.getD i dz)
    rwa [←hlen,hrange] at this
   have hv:Vals ((is.map fun i=>zs.getD i dz).map (·.1)) (is.map fun i=>its.getD i Value.none):=by
    rw [Xax];exact ZdU is fun i hi=>(hat i (hin i hi)).1
   have hpw:((is.map fun i=>zs.getD i dz).map (·.2)).Pairwise c.O.kle:=by
    refine Zbt (fun _ _ _=>KeyOrd.kle_trans) _ fun i a b h1 h2=>?_;rw [Xax,Xag,XaV] at h1 h2;obtain ⟨x,e1,rfl⟩:=h1;obtain ⟨y,e2,rfl⟩:=h2;obtain ⟨hlt,_⟩:=Xae.mp e2
    have:=hst i hlt
    have g1:is.getD i 0=x:=by rw [Xaq,e1];rfl
    have g2:is.getD (i+1) 0=y:=by rw [Xaq,e2];rfl
    rw [g1,g2] at this;exact this
   exact ⟨.ref D,upd H D (.lst ((is.map fun i=>zs.getD i dz).map (·.1))),I.laidN (t':=s.toks) kk hD ⟨by rw [Xaa,hperm.length_eq];exact XaY (Zal (by omega)),_,n,hv,hg⟩,rfl,q D _ hperm hpw (I.freshN hD)⟩
theorem Zf2 {pins:List (Addr×Obj)} {σ:St} {H:Hp} {s:Shared} {M:Model} (I:Inv X pins σ H s) {v:V} {ds:List Dt} {x:Value} (h:IsDt X.K H v (.lst ds)) (r:RelV v x):PySem.W.Looks M s.heap (typeOf x) (.type "list"):=by
 cases h with
 | lst h t =>
   cases r;obtain ⟨its,_,p,_⟩:=I.list h;obtain ⟨o,ho,hc,_⟩:=p.isList;rw [←hc];exact (PySem.W.Looks.ld ho).andThen .now
theorem ZkI (c:Enc) (hu:X.A.units+64<cLine) (hd:c.dep≤50):CallR X (.builtin "sorted") (Zj6 X (Zcr c)):=by
 refine ZhA (Zcr c) oneType' (fun pins σ H s zs its Q I rv hz h2 hq=>?_) fun pins σ H s z z' x y C I h h' r r' hC=>?_
 · refine PySem.W.kas_kind (T:=.type "list") h2 (fun v hv=>?_) (by decide) (by decide) hq
   obtain ⟨i,hi⟩:=List.getElem?_of_mem hv;have hi':=(Xae.mp hi).1;have hl:=rv.length;rw [Xaa] at hl;obtain ⟨x,hx,rx⟩:=rv.get (i:=i) (x:=(zs[i]'(by omega)).1) (by rw [Xag,Xab (by omega)];rfl);rw [hi] at hx;cases hx;exact Zf2 I (hz _ (Xav (by omega))) rx
 · rw [keyLt'_oneType]
   obtain ⟨v,as⟩:=z;obtain ⟨u,bs⟩:=z'
   cases h with
   | lst h t =>
     cases h' with
     | lst h' t' =>
       cases r;cases r';obtain ⟨its,rr,p,_⟩:=I.list h;obtain ⟨its',rr',p',_⟩:=I.list h';exact Zf0 p.isList p'.isList (c.lexL I (by show _+1+1+1+_<_;omega) t t' rr rr') (by show _+1+1<_;omega) hC
theorem Zjm (c:Enc) {pins:List (Addr×Obj)} {σ:St} {H:Hp} {s:Shared} (I:Inv X pins σ H s) {g:c.O.α→List Dt}:∀ {zs:List (V×c.O.α)} {its:List Value} {k:c.O.α→List Dt},Vals (zs.map (·.1)) its→(∀ z∈zs,∃ ds,k z.2=Dt.lst ds :: g z.2∧IsDt X.K H z.1 (.tup (k z.2))) →
 ∃ fs,PySem.W.KatTups s.heap its fs∧fs.length=zs.length∧∀ v∈fs,∃ (u:V) (ds:List Dt),IsDt X.K H u (.lst ds)∧RelV u v
 | [],_,_,.nil,_=>⟨[],.nil,rfl,fun _ x=>by cases x⟩
 | z :: zs, _, k, .cons r rr, h => by
   obtain ⟨fs,k1,k2,k3⟩:=Zjm c I (zs:=zs) rr fun y hy=>h y (Xap _ hy);obtain ⟨ds,e,hd⟩:=h z Xal;rw [e] at hd;obtain ⟨v,a⟩:=z;dsimp only at r hd
   cases hd with
   | tup hs t =>
     cases r;obtain ⟨its,ri,⟨o,b1,b2,n,b3⟩,_⟩:=I.tuple hs
     cases t with
     | cons t1 t2 =>
       cases ri with
       | cons r1 r2 =>
         refine ⟨_ :: fs,.cons b1 b2 b3 rfl k1,by simp [k2],fun w hw=>?_⟩
         rcases Xam.mp hw with e | hw
         · exact ⟨_,ds,t1,e ▸ r1⟩
         · exact k3 w hw
theorem ZhB {A:Around}{s:Shared}{prog:Program}{w:World}{E:Value→Shared→Prop}{x y:Value}{b:Bool}{Q:Bool→Shared→Prop} (h:RcLtAt A s x y b) (q:Q b s):wpAny (model prog w) A (oneLt' false x y) Q E s :=
 PySem.W.kat_one _ _ (h prog w E _ q)
theorem oneLtL (c:Enc) {pins:List (Addr×Obj)} {σ:St} {H:Hp} {s:Shared} (I:Inv X pins σ H s) {A:Around} {as bs:List c.O.α} {v u:V} {x y:Value} {prog:Program} {w:World} {E:Value→Shared→Prop} {Q:Bool→Shared→Prop} (h:IsDt X.K H v ((Zcr c).D as)) (h':IsDt X.K H u ((Zcr c).D bs)) (r:RelV v x) (r':RelV u y) (hA:A.units+(c.dep+1)<cLine) (q:Q (Za4 c.O as bs) s):wpAny (model prog w) A (oneLt' true x y) Q E s:=by
 cases h with
 | lst h t =>
   cases h' with
   | lst h' t' =>
     cases r;cases r';obtain ⟨its,rr,p,_⟩:=I.list h;obtain ⟨its',rr',p',_⟩:=I.list h';exact Zf0 p.isList p'.isList (c.lexL I (by rw [Zbm];omega) t t' rr rr') (by omega) q
theorem Zjn (c d : Enc) (hu : X.A.units + 64 < cLine) (h1 : c.dep ≤ 50) (h2 : d.dep ≤ 50) : CallR X (.builtin "sorted") (Zj6 X (ZiA (Zcr c) d)) := by
 refine ZhA (ZiA (Zcr c) d) (tuples' true) (fun pins σ H s zs its Q I rv hz hl hq=>?_) fun pins σ H s z z' x y C I h h' r r' hC=>?_
 · obtain ⟨fs,k1,k2,k3⟩:=Zjm (ZiA (Zcr c) d) I (k:=fun p=>[(Zcr c).D p.1,d.D p.2]) (g:=fun p=>[d.D p.2]) rv fun z hz'=>⟨_,rfl,hz z hz'⟩
   have hl2:=rv.length;rw [Xaa] at hl2
   refine PySem.W.kat_kind (T:=.type "list") k1 (by omega) (fun v hv=>?_) (by decide) hq
   obtain ⟨u,ds,a1,a2⟩:=k3 v hv;exact Zf2 I a1 a2
 · obtain ⟨v, p⟩ := z
   obtain ⟨u,q⟩:=z';dsimp only at h h' r r'
   change C ((ZiA (Zcr c) d).O.blt p q) s at hC
   have hun:X.A.in1.in1.units=X.A.units+1+1:=rfl
   cases h with
   | tup hs t =>
     cases h' with
     | tup hs' t' =>
       cases r;cases r';obtain ⟨its,rr,⟨ox,hox,_,n,dx⟩,_⟩:=I.tuple hs;obtain ⟨its',rr',⟨oy,hoy,_,m,dy⟩,_⟩:=I.tuple hs'
       cases t with
       | cons t1 t => cases t with
         | cons t2 t => cases t; cases t' with
           | cons s1 t' => cases t' with
             | cons s2 t' => cases t'; cases rr with
               | cons r1 rr => cases rr with
                 | cons r2 rr => cases rr; cases rr' with
                   | cons q1 rr'=>cases rr' with
                     | cons q2 rr' =>
                       cases rr';refine PySem.W.kat_lt hox dx hoy dy (PySem.W.kat_cons ((Zcr c).eq (A:=X.A.in1.in1) I t1 s1 r1 q1 (by rw [hun];show _+(c.dep+1)<_;omega) _ _ _ _ ?_))
                       by_cases e1:p.1=q.1
                       · rw [ZaH e1]
                         rw [show (ZiA (Zcr c) d).O.blt p q=d.O.blt p.2 q.2 from Zc5 p q e1] at hC;refine PySem.W.kat_yes (PySem.W.kat_cons (d.eq (A:=X.A.in1.in1) I t2 s2 r2 q2 (by rw [hun];omega) _ _ _ _ ?_))
                         by_cases e2:p.2=q.2
                         · rw [ZaH e2]
                           refine PySem.W.kat_yes (PySem.W.kat_nil ?_);rw [e2,d.O.irrefl] at hC;exact hC
                         · rw [ZaP e2]
                           exact PySem.W.kat_no (ZhB (d.lt I t2 s2 r2 q2 (by rw [hun];omega)) hC)
                       · rw [ZaP e1]
                         rw [show (ZiA (Zcr c) d).O.blt p q=Za4 c.O p.1 q.1 from Zc6 p q e1] at hC;exact PySem.W.kat_no (oneLtL c I t1 s1 r1 q1 (by rw [hun];omega) hC)
theorem Zjo (c d e : Enc) (hu : X.A.units + 64 < cLine) (h1 : c.dep ≤ 50) (h2 : d.dep ≤ 50) (h3 : e.dep ≤ 50) : CallR X (.builtin "sorted") (Zj6 X (ZiB (Zcr c) d e)) := by
 refine ZhA (ZiB (Zcr c) d e) (tuples' true) (fun pins σ H s zs its Q I rv hz hl hq=>?_) fun pins σ H s z z' x y C I h h' r r' hC=>?_
 · obtain ⟨fs,k1,k2,k3⟩:=Zjm (ZiB (Zcr c) d e) I (k:=fun p=>[(Zcr c).D p.1,d.D p.2.1,e.D p.2.2]) (g:=fun p=>[d.D p.2.1,e.D p.2.2]) rv fun z hz'=>⟨_,rfl,hz z hz'⟩
   have hl2:=rv.length;rw [Xaa] at hl2
   refine PySem.W.kat_kind (T:=.type "list") k1 (by omega) (fun v hv=>?_) (by decide) hq
   obtain ⟨u,ds,a1,a2⟩:=k3 v hv;exact Zf2 I a1 a2
 · obtain ⟨v, p⟩ := z
   obtain ⟨u,q⟩:=z';dsimp only at h h' r r'
   change C ((ZiB (Zcr c) d e).O.blt p q) s at hC
   have hun:X.A.in1.in1.units=X.A.units+1+1:=rfl
   cases h with
   | tup hs t =>
     cases h' with
     | tup hs' t' =>
       cases r;cases r';obtain ⟨its,rr,⟨ox,hox,_,n,dx⟩,_⟩:=I.tuple hs;obtain ⟨its',rr',⟨oy,hoy,_,m,dy⟩,_⟩:=I.tuple hs'
       cases t with
       | cons t1 t => cases t with
         | cons t2 t => cases t with
           | cons t3 t => cases t; cases t' with
             | cons s1 t' => cases t' with
               | cons s2 t' => cases t' with
                 | cons s3 t' => cases t'; cases rr with
                   | cons r1 rr => cases rr with
                     | cons r2 rr => cases rr with
                       | cons r3 rr => cases rr; cases rr' with
                         | cons q1 rr' => cases rr' with
                           | cons q2 rr' => cases rr' with
                             | cons q3 rr' =>
                               cases rr';refine PySem.W.kat_lt hox dx hoy dy (PySem.W.kat_cons ((Zcr c).eq (A:=X.A.in1.in1) I t1 s1 r1 q1 (by rw [hun];show _+(c.dep+1)<_;omega) _ _ _ _ ?_))
                               by_cases e1:p.1=q.1
                               · rw [ZaH e1]
                                 rw [show (ZiB (Zcr c) d e).O.blt p q=(lexO d.O e.O).blt p.2 q.2 from Zc5 p q e1] at hC;refine PySem.W.kat_yes (PySem.W.kat_cons (d.eq (A:=X.A.in1.in1) I t2 s2 r2 q2 (by rw [hun];omega) _ _ _ _ ?_))
                                 by_cases e2:p.2.1=q.2.1
                                 · rw [ZaH e2]
                                   rw [show (lexO d.O e.O).blt p.2 q.2=e.O.blt p.2.2 q.2.2 from Zc5 p.2 q.2 e2] at hC;refine PySem.W.kat_yes (PySem.W.kat_cons (e.eq (A:=X.A.in1.in1) I t3 s3 r3 q3 (by rw [hun];omega) _ _ _ _ ?_))
                                   by_cases e3:p.2.2=q.2.2
                                   · rw [ZaH e3]
                                     refine PySem.W.kat_yes (PySem.W.kat_nil ?_);rw [e3,e.O.irrefl] at hC;exact hC
                                   · rw [ZaP e3]
                                     exact PySem.W.kat_no (ZhB (e.lt I t3 s3 r3 q3 (by rw [hun];omega)) hC)
                                 · rw [ZaP e2]
                                   rw [show (lexO d.O e.O).blt p.2 q.2=d.O.blt p.2.1 q.2.1 from Zc6 p.2 q.2 e2] at hC;exact PySem.W.kat_no (ZhB (d.lt I t2 s2 r2 q2 (by rw [hun];omega)) hC)
                               · rw [ZaP e1]
                                 rw [show (ZiB (Zcr c) d e).O.blt p q=Za4 c.O p.1 q.1 from Zc6 p q e1] at hC;exact PySem.W.kat_no (oneLtL c I t1 s1 r1 q1 (by rw [hun];omega) hC)
end
def goN:List (Str×Int)→Str→Option Int
 | [],_=>none
 | (y,n) :: r,x=>if y=x then some n else goN r x
def onV:Option Int→V
 | some n=>.int n
 | none=>.non
theorem goN_at:∀ {gs:List (Str×Int)} {i:Nat} {p:Str×Int} {x:Str},gs[i]?=some p→p.1=x→(∀ q∈gs.take i,q.1≠x)→goN gs x=some p.2
 | [],_,_,_,h,_,_=>by simp at h
 | q :: r,0,p,x,h,e,_=>by
   simp at h;subst h;obtain ⟨y,n⟩:=q;exact Xbf e
 | q :: r,i+1,p,x,h,e,k=>by
   obtain ⟨y,n⟩:=q;have k1:y≠x:=k (y,n) (by simp);show (if y=x then some n else goN r x)=_;rw [Xbe k1];exact goN_at (i:=i) (by simpa using h) e fun q hq=>k q (by simp [hq])
theorem Zj7:∀ {gs:List (Str×Int)} {x:Str},(∀ q∈gs,q.1≠x)→goN gs x=none
 | [],_,_=>rfl
 | (y,n) :: r,x,k=>by
   show (if y=x then some n else goN r x)=_;rw [Xbe (k (y,n) (by simp))];exact Zj7 fun q hq=>k q (by simp [hq])
theorem ZlH:∀ {gs:List (Str×Int)} {x:Str} {n:Int},goN gs x=some n→(x,n)∈gs
 | [],_,_,h=>by cases h
 | (y,m) :: r,x,n,h=>by
   have h':(if y=x then some m else goN r x)=some n:=h
   by_cases e:y=x
   · rw [Xbf e] at h'
     rw [←e,←Xbd h'];exact Xal
   · rw [Xbe e] at h'
     exact Xap _ (ZlH h')
abbrev Mrk:Type:=Int×Str×Int
abbrev mkV (m:Mrk):List V:=[.int m.1,.str m.2.1,.int m.2.2]
abbrev Beg:Type:=List Mrk×Int×Int
structure Wd where
 ss:List Sco
 gs:List (Str×Int)
 as:List (Option (Str×Int))
 sts:List Stt
abbrev Gn:Type:=Mrk×(Str×Int)×Int
def Zdw (W:Wd) (sc:Int) (go:List (Str×Int)) (p:Stp) (i:Nat):List Gn:=match goN go p.1 with
 | some a=>[((sc,("step" : Str),(i:Int)),Zc0 W.gs W.as p,a)]
 | none=>[]
def Zc7 (W:Wd) (sc:Int) (go:List (Str×Int)):List Stp→Nat→List Gn
 | [],_=>[]
 | p :: r,i=>Zdw W sc go p i++Zc7 W sc go r (i+1)
def ZaV (W:Wd) (sc:Int):List Stp:=match W.ss[sc.toNat]? with
 | some s=>s.1
 | none=>[]
def ZbN (W:Wd) (st:Int):List (Str×Int):=match W.sts[st.toNat]? with
 | some s=>s.1
 | none=>[]
def Zdn (W:Wd) (sc st:Int):List Gn:=Zc7 W sc (ZbN W st) (ZaV W sc) 0
theorem Zg3 (W:Wd) (sc:Int) (go:List (Str×Int)) (p:Stp):∀ (l:List Stp) (i:Nat),Zc7 W sc go (l++[p]) i=Zc7 W sc go l i++Zdw W sc go p (i+l.length)
 | [],i=>by simp [Zc7]
 | q :: l,i=>by
   show Zdw W sc go q i++Zc7 W sc go (l++[p]) (i+1)=(Zdw W sc go q i++Zc7 W sc go l (i+1))++_;rw [Zg3 W sc go p l (i+1),XaE,XaB,show i+1+l.length=i+(l.length+1) by omega]
theorem mem_gone1 {W:Wd}{sc:Int}{go:List (Str×Int)} {p:Stp} {i:Nat} {r:Gn}:r∈Zdw W sc go p i↔∃ a,goN go p.1=some a∧r=((sc,("step" : Str),(i:Int)),Zc0 W.gs W.as p,a):=by
 unfold Zdw
 cases e:goN go p.1 with
 | none=>simp
 | some a=>simp
theorem mem_gone0 {W:Wd}{sc:Int}{go:List (Str×Int)} {r:Gn}:∀ {l:List Stp} {i:Nat},r∈Zc7 W sc go l i↔∃ (j:Nat) (p:Stp) (a:Int),l[j]?=some p∧goN go p.1=some a∧r=((sc,("step" : Str),((i+j:Nat):Int)),Zc0 W.gs W.as p,a)
 | [],i=>by simp [Zc7]
 | q :: l, i => by
   show r∈Zdw W sc go q i++Zc7 W sc go l (i+1)↔_;rw [Xaf,mem_gone1,mem_gone0 (l:=l) (i:=i+1)]
   constructor
   · rintro (⟨a,h1,h2⟩ | ⟨j,p,a,h1,h2,h3⟩)
     · exact ⟨0,q,a,rfl,h1,by rw [h2];rfl⟩
     · exact ⟨j+1,p,a,by simpa using h1,h2,by rw [h3,show i+1+j=i+(j+1) by omega]⟩
   · rintro ⟨j,p,a,h1,h2,h3⟩
     cases j with
     | zero =>
       simp at h1;subst h1;exact .inl ⟨a,h2,by rw [h3];rfl⟩
     | succ j=>exact .inr ⟨j,p,a,by simpa using h1,h2,by rw [h3,show i+1+j=i+(j+1) by omega]⟩
theorem Zj8 (W:Wd) (sc:Int) (go:List (Str×Int)):∀ (l:List Stp) (i:Nat),(Zc7 W sc go l i).Pairwise (fun r r'=>r.1≠r'.1)
 | [],i=>List.Pairwise.nil
 | q :: l, i => by
   show (Zdw W sc go q i++Zc7 W sc go l (i+1)).Pairwise _;refine List.pairwise_append.mpr ⟨?_,Zj8 W sc go l (i+1),fun r hr r' hr' e=>?_⟩
   · unfold Zdw
     split
     · exact List.pairwise_singleton _ _
     · exact List.Pairwise.nil
   · obtain ⟨a,_,rfl⟩:=mem_gone1.mp hr
     obtain ⟨j,p,a',_,_,rfl⟩:=mem_gone0.mp hr'
     have:=Xbk (fun m:Mrk=>m.2.2) e
     simp only at this;omega
theorem Zcs (W:Wd) (sc:Int) (go:List (Str×Int)):∀ (l:List Stp) (i:Nat),(Zc7 W sc go l i).length≤l.length
 | [],i=>XaW _
 | q :: l,i=>by
   show (Zdw W sc go q i++Zc7 W sc go l (i+1)).length≤_
   have h1:(Zdw W sc go q i).length≤1:=by unfold Zdw;split <;> simp
   have h2:=Zcs W sc go l (i+1);rw [Xac,XaB];omega
theorem ZlI {W:Wd}{sc:Int}{go:List (Str×Int)} {l:List Stp} {i:Nat} {r r':Gn} (h:r∈Zc7 W sc go l i) (h':r'∈Zc7 W sc go l i) (e:r.1=r'.1):r=r':=by
 obtain ⟨j,p,a,h1,h2,rfl⟩:=mem_gone0.mp h;obtain ⟨j',p',a',h1',h2',rfl⟩:=mem_gone0.mp h'
 have:=Xbk (fun m:Mrk=>m.2.2) e
 simp only at this
 have ej:j=j':=by omega
 subst ej;rw [h1] at h1';cases h1';rw [h2] at h2';cases h2';rfl
def been (b:Beg):List Int:=b.1.map (·.1)++[b.2.1]
def kid (b:Beg) (r:Gn):Option Beg:=if r.2.1.1=("to" : Str)∧r.2.1.2 ∉ been b then some (b.1++[r.1],r.2.1.2,r.2.2) else none
def kids (W:Wd) (b:Beg):List Beg:=(Zdn W b.2.1 b.2.2).filterMap (kid b)
theorem mem_kids {W:Wd}{b c:Beg}:c∈kids W b↔∃ r∈Zdn W b.2.1 b.2.2,r.2.1.1=("to" : Str)∧r.2.1.2 ∉ been b∧c=(b.1++[r.1],r.2.1.2,r.2.2):=by
 unfold kids kid;rw [List.mem_filterMap]
 constructor
 · rintro ⟨r,hr,e⟩
   split at e
   · rename_i h
     exact ⟨r,hr,h.1,h.2,(Xbd e).symm⟩
   · cases e
 · rintro ⟨r,hr,h1,h2,e⟩
   exact ⟨r,hr,by rw [Xbf ⟨h1,h2⟩,e]⟩
theorem Zj9 (W:Wd) (b:Beg):(kids W b).length≤(ZaV W b.2.1).length:=Xbh (List.length_filterMap_le _ _) (Zcs _ _ _ _ _)
theorem kids_nd (W:Wd) (b:Beg):(kids W b).Nodup:=by
 refine List.Pairwise.filterMap (kid b) (fun r r' hne c hc c' hc' e=>?_) (Zj8 W b.2.1 (ZbN W b.2.2) (ZaV W b.2.1) 0);unfold kid at hc hc'
 split at hc
 · split at hc'
   · cases hc;cases hc'
     have:=Xbk Prod.fst e
     simp only at this
     have:=(List.append_inj' this rfl).2
     exact hne (by simpa using this)
   · cases hc'
 · cases hc
inductive IsBeg (W:Wd) (sc st:Int):Beg→Prop where
 | root:IsBeg W sc st ([],sc,st)
 | kid {b c:Beg} (h:IsBeg W sc st b) (k:c∈kids W b):IsBeg W sc st c
structure WOk (W:Wd):Prop where
 s5:W.ss.length≤5
 st:∀ s∈W.ss,s.1.length≤3∧(4≤W.ss.length→s.1.length≤2)
 tl:∀ s∈W.ss,s.2.length≤3∧(5≤W.ss.length→s.2.length≤2)
 kst:∀ s∈W.ss,∀ p∈s.1,stOk W.ss.length W.as.length p
 kth:∀ p∈W.gs,thOk W.ss.length W.as.length p
 an:∀ p,some p∈W.as→p.1=("thing" : Str)→0≤p.2∧p.2<W.gs.length
 go:∀ s∈W.sts,∀ p∈s.1,0≤p.2∧p.2<W.sts.length
theorem WOk.net {W:Wd} (h:WOk W):NetOk W.gs W.as:=⟨fun p hp e=>by
 rcases h.kth p hp with ⟨e1,_⟩ | ⟨e1,_⟩ | ⟨_,e2⟩
 · rw [e] at e1;exact absurd e1 (by decide +kernel)
 · rw [e] at e1;exact absurd e1 (by decide +kernel)
 · exact e2,h.an⟩
theorem WOk.by_ {W:Wd} (h:WOk W) {s:Sco} (hs:s∈W.ss) {p:Stp} (hp:p∈s.1) (hn:p.2.1≠("to" : Str)):0≤p.2.2∧p.2.2<W.as.length:=by
 rcases h.kst s hs p hp with ⟨e,_⟩ | ⟨_,e⟩
 · exact absurd e hn
 · exact e
theorem ZiC:(("no" : Str),(0:Int)).1≠("to" : Str):=by decide +kernel
theorem ZlJ:("open" : Str)≠("to" : Str):=by decide +kernel
theorem Zka {W:Wd} (h:WOk W) {k:Str×Int} (hk:k∈W.gs) (ek:k.1=("part" : Str)):0≤k.2∧k.2<W.ss.length:=by
 rcases h.kth k hk with ⟨e1,_⟩ | ⟨_,e2⟩ | ⟨e1,_⟩
 · rw [ek] at e1;exact absurd e1 (by decide +kernel)
 · exact e2
 · rw [ek] at e1;exact absurd e1 (by decide +kernel)
theorem ZmN {W:Wd} (h:WOk W) {q:Int} {g:Str×Int} (e:ZeA W.gs W.as q=g) (hg:g.1=("to" : Str)):0≤g.2∧g.2<W.ss.length:=by
 unfold ZeA at e
 split at e
 · split at e
   · split at e
     · rename_i k hk
       split at e
       · rename_i hp
         subst e;exact Zka (k:=k) h (Xah hk) hp
       · subst e;exact absurd hg ZiC
     · subst e;exact absurd hg ZiC
   · subst e;exact absurd hg ZiC
 · subst e;exact absurd hg ZlJ
 · subst e;exact absurd hg ZiC
theorem ZkJ {W:Wd} (h:WOk W) {p:Str×Int} (hp:p∈W.gs) {g:Str×Int} (e:Zde W.gs W.as p=g) (hg:g.1=("to" : Str)):0≤g.2∧g.2<W.ss.length:=by
 unfold Zde at e
 split at e
 · rename_i hpart
   subst e;exact Zka (k:=p) h hp hpart
 · split at e
   · exact ZmN h e hg
   · subst e;exact absurd hg ZiC
theorem ZmO {W:Wd} (h:WOk W) {s:Sco} (hs:s∈W.ss) {p:Stp} (hp:p∈s.1) {g:Str×Int} (e:Zc0 W.gs W.as p=g) (hg:g.1=("to" : Str)):0≤g.2∧g.2<W.ss.length:=by
 unfold Zc0 at e
 split at e
 · rename_i hto
   subst e
   rcases h.kst s hs p hp with ⟨_,e2⟩ | ⟨e1,_⟩
   · exact e2
   · rw [hto] at e1;exact absurd e1 (by decide +kernel)
 · split at e
   · split at e
     · split at e
       · rename_i k hk
         exact ZkJ h (Xah hk) e hg
       · subst e;exact absurd hg ZiC
     · subst e;exact absurd hg ZiC
   · subst e;exact absurd hg ZlJ
   · subst e;exact absurd hg ZiC
structure BegOk (W:Wd) (b:Beg):Prop where
 nd:(been b).Nodup
 rng:∀ x∈been b,0≤x∧x<W.ss.length
 st:0≤b.2.2∧b.2.2<W.sts.length
theorem ZlK {W:Wd}{sc:Int}{p:Stp} (h:p∈ZaV W sc):∃ s∈W.ss,p∈s.1:=by
 unfold ZaV at h
 split at h
 · rename_i s hs
   exact ⟨s,Xah hs,h⟩
 · cases h
theorem ZmP {W:Wd}{st:Int}{p:Str×Int} (h:p∈ZbN W st):∃ s∈W.sts,p∈s.1:=by
 unfold ZbN at h
 split at h
 · rename_i s hs
   exact ⟨s,Xah hs,h⟩
 · cases h
theorem ZhC {W:Wd}{sc st:Int}{r:Gn} (h:r∈Zdn W sc st):∃ (j:Nat) (p:Stp) (a:Int),(ZaV W sc)[j]?=some p∧goN (ZbN W st) p.1=some a∧r=((sc,("step" : Str),(j:Int)),Zc0 W.gs W.as p,a):=by
 obtain ⟨j,p,a,h1,h2,h3⟩:=mem_gone0.mp h;exact ⟨j,p,a,h1,h2,by rw [h3,Nat.zero_add]⟩
theorem Zkb {W:Wd}{b:Beg}{r:Gn} (h:r∈Zdn W b.2.1 b.2.2):been (b.1++[r.1],r.2.1.2,r.2.2)=been b++[r.2.1.2]:=by
 obtain ⟨j,p,a,_,_,rfl⟩:=ZhC h;unfold been
 simp
theorem BegOk.kid {W:Wd} (ok:WOk W) {b c:Beg} (h:BegOk W b) (k:c∈kids W b):BegOk W c:=by
 obtain ⟨r,hr,h1,h2,rfl⟩:=mem_kids.mp k;have eb:=Zkb hr;obtain ⟨j,p,a,g1,g2,rfl⟩:=ZhC hr;obtain ⟨s,hs,hp⟩:=ZlK (Xah g1);refine ⟨?_,?_,?_⟩
 · rw [eb,List.nodup_append]
   exact ⟨h.nd,by simp,fun x hx y hy=>by
    rw [Xaj.mp hy]
    exact fun z=>h2 (z ▸ hx)⟩
 · rw [eb]
   intro x hx
   rcases Xaf.mp hx with hx | hx
   · exact h.rng x hx
   · rw [Xaj.mp hx]
     exact ZmO ok hs hp rfl h1
 · obtain ⟨t,ht,hpt⟩:=ZmP (ZlH g2)
   exact ok.go t ht _ hpt
theorem IsBeg.ok {W:Wd} (ok:WOk W) {sc st:Int} (hsc:0≤sc∧sc<W.ss.length) (hst:0≤st∧st<W.sts.length) {b:Beg} (h:IsBeg W sc st b):BegOk W b:=by
 induction h with
 | root=>exact ⟨by simp [been],fun x hx=>by simp [been] at hx;rw [hx];exact hsc,hst⟩
 | kid _ k ih=>exact ih.kid ok k
theorem IsBeg.uniq {W:Wd}{sc st:Int}{b:Beg} (h:IsBeg W sc st b):∀ {c:Beg},IsBeg W sc st c→b.1=c.1→b=c:=by
 induction h with
 | root =>
   intro c hc e
   cases hc with
   | root=>rfl
   | kid _ k =>
     obtain ⟨r,_,_,_,rfl⟩:=mem_kids.mp k;simp at e
 | @kid b0 b1 h0 k ih =>
   intro c hc e;obtain ⟨r,hr,h1,h2,rfl⟩:=mem_kids.mp k
   cases hc with
   | root=>simp at e
   | @kid c0 _ hc0 k' =>
     obtain ⟨r',hr',h1',h2',rfl⟩:=mem_kids.mp k';simp only at e;obtain ⟨e1,e2⟩:=List.append_inj' e rfl;have e0:=ih hc0 e1;subst e0
     have:=ZlI hr hr' (by simpa using e2)
     subst this;rfl
def capR (B:Nat):Nat→Nat
 | 0=>1
 | r+1=>1+B * capR B r
theorem Zkc (B:Nat):∀ r,1≤capR B r
 | 0=>XaW _
 | r+1=>Nat.le_add_right _ _
def bOf (W:Wd):Nat:=if W.ss.length<4 then 3 else 2
def pot (W:Wd) (b:Beg):Nat:=capR (bOf W) (W.ss.length - 1 - b.1.length)
theorem Zb5:∀ (n:Nat) (l:List Int),l.Nodup→(∀ x∈l,0≤x∧x<(n:Int))→l.length≤n
 | 0,[],_,_=>XaW _
 | 0,x :: l,_,h=>by have:=h x Xal;omega
 | n+1,l,nd,h=>by
   have nd':(l.erase (n:Int)).Nodup:=nd.erase _
   have h':∀ x∈l.erase (n:Int),0≤x∧x<(n:Int):=fun x hx=>by
    obtain ⟨hne,hm⟩:=(nd.mem_erase_iff).mp hx
    have:=h x hm
    omega
   have:=Zb5 n _ nd' h'
   have hle:l.length≤(l.erase (n:Int)).length+1:=by
    by_cases hm:(n:Int)∈l
    · rw [List.length_erase_of_mem hm];omega
    · rw [List.erase_of_not_mem hm];omega
   omega
theorem Zjp {l:List Beg}{f:Beg→Nat}{k:Nat} (h:∀ x∈l,f x≤k):(l.map f).sum≤l.length * k:=by
 induction l with
 | nil=>simp
 | cons x l ih =>
   rw [Xao,List.sum_cons,XaB,Nat.succ_mul]
   have:=h x Xal
   have:=ih fun y hy=>h y (Xap _ hy)
   omega
theorem Zg4 {W:Wd} (ok:WOk W) (sc:Int):(ZaV W sc).length≤bOf W:=by
 unfold ZaV
 split
 · rename_i s hs
   obtain ⟨h1,h2⟩:=ok.st s (Xah hs);unfold bOf
   split
   · exact h1
   · exact h2 (by omega)
 · exact Xa1 _
theorem ZmQ {W:Wd} (ok:WOk W) {b:Beg} (h:BegOk W b):((kids W b).map (pot W)).sum+1≤pot W b:=by
 have hl:=Zb5 W.ss.length (been b) h.nd h.rng
 have hbl:(been b).length=b.1.length+1:=by unfold been;simp
 rw [hbl] at hl;have hk:=Zj9 W b;have hb:=Zg4 ok b.2.1
 cases e:W.ss.length - 1 - b.1.length with
 | zero =>
   have hnil:kids W b=[]:=by
    refine List.eq_nil_iff_forall_not_mem.mpr fun c hc=>?_;have hc':=h.kid ok hc
    have:=Zb5 W.ss.length (been c) hc'.nd hc'.rng
    obtain ⟨r,hr,_,_,rfl⟩:=mem_kids.mp hc;rw [Zkb hr,Xac,hbl,Xau] at this;omega
   rw [hnil];exact Zkc _ _
 | succ r =>
   have hs:((kids W b).map (pot W)).sum≤(kids W b).length * capR (bOf W) r:=Zjp fun c hc=>by
    obtain ⟨g,hg,_,_,rfl⟩:=mem_kids.mp hc;unfold pot;dsimp only;rw [Xac,Xau,show W.ss.length - 1 - (b.1.length+1)=r by omega];exact XaW _
   have hm:(kids W b).length * capR (bOf W) r≤bOf W * capR (bOf W) r:=Nat.mul_le_mul_right _ (by omega);unfold pot at hs ⊢;rw [e];show _≤1+bOf W * capR (bOf W) r;omega
structure Bfs (W:Wd) (sc st:Int) (F:List Beg) (p:Nat):Prop where
 root:([],sc,st)∈F
 is:∀ b∈F,IsBeg W sc st b
 nd:F.Nodup
 done:∀ (j:Nat) (b:Beg),j<p→F[j]?=some b→∀ c∈kids W b,c∈F
 src:∀ c∈F,c=([],sc,st)∨∃ (j:Nat) (b:Beg),j<p∧F[j]?=some b∧c∈kids W b
 le:p≤F.length
 pt:p+((F.drop p).map (pot W)).sum≤capR (bOf W) (W.ss.length - 1)
theorem Bfs.start (W:Wd) (sc st:Int):Bfs W sc st [([],sc,st)] 0 where
 root:=Xal
 is b hb:=by rw [Xaj.mp hb];exact .root
 nd:=by simp
 done j b hj:=by omega
 src c hc:=.inl (Xaj.mp hc)
 le:=Xa1 _
 pt:=by
  show 0+(pot W ([],sc,st)+0)≤_;unfold pot
  simp
theorem Bfs.turn {W:Wd} (ok:WOk W) {sc st:Int} (hsc:0≤sc∧sc<W.ss.length) (hst:0≤st∧st<W.sts.length) {F:List Beg} {p:Nat} {b:Beg} (h:Bfs W sc st F p) (hb:F[p]?=some b):Bfs W sc st (F++kids W b) (p+1):=by
 have hpl:p<F.length:=(Xae.mp hb).1;have hbF:=Xah hb;have ib:=h.is b hbF;have at_:∀ (j:Nat),j<F.length→(F++kids W b)[j]?=F[j]?:=fun j hj=>Xat hj
 have one:∀ (j:Nat) (c:Beg),j<p+1→(F++kids W b)[j]?=some c→(j<p∧F[j]?=some c)∨c=b:=fun j c hj e=>by
  rw [at_ j (by omega)] at e
  by_cases hjp:j<p
  · exact .inl ⟨hjp,e⟩
  · have:j=p:=by omega
    subst this;rw [hb] at e;exact .inr (Xbd e).symm
 refine ⟨XaA _ h.root,fun c hc=>?_,?_,fun j c hj e d hd=>?_,fun c hc=>?_,by rw [Xac];omega,?_⟩
 · rcases Xaf.mp hc with hc | hc
   · exact h.is c hc
   · exact .kid ib hc
 · refine List.nodup_append.mpr ⟨h.nd,kids_nd W b,fun c hc d hd e=>?_⟩
   subst e;obtain ⟨r,hr,_,_,ec⟩:=mem_kids.mp hd
   rcases h.src c hc with e0 | ⟨j,b',hj,hb',hk⟩
   · rw [e0] at ec
     have:=Xbk Prod.fst ec
     simp at this
   · obtain ⟨r',hr',_,_,ec'⟩:=mem_kids.mp hk
     have e1:b'.1=b.1:=by
      have:=Xbk Prod.fst (ec'.symm.trans ec)
      simp only at this;exact (List.append_inj' this rfl).1
     have e2:=(h.is b' (Xah hb')).uniq ib e1;subst e2;obtain ⟨q1,g1⟩:=Xae.mp hb';obtain ⟨q2,g2⟩:=Xae.mp hb
     have:=(List.getElem_inj h.nd).mp (g1.trans g2.symm)
     omega
 · rcases one j c hj e with ⟨hj',e'⟩ | rfl
   · exact XaA _ (h.done j c hj' e' d hd)
   · exact Xan _ hd
 · rcases Xaf.mp hc with hc | hc
   · rcases h.src c hc with e0 | ⟨j,b',hj,hb',hk⟩
     · exact .inl e0
     · exact .inr ⟨j,b',by omega,by rw [at_ j (by omega)];exact hb',hk⟩
   · exact .inr ⟨p,b,by omega,by rw [at_ p hpl];exact hb,hc⟩
 · have hd:F.drop p=b :: F.drop (p+1):=by
    obtain ⟨q,g⟩:=Xae.mp hb;rw [←g];exact XaL hpl
   have h1:=h.pt;rw [hd,Xao,List.sum_cons] at h1;rw [List.drop_append_of_le_length (by omega),Xad,List.sum_append]
   have:=ZmQ ok (ib.ok ok hsc hst)
   omega
theorem Bfs.few {W:Wd}{sc st:Int}{F:List Beg}{p:Nat} (h:Bfs W sc st F p):F.length≤capR (bOf W) (W.ss.length - 1):=by
 have h1:=h.pt
 have h2:(F.drop p).length≤((F.drop p).map (pot W)).sum:=by
  generalize F.drop p=l
  induction l with
  | nil=>simp
  | cons x l ih =>
    rw [XaB,Xao,List.sum_cons]
    have:=Zkc (bOf W) (W.ss.length - 1 - x.1.length)
    unfold pot at ih ⊢;omega
 rw [XaF] at h2
 have:=h.le
 omega
theorem ZlL {W:Wd} (ok:WOk W):capR (bOf W) (W.ss.length - 1)≤31∧(4≤W.ss.length→True):=by
 have h:=ok.s5;refine ⟨?_,fun _=>trivial⟩;unfold bOf
 rcases (show W.ss.length=0∨W.ss.length=1∨W.ss.length=2∨W.ss.length=3∨W.ss.length=4∨W.ss.length=5 by omega) with e | e | e | e | e | e <;> rw [e] <;> decide
theorem ZlM {W:Wd} (ok:WOk W) {k:Nat} (h3:k≤3) (h2:5≤W.ss.length→k≤2):capR (bOf W) (W.ss.length - 1) * k≤62:=by
 have h:=ok.s5;unfold bOf
 have hk:k=0∨k=1∨k=2∨(k=3∧W.ss.length<5):=by omega
 rcases (show W.ss.length=0∨W.ss.length=1∨W.ss.length=2∨W.ss.length=3∨W.ss.length=4∨W.ss.length=5 by omega) with e | e | e | e | e | e <;> rw [e] at hk ⊢ <;> rcases hk with rfl | rfl | rfl | ⟨rfl,hk⟩ <;> first | omega | decide
abbrev mkE:Enc:=ZiB intE strE intE
abbrev begE:Enc:=ZiB (Zcr mkE) intE intE
structure Begs (W:Wd) (sc st:Int) (bs:List Beg):Prop where
 mem:∀ b,b∈bs↔IsBeg W sc st b
 nd:bs.Nodup
 srt:bs.Pairwise begE.O.kle
 few:bs.length≤capR (bOf W) (W.ss.length - 1)
theorem Bfs.all {W:Wd}{sc st:Int}{F l:List Beg} (h:Bfs W sc st F F.length) (hp:l.Perm F) (hs:l.Pairwise begE.O.kle):Begs W sc st l:=by
 refine ⟨fun b=>?_,hp.nodup_iff.mpr h.nd,hs,by rw [hp.length_eq];exact h.few⟩;rw [hp.mem_iff];refine ⟨h.is b,fun hb=>?_⟩
 induction hb with
 | root=>exact h.root
 | kid _ k ih =>
   obtain ⟨j,hj⟩:=List.getElem?_of_mem ih;exact h.done j _ (Xae.mp hj).1 hj _ k
def BgH (F:Addr→Prop) (H:Hp) (t:Addr) (b:Beg):Prop:=∃ (l:Addr) (ms:List Addr),H t=some (.tup [.ref l,.int b.2.1,.int b.2.2])∧H l=some (.lst (ms.map V.ref))∧RT mkV H ms b.1∧F l
theorem BgH.same {F:Addr→Prop}{H H':Hp}{t:Addr}{b:Beg} (e:Same H H') (h:BgH F H t b):BgH F H' t b:=by
 obtain ⟨l,ms,a1,a2,a3,a4⟩:=h;exact ⟨l,ms,e _ _ a1,e _ _ a2,a3.same e,a4⟩
theorem BgH.mono {F G:Addr→Prop}{H:Hp}{t:Addr}{b:Beg} (e:∀ x,F x→G x) (h:BgH F H t b):BgH G H t b:=by
 obtain ⟨l,ms,a1,a2,a3,a4⟩:=h;exact ⟨l,ms,a1,a2,a3,e _ a4⟩
theorem BgH.keeps {M F:Addr→Prop}{H H':Hp}{t:Addr}{b:Beg} (k:Keeps M H H') (hF:∀ x,F x→¬M x) (h:BgH F H t b):BgH F H' t b:=by
 obtain ⟨l,ms,a1,a2,a3,a4⟩:=h;exact ⟨l,ms,k.tup a1,k.at_ _ _ a2 (hF _ a4),a3.keeps k,a4⟩
abbrev mkD (m:Mrk):Dt:=.tup [.int m.1,.str m.2.1,.int m.2.2]
theorem ZlN {K:XFg}{H:Hp} (r:Mrk) (t:Addr) (h:H t=some (.tup (mkV r))):IsDt K H (.ref t) (mkD r):=.tup (SqT.of h) (.cons (.int _) (.cons (.str _) (.cons (.int _) .nil)))
theorem BgH.dt {K:XFg}{F:Addr→Prop}{H:Hp}{t:Addr}{b:Beg} (h:BgH F H t b):IsDt K H (.ref t) (begE.D b):=by
 obtain ⟨l,ms,a1,a2,a3,a4⟩:=h;exact .tup (SqT.of a1) (.cons (.lst (SqL.of a2) (a3.dts ZlN)) (.cons (.int _) (.cons (.int _) .nil)))
def GnH (H:Hp) (t:Addr) (r:Gn):Prop:=∃ m,H t=some (.tup [.ref m,.str r.2.1.1,.int r.2.1.2,.int r.2.2])∧H m=some (.tup (mkV r.1))
theorem GnH.same {H H':Hp}{t:Addr}{r:Gn} (e:Same H H') (h:GnH H t r):GnH H' t r:=by
 obtain ⟨m,a1,a2⟩:=h;exact ⟨m,e _ _ a1,e _ _ a2⟩
theorem GnH.keeps {M:Addr→Prop}{H H':Hp}{t:Addr}{r:Gn} (k:Keeps M H H') (h:GnH H t r):GnH H' t r:=by
 obtain ⟨m,a1,a2⟩:=h;exact ⟨m,k.tup a1,k.tup a2⟩
structure CaseH (K:XFg) (H:Hp) (nt A t:Addr) (W:Wd):Prop where
 net:∃ (S T R:Addr) (us Gs Es ts qt:List Addr) (qs:List Qu),H nt=some (.tup [.ref S,.ref T,.ref R])∧Net3 H S T R us Gs Es ts qt W.ss W.gs qs
 ans:Ans K H A W.as
 tab:∃ (a o:Addr) (inn:V),SqT K H t [.ref a,inn,.ref o]∧Stts K H a W.sts
theorem CaseH.same {K:XFg}{H H':Hp}{nt A t:Addr}{W:Wd} (e:Same H H') (h:CaseH K H nt A t W):CaseH K H' nt A t W:=by
 obtain ⟨S,T,R,us,Gs,Es,ts,qt,qs,a1,a2⟩:=h.net;obtain ⟨a,o,inn,b1,vs,b2,b3⟩:=h.tab;exact ⟨⟨S,T,R,us,Gs,Es,ts,qt,qs,e _ _ a1,a2.same e⟩,h.ans.same e,⟨a,o,inn,e.seqT b1,vs,e.seq b2,b3.same e⟩⟩
theorem BgH.mono' {F G:Addr→Prop}{H:Hp}{t:Addr}{b:Beg} (e:∀ x o,H x=some o→F x→G x) (h:BgH F H t b):BgH G H t b:=by
 obtain ⟨l,ms,a1,a2,a3,a4⟩:=h;exact ⟨l,ms,a1,a2,a3,e _ _ a2 a4⟩
structure LayW (g q:Nat) (ls ws:List Str) (ss:List Sco):Prop where
 st:∀ s∈ss,s.1.length≤3∧(4≤ss.length→s.1.length≤2)
 tl:∀ s∈ss,s.2.length≤3∧(5≤ss.length→s.2.length≤2)
 kst:∀ s∈ss,∀ p∈s.1,p.1∈ls∧stOk ss.length q p
 ktl:∀ s∈ss,∀ p∈s.2,p.1∈ls∧p.2.1∈ws∧tlOk g q p
theorem LayW.step {g q:Nat}{ls ws:List Str}{ss:List Sco} (h:LayW g q ls ws ss) {i:Nat} (hi:i<ss.length) {p:Stp} (h1:p.1∈ls) (hp:stOk ss.length q p) (h3:ss[i].1.length<3) (h2:4≤ss.length→ss[i].1.length<2):LayW g q ls ws (ss.set i (ss[i].1++[p],ss[i].2)):=by
 refine ⟨fun s hs=>?_,fun s hs=>?_,fun s hs=>?_,fun s hs=>?_⟩ <;> try rw [XaD]
 all_goals rcases List.mem_or_eq_of_mem_set hs with hs | rfl
 · exact h.st s hs
 · show (ss[i].1++[p]).length≤3∧(_→(ss[i].1++[p]).length≤2)
   rw [Xac,Xau];exact ⟨by omega,fun z=>by have:=h2 z;omega⟩
 · exact h.tl s hs
 · exact h.tl ss[i] (Xav hi)
 · exact h.kst s hs
 · intro x hx
   rcases Xaf.mp hx with hx | hx
   · exact h.kst _ (Xav hi) x hx
   · rw [Xaj.mp hx];exact ⟨h1,hp⟩
 · exact h.ktl s hs
 · exact h.ktl ss[i] (Xav hi)
theorem LayW.tell {g q:Nat}{ls ws:List Str}{ss:List Sco} (h:LayW g q ls ws ss) {i:Nat} (hi:i<ss.length) {p:Tlg} (h1:p.1∈ls) (h0:p.2.1∈ws) (hp:tlOk g q p) (h3:ss[i].2.length<3) (h2:5≤ss.length→ss[i].2.length<2):LayW g q ls ws (ss.set i (ss[i].1,ss[i].2++[p])):=by
 refine ⟨fun s hs=>?_,fun s hs=>?_,fun s hs=>?_,fun s hs=>?_⟩ <;> try rw [XaD]
 all_goals rcases List.mem_or_eq_of_mem_set hs with hs | rfl
 · exact h.st s hs
 · exact h.st ss[i] (Xav hi)
 · exact h.tl s hs
 · show (ss[i].2++[p]).length≤3∧(_→(ss[i].2++[p]).length≤2)
   rw [Xac,Xau];exact ⟨by omega,fun z=>by have:=h2 z;omega⟩
 · exact h.kst s hs
 · exact h.kst ss[i] (Xav hi)
 · exact h.ktl s hs
 · intro x hx
   rcases Xaf.mp hx with hx | hx
   · exact h.ktl _ (Xav hi) x hx
   · rw [Xaj.mp hx];exact ⟨h1,h0,hp⟩
structure CaseOk (W:Wd) (qs:List Qu) (ls ws:List Str):Prop where
 ok:WOk W
 lay:LayW W.gs.length W.as.length ls ws W.ss
 one:1≤W.ss.length
 lq:qs.length=W.as.length
 q5:1≤qs.length∧qs.length≤5
 g6:1≤W.gs.length∧W.gs.length≤6
 q:∀ q∈qs,(0≤q.1∧q.1<W.ss.length)∧(0≤q.2.1∧q.2.1<W.sts.length)∧1≤q.2.2.length∧q.2.2.length≤3∧∀ x∈q.2.2,x∈ws
theorem Zf3 {ws:List Str}{i:Int} (h0:0≤i) (h1:i<ws.length):∃ x∈ws,atI (ws.map V.str) i=some (.str x):=by
 obtain ⟨n,rfl⟩:=Xa4 h0
 have hn:n<ws.length:=by omega
 exact ⟨ws[n],Xav hn,ZaQ (by rw [Xag,Xab hn];rfl)⟩
theorem ints_at {xs:List Int}{i:Int} (h0:0≤i) (h1:i<xs.length):∃ v,atI (xs.map V.int) i=some (.int v):=by
 obtain ⟨n,rfl⟩:=Xa4 h0
 have hn:n<xs.length:=by omega
 exact ⟨xs[n],ZaQ (by rw [Xag,Xab hn];rfl)⟩
theorem Zg5 {H:Hp}:∀ {ts:List Addr}{ps:List (Str×Str)},Tups H ts ps→∃ zs:List (Row strC strC),zs.map (·.1)=ts.map V.ref∧zs.map (·.2)=ps∧∀ z∈zs,∃ t,z.1=.ref t∧H t=some (.tup [.str z.2.1,.str z.2.2])
 | [],[],_=>⟨[],rfl,rfl,fun z hz=>by cases hz⟩
 | [],_ :: _,h=>by have:=h.len;simp at this
 | _ :: _,[],h=>by have:=h.len;simp at this
 | a :: ts,p :: ps,h=>by
   obtain ⟨zs,h1,h2,h3⟩:=Zg5 (ts:=ts) (ps:=ps) ⟨by simpa using h.len,fun n t p a1 a2=>h.at_ (n+1) t p (by simpa using a1) (by simpa using a2)⟩;refine ⟨(V.ref a,p) :: zs,by rw [Xao,h1];rfl,by rw [Xao,h2],fun z hz=>?_⟩
   rcases Xam.mp hz with e | hz
   · rw [e];exact ⟨a,rfl,h.at_ 0 a p rfl rfl⟩
   · exact h3 z hz
theorem Zg6 {H:Hp}:∀ {zs:List (Row strC strC)},(∀ z∈zs,∃ t,z.1=.ref t∧H t=some (.tup [.str z.2.1,.str z.2.2]))→∃ ts:List Addr,zs.map (·.1)=ts.map V.ref∧Tups H ts (zs.map (·.2))
 | [],_=>⟨[],rfl,Tups.nil⟩
 | z :: zs,h=>by
   obtain ⟨ts,h1,h2⟩:=Zg6 (zs:=zs) fun y hy=>h y (Xap _ hy);obtain ⟨t,e,et⟩:=h z Xal;refine ⟨t :: ts,by rw [Xao,h1,e];rfl,by simp [h2.len],fun n u p a1 a2=>?_⟩
   cases n with
   | zero=>simp at a1 a2;subst a1;subst a2;exact et
   | succ n=>exact h2.at_ n u p (by simpa using a1) (by simpa using a2)
structure TabOk (sts:List Stt) (inn:Int) (ord:List (Str×Str)):Prop where
 n:1≤sts.length∧sts.length≤4
 go:∀ s∈sts,∀ p∈s.1,0≤p.2∧p.2<sts.length
 inn:0≤inn∧inn<sts.length
 few:∀ s∈sts,s.1.length≤8∧s.2.length≤8
 ol:ord.length≤40
 irr:∀ x,(x,x) ∉ ord
 tr:∀ x y z,(x,y)∈ord→(y,z)∈ord→(x,z)∈ord
structure CaseL (K:XFg) (H0 H:Hp) (nt t A WW:Addr) (W:Wd) (qs:List Qu) (inn:Int) (ord:List (Str×Str)) (ls ws:List Str):Prop where
 net:∃ (S T R:Addr) (us Gs Es ts qt:List Addr),H nt=some (.tup [.ref S,.ref T,.ref R])∧Net3 H S T R us Gs Es ts qt W.ss W.gs qs∧∀ x∈S :: T :: R :: (Gs++Es),x≠A∧H0 x=none
 tab:Tab K (fun x=>H0 x=none∧x≠A) H t W.sts inn ord
 ans:∃ avs,H A=some (.lst avs)∧IsDts K H avs (W.as.map ansD)
 wds:H WW=some (.lst (ws.map V.str))
 nWA:WW≠A
 fA:H0 A=none
 ok:CaseOk W qs ls ws
 tok:TabOk W.sts inn ord
 w9:ws.length=9
theorem CaseL.same {K:XFg}{H0 H H':Hp}{nt t A WW:Addr}{W:Wd}{qs:List Qu}{inn:Int}{ord:List (Str×Str)} {ls ws:List Str} (e:Same H H') (h:CaseL K H0 H nt t A WW W qs inn ord ls ws):CaseL K H0 H' nt t A WW W qs inn ord ls ws:=by
 obtain ⟨⟨S,T,R,us,Gs,Es,ts,qt,a1,a2,a3⟩,b,⟨avs,c1,c2⟩,d,f1,f2,f3,f4,f5⟩:=h;exact ⟨⟨S,T,R,us,Gs,Es,ts,qt,e _ _ a1,a2.same e,a3⟩,b.same e,⟨avs,e _ _ c1,c2.same e⟩,e _ _ d,f1,f2,f3,f4,f5⟩
theorem Tab.caseT {K:XFg}{F:Addr→Prop}{H:Hp}{t:Addr}{rs:List Stt}{n:Int}{ord:List (Str×Str)} (h:Tab K F H t rs n ord):∃ (a o:Addr) (inn:V),SqT K H t [.ref a,inn,.ref o]∧Stts K H a rs:=by
 obtain ⟨a,o,us,ts,h1,_,_,_,h5,h6,_⟩:=h.ex;exact ⟨a,o,_,SqT.of h1,h6.stts h5⟩
theorem CaseL.caseH {K:XFg}{H0 H:Hp}{nt t A WW:Addr}{W:Wd}{qs:List Qu}{inn:Int}{ord:List (Str×Str)} {ls ws:List Str} (h:CaseL K H0 H nt t A WW W qs inn ord ls ws):CaseH K H nt A t W:=by
 obtain ⟨S,T,R,us,Gs,Es,ts,qt,a1,a2,_⟩:=h.net;obtain ⟨avs,c1,c2⟩:=h.ans;exact ⟨⟨S,T,R,us,Gs,Es,ts,qt,qs,a1,a2⟩,⟨avs,SqL.of c1,c2⟩,h.tab.caseT⟩
theorem Tab.alive {K:XFg}{F:Addr→Prop}{H:Hp}{t:Addr}{rs:List Stt}{n:Int}{ord:List (Str×Str)} (h:Tab K F H t rs n ord):Tab K (fun x=>F x∧∃ o,H x=some o) H t rs n ord:=by
 obtain ⟨a,o,us,ts,h1,h2,h3,h4,h5,h6,h7,h8⟩:=h.ex;exact ⟨a,o,us,ts,h1,⟨h2,_,h5⟩,⟨h3,_,h7⟩,h4,h5,h6.alive,h7,h8⟩
theorem ints_in {x:Int}{l:List Int}:Dt.int x∈l.map Dt.int↔x∈l:=⟨fun h=>by
 obtain ⟨y,hy,z⟩:=Xai.mp h
 rw [←Dt.int.inj z];exact hy,fun h=>Xai.mpr ⟨x,h,rfl⟩⟩
theorem Zkd {K:XFg}{H:Hp}:∀ (l:List Int),IsDts K H (l.map V.int) (l.map Dt.int)
 | []=>.nil
 | x :: l=>.cons (.int x) (Zkd l)
abbrev tabDt (sts:List Stt) (inn:Int) (ord:List (Str×Str)):Dt:=.tup [.lst (sts.map stD),.int inn,.lst (ord.map prD)]
theorem cmp_stt (s r:Stt):Cmp 4 (stD s) (stD r):=by
 refine .tup (.cons (.lst (Cmps.of fun d hd e he=>?_)) (.cons (.lst (Cmps.of fun d hd e he=>?_)) (.nil _)))
 · obtain ⟨p,_,rfl⟩:=Xai.mp hd
   obtain ⟨q,_,rfl⟩:=Xai.mp he;exact cmp_go p q
 · obtain ⟨p,_,rfl⟩:=Xai.mp hd
   obtain ⟨q,_,rfl⟩:=Xai.mp he;exact .str _ _
theorem ZlO (s r:List Stt) (m n:Int) (o u:List (Str×Str)):Cmp 6 (tabDt s m o) (tabDt r n u):=by
 refine .tup (.cons (.lst (Cmps.of fun d hd e he=>?_)) (.cons (.int _ _) (.cons (.lst (Cmps.of fun d hd e he=>?_)) (.nil _))))
 · obtain ⟨p,_,rfl⟩:=Xai.mp hd
   obtain ⟨q,_,rfl⟩:=Xai.mp he;exact cmp_stt p q
 · obtain ⟨p,_,rfl⟩:=Xai.mp hd
   obtain ⟨q,_,rfl⟩:=Xai.mp he;exact .tup (.cons (.str _ _) (.cons (.str _ _) (.nil _)))
theorem Tab.dt {K:XFg}{F:Addr→Prop}{H:Hp}{t:Addr}{sts:List Stt}{inn:Int}{ord:List (Str×Str)} (h:Tab K F H t sts inn ord):IsDt K H (.ref t) (tabDt sts inn ord):=by
 obtain ⟨a,o,us,ts,et,_,_,_,ea,SR,eo,TO⟩:=h.ex;exact .tup (SqT.of et) (.cons (.lst (SqL.of ea) SR.dts) (.cons (.int _) (.cons (.lst (SqL.of eo) TO.dts) .nil)))
abbrev wayE:Enc:=Zcr mkE
def Zbz (W:Wd) (sc:Int):List Tlg:=match W.ss[sc.toNat]? with
 | some s=>s.2
 | none=>[]
def Zec (W:Wd) (st:Int):List Str:=match W.sts[st.toNat]? with
 | some s=>s.2
 | none=>[]
def Zfz (W:Wd) (b:Beg) (x:Str) (q:Tlg) (i:Nat):List (List Mrk):=if q.2.1=x∧q.1∈Zec W b.2.2 then [b.1++[(b.2.1,("told" : Str),(i:Int))]] else []
def Zdp (W:Wd) (b:Beg) (x:Str):List Tlg→Nat→List (List Mrk)
 | [],_=>[]
 | q :: r,i=>Zfz W b x q i++Zdp W b x r (i+1)
def Zbd (W:Wd) (x:Str) (bs:List Beg):List (List Mrk):=bs.flatMap fun b=>Zdp W b x (Zbz W b.2.1) 0
theorem Zg7 (W:Wd) (b:Beg) (x:Str) (q:Tlg):∀ (l:List Tlg) (i:Nat),Zdp W b x (l++[q]) i=Zdp W b x l i++Zfz W b x q (i+l.length)
 | [],i=>by simp [Zdp]
 | p :: l,i=>by
   show Zfz W b x p i++Zdp W b x (l++[q]) (i+1)=(Zfz W b x p i++Zdp W b x l (i+1))++_;rw [Zg7 W b x q l (i+1),XaE,XaB,show i+1+l.length=i+(l.length+1) by omega]
theorem Zf4 (W:Wd) (b:Beg) (x:Str):∀ (l:List Tlg) (i:Nat),(Zdp W b x l i).length≤l.length
 | [],i=>XaW _
 | q :: l,i=>by
   show (Zfz W b x q i++Zdp W b x l (i+1)).length≤_
   have h1:(Zfz W b x q i).length≤1:=by unfold Zfz;split <;> simp
   have h2:=Zf4 W b x l (i+1);rw [Xac,XaB];omega
theorem ZiD {W:Wd}{b:Beg}{x:Str}{w:List Mrk}:∀ {l:List Tlg}{i:Nat},w∈Zdp W b x l i→∃ (j:Nat) (q:Tlg),l[j]?=some q∧q.2.1=x∧q.1∈Zec W b.2.2∧w=b.1++[(b.2.1,("told" : Str),((i+j:Nat):Int))]
 | [],i,h=>by cases h
 | q :: l, i, h => by
   rcases Xaf.mp (show w∈Zfz W b x q i++Zdp W b x l (i+1) from h) with h | h
   · unfold Zfz at h
     split at h
     · rename_i hq
       exact ⟨0,q,rfl,hq.1,hq.2,Xaj.mp h⟩
     · cases h
   · obtain ⟨j,q',h1,h2,h3,h4⟩:=ZiD h
     exact ⟨j+1,q',by simpa using h1,h2,h3,by rw [h4,show i+1+j=i+(j+1) by omega]⟩
theorem ZlP {W:Wd}{x:Str}{bs:List Beg}{w:List Mrk} (h:w∈Zbd W x bs):∃ b∈bs,∃ (j:Nat) (q:Tlg),(Zbz W b.2.1)[j]?=some q∧q.2.1=x∧q.1∈Zec W b.2.2∧w=b.1++[(b.2.1,("told" : Str),(j:Int))]:=by
 obtain ⟨b,hb,hw⟩:=List.mem_flatMap.mp h;obtain ⟨j,q,h1,h2,h3,h4⟩:=ZiD hw;exact ⟨b,hb,j,q,h1,h2,h3,by rw [h4,Nat.zero_add]⟩
def ZgE (W:Wd):Nat:=if W.ss.length<5 then 3 else 2
theorem ZiE {W:Wd} (ok:WOk W) (sc:Int):(Zbz W sc).length≤ZgE W:=by
 unfold Zbz
 split
 · rename_i s hs
   obtain ⟨h1,h2⟩:=ok.tl s (Xah hs);unfold ZgE
   split
   · exact h1
   · exact h2 (by omega)
 · exact Xa1 _
theorem ZfJ {α:Type}{f:Beg→List α}{k:Nat}:∀ (bs:List Beg),(∀ b,(f b).length≤k)→(bs.flatMap f).length≤bs.length * k
 | [],_=>by simp
 | b :: bs,h=>by
   rw [List.flatMap_cons,Xac,XaB,Nat.succ_mul]
   have:=h b
   have:=ZfJ bs h
   omega
theorem ZiF {W:Wd} (ok:WOk W) {x:Str} {bs:List Beg} (h:bs.length≤capR (bOf W) (W.ss.length - 1)):(Zbd W x bs).length≤62:=by
 have h1:=ZfJ (k:=ZgE W) bs fun b=>Xbh (Zf4 W b x (Zbz W b.2.1) 0) (ZiE ok b.2.1);have h2:bs.length * ZgE W≤capR (bOf W) (W.ss.length - 1) * ZgE W:=Nat.mul_le_mul_right _ h
 have h3:=ZlM ok (k:=ZgE W) (by unfold ZgE;split <;> omega) (fun z=>by unfold ZgE;rw [Xbe (by omega)];omega)
 unfold Zbd;omega
structure Fnd (W:Wd) (x:Str) (bs:List Beg) (ws:List (List Mrk)):Prop where
 perm:ws.Perm (Zbd W x bs)
 srt:ws.Pairwise wayE.O.kle
def WyH (F:Addr→Prop) (H:Hp) (l:Addr) (w:List Mrk):Prop:=∃ ms:List Addr,H l=some (.lst (ms.map V.ref))∧RT mkV H ms w∧F l
theorem WyH.same {F:Addr→Prop}{H H':Hp}{t:Addr}{b:List Mrk} (e:Same H H') (h:WyH F H t b):WyH F H' t b:=by
 obtain ⟨ms,a2,a3,a4⟩:=h;exact ⟨ms,e _ _ a2,a3.same e,a4⟩
theorem WyH.mono' {F G:Addr→Prop}{H:Hp}{t:Addr}{b:List Mrk} (e:∀ x o,H x=some o→F x→G x) (h:WyH F H t b):WyH G H t b:=by
 obtain ⟨ms,a2,a3,a4⟩:=h;exact ⟨ms,a2,a3,e _ _ a2 a4⟩
theorem WyH.keeps {M F:Addr→Prop}{H H':Hp}{t:Addr}{b:List Mrk} (k:Keeps M H H') (hF:∀ x,F x→¬M x) (h:WyH F H t b):WyH F H' t b:=by
 obtain ⟨ms,a2,a3,a4⟩:=h;exact ⟨ms,k.at_ _ _ a2 (hF _ a4),a3.keeps k,a4⟩
theorem WyH.dt {K:XFg}{F:Addr→Prop}{H:Hp}{t:Addr}{b:List Mrk} (h:WyH F H t b):IsDt K H (.ref t) (wayE.D b):=by
 obtain ⟨ms,a2,a3,_⟩:=h;exact .lst (SqL.of a2) (a3.dts ZlN)
theorem ZdV {K:XFg}{H:Hp}{F:Addr→Prop}:∀ {zs:List (Addr×List Mrk)},(∀ z∈zs,WyH F H z.1 z.2)→IsDts K H (zs.map fun z=>V.ref z.1) ((zs.map (·.2)).map wayE.D)
 | [],_=>.nil
 | z :: zs,h=>.cons (h z Xal).dt (ZdV fun y hy=>h y (Xap _ hy))
theorem Zke (l m:List (List Mrk)):Cmp 4 (Dt.lst (l.map wayE.D)) (Dt.lst (m.map wayE.D)):=.lst (Cmps.of fun d hd e he=>by
 obtain ⟨q1,_,rfl⟩:=Xai.mp hd;obtain ⟨q2,_,rfl⟩:=Xai.mp he
 exact (wayE.cmp q1 q2).mono (by decide))
theorem Zg8 {c:Enc}{zs:List (Addr×c.O.α)} {zs':List (RowE c)} (hp:zs'.Perm (zs.map fun z=>((V.ref z.1,z.2):RowE c))) :
 ∃ ws:List (Addr×c.O.α),zs'.map (·.1)=(ws.map fun z=>V.ref z.1)∧zs'.map (·.2)=ws.map (·.2)∧(ws.map (·.2)).Perm (zs.map (·.2))∧∀ z∈ws,z∈zs:=by
 have:∀ {l:List (RowE c)},(∀ y∈l,y∈zs.map fun z=>((V.ref z.1,z.2):RowE c))→∃ ws:List (Addr×c.O.α),l=ws.map fun z=>(V.ref z.1,z.2):=by
  intro l
  induction l with
  | nil=>exact fun _=>⟨[],rfl⟩
  | cons y l ih =>
    intro h;obtain ⟨ws,rfl⟩:=ih fun z hz=>h z (Xap _ hz);obtain ⟨z,_,rfl⟩:=Xai.mp (h y Xal);exact ⟨z :: ws,rfl⟩
 obtain ⟨ws,rfl⟩:=this fun y hy=>hp.mem_iff.mp hy;refine ⟨ws,by rw [Xax];rfl,by rw [Xax];rfl,?_,fun z hz'=>?_⟩
 · have:=hp.map (·.2)
   rw [Xax,Xax] at this;exact this
 · have:=hp.mem_iff.mp (Xai.mpr ⟨z,hz',rfl⟩)
   obtain ⟨y,hy,e⟩:=Xai.mp this
   injection e with e1 e2
   have:y=z:=Prod.ext (V.ref.inj e1) e2
   rw [←this];exact hy
abbrev owE:Enc:=ZiA (Zcr mkE) intE
abbrev Ow:Type:=List Mrk×Int
def ow (b:Beg) (r:Gn):Option Ow:=if r.2.1.1=("open" : Str) then some (b.1++[r.1],r.2.1.2) else none
def Zdx (W:Wd) (bs:List Beg):List Ow:=bs.flatMap fun b=>(Zdn W b.2.1 b.2.2).filterMap (ow b)
theorem ZmR {W:Wd}{bs:List Beg}{w:Ow} (h:w∈Zdx W bs):∃ b∈bs,∃ (j:Nat) (p:Stp) (a:Int),(ZaV W b.2.1)[j]?=some p∧goN (ZbN W b.2.2) p.1=some a∧(Zc0 W.gs W.as p).1=("open" : Str)∧w=(b.1++[(b.2.1,("step" : Str),(j:Int))],(Zc0 W.gs W.as p).2):=by
 obtain ⟨b,hb,hw⟩:=List.mem_flatMap.mp h;obtain ⟨r,hr,e⟩:=List.mem_filterMap.mp hw;obtain ⟨j,p,a,h1,h2,rfl⟩:=ZhC hr;unfold ow at e
 split at e
 · rename_i ho
   exact ⟨b,hb,j,p,a,h1,h2,ho,(Xbd e).symm⟩
 · cases e
theorem Zkf {W:Wd} (ok:WOk W) {bs:List Beg} (h:bs.length≤capR (bOf W) (W.ss.length - 1)):(Zdx W bs).length≤62:=by
 have h1:=ZfJ (f:=fun b=>(Zdn W b.2.1 b.2.2).filterMap (ow b)) (k:=bOf W) bs fun b=>Xbh (List.length_filterMap_le _ _) (Xbh (Zcs W b.2.1 (ZbN W b.2.2) (ZaV W b.2.1) 0) (Zg4 ok b.2.1));have h2:bs.length * bOf W≤capR (bOf W) (W.ss.length - 1) * bOf W:=Nat.mul_le_mul_right _ h
 have h3:=ZlM ok (k:=bOf W) (by unfold bOf;split <;> omega) (fun z=>by unfold bOf;rw [Xbe (by omega)];omega)
 unfold Zdx;omega
structure Owd (W:Wd) (bs:List Beg) (ws:List Ow):Prop where
 perm:ws.Perm (Zdx W bs)
 srt:ws.Pairwise owE.O.kle
def OwH (F:Addr→Prop) (H:Hp) (t:Addr) (p:Ow):Prop:=∃ (l:Addr) (ms:List Addr),H t=some (.tup [.ref l,.int p.2])∧H l=some (.lst (ms.map V.ref))∧RT mkV H ms p.1∧F l
theorem OwH.same {F:Addr→Prop}{H H':Hp}{t:Addr}{b:Ow} (e:Same H H') (h:OwH F H t b):OwH F H' t b:=by
 obtain ⟨l,ms,a1,a2,a3,a4⟩:=h;exact ⟨l,ms,e _ _ a1,e _ _ a2,a3.same e,a4⟩
theorem OwH.mono' {F G:Addr→Prop}{H:Hp}{t:Addr}{b:Ow} (e:∀ x o,H x=some o→F x→G x) (h:OwH F H t b):OwH G H t b:=by
 obtain ⟨l,ms,a1,a2,a3,a4⟩:=h;exact ⟨l,ms,a1,a2,a3,e _ _ a2 a4⟩
theorem OwH.keeps {M F:Addr→Prop}{H H':Hp}{t:Addr}{b:Ow} (k:Keeps M H H') (hF:∀ x,F x→¬M x) (h:OwH F H t b):OwH F H' t b:=by
 obtain ⟨l,ms,a1,a2,a3,a4⟩:=h;exact ⟨l,ms,k.tup a1,k.at_ _ _ a2 (hF _ a4),a3.keeps k,a4⟩
theorem OwH.dt {K:XFg}{F:Addr→Prop}{H:Hp}{t:Addr}{b:Ow} (h:OwH F H t b):IsDt K H (.ref t) (owE.D b):=by
 obtain ⟨l,ms,a1,a2,a3,_⟩:=h;exact .tup (SqT.of a1) (.cons (.lst (SqL.of a2) (a3.dts ZlN)) (.cons (.int _) .nil))
theorem ZlQ {W:Wd}{bs:List Beg}{i:Nat}{b:Beg} (h:bs[i]?=some b):Zdx W (bs.take (i+1))=Zdx W (bs.take i)++(Zdn W b.2.1 b.2.2).filterMap (ow b):=by
 rw [Xar,h];show (bs.take i++[b]).flatMap _=_;rw [List.flatMap_append];simp [Zdx]
theorem fm_one {α β:Type} (f:α→Option β) (l:List α) (x:α):(l++[x]).filterMap f=l.filterMap f++(f x).toList:=by
 rw [List.filterMap_append]
 cases e:f x <;> simp [e]
theorem ow_some {b:Beg}{r:Gn} (h:r.2.1.1=("open" : Str)):ow b r=some (b.1++[r.1],r.2.1.2):=Xbf h
theorem ow_none {b:Beg}{r:Gn} (h:r.2.1.1≠("open" : Str)):ow b r=none:=Xbe h
def Zcg (ss:List Sco) (m:Mrk):Str:=match ss[m.1.toNat]? with
 | some s=>if m.2.1=("step" : Str) then (match s.1[m.2.2.toNat]? with
   | some p=>p.1
   | none=>default) else (match s.2[m.2.2.toNat]? with
   | some p=>p.1
   | none=>default)
 | none=>default
def MkOk (ss:List Sco) (m:Mrk):Prop:=∃ (n k:Nat) (s:Sco),m.1=(n:Int)∧m.2.2=(k:Int)∧ss[n]?=some s∧((m.2.1=("step" : Str)∧k<s.1.length)∨(m.2.1=("told" : Str)∧k<s.2.length))
theorem Zkg {ss:List Sco}{m:Mrk}{n k:Nat}{s:Sco}{p:Stp} (h1:m.1=(n:Int)) (h2:m.2.2=(k:Int)) (hs:ss[n]?=some s) (hk:m.2.1=("step" : Str)) (hp:s.1[k]?=some p):Zcg ss m=p.1:=by
 unfold Zcg;rw [h1,h2,Xa5,Xa5,hs];dsimp only;rw [Xbf hk,hp]
theorem Zkh {ss:List Sco}{m:Mrk}{n k:Nat}{s:Sco}{p:Tlg} (h1:m.1=(n:Int)) (h2:m.2.2=(k:Int)) (hs:ss[n]?=some s) (hk:m.2.1≠("step" : Str)) (hp:s.2[k]?=some p):Zcg ss m=p.1:=by
 unfold Zcg;rw [h1,h2,Xa5,Xa5,hs];dsimp only;rw [Xbe hk,hp]
theorem ZiG:("told" : Str)≠("step" : Str):=by decide +kernel
theorem ZmS:("step" : Str)≠("told" : Str):=by decide +kernel
open Classical in
noncomputable def ZaO (ss:List Sco) (ord:List (Str×Str)):List Mrk→List Mrk→Bool
 | m :: ms,q :: qs=>if m=q then ZaO ss ord ms qs else dec ((Zcg ss m,Zcg ss q)∈ord)
 | _,_=>false
theorem Zct (ss:List Sco) (ord:List (Str×Str)) (m:Mrk) (ms qs:List Mrk):ZaO ss ord (m :: ms) (m :: qs)=ZaO ss ord ms qs:=by
 rw [ZaO];exact Xbf rfl
theorem Zcu (ss:List Sco) (ord:List (Str×Str)) {m q:Mrk} (ms qs:List Mrk) (h:m≠q):ZaO ss ord (m :: ms) (q :: qs)=dec ((Zcg ss m,Zcg ss q)∈ord):=by
 rw [ZaO];exact Xbe h
theorem ZbP (ss:List Sco) (ord:List (Str×Str)):∀ {l m:List Mrk},l=[]∨m=[]→ZaO ss ord l m=false
 | [],_,_=>by rw [ZaO];intros;simp at *
 | _ :: _,[],_=>by rw [ZaO];intros;simp at *
 | _ :: _,_ :: _,h=>by simp at h
theorem Zel (ss:List Sco) (ord:List (Str×Str)):∀ {l m:List Mrk} {i:Nat},(∀ j,j<i→l[j]?=m[j]?)→i≤l.length→i≤m.length→ZaO ss ord l m=ZaO ss ord (l.drop i) (m.drop i)
 | _,_,0,_,_,_=>rfl
 | [],_,i+1,_,h,_=>by simp at h
 | _ :: _,[],i+1,_,_,h=>by simp at h
 | x :: l,y :: m,i+1,h,h1,h2=>by
   have e:x=y:=by simpa using h 0 (by omega)
   subst e;rw [Zct,List.drop_succ_cons,List.drop_succ_cons];exact Zel ss ord (fun j hj=>by simpa using h (j+1) (by omega)) (by simpa using h1) (by simpa using h2)
theorem ZiH {W:Wd} (ok:WOk W) {sc st:Int} (hsc:0≤sc∧sc<W.ss.length) (hst:0≤st∧st<W.sts.length) {b:Beg} (h:IsBeg W sc st b):∀ m∈b.1,MkOk W.ss m:=by
 induction h with
 | root=>intro m hm;cases hm
 | @kid b0 b1 h0 k ih =>
   obtain ⟨r,hr,_,_,rfl⟩:=mem_kids.mp k;intro m hm
   rcases Xaf.mp hm with hm | hm
   · exact ih m hm
   · rw [Xaj.mp hm]
     have hb:=h0.ok ok hsc hst;have hs:=hb.rng b0.2.1 (by unfold been;simp);obtain ⟨j,p,a,g1,_,rfl⟩:=ZhC hr;obtain ⟨n,hn⟩:=Xa4 hs.1
     have hnl:n<W.ss.length:=by omega
     have g4:=Xab hnl
     have eS:ZaV W b0.2.1=W.ss[n].1:=by unfold ZaV;rw [hn,Xa5,g4]
     rw [eS] at g1;exact ⟨n,j,_,hn,rfl,g4,.inl ⟨rfl,(Xae.mp g1).1⟩⟩
theorem Zjq {W:Wd} (ok:WOk W) {sc st:Int} (hsc:0≤sc∧sc<W.ss.length) (hst:0≤st∧st<W.sts.length) {x:Str} {bs:List Beg} (hB:Begs W sc st bs) {w:List Mrk} (hw:w∈Zbd W x bs):(∀ m∈w,MkOk W.ss m)∧w.length≤5:=by
 obtain ⟨b,hb,j,q,g1,_,_,rfl⟩:=ZlP hw;have ib:=(hB.mem b).mp hb;have hk:=ib.ok ok hsc hst;have hs:=hk.rng b.2.1 (by unfold been;simp);refine ⟨fun m hm=>?_,?_⟩
 · rcases Xaf.mp hm with hm | hm
   · exact ZiH ok hsc hst ib m hm
   · rw [Xaj.mp hm]
     obtain ⟨n,hn⟩:=Xa4 hs.1
     have hnl:n<W.ss.length:=by omega
     have g4:=Xab hnl
     have eS:Zbz W b.2.1=W.ss[n].2:=by unfold Zbz;rw [hn,Xa5,g4]
     rw [eS] at g1;exact ⟨n,j,_,hn,rfl,g4,.inr ⟨rfl,(Xae.mp g1).1⟩⟩
 · have:=Zb5 W.ss.length (been b) hk.nd hk.rng
   rw [show (been b).length=b.1.length+1 by unfold been;simp] at this
   have:=ok.s5
   rw [Xac,Xau];omega
theorem ZkK {W:Wd} (ok:WOk W) {sc st:Int} (hsc:0≤sc∧sc<W.ss.length) (hst:0≤st∧st<W.sts.length) {bs:List Beg} (hB:Begs W sc st bs) {w:Ow} (hw:w∈Zdx W bs):(∀ m∈w.1,MkOk W.ss m)∧w.1.length≤5:=by
 obtain ⟨b,hb,j,p,a,g1,_,_,rfl⟩:=ZmR hw;have ib:=(hB.mem b).mp hb;have hk:=ib.ok ok hsc hst;have hs:=hk.rng b.2.1 (by unfold been;simp);refine ⟨fun m hm=>?_,?_⟩
 · rcases Xaf.mp hm with hm | hm
   · exact ZiH ok hsc hst ib m hm
   · rw [Xaj.mp hm]
     obtain ⟨n,hn⟩:=Xa4 hs.1
     have hnl:n<W.ss.length:=by omega
     have g4:=Xab hnl
     have eS:ZaV W b.2.1=W.ss[n].1:=by unfold ZaV;rw [hn,Xa5,g4]
     rw [eS] at g1;exact ⟨n,j,_,hn,rfl,g4,.inl ⟨rfl,(Xae.mp g1).1⟩⟩
 · have:=Zb5 W.ss.length (been b) hk.nd hk.rng
   rw [show (been b).length=b.1.length+1 by unfold been;simp] at this
   have:=ok.s5
   show (b.1++[(b.2.1,("step" : Str),(j:Int))]).length≤5
   rw [Xac,Xau];omega
def Zdq (ss:List Sco) (w:List Mrk):Prop:=(∀ m∈w,MkOk ss m)∧w.length≤5
theorem nx_sq {u:TS}{D:Ends}{σ:St}{H:Hp} (h:u D σ H):tNext { D with nx:=u D } σ H:=h
end L2
namespace PySem
section
variable {prog:Program} {w:World} {K:Type} [DecidableEq K] {knd:HeapKind prog w K} {A:Around} {E:Value→Shared→Prop} {s:Shared}
theorem Zf5 {d a:Addr}{xs:List (K×Addr×Value)} {k:K} {v:Value} {Q:Value→Shared→Prop} (hu:knd.room A) (hkey:knd.is s.heap k a) (hm:s.heap.DictOfH knd d xs)
 (h1:∀ p,atKey xs k=some p→Q p.2 { s with toks:=s.toks+knd.draws k })
 (h2:atKey xs k=none→∀ h',h'.DictOfH knd d (storedH xs k a v)→Heap.SameBut d s.heap h'→Q v { s with heap:=h',toks:=s.toks+knd.draws k })
 (hsz:xs.length≤sizeLine:=by size_fits) :
 wpAny (model prog w) A (dictSetDefault d (.ref a) v) Q E s:=by
 obtain ⟨o,es,ep,ho,hc,hd,he,his,hn⟩:=hm;unfold dictSetDefault
 try with_reducible refine Xbn ?_
 refine Xbl (knd.pyHash hu hkey ?_);refine Xbl (wpAny_dictFind_heap (s:={ s with toks:=s.toks+knd.draws k }) hu hkey ho hd he his hn ?_ ?_)
 · intro hno
   have hnot:k ∉ xs.map (·.1):=not_mem_keys_of_get hno
   refine Xbl (Xby (Xbl (wpAny_updateDictKeys (hz:=by have e:=size_of_entries he;omega) (s:={ s with toks:=s.toks+knd.draws k }) ho hd (Xbm (h2 (atKey_none_of_get hno) _ ⟨_,_,ep+1,Heap.get?_update_self _ ho (Obj.isFreed_of_dict (Obj.data_mapDictKeys hd _)),
    hc.mapDictKeys _,Obj.data_mapDictKeys hd _,?_,?_,?_⟩ (Heap.SameBut.update ..))))))
   · rw [storedH_new (atKey_none_of_get hno)]
     simp [he,entryOfKey]
   · rw [storedH_new (atKey_none_of_get hno)]
     intro x hx
     rcases Xaf.mp hx with hx | hx
     · exact knd.keeps (his x hx) ho hd (Heap.SameBut.update ..)
     · simp only [Xaj] at hx
       subst hx;exact knd.keeps hkey ho hd (Heap.SameBut.update ..)
   · rw [storedH_new (atKey_none_of_get hno)]
     rw [Xad,List.nodup_append];refine ⟨hn,by simp,?_⟩;intro x hx y hy;simp only [Xao,XaO,Xaj] at hy;subst hy;exact fun e=>hnot (e ▸ hx)
 · intro j p hj
   refine Xbl (wpAny_dictEntries (s:={ s with toks:=s.toks+knd.draws k }) ho hd ?_);rw [entry_at he j,hj];exact Xbl (Xby (Xbm (h1 p (atKey_of_get hn hj))))
theorem Ze7 (d a:Addr) (hd:(d == sysModules)=false) (dflt:Value) :
 MeetsIn prog w (Builtin.«dict.setdefault» ⟨[.ref d,.ref a,dflt],[]⟩) (fun A R s=>knd.room A.in1∧∃ k xs,knd.is s.heap k a∧s.heap.DictOfH knd d xs∧xs.length≤sizeLine ∧
  (∀ p,atKey xs k=some p→R (.ok (.ret p.2)) { s with toks:=s.toks+knd.draws k }) ∧
  (atKey xs k=none→∀ h',h'.DictOfH knd d (storedH xs k a dflt)→Heap.SameBut d s.heap h'→R (.ok (.ret dflt)) { s with heap:=h',toks:=s.toks+knd.draws k })) :=
 .of_wp fun A R s hyp=>by
  obtain ⟨hu,k,xs,hkey,hm,hz,h1,h2⟩:=hyp;unfold Builtin.«dict.setdefault»;refine Xbl ?_;unfold Builtin.Dict.keyAndDefault;refine Xbl (wpAny_notOrdered_dict hm.typeIs ?_);show wpAny _ _ (pure (d,Value.ref a,some dflt)) _ _ s;refine Xbm ?_;show wpAny _ _ (if (d == sysModules)=true then _ else (dictSetDefault d (.ref a) dflt >>= _)) _ _ s;rw [Xbe (by rw [hd];exact Xbc)];exact Xbl (Zf5 (hsz:=hz) hu hkey hm (fun p hp=>Xbm ⟨p.2,rfl,h1 p hp⟩) fun hn h' hm' hs'=>Xbm ⟨dflt,rfl,h2 hn h' hm' hs'⟩)
end
section
variable {prog:Program} {w:World} {A:Around} {E:Value→Shared→Prop} {s:Shared}
theorem ZiI {d:Addr}{o:Obj}{es:Array DictEntry}{ep:Nat}{Q:Value→Shared→Prop} (hd:(d == sysModules)=false) (ho:s.heap.get? d=some o) (hc:o.ExactDict) (hdat:o.data=.dict es ep)
 (hQ:Q (.ref s.heap.objs.size) { s with heap:=s.heap.push { cls:=.type "dict_keyiterator",data:=.fields #[.ref d,.int 0 0,.int es.size 0,.int ep 0] } }) :
 wpAny (model prog w) A (pyIter (.ref d)) Q E s:=by
 have hT:s.TypeIs (.ref d) "dict" := ⟨o,ho,hc.1⟩
 refine wpAny_pyIter_slot hT F.slot_dict_iter (wpAny_call_entry F.slot_dict_iter hT F.entry_dict_iter ?_ (F.args_dict_iter_1 _));unfold Builtin.«dict.__iter__»;refine Xbl ?_;unfold Builtin.Dict.dictSlotNone;refine Xbl (wpAny_notOrdered_dict hT ?_);show wpAny _ _ (pure (Value.ref d)) _ _ s;refine Xbm ?_;show wpAny _ _ (Builtin.Dict.showsAll d >>= _) _ _ s;unfold Builtin.Dict.showsAll;rw [Xbe (by rw [hd];exact Xbc)];refine Xbl (Xbm ?_);refine Xbl (wpAny_dictEntries ho hdat ?_);refine Xbl (wpAny_dictEpoch ho hdat ?_)
 refine Xbl (wpAny_newObj_type (Xbm ⟨_,rfl, "dict_keyiterator",_,⟨_,Xbr _ rfl,rfl⟩,F.slot_dict_keyiterator_next.lookup,?_⟩))
 simpa [rawInt] using hQ
theorem ZiJ {it d:Addr}{i ep:Nat}{es:Array DictEntry}{od:Obj}{Q:Option Value→Shared→Prop} (hit:s.heap.IsKeyIter it d i es.size ep)
 (hod:s.heap.get? d=some od) (hdd:od.data=.dict es ep) (hlt':i<es.size)
 (hQ:∀ h',h'.IsKeyIter it d (i+1) es.size ep→Heap.SameBut it s.heap h'→Q (some es[i].key) { s with heap:=h' }) :
 wpAny (model prog w) A (pyNext (.ref it)) Q E s:=by
 obtain ⟨o,ho,hc,hd⟩:=id hit;unfold pyNext
 refine Xbl (wpAny_attempt (wpAny_callSpecial?_slot (name:=Str.ofString "__next__") hit.typeIs F.slot_dict_keyiterator_next
  (wpAny_call_entry F.slot_dict_keyiterator_next hit.typeIs F.entry_dict_keyiterator_next ?_ (F.args_dict_keyiterator_next_1 _))))
 refine Xbl (Xbm ?_);refine Xbl ?_;refine Xbl ?_
 first | refine Xbl (wpAny_typeNameOfWhole_keyiter hit.typeIs (Xbm ?_)) | refine Xbl (wpAny_typeNameOf_keyiter hit.typeIs (Xbm ?_))
 refine Xbl (wpAny_fieldsOf ho hd ?_)
 have hown:Builtin.Dict_items.ownsTuple "dict_keyiterator" = false:=by decide
 simp only [hown,Xbi,if_false];show wpAny _ _ (if (Value.ref d == Value.none)=true then _ else _) _ _ s;rw [Xbe (show ¬((Value.ref d == Value.none)=true) from Xbc)];refine Xbl (Xbm ?_);refine Xbl (wpAny_dictEntries hod hdd ?_);rw [Xbe (by simp)];refine Xbl (Xbm ?_);refine Xbl (wpAny_dictEpoch hod hdd ?_);rw [Xbe (by simp)];refine Xbm ?_;simp only [show ¬((i:Int)<0) from by omega,if_false,Xa5,Array.getElem?_eq_getElem hlt'];refine Xbl ?_
 first | refine Xbl (wpAny_typeNameOfWhole_keyiter hit.typeIs (Xbm ?_)) | refine Xbl (wpAny_typeNameOf_keyiter hit.typeIs (Xbm ?_))
 refine Xbl (wpAny_isOneOf_keyiter hit.typeIs ?_);show wpAny _ _ (setField (.ref it) 1 (rawInt ((i:Int)+1)) >>= _) _ _ s;refine Xbl (wpAny_setField ho hd (by simp) ?_)
 have hit':(s.heap.update it (Obj.mapFields (·.setIfInBounds 1 (rawInt ((i:Int)+1))))).IsKeyIter it d (i+1) es.size ep :=
  ⟨_,Heap.get?_update_self _ ho (Obj.isFreed_of_fields (Obj.data_mapFields hd _)),(Obj.cls_mapFields ..).trans hc,by rw [Obj.data_mapFields hd];simp [rawInt]⟩
 refine Xbl (Xbn ?_);refine Xbl (wpAny_isOneOf_keyiter (s:={ s with heap:=s.heap.update it (Obj.mapFields (·.setIfInBounds 1 (rawInt ((i:Int)+1)))) }) hit'.typeIs ?_);show wpAny _ _ (pure es[i].key) _ _ _;exact Xbm (Xbm ⟨_,rfl,Xbm (hQ _ hit' (Heap.SameBut.update ..))⟩)
theorem ZhD {it d:Addr}{i ep:Nat}{es:Array DictEntry}{od:Obj}{Q:Option Value→Shared→Prop} (hh:A.handled=none) (hit:s.heap.IsKeyIter it d i es.size ep)
 (hod:s.heap.get? d=some od) (hdd:od.data=.dict es ep) (hge:es.size≤i)
 (hQ:∀ h',Heap.ExtBut it s.heap h'→Q none { s with heap:=h' }):wpAny (model prog w) A (pyNext (.ref it)) Q E s:=by
 obtain ⟨o,ho,hc,hd⟩:=id hit;unfold pyNext
 refine Xbl (wpAny_attempt (wpAny_callSpecial?_slot (name:=Str.ofString "__next__") hit.typeIs F.slot_dict_keyiterator_next
  (wpAny_call_entry F.slot_dict_keyiterator_next hit.typeIs F.entry_dict_keyiterator_next ?_ (F.args_dict_keyiterator_next_1 _))))
 refine Xbl (Xbm ?_);refine Xbl ?_;refine Xbl ?_
 first | refine Xbl (wpAny_typeNameOfWhole_keyiter hit.typeIs (Xbm ?_)) | refine Xbl (wpAny_typeNameOf_keyiter hit.typeIs (Xbm ?_))
 refine Xbl (wpAny_fieldsOf ho hd ?_)
 have hown:Builtin.Dict_items.ownsTuple "dict_keyiterator" = false:=by decide
 simp only [hown,Xbi,if_false];show wpAny _ _ (if (Value.ref d == Value.none)=true then _ else _) _ _ s;rw [Xbe (show ¬((Value.ref d == Value.none)=true) from Xbc)];refine Xbl (Xbm ?_);refine Xbl (wpAny_dictEntries hod hdd ?_);rw [Xbe (by simp)];refine Xbl (Xbm ?_);refine Xbl (wpAny_dictEpoch hod hdd ?_);rw [Xbe (by simp)];refine Xbm ?_;simp only [show ¬((i:Int)<0) from by omega,if_false,Xa5,Array.getElem?_eq_none hge];refine Xbl ?_
 first | refine Xbl (wpAny_typeNameOfWhole_keyiter hit.typeIs (Xbm ?_)) | refine Xbl (wpAny_typeNameOf_keyiter hit.typeIs (Xbm ?_))
 show wpAny _ _ (setField (.ref it) 0 .none >>= _) _ _ s;refine Xbl (wpAny_setField ho hd (by simp) ?_)
 show wpAny _ _ (newExc (.type "StopIteration") [] >>= _) _ _ _
 refine Xbl ?_;simp only [newExc,newTuple];refine Xbl (wpAny_newObj_type ?_ (by size_fits));refine Xbl (m:=firstArgMember _ _) (wpAny_of_eq (a:=Value.none) (by first | rfl | (simp only [firstArgMember];rfl)) ?_);refine wpAny_newObj_type ?_ (by size_fits);simp only [raiseNew];refine Xbl (wpAny_handled ?_);rw [show A.in1.handled=none from hh];refine Xbl (Xbm (wpAny_throw ?_))
 refine Xbl (wpAny_isInstance (T := "StopIteration") (b:=true) ⟨_,Xbr _ rfl,rfl⟩ isSubtype_stop ?_)
 exact Xbm (hQ _ (((Heap.SameBut.update ..).extBut.push _).push _))
end
end PySem
namespace L2
open PySem PySem.Spec PyProof.Rows
section
variable {X:Cx}
def rSetT:V→List V→Hp→VK→Prop:=fun x vs H Q=>∃ a kvs k b d,x=.ref a∧vs=[.ref b,d]∧H a=some (.dT kvs)∧H b=some (.tup (k.map kV))∧kvs.length<sizeLine∧(∀ v,valV kvs k=some v→Q v H)∧(valV kvs k=none→Q d (upd H a (.dT (putK kvs k d))))
theorem ZmT (hu:X.A.units+1<cLine):MtR X "dict.setdefault" rSetT:=by
 intro pins s σ H x vs v us Q I rx rv h;obtain ⟨a,kvs,k,b,d,rfl,rfl,hd,hb,hz,q1,q2⟩:=h;cases rx;obtain ⟨u,r,rfl,ru,rr⟩:=Zhl rv;cases (show u=Value.ref b from ru);obtain ⟨z,hm,xs,rel,dd⟩:=dt_of I.hok hd
 have hl:xs.length≤sizeLine:=by rw [←Paired.length rel];exact z
 have hv:=rel.val k
 refine call_meetsIn PySem.F.slot_dict_setdefault dd.typeIs PySem.F.entry_dict_setdefault (PySem.F.args_dict_setdefault_3 _ _ _) (Ze7 (knd:=tupleKind (ZaU X.prog X.w)) a b hm r)
  ⟨tupleKind_room_in1 hu,k,xs,Zfi I.hok hb,dd,hl,fun y hy=>?_,fun hn h' dd' hs=>?_⟩
 · rw [hy] at hv
   cases e:valV kvs k with
   | none=>rw [e] at hv;exact False.elim hv
   | some v0 =>
     rw [e] at hv;exact ⟨v0,H,I.tok _,hv,q1 v0 e⟩
 · rw [hn] at hv
   cases e:valV kvs k with
   | some v0=>rw [e] at hv;exact False.elim hv
   | none =>
     have hl:(putK kvs k d).length≤sizeLine:=by have:=Zcq kvs k d;omega
     obtain ⟨q,es,ep,hq,h2,h3,h4,_,h5⟩:=dd';refine ⟨d,_,ZfR (ob:=.dT (putK kvs k d)) I (by rw [hd];exact True.intro) hs ⟨q,hq⟩ ⟨hl,hm,_,(rel.put k hb rr).keeps fun c ys ec=>?_,q,es,ep,hq,h2,h3,h4,h5⟩,rr,q2 e⟩
     rw [Zah (ZfN ec hd (fun z=>nomatch z))]
     exact ec
def Frz (H H1 H2:Hp):Prop:=∀ b,H2 b=H1 b∨H b=none∧∃ kvs o,H1 b=some (.dT kvs)∧H2 b=some (.frz o (.dT kvs))
theorem Inv.frz {pins:List (Addr×Obj)} {s:Shared} {σ:St} {H H2:Hp} (I:Inv X pins σ H s) (h:∀ b,H2 b=H b∨∃ kvs o,s.heap.get? b=some o∧H b=some (.dT kvs)∧H2 b=some (.frz o (.dT kvs))):Inv X pins σ H2 s:=by
 have same:∀ b u,H b=some u→(∀ kvs,u≠.dT kvs)→H2 b=some u:=fun b u e n=>by
  rcases h b with z | ⟨kvs,o,_,z,_⟩
  · rw [z];exact e
  · rw [e] at z;cases z;exact absurd rfl (n kvs)
 refine I.step (g':=s.gens) (t':=s.toks) (d':=s.drawn) (h':=s.heap) (ch:=[]) (fun b hb=>nomatch hb) (fun b o _ _ _ z _=>z) (fun b o _ _ _ z _=>⟨o.slots,z⟩) (fun b o _ _ n=>?_) (fun b o _ z=>⟨o,z⟩)
  (fun b xs z=>same b _ z fun _ q=>nomatch q) (fun b o u z=>same b _ z fun _ q=>nomatch q) (fun b ps z=>⟨#[],by rw [same b _ z fun _ q=>nomatch q];simp⟩) (fun m hm=>hm) (fun b u z=>?_) I.bare
 · rcases h b with z | ⟨kvs,o,_,z,_⟩
   · rw [z];exact n
   · rw [n] at z;cases z
 · have st:∀ {v:HO},H b=some v→ObjOk X.prog X.w H2 s.heap b v:=fun {v} e=>(I.hok b v e).stay (fun _ _ _ q=>q) (fun c q=>same c _ q fun _ q=>nomatch q) fun c xs q=>same c _ q fun _ q=>nomatch q
   rcases h b with y | ⟨kvs,o,g,y,y2⟩
   · rw [y] at z;exact st z
   · rw [y2] at z;cases z;exact ⟨g,st y⟩
def tFrz (t:TE):TE:=fun σ H Q=>t σ H fun v H1=>∀ H2,Frz H H1 H2→(∀ b kvs,H b=none→H1 b=some (.dT kvs)→∃ o,H2 b=some (.frz o (.dT kvs)))→Q v H2
theorem pe_frz {e:Expr}{t:TE} (he:PE X e t):PE X e (tFrz t):=by
 intro pins s σ H Q I h;refine thn (he pins s σ H _ I h) fun u s1 ⟨x,H1,I1,r1,q1⟩=>?_
 classical
 let H2:Hp:=fun b=>if H b=none then (match H1 b,s1.heap.get? b with
  | some (.dT kvs),some o=>some (.frz o (.dT kvs))
  | z,_=>z) else H1 b
 have key : ∀ b, H2 b = H1 b ∨ H b = none ∧ ∃ kvs o, s1.heap.get? b = some o ∧ H1 b = some (.dT kvs) ∧ H2 b = some (.frz o (.dT kvs)) := fun b => by
  by_cases hb:H b=none
  · have e:H2 b=(match H1 b,s1.heap.get? b with
     | some (.dT kvs),some o=>some (.frz o (.dT kvs))
     | z,_=>z):=Xbf hb
    by_cases hd:∃ kvs o,H1 b=some (.dT kvs)∧s1.heap.get? b=some o
    · obtain ⟨kvs,o,z1,z2⟩:=hd
      rw [z1,z2] at e;exact .inr ⟨hb,kvs,o,z2,z1,e⟩
    · refine .inl ?_
      rw [e]
      split
      · rename_i kvs o z1 z2;exact absurd ⟨kvs,o,z1,z2⟩ hd
      · rfl
  · exact .inl (Xbe hb)
 refine ⟨x,H2,I1.frz fun b=>(key b).imp id fun ⟨_,z⟩=>z,r1,q1 H2 (fun b=>(key b).imp id fun ⟨hb,kvs,o,_,z1,z2⟩=>⟨hb,kvs,o,z1,z2⟩) fun b kvs hb z=>?_⟩
 rcases key b with y | ⟨_,k',o,_,y1,y2⟩
 · exfalso
   obtain ⟨_,_,_,_,o,es,ep,g,_⟩:=(show ObjOk X.prog X.w H1 s1.heap b (.dT kvs) from I1.hok b _ z)
   have e:H2 b=some (.frz o (.dT kvs)):=by
    show (if H b=none then _ else _)=_;rw [Xbf hb,z,g]
   rw [e,z] at y;cases y
 · rw [z] at y1;cases y1;exact ⟨o,y2⟩
def Itd (a:Addr) (o:Obj) (kvs:List (List Key×V)):It :=
 ⟨fun i H=>H a=some (.frz o (.dT kvs))∧i<kvs.length,fun i H x H'=>H'=H∧∃ k v b,kvs[i]?=some (k,v)∧x=.ref b∧H b=some (.tup (k.map kV)),fun i H=>H a=some (.frz o (.dT kvs))∧kvs.length≤i⟩
theorem prd_at {α β:Type}{F:α→β→Prop}{l:List α}{m:List β} (h:Paired F l m):∀ {i:Nat} (hi:i<l.length),∃ y,m[i]?=some y∧F l[i] y:=by
 induction h with
 | nil=>intro i hi;exact absurd hi (Nat.not_lt_zero _)
 | cons r t ih =>
   intro i hi
   cases i with
   | zero=>exact ⟨_,rfl,r⟩
   | succ i=>exact ih (i:=i) (by simpa using hi)
theorem ZlR {P:Program}{w:World}{K:XFg}{tg:Expr}{a it:Addr}{o:Obj}{kvs:List (List Key×V)} {es:Array DictEntry} {ep:Nat} (hd:o.data=.dict es ep) :
 Turn P w K tg (Itd a o kvs) [it] it (fun i h=>h.IsKeyIter it a i es.size ep) where
 mem:=by simp
 obj:=fun i h st b hb=>by
  have e:b=it:=by simpa using hb
  subst e;obtain ⟨o,e,c,d⟩:=st;exact ⟨o,e,fun v z=>by rw [d] at z;cases z⟩
 keep:=fun i h h' st k=>st.at fun o e=>k it (by simp) o e
 item:=by
  intro X hP hw hK hc i pins s σ H E I hf st hg;subst hP hw hK;obtain ⟨hq,hi⟩:=hg;obtain ⟨ho,z,y,xs,rel,o',es',ep',g,c1,c2,c3,c4⟩:=(show ObjOk X.prog X.w H s.heap a (.frz o (.dT kvs)) from I.hok a _ hq);rw [ho] at g;cases g;rw [hd] at c2;cases c2;obtain ⟨q,hx,e1,e2,e3⟩:=prd_at rel hi;have he:=entry_at (knd:=tupleKind (ZaU X.prog X.w)) c3 i;rw [hx] at he;obtain ⟨hlt,he'⟩:=Array.getElem?_eq_some_iff.mp he;obtain ⟨f0,f1,f2,f3,f4,f5⟩:=hf it (by simp);refine ZiJ st ho hd hlt fun h' st' sb=>?_;have I1:Inv X pins σ H { s with heap:=h' }:=I.turned (t':=s.toks) (fun b o hb e=>(sb.2 b hb).trans e) f0 f1 f3 f4 f5;obtain ⟨oi,e,c,d⟩:=id st';refine ⟨_,rfl,Zmj (s:={ s with heap:=h' }) e c d (by decide) ⟨.ref q.2.1,H,I1,?_,⟨rfl,kvs[i].1,kvs[i].2,q.2.1,by simp [hi],rfl,e2⟩,st',fun b hb=>(hf b hb).1⟩⟩;rw [he'];rfl
 done:=by
  intro X hP hw hK hc i pins s σ H E I hf st hg;subst hP hw hK;obtain ⟨hq,hi⟩:=hg;obtain ⟨ho,z,y,xs,rel,o',es',ep',g,c1,c2,c3,c4⟩:=(show ObjOk X.prog X.w H s.heap a (.frz o (.dT kvs)) from I.hok a _ hq);rw [ho] at g;cases g;rw [hd] at c2;cases c2;have hsz:=size_of_entries c3;have hl:=Paired.length rel;obtain ⟨f0,f1,f2,f3,f4,f5⟩:=hf it (by simp);exact ZhD (I.ok.hd hc) st ho hd (by omega) fun h' eb=>⟨rfl,I.turned (t':=s.toks) (fun b o hb e=>eb b o hb e) f0 f1 f3 f4 f5⟩
 self:=fun _ _ _ _ _ st h=>wpAny_pyIter_keyiter st h
def iDict (tl:TE):TI:=fun σ H R=>tl σ H fun x H1=>∃ a kvs,x=.ref a∧Rd H1 a (.dT kvs)∧∀ o,(H1 a=some (.dT kvs)∨H1 a=some (.frz o (.dT kvs)))→R (Itd a o kvs) (upd H1 a (.frz o (.dT kvs)))
theorem pi_dict {tg l:Expr}{tl:TE} (hl:PE X l tl):PI X tg l (iDict tl):=by
 intro pins s σ H R I h;refine thn (hl pins s σ H _ I h) fun v s1 ⟨x,H1,I1,r1,q1⟩=>?_;obtain ⟨a,kvs,e,hr,q⟩:=q1;subst e;cases r1;obtain ⟨_,hm,xs,_,o,es,ep,g,c1,c2,_⟩:=(show ObjOk X.prog X.w H1 s1.heap a (.dT kvs) from rd_of I1.hok hr)
 have hb:H1 a=some (.dT kvs)∨H1 a=some (.frz o (.dT kvs)):=by
  rcases hr with z | ⟨o',z⟩
  · exact .inl z
  · have:=(show ObjOk X.prog X.w H1 s1.heap a (.frz o' (.dT kvs)) from I1.hok a _ z).1
    rw [g] at this;cases this;exact .inr z
 have I2:Inv X pins σ (upd H1 a (.frz o (.dT kvs))) s1:=I1.frz fun b=>by
  by_cases e:b=a
  · subst e
    rcases hb with z | z
    · exact .inr ⟨kvs,o,g,z,upd_same⟩
    · exact .inl (upd_same.trans z.symm)
  · exact .inl (Zah e)
 refine ZiI hm g c1 c2 ?_;refine ⟨s1.heap.objs.size,[s1.heap.objs.size],_,_,_,rfl,I2.kept (t':=s1.toks) fun b o e=>Xbp _ e,ZlR c2,⟨_,Xbr _ rfl,rfl,rfl⟩,fun b hb=>?_,q o hb⟩
 have e:b=s1.heap.objs.size:=by simpa using hb
 subst e;exact I2.fpOk (XaW _) (I2.hok.fresh (XaW _))
theorem ZmU {a:Addr}{o:Obj}{kvs:List (List Key×V)} {g:TG} {tb:TS} {D:Ends} {σ:St} {H:Hp} (Pv:Nat→St→Hp→Prop) (h0:Pv 0 σ H) (hl:∀ i σ H,i≤kvs.length→Pv i σ H→H a=some (.frz o (.dT kvs)))
 (hs:∀ i k v b σ H,kvs[i]?=some (k,v)→H b=some (.tup (k.map kV))→Pv i σ H→g (.ref b) σ H fun σ2 H2=>tb { D with nx:=Pv (i+1),ct:=Pv (i+1),bk:=D.nx } σ2 H2) (hd:∀ σ H,Pv kvs.length σ H→D.nx σ H) :
 ∃ W:Nat→Nat→St→Hp→Prop,(∃ m,W 0 m σ H)∧∀ i m σ H,W i m σ H →
  ((Itd a o kvs).stop i H∧D.nx σ H)∨((Itd a o kvs).go i H∧∃ N:St→Hp→Prop,(∀ σ' H',N σ' H'→∃ m',m' < m∧W (i+1) m' σ' H')∧∀ x H',(Itd a o kvs).yld i H x H'→g x σ H' fun σ2 H2=>tb { D with nx:=N,ct:=N,bk:=D.nx } σ2 H2):=by
 refine ⟨fun i m σ H=>m=kvs.length - i∧i≤kvs.length∧Pv i σ H,⟨kvs.length,by simp,Xa1 _,h0⟩,?_⟩;rintro i m σ H ⟨rfl,hi,p⟩;have q:=hl i σ H hi p
 by_cases hlt:i<kvs.length
 · refine .inr ⟨⟨q,hlt⟩,Pv (i+1),fun σ' H' p'=>⟨kvs.length - (i+1),by omega,rfl,hlt,p'⟩,fun x H' y=>?_⟩
   obtain ⟨e,k,v,b,y1,y2,y3⟩:=y;subst e y2;exact hs i k v b σ _ y1 y3 p
 · have e:i=kvs.length:=by omega
   subst e;exact .inl ⟨⟨q,XaW _⟩,hd σ H p⟩
end
end L2
namespace PySem
section
variable {prog:Program} {w:World} {A:Around} {E:Value→Shared→Prop} {s:Shared}
theorem ZlS {a:Addr}{o:Obj}{xs:Array Value}{k:Nat}{Q:Option Value→Shared→Prop}
 (hx:s.heap.get? a=some o) (hc:o.cls=.type "list") (hdat:o.data=.seq xs k) (hd:o.dict=none) (hA:A.handled=none)
 (h:∀ h' tk,(∀ b o,s.heap.get? b=some o→h'.get? b=some o)→Q none { s with heap:=h',toks:=tk }):wpAny (model prog w) A (getAttr? (.ref a) "keys") Q E s:=by
 obtain ⟨c,dct,dat,sl⟩:=o;simp only at hc hdat hd;subst hc hdat hd;obtain ⟨hp,g,d,tk,os⟩:=s
 have hT:∀ tk',(⟨hp,g,d,tk',os⟩:Shared).TypeIs (.ref a) "list" := fun _=>⟨_,hx,rfl⟩
 have f1:=sub_AttributeError;have f3:=F.slot_list_getattribute.lookup;have f4:=F.slot_list_getattribute.bind (.ref a);have f5:=am_list_getattr_none
 have hmiss:typeLookup (.type "list") "keys" = pure none:=by rw [typeLookup_type,builtinLookup_eq_fast];kernel_rfl
 unfold getAttr? getAttrBy? getAttrBy
 repeat (any_goals (first | assumption | exact hT _ | ((with_reducible show wpAny _ _ (call (Value.builtin "list.__getattribute__") _ _) _ _ _);refine call_meets F.slot_list_getattribute (hT _) am_entry_list_getattribute (F.args_list_getattribute_2 _ _) (meets_getattribute_miss_list a xs k sl "keys" _ hmiss (by decide) (by size_fits)) ⟨hx,hA,fun h' tk' e hx'=>?_⟩) | wp_step))
 obtain ⟨t',u',he⟩:=hx'.there;show wpAny _ _ (getattributeRaised _ _ _ _ _ _ _) _ _ _;unfold getattributeRaised
 repeat (any_goals (first | assumption | wp_step))
 exact h _ _ hx'.keeps
namespace F
theorem args_minD (a v:Value):argsOk "min" ⟨[a],[(Str.ofString "default",v)]⟩:=by unfold argsOk;kernel_rfl
theorem entry_upd_loop:entryFor table "dict.update.loop" = some Builtin.«dict.update.loop»:=entryFor_of_tree (by kernel_rfl)
theorem plain_upd_loop:plainId "dict.update.loop" = true:=by decide +kernel
end F
variable {R:Result→Shared→Prop} {I:Addr} {fp wr:List Addr} {n:Nat} {P:Nat→Value→Prop} {St:Nat→Heap→Prop}
theorem ZfK:(toString "min" ++ toString ".loop" : String) = "min.loop" := by decide
theorem Zf6 (W:Walks prog w A.in1 I fp wr n P St) (bt:Nat→Nat→Bool) (hcmp:CmpOf prog w A.in1 .Lt P bt) (S:Addr) (hSf:S ∉ fp) (kw:List (Str×Value)) :
 ∀ (k j:Nat) (s:Shared) (vb:Value) (c:Nat),n=j+1+k→St (j+1) s.heap→P (argBest bt j) vb→s.heap.get? S=some { cls:=.type "list",data:=.seq #[vb,vb] c } →
 (∀ v h' tk,P (argBest bt (n - 1)) v→(∀ b o,b ∉ wr→b≠S→s.heap.get? b=some o→h'.get? b=some o)→R (.ok (.ret v)) { s with heap:=h',toks:=tk }) →
 codeAny (model prog w) A (.builtin "min.loop" ⟨[.ref I,.none,.ref S],kw⟩) R s
 | 0,j,s,vb,c,hk,hst,hPb,hS,hR=>by
   subst hk;refine codeAny_builtin F.entry_min_loop ?_;rw [Around.under_plainId F.plain_min_loop _];show wpAny _ A.in1 (seqItems? (.ref S) >>= _) _ _ s;refine Xbl (Xbx hS rfl ?_);show wpAny _ A.in1 (tryCatch (pyNext (.ref I)) _ >>= _) _ _ s;refine Xbl (wpAny_tryCatch (W.done s _ _ hst fun h' tk hk'=>?_));show wpAny _ A.in1 (updateSeq S (fun _=>#[]) >>= _) _ _ _;refine Xbl (wpAny_updateSeq (hk' S _ (fun h=>hSf (W.sub _ h)) hS) rfl (Xbl (wpAny_letGo (Xbm (hR vb _ tk hPb fun b o hbw hbS e=>?_)))));exact (Heap.get?_update_other _ _ (Ne.symm hbS)).trans (hk' b o hbw e)
 | k + 1, j, s, vb, c, hk, hst, hPb, hS, hR => by
   refine codeAny_builtin F.entry_min_loop ?_;rw [Around.under_plainId F.plain_min_loop _];show wpAny _ A.in1 (seqItems? (.ref S) >>= _) _ _ s;refine Xbl (Xbx hS rfl ?_);show wpAny _ A.in1 (tryCatch (pyNext (.ref I)) _ >>= _) _ _ s;refine Xbl (wpAny_tryCatch (W.item (j+1) s _ _ (by omega) hst fun v h' tk hP hst' hk'=>?_));have hS':=hk' S _ (fun h=>hSf (W.sub _ h)) hS;show wpAny _ A.in1 (tryCatch (holding [v,v] (richCompare .Lt v vb >>= _)) _ >>= _) _ _ _;refine Xbl (wpAny_tryCatch (Xbn (Xbl (hcmp (j+1) (argBest bt j) v vb _ _ _ hP hPb (Xbl (Xbn (Xbo (Xbl (wpAny_letGo (Xbm ?_))))))))))
   cases hb:bt (j+1) (argBest bt j) with
   | true =>
     simp only [if_true];refine Xbl (wpAny_updateSeq hS' rfl (Xbl (wpAny_letGo ?_)));rw [ZfK];refine Xbm ⟨plainId_quiet F.plain_min_loop _,Zf6 W bt hcmp S hSf kw k (j+1) _ v _ (by omega) (W.frame _ _ _ hst' fun b hbf o e=>?_) (by simp only [argBest,hb,if_true];exact hP) (Heap.get?_update_self _ hS' rfl) fun v' h2 tk2 hP' hk2=>?_⟩
     · exact (Heap.get?_update_other _ _ (fun h:S=b=>hSf (by rw [h];exact hbf))).trans e
     · exact hR v' h2 tk2 hP' fun b o hbw hbS e=>hk2 b o hbw hbS ((Heap.get?_update_other _ _ (Ne.symm hbS)).trans (hk' b o hbw e))
   | false =>
     simp only [Xbi,if_false];refine Xbl (wpAny_letGo ?_);rw [ZfK]
     exact Xbm ⟨plainId_quiet F.plain_min_loop _,Zf6 W bt hcmp S hSf kw k (j+1) _ vb c (by omega) hst' (by simp only [argBest,hb,Xbi,if_false];exact hPb) hS' fun v' h2 tk2 hP' hk2 =>
      hR v' h2 tk2 hP' fun b o hbw hbS e=>hk2 b o hbw hbS (hk' b o hbw e)⟩
theorem ZlT {x d:Value}{Q:Value→Shared→Prop}
 (h:wpAny (model prog w) A.in1 (pyIter x) (fun it s₂=>∃ I fp wr n P St bt,it=.ref I∧Walks prog w A.in1 I fp wr n P St∧St 0 s₂.heap∧(∀ b∈fp,b<s₂.heap.objs.size)∧CmpOf prog w A.in1 .Lt P bt ∧
  ∀ v h' tk,(if n=0 then v=d else P (argBest bt (n - 1)) v)→(∀ b o,b ∉ wr→s₂.heap.get? b=some o→h'.get? b=some o)→Q v { s₂ with heap:=h',toks:=tk }) E s) :
 wpAny (model prog w) A (call (.builtin "min") [x] [(Str.ofString "default",d)]) Q E s:=by
 refine wpAny_call (codeAny_call_builtin F.plain_min F.entry_min (wpAny_of_eq (a:=()) (by
  have ha:=F.args_minD x d;simp only [checkBuiltinCall,F.kind_min];unfold argsOk at ha
  cases hsig:Manifest.signature? "min" with
  | none=>rfl
  | some sig=>rw [hsig] at ha;exact ha) ?_))
 show wpAny _ A.in1 (Builtin.Builtins.bindParams "min" ["key", "default"] 0 ⟨[],[(Str.ofString "default",d)]⟩ >>= _) _ _ s
 refine Xbl (wpAny_of_eq (show Builtin.Builtins.bindParams "min" ["key", "default"] 0 ⟨[],[(Str.ofString "default",d)]⟩=pure [none,some d] from rfl) ?_)
 refine Xbl (Xbm ?_);refine Xbl (Xbw h (fun it s₂ h₂=>?_) fun _ _ e=>e);obtain ⟨I,fp,wr,n,P,St,bt,rfl,W,hst,hfp,hcmp,hQ⟩:=h₂;refine Xbl (wpAny_newObj_type ?_);have hSf:s₂.heap.objs.size ∉ fp:=fun hm=>XaX _ (hfp _ hm);have hSw:s₂.heap.objs.size ∉ wr:=fun h=>hSf (W.sub _ h);rw [ZfK]
 have hS:(s₂.heap.push { cls:=.type "list",data:=.seq #[] }).get? s₂.heap.objs.size=some { cls:=.type "list",data:=.seq #[] }:=Xbr _ rfl
 have hst':=W.frame _ _ (s₂.heap.push { cls:=.type "list",data:=.seq #[] }) hst fun b _ o e=>Xbp _ e
 refine Xbm ⟨plainId_quiet F.plain_min_loop _,codeAny_builtin F.entry_min_loop ?_⟩;rw [Around.under_plainId F.plain_min_loop _];show wpAny _ A.in1 (seqItems? (.ref s₂.heap.objs.size) >>= _) _ _ _;refine Xbl (Xbx hS rfl ?_);show wpAny _ A.in1 (tryCatch (pyNext (.ref I)) _ >>= _) _ _ _
 cases n with
 | zero =>
   refine Xbl (wpAny_tryCatch (W.done _ _ _ hst' fun h' tk hk'=>?_));exact Xbl (Xby (Xbm (hQ d _ tk (by rw [Xbf rfl]) fun b o hbw e=>hk' b o hbw (Xbp _ e))))
 | succ n =>
   refine Xbl (wpAny_tryCatch (W.item 0 _ _ _ (Nat.succ_pos _) hst' fun v h' tk hP hst2 hk'=>?_));have hS':=hk' _ _ hSw hS;show wpAny _ A.in1 (updateSeq s₂.heap.objs.size (fun _=>#[v,v]) >>= _) _ _ _;refine Xbl (wpAny_updateSeq hS' rfl ?_);rw [ZfK];refine Xbm ⟨plainId_quiet F.plain_min_loop _,Zf6 W bt hcmp _ hSf _ n 0 _ v _ (by omega) (W.frame _ _ _ hst2 fun b hbf o e=>?_) hP (Heap.get?_update_self _ hS' rfl) fun v' h2 tk2 hP' hk2=>?_⟩
   · exact (Heap.get?_update_other _ _ (fun h:s₂.heap.objs.size=b=>hSf (by rw [h];exact hbf))).trans e
   · refine hQ v' h2 tk2 (by rw [Xbe (Nat.succ_ne_zero n)];exact hP') fun b o hbw e=>?_
     have hb:b≠s₂.heap.objs.size:=XaZ (Xbq e);exact hk2 b o hbw hb ((Heap.get?_update_other _ _ (Ne.symm hb)).trans (hk' b o hbw (Xbp _ e)))
end
end PySem
namespace L2
open PySem PySem.Spec PyProof.Rows
section
variable {X:Cx}
def Zg9:List Int→V
 | []=>.non
 | n :: ns=>.int (ns.foldl min n)
theorem ZeD (f:Nat→Int):∀ n,f (argBest (fun i j=>decide (f i<f j)) n)=((List.range n).map fun i=>f (i+1)).foldl min (f 0)
 | 0=>rfl
 | n+1=>by
   have ih:=ZeD f n;rw [List.range_succ,Xad,XaT];show f (if _ then _ else _)=min _ (f (n+1));rw [←ih]
   by_cases h:f (n+1)<f (argBest (fun i j=>decide (f i<f j)) n)
   · rw [Xbf (Xa6 h)];omega
   · rw [Xbe (by simpa using h)];omega
theorem ZkL (n:Int) (ns:List Int):((List.range ns.length).map fun i=>(n :: ns).getD (i+1) 0)=ns:=by
 apply List.ext_getElem?;intro i;rw [Xag]
 by_cases h:i<ns.length
 · rw [List.getElem?_range h,Option.map_some,Xaq,List.getElem?_cons_succ,Xab h];rfl
 · rw [XaJ (by simpa using h),XaJ (by omega)];rfl
def tMinD (ta:TA):TE:=fun σ H Q=>ta σ H fun vs H1=>∃ p ns,vs=[.ref p]∧H1 p=some (.lst (ns.map V.int))∧Q (Zg9 ns) H1
theorem pe_minD {e:Expr}{ta:TA}{p pos p1 p2:Pos}{j:Nat} (hc:X.calm=true) (hg:Gl X "min") (hm:X.mg "min" = none) (ha:PA X [e] ta)
 (hb:backTo pos (starEach [e] X.env)=(false,eval e X.env) :: backTo pos (starEach [] X.env):=by rfl) (hpl:(backTo pos (starEach [e] X.env)).any (·.1)=false:=by rfl) :
 PE X (.Call (.Name "min" p) [e] [⟨some "default",.Constant .none j p1,p2⟩] pos) (tMinD ta):=by
 intro pins s σ H Q I h
 refine wpAny_Call_Name_kw (ZfO I hg hm (u:=.builtin "min") (by decide +kernel) (callWith_kw (thn (ha pos pins s σ H _ I h) fun us s1 ⟨vs,H1,I1,r1,q1⟩=>kws_cons (Constant_none (kws_nil ?_))) hb hpl))
 obtain ⟨l,ns,rfl,hq,q⟩:=q1;obtain ⟨u,rfl,rx⟩:=Zdt r1;cases rx;obtain ⟨z,its,n,rv,e⟩:=(show ObjOk X.prog X.w H1 s1.heap l (.lst (ns.map V.int)) from I1.hok l _ hq);have ia:=Zkv rv;have hl:s1.heap.IsList l its.toArray:=⟨_,e,rfl,n,rfl⟩
 have hlen:its.length=ns.length:=by have:=rv.length;rw [Xaa] at this;exact this.symm
 refine ZlT (wpAny_pyIter_list hl ⟨_,[s1.heap.objs.size,l],[s1.heap.objs.size],_,fun i v=>its.toArray[i]?=some v,fun i h=>h.IsListIter s1.heap.objs.size l i∧h.IsList l its.toArray,fun i j=>decide (ns.getD i 0<ns.getD j 0),rfl,Walks.list (A:=X.A.in1) (I1.ok.hd hc) s1.heap.objs.size l (XaZ (Xbq e)) its.toArray,
  ⟨⟨_,Xbr _ rfl,rfl,rfl⟩,hl.push _⟩,fun b hb=>?_,CmpOf.ints_lt (fun i=>ns.getD i 0) (fun i v hv=>ia.int_at i v (by simpa using hv)),fun v h' tk hv kp=>?_⟩)
 · show b<(s1.heap.push _).objs.size
   rw [Heap.size_push]
   rcases Xam.mp hb with rfl | hb
   · exact Xa0 _
   · rw [Xaj.mp hb];exact Nat.lt_succ_of_lt (Xbq e)
 · have kp':∀ b o,s1.heap.get? b=some o→h'.get? b=some o:=fun b o z=>kp b o (by simpa using XaZ (Xbq z)) (Xbp _ z)
   refine ⟨Zg9 ns,H1,I1.kept kp',?_,q⟩;rw [Xak,hlen] at hv
   cases ns with
   | nil=>exact hv
   | cons m ns =>
     rw [XaB,Xbe (Nat.succ_ne_zero _),Nat.add_sub_cancel] at hv;obtain ⟨t,rfl⟩:=ia.int_at (argBest (fun i j=>decide ((m :: ns).getD i 0<(m :: ns).getD j 0)) ns.length) v (by rw [←List.getElem?_toArray];exact hv);refine ⟨t,?_⟩;rw [ZeD fun i=>(m :: ns).getD i 0,ZkL];rfl
def Zfp (acc:List (List Key×V)) (ps:List (List Key×V)):List (List Key×V):=ps.foldl (fun a kv=>putK a kv.1 kv.2) acc
def PrsAt (H:Hp) (xs:List V) (ps:List (List Key×V)):Prop:=Paired (fun x (p:List Key×V)=>∃ t b,x=.ref t∧H t=some (.tup [.ref b,p.2])∧H b=some (.tup (p.1.map kV))) xs ps
theorem ZmV {pins:List (Addr×Obj)} {σ:St} {A:Around} {R:Result→Shared→Prop} {H:Hp} {p l it:Addr} (hu:A.units+1<cLine) (hh:A.in1.handled=none) (hp:H p=none) (hpi:it≠p) :
 ∀ (xs:List V) (ps:List (List Key×V)) (pre:List V) (acc:List (List Key×V)) (s:Shared),PrsAt H xs ps→H l=some (.lst (pre++xs))→acc.length+xs.length≤sizeLine→Inv X pins σ (upd H p (.dT acc)) s →
 s.heap.IsListIter it l pre.length→FpOk X pins H it→(∀ s',Inv X pins σ (upd H p (.dT (Zfp acc ps))) s'→R (.ok (.ret .none)) s')→∀ n:Int,
 codeAny (model X.prog X.w) A (.builtin "dict.update.loop" ⟨[.ref p,.ref it,rawInt n,.none],[]⟩) R s:=by
 intro xs ps pre acc s hx
 induction hx generalizing pre acc s with
 | nil =>
   intro hl hz I st hf hR n;have hl':upd H p (.dT acc) l=some (.lst (pre++[])):=(Zah (Zac hl hp)).trans hl;obtain ⟨f0,f1,f2,f3,f4,f5⟩:=hf;have f0':upd H p (.dT acc) it=none:=(Zah hpi).trans f0;obtain ⟨z,its,c,rv,e⟩:=(show ObjOk X.prog X.w _ s.heap l (.lst (pre++[])) from I.hok l _ hl');have hlen:=rv.length;rw [XaH] at hlen;refine codeAny_builtin PySem.F.entry_upd_loop ?_;rw [Around.under_plainId PySem.F.plain_upd_loop _];show wpAny _ A.in1 (pyNext (.ref it) >>= _) _ _ s;refine Xbl (wpAny_pyNext_list_end hh st ⟨_,e,rfl,c,rfl⟩ (by simp;omega) fun h' eb=>?_);exact Xbl (Xbm (Xbm (hR _ (I.turned (t':=s.toks) (fun b o hb e=>eb b o hb e) f0' f1 f3 f4 f5))))
 | @cons x q xs ps hq tl ih =>
   intro hl hz I st hf hR n;obtain ⟨t,b,rfl,ht,hb⟩:=hq;have hl':upd H p (.dT acc) l=some (.lst (pre++.ref t :: xs)):=(Zah (Zac hl hp)).trans hl;have ht':upd H p (.dT acc) t=some (.tup [.ref b,q.2]):=(Zah (Zac ht hp)).trans ht;have hb':upd H p (.dT acc) b=some (.tup (q.1.map kV)):=(Zah (Zac hb hp)).trans hb;obtain ⟨f0,f1,f2,f3,f4,f5⟩:=id hf;have f0':upd H p (.dT acc) it=none:=(Zah hpi).trans f0;obtain ⟨z,its,c,rv,e⟩:=(show ObjOk X.prog X.w _ s.heap l (.lst (pre++.ref t :: xs)) from I.hok l _ hl');obtain ⟨u,hu1,ru⟩:=rv.get (i:=pre.length) (x:=.ref t) (by simp);cases ru;refine codeAny_builtin PySem.F.entry_upd_loop ?_;rw [Around.under_plainId PySem.F.plain_upd_loop _];show wpAny _ A.in1 (pyNext (.ref it) >>= _) _ _ s;refine Xbl (wpAny_pyNext_list_item st (⟨_,e,rfl,c,rfl⟩:s.heap.IsList l its.toArray) (x:=.ref t) (by simpa using hu1) fun h' st' sb=>?_);have I1:Inv X pins σ (upd H p (.dT acc)) { s with heap:=h' }:=I.turned (t':=s.toks) (fun b o hb e=>(sb.2 b hb).trans e) f0' f1 f3 f4 f5;obtain ⟨_,ts,rt,ot,et,ct,nt,dt⟩:=(show ObjOk X.prog X.w _ h' t (.tup [.ref b,q.2]) from I1.hok t _ ht');obtain ⟨u1,u2,rfl,r1,r2⟩:=Zhl rt;cases (show u1=Value.ref b from r1);obtain ⟨zd,hm,es,rel,dd⟩:=dt_of I1.hok (upd_same (H:=H) (a:=p) (o:=.dT acc))
   have hl2:es.length≤sizeLine:=by rw [←Paired.length rel];exact zd
   have hacc:(putK acc q.1 q.2).length≤acc.length+1:=Zcq acc q.1 q.2;rw [XaB] at hz;refine Xbl (Xbn (Xbl (wpAny_tryCatch ?_)));show wpAny _ A.in1 (Builtin.Dict.pairItems (.ref t)) _ _ _;unfold Builtin.Dict.pairItems
   refine Xbl (Xbv (s:={ s with heap:=h' }) (T := "tuple") ⟨ot,et,ct⟩ ?_)
   rw [Xbf (by decide)];refine Xbl (Xbx (s:={ s with heap:=h' }) et dt (Xbm ?_));show wpAny _ A.in1 (holding [Value.ref b,u2] (dictSet p (.ref b) u2)) _ _ _;refine Xbn (wpAny_dictSet_heap (hsz:=hl2) (knd:=tupleKind (ZaU X.prog X.w)) (tupleKind_room_in1 hu) (Zfi I1.hok hb') dd fun h2 dd' hs=>?_);obtain ⟨oo,es2,ep2,g1,g2,g3,g4,_,g5⟩:=dd'
   have I2:Inv X pins σ (upd H p (.dT (putK acc q.1 q.2))) { s with heap:=h2,toks:=s.toks+(tupleKind (ZaU X.prog X.w)).draws q.1 }:=by
    have:=ZfR (t':=s.toks+(tupleKind (ZaU X.prog X.w)).draws q.1) (ob:=.dT (putK acc q.1 q.2)) I1 (by rw [upd_same];exact True.intro) hs ⟨oo,g1⟩ ⟨by omega,hm,_,(rel.put q.1 hb' r2).keeps fun c ys ec=>?_,oo,es2,ep2,g1,g2,g3,g4,g5⟩
    · rw [upd_upd] at this;exact this
    · rw [Zah (ZfN ec upd_same (fun z=>nomatch z))];exact ec
   refine Xbm ⟨plainId_quiet PySem.F.plain_upd_loop _,?_⟩
   have:=ih (pre++[.ref t]) (putK acc q.1 q.2) _ (by rw [XaE];exact hl) (by omega) I2 (by rw [Xac];exact st'.at fun o e=>(hs.2 it hpi).trans e) hf hR (n+1)
   exact this
def rDictOf:List V→Hp→VK→Prop:=fun vs H Q=>∃ l xs ps,vs=[.ref l]∧H l=some (.lst xs)∧xs.length<sizeLine∧PrsAt H xs ps∧∀ p,H p=none→Q (.ref p) (upd H p (.dT (Zfp [] ps)))
theorem Zjr (hc:X.calm=true) (hu:X.A.units+2<cLine):CallR X (.type "dict") rDictOf:=by
 intro pins s σ H vs us Q I r h;obtain ⟨l,xs,ps,rfl,hl,hz,hp,q⟩:=h;obtain ⟨u,rfl,rx⟩:=Zdt r;cases rx;have hn:H s.heap.objs.size=none:=I.hok.fresh (XaW _)
 refine callType_codes (Q₁:=fun obj s₁=>obj=.ref s.heap.objs.size∧s₁={ s with heap:=s.heap.push { cls:=.type "dict",data:=.dict #[] } }) PySem.F.kt_called_dict (PySem.F.kt_typeCall_dict_1 _) PySem.F.entry_dict_init (kt_code_dict_new _ ⟨rfl,rfl⟩) ?_
 rintro obj s₁ ⟨rfl,rfl⟩
 have I1:=I.laid (a:=s.heap.objs.size) (o:=.dT []) (t':=s.toks) (h':=s.heap.push { cls:=.type "dict",data:=.dict #[] }) (fun _ _ q=>Xbp _ q) (XaW _) (ZjR s.heap I.big)
 obtain ⟨z,its,c,rv,e⟩:=(show ObjOk X.prog X.w _ s.heap l (.lst xs) from I.hok l _ hl)
 have e':=Xbp { cls:=.type "dict",data:=.dict #[] } e
 have hT:Shared.TypeIs { s with heap:=s.heap.push { cls:=.type "dict",data:=.dict #[] } } (.ref s.heap.objs.size) "dict" := ⟨_,Xbr _ rfl,rfl⟩
 refine ⟨hT,PySem.F.args_dict_init_2 _ _,?_⟩;unfold Builtin.«dict.__init__»;refine Xbl ?_;unfold Builtin.Dict.selfAndRest;refine Xbl (wpAny_notOrdered_dict hT ?_);show wpAny _ _ (pure (s.heap.objs.size,[Value.ref l])) _ _ _;refine Xbm ?_
 show wpAny _ _ (Builtin.Dict.updateFrom "dict.__init__" s.heap.objs.size (.ref l) [] .none) _ _ _
 unfold Builtin.Dict.updateFrom
 refine Xbl (Xbv (T := "list") ⟨_,e',rfl⟩ ?_)
 rw [Xbf (by decide)];refine Xbl (ZlS e' rfl rfl rfl (I.ok.hd hc) fun h1 tk k1=>?_);rw [Xbf (show (none:Option Value).isNone=true from rfl)];have I2:=I1.kept (t':=tk) k1;refine Xbl (Xby (Xbl (wpAny_pyIter_list (s:={ s with heap:=h1,toks:=tk }) ⟨_,k1 _ _ e',rfl,c,rfl⟩ ?_)))
 have I3:=I2.kept (t':=tk) (h':=h1.push { cls:=.type "list_iterator",data:=.fields #[.ref l,.int 0 0] }) fun b o e=>Xbp _ e
 obtain ⟨f0,fr⟩:=I2.fpOk (XaW h1.objs.size) (I2.hok.fresh (XaW _))
 have hne:h1.objs.size≠s.heap.objs.size:=fun z=>by rw [z,upd_same] at f0;cases f0
 refine Xbm ⟨plainId_quiet PySem.F.plain_upd_loop _,ZmV (A:=X.A.in1) (X:=X) (pins:=pins) (σ:=σ) (l:=l) (H:=H) hu (I.ok.hd hc) hn hne xs ps [] [] _ hp hl (by rw [XaN];omega) I3 ⟨_,Xbr _ rfl,rfl,rfl⟩ ⟨(Zah hne).symm.trans f0,fr⟩ (fun s' I'=>⟨rfl,.ref _,_,I',rfl,q _ hn⟩) 0⟩
end
open Ord
section
variable {prog:Program} {w:World} {A:Around} {E:Value→Shared→Prop} {s:Shared}
theorem ZmW:typeLookup (.type "list_reverseiterator") (Str.ofString "__len__")=pure none:=by
 rw [typeLookup_type,builtinLookup_eq_fast]
 kernel_rfl
theorem rv_hint:typeLookup (.type "list_reverseiterator") (Str.ofString "__length_hint__")=pure (some (.builtin "list_reverseiterator.__length_hint__")):=by
 rw [typeLookup_type,builtinLookup_eq_fast]
 kernel_rfl
theorem rv_room {r p:Addr}{i:Int}{Q:Bool→Shared→Prop} (hit:s.heap.IsRevIter r p i) (q:Q false s):wpAny (model prog w) A (Builtin.List.listLengthHint (.ref r)) Q E s:=by
 unfold Builtin.List.listLengthHint;refine Xbl (wpAny_specialOf hit.typeIs ZmW ?_)
 show wpAny _ _ (specialOf (Value.ref r) (Str.ofString "__length_hint__") >>= _) _ _ _
 refine Xbl (wpAny_specialOf hit.typeIs rv_hint ?_)
 generalize hnm:("list_reverseiterator.__length_hint__" : String)=nm
 wp_delta
 rw [show splitId nm=some ("list_reverseiterator", "__length_hint__") from by subst hnm;decide +kernel]
 subst hnm
 refine Xbl (wpAny_isInstance (T := "list_reverseiterator") (b:=true) hit.typeIs (by rw [isSubtype_type];kernel_rfl) ?_)
 refine wpAny_ite_split (fun z=>absurd z (by decide)) fun _=>?_;refine wpAny_ite_split (fun _=>?_) fun z=>absurd (by decide +kernel) z;exact wpAny_ite_split (fun z=>absurd z (by decide +kernel)) fun _=>Xbm q
theorem rv_fill {R:Result→Shared→Prop}{r p:Addr}{xs:Array Value} (hh:A.handled=none) (hit:s.heap.IsRevIter r p ((xs.size:Int) - 1)) (hl:s.heap.IsList p xs) (hpr:p≠r) (hsz:xs.size≤sizeLine) (S:Addr) (hSr:S≠r) (hSp:S≠p) (c₀:Nat)
 (hS:s.heap.get? S=some { cls:=.type "list",data:=.seq #[] c₀ })
 (hR:∀ st ys c,Moved [S,r] (fun a b=>b=a) s st→st.heap.get? S=some { cls:=.type "list",dict:=none,data:=.seq ys c,slots:=#[] }→ItemsOf (fun i v=>xs[xs.size - 1 - i]?=some v) ys xs.size→R (.ok (.ret .none)) st) :
 wpAny (model prog w) A.in1 (Builtin.List.listExtendWith (.ref S) (.ref r) .none)
  (fun fin st=>match fin with | .done f=>R (.ok f) st | .again c'=>c'.quiet=true∧codeAny (model prog w) A c' R st) (fun e st=>R (.error e) st) s:=by
 have W:=(Walks.listRev (prog:=prog) (w:=w) (A:=A.in1) hh r p hpr xs).toS;unfold Builtin.List.listExtendWith;refine Xbl (Xbv hit.typeIs ?_)
 have n1:Builtin.List.listSameRef (.ref S) (.ref r)=false:=by simp [Builtin.List.listSameRef,hSr]
 have n2:(Value.type "list_reverseiterator" == Value.type "list")=false:=by decide
 have n3:(Value.type "list_reverseiterator" == Value.type "tuple")=false:=by decide
 simp only [n1,n2,n3,Bool.or_false,Xbi,if_false];refine Xbl (wpAny_pyIter_revIter hit ?_);refine Xbl (Xbn (rv_room hit ?_));refine wpAny_ite_split (fun z=>absurd z (by decide +kernel)) fun _=>?_;refine Xbm ⟨plainId_quiet PySem.F.plain_extend_loop _,?_⟩;refine codeAny_extend_loopS W hsz S (by simp [hSr,hSp]) _ xs.size 0 _ #[] c₀ rfl (Xa1 _) ⟨Xa1 _,by simpa using hit,hl⟩ hS (ItemsOf.nil _) fun st ys c hm hS' hacc=>?_;exact hR st ys c hm hS' hacc
theorem rv_init {R:Result→Shared→Prop}{r p:Addr}{xs:Array Value} (hh:A.handled=none) (hit:s.heap.IsRevIter r p ((xs.size:Int) - 1)) (hl:s.heap.IsList p xs) (hpr:p≠r) (hsz:xs.size≤sizeLine) (S:Addr) (hSr:S≠r) (hSp:S≠p)
 (hS:s.heap.get? S=some { cls:=.type "list",data:=.seq #[] })
 (hR:∀ st ys c,Moved [S,r] (fun a b=>b=a) s st→st.heap.get? S=some { cls:=.type "list",dict:=none,data:=.seq ys c,slots:=#[] }→ItemsOf (fun i v=>xs[xs.size - 1 - i]?=some v) ys xs.size→R (.ok (.ret .none)) st) :
 wpAny (model prog w) A.in1 (Builtin.«list.__init__» ⟨[.ref S,.ref r],[]⟩)
  (fun fin st=>match fin with | .done f=>R (.ok f) st | .again c'=>c'.quiet=true∧codeAny (model prog w) A c' R st) (fun e st=>R (.error e) st) s:=by
 show wpAny _ A.in1 (do
  let had ←Builtin.List.listItems (.ref S)
  Builtin.List.listUpdate (.ref S) (fun _=>#[])
  letGo had.toList.reverse
  Builtin.List.listExtendWith (.ref S) (.ref r) .none) _ _ s
 refine Xbl ?_;unfold Builtin.List.listItems;refine Xbl (Xbx hS rfl (Xbm ?_));show wpAny _ A.in1 (updateSeq S (fun _=>#[]) >>= fun _=>letGo (#[]:Array Value).toList.reverse >>= fun _=>_) _ _ s;refine Xbl (wpAny_updateSeq hS rfl ?_);have e2:=Heap.get?_update_self (Obj.mapSeq (fun _=>(#[]:Array Value))) hS rfl
 have oth:∀ b o,b≠S→s.heap.get? b=some o→(s.heap.update S (Obj.mapSeq (fun _=>(#[]:Array Value)))).get? b=some o:=fun b o hb e =>
  (Heap.get?_update_other _ _ (Ne.symm hb)).trans e
 refine Xbl (wpAny_letGo ?_);refine rv_fill hh (hit.at fun o e=>oth r o (Ne.symm hSr) e) (hl.at fun o e=>oth p o (Ne.symm hSp) e) hpr hsz S hSr hSp _ e2 fun st ys c hm h1 h2=>?_;refine hR st ys c ⟨fun b o hb e=>hm.heap b o hb (oth b o (fun z=>hb (by simp [z])) e),hm.gens,hm.drawn,hm.os,hm.toks⟩ h1 h2
theorem rv_list {Q:Value→Shared→Prop}{r p:Addr}{xs:Array Value} (hh:A.handled=none) (hit:s.heap.IsRevIter r p ((xs.size:Int) - 1)) (hl:s.heap.IsList p xs) (hpr:p≠r) (hsz:xs.size≤sizeLine)
 (hQ:∀ st ys c,Moved [s.heap.objs.size,r] (fun a b=>b=a) { s with heap:=s.heap.push { cls:=.type "list",data:=.seq #[] } } st→st.heap.get? s.heap.objs.size=some { cls:=.type "list",dict:=none,data:=.seq ys c,slots:=#[] }→ItemsOf (fun i v=>xs[xs.size - 1 - i]?=some v) ys xs.size→Q (.ref s.heap.objs.size) st) :
 wpAny (model prog w) A (call (.type "list") [.ref r]) Q E s:=by
 have hr:r<s.heap.objs.size:=by obtain ⟨o,ho,_⟩:=hit;exact Xbq ho
 have hp:p<s.heap.objs.size:=by obtain ⟨o,ho,_⟩:=hl;exact Xbq ho
 refine callType_codes (Q₁:=fun ob st=>ob=.ref s.heap.objs.size∧st={ s with heap:=s.heap.push { cls:=.type "list",data:=.seq #[] } }) PySem.F.called_list (PySem.F.typeCall_list_1 _) PySem.F.entry_list_init (code_list_new _ ⟨rfl,rfl⟩) fun ob st h1=>?_
 obtain ⟨rfl,rfl⟩:=h1
 have hS:(s.heap.push { cls:=.type "list",data:=.seq #[] }).get? s.heap.objs.size=some { cls:=.type "list",data:=.seq #[] }:=Xbr _ rfl
 refine ⟨⟨_,hS,rfl⟩,PySem.F.args_list_init_2 _ _,rv_init (A:=A.in1) hh (hit.at fun o e=>Xbp _ e) (hl.at fun o e=>Xbp _ e) hpr hsz _ (Nat.ne_of_gt hr) (Nat.ne_of_gt hp) hS fun st ys c hm h2 h3=>?_⟩;exact ⟨rfl,hQ st ys c hm h2 h3⟩
end
section
variable {X:Cx}
def RevO (X:Cx) (r p:Addr) (n:Nat):HO:=.ext fun h=>h.IsRevIter r p ((n:Int) - 1)∧X.s₀.heap.objs.size≤r
theorem ZmX:CallR X (.type "reversed") (fun xs H Q=>∃ p ys,xs=[.ref p]∧SqL X.K H p ys∧∀ r,H r=none→Q (.ref r) (upd H r (RevO X r p ys.length))):=by
 intro pins s σ H xs us Q I rs h;obtain ⟨p,ys,rfl,hq,q⟩:=h;obtain ⟨u,rfl,rx⟩:=Zdt rs;cases rx;obtain ⟨its,r',pl,hz⟩:=I.list hq;have hlen:=r'.length;refine call_reversed_list pl.isList ?_
 have e:((its.toArray.size:Nat):Int) - 1=(ys.length:Int) - 1:=by rw [Xak,hlen]
 rw [e];refine ⟨.ref _,_,I.laid (t':=s.toks) (fun b o e=>Xbp _ e) (XaW _) ?_,rfl,q _ (I.hok.fresh (XaW _))⟩;refine ⟨⟨⟨_,Xbr _ rfl,rfl,rfl⟩,I.sz⟩,⟨_,Xbr _ rfl⟩,fun h1 h2 a b=>⟨a.1.at b,a.2⟩⟩
theorem ZhE (hc:X.calm=true):CallR X (.type "list") (fun xs H Q=>∃ r p ys,xs=[.ref r]∧H r=some (RevO X r p ys.length)∧SqL X.K H p ys∧∀ l H',H l=none→(∀ b o,b≠r→H b=some o→H' b=some o)→H' l=some (.lst ys.reverse)→Q (.ref l) H'):=by
 intro pins s σ H xs us Q I rs h;obtain ⟨r,p,ys,rfl,hr,hq,q⟩:=h;obtain ⟨u,rfl,rx⟩:=Zdt rs;cases rx;obtain ⟨its,r',pl,hz⟩:=I.list hq;have hlen:=r'.length;obtain ⟨⟨hit,hsz⟩,_,_⟩:=I.hok r _ hr
 have hpr:p≠r:=fun z=>by
  obtain ⟨o,ho,hc,_⟩:=hit;obtain ⟨o2,ho2,hc2,_⟩:=pl.isList;rw [z,ho] at ho2;cases ho2;rw [hc] at hc2;exact absurd hc2 (by decide)
 have e:(ys.length:Int) - 1=((its.toArray.size:Nat):Int) - 1:=by rw [Xak,hlen]
 rw [e] at hit;have hfresh:=I.hok.fresh (XaW s.heap.objs.size);refine rv_list (I.ok.hd hc) hit pl.isList hpr (by rw [Xak,←hlen];exact hz) fun st ys' c hm h2 h3=>?_
 have k:∀ b o,b≠r→s.heap.get? b=some o→st.heap.get? b=some o:=fun b o hb e =>
  hm.heap b o (by simp only [Xam,List.not_mem_nil,or_false,not_or];exact ⟨XaZ (Xbq e),hb⟩) (Xbp _ e)
 have hv:Vals ys.reverse ys'.toList:=by
  have:ys'.toList=its.reverse:=by
   refine List.ext_getElem (by rw [Array.length_toList,List.length_reverse,h3.1,Xak]) fun i hi1 hi2=>?_;have a1:its.toArray[its.toArray.size - 1 - i]?=some ys'.toList[i]:=h3.2 i ys'.toList[i] (by rw [←Array.getElem?_toList];exact Xab hi1);rw [List.getElem?_toArray,Xak] at a1;have a2:its.reverse[i]?=its[its.length - 1 - i]?:=List.getElem?_reverse (by simpa using hi2);have a3:=Xab hi2;rw [a2,a1] at a3;exact Xbd a3
  rw [this];exact r'.reverse
 have hex:∃ H':Hp,H' s.heap.objs.size=some (.lst ys.reverse)∧(∀ b,b≠s.heap.objs.size→b≠r→H' b=H b)∧H' r=none:=by
  refine ⟨fun b=>if b=s.heap.objs.size then some (.lst ys.reverse) else if b=r then none else H b,Xbf rfl,fun b h1 h2=>?_,?_⟩
  · show (if b=s.heap.objs.size then _ else if b=r then none else H b)=_
    rw [Xbe h1,Xbe h2]
  · show (if r=s.heap.objs.size then _ else if r=r then none else H r)=_
    rw [Xbe (Zac hr hfresh),Xbf rfl]
 obtain ⟨H',e1,e3,e4⟩:=hex;have e2:∀ b o,b≠r→H b=some o→H' b=some o:=fun b o hb e=>(e3 b (Zac e hfresh) hb).trans e
 have hrt:∀ {o:HO},(∀ φ,o≠.ext φ)→∀ b,H b=some o→b≠r:=fun no b e z=>by
  rw [z,hr] at e;exact no _ (Xbd e).symm
 refine ⟨.ref s.heap.objs.size,H',I.call' (ch:=[r]) hm.os ?_ ?_ ?_ ?_,rfl,q _ H' hfresh e2 e1⟩
 · refine ⟨fun b o e n _ hx=>k b o (fun z=>hx (by simp [z])) e,fun b o e n _ hx=>⟨o.slots,k b o (fun z=>hx (by simp [z])) e⟩,fun b o e n hx=>?_,fun b o e hx=>⟨o,k b o (fun z=>hx (by simp [z])) e⟩,fun b xs e=>e2 b _ (hrt (fun φ=>by simp) b e) e,fun b o u e=>e2 b _ (hrt (fun φ=>by simp) b e) e,fun b ps e=>⟨#[],by simpa using e2 b _ (hrt (fun φ=>by simp) b e) e⟩⟩
   rw [e3 b (XaZ (Xbq e)) fun z=>hx (by simp [z])];exact n
 · intro b o eb
   by_cases hb:b=s.heap.objs.size
   · subst hb
     rw [e1] at eb;cases eb;refine ⟨by rw [List.length_reverse];exact hz,ys'.toList,c,hv,?_⟩
     simpa using h2
   · by_cases hbr:b=r
     · subst hbr
       rw [e4] at eb;cases eb
     · rw [e3 b hb hbr] at eb
       refine (I.hok b o eb).stay (fun d u hd e=>k d u ?_ e) (fun d e=>e2 d _ (hrt (fun φ=>by simp) d e) e) fun d xs e=>e2 d _ (hrt (fun φ=>by simp) d e) e
       rcases hd with rfl | hd
       · exact hbr
       · exact hrt (fun φ=>by simp) d hd
 · rw [hm.gens]
   exact I.bare
 · intro b hb
   simp only [Xam,List.not_mem_nil,or_false] at hb;subst hb;refine ⟨.inr hsz,Zac hr I.free,fun x c hx z=>?_,fun p hp z=>?_⟩
   · have:=I.freeC x c hx
     rw [z,hr] at this;cases this
   · have:=(I.pin p hp).2.1
     rw [z,hr] at this;cases this
end
end L2
namespace TreeM
theorem ZhF {β:Type}{P:List β→Prop} (nil:P []) (snoc:∀ l x,P l→P (l++[x])) (l:List β):P l:=by
 have:∀ l:List β,P l.reverse:=fun l=>by
  induction l with
  | nil=>exact nil
  | cons x l ih=>rw [List.reverse_cons];exact snoc _ _ ih
 rw [←List.reverse_reverse l];exact this _
variable {α:Type} [DecidableEq α]
abbrev Ws (α:Type):=List (Nat×List α)
def nxt (p:List α) (w:List α):Option α:=if p <+: w then w[p.length]? else none
def keysAt (ws:Ws α) (p:List α):List (α×Nat):=ws.foldl (fun ks kw=>match nxt p kw.2 with
 | some m=>if m∈ks.map (·.1) then ks else ks++[(m,kw.1)]
 | none=>ks) []
theorem Zbo (ws:Ws α) (k:Nat) (w p:List α):keysAt (ws++[(k,w)]) p=match nxt p w with
 | some m=>if m∈(keysAt ws p).map (·.1) then keysAt ws p else keysAt ws p++[(m,k)]
 | none=>keysAt ws p:=by
 unfold keysAt;rw [XaT];rfl
theorem nxt_end (p:List α):nxt p p=none:=by
 unfold nxt;rw [Xbf (List.prefix_refl p)];exact XaJ (XaW _)
theorem ZhG (p:List α) (m:α):nxt p (p++[m])=some m:=by
 unfold nxt;rw [Xbf (XaQ p [m]),Xay (XaW _),Nat.sub_self];rfl
theorem ZmY {p q:List α}{m:α} (h:p≠q):nxt p (q++[m])=nxt p q:=by
 unfold nxt
 by_cases a:p <+: q
 · rw [Xbf a,Xbf (a.trans (XaQ q [m]))]
   have l:p.length<q.length:=by
    rcases Nat.lt_or_ge p.length q.length with x | x
    · exact x
    · exact absurd (a.eq_of_length_le x) h
   exact Xat l
 · rw [Xbe a]
   by_cases b:p <+: q++[m]
   · rw [Xbf b]
     rcases List.prefix_concat_iff.mp b with e | e
     · rw [e];exact XaJ (XaW _)
     · exact absurd e a
   · rw [Xbe b]
theorem Zjs (ws:Ws α) (k:Nat) (p:List α):keysAt (ws++[(k,[])]) p=keysAt ws p:=by
 rw [Zbo]
 have:nxt p ([]:List α)=none:=by
  unfold nxt
  by_cases a:p <+: []
  · rw [Xbf a];rfl
  · rw [Xbe a]
 rw [this]
theorem Zem {ws:Ws α}{k:Nat}{q p:List α}{m:α} (h:p≠q):keysAt (ws++[(k,q++[m])]) p=keysAt (ws++[(k,q)]) p:=by
 rw [Zbo,Zbo,ZmY h]
theorem Zdo (ws:Ws α) (k:Nat) (q:List α) (m:α):keysAt (ws++[(k,q++[m])]) q =
 if m∈(keysAt (ws++[(k,q)]) q).map (·.1) then keysAt (ws++[(k,q)]) q else keysAt (ws++[(k,q)]) q++[(m,k)]:=by
 rw [Zbo,Zbo,ZhG,nxt_end]
theorem nxt_some {p w:List α}{m:α}:nxt p w=some m↔p++[m] <+: w:=by
 unfold nxt
 by_cases a:p <+: w
 · rw [Xbf a]
   obtain ⟨t,rfl⟩:=a;rw [Xay (XaW _),Nat.sub_self]
   cases t with
   | nil =>
     refine ⟨fun e=>(nomatch e),fun e=>?_⟩
     have:=e.length_le
     rw [XaH,Xac] at this;exact absurd this (by show ¬p.length+1≤p.length;omega)
   | cons x t =>
     refine ⟨fun e=>?_,fun e=>?_⟩
     · cases e;exact ⟨t,by simp⟩
     · obtain ⟨u,e⟩:=e
       rw [XaE] at e
       have:=List.append_cancel_left e
       simp at this;rw [this.1];rfl
 · rw [Xbe a]
   exact ⟨fun e=>(nomatch e),fun e=>absurd ((XaQ p [m]).trans e) a⟩
theorem keysAt_mem {ws:Ws α}{p:List α}{m:α}:m∈(keysAt ws p).map (·.1)↔∃ kw∈ws,p++[m] <+: kw.2:=by
 induction ws using ZhF with
 | nil=>exact ⟨fun h=>(nomatch h),fun ⟨_,h,_⟩=>(nomatch h)⟩
 | snoc ws kw ih =>
   obtain ⟨k,w⟩:=kw;rw [Zbo]
   have both:(∃ kw∈ws++[(k,w)],p++[m] <+: kw.2)↔(∃ kw∈ws,p++[m] <+: kw.2)∨p++[m] <+: w:=by
    constructor
    · rintro ⟨x,hx,e⟩
      rcases Xaf.mp hx with y | y
      · exact .inl ⟨x,y,e⟩
      · rw [Xaj.mp y] at e;exact .inr e
    · rintro (⟨x,hx,e⟩ | e)
      · exact ⟨x,XaA _ hx,e⟩
      · exact ⟨_,Xan _ (Xaj.mpr rfl),e⟩
   rw [both,←ih,←nxt_some]
   cases hx:nxt p w with
   | none=>exact ⟨.inl,fun z=>z.elim id fun e=>(nomatch e)⟩
   | some x =>
     dsimp only
     by_cases d:x∈(keysAt ws p).map (·.1)
     · rw [Xbf d]
       exact ⟨.inl,fun z=>z.elim id fun e=>by cases e;exact d⟩
     · rw [Xbe d,Xad,Xaf]
       refine or_congr Iff.rfl ?_;simp [eq_comm]
theorem Zfq {ws:Ws α}{p:List α}{m:α}{k:Nat} (hs:(ws.map (·.1)).Pairwise (· < ·)) (h:(m,k)∈keysAt ws p):(∃ w,(k,w)∈ws∧p++[m] <+: w)∧∀ j w,(j,w)∈ws→p++[m] <+: w→k≤j:=by
 induction ws using ZhF with
 | nil=>cases h
 | snoc ws kw ih =>
   obtain ⟨n,v⟩:=kw;rw [Xad,List.pairwise_append] at hs;obtain ⟨h1,-,h3⟩:=hs;have low:∀ j w,(j,w)∈ws→j<n:=fun j w hj=>h3 j (Xai.mpr ⟨_,hj,rfl⟩) n (Xaj.mpr rfl);rw [Zbo] at h
   have old:(m,k)∈keysAt ws p→(∃ w,(k,w)∈ws++[(n,v)]∧p++[m] <+: w)∧∀ j w,(j,w)∈ws++[(n,v)]→p++[m] <+: w→k≤j:=fun hm=>by
    obtain ⟨⟨w,a,b⟩,c⟩:=ih h1 hm;refine ⟨⟨w,XaA _ a,b⟩,fun j u hj hp=>?_⟩
    rcases Xaf.mp hj with y | y
    · exact c j u y hp
    · cases Xaj.mp y;exact XaY (low _ _ a)
   cases hx:nxt p v with
   | none=>rw [hx] at h;exact old h
   | some x =>
     rw [hx] at h;dsimp only at h
     by_cases d:x∈(keysAt ws p).map (·.1)
     · rw [Xbf d] at h;exact old h
     · rw [Xbe d] at h
       rcases Xaf.mp h with y | y
       · exact old y
       · cases Xaj.mp y
         refine ⟨⟨v,Xan _ (Xaj.mpr rfl),nxt_some.mp hx⟩,fun j u hj hp=>?_⟩
         rcases Xaf.mp hj with y | y
         · exact absurd (keysAt_mem.mpr ⟨_,y,hp⟩) d
         · cases Xaj.mp y;exact XaW _
section
variable (bet:α→α→Bool)
def hid:List α→List α→Bool
 | x :: s,m :: t=>if x=m then hid s t else bet x m
 | _,_=>false
def gat (ws:Ws α):List α→List α→List Nat
 | _,[]=>[]
 | a,m :: t=>((keysAt ws a).filter fun xk=>bet xk.1 m).map (·.2)++gat ws (a++[m]) t
end
variable {bet:α→α→Bool}
theorem hid_at {a b:List α}{x m:α}{t:List α} (h:a++[x] <+: b) (hx:x≠m):hid bet b (a++m :: t)=bet x m:=by
 obtain ⟨u,rfl⟩:=h
 induction a with
 | nil=>show (if x=m then _ else bet x m)=_;rw [Xbe hx]
 | cons y a ih=>show (if y=y then _ else _)=_;rw [Xbf rfl];exact ih
theorem Zf7 {ws:Ws α} (hs:(ws.map (·.1)).Pairwise (· < ·)) (irr:∀ m,bet m m=false):∀ (b a:List α) (k:Nat),k∈gat bet ws a b→∃ w,(k,w)∈ws∧hid bet w (a++b)=true
 | [],_,_,h=>nomatch h
 | m :: t, a, k, h => by
   rcases Xaf.mp h with y | y
   · obtain ⟨⟨x,j⟩,z,rfl⟩:=Xai.mp y
     obtain ⟨z1,z2⟩:=XaK.mp z;obtain ⟨⟨w,q1,q2⟩,-⟩:=Zfq hs z1;refine ⟨w,q1,?_⟩;rw [hid_at q2 (fun e=>?_)]
     · exact z2
     · rw [e,irr] at z2;cases z2
   · obtain ⟨w,q1,q2⟩:=Zf7 hs irr t (a++[m]) k y
     refine ⟨w,q1,?_⟩;rw [XaE] at q2;exact q2
theorem ZiK:∀ {b w:List α},hid bet w b=true→∃ a x m t,b=a++m :: t∧a++[x] <+: w∧x≠m∧bet x m=true
 | m :: t, x :: s, h => by
   by_cases e:x=m
   · subst e
     have h':hid bet s t=true:=by simpa [hid] using h
     obtain ⟨a,y,n,u,rfl,q2,q3,q4⟩:=ZiK h';exact ⟨x :: a,y,n,u,rfl,List.cons_prefix_cons.mpr ⟨rfl,q2⟩,q3,q4⟩
   · have h':bet x m=true:=by simpa [hid,e] using h
     exact ⟨[],x,m,t,rfl,List.cons_prefix_cons.mpr ⟨rfl,List.nil_prefix⟩,e,h'⟩
 | [],[],h=>nomatch h
 | [],_ :: _,h=>nomatch h
 | _ :: _,[],h=>nomatch h
theorem ZlU {ws:Ws α}:∀ {a b c:List α}{m x:α}{t:List α}{k:Nat},(x,k)∈keysAt ws (c++a)→bet x m=true→b=a++m :: t→k∈gat bet ws c b
 | [],b,c,m,x,t,k,h1,h2,h3=>by
   subst h3;rw [XaH] at h1;exact XaA _ (Xai.mpr ⟨_,XaK.mpr ⟨h1,h2⟩,rfl⟩)
 | y :: a,b,c,m,x,t,k,h1,h2,h3=>by
   subst h3;refine Xan _ (ZlU (a:=a) (m:=m) (x:=x) (t:=t) ?_ h2 rfl);rw [XaE];exact h1
theorem ZiL {ws:Ws α} (hs:(ws.map (·.1)).Pairwise (· < ·)) {b w:List α} {j:Nat} (h:(j,w)∈ws) (hh:hid bet w b=true):∃ k∈gat bet ws [] b,k≤j:=by
 obtain ⟨a,x,m,t,e,q2,-,q4⟩:=ZiK hh;obtain ⟨⟨y,k⟩,z1,z2⟩:=Xai.mp (keysAt_mem.mpr ⟨_,h,q2⟩);dsimp only at z2;subst z2;exact ⟨k,ZlU (a:=a) (c:=[]) z1 q4 e,(Zfq hs z1).2 j w h q2⟩
end TreeM
namespace L2
open PySem PySem.Spec PyProof.Rows Ord TreeM
theorem hu2_of {A:Around}{k:Nat} (hr:Room k A):A.units+2<cLine:=Nat.lt_of_le_of_lt (Nat.add_le_add_left (by decide:2≤64) _) hr.units
abbrev Zd4 (m:Mrk):List Key:=[.inl m.1,.inr m.2.1,.inl m.2.2]
theorem ZlV {a b:Mrk} (h:Zd4 a=Zd4 b):a=b:=by
 obtain ⟨a1,a2,a3⟩:=a;obtain ⟨b1,b2,b3⟩:=b;simp only [Zd4,List.cons.injEq,Sum.inl.injEq,Sum.inr.injEq,and_true] at h;rw [h.1,h.2.1,h.2.2]
def Za5 (ws:Ws Mrk) (c:List Mrk→Mrk→Addr) (p:List Mrk):List (List Key×V):=(keysAt ws p).map fun mk=>(Zd4 mk.1,V.ref (c p mk.1))
theorem ZiM {c:Mrk→Addr}{m:Mrk}:∀ {ks:List (Mrk×Nat)},valV (ks.map fun mk=>(Zd4 mk.1,V.ref (c mk.1))) (Zd4 m)=if m∈ks.map (·.1) then some (.ref (c m)) else none
 | []=>rfl
 | (x,k) :: ks=>by
   rw [Xao]
   by_cases h:x=m
   · subst h
     rw [Zbr rfl,Xbf (by simp)]
   · rw [Zbs (fun z=>h (ZlV z)),ZiM]
     have:(m∈List.map (·.1) ((x,k) :: ks))↔m∈ks.map (·.1):=by
      rw [Xao,Xam];exact ⟨fun z=>z.elim (fun e=>absurd e.symm h) id,.inr⟩
     by_cases h2:m∈ks.map (·.1)
     · rw [Xbf h2,Xbf (this.mpr h2)]
     · rw [Xbe h2,Xbe (fun z=>h2 (this.mp z))]
theorem Zcv {ws:Ws Mrk}{c:List Mrk→Mrk→Addr}{p:List Mrk}{m:Mrk}:valV (Za5 ws c p) (Zd4 m)=if m∈(keysAt ws p).map (·.1) then some (.ref (c p m)) else none:=ZiM (c:=c p)
def InT (ws:Ws Mrk) (p:List Mrk):Prop:=p=[]∨∃ kw∈ws,p <+: kw.2
theorem Zki {ws:Ws Mrk}{p:List Mrk} (h:¬InT ws p):keysAt ws p=[]:=by
 cases e:keysAt ws p with
 | nil=>rfl
 | cons x l =>
   exfalso;obtain ⟨kw,h1,h2⟩:=keysAt_mem.mp (show x.1∈(keysAt ws p).map (·.1) by rw [e];simp);exact h (.inr ⟨kw,h1,(XaQ p _).trans h2⟩)
theorem in_key {ws:Ws Mrk}{p:List Mrk}{m:Mrk}:InT ws (p++[m])↔m∈(keysAt ws p).map (·.1):=by
 rw [keysAt_mem];exact ⟨fun h=>h.elim (fun e=>absurd e (by simp)) id,.inr⟩
structure TreeP (φ:Hp→Addr→List (List Key×V)→Prop) (H:Hp) (ws:Ws Mrk) (d:List Mrk→Addr) (c:List Mrk→Mrk→Addr):Prop where
 dct:∀ p,InT ws p→φ H (d p) (Za5 ws c p)
 tup:∀ p m k,(m,k)∈keysAt ws p→H (c p m)=some (.tup [.int (k:Int),.ref (d (p++[m]))])
 inj:∀ p q,InT ws p→InT ws q→d p=d q→p=q
abbrev dW:Hp→Addr→List (List Key×V)→Prop:=fun H a kvs=>H a=some (.dT kvs)
abbrev dF:Hp→Addr→List (List Key×V)→Prop:=fun H a kvs=>∃ o,H a=some (.frz o (.dT kvs))
theorem TreeP.same {H H':Hp}{ws:Ws Mrk}{d:List Mrk→Addr}{c:List Mrk→Mrk→Addr} (e:Same H H') (h:TreeP dF H ws d c):TreeP dF H' ws d c :=
 ⟨fun p hp=>let ⟨o,x⟩:=h.dct p hp;⟨o,e _ _ x⟩,fun p m k hm=>e _ _ (h.tup p m k hm),h.inj⟩
theorem TreeP.sameW {H H':Hp}{ws:Ws Mrk}{d:List Mrk→Addr}{c:List Mrk→Mrk→Addr} (e:Same H H') (h:TreeP dW H ws d c):TreeP dW H' ws d c :=
 ⟨fun p hp=>e _ _ (h.dct p hp),fun p m k hm=>e _ _ (h.tup p m k hm),h.inj⟩
theorem Zdg {ws:Ws Mrk}{n:Nat}{g:List Mrk}{m:Mrk} (hm:m∈(keysAt (ws++[(n,g)]) g).map (·.1)) {p:List Mrk}:InT (ws++[(n,g++[m])]) p↔InT (ws++[(n,g)]) p:=by
 constructor
 · rintro (h | ⟨kw,h1,h2⟩)
   · exact .inl h
   · rcases Xaf.mp h1 with y | y
     · exact .inr ⟨kw,XaA _ y,h2⟩
     · rw [Xaj.mp y] at h2
       rcases List.prefix_concat_iff.mp h2 with e | e
       · rw [e];exact in_key.mpr hm
       · exact .inr ⟨_,Xan _ (Xaj.mpr rfl),e⟩
 · rintro (h | ⟨kw,h1,h2⟩)
   · exact .inl h
   · rcases Xaf.mp h1 with y | y
     · exact .inr ⟨kw,XaA _ y,h2⟩
     · rw [Xaj.mp y] at h2
       exact .inr ⟨_,Xan _ (Xaj.mpr rfl),h2.trans (XaQ g [m])⟩
theorem TreeP.stay {φ:Hp→Addr→List (List Key×V)→Prop} {H:Hp} {ws:Ws Mrk} {n:Nat} {g:List Mrk} {m:Mrk} {d:List Mrk→Addr} {c:List Mrk→Mrk→Addr} (h:TreeP φ H (ws++[(n,g)]) d c) (hm:m∈(keysAt (ws++[(n,g)]) g).map (·.1)):TreeP φ H (ws++[(n,g++[m])]) d c:=by
 have ke:∀ p,keysAt (ws++[(n,g++[m])]) p=keysAt (ws++[(n,g)]) p:=fun p=>by
  by_cases e:p=g
  · subst e;rw [Zdo,Xbf hm]
  · exact Zem e
 refine ⟨fun p hp=>?_,fun p x k hx=>h.tup p x k (by rw [←ke];exact hx),fun p q hp hq=>h.inj p q ((Zdg hm).mp hp) ((Zdg hm).mp hq)⟩
 have:=h.dct p ((Zdg hm).mp hp)
 unfold Za5 at this ⊢;rw [ke];exact this
theorem ZmZ {kvs:List (List Key×V)} {k:List Key} {v:V} (h:valV kvs k=none):putK kvs k v=kvs++[(k,v)]:=by
 unfold putK;rw [Xbe (by rw [ZdS,h];simp)]
theorem TreeP.grow {H0 H H' : Hp} {ws : Ws Mrk} {n : Nat} {g : List Mrk} {m : Mrk} {d : List Mrk → Addr} {c : List Mrk → Mrk → Addr} {e T : Addr} (h : TreeP dW H (ws ++ [(n, g)]) d c) (hm : m ∉ (keysAt (ws ++ [(n, g)]) g).map (·.1))
 (he:H e=none) (hn:∀ p,InT (ws++[(n,g)]) p→H0 (d p)=none) (he0:H0 e=none) (s:Same H H') (e1:H' e=some (.dT [])) (e2:H' T=some (.tup [.int (n:Int),.ref e])) :
 ∃ d' c',TreeP dW (upd H' (d g) (.dT (putK (Za5 (ws++[(n,g)]) c g) (Zd4 m) (.ref T)))) (ws++[(n,g++[m])]) d' c'∧d' (g++[m])=e∧(∀ p,InT (ws++[(n,g++[m])]) p→H0 (d' p)=none)∧d' []=d []:=by
 have ing:InT (ws++[(n,g)]) g:=.inr ⟨_,Xan _ (Xaj.mpr rfl),List.prefix_refl g⟩
 have hv:valV (Za5 (ws++[(n,g)]) c g) (Zd4 m)=none:=by rw [Zcv,Xbe hm]
 have inI : ∀ {p}, InT (ws ++ [(n, g ++ [m])]) p → p = g ++ [m] ∨ p ≠ g ++ [m] ∧ InT (ws ++ [(n, g)]) p := fun {p} hp => by
  by_cases e:p=g++[m]
  · exact .inl e
  · refine .inr ⟨e,?_⟩
    rcases hp with z | ⟨kw,h1,h2⟩
    · exact .inl z
    · rcases Xaf.mp h1 with y | y
      · exact .inr ⟨kw,XaA _ y,h2⟩
      · rw [Xaj.mp y] at h2
        rcases List.prefix_concat_iff.mp h2 with z | z
        · exact absurd z e
        · exact .inr ⟨_,Xan _ (Xaj.mpr rfl),z⟩
 have ned:∀ p,InT (ws++[(n,g)]) p→d p≠e:=fun p hp z=>by have this:H (d p)=some _:=h.dct p hp;rw [z,he] at this;cases this
 have neT:T≠d g:=fun z=>by
  have:=s _ _ (h.dct g ing)
  rw [←z,e2] at this;cases this
 have nm:¬InT (ws++[(n,g)]) (g++[m]):=fun z=>hm (in_key.mp z)
 have k0:keysAt (ws++[(n,g++[m])]) (g++[m])=[]:=by
  rw [Zem (by simp)];exact Zki nm
 have kg:∀ p,p≠g→keysAt (ws++[(n,g++[m])]) p=keysAt (ws++[(n,g)]) p:=fun p hp=>Zem hp
 have kself:keysAt (ws++[(n,g++[m])]) g=keysAt (ws++[(n,g)]) g++[(m,n)]:=by rw [Zdo,Xbe hm]
 refine ⟨fun p=>if p=g++[m] then e else d p,fun p x=>if p=g∧x=m then T else c p x,⟨fun p hp=>?_,fun p x k hx=>?_,fun p q hp hq hpq=>?_⟩,Xbf rfl,fun p hp=>?_,Xbe (by simp)⟩
 · show upd _ _ _ (if p = g ++ [m] then e else d p) = some _
   rcases inI hp with z | ⟨z,zi⟩
   · subst z
     rw [Xbf rfl,Zah (Ne.symm (ned g ing)),e1];unfold Za5;rw [k0];rfl
   · rw [Xbe z]
     by_cases pg:p=g
     · subst pg
       rw [upd_same,ZmZ hv];unfold Za5;rw [kself,Xad]
       have:∀ l:List (Mrk×Nat),m ∉ l.map (·.1)→(l.map fun mk=>(Zd4 mk.1,V.ref (c p mk.1)))=l.map fun mk=>(Zd4 mk.1,V.ref (if p=p∧mk.1=m then T else c p mk.1)):=fun l hl=>List.map_congr_left fun mk hmk=>by
        rw [Xbe (fun z=>hl (Xai.mpr ⟨mk,hmk,z.2⟩))]
       rw [this _ hm,Xao,XaO];dsimp only;rw [Xbf ⟨rfl,rfl⟩]
     · rw [Zah (fun z2=>pg (h.inj p g zi ing z2))]
       have:=s _ _ (h.dct p zi)
       unfold Za5 at this ⊢;rw [kg p pg,this]
       congr 2
       exact List.map_congr_left fun mk _=>by
        show _=(Zd4 mk.1,V.ref (if p=g∧mk.1=m then T else c p mk.1));rw [Xbe (fun z=>pg z.1)]
 · show upd _ _ _ (if p=g∧x=m then T else c p x)=some (.tup [_,.ref (if p++[x]=g++[m] then e else d (p++[x]))])
   by_cases pg:p=g
   · subst pg
     rw [kself] at hx
     by_cases xm:x=m
     · subst xm
       rw [Xbf ⟨rfl,rfl⟩,Xbf rfl,Zah neT,e2]
       rcases Xaf.mp hx with y | y
       · exact absurd (Xai.mpr ⟨_,y,rfl⟩) hm
       · cases Xaj.mp y;rfl
     · rcases Xaf.mp hx with y | y
       · rw [Xbe (fun z=>xm z.2),Xbe (fun z=>xm (by simpa using z))]
         have t:=h.tup p x k y;rw [Zah (fun z=>by have this:H (d p)=some _:=h.dct p ing;rw [←z,t] at this;cases this)];exact s _ _ t
       · cases Xaj.mp y;exact absurd rfl xm
   · rw [kg p pg] at hx
     rw [Xbe (fun z=>pg z.1),Xbe (show ¬(p++[x]=g++[m]) from fun z=>pg (List.append_inj_left' z rfl))];have t:=h.tup p x k hx;rw [Zah (fun z=>by have this:H (d g)=some _:=h.dct g ing;rw [←z,t] at this;cases this)];exact s _ _ t
 · have hpq':(if p=g++[m] then e else d p)=(if q=g++[m] then e else d q):=hpq
   rcases inI hp with z | ⟨z,zi⟩ <;> rcases inI hq with y | ⟨y,yi⟩
   · rw [z,y]
   · rw [Xbf z,Xbe y] at hpq';exact absurd hpq'.symm (ned q yi)
   · rw [Xbe z,Xbf y] at hpq';exact absurd hpq' (ned p zi)
   · rw [Xbe z,Xbe y] at hpq';exact h.inj p q zi yi hpq'
 · show H0 (if p=g++[m] then e else d p)=none
   rcases inI hp with z | ⟨z,zi⟩
   · rw [Xbf z];exact he0
   · rw [Xbe z];exact hn p zi
theorem ZiN (ws:Ws Mrk) (n:Nat) (p:List Mrk):keysAt (ws++[(n,[])]) p=keysAt ws p:=Zjs ws n p
theorem TreeP.begin {φ:Hp→Addr→List (List Key×V)→Prop} {H:Hp} {ws:Ws Mrk} {n:Nat} {d:List Mrk→Addr} {c:List Mrk→Mrk→Addr} (h:TreeP φ H ws d c):TreeP φ H (ws++[(n,[])]) d c:=by
 have i : ∀ {p}, InT (ws ++ [(n, [])]) p → InT ws p := fun {p} hp => by
  rcases hp with z | ⟨kw,h1,h2⟩
  · exact .inl z
  · rcases Xaf.mp h1 with y | y
    · exact .inr ⟨kw,y,h2⟩
    · rw [Xaj.mp y] at h2
      exact .inl (List.prefix_nil.mp h2)
 refine ⟨fun p hp=>?_,fun p m k hm=>h.tup p m k (by rw [←ZiN];exact hm),fun p q hp hq=>h.inj p q (i hp) (i hq)⟩
 have:=h.dct p (i hp)
 unfold Za5 at this ⊢;rw [ZiN];exact this
theorem TreeP.frz {H H1 H2:Hp}{ws:Ws Mrk}{d:List Mrk→Addr}{c:List Mrk→Mrk→Addr} (h:TreeP dW H1 ws d c) (hn:∀ p,InT ws p→H (d p)=none) (f:Frz H H1 H2) (f2:∀ b kvs,H b=none→H1 b=some (.dT kvs)→∃ o,H2 b=some (.frz o (.dT kvs))):TreeP dF H2 ws d c:=by
 refine ⟨fun p hp=>f2 _ _ (hn p hp) (h.dct p hp),fun p m k hm=>?_,h.inj⟩;have t:=h.tup p m k hm
 rcases f (c p m) with z | ⟨_,kvs,o,z,_⟩
 · rw [z];exact t
 · rw [t] at z;cases z
theorem Frz.same {H H1 H2:Hp} (s:Same H H1) (f:Frz H H1 H2):Same H H2:=fun b o e=>by
 rcases f b with z | ⟨z,_⟩
 · rw [z];exact s _ _ e
 · rw [e] at z;cases z
theorem Ze8 (ws:Ws Mrk) (p:List Mrk):(keysAt ws p).length≤ws.length:=by
 induction ws using ZhF with
 | nil=>exact XaW _
 | snoc ws kw ih =>
   obtain ⟨k,w⟩:=kw;rw [Zbo,Xac]
   split
   · split
     · omega
     · rw [Xac];simp;exact ih
   · omega
abbrev keyP (p:Str×Str):List Key:=[.inr p.1,.inr p.2]
theorem PrsAt.tups {H H':Hp} (e:∀ b xs,H b=some (.tup xs)→H' b=some (.tup xs)):∀ {xs:List V} {ps:List (List Key×V)},PrsAt H xs ps→PrsAt H' xs ps:=fun h =>
 Paired.mapP h fun _ _ ⟨t,b,h1,h2,h3⟩=>⟨t,b,h1,e _ _ h2,e _ _ h3⟩
theorem Zha {k:List Key}:∀ {ps acc:List (List Key×V)},(valV (Zfp acc ps) k).isSome=true↔(valV acc k).isSome=true∨k∈ps.map (·.1)
 | [],acc=>by simp [Zfp]
 | p :: ps,acc=>by
   show (valV (Zfp (putK acc p.1 p.2) ps) k).isSome=true↔_;rw [Zha,Zmr,Xao,Xam]
   by_cases h:k=p.1
   · rw [Xbf h];simp [h]
   · rw [Xbe h];simp [h]
def BetD (H:Hp) (p:Addr) (ord:List (Str×Str)):Prop:=∃ kvs,H p=some (.dT kvs)∧∀ a b,(valV kvs (keyP (a,b))).isSome=dec ((a,b)∈ord)
theorem BetD.same {H H':Hp}{p:Addr}{ord:List (Str×Str)} (e:Same H H') (h:BetD H p ord):BetD H' p ord:=let ⟨k,a,b⟩:=h;⟨k,e _ _ a,b⟩
theorem Zm0 {ord:List (Str×Str)} (a b:Str):(valV (Zfp [] (ord.map fun p=>(keyP p,V.bl true))) (keyP (a,b))).isSome=dec ((a,b)∈ord):=by
 have : (valV (Zfp [] (ord.map fun p => (keyP p, V.bl true))) (keyP (a, b))).isSome = true ↔ (a, b) ∈ ord := by
  rw [Zha]
  constructor
  · rintro (h | h)
    · simp [valV] at h
    · rw [Xax] at h
      obtain ⟨q,hq,e⟩:=Xai.mp h;obtain ⟨q1,q2⟩:=q;simp at e;rw [←e.1,←e.2];exact hq
  · intro h
    refine .inr ?_;rw [Xax];exact Xai.mpr ⟨_,h,rfl⟩
 by_cases h:(a,b)∈ord
 · rw [ZaH h];exact this.mpr h
 · rw [ZaP h]
   cases e:(valV (Zfp [] (ord.map fun p=>(keyP p,V.bl true))) (keyP (a,b))).isSome with
   | false=>rfl
   | true=>exact absurd (this.mp e) h
def numW (l:List (List Mrk)):Ws Mrk:=l.zipIdx.map fun p=>(p.2,p.1)
theorem ZlW (l:List (List Mrk)) (w:List Mrk):numW (l++[w])=numW l++[(l.length,w)]:=by
 unfold numW;rw [List.zipIdx_append,Xad]
 simp
theorem ZlX {l:List (List Mrk)} {i:Nat} {w:List Mrk} (h:l[i]?=some w):numW (l.take (i+1))=numW (l.take i)++[(i,w)]:=by
 have hi:=(Xae.mp h).1;rw [Xar,h];show numW (l.take i++[w])=_;rw [ZlW,Xaw,Nat.min_eq_left (XaY hi)]
theorem ZfL (l:List (List Mrk)):((numW l).map (·.1)).Pairwise (· < ·):=by
 have:(numW l).map (·.1)=List.range l.length:=by
  unfold numW;rw [Xax,List.range_eq_range'];exact List.zipIdx_map_snd 0 l
 rw [this];exact List.pairwise_lt_range
theorem numW_mem {l:List (List Mrk)} {k:Nat} {w:List Mrk}:(k,w)∈numW l↔l[k]?=some w:=by
 unfold numW;rw [Xai]
 constructor
 · rintro ⟨⟨a,b⟩,h,e⟩
   cases e;exact List.mem_zipIdx_iff_getElem?.mp h
 · intro h
   exact ⟨(w,k),List.mem_zipIdx_iff_getElem?.mpr h,rfl⟩
noncomputable def betM (ss:List Sco) (ord:List (Str×Str)) (x m:Mrk):Bool:=dec ((Zcg ss x,Zcg ss m)∈ord)
theorem Zkj {ss:List Sco}{ord:List (Str×Str)} (h:∀ x,(x,x) ∉ ord) (m:Mrk):betM ss ord m m=false:=ZaP (h _)
theorem Zdy (ss:List Sco) (ord:List (Str×Str)):∀ (a b:List Mrk),hid (betM ss ord) a b=ZaO ss ord a b
 | x :: s,m :: t=>by
   show (if x=m then _ else betM ss ord x m)=_
   by_cases e:x=m
   · subst e;rw [Xbf rfl,Zct];exact Zdy ss ord s t
   · rw [Xbe e,Zcu ss ord s t e];rfl
 | [],m=>by rw [ZbP ss ord (.inl rfl)];rfl
 | _ :: _,[]=>by rw [ZbP ss ord (.inr rfl)];rfl
theorem ZlY {ss:List Sco}{ord:List (Str×Str)} (h:∀ x,(x,x) ∉ ord) {l:List (List Mrk)} {w:List Mrk}:gat (betM ss ord) (numW l) [] w=[]↔∀ v∈l,ZaO ss ord v w=false:=by
 constructor
 · intro e v hv
   obtain ⟨k,hk⟩:=List.mem_iff_getElem?.mp hv
   cases hh:ZaO ss ord v w with
   | false=>rfl
   | true =>
     obtain ⟨j,hj,_⟩:=ZiL (ZfL l) (numW_mem.mpr hk) (by rw [Zdy];exact hh);rw [e] at hj;cases hj
 · intro hall
   cases e:gat (betM ss ord) (numW l) [] w with
   | nil=>rfl
   | cons k ks =>
     exfalso;obtain ⟨v,hv,hh⟩:=Zf7 (ZfL l) (Zkj h) w [] k (by rw [e];simp);rw [List.nil_append,Zdy] at hh;rw [hall v (List.mem_iff_getElem?.mpr ⟨k,numW_mem.mp hv⟩)] at hh;cases hh
noncomputable def ZbK (ss:List Sco) (ord:List (Str×Str)) (all l:List (List Mrk)):List (List Mrk):=l.filter fun w=>!all.any fun v=>ZaO ss ord v w
theorem ZiO {ss:List Sco}{ord:List (Str×Str)} {all l:List (List Mrk)} {i:Nat} {w:List Mrk} (h:l[i]?=some w):ZbK ss ord all (l.take (i+1))=if (all.any fun v=>ZaO ss ord v w)=true then ZbK ss ord all (l.take i) else ZbK ss ord all (l.take i)++[w]:=by
 unfold ZbK;rw [Xar,h,XaS];show _++List.filter _ [w]=_;rw [XaM]
 cases all.any fun v=>ZaO ss ord v w with
 | true=>rw [Xbf rfl];simp
 | false=>simp
theorem Zkk {ss:List Sco}{ord:List (Str×Str)} {all l:List (List Mrk)}:(ZbK ss ord all l).length≤l.length:=XaU _ _
theorem least_non {ks:List Nat}:Zg9 (ks.map fun k:Nat=>(k:Int))=.non↔ks=[]:=by
 cases ks with
 | nil=>exact ⟨fun _=>rfl,fun _=>rfl⟩
 | cons k ks=>exact ⟨fun h=>(nomatch h),fun h=>(nomatch h)⟩
theorem ZlZ {ss:List Sco}{ord:List (Str×Str)} (h:∀ x,(x,x) ∉ ord) {l:List (List Mrk)} {w:List Mrk}:gat (betM ss ord) (numW l) [] w=[]↔(l.any fun v=>ZaO ss ord v w)=false:=by
 rw [ZlY h,List.any_eq_false];exact ⟨fun z v hv=>by rw [z v hv];simp,fun z v hv=>by have:=z v hv;simpa using this⟩
section
variable {ss:List Sco} {ord:List (Str×Str)}
theorem dec_of {p:Prop} (h:dec p=true):p:=by
 by_cases e:p
 · exact e
 · rw [ZaP e] at h;cases h
theorem Zf8 (irr:∀ x,(x,x) ∉ ord) (tr:∀ x y z,(x,y)∈ord→(y,z)∈ord→(x,z)∈ord):∀ (a b c:List Mrk),ZaO ss ord a b=true→ZaO ss ord b c=true→ZaO ss ord a c=true
 | x :: s, y :: t, z :: u, h1, h2 => by
   by_cases xy:x=y
   · subst xy
     rw [Zct] at h1
     by_cases yz:x=z
     · subst yz
       rw [Zct] at h2 ⊢;exact Zf8 irr tr s t u h1 h2
     · rw [Zcu ss ord _ _ yz] at h2 ⊢;exact h2
   · rw [Zcu ss ord _ _ xy] at h1
     by_cases yz:y=z
     · subst yz
       rw [Zcu ss ord _ _ xy];exact h1
     · rw [Zcu ss ord _ _ yz] at h2
       have h3:=tr _ _ _ (dec_of h1) (dec_of h2);have xz:x≠z:=fun e=>irr _ (by rw [←e] at h3;exact h3);rw [Zcu ss ord _ _ xz];exact ZaH h3
 | [],_,_,h1,_=>by rw [ZbP ss ord (.inl rfl)] at h1;cases h1
 | _ :: _,[],_,h1,_=>by rw [ZbP ss ord (.inr rfl)] at h1;cases h1
 | _ :: _,_ :: _,[],_,h2=>by rw [ZbP ss ord (.inr rfl)] at h2;cases h2
theorem Zhb:∀ (a:List Mrk),ZaO ss ord a a=false
 | []=>ZbP ss ord (.inl rfl)
 | x :: s=>by rw [Zct];exact Zhb s
theorem Zl0 {α:Type}{p q:α→Bool} (h:∀ x,p x=true→q x=true) {y:α} (hq:q y=true) (hp:p y=false):∀ {l:List α},y∈l→(l.filter p).length<(l.filter q).length
 | x :: l, hy => by
   have le:(l.filter p).length≤(l.filter q).length:=by
    clear hy
    induction l with
    | nil=>exact XaW _
    | cons a l ih =>
      rw [XaM,XaM]
      cases e:p a with
      | true=>rw [h a e];simpa using ih
      | false=>cases q a <;> simp <;> omega
   rcases Xam.mp hy with e | e
   · subst e
     rw [XaM,XaM,Xbf hq,Xbe (by rw [hp];simp),XaB];omega
   · have ih:=Zl0 h hq hp e
     rw [XaM,XaM]
     cases e:p x with
     | true=>rw [h x e];simpa using ih
     | false=>cases q x <;> simp <;> omega
theorem ZkM (irr:∀ x,(x,x) ∉ ord) (tr:∀ x y z,(x,y)∈ord→(y,z)∈ord→(x,z)∈ord) {l:List (List Mrk)} {w:List Mrk}:∀ (n:Nat) (v:List Mrk),(l.filter fun u=>ZaO ss ord u v).length≤n→v∈l→ZaO ss ord v w=true→∃ s∈ZbK ss ord l l,ZaO ss ord s w=true:=by
 intro n
 induction n with
 | zero =>
   intro v hn hv hw;refine ⟨v,XaK.mpr ⟨hv,?_⟩,hw⟩
   have:l.filter (fun u=>ZaO ss ord u v)=[]:=List.length_eq_zero_iff.mp (Nat.le_zero.mp hn)
   rw [Bool.not_eq_true',List.any_eq_false]
   exact fun u hu z=>by
    have h2:u∈l.filter (fun u=>ZaO ss ord u v):=XaK.mpr ⟨hu,z⟩;rw [this] at h2;cases h2
 | succ n ih =>
   intro v hn hv hw
   cases e:l.any fun u=>ZaO ss ord u v with
   | false=>exact ⟨v,XaK.mpr ⟨hv,by rw [e];rfl⟩,hw⟩
   | true =>
     obtain ⟨u,hu,hu2⟩:=List.any_eq_true.mp e;refine ih u ?_ hu (Zf8 irr tr u v w hu2 hw)
     have:=Zl0 (p:=fun x=>ZaO ss ord x u) (q:=fun x=>ZaO ss ord x v) (fun x hx=>Zf8 irr tr x u v hx hu2) (y:=u) hu2 (Zhb u) hu
     omega
noncomputable def ZbA (ss:List Sco) (ord:List (Str×Str)) (l:List (List Mrk)) (w:List Mrk):Option (List Mrk):=l.find? fun v=>ZaO ss ord v w
theorem ZiP:∀ (ks:List Nat) (k:Nat),∃ m∈k :: ks,(ks.map fun k:Nat=>(k:Int)).foldl min (k:Int)=(m:Int)∧∀ j∈k :: ks,m≤j
 | [],k=>⟨k,by simp,rfl,by simp⟩
 | x :: ks, k => by
   obtain ⟨m,h1,h2,h3⟩:=ZiP ks (min k x);refine ⟨m,?_,?_,fun j hj=>?_⟩
   · rcases Xam.mp h1 with e | e
     · rcases Nat.le_total k x with y | y
       · rw [Nat.min_eq_left y] at e;simp [e]
       · rw [Nat.min_eq_right y] at e;simp [e]
     · simp [e]
   · show (ks.map _).foldl min (min (k:Int) (x:Int))=_
     rw [←h2];congr 1;omega
   · have h0:=h3 _ (Xal ..)
     rcases Xam.mp hj with e | e
     · omega
     · rcases Xam.mp e with e | e
       · omega
       · exact h3 j (Xap _ e)
theorem Zjt (irr:∀ x,(x,x) ∉ ord) {l:List (List Mrk)} {w:List Mrk} :
 (ZbA ss ord l w=none∧Zg9 ((gat (betM ss ord) (numW l) [] w).map fun k:Nat=>(k:Int))=.non) ∨
 ∃ (k:Nat) (v:List Mrk),ZbA ss ord l w=some v∧l[k]?=some v∧Zg9 ((gat (betM ss ord) (numW l) [] w).map fun k:Nat=>(k:Int))=.int (k:Int):=by
 cases e:gat (betM ss ord) (numW l) [] w with
 | nil =>
   refine .inl ⟨?_,rfl⟩;unfold ZbA;rw [List.find?_eq_none]
   exact fun v hv=>by rw [ZlY irr |>.mp e v hv];simp
 | cons k ks =>
   obtain ⟨m,h1,h2,h3⟩:=ZiP ks k
   have hm:m∈gat (betM ss ord) (numW l) [] w:=by rw [e];exact h1
   obtain ⟨v,hv,hh⟩:=Zf7 (ZfL l) (Zkj irr) w [] m hm;rw [List.nil_append,Zdy] at hh;have hv:=numW_mem.mp hv;refine .inr ⟨m,v,?_,hv,by show V.int _=_;rw [←h2]⟩;unfold ZbA;obtain ⟨hlt,hev⟩:=Xae.mp hv;rw [List.find?_eq_some_iff_getElem];refine ⟨hh,m,hlt,hev,fun j hj=>?_⟩
   cases hc:ZaO ss ord l[j] w with
   | false=>rfl
   | true =>
     obtain ⟨k',hk',hle⟩:=ZiL (ZfL l) (numW_mem.mpr (Xab (show j<l.length by omega))) (by rw [Zdy];exact hc);rw [e] at hk'
     have:=h3 k' hk'
     omega
noncomputable def ZiQ (ss:List Sco) (ord:List (Str×Str)) (all l:List (List Mrk)):List (List Mrk×List Mrk):=l.filterMap fun w=>(ZbA ss ord (ZbK ss ord all all) w).map fun v=>(w,v)
theorem Zkl {all l:List (List Mrk)} {i:Nat} {w:List Mrk} (h:l[i]?=some w):ZiQ ss ord all (l.take (i+1))=ZiQ ss ord all (l.take i)++((ZbA ss ord (ZbK ss ord all all) w).map fun v=>(w,v)).toList:=by
 unfold ZiQ;rw [Xar,h,List.filterMap_append];show _++List.filterMap _ [w]=_;rw [Xbj]
 cases (ZbA ss ord (ZbK ss ord all all) w) <;> rfl
theorem ZkN (irr:∀ x,(x,x) ∉ ord) (tr:∀ x y z,(x,y)∈ord→(y,z)∈ord→(x,z)∈ord) {l:List (List Mrk)} {w:List Mrk} (hw:w∈l):ZbA ss ord (ZbK ss ord l l) w=none↔w∈ZbK ss ord l l:=by
 unfold ZbA;rw [List.find?_eq_none]
 constructor
 · intro h
   refine XaK.mpr ⟨hw,?_⟩
   cases e:l.any fun v=>ZaO ss ord v w with
   | false=>rfl
   | true =>
     obtain ⟨v,hv,hh⟩:=List.any_eq_true.mp e;obtain ⟨s,hs,hs2⟩:=ZkM irr tr _ v (XaW _) hv hh;exact absurd hs2 (h s hs)
 · intro h v hv hh
   have:=(XaK.mp h).2
   rw [Bool.not_eq_true',List.any_eq_false] at this;exact this v (XaK.mp hv).1 hh
end
def RwH (F:Addr→Prop) (H:Hp) (T:Addr) (r:List Mrk×List Mrk):Prop:=∃ a b,H T=some (.tup [.ref a,.ref b])∧WyH F H a r.1∧WyH F H b r.2
theorem RwH.same {F:Addr→Prop}{H H':Hp}{T:Addr}{r:List Mrk×List Mrk} (e:Same H H') (h:RwH F H T r):RwH F H' T r:=let ⟨a,b,h1,h2,h3⟩:=h;⟨a,b,e _ _ h1,h2.same e,h3.same e⟩
theorem RwH.keeps {M F:Addr→Prop}{H H':Hp}{T:Addr}{r:List Mrk×List Mrk} (k:Keeps M H H') (hF:∀ x,F x→¬M x) (h:RwH F H T r):RwH F H' T r:=let ⟨a,b,h1,h2,h3⟩:=h;⟨a,b,k.tup h1,h2.keeps k hF,h3.keeps k hF⟩
abbrev rwE:Enc:=ZiA wayE wayE
theorem RwH.dt {K:XFg}{F:Addr→Prop}{H:Hp}{T:Addr}{r:List Mrk×List Mrk} (h:RwH F H T r):IsDt K H (.ref T) (rwE.D r):=let ⟨_,_,h1,h2,h3⟩:=h;.tup (SqT.of h1) (.cons h2.dt (.cons h3.dt .nil))
theorem Zju {K:XFg}{H:Hp}{F:Addr→Prop}:∀ {zs:List (Addr×List Mrk×List Mrk)},(∀ z∈zs,RwH F H z.1 z.2)→IsDts K H (zs.map fun z=>V.ref z.1) ((zs.map (·.2)).map rwE.D)
 | [],_=>.nil
 | z :: zs,h=>.cons (h z Xal).dt (Zju fun y hy=>h y (Xap _ hy))
theorem Zl1 (l m:List (List Mrk×List Mrk)):Cmp 8 (Dt.lst (l.map rwE.D)) (Dt.lst (m.map rwE.D)):=.lst (Cmps.of fun d hd e he=>by
 obtain ⟨q1,_,rfl⟩:=Xai.mp hd;obtain ⟨q2,_,rfl⟩:=Xai.mp he
 exact (rwE.cmp q1 q2).mono (by decide))
noncomputable def Zjv (sn l:List (List Mrk)):List (List Mrk):=l.filter fun w=>!dec (w∈sn)
theorem Zkm {sn l:List (List Mrk)} {i:Nat} {w:List Mrk} (h:l[i]?=some w):Zjv sn (l.take (i+1))=if dec (w∈sn)=true then Zjv sn (l.take i) else Zjv sn (l.take i)++[w]:=by
 unfold Zjv;rw [Xar,h,XaS];show _++List.filter _ [w]=_;rw [XaM]
 cases dec (w∈sn) <;> simp
theorem way_in {w:List Mrk}{l:List (List Mrk)}:dec (wayE.D w∈l.map wayE.D)=dec (w∈l):=Zb4 ⟨fun h=>by
 obtain ⟨v,hv,e⟩:=Xai.mp h
 rw [←wayE.inj v w e];exact hv,fun h=>Xai.mpr ⟨_,h,rfl⟩⟩
section
variable {ss:List Sco} {ord:List (Str×Str)}
theorem Zl2 (irr:∀ x,(x,x) ∉ ord) (tr:∀ x y z,(x,y)∈ord→(y,z)∈ord→(x,z)∈ord) {all:List (List Mrk)}:∀ {l:List (List Mrk)},(∀ w∈l,w∈all)→(ZiQ ss ord all l).map (·.1)=Zjv (ZbK ss ord all all) l
 | [],_=>rfl
 | w :: l, h => by
   have ih:=Zl2 irr tr (l:=l) fun v hv=>h v (Xap _ hv);have hn:=ZkN (ss:=ss) irr tr (h w Xal);unfold ZiQ Zjv at ih ⊢;rw [Xbj,XaM]
   cases e:ZbA ss ord (ZbK ss ord all all) w with
   | none =>
     rw [ZaH (hn.mp e)];exact ih
   | some v =>
     rw [ZaP (fun z=>by rw [hn.mpr z] at e;cases e)];show _ :: _=_ :: _;rw [ih]
theorem Zl3 {all l:List (List Mrk)} {r:List Mrk×List Mrk} (h:r∈ZiQ ss ord all l):ZbA ss ord (ZbK ss ord all all) r.1=some r.2∧r.1∈l:=by
 obtain ⟨w,hw,e⟩:=List.mem_filterMap.mp h;obtain ⟨v,hv,rfl⟩:=XaV.mp e;exact ⟨hv,hw⟩
end
end L2
theorem L2.new_at {H:L2.Hp}{a:PySem.Addr}{o:L2.HO} (h:H a=none):∃ H':L2.Hp,H'=L2.upd H a o∧L2.Same H H'∧H' a=some o:=⟨_,rfl,L2.Zak h,L2.upd_same⟩
theorem L2.getm {α β:Type}{f:α→β}{l:List α}{i:Nat}{x:β} (h:(l.map f)[i]?=some x):∃ z,l[i]?=some z∧f z=x:=by
 rw [Xag] at h;exact XaV.mp h
namespace K27
open PySem PySem.Spec PyProof.Rows L2 Ord
local macro_rules | `(tactic| trivial) => `(tactic| exact ⟨rfl, rfl, rfl, by decide +kernel, rfl, by decide +kernel, by decide +kernel⟩)
local macro_rules | `(tactic| trivial) => `(tactic| exact ⟨rfl, by decide +kernel, by decide +kernel, by decide +kernel, rfl, by decide +kernel, by decide +kernel⟩)
theorem sc__law_words:FnScope ["_law_cell", "_law_many", "_law_letters", "_law_size", "_law_at", "_law_words_here", "_law_k", "_law_word", "_law_j", "_law_number"] ["_law_cell", "_law_many"] (Zaj ZcB):=by trivial
theorem Zf9:FnScope ["_law_script", "_law_k"] ["_law_script", "_law_k"] (Zaj ZbS):=by trivial
theorem sc__law_stream:FnScope ["_law_cell", "_law_many", "_law_numbers", "_law_number", "_law_k"] ["_law_cell", "_law_many"] (Zaj Zb9):=by trivial
theorem ZhH:FnScope ["_law_one", "_law_other"] ["_law_one", "_law_other"] (Zaj ZcC):=by trivial
theorem sc__law_table:FnScope ["_law_cell", "_law_labels", "_law_xs", "_law_many", "_law_states", "_law_k", "_law_goes", "_law_ends", "_law_j", "_law_order"] ["_law_cell", "_law_labels"] (Zaj ZcD):=by trivial
theorem sc_refuse_too_great:FnScope ["states", "pairs", "goes", "ends"] ["states", "pairs"] (Zaj Zbe):=by trivial
theorem ZiR:FnScope ["goes"] ["goes"] (Zaj Zcl):=by trivial
theorem labels_of_cs1:CompScope (Zaj Zcl) ["goes"] { kind:=.function,names:=[ (".0",.local),("label",.local),("number",.local)],isGenerator:=false,isCoroutine:=false,more:=[]:PySem.Scope } ["label", "number"] 2 []:=by trivial
theorem sc_labels_told:FnScope ["states", "pairs", "labels", "goes", "ends", "better", "worse"] ["states", "pairs"] (Zaj Zca):=by trivial
theorem ZkO:FnScope ["thing"] ["thing"] (Zaj Zds):=by trivial
theorem is_name_cs1:CompScope (Zaj Zds) ["thing"] { kind:=.function,names:=[(".0",.local),("sign",.local)],isGenerator:=false,isCoroutine:=false,more:=[]:PySem.Scope } ["sign"] 1 []:=by trivial
theorem sc_refuse_no_names:FnScope ["states", "pairs", "label"] ["states", "pairs"] (Zaj Zbp):=by trivial
theorem Zjw:FnScope ["thing"] ["thing"] (Zaj ZdK):=by trivial
theorem Zjx:FnScope ["number", "many"] ["number", "many"] (Zaj ZdL):=by trivial
theorem sc_refuse_no_places:FnScope ["states", "inner", "goes", "ends", "label", "number"] ["states", "inner"] (Zaj Zbf):=by trivial
theorem Zga:FnScope ["labels"] ["labels"] (Zaj ZbT):=by trivial
theorem sc_refuse_twice:FnScope ["states", "goes", "ends"] ["states"] (Zaj ZbU):=by trivial
theorem sc_worse_by_better:FnScope ["pairs", "worse_labels", "better", "worse"] ["pairs"] (Zaj Zbq):=by trivial
theorem sc_reached:FnScope ["worse_labels", "start", "came_from", "layer", "further", "better", "worse"] ["worse_labels", "start"] (Zaj Zeu):=by trivial
theorem sc_all_that_follows:FnScope ["pairs", "worse_labels", "order", "better", "worse"] ["pairs"] (Zaj Zbg):=by trivial
theorem sc_order_of:FnScope ["pairs", "order", "better", "worse"] ["pairs"] (Zaj ZdM):=by trivial
theorem Zgb:FnScope ["goes", "ends"] ["goes", "ends"] (Zaj ZbB):=by trivial
theorem sorted_state_cs1:CompScope (Zaj ZbB) ["goes", "ends"] { kind:=.function,names:=[ (".0",.local),("label",.local),("number",.local)],isGenerator:=false,isCoroutine:=false,more:=[]:PySem.Scope } ["label", "number"] 2 []:=by trivial
theorem sc_table_of:FnScope ["states", "inner", "pairs", "order"] ["states", "inner", "pairs"] (Zaj Zc1):=by trivial
theorem table_of_cs1:CompScope (Zaj Zc1) ["states", "inner", "pairs", "order"] { kind:=.function,names:=[ (".0",.local),("goes",.local),("ends",.local),("sorted_state",.globalImplicit)],isGenerator:=false,isCoroutine:=false,more:=[]:PySem.Scope } ["goes", "ends"] 2 []:=by trivial
theorem sc_usual:FnScope ["states", "pairs"] [] (Zaj Zhh):=by trivial
theorem sc__law_things:FnScope ["_law_cell", "_law_many", "_law_scopes", "_law_questions_here", "_law_things_here", "_law_number"] ["_law_cell", "_law_many", "_law_scopes", "_law_questions_here"] (Zaj Zcb):=by trivial
theorem sc__law_questions:FnScope ["_law_cell", "_law_many", "_law_scopes", "_law_states", "_law_words_here", "_law_questions_here", "_law_number", "_law_path"] ["_law_cell", "_law_many", "_law_scopes", "_law_states", "_law_words_here"] (Zaj Za9):=by trivial
theorem _law_questions_cs1:CompScope (Zaj Za9) ["_law_cell", "_law_many", "_law_scopes", "_law_states", "_law_words_here", "_law_questions_here", "_law_number", "_law_path"] { kind:=.function,names:=[ (".0",.local),("_law_k",.local),("_law_number",.free),("_law_words_here",.free)],isGenerator:=false,isCoroutine:=false,more:=[]:PySem.Scope } ["_law_k", "_law_words_here", "_law_number"] 1 [4,6]:=by trivial
theorem sc__law_lay:FnScope ["_law_net", "_law_labels", "_law_words_here", "_law_cell", "_law_number", "_law_steps", "_law_tellings", "_law_label_here", "_law_name"] ["_law_net", "_law_labels", "_law_words_here", "_law_cell"] (Zaj ZdN):=by trivial
theorem sc__law_answers:FnScope ["_law_cell", "_law_net", "_law_answers_here", "_law_number", "_law_path"] ["_law_cell", "_law_net"] (Zaj ZbV):=by trivial
theorem sc__law_case:FnScope ["_law_script", "_law_words_here", "_law_labels", "_law_table_here", "_law_scopes", "_law_asked", "_law_things_here", "_law_questions_here", "_law_net", "_law_cell", "_law_answers_here"] ["_law_script"] (Zaj Zcm):=by trivial
theorem _law_case_cs1:CompScope (Zaj Zcm) ["_law_script", "_law_words_here", "_law_labels", "_law_table_here", "_law_scopes", "_law_asked", "_law_things_here", "_law_questions_here", "_law_net", "_law_cell", "_law_answers_here"] { kind:=.function,names:=[(".0",.local),("_law_k",.local)],isGenerator:=false,isCoroutine:=false,more:=[]:PySem.Scope } ["_law_k"] 1 []:=by trivial
theorem sc_has_end:FnScope ["table", "state", "label", "ends"] ["table", "state", "label"] (Zaj Zev):=by trivial
theorem sc_found_behind:FnScope ["net", "table", "begun", "name", "ways", "marks", "last", "then", "index", "telling"] ["net", "table", "begun", "name"] (Zaj ZbW):=by trivial
theorem sc_next_state:FnScope ["table", "state", "label", "goes", "known", "number"] ["table", "state", "label"] (Zaj ZcE):=by trivial
theorem sc_inside_of_sort:FnScope ["net", "answers", "question", "answer", "kind", "number"] ["net", "answers", "question"] (Zaj ZbF):=by trivial
theorem sc_inside:FnScope ["net", "answers", "thing", "kind", "number"] ["net", "answers", "thing"] (Zaj ZfG):=by trivial
theorem sc_goal:FnScope ["net", "answers", "step", "label", "kind", "number", "answer"] ["net", "answers", "step"] (Zaj ZjH):=by trivial
theorem sc_steps_gone:FnScope ["net", "answers", "table", "scope", "state", "gone", "index", "step", "after", "kind", "number"] ["net", "answers", "table", "scope", "state"] (Zaj ZcF):=by trivial
theorem sc_longer_by_a_step:FnScope ["net", "answers", "table", "beginning", "marks", "last", "then", "come_to", "longer", "mark", "kind", "number", "after"] ["net", "answers", "table", "beginning"] (Zaj ZaY):=by trivial
theorem longer_by_a_step_cs1:CompScope (Zaj ZaY) ["net", "answers", "table", "beginning", "marks", "last", "then", "come_to", "longer", "mark", "kind", "number", "after"] { kind:=.function,names:=[(".0",.local),("mark",.local)],isGenerator:=false,isCoroutine:=false,more:=[]:PySem.Scope } ["mark"] 1 []:=by trivial
theorem sc_beginnings:FnScope ["net", "answers", "table", "scope", "state", "found", "place"] ["net", "answers", "table", "scope", "state"] (Zaj ZcG):=by trivial
theorem ZhI:FnScope ["net", "answers", "table", "scope", "state", "name"] ["net", "answers", "table", "scope", "state", "name"] (Zaj ZcH):=by trivial
theorem sc_owed_behind:FnScope ["net", "answers", "table", "begun", "ways", "marks", "last", "then", "mark", "kind", "number", "after"] ["net", "answers", "table", "begun"] (Zaj Zcc):=by trivial
theorem ZiS:FnScope ["net", "answers", "table", "scope", "state"] ["net", "answers", "table", "scope", "state"] (Zaj Zdb):=by trivial
theorem sc__law_ways:FnScope ["_law_net", "_law_answers_here", "_law_table_here", "_law_look", "_law_name", "_law_cell", "_law_ways_here", "_law_at"] ["_law_net", "_law_answers_here", "_law_table_here", "_law_look", "_law_name", "_law_cell"] (Zaj Zcn):=by trivial
theorem _law_ways_cs1:CompScope (Zaj Zcn) ["_law_net", "_law_answers_here", "_law_table_here", "_law_look", "_law_name", "_law_cell", "_law_ways_here", "_law_at"] { kind:=.function,names:=[ (".0",.local),("_law_way",.local),("_law_question",.local)],isGenerator:=false,isCoroutine:=false,more:=[]:PySem.Scope } ["_law_way", "_law_question"] 2 []:=by trivial
theorem sc__law_copy:FnScope ["_law_parts", "_law_scopes"] ["_law_parts"] (Zaj Zco):=by trivial
theorem _law_copy_cs1:CompScope (Zaj Zco) ["_law_parts", "_law_scopes"] { kind:=.function,names:=[ (".0",.local),("_law_steps",.local),("_law_tellings",.local),("list",.globalImplicit)],isGenerator:=false,isCoroutine:=false,more:=[]:PySem.Scope } ["_law_steps", "_law_tellings"] 2 []:=by trivial
theorem sc__law_copy_table:FnScope ["_law_table_here", "_law_states"] ["_law_table_here"] (Zaj Za2):=by trivial
theorem _law_copy_table_cs1:CompScope (Zaj Za2) ["_law_table_here", "_law_states"] { kind:=.function,names:=[ (".0",.local),("_law_goes",.local),("_law_ends",.local),("list",.globalImplicit)],isGenerator:=false,isCoroutine:=false,more:=[]:PySem.Scope } ["_law_goes", "_law_ends"] 2 []:=by trivial
theorem Zgc:FnScope ["table"] ["table"] (Zaj ZbC):=by trivial
theorem better_pairs_cs1:CompScope (Zaj ZbC) ["table"] { kind:=.function,names:=[(".0",.local),("pair",.local)],isGenerator:=false,isCoroutine:=false,more:=[]:PySem.Scope } ["pair"] 1 []:=by trivial
theorem sc_tree_of:FnScope ["ways", "tree", "number", "way", "branch", "mark"] ["ways"] (Zaj Zew):=by trivial
theorem sc_label_at:FnScope ["net", "mark", "scope", "kind", "index", "steps", "tellings"] ["net", "mark"] (Zaj ZdO):=by trivial
theorem sc_first_hider:FnScope ["net", "better", "tree", "way", "numbers", "branch", "mark", "label", "beside"] ["net", "better", "tree", "way"] (Zaj Zcd):=by trivial
theorem sc_seen_ways:FnScope ["net", "table", "ways", "better", "tree"] ["net", "table", "ways"] (Zaj Zcp):=by trivial
theorem seen_ways_cs1:CompScope (Zaj Zcp) ["net", "table", "ways", "better", "tree"] { kind:=.function,names:=[ (".0",.local),("way",.local),("first_hider",.globalImplicit),("list",.globalImplicit),("better",.free),("net",.free),("tree",.free)],isGenerator:=false,isCoroutine:=false,more:=[]:PySem.Scope } ["way", "net", "better", "tree"] 1 [0,3,4]:=by trivial
theorem sc_hidden_ways:FnScope ["net", "table", "ways", "better", "seen", "tree", "hidden", "way", "number"] ["net", "table", "ways"] (Zaj Zce):=by trivial
theorem ZhJ:FnScope ["_law_net", "_law_mark"] ["_law_net", "_law_mark"] (Zaj ZcI):=by trivial
theorem sc__law_hides:FnScope ["_law_net", "_law_table_here", "_law_one", "_law_other", "_law_mine", "_law_theirs"] ["_law_net", "_law_table_here", "_law_one", "_law_other"] (Zaj ZcJ):=by trivial
theorem sc__law_first:FnScope ["_law_net", "_law_table_here", "_law_shown", "_law_way", "_law_one"] ["_law_net", "_law_table_here", "_law_shown", "_law_way"] (Zaj ZcK):=by trivial
theorem Zjy:FnScope ["_law_net", "_law_table_here", "_law_shown", "_law_way", "_law_row_here"] ["_law_net", "_law_table_here", "_law_shown", "_law_way", "_law_row_here"] (Zaj ZdP):=by trivial
theorem sc__law_right:FnScope ["_law_net", "_law_table_here", "_law_ways_here", "_law_kept", "_law_rules", "_law_held", "_law_shown", "_law_others", "_law_rows", "_law_row_here", "_law_way", "_law_told", "_law_by"] ["_law_net", "_law_table_here", "_law_ways_here"] (Zaj Za6):=by trivial
theorem _law_right_cs1:CompScope (Zaj Za6) ["_law_net", "_law_table_here", "_law_ways_here", "_law_kept", "_law_rules", "_law_held", "_law_shown", "_law_others", "_law_rows", "_law_row_here", "_law_way", "_law_told", "_law_by"] { kind:=.function,names:=[ (".0",.local),("_law_way",.local),("list",.globalImplicit)],isGenerator:=false,isCoroutine:=false,more:=[]:PySem.Scope } ["_law_way"] 1 []:=by trivial
theorem _law_right_cs2:CompScope (Zaj Za6) ["_law_net", "_law_table_here", "_law_ways_here", "_law_kept", "_law_rules", "_law_held", "_law_shown", "_law_others", "_law_rows", "_law_row_here", "_law_way", "_law_told", "_law_by"] { kind:=.function,names:=[ (".0",.local),("_law_way",.local),("list",.globalImplicit)],isGenerator:=false,isCoroutine:=false,more:=[]:PySem.Scope } ["_law_way"] 1 []:=by trivial
theorem _law_right_cs3:CompScope (Zaj Za6) ["_law_net", "_law_table_here", "_law_ways_here", "_law_kept", "_law_rules", "_law_held", "_law_shown", "_law_others", "_law_rows", "_law_row_here", "_law_way", "_law_told", "_law_by"] { kind:=.function,names:=[ (".0",.local),("_law_way",.local),("_law_shown",.free)],isGenerator:=false,isCoroutine:=false,more:=[]:PySem.Scope } ["_law_way", "_law_shown"] 1 [6]:=by trivial
theorem _law_right_cs4:CompScope (Zaj Za6) ["_law_net", "_law_table_here", "_law_ways_here", "_law_kept", "_law_rules", "_law_held", "_law_shown", "_law_others", "_law_rows", "_law_row_here", "_law_way", "_law_told", "_law_by"] { kind:=.function,names:=[ (".0",.local),("_law_way",.local),("_law_by",.local),("list",.globalImplicit)],isGenerator:=false,isCoroutine:=false,more:=[]:PySem.Scope } ["_law_way", "_law_by"] 2 []:=by trivial
theorem sc_law:FnScope ["_law_script", "_law_net", "_law_table_here", "_law_answers_here", "_law_words_here", "_law_k", "_law_scope", "_law_state", "_law_path", "_law_name", "_law_ways_here"] ["_law_script"] (Zaj Zh5):=by trivial
structure Blt (mg:Str→Option Value):Prop where
 b_all:mg "all" = none
 b_bool:mg "bool" = none
 b_dict:mg "dict" = none
 b_enumerate:mg "enumerate" = none
 b_int:mg "int" = none
 b_isinstance:mg "isinstance" = none
 b_len:mg "len" = none
 b_list:mg "list" = none
 b_min:mg "min" = none
 b_range:mg "range" = none
 b_reversed:mg "reversed" = none
 b_set:mg "set" = none
 b_sorted:mg "sorted" = none
 b_str:mg "str" = none
 b_tuple:mg "tuple" = none
 b_zip:mg "zip" = none
 c_LONGEST_NAME:∃ t,mg "LONGEST_NAME" = some (.int 8 t)
 c_MOST_BEGINNINGS:∃ t,mg "MOST_BEGINNINGS" = some (.int 200 t)
 c_MOST_ENDS:∃ t,mg "MOST_ENDS" = some (.int 8 t)
 c_MOST_GOES:∃ t,mg "MOST_GOES" = some (.int 8 t)
 c_MOST_PAIRS:∃ t,mg "MOST_PAIRS" = some (.int 40 t)
 c_MOST_STATES:∃ t,mg "MOST_STATES" = some (.int 8 t)
theorem Zen {us:List Value} (h:us.length=1):∃ x0,us=[x0]:=by
 cases us with
 | nil=>cases h
 | cons x0 t=>exact ⟨x0,by rw [List.length_eq_zero_iff.mp (Nat.succ.inj h)]⟩
theorem Zd5 {us:List Value} (h:us.length=2):∃ x0 x1,us=[x0,x1]:=by
 cases us with
 | nil=>cases h
 | cons x0 t =>
   obtain ⟨x1,rfl⟩:=Zen (Nat.succ.inj h);exact ⟨x0,x1,rfl⟩
theorem ZgF {us:List Value} (h:us.length=3):∃ x0 x1 x2,us=[x0,x1,x2]:=by
 cases us with
 | nil=>cases h
 | cons x0 t =>
   obtain ⟨x1,x2,rfl⟩:=Zd5 (Nat.succ.inj h);exact ⟨x0,x1,x2,rfl⟩
theorem ZhK {us:List Value} (h:us.length=4):∃ x0 x1 x2 x3,us=[x0,x1,x2,x3]:=by
 cases us with
 | nil=>cases h
 | cons x0 t =>
   obtain ⟨x1,x2,x3,rfl⟩:=ZgF (Nat.succ.inj h);exact ⟨x0,x1,x2,x3,rfl⟩
theorem ZkP {us:List Value} (h:us.length=5):∃ x0 x1 x2 x3 x4,us=[x0,x1,x2,x3,x4]:=by
 cases us with
 | nil=>cases h
 | cons x0 t =>
   obtain ⟨x1,x2,x3,x4,rfl⟩:=ZhK (Nat.succ.inj h);exact ⟨x0,x1,x2,x3,x4,rfl⟩
theorem len_6 {us:List Value} (h:us.length=6):∃ x0 x1 x2 x3 x4 x5,us=[x0,x1,x2,x3,x4,x5]:=by
 cases us with
 | nil=>cases h
 | cons x0 t =>
   obtain ⟨x1,x2,x3,x4,x5,rfl⟩:=ZkP (Nat.succ.inj h);exact ⟨x0,x1,x2,x3,x4,x5,rfl⟩
theorem len_7 {us:List Value} (h:us.length=7):∃ x0 x1 x2 x3 x4 x5 x6,us=[x0,x1,x2,x3,x4,x5,x6]:=by
 cases us with
 | nil=>cases h
 | cons x0 t =>
   obtain ⟨x1,x2,x3,x4,x5,x6,rfl⟩:=len_6 (Nat.succ.inj h);exact ⟨x0,x1,x2,x3,x4,x5,x6,rfl⟩
theorem len_8 {us:List Value} (h:us.length=8):∃ x0 x1 x2 x3 x4 x5 x6 x7,us=[x0,x1,x2,x3,x4,x5,x6,x7]:=by
 cases us with
 | nil=>cases h
 | cons x0 t =>
   obtain ⟨x1,x2,x3,x4,x5,x6,x7,rfl⟩:=len_7 (Nat.succ.inj h);exact ⟨x0,x1,x2,x3,x4,x5,x6,x7,rfl⟩
section
set_option maxHeartbeats 4000000
seal L2.PE L2.PA L2.PS L2.PSs L2.PT L2.PW L2.PC L2.PG L2.PGs L2.PI L2.PF L2.PSet L2.OpR L2.UnR L2.CallR L2.MtR L2.IxR L2.SlR L2.PO
variable {P:Program} {w:World} {K:XFg} {mg:Str→Option Value} {base:Heap} {f:Addr} {fd:FuncData}
theorem let26:(("abcdefghijklmnopqrstuvwxyz" : Str)).cps.toList.length=26:=by decide +kernel
theorem letLow:∀ c∈(("abcdefghijklmnopqrstuvwxyz" : Str)).cps.toList,97≤c∧c≤122:=by decide +kernel
theorem ZhL (w:Str) (c:Nat):(w++(⟨#[c]⟩:Str)).length=w.length+1:=by
 show (w.cps++#[c]).size=w.cps.size+1
 simp
theorem Zl4 {w:Str}{c d:Nat} (h:d∈(w++(⟨#[c]⟩:Str)).cps.toList):d∈w.cps.toList∨d=c:=by
 have h:d∈(w.cps++#[c]).toList:=h
 simpa using h
theorem let_at:∀ n,n<26→(("abcdefghijklmnopqrstuvwxyz" : Str)).cps.toList[n]?=some (97+n):=by decide +kernel
theorem let_of {i:Int}{c:Nat} (h0:0≤i) (h1:i<26) (h:atI (("abcdefghijklmnopqrstuvwxyz" : Str)).cps.toList i=some c):c=97+i.toNat:=by
 obtain ⟨n,rfl⟩:=Xa4 h0
 have:=h.symm.trans (ZaQ (let_at n (by omega)))
 exact Xbd this
theorem ZkQ (w:Str) (c:Nat):(w++(⟨#[c]⟩:Str)).cps.toList=w.cps.toList++[c]:=by
 show (w.cps++#[c]).toList=_
 simp
theorem Zm1 {ls:List Str}{a:Nat}{bs:Int} (h:∀ (k:Nat) x,ls[k]?=some x→x.cps.toList[a]?=some (97+((bs+k) % 26).toNat)) (hl:ls.length≤9):(ls.drop 4).Nodup:=by
 refine List.pairwise_iff_getElem.mpr fun i j hi hj hij e=>?_;rw [XaF] at hi hj;rw [List.getElem_drop,List.getElem_drop] at e;have h1:=h (4+i) _ (Xab (by omega));have h2:=h (4+j) _ (Xab (by omega));rw [e] at h1
 have:=Xbd (h1.symm.trans h2)
 omega
inductive E__law_words (K:XFg) (vs:List V) (H:Hp) (Q:VK):Prop where
 | mk (c m:Int) (h0:vs=[.int c,.int m]) (h1:2≤m) (h2:m≤9) (h3:∀ (L:Addr) (ls:List Str) (H':Hp),ls.length=m.toNat→(∀ x∈ls,LowW x)→(ls.drop 4).Nodup→H L=none→Same H H'→H' L=some (.lst (ls.map V.str))→Q (.ref L) H'):E__law_words K vs H Q
def ZeE (K:XFg):Sp:=fun vs H Q _=>E__law_words K vs H Q
theorem ZhM (B : Blt mg) (F : Fun K "_law_words" "_law_words" ZcB f fd) : FnOk P w K mg base CX0 1 f fd ["_law_cell", "_law_many"] (ZeE K) := by
 refine F.ok sc__law_words (fun vs H Q E h=>?_) (fun cdv A outer s H vs Q E hr h=>?_)
 · obtain ⟨c,m,rfl,_⟩:=h
   rfl
 · obtain ⟨c, m, rfl, m0, m9, q⟩ := h
   refine ⟨_,(Zad (Zao (i:=2) sc__law_words.nd rfl (Or.inl rfl) Zaq)
    (Zad (Zao (i:=3) sc__law_words.nd rfl (Or.inl rfl) (Zap Zba Zaf (Zap ZaE (pv 0) Zaf)))
    (Zad (Zao (i:=4) sc__law_words.nd rfl (Or.inl rfl) (Zap ZaE (Zap ZaN (pv 0) Zaf) (pv 3)))
    (Zad (Zao (i:=5) sc__law_words.nd rfl (Or.inl rfl) (ZaM Zab))
    (Zad (ZaL Xbs rfl (ZbD rfl B.b_range (Zaa (pv 1) Zab)) (Zag (i:=6) sc__law_words.nd rfl (Or.inl rfl)) (Zad (Zao (i:=7) sc__law_words.nd rfl (Or.inl rfl) Zaq)
     (Zad (ZaL Xbs rfl (ZbD rfl B.b_range (Zaa (pv 3) Zab)) (Zag (i:=8) sc__law_words.nd rfl (Or.inl rfl)) (Zad (Zao (i:=9) sc__law_words.nd rfl (Or.inl rfl) (Zap Zba (Zap ZaN (Zap ZaN (pv 0) Zaf) (Zap Zba (pv 8) Zaf)) (Zap ZfP (pv 8) (pv 8))))
      (Zad (ZaS (Zav Zcf (pv 8) (pv 4) (ZaD _)) (Zae (ZfZ (i:=9) sc__law_words.nd rfl (Or.inl rfl) (pv 6) Zla)) Zau)
      (Zae (Zao (i:=7) sc__law_words.nd rfl (Or.inl rfl) (Zap ZgW (pv 7) (Zas Zam (pv 2) (Zap ZaE (pv 9) Zaf) (fun _ _=>rfl))))))))
     (Zae (ZaB (Zbl Xa9 Xba Xbb Zaw (pv 5) (Zaa (pv 7) Zab)))))))
    (Zad (ZaS (Zav Zcf (Zap ZaE (Zap ZaN (pv 0) Zaf) Zaf) Zaf (ZaD _)) (Zae (Zdl (Zap ZgW (Zas Zam (pv 5) Zaf (fun _ _=>rfl)) (Zas Zam (pv 2) (Zap ZaE (Zap ZaN (pv 0) Zaf) Zaf) (fun _ _=>rfl))) (pg_sub (pv 5) Zaf Zmo))) Zau)
    (Zae (Zar (pv 5))))))))),?_⟩
   try dsimp only [cxOf,Cx.nox,Cx.wish]
   refine Zhp ?_;try dsimp only
   refine ⟨_,rfl,_,_,rfl,rfl,(by show (0:Int)<7;decide),_,_,rfl,rfl,?_⟩;try dsimp only
   obtain ⟨z,ez⟩:∃ z,z=1+c % 7:=⟨_,rfl⟩;rw [←ez]
   have z0:1≤z∧z≤7:=by omega
   refine g_in ?_;try dsimp only
   refine ⟨_,rfl,_,_,rfl,rfl,⟨by decide,by decide⟩,_,rfl,_,_,rfl,rfl,(by show 0<z;omega),?_⟩;try dsimp only
   have a0:=Xa3 (c / 7) (show z≠0 by omega);have a1:=Xa2 (c / 7) (show 0<z by omega);generalize c / 7 % z=at0' at a0 a1 ⊢;obtain ⟨bs,ebs⟩:∃ bs,bs=c / 49 / (at0' + 1)+at0' * at0':=⟨_,rfl⟩;refine g_in ?_;try dsimp only
   refine ⟨by decide,fun L hL=>?_⟩;obtain ⟨H1,qH1,s1,eL1⟩:=new_at (o:=.lst []) hL;rw [←qH1];refine g_in ?_;try dsimp only
   refine ⟨_,rfl,_,rfl,by omega,by omega,Zb3 (lo:=0) (n:=m.toNat) (fun i σ H'=>∃ u6 u7 u8 u9 ls,σ=[some (.int c),some (.int m),some (.str "abcdefghijklmnopqrstuvwxyz"),some (.int z),some (.int at0'),some (.ref L),u6,u7,u8,u9]∧Same H H'∧H' L=some (.lst (ls.map V.str))∧ls.length=i∧(∀ x∈ls,LowW x∧x.length≤7)∧∀ (k:Nat) x,ls[k]?=some x→x.cps.toList[at0'.toNat]?=some (97+((bs+k) % 26).toNat)) ⟨none,none,none,none,[],rfl,s1,eL1,rfl,(fun x hx=>by simp at hx),fun k x hx=>by simp at hx⟩ ?_ ?_⟩
   rotate_left
   · rintro σ H2 ⟨u6, u7, u8, u9, ls, rfl, s2, eL2, hl, hlow, hch⟩
     have nd:=Zm1 hch (by omega);try dsimp only
     refine Zdd (fun σ' H'=>∃ ls:List Str,σ'=[some (.int c),some (.int m),some (.str "abcdefghijklmnopqrstuvwxyz"),some (.int z),some (.int at0'),some (.ref L),u6,u7,u8,u9]∧Same H H'∧H' L=some (.lst (ls.map V.str))∧ls.length=m.toNat∧(∀ x∈ls,LowW x)∧(ls.drop 4).Nodup) ?_ (fun N hN=>?_)
     case refine_2 =>
      refine ⟨_,rfl,_,_,rfl,rfl,⟨by decide,by decide⟩,_,_,rfl,rfl,(by show (0:Int)<3;decide),rfl,_,rfl,ite2 (fun _=>?_) (fun _=>hN _ _ ⟨ls,rfl,s2,eL2,hl,fun x hx=>(hlow x hx).1,nd⟩)⟩;have y0:=Xa3 (c / 147) (by decide:(26:Int)≠0);have y1:=Xa2 (c / 147) (by decide:(0:Int)<26)
      obtain ⟨cc,hcc⟩:=atI_in (xs:=(("abcdefghijklmnopqrstuvwxyz" : Str)).cps.toList) y0 (by rw [let26];exact y1)
      have hw0:=Xab (show 0<ls.length by omega);obtain ⟨lw,l7⟩:=hlow _ (Xav (show 0<ls.length by omega));have hat:atI (ls.map V.str) 0=some (V.str (ls[0]'(by omega))):=ZaQ (j:=0) (by rw [Xag,hw0];rfl);generalize ls[0]'(by omega)=w0 at lw l7 hat;refine ⟨_,rfl,Or.inl ⟨L,_,_,.str w0,rfl,rfl,SqL.of eL2,hat,_,rfl,_,rfl,_,_,rfl,rfl,⟨by decide,by decide⟩,_,_,rfl,rfl,(by show (0:Int)<26;decide),Or.inr (Or.inr ⟨_,_,cc,rfl,rfl,by decide +kernel,hcc,w0,_,rfl,rfl,?_,_,rfl,L,_,_,1,rfl,rfl,eL2,?_,?_⟩)⟩⟩
      · show w0.length+1≤sizeLine
        exact XaY (Zal (by omega))
      · exact ixN_in (k:=1) (by decide) (by rw [Xaa];omega)
      · refine hN _ _ ⟨ls.set 1 (w0++⟨#[cc]⟩),rfl,fun b o e=>?_,by rw [upd_same,List.map_set],by rw [XaD];exact hl,fun x hx=>?_,by rw [List.drop_set_of_lt (by decide)];exact nd⟩
        · rw [Zah (Zac e hL)];exact s2 _ _ e
        · rcases List.mem_or_eq_of_mem_set hx with hx | rfl
          · exact (hlow x hx).1
          · refine ⟨by rw [ZhL];omega,by rw [ZhL];omega,fun d hd=>?_⟩
            rcases Zl4 hd with hd | rfl
            · exact lw.2.2 d hd
            · exact letLow _ (ZlE hcc)
     rintro σ' H3 ⟨ls,rfl,s3,eL3,hl,hlow,hnd⟩;exact ⟨_,rfl,q L ls H3 hl hlow hnd hL s3 eL3⟩
   rintro i σ H2 hi ⟨u6,u7,u8,u9,ls,rfl,s2,eL2,hl,hlow,hch⟩;refine g_in ?_;try dsimp only
   refine Zhp ?_;try dsimp only
   refine ⟨_,rfl,_,rfl,by omega,by omega,Zb3 (lo:=0) (n:=z.toNat) (fun j σ H'=>∃ (w:Str) (u8 u9:Option V),σ=[some (.int c),some (.int m),some (.str "abcdefghijklmnopqrstuvwxyz"),some (.int z),some (.int at0'),some (.ref L),some (.int (0+(i:Int))),some (.str w),u8,u9]∧H'=H2∧w.length=j∧(∀ d∈w.cps.toList,97≤d∧d≤122)∧(at0'.toNat<j→w.cps.toList[at0'.toNat]?=some (97+((bs+i) % 26).toNat))) ⟨"",_,_,rfl,rfl,by decide +kernel,by decide +kernel,fun h=>absurd h (Nat.not_lt_zero _)⟩ ?_ ?_⟩
   rotate_left
   · rintro σ H3 ⟨w,u8,u9,rfl,rfl,hw,hwl,hwc⟩
     refine ⟨_,rfl,Or.inl ⟨rfl,_,SqL.of eL2⟩,_,rfl,L,_,_,rfl,rfl,eL2,by rw [Xaa,hl];exact Zal (by omega),?_⟩;refine ⟨_,_,_,_,ls++[w],rfl,fun b o e=>?_,by rw [upd_same,Xad];rfl,by rw [Xac,hl];rfl,fun x hx=>?_,fun k x hx=>?_⟩
     · rw [Zah (Zac e hL)];exact s2 _ _ e
     · rcases Xaf.mp hx with hx | hx
       · exact hlow x hx
       · rw [Xaj.mp hx]
         exact ⟨⟨by omega,by omega,hwl⟩,by omega⟩
     · rcases Nat.lt_trichotomy k ls.length with h | h | h
       · rw [Xat h] at hx;exact hch k x hx
       · subst h
         rw [Xay (XaW _),Nat.sub_self] at hx;cases hx;rw [hl];exact hwc (by omega)
       · rw [XaJ (by rw [Xac,Xau];omega)] at hx;cases hx
   rintro j σ H3 hj ⟨w,u8,u9,rfl,rfl,hw,hwl,hwc⟩;refine g_in ?_;try dsimp only
   refine ⟨_,rfl,_,_,rfl,rfl,⟨by decide,by decide⟩,_,rfl,_,_,rfl,rfl,_,_,rfl,rfl,⟨by omega,by omega⟩,_,rfl,_,rfl,_,_,rfl,rfl,Or.inl ⟨by omega,by omega⟩,_,_,rfl,rfl,?_⟩;try dsimp only
   have hnb:(0+(j:Int))=at0'→c / 49 / (0+(j:Int)+1)+(0+(j:Int)) * (0+(j:Int))=bs:=fun e=>by rw [e,ebs]
   generalize c / 49 / (0+(j:Int)+1)+(0+(j:Int)) * (0+(j:Int))=num at hnb ⊢;refine g_in ?_;try dsimp only
   refine Zdd (fun σ' H'=>∃ num:Int,σ'=[some (.int c),some (.int m),some (.str "abcdefghijklmnopqrstuvwxyz"),some (.int z),some (.int at0'),some (.ref L),some (.int (0+(i:Int))),some (.str w),some (.int (0+(j:Int))),some (.int num)]∧H'=H3∧((0+(j:Int))=at0'→num=bs+i)) ?_ (fun N hN=>?_)
   case refine_2 =>
    refine ⟨_,rfl,_,rfl,rfl,_,rfl,ite2 (fun h=>?_) (fun h=>?_)⟩
    · exact ⟨_,rfl,_,rfl,_,_,rfl,rfl,hN _ _ ⟨_,rfl,rfl,fun e=>by rw [hnb e,Int.zero_add]⟩⟩
    · exact hN _ _ ⟨_,rfl,rfl,fun e=>absurd (Xa6 (by rw [e])) h⟩
   rintro σ' H4 ⟨num,rfl,rfl,hnum⟩;have y0:=Xa3 num (by decide:(26:Int)≠0);have y1:=Xa2 num (by decide:(0:Int)<26)
   obtain ⟨cc,hcc⟩:=atI_in (xs:=(("abcdefghijklmnopqrstuvwxyz" : Str)).cps.toList) y0 (by rw [let26];exact y1)
   refine ⟨_,rfl,_,rfl,_,rfl,_,_,rfl,rfl,(by show (0:Int)<26;decide),Or.inr (Or.inr ⟨_,_,cc,rfl,rfl,by decide +kernel,hcc,w,_,rfl,rfl,?_,?_⟩)⟩
   · show w.length+1≤sizeLine
     exact XaY (Zal (by omega))
   · refine ⟨_,_,_,rfl,rfl,by rw [ZhL,hw],fun d hd=>?_,fun h=>?_⟩
     · rcases Zl4 hd with hd | rfl
       · exact hwl d hd
       · exact letLow _ (ZlE hcc)
     · rw [ZkQ]
       have hwt:w.cps.toList.length=j:=by rw [←hw];simp [Str.length]
       by_cases h2:at0'.toNat<j
       · rw [Xat (by rw [hwt];exact h2)];exact hwc h2
       · have e:at0'.toNat=j:=Nat.le_antisymm (Nat.le_of_lt_succ h) (Nat.le_of_not_lt h2)
         rw [e,Xay (by rw [hwt];exact XaW _),hwt,Nat.sub_self,let_of y0 y1 hcc,hnum (by rw [Int.zero_add,←e];exact Int.toNat_of_nonneg a0)];rfl
variable (P w K mg base) in
abbrev ZcM:Prop:=Zax P w K mg base "_law_words" 1 ["_law_cell", "_law_many"] (ZeE K)
theorem Zgd (B:Blt mg) (F:Fun K "_law_words" "_law_words" ZcB f fd) (hm:mg "_law_words" = some (.ref f)):ZcM P w K mg base :=
 ⟨f,fd,ZhM B  F,hm,F.kp,F.binds fun _ _ _ _ _ _ us hl=>(by obtain ⟨x0,x1,rfl⟩:=Zd5 hl;rfl)⟩
theorem Zl5 {ns:List Int}{k:Int} (hk:0≤k) (hlt:k<ns.length):atI (ns.map V.int) k=some (V.int (Zd9 ns k)):=by
 obtain ⟨n,rfl⟩:=Xa4 hk
 have hn:n<ns.length:=by omega
 refine ZaQ ?_;rw [Xag,Xab hn];show some (V.int ns[n])=some (V.int ((ns[((n:Int)).toNat]?).getD 0));rw [Xa5,Xab hn];rfl
theorem Zl6 {ns:List Int}{k:Int} (hk:0≤k) (hlt:¬k<ns.length):Zd9 ns k=0:=by
 unfold Zd9;rw [XaJ (by omega)];rfl
def Zdz (K:XFg):Sp:=fun vs H Q _=>∃ a ns k,vs=[.ref a,.int k]∧0≤k∧SqL K H a (ns.map V.int)∧Q (.int (Zd9 ns k)) H
theorem Zge (B:Blt mg) (F:Fun K "_law_cell_at" "_law_cell_at" ZbS f fd):FnOk P w K mg base CX0 1 f fd ["_law_script", "_law_k"] (Zdz K):=by
 refine F.ok Zf9 (fun vs H Q E h=>?_) (fun cdv A outer s H vs Q E hr h=>?_)
 · obtain ⟨a,ns,k,rfl,_⟩:=h
   rfl
 · obtain ⟨a,ns,k,rfl,hk,hS,q⟩:=h
   refine ⟨_,(Zad (ZaS (Zav Zib (pv 1) (Zan Zay (by rfl) B.b_len (by decide +kernel) (Zaa (pv 0) Zab)) (ZaD _)) (Zae (Zar (Zas Zam (pv 0) (pv 1) (fun _ _=>rfl)))) Zau)
    (Zae (Zar Zaf))),?_⟩
   try dsimp only [cxOf,Cx.nox,Cx.wish]
   refine ⟨_,rfl,_,rfl,_,_,rfl,Or.inl ⟨_,hS,rfl⟩,_,_,rfl,rfl,_,rfl,?_⟩;rw [Xaa];refine ite2 (fun hlt=>?_) (fun hge=>?_)
   · have hlt:=Xa8 hlt
     exact ⟨_,rfl,_,rfl,Or.inl ⟨_,_,_,_,rfl,rfl,hS,Zl5 hk hlt,q⟩⟩
   · have hge:¬k<(ns.length:Int):=fun z=>hge (Xa6 z)
     show Q (.int 0) H;rw [Zl6 hk hge] at q;exact q
variable (P w K mg base) in
abbrev Zbb:Prop:=Zax P w K mg base "_law_cell_at" 1 ["_law_script", "_law_k"] (Zdz K)
theorem Ze9 (B:Blt mg) (F:Fun K "_law_cell_at" "_law_cell_at" ZbS f fd) (hm:mg "_law_cell_at" = some (.ref f)):Zbb P w K mg base :=
 ⟨f,fd,Zge B  F,hm,F.kp,F.binds fun _ _ _ _ _ _ us hl=>(by obtain ⟨x0,x1,rfl⟩:=Zd5 hl;rfl)⟩
inductive E__law_stream (K:XFg) (vs:List V) (H:Hp) (Q:VK):Prop where
 | mk (c m:Int) (h0:vs=[.int c,.int m]) (h1:0≤m) (h2:m≤60) (h3:∀ (L:Addr) (xs:List Int) (H':Hp),xs.length=m.toNat→H L=none→Same H H'→H' L=some (.lst (xs.map V.int))→Q (.ref L) H'):E__law_stream K vs H Q
def Zed (K:XFg):Sp:=fun vs H Q _=>E__law_stream K vs H Q
theorem ZgG (B:Blt mg) (F:Fun K "_law_stream" "_law_stream" Zb9 f fd):FnOk P w K mg base CX0 1 f fd ["_law_cell", "_law_many"] (Zed K):=by
 refine F.ok sc__law_stream (fun vs H Q E h=>?_) (fun cdv A outer s H vs Q E hr h=>?_)
 · obtain ⟨c,m,rfl,_⟩:=h
   rfl
 · obtain ⟨c,m,rfl,m0,m6,q⟩:=h
   refine ⟨_,(Zad (Zao (i:=2) sc__law_stream.nd rfl (Or.inl rfl) (ZaM Zab))
    (Zad (Zao (i:=3) sc__law_stream.nd rfl (Or.inl rfl) (Zap Zba (Zap ZaE (pv 0) Zaf) Zaf))
    (Zad (ZaL Xbs rfl (ZbD rfl B.b_range (Zaa (pv 1) Zab)) (Zag (i:=4) sc__law_stream.nd rfl (Or.inl rfl)) (Zad (Zao (i:=3) sc__law_stream.nd rfl (Or.inl rfl) (Zap ZaE (Zap Zba (Zap Zba (Zap ZfP (pv 3) (pv 3)) (Zap ZfP Zaf (pv 3))) (pv 4)) Zaf))
     (Zae (ZaB (Zbl Xa9 Xba Xbb Zaw (pv 2) (Zaa (Zap ZaN (pv 3) Zaf) Zab))))))
    (Zae (Zar (pv 2)))))),?_⟩
   try dsimp only [cxOf,Cx.nox,Cx.wish]
   refine ⟨by decide,fun L hL=>?_⟩;obtain ⟨H1,qH1,s1,eL1⟩:=new_at (o:=.lst []) hL;rw [←qH1];have n0:=Xa3 c (by decide:(2147483629:Int)≠0);have n1:=Xa2 c (by decide:(0:Int)<2147483629);refine ⟨_,rfl,_,_,rfl,rfl,(by show (0:Int)<2147483629;decide),_,_,rfl,rfl,?_⟩;try dsimp only
   obtain ⟨num,enum⟩:∃ num,num=c % 2147483629+1:=⟨_,rfl⟩;rw [←enum];refine g_in ?_;try dsimp only
   refine ⟨_,rfl,_,rfl,by omega,by omega,Zb3 (lo:=0) (n:=m.toNat)
    (fun i σ H'=>∃ num u4 xs,σ=[some (.int c),some (.int m),some (.ref L),some (.int num),u4]∧0≤num∧num<2147483647∧Same H H'∧H' L=some (.lst (xs.map V.int))∧xs.length=i)
    ⟨num,none,[],rfl,by omega,by omega,s1,eL1,rfl⟩ ?_ ?_⟩
   rotate_left
   · rintro σ H2 ⟨num,u4,xs,rfl,p0,p1,s2,eL2,hl⟩
     exact ⟨_,rfl,q L xs H2 hl hL s2 eL2⟩
   rintro i σ H2 hi ⟨num,u4,xs,rfl,p0,p1,s2,eL2,hl⟩;refine ⟨_,rfl,_,rfl,_,_,rfl,rfl,Or.inl ⟨by omega,by omega⟩,_,rfl,_,_,rfl,rfl,Or.inl ⟨by decide,by decide⟩,_,_,rfl,rfl,_,rfl,_,_,rfl,rfl,_,_,rfl,rfl,(by show (0:Int)<2147483647;decide),?_⟩;try dsimp only
   generalize num * num+48271 * num+(0+(i:Int))=big;have b0:=Xa3 big (by decide:(2147483647:Int)≠0);have b1:=Xa2 big (by decide:(0:Int)<2147483647);generalize big % 2147483647=nn at b0 b1 ⊢;refine g_in ?_;try dsimp only
   refine ⟨_,rfl,Or.inl ⟨rfl,_,SqL.of eL2⟩,_,rfl,_,_,rfl,rfl,⟨by decide,by decide⟩,L,_,_,rfl,rfl,eL2,by rw [Xaa,hl];exact Zal (by omega),?_⟩;refine ⟨nn,_,xs++[nn / 8],rfl,b0,b1,fun b o e=>?_,by rw [upd_same,Xad];rfl,by rw [Xac,hl];rfl⟩;rw [Zah (Zac e hL)];exact s2 _ _ e
variable (P w K mg base) in
abbrev ZaT:Prop:=Zax P w K mg base "_law_stream" 1 ["_law_cell", "_law_many"] (Zed K)
theorem ZfA (B:Blt mg) (F:Fun K "_law_stream" "_law_stream" Zb9 f fd) (hm:mg "_law_stream" = some (.ref f)):ZaT P w K mg base :=
 ⟨f,fd,ZgG B  F,hm,F.kp,F.binds fun _ _ _ _ _ _ us hl=>(by obtain ⟨x0,x1,rfl⟩:=Zd5 hl;rfl)⟩
def Zcw (a b:Int):Bool:=!(decide (b % 4<a % 4) || decide (b / 4 % 4<a / 4 % 4)) && decide (a % 16≠b % 16)
inductive E__law_under (K:XFg) (vs:List V) (H:Hp) (Q:VK):Prop where
 | mk (a b:Int) (h0:vs=[.int a,.int b]) (h1:Q (.bl (Zcw a b)) H):E__law_under K vs H Q
def ZeF (K:XFg):Sp:=fun vs H Q _=>E__law_under K vs H Q
theorem ZhN (B:Blt mg) (F:Fun K "_law_under" "_law_under" ZcC f fd):FnOk P w K mg base CX0 1 f fd ["_law_one", "_law_other"] (ZeF K):=by
 refine F.ok ZhH (fun vs H Q E h=>?_) (fun cdv A outer s H vs Q E hr h=>?_)
 · obtain ⟨a,b,rfl,_⟩:=h
   rfl
 · obtain ⟨a,b,rfl,q⟩:=h
   refine ⟨_,(Zad (ZaS (PW.pt (ZgD (Zav Zhk (Zap ZaE (pv 0) Zaf) (Zap ZaE (pv 1) Zaf) (ZaD _)) (Zh9 (Zav Zhk (Zap ZaE (Zap ZaN (pv 0) Zaf) Zaf) (Zap ZaE (Zap ZaN (pv 1) Zaf) Zaf) (ZaD _))))) (Zae (Zar Zh7)) Zau)
    (Zae (Zar (Zb6 op_ne (Zap ZaE (pv 0) Zaf) (Zap ZaE (pv 1) Zaf) (ZaD _))))),?_⟩
   try dsimp only [cxOf,Cx.nox,Cx.wish]
   refine ⟨_,rfl,_,_,rfl,rfl,(by show (0:Int)<4;decide),_,rfl,_,_,rfl,rfl,(by show (0:Int)<4;decide),_,_,rfl,rfl,_,rfl,ite2 (fun h1=>iteT ?_) (fun h1=>?_)⟩
   · have h1:=Xa8 h1
     rw [show Zcw a b=false by unfold Zcw;rw [Xa6 h1];rfl] at q;exact q
   have h1:¬b % 4<a % 4:=fun z=>h1 (Xa6 z);refine ⟨_,rfl,_,_,rfl,rfl,⟨by decide,by decide⟩,_,_,rfl,rfl,(by show (0:Int)<4;decide),_,rfl,_,_,rfl,rfl,⟨by decide,by decide⟩,_,_,rfl,rfl,(by show (0:Int)<4;decide),_,_,rfl,rfl,_,rfl,ite2 (fun h2=>?_) (fun h2=>?_)⟩
   · have h2:=Xa8 h2
     rw [show Zcw a b=false by unfold Zcw;rw [Xa6 h2,Bool.or_true];rfl] at q;exact q
   have h2:¬b / 4 % 4<a / 4 % 4:=fun z=>h2 (Xa6 z);refine ⟨_,rfl,_,_,rfl,rfl,(by show (0:Int)<16;decide),_,rfl,_,_,rfl,rfl,(by show (0:Int)<16;decide),rfl,?_⟩;rw [show Zcw a b=!decide (V.int (a % 16)=V.int (b % 16)) by unfold Zcw;rw [Xa7 h1,Xa7 h2];simp] at q;exact q
variable (P w K mg base) in
abbrev ZcN:Prop:=Zax P w K mg base "_law_under" 1 ["_law_one", "_law_other"] (ZeF K)
theorem Zgf (B:Blt mg) (F:Fun K "_law_under" "_law_under" ZcC f fd) (hm:mg "_law_under" = some (.ref f)):ZcN P w K mg base :=
 ⟨f,fd,ZhN B  F,hm,F.kp,F.binds fun _ _ _ _ _ _ us hl=>(by obtain ⟨x0,x1,rfl⟩:=Zd5 hl;rfl)⟩
theorem Zl7 (a:Int):Zcw a a=false:=by unfold Zcw;simp
theorem m16 (x:Int):x % 16=4 * (x / 4 % 4)+x % 4:=by omega
theorem Zm2 {a b c:Int} (h1:Zcw a b=true) (h2:Zcw b c=true):Zcw a c=true:=by
 unfold Zcw at *;rw [m16 a,m16 b] at h1;rw [m16 b,m16 c] at h2;rw [m16 a,m16 c];generalize a % 4=a1,a / 4 % 4=a2,b % 4=b1,b / 4 % 4=b2,c % 4=c1,c / 4 % 4=c2 at *;simp only [Bool.and_eq_true,Bool.not_eq_true',Bool.or_eq_false_iff,decide_eq_false_iff_not,decide_eq_true_eq] at *;omega
def ZgH (ls:List Str) (xs:List Int) (j k:Nat) (p:Str×Str):Prop:=∃ a b:Nat,(a<j∨(a=j∧b<k))∧b<5∧ls[a]?=some p.1∧ls[b]?=some p.2∧Zcw (xs.getD (41+a) 0) (xs.getD (41+b) 0)=true
theorem Zkn {ls:List Str}{xs:List Int}{j k:Nat} (hk:k<5) {la lb:Str} (ha:ls[j]?=some la) (hb:ls[k]?=some lb) {p:Str×Str}:ZgH ls xs j (k+1) p↔ZgH ls xs j k p∨(p=(la,lb)∧Zcw (xs.getD (41+j) 0) (xs.getD (41+k) 0)=true):=by
 constructor
 · rintro ⟨a,b,h | ⟨rfl,h⟩,h5,e1,e2,hu⟩
   · exact .inl ⟨a,b,.inl h,h5,e1,e2,hu⟩
   · by_cases e:b=k
     · subst e
       refine .inr ⟨?_,hu⟩;rw [ha] at e1;rw [hb] at e2;cases e1;cases e2;rfl
     · exact .inl ⟨a,b,.inr ⟨rfl,by omega⟩,h5,e1,e2,hu⟩
 · rintro (⟨a,b,h,h5,e1,e2,hu⟩ | ⟨rfl,hu⟩)
   · exact ⟨a,b,h.imp id fun z=>⟨z.1,by omega⟩,h5,e1,e2,hu⟩
   · exact ⟨j,k,.inr ⟨rfl,Xa0 k⟩,hk,ha,hb,hu⟩
theorem ord_row {ls:List Str}{xs:List Int}{j:Nat}{p:Str×Str}:ZgH ls xs j 5 p↔ZgH ls xs (j+1) 0 p:=by
 constructor
 · rintro ⟨a,b,h,h5,r⟩;exact ⟨a,b,.inl (by omega),h5,r⟩
 · rintro ⟨a,b,h,h5,r⟩;exact ⟨a,b,by omega,h5,r⟩
theorem ord_irr {ls:List Str}{xs:List Int}{j k:Nat} (nd:ls.Nodup) {x:Str} (h:ZgH ls xs j k (x,x)):False:=by
 obtain ⟨a,b,_,_,e1,e2,hu⟩:=h
 have:a=b:=(List.getElem?_inj (Xae.mp e1).1 nd).mp (e1.trans e2.symm)
 subst this;rw [Zl7] at hu;cases hu
theorem ord_tr {ls:List Str}{xs:List Int} (nd:ls.Nodup) {x y z:Str} (h1:ZgH ls xs 5 0 (x,y)) (h2:ZgH ls xs 5 0 (y,z)):ZgH ls xs 5 0 (x,z):=by
 obtain ⟨a,b,ha,_,e1,e2,hu⟩:=h1;obtain ⟨b',c,_,hc,e3,e4,hu2⟩:=h2
 have:b=b':=(List.getElem?_inj (Xae.mp e2).1 nd).mp (e2.trans e3.symm)
 subst this;exact ⟨a,c,ha.imp id fun z=>absurd z.2 (Nat.not_lt_zero _),hc,e1,e4,Zm2 hu hu2⟩
inductive E__law_table (K:XFg) (vs:List V) (H:Hp) (Q:VK):Prop where
 | mk (c:Int) (L:Addr) (ls:List Str) (h0:vs=[.int c,.ref L]) (h1:SqL K H L (ls.map V.str)) (h2:ls.length=5) (h3:ls.Nodup) (h4:∀ (t:Addr) (sts:List Stt) (inn:Int) (ord:List (Str×Str)) (H':Hp),H t=none→Same H H'→Tab K (fun x=>H x=none) H' t sts inn ord→TabOk sts inn ord→Q (.ref t) H'):E__law_table K vs H Q
def ZeG (K:XFg):Sp:=fun vs H Q _=>E__law_table K vs H Q
theorem ZhO (B:Blt mg) (c__law_stream:ZaT P w K mg base) (c__law_under:ZcN P w K mg base) (F:Fun K "_law_table" "_law_table" ZcD f fd):FnOk P w K mg base CX0 2 f fd ["_law_cell", "_law_labels"] (ZeG K):=by
 refine F.ok sc__law_table (fun vs H Q E h=>?_) (fun cdv A outer s H vs Q E hr h=>?_)
 · obtain ⟨c,L,ls,rfl,_⟩:=h
   rfl
 · obtain ⟨c,L,ls,rfl,hL,l5,nd,q⟩:=h
   refine ⟨_,(Zad (Zao (i:=2) sc__law_table.nd rfl (Or.inl rfl) (ZaC c__law_stream (hr.mono (by decide)) rfl (Zaa (pv 0) (Zaa Zaf Zab))))
    (Zad (Zao (i:=3) sc__law_table.nd rfl (Or.inl rfl) (Zap Zba Zaf (Zap ZaE (Zas Zam (pv 2) Zaf (fun _ _=>rfl)) Zaf)))
    (Zad (Zao (i:=4) sc__law_table.nd rfl (Or.inl rfl) (ZaM Zab))
    (Zad (ZaL Xbs rfl (ZbD rfl B.b_range (Zaa (pv 3) Zab)) (Zag (i:=5) sc__law_table.nd rfl (Or.inl rfl)) (Zad (Zao (i:=6) sc__law_table.nd rfl (Or.inl rfl) (ZaM Zab))
     (Zad (Zao (i:=7) sc__law_table.nd rfl (Or.inl rfl) (ZaM Zab))
     (Zad (ZaL Xbs rfl (ZbD rfl B.b_range (Zaa Zaf Zab)) (Zag (i:=8) sc__law_table.nd rfl (Or.inl rfl)) (Zad (ZaS (Zav Zhk (Zap ZaE (Zas Zam (pv 2) (Zap Zba (Zap Zba Zaf (Zap ZfP Zaf (pv 5))) (pv 8)) (fun _ _=>rfl)) Zaf) Zaf (ZaD _)) (Zae (ZaB (Zbl Xa9 Xba Xbb Zaw (pv 6) (Zaa (Zat (Zaa (Zas Zam (pv 1) (pv 8) (fun _ _=>rfl)) (Zaa (Zap ZaE (Zap ZaN (Zas Zam (pv 2) (Zap Zba (Zap Zba Zaf (Zap ZfP Zaf (pv 5))) (pv 8)) (fun _ _=>rfl)) Zaf) (pv 3)) Zab))) Zab)))) Zau)
      (Zae (ZaS (Zav Zhk (Zap ZaE (Zas Zam (pv 2) (Zap Zba (Zap Zba Zaf (Zap ZfP Zaf (pv 5))) (pv 8)) (fun _ _=>rfl)) Zaf) Zaf (ZaD _)) (Zae (ZaB (Zbl Xa9 Xba Xbb Zaw (pv 7) (Zaa (Zas Zam (pv 1) (pv 8) (fun _ _=>rfl)) Zab)))) Zau))))
     (Zae (ZaB (Zbl Xa9 Xba Xbb Zaw (pv 4) (Zaa (Zat (Zaa (Zan (Ze6 strC intC) (by rfl) B.b_sorted (by decide +kernel) (Zaa (pv 6) Zab)) (Zaa (Zan Zg1 (by rfl) B.b_sorted (by decide +kernel) (Zaa (pv 7) Zab)) Zab))) Zab))))))))
    (Zad (Zao (i:=9) sc__law_table.nd rfl (Or.inl rfl) (ZaM Zab))
    (Zad (ZaL Xbs rfl (ZbD rfl B.b_range (Zaa Zaf Zab)) (Zag (i:=8) sc__law_table.nd rfl (Or.inl rfl)) (Zae (ZaL Xbs rfl (ZbD rfl B.b_range (Zaa Zaf Zab)) (Zag (i:=5) sc__law_table.nd rfl (Or.inl rfl)) (Zae (ZaS (Zb7 (ZaC c__law_under (hr.mono (by decide)) rfl (Zaa (Zas Zam (pv 2) (Zap Zba Zaf (pv 8)) (fun _ _=>rfl)) (Zaa (Zas Zam (pv 2) (Zap Zba Zaf (pv 5)) (fun _ _=>rfl)) Zab)))) (Zae (ZaB (Zbl Xa9 Xba Xbb Zaw (pv 9) (Zaa (Zat (Zaa (Zas Zam (pv 1) (pv 8) (fun _ _=>rfl)) (Zaa (Zas Zam (pv 1) (pv 5) (fun _ _=>rfl)) Zab))) Zab)))) Zau)))))
    (Zae (Zar (Zat (Zaa (pv 4) (Zaa (Zap ZaE (Zas Zam (pv 2) Zaf (fun _ _=>rfl)) (pv 3)) (Zaa (Zan (Ze6 strC strC) (by rfl) B.b_sorted (by decide +kernel) (Zaa (pv 9) Zab)) Zab)))))))))))),?_⟩
   try dsimp only [cxOf,Cx.nox,Cx.wish]
   refine ⟨_,rfl,c,47,rfl,by decide,by decide,fun X xs H1 hxl hX s1 eX=>?_⟩;have hx47:xs.length=47:=hxl;refine g_in ?_;try dsimp only
   have ixx:∀ (i:Int),0≤i→i<47→∃ v,atI (xs.map V.int) i=some (.int v):=fun i h0 h1=>ints_at h0 (by omega);have ixl:∀ (i:Int),0≤i→i<5→∃ x∈ls,atI (ls.map V.str) i=some (.str x):=fun i h0 h1=>Zf3 h0 (by omega);obtain ⟨x0,hx0⟩:=ixx 0 (by decide) (by decide);refine ⟨_,rfl,Or.inl ⟨X,_,_,.int x0,rfl,rfl,SqL.of eX,hx0,_,_,rfl,rfl,(by show (0:Int)<4;decide),_,_,rfl,rfl,?_⟩⟩;try dsimp only
   obtain ⟨m,em⟩:∃ m,m=1+x0 % 4:=⟨_,rfl⟩;rw [←em]
   have m0:1≤m∧m≤4:=by omega
   refine g_in ?_;try dsimp only
   refine ⟨by decide,fun D hD=>?_⟩;have hDH:H D=none:=s1.free hD;obtain ⟨H2,qH2,s2,eD2⟩:=new_at (o:=.lst []) hD;rw [←qH2];refine g_in ?_;try dsimp only
   have nXD:X≠D:=Zac eX hD
   have L2:∀ {H':Hp},Keeps (·=D) H2 H'→SqL K H' L (ls.map V.str):=fun {H'} k=>by
    have h1:=(s1.trans s2).seq hL
    rcases hL with (h | ⟨u,h⟩) | h
    · exact .inl (.inl (k.at_ _ _ (s2 _ _ (s1 _ _ h)) (Zac h hDH)))
    · exact .inl (.inr ⟨u,k.at_ _ _ (s2 _ _ (s1 _ _ h)) (Zac h hDH)⟩)
    · exact .inr h
   have up:∀ {H':Hp},Keeps (·=D) H2 H'→Same H H':=fun k x o e=>k.at_ _ _ (s2 _ _ (s1 _ _ e)) (Zac e hDH)
   refine ⟨_,rfl,_,rfl,by omega,by omega,Zb3 (lo:=0) (n:=m.toNat) (fun i σ H'=>∃ u5 u6 u7 u8 u9 us rs,σ=[some (.int c),some (.ref L),some (.ref X),some (.int m),some (.ref D),u5,u6,u7,u8,u9]∧Keeps (·=D) H2 H'∧H' D=some (.lst (us.map V.ref))∧StRows K (fun x=>H x=none) H' D us rs∧rs.length=i∧∀ r∈rs,(∀ p∈r.1,0≤p.2∧p.2<m)∧r.1.length≤5∧r.2.length≤5)
    ⟨none,none,none,none,none,[],[],rfl,Keeps.refl fun x o m e=>by rw [m,eD2] at e;exact ⟨_,(Xbd e).symm⟩,eD2,StRows.nil,rfl,fun r hr=>by simp at hr⟩ ?_ ?_⟩
   · -- a state
     rintro i σ H3 hi ⟨u5,u6,u7,u8,u9,us,rs,rfl,k3,eD3,SR3,hrl,hok⟩
     have i4:i<4:=by omega
     refine ⟨by decide,fun G0 hG0=>?_⟩;obtain ⟨H4,qH4,s4,eG4⟩:=new_at (o:=.lst []) hG0;rw [←qH4];refine g_in ?_;try dsimp only
     refine ⟨by decide,fun E0 hE0=>?_⟩;have s5:=Zak (o:=.lst []) hE0;have eE5:(upd H4 E0 (.lst [])) E0=some (.lst []):=upd_same;have eG5':=s5 _ _ eG4;generalize upd H4 E0 (.lst [])=H5 at s5 eE5 eG5' ⊢;refine g_in ?_;try dsimp only
     have s35:=s4.trans s5;have nGE:G0≠E0:=Zac eG4 hE0;have eX3:=k3.at_ _ _ (s2 _ _ eX) nXD;have hE3:H3 E0=none:=s4.free hE0;have nXG:X≠G0:=Zac eX3 hG0;have nXE:X≠E0:=Zac eX3 hE3;have nDG:D≠G0:=Zac eD3 hG0;have nDE:D≠E0:=Zac eD3 hE3;have L3:=L2 k3
     have Lk:∀ {H':Hp},Keeps (fun x=>x=G0∨x=E0) H5 H'→SqL K H' L (ls.map V.str):=fun {H'} k=>by
      rcases L3 with (h | ⟨u,h⟩) | h
      · exact .inl (.inl (k.at_ _ _ (s35 _ _ h) fun z=>z.elim (Zac h hG0) (Zac h hE3)))
      · exact .inl (.inr ⟨u,k.at_ _ _ (s35 _ _ h) fun z=>z.elim (Zac h hG0) (Zac h hE3)⟩)
      · exact .inr h
     have up5:∀ {H':Hp},Keeps (fun x=>x=G0∨x=E0) H5 H'→Same H3 H':=fun k x o e=>k.at_ _ _ (s35 _ _ e) fun z=>z.elim (Zac e hG0) (Zac e hE3)
     have lsk:∀ x o,(x=G0∨x=E0)→H5 x=some o→∃ xs,o=HO.lst xs:=fun x o m e=>by
      rcases m with rfl | rfl
      · rw [eG5'] at e;exact ⟨_,(Xbd e).symm⟩
      · rw [eE5] at e;exact ⟨_,(Xbd e).symm⟩
     refine ⟨5,rfl,by decide,by decide,Zb3 (lo:=0) (n:=5) (fun j σ H'=>∃ u8 ts gs es,σ=[some (.int c),some (.ref L),some (.ref X),some (.int m),some (.ref D),some (.int (0+(i:Int))),some (.ref G0),some (.ref E0),u8,u9]∧Keeps (fun x=>x=G0∨x=E0) H5 H'∧H' G0=some (.lst (ts.map V.ref))∧GT H' ts gs∧gs.length≤j∧(∀ p∈gs,0≤p.2∧p.2<m)∧H' E0=some (.lst (es.map V.str))∧es.length≤j)
      ⟨_,[],[],[],rfl,⟨fun x o e _=>e,lsk⟩,eG5',GT.nil,XaW _,fun p hp=>by simp at hp,eE5,XaW _⟩ ?_ ?_⟩
     · rintro j σ H6 hj ⟨u8,ts,gs,es,rfl,k6,eG6,T6,hgl,hgm,eE6,hel⟩
       refine g_in ?_;try dsimp only
       have eX6:=k6.at_ _ _ (s35 _ _ eX3) fun z=>z.elim nXG nXE;have L6:=Lk k6;obtain ⟨v1,hv1⟩:=ixx (1+5 * (0+(i:Int))+(0+(j:Int))) (by omega) (by omega);obtain ⟨v2,hv2⟩:=ixx (21+5 * (0+(i:Int))+(0+(j:Int))) (by omega) (by omega);obtain ⟨lb,hlb,hvl⟩:=ixl (0+(j:Int)) (by omega) (by omega)
       have lts:(ts.map V.ref).length<sizeLine:=by rw [Xaa,T6.len];exact Zal (by omega)
       have les:(es.map V.str).length<sizeLine:=by rw [Xaa];exact Zal (by omega)
       refine Zdd (fun σ' H'=>∃ ts gs,σ'=[some (.int c),some (.ref L),some (.ref X),some (.int m),some (.ref D),some (.int (0+(i:Int))),some (.ref G0),some (.ref E0),some (.int (0+(j:Int))),u9]∧Keeps (fun x=>x=G0∨x=E0) H5 H'∧H' G0=some (.lst (ts.map V.ref))∧GT H' ts gs∧gs.length≤j+1∧(∀ p∈gs,0≤p.2∧p.2<m)∧H' E0=some (.lst (es.map V.str))) ?_ (fun N hN=>?_)
       · rintro σ' H7 ⟨ts,gs,rfl,k7,eG7,T7,hgl7,hgm7,eE7⟩
         have eX7:=k7.at_ _ _ (s35 _ _ eX3) fun z=>z.elim nXG nXE;have L7:=Lk k7;refine ⟨_,rfl,_,rfl,_,_,rfl,rfl,Or.inl ⟨by decide,by decide⟩,_,_,rfl,rfl,_,rfl,_,_,rfl,rfl,Or.inl ⟨X,_,_,.int v2,rfl,rfl,SqL.of eX7,hv2,_,_,rfl,rfl,(by show (0:Int)<3;decide),_,_,rfl,rfl,_,rfl,ite2 (fun _=>?_) (fun _=>?_)⟩⟩
         · refine ⟨_,rfl,Or.inl ⟨rfl,_,SqL.of eE7⟩,_,rfl,_,rfl,Or.inl ⟨L,_,_,.str lb,rfl,rfl,L7,hvl,E0,_,_,rfl,rfl,eE7,les,?_⟩⟩
           refine ⟨_,ts,gs,es++[lb],rfl,k7.set (.inr rfl),by rw [Zah nGE];exact eG7,T7.updL eE7,hgl7,hgm7,by rw [upd_same,Xad];rfl,by rw [Xac,Xau];omega⟩
         · exact ⟨_,ts,gs,es,rfl,k7,eG7,T7,hgl7,hgm7,eE7,by omega⟩
       refine ⟨_,rfl,_,rfl,_,_,rfl,rfl,Or.inl ⟨by decide,by decide⟩,_,_,rfl,rfl,_,rfl,_,_,rfl,rfl,Or.inl ⟨X,_,_,.int v1,rfl,rfl,SqL.of eX6,hv1,_,_,rfl,rfl,(by show (0:Int)<4;decide),_,_,rfl,rfl,_,rfl,ite2 (fun _=>?_) (fun _=>?_)⟩⟩;rotate_left
       · exact hN _ _ ⟨ts,gs,rfl,k6,eG6,T6,by omega,hgm,eE6⟩
       refine ⟨_,rfl,Or.inl ⟨rfl,_,SqL.of eG6⟩,_,rfl,_,rfl,Or.inl ⟨L,_,_,.str lb,rfl,rfl,L6,hvl,_,rfl,_,rfl,_,_,rfl,rfl,Or.inl ⟨by decide,by decide⟩,_,_,rfl,rfl,_,rfl,_,_,rfl,rfl,Or.inl ⟨X,_,_,.int v1,rfl,rfl,SqL.of eX6,hv1,_,_,rfl,rfl,⟨by decide,by decide⟩,_,rfl,_,_,rfl,rfl,(by show 0<m;omega),ZaF,fun t ht=>?_⟩⟩⟩;obtain ⟨H7,qH7,s7,et⟩:=new_at (o:=.tup [.str lb,.int (v1 / 4 % m)]) ht;rw [←qH7];have eG7:=s7 _ _ eG6;refine ⟨G0,_,_,rfl,rfl,eG7,lts,?_⟩;refine hN _ _ ⟨ts++[t],gs++[(lb,v1 / 4 % m)],rfl,(k6.same s7).set (.inl rfl),by rw [upd_same,Xad];rfl,((T6.same s7).snoc et).updL eG7,by rw [Xac,Xau];omega,fun p hp=>?_,by rw [Zah (Ne.symm nGE)];exact s7 _ _ eE6⟩
       rcases Xaf.mp hp with hp | hp
       · exact hgm p hp
       · rw [Xaj.mp hp]
         exact ⟨Xa3 _ (by omega),Xa2 _ (by omega)⟩
     · rintro σ H6 ⟨u8,ts,gs,es,rfl,k6,eG6,T6,hgl,hgm,eE6,hel⟩
       have s36:=up5 k6;have k06:Keeps (·=D) H2 H6:=⟨fun x o e n=>s36 _ _ (k3.at_ x o e n),k3.ls⟩;have eD6:=s36 _ _ eD3;obtain ⟨zs,z1,z2,z3⟩:=ZfH (K:=K) T6.len T6.at_
       have lzs:zs.length=gs.length:=by rw [←z2,Xaa]
       refine ⟨_,rfl,Or.inl ⟨rfl,_,SqL.of eD6⟩,_,rfl,G0,zs,rfl,SqL.of (by rw [z1];exact eG6),by omega,z3,fun G zs' hp hw hG=>?_⟩;have s7:=Zak (o:=.lst (zs'.map (·.1))) hG;have eG7:(upd H6 G (.lst (zs'.map (·.1)))) G=some (.lst (zs'.map (·.1))):=upd_same
       have z3':∀ z∈zs',ZkC K (upd H6 G (.lst (zs'.map (·.1)))) z:=fun z hz=>by
        obtain ⟨t,a1,a2⟩:=z3 z (hp.mem_iff.mp hz);exact ⟨t,a1,s7.seqT a2⟩
       generalize upd H6 G (.lst (zs'.map (·.1)))=H7 at s7 eG7 z3' ⊢;refine ⟨_,rfl,E0,es,rfl,SqL.of (s7 _ _ eE6),by omega,fun E1 es' hpe hwe hE1=>?_⟩;have s8:=Zak (o:=.lst (es'.map V.str)) hE1;have eE8:(upd H7 E1 (.lst (es'.map V.str))) E1=some (.lst (es'.map V.str)):=upd_same
       have z4:∀ z∈zs',ZkC K (upd H7 E1 (.lst (es'.map V.str))) z:=fun z hz=>by
        obtain ⟨t,a1,a2⟩:=z3' z hz;exact ⟨t,a1,s8.seqT a2⟩
       generalize upd H7 E1 (.lst (es'.map V.str))=H8 at s8 eE8 z4 ⊢;refine ⟨ZaF,fun u hu=>?_⟩;obtain ⟨H9,qH9,s9,eu⟩:=new_at (o:=.tup [.ref G,.ref E1]) hu;rw [←qH9];have s69:=(s7.trans s8).trans s9;have eD9:=s69 _ _ eD6;have s06:=up k06;have hGH:H G=none:=s06.free hG;have hEH:H E1=none:=(s06.trans s7).free hE1
       have nG:G≠D:=fun y=>by rw [y,eD6] at hG;cases hG
       have nE:E1≠D:=fun y=>by rw [y,s7 _ _ eD6] at hE1;cases hE1
       have gG:Goes K H9 G (zs'.map (·.2)):=⟨_,SqL.of ((s8.trans s9) _ _ eG7),(ZfI zs' z4).same s9⟩;refine ⟨D,_,_,rfl,rfl,eD9,by rw [Xaa,SR3.len,hrl];exact Zal (by omega),?_⟩;have SR9:=((SR3.same (s36.trans s69)).snoc (r:=(zs'.map (·.2),es')) eu gG ((s8.trans s9) _ _ eG7) (s9 _ _ eE8) nG nE hGH hEH).updL (o:=.lst (us.map V.ref++[.ref u])) eD9;refine ⟨_,_,_,_,_,us++[u],rs++[(zs'.map (·.2),es')],rfl,(k06.same s69).set rfl,by rw [upd_same,Xad];rfl,SR9,by rw [Xac,hrl];rfl,fun r hr=>?_⟩
       rcases Xaf.mp hr with hr | hr
       · exact hok r hr
       · rw [Xaj.mp hr]
         refine ⟨fun p hp'=>hgm p ?_,?_,?_⟩
         · have:(zs'.map (·.2)).Perm gs:=by rw [←z2];exact hp.map _
           exact this.mem_iff.mp hp'
         · show (zs'.map (·.2)).length≤5
           rw [Xaa,hp.length_eq];omega
         · show es'.length≤5
           rw [hpe.length_eq];omega
   rintro σ H3 ⟨u5,u6,u7,u8,u9,us,rs,rfl,k3,eD3,SR3,hrl,hok⟩;have s03:=up k3;have eX3:=k3.at_ _ _ (s2 _ _ eX) nXD;have L3:=s03.seq hL;refine ⟨by decide,fun O hO=>?_⟩;have hOH:H O=none:=s03.free hO;obtain ⟨H4,qH4,s4,eO4⟩:=new_at (o:=.lst []) hO;rw [←qH4];refine g_in ?_;try dsimp only
   have nXO:X≠O:=Zac eX3 hO
   have Lk:∀ {H':Hp},Keeps (·=O) H4 H'→SqL K H' L (ls.map V.str):=fun {H'} k=>by
    rcases L3 with (h | ⟨u,h⟩) | h
    · exact .inl (.inl (k.at_ _ _ (s4 _ _ h) (Zac h hO)))
    · exact .inl (.inr ⟨u,k.at_ _ _ (s4 _ _ h) (Zac h hO)⟩)
    · exact .inr h
   refine ⟨5,rfl,by decide,by decide,Zb3 (lo:=0) (n:=5) (fun j σ H'=>∃ u5 u8 ts ps,σ=[some (.int c),some (.ref L),some (.ref X),some (.int m),some (.ref D),u5,u6,u7,u8,some (.ref O)]∧Keeps (·=O) H4 H'∧H' O=some (.lst (ts.map V.ref))∧Tups H' ts ps∧ps.length≤5 * j∧∀ p,p∈ps↔ZgH ls xs j 0 p)
    ⟨_,_,[],[],rfl,Keeps.refl fun x o m e=>by rw [m,eO4] at e;exact ⟨_,(Xbd e).symm⟩,eO4,Tups.nil,XaW _,fun p=>⟨fun h=>(by cases h),fun ⟨a,b,h,_⟩=>by omega⟩⟩ ?_ ?_⟩
   · rintro j σ H5 hj ⟨u5,u8,ts,ps,rfl,k5,eO5,T5,hpl,hir⟩
     refine ⟨5,rfl,by decide,by decide,Zb3 (lo:=0) (n:=5) (fun k σ H'=>∃ u5 ts ps,σ=[some (.int c),some (.ref L),some (.ref X),some (.int m),some (.ref D),u5,u6,u7,some (.int (0+(j:Int))),some (.ref O)]∧Keeps (·=O) H4 H'∧H' O=some (.lst (ts.map V.ref))∧Tups H' ts ps∧ps.length≤5 * j+k∧∀ p,p∈ps↔ZgH ls xs j k p)
      ⟨_,ts,ps,rfl,k5,eO5,T5,hpl,hir⟩ ?_ ?_⟩
     · rintro k σ H6 hk ⟨u5,ts,ps,rfl,k6,eO6,T6,hpl6,hir6⟩
       have eX6:=k6.at_ _ _ (s4 _ _ eX3) nXO;have L6:=Lk k6
       have ex:∀ {n:Nat} {x:Str},atI (ls.map V.str) (0+(n:Int))=some (.str x)→n<5→ls[n]?=some x:=fun {n x} h hn=>by
        rw [Int.zero_add] at h;have hl:=Xab (show n<ls.length by omega)
        have:=h.symm.trans (ZaQ (by rw [Xag,hl];rfl))
        rw [hl];cases this;rfl
       have ev:∀ (n:Nat) (v:Int),atI (xs.map V.int) (n:Int)=some (.int v)→n<47→xs.getD n 0=v:=fun n v h hn=>by
        have hl:=Xab (show n<xs.length by omega)
        have:=h.symm.trans (ZaQ (by rw [Xag,hl];rfl))
        rw [Xaq,hl];cases this;rfl
       obtain ⟨v1,hv1⟩:=ixx (41+(0+(j:Int))) (by omega) (by omega);obtain ⟨v2,hv2⟩:=ixx (41+(0+(k:Int))) (by omega) (by omega);obtain ⟨la,hla,hvla⟩:=ixl (0+(j:Int)) (by omega) (by omega);obtain ⟨lb,hlb,hvlb⟩:=ixl (0+(k:Int)) (by omega) (by omega);refine ⟨_,rfl,_,rfl,_,_,rfl,rfl,Or.inl ⟨X,_,_,.int v1,rfl,rfl,SqL.of eX6,hv1,_,rfl,_,rfl,_,_,rfl,rfl,Or.inl ⟨X,_,_,.int v2,rfl,rfl,SqL.of eX6,hv2,v1,v2,rfl,_,rfl,ite2 (fun hun=>?_) (fun hun=>?_)⟩⟩⟩;rotate_left
       · refine ⟨_,ts,ps,rfl,k6,eO6,T6,by omega,fun p=>?_⟩
         rw [Zkn (by omega) (ex hvla (by omega)) (ex hvlb (by omega)),←hir6,ev (41+j) v1 (by rw [←hv1];congr 1;omega) (by omega),ev (41+k) v2 (by rw [←hv2];congr 1;omega) (by omega)];exact ⟨.inl,fun z=>z.elim id fun y=>absurd y.2 hun⟩
       refine ⟨_,rfl,Or.inl ⟨rfl,_,SqL.of eO6⟩,_,rfl,_,rfl,Or.inl ⟨L,_,_,.str la,rfl,rfl,L6,hvla,_,rfl,_,rfl,Or.inl ⟨L,_,_,.str lb,rfl,rfl,L6,hvlb,ZaF,fun t ht=>?_⟩⟩⟩;obtain ⟨H7,qH7,s7,et⟩:=new_at (o:=.tup [.str la,.str lb]) ht;rw [←qH7];have eO7:=s7 _ _ eO6;have k7:Keeps (·=O) H7 (upd H7 O (.lst (ts.map V.ref++[.ref t]))):=Keeps.one eO7;refine ⟨O,_,_,rfl,rfl,eO7,by rw [Xaa,T6.len];exact Zal (by omega),?_⟩;refine ⟨_,ts++[t],ps++[(la,lb)],rfl,(k6.same s7).set rfl,by rw [upd_same,Xad];rfl,k7.tups ((T6.same s7).snoc et),by rw [Xac,Xau];omega,fun p=>?_⟩;rw [Zkn (by omega) (ex hvla (by omega)) (ex hvlb (by omega)),←hir6,Xaf,Xaj,ev (41+j) v1 (by rw [←hv1];congr 1;omega) (by omega),ev (41+k) v2 (by rw [←hv2];congr 1;omega) (by omega)];exact or_congr Iff.rfl ⟨fun z=>⟨z,hun⟩,fun z=>z.1⟩
     · rintro σ H6 ⟨u5,ts,ps,rfl,k6,eO6,T6,hpl6,hir6⟩
       exact ⟨_,_,ts,ps,rfl,k6,eO6,T6,by omega,fun p=>(hir6 p).trans ord_row⟩
   rintro σ H5 ⟨u5',u8',ts,ps,rfl,k5,eO5,T5,hpl,hir⟩;have s35:Same H3 H5:=fun x o e=>k5.at_ _ _ (s4 _ _ e) (Zac e hO);have eX5:=s35 _ _ eX3;have eD5:=s35 _ _ eD3;obtain ⟨v46,hv46⟩:=ixx 46 (by decide) (by decide);obtain ⟨zs,z1,z2,z3⟩:=Zg5 T5
   have lzs:zs.length=ps.length:=by rw [←z2,Xaa]
   refine ⟨_,rfl,_,rfl,Or.inl ⟨X,_,_,.int v46,rfl,rfl,SqL.of eX5,hv46,_,rfl,_,_,rfl,rfl,(by show 0<m;omega),_,rfl,O,zs,rfl,SqL.of (by rw [z1];exact eO5),by omega,fun z hz=>?_,fun O2 zs' hp hw hO2=>?_⟩⟩
   · obtain ⟨t,a1,a2⟩:=z3 z hz
     exact ⟨t,a1,SqT.of a2⟩
   have s6:=Zak (o:=.lst (zs'.map (·.1))) hO2
   obtain ⟨ts',t1,t2⟩:=Zg6 (H:=upd H5 O2 (.lst (zs'.map (·.1)))) (zs:=zs') fun z hz=>by
    obtain ⟨t,a1,a2⟩:=z3 z (hp.mem_iff.mp hz);exact ⟨t,a1,s6 _ _ a2⟩
   have eO6:(upd H5 O2 (.lst (zs'.map (·.1)))) O2=some (.lst (ts'.map V.ref)):=by rw [upd_same,t1]
   generalize upd H5 O2 (.lst (zs'.map (·.1)))=H6 at s6 t2 eO6 ⊢;try dsimp only
   refine ⟨Za1,fun t ht=>?_⟩;have a0:=Xa3 v46 (show m≠0 by omega);have a1:=Xa2 v46 (show 0<m by omega);generalize v46 % m=inn at a0 a1 ht ⊢;obtain ⟨H7,qH7,s7,et⟩:=new_at (o:=.tup [.ref D,.int inn,.ref O2]) ht;rw [←qH7];have s37:=(s35.trans s6).trans s7;have hO2H:H O2=none:=(s03.trans s35).free hO2
   have mps:∀ {p},p∈zs'.map (·.2)↔p∈ps:=fun {p}=>by rw [←z2];exact (hp.map (·.2)).mem_iff
   have hrm:(rs.length:Int)=m:=by rw [hrl];omega
   refine q t rs inn (zs'.map (·.2)) H7 ((s03.trans (s35.trans s6)).free ht) (s03.trans s37) ⟨D,O2,us,ts',et,hDH,hO2H,fun y=>?_,s37 _ _ eD3,SR3.same s37,s7 _ _ eO6,t2.same s7⟩ ⟨by omega,fun s hs p hp'=>?_,by omega,fun s hs=>?_,?_,fun x hx=>?_,fun x y z hx hy=>?_⟩
   · rw [←y,eD5] at hO2;cases hO2
   · have:=(hok s hs).1 p hp';omega
   · have:=(hok s hs).2;omega
   · rw [Xaa,hp.length_eq];omega
   · exact ord_irr nd ((hir _).mp (mps.mp hx))
   · exact mps.mpr ((hir _).mpr (ord_tr nd ((hir _).mp (mps.mp hx)) ((hir _).mp (mps.mp hy))))
variable (P w K mg base) in
abbrev ZcO:Prop:=Zax P w K mg base "_law_table" 2 ["_law_cell", "_law_labels"] (ZeG K)
theorem Zgg (B:Blt mg) (c__law_stream:ZaT P w K mg base) (c__law_under:ZcN P w K mg base) (F:Fun K "_law_table" "_law_table" ZcD f fd) (hm:mg "_law_table" = some (.ref f)):ZcO P w K mg base :=
 ⟨f,fd,ZhO B c__law_stream c__law_under F,hm,F.kp,F.binds fun _ _ _ _ _ _ us hl=>(by obtain ⟨x0,x1,rfl⟩:=Zd5 hl;rfl)⟩
inductive E_refuse_too_great (K:XFg) (vs:List V) (H:Hp) (Q:VK):Prop where
 | mk (a p:Addr) (ss:List Stt) (ps:List V) (h0:vs=[.ref a,.ref p]) (h1:Stts K H a ss) (h2:Fits ss) (h3:SqL K H p ps) (h4:ps.length≤40) (h5:Q .non H):E_refuse_too_great K vs H Q
def Zcx (K:XFg):Sp:=fun vs H Q _=>E_refuse_too_great K vs H Q
theorem Zeo (B:Blt mg) (F:Fun K "refuse_too_great" "refuse_too_great" Zbe f fd):FnOk P w K mg base CX0 1 f fd ["states", "pairs"] (Zcx K):=by
 refine F.ok sc_refuse_too_great (fun vs H Q E h=>?_) (fun cdv A outer s H vs Q E hr h=>?_)
 · obtain ⟨a,p,ss,ps,rfl,_⟩:=h
   rfl
 · obtain ⟨a,p,ss,ps,rfl,⟨vs,hS,hD⟩,hF,hP,hpl,q⟩:=h
   have lvs:=hD.len_map;have hn8:=hF.n
   refine ⟨_,(Zad (ZaS (Zav Zhk (Zan Zay (by rfl) B.b_len (by decide +kernel) (Zaa (pv 0) Zab)) (ZeV (v:=.int 8) rfl (Classical.choose_spec B.c_MOST_STATES) ⟨_,rfl⟩) (ZaD _)) (Zae ZbG) Zau)
    (Zad (ZaL Xbs rfl (Zaz (pv 0)) (ZaR rfl (Zai (Zag (i:=2) sc_refuse_too_great.nd rfl (Or.inl rfl)) (Zai (Zag (i:=3) sc_refuse_too_great.nd rfl (Or.inl rfl)) ZaG))) (Zad (ZaS (Zav Zhk (Zan Zay (by rfl) B.b_len (by decide +kernel) (Zaa (pv 2) Zab)) (ZeV (v:=.int 8) rfl (Classical.choose_spec B.c_MOST_GOES) ⟨_,rfl⟩) (ZaD _)) (Zae ZbG) Zau)
     (Zae (ZaS (Zav Zhk (Zan Zay (by rfl) B.b_len (by decide +kernel) (Zaa (pv 3) Zab)) (ZeV (v:=.int 8) rfl (Classical.choose_spec B.c_MOST_ENDS) ⟨_,rfl⟩) (ZaD _)) (Zae ZbG) Zau))))
    (Zae (ZaS (Zav Zhk (Zan Zay (by rfl) B.b_len (by decide +kernel) (Zaa (pv 1) Zab)) (ZeV (v:=.int 40) rfl (Classical.choose_spec B.c_MOST_PAIRS) ⟨_,rfl⟩) (ZaD _)) (Zae ZbG) Zau)))),?_⟩
   try dsimp only [cxOf,Cx.nox,Cx.wish]
   refine ⟨_,rfl,_,_,rfl,Or.inl ⟨_,hS,rfl⟩,_,_,rfl,rfl,_,rfl,?_⟩;rw [Xa7 (show ¬((vs.length:Nat):Int) > 8 by omega)];refine iteF ?_;refine ⟨_,rfl,a,rfl,⟨_,hS⟩,ZaI (xs:=vs) (fun i σ H'=>∃ u2 u3,σ=[some (.ref a),some (.ref p),u2,u3]∧H'=H) ⟨none,none,rfl,rfl⟩ (fun i σ H' _ hv_=>by obtain ⟨_,_,_,e⟩:=hv_;exact by rw [e];exact hS) ?_ ?_⟩
   · rintro i x σ H2 hx ⟨u2,u3,rfl,rfl⟩
     obtain ⟨s,t,g,e,hs,rfl,ht,⟨gv,hg,hgd⟩,he⟩:=hD.sts_get hx;have lgv:=hgd.len_map;have b1:=hF.gs s (Xah hs);have b2:=hF.es s (Xah hs);refine ⟨t,_,rfl,ht,rfl,_,_,rfl,_,_,rfl,rfl,?_⟩;refine ⟨_,rfl,_,_,rfl,Or.inl ⟨_,hg,rfl⟩,_,_,rfl,rfl,_,rfl,?_⟩;rw [Xa7 (show ¬((gv.length:Nat):Int) > 8 by omega)];refine iteF ⟨_,rfl,_,_,rfl,Or.inl ⟨_,he,rfl⟩,_,_,rfl,rfl,_,rfl,?_⟩;rw [Xaa,Xa7 (show ¬((s.2.length:Nat):Int) > 8 by omega)];exact iteF ⟨_,_,rfl,rfl⟩
   · rintro σ H2 ⟨u2,u3,rfl,rfl⟩
     refine ⟨_,rfl,_,_,rfl,Or.inl ⟨_,hP,rfl⟩,_,_,rfl,rfl,_,rfl,?_⟩;rw [Xa7 (show ¬((ps.length:Nat):Int) > 40 by omega)];exact iteF q
variable (P w K mg base) in
abbrev Zbh:Prop:=Zax P w K mg base "refuse_too_great" 1 ["states", "pairs"] (Zcx K)
theorem ZdA (B:Blt mg) (F:Fun K "refuse_too_great" "refuse_too_great" Zbe f fd) (hm:mg "refuse_too_great" = some (.ref f)):Zbh P w K mg base :=
 ⟨f,fd,Zeo B  F,hm,F.kp,F.binds fun _ _ _ _ _ _ us hl=>(by obtain ⟨x0,x1,rfl⟩:=Zd5 hl;rfl)⟩
inductive E_labels_of (K:XFg) (vs:List V) (H:Hp) (Q:VK):Prop where
 | mk (g:Addr) (gs:List (Str×Int)) (h0:vs=[.ref g]) (h1:Goes K H g gs) (h2:gs.length≤100) (h3:∀ (p:Addr) (H':Hp),H p=none→Same H H'→H' p=some (.lst ((gs.map (·.1)).map V.str))→Q (.ref p) H'):E_labels_of K vs H Q
def Zfr (K:XFg):Sp:=fun vs H Q _=>E_labels_of K vs H Q
theorem ZiT (B:Blt mg) (F:Fun K "labels_of" "labels_of" Zcl f fd):FnOk P w K mg base CX0 1 f fd ["goes"] (Zfr K):=by
 refine F.ok ZiR (fun vs H Q E h=>?_) (fun cdv A outer s H vs Q E hr h=>?_)
 · obtain ⟨g,gs,rfl,_⟩:=h
   rfl
 · obtain ⟨g,gs,rfl,⟨vs,hS,hD⟩,hlen,q⟩:=h
   have lvs:=hD.len_map;refine ⟨_,(Zae (Zar (ZcY (g:=gTup K 2 (Zek (Zc3 0) (Zek (Zc3 1) gNil))) rfl labels_of_cs1 (Zaz (pv 0)) (fun _ _ _ _ _=>(ZaR rfl (Zai (Zag (i:=0) labels_of_cs1.nd rfl (Or.inl rfl)) (Zai (Zag (i:=1) labels_of_cs1.nd rfl (Or.inl rfl)) ZaG)))) (fun _ _ _ _ _=>ZcL) (fun _ _ _ _ _=>(pv 0))))),?_⟩;try dsimp only [cxOf,Cx.nox,Cx.wish]
   refine ⟨_,rfl,g,rfl,⟨_,hS⟩,Za3 (xs:=vs) (fun D i ys H'=>Same H H'∧H' D=some (.lst ys)∧ys=((gs.take i).map (·.1)).map V.str)
    (fun D hD=>⟨Zak hD,upd_same,rfl⟩) (fun D i ys H' hv_=>by obtain ⟨s1,_⟩:=hv_;exact s1.seq hS) (fun D i x ys H2 R hD0 hx hv k=>?_) (fun R ys H2 hR hv=>?_)⟩
   · obtain ⟨s2,eD,rfl⟩:=hv
     obtain ⟨p,t,hp,rfl,ht⟩:=hD.goes_get hx;have hil:i<gs.length:=(Xae.mp hp).1;refine ⟨t,_,rfl,s2.seqT ht,rfl,_,_,rfl,_,_,rfl,rfl,?_⟩;refine ⟨_,rfl,k _ _ eD (by rw [Xaa,Xaa,Xaw];exact Zal (by omega)) ⟨fun b o e=>?_,upd_same,?_⟩⟩
     · rw [Zah (Zac e hD0)];exact s2 b o e
     · rw [Xar,hp,Xad,Xad];rfl
   · obtain ⟨s2,eD,rfl⟩:=hv
     rw [lvs,Xas] at eD;exact q R H2 hR s2 eD
variable (P w K mg base) in
abbrev ZbQ:Prop:=Zax P w K mg base "labels_of" 1 ["goes"] (Zfr K)
theorem ZgI (B:Blt mg) (F:Fun K "labels_of" "labels_of" Zcl f fd) (hm:mg "labels_of" = some (.ref f)):ZbQ P w K mg base :=
 ⟨f,fd,ZiT B  F,hm,F.kp,F.binds fun _ _ _ _ _ _ us hl=>(by obtain ⟨x0,rfl⟩:=Zen hl;rfl)⟩
inductive E_labels_told (K:XFg) (vs:List V) (H:Hp) (Q:VK):Prop where
 | mk (a p:Addr) (ss:List Stt) (ps:List (Str×Str)) (h0:vs=[.ref a,.ref p]) (h1:StE K H a ss) (h2:Fits ss) (h3:Prs K H p ps) (h4:ps.length≤60) (h5:∀ (l:Addr) (H':Hp),H l=none→Same H H'→H' l=some (.lst ((Za0 ss++ZcZ ps).map V.str))→Q (.ref l) H'):E_labels_told K vs H Q
def Zee (K:XFg):Sp:=fun vs H Q _=>E_labels_told K vs H Q
theorem ZgJ (B:Blt mg) (c_labels_of:ZbQ P w K mg base) (F:Fun K "labels_told" "labels_told" Zca f fd):FnOk P w K mg base CX0 2 f fd ["states", "pairs"] (Zee K):=by
 refine F.ok sc_labels_told (fun vs H Q E h=>?_) (fun cdv A outer s H vs Q E hr h=>?_)
 · obtain ⟨a,p,ss,ps,rfl,_⟩:=h
   rfl
 · obtain ⟨a,p,ss,ps,rfl,⟨vs,hS,lvs,hE⟩,hF,⟨pws,hP,hPD⟩,hpl,q⟩:=h
   have lpws:=hPD.len_map;have hn8:=hF.n
   have tkl:∀ i,(Za0 (ss.take i)).length≤128:=fun i=>by
    have:=Zfo (ss.take i) (fun s hs=>hF.gs s (List.mem_of_mem_take hs)) (fun s hs=>hF.es s (List.mem_of_mem_take hs))
    rw [Xaw] at this;omega
   refine ⟨_,(Zad (Zao (i:=2) sc_labels_told.nd rfl (Or.inl rfl) (ZaM Zab))
    (Zad (ZaL Xbs rfl (Zaz (pv 0)) (ZaR rfl (Zai (Zag (i:=3) sc_labels_told.nd rfl (Or.inl rfl)) (Zai (Zag (i:=4) sc_labels_told.nd rfl (Or.inl rfl)) ZaG))) (Zad (ZaB (Zbl Xa9 PySem.F.slot_list_extend PySem.F.type_list_extend ZfT (pv 2) (Zaa (ZaC c_labels_of (hr.mono (by decide)) rfl (Zaa (pv 3) Zab)) Zab)))
     (Zae (ZaB (Zbl Xa9 PySem.F.slot_list_extend PySem.F.type_list_extend ZfT (pv 2) (Zaa (pv 4) Zab))))))
    (Zad (ZaL Xbs rfl (Zaz (pv 1)) (ZaR rfl (Zai (Zag (i:=5) sc_labels_told.nd rfl (Or.inl rfl)) (Zai (Zag (i:=6) sc_labels_told.nd rfl (Or.inl rfl)) ZaG))) (Zad (ZaB (Zbl Xa9 Xba Xbb Zaw (pv 2) (Zaa (pv 5) Zab)))
     (Zae (ZaB (Zbl Xa9 Xba Xbb Zaw (pv 2) (Zaa (pv 6) Zab))))))
    (Zae (Zar (pv 2)))))),?_⟩
   try dsimp only [cxOf,Cx.nox,Cx.wish]
   refine ⟨by decide,fun D hD=>?_⟩;refine ⟨_,rfl,a,rfl,⟨_,(Zak hD).seq hS⟩,ZaI (xs:=vs) (fun i σ H'=>∃ u3 u4,σ=[some (.ref a),some (.ref p),some (.ref D),u3,u4,none,none]∧Same H H'∧H' D=some (.lst ((Za0 (ss.take i)).map V.str))) ⟨none,none,rfl,Zak hD,upd_same⟩ (fun i σ H' _ hv_=>by obtain ⟨_,_,_,e,_⟩:=hv_;exact e.seq hS) ?_ ?_⟩
   · rintro i x σ H2 hx ⟨u3,u4,rfl,s2,eD⟩
     have hil:i<ss.length:=by rw [←lvs];exact (Xae.mp hx).1
     have hs:=Xab hil;obtain ⟨t,g,e,rfl,ht,hg,he⟩:=hE i x _ hx hs;have b1:=hF.gs _ (Xah hs);have b2:=hF.es _ (Xah hs)
     have etk:ss.take (i+1)=ss.take i++[ss[i]]:=by rw [Xar,hs];rfl
     have tki:=tkl i;refine ⟨t,_,rfl,s2.seqT ht,rfl,_,_,rfl,_,_,rfl,rfl,?_⟩;refine ⟨_,rfl,Or.inl ⟨rfl,_,SqL.of eD⟩,_,rfl,g,_,rfl,hg.same s2,by omega,fun l1 H3 hl1 s3 e1=>?_⟩;have eD3:=s3 _ _ eD;refine ⟨D,l1,_,_,rfl,rfl,eD3,e1,?_,?_⟩
     · rw [Xaa,Xaa,Xaa];exact XaY (Zal (by omega))
     have eD4:(upd H3 D (.lst ((Za0 (ss.take i)).map V.str++(ss[i].1.map (·.1)).map V.str))) D=some (.lst ((Za0 (ss.take i)).map V.str++(ss[i].1.map (·.1)).map V.str)):=upd_same
     have s4:Same H (upd H3 D (.lst ((Za0 (ss.take i)).map V.str++(ss[i].1.map (·.1)).map V.str))):=fun b o e=>by
      rw [Zah (Zac e hD)];exact s3 _ _ (s2 b o e)
     generalize upd H3 D (.lst ((Za0 (ss.take i)).map V.str++(ss[i].1.map (·.1)).map V.str))=H4 at eD4 s4 ⊢;refine ⟨_,rfl,Or.inl ⟨rfl,_,SqL.of eD4⟩,_,rfl,D,e,_,_,rfl,rfl,eD4,s4 _ _ he,?_,?_⟩
     · rw [Xac,Xaa,Xaa,Xaa,Xaa];exact XaY (Zal (by omega))
     refine ⟨_,_,rfl,fun b o e=>?_,?_⟩
     · rw [Zah (Zac e hD)];exact s4 b o e
     · rw [upd_same,etk,Zhy,Xad,Xad]
   · rintro σ H2 ⟨u3,u4,rfl,s2,eD⟩
     rw [lvs,Xas] at eD;have tk8:=tkl ss.length;rw [Xas] at tk8;refine ⟨_,rfl,p,rfl,⟨_,s2.seq hP⟩,ZaI (xs:=pws) (fun i σ H'=>∃ u5 u6,σ=[some (.ref a),some (.ref p),some (.ref D),u3,u4,u5,u6]∧Same H H'∧H' D=some (.lst ((Za0 ss++ZcZ (ps.take i)).map V.str))) ⟨none,none,rfl,s2,by rw [eD];show _=some (HO.lst ((Za0 ss++[]).map V.str));rw [XaH]⟩ (fun i σ H' _ hv_=>by obtain ⟨_,_,_,e,_⟩:=hv_;exact e.seq hP) ?_ ?_⟩
     · rintro i x σ H3 hx ⟨u5,u6,rfl,s3,eD3⟩
       obtain ⟨pr,t,hp,rfl,ht⟩:=hPD.pairs_get hx;have hil:i<ps.length:=(Xae.mp hp).1
       have etk:ps.take (i+1)=ps.take i++[pr]:=by rw [Xar,hp];rfl
       have lp:=ZfX (ps.take i);rw [Xaw] at lp;refine ⟨t,_,rfl,s3.seqT ht,rfl,_,_,rfl,_,_,rfl,rfl,?_⟩;refine ⟨_,rfl,Or.inl ⟨rfl,_,SqL.of eD3⟩,_,rfl,D,_,_,rfl,rfl,eD3,?_,?_⟩
       · rw [Xaa,Xac];exact Zal (by omega)
       refine ⟨_,rfl,Or.inl ⟨rfl,_,SqL.of upd_same⟩,_,rfl,D,_,_,rfl,rfl,upd_same,?_,?_⟩
       · rw [Xac,Xaa,Xac];exact Zal (by simp;omega)
       refine ⟨_,_,rfl,fun b o e=>?_,?_⟩
       · rw [Zah (Zac e hD),Zah (Zac e hD)];exact s3 b o e
       · rw [upd_same,etk,Ziv];simp only [Xad,Xao,XaO,XaE]
     · rintro σ H3 ⟨u5,u6,rfl,s3,eD3⟩
       rw [lpws,Xas] at eD3;exact ⟨_,rfl,q D H3 hD s3 eD3⟩
variable (P w K mg base) in
abbrev Zch:Prop:=Zax P w K mg base "labels_told" 2 ["states", "pairs"] (Zee K)
theorem ZfB (B:Blt mg) (c_labels_of:ZbQ P w K mg base) (F:Fun K "labels_told" "labels_told" Zca f fd) (hm:mg "labels_told" = some (.ref f)):Zch P w K mg base :=
 ⟨f,fd,ZgJ B c_labels_of F,hm,F.kp,F.binds fun _ _ _ _ _ _ us hl=>(by obtain ⟨x0,x1,rfl⟩:=Zd5 hl;rfl)⟩
def ZkR (c:Nat):Bool:=decide (97≤c) && decide (c≤122)
def ZgK (x:Str):Bool:=decide (1≤x.length) && (decide (x.length≤8) && x.cps.toList.all ZkR)
theorem sign_a (c:Nat):(!decide ((⟨#[c]⟩:Str).cps.toList<("a" : Str).cps.toList))=decide (97≤c):=by
 show (!decide (([c]:List Nat)<("a" : Str).cps.toList))=_
 have e:("a" : Str).cps.toList=[97]:=by decide +kernel
 rw [e,Zlr]
 by_cases h:c<97
 · rw [Xa6 h,Xa7 (by omega)];rfl
 · rw [Xa7 h,Xa6 (by omega)];rfl
theorem sign_z (c:Nat):(!decide (("z" : Str).cps.toList<(⟨#[c]⟩:Str).cps.toList))=decide (c≤122):=by
 show (!decide (("z" : Str).cps.toList<([c]:List Nat)))=_
 have e:("z" : Str).cps.toList=[122]:=by decide +kernel
 rw [e,Zlr]
 by_cases h:122<c
 · rw [Xa6 h,Xa7 (by omega)];rfl
 · rw [Xa7 h,Xa6 (by omega)];rfl
def Zhc (K:XFg):Sp:=fun vs H Q _=>∃ v,vs=[v] ∧
 ((∃ x,v=.str x∧x.length≤1000∧∀ H',Same H H'→Q (.bl (ZgK x)) H')∨∃ T,TyN K H v T∧T≠.str∧Q (.bl false) H)
theorem ZkS (B:Blt mg) (F:Fun K "is_name" "is_name" Zds f fd):FnOk P w K mg base CX0 1 f fd ["thing"] (Zhc K):=by
 refine F.ok ZkO (fun vs H Q E h=>?_) (fun cdv A outer s H vs Q E hr h=>?_)
 · obtain ⟨v,rfl,_⟩:=h
   rfl
 · obtain ⟨v, rfl, h⟩ := h
   refine ⟨_,(Zad (ZaS (PW.pt (ZgD (Zc2 (Zb7 (Zan Zdc (by rfl) B.b_isinstance (by decide +kernel) (Zaa (pv 0) (Zaa (Zjg "str" rfl B.b_str (by decide +kernel)) Zab))))) (Zh9 (Zc2 (Zml op_le op_le Zaf (Zan Zay (by rfl) B.b_len (by decide +kernel) (Zaa (pv 0) Zab)) (ZeV (v:=.int 8) rfl (Classical.choose_spec B.c_LONGEST_NAME) ⟨_,rfl⟩)))))) (Zae (Zar Zh7)) Zau)
    (Zae (Zar (Zan (Zlo rfl) (by rfl) B.b_all (by decide +kernel) (Zaa (ZcY rfl is_name_cs1 (pi_str (pv 0)) (fun _ _ _ _ _=>(Zag (i:=0) is_name_cs1.nd rfl (Or.inl rfl))) (fun _ _ _ _ _=>ZcL) (fun _ _ _ _ _=>(ZjM op_leS op_leS Zaq (pv 0) Zaq))) Zab))))),?_⟩
   try dsimp only [cxOf,Cx.nox,Cx.wish]
   rcases h with ⟨x,rfl,hx,q⟩ | ⟨T,ty,hT,q⟩
   · have hz : x.length ≤ sizeLine := XaY (Zal hx)
     refine ⟨_,rfl,_,.str,.str,rfl,.str x,_,rfl,iteF ?_⟩;refine ⟨_,rfl,_,_,rfl,⟨hz,rfl⟩,_,_,rfl,rfl,_,rfl,?_⟩;refine ite2 (fun h1=>?_) (fun h1=>?_)
     · have h1:1≤x.length:=by have:=Xa8 h1;omega
       refine ⟨_,_,rfl,rfl,_,rfl,?_⟩;refine ite2 (fun h2=>?_) (fun h2=>?_)
       · have h2:¬x.length≤8:=fun z=>by
          rw [Xa6 (show ((x.length:Nat):Int)≤8 by omega)] at h2;cases h2
         have e:ZgK x=false:=by unfold ZgK;rw [Xa7 h2];simp
         have:=q H (Same.refl _)
         rw [e] at this;exact this
       · have h2:x.length≤8:=by
          refine Nat.le_of_not_lt fun z=>h2 ?_;rw [Xa7 (show ¬((x.length:Nat):Int)≤8 by omega)];rfl
         have e:ZgK x=(x.cps.toList.map ZkR).all id:=by
          unfold ZgK;rw [Xa6 h1,Xa6 h2,List.all_map];rfl
         refine ⟨_,rfl,_,rfl,Zmy (f:=fun c=>V.bl (ZkR c)) hz (fun i c H2 D R hc s2 hD k=>?_) (fun H2 D s2 hD e2=>?_)⟩
         · refine ⟨_,rfl,_,_,rfl,rfl,_,rfl,?_⟩
           show if (!decide ((⟨#[c]⟩:Str).cps.toList<("a" : Str).cps.toList))=true then _ else _
           rw [show (!decide ((⟨#[c]⟩:Str).cps.toList<("a" : Str).cps.toList))=decide (97≤c) from sign_a c]
           refine ite2 (fun h3=>?_) (fun h3=>?_)
           · refine ⟨_,_,rfl,rfl,?_⟩
             rw [show (V.bl ((fun a b:Str=>!decide (b.cps.toList<a.cps.toList)) ⟨#[c]⟩ "z"))=V.bl (decide (c≤122)) from Xbk V.bl (sign_z c)]
             have:=k H2 (Same.refl _)
             unfold ZkR at this;rw [h3] at this;exact this
           · have:=k H2 (Same.refl _)
             unfold ZkR at this;rw [Bool.not_eq_true _ |>.mp h3] at this;exact this
         · refine ⟨_,x.cps.toList.map ZkR,rfl,SqL.of (by rw [Xax];exact e2),?_⟩
           rw [←e];exact q H2 s2
     · have h1:¬1≤x.length:=fun z=>h1 (Xa6 (by omega))
       have e:ZgK x=false:=by unfold ZgK;rw [Xa7 h1];rfl
       have:=q H (Same.refl _)
       rw [e] at this;exact ⟨_,rfl,iteT this⟩
   · refine ⟨_,rfl,_,.str,T,rfl,ty,_,rfl,?_⟩
     cases T with
     | str=>exact absurd rfl hT
     | _=>exact iteT (iteT q)
variable (P w K mg base) in
abbrev ZeH:Prop:=Zax P w K mg base "is_name" 1 ["thing"] (Zhc K)
theorem ZiU (B:Blt mg) (F:Fun K "is_name" "is_name" Zds f fd) (hm:mg "is_name" = some (.ref f)):ZeH P w K mg base :=
 ⟨f,fd,ZkS B  F,hm,F.kp,F.binds fun _ _ _ _ _ _ us hl=>(by obtain ⟨x0,rfl⟩:=Zen hl;rfl)⟩
inductive E_refuse_no_names (K:XFg) (vs:List V) (H:Hp) (Q:VK):Prop where
 | mk (a p:Addr) (ss:List Stt) (ps:List (Str×Str)) (h0:vs=[.ref a,.ref p]) (h1:StE K H a ss) (h2:Fits ss) (h3:Prs K H p ps) (h4:ps.length≤60) (h5:(∀ x∈Za0 ss++ZcZ ps,ZgK x=true)) (h6:∀ H',Same H H'→Q .non H'):E_refuse_no_names K vs H Q
def ZcP (K:XFg):Sp:=fun vs H Q _=>E_refuse_no_names K vs H Q
theorem ZeI (B:Blt mg) (c_labels_told:Zch P w K mg base) (c_is_name:ZeH P w K mg base) (F:Fun K "refuse_no_names" "refuse_no_names" Zbp f fd):FnOk P w K mg base CX0 3 f fd ["states", "pairs"] (ZcP K):=by
 refine F.ok sc_refuse_no_names (fun vs H Q E h=>?_) (fun cdv A outer s H vs Q E hr h=>?_)
 · obtain ⟨a,p,ss,ps,rfl,_⟩:=h
   rfl
 · obtain ⟨a,p,ss,ps,rfl,hS,hF,hP,hpl,hN,q⟩:=h
   refine ⟨_,(Zae (ZaL Xbs rfl (Zaz (ZaC c_labels_told (hr.mono (by decide)) rfl (Zaa (pv 0) (Zaa (pv 1) Zab)))) (Zag (i:=2) sc_refuse_no_names.nd rfl (Or.inl rfl)) (Zae (ZaS (Zc2 (Zb7 (ZaC c_is_name (hr.mono (by decide)) rfl (Zaa (pv 2) Zab)))) (Zae ZbG) Zau)))),?_⟩;try dsimp only [cxOf,Cx.nox,Cx.wish]
   refine ⟨_,rfl,_,rfl,a,p,ss,ps,rfl,hS,hF,hP,hpl,fun l H1 hl s1 el=>?_⟩;refine ⟨l,rfl,⟨_,SqL.of el⟩,ZaI (xs:=(Za0 ss++ZcZ ps).map V.str) (fun i σ H'=>∃ u2,σ=[some (.ref a),some (.ref p),u2]∧Same H1 H') ⟨none,rfl,Same.refl _⟩ (fun i σ H' _ hv_=>by obtain ⟨_,_,e⟩:=hv_;exact SqL.of (e _ _ el)) ?_ ?_⟩
   · rintro i x σ H2 hx ⟨u2,rfl,s2⟩
     obtain ⟨b,hb,rfl⟩:=Zlz hx;have hn:=hN b (Xah hb)
     have hlen:b.length≤8:=by
      unfold ZgK at hn;rw [Bool.and_eq_true,Bool.and_eq_true] at hn;exact Xa8 hn.2.1
     refine ⟨_,rfl,_,rfl,Or.inl ⟨b,rfl,by omega,fun H3 s3=>?_⟩⟩;rw [hn];exact ⟨_,rfl,iteF ⟨_,rfl,s2.trans s3⟩⟩
   · rintro σ H2 ⟨u2,rfl,s2⟩
     exact q H2 (s1.trans s2)
variable (P w K mg base) in
abbrev Zbu:Prop:=Zax P w K mg base "refuse_no_names" 3 ["states", "pairs"] (ZcP K)
theorem Zd6 (B:Blt mg) (c_labels_told:Zch P w K mg base) (c_is_name:ZeH P w K mg base) (F:Fun K "refuse_no_names" "refuse_no_names" Zbp f fd) (hm:mg "refuse_no_names" = some (.ref f)):Zbu P w K mg base :=
 ⟨f,fd,ZeI B c_labels_told c_is_name F,hm,F.kp,F.binds fun _ _ _ _ _ _ us hl=>(by obtain ⟨x0,x1,rfl⟩:=Zd5 hl;rfl)⟩
def wholeT:Ty→Bool
 | .int=>true
 | _=>false
def Zgh (K:XFg):Sp:=fun vs H Q _=>∃ v T,vs=[v]∧TyN K H v T∧Q (.bl (wholeT T)) H
theorem Zjz (B:Blt mg) (F:Fun K "is_whole" "is_whole" ZdK f fd):FnOk P w K mg base CX0 1 f fd ["thing"] (Zgh K):=by
 refine F.ok Zjw (fun vs H Q E h=>?_) (fun cdv A outer s H vs Q E hr h=>?_)
 · obtain ⟨v,T,rfl,_⟩:=h
   rfl
 · obtain ⟨v,T,rfl,ty,q⟩:=h
   refine ⟨_,(Zae (Zar (ZjK (Zan Zdc (by rfl) B.b_isinstance (by decide +kernel) (Zaa (pv 0) (Zaa (Zjg "int" rfl B.b_int (by decide +kernel)) Zab))) (ZjJ (pe_not (Zan Zdc (by rfl) B.b_isinstance (by decide +kernel) (Zaa (pv 0) (Zaa (Zjg "bool" rfl B.b_bool (by decide +kernel)) Zab)))))))),?_⟩
   try dsimp only [cxOf,Cx.nox,Cx.wish]
   refine ⟨_,rfl,_,.int,T,rfl,ty,_,rfl,?_⟩
   cases T with
   | int=>exact iteT ⟨_,rfl,_,.bool,.int,rfl,ty,_,rfl,q⟩
   | bool=>exact iteT ⟨_,rfl,_,.bool,.bool,rfl,ty,_,rfl,q⟩
   | _=>exact iteF q
variable (P w K mg base) in
abbrev ZdW:Prop:=Zax P w K mg base "is_whole" 1 ["thing"] (Zgh K)
theorem ZhP (B:Blt mg) (F:Fun K "is_whole" "is_whole" ZdK f fd) (hm:mg "is_whole" = some (.ref f)):ZdW P w K mg base :=
 ⟨f,fd,Zjz B  F,hm,F.kp,F.binds fun _ _ _ _ _ _ us hl=>(by obtain ⟨x0,rfl⟩:=Zen hl;rfl)⟩
inductive E_is_place (K:XFg) (vs:List V) (H:Hp) (Q:VK):Prop where
 | mk (n m:Int) (h0:vs=[.int n,.int m]) (h1:0≤n) (h2:n<m) (h3:Q (.bl true) H):E_is_place K vs H Q
def Zgi (K:XFg):Sp:=fun vs H Q _=>E_is_place K vs H Q
theorem ZjA (B:Blt mg) (c_is_whole:ZdW P w K mg base) (F:Fun K "is_place" "is_place" ZdL f fd):FnOk P w K mg base CX0 2 f fd ["number", "many"] (Zgi K):=by
 refine F.ok Zjx (fun vs H Q E h=>?_) (fun cdv A outer s H vs Q E hr h=>?_)
 · obtain ⟨n,m,rfl,_⟩:=h
   rfl
 · obtain ⟨n,m,rfl,h0,h1,q⟩:=h
   refine ⟨_,(Zae (Zar (ZjK (ZaC c_is_whole (hr.mono (by decide)) rfl (Zaa (pv 0) Zab)) (ZjJ (ZjM op_le Zib Zaf (pv 0) (pv 1)))))),?_⟩;try dsimp only [cxOf,Cx.nox,Cx.wish]
   refine ⟨_,rfl,_,.int,rfl,.int n,_,rfl,iteT ?_⟩;refine ⟨_,rfl,_,_,rfl,rfl,_,rfl,?_⟩;rw [Xa6 h0];refine iteT ⟨_,rfl,_,_,rfl,rfl,?_⟩
   have e:V.bl true=V.bl (decide (n<m)):=by rw [Xa6 h1]
   rw [e] at q;exact q
variable (P w K mg base) in
abbrev ZdX:Prop:=Zax P w K mg base "is_place" 2 ["number", "many"] (Zgi K)
theorem ZhQ (B:Blt mg) (c_is_whole:ZdW P w K mg base) (F:Fun K "is_place" "is_place" ZdL f fd) (hm:mg "is_place" = some (.ref f)):ZdX P w K mg base :=
 ⟨f,fd,ZjA B c_is_whole F,hm,F.kp,F.binds fun _ _ _ _ _ _ us hl=>(by obtain ⟨x0,x1,rfl⟩:=Zd5 hl;rfl)⟩
inductive E_refuse_no_places (K:XFg) (vs:List V) (H:Hp) (Q:VK):Prop where
 | mk (a:Addr) (ss:List Stt) (n:Int) (h0:vs=[.ref a,.int n]) (h1:Stts K H a ss) (h2:0≤n) (h3:n<ss.length) (h4:(∀ s∈ss,∀ g∈s.1,0≤g.2∧g.2<ss.length)) (h5:Q .non H):E_refuse_no_places K vs H Q
def Zcy (K:XFg):Sp:=fun vs H Q _=>E_refuse_no_places K vs H Q
theorem Zep (B:Blt mg) (c_is_place:ZdX P w K mg base) (F:Fun K "refuse_no_places" "refuse_no_places" Zbf f fd):FnOk P w K mg base CX0 3 f fd ["states", "inner"] (Zcy K):=by
 refine F.ok sc_refuse_no_places (fun vs H Q E h=>?_) (fun cdv A outer s H vs Q E hr h=>?_)
 · obtain ⟨a,ss,n,rfl,_⟩:=h
   rfl
 · obtain ⟨a,ss,n,rfl,⟨vs,hS,hD⟩,n0,n1,hG,q⟩:=h
   have lvs:=hD.len_map
   refine ⟨_,(Zad (ZaS (Zc2 (Zlu (pv 0))) (Zae ZbG) Zau)
    (Zad (ZaS (Zc2 (Zb7 (ZaC c_is_place (hr.mono (by decide)) rfl (Zaa (pv 1) (Zaa (Zan Zay (by rfl) B.b_len (by decide +kernel) (Zaa (pv 0) Zab)) Zab))))) (Zae ZbG) Zau)
    (Zae (ZaL Xbs rfl (Zaz (pv 0)) (ZaR rfl (Zai (Zag (i:=2) sc_refuse_no_places.nd rfl (Or.inl rfl)) (Zai (Zag (i:=3) sc_refuse_no_places.nd rfl (Or.inl rfl)) ZaG))) (Zae (ZaL Xbs rfl (Zaz (pv 2)) (ZaR rfl (Zai (Zag (i:=4) sc_refuse_no_places.nd rfl (Or.inl rfl)) (Zai (Zag (i:=5) sc_refuse_no_places.nd rfl (Or.inl rfl)) ZaG))) (Zae (ZaS (Zc2 (Zb7 (ZaC c_is_place (hr.mono (by decide)) rfl (Zaa (pv 5) (Zaa (Zan Zay (by rfl) B.b_len (by decide +kernel) (Zaa (pv 0) Zab)) Zab))))) (Zae ZbG) Zau)))))))),?_⟩
   try dsimp only [cxOf,Cx.nox,Cx.wish]
   refine ⟨_,rfl,a,vs,rfl,hS,?_⟩
   have hne:vs.isEmpty=false:=by
    cases vs with
    | nil=>simp at lvs;omega
    | cons _ _=>rfl
   rw [hne];refine iteF ⟨_,rfl,_,rfl,_,_,rfl,Or.inl ⟨_,hS,rfl⟩,n,_,rfl,n0,by omega,_,rfl,iteF ?_⟩;refine ⟨_,rfl,a,rfl,⟨_,hS⟩,ZaI (xs:=vs) (fun i σ H'=>∃ u2 u3 u4 u5,σ=[some (.ref a),some (.int n),u2,u3,u4,u5]∧H'=H) ⟨none,none,none,none,rfl,rfl⟩ (fun i σ H' _ hv_=>by obtain ⟨_,_,_,_,_,e⟩:=hv_;exact by rw [e];exact hS) ?_ ?_⟩
   · rintro i x σ H2 hx ⟨u2,u3,u4,u5,rfl,rfl⟩
     obtain ⟨s,t,g,e,hs,rfl,ht,⟨gv,hg,hgd⟩,he⟩:=hD.sts_get hx;refine ⟨t,_,rfl,ht,rfl,_,_,rfl,_,_,rfl,rfl,?_⟩;refine ⟨_,rfl,g,rfl,⟨_,hg⟩,ZaI (xs:=gv) (fun i σ H'=>∃ u4 u5,σ=[some (.ref a),some (.int n),some (.ref g),some (.ref e),u4,u5]∧H'=H2) ⟨_,_,rfl,rfl⟩ (fun i σ H' _ hv_=>by obtain ⟨_,_,_,e⟩:=hv_;exact by rw [e];exact hg) ?_ ?_⟩
     · rintro j y σ H3 hy ⟨u4,u5,rfl,rfl⟩
       obtain ⟨p,t',hp,rfl,ht'⟩:=hgd.goes_get hy;obtain ⟨p0,p1⟩:=hG s (Xah hs) p (Xah hp);refine ⟨t',_,rfl,ht',rfl,_,_,rfl,_,_,rfl,rfl,?_⟩;exact ⟨_,rfl,_,rfl,_,_,rfl,Or.inl ⟨_,hS,rfl⟩,p.2,_,rfl,p0,by omega,_,rfl,iteF ⟨_,_,rfl,rfl⟩⟩
     · rintro σ H3 ⟨u4,u5,rfl,rfl⟩
       exact ⟨_,_,_,_,rfl,rfl⟩
   · rintro σ H2 ⟨u2,u3,u4,u5,rfl,rfl⟩
     exact q
variable (P w K mg base) in
abbrev Zbi:Prop:=Zax P w K mg base "refuse_no_places" 3 ["states", "inner"] (Zcy K)
theorem ZdB (B:Blt mg) (c_is_place:ZdX P w K mg base) (F:Fun K "refuse_no_places" "refuse_no_places" Zbf f fd) (hm:mg "refuse_no_places" = some (.ref f)):Zbi P w K mg base :=
 ⟨f,fd,Zep B c_is_place F,hm,F.kp,F.binds fun _ _ _ _ _ _ us hl=>(by obtain ⟨x0,x1,rfl⟩:=Zd5 hl;rfl)⟩
inductive E_is_one_twice (K:XFg) (vs:List V) (H:Hp) (Q:VK):Prop where
 | mk (l:Addr) (ls:List Str) (h0:vs=[.ref l]) (h1:SqL K H l (ls.map V.str)) (h2:ls.length≤1000) (h3:ls.Nodup) (h4:∀ H',Same H H'→Q (.bl false) H'):E_is_one_twice K vs H Q
def ZdC (K:XFg):Sp:=fun vs H Q _=>E_is_one_twice K vs H Q
theorem Zgj (B:Blt mg) (F:Fun K "is_one_twice" "is_one_twice" ZbT f fd):FnOk P w K mg base CX0 1 f fd ["labels"] (ZdC K):=by
 refine F.ok Zga (fun vs H Q E h=>?_) (fun cdv A outer s H vs Q E hr h=>?_)
 · obtain ⟨l,ls,rfl,_⟩:=h
   rfl
 · obtain ⟨l,ls,rfl,hL,hll,hnd,q⟩:=h
   refine ⟨_,(Zae (Zar (Zb6 Zib (Zan Zht (by rfl) B.b_len (by decide +kernel) (Zaa (ZaJ (Zji rfl) (by rfl) B.b_set (by decide +kernel) (Zaa (pv 0) Zab)) Zab)) (Zan Zay (by rfl) B.b_len (by decide +kernel) (Zaa (pv 0) Zab)) (ZaD _)))),?_⟩;try dsimp only [cxOf,Cx.nox,Cx.wish]
   refine ⟨_,rfl,l,ls,rfl,hL,hll,fun s n hn hs=>?_⟩;refine ⟨_,n,rfl,upd_same,by rw [hn.mpr hnd];exact hll,_,rfl,_,ls.length,rfl,Or.inl ⟨_,(Zak hs).seq hL,by rw [Xaa]⟩,_,_,rfl,rfl,?_⟩
   have key:∀ o,Q (V.bl (decide ((n:Int)<(ls.length:Int)))) (upd H s o):=fun o=>by
    have:=q _ (Zak (o:=o) hs)
    rw [show V.bl false=V.bl (decide ((n:Int)<(ls.length:Int))) by rw [hn.mpr hnd,Xa7 (by omega)]] at this;exact this
   exact key _
variable (P w K mg base) in
abbrev ZbY:Prop:=Zax P w K mg base "is_one_twice" 1 ["labels"] (ZdC K)
theorem Zfa (B:Blt mg) (F:Fun K "is_one_twice" "is_one_twice" ZbT f fd) (hm:mg "is_one_twice" = some (.ref f)):ZbY P w K mg base :=
 ⟨f,fd,Zgj B  F,hm,F.kp,F.binds fun _ _ _ _ _ _ us hl=>(by obtain ⟨x0,rfl⟩:=Zen hl;rfl)⟩
inductive E_refuse_twice (K:XFg) (vs:List V) (H:Hp) (Q:VK):Prop where
 | mk (a:Addr) (ss:List Stt) (h0:vs=[.ref a]) (h1:Stts K H a ss) (h2:Fits ss) (h3:(∀ s∈ss,(s.1.map (·.1)).Nodup∧s.2.Nodup)) (h4:∀ H',Same H H'→Q .non H'):E_refuse_twice K vs H Q
def ZdD (K:XFg):Sp:=fun vs H Q _=>E_refuse_twice K vs H Q
theorem Zgk (B:Blt mg) (c_is_one_twice:ZbY P w K mg base) (c_labels_of:ZbQ P w K mg base) (F:Fun K "refuse_twice" "refuse_twice" ZbU f fd):FnOk P w K mg base CX0 2 f fd ["states"] (ZdD K):=by
 refine F.ok sc_refuse_twice (fun vs H Q E h=>?_) (fun cdv A outer s H vs Q E hr h=>?_)
 · obtain ⟨a,ss,rfl,_⟩:=h
   rfl
 · obtain ⟨a,ss,rfl,⟨vs,hS,hD⟩,hF,hN,q⟩:=h
   have lvs:=hD.len_map
   refine ⟨_,(Zae (ZaL Xbs rfl (Zaz (pv 0)) (ZaR rfl (Zai (Zag (i:=1) sc_refuse_twice.nd rfl (Or.inl rfl)) (Zai (Zag (i:=2) sc_refuse_twice.nd rfl (Or.inl rfl)) ZaG))) (Zad (ZaS (Zb7 (ZaC c_is_one_twice (hr.mono (by decide)) rfl (Zaa (ZaC c_labels_of (hr.mono (by decide)) rfl (Zaa (pv 1) Zab)) Zab))) (Zae ZbG) Zau)
    (Zae (ZaS (Zb7 (ZaC c_is_one_twice (hr.mono (by decide)) rfl (Zaa (pv 2) Zab))) (Zae ZbG) Zau))))),?_⟩
   try dsimp only [cxOf,Cx.nox,Cx.wish]
   refine ⟨_,rfl,a,rfl,⟨_,hS⟩,ZaI (xs:=vs) (fun i σ H'=>∃ u1 u2,σ=[some (.ref a),u1,u2]∧Same H H') ⟨none,none,rfl,Same.refl _⟩ (fun i σ H' _ hv_=>by obtain ⟨_,_,_,e⟩:=hv_;exact e.seq hS) ?_ ?_⟩
   · rintro i x σ H2 hx ⟨u1,u2,rfl,s2⟩
     obtain ⟨s,t,g,e,hs,rfl,ht,hg,he⟩:=hD.sts_get hx;have b1:=hF.gs s (Xah hs);have b2:=hF.es s (Xah hs);obtain ⟨d1,d2⟩:=hN s (Xah hs);refine ⟨t,_,rfl,s2.seqT ht,rfl,_,_,rfl,_,_,rfl,rfl,?_⟩;refine ⟨_,rfl,g,s.1,rfl,hg.same s2,by omega,fun l H3 hl s3 el=>?_⟩;refine ⟨l,_,rfl,SqL.of el,by rw [Xaa];omega,d1,fun H4 s4=>⟨_,rfl,iteF ?_⟩⟩;have s24:=(s2.trans s3).trans s4;exact ⟨_,rfl,e,s.2,rfl,s24.seq he,by omega,d2,fun H5 s5=>⟨_,rfl,iteF ⟨_,_,rfl,s24.trans s5⟩⟩⟩
   · rintro σ H2 ⟨u1,u2,rfl,s2⟩
     exact q H2 s2
variable (P w K mg base) in
abbrev ZbZ:Prop:=Zax P w K mg base "refuse_twice" 2 ["states"] (ZdD K)
theorem Zfb (B:Blt mg) (c_is_one_twice:ZbY P w K mg base) (c_labels_of:ZbQ P w K mg base) (F:Fun K "refuse_twice" "refuse_twice" ZbU f fd) (hm:mg "refuse_twice" = some (.ref f)):ZbZ P w K mg base :=
 ⟨f,fd,Zgk B c_is_one_twice c_labels_of F,hm,F.kp,F.binds fun _ _ _ _ _ _ us hl=>(by obtain ⟨x0,rfl⟩:=Zen hl;rfl)⟩
def ZcQ (K:XFg):Sp:=fun vs H Q _=>∃ p ps,vs=[.ref p]∧Prs K H p ps∧ps.length≤100∧∀ d ks H',H d=none→Same H H'→WBB H' d ps ks→ks.length≤ps.length→Q (.ref d) H'
theorem ZeJ (B : Blt mg) (F : Fun K "worse_by_better" "worse_by_better" Zbq f fd) : FnOk P w K mg base CX0 1 f fd ["pairs"] (ZcQ K) := by
 refine F.ok sc_worse_by_better (fun vs H Q E h=>?_) (fun cdv A outer s H vs Q E hr h=>?_)
 · obtain ⟨p,ps,rfl,_⟩:=h
   rfl
 · obtain ⟨p,ps,rfl,⟨vs,hS,hD⟩,hlen,q⟩:=h
   have lvs:vs.length=ps.length:=by have:=hD.length;rw [Xaa] at this;exact this
   refine ⟨_,(Zad (Zao (i:=1) sc_worse_by_better.nd rfl (Or.inl rfl) ZjS)
    (Zad (ZaL Xbs rfl (Zaz (pv 0)) (ZaR rfl (Zai (Zag (i:=2) sc_worse_by_better.nd rfl (Or.inl rfl)) (Zai (Zag (i:=3) sc_worse_by_better.nd rfl (Or.inl rfl)) ZaG))) (Zae (ZaB (Zbl Xa9 Xba Xbb Zaw (Zbl PySem.F.plainAttrs_dict PySem.F.slot_dict_setdefault PySem.F.type_dict_setdefault Zhq (pv 1) (Zaa (pv 2) (Zaa (ZaM Zab) Zab))) (Zaa (pv 3) Zab)))))
    (Zae (Zar (pv 1))))),?_⟩
   try dsimp only [cxOf,Cx.nox,Cx.wish]
   intro d hd;refine ⟨_,rfl,p,rfl,⟨vs,(Zak hd).seq hS⟩,ZaI (xs:=vs) (fun i σ H'=>∃ u2 u3 ks,σ=[some (.ref p),some (.ref d),u2,u3]∧Same H H'∧WBB H' d (ps.take i) ks∧(∀ q∈ks,H q.2=none)∧ks.length≤i) ⟨none,none,[],rfl,Zak hd,WBB.start upd_same,fun q hq=>by simp at hq,XaW _⟩ (fun i σ H' _ hv_=>by obtain ⟨_,_,_,_,s2,_⟩:=hv_;exact s2.seq hS) ?_ ?_⟩
   · rintro i x σ H2 hx ⟨u2,u3,ks,rfl,s2,W,hk,hkl⟩
     obtain ⟨pr,t,hp,rfl,ht⟩:=hD.pairs_get hx;have hil:i<ps.length:=(Xae.mp hp).1
     have etk:ps.take (i+1)=ps.take i++[(pr.1,pr.2)]:=by rw [Xar,hp];rfl
     have wl:∀ b,(ZaX (ps.take i) b).length≤100:=fun b=>by
      unfold ZaX;rw [Xaa];refine Xbh (XaU _ _) ?_;rw [Xaw];omega
     refine ⟨t,_,rfl,s2.seqT ht,rfl,_,_,rfl,_,_,rfl,rfl,?_⟩;refine ⟨_,rfl,Or.inr (Or.inr (Or.inl ⟨rfl,Or.inl ⟨_,W.dict⟩⟩)),_,rfl,by decide,fun a ha=>?_⟩;have nda:d≠a:=Zac W.dict ha;have haH:H a=none:=s2.free ha;refine ⟨d,kvR ks,Sum.inr pr.1,.ref a,rfl,rfl,by rw [Zah nda];exact W.dict,Zal (by rw [Xaa];omega),fun v hv=>?_,fun hn=>?_⟩
     · rw [ZmD] at hv
       obtain ⟨a0,h0,rfl⟩:=XaV.mp hv;have W1:WBB (upd H2 a (.lst [])) d (ps.take i) ks:=W.same (Zak ha);have hl:=W1.worse.1 a0 h0;refine ⟨Or.inl ⟨rfl,_,SqL.of hl⟩,_,rfl,a0,_,_,rfl,rfl,hl,Zal (by rw [Xaa];exact Xbh (wl _) (by decide)),?_⟩;refine ⟨_,_,ks,rfl,fun b o e=>?_,by rw [etk];exact W1.known h0,hk,Nat.le_succ_of_le hkl⟩;have n0:b≠a0:=Zac e (hk _ (ZfU h0));rw [Zah n0,Zah (Zac e haH)];exact s2 b o e
     · rw [ZmD] at hn
       have h0:ks.lookup pr.1=none:=by
        cases e:ks.lookup pr.1 with
        | none=>rfl
        | some z=>rw [e] at hn;cases hn
       have hl:(upd (upd H2 a (.lst [])) d (.dK (putK (kvR ks) (Sum.inr pr.1) (.ref a)))) a=some (.lst []):=by rw [Zah nda.symm,upd_same]
       refine ⟨Or.inl ⟨rfl,_,SqL.of hl⟩,_,rfl,a,_,_,rfl,rfl,hl,Zal (by decide),?_⟩;refine ⟨_,_,ks++[(pr.1,a)],rfl,fun b o e=>?_,by rw [etk];exact W.more h0 ha,fun z hz=>?_,by rw [Xac];exact Nat.add_le_add_right hkl 1⟩
       · rw [Zah (Zac e haH),Zah (Zac e hd),Zah (Zac e haH)]
         exact s2 b o e
       · rcases Xaf.mp hz with hz | hz
         · exact hk z hz
         · rw [Xaj] at hz;subst hz;exact haH
   · rintro σ H2 ⟨u2,u3,ks,rfl,s2,W,hk,hkl⟩
     rw [lvs,Xas] at W;rw [lvs] at hkl;exact ⟨_,rfl,q d ks H2 hd s2 W hkl⟩
variable (P w K mg base) in
abbrev Zbv:Prop:=Zax P w K mg base "worse_by_better" 1 ["pairs"] (ZcQ K)
theorem Zd7 (B:Blt mg) (F:Fun K "worse_by_better" "worse_by_better" Zbq f fd) (hm:mg "worse_by_better" = some (.ref f)):Zbv P w K mg base :=
 ⟨f,fd,ZeJ B  F,hm,F.kp,F.binds fun _ _ _ _ _ _ us hl=>(by obtain ⟨x0,rfl⟩:=Zen hl;rfl)⟩
def Zhd (_:XFg):Sp:=fun vs H Q _=>∃ d ks ps st,vs=[.ref d,.str st]∧WBB H d ps ks∧ps.length≤100∧∀ c cf H',H c=none→Same H H'→H' c=some (.dK (kvS cf))→Tree ps st cf→Full ps st cf→Q (.ref c) H'
theorem ZkT (B : Blt mg) (F : Fun K "reached" "reached" Zeu f fd) : FnOk P w K mg base CX0 1 f fd ["worse_labels", "start"] (Zhd K) := by
 refine F.ok sc_reached (fun vs H Q E h=>?_) (fun cdv A outer s H vs Q E hr h=>?_)
 · obtain ⟨d,ks,ps,st,rfl,_⟩:=h
   rfl
 · obtain ⟨d,ks,ps,st,rfl,W,hlen,q⟩:=h
   refine ⟨_,(Zad (Zao (i:=2) sc_reached.nd rfl (Or.inl rfl) ZjS)
    (Zad (Zao (i:=3) sc_reached.nd rfl (Or.inl rfl) (ZaM (Zaa (pv 1) Zab)))
    (Zad (ZjL Xbs (Zlu (pv 3)) (Zad (Zao (i:=4) sc_reached.nd rfl (Or.inl rfl) (ZaM Zab))
     (Zad (ZaL Xbs rfl (Zaz (pv 3)) (Zag (i:=5) sc_reached.nd rfl (Or.inl rfl)) (Zae (ZaL Xbs rfl (Zaz (Zbl PySem.F.plainAttrs_dict PySem.F.slot_dict_get PySem.F.type_dict_get (mt_get (Zjf hr)) (pv 0) (Zaa (pv 5) (Zaa (ZaM Zab) Zab)))) (Zag (i:=6) sc_reached.nd rfl (Or.inl rfl)) (Zae (ZaS (Zav (Zin (Zjf hr)) (pv 6) (pv 2) (by with_unfolding_all rfl)) (Zad (Zdl (pv 5) (pg_sub (pv 2) (pv 6) (ZmA (Zjf hr))))
           (Zae (ZaB (Zbl Xa9 Xba Xbb Zaw (pv 4) (Zaa (pv 6) Zab))))) Zau)))))
     (Zae (Zao (i:=3) sc_reached.nd rfl (Or.inl rfl) (pv 4))))))
    (Zae (Zar (pv 2)))))),?_⟩
   try dsimp only [cxOf,Cx.nox,Cx.wish]
   intro c hc;refine ⟨_,rfl,ZgZ,fun l hl=>?_⟩;have hlH:H l=none:=(Zak hc).free hl;have ncl:c≠l:=Zac upd_same hl;refine ⟨fun m σ H'=>∃ u4 u5 u6 cf ly la,σ=[some (.ref d),some (.str st),some (.ref c),some (.ref la),u4,u5,u6]∧Same H H'∧H la=none∧H' c=some (.dK (kvS cf))∧H' la=some (.lst (ly.map V.str))∧Lay ps st cf ly []∧m=2 * (ps.length - cf.length)+(if ly.length=0 then 0 else 1),⟨_,none,none,none,[],[st],l,rfl,(Zak hc).trans (Zak hl),hlH,?_,upd_same,Lay.start,rfl⟩,?_⟩
   · rw [Zah ncl,upd_same];rfl
   rintro m σ H1 ⟨u4,u5,u6,cf,ly,la,rfl,s1,hlaH,ec,ela,L,em⟩;refine ⟨_,rfl,la,_,rfl,SqL.of ela,?_⟩
   cases ly with
   | nil=>exact iteF ⟨_,rfl,q c cf H1 hc s1 ec L.tree L.done⟩
   | cons b0 ly0 =>
     refine iteT ?_;generalize hly:b0 :: ly0=ly at *
     have hlp:0<ly.length:=by rw [←hly];exact Nat.succ_pos _
     refine ⟨fun σ' H'=>∃ u5 u6 cf' fu fa,σ'=[some (.ref d),some (.str st),some (.ref c),some (.ref fa),some (.ref fa),u5,u6]∧Same H H'∧H fa=none∧H' c=some (.dK (kvS cf'))∧H' fa=some (.lst (fu.map V.str))∧Lay ps st cf' fu []∧cf'.length=cf.length+fu.length,?_,?_⟩
     · rintro σ' H' ⟨u5,u6,cf',fu,fa,rfl,s2,hfa,ec2,efa,L2,el⟩
       refine ⟨_,?_,_,u5,u6,cf',fu,fa,rfl,s2,hfa,ec2,efa,L2,rfl⟩;have h1:=L2.tree.length;rw [em,Xbe (show ¬ly.length=0 by omega)]
       by_cases hf0:fu.length=0
       · rw [Xbf hf0];omega
       · rw [Xbe hf0];omega
     refine ⟨by decide,fun fa hfa=>?_⟩;have hfaH:H fa=none:=s1.free hfa;have ncf:c≠fa:=Zac ec hfa;have nlf:la≠fa:=Zac ela hfa;have ncla:c≠la:=ZfN ec ela (by intro z;cases z)
     refine ⟨_,rfl,la,rfl,⟨_,SqL.of (by rw [Zah nlf];exact ela)⟩,ZaI (xs:=ly.map V.str) (fun i σ H'=>∃ u5 u6 cf' fu,σ=[some (.ref d),some (.str st),some (.ref c),some (.ref la),some (.ref fa),u5,u6]∧Same H H'∧H' la=some (.lst (ly.map V.str))∧H' c=some (.dK (kvS cf'))∧H' fa=some (.lst (fu.map V.str))∧Lay ps st cf' (ly.drop i) fu∧cf'.length=cf.length+fu.length)
      ⟨_,_,cf,[],rfl,s1.trans (Zak hfa),by rw [Zah nlf];exact ela,by rw [Zah ncf];exact ec,upd_same,L,rfl⟩ (fun i σ H' _ hv_=>by obtain ⟨_,_,_,_,_,_,e,_⟩:=hv_;exact SqL.of e) ?_ ?_⟩
     · rintro i x σ H2 hx ⟨u5,u6,cf',fu,rfl,s2,ela2,ec2,efa2,L2,el⟩
       obtain ⟨b,hb,rfl⟩:∃ b,ly[i]?=some b∧x=V.str b:=by
        rw [Xag] at hx;obtain ⟨b,h1,h2⟩:=XaV.mp hx;exact ⟨b,h1,h2.symm⟩
       have hil:i<ly.length:=(Xae.mp hb).1
       have edr:ly.drop i=b :: ly.drop (i+1):=by
        rw [XaL hil];rw [Xab hil] at hb;rw [Xbd hb]
       rw [edr] at L2;have W2:=W.same s2;refine ⟨_,rfl,Or.inr (Or.inr (Or.inl ⟨rfl,Or.inl ⟨_,W2.dict⟩⟩)),_,rfl,by decide,fun na hna=>?_⟩;have hnaH:H na=none:=s2.free hna;have s3:=s2.trans (Zak (o:=.lst []) hna);have nac:c≠na:=Zac ec2 hna;have naf:fa≠na:=Zac efa2 hna;have nal:la≠na:=Zac ela2 hna;have W3:=W.same s3
       obtain ⟨wa,hwa,ewa,nwc,nwf,nwl⟩:∃ wa,((ks.lookup b).map V.ref).getD (.ref na)=.ref wa∧(upd H2 na (.lst [])) wa=some (.lst ((ZaX ps b).map V.str))∧wa≠c∧wa≠fa∧wa≠la:=by
        cases e:ks.lookup b with
        | none=>exact ⟨na,rfl,by rw [upd_same,W.worse.2 e];rfl,nac.symm,naf.symm,nal.symm⟩
        | some a0 =>
          have h0:=W.worse.1 a0 e;exact ⟨a0,rfl,s3 _ _ h0,Zac h0 hc,Zac h0 hfaH,Zac h0 hlaH⟩
       refine ⟨d,_,_,((ks.lookup b).map V.ref),rfl,rfl,by rw [←ZmD];exact DGet.k (k:=Sum.inr b) W3.dict,?_⟩;rw [hwa]
       refine ⟨wa,rfl,⟨_,SqL.of ewa⟩,ZaI (xs:=(ZaX ps b).map V.str) (fun j σ H'=>∃ u6 cf' fu,σ=[some (.ref d),some (.str st),some (.ref c),some (.ref la),some (.ref fa),some (.str b),u6]∧Same H H'∧H' wa=some (.lst ((ZaX ps b).map V.str))∧H' la=some (.lst (ly.map V.str))∧H' c=some (.dK (kvS cf'))∧H' fa=some (.lst (fu.map V.str))∧LayB ps st b ((ZaX ps b).take j) cf' (ly.drop (i+1)) fu∧cf'.length=cf.length+fu.length)
        ⟨_,cf',fu,rfl,s3,ewa,by rw [Zah nal];exact ela2,by rw [Zah nac];exact ec2,by rw [Zah naf];exact efa2,L2.into,el⟩ (fun j σ H' _ hv_=>by obtain ⟨_,_,_,_,_,e,_⟩:=hv_;exact SqL.of e) ?_ ?_⟩
       · rintro j y σ H4 hy ⟨u6,cf2,fu2,rfl,s4,ewa4,ela4,ec4,efa4,L4,el4⟩
         obtain ⟨w,hw,rfl⟩:∃ w,(ZaX ps b)[j]?=some w∧y=V.str w:=by
          rw [Xag] at hy;obtain ⟨w,h1,h2⟩:=XaV.mp hy;exact ⟨w,h1,h2.symm⟩
         have etk:(ZaX ps b).take (j+1)=(ZaX ps b).take j++[w]:=by rw [Xar,hw];rfl
         have hmem:(b,w)∈ps:=mem_worseOf.mp (Xah hw);refine ⟨_,rfl,_,rfl,c,_,rfl,DGet.k (k:=Sum.inr w) ec4,_,rfl,?_⟩;rw [val_S]
         cases e:cf2.lookup w with
         | some z =>
           refine iteF ?_;have hk:w∈cf2.map (·.1):=Xai.mpr ⟨_,ZmC e,rfl⟩;exact ⟨_,cf2,fu2,rfl,s4,ewa4,ela4,ec4,efa4,by rw [etk];exact L4.known hk,el4⟩
         | none =>
           refine iteT ?_;have hk:w ∉ cf2.map (·.1):=Ze3 e
           have hv:valV (kvS cf2) (Sum.inr w)=none:=by rw [val_S,e];rfl
           have L5:=L4.more hk hmem;have hcl:=L4.tree.length
           have hfl:fu2.length≤100:=by omega
           have ncf':c≠fa:=ZfN ec4 efa4 (by intro z;cases z);refine ⟨_,rfl,_,rfl,_,rfl,c,_,rfl,DPut.k (k:=Sum.inr w) ec4 (Zal (by rw [Xaa];omega)),?_⟩
           have efa5:(upd H4 c (.dK (putK (kvS cf2) (Sum.inr w) (.str b)))) fa=some (.lst (fu2.map V.str)):=by rw [Zah ncf'.symm];exact efa4
           refine ⟨_,rfl,Or.inl ⟨rfl,_,SqL.of efa5⟩,_,rfl,fa,_,_,rfl,rfl,efa5,Zal (by rw [Xaa];omega),?_⟩;refine ⟨_,cf2++[(w,b)],fu2++[w],rfl,fun z o ez=>?_,?_,?_,?_,?_,by rw [etk];exact L5,by rw [Xac,Xac,el4];simp;omega⟩
           · rw [Zah (Zac ez hfaH),Zah (Zac ez hc)]
             exact s4 z o ez
           · rw [Zah nwf,Zah nwc];exact ewa4
           · rw [Zah nlf,Zah ncla.symm];exact ela4
           · rw [Zah ncf',upd_same,ZjQ _ hv]
             simp [kvS]
           · rw [upd_same,Xad];rfl
       · rintro σ H4 ⟨u6,cf2,fu2,rfl,s4,ewa4,ela4,ec4,efa4,L4,el4⟩
         rw [Xaa,Xas] at L4;exact ⟨_,_,cf2,fu2,rfl,s4,ela4,ec4,efa4,L4.out,el4⟩
     · rintro σ H2 ⟨u5,u6,cf',fu,rfl,s2,ela2,ec2,efa2,L2,el⟩
       rw [Xaa,List.drop_length] at L2;exact ⟨_,rfl,_,_,cf',fu,fa,rfl,s2,hfaH,ec2,efa2,L2.next,el⟩
variable (P w K mg base) in
abbrev ZeK:Prop:=Zax P w K mg base "reached" 1 ["worse_labels", "start"] (Zhd K)
theorem ZiV (B:Blt mg) (F:Fun K "reached" "reached" Zeu f fd) (hm:mg "reached" = some (.ref f)):ZeK P w K mg base :=
 ⟨f,fd,ZkT B  F,hm,F.kp,F.binds fun _ _ _ _ _ _ us hl=>(by obtain ⟨x0,x1,rfl⟩:=Zd5 hl;rfl)⟩
def ltP (p q:Str×Str):Prop:=ltS p.1 q.1∨(p.1=q.1∧ltS p.2 q.2)
structure OrdOf (ps ord:List (Str×Str)):Prop where
 mem:∀ a b,(a,b)∈ord↔Path ps a b
 srt:ord.Pairwise ltP
structure OrdUp (ps:List (Str×Str)) (kk:List Str) (ord:List (Str×Str)):Prop where
 mem:∀ a b,(a,b)∈ord↔a∈kk∧Path ps a b
 srt:ord.Pairwise ltP
theorem OrdUp.more {ps:List (Str×Str)} {kk ss:List Str} {b:Str} {ord:List (Str×Str)} (O:OrdUp ps kk ord) (hk:(kk++[b]).Pairwise ltS) (hs:ss.Pairwise ltS) (hm:∀ w,w∈ss↔Path ps b w):OrdUp ps (kk++[b]) (ord++ss.map fun w=>(b,w)):=by
 refine ⟨fun x y=>?_,?_⟩
 · rw [Xaf,O.mem,Xaf,Xaj,Xai]
   constructor
   · rintro (⟨h1,h2⟩ | ⟨w,hw,e⟩)
     · exact ⟨.inl h1,h2⟩
     · cases e
       exact ⟨.inr rfl,(hm _).mp hw⟩
   · rintro ⟨h1 | h1,h2⟩
     · exact .inl ⟨h1,h2⟩
     · subst h1
       exact .inr ⟨y,(hm y).mpr h2,rfl⟩
 · rw [List.pairwise_append] at hk ⊢
   refine ⟨O.srt,?_,fun x hx y hy=>?_⟩
   · rw [List.pairwise_map]
     exact hs.imp fun {x y} h=>.inr ⟨rfl,h⟩
   · obtain ⟨w,_,rfl⟩:=Xai.mp hy
     obtain ⟨x1,x2⟩:=x;exact .inl (hk.2.2 x1 ((O.mem x1 x2).mp hx).1 b (by simp))
theorem Zko {l m:List Str} (h:l.Perm m) {x:Str}:x∈l↔x∈m:=h.mem_iff
inductive E_all_that_follows (K:XFg) (vs:List V) (H:Hp) (Q:VK):Prop where
 | mk (p:Addr) (ps:List (Str×Str)) (h0:vs=[.ref p]) (h1:Prs K H p ps) (h2:ps.length≤60) (h3:∀ (ts:List Addr) (ord:List (Str×Str)) (D:Addr) (H':Hp),OrdOf ps ord→ord.length≤4000→H D=none→Same H H'→H' D=some (.lst (ts.map V.ref))→Tups H' ts ord→Q (.ref D) H'):E_all_that_follows K vs H Q
def Zcz (K:XFg):Sp:=fun vs H Q _=>E_all_that_follows K vs H Q
theorem Zeq (B : Blt mg) (c_worse_by_better : Zbv P w K mg base) (c_reached : ZeK P w K mg base) (F : Fun K "all_that_follows" "all_that_follows" Zbg f fd) : FnOk P w K mg base CX0 2 f fd ["pairs"] (Zcz K) := by
 refine F.ok sc_all_that_follows (fun vs H Q E h=>?_) (fun cdv A outer s H vs Q E hr h=>?_)
 · obtain ⟨p,ps,rfl,_⟩:=h
   rfl
 · obtain ⟨p,ps,rfl,hP,hlen,q⟩:=h
   refine ⟨_,(Zad (Zao (i:=1) sc_all_that_follows.nd rfl (Or.inl rfl) (ZaC c_worse_by_better (hr.mono (by decide)) rfl (Zaa (pv 0) Zab)))
    (Zad (Zao (i:=2) sc_all_that_follows.nd rfl (Or.inl rfl) (ZaM Zab))
    (Zad (ZaL Xbs rfl (Zaz (Zan (Zg0 rfl) (by rfl) B.b_sorted (by decide +kernel) (Zaa (pv 1) Zab))) (Zag (i:=3) sc_all_that_follows.nd rfl (Or.inl rfl)) (Zae (ZaL Xbs rfl (Zaz (Zan (Zg0 rfl) (by rfl) B.b_sorted (by decide +kernel) (Zaa (ZaC c_reached (hr.mono (by decide)) rfl (Zaa (pv 1) (Zaa (pv 3) Zab))) Zab))) (Zag (i:=4) sc_all_that_follows.nd rfl (Or.inl rfl)) (Zae (ZaB (Zbl Xa9 Xba Xbb Zaw (pv 2) (Zaa (Zat (Zaa (pv 3) (Zaa (pv 4) Zab))) Zab)))))))
    (Zae (Zar (pv 2)))))),?_⟩
   try dsimp only [cxOf,Cx.nox,Cx.wish]
   refine ⟨_,rfl,p,ps,rfl,hP,by omega,fun d ks H1 hd s1 W hkl=>?_⟩;refine ⟨by decide,fun D hD=>?_⟩;have hDH:H D=none:=s1.free hD;have s2:=s1.trans (Zak (o:=.lst []) hD);have W2:=W.same (Zak (o:=.lst []) hD);have eD2:(upd H1 D (.lst [])) D=some (.lst []):=upd_same;generalize upd H1 D (.lst [])=H2 at s2 W2 eD2 ⊢
   have hkeys:(kvR ks).map (·.1)=(ks.map (·.1)).map Sum.inr:=by rw [Xax,Xax];rfl
   refine ⟨_,rfl,d,_,ks.map (·.1),rfl,W2.dict,hkeys,by rw [Xaa];omega,fun S kk hkp hks hS=>?_⟩;have ndk:kk.Nodup:=hkp.nodup_iff.mpr W2.nd;have pwk:kk.Pairwise ltS:=Zit hks ndk
   have lkk:kk.length≤60:=by rw [hkp.length_eq,Xaa];omega
   have s3:=Zak (o:=.lst (kk.map V.str)) hS;have eS:(upd H2 S (.lst (kk.map V.str))) S=some (.lst (kk.map V.str)):=upd_same;have hSH:H S=none:=s2.free hS
   have nSD:S≠D:=fun z=>by rw [z,eD2] at hS;cases hS
   have eD3:(upd H2 S (.lst (kk.map V.str))) D=some (.lst []):=s3 _ _ eD2;have W3:=W2.same s3;have s03:=s2.trans s3;generalize upd H2 S (.lst (kk.map V.str))=H3 at s3 eS eD3 W3 s03 ⊢;have hdD:d≠D:=ZfN W3.dict eD3 (by intro z;cases z)
   refine ⟨S,rfl,⟨_,SqL.of eS⟩,ZaI (xs:=kk.map V.str) (fun i σ H'=>∃ u3 u4 ts ord,σ=[some (.ref p),some (.ref d),some (.ref D),u3,u4]∧Same H H'∧H' S=some (.lst (kk.map V.str))∧WBB H' d ps ks∧H' D=some (.lst (ts.map V.ref))∧Tups H' ts ord∧OrdUp ps (kk.take i) ord∧ord.length≤60 * i)
    ⟨none,none,[],[],rfl,s03,eS,W3,eD3,Tups.nil,⟨fun a b=>by simp,List.Pairwise.nil⟩,XaW _⟩ (fun i σ H' _ hv_=>by obtain ⟨_,_,_,_,_,_,e,_⟩:=hv_;exact SqL.of e) ?_ ?_⟩
   · rintro i x σ H4 hx ⟨u3,u4,ts,ord,rfl,s4,eS4,W4,eD4,T4,O4,ol⟩
     obtain ⟨b,hb,rfl⟩:=Zlz hx;have hil:i<kk.length:=(Xae.mp hb).1
     have etk:kk.take (i+1)=kk.take i++[b]:=by rw [Xar,hb];rfl
     refine ⟨_,rfl,_,rfl,d,ks,ps,b,rfl,W4,by omega,fun c cf H5 hc s5 ec Tr Fu=>?_⟩;have hcf:cf.length≤60:=Xbh Tr.length hlen
     have hck:(kvS cf).map (·.1)=(cf.map (·.1)).map Sum.inr:=by rw [Xax,Xax];rfl
     refine ⟨c,_,cf.map (·.1),rfl,ec,hck,by rw [Xaa];omega,fun S2 ss hsp hss hS2=>?_⟩;have nds:ss.Nodup:=hsp.nodup_iff.mpr Tr.nd;have pws:ss.Pairwise ltS:=Zit hss nds
     have lss:ss.length≤60:=by rw [hsp.length_eq,Xaa];exact hcf
     have hms:∀ w,w∈ss↔Path ps b w:=fun w=>(Zko hsp).trans (Tr.iff Fu);have s6:=s5.trans (Zak (o:=.lst (ss.map V.str)) hS2);have eS2:(upd H5 S2 (.lst (ss.map V.str))) S2=some (.lst (ss.map V.str)):=upd_same
     have nS2D:S2≠D:=fun z=>by rw [z,s5 _ _ eD4] at hS2;cases hS2
     generalize upd H5 S2 (.lst (ss.map V.str))=H6 at s6 eS2 ⊢
     refine ⟨S2,rfl,⟨_,SqL.of eS2⟩,ZaI (xs:=ss.map V.str) (fun j σ H'=>∃ u4 ts,σ=[some (.ref p),some (.ref d),some (.ref D),some (.str b),u4]∧Same H H'∧H' S=some (.lst (kk.map V.str))∧H' S2=some (.lst (ss.map V.str))∧WBB H' d ps ks∧H' D=some (.lst (ts.map V.ref))∧Tups H' ts (ord++(ss.take j).map fun w=>(b,w)))
      ⟨_,ts,rfl,s4.trans s6,s6 _ _ eS4,eS2,W4.same s6,s6 _ _ eD4,by rw [Xaz,XaO,XaH];exact T4.same s6⟩ (fun j σ H' _ hv_=>by obtain ⟨_,_,_,_,_,e,_⟩:=hv_;exact SqL.of e) ?_ ?_⟩
     · rintro j y σ H7 hy ⟨u4,ts7,rfl,s7,eS7,eS27,W7,eD7,T7⟩
       obtain ⟨w,hw,rfl⟩:=Zlz hy;have hjl:j<ss.length:=(Xae.mp hw).1;refine ⟨_,rfl,Or.inl ⟨rfl,_,SqL.of eD7⟩,_,rfl,_,rfl,ZaF,fun t ht=>?_⟩;have s8:=Zak (o:=.tup [.str b,.str w]) ht
       have T8:Tups (upd H7 t (.tup [.str b,.str w])) (ts7++[t]) (ord++(ss.take (j+1)).map fun w=>(b,w)):=by
        rw [Xar,hw,Xad,←XaE];exact (T7.same s8).snoc (p:=(b,w)) upd_same
       have eD8:=s8 _ _ eD7;have nD:=T8.ne eD8;have W8:=W7.same s8;refine ⟨D,_,_,rfl,rfl,eD8,by rw [Xaa,T7.len,Xac,Xaa,Xaw];exact Xbg (show _<5000 by omega) (by decide),?_⟩;refine ⟨_,ts7++[t],rfl,fun z o e=>?_,?_,?_,?_,by rw [upd_same,Xad];rfl,T8.upd nD⟩
       · rw [Zah (Zac e hDH)];exact s8 _ _ (s7 z o e)
       · rw [Zah nSD];exact s8 _ _ eS7
       · rw [Zah nS2D];exact s8 _ _ eS27
       · refine ⟨by rw [Zah hdD];exact W8.dict,W8.nd,fun r hr=>?_,W8.all,W8.adr⟩
         have nr:r.2≠D:=fun z=>Zac (W.lst r hr) hD z;rw [Zah nr];exact W8.lst r hr
     · rintro σ H7 ⟨u4,ts7,rfl,s7,eS7,eS27,W7,eD7,T7⟩
       rw [Xaa,Xas] at T7;refine ⟨_,_,ts7,_,rfl,s7,eS7,W7,eD7,T7,?_,by rw [Xac,Xaa];omega⟩;rw [etk];refine O4.more ?_ pws hms;rw [←etk];exact pwk.sublist (List.take_sublist _ _)
   · rintro σ H4 ⟨u3,u4,ts,ord,rfl,s4,eS4,W4,eD4,T4,O4,ol⟩
     rw [Xaa,Xas] at O4;rw [Xaa] at ol;refine ⟨_,rfl,q ts ord D H4 ⟨fun a b=>?_,O4.srt⟩ (by omega) hDH s4 eD4 T4⟩;rw [O4.mem];refine ⟨fun h=>h.2,fun h=>⟨?_,h⟩⟩;obtain ⟨pr,hpr,e⟩:=Xai.mp h.fst
     have:=W4.all pr hpr
     rw [e] at this;exact (Zko hkp).mpr this
variable (P w K mg base) in
abbrev Zbj:Prop:=Zax P w K mg base "all_that_follows" 2 ["pairs"] (Zcz K)
theorem ZdE (B:Blt mg) (c_worse_by_better:Zbv P w K mg base) (c_reached:ZeK P w K mg base) (F:Fun K "all_that_follows" "all_that_follows" Zbg f fd) (hm:mg "all_that_follows" = some (.ref f)):Zbj P w K mg base :=
 ⟨f,fd,Zeq B c_worse_by_better c_reached F,hm,F.kp,F.binds fun _ _ _ _ _ _ us hl=>(by obtain ⟨x0,rfl⟩:=Zen hl;rfl)⟩
inductive E_order_of (K:XFg) (vs:List V) (H:Hp) (Q:VK):Prop where
 | mk (p:Addr) (ps:List (Str×Str)) (h0:vs=[.ref p]) (h1:Prs K H p ps) (h2:ps.length≤60) (h3:(∀ a,¬Path ps a a)) (h4:∀ (ts:List Addr) (ord:List (Str×Str)) (D:Addr) (H':Hp),OrdOf ps ord→ord.length≤4000→H D=none→Same H H'→H' D=some (.lst (ts.map V.ref))→Tups H' ts ord→Q (.ref D) H'):E_order_of K vs H Q
def Zgl (K:XFg):Sp:=fun vs H Q _=>E_order_of K vs H Q
theorem ZjB (B:Blt mg) (c_all_that_follows:Zbj P w K mg base) (F:Fun K "order_of" "order_of" ZdM f fd):FnOk P w K mg base CX0 3 f fd ["pairs"] (Zgl K):=by
 refine F.ok sc_order_of (fun vs H Q E h=>?_) (fun cdv A outer s H vs Q E hr h=>?_)
 · obtain ⟨p,ps,rfl,_⟩:=h
   rfl
 · obtain ⟨p,ps,rfl,hP,hlen,hac,q⟩:=h
   refine ⟨_,(Zad (Zao (i:=1) sc_order_of.nd rfl (Or.inl rfl) (ZaC c_all_that_follows (hr.mono (by decide)) rfl (Zaa (pv 0) Zab)))
    (Zad (ZaL Xbs rfl (Zaz (pv 1)) (ZaR rfl (Zai (Zag (i:=2) sc_order_of.nd rfl (Or.inl rfl)) (Zai (Zag (i:=3) sc_order_of.nd rfl (Or.inl rfl)) ZaG))) (Zae (ZaS (Zav Zcf (pv 2) (pv 3) (ZaD _)) (Zae ZbG) Zau)))
    (Zae (Zar (pv 1))))),?_⟩
   try dsimp only [cxOf,Cx.nox,Cx.wish]
   refine ⟨_,rfl,p,ps,rfl,hP,hlen,fun ts ord D H1 O hol hD s1 eD T=>?_⟩;refine ⟨_,rfl,D,rfl,⟨_,SqL.of eD⟩,ZaI (xs:=ts.map V.ref) (fun i σ H'=>∃ u2 u3,σ=[some (.ref p),some (.ref D),u2,u3]∧H'=H1) ⟨none,none,rfl,rfl⟩ (fun i σ H' _ hv_=>by obtain ⟨_,_,_,e⟩:=hv_;exact by rw [e];exact SqL.of eD) ?_ ?_⟩
   · rintro i x σ H2 hx ⟨u2,u3,rfl,rfl⟩
     obtain ⟨t,ht,rfl⟩:=getm hx
     have hil:i<ord.length:=by rw [←T.len];exact (Xae.mp ht).1
     have hp:=T.at_ i t ord[i] ht (Xab hil)
     have hne:¬(ord[i].1=ord[i].2):=fun z=>by
      have hm:(ord[i].1,ord[i].2)∈ord:=Xav hil
      have:=(O.mem _ _).mp hm
      rw [←z] at this;exact hac _ this
     refine ⟨t,_,rfl,SqT.of hp,rfl,_,_,rfl,_,_,rfl,rfl,?_⟩;refine ⟨_,rfl,_,rfl,rfl,_,rfl,?_⟩;rw [show decide (V.str ord[i].1=V.str ord[i].2)=false from Xa7 fun z=>hne (V.str.inj z)];exact iteF ⟨_,_,rfl,rfl⟩
   · rintro σ H2 ⟨u2,u3,rfl,rfl⟩
     exact ⟨_,rfl,q ts ord D _ O hol hD s1 eD T⟩
variable (P w K mg base) in
abbrev ZdY:Prop:=Zax P w K mg base "order_of" 3 ["pairs"] (Zgl K)
theorem ZhR (B:Blt mg) (c_all_that_follows:Zbj P w K mg base) (F:Fun K "order_of" "order_of" ZdM f fd) (hm:mg "order_of" = some (.ref f)):ZdY P w K mg base :=
 ⟨f,fd,ZjB B c_all_that_follows F,hm,F.kp,F.binds fun _ _ _ _ _ _ us hl=>(by obtain ⟨x0,rfl⟩:=Zen hl;rfl)⟩
inductive E_sorted_state (K:XFg) (vs:List V) (H:Hp) (Q:VK):Prop where
 | mk (g e:Addr) (s:Stt) (h0:vs=[.ref g,.ref e]) (h1:Goes K H g s.1) (h2:SqL K H e (s.2.map V.str)) (h3:s.1.length≤8) (h4:s.2.length≤8) (h5:∀ (t G E:Addr) (r:Stt) (H':Hp),SrtOf s r→H t=none→H G=none→H E=none→Same H H'→H' t=some (.tup [.ref G,.ref E])→Goes K H' G r.1→(∃ xs,H' G=some (.lst xs))→H' E=some (.lst (r.2.map V.str))→Q (.ref t) H'):E_sorted_state K vs H Q
def ZdF (K:XFg):Sp:=fun vs H Q _=>E_sorted_state K vs H Q
theorem Zgm (B:Blt mg) (F:Fun K "sorted_state" "sorted_state" ZbB f fd):FnOk P w K mg base CX0 1 f fd ["goes", "ends"] (ZdF K):=by
 refine F.ok Zgb (fun vs H Q E h=>?_) (fun cdv A outer s H vs Q E hr h=>?_)
 · obtain ⟨g,e,s,rfl,_⟩:=h
   rfl
 · obtain ⟨g,e,s,rfl,⟨gv,hg,hgd⟩,he,l1,l2,q⟩:=h
   have lgv:=hgd.len_map;refine ⟨_,(Zae (Zar (Zat (Zaa (Zan (Ze6 strC intC) (by rfl) B.b_sorted (by decide +kernel) (Zaa (ZcY (g:=gTup K 2 (Zek (Zc3 0) (Zek (Zc3 1) gNil))) rfl sorted_state_cs1 (Zaz (pv 0)) (fun _ _ _ _ _=>(ZaR rfl (Zai (Zag (i:=0) sorted_state_cs1.nd rfl (Or.inl rfl)) (Zai (Zag (i:=1) sorted_state_cs1.nd rfl (Or.inl rfl)) ZaG)))) (fun _ _ _ _ _=>ZcL) (fun _ _ _ _ _=>(Zat (Zaa (pv 0) (Zaa (pv 1) Zab))))) Zab)) (Zaa (Zan Zg1 (by rfl) B.b_sorted (by decide +kernel) (Zaa (pv 1) Zab)) Zab))))),?_⟩;try dsimp only [cxOf,Cx.nox,Cx.wish]
   refine ⟨_,rfl,g,rfl,⟨_,hg⟩,Za3 (xs:=gv) (fun D i ys H'=>∃ ts:List Addr,ts.length=i∧Same H H'∧H' D=some (.lst ys)∧ys=ts.map V.ref∧(∀ a∈ts,a≠D)∧∀ (n:Nat) (a:Addr) (p:Str×Int),ts[n]?=some a→s.1[n]?=some p→H' a=some (.tup [.str p.1,.int p.2]))
    (fun D hD=>⟨[],rfl,Zak hD,upd_same,rfl,fun a ha=>by simp at ha,fun n a p hn=>by simp at hn⟩) (fun D i ys H' hv_=>by obtain ⟨_,_,s1,_⟩:=hv_;exact s1.seq hg) (fun D i x ys H2 R hD0 hx hv k=>?_) (fun D ys H2 hD0 hv=>?_)⟩
   · obtain ⟨ts,hts,s2,eD,rfl,hnd,hat⟩:=hv
     obtain ⟨p,t,hp,rfl,ht⟩:=hgd.goes_get hx;have hil:i<s.1.length:=(Xae.mp hp).1;refine ⟨t,_,rfl,s2.seqT ht,rfl,_,_,rfl,_,_,rfl,rfl,?_⟩;refine ⟨_,rfl,_,rfl,ZaF,fun z hz=>?_⟩
     have nz:z≠D:=fun y=>by rw [y,eD] at hz;cases hz
     have s3:=Zak (o:=.tup [.str p.1,.int p.2]) hz;refine k _ _ (s3 _ _ eD) (by rw [Xaa,hts];exact Zal (by omega)) ⟨ts++[z],by rw [Xac,hts];rfl,fun b o e=>?_,upd_same,by rw [Xad];rfl,fun a ha=>?_,fun n a p' hn hp'=>?_⟩
     · rw [Zah (Zac e hD0)];exact s3 _ _ (s2 b o e)
     · rcases Xaf.mp ha with ha | ha
       · exact hnd a ha
       · rw [Xaj.mp ha];exact nz
     · rcases Nat.lt_or_ge n ts.length with hlt | hge
       · rw [Xat hlt] at hn
         rw [Zah (hnd a (Xah hn))];exact s3 _ _ (hat n a p' hn hp')
       · have hn1:n<(ts++[z]).length:=(Xae.mp hn).1
         rw [Xac,Xau] at hn1
         obtain rfl:n=i:=by omega
         rw [hp] at hp';cases hp';rw [Xay (by omega),hts,Nat.sub_self] at hn;cases hn;rw [Zah nz,upd_same]
   · obtain ⟨ts,hts,s2,eD,rfl,hnd,hat⟩:=hv
     rw [lgv] at hts;obtain ⟨zs,z1,z2,z3⟩:=ZfH (K:=K) hts hat
     have lzs:zs.length=s.1.length:=by rw [←z2,Xaa]
     refine ⟨D,zs,rfl,SqL.of (by rw [z1];exact eD),by omega,z3,fun G zs' hp hw hG=>?_⟩;have s3:=Zak (o:=.lst (zs'.map (·.1))) hG;have eG:(upd H2 G (.lst (zs'.map (·.1)))) G=some (.lst (zs'.map (·.1))):=upd_same;have hGH:H G=none:=s2.free hG
     have z3':∀ z∈zs',ZkC K (upd H2 G (.lst (zs'.map (·.1)))) z:=fun z hz=>by
      obtain ⟨t,a1,a2⟩:=z3 z (hp.mem_iff.mp hz);exact ⟨t,a1,s3.seqT a2⟩
     have s23:=s2.trans s3;generalize upd H2 G (.lst (zs'.map (·.1)))=H3 at s3 eG z3' s23 ⊢;refine ⟨_,rfl,e,s.2,rfl,s23.seq he,by omega,fun E es hpe hwe hE=>?_⟩;have s4:=Zak (o:=.lst (es.map V.str)) hE;have eE:(upd H3 E (.lst (es.map V.str))) E=some (.lst (es.map V.str)):=upd_same;have hEH:H E=none:=s23.free hE;have s24:=s23.trans s4;have eG4:=s4 _ _ eG
     have z4:∀ z∈zs',ZkC K (upd H3 E (.lst (es.map V.str))) z:=fun z hz=>by
      obtain ⟨t,a1,a2⟩:=z3' z hz;exact ⟨t,a1,s4.seqT a2⟩
     generalize upd H3 E (.lst (es.map V.str))=H4 at s4 eE s24 eG4 z4 ⊢;refine ⟨ZaF,fun t ht=>?_⟩;have s5:=Zak (o:=.tup [.ref G,.ref E]) ht;refine q t G E (zs'.map (·.2),es) _ ⟨by rw [←z2];exact hp.map _,hpe,hw,hwe⟩ (s24.free ht) hGH hEH (s24.trans s5) upd_same ⟨_,SqL.of (s5 _ _ eG4),?_⟩ ⟨_,s5 _ _ eG4⟩ (s5 _ _ eE);exact (ZfI zs' z4).same s5
variable (P w K mg base) in
abbrev Zb0:Prop:=Zax P w K mg base "sorted_state" 1 ["goes", "ends"] (ZdF K)
theorem Zfc (B:Blt mg) (F:Fun K "sorted_state" "sorted_state" ZbB f fd) (hm:mg "sorted_state" = some (.ref f)):Zb0 P w K mg base :=
 ⟨f,fd,Zgm B  F,hm,F.kp,F.binds fun _ _ _ _ _ _ us hl=>(by obtain ⟨x0,x1,rfl⟩:=Zd5 hl;rfl)⟩
inductive E_table_of (K:XFg) (vs:List V) (H:Hp) (Q:VK):Prop where
 | mk (a p:Addr) (ss:List Stt) (ps:List (Str×Str)) (n:Int) (h0:vs=[.ref a,.int n,.ref p]) (h1:StE K H a ss) (h2:Stts K H a ss) (h3:Fits ss) (h4:Prs K H p ps) (h5:ps.length≤40) (h6:(∀ x∈Za0 ss++ZcZ ps,ZgK x=true)) (h7:0≤n) (h8:n<ss.length) (h9:(∀ s∈ss,∀ g∈s.1,0≤g.2∧g.2<ss.length)) (h10:(∀ s∈ss,(s.1.map (·.1)).Nodup∧s.2.Nodup)) (h11:(∀ x,¬Path ps x x)) (h12:∀ (t:Addr) (rs:List Stt) (ord:List (Str×Str)) (H':Hp),rs.length=ss.length→(∀ (i:Nat) (s r:Stt),ss[i]?=some s→rs[i]?=some r→SrtOf s r)→OrdOf ps ord→H t=none→Same H H'→Tab K (fun x=>H x=none) H' t rs n ord→Q (.ref t) H'):E_table_of K vs H Q
def Zgn (K:XFg):Sp:=fun vs H Q _=>E_table_of K vs H Q
theorem ZjC (B:Blt mg) (c_refuse_too_great:Zbh P w K mg base) (c_refuse_no_names:Zbu P w K mg base) (c_refuse_no_places:Zbi P w K mg base) (c_refuse_twice:ZbZ P w K mg base) (c_order_of:ZdY P w K mg base) (c_sorted_state:Zb0 P w K mg base) (F:Fun K "table_of" "table_of" Zc1 f fd):FnOk P w K mg base CX0 4 f fd ["states", "inner", "pairs"] (Zgn K):=by
 refine F.ok sc_table_of (fun vs H Q E h=>?_) (fun cdv A outer s H vs Q E hr h=>?_)
 · obtain ⟨a,p,ss,ps,n,rfl,_⟩:=h
   rfl
 · obtain ⟨a,p,ss,ps,n,rfl,hSE,hS,hF,hP,hpl,hN,n0,n1,hG,hT,hR,q⟩:=h
   have hS':=hS;obtain ⟨vs,hV,hD⟩:=hS';have lvs:=hD.len_map;have hn8:=hF.n
   refine ⟨_,(Zad (ZaB (ZaC c_refuse_too_great (hr.mono (by decide)) rfl (Zaa (pv 0) (Zaa (pv 2) Zab))))
    (Zad (ZaB (ZaC c_refuse_no_names (hr.mono (by decide)) rfl (Zaa (pv 0) (Zaa (pv 2) Zab))))
    (Zad (ZaB (ZaC c_refuse_no_places (hr.mono (by decide)) rfl (Zaa (pv 0) (Zaa (pv 1) Zab))))
    (Zad (ZaB (ZaC c_refuse_twice (hr.mono (by decide)) rfl (Zaa (pv 0) Zab)))
    (Zad (Zao (i:=3) sc_table_of.nd rfl (Or.inl rfl) (ZaC c_order_of (hr.mono (by decide)) rfl (Zaa (pv 2) Zab)))
    (Zae (Zar (Zat (Zaa (ZcY (g:=gTup K 2 (Zek (Zc3 0) (Zek (Zc3 1) gNil))) rfl table_of_cs1 (Zaz (pv 0)) (fun _ _ _ _ _=>(ZaR rfl (Zai (Zag (i:=0) table_of_cs1.nd rfl (Or.inl rfl)) (Zai (Zag (i:=1) table_of_cs1.nd rfl (Or.inl rfl)) ZaG)))) (fun _ _ _ _ _=>ZcL) (fun _ _ _ _ _=>(ZaC c_sorted_state (hr.mono (by decide)) rfl (Zaa (pv 0) (Zaa (pv 1) Zab))))) (Zaa (pv 1) (Zaa (pv 3) Zab))))))))))),?_⟩
   try dsimp only [cxOf,Cx.nox,Cx.wish]
   obtain ⟨pws,hPL,hPD⟩:=id hP;refine ⟨_,rfl,_,rfl,a,p,ss,pws,rfl,hS,hF,hPL,by rw [hPD.len_map];exact hpl,?_⟩;refine ⟨_,rfl,_,rfl,a,p,ss,ps,rfl,hSE,hF,hP,by omega,hN,fun H1 s1=>?_⟩;refine ⟨_,rfl,_,rfl,a,ss,n,rfl,hS.same s1,n0,n1,hG,?_⟩;refine ⟨_,rfl,a,ss,rfl,hS.same s1,hF,hT,fun H2 s2=>?_⟩;have s12:=s1.trans s2;refine ⟨_,rfl,p,ps,rfl,hP.same s12,by omega,hR,fun ts ord o H3 hO hol ho s3 eo T=>?_⟩;have s13:=s12.trans s3;have hoH:H o=none:=s12.free ho
   refine ⟨_,rfl,a,rfl,⟨_,s13.seq hV⟩,Za3 (xs:=vs) (fun D i ys H'=>∃ (us:List Addr) (rs:List Stt),us.length=i∧Same H3 H'∧H' D=some (.lst ys)∧ys=us.map V.ref∧StRows K (fun x=>H x=none) H' D us rs∧∀ (n:Nat) (s r:Stt),ss[n]?=some s→rs[n]?=some r→SrtOf s r)
    (fun D hD=>⟨[],[],rfl,Zak hD,upd_same,rfl,StRows.nil,fun n s r _ h=>by simp at h⟩) (fun D i ys H' hv_=>by obtain ⟨_,_,_,s1,_⟩:=hv_;exact (s13.trans s1).seq hV) (fun D i x ys H4 R hD0 hx hv k=>?_) (fun D ys H4 hD0 hv=>?_)⟩
   · obtain ⟨us,rs,hus,s4,eD,rfl,SR,hso⟩:=hv
     obtain ⟨s,t,g,e,hs,rfl,ht,hg,he⟩:=hD.sts_get hx;have b1:=hF.gs s (Xah hs);have b2:=hF.es s (Xah hs);have s14:=s13.trans s4;have hil:i<ss.length:=(Xae.mp hs).1;refine ⟨t,_,rfl,s14.seqT ht,rfl,_,_,rfl,_,_,rfl,rfl,?_⟩;refine ⟨_,rfl,_,rfl,g,e,s,rfl,hg.same s14,s14.seq he,b1,b2,fun u G E r H5 so hu hG hE s5 eu eG eGx eE=>?_⟩;obtain ⟨xs,eGx⟩:=eGx;have eD5:=s5 _ _ eD
     have nG:G≠D:=fun z=>by rw [z,eD] at hG;cases hG
     have nE:E≠D:=fun z=>by rw [z,eD] at hE;cases hE
     refine k _ _ eD5 (by rw [Xaa,hus];exact Zal (by omega)) ⟨us++[u],rs++[r],by rw [Xac,hus];rfl,fun b o e=>?_,upd_same,by rw [Xad];rfl,((SR.same s5).snoc eu eG eGx eE nG nE (s14.free hG) (s14.free hE)).updL eD5,fun m s' r' h1 h2=>?_⟩
     · rw [Zah (Zac e hD0)];exact s5 _ _ (s4 b o e)
     · rcases Nat.lt_or_ge m rs.length with hlt | hge
       · rw [Xat hlt] at h2
         exact hso m s' r' h1 h2
       · have hn1:m<(rs++[r]).length:=(Xae.mp h2).1
         rw [Xac,Xau] at hn1;have hrl:=SR.len
         obtain rfl:m=i:=by omega
         rw [hs] at h1;cases h1;rw [Xay hge,show m - rs.length=0 by omega] at h2;cases h2;exact so
   · obtain ⟨us,rs,hus,s4,eD,rfl,SR,hso⟩:=hv
     refine ⟨_,rfl,_,rfl,Za1,fun t ht=>?_⟩;have s5:=Zak (o:=.tup [.ref D,.int n,.ref o]) ht;have s45:=s4.trans s5;refine q t rs ord _ (by rw [←SR.len,hus,lvs]) hso hO ((s13.trans s4).free ht) (s13.trans s45) ⟨D,o,us,ts,upd_same,s13.free hD0,hoH,(fun z=>by rw [z,eo] at hD0;cases hD0),s5 _ _ eD,SR.same s5,s45 _ _ eo,T.same s45⟩
variable (P w K mg base) in
abbrev ZdZ:Prop:=Zax P w K mg base "table_of" 4 ["states", "inner", "pairs"] (Zgn K)
theorem ZhS (B:Blt mg) (c_refuse_too_great:Zbh P w K mg base) (c_refuse_no_names:Zbu P w K mg base) (c_refuse_no_places:Zbi P w K mg base) (c_refuse_twice:ZbZ P w K mg base) (c_order_of:ZdY P w K mg base) (c_sorted_state:Zb0 P w K mg base) (F:Fun K "table_of" "table_of" Zc1 f fd) (hm:mg "table_of" = some (.ref f)):ZdZ P w K mg base :=
 ⟨f,fd,ZjC B c_refuse_too_great c_refuse_no_names c_refuse_no_places c_refuse_twice c_order_of c_sorted_state F,hm,F.kp,F.binds fun _ _ _ _ _ _ us hl=>(by obtain ⟨x0,x1,x2,rfl⟩:=ZgF hl;rfl)⟩
theorem Zhe (p:Str×Str):¬ltP p p:=fun h=>by
 rcases h with h | ⟨_,h⟩
 · exact Zck _ h
 · exact Zck _ h
theorem Zl8 {p q:Str×Str} (h:ltP p q) (k:ltP q p):False:=by
 rcases h with h | ⟨e,h⟩ <;> rcases k with k | ⟨e',k⟩
 · exact Zck _ (ZfV h k)
 · rw [e'] at h;exact Zck _ h
 · rw [e] at k;exact Zck _ k
 · exact Zck _ (ZfV h k)
theorem Zgo:∀ {l m:List (Str×Str)},l.Pairwise ltP→m.Pairwise ltP→(∀ x,x∈l↔x∈m)→l=m
 | [],[],_,_,_=>rfl
 | [],y :: m,_,_,h=>absurd ((h y).mpr Xal) (by simp)
 | x :: l,[],_,_,h=>absurd ((h x).mp Xal) (by simp)
 | x :: l,y :: m,hl,hm,h=>by
   obtain ⟨a1,a2⟩:=List.pairwise_cons.mp hl;obtain ⟨b1,b2⟩:=List.pairwise_cons.mp hm
   have exy:x=y:=by
    rcases Xam.mp ((h x).mp Xal) with e | h1
    · exact e
    · rcases Xam.mp ((h y).mpr Xal) with e | h2
      · exact e.symm
      · exact (Zl8 (a1 y h2) (b1 x h1)).elim
   subst exy
   have:l=m:=Zgo a2 b2 fun z=>by
    constructor
    · intro hz
      rcases Xam.mp ((h z).mp (Xap _ hz)) with e | h1
      · rw [e] at hz;exact absurd (a1 x hz) (Zhe x)
      · exact h1
    · intro hz
      rcases Xam.mp ((h z).mpr (Xap _ hz)) with e | h1
      · rw [e] at hz;exact absurd (b1 x hz) (Zhe x)
      · exact h1
   rw [this]
theorem OrdOf.same {ps o1 o2:List (Str×Str)} (h:OrdOf ps o1) (k:OrdOf ps o2):o1=o2:=Zgo h.srt k.srt fun ⟨a,b⟩=>(h.mem a b).trans (k.mem a b).symm
theorem ord_of {ps ord:List (Str×Str)} (hm:∀ a b,(a,b)∈ord↔Path ps a b) (nd:ord.Nodup) (hs:ord.Pairwise (lexO strO strO).kle):OrdOf ps ord :=
 ⟨hm,(hs.and nd).imp fun h=>ZmI h.1 h.2⟩
def Zkp (K:XFg):Sp:=fun vs H Q _=>vs=[]∧∀ (t:Addr) (H':Hp),H t=none→Same H H'→Tab K (fun x=>H x=none) H' t uStates 1 uOrd→Q (.ref t) H'
theorem Zm3 (B:Blt mg) (c_table_of:ZdZ P w K mg base) (F:Fun K "usual" "usual" Zhh f fd):FnOk P w K mg base CX0 5 f fd [] (Zkp K):=by
 refine F.ok sc_usual (fun vs H Q E h=>?_) (fun cdv A outer s H vs Q E hr h=>?_)
 · obtain ⟨rfl,_⟩:=h
   rfl
 · obtain ⟨rfl,q⟩:=h
   refine ⟨_,(Zad (Zao (i:=0) sc_usual.nd rfl (Or.inl rfl) (ZaM (Zaa (Zat (Zaa (ZaM (Zaa (Zat (Zaa Zaq (Zaa Zaf Zab))) (Zaa (Zat (Zaa Zaq (Zaa Zaf Zab))) (Zaa (Zat (Zaa Zaq (Zaa Zaf Zab))) (Zaa (Zat (Zaa Zaq (Zaa Zaf Zab))) Zab))))) (Zaa (ZaM (Zaa Zaq (Zaa Zaq (Zaa Zaq Zab)))) Zab))) (Zaa (Zat (Zaa (ZaM (Zaa (Zat (Zaa Zaq (Zaa Zaf Zab))) (Zaa (Zat (Zaa Zaq (Zaa Zaf Zab))) Zab))) (Zaa (ZaM (Zaa Zaq Zab)) Zab))) (Zaa (Zat (Zaa (ZaM (Zaa (Zat (Zaa Zaq (Zaa Zaf Zab))) Zab)) (Zaa (ZaM (Zaa Zaq (Zaa Zaq (Zaa Zaq Zab)))) Zab))) Zab)))))
    (Zad (Zao (i:=1) sc_usual.nd rfl (Or.inl rfl) (ZaM (Zaa (Zat (Zaa Zaq (Zaa Zaq Zab))) (Zaa (Zat (Zaa Zaq (Zaa Zaq Zab))) (Zaa (Zat (Zaa Zaq (Zaa Zaq Zab))) (Zaa (Zat (Zaa Zaq (Zaa Zaq Zab))) (Zaa (Zat (Zaa Zaq (Zaa Zaq Zab))) (Zaa (Zat (Zaa Zaq (Zaa Zaq Zab))) (Zaa (Zat (Zaa Zaq (Zaa Zaq Zab))) Zab)))))))))
    (Zae (Zar (ZaC c_table_of (hr.mono (by decide)) rfl (Zaa (pv 0) (Zaa Zaf (Zaa (pv 1) Zab)))))))),?_⟩
   try dsimp only [cxOf,Cx.nox,Cx.wish]
   refine ⟨ZaF,fun a00 fa00=>?_⟩
   obtain ⟨ha00,qha00,sa00,ea00⟩:=new_at (o:=(.tup [.str "all",.int 1])) fa00
   rw [←qha00];refine ⟨ZaF,fun a01 fa01=>?_⟩
   obtain ⟨ha01,qha01,sa01,ea01⟩:=new_at (o:=(.tup [.str "allon",.int 1])) fa01
   rw [←qha01];refine ⟨ZaF,fun a02 fa02=>?_⟩
   obtain ⟨ha02,qha02,sa02,ea02⟩:=new_at (o:=(.tup [.str "elder",.int 1])) fa02
   rw [←qha02];refine ⟨ZaF,fun a03 fa03=>?_⟩
   obtain ⟨ha03,qha03,sa03,ea03⟩:=new_at (o:=(.tup [.str "up",.int 0])) fa03
   rw [←qha03];refine ⟨(show 4≤sizeLine by decide),fun G0 fG0=>?_⟩;obtain ⟨hG0,qhG0,sG0,eG0⟩:=new_at (o:=(.lst [.ref a00,.ref a01,.ref a02,.ref a03])) fG0;rw [←qhG0];refine ⟨Za1,fun E0 fE0=>?_⟩
   obtain ⟨hE0,qhE0,sE0,eE0⟩:=new_at (o:=(.lst [.str "let",.str "open",.str "own"])) fE0
   rw [←qhE0];refine ⟨ZaF,fun U0 fU0=>?_⟩;obtain ⟨hU0,qhU0,sU0,eU0⟩:=new_at (o:=(.tup [.ref G0,.ref E0])) fU0;rw [←qhU0];refine ⟨ZaF,fun a10 fa10=>?_⟩
   obtain ⟨ha10,qha10,sa10,ea10⟩:=new_at (o:=(.tup [.str "allon",.int 1])) fa10
   rw [←qha10];refine ⟨ZaF,fun a11 fa11=>?_⟩
   obtain ⟨ha11,qha11,sa11,ea11⟩:=new_at (o:=(.tup [.str "elder",.int 1])) fa11
   rw [←qha11];refine ⟨ZaF,fun G1 fG1=>?_⟩;obtain ⟨hG1,qhG1,sG1,eG1⟩:=new_at (o:=(.lst [.ref a10,.ref a11])) fG1;rw [←qhG1];refine ⟨(show 1≤sizeLine by decide),fun E1 fE1=>?_⟩
   obtain ⟨hE1,qhE1,sE1,eE1⟩:=new_at (o:=(.lst [.str "open"])) fE1
   rw [←qhE1];refine ⟨ZaF,fun U1 fU1=>?_⟩;obtain ⟨hU1,qhU1,sU1,eU1⟩:=new_at (o:=(.tup [.ref G1,.ref E1])) fU1;rw [←qhU1];refine ⟨ZaF,fun a20 fa20=>?_⟩
   obtain ⟨ha20,qha20,sa20,ea20⟩:=new_at (o:=(.tup [.str "up",.int 0])) fa20
   rw [←qha20];refine ⟨(show 1≤sizeLine by decide),fun G2 fG2=>?_⟩;obtain ⟨hG2,qhG2,sG2,eG2⟩:=new_at (o:=(.lst [.ref a20])) fG2;rw [←qhG2];refine ⟨Za1,fun E2 fE2=>?_⟩
   obtain ⟨hE2,qhE2,sE2,eE2⟩:=new_at (o:=(.lst [.str "let",.str "open",.str "own"])) fE2
   rw [←qhE2];refine ⟨ZaF,fun U2 fU2=>?_⟩;obtain ⟨hU2,qhU2,sU2,eU2⟩:=new_at (o:=(.tup [.ref G2,.ref E2])) fU2;rw [←qhU2];refine ⟨Za1,fun DD fDD=>?_⟩;obtain ⟨hDD,qhDD,sDD,eDD⟩:=new_at (o:=(.lst [.ref U0,.ref U1,.ref U2])) fDD;rw [←qhDD];refine ⟨ZaF,fun p0 fp0=>?_⟩
   obtain ⟨hp0,qhp0,sp0,ep0⟩:=new_at (o:=(.tup [.str "let",.str "elder"])) fp0
   rw [←qhp0];refine ⟨ZaF,fun p1 fp1=>?_⟩
   obtain ⟨hp1,qhp1,sp1,ep1⟩:=new_at (o:=(.tup [.str "open",.str "elder"])) fp1
   rw [←qhp1];refine ⟨ZaF,fun p2 fp2=>?_⟩
   obtain ⟨hp2,qhp2,sp2,ep2⟩:=new_at (o:=(.tup [.str "own",.str "elder"])) fp2
   rw [←qhp2];refine ⟨ZaF,fun p3 fp3=>?_⟩
   obtain ⟨hp3,qhp3,sp3,ep3⟩:=new_at (o:=(.tup [.str "elder",.str "all"])) fp3
   rw [←qhp3];refine ⟨ZaF,fun p4 fp4=>?_⟩
   obtain ⟨hp4,qhp4,sp4,ep4⟩:=new_at (o:=(.tup [.str "elder",.str "allon"])) fp4
   rw [←qhp4];refine ⟨ZaF,fun p5 fp5=>?_⟩
   obtain ⟨hp5,qhp5,sp5,ep5⟩:=new_at (o:=(.tup [.str "all",.str "up"])) fp5
   rw [←qhp5];refine ⟨ZaF,fun p6 fp6=>?_⟩
   obtain ⟨hp6,qhp6,sp6,ep6⟩:=new_at (o:=(.tup [.str "allon",.str "up"])) fp6
   rw [←qhp6];refine ⟨(show 7≤sizeLine by decide),fun PP fPP=>?_⟩;obtain ⟨hPP,qhPP,sPP,ePP⟩:=new_at (o:=(.lst [.ref p0,.ref p1,.ref p2,.ref p3,.ref p4,.ref p5,.ref p6])) fPP;rw [←qhPP];have tPP:=Same.refl hPP;have tp6:=sPP.trans tPP;have tp5:=sp6.trans tp6;have tp4:=sp5.trans tp5;have tp3:=sp4.trans tp4;have tp2:=sp3.trans tp3;have tp1:=sp2.trans tp2;have tp0:=sp1.trans tp1;have tDD:=sp0.trans tp0;have tU2:=sDD.trans tDD;have tE2:=sU2.trans tU2;have tG2:=sE2.trans tE2;have ta20:=sG2.trans tG2;have tU1:=sa20.trans ta20;have tE1:=sU1.trans tU1;have tG1:=sE1.trans tE1;have ta11:=sG1.trans tG1;have ta10:=sa11.trans ta11;have tU0:=sa10.trans ta10;have tE0:=sU0.trans tU0;have tG0:=sE0.trans tE0;have ta03:=sG0.trans tG0;have ta02:=sa03.trans ta03;have ta01:=sa02.trans ta02;have ta00:=sa01.trans ta01;have ea00:=ta00 _ _ ea00;have ea01:=ta01 _ _ ea01;have ea02:=ta02 _ _ ea02;have ea03:=ta03 _ _ ea03;have eG0:=tG0 _ _ eG0;have eE0:=tE0 _ _ eE0;have eU0:=tU0 _ _ eU0;have ea10:=ta10 _ _ ea10;have ea11:=ta11 _ _ ea11;have eG1:=tG1 _ _ eG1;have eE1:=tE1 _ _ eE1;have eU1:=tU1 _ _ eU1;have ea20:=ta20 _ _ ea20;have eG2:=tG2 _ _ eG2;have eE2:=tE2 _ _ eE2;have eU2:=tU2 _ _ eU2;have eDD:=tDD _ _ eDD;have ep0:=tp0 _ _ ep0;have ep1:=tp1 _ _ ep1;have ep2:=tp2 _ _ ep2;have ep3:=tp3 _ _ ep3;have ep4:=tp4 _ _ ep4;have ep5:=tp5 _ _ ep5;have ep6:=tp6 _ _ ep6;have ePP:=tPP _ _ ePP;have s0:=sa00.trans ta00
   have nG0:G0≠DD:=fun y=>by
    have z:=eG0;rw [y,eDD] at z;simp at z
   have nG1:G1≠DD:=fun y=>by
    have z:=eG1;rw [y,eDD] at z;simp at z
   have nG2:G2≠DD:=fun y=>by
    have z:=eG2;rw [y,eDD] at z;simp at z
   have nE0:E0≠DD:=fun y=>by
    have z:=eE0;rw [y,eDD] at z;simp at z
   have nE1:E1≠DD:=fun y=>by
    have z:=eE1;rw [y,eDD] at z;simp at z
   have nE2:E2≠DD:=fun y=>by
    have z:=eE2;rw [y,eDD] at z;simp at z
   have SR:StRows K (fun _=>True) hPP DD [U0,U1,U2] uStates:=(((StRows.nil.snoc (r:=([("all",1),("allon",1),("elder",1),("up",0)],["let", "open", "own"])) eU0 ⟨_,SqL.of eG0,(.cons (.tup (SqT.of ea00) (.cons (.str _) (.cons (.int _) .nil))) (.cons (.tup (SqT.of ea01) (.cons (.str _) (.cons (.int _) .nil))) (.cons (.tup (SqT.of ea02) (.cons (.str _) (.cons (.int _) .nil))) (.cons (.tup (SqT.of ea03) (.cons (.str _) (.cons (.int _) .nil))) .nil))))⟩ eG0 eE0 nG0 nE0 trivial trivial).snoc (r:=([("allon",1),("elder",1)],["open"])) eU1 ⟨_,SqL.of eG1,(.cons (.tup (SqT.of ea10) (.cons (.str _) (.cons (.int _) .nil))) (.cons (.tup (SqT.of ea11) (.cons (.str _) (.cons (.int _) .nil))) .nil))⟩ eG1 eE1 nG1 nE1 trivial trivial).snoc (r:=([("up",0)],["let", "open", "own"])) eU2 ⟨_,SqL.of eG2,(.cons (.tup (SqT.of ea20) (.cons (.str _) (.cons (.int _) .nil))) .nil)⟩ eG2 eE2 nG2 nE2 trivial trivial)
   have TP:Tups hPP [p0,p1,p2,p3,p4,p5,p6] Zdm:=⟨rfl,fun n t p h1 h2=>by
    match n,h1,h2 with
    | 0,h1,h2=>cases h1;cases h2;exact ep0
    | 1,h1,h2=>cases h1;cases h2;exact ep1
    | 2,h1,h2=>cases h1;cases h2;exact ep2
    | 3,h1,h2=>cases h1;cases h2;exact ep3
    | 4,h1,h2=>cases h1;cases h2;exact ep4
    | 5,h1,h2=>cases h1;cases h2;exact ep5
    | 6,h1,h2=>cases h1;cases h2;exact ep6
    | _+7,h1,_=>simp at h1⟩
   refine ⟨_,rfl,_,rfl,DD,PP,uStates,Zdm,1,rfl,StRows.stE (us:=[U0,U1,U2]) eDD SR,StRows.stts (us:=[U0,U1,U2]) eDD SR,⟨by decide,by decide +kernel,by decide +kernel⟩,TP.prs ePP,by decide,by decide +kernel,by decide,by decide,by decide +kernel,by decide +kernel,u_ac,fun t rs ord H' hrl hso hO ht sH TB=>?_⟩;have e1:=u_rs hrl hso;have e2:=OrdOf.same hO (ord_of u_mem u_nd u_srt);subst e1 e2;exact q t H' (s0.free ht) (s0.trans sH) (TB.mono fun x hx=>s0.free hx)
variable (P w K mg base) in
abbrev ZhT:Prop:=Zax P w K mg base "usual" 5 [] (Zkp K)
theorem ZkU (B:Blt mg) (c_table_of:ZdZ P w K mg base) (F:Fun K "usual" "usual" Zhh f fd) (hm:mg "usual" = some (.ref f)):ZhT P w K mg base :=
 ⟨f,fd,Zm3 B c_table_of F,hm,F.kp,F.binds fun _ _ _ _ _ _ us hl=>(by obtain rfl:=List.length_eq_zero_iff.mp hl;rfl)⟩
inductive E__law_things (K:XFg) (vs:List V) (H:Hp) (Q:VK):Prop where
 | mk (c m s qn:Int) (h0:vs=[.int c,.int m,.int s,.int qn]) (h1:0≤m) (h2:m≤60) (h3:0<s) (h4:0<qn) (h5:∀ (D:Addr) (ts:List Addr) (gs:List (Str×Int)) (H':Hp),gs.length=m.toNat→(∀ p∈gs,thOk s qn p)→H D=none→Same H H'→H' D=some (.lst (ts.map V.ref))→GT H' ts gs→Q (.ref D) H'):E__law_things K vs H Q
def Zef (K:XFg):Sp:=fun vs H Q _=>E__law_things K vs H Q
theorem ZgL (B:Blt mg) (c__law_stream:ZaT P w K mg base) (F:Fun K "_law_things" "_law_things" Zcb f fd):FnOk P w K mg base CX0 2 f fd ["_law_cell", "_law_many", "_law_scopes", "_law_questions_here"] (Zef K):=by
 refine F.ok sc__law_things (fun vs H Q E h=>?_) (fun cdv A outer s H vs Q E hr h=>?_)
 · obtain ⟨c,m,s,qn,rfl,_⟩:=h
   rfl
 · obtain ⟨c,m,s,qn,rfl,m0,m6,hs,hq,q⟩:=h
   refine ⟨_,(Zad (Zao (i:=4) sc__law_things.nd rfl (Or.inl rfl) (ZaM Zab))
    (Zad (ZaL Xbs rfl (Zaz (ZaC c__law_stream (hr.mono (by decide)) rfl (Zaa (pv 0) (Zaa (pv 1) Zab)))) (Zag (i:=5) sc__law_things.nd rfl (Or.inl rfl)) (Zae (ZaS (Zav Zcf (Zap ZaE (pv 5) Zaf) Zaf (ZaD _)) (Zae (ZaB (Zbl Xa9 Xba Xbb Zaw (pv 4) (Zaa (Zat (Zaa Zaq (Zaa Zaf Zab))) Zab)))) (Zae (ZaS (Zav Zcf (Zap ZaE (pv 5) Zaf) Zaf (ZaD _)) (Zae (ZaB (Zbl Xa9 Xba Xbb Zaw (pv 4) (Zaa (Zat (Zaa Zaq (Zaa (Zap ZaE (Zap ZaN (pv 5) Zaf) (pv 3)) Zab))) Zab)))) (Zae (ZaB (Zbl Xa9 Xba Xbb Zaw (pv 4) (Zaa (Zat (Zaa Zaq (Zaa (Zap ZaE (Zap ZaN (pv 5) Zaf) (pv 2)) Zab))) Zab)))))))))
    (Zae (Zar (pv 4))))),?_⟩
   try dsimp only [cxOf,Cx.nox,Cx.wish]
   refine ⟨by decide,fun D hD=>?_⟩;obtain ⟨H1,qH1,s1,eD1⟩:=new_at (o:=.lst []) hD;rw [←qH1];refine ⟨_,rfl,_,rfl,c,m,rfl,m0,m6,fun L xs H2 hxl hL s2 eL=>⟨L,rfl,⟨_,SqL.of eL⟩,?_⟩⟩
   have nLD:L≠D:=fun y=>by rw [y,eD1] at hL;cases hL
   refine ZaI (xs:=xs.map V.int) (fun i σ H'=>∃ u5 ts gs,σ=[some (.int c),some (.int m),some (.int s),some (.int qn),some (.ref D),u5]∧Keeps (·=D) H2 H'∧H' D=some (.lst (ts.map V.ref))∧GT H' ts gs∧gs.length=i∧∀ p∈gs,thOk s qn p)
    ⟨none,[],[],rfl,Keeps.refl fun x o m e=>by rw [m,s2 _ _ eD1] at e;exact ⟨_,(Xbd e).symm⟩,s2 _ _ eD1,GT.nil,rfl,fun p hp=>by simp at hp⟩ (fun i σ H' _ hv_=>by obtain ⟨_,_,_,_,k,_⟩:=hv_;exact SqL.of (k.at_ _ _ eL nLD)) ?_ ?_
   rotate_left
   · rintro σ H3 ⟨u5,ts,gs,rfl,k3,eD3,T3,hgl,hok⟩
     refine ⟨_,rfl,q D ts gs H3 (by rw [hgl,Xaa,hxl]) hok hD (fun x o e=>k3.at_ _ _ (s2 _ _ (s1 _ _ e)) (Zac e hD)) eD3 T3⟩
   rintro i x σ H3 hx ⟨u5,ts,gs,rfl,k3,eD3,T3,hgl,hok⟩;obtain ⟨num,hnum,rfl⟩:=getm hx;have hil:i<xs.length:=(Xae.mp hnum).1
   have one:∀ (t:Addr) (p:Str×Int) (H4:Hp),Same H3 H4→H4 t=some (.tup [.str p.1,.int p.2])→thOk s qn p →
    Keeps (·=D) H2 (upd H4 D (.lst (ts.map V.ref++[.ref t])))∧(upd H4 D (.lst (ts.map V.ref++[.ref t]))) D=some (.lst ((ts++[t]).map V.ref))∧GT (upd H4 D (.lst (ts.map V.ref++[.ref t]))) (ts++[t]) (gs++[p])∧(gs++[p]).length=i+1∧∀ p'∈gs++[p],thOk s qn p':=fun t p H4 s4 et ht=>by
    refine ⟨⟨fun x o e n=>?_,k3.ls⟩,by rw [upd_same,Xad];rfl,((T3.same s4).snoc et).updL (s4 _ _ eD3),by rw [Xac,hgl];rfl,fun p' hp=>?_⟩
    · rw [Zah n];exact s4 _ _ (k3.at_ x o e n)
    · rcases Xaf.mp hp with hp | hp
      · exact hok p' hp
      · rw [Xaj.mp hp];exact ht
   have lts:(ts.map V.ref).length<sizeLine:=by rw [Xaa,T3.len,hgl];exact Zal (by omega)
   refine ⟨_,rfl,_,_,rfl,rfl,(by show (0:Int)<5;decide),rfl,_,rfl,ite2 (fun _=>?_) (fun _=>?_)⟩
   · refine ⟨_,rfl,Or.inl ⟨rfl,_,SqL.of eD3⟩,ZaF,fun t ht=>?_⟩
     have s4:=Zak (o:=.tup [.str "plain",.int 0]) ht
     obtain ⟨o1,o2,o3,o4,o5⟩:=one t ("plain",0) _ s4 upd_same (.inl ⟨rfl,rfl⟩)
     refine ⟨D,_,_,rfl,rfl,s4 _ _ eD3,lts,?_⟩;exact ⟨_,_,_,rfl,o1,o2,o3,o4,o5⟩
   refine ⟨_,rfl,_,_,rfl,rfl,(by show (0:Int)<5;decide),rfl,_,rfl,ite2 (fun _=>?_) (fun _=>?_)⟩
   · refine ⟨_,rfl,Or.inl ⟨rfl,_,SqL.of eD3⟩,_,rfl,_,_,rfl,rfl,⟨by decide,by decide⟩,_,rfl,_,_,rfl,rfl,hq,ZaF,fun t ht=>?_⟩
     have s4:=Zak (o:=.tup [.str "sort",.int (num / 5 % qn)]) ht
     obtain ⟨o1,o2,o3,o4,o5⟩:=one t ("sort",num / 5 % qn) _ s4 upd_same (.inr (.inr ⟨rfl,Xa3 _ (by omega),Xa2 _ hq⟩))
     refine ⟨D,_,_,rfl,rfl,s4 _ _ eD3,lts,?_⟩;exact ⟨_,_,_,rfl,o1,o2,o3,o4,o5⟩
   · refine ⟨_,rfl,Or.inl ⟨rfl,_,SqL.of eD3⟩,_,rfl,_,_,rfl,rfl,⟨by decide,by decide⟩,_,rfl,_,_,rfl,rfl,hs,ZaF,fun t ht=>?_⟩
     have s4:=Zak (o:=.tup [.str "part",.int (num / 5 % s)]) ht
     obtain ⟨o1,o2,o3,o4,o5⟩:=one t ("part",num / 5 % s) _ s4 upd_same (.inr (.inl ⟨rfl,Xa3 _ (by omega),Xa2 _ hs⟩))
     refine ⟨D,_,_,rfl,rfl,s4 _ _ eD3,lts,?_⟩;exact ⟨_,_,_,rfl,o1,o2,o3,o4,o5⟩
variable (P w K mg base) in
abbrev Zci:Prop:=Zax P w K mg base "_law_things" 2 ["_law_cell", "_law_many", "_law_scopes", "_law_questions_here"] (Zef K)
theorem ZfC (B:Blt mg) (c__law_stream:ZaT P w K mg base) (F:Fun K "_law_things" "_law_things" Zcb f fd) (hm:mg "_law_things" = some (.ref f)):Zci P w K mg base :=
 ⟨f,fd,ZgL B c__law_stream F,hm,F.kp,F.binds fun _ _ _ _ _ _ us hl=>(by obtain ⟨x0,x1,x2,x3,rfl⟩:=ZhK hl;rfl)⟩
inductive E__law_questions (K:XFg) (vs:List V) (H:Hp) (Q:VK):Prop where
 | mk (c m s st:Int) (W:Addr) (ws:List Str) (h0:vs=[.int c,.int m,.int s,.int st,.ref W]) (h1:SqL K H W (ws.map V.str)) (h2:3≤ws.length) (h3:0≤m) (h4:m≤60) (h5:0<s) (h6:0<st) (h7:∀ (D:Addr) (ts:List Addr) (qs:List Qu) (H':Hp),qs.length=m.toNat→(∀ q∈qs,(0≤q.1∧q.1<s)∧(0≤q.2.1∧q.2.1<st)∧1≤q.2.2.length∧q.2.2.length≤3∧∀ x∈q.2.2,x∈ws)→H D=none→Same H H'→H' D=some (.lst (ts.map V.ref))→QT H' ts qs→Q (.ref D) H'):E__law_questions K vs H Q
def Zc8 (K:XFg):Sp:=fun vs H Q _=>E__law_questions K vs H Q
theorem Zfd (B:Blt mg) (c__law_stream:ZaT P w K mg base) (F:Fun K "_law_questions" "_law_questions" Za9 f fd):FnOk P w K mg base CX0 2 f fd ["_law_cell", "_law_many", "_law_scopes", "_law_states", "_law_words_here"] (Zc8 K):=by
 refine F.ok sc__law_questions (fun vs H Q E h=>?_) (fun cdv A outer s H vs Q E hr h=>?_)
 · obtain ⟨c,m,s,st,W,ws,rfl,_⟩:=h
   rfl
 · obtain ⟨c,m,s,st,W,ws,rfl,hW,hw3,m0,m6,hs,hst,q⟩:=h
   refine ⟨_,(Zad (Zao (i:=5) sc__law_questions.nd rfl (Or.inl rfl) (ZaM Zab))
    (Zad (ZaL Xbs rfl (Zaz (ZaC c__law_stream (hr.mono (by decide)) rfl (Zaa (pv 0) (Zaa (pv 1) Zab)))) (Zag (i:=6) sc__law_questions.nd rfl (Or.inr rfl)) (Zad (Ze1 (i:=7) sc__law_questions.nd rfl (Or.inl rfl) (te:=tOp (rIx K) (tVar 1) (tOp xMod (tOp xAdd (tOp xDiv (tOp xDiv (tVar 2) (tC (.int 60))) (tOp xAdd (tVar 0) (tC (.int 1)))) (tVar 0)) (tC (.int 3)))) rfl _law_questions_cs1 (ZbD rfl B.b_range (Zaa (Zap Zba Zaf (Zap ZaE (Zap ZaN (pv 6) Zaf) Zaf)) Zab)) (fun _ _ _ _ _=>(Zag (i:=0) _law_questions_cs1.nd rfl (Or.inl rfl))) (fun _ _ _ _ _=>ZcL) (fun _ _ _ _ _=>(Zas Zam (pv 1) (Zap ZaE (Zap Zba (Zap ZaN (Zap ZaN (pv 2) Zaf) (Zap Zba (pv 0) Zaf)) (pv 0)) Zaf) (fun _ _=>rfl))))
     (Zae (ZaB (Zbl Xa9 Xba Xbb Zaw (pv 5) (Zaa (Zat (Zaa (Zap ZaE (pv 6) (pv 2)) (Zaa (Zap ZaE (Zap ZaN (pv 6) Zaf) (pv 3)) (Zaa (ZaJ Zhn (by rfl) B.b_tuple (by decide +kernel) (Zaa (pv 7) Zab)) Zab)))) Zab))))))
    (Zae (Zar (pv 5))))),?_⟩
   try dsimp only [cxOf,Cx.nox,Cx.wish]
   refine ⟨by decide,fun D hD=>?_⟩;obtain ⟨H1,qH1,s1,eD1⟩:=new_at (o:=.lst []) hD;rw [←qH1];refine ⟨_,rfl,_,rfl,c,m,rfl,m0,m6,fun L xs H2 hxl hL s2 eL=>⟨L,rfl,⟨_,SqL.of eL⟩,?_⟩⟩
   have nLD:L≠D:=fun y=>by rw [y,eD1] at hL;cases hL
   have W2:∀ {H':Hp},Keeps (·=D) H2 H'→SqL K H' W (ws.map V.str):=fun {H'} k=>by
    rcases hW with (h | ⟨u,h⟩) | h
    · exact .inl (.inl (k.at_ _ _ (s2 _ _ (s1 _ _ h)) (Zac h hD)))
    · exact .inl (.inr ⟨u,k.at_ _ _ (s2 _ _ (s1 _ _ h)) (Zac h hD)⟩)
    · exact .inr h
   refine ZaI (xs:=xs.map V.int) (fun i σ H'=>∃ u6 u7 ts qs,σ=[some (.int c),some (.int m),some (.int s),some (.int st),some (.ref W),some (.ref D),u6,u7]∧Keeps (·=D) H2 H'∧H' D=some (.lst (ts.map V.ref))∧QT H' ts qs∧qs.length=i∧∀ q∈qs,(0≤q.1∧q.1<s)∧(0≤q.2.1∧q.2.1<st)∧1≤q.2.2.length∧q.2.2.length≤3∧∀ x∈q.2.2,x∈ws)
    ⟨none,none,[],[],rfl,Keeps.refl fun x o m e=>by rw [m,s2 _ _ eD1] at e;exact ⟨_,(Xbd e).symm⟩,s2 _ _ eD1,QT.nil,rfl,fun p hp=>by simp at hp⟩ (fun i σ H' _ hv_=>by obtain ⟨_,_,_,_,_,k,_⟩:=hv_;exact SqL.of (k.at_ _ _ eL nLD)) ?_ ?_
   rotate_left
   · rintro σ H3 ⟨u6,u7,ts,qs,rfl,k3,eD3,T3,hql,hok⟩
     refine ⟨_,rfl,q D ts qs H3 (by rw [hql,Xaa,hxl]) hok hD (fun x o e=>k3.at_ _ _ (s2 _ _ (s1 _ _ e)) (Zac e hD)) eD3 T3⟩
   rintro i x σ H3 hx ⟨u6,u7,ts,qs,rfl,k3,eD3,T3,hql,hok⟩;obtain ⟨num,hnum,rfl⟩:=getm hx;have hil:i<xs.length:=(Xae.mp hnum).1;have z0:=Xa3 (num / 20) (by decide:(3:Int)≠0);have z1:=Xa2 (num / 20) (by decide:(0:Int)<3);refine ⟨_,rfl,_,_,rfl,rfl,⟨by decide,by decide⟩,_,_,rfl,rfl,(by show (0:Int)<3;decide),_,_,rfl,rfl,_,rfl,?_⟩;try dsimp only
   generalize num / 20 % 3=k3' at z0 z1 ⊢
   refine ⟨by omega,by omega,ZfY (fun D' j ys H'=>∃ ps:List Str,ys=ps.map V.str∧ps.length=j∧Same H3 H'∧H' D'=some (.lst ys)∧∀ x∈ps,x∈ws)
    (fun D' hD'=>⟨[],rfl,rfl,Zak hD',upd_same,fun x hx=>by simp at hx⟩) (fun D' j ys H4 R hD' hj hv k=>?_) (fun N ys H4 hN hv=>?_)⟩
   · obtain ⟨ps,rfl,hpl,s4,eD',hpw⟩:=hv
     have W4:=s4.seq (W2 k3);have y0:=Xa3 (num / 60 / ((0+(j:Int))+1)+(0+(j:Int))) (by decide:(3:Int)≠0);have y1:=Xa2 (num / 60 / ((0+(j:Int))+1)+(0+(j:Int))) (by decide:(0:Int)<3);obtain ⟨zz,hzz,hat⟩:=Zf3 (ws:=ws) y0 (by omega);refine ⟨_,rfl,_,rfl,_,_,rfl,rfl,⟨by decide,by decide⟩,_,rfl,_,_,rfl,rfl,_,_,rfl,rfl,⟨by omega,by omega⟩,_,rfl,_,_,rfl,rfl,_,_,rfl,rfl,(by show (0:Int)<3;decide),Or.inl ⟨W,_,_,.str zz,rfl,rfl,W4,hat,?_⟩⟩;refine k _ _ eD' (by rw [Xaa,hpl];exact Zal (by omega)) ⟨ps++[zz],by rw [Xad];rfl,by rw [Xac,hpl];rfl,fun b o e=>?_,upd_same,fun x hx=>?_⟩
     · rw [Zah (Zac e hD')];exact s4 _ _ e
     · rcases Xaf.mp hx with hx | hx
       · exact hpw x hx
       · rw [Xaj.mp hx];exact hzz
   obtain ⟨ps,rfl,hpl,s4,eN,hpw⟩:=hv;have eD4:=s4 _ _ eD3;refine ⟨_,rfl,Or.inl ⟨rfl,_,SqL.of eD4⟩,_,rfl,_,rfl,_,_,rfl,rfl,hs,_,rfl,_,_,rfl,rfl,⟨by decide,by decide⟩,_,rfl,_,_,rfl,rfl,hst,_,rfl,N,_,rfl,Or.inl ⟨SqL.of eN,fun u hu=>?_⟩⟩;obtain ⟨H5,qH5,s5,eu⟩:=new_at (o:=.tup (ps.map V.str)) hu;rw [←qH5];have a0:=Xa3 num (show s≠0 by omega);have a1:=Xa2 num hs;have b0:=Xa3 (num / 5) (show st≠0 by omega);have b1:=Xa2 (num / 5) hst;try dsimp only
   generalize num % s=w1 at a0 a1 ⊢;generalize num / 5 % st=w2 at b0 b1 ⊢;refine ⟨Za1,fun t ht=>?_⟩;obtain ⟨H6,qH6,s6,et⟩:=new_at (o:=.tup [.int w1,.int w2,.ref u]) ht;rw [←qH6];have s36:=(s4.trans s5).trans s6;have eD6:=s36 _ _ eD3;have T6:=(T3.same s36).snoc (q:=(w1,w2,ps)) et (s6 _ _ eu);have k6:Keeps (·=D) H6 (upd H6 D (.lst (ts.map V.ref++[.ref t]))):=Keeps.one eD6;refine ⟨D,_,_,rfl,rfl,eD6,by rw [Xaa,T3.len,hql];exact Zal (by omega),?_⟩;refine ⟨_,_,ts++[t],qs++[(w1,w2,ps)],rfl,⟨fun x o e n=>?_,k3.ls⟩,by rw [upd_same,Xad];rfl,T6.keeps k6,by rw [Xac,hql];rfl,fun z hz=>?_⟩
   · rw [Zah n];exact s36 _ _ (k3.at_ x o e n)
   · rcases Xaf.mp hz with hz | hz
     · exact hok z hz
     · rw [Xaj.mp hz]
       refine ⟨⟨a0,a1⟩,⟨b0,b1⟩,?_,?_,hpw⟩
       · show 1≤ps.length;omega
       · show ps.length≤3;omega
variable (P w K mg base) in
abbrev ZbH:Prop:=Zax P w K mg base "_law_questions" 2 ["_law_cell", "_law_many", "_law_scopes", "_law_states", "_law_words_here"] (Zc8 K)
theorem Zer (B:Blt mg) (c__law_stream:ZaT P w K mg base) (F:Fun K "_law_questions" "_law_questions" Za9 f fd) (hm:mg "_law_questions" = some (.ref f)):ZbH P w K mg base :=
 ⟨f,fd,Zfd B c__law_stream F,hm,F.kp,F.binds fun _ _ _ _ _ _ us hl=>(by obtain ⟨x0,x1,x2,x3,x4,rfl⟩:=ZkP hl;rfl)⟩
theorem Zkq:([]:List V).length+1+1+1+1≤sizeLine:=by decide
inductive E__law_lay (K:XFg) (vs:List V) (H:Hp) (Q:VK):Prop where
 | mk (nt L W:Addr) (c:Int) (S T R:Addr) (us Gs Es ts qt:List Addr) (ss:List Sco) (gs:List (Str×Int)) (qs:List Qu) (ls ws:List Str) (h0:vs=[.ref nt,.ref L,.ref W,.int c]) (h1:H nt=some (.tup [.ref S,.ref T,.ref R])) (h2:Net3 H S T R us Gs Es ts qt ss gs qs) (h3:(S :: (Gs++Es)).Nodup) (h4:T ∉ Gs++Es) (h5:R ∉ Gs++Es) (h6:1≤ss.length) (h7:ss.length≤5) (h8:1≤gs.length) (h9:gs.length≤60) (h10:1≤qs.length) (h11:qs.length≤60) (h12:SqL K H L (ls.map V.str)) (h13:1≤ls.length) (h14:ls.length≤60) (h15:SqL K H W (ws.map V.str)) (h16:3≤ws.length) (h17:LayW gs.length qs.length ls ws ss) (h18:∀ (ss':List Sco) (H':Hp),Keeps (fun x=>x∈Gs++Es) H H'→Net3 H' S T R us Gs Es ts qt ss' gs qs→ss'.length=ss.length→LayW gs.length qs.length ls ws ss'→Q .non H'):E__law_lay K vs H Q
def Zgp (K:XFg):Sp:=fun vs H Q _=>E__law_lay K vs H Q
theorem ZjD (B:Blt mg) (F:Fun K "_law_lay" "_law_lay" ZdN f fd):FnOk P w K mg base CX0 1 f fd ["_law_net", "_law_labels", "_law_words_here", "_law_cell"] (Zgp K):=by
 refine F.ok sc__law_lay (fun vs H Q E h=>?_) (fun cdv A outer s H vs Q E hr h=>?_)
 · obtain ⟨nt,L,W,c,S,T,R,us,Gs,Es,ts,qt,ss,gs,qs,ls,ws,rfl,_⟩:=h
   rfl
 · obtain ⟨nt,L,W,c,S,T,R,us,Gs,Es,ts,qt,ss,gs,qs,ls,ws,rfl,eN,N3,nd,nT,nR,hs1,hs5,hg1,hg6,hq1,hq6,hL,hl1,hl6,hW,hw3,ok,q⟩:=h
   have lus:(us.map V.ref).length=ss.length:=by rw [Xaa,N3.sc.lu]
   have lts:(ts.map V.ref).length=gs.length:=by rw [Xaa,N3.tg.len]
   have lqt:(qt.map V.ref).length=qs.length:=by rw [Xaa,N3.tq.len]
   have lls:(ls.map V.str).length=ls.length:=Xaa ..
   refine ⟨_,(Zad (Zao (i:=4) sc__law_lay.nd rfl (Or.inl rfl) (Zap ZaE (Zap ZfP (Zap ZaN (pv 3) Zaf) Zaf) Zaf))
    (Zad (Zdl (Zas Zam (Zas Zam (pv 0) Zaf (fun _ _=>rfl)) (Zap ZaE (pv 4) (Zan Zay (by rfl) B.b_len (by decide +kernel) (Zaa (Zas Zam (pv 0) Zaf (fun _ _=>rfl)) Zab))) (fun _ _=>rfl)) (ZaR rfl (Zai (Zag (i:=5) sc__law_lay.nd rfl (Or.inl rfl)) (Zai (Zag (i:=6) sc__law_lay.nd rfl (Or.inl rfl)) ZaG))))
    (Zad (ZfZ (i:=4) sc__law_lay.nd rfl (Or.inl rfl) (Zan Zay (by rfl) B.b_len (by decide +kernel) (Zaa (Zas Zam (pv 0) Zaf (fun _ _=>rfl)) Zab)) Zhj)
    (Zad (Zao (i:=7) sc__law_lay.nd rfl (Or.inl rfl) (Zas Zam (pv 1) (Zap ZaE (pv 4) (Zan Zay (by rfl) B.b_len (by decide +kernel) (Zaa (pv 1) Zab))) (fun _ _=>rfl)))
    (Zad (ZfZ (i:=4) sc__law_lay.nd rfl (Or.inl rfl) (Zan Zay (by rfl) B.b_len (by decide +kernel) (Zaa (pv 1) Zab)) Zhj)
    (Zae (ZaS (Zav Zcf (Zap ZaE (pv 3) Zaf) Zaf (ZaD _)) (Zae (ZaS (Zav Zib (Zan Zay (by rfl) B.b_len (by decide +kernel) (Zaa (pv 5) Zab)) (Zap Zba Zaf (ZaJ ZfQ (by rfl) B.b_int (by decide +kernel) (Zaa (Zb6 Zib (Zan Zay (by rfl) B.b_len (by decide +kernel) (Zaa (Zas Zam (pv 0) Zaf (fun _ _=>rfl)) Zab)) Zaf (ZaD _)) Zab))) (ZaD _)) (Zae (ZaS (Zav Zcf (Zap ZaE (pv 4) Zaf) Zaf (ZaD _)) (Zae (ZaB (Zbl Xa9 Xba Xbb Zaw (pv 5) (Zaa (Zat (Zaa (pv 7) (Zaa Zaq (Zaa (Zap ZaE (Zap ZaN (pv 4) Zaf) (Zan Zay (by rfl) B.b_len (by decide +kernel) (Zaa (Zas Zam (pv 0) Zaf (fun _ _=>rfl)) Zab))) Zab)))) Zab)))) (Zae (ZaB (Zbl Xa9 Xba Xbb Zaw (pv 5) (Zaa (Zat (Zaa (pv 7) (Zaa Zaq (Zaa (Zap ZaE (Zap ZaN (pv 4) Zaf) (Zan Zay (by rfl) B.b_len (by decide +kernel) (Zaa (Zas Zam (pv 0) Zaf (fun _ _=>rfl)) Zab))) Zab)))) Zab)))))) Zau)) (Zae (ZaS (Zav Zib (Zan Zay (by rfl) B.b_len (by decide +kernel) (Zaa (pv 6) Zab)) (Zap Zba Zaf (ZaJ ZfQ (by rfl) B.b_int (by decide +kernel) (Zaa (Zb6 Zib (Zan Zay (by rfl) B.b_len (by decide +kernel) (Zaa (Zas Zam (pv 0) Zaf (fun _ _=>rfl)) Zab)) Zaf (ZaD _)) Zab))) (ZaD _)) (Zad (Zao (i:=8) sc__law_lay.nd rfl (Or.inl rfl) (Zas Zam (pv 2) (Zap ZaE (pv 4) Zaf) (fun _ _=>rfl)))
     (Zad (ZfZ (i:=4) sc__law_lay.nd rfl (Or.inl rfl) Zaf Zhj)
     (Zae (ZaS (Zav Zcf (Zap ZaE (pv 4) Zaf) Zaf (ZaD _)) (Zae (ZaB (Zbl Xa9 Xba Xbb Zaw (pv 6) (Zaa (Zat (Zaa (pv 7) (Zaa (pv 8) (Zaa Zaq (Zaa (Zap ZaE (Zap ZaN (pv 4) Zaf) (Zan Zay (by rfl) B.b_len (by decide +kernel) (Zaa (Zas Zam (pv 0) Zaf (fun _ _=>rfl)) Zab))) Zab))))) Zab)))) (Zae (ZaB (Zbl Xa9 Xba Xbb Zaw (pv 6) (Zaa (Zat (Zaa (pv 7) (Zaa (pv 8) (Zaa Zaq (Zaa (Zap ZaE (Zap ZaN (pv 4) Zaf) (Zan Zay (by rfl) B.b_len (by decide +kernel) (Zaa (Zas Zam (pv 0) Zaf (fun _ _=>rfl)) Zab))) Zab))))) Zab)))))))) Zau))))))))),?_⟩
   try dsimp only [cxOf,Cx.nox,Cx.wish]
   have lss:∀ x o,x∈Gs++Es→H x=some o→∃ xs,o=HO.lst xs:=fun x o m e=>by
    obtain ⟨xs,e'⟩:=N3.sc.alive x m;rw [e'] at e;exact ⟨_,(Xbd e).symm⟩
   have fin:Q .non H:=q ss H ⟨fun x o e _=>e,lss⟩ N3 rfl ok;refine ⟨_,rfl,_,_,rfl,rfl,⟨by decide,by decide⟩,_,_,rfl,rfl,Or.inr ⟨by decide,by decide⟩,_,_,rfl,rfl,(by show (0:Int)<2147483647;decide),?_⟩;try dsimp only
   generalize c / 2 * 48271 % 2147483647=n;refine g_in ?_;try dsimp only
   have l0:(0:Int)<((us.map V.ref).length:Nat):=by rw [lus];omega
   have a0:=Xa3 n (show (((us.map V.ref).length:Nat):Int)≠0 by omega);have a1:=Xa2 n l0;obtain ⟨i,ei⟩:=Xa4 a0
   have hil:i<ss.length:=by omega
   obtain ⟨u,G,E1,g1,g2,g3,g4,⟨b0,⟨tG,b1,b2⟩,⟨tE,c1,c2⟩⟩⟩:=N3.sc.get hil
   have hat:atI (us.map V.ref) (n % ((us.map V.ref).length:Nat))=some (.ref u):=by rw [ei];exact ZaQ (by rw [Xag,g1];rfl)
   have hN:=SqT.of (K:=K) eN;have hS:=SqL.of (K:=K) N3.sc.top;refine ⟨_,rfl,Or.inr (Or.inl ⟨nt,_,_,.ref S,rfl,rfl,hN,rfl,_,rfl,_,rfl,Or.inr (Or.inl ⟨nt,_,_,.ref S,rfl,rfl,hN,rfl,_,_,rfl,Or.inl ⟨_,hS,rfl⟩,_,_,rfl,rfl,l0,Or.inl ⟨S,_,_,.ref u,rfl,rfl,hS,hat,?_⟩⟩)⟩)⟩;refine ⟨u,_,rfl,SqT.of b0,rfl,_,_,rfl,_,_,rfl,rfl,?_⟩;refine ⟨_,rfl,_,rfl,Or.inr (Or.inl ⟨nt,_,_,.ref S,rfl,rfl,hN,rfl,_,_,rfl,Or.inl ⟨_,hS,rfl⟩,_,_,rfl,rfl,⟨l0,by omega⟩,?_⟩)⟩;try dsimp only
   generalize n / ((us.map V.ref).length:Nat)=n2
   have w0:(0:Int)<((ls.map V.str).length:Nat):=by omega
   have y0:=Xa3 n2 (show (((ls.map V.str).length:Nat):Int)≠0 by omega);have y1:=Xa2 n2 w0;obtain ⟨lb,hlb,hv⟩:=Zf3 (ws:=ls) y0 (by omega);refine ⟨_,rfl,_,rfl,_,rfl,_,_,rfl,Or.inl ⟨_,hL,rfl⟩,_,_,rfl,rfl,w0,Or.inl ⟨L,_,_,.str lb,rfl,rfl,hL,hv,?_⟩⟩;refine g_in ?_;try dsimp only
   refine ⟨_,rfl,_,rfl,_,_,rfl,Or.inl ⟨_,hL,rfl⟩,_,_,rfl,rfl,⟨w0,by omega⟩,?_⟩;try dsimp only
   generalize n2 / ((ls.map V.str).length:Nat)=n3;have mG:G∈Gs:=Xah g2;have mE:E1∈Es:=Xah g3;have lG:=b2.len;have lE:=c2.len
   have q0:(0:Int)<((qt.map V.ref).length:Nat):=by omega
   have t0:(0:Int)<((ts.map V.ref).length:Nat):=by omega
   have more:∀ (t:Addr) (p:Stp) (H2:Hp),Same H H2→H2 t=some (.tup (stpV p))→p.1∈ls→stOk ss.length qs.length p→ss[i].1.length<3→(4≤ss.length→ss[i].1.length<2)→Q .non (upd H2 G (.lst (tG.map V.ref++[.ref t]))):=fun t p H2 s2 et h1 hp h3 h4=>by
    have k2:Keeps (·=G) H2 (upd H2 G (.lst (tG.map V.ref++[.ref t]))):=Keeps.one (s2 _ _ b1);have S2:=(N3.sc.same s2).step nd hil g2 (s2 _ _ b1) (b2.same s2) et;have mGE:G∈Gs++Es:=XaA _ mG;refine q _ _ ⟨fun x o e n=>?_,lss⟩ ⟨S2,?_,(N3.tg.same s2).keeps k2,?_,(N3.tq.same s2).keeps k2⟩ (XaD ..) (ok.step hil h1 hp h3 h4)
    · rw [Zah (show x≠G from fun z=>n (z ▸ mGE))];exact s2 _ _ e
    · rw [Zah (show T≠G from fun z=>nT (z ▸ mGE))];exact s2 _ _ N3.et
    · rw [Zah (show R≠G from fun z=>nR (z ▸ mGE))];exact s2 _ _ N3.er
   have tell:∀ (t:Addr) (p:Tlg) (H2:Hp),Same H H2→H2 t=some (.tup (tlgV p))→p.1∈ls→p.2.1∈ws→tlOk gs.length qs.length p→ss[i].2.length<3→(5≤ss.length→ss[i].2.length<2)→Q .non (upd H2 E1 (.lst (tE.map V.ref++[.ref t]))):=fun t p H2 s2 et h1 h0 hp h3 h4=>by
    have k2:Keeps (·=E1) H2 (upd H2 E1 (.lst (tE.map V.ref++[.ref t]))):=Keeps.one (s2 _ _ c1);have S2:=(N3.sc.same s2).tell nd hil g3 (s2 _ _ c1) (c2.same s2) et;have mGE:E1∈Gs++Es:=Xan _ mE;refine q _ _ ⟨fun x o e n=>?_,lss⟩ ⟨S2,?_,(N3.tg.same s2).keeps k2,?_,(N3.tq.same s2).keeps k2⟩ (XaD ..) (ok.tell hil h1 h0 hp h3 h4)
    · rw [Zah (show x≠E1 from fun z=>n (z ▸ mGE))];exact s2 _ _ e
    · rw [Zah (show T≠E1 from fun z=>nT (z ▸ mGE))];exact s2 _ _ N3.et
    · rw [Zah (show R≠E1 from fun z=>nR (z ▸ mGE))];exact s2 _ _ N3.er
   refine ⟨_,rfl,_,_,rfl,rfl,(by show (0:Int)<2;decide),rfl,_,rfl,ite2 (fun _=>?_) (fun _=>?_)⟩
   · refine ⟨_,rfl,_,_,rfl,Or.inl ⟨_,SqL.of b1,rfl⟩,_,rfl,Or.inr (Or.inl ⟨nt,_,_,.ref S,rfl,rfl,hN,rfl,_,_,rfl,Or.inl ⟨_,hS,rfl⟩,_,_,rfl,rfl,Or.inr ⟨_,rfl,_,_,rfl,rfl,_,_,rfl,rfl,_,rfl,ite2 (fun h=>?_) (fun _=>fin)⟩⟩)⟩
     have h:=Xa8 h;rw [Xaa,lus] at h
     have h3:ss[i].1.length<3:=by
      rw [←lG];split at h <;> omega
     have h4:4≤ss.length→ss[i].1.length<2:=fun z=>by
      rw [Xa7 (by omega)] at h;rw [←lG];simp at h;omega
     have lt3:(tG.map V.ref).length<sizeLine:=by rw [Xaa];exact Zal (by omega)
     refine ⟨_,rfl,_,_,rfl,rfl,(by show (0:Int)<3;decide),rfl,_,rfl,ite2 (fun _=>?_) (fun _=>?_)⟩
     · refine ⟨_,rfl,Or.inl ⟨rfl,_,SqL.of b1⟩,_,rfl,_,rfl,_,_,rfl,rfl,⟨by decide,by decide⟩,_,rfl,Or.inr (Or.inl ⟨nt,_,_,.ref R,rfl,rfl,hN,rfl,_,_,rfl,Or.inl ⟨_,SqL.of N3.er,rfl⟩,_,_,rfl,rfl,q0,Za1,fun t ht=>?_⟩)⟩
       have s2:=Zak (o:=.tup [.str lb,.str "by",.int (n3 / 3 % ((qt.map V.ref).length:Nat))]) ht
       refine ⟨G,_,_,rfl,rfl,s2 _ _ b1,lt3,?_⟩
       exact more t (lb, "by",n3 / 3 % ((qt.map V.ref).length:Nat)) _ s2 upd_same hlb (.inr ⟨rfl,Xa3 _ (by omega),by have:=Xa2 (n3 / 3) q0;show n3 / 3 % ((qt.map V.ref).length:Nat)<_;omega⟩) h3 h4
     · refine ⟨_,rfl,Or.inl ⟨rfl,_,SqL.of b1⟩,_,rfl,_,rfl,_,_,rfl,rfl,⟨by decide,by decide⟩,_,rfl,Or.inr (Or.inl ⟨nt,_,_,.ref S,rfl,rfl,hN,rfl,_,_,rfl,Or.inl ⟨_,hS,rfl⟩,_,_,rfl,rfl,l0,Za1,fun t ht=>?_⟩)⟩
       have s2:=Zak (o:=.tup [.str lb,.str "to",.int (n3 / 3 % ((us.map V.ref).length:Nat))]) ht
       refine ⟨G,_,_,rfl,rfl,s2 _ _ b1,lt3,?_⟩
       exact more t (lb, "to",n3 / 3 % ((us.map V.ref).length:Nat)) _ s2 upd_same hlb (.inl ⟨rfl,Xa3 _ (by omega),by have:=Xa2 (n3 / 3) l0;show n3 / 3 % ((us.map V.ref).length:Nat)<_;omega⟩) h3 h4
   · refine ⟨_,rfl,_,_,rfl,Or.inl ⟨_,SqL.of c1,rfl⟩,_,rfl,Or.inr (Or.inl ⟨nt,_,_,.ref S,rfl,rfl,hN,rfl,_,_,rfl,Or.inl ⟨_,hS,rfl⟩,_,_,rfl,rfl,Or.inr ⟨_,rfl,_,_,rfl,rfl,_,_,rfl,rfl,_,rfl,ite2 (fun h=>?_) (fun _=>fin)⟩⟩)⟩
     have h:=Xa8 h;rw [Xaa,lus] at h
     have h3:ss[i].2.length<3:=by
      rw [←lE];split at h <;> omega
     have h4:5≤ss.length→ss[i].2.length<2:=fun z=>by
      rw [Xa7 (by omega)] at h;rw [←lE];simp at h;omega
     have lt3:(tE.map V.ref).length<sizeLine:=by rw [Xaa];exact Zal (by omega)
     have v0:=Xa3 n3 (by decide:(3:Int)≠0);have v1:=Xa2 n3 (by decide:(0:Int)<3);obtain ⟨nm,hnm,hvn⟩:=Zf3 (ws:=ws) v0 (by omega);refine ⟨_,rfl,_,rfl,_,_,rfl,rfl,(by show (0:Int)<3;decide),Or.inl ⟨W,_,_,.str nm,rfl,rfl,hW,hvn,?_⟩⟩;refine g_in ?_;try dsimp only
     refine ⟨_,rfl,_,_,rfl,rfl,⟨by decide,by decide⟩,?_⟩;try dsimp only
     generalize n3 / 3=n4;refine ⟨_,rfl,_,_,rfl,rfl,(by show (0:Int)<4;decide),rfl,_,rfl,ite2 (fun _=>?_) (fun _=>?_)⟩
     · refine ⟨_,rfl,Or.inl ⟨rfl,_,SqL.of c1⟩,_,rfl,_,rfl,_,rfl,_,_,rfl,rfl,⟨by decide,by decide⟩,_,rfl,Or.inr (Or.inl ⟨nt,_,_,.ref R,rfl,rfl,hN,rfl,_,_,rfl,Or.inl ⟨_,SqL.of N3.er,rfl⟩,_,_,rfl,rfl,q0,Zkq,fun t ht=>?_⟩)⟩
       have s2:=Zak (o:=.tup [.str lb,.str nm,.str "by",.int (n4 / 4 % ((qt.map V.ref).length:Nat))]) ht
       refine ⟨E1,_,_,rfl,rfl,s2 _ _ c1,lt3,?_⟩
       exact tell t (lb,nm, "by",n4 / 4 % ((qt.map V.ref).length:Nat)) _ s2 upd_same hlb hnm (.inr ⟨rfl,Xa3 _ (by omega),by have:=Xa2 (n4 / 4) q0;show n4 / 4 % ((qt.map V.ref).length:Nat)<_;omega⟩) h3 h4
     · refine ⟨_,rfl,Or.inl ⟨rfl,_,SqL.of c1⟩,_,rfl,_,rfl,_,rfl,_,_,rfl,rfl,⟨by decide,by decide⟩,_,rfl,Or.inr (Or.inl ⟨nt,_,_,.ref T,rfl,rfl,hN,rfl,_,_,rfl,Or.inl ⟨_,SqL.of N3.et,rfl⟩,_,_,rfl,rfl,t0,Zkq,fun t ht=>?_⟩)⟩
       have s2:=Zak (o:=.tup [.str lb,.str nm,.str "thing",.int (n4 / 4 % ((ts.map V.ref).length:Nat))]) ht
       refine ⟨E1,_,_,rfl,rfl,s2 _ _ c1,lt3,?_⟩
       exact tell t (lb,nm, "thing",n4 / 4 % ((ts.map V.ref).length:Nat)) _ s2 upd_same hlb hnm (.inl ⟨rfl,Xa3 _ (by omega),by have:=Xa2 (n4 / 4) t0;show n4 / 4 % ((ts.map V.ref).length:Nat)<_;omega⟩) h3 h4
variable (P w K mg base) in
abbrev Zd0:Prop:=Zax P w K mg base "_law_lay" 1 ["_law_net", "_law_labels", "_law_words_here", "_law_cell"] (Zgp K)
theorem ZhU (B:Blt mg) (F:Fun K "_law_lay" "_law_lay" ZdN f fd) (hm:mg "_law_lay" = some (.ref f)):Zd0 P w K mg base :=
 ⟨f,fd,ZjD B  F,hm,F.kp,F.binds fun _ _ _ _ _ _ us hl=>(by obtain ⟨x0,x1,x2,x3,rfl⟩:=ZhK hl;rfl)⟩
theorem Zl9 {r:Int} (h0:0≤r) (h1:r<2):∃ w:Str,atI [V.str "none",V.str "torn"] r=some (V.str w)∧w≠("thing" : Str):=by
 rcases (show r=0∨r=1 by omega) with rfl | rfl
 · exact ⟨"none",rfl,by decide +kernel⟩
 · exact ⟨"torn",rfl,by decide +kernel⟩
inductive E__law_answers (K:XFg) (vs:List V) (H:Hp) (Q:VK):Prop where
 | mk (c:Int) (nt S T R:Addr) (ts qt:List Addr) (qs:List Qu) (h0:vs=[.int c,.ref nt]) (h1:H nt=some (.tup [.ref S,.ref T,.ref R])) (h2:H T=some (.lst (ts.map V.ref))) (h3:1≤ts.length) (h4:H R=some (.lst (qt.map V.ref))) (h5:QT H qt qs) (h6:qs.length≤60) (h7:(∀ q∈qs,1≤q.2.2.length)) (h8:∀ (D:Addr) (us:List V) (as:List (Option (Str×Int))) (H':Hp),H D=none→Same H H'→H' D=some (.lst us)→IsDts K H' us (as.map ansD)→as.length=qs.length→(∀ p,some p∈as→p.1=("thing" : Str)→0≤p.2∧p.2<ts.length)→Q (.ref D) H'):E__law_answers K vs H Q
def ZdG (K:XFg):Sp:=fun vs H Q _=>E__law_answers K vs H Q
theorem Zgq (B:Blt mg) (c__law_stream:ZaT P w K mg base) (F:Fun K "_law_answers" "_law_answers" ZbV f fd):FnOk P w K mg base CX0 2 f fd ["_law_cell", "_law_net"] (ZdG K):=by
 refine F.ok sc__law_answers (fun vs H Q E h=>?_) (fun cdv A outer s H vs Q E hr h=>?_)
 · obtain ⟨c,nt,S,T,R,ts,qt,qs,rfl,_⟩:=h
   rfl
 · obtain ⟨c,nt,S,T,R,ts,qt,qs,rfl,eN,eT,ht1,eR,TQ,q60,hq1,q⟩:=h
   have lqt:(qt.map V.ref).length=qs.length:=by rw [Xaa,TQ.len]
   have lts:(ts.map V.ref).length=ts.length:=Xaa ..
   refine ⟨_,(Zad (Zao (i:=2) sc__law_answers.nd rfl (Or.inl rfl) (ZaM Zab))
    (Zad (ZaL Xbs rfl (Zaz (ZaC c__law_stream (hr.mono (by decide)) rfl (Zaa (pv 0) (Zaa (Zan Zay (by rfl) B.b_len (by decide +kernel) (Zaa (Zas Zam (pv 1) Zaf (fun _ _=>rfl)) Zab)) Zab)))) (Zag (i:=3) sc__law_answers.nd rfl (Or.inl rfl)) (Zad (Zao (i:=4) sc__law_answers.nd rfl (Or.inl rfl) (Zas Zam (Zas Zam (Zas Zam (pv 1) Zaf (fun _ _=>rfl)) (Zan Zay (by rfl) B.b_len (by decide +kernel) (Zaa (pv 2) Zab)) (fun _ _=>rfl)) Zaf (fun _ _=>rfl)))
     (Zae (ZaS (Zav Zcf (Zap ZaE (pv 3) Zaf) Zaf (ZaD _)) (Zae (ZaB (Zbl Xa9 Xba Xbb Zaw (pv 2) (Zaa Zk4 Zab)))) (Zae (ZaS (Zav Zcf (Zap ZaE (pv 3) Zaf) Zaf (ZaD _)) (Zae (ZaB (Zbl Xa9 Xba Xbb Zaw (pv 2) (Zaa (Zat (Zaa (Zas Zam (ZaM (Zaa Zaq (Zaa Zaq Zab))) (Zap ZaE (Zap ZaN (pv 3) Zaf) Zaf) (fun _ _=>rfl)) (Zaa (Zap ZaE (Zap ZaN (pv 3) Zaf) (Zan Zay (by rfl) B.b_len (by decide +kernel) (Zaa (pv 4) Zab))) Zab))) Zab)))) (Zae (ZaB (Zbl Xa9 Xba Xbb Zaw (pv 2) (Zaa (Zat (Zaa Zaq (Zaa (Zap ZaE (Zap ZaN (pv 3) Zaf) (Zan Zay (by rfl) B.b_len (by decide +kernel) (Zaa (Zas Zam (pv 1) Zaf (fun _ _=>rfl)) Zab))) Zab))) Zab))))))))))
    (Zae (Zar (pv 2))))),?_⟩
   try dsimp only [cxOf,Cx.nox,Cx.wish]
   refine ⟨by decide,fun D hD=>?_⟩;obtain ⟨H1,qH1,s1,eD1⟩:=new_at (o:=.lst []) hD;rw [←qH1];refine ⟨_,rfl,_,rfl,Or.inr (Or.inl ⟨nt,_,_,.ref R,rfl,rfl,SqT.of (s1 _ _ eN),rfl,_,_,rfl,Or.inl ⟨_,SqL.of (s1 _ _ eR),rfl⟩,c,_,rfl,by omega,by omega,fun L xs H2 hxl hL s2 eL=>⟨L,rfl,⟨_,SqL.of eL⟩,?_⟩⟩)⟩
   have nLD:L≠D:=fun y=>by rw [y,eD1] at hL;cases hL
   have hxq:xs.length=qs.length:=by rw [hxl,lqt,Xa5]
   have up:∀ {H':Hp},Keeps (·=D) H2 H'→Same H H':=fun k x o e=>k.at_ _ _ (s2 _ _ (s1 _ _ e)) (Zac e hD)
   refine ZaI (xs:=xs.map V.int) (fun i σ H'=>∃ (u3 u4:Option V) (us:List V) (as:List (Option (Str×Int))),σ=[some (.int c),some (.ref nt),some (.ref D),u3,u4]∧Keeps (·=D) H2 H'∧H' D=some (.lst us)∧IsDts K H' us (as.map ansD)∧as.length=i∧∀ p,some p∈as→p.1=("thing" : Str)→0≤p.2∧p.2<ts.length)
    ⟨none,none,[],[],rfl,Keeps.refl fun x o m e=>by rw [m,s2 _ _ eD1] at e;exact ⟨_,(Xbd e).symm⟩,s2 _ _ eD1,.nil,rfl,fun p hp=>by simp at hp⟩ (fun i σ H' _ hv_=>by obtain ⟨_,_,_,_,_,k,_⟩:=hv_;exact SqL.of (k.at_ _ _ eL nLD)) ?_ ?_
   rotate_left
   · rintro σ H3 ⟨u3,u4,us,as,rfl,k3,eD3,A3,hal,hok⟩
     refine ⟨_,rfl,q D us as H3 hD (up k3) eD3 A3 (by rw [hal,Xaa,hxq]) hok⟩
   rintro i x σ H3 hx ⟨u3,u4,us,as,rfl,k3,eD3,A3,hal,hok⟩;obtain ⟨nn,hnum,rfl⟩:=getm hx
   have hil:i<qs.length:=by rw [←hxq];exact (Xae.mp hnum).1
   have hus:us.length=i:=by rw [A3.len_map,hal]
   have s3:=up k3;have hqi:=Xab hil;have hti:qt[i]?=some (qt[i]'(by rw [TQ.len];exact hil)):=Xab _;obtain ⟨pu,ep1,ep2⟩:=TQ.at_ i _ _ hti hqi;have hl1:=hq1 _ (Xav hil);generalize qs[i].2.2=pth at ep2 hl1;generalize qt[i]'(by rw [TQ.len];exact hil)=qi at hti ep1;have hat:atI (qt.map V.ref) ((us.length:Nat):Int)=some (.ref qi):=ZaQ (by rw [hus,Xag,hti];rfl);refine ⟨_,rfl,Or.inr (Or.inl ⟨nt,_,_,.ref R,rfl,rfl,SqT.of (s3 _ _ eN),rfl,_,rfl,_,_,rfl,Or.inl ⟨_,SqL.of eD3,rfl⟩,Or.inl ⟨R,_,_,.ref qi,rfl,rfl,SqL.of (s3 _ _ eR),hat,Or.inr (Or.inl ⟨qi,_,_,.ref pu,rfl,rfl,SqT.of (s3 _ _ ep1),rfl,?_⟩)⟩⟩)⟩;refine g_in ?_;try dsimp only
   have ll:us.length<sizeLine:=by rw [hus];exact Zal (by omega)
   refine ⟨_,rfl,_,_,rfl,rfl,(by show (0:Int)<4;decide),rfl,_,rfl,ite2 (fun _=>?_) (fun _=>?_)⟩
   · have k4:Keeps (·=D) H3 (upd H3 D (.lst (us++[.non]))):=Keeps.one eD3
     refine ⟨_,rfl,Or.inl ⟨rfl,_,SqL.of eD3⟩,D,_,_,rfl,rfl,eD3,ll,?_⟩;refine ⟨_,_,us++[.non],as++[none],rfl,⟨fun x o e n=>?_,k3.ls⟩,upd_same,?_,by rw [Xac,hal];rfl,fun p hp=>?_⟩
     · rw [Zah n];exact k3.at_ x o e n
     · rw [Xad];exact (k4.anss A3).append (.cons .non .nil)
     · rcases Xaf.mp hp with hp | hp
       · exact hok p hp
       · simp at hp
   have one:∀ (t:Addr) (p:Str×Int) (H4:Hp),Same H3 H4→H4 t=some (.tup [.str p.1,.int p.2])→(p.1=("thing" : Str)→0≤p.2∧p.2<ts.length) →
    IsDts K (upd H4 D (.lst (us++[.ref t]))) (us++[.ref t]) ((as++[some p]).map ansD)∧Keeps (·=D) H2 (upd H4 D (.lst (us++[.ref t])))∧(as++[some p]).length=i+1∧∀ p',some p'∈as++[some p]→p'.1=("thing" : Str)→0≤p'.2∧p'.2<ts.length:=fun t p H4 s4 et ht=>by
    have k4:Keeps (·=D) H4 (upd H4 D (.lst (us++[.ref t]))):=Keeps.one (s4 _ _ eD3);refine ⟨?_,⟨fun x o e n=>?_,k3.ls⟩,by rw [Xac,hal];rfl,fun p' hp=>?_⟩
    · rw [Xad]
      exact (k4.anss (A3.same s4)).append (.cons (.tup (k4.seqT (SqT.of et)) (.cons (.str _) (.cons (.int _) .nil))) .nil)
    · rw [Zah n];exact s4 _ _ (k3.at_ x o e n)
    · rcases Xaf.mp hp with hp | hp
      · exact hok p' hp
      · rw [Xbd (Xaj.mp hp)];exact ht
   refine ⟨_,rfl,_,_,rfl,rfl,(by show (0:Int)<8;decide),rfl,_,rfl,ite2 (fun _=>?_) (fun _=>?_)⟩
   · obtain ⟨wd,hwd,hwn⟩:=Zl9 (Xa3 (nn / 8) (by decide:(2:Int)≠0)) (Xa2 (nn / 8) (by decide:(0:Int)<2))
     refine ⟨_,rfl,Or.inl ⟨rfl,_,SqL.of eD3⟩,ZaF,fun l hl=>?_⟩
     obtain ⟨H4,qH4,s4,el⟩:=new_at (o:=.lst [.str "none",.str "torn"]) hl
     rw [←qH4];refine ⟨_,rfl,_,_,rfl,rfl,⟨by decide,by decide⟩,_,_,rfl,rfl,(by show (0:Int)<2;decide),Or.inl ⟨l,_,_,.str wd,rfl,rfl,SqL.of el,hwd,?_⟩⟩;refine ⟨_,rfl,_,_,rfl,rfl,⟨by decide,by decide⟩,_,rfl,_,_,rfl,Or.inr ⟨_,SqT.of ((s3.trans s4) _ _ ep2),rfl⟩,_,_,rfl,rfl,?_,ZaF,fun t ht=>?_⟩
     · show (0:Int)<_
       rw [Xaa];omega
     have s5:=s4.trans (Zak (o:=.tup [.str wd,.int (nn / 16 % ((pth.map V.str).length:Nat))]) ht);obtain ⟨o1,o2,o3,o4⟩:=one t (wd,nn / 16 % ((pth.map V.str).length:Nat)) _ s5 upd_same (fun e=>absurd e hwn);refine ⟨D,_,_,rfl,rfl,s5 _ _ eD3,ll,?_⟩;exact ⟨_,_,_,_,rfl,o2,upd_same,o1,o3,o4⟩
   · have th0:(0:Int)<((ts.map V.ref).length:Nat):=by omega
     refine ⟨_,rfl,Or.inl ⟨rfl,_,SqL.of eD3⟩,_,rfl,_,_,rfl,rfl,⟨by decide,by decide⟩,_,rfl,Or.inr (Or.inl ⟨nt,_,_,.ref T,rfl,rfl,SqT.of (s3 _ _ eN),rfl,_,_,rfl,Or.inl ⟨_,SqL.of (s3 _ _ eT),rfl⟩,_,_,rfl,rfl,th0,ZaF,fun t ht=>?_⟩)⟩
     have s4:=Zak (o:=.tup [.str "thing",.int (nn / 8 % ((ts.map V.ref).length:Nat))]) ht
     obtain ⟨o1,o2,o3,o4⟩:=one t ("thing",nn / 8 % ((ts.map V.ref).length:Nat)) _ s4 upd_same (fun _=>⟨Xa3 _ (by omega),by have:=Xa2 (nn / 8) th0;show nn / 8 % ((ts.map V.ref).length:Nat)<_;omega⟩)
     refine ⟨D,_,_,rfl,rfl,s4 _ _ eD3,ll,?_⟩;exact ⟨_,_,_,_,rfl,o2,upd_same,o1,o3,o4⟩
variable (P w K mg base) in
abbrev Zb1:Prop:=Zax P w K mg base "_law_answers" 2 ["_law_cell", "_law_net"] (ZdG K)
theorem Zfe (B:Blt mg) (c__law_stream:ZaT P w K mg base) (F:Fun K "_law_answers" "_law_answers" ZbV f fd) (hm:mg "_law_answers" = some (.ref f)):Zb1 P w K mg base :=
 ⟨f,fd,Zgq B c__law_stream F,hm,F.kp,F.binds fun _ _ _ _ _ _ us hl=>(by obtain ⟨x0,x1,rfl⟩:=Zd5 hl;rfl)⟩
theorem Zm4:([]:List V).length+1+1+1+1≤sizeLine:=by decide
theorem Zma (ws:List Str):cutV (ws.map V.str) (some 4) none=(ws.drop 4).map V.str:=by
 rw [show cutV (ws.map V.str) (some 4) none=(ws.map V.str).drop 4 from Zez _ 4,←XaP]
theorem ZkV (ns:List Int):cutV (ns.map V.int) (some 6) none=(ns.drop 6).map V.int:=by
 rw [show cutV (ns.map V.int) (some 6) none=(ns.map V.int).drop 6 from Zez _ 6,←XaP]
theorem u_tok:TabOk uStates 1 uOrd:=⟨by decide +kernel,by decide +kernel,by decide +kernel,by decide +kernel,by decide +kernel,fun x hx=>absurd rfl ((show ∀ p∈uOrd,p.1≠p.2 by decide +kernel) _ hx),fun x y z h1 h2=>(show ∀ p∈uOrd,∀ q∈uOrd,p.2=q.1→(p.1,q.2)∈uOrd by decide +kernel) _ h1 _ h2 rfl⟩
inductive E__law_case (K:XFg) (vs:List V) (H:Hp) (Q:VK):Prop where
 | mk (a:Addr) (ns:List Int) (h0:vs=[.ref a]) (h1:SqL K H a (ns.map V.int)) (h2:ns.length≤63) (h3:∀ (r nt t A WW:Addr) (W:Wd) (qs:List Qu) (inn:Int) (ord:List (Str×Str)) (ls ws:List Str) (H':Hp),H r=none→Same H H'→H' r=some (.tup [.ref nt,.ref t,.ref A,.ref WW])→CaseL K H H' nt t A WW W qs inn ord ls ws→Q (.ref r) H'):E__law_case K vs H Q
def Zfs (K:XFg):Sp:=fun vs H Q _=>E__law_case K vs H Q
theorem ZiW (B:Blt mg) (c__law_words:ZcM P w K mg base) (c__law_cell_at:Zbb P w K mg base) (c__law_table:ZcO P w K mg base) (c_usual:ZhT P w K mg base) (c__law_things:Zci P w K mg base) (c__law_questions:ZbH P w K mg base) (c__law_lay:Zd0 P w K mg base) (c__law_answers:Zb1 P w K mg base) (F:Fun K "_law_case" "_law_case" Zcm f fd):FnOk P w K mg base CX0 6 f fd ["_law_script"] (Zfs K):=by
 refine F.ok sc__law_case (fun vs H Q E h=>?_) (fun cdv A outer s H vs Q E hr h=>?_)
 · obtain ⟨a,ns,rfl,_⟩:=h
   rfl
 · obtain ⟨a,ns,rfl,hS,hlen,q⟩:=h
   refine ⟨_,(Zad (Zao (i:=1) sc__law_case.nd rfl (Or.inl rfl) (ZaC c__law_words (hr.mono (by decide)) rfl (Zaa (Zap ZaE (ZaC c__law_cell_at (hr.mono (by decide)) rfl (Zaa (pv 0) (Zaa Zaf Zab))) (Zap op_pow Zaf Zaf)) (Zaa Zaf Zab))))
    (Zad (Zao (i:=2) sc__law_case.nd rfl (Or.inl rfl) (ZdR ZeY (pv 1) (ZeX Zaf) ZeW))
    (Zad (Zao (i:=3) sc__law_case.nd rfl (Or.inl rfl) (ZaC c__law_table (hr.mono (by decide)) rfl (Zaa (Zap ZaN (ZaC c__law_cell_at (hr.mono (by decide)) rfl (Zaa (pv 0) (Zaa Zaf Zab))) Zaf) (Zaa (pv 2) Zab))))
    (Zad (ZaS (Zav Zcf (Zap ZaE (ZaC c__law_cell_at (hr.mono (by decide)) rfl (Zaa (pv 0) (Zaa Zaf Zab))) Zaf) Zaf (ZaD _)) (Zad (Zao (i:=3) sc__law_case.nd rfl (Or.inl rfl) (pe_fn0 c_usual (hr.mono (by decide)) rfl))
     (Zae (Zao (i:=2) sc__law_case.nd rfl (Or.inl rfl) (ZaM (Zaa Zaq (Zaa Zaq (Zaa Zaq (Zaa Zaq (Zaa Zaq (Zaa Zaq (Zaa Zaq Zab))))))))))) Zau)
    (Zad (Zao (i:=4) sc__law_case.nd rfl (Or.inl rfl) (Zap Zba Zaf (Zap ZaE (ZaC c__law_cell_at (hr.mono (by decide)) rfl (Zaa (pv 0) (Zaa Zaf Zab))) Zaf)))
    (Zad (Zao (i:=5) sc__law_case.nd rfl (Or.inl rfl) (Zap Zba Zaf (Zap ZaE (Zap ZaN (ZaC c__law_cell_at (hr.mono (by decide)) rfl (Zaa (pv 0) (Zaa Zaf Zab))) Zaf) Zaf)))
    (Zad (Zao (i:=6) sc__law_case.nd rfl (Or.inl rfl) (ZaC c__law_things (hr.mono (by decide)) rfl (Zaa (Zap ZaN (ZaC c__law_cell_at (hr.mono (by decide)) rfl (Zaa (pv 0) (Zaa Zaf Zab))) Zaf) (Zaa (Zap Zba Zaf (Zap ZaE (ZaC c__law_cell_at (hr.mono (by decide)) rfl (Zaa (pv 0) (Zaa Zaf Zab))) Zaf)) (Zaa (pv 4) (Zaa (pv 5) Zab))))))
    (Zad (Zao (i:=7) sc__law_case.nd rfl (Or.inl rfl) (ZaC c__law_questions (hr.mono (by decide)) rfl (Zaa (ZaC c__law_cell_at (hr.mono (by decide)) rfl (Zaa (pv 0) (Zaa Zaf Zab))) (Zaa (pv 5) (Zaa (pv 4) (Zaa (Zan Zay (by rfl) B.b_len (by decide +kernel) (Zaa (Zas Zam (pv 3) Zaf (fun _ _=>rfl)) Zab)) (Zaa (pv 1) Zab)))))))
    (Zad (Zao (i:=8) sc__law_case.nd rfl (Or.inl rfl) (Zat (Zaa (ZcY rfl _law_case_cs1 (ZbD rfl B.b_range (Zaa (pv 4) Zab)) (fun _ _ _ _ _=>(Zag (i:=0) _law_case_cs1.nd rfl (Or.inl rfl))) (fun _ _ _ _ _=>ZcL) (fun _ _ _ _ _=>(Zat (Zaa (ZaM Zab) (Zaa (ZaM Zab) Zab))))) (Zaa (pv 6) (Zaa (pv 7) Zab)))))
    (Zad (ZaL Xbs rfl (Zaz (ZdR ZeY (pv 0) (ZeX Zaf) ZeW)) (Zag (i:=9) sc__law_case.nd rfl (Or.inl rfl)) (Zae (ZaB (ZaC c__law_lay (hr.mono (by decide)) rfl (Zaa (pv 8) (Zaa (pv 2) (Zaa (pv 1) (Zaa (pv 9) Zab))))))))
    (Zad (Zao (i:=10) sc__law_case.nd rfl (Or.inl rfl) (ZaC c__law_answers (hr.mono (by decide)) rfl (Zaa (ZaC c__law_cell_at (hr.mono (by decide)) rfl (Zaa (pv 0) (Zaa Zaf Zab))) (Zaa (pv 8) Zab))))
    (Zae (Zar (Zat (Zaa (pv 8) (Zaa (pv 3) (Zaa (pv 10) (Zaa (pv 1) Zab)))))))))))))))))),?_⟩
   try dsimp only [cxOf,Cx.nox,Cx.wish]
   refine ⟨_,rfl,a,ns,0,rfl,by decide,hS,_,_,rfl,rfl,⟨by decide,by decide,by decide⟩,_,_,rfl,rfl,(by show (0:Int)<10 ^ Int.toNat 9;decide),_,_,rfl,by decide,by decide,fun WW ws H1 hwl hlow hnd hWW s1 eW=>?_⟩;have hw9:ws.length=9:=hwl;refine g_in ?_;try dsimp only
   refine ⟨_,rfl,_,rfl,WW,_,rfl,SqL.of eW,fun L0 hL0=>?_⟩;rw [Zma];obtain ⟨H2,qH2,s2,eL0⟩:=new_at (o:=.lst ((ws.drop 4).map V.str)) hL0;rw [←qH2];refine g_in ?_;try dsimp only
   have s02:=s1.trans s2;refine ⟨_,rfl,a,ns,1,rfl,by decide,s02.seq hS,_,_,rfl,rfl,⟨by decide,by decide⟩,_,rfl,_,L0,ws.drop 4,rfl,SqL.of eL0,by rw [XaF,hw9],hnd,fun t0 sts0 inn0 ord0 H3 ht0 s3 TB0 tok0=>?_⟩;refine g_in ?_;try dsimp only
   have s03:=s02.trans s3;refine Zdd (fun σ' H'=>∃ (t L:Addr) (sts:List Stt) (inn:Int) (ord:List (Str×Str)) (ls:List Str),σ'=[some (.ref a),some (.ref WW),some (.ref L),some (.ref t),none,none,none,none,none,none,none]∧Same H3 H'∧Tab K (fun x=>H x=none) H' t sts inn ord∧TabOk sts inn ord∧H' L=some (.lst (ls.map V.str))∧1≤ls.length∧ls.length≤9) ?_ (fun N hN=>?_)
   case refine_2 =>
    refine ⟨_,rfl,a,ns,1,rfl,by decide,s03.seq hS,_,_,rfl,rfl,(by show (0:Int)<4;decide),rfl,_,rfl,ite2 (fun _=>?_) (fun _=>?_)⟩
    · refine ⟨rfl,fun t H4 ht s4 TB=>?_⟩
      refine g_in ?_;try dsimp only
      refine ⟨(show 7≤sizeLine by decide),fun L hL=>?_⟩
      refine hN _ _ ⟨t,L,uStates,1,uOrd,["all", "allon", "elder", "let", "open", "own", "up"],rfl,s4.trans (Zak hL),(TB.same (Zak hL)).mono fun x hx=>s03.free hx,u_tok,upd_same,by decide,by decide⟩
    · exact hN _ _ ⟨t0,L0,sts0,inn0,ord0,ws.drop 4,rfl,Same.refl _,TB0.mono fun x hx=>s02.free hx,tok0,s3 _ _ eL0,by rw [XaF];omega,by rw [XaF];omega⟩
   rintro σ' H4 ⟨t,L,sts,inn,ord,ls,rfl,s4,TB,tok,eL,l1,l9⟩;have s04:=s03.trans s4;obtain ⟨ta,to,tus,tts,et,_,_,_,eta,SRt,_⟩:=TB.ex
   have lsts:(tus.map V.ref).length=sts.length:=by rw [Xaa,SRt.len]
   refine ⟨_,rfl,a,ns,2,rfl,by decide,s04.seq hS,_,_,rfl,rfl,(by show (0:Int)<5;decide),_,_,rfl,rfl,?_⟩;try dsimp only
   obtain ⟨S0,eS0⟩:∃ S0,S0=1+Zd9 ns 2 % 5:=⟨_,rfl⟩;rw [←eS0]
   have hS0:1≤S0∧S0≤5:=by omega
   refine g_in ?_;try dsimp only
   refine ⟨_,rfl,a,ns,2,rfl,by decide,s04.seq hS,_,_,rfl,rfl,⟨by decide,by decide⟩,_,_,rfl,rfl,(by show (0:Int)<5;decide),_,_,rfl,rfl,?_⟩;try dsimp only
   obtain ⟨Q0,eQ0⟩:∃ Q0,Q0=1+Zd9 ns 2 / 5 % 5:=⟨_,rfl⟩;rw [←eQ0]
   have hQ0:1≤Q0∧Q0≤5:=by omega
   refine g_in ?_;try dsimp only
   have g0:0≤Zd9 ns 3 % 6∧Zd9 ns 3 % 6<6:=by omega
   refine ⟨_,rfl,a,ns,3,rfl,by decide,s04.seq hS,_,_,rfl,rfl,⟨by decide,by decide⟩,_,rfl,a,ns,3,rfl,by decide,s04.seq hS,_,_,rfl,rfl,(by show (0:Int)<6;decide),_,_,rfl,rfl,_,rfl,_,rfl,_,_,_,_,rfl,by omega,by omega,by omega,by omega,fun T ts gs H5 hgl hgok hT s5 eT TG=>?_⟩
   have hg0:1≤gs.length∧gs.length≤6:=by omega
   refine g_in ?_;try dsimp only
   have s05:=s04.trans s5
   have hlst:(0:Int)<((tus.map V.ref).length:Nat):=by rw [lsts];have:=tok.n;omega
   refine ⟨_,rfl,a,ns,4,rfl,by decide,s05.seq hS,_,rfl,_,rfl,_,rfl,Or.inr (Or.inl ⟨t,_,_,.ref ta,rfl,rfl,SqT.of (s5 _ _ et),rfl,_,_,rfl,Or.inl ⟨_,SqL.of (s5 _ _ eta),rfl⟩,_,rfl,_,_,_,_,WW,ws,rfl,SqL.of ((((s2.trans s3).trans s4).trans s5) _ _ eW),by omega,by omega,by omega,by omega,hlst,fun R qt qs H6 hql hqok hR s6 eR TQ=>?_⟩)⟩
   have hq0:1≤qs.length∧qs.length≤5:=by omega
   rw [lsts] at hqok;refine g_in ?_;try dsimp only
   have s06:=s05.trans s6;have s16:=(((s2.trans s3).trans s4).trans s5).trans s6;have hTH:H T=none:=s04.free hT;have hRH:H R=none:=s05.free hR
   refine ⟨_,rfl,_,rfl,by omega,by omega,ZfY (fun D i ys H'=>∃ us Gs Es:List Addr,ys=us.map V.ref∧Same H6 H'∧Scs H' D us Gs Es (List.replicate i (([],[]):Sco))∧(D :: (Gs++Es)).Nodup∧∀ x∈Gs++Es,H6 x=none)
    (fun D hD=>⟨[],[],[],rfl,Zak hD,Scs.nil upd_same,by simp,fun x hx=>by simp at hx⟩) (fun D i ys H7 RR hD hi hv k=>?_) (fun S ys H7 hS7 hv=>?_)⟩
   · obtain ⟨us,Gs,Es,rfl,s7,SC,nd,hfr⟩:=hv
     have lus:=SC.lu;rw [List.length_replicate] at lus;refine ⟨by decide,fun G hG=>?_⟩;obtain ⟨H8,qH8,t1,eG⟩:=new_at (o:=.lst []) hG;rw [←qH8];refine ⟨by decide,fun E1 hE1=>?_⟩;obtain ⟨H9,qH9,t2,eE1⟩:=new_at (o:=.lst []) hE1;rw [←qH9];refine ⟨ZaF,fun u hu=>?_⟩;obtain ⟨H10,qH10,t3,eu⟩:=new_at (o:=.tup [.ref G,.ref E1]) hu;rw [←qH10];have t13:=(t1.trans t2).trans t3;have t23:=t2.trans t3;have SC8:=SC.same t13;have al:=SC.alive
     have nG:G ∉ D :: (Gs++Es):=fun y=>by
      rcases Xam.mp y with y | y
      · rw [y,SC.top] at hG;cases hG
      · obtain ⟨xs,e⟩:=al G y
        rw [e] at hG;cases hG
     have nE:E1 ∉ D :: (Gs++Es):=fun y=>by
      rcases Xam.mp y with y | y
      · rw [y,t1 _ _ SC.top] at hE1;cases hE1
      · obtain ⟨xs,e⟩:=al E1 y
        rw [t1 _ _ e] at hE1;cases hE1
     have nGE:G≠E1:=fun y=>by rw [←y,eG] at hE1;cases hE1
     have hs8:ScH H10 u G E1 ([],[]):=⟨eu,⟨[],t23 _ _ eG,RT.nil⟩,⟨[],t3 _ _ eE1,RT.nil⟩⟩;have SC9:=SC8.snoc hs8 (fun z=>nG (z ▸ Xal)) (fun z=>nE (z ▸ Xal)) (fun x hx z=>(XaC.mp nd).1 (z ▸ hx));refine k _ _ SC8.top (by rw [Xaa,lus];exact Zal (by omega)) ⟨us++[u],Gs++[G],Es++[E1],by rw [Xad];rfl,fun b o e=>?_,?_,Zj5 nd nG nE nGE,fun x hx=>?_⟩
     · rw [Zah (Zac e hD)];exact t13 _ _ (s7 _ _ e)
     · rw [List.replicate_succ'];exact SC9
     · have:x∈Gs++Es∨x=G∨x=E1:=by
        simp only [Xaf,Xaj] at hx ⊢
        rcases hx with (h | h) | (h | h)
        · exact .inl (.inl h)
        · exact .inr (.inl h)
        · exact .inl (.inr h)
        · exact .inr (.inr h)
       rcases this with h | h | h
       · exact hfr x h
       · rw [h];exact s7.free hG
       · rw [h];exact (s7.trans t1).free hE1
   obtain ⟨us,Gs,Es,rfl,s7,SC7,nd,hfr⟩:=hv;have hSn:H6 S=none:=hS7;have s07:=s06.trans s7;refine ⟨_,rfl,_,rfl,Za1,fun nt hnt=>?_⟩;obtain ⟨H8,qH8,s8,ent⟩:=new_at (o:=.tup [.ref S,.ref T,.ref R]) hnt;rw [←qH8];refine g_in ?_;try dsimp only
   have s08:=s07.trans s8;refine ⟨_,rfl,_,rfl,a,_,rfl,s08.seq hS,fun p0 h0=>?_⟩;rw [ZkV]
   have hcl:(ns.drop 6).length≤63:=by rw [XaF];omega
   generalize ns.drop 6=cells at hcl ⊢;obtain ⟨H9,qH9,s9,ep⟩:=new_at (o:=.lst (cells.map V.int)) h0;rw [←qH9];have s68:=s7.trans s8;have s69:=s68.trans s9
   have M6:∀ x o,H6 x=some o→x ∉ Gs++Es:=fun x o e y=>by rw [hfr x y] at e;cases e
   have M7:∀ x,H7 x=none→x ∉ Gs++Es:=fun x e y=>by
    obtain ⟨xs,e'⟩:=SC7.alive x y;rw [e'] at e;cases e
   have MS:S ∉ Gs++Es:=(XaC.mp nd).1;have N39:Net3 H9 S T R us Gs Es ts qt (List.replicate S0.toNat (([],[]):Sco)) gs qs:=⟨SC7.same (s8.trans s9),(s6.trans s69) _ _ eT,TG.same (s6.trans s69),s69 _ _ eR,TQ.same s69⟩
   have k9:Keeps (fun x=>x∈Gs++Es) H9 H9:=Keeps.refl fun x o y e=>by
    obtain ⟨xs,e'⟩:=N39.sc.alive x y;rw [e'] at e;exact ⟨xs,(Xbd e).symm⟩
   have hp0:p0 ∉ Gs++Es:=M7 p0 (s8.free h0);have lay0:LayW gs.length qs.length ls ws (List.replicate S0.toNat (([],[]):Sco)):=⟨fun s hs=>by rw [List.eq_of_mem_replicate hs];simp,fun s hs=>by rw [List.eq_of_mem_replicate hs];simp,fun s hs p hp=>by rw [List.eq_of_mem_replicate hs] at hp;simp at hp,fun s hs p hp=>by rw [List.eq_of_mem_replicate hs] at hp;simp at hp⟩
   refine ⟨p0,rfl,⟨_,SqL.of ep⟩,ZaI (xs:=cells.map V.int) (fun i σ H'=>∃ u9 ss,σ=[some (.ref a),some (.ref WW),some (.ref L),some (.ref t),some (.int S0),some (.int Q0),some (.ref T),some (.ref R),some (.ref nt),u9,none]∧Keeps (fun x=>x∈Gs++Es) H9 H'∧Net3 H' S T R us Gs Es ts qt ss gs qs∧ss.length=S0.toNat∧LayW gs.length qs.length ls ws ss)
    ⟨none,_,rfl,k9,N39,List.length_replicate ..,lay0⟩ (fun i σ H' _ hv_=>by obtain ⟨_,_,_,k,_⟩:=hv_;exact SqL.of (k.at_ _ _ ep hp0)) ?_ ?_⟩
   · rintro i x σ H10 hx ⟨u9,ss,rfl,k10,N10,hsl,lay⟩
     obtain ⟨c,hc,rfl⟩:=getm hx;have eL10:=k10.at_ _ _ ((s5.trans (s6.trans s69)) _ _ eL) (M6 _ _ ((s5.trans s6) _ _ eL));have eW10:=k10.at_ _ _ ((s16.trans s69) _ _ eW) (M6 _ _ (s16 _ _ eW));refine ⟨_,rfl,_,rfl,_,rfl,_,rfl,nt,L,WW,c,S,T,R,us,Gs,Es,ts,qt,ss,gs,qs,ls,ws,rfl,k10.tup (s9 _ _ ent),N10,nd,M6 _ _ (s6 _ _ eT),M6 _ _ eR,by omega,by omega,by omega,by omega,by omega,by omega,SqL.of eL10,l1,by omega,SqL.of eW10,by omega,lay,fun ss' H11 k11 N11 hsl11 lay11=>?_⟩;exact ⟨_,ss',rfl,⟨fun x o e n=>k11.at_ _ _ (k10.at_ x o e n) n,k10.ls⟩,N11,by omega,lay11⟩
   rintro σ H10 ⟨u9,ss,rfl,k10,N10,hsl,lay⟩;have up:Same H H10:=fun x o e=>k10.at_ _ _ ((s08.trans s9) _ _ e) (M6 _ _ (s06 _ _ e));have ent10:=k10.tup (s9 _ _ ent);refine ⟨_,rfl,a,ns,5,rfl,by decide,up.seq hS,_,rfl,_,nt,S,T,R,ts,qt,qs,rfl,ent10,N10.et,?_,N10.er,N10.tq,by omega,fun z hz=>(hqok z hz).2.2.1,fun A avs as H11 hA s11 eA dA hal hao=>?_⟩
   · rw [N10.tg.len];omega
   refine g_in ?_;try dsimp only
   refine ⟨_,rfl,_,rfl,_,rfl,_,rfl,Zm4,fun r hr=>?_⟩;obtain ⟨H12,qH12,s12,er⟩:=new_at (o:=.tup [.ref nt,.ref t,.ref A,.ref WW]) hr;rw [←qH12];have s1012:=s11.trans s12;have eW10:=k10.at_ _ _ ((s16.trans s69) _ _ eW) (M6 _ _ (s16 _ _ eW))
   have t10:Keeps (fun x=>x∈Gs++Es) H4 H10:=⟨fun x o e n=>k10.at_ _ _ ((s5.trans (s6.trans s69)) _ _ e) n,fun x o m e=>by
    rw [hfr x m |> fun z=>(s5.trans s6).free z] at e;cases e⟩
   have TB4':=TB.alive.keeps t10 fun x hx m=>by
    obtain ⟨o,e⟩:=hx.2;exact M6 _ _ ((s5.trans s6) _ _ e) m
   have nA:∀ x o,H10 x=some o→x≠A:=fun x o e y=>by rw [y,hA] at e;cases e
   have TB12:Tab K (fun x=>H x=none∧x≠A) H12 t sts inn ord:=(TB4'.same s1012).mono fun x hx=>by
    obtain ⟨h1,o,e⟩:=hx;exact ⟨h1,nA x o (t10.at_ _ _ e (M6 _ _ ((s5.trans s6) _ _ e)))⟩
   have hlq:qs.length=as.length:=hal.symm;refine q r nt t A WW ⟨ss,gs,as,sts⟩ qs inn ord ls ws H12 ((up.trans s11).free hr) (up.trans s1012) er ⟨⟨S,T,R,us,Gs,Es,ts,qt,s1012 _ _ ent10,N10.same s1012,fun x hx=>?_⟩,TB12,⟨avs,s12 _ _ eA,dA.same s12⟩,?_,?_,up.free hA,⟨⟨by show ss.length≤5;omega,lay.st,lay.tl,fun s hs p hp=>?_,fun p hp=>?_,fun p hp e=>?_,tok.go⟩,?_,by show 1≤ss.length;omega,hlq,hq0,hg0,fun z hz=>?_⟩,tok,hw9⟩
   · have al:=N10.sc.alive
     rcases Xam.mp hx with rfl | hx
     · exact ⟨nA _ _ N10.sc.top,s06.free hSn⟩
     rcases Xam.mp hx with rfl | hx
     · exact ⟨nA _ _ N10.et,hTH⟩
     rcases Xam.mp hx with rfl | hx
     · exact ⟨nA _ _ N10.er,hRH⟩
     obtain ⟨xs,e⟩:=al x hx;exact ⟨nA _ _ e,s06.free (hfr x hx)⟩
   · exact s1012 _ _ eW10
   · exact nA _ _ eW10
   · have:=(lay.kst s hs p hp).2
     rwa [hlq] at this
   · have:=hgok p hp
     rwa [show S0=((ss.length:Nat):Int) by omega,show Q0=((as.length:Nat):Int) by omega] at this
   · have:=hao p hp e
     rwa [N10.tg.len] at this
   · rw [←hlq];exact lay
   · have:=hqok z hz
     rwa [show S0=((ss.length:Nat):Int) by omega] at this
variable (P w K mg base) in
abbrev Zdh:Prop:=Zax P w K mg base "_law_case" 6 ["_law_script"] (Zfs K)
theorem ZgM (B:Blt mg) (c__law_words:ZcM P w K mg base) (c__law_cell_at:Zbb P w K mg base) (c__law_table:ZcO P w K mg base) (c_usual:ZhT P w K mg base) (c__law_things:Zci P w K mg base) (c__law_questions:ZbH P w K mg base) (c__law_lay:Zd0 P w K mg base) (c__law_answers:Zb1 P w K mg base) (F:Fun K "_law_case" "_law_case" Zcm f fd) (hm:mg "_law_case" = some (.ref f)):Zdh P w K mg base :=
 ⟨f,fd,ZiW B c__law_words c__law_cell_at c__law_table c_usual c__law_things c__law_questions c__law_lay c__law_answers F,hm,F.kp,F.binds fun _ _ _ _ _ _ us hl=>(by obtain ⟨x0,rfl⟩:=Zen hl;rfl)⟩
inductive E_has_end (K:XFg) (vs:List V) (H:Hp) (Q:VK):Prop where
 | mk (t a o:Addr) (inn:V) (ss:List Stt) (n:Int) (k:Nat) (s:Stt) (x:Str) (h0:vs=[.ref t,.int n,.str x]) (h1:n=k) (h2:SqT K H t [.ref a,inn,.ref o]) (h3:Stts K H a ss) (h4:ss[k]?=some s) (h5:Q (.bl (dec (x∈s.2))) H):E_has_end K vs H Q
def Zhf (K:XFg):Sp:=fun vs H Q _=>E_has_end K vs H Q
theorem ZkW (B:Blt mg) (F:Fun K "has_end" "has_end" Zev f fd):FnOk P w K mg base CX0 1 f fd ["table", "state", "label"] (Zhf K):=by
 refine F.ok sc_has_end (fun vs H Q E h=>?_) (fun cdv A outer s H vs Q E hr h=>?_)
 · obtain ⟨t,a,o,inn,ss,n,k,s,x,rfl,_⟩:=h
   rfl
 · obtain ⟨t,a,o,inn,ss,n,k,s,x,rfl,rfl,hT,⟨vs,hS,hD⟩,hs,q⟩:=h
   obtain ⟨v,hv,hvs⟩:=hD.get' (i:=k) (d:=stD s) (by rw [Xag,hs];rfl);obtain ⟨st,g,e,rfl,hst,hg,he⟩:=st_at hvs
   refine ⟨_,(Zad (Zao (i:=3) sc_has_end.nd rfl (Or.inl rfl) (Zas Zam (Zas Zam (Zas Zam (pv 0) Zaf (fun _ _=>rfl)) (pv 1) (fun _ _=>rfl)) Zaf (fun _ _=>rfl)))
    (Zae (Zar (Zb6 (op_inD hr.units) (pv 2) (pv 3) (by with_unfolding_all rfl))))),?_⟩
   try dsimp only [cxOf,Cx.nox,Cx.wish]
   refine ⟨_,rfl,Or.inr (Or.inl ⟨t,_,_,.ref a,rfl,rfl,hT,rfl,?_⟩)⟩;refine ⟨_,rfl,Or.inl ⟨a,vs,_,.ref st,rfl,rfl,hS,ZaQ hv,?_⟩⟩;refine Or.inr (Or.inl ⟨st,_,_,.ref e,rfl,rfl,hst,rfl,?_⟩);refine ⟨_,rfl,_,rfl,2,.str x,s.2.map Dt.str,e,_,fun d hd=>?_,by decide,.str x,rfl,he,IsDts.strs _,?_⟩
   · obtain ⟨y,_,rfl⟩:=Xai.mp hd
     exact .str _ _
   have e1:dec (Dt.str x∈s.2.map Dt.str)=dec (x∈s.2):=Zb4 ⟨fun h=>by
    obtain ⟨y,hy,z⟩:=Xai.mp h
    rw [←Dt.str.inj z];exact hy,fun h=>Xai.mpr ⟨x,h,rfl⟩⟩
   rw [e1];exact q
variable (P w K mg base) in
abbrev ZeL:Prop:=Zax P w K mg base "has_end" 1 ["table", "state", "label"] (Zhf K)
theorem ZiX (B:Blt mg) (F:Fun K "has_end" "has_end" Zev f fd) (hm:mg "has_end" = some (.ref f)):ZeL P w K mg base :=
 ⟨f,fd,ZkW B  F,hm,F.kp,F.binds fun _ _ _ _ _ _ us hl=>(by obtain ⟨x0,x1,x2,rfl⟩:=ZgF hl;rfl)⟩
theorem fb_ends {W:Wd}{k:Nat}{s:Stt} (h:W.sts[k]?=some s):Zec W (k:Int)=s.2:=by unfold Zec;rw [Xa5,h]
theorem Zm5 {W:Wd}{k:Nat}{s:Sco} (h:W.ss[k]?=some s):Zbz W (k:Int)=s.2:=by unfold Zbz;rw [Xa5,h]
theorem fb_one {W:Wd}{b:Beg}{x:Str}{q:Tlg}{i:Nat} (h1:q.2.1=x) (h2:q.1∈Zec W b.2.2):Zfz W b x q i=[b.1++[(b.2.1,("told" : Str),(i:Int))]]:=Xbf ⟨h1,h2⟩
theorem fb_none {W:Wd}{b:Beg}{x:Str}{q:Tlg}{i:Nat} (h:¬(q.2.1=x∧q.1∈Zec W b.2.2)):Zfz W b x q i=[]:=Xbe h
theorem Zmb {W:Wd}{x:Str}{bs:List Beg}{i:Nat}{b:Beg} (h:bs[i]?=some b):Zbd W x (bs.take (i+1))=Zbd W x (bs.take i)++Zdp W b x (Zbz W b.2.1) 0:=by
 rw [Xar,h];show (bs.take i++[b]).flatMap _=_;rw [List.flatMap_append];simp [Zbd]
theorem fb_le {W:Wd}{x:Str}{bs:List Beg} (i:Nat):(Zbd W x (bs.take i)).length≤(Zbd W x bs).length:=by
 have:Zbd W x bs=Zbd W x (bs.take i)++Zbd W x (bs.drop i):=by
  unfold Zbd;rw [←List.flatMap_append,List.take_append_drop]
 rw [this,Xac];omega
inductive E_found_behind (K:XFg) (vs:List V) (H:Hp) (Q:VK):Prop where
 | mk (nt A t D:Addr) (x:Str) (F:Addr→Prop) (W:Wd) (zs:List (Addr×Beg)) (h0:vs=[.ref nt,.ref t,.ref D,.str x]) (h1:CaseH K H nt A t W) (h2:WOk W) (h3:H D=some (.lst (zs.map fun z=>V.ref z.1))) (h4:(∀ z∈zs,BgH F H z.1 z.2)) (h5:(∀ z∈zs,BegOk W z.2)) (h6:zs.length≤capR (bOf W) (W.ss.length - 1)) (h7:∀ (D2:Addr) (ws:List (Addr×List Mrk)) (H':Hp),H D2=none→Same H H'→H' D2=some (.lst (ws.map fun z=>V.ref z.1))→(∀ z∈ws,WyH (fun l=>H l=none∧l≠D2) H' z.1 z.2)→Fnd W x (zs.map (·.2)) (ws.map (·.2))→Q (.ref D2) H'):E_found_behind K vs H Q
def ZdH (K:XFg):Sp:=fun vs H Q _=>E_found_behind K vs H Q
theorem Zgr (B:Blt mg) (c_has_end:ZeL P w K mg base) (F:Fun K "found_behind" "found_behind" ZbW f fd):FnOk P w K mg base CX0 2 f fd ["net", "table", "begun", "name"] (ZdH K):=by
 refine F.ok sc_found_behind (fun vs H Q E h=>?_) (fun cdv A outer s H vs Q E hr h=>?_)
 · obtain ⟨nt,A,t,D,x,F,W,zs,rfl,_⟩:=h
   rfl
 · obtain ⟨nt,A,t,D,x,F,W,zs,rfl,hC,ok,eD,hz,hbo,hzl,q⟩:=h
   obtain ⟨S,T,R,us,Gs,Es,ts,qt,qs,eN,N3⟩:=hC.net;obtain ⟨a,o,inn,b1,tv,b2,b3⟩:=hC.tab;have hfl:(Zbd W x (zs.map (·.2))).length≤62:=ZiF ok (by rw [Xaa];exact hzl)
   refine ⟨_,(Zad (Zao (i:=4) sc_found_behind.nd rfl (Or.inl rfl) (ZaM Zab))
    (Zad (ZaL Xbs rfl (Zaz (pv 2)) (ZaR rfl (Zai (Zag (i:=5) sc_found_behind.nd rfl (Or.inl rfl)) (Zai (Zag (i:=6) sc_found_behind.nd rfl (Or.inl rfl)) (Zai (Zag (i:=7) sc_found_behind.nd rfl (Or.inl rfl)) ZaG)))) (Zae (ZaL Xbs rfl (Zjl rfl B.b_enumerate (Zaa (Zas Zam (Zas Zam (Zas Zam (pv 0) Zaf (fun _ _=>rfl)) (pv 6) (fun _ _=>rfl)) Zaf (fun _ _=>rfl)) Zab)) (ZaR rfl (Zai (Zag (i:=8) sc_found_behind.nd rfl (Or.inl rfl)) (Zai (Zag (i:=9) sc_found_behind.nd rfl (Or.inl rfl)) ZaG))) (Zae (ZaS (PW.pt (pw_and (Zav Zcf (Zas Zam (pv 9) Zaf (fun _ _=>rfl)) (pv 3) (ZaD _)) (Zk7 (Zb7 (ZaC c_has_end (hr.mono (by decide)) rfl (Zaa (pv 1) (Zaa (pv 7) (Zaa (Zas Zam (pv 9) Zaf (fun _ _=>rfl)) Zab)))))))) (Zae (ZaB (Zbl Xa9 Xba Xbb Zaw (pv 4) (Zaa (Zap ZgX (pv 5) (ZaM (Zaa (Zat (Zaa (pv 6) (Zaa Zaq (Zaa (pv 8) Zab)))) Zab))) Zab)))) Zau)))))
    (Zae (Zar (Zan (ZkI mkE hr.units (by decide)) (by rfl) B.b_sorted (by decide +kernel) (Zaa (pv 4) Zab)))))),?_⟩
   try dsimp only [cxOf,Cx.nox,Cx.wish]
   refine ⟨by decide,fun P hP=>?_⟩;obtain ⟨H1,qH1,s1,eP1⟩:=new_at (o:=.lst []) hP;rw [←qH1];have nDP:D≠P:=Zac eD hP;have upK:∀ {H':Hp},Keeps (·=P) H1 H'→Same H H':=fun k x o e=>k.at_ _ _ (s1 _ _ e) (Zac e hP)
   refine ⟨_,rfl,D,rfl,⟨_,SqL.of (s1 _ _ eD)⟩,ZaI (xs:=zs.map fun z=>V.ref z.1) (fun i σ H'=>∃ u5 u6 u7 u8 u9 ws,σ=[some (.ref nt),some (.ref t),some (.ref D),some (.str x),some (.ref P),u5,u6,u7,u8,u9]∧Keeps (·=P) H1 H'∧H' P=some (.lst (ws.map fun z:Addr×List Mrk=>V.ref z.1))∧(∀ z∈ws,WyH (fun l=>H l=none∧l≠P) H' z.1 z.2)∧ws.map (·.2)=Zbd W x ((zs.map (·.2)).take i))
    ⟨none,none,none,none,none,[],rfl,Keeps.refl fun x o m e=>by rw [m,eP1] at e;exact ⟨_,(Xbd e).symm⟩,eP1,fun z hz=>by simp at hz,by rw [Xaz];rfl⟩ (fun i σ H' _ hv_=>by obtain ⟨_,_,_,_,_,_,_,k,_⟩:=hv_;exact SqL.of (upK k _ _ eD)) ?_ ?_⟩
   rotate_left
   · rintro σ H2 ⟨u5,u6,u7,u8,u9,ws,rfl,k2,eP2,hw,hm⟩
     rw [Xaa,←Xaa (f:=(·.2)),Xas] at hm
     have lw:ws.length≤62:=by have:=Xbk List.length hm;rw [Xaa] at this;omega
     refine ⟨_,rfl,P,ws.map fun z=>(V.ref z.1,z.2),rfl,?_,by rw [Xaa];omega,fun y hy=>?_,fun D2 zs' hp hs hD2=>?_⟩
     · rw [Xax];exact SqL.of eP2
     · obtain ⟨z,hz',rfl⟩:=Xai.mp hy
       exact (hw z hz').dt
     obtain ⟨vs,r1,r2,r3,r4⟩:=Zg8 (c:=wayE) hp;have s3:=Zak (o:=.lst (zs'.map (·.1))) hD2;rw [r1] at s3 ⊢;rw [r2] at hs;have s02:=upK k2;refine q D2 vs _ (s02.free hD2) (s02.trans s3) upd_same (fun z hz'=>?_) ⟨by rw [←hm];exact r3,hs⟩;refine ((hw z (r4 z hz')).mono' ?_).same s3;intro x o ex hx;exact ⟨hx.1,fun y=>by rw [y,hD2] at ex;cases ex⟩
   rintro i y σ H2 hy ⟨u5,u6,u7,u8,u9,ws,rfl,k2,eP2,hw,hm⟩;obtain ⟨z,hzi,rfl⟩:=getm hy;have mz:=Xah hzi;have hbz:=hbo z mz;have s02:=upK k2;obtain ⟨l,ms,f1,f2,e3,_⟩:=hz z mz;have e1:=s02 _ _ f1;have hsc:=hbz.rng z.2.2.1 (by unfold been;simp);have hst:=hbz.st;obtain ⟨n,hn⟩:=Xa4 hsc.1;obtain ⟨k,hk⟩:=Xa4 hst.1
   have hnl:n<W.ss.length:=by omega
   have hkl:k<W.sts.length:=by omega
   obtain ⟨u,G,E1,g1,g2,g3,g4,⟨c0,_,⟨tE,c1,c2⟩⟩⟩:=N3.sc.get hnl;have hks:=Xab hkl
   have eT:Zbz W z.2.2.1=W.ss[n].2:=by rw [hn];exact Zm5 g4
   have eE:Zec W z.2.2.2=W.sts[k].2:=by rw [hk];exact fb_ends hks
   have hat:atI (us.map V.ref) z.2.2.1=some (.ref u):=by rw [hn];exact ZaQ (by rw [Xag,g1];rfl)
   have htk:(zs.map (·.2))[i]?=some z.2:=by rw [Xag,hzi];rfl
   have hml:ms.length≤5:=by
    have:=Zb5 W.ss.length (been z.2) hbz.nd hbz.rng
    rw [show (been z.2).length=z.2.1.length+1 by unfold been;simp] at this
    have:=ok.s5
    rw [e3.len];omega
   have hle:=fb_le (W:=W) (x:=x) (bs:=zs.map (·.2)) (i+1);rw [Zmb htk,Xac] at hle;refine ⟨z.1,_,rfl,SqT.of e1,rfl,_,_,rfl,_,_,rfl,_,_,rfl,rfl,?_⟩;refine ⟨_,rfl,Or.inr (Or.inl ⟨nt,_,_,.ref S,rfl,rfl,SqT.of (s02 _ _ eN),rfl,_,rfl,Or.inl ⟨S,_,_,.ref u,rfl,rfl,SqL.of (s02 _ _ N3.sc.top),hat,Or.inr (Or.inl ⟨u,_,_,.ref E1,rfl,rfl,SqT.of (s02 _ _ c0),rfl,E1,rfl,⟨_,s02 _ _ c1⟩,?_⟩)⟩⟩)⟩
   refine Zhz (xs:=tE.map V.ref) (fun j σ H'=>∃ u8 u9 ws,σ=[some (.ref nt),some (.ref t),some (.ref D),some (.str x),some (.ref P),some (.ref l),some (.int z.2.2.1),some (.int z.2.2.2),u8,u9]∧Keeps (·=P) H1 H'∧H' P=some (.lst (ws.map fun z:Addr×List Mrk=>V.ref z.1))∧(∀ z∈ws,WyH (fun l=>H l=none∧l≠P) H' z.1 z.2)∧ws.map (·.2)=Zbd W x ((zs.map (·.2)).take i)++Zdp W z.2 x ((Zbz W z.2.2.1).take j) 0)
    ⟨_,_,ws,rfl,k2,eP2,hw,by rw [hm,Xaz];simp [Zdp]⟩ (fun j σ H' hv_=>by obtain ⟨_,_,_,_,k,_⟩:=hv_;exact SqL.of (upK k _ _ c1)) ?_ ?_
   rotate_left
   · rintro σ H3 ⟨u8,u9,ws,rfl,k3,eP3,hw3,hm3⟩
     refine ⟨_,_,_,_,_,ws,rfl,k3,eP3,hw3,?_⟩;rw [Zmb htk,hm3,Xaa,c2.len,eT,Xas]
   rintro j y T' σ H3 hy hT' ⟨u8,u9,ws,rfl,k3,eP3,hw3,hm3⟩;obtain ⟨tp,htp,rfl⟩:=getm hy
   have hjl:j<W.ss[n].2.length:=by rw [←c2.len];exact (Xae.mp htp).1
   have hp:=Xab hjl;have etp:=c2.at_ j tp _ htp hp;generalize W.ss[n].2[j]=p at hp etp;obtain ⟨H4,qH4,s4,eT'⟩:=new_at (o:=.tup [.int j,.ref tp]) hT';rw [←qH4];have s03:=upK k3;have s04:=s03.trans s4;have k4:Keeps (·=P) H1 H4:=k3.same s4;have eP4:=s4 _ _ eP3;have hw4:∀ z∈ws,WyH (fun l=>H l=none∧l≠P) H4 z.1 z.2:=fun z h=>(hw3 z h).same s4;have htp4:=SqT.of (K:=K) (s04 _ _ etp)
   have etk:Zdp W z.2 x ((Zbz W z.2.2.1).take (j+1)) 0=Zdp W z.2 x ((Zbz W z.2.2.1).take j) 0++Zfz W z.2 x p j:=by
    rw [Xar,eT,hp];show Zdp W z.2 x (W.ss[n].2.take j++[p]) 0=_;rw [Zg7,Xaw,Nat.zero_add,Nat.min_eq_left (by omega)]
   have skip:¬(p.2.1=x∧p.1∈Zec W z.2.2.2)→ws.map (·.2)=Zbd W x ((zs.map (·.2)).take i)++Zdp W z.2 x ((Zbz W z.2.2.1).take (j+1)) 0:=fun hn=>by
    rw [etk,fb_none hn,XaH,hm3]
   have lw:ws.length<100:=by
    have:=Xbk List.length hm3
    rw [Xaa,Xac] at this;have h1:=Zf4 W z.2 x ((Zbz W z.2.2.1).take j) 0;have h2:=ZiE ok z.2.2.1
    have h3:ZgE W≤3:=by unfold ZgE;split <;> omega
    rw [Xaw] at h1;omega
   refine ⟨T',_,rfl,SqT.of eT',rfl,_,_,rfl,_,_,rfl,rfl,?_⟩;refine ⟨_,rfl,Or.inr (Or.inl ⟨tp,_,_,.str p.2.1,rfl,rfl,htp4,rfl,_,rfl,rfl,_,rfl,ite2 (fun h1=>?_) (fun h1=>iteF ?_)⟩)⟩;rotate_left
   · exact ⟨_,_,ws,rfl,k4,eP4,hw4,skip fun h=>h1 (Xa6 (by rw [h.1]))⟩
   have h1:p.2.1=x:=V.str.inj (Xa8 h1);refine ⟨_,rfl,_,rfl,_,rfl,Or.inr (Or.inl ⟨tp,_,_,.str p.1,rfl,rfl,htp4,rfl,t,a,o,inn,W.sts,z.2.2.2,k,_,p.1,rfl,hk,s04.seqT b1,⟨tv,s04.seq b2,b3.same s04⟩,hks,_,rfl,ite2 (fun h2=>?_) (fun h2=>?_)⟩)⟩;rotate_left
   · exact ⟨_,_,ws,rfl,k4,eP4,hw4,skip fun h=>h2 (ZaH (by rw [←eE];exact h.2))⟩
   have h2:p.1∈Zec W z.2.2.2:=by rw [eE];exact dec_iff.mp h2
   refine ⟨_,rfl,Or.inl ⟨rfl,_,SqL.of eP4⟩,_,rfl,_,rfl,_,rfl,Za1,fun m hm'=>?_⟩
   obtain ⟨H5,qH5,s5,em⟩:=new_at (o:=.tup [.int z.2.2.1,.str "told",.int j]) hm'
   rw [←qH5];refine ⟨ZgZ,fun M hM=>?_⟩;obtain ⟨H6,qH6,s6,eM⟩:=new_at (o:=.lst [.ref m]) hM;rw [←qH6];have s46:=s5.trans s6;refine ⟨l,M,_,_,rfl,rfl,s46 _ _ (s04 _ _ f2),eM,by rw [Xaa];exact XaY (Zal (by show ms.length+1≤1000;omega)),fun L hL=>?_⟩;have hLH:H L=none:=(s04.trans s46).free hL
   have nLP:L≠P:=fun y=>by rw [y,s46 _ _ eP4] at hL;cases hL
   have s7:=Zak (o:=.lst (ms.map V.ref++[.ref m])) hL
   have eL:(upd H6 L (.lst (ms.map V.ref++[.ref m]))) L=some (.lst ((ms++[m]).map V.ref)):=by rw [upd_same,Xad];rfl
   generalize upd H6 L (.lst (ms.map V.ref++[.ref m]))=H7 at s7 eL ⊢;have s47:=s46.trans s7;have eP7:=s47 _ _ eP4;have k7:Keeps (·=P) H7 (upd H7 P (.lst (ws.map (fun z=>V.ref z.1)++[.ref L]))):=Keeps.one eP7;refine ⟨P,_,_,rfl,rfl,eP7,by rw [Xaa];exact Zal (by omega),?_⟩
   refine ⟨_,_,ws++[(L,z.2.1++[(z.2.2.1,("told" : Str),(j:Int))])],rfl,(k4.same s47).set rfl,by rw [upd_same,Xad];rfl,fun y hy=>?_,?_⟩
   · rcases Xaf.mp hy with hy | hy
     · exact ((hw4 y hy).same s47).keeps k7 fun x hx=>hx.2
     · rw [Xaj.mp hy]
       refine ⟨ms++[m],k7.at_ _ _ eL nLP,?_,hLH,nLP⟩;exact RT.snoc ((e3.same (s04.trans s47)).keeps k7) (k7.tup ((s6.trans s7) _ _ em))
   · rw [etk,fb_one h1 h2,Xad,hm3,XaE];rfl
variable (P w K mg base) in
abbrev Zb2:Prop:=Zax P w K mg base "found_behind" 2 ["net", "table", "begun", "name"] (ZdH K)
theorem Zff (B:Blt mg) (c_has_end:ZeL P w K mg base) (F:Fun K "found_behind" "found_behind" ZbW f fd) (hm:mg "found_behind" = some (.ref f)):Zb2 P w K mg base :=
 ⟨f,fd,Zgr B c_has_end F,hm,F.kp,F.binds fun _ _ _ _ _ _ us hl=>(by obtain ⟨x0,x1,x2,x3,rfl⟩:=ZhK hl;rfl)⟩
inductive E_next_state (K:XFg) (vs:List V) (H:Hp) (Q:VK):Prop where
 | mk (t a o:Addr) (inn:V) (ss:List Stt) (n:Int) (k:Nat) (s:Stt) (x:Str) (h0:vs=[.ref t,.int n,.str x]) (h1:n=k) (h2:SqT K H t [.ref a,inn,.ref o]) (h3:Stts K H a ss) (h4:ss[k]?=some s) (h5:Q (onV (goN s.1 x)) H):E_next_state K vs H Q
def ZeM (K:XFg):Sp:=fun vs H Q _=>E_next_state K vs H Q
theorem ZhV (B:Blt mg) (F:Fun K "next_state" "next_state" ZcE f fd):FnOk P w K mg base CX0 1 f fd ["table", "state", "label"] (ZeM K):=by
 refine F.ok sc_next_state (fun vs H Q E h=>?_) (fun cdv A outer s H vs Q E hr h=>?_)
 · obtain ⟨t,a,o,inn,ss,n,k,s,x,rfl,_⟩:=h
   rfl
 · obtain ⟨t,a,o,inn,ss,n,k,s,x,rfl,rfl,hT,⟨vs,hS,hD⟩,hs,q⟩:=h
   obtain ⟨v,hv,hvs⟩:=hD.get' (i:=k) (d:=stD s) (by rw [Xag,hs];rfl);obtain ⟨st,g,e,rfl,hst,⟨gv,hg,hgd⟩,he⟩:=st_at hvs;have lgv:=hgd.len_map
   refine ⟨_,(Zad (Zao (i:=3) sc_next_state.nd rfl (Or.inl rfl) (Zas Zam (Zas Zam (Zas Zam (pv 0) Zaf (fun _ _=>rfl)) (pv 1) (fun _ _=>rfl)) Zaf (fun _ _=>rfl)))
    (Zad (ZaL Xbs rfl (Zaz (pv 3)) (ZaR rfl (Zai (Zag (i:=4) sc_next_state.nd rfl (Or.inl rfl)) (Zai (Zag (i:=5) sc_next_state.nd rfl (Or.inl rfl)) ZaG))) (Zae (ZaS (Zav Zcf (pv 4) (pv 2) (ZaD _)) (Zae (Zar (pv 5))) Zau)))
    (Zae (Zar Zk4)))),?_⟩
   try dsimp only [cxOf,Cx.nox,Cx.wish]
   refine ⟨_,rfl,Or.inr (Or.inl ⟨t,_,_,.ref a,rfl,rfl,hT,rfl,?_⟩)⟩;refine ⟨_,rfl,Or.inl ⟨a,vs,_,.ref st,rfl,rfl,hS,ZaQ hv,?_⟩⟩;refine Or.inr (Or.inl ⟨st,_,_,.ref g,rfl,rfl,hst,rfl,?_⟩);refine ⟨_,rfl,g,rfl,⟨_,hg⟩,ZaI (xs:=gv) (fun i σ H'=>∃ u4 u5,σ=[some (.ref t),some (.int k),some (.str x),some (.ref g),u4,u5]∧H'=H∧∀ q∈s.1.take i,q.1≠x) ⟨none,none,rfl,rfl,fun q hq=>by simp at hq⟩ (fun i σ H' _ hv_=>by obtain ⟨_,_,_,e,_⟩:=hv_;exact by rw [e];exact hg) ?_ ?_⟩
   · rintro i y σ H2 hy ⟨u4,u5,rfl,rfl,hno⟩
     obtain ⟨p,t',hp,rfl,ht⟩:=hgd.goes_get hy;refine ⟨t',_,rfl,ht,rfl,_,_,rfl,_,_,rfl,rfl,?_⟩;refine ⟨_,rfl,_,rfl,rfl,_,rfl,?_⟩;refine ite2 (fun h1=>?_) (fun h1=>?_)
     · have h1:p.1=x:=V.str.inj (Xa8 h1)
       refine ⟨_,rfl,?_⟩;rw [goN_at hp h1 hno] at q;exact q
     · have h1:p.1≠x:=fun z=>h1 (Xa6 (by rw [z]))
       refine ⟨_,_,rfl,rfl,fun q hq=>?_⟩;rw [Xar,hp] at hq
       rcases Xaf.mp hq with hq | hq
       · exact hno q hq
       · rw [Xaj.mp hq];exact h1
   · rintro σ H2 ⟨u4,u5,rfl,rfl,hno⟩
     rw [lgv,Xas] at hno;rw [Zj7 hno] at q;exact q
variable (P w K mg base) in
abbrev ZcR:Prop:=Zax P w K mg base "next_state" 1 ["table", "state", "label"] (ZeM K)
theorem Zgs (B:Blt mg) (F:Fun K "next_state" "next_state" ZcE f fd) (hm:mg "next_state" = some (.ref f)):ZcR P w K mg base :=
 ⟨f,fd,ZhV B  F,hm,F.kp,F.binds fun _ _ _ _ _ _ us hl=>(by obtain ⟨x0,x1,x2,rfl⟩:=ZgF hl;rfl)⟩
inductive E_inside_of_sort (K:XFg) (vs:List V) (H:Hp) (Q:VK):Prop where
 | mk (t S T R A:Addr) (ths:List (Str×Int)) (as:List (Option (Str×Int))) (n:Int) (k:Nat) (h0:vs=[.ref t,.ref A,.int n]) (h1:n=k) (h2:k<as.length) (h3:SqT K H t [.ref S,.ref T,.ref R]) (h4:Goes K H T ths) (h5:Ans K H A as) (h6:NetOk ths as) (h7:∀ (r:Addr) (H':Hp),H r=none→Same H H'→H' r=some (.tup [.str (ZeA ths as n).1,.int (ZeA ths as n).2])→Q (.ref r) H'):E_inside_of_sort K vs H Q
def Zc9 (K:XFg):Sp:=fun vs H Q _=>E_inside_of_sort K vs H Q
theorem Zfg (B:Blt mg) (F:Fun K "inside_of_sort" "inside_of_sort" ZbF f fd):FnOk P w K mg base CX0 1 f fd ["net", "answers", "question"] (Zc9 K):=by
 refine F.ok sc_inside_of_sort (fun vs H Q E h=>?_) (fun cdv A outer s H vs Q E hr h=>?_)
 · obtain ⟨t,S,T,R,A,ths,as,n,k,rfl,_⟩:=h
   rfl
 · obtain ⟨t,S,T,R,A,ths,as,n,k,rfl,rfl,hk,hT,hG,hA,ok,q⟩:=h
   obtain ⟨vs,v,hA1,hv,hc⟩:=hA.get hk
   refine ⟨_,(Zad (Zao (i:=3) sc_inside_of_sort.nd rfl (Or.inl rfl) (Zas Zam (pv 1) (pv 2) (fun _ _=>rfl)))
    (Zad (ZaS (Zh8 (Zk5 (pv 3))) (Zae (Zar (Zat (Zaa Zaq (Zaa (pv 2) Zab))))) Zau)
    (Zad (ZaS (Zav Zcf (Zas Zam (pv 3) Zaf (fun _ _=>rfl)) Zaq (ZaD _)) (Zad (Zdl (Zas Zam (Zas Zam (pv 0) Zaf (fun _ _=>rfl)) (Zas Zam (pv 3) Zaf (fun _ _=>rfl)) (fun _ _=>rfl)) (ZaR rfl (Zai (Zag (i:=4) sc_inside_of_sort.nd rfl (Or.inl rfl)) (Zai (Zag (i:=5) sc_inside_of_sort.nd rfl (Or.inl rfl)) ZaG))))
     (Zae (ZaS (Zav Zcf (pv 4) Zaq (ZaD _)) (Zae (Zar (Zat (Zaa Zaq (Zaa (pv 5) Zab))))) Zau))) Zau)
    (Zae (Zar (Zat (Zaa Zaq (Zaa Zaf Zab)))))))),?_⟩
   try dsimp only [cxOf,Cx.nox,Cx.wish]
   refine ⟨_,rfl,_,rfl,Or.inl ⟨A,vs,_,v,rfl,rfl,hA1,ZaQ hv,?_⟩⟩;refine g_in ?_;try dsimp only
   rcases hc with ⟨e1,rfl⟩ | ⟨p,ta,e1,rfl,hta⟩
   · refine ⟨_,rfl,_,rfl,ite2 (fun _=>?_) (fun h=>absurd (Xa6 rfl) h)⟩
     refine ⟨_,rfl,ZaF,fun r hr=>?_⟩;rw [ZkD e1] at q;exact q r _ hr (Zak hr) upd_same
   refine ⟨_,rfl,_,rfl,ite2 (fun h=>absurd (Xa8 h) (by simp)) (fun _=>?_)⟩;refine ⟨_,rfl,Or.inr (Or.inl ⟨ta,_,_,.str p.1,rfl,rfl,hta,rfl,rfl,_,rfl,ite2 (fun h=>?_) (fun h=>?_)⟩)⟩
   · have hp:p.1=("thing" : Str):=V.str.inj (Xa8 h)
     obtain ⟨p0,p1⟩:=ok.t p (Xah e1) hp;obtain ⟨m,hm⟩:=Xa4 p0
     have hml:m<ths.length:=by omega
     have hkk:=Xab hml;obtain ⟨tv,th,hT1,hth,sth⟩:=hG.get hkk
     have hat:atI tv p.2=some (.ref th):=by rw [hm];exact ZaQ hth
     refine ⟨_,rfl,Or.inr (Or.inl ⟨t,_,_,.ref T,rfl,rfl,hT,rfl,_,rfl,Or.inr (Or.inl ⟨ta,_,_,.int p.2,rfl,rfl,hta,rfl,Or.inl ⟨T,tv,_,.ref th,rfl,rfl,hT1,hat,?_⟩⟩)⟩)⟩;refine ⟨th,_,rfl,sth,rfl,_,_,rfl,_,_,rfl,rfl,?_⟩;refine ⟨_,rfl,rfl,_,rfl,ite2 (fun h=>?_) (fun h=>?_)⟩
     · have hk1:ths[m].1=("part" : Str):=V.str.inj (Xa8 h)
       refine ⟨_,rfl,ZaF,fun r hr=>?_⟩;rw [ZkE e1 hp hm hkk hk1] at q;exact q r _ hr (Zak hr) upd_same
     · have hk1:ths[m].1≠("part" : Str):=fun z=>h (Xa6 (by rw [z]))
       refine ⟨ZaF,fun r hr=>?_⟩;rw [ZkF e1 hp hm hkk hk1] at q;exact q r _ hr (Zak hr) upd_same
   · have hp:p.1≠("thing" : Str):=fun z=>h (Xa6 (by rw [z]))
     refine ⟨ZaF,fun r hr=>?_⟩;rw [ZmJ e1 hp] at q;exact q r _ hr (Zak hr) upd_same
variable (P w K mg base) in
abbrev ZbI:Prop:=Zax P w K mg base "inside_of_sort" 1 ["net", "answers", "question"] (Zc9 K)
theorem Zes (B:Blt mg) (F:Fun K "inside_of_sort" "inside_of_sort" ZbF f fd) (hm:mg "inside_of_sort" = some (.ref f)):ZbI P w K mg base :=
 ⟨f,fd,Zfg B  F,hm,F.kp,F.binds fun _ _ _ _ _ _ us hl=>(by obtain ⟨x0,x1,x2,rfl⟩:=ZgF hl;rfl)⟩
inductive E_inside (K:XFg) (vs:List V) (H:Hp) (Q:VK):Prop where
 | mk (t S T R A:Addr) (ths:List (Str×Int)) (as:List (Option (Str×Int))) (n:Int) (k:Nat) (p:Str×Int) (h0:vs=[.ref t,.ref A,.int n]) (h1:n=k) (h2:ths[k]?=some p) (h3:SqT K H t [.ref S,.ref T,.ref R]) (h4:Goes K H T ths) (h5:Ans K H A as) (h6:NetOk ths as) (h7:∀ (r:Addr) (H':Hp),H r=none→Same H H'→H' r=some (.tup [.str (Zde ths as p).1,.int (Zde ths as p).2])→Q (.ref r) H'):E_inside K vs H Q
def ZiY (K:XFg):Sp:=fun vs H Q _=>E_inside K vs H Q
theorem Zmc (B:Blt mg) (c_inside_of_sort:ZbI P w K mg base) (F:Fun K "inside" "inside" ZfG f fd):FnOk P w K mg base CX0 2 f fd ["net", "answers", "thing"] (ZiY K):=by
 refine F.ok sc_inside (fun vs H Q E h=>?_) (fun cdv A outer s H vs Q E hr h=>?_)
 · obtain ⟨t,S,T,R,A,ths,as,n,k,p,rfl,_⟩:=h
   rfl
 · obtain ⟨t,S,T,R,A,ths,as,n,k,p,rfl,rfl,hp,hT,hG,hA,ok,q⟩:=h
   obtain ⟨tv,th,hT1,hth,sth⟩:=hG.get hp
   refine ⟨_,(Zad (Zdl (Zas Zam (Zas Zam (pv 0) Zaf (fun _ _=>rfl)) (pv 2) (fun _ _=>rfl)) (ZaR rfl (Zai (Zag (i:=3) sc_inside.nd rfl (Or.inl rfl)) (Zai (Zag (i:=4) sc_inside.nd rfl (Or.inl rfl)) ZaG))))
    (Zad (ZaS (Zav Zcf (pv 3) Zaq (ZaD _)) (Zae (Zar (Zat (Zaa Zaq (Zaa (pv 4) Zab))))) Zau)
    (Zad (ZaS (Zav Zcf (pv 3) Zaq (ZaD _)) (Zae (Zar (ZaC c_inside_of_sort (hr.mono (by decide)) rfl (Zaa (pv 0) (Zaa (pv 1) (Zaa (pv 4) Zab)))))) Zau)
    (Zae (Zar (Zat (Zaa Zaq (Zaa Zaf Zab)))))))),?_⟩
   try dsimp only [cxOf,Cx.nox,Cx.wish]
   refine ⟨_,rfl,Or.inr (Or.inl ⟨t,_,_,.ref T,rfl,rfl,hT,rfl,_,rfl,Or.inl ⟨T,tv,_,.ref th,rfl,rfl,hT1,ZaQ hth,?_⟩⟩)⟩;refine ⟨th,_,rfl,sth,rfl,_,_,rfl,_,_,rfl,rfl,?_⟩;refine ⟨_,rfl,rfl,_,rfl,ite2 (fun h=>?_) (fun h=>?_)⟩
   · have h1:p.1=("part" : Str):=V.str.inj (Xa8 h)
     refine ⟨_,rfl,ZaF,fun r hr=>?_⟩
     rw [show Zde ths as p=(("to" : Str),p.2) from Xbf h1] at q
     exact q r _ hr (Zak hr) upd_same
   have h1:p.1≠("part" : Str):=fun z=>h (Xa6 (by rw [z]))
   refine ⟨_,rfl,rfl,_,rfl,ite2 (fun h=>?_) (fun h=>?_)⟩
   · have h2:p.1=("sort" : Str):=V.str.inj (Xa8 h)
     obtain ⟨p0,p1⟩:=ok.q p (Xah hp) h2;obtain ⟨m,hm⟩:=Xa4 p0;rw [show Zde ths as p=ZeA ths as p.2 from (Xbe h1).trans (Xbf h2)] at q;exact ⟨_,rfl,_,rfl,_,rfl,t,S,T,R,A,ths,as,p.2,m,rfl,hm,by omega,hT,hG,hA,ok,q⟩
   · have h2:p.1≠("sort" : Str):=fun z=>h (Xa6 (by rw [z]))
     refine ⟨ZaF,fun r hr=>?_⟩
     rw [show Zde ths as p=(("no" : Str),0) from (Xbe h1).trans (Xbe h2)] at q
     exact q r _ hr (Zak hr) upd_same
variable (P w K mg base) in
abbrev ZfM:Prop:=Zax P w K mg base "inside" 2 ["net", "answers", "thing"] (ZiY K)
theorem ZjE (B:Blt mg) (c_inside_of_sort:ZbI P w K mg base) (F:Fun K "inside" "inside" ZfG f fd) (hm:mg "inside" = some (.ref f)):ZfM P w K mg base :=
 ⟨f,fd,Zmc B c_inside_of_sort F,hm,F.kp,F.binds fun _ _ _ _ _ _ us hl=>(by obtain ⟨x0,x1,x2,rfl⟩:=ZgF hl;rfl)⟩
inductive E_goal (K:XFg) (vs:List V) (H:Hp) (Q:VK):Prop where
 | mk (t S T R A st:Addr) (ths:List (Str×Int)) (as:List (Option (Str×Int))) (p:Stp) (h0:vs=[.ref t,.ref A,.ref st]) (h1:SqT K H t [.ref S,.ref T,.ref R]) (h2:Goes K H T ths) (h3:Ans K H A as) (h4:NetOk ths as) (h5:SqT K H st (stpV p)) (h6:(p.2.1≠("to" : Str)→0≤p.2.2∧p.2.2<as.length)) (h7:∀ (r:Addr) (H':Hp),H r=none→Same H H'→H' r=some (.tup [.str (Zc0 ths as p).1,.int (Zc0 ths as p).2])→Q (.ref r) H'):E_goal K vs H Q
def Zmd (K:XFg):Sp:=fun vs H Q _=>E_goal K vs H Q
theorem ok_goal (B:Blt mg) (c_inside:ZfM P w K mg base) (F:Fun K "goal" "goal" ZjH f fd):FnOk P w K mg base CX0 3 f fd ["net", "answers", "step"] (Zmd K):=by
 refine F.ok sc_goal (fun vs H Q E h=>?_) (fun cdv A outer s H vs Q E hr h=>?_)
 · obtain ⟨t,S,T,R,A,st,ths,as,p,rfl,_⟩:=h
   rfl
 · obtain ⟨t,S,T,R,A,st,ths,as,p,rfl,hT,hG,hA,ok,hst,hp,q⟩:=h
   refine ⟨_,(Zad (Zdl (pv 2) (ZaR rfl (Zai (Zag (i:=3) sc_goal.nd rfl (Or.inl rfl)) (Zai (Zag (i:=4) sc_goal.nd rfl (Or.inl rfl)) (Zai (Zag (i:=5) sc_goal.nd rfl (Or.inl rfl)) ZaG)))))
    (Zad (ZaS (Zav Zcf (pv 4) Zaq (ZaD _)) (Zae (Zar (Zat (Zaa Zaq (Zaa (pv 5) Zab))))) Zau)
    (Zad (Zao (i:=6) sc_goal.nd rfl (Or.inl rfl) (Zas Zam (pv 1) (pv 5) (fun _ _=>rfl)))
    (Zad (ZaS (Zh8 (Zk5 (pv 6))) (Zae (Zar (Zat (Zaa Zaq (Zaa (pv 5) Zab))))) Zau)
    (Zad (ZaS (Zav Zcf (Zas Zam (pv 6) Zaf (fun _ _=>rfl)) Zaq (ZaD _)) (Zae (Zar (ZaC c_inside (hr.mono (by decide)) rfl (Zaa (pv 0) (Zaa (pv 1) (Zaa (Zas Zam (pv 6) Zaf (fun _ _=>rfl)) Zab)))))) Zau)
    (Zae (Zar (Zat (Zaa Zaq (Zaa Zaf Zab)))))))))),?_⟩
   try dsimp only [cxOf,Cx.nox,Cx.wish]
   refine ⟨_,rfl,st,_,rfl,hst,rfl,_,_,rfl,_,_,rfl,_,_,rfl,rfl,?_⟩;refine ⟨_,rfl,rfl,_,rfl,ite2 (fun h=>?_) (fun h=>?_)⟩
   · have h1:p.2.1=("to" : Str):=V.str.inj (Xa8 h)
     refine ⟨_,rfl,ZaF,fun r hr=>?_⟩;rw [ZmK h1] at q;exact q r _ hr (Zak hr) upd_same
   have h1:p.2.1≠("to" : Str):=fun z=>h (Xa6 (by rw [z]))
   obtain ⟨p0,p1⟩:=hp h1;obtain ⟨n,hn⟩:=Xa4 p0;obtain ⟨vs,v,hA1,hv,hc⟩:=hA.get (k:=n) (by omega)
   have hatn:atI vs p.2.2=some v:=by rw [hn];exact ZaQ hv
   refine ⟨_,rfl,_,rfl,Or.inl ⟨A,vs,_,v,rfl,rfl,hA1,hatn,?_⟩⟩;refine g_in ?_;try dsimp only
   rcases hc with ⟨e1,rfl⟩ | ⟨pa,ta,e1,rfl,hta⟩
   · refine ⟨_,rfl,_,rfl,ite2 (fun _=>?_) (fun h=>absurd (Xa6 rfl) h)⟩
     refine ⟨_,rfl,ZaF,fun r hr=>?_⟩;rw [ZkG h1 hn e1] at q;exact q r _ hr (Zak hr) upd_same
   refine ⟨_,rfl,_,rfl,ite2 (fun h=>absurd (Xa8 h) (by simp)) (fun _=>?_)⟩;refine ⟨_,rfl,Or.inr (Or.inl ⟨ta,_,_,.str pa.1,rfl,rfl,hta,rfl,rfl,_,rfl,ite2 (fun h=>?_) (fun h=>?_)⟩)⟩
   · have hpa:pa.1=("thing" : Str):=V.str.inj (Xa8 h)
     obtain ⟨q0,q1⟩:=ok.t pa (Xah e1) hpa;obtain ⟨m,hm⟩:=Xa4 q0;have hkk:=Xab (show m<ths.length by omega);rw [ZmM h1 hn e1 hpa hm hkk] at q;exact ⟨_,rfl,_,rfl,_,rfl,Or.inr (Or.inl ⟨ta,_,_,.int pa.2,rfl,rfl,hta,rfl,t,S,T,R,A,ths,as,pa.2,m,_,rfl,hm,hkk,hT,hG,hA,ok,q⟩)⟩
   · have hpa:pa.1≠("thing" : Str):=fun z=>h (Xa6 (by rw [z]))
     refine ⟨ZaF,fun r hr=>?_⟩;rw [ZmL h1 hn e1 hpa] at q;exact q r _ hr (Zak hr) upd_same
variable (P w K mg base) in
abbrev Zkr:Prop:=Zax P w K mg base "goal" 3 ["net", "answers", "step"] (Zmd K)
theorem Zme (B:Blt mg) (c_inside:ZfM P w K mg base) (F:Fun K "goal" "goal" ZjH f fd) (hm:mg "goal" = some (.ref f)):Zkr P w K mg base :=
 ⟨f,fd,ok_goal B c_inside F,hm,F.kp,F.binds fun _ _ _ _ _ _ us hl=>(by obtain ⟨x0,x1,x2,rfl⟩:=ZgF hl;rfl)⟩
theorem four_le:([]:List V).length+1+1+1+1≤sizeLine:=by decide
theorem Zmf {W:Wd}{k:Nat}{s:Stt} (h:W.sts[k]?=some s):ZbN W (k:Int)=s.1:=by unfold ZbN;rw [Xa5,h]
theorem ZkX {W:Wd}{k:Nat}{s:Sco} (h:W.ss[k]?=some s):ZaV W (k:Int)=s.1:=by unfold ZaV;rw [Xa5,h]
theorem ZkY {W:Wd}{sc:Int}{go:List (Str×Int)} {p:Stp} {i:Nat} {a:Int} (h:goN go p.1=some a):Zdw W sc go p i=[((sc,("step" : Str),(i:Int)),Zc0 W.gs W.as p,a)]:=by unfold Zdw;rw [h]
theorem ZkZ {W:Wd}{sc:Int}{go:List (Str×Int)} {p:Stp} {i:Nat} (h:goN go p.1=none):Zdw W sc go p i=[]:=by unfold Zdw;rw [h]
inductive E_steps_gone (K:XFg) (vs:List V) (H:Hp) (Q:VK):Prop where
 | mk (nt A t:Addr) (W:Wd) (sc st:Int) (h0:vs=[.ref nt,.ref A,.ref t,.int sc,.int st]) (h1:CaseH K H nt A t W) (h2:WOk W) (h3:(0≤sc∧sc<W.ss.length)) (h4:(0≤st∧st<W.sts.length)) (h5:∀ (D:Addr) (zs:List (Addr×Gn)) (H':Hp),H D=none→Same H H'→H' D=some (.lst (zs.map fun z=>V.ref z.1))→(∀ z∈zs,GnH H' z.1 z.2)→zs.map (·.2)=Zdn W sc st→Q (.ref D) H'):E_steps_gone K vs H Q
def ZeN (K:XFg):Sp:=fun vs H Q _=>E_steps_gone K vs H Q
theorem ZhW (B:Blt mg) (c_next_state:ZcR P w K mg base) (c_goal:Zkr P w K mg base) (F:Fun K "steps_gone" "steps_gone" ZcF f fd):FnOk P w K mg base CX0 4 f fd ["net", "answers", "table", "scope", "state"] (ZeN K):=by
 refine F.ok sc_steps_gone (fun vs H Q E h=>?_) (fun cdv A outer s H vs Q E hr h=>?_)
 · obtain ⟨nt,A,t,W,sc,st,rfl,_⟩:=h
   rfl
 · obtain ⟨nt,A,t,W,sc,st,rfl,hC,ok,hsc,hst,q⟩:=h
   obtain ⟨S,T,R,us,Gs,Es,ts,qt,qs,eN,N3⟩:=hC.net;obtain ⟨a,o,inn,b1,tv,b2,b3⟩:=hC.tab;obtain ⟨n,hn⟩:=Xa4 hsc.1;obtain ⟨k,hk⟩:=Xa4 hst.1;subst hn hk
   have hnl:n<W.ss.length:=by omega
   have hkl:k<W.sts.length:=by omega
   obtain ⟨u,G,E1,g1,g2,g3,g4,⟨c0,⟨tG,c1,c2⟩,_⟩⟩:=N3.sc.get hnl;have hks:=Xab hkl;have eS:=ZkX g4;have eG:=Zmf hks;have hat:atI (us.map V.ref) (n:Int)=some (.ref u):=ZaQ (by rw [Xag,g1];rfl);have st3:=(ok.st _ (Xav hnl)).1
   refine ⟨_,(Zad (Zao (i:=5) sc_steps_gone.nd rfl (Or.inl rfl) (ZaM Zab))
    (Zad (ZaL Xbs rfl (Zjl rfl B.b_enumerate (Zaa (Zas Zam (Zas Zam (Zas Zam (pv 0) Zaf (fun _ _=>rfl)) (pv 3) (fun _ _=>rfl)) Zaf (fun _ _=>rfl)) Zab)) (ZaR rfl (Zai (Zag (i:=6) sc_steps_gone.nd rfl (Or.inl rfl)) (Zai (Zag (i:=7) sc_steps_gone.nd rfl (Or.inl rfl)) ZaG))) (Zad (Zao (i:=8) sc_steps_gone.nd rfl (Or.inl rfl) (ZaC c_next_state (hr.mono (by decide)) rfl (Zaa (pv 2) (Zaa (pv 4) (Zaa (Zas Zam (pv 7) Zaf (fun _ _=>rfl)) Zab)))))
     (Zae (ZaS (Zh8 (Zk6 (pv 8))) (Zad (Zdl (ZaC c_goal (hr.mono (by decide)) rfl (Zaa (pv 0) (Zaa (pv 1) (Zaa (pv 7) Zab)))) (ZaR rfl (Zai (Zag (i:=9) sc_steps_gone.nd rfl (Or.inl rfl)) (Zai (Zag (i:=10) sc_steps_gone.nd rfl (Or.inl rfl)) ZaG))))
      (Zae (ZaB (Zbl Xa9 Xba Xbb Zaw (pv 5) (Zaa (Zat (Zaa (Zat (Zaa (pv 3) (Zaa Zaq (Zaa (pv 6) Zab)))) (Zaa (pv 9) (Zaa (pv 10) (Zaa (pv 8) Zab))))) Zab))))) Zau))))
    (Zae (Zar (pv 5))))),?_⟩
   try dsimp only [cxOf,Cx.nox,Cx.wish]
   refine ⟨by decide,fun D hD=>?_⟩;obtain ⟨H1,qH1,s1,eD1⟩:=new_at (o:=.lst []) hD;rw [←qH1];refine ⟨_,rfl,Or.inr (Or.inl ⟨nt,_,_,.ref S,rfl,rfl,SqT.of (s1 _ _ eN),rfl,_,rfl,Or.inl ⟨S,_,_,.ref u,rfl,rfl,SqL.of (s1 _ _ N3.sc.top),hat,Or.inr (Or.inl ⟨u,_,_,.ref G,rfl,rfl,SqT.of (s1 _ _ c0),rfl,G,rfl,⟨_,s1 _ _ c1⟩,?_⟩)⟩⟩)⟩
   refine Zhz (xs:=tG.map V.ref) (fun i σ H'=>∃ u6 u7 u8 u9 u10 zs,σ=[some (.ref nt),some (.ref A),some (.ref t),some (.int n),some (.int k),some (.ref D),u6,u7,u8,u9,u10]∧Same H H'∧H' D=some (.lst (zs.map fun z:Addr×Gn=>V.ref z.1))∧(∀ z∈zs,GnH H' z.1 z.2)∧zs.map (·.2)=Zc7 W n (ZbN W k) ((ZaV W n).take i) 0)
    ⟨none,none,none,none,none,[],rfl,s1,eD1,fun z hz=>by simp at hz,by rw [Xaz];rfl⟩ (fun i σ H' hv_=>by obtain ⟨_,_,_,_,_,_,_,s,_⟩:=hv_;exact SqL.of (s _ _ c1)) ?_ ?_
   rotate_left
   · rintro σ H2 ⟨u6,u7,u8,u9,u10,zs,rfl,s2,eD2,hz,hm⟩
     refine ⟨_,rfl,q D zs H2 hD s2 eD2 hz ?_⟩;rw [hm,Xaa,c2.len,eS,Xas];unfold Zdn;rw [eS]
   rintro i x T' σ H2 hx hT' ⟨u6,u7,u8,u9,u10,zs,rfl,s2,eD2,hz,hm⟩;obtain ⟨tp,htp,rfl⟩:=getm hx
   have hil:i<W.ss[n].1.length:=by rw [←c2.len];exact (Xae.mp htp).1
   have hp:=Xab hil;have etp:=c2.at_ i tp _ htp hp;have mp:=Xav hil;generalize W.ss[n].1[i]=p at hp etp mp;obtain ⟨H3,qH3,s3,eT'⟩:=new_at (o:=.tup [.int i,.ref tp]) hT';rw [←qH3];have s03:=s2.trans s3
   have etk:Zc7 W n (ZbN W k) ((ZaV W n).take (i+1)) 0=Zc7 W n (ZbN W k) ((ZaV W n).take i) 0++Zdw W n (ZbN W k) p i:=by
    rw [Xar,eS,hp];show Zc7 W n (ZbN W k) (W.ss[n].1.take i++[p]) 0=_;rw [Zg3,Xaw,Nat.zero_add,Nat.min_eq_left (by omega)]
   refine ⟨T',_,rfl,SqT.of eT',rfl,_,_,rfl,_,_,rfl,rfl,?_⟩;refine ⟨_,rfl,_,rfl,_,rfl,Or.inr (Or.inl ⟨tp,_,_,.str p.1,rfl,rfl,SqT.of (s03 _ _ etp),rfl,t,a,o,inn,W.sts,k,k,_,p.1,rfl,rfl,s03.seqT b1,⟨tv,s03.seq b2,b3.same s03⟩,hks,?_⟩)⟩;rw [←eG];refine g_in ?_;try dsimp only
   cases eg:goN (ZbN W k) p.1 with
   | none =>
     refine ⟨_,rfl,_,rfl,ite2 (fun h=>absurd h (by simp [onV])) (fun _=>?_)⟩;refine ⟨_,_,_,_,_,zs,rfl,s03,s3 _ _ eD2,fun z h=>(hz z h).same s3,?_⟩;rw [etk,ZkZ eg,XaH,hm]
   | some af =>
     refine ⟨_,rfl,_,rfl,ite2 (fun _=>?_) (fun h=>absurd (by simp [onV]) h)⟩;refine ⟨_,rfl,_,rfl,_,rfl,nt,S,T,R,A,tp,W.gs,W.as,p,rfl,SqT.of (s03 _ _ eN),⟨_,SqL.of (s03 _ _ N3.et),(N3.tg.same s03).dts⟩,hC.ans.same s03,ok.net,SqT.of (s03 _ _ etp),fun e=>ok.by_ (Xav hnl) mp e,fun r H4 hr s4 er=>?_⟩;refine ⟨r,_,rfl,SqT.of er,rfl,_,_,rfl,_,_,rfl,rfl,?_⟩;have eD4:=s4 _ _ (s3 _ _ eD2);refine ⟨_,rfl,Or.inl ⟨rfl,_,SqL.of eD4⟩,_,rfl,_,rfl,Za1,fun m hm'=>?_⟩
     obtain ⟨H5,qH5,s5,em⟩:=new_at (o:=.tup [.int n,.str "step",.int i]) hm'
     rw [←qH5];refine ⟨_,rfl,_,rfl,_,rfl,four_le,fun z hz'=>?_⟩;obtain ⟨H6,qH6,s6,ez⟩:=new_at (o:=.tup [.ref m,.str (Zc0 W.gs W.as p).1,.int (Zc0 W.gs W.as p).2,onV (some af)]) hz';rw [←qH6];have s36:=(s4.trans s5).trans s6;have eD6:=s36 _ _ (s3 _ _ eD2);have k6:Keeps (·=D) H6 (upd H6 D (.lst (zs.map (fun z=>V.ref z.1)++[.ref z]))):=Keeps.one eD6
     have lz:zs.length≤3:=by
      have e1:=Xbk List.length hm;have e2:=Zcs W n (ZbN W k) ((ZaV W n).take i) 0;rw [Xaw,eS] at e2;rw [Xaa] at e1;rw [eS] at e1;omega
     refine ⟨D,_,_,rfl,rfl,eD6,by rw [Xaa];exact Zal (by omega),?_⟩
     refine ⟨_,_,_,_,_,zs++[(z,(((n:Int),("step" : Str),(i:Int)),Zc0 W.gs W.as p,af))],rfl,fun b o e=>?_,by rw [upd_same,Xad];rfl,fun y hy=>?_,?_⟩
     · rw [Zah (Zac e hD)];exact s36 _ _ (s03 _ _ e)
     · rcases Xaf.mp hy with hy | hy
       · exact ((hz y hy).same (s3.trans s36)).keeps k6
       · rw [Xaj.mp hy]
         exact ⟨m,k6.tup ez,k6.tup (s6 _ _ em)⟩
     · rw [etk,ZkY eg,Xad,hm];rfl
variable (P w K mg base) in
abbrev ZbL:Prop:=Zax P w K mg base "steps_gone" 4 ["net", "answers", "table", "scope", "state"] (ZeN K)
theorem Zgt (B:Blt mg) (c_next_state:ZcR P w K mg base) (c_goal:Zkr P w K mg base) (F:Fun K "steps_gone" "steps_gone" ZcF f fd) (hm:mg "steps_gone" = some (.ref f)):ZbL P w K mg base :=
 ⟨f,fd,ZhW B c_next_state c_goal F,hm,F.kp,F.binds fun _ _ _ _ _ _ us hl=>(by obtain ⟨x0,x1,x2,x3,x4,rfl⟩:=ZkP hl;rfl)⟩
theorem Zm6 {b:Beg}{r:Gn} (h1:r.2.1.1=("to" : Str)) (h2:r.2.1.2 ∉ been b):kid b r=some (b.1++[r.1],r.2.1.2,r.2.2):=Xbf ⟨h1,h2⟩
theorem Zm7 {b:Beg}{r:Gn} (h:¬(r.2.1.1=("to" : Str)∧r.2.1.2 ∉ been b)):kid b r=none:=Xbe h
theorem fm_snoc {α β:Type} (f:α→Option β) (l:List α) (x:α):(l++[x]).filterMap f=l.filterMap f++(f x).toList:=by
 rw [List.filterMap_append]
 cases e:f x <;> simp [e]
theorem Zm8 (b:Beg):(been b).length=b.1.length+1:=by unfold been;simp
inductive E_longer_by_a_step (K:XFg) (vs:List V) (H:Hp) (Q:VK):Prop where
 | mk (nt A t bt:Addr) (W:Wd) (b:Beg) (h0:vs=[.ref nt,.ref A,.ref t,.ref bt]) (h1:CaseH K H nt A t W) (h2:WOk W) (h3:BegOk W b) (h4:(∃ F,BgH F H bt b)) (h5:∀ (D:Addr) (zs:List (Addr×Beg)) (H':Hp),H D=none→Same H H'→H' D=some (.lst (zs.map fun z=>V.ref z.1))→(∀ z∈zs,BgH (fun l=>H l=none∧l≠D) H' z.1 z.2)→zs.map (·.2)=kids W b→Q (.ref D) H'):E_longer_by_a_step K vs H Q
def ZcA (K:XFg):Sp:=fun vs H Q _=>E_longer_by_a_step K vs H Q
theorem Zet (B:Blt mg) (c_steps_gone:ZbL P w K mg base) (F:Fun K "longer_by_a_step" "longer_by_a_step" ZaY f fd):FnOk P w K mg base CX0 5 f fd ["net", "answers", "table", "beginning"] (ZcA K):=by
 refine F.ok sc_longer_by_a_step (fun vs H Q E h=>?_) (fun cdv A outer s H vs Q E hr h=>?_)
 · obtain ⟨nt,A,t,bt,W,b,rfl,_⟩:=h
   rfl
 · obtain ⟨nt,A,t,bt,W,b,rfl,hC,ok,hb,⟨F,l,ms,e1,e2,e3,_⟩,q⟩:=h
   have hml:ms.length≤5:=by
    have:=Zb5 W.ss.length (been b) hb.nd hb.rng
    rw [Zm8] at this
    have:=ok.s5
    rw [e3.len];omega
   have hsc:=hb.rng b.2.1 (by unfold been;simp)
   refine ⟨_,(Zad (Zdl (pv 3) (ZaR rfl (Zai (Zag (i:=4) sc_longer_by_a_step.nd rfl (Or.inl rfl)) (Zai (Zag (i:=5) sc_longer_by_a_step.nd rfl (Or.inl rfl)) (Zai (Zag (i:=6) sc_longer_by_a_step.nd rfl (Or.inl rfl)) ZaG)))))
    (Zad (Zao (i:=7) sc_longer_by_a_step.nd rfl (Or.inl rfl) (Zap ZgX (ZcY (te:=tOp (rIx K) (tVar 0) (tC (.int ((0:Nat):Int)))) rfl longer_by_a_step_cs1 (Zaz (pv 4)) (fun _ _ _ _ _=>(Zag (i:=0) longer_by_a_step_cs1.nd rfl (Or.inl rfl))) (fun _ _ _ _ _=>ZcL) (fun _ _ _ _ _=>(Zas Zam (pv 0) Zaf (fun _ _=>rfl)))) (ZaM (Zaa (pv 5) Zab))))
    (Zad (Zao (i:=8) sc_longer_by_a_step.nd rfl (Or.inl rfl) (ZaM Zab))
    (Zad (ZaL Xbs rfl (Zaz (ZaC c_steps_gone (hr.mono (by decide)) rfl (Zaa (pv 0) (Zaa (pv 1) (Zaa (pv 2) (Zaa (pv 5) (Zaa (pv 6) Zab))))))) (ZaR rfl (Zai (Zag (i:=9) sc_longer_by_a_step.nd rfl (Or.inl rfl)) (Zai (Zag (i:=10) sc_longer_by_a_step.nd rfl (Or.inl rfl)) (Zai (Zag (i:=11) sc_longer_by_a_step.nd rfl (Or.inl rfl)) (Zai (Zag (i:=12) sc_longer_by_a_step.nd rfl (Or.inl rfl)) ZaG))))) (Zae (ZaS (PW.pt (pw_and (Zav Zcf (pv 10) Zaq (ZaD _)) (Zk7 (Zav (Zir hr.units) (pv 11) (pv 7) (by with_unfolding_all rfl))))) (Zae (ZaB (Zbl Xa9 Xba Xbb Zaw (pv 8) (Zaa (Zat (Zaa (Zap ZgX (pv 4) (ZaM (Zaa (pv 9) Zab))) (Zaa (pv 11) (Zaa (pv 12) Zab)))) Zab)))) Zau)))
    (Zae (Zar (pv 8))))))),?_⟩
   try dsimp only [cxOf,Cx.nox,Cx.wish]
   refine ⟨_,rfl,bt,_,rfl,SqT.of e1,rfl,_,_,rfl,_,_,rfl,_,_,rfl,rfl,?_⟩
   refine ⟨_,rfl,l,rfl,⟨_,SqL.of e2⟩,Za3 (xs:=ms.map V.ref) (fun D i ys H'=>Same H H'∧H' D=some (.lst ys)∧ys=(b.1.take i).map fun m=>V.int m.1)
    (fun D hD=>⟨Zak hD,upd_same,by rw [Xaz];rfl⟩) (fun D i ys H' hv_=>by obtain ⟨s,_⟩:=hv_;exact SqL.of (s _ _ e2)) (fun D i x ys H2 RR hD hx hv k=>?_) (fun C ys H1 hC0 hv=>?_)⟩
   · obtain ⟨s2,eD,rfl⟩:=hv
     obtain ⟨tm,htm,rfl⟩:=getm hx
     have hil:i<b.1.length:=by rw [←e3.len];exact (Xae.mp htm).1
     have hm:=Xab hil;have etm:=e3.at_ i tm _ htm hm
     have etk:b.1.take (i+1)=b.1.take i++[b.1[i]]:=by rw [Xar,hm];rfl
     have hl5:=e3.len;refine ⟨_,rfl,Or.inr (Or.inl ⟨tm,_,_,.int b.1[i].1,rfl,rfl,SqT.of (s2 _ _ etm),rfl,?_⟩)⟩;refine k _ _ eD (by rw [Xaa,Xaw];exact Zal (by omega)) ⟨fun x o e=>?_,upd_same,by rw [etk,Xad];rfl⟩;rw [Zah (Zac e hD)];exact s2 _ _ e
   obtain ⟨s1,eC,rfl⟩:=hv;rw [Xaa,e3.len,Xas] at eC;refine ⟨_,rfl,ZgZ,fun C2 hC2=>?_⟩;obtain ⟨H2,qH2,s2,eC2⟩:=new_at (o:=.lst [.int b.2.1]) hC2;rw [←qH2];have hl5:=e3.len;refine ⟨C,C2,_,_,rfl,rfl,s2 _ _ eC,eC2,?_,fun B hB=>?_⟩
   · rw [Xaa]
     exact XaY (Zal (by show b.1.length+1≤1000;omega))
   have s3:=Zak (o:=.lst ((b.1.map fun m=>V.int m.1)++[.int b.2.1])) hB
   have eB:(upd H2 B (.lst ((b.1.map fun m=>V.int m.1)++[.int b.2.1]))) B=some (.lst ((been b).map V.int)):=by
    rw [upd_same];unfold been
    simp
   generalize upd H2 B (.lst ((b.1.map fun m=>V.int m.1)++[.int b.2.1]))=H3 at s3 eB ⊢;have s03:=(s1.trans s2).trans s3;refine g_in ?_;try dsimp only
   refine ⟨by decide,fun D hD=>?_⟩;have hDH:H D=none:=s03.free hD;obtain ⟨H4,qH4,s4,eD4⟩:=new_at (o:=.lst []) hD;rw [←qH4];have s04:=s03.trans s4;refine ⟨_,rfl,_,rfl,_,rfl,_,rfl,_,rfl,nt,A,t,W,b.2.1,b.2.2,rfl,hC.same s04,ok,hsc,hb.st,fun G gz H5 hG s5 eG hgz hgm=>⟨G,rfl,⟨_,SqL.of eG⟩,?_⟩⟩;have s05:=s04.trans s5
   have lgz:gz.length≤3:=by
    have e1:=Xbk List.length hgm;have e2:=Zcs W b.2.1 (ZbN W b.2.2) (ZaV W b.2.1) 0;have e3:=Zg4 ok b.2.1
    have e4:bOf W≤3:=by unfold bOf;split <;> omega
    rw [Xaa] at e1;unfold Zdn at e1;omega
   refine ZaI (xs:=gz.map fun z=>V.ref z.1) (fun i σ H'=>∃ u9 u10 u11 u12 zs,σ=[some (.ref nt),some (.ref A),some (.ref t),some (.ref bt),some (.ref l),some (.int b.2.1),some (.int b.2.2),some (.ref B),some (.ref D),u9,u10,u11,u12]∧Keeps (·=D) H5 H'∧H' D=some (.lst (zs.map fun z:Addr×Beg=>V.ref z.1))∧(∀ z∈zs,BgH (fun l=>H l=none∧l≠D) H' z.1 z.2)∧zs.map (·.2)=((gz.map (·.2)).take i).filterMap (kid b))
    ⟨none,none,none,none,[],rfl,Keeps.refl fun x o m e=>by rw [m,s5 _ _ eD4] at e;exact ⟨_,(Xbd e).symm⟩,s5 _ _ eD4,fun z hz=>by simp at hz,by rw [Xaz];rfl⟩ (fun i σ H' _ hv_=>by obtain ⟨_,_,_,_,_,_,k,_⟩:=hv_;exact SqL.of (k.at_ _ _ eG fun z=>by rw [z,eD4] at hG;cases hG)) ?_ ?_
   rotate_left
   · rintro σ H6 ⟨u9,u10,u11,u12,zs,rfl,k6,eD6,hz,hm⟩
     refine ⟨_,rfl,q D zs H6 hDH (fun x o e=>?_) eD6 hz ?_⟩
     · exact k6.at_ _ _ (s05 _ _ e) (Zac e hDH)
     · rw [hm,Xaa,←Xaa (f:=(·.2)),Xas,hgm];rfl
   rintro i x σ H6 hx ⟨u9,u10,u11,u12,zs,rfl,k6,eD6,hz,hm⟩;obtain ⟨z,hz0,rfl⟩:=getm hx;obtain ⟨m,em1,em2⟩:=hgz z (Xah hz0);have em1:=k6.tup em1;have em2:=k6.tup em2
   have etk:((gz.map (·.2)).take (i+1)).filterMap (kid b)=((gz.map (·.2)).take i).filterMap (kid b)++(kid b z.2).toList:=by
    rw [Xar,Xag,hz0];exact fm_snoc _ _ _
   have lz:zs.length≤3:=by
    have e1:=Xbk List.length hm;have e2:=List.length_filterMap_le (kid b) ((gz.map (·.2)).take i);rw [Xaw,Xaa] at e2;rw [Xaa] at e1;omega
   refine ⟨z.1,_,rfl,SqT.of em1,rfl,_,_,rfl,_,_,rfl,_,_,rfl,_,_,rfl,rfl,?_⟩
   have skip:¬(z.2.2.1.1=("to" : Str)∧z.2.2.1.2 ∉ been b)→zs.map (·.2)=((gz.map (·.2)).take (i+1)).filterMap (kid b):=fun hn=>by
    rw [etk,Zm7 hn,hm];simp
   have eB6:=k6.at_ _ _ ((s4.trans s5) _ _ eB) (fun z=>by rw [z,hD] at eB;cases eB);refine ⟨_,rfl,rfl,_,rfl,ite2 (fun h1=>?_) (fun h1=>iteF ?_)⟩;rotate_left
   · exact ⟨_,_,_,_,zs,rfl,k6,eD6,hz,skip fun h=>h1 (Xa6 (by rw [h.1]))⟩
   have h1:z.2.2.1.1=("to" : Str):=V.str.inj (Xa8 h1)
   refine ⟨_,rfl,_,rfl,2,.int z.2.2.1.2,(been b).map Dt.int,B,_,fun d hd=>?_,by decide,.int _,rfl,SqL.of eB6,Zkd _,_,rfl,ite2 (fun h2=>?_) (fun h2=>?_)⟩
   · obtain ⟨y,_,rfl⟩:=Xai.mp hd
     exact .int _ _
   rotate_left
   · refine ⟨_,_,_,_,zs,rfl,k6,eD6,hz,skip fun h=>h2 ?_⟩
     rw [ZaP fun z=>h.2 (ints_in.mp z)];rfl
   have h2:z.2.2.1.2 ∉ been b:=fun z=>by
    rw [ZaH (ints_in.mpr z)] at h2;cases h2
   have el6:=k6.at_ _ _ (s05 _ _ e2) (Zac e2 hDH);refine ⟨_,rfl,Or.inl ⟨rfl,_,SqL.of eD6⟩,_,rfl,_,rfl,ZgZ,fun M hM=>?_⟩;obtain ⟨H7,qH7,s7,eM⟩:=new_at (o:=.lst [.ref m]) hM;rw [←qH7];refine ⟨l,M,_,_,rfl,rfl,s7 _ _ el6,eM,by rw [Xaa];exact XaY (Zal (by show ms.length+1≤1000;omega)),fun L hL=>?_⟩
   have hLH:H L=none:=by
    have h6:=s7.free hL
    cases e:H L with
    | none=>rfl
    | some o=>rw [k6.at_ _ _ (s05 _ _ e) (Zac e hDH)] at h6;cases h6
   have nLD:L≠D:=fun y=>by rw [y,s7 _ _ eD6] at hL;cases hL
   have s8:=Zak (o:=.lst (ms.map V.ref++[.ref m])) hL
   have eL:(upd H7 L (.lst (ms.map V.ref++[.ref m]))) L=some (.lst ((ms++[m]).map V.ref)):=by rw [upd_same,Xad];rfl
   generalize upd H7 L (.lst (ms.map V.ref++[.ref m]))=H8 at s8 eL ⊢;refine ⟨_,rfl,_,rfl,Za1,fun r hr=>?_⟩;obtain ⟨H9,qH9,s9,er⟩:=new_at (o:=.tup [.ref L,.int z.2.2.1.2,.int z.2.2.2]) hr;rw [←qH9];have s69:=(s7.trans s8).trans s9;have eD9:=s69 _ _ eD6;have k9:Keeps (·=D) H9 (upd H9 D (.lst (zs.map (fun z=>V.ref z.1)++[.ref r]))):=Keeps.one eD9;refine ⟨D,_,_,rfl,rfl,eD9,by rw [Xaa];exact Zal (by omega),?_⟩;refine ⟨_,_,_,_,zs++[(r,(b.1++[z.2.1],z.2.2.1.2,z.2.2.2))],rfl,⟨fun x o e n=>?_,k6.ls⟩,by rw [upd_same,Xad];rfl,fun y hy=>?_,?_⟩
   · rw [Zah n];exact s69 _ _ (k6.at_ x o e n)
   · rcases Xaf.mp hy with hy | hy
     · exact ((hz y hy).same s69).keeps k9 fun x hx=>hx.2
     · rw [Xaj.mp hy]
       refine ⟨L,ms++[m],k9.tup er,k9.at_ _ _ (s9 _ _ eL) nLD,?_,hLH,nLD⟩;refine RT.snoc ?_ (k9.tup ((s69) _ _ em2));exact ((e3.same s05).keeps k6 |>.same s69).keeps k9
   · rw [etk,Zm6 h1 h2,Xad,hm];rfl
variable (P w K mg base) in
abbrev Zbk:Prop:=Zax P w K mg base "longer_by_a_step" 5 ["net", "answers", "table", "beginning"] (ZcA K)
theorem ZdI (B:Blt mg) (c_steps_gone:ZbL P w K mg base) (F:Fun K "longer_by_a_step" "longer_by_a_step" ZaY f fd) (hm:mg "longer_by_a_step" = some (.ref f)):Zbk P w K mg base :=
 ⟨f,fd,Zet B c_steps_gone F,hm,F.kp,F.binds fun _ _ _ _ _ _ us hl=>(by obtain ⟨x0,x1,x2,x3,rfl⟩:=ZhK hl;rfl)⟩
inductive E_beginnings (K:XFg) (vs:List V) (H:Hp) (Q:VK):Prop where
 | mk (nt A t:Addr) (W:Wd) (sc st:Int) (h0:vs=[.ref nt,.ref A,.ref t,.int sc,.int st]) (h1:CaseH K H nt A t W) (h2:WOk W) (h3:(0≤sc∧sc<W.ss.length)) (h4:(0≤st∧st<W.sts.length)) (h5:∀ (D:Addr) (zs:List (Addr×Beg)) (H':Hp),H D=none→Same H H'→H' D=some (.lst (zs.map fun z=>V.ref z.1))→(∀ z∈zs,BgH (fun l=>H l=none∧l≠D) H' z.1 z.2)→Begs W sc st (zs.map (·.2))→Q (.ref D) H'):E_beginnings K vs H Q
def ZeO (K:XFg):Sp:=fun vs H Q _=>E_beginnings K vs H Q
theorem ZhX (B:Blt mg) (c_longer_by_a_step:Zbk P w K mg base) (F:Fun K "beginnings" "beginnings" ZcG f fd):FnOk P w K mg base CX0 6 f fd ["net", "answers", "table", "scope", "state"] (ZeO K):=by
 refine F.ok sc_beginnings (fun vs H Q E h=>?_) (fun cdv A outer s H vs Q E hr h=>?_)
 · obtain ⟨nt,A,t,W,sc,st,rfl,_⟩:=h
   rfl
 · obtain ⟨nt,A,t,W,sc,st,rfl,hC,ok,hsc,hst,q⟩:=h
   refine ⟨_,(Zad (Zao (i:=5) sc_beginnings.nd rfl (Or.inl rfl) (ZaM (Zaa (Zat (Zaa (ZaM Zab) (Zaa (pv 3) (Zaa (pv 4) Zab)))) Zab)))
    (Zad (Zao (i:=6) sc_beginnings.nd rfl (Or.inl rfl) Zaf)
    (Zad (ZjL Xbs (Zav Zib (pv 6) (Zan Zay (by rfl) B.b_len (by decide +kernel) (Zaa (pv 5) Zab)) (ZaD _)) (Zad (ZaB (Zbl Xa9 PySem.F.slot_list_extend PySem.F.type_list_extend ZfT (pv 5) (Zaa (ZaC c_longer_by_a_step (hr.mono (by decide)) rfl (Zaa (pv 0) (Zaa (pv 1) (Zaa (pv 2) (Zaa (Zas Zam (pv 5) (pv 6) (fun _ _=>rfl)) Zab))))) Zab)))
     (Zad (ZaS (Zav Zhk (Zan Zay (by rfl) B.b_len (by decide +kernel) (Zaa (pv 5) Zab)) (ZeV (v:=.int 200) rfl (Classical.choose_spec B.c_MOST_BEGINNINGS) ⟨_,rfl⟩) (ZaD _)) (Zae ZbG) Zau)
     (Zae (ZfZ (i:=6) sc_beginnings.nd rfl (Or.inl rfl) Zaf Zla)))))
    (Zae (Zar (Zan (Zjo mkE intE intE hr.units (by decide) (by decide) (by decide)) (by rfl) B.b_sorted (by decide +kernel) (Zaa (pv 5) Zab))))))),?_⟩
   try dsimp only [cxOf,Cx.nox,Cx.wish]
   refine ⟨by decide,fun l hl=>?_⟩;obtain ⟨H1,qH1,s1,el⟩:=new_at (o:=.lst []) hl;rw [←qH1];refine ⟨_,rfl,_,rfl,Za1,fun r hr=>?_⟩;obtain ⟨H2,qH2,s2,er⟩:=new_at (o:=.tup [.ref l,.int sc,.int st]) hr;rw [←qH2];refine ⟨ZgZ,fun D hD=>?_⟩;have s02:=s1.trans s2;have hDH:H D=none:=s02.free hD;have nlD:l≠D:=Zac (s2 _ _ el) hD;obtain ⟨H3,qH3,s3,eD3⟩:=new_at (o:=.lst [.ref r]) hD;rw [←qH3];have s03:=s02.trans s3;refine g_in ?_;try dsimp only
   refine Zhp ?_;try dsimp only
   have cap:=(ZlL ok).1;refine Zdd (fun σ' H'=>∃ (u6:V) (zs:List (Addr×Beg)),σ'=[some (.ref nt),some (.ref A),some (.ref t),some (.int sc),some (.int st),some (.ref D),some u6]∧Same H H'∧H' D=some (.lst (zs.map fun z=>V.ref z.1))∧(∀ z∈zs,BgH (fun l=>H l=none∧l≠D) H' z.1 z.2)∧Bfs W sc st (zs.map fun z:Addr×Beg=>z.2) (zs.map fun z:Addr×Beg=>z.2).length) ?_ (fun N hN=>?_)
   · rintro σ' H4 ⟨u6,zs,rfl,s4,eD4,hz,hB⟩
     have hf:=hB.few;rw [Xaa] at hf;refine ⟨_,rfl,D,zs.map fun z=>(V.ref z.1,z.2),rfl,?_,by rw [Xaa];omega,fun y hy=>?_,fun D2 zs' hp hs hD2=>?_⟩
     · rw [Xax];exact SqL.of eD4
     · obtain ⟨z,hz',rfl⟩:=Xai.mp hy
       exact (hz z hz').dt
     have s5:=Zak (o:=.lst (zs'.map (·.1))) hD2
     obtain ⟨ws,rfl⟩:∃ ws:List (Addr×Beg),zs'=ws.map fun z=>(V.ref z.1,z.2):=by
      have:∀ {l:List (RowE begE)},(∀ y∈l,y∈zs.map fun z=>((V.ref z.1,z.2):RowE begE))→∃ ws:List (Addr×Beg),l=ws.map fun z=>(V.ref z.1,z.2):=by
       intro l
       induction l with
       | nil=>exact fun _=>⟨[],rfl⟩
       | cons y l ih =>
         intro h;obtain ⟨ws,rfl⟩:=ih fun z hz=>h z (Xap _ hz);obtain ⟨z,_,rfl⟩:=Xai.mp (h y Xal);exact ⟨z :: ws,rfl⟩
      exact this fun y hy=>hp.mem_iff.mp hy
     have e2:(ws.map fun z=>((V.ref z.1,z.2):RowE begE)).map (·.2)=ws.map (·.2):=by rw [Xax];rfl
     have e1:(ws.map fun z=>((V.ref z.1,z.2):RowE begE)).map (·.1)=ws.map fun z=>V.ref z.1:=by rw [Xax];rfl
     have hp2:(ws.map (·.2)).Perm (zs.map (·.2)):=by
      have:=hp.map (·.2)
      rwa [e2,Xax] at this
     rw [e2] at hs;rw [e1] at s5 ⊢
     have nm:∀ z∈ws,z∈zs:=fun z hz'=>by
      have:=hp.mem_iff.mp (Xai.mpr ⟨z,hz',rfl⟩)
      obtain ⟨y,hy,e⟩:=Xai.mp this
      injection e with e1 e2
      have:y=z:=Prod.ext (V.ref.inj e1) e2
      rw [←this];exact hy
     refine q D2 ws _ (s4.free hD2) (s4.trans s5) upd_same (fun z hz'=>?_) (hB.all hp2 hs);refine ((hz z (nm z hz')).mono' ?_).same s5;intro x o ex hx;exact ⟨hx.1,fun y=>by rw [y,hD2] at ex;cases ex⟩
   refine ⟨fun m σ H'=>∃ (p:Nat) (zs:List (Addr×Beg)),σ=[some (.ref nt),some (.ref A),some (.ref t),some (.int sc),some (.int st),some (.ref D),some (.int p)]∧Same H H'∧H' D=some (.lst (zs.map fun z=>V.ref z.1))∧(∀ z∈zs,BgH (fun l=>H l=none∧l≠D) H' z.1 z.2)∧Bfs W sc st (zs.map fun z:Addr×Beg=>z.2) p∧m=31 - p,⟨_,0,[(r,([],sc,st))],rfl,s03,eD3,fun z hz=>?_,Bfs.start W sc st,rfl⟩,?_⟩
   · rw [Xaj.mp hz]
     exact ⟨l,[],s3 _ _ er,(s2.trans s3) _ _ el,RT.nil,hl,nlD⟩
   rintro m σ H4 ⟨p,zs,rfl,s4,eD4,hz,hB,em⟩;have hf:=hB.few;have hle:=hB.le;rw [Xaa] at hf hle;refine ⟨_,rfl,_,rfl,_,_,rfl,Or.inl ⟨_,SqL.of eD4,rfl⟩,_,_,rfl,rfl,_,rfl,?_⟩
   by_cases hlt:p<zs.length
   rotate_left
   · have ep:p=zs.length:=by omega
     rw [Xa7 (by rw [Xaa];omega)];refine iteF (hN _ _ ⟨_,zs,rfl,s4,eD4,hz,?_⟩);rw [Xaa,←ep];exact hB
   rw [Xa6 (by rw [Xaa];omega)];refine iteT ?_;have hzp:=Xab hlt
   have hbp:(zs.map (·.2))[p]?=some zs[p].2:=by rw [Xag,hzp];rfl
   have hBn:=hB.turn ok hsc hst hbp;have ib:=(hB.is _ (Xah hbp)).ok ok hsc hst;refine ⟨fun σ' H'=>∃ (zs':List (Addr×Beg)),σ'=[some (.ref nt),some (.ref A),some (.ref t),some (.int sc),some (.int st),some (.ref D),some (.int ((p+1:Nat):Int))]∧Same H H'∧H' D=some (.lst (zs'.map fun z=>V.ref z.1))∧(∀ z∈zs',BgH (fun l=>H l=none∧l≠D) H' z.1 z.2)∧Bfs W sc st (zs'.map fun z:Addr×Beg=>z.2) (p+1),?_,?_⟩
   · rintro σ' H' ⟨zs',rfl,s5,eD5,hz5,hB5⟩
     exact ⟨_,by omega,p+1,zs',rfl,s5,eD5,hz5,hB5,rfl⟩
   have hat:atI (zs.map fun z=>V.ref z.1) (p:Int)=some (.ref zs[p].1):=ZaQ (by rw [Xag,hzp];rfl);refine ⟨_,rfl,Or.inl ⟨rfl,_,SqL.of eD4⟩,_,rfl,_,rfl,_,rfl,_,rfl,_,rfl,Or.inl ⟨D,_,_,.ref zs[p].1,rfl,rfl,SqL.of eD4,hat,nt,A,t,zs[p].1,W,zs[p].2,rfl,hC.same s4,ok,ib,⟨_,hz _ (Xav hlt)⟩,fun D2 ks H5 hD2 s5 eD2 hks hkm=>?_⟩⟩
   have hkl:ks.length≤3:=by
    have e1:=Xbk List.length hkm;have e2:=Zj9 W zs[p].2;have e3:=Zg4 ok zs[p].2.2.1
    have e4:bOf W≤3:=by unfold bOf;split <;> omega
    rw [Xaa] at e1;omega
   have eD5:=s5 _ _ eD4;have k5:Keeps (·=D) H5 (upd H5 D (.lst (zs.map (fun z=>V.ref z.1)++ks.map fun z=>V.ref z.1))):=Keeps.one eD5;refine ⟨D,D2,_,_,rfl,rfl,eD5,eD2,by rw [Xaa,Xaa];exact XaY (Zal (by omega)),?_⟩;have few2:=hBn.few;rw [←hkm,←Xad,Xaa] at few2;rw [←hkm,←Xad] at hBn
   have eDn:(upd H5 D (.lst (zs.map (fun z=>V.ref z.1)++ks.map fun z=>V.ref z.1))) D=some (.lst ((zs++ks).map fun z=>V.ref z.1)):=by rw [upd_same,Xad]
   have sn:Same H (upd H5 D (.lst (zs.map (fun z=>V.ref z.1)++ks.map fun z=>V.ref z.1))):=fun b o e=>by
    rw [Zah (Zac e hDH)];exact s5 _ _ (s4 _ _ e)
   have hzn:∀ z∈zs++ks,BgH (fun l=>H l=none∧l≠D) (upd H5 D (.lst (zs.map (fun z=>V.ref z.1)++ks.map fun z=>V.ref z.1))) z.1 z.2:=fun z h=>by
    rcases Xaf.mp h with h | h
    · exact ((hz z h).same s5).keeps k5 fun x hx=>hx.2
    · refine ((hks z h).mono fun x hx=>⟨s4.free hx.1,?_⟩).keeps k5 fun x hx=>hx.2
      intro y;rw [y,eD4] at hx;cases hx.1
   generalize upd H5 D (.lst (zs.map (fun z=>V.ref z.1)++ks.map fun z=>V.ref z.1))=H6 at eDn sn hzn ⊢;refine ⟨_,rfl,_,_,rfl,Or.inl ⟨_,SqL.of eDn,rfl⟩,_,_,rfl,rfl,_,rfl,?_⟩;rw [Xa7 (by rw [Xaa];omega)];refine iteF ?_;refine ⟨_,rfl,_,_,rfl,rfl,zs++ks,?_,sn,eDn,hzn,hBn⟩
   simp
variable (P w K mg base) in
abbrev ZbM:Prop:=Zax P w K mg base "beginnings" 6 ["net", "answers", "table", "scope", "state"] (ZeO K)
theorem Zgu (B:Blt mg) (c_longer_by_a_step:Zbk P w K mg base) (F:Fun K "beginnings" "beginnings" ZcG f fd) (hm:mg "beginnings" = some (.ref f)):ZbM P w K mg base :=
 ⟨f,fd,ZhX B c_longer_by_a_step F,hm,F.kp,F.binds fun _ _ _ _ _ _ us hl=>(by obtain ⟨x0,x1,x2,x3,x4,rfl⟩:=ZkP hl;rfl)⟩
inductive E_found_ways (K:XFg) (vs:List V) (H:Hp) (Q:VK):Prop where
 | mk (nt A t:Addr) (x:Str) (W:Wd) (sc st:Int) (h0:vs=[.ref nt,.ref A,.ref t,.int sc,.int st,.str x]) (h1:CaseH K H nt A t W) (h2:WOk W) (h3:(0≤sc∧sc<W.ss.length)) (h4:(0≤st∧st<W.sts.length)) (h5:∀ (D2:Addr) (bs:List Beg) (ws:List (Addr×List Mrk)) (H':Hp),H D2=none→Same H H'→H' D2=some (.lst (ws.map fun z=>V.ref z.1))→(∀ z∈ws,WyH (fun l=>H l=none∧l≠D2) H' z.1 z.2)→Begs W sc st bs→Fnd W x bs (ws.map (·.2))→Q (.ref D2) H'):E_found_ways K vs H Q
def ZeP (K:XFg):Sp:=fun vs H Q _=>E_found_ways K vs H Q
theorem ZhY (B:Blt mg) (c_found_behind:Zb2 P w K mg base) (c_beginnings:ZbM P w K mg base) (F:Fun K "found_ways" "found_ways" ZcH f fd):FnOk P w K mg base CX0 7 f fd ["net", "answers", "table", "scope", "state", "name"] (ZeP K):=by
 refine F.ok ZhI (fun vs H Q E h=>?_) (fun cdv A outer s H vs Q E hr h=>?_)
 · obtain ⟨nt,A,t,x,W,sc,st,rfl,_⟩:=h
   rfl
 · obtain ⟨nt,A,t,x,W,sc,st,rfl,hC,ok,hsc,hst,q⟩:=h
   refine ⟨_,(Zae (Zar (ZaC c_found_behind (hr.mono (by decide)) rfl (Zaa (pv 0) (Zaa (pv 2) (Zaa (ZaC c_beginnings (hr.mono (by decide)) rfl (Zaa (pv 0) (Zaa (pv 1) (Zaa (pv 2) (Zaa (pv 3) (Zaa (pv 4) Zab)))))) (Zaa (pv 5) Zab))))))),?_⟩;try dsimp only [cxOf,Cx.nox,Cx.wish]
   refine ⟨_,rfl,_,rfl,_,rfl,_,rfl,_,rfl,_,rfl,_,rfl,nt,A,t,W,sc,st,rfl,hC,ok,hsc,hst,fun D zs H1 hD s1 eD hz hB=>?_⟩;have hf:=hB.few;rw [Xaa] at hf;refine ⟨_,rfl,nt,A,t,D,x,_,W,zs,rfl,hC.same s1,ok,eD,hz,fun z hz'=>((hB.mem _).mp (Xai.mpr ⟨z,hz',rfl⟩)).ok ok hsc hst,hf,fun D2 ws H2 hD2 s2 eD2 hw hF=>?_⟩;exact q D2 _ ws H2 (s1.free hD2) (s1.trans s2) eD2 (fun z h=>(hw z h).mono' fun x o _ hx=>⟨s1.free hx.1,hx.2⟩) hB hF
variable (P w K mg base) in
abbrev ZcS:Prop:=Zax P w K mg base "found_ways" 7 ["net", "answers", "table", "scope", "state", "name"] (ZeP K)
theorem Zgv (B:Blt mg) (c_found_behind:Zb2 P w K mg base) (c_beginnings:ZbM P w K mg base) (F:Fun K "found_ways" "found_ways" ZcH f fd) (hm:mg "found_ways" = some (.ref f)):ZcS P w K mg base :=
 ⟨f,fd,ZhY B c_found_behind c_beginnings F,hm,F.kp,F.binds fun _ _ _ _ _ _ us hl=>(by obtain ⟨x0,x1,x2,x3,x4,x5,rfl⟩:=len_6 hl;rfl)⟩
inductive E_owed_behind (K:XFg) (vs:List V) (H:Hp) (Q:VK):Prop where
 | mk (nt A t D:Addr) (F:Addr→Prop) (W:Wd) (zs:List (Addr×Beg)) (h0:vs=[.ref nt,.ref A,.ref t,.ref D]) (h1:CaseH K H nt A t W) (h2:WOk W) (h3:H D=some (.lst (zs.map fun z=>V.ref z.1))) (h4:(∀ z∈zs,BgH F H z.1 z.2)) (h5:(∀ z∈zs,BegOk W z.2)) (h6:zs.length≤capR (bOf W) (W.ss.length - 1)) (h7:∀ (D2:Addr) (ws:List (Addr×Ow)) (H':Hp),H D2=none→Same H H'→H' D2=some (.lst (ws.map fun z=>V.ref z.1))→(∀ z∈ws,OwH (fun l=>H l=none∧l≠D2) H' z.1 z.2)→Owd W (zs.map (·.2)) (ws.map (·.2))→Q (.ref D2) H'):E_owed_behind K vs H Q
def Zeg (K:XFg):Sp:=fun vs H Q _=>E_owed_behind K vs H Q
theorem ZgN (B:Blt mg) (c_steps_gone:ZbL P w K mg base) (F:Fun K "owed_behind" "owed_behind" Zcc f fd):FnOk P w K mg base CX0 5 f fd ["net", "answers", "table", "begun"] (Zeg K):=by
 refine F.ok sc_owed_behind (fun vs H Q E h=>?_) (fun cdv A outer s H vs Q E hr h=>?_)
 · obtain ⟨nt,A,t,D,F,W,zs,rfl,_⟩:=h
   rfl
 · obtain ⟨nt,A,t,D,F,W,zs,rfl,hC,ok,eD,hz,hbo,hzl,q⟩:=h
   have cap:=(ZlL ok).1
   refine ⟨_,(Zad (Zao (i:=4) sc_owed_behind.nd rfl (Or.inl rfl) (ZaM Zab))
    (Zad (ZaL Xbs rfl (Zaz (pv 3)) (ZaR rfl (Zai (Zag (i:=5) sc_owed_behind.nd rfl (Or.inl rfl)) (Zai (Zag (i:=6) sc_owed_behind.nd rfl (Or.inl rfl)) (Zai (Zag (i:=7) sc_owed_behind.nd rfl (Or.inl rfl)) ZaG)))) (Zae (ZaL Xbs rfl (Zaz (ZaC c_steps_gone (hr.mono (by decide)) rfl (Zaa (pv 0) (Zaa (pv 1) (Zaa (pv 2) (Zaa (pv 6) (Zaa (pv 7) Zab))))))) (ZaR rfl (Zai (Zag (i:=8) sc_owed_behind.nd rfl (Or.inl rfl)) (Zai (Zag (i:=9) sc_owed_behind.nd rfl (Or.inl rfl)) (Zai (Zag (i:=10) sc_owed_behind.nd rfl (Or.inl rfl)) (Zai (Zag (i:=11) sc_owed_behind.nd rfl (Or.inl rfl)) ZaG))))) (Zae (ZaS (Zav Zcf (pv 9) Zaq (ZaD _)) (Zae (ZaB (Zbl Xa9 Xba Xbb Zaw (pv 4) (Zaa (Zat (Zaa (Zap ZgX (pv 5) (ZaM (Zaa (pv 8) Zab))) (Zaa (pv 10) Zab))) Zab)))) Zau)))))
    (Zae (Zar (Zan (Zjn mkE intE hr.units (by decide) (by decide)) (by rfl) B.b_sorted (by decide +kernel) (Zaa (pv 4) Zab)))))),?_⟩
   try dsimp only [cxOf,Cx.nox,Cx.wish]
   refine ⟨by decide,fun P hP=>?_⟩;obtain ⟨H1,qH1,s1,eP1⟩:=new_at (o:=.lst []) hP;rw [←qH1];have upK:∀ {H':Hp},Keeps (·=P) H1 H'→Same H H':=fun k x o e=>k.at_ _ _ (s1 _ _ e) (Zac e hP)
   refine ⟨_,rfl,D,rfl,⟨_,SqL.of (s1 _ _ eD)⟩,ZaI (xs:=zs.map fun z=>V.ref z.1) (fun i σ H'=>∃ u5 u6 u7 u8 u9 u10 u11 ws,σ=[some (.ref nt),some (.ref A),some (.ref t),some (.ref D),some (.ref P),u5,u6,u7,u8,u9,u10,u11]∧Keeps (·=P) H1 H'∧H' P=some (.lst (ws.map fun z:Addr×Ow=>V.ref z.1))∧(∀ z∈ws,OwH (fun l=>H l=none∧l≠P) H' z.1 z.2)∧ws.map (·.2)=Zdx W ((zs.map (·.2)).take i))
    ⟨none,none,none,none,none,none,none,[],rfl,Keeps.refl fun x o m e=>by rw [m,eP1] at e;exact ⟨_,(Xbd e).symm⟩,eP1,fun z hz=>by simp at hz,by rw [Xaz];rfl⟩ (fun i σ H' _ hv_=>by obtain ⟨_,_,_,_,_,_,_,_,_,k,_⟩:=hv_;exact SqL.of (upK k _ _ eD)) ?_ ?_⟩
   rotate_left
   · rintro σ H2 ⟨u5,u6,u7,u8,u9,u10,u11,ws,rfl,k2,eP2,hw,hm⟩
     rw [Xaa,←Xaa (f:=(·.2)),Xas] at hm;have hfl:=Zkf ok (bs:=zs.map (·.2)) (by rw [Xaa];exact hzl)
     have lw:ws.length≤62:=by have:=Xbk List.length hm;rw [Xaa] at this;omega
     refine ⟨_,rfl,P,ws.map fun z=>(V.ref z.1,z.2),rfl,?_,by rw [Xaa];omega,fun y hy=>?_,fun D2 zs' hp hs hD2=>?_⟩
     · rw [Xax];exact SqL.of eP2
     · obtain ⟨z,hz',rfl⟩:=Xai.mp hy
       exact (hw z hz').dt
     obtain ⟨vs,r1,r2,r3,r4⟩:=Zg8 (c:=owE) hp;have s3:=Zak (o:=.lst (zs'.map (·.1))) hD2;rw [r1] at s3 ⊢;rw [r2] at hs;have s02:=upK k2;refine q D2 vs _ (s02.free hD2) (s02.trans s3) upd_same (fun z hz'=>?_) ⟨by rw [←hm];exact r3,hs⟩;refine ((hw z (r4 z hz')).mono' ?_).same s3;intro x o ex hx;exact ⟨hx.1,fun y=>by rw [y,hD2] at ex;cases ex⟩
   rintro i y σ H2 hy ⟨u5,u6,u7,u8,u9,u10,u11,ws,rfl,k2,eP2,hw,hm⟩;obtain ⟨z,hzi,rfl⟩:=getm hy;have hil:i<zs.length:=(Xae.mp hzi).1;have mz:=Xah hzi;have hbz:=hbo z mz;have s02:=upK k2;obtain ⟨l,ms,f1,f2,e3,_⟩:=hz z mz;have e1:=s02 _ _ f1;have hsc:=hbz.rng z.2.2.1 (by unfold been;simp)
   have htk:(zs.map (·.2))[i]?=some z.2:=by rw [Xag,hzi];rfl
   have hml:ms.length≤5:=by
    have:=Zb5 W.ss.length (been z.2) hbz.nd hbz.rng
    rw [show (been z.2).length=z.2.1.length+1 by unfold been;simp] at this
    have:=ok.s5
    rw [e3.len];omega
   have lw0:ws.length≤3 * i:=by
    have h1:=Xbk List.length hm;rw [Xaa] at h1
    have h2:=ZfJ (f:=fun b=>(Zdn W b.2.1 b.2.2).filterMap (ow b)) (k:=3) ((zs.map (·.2)).take i) fun b=>Xbh (List.length_filterMap_le _ _) (Xbh (Zcs W b.2.1 (ZbN W b.2.2) (ZaV W b.2.1) 0) (Xbh (Zg4 ok b.2.1) (by unfold bOf;split <;> omega)))
    rw [Xaw,Xaa] at h2;unfold Zdx at h1
    have h3:min i zs.length=i:=by omega
    rw [h3] at h2;omega
   refine ⟨z.1,_,rfl,SqT.of e1,rfl,_,_,rfl,_,_,rfl,_,_,rfl,rfl,?_⟩;refine ⟨_,rfl,_,rfl,_,rfl,_,rfl,_,rfl,nt,A,t,W,z.2.2.1,z.2.2.2,rfl,hC.same s02,ok,hsc,hbz.st,fun G gz H3 hG s3 eG hgz hgm=>⟨G,rfl,⟨_,SqL.of eG⟩,?_⟩⟩
   have nGP:G≠P:=fun y=>by rw [y,eP2] at hG;cases hG
   have lgz:gz.length≤3:=by
    have e1:=Xbk List.length hgm;have e2:=Zcs W z.2.2.1 (ZbN W z.2.2.2) (ZaV W z.2.2.1) 0;have e3:=Zg4 ok z.2.2.1
    have e4:bOf W≤3:=by unfold bOf;split <;> omega
    rw [Xaa] at e1;unfold Zdn at e1;omega
   refine ZaI (xs:=gz.map fun z=>V.ref z.1) (fun j σ H'=>∃ u8 u9 u10 u11 vs,σ=[some (.ref nt),some (.ref A),some (.ref t),some (.ref D),some (.ref P),some (.ref l),some (.int z.2.2.1),some (.int z.2.2.2),u8,u9,u10,u11]∧Keeps (·=P) H3 H'∧H' P=some (.lst (vs.map fun z:Addr×Ow=>V.ref z.1))∧(∀ z∈vs,OwH (fun l=>H l=none∧l≠P) H' z.1 z.2)∧vs.map (·.2)=Zdx W ((zs.map (·.2)).take i)++((gz.map (·.2)).take j).filterMap (ow z.2)∧vs.length≤3 * i+j)
    ⟨_,_,_,_,ws,rfl,Keeps.refl fun x o m e=>by rw [m,s3 _ _ eP2] at e;exact ⟨_,(Xbd e).symm⟩,s3 _ _ eP2,fun z h=>(hw z h).same s3,by rw [hm,Xaz];simp,lw0⟩ (fun j σ H' _ hv_=>by obtain ⟨_,_,_,_,_,_,k,_⟩:=hv_;exact SqL.of (k.at_ _ _ eG nGP)) ?_ ?_
   rotate_left
   · rintro σ H4 ⟨u8,u9,u10,u11,vs,rfl,k4,eP4,hw4,hm4,_⟩
     refine ⟨_,_,_,_,_,_,_,vs,rfl,⟨fun x o e n=>k4.at_ _ _ (s3 _ _ (k2.at_ x o e n)) n,k2.ls⟩,eP4,hw4,?_⟩;rw [ZlQ htk,hm4,Xaa,←Xaa (f:=(·.2)),Xas,hgm]
   rintro j y σ H4 hy ⟨u8,u9,u10,u11,vs,rfl,k4,eP4,hw4,hm4,hvl⟩;obtain ⟨g,hgj,rfl⟩:=getm hy;have hjl:j<gz.length:=(Xae.mp hgj).1;obtain ⟨m,em1,em2⟩:=hgz g (Xah hgj);have em1:=k4.tup em1;have em2:=k4.tup em2
   have etk:((gz.map (·.2)).take (j+1)).filterMap (ow z.2)=((gz.map (·.2)).take j).filterMap (ow z.2)++(ow z.2 g.2).toList:=by
    rw [Xar,Xag,hgj];exact fm_one _ _ _
   refine ⟨g.1,_,rfl,SqT.of em1,rfl,_,_,rfl,_,_,rfl,_,_,rfl,_,_,rfl,rfl,?_⟩;refine ⟨_,rfl,rfl,_,rfl,ite2 (fun h1=>?_) (fun h1=>?_)⟩;rotate_left
   · refine ⟨_,_,_,_,vs,rfl,k4,eP4,hw4,?_,by omega⟩
     rw [etk,ow_none (fun e=>h1 (Xa6 (by rw [e]))),hm4];simp
   have h1:g.2.2.1.1=("open" : Str):=V.str.inj (Xa8 h1)
   have s24:Same H2 H3:=s3;have el4:H4 l=some (.lst (ms.map V.ref)):=k4.at_ _ _ (s3 _ _ (s02 _ _ f2)) (Zac f2 hP);have e34:RT mkV H4 ms z.2.1:=(e3.same (s02.trans s3)).keeps k4;refine ⟨_,rfl,Or.inl ⟨rfl,_,SqL.of eP4⟩,_,rfl,_,rfl,ZgZ,fun M hM=>?_⟩;obtain ⟨H5,qH5,s5,eM⟩:=new_at (o:=.lst [.ref m]) hM;rw [←qH5];refine ⟨l,M,_,_,rfl,rfl,s5 _ _ el4,eM,by rw [Xaa];exact XaY (Zal (by show ms.length+1≤1000;omega)),fun L hL=>?_⟩
   have hLH:H L=none:=by
    have h4:=s5.free hL
    cases e:H L with
    | none=>rfl
    | some o=>rw [k4.at_ _ _ (s3 _ _ (s02 _ _ e)) (Zac e hP)] at h4;cases h4
   have nLP:L≠P:=fun y=>by rw [y,s5 _ _ eP4] at hL;cases hL
   have s6:=Zak (o:=.lst (ms.map V.ref++[.ref m])) hL
   have eL:(upd H5 L (.lst (ms.map V.ref++[.ref m]))) L=some (.lst ((ms++[m]).map V.ref)):=by rw [upd_same,Xad];rfl
   generalize upd H5 L (.lst (ms.map V.ref++[.ref m]))=H6 at s6 eL ⊢;refine ⟨_,rfl,ZaF,fun r hr=>?_⟩;obtain ⟨H7,qH7,s7,er⟩:=new_at (o:=.tup [.ref L,.int g.2.2.1.2]) hr;rw [←qH7];have s47:=(s5.trans s6).trans s7;have eP7:=s47 _ _ eP4;have k7:Keeps (·=P) H7 (upd H7 P (.lst (vs.map (fun z=>V.ref z.1)++[.ref r]))):=Keeps.one eP7;refine ⟨P,_,_,rfl,rfl,eP7,by rw [Xaa];exact Zal (by omega),?_⟩;refine ⟨_,_,_,_,vs++[(r,(z.2.1++[g.2.1],g.2.2.1.2))],rfl,(k4.same s47).set rfl,by rw [upd_same,Xad];rfl,fun y hy=>?_,?_,by rw [Xac,Xau];omega⟩
   · rcases Xaf.mp hy with hy | hy
     · exact ((hw4 y hy).same s47).keeps k7 fun x hx=>hx.2
     · rw [Xaj.mp hy]
       refine ⟨L,ms++[m],k7.tup er,k7.at_ _ _ (s7 _ _ eL) nLP,?_,hLH,nLP⟩;exact RT.snoc ((e34.same s47).keeps k7) (k7.tup (s47 _ _ em2))
   · rw [etk,ow_some h1,Xad,hm4,XaE];rfl
variable (P w K mg base) in
abbrev Zcj:Prop:=Zax P w K mg base "owed_behind" 5 ["net", "answers", "table", "begun"] (Zeg K)
theorem ZfD (B:Blt mg) (c_steps_gone:ZbL P w K mg base) (F:Fun K "owed_behind" "owed_behind" Zcc f fd) (hm:mg "owed_behind" = some (.ref f)):Zcj P w K mg base :=
 ⟨f,fd,ZgN B c_steps_gone F,hm,F.kp,F.binds fun _ _ _ _ _ _ us hl=>(by obtain ⟨x0,x1,x2,x3,rfl⟩:=ZhK hl;rfl)⟩
inductive E_owed_ways (K:XFg) (vs:List V) (H:Hp) (Q:VK):Prop where
 | mk (nt A t:Addr) (W:Wd) (sc st:Int) (h0:vs=[.ref nt,.ref A,.ref t,.int sc,.int st]) (h1:CaseH K H nt A t W) (h2:WOk W) (h3:(0≤sc∧sc<W.ss.length)) (h4:(0≤st∧st<W.sts.length)) (h5:∀ (D2:Addr) (bs:List Beg) (ws:List (Addr×Ow)) (H':Hp),H D2=none→Same H H'→H' D2=some (.lst (ws.map fun z=>V.ref z.1))→(∀ z∈ws,OwH (fun l=>H l=none∧l≠D2) H' z.1 z.2)→Begs W sc st bs→Owd W bs (ws.map (·.2))→Q (.ref D2) H'):E_owed_ways K vs H Q
def Zft (K:XFg):Sp:=fun vs H Q _=>E_owed_ways K vs H Q
theorem ZiZ (B:Blt mg) (c_owed_behind:Zcj P w K mg base) (c_beginnings:ZbM P w K mg base) (F:Fun K "owed_ways" "owed_ways" Zdb f fd):FnOk P w K mg base CX0 7 f fd ["net", "answers", "table", "scope", "state"] (Zft K):=by
 refine F.ok ZiS (fun vs H Q E h=>?_) (fun cdv A outer s H vs Q E hr h=>?_)
 · obtain ⟨nt,A,t,W,sc,st,rfl,_⟩:=h
   rfl
 · obtain ⟨nt,A,t,W,sc,st,rfl,hC,ok,hsc,hst,q⟩:=h
   refine ⟨_,(Zae (Zar (ZaC c_owed_behind (hr.mono (by decide)) rfl (Zaa (pv 0) (Zaa (pv 1) (Zaa (pv 2) (Zaa (ZaC c_beginnings (hr.mono (by decide)) rfl (Zaa (pv 0) (Zaa (pv 1) (Zaa (pv 2) (Zaa (pv 3) (Zaa (pv 4) Zab)))))) Zab))))))),?_⟩;try dsimp only [cxOf,Cx.nox,Cx.wish]
   refine ⟨_,rfl,_,rfl,_,rfl,_,rfl,_,rfl,_,rfl,_,rfl,_,rfl,nt,A,t,W,sc,st,rfl,hC,ok,hsc,hst,fun D zs H1 hD s1 eD hz hB=>?_⟩;have hf:=hB.few;rw [Xaa] at hf;refine ⟨nt,A,t,D,_,W,zs,rfl,hC.same s1,ok,eD,hz,fun z hz'=>((hB.mem _).mp (Xai.mpr ⟨z,hz',rfl⟩)).ok ok hsc hst,hf,fun D2 ws H2 hD2 s2 eD2 hw hF=>?_⟩;exact q D2 _ ws H2 (s1.free hD2) (s1.trans s2) eD2 (fun z h=>(hw z h).mono' fun x o _ hx=>⟨s1.free hx.1,hx.2⟩) hB hF
variable (P w K mg base) in
abbrev Zdi:Prop:=Zax P w K mg base "owed_ways" 7 ["net", "answers", "table", "scope", "state"] (Zft K)
theorem ZgO (B:Blt mg) (c_owed_behind:Zcj P w K mg base) (c_beginnings:ZbM P w K mg base) (F:Fun K "owed_ways" "owed_ways" Zdb f fd) (hm:mg "owed_ways" = some (.ref f)):Zdi P w K mg base :=
 ⟨f,fd,ZiZ B c_owed_behind c_beginnings F,hm,F.kp,F.binds fun _ _ _ _ _ _ us hl=>(by obtain ⟨x0,x1,x2,x3,x4,rfl⟩:=ZkP hl;rfl)⟩
theorem Zm9 {α:Type}{zs:List α}{n:Nat} (hn:n≤zs.length):(∀ z∈(zs.drop n++zs.take n).take 30,z∈zs)∧((zs.drop n++zs.take n).take 30).length≤30:=by
 refine ⟨fun z hz=>?_,by rw [Xaw];omega⟩
 rcases Xaf.mp (List.mem_of_mem_take hz) with h | h
 · exact List.mem_of_mem_drop h
 · exact List.mem_of_mem_take h
inductive E__law_ways (K:XFg) (vs:List V) (H:Hp) (Q:VK):Prop where
 | mk (nt A t lk:Addr) (x:Str) (c:Int) (W:Wd) (sc st:Int) (h0:vs=[.ref nt,.ref A,.ref t,.ref lk,.str x,.int c]) (h1:CaseH K H nt A t W) (h2:WOk W) (h3:(0≤sc∧sc<W.ss.length)) (h4:(0≤st∧st<W.sts.length)) (h5:SqT K H lk [.int sc,.int st]) (h6:∀ (D:Addr) (zs:List (Addr×List Mrk)) (H':Hp),H D=none→Same H H'→H' D=some (.lst (zs.map fun z=>V.ref z.1))→(∀ z∈zs,WyH (fun _=>True) H' z.1 z.2)→(∀ z∈zs,Zdq W.ss z.2)→zs.length≤30→Q (.ref D) H'):E__law_ways K vs H Q
def Zfu (K:XFg):Sp:=fun vs H Q _=>E__law_ways K vs H Q
theorem Zi0 (B:Blt mg) (c_found_ways:ZcS P w K mg base) (c_owed_ways:Zdi P w K mg base) (F:Fun K "_law_ways" "_law_ways" Zcn f fd):FnOk P w K mg base CX0 8 f fd ["_law_net", "_law_answers_here", "_law_table_here", "_law_look", "_law_name", "_law_cell"] (Zfu K):=by
 refine F.ok sc__law_ways (fun vs H Q E h=>?_) (fun cdv A outer s H vs Q E hr h=>?_)
 · obtain ⟨nt,A,t,lk,x,c,W,sc,st,rfl,_⟩:=h
   rfl
 · obtain ⟨nt,A,t,lk,x,c,W,sc,st,rfl,hC,ok,hsc,hst,hlk,q⟩:=h
   refine ⟨_,(Zad (Zao (i:=6) sc__law_ways.nd rfl (Or.inl rfl) (ZaC c_found_ways (hr.mono (by decide)) rfl (Zaa (pv 0) (Zaa (pv 1) (Zaa (pv 2) (Zaa (Zas Zam (pv 3) Zaf (fun _ _=>rfl)) (Zaa (Zas Zam (pv 3) Zaf (fun _ _=>rfl)) (Zaa (pv 4) Zab))))))))
    (Zad (Zao (i:=6) sc__law_ways.nd rfl (Or.inl rfl) (Zap ZgX (pv 6) (ZcY (g:=gTup K 2 (Zek (Zc3 0) (Zek (Zc3 1) gNil))) rfl _law_ways_cs1 (Zaz (ZaC c_owed_ways (hr.mono (by decide)) rfl (Zaa (pv 0) (Zaa (pv 1) (Zaa (pv 2) (Zaa (Zas Zam (pv 3) Zaf (fun _ _=>rfl)) (Zaa (Zas Zam (pv 3) Zaf (fun _ _=>rfl)) Zab))))))) (fun _ _ _ _ _=>(ZaR rfl (Zai (Zag (i:=0) _law_ways_cs1.nd rfl (Or.inl rfl)) (Zai (Zag (i:=1) _law_ways_cs1.nd rfl (Or.inl rfl)) ZaG)))) (fun _ _ _ _ _=>ZcL) (fun _ _ _ _ _=>(pv 0)))))
    (Zad (Zao (i:=7) sc__law_ways.nd rfl (Or.inl rfl) (Zap ZaE (Zap ZaN (pv 5) Zaf) (Zap Zba (Zan Zay (by rfl) B.b_len (by decide +kernel) (Zaa (pv 6) Zab)) Zaf)))
    (Zad (Zao (i:=6) sc__law_ways.nd rfl (Or.inl rfl) (ZdR ZeY (Zap ZgX (ZdR ZeY (pv 6) (ZeX (pv 7)) ZeW) (ZdR ZeY (pv 6) ZeW (ZeX (pv 7)))) ZeW (ZeX Zaf)))
    (Zad (ZaS (Zav Zcf (Zap ZaE (pv 5) Zaf) Zaf (ZaD _)) (Zae (Zao (i:=6) sc__law_ways.nd rfl (Or.inl rfl) (ZaJ (ZhE rfl) (by rfl) B.b_list (by decide +kernel) (Zaa (ZaJ ZmX (by rfl) B.b_reversed (by decide +kernel) (Zaa (pv 6) Zab)) Zab)))) Zau)
    (Zae (Zar (pv 6)))))))),?_⟩
   try dsimp only [cxOf,Cx.nox,Cx.wish]
   refine ⟨_,rfl,_,rfl,_,rfl,_,rfl,Or.inr (Or.inl ⟨lk,_,_,.int sc,rfl,rfl,hlk,rfl,_,rfl,Or.inr (Or.inl ⟨lk,_,_,.int st,rfl,rfl,hlk,rfl,_,rfl,nt,A,t,x,W,sc,st,rfl,hC,ok,hsc,hst,fun D1 bs ws H1 hD1 s1 eD1 hw hB hF=>?_⟩)⟩)⟩;refine g_in ?_;try dsimp only
   have hlk1:=s1.seqT hlk
   have lw:ws.length≤62:=by
    have h1:=ZiF ok (x:=x) hB.few;have h2:=hF.perm.length_eq;rw [Xaa] at h2;omega
   refine ⟨_,rfl,_,rfl,_,rfl,_,rfl,_,rfl,Or.inr (Or.inl ⟨lk,_,_,.int sc,rfl,rfl,hlk1,rfl,_,rfl,Or.inr (Or.inl ⟨lk,_,_,.int st,rfl,rfl,hlk1,rfl,nt,A,t,W,sc,st,rfl,hC.same s1,ok,hsc,hst,fun D2 bs2 os H2 hD2 s2 eD2 ho hB2 hF2=>⟨D2,rfl,⟨_,SqL.of eD2⟩,?_⟩⟩)⟩)⟩
   have lo:os.length≤62:=by
    have h1:=Zkf ok hB2.few;have h2:=hF2.perm.length_eq;rw [Xaa] at h2;omega
   refine Za3 (xs:=os.map fun z=>V.ref z.1) (fun P i ys H'=>∃ vs:List (Addr×List Mrk),ys=(vs.map fun z=>V.ref z.1)∧Same H2 H'∧H' P=some (.lst ys)∧(∀ z∈vs,WyH (fun l=>l≠P) H' z.1 z.2)∧(∀ z∈vs,Zdq W.ss z.2)∧vs.length=i)
    (fun P hP=>⟨[],rfl,Zak hP,upd_same,fun z hz=>by simp at hz,fun z hz=>by simp at hz,rfl⟩) (fun P i ys H' hv_=>by obtain ⟨_,_,s,_⟩:=hv_;exact SqL.of (s _ _ eD2)) (fun P i y ys H3 RR hP hy hv k=>?_) (fun P ys H3 hP hv=>?_)
   · obtain ⟨vs,rfl,s3,eP,hvs,hvo,hvl⟩:=hv
     obtain ⟨z,hzi,rfl⟩:=getm hy;have hil:i<os.length:=(Xae.mp hzi).1;have mz:=Xah hzi;obtain ⟨l,ms,f1,f2,f3,_⟩:=ho z mz;have nlP:l≠P:=Zac f2 hP;refine ⟨z.1,_,rfl,SqT.of (s3 _ _ f1),rfl,_,_,rfl,_,_,rfl,rfl,?_⟩;refine ⟨_,rfl,?_⟩;have kP:Keeps (·=P) H3 (upd H3 P (.lst (vs.map (fun z=>V.ref z.1)++[.ref l]))):=Keeps.one eP;refine k _ _ eP (by rw [Xaa,hvl];exact Zal (by omega)) ⟨vs++[(l,z.2.1)],by rw [Xad];rfl,fun b o e=>?_,upd_same,fun w hw'=>?_,fun w hw'=>?_,by rw [Xac,hvl];rfl⟩
     · rw [Zah (Zac e hP)];exact s3 _ _ e
     · rcases Xaf.mp hw' with h | h
       · exact (hvs w h).keeps kP fun x hx=>hx
       · rw [Xaj.mp h]
         exact ⟨ms,kP.at_ _ _ (s3 _ _ f2) nlP,(f3.same s3).keeps kP,nlP⟩
     · rcases Xaf.mp hw' with h | h
       · exact hvo w h
       · rw [Xaj.mp h]
         exact ZkK ok hsc hst hB2 (hF2.perm.mem_iff.mp (Xai.mpr ⟨z,mz,rfl⟩))
   obtain ⟨vs,rfl,s3,eP,hvs,hvo,hvl⟩:=hv;rw [Xaa] at hvl;have s13:=s2.trans s3;refine ⟨D1,P,_,_,rfl,rfl,s13 _ _ eD1,eP,by rw [Xaa,Xaa];exact XaY (Zal (by omega)),fun L hL=>?_⟩;have s4:=Zak (o:=.lst (ws.map (fun z=>V.ref z.1)++vs.map fun z=>V.ref z.1)) hL
   have eL:(upd H3 L (.lst (ws.map (fun z=>V.ref z.1)++vs.map fun z=>V.ref z.1))) L=some (.lst ((ws++vs).map fun z=>V.ref z.1)):=by rw [upd_same,Xad]
   generalize upd H3 L (.lst (ws.map (fun z=>V.ref z.1)++vs.map fun z=>V.ref z.1))=H4 at s4 eL ⊢
   have hall:∀ z∈ws++vs,WyH (fun _=>True) H4 z.1 z.2:=fun z hz=>by
    rcases Xaf.mp hz with h | h
    · exact ((hw z h).mono' fun _ _ _ _=>trivial).same (s13.trans s4)
    · exact ((hvs z h).mono' fun _ _ _ _=>trivial).same s4
   have hok:∀ z∈ws++vs,Zdq W.ss z.2:=fun z hz=>by
    rcases Xaf.mp hz with h | h
    · exact Zjq ok hsc hst hB (hF.perm.mem_iff.mp (Xai.mpr ⟨z,h,rfl⟩))
    · exact hvo z h
   have s04:=s1.trans (s13.trans s4)
   have lall:(ws++vs).length≤124:=by rw [Xac];omega
   generalize ws++vs=zs at eL hall hok lall;refine g_in ?_;try dsimp only
   refine ⟨_,rfl,_,_,rfl,rfl,⟨by decide,by decide⟩,_,rfl,_,_,rfl,Or.inl ⟨_,SqL.of eL,rfl⟩,_,_,rfl,rfl,_,_,rfl,rfl,?_,?_⟩
   · show (0:Int)<((zs.map fun z=>V.ref z.1).length:Nat)+1
     omega
   try dsimp only
   have a0:=Xa3 (c / 2) (show (((zs.map fun z=>V.ref z.1).length:Nat):Int)+1≠0 by omega);have a1:=Xa2 (c / 2) (show (0:Int)<(((zs.map fun z=>V.ref z.1).length:Nat):Int)+1 by omega);generalize c / 2 % ((((zs.map fun z=>V.ref z.1).length:Nat):Int)+1)=at0 at a0 a1 ⊢;obtain ⟨n,rfl⟩:=Xa4 a0;rw [Xaa] at a1
   have hn:n≤zs.length:=by omega
   refine g_in ?_;try dsimp only
   refine ⟨_,rfl,_,rfl,_,rfl,L,_,rfl,SqL.of eL,fun L1 hL1=>?_⟩;rw [Zez];obtain ⟨H5,qH5,s5,e1⟩:=new_at (o:=.lst ((zs.map fun z=>V.ref z.1).drop n)) hL1;rw [←qH5];refine ⟨_,rfl,_,rfl,_,rfl,L,_,rfl,SqL.of (s5 _ _ eL),fun L2 hL2=>?_⟩;rw [Zim];obtain ⟨H6,qH6,s6,e2⟩:=new_at (o:=.lst ((zs.map fun z=>V.ref z.1).take n)) hL2;rw [←qH6];refine ⟨L1,L2,_,_,rfl,rfl,s6 _ _ e1,e2,?_,fun L3 hL3=>?_⟩
   · rw [XaF,Xaw,Xaa]
     exact XaY (Zal (by omega))
   have s7:=Zak (o:=.lst ((zs.map fun z=>V.ref z.1).drop n++(zs.map fun z=>V.ref z.1).take n)) hL3
   have e3:(upd H6 L3 (.lst ((zs.map fun z=>V.ref z.1).drop n++(zs.map fun z=>V.ref z.1).take n))) L3=some (.lst ((zs.drop n++zs.take n).map fun z=>V.ref z.1)):=by
    rw [upd_same,Xad,XaP,List.map_take]
   generalize upd H6 L3 (.lst ((zs.map fun z=>V.ref z.1).drop n++(zs.map fun z=>V.ref z.1).take n))=H7 at s7 e3 ⊢;refine ⟨_,rfl,L3,_,rfl,SqL.of e3,fun L4 hL4=>?_⟩;rw [show cutV ((zs.drop n++zs.take n).map fun z=>V.ref z.1) none (some 30)=((zs.drop n++zs.take n).map fun z=>V.ref z.1).take 30 from Zim _ 30,←List.map_take];obtain ⟨m1,m2⟩:=Zm9 hn;obtain ⟨H8,qH8,s8,e4⟩:=new_at (o:=.lst (((zs.drop n++zs.take n).take 30).map fun z=>V.ref z.1)) hL4;rw [←qH8];have s48:=((s5.trans s6).trans s7).trans s8;have s08:=s04.trans s48;have hD8:H L4=none:=(s04.trans ((s5.trans s6).trans s7)).free hL4;have y1:∀ z∈(zs.drop n++zs.take n).take 30,WyH (fun _=>True) H8 z.1 z.2:=fun z hz=>(hall z (m1 z hz)).same s48;have y2:∀ z∈(zs.drop n++zs.take n).take 30,Zdq W.ss z.2:=fun z hz=>hok z (m1 z hz);generalize (zs.drop n++zs.take n).take 30=ys at e4 y1 y2 m2;clear m1 e3 e2 e1 eL hall hok lall hn s48 s8 s7 s6 s5 s04 s4 s13 s3 s2 hw hvs hvo hF2 hB2 ho hF hB a0 a1;refine g_in ?_;try dsimp only
   refine Zdd (fun σ' H'=>∃ (L:Addr) (ys:List (Addr×List Mrk)),σ'=[some (.ref nt),some (.ref A),some (.ref t),some (.ref lk),some (.str x),some (.int c),some (.ref L),some (.int (n:Int))]∧H L=none∧Same H H'∧H' L=some (.lst (ys.map fun z=>V.ref z.1))∧(∀ z∈ys,WyH (fun _=>True) H' z.1 z.2)∧(∀ z∈ys,Zdq W.ss z.2)∧ys.length≤30) ?_ (fun N hN=>?_)
   case refine_2 =>
    refine ⟨_,rfl,_,_,rfl,rfl,(by show (0:Int)<2;decide),rfl,_,rfl,ite2 (fun _=>?_) (fun _=>?_)⟩
    · refine ⟨_,rfl,L4,_,rfl,SqL.of e4,fun r hr=>?_⟩
      refine ⟨r,L4,_,rfl,upd_same,SqL.of ((Zah (Zac e4 hr)).trans e4),fun l H9 hl hk el=>?_⟩
      have hrl:r≠l:=fun z=>by rw [←z,upd_same] at hl;cases hl
      have s9:Same H8 H9:=fun b o e=>hk b o (Zac e hr) ((Zah (Zac e hr)).trans e);refine hN _ _ ⟨l,ys.reverse,rfl,s08.free ((Zah (Ne.symm hrl)).symm.trans hl),s08.trans s9,by rw [el,List.map_reverse],fun z hz=>(y1 z (List.mem_reverse.mp hz)).same s9,fun z hz=>y2 z (List.mem_reverse.mp hz),by rw [List.length_reverse];exact m2⟩
    · exact hN _ _ ⟨L4,ys,rfl,hD8,s08,e4,y1,y2,m2⟩
   clear e4 y1 y2 m2 s08 hD8;rintro σ' H9 ⟨L5,ys,rfl,hL5,s9,e5,y1,y2,m2⟩;exact ⟨_,rfl,q L5 ys H9 hL5 s9 e5 y1 y2 m2⟩
variable (P w K mg base) in
abbrev Zdj:Prop:=Zax P w K mg base "_law_ways" 8 ["_law_net", "_law_answers_here", "_law_table_here", "_law_look", "_law_name", "_law_cell"] (Zfu K)
theorem ZgP (B:Blt mg) (c_found_ways:ZcS P w K mg base) (c_owed_ways:Zdi P w K mg base) (F:Fun K "_law_ways" "_law_ways" Zcn f fd) (hm:mg "_law_ways" = some (.ref f)):Zdj P w K mg base :=
 ⟨f,fd,Zi0 B c_found_ways c_owed_ways F,hm,F.kp,F.binds fun _ _ _ _ _ _ us hl=>(by obtain ⟨x0,x1,x2,x3,x4,x5,rfl⟩:=len_6 hl;rfl)⟩
inductive E__law_copy (K:XFg) (vs:List V) (H:Hp) (Q:VK):Prop where
 | mk (pt S T R:Addr) (us Gs Es ts qt:List Addr) (ss:List Sco) (gs:List (Str×Int)) (qs:List Qu) (h0:vs=[.ref pt]) (h1:H pt=some (.tup [.ref S,.ref T,.ref R])) (h2:Net3 H S T R us Gs Es ts qt ss gs qs) (h3:ss.length≤1000) (h4:∀ (nt S2 T2 R2:Addr) (u2 G2 E2:List Addr) (H':Hp),Same H H'→H' nt=some (.tup [.ref S2,.ref T2,.ref R2])→Net3 H' S2 T2 R2 u2 G2 E2 ts qt ss gs qs→(S2 :: (G2++E2)).Nodup→H S2=none→H T2=none→H R2=none→(∀ x∈G2++E2,H x=none)→T2≠R2→S2≠T2→S2≠R2→(∀ x∈G2++E2,x≠S2∧x≠T2∧x≠R2)→Q (.ref nt) H'):E__law_copy K vs H Q
def Zfv (K:XFg):Sp:=fun vs H Q _=>E__law_copy K vs H Q
theorem Zi1 (B : Blt mg) (F : Fun K "_law_copy" "_law_copy" Zco f fd) : FnOk P w K mg base CX0 1 f fd ["_law_parts"] (Zfv K) := by
 refine F.ok sc__law_copy (fun vs H Q E h=>?_) (fun cdv A outer s H vs Q E hr h=>?_)
 · obtain ⟨pt,S,T,R,us,Gs,Es,ts,qt,ss,gs,qs,rfl,_⟩:=h
   rfl
 · obtain ⟨pt,S,T,R,us,Gs,Es,ts,qt,ss,gs,qs,rfl,ept,hN,l1,q⟩:=h
   refine ⟨_,(Zad (Ze1 (i:=1) sc__law_copy.nd rfl (Or.inl rfl) (g:=gTup K 2 (Zek (Zc3 0) (Zek (Zc3 1) gNil))) (te:=tTup (Zd3 (tCB (Zdf K) (Zd3 (tVar 0) tNil)) (Zd3 (tCB (Zdf K) (Zd3 (tVar 1) tNil)) tNil))) rfl _law_copy_cs1 (Zaz (Zas Zam (pv 0) Zaf (fun _ _=>rfl))) (fun _ _ _ _ _=>(ZaR rfl (Zai (Zag (i:=0) _law_copy_cs1.nd rfl (Or.inl rfl)) (Zai (Zag (i:=1) _law_copy_cs1.nd rfl (Or.inl rfl)) ZaG)))) (fun _ _ _ _ _=>ZcL) (fun _ _ _ _ _=>(Zat (Zaa (ZaJ ZaK (by rfl) B.b_list (by decide +kernel) (Zaa (pv 0) Zab)) (Zaa (ZaJ ZaK (by rfl) B.b_list (by decide +kernel) (Zaa (pv 1) Zab)) Zab)))))
    (Zae (Zar (Zat (Zaa (pv 1) (Zaa (ZaJ ZaK (by rfl) B.b_list (by decide +kernel) (Zaa (Zas Zam (pv 0) Zaf (fun _ _=>rfl)) Zab)) (Zaa (ZaJ ZaK (by rfl) B.b_list (by decide +kernel) (Zaa (Zas Zam (pv 0) Zaf (fun _ _=>rfl)) Zab)) Zab))))))),?_⟩
   try dsimp only [cxOf,Cx.nox,Cx.wish]
   refine ⟨_,rfl,Or.inr (Or.inl ⟨pt,_,_,.ref S,rfl,rfl,SqT.of ept,rfl,S,rfl,⟨_,SqL.of hN.sc.top⟩,Za3 (xs:=us.map V.ref) (fun D i ys H'=>∃ u2 G2 E2:List Addr,ys=u2.map V.ref∧Same H H'∧Scs H' D u2 G2 E2 (ss.take i)∧(D :: (G2++E2)).Nodup∧∀ x∈G2++E2,H x=none)
    (fun D hD=>⟨[],[],[],rfl,Zak hD,by rw [Xaz];exact Scs.nil upd_same,by simp,fun x hx=>by simp at hx⟩) (fun D i ys H' hv_=>by obtain ⟨_,_,_,_,s9,_⟩:=hv_;exact SqL.of (s9 _ _ hN.sc.top)) (fun D i x ys H9 RR hD hx hv k=>?_) (fun D2 ys H9 hD2 hv=>?_)⟩)⟩
   · obtain ⟨u2,G2,E2,rfl,s9,SC9,nd,hfr⟩:=hv
     obtain ⟨u,hu,rfl⟩:=getm hx
     have hil:i<ss.length:=by rw [←hN.sc.lu];exact (Xae.mp hu).1
     obtain ⟨u',G,E1,g1,g2,g3,g4,g5⟩:=(hN.sc.same s9).get hil;rw [hu] at g1;cases g1;obtain ⟨a1,⟨tG,b1,b2⟩,⟨tE,c1,c2⟩⟩:=g5
     have etk:ss.take (i+1)=ss.take i++[ss[i]]:=by rw [Xar,g4];rfl
     have lu2:=SC9.lu;rw [Xaw] at lu2;refine ⟨u,_,rfl,SqT.of a1,rfl,_,_,rfl,_,_,rfl,rfl,?_⟩;refine ⟨_,rfl,G,_,rfl,Or.inl (SqL.of b1),fun G3 hG3=>?_⟩;obtain ⟨H10,qH10,t1,eG3⟩:=new_at (o:=.lst (tG.map V.ref)) hG3;rw [←qH10];refine ⟨_,rfl,E1,_,rfl,Or.inl (SqL.of (t1 _ _ c1)),fun E3 hE3=>?_⟩;obtain ⟨H11,qH11,t2,eE3⟩:=new_at (o:=.lst (tE.map V.ref)) hE3;rw [←qH11];refine ⟨ZaF,fun u3 hu3=>?_⟩;obtain ⟨H12,qH12,t3,eu3⟩:=new_at (o:=.tup [.ref G3,.ref E3]) hu3;rw [←qH12];have t13:=(t1.trans t2).trans t3;have t23:=t2.trans t3;have SC12:=SC9.same t13;have al:=SC9.alive
     have nG:G3 ∉ D :: (G2++E2):=fun y=>by
      rcases Xam.mp y with y | y
      · rw [y,SC9.top] at hG3;cases hG3
      · obtain ⟨xs,e⟩:=al _ y
        rw [e] at hG3;cases hG3
     have nE:E3 ∉ D :: (G2++E2):=fun y=>by
      rcases Xam.mp y with y | y
      · rw [y,t1 _ _ SC9.top] at hE3;cases hE3
      · obtain ⟨xs,e⟩:=al _ y
        rw [t1 _ _ e] at hE3;cases hE3
     have nGE:G3≠E3:=fun y=>by rw [←y,eG3] at hE3;cases hE3
     have hs12:ScH H12 u3 G3 E3 ss[i]:=⟨eu3,⟨tG,t23 _ _ eG3,b2.same t13⟩,⟨tE,t3 _ _ eE3,c2.same t13⟩⟩;refine k _ _ SC12.top (by rw [Xaa,lu2];exact Zal (by omega)) ⟨u2++[u3],G2++[G3],E2++[E3],by rw [Xad];rfl,fun b o e=>?_,?_,Zj5 nd nG nE nGE,fun x hx=>?_⟩
     · rw [Zah (Zac e hD)];exact t13 _ _ (s9 _ _ e)
     · rw [etk];exact SC12.snoc hs12 (fun z=>nG (z ▸ Xal)) (fun z=>nE (z ▸ Xal)) (fun x hx z=>(XaC.mp nd).1 (z ▸ hx))
     · simp only [Xaf,Xaj] at hx
       rcases hx with (h | h) | (h | h)
       · exact hfr x (XaA _ h)
       · rw [h];exact s9.free hG3
       · exact hfr x (Xan _ h)
       · rw [h];exact (s9.trans t1).free hE3
   obtain ⟨u2,G2,E2,rfl,s9,SC9,nd,hfr⟩:=hv;rw [show (us.map V.ref).length=ss.length by rw [Xaa,hN.sc.lu],Xas] at SC9;refine ⟨_,rfl,_,rfl,Or.inr (Or.inl ⟨pt,_,_,.ref T,rfl,rfl,SqT.of (s9 _ _ ept),rfl,T,_,rfl,Or.inl (SqL.of (s9 _ _ hN.et)),fun T2 hT2=>?_⟩)⟩;obtain ⟨H10,qH10,t1,eT2⟩:=new_at (o:=.lst (ts.map V.ref)) hT2;rw [←qH10];refine ⟨_,rfl,Or.inr (Or.inl ⟨pt,_,_,.ref R,rfl,rfl,SqT.of (t1 _ _ (s9 _ _ ept)),rfl,R,_,rfl,Or.inl (SqL.of (t1 _ _ (s9 _ _ hN.er))),fun R2 hR2=>?_⟩)⟩;obtain ⟨H11,qH11,t2,eR2⟩:=new_at (o:=.lst (qt.map V.ref)) hR2;rw [←qH11];refine ⟨Za1,fun kt hkt=>?_⟩;obtain ⟨H12,qH12,t3,ekt⟩:=new_at (o:=.tup [.ref D2,.ref T2,.ref R2]) hkt;rw [←qH12];have t23:=t2.trans t3;have t13:=t1.trans t23;have sA:=s9.trans t13;have al:=SC9.alive;refine q kt D2 T2 R2 u2 G2 E2 H12 sA ekt ⟨SC9.same t13,t23 _ _ eT2,hN.tg.same (s9.trans t13),t3 _ _ eR2,hN.tq.same (s9.trans t13)⟩ nd (id hD2) (id (s9.free hT2)) (id ((s9.trans t1).free hR2)) (fun x hx=>id (hfr x hx)) (fun z=>by rw [←z,eT2] at hR2;cases hR2) (fun z=>by rw [←z,SC9.top] at hT2;cases hT2) (fun z=>by rw [←z,t1 _ _ SC9.top] at hR2;cases hR2) (fun x hx=>⟨fun z=>(XaC.mp nd).1 (z ▸ hx),fun z=>?_,fun z=>?_⟩)
   · obtain ⟨xs,e⟩:=al x hx
     rw [z,hT2] at e;cases e
   · obtain ⟨xs,e⟩:=al x hx
     rw [z] at e;rw [t1 _ _ e] at hR2;cases hR2
variable (P w K mg base) in
abbrev Zdk:Prop:=Zax P w K mg base "_law_copy" 1 ["_law_parts"] (Zfv K)
theorem ZgQ (B:Blt mg) (F:Fun K "_law_copy" "_law_copy" Zco f fd) (hm:mg "_law_copy" = some (.ref f)):Zdk P w K mg base :=
 ⟨f,fd,Zi1 B  F,hm,F.kp,F.binds fun _ _ _ _ _ _ us hl=>(by obtain ⟨x0,rfl⟩:=Zen hl;rfl)⟩
inductive E__law_copy_table (K:XFg) (vs:List V) (H:Hp) (Q:VK):Prop where
 | mk (t:Addr) (F:Addr→Prop) (sts:List Stt) (inn:Int) (ord:List (Str×Str)) (h0:vs=[.ref t]) (h1:Tab K F H t sts inn ord) (h2:sts.length≤1000) (h3:∀ (t2:Addr) (H':Hp),H t2=none→Same H H'→Tab K (fun x=>H x=none) H' t2 sts inn ord→Q (.ref t2) H'):E__law_copy_table K vs H Q
def ZcT (K:XFg):Sp:=fun vs H Q _=>E__law_copy_table K vs H Q
theorem ZeQ (B:Blt mg) (F:Fun K "_law_copy_table" "_law_copy_table" Za2 f fd):FnOk P w K mg base CX0 1 f fd ["_law_table_here"] (ZcT K):=by
 refine F.ok sc__law_copy_table (fun vs H Q E h=>?_) (fun cdv A outer s H vs Q E hr h=>?_)
 · obtain ⟨t,F,sts,inn,ord,rfl,_⟩:=h
   rfl
 · obtain ⟨t,F,sts,inn,ord,rfl,TB,l1,q⟩:=h
   obtain ⟨a,o,us,ts,et,_,_,_,ea,SR,eo,TO⟩:=TB.ex
   refine ⟨_,(Zad (Ze1 (i:=1) sc__law_copy_table.nd rfl (Or.inl rfl) (g:=gTup K 2 (Zek (Zc3 0) (Zek (Zc3 1) gNil))) (te:=tTup (Zd3 (tCB (Zdf K) (Zd3 (tVar 0) tNil)) (Zd3 (tCB (Zdf K) (Zd3 (tVar 1) tNil)) tNil))) rfl _law_copy_table_cs1 (Zaz (Zas Zam (pv 0) Zaf (fun _ _=>rfl))) (fun _ _ _ _ _=>(ZaR rfl (Zai (Zag (i:=0) _law_copy_table_cs1.nd rfl (Or.inl rfl)) (Zai (Zag (i:=1) _law_copy_table_cs1.nd rfl (Or.inl rfl)) ZaG)))) (fun _ _ _ _ _=>ZcL) (fun _ _ _ _ _=>(Zat (Zaa (ZaJ ZaK (by rfl) B.b_list (by decide +kernel) (Zaa (pv 0) Zab)) (Zaa (ZaJ ZaK (by rfl) B.b_list (by decide +kernel) (Zaa (pv 1) Zab)) Zab)))))
    (Zae (Zar (Zat (Zaa (pv 1) (Zaa (Zas Zam (pv 0) Zaf (fun _ _=>rfl)) (Zaa (ZaJ ZaK (by rfl) B.b_list (by decide +kernel) (Zaa (Zas Zam (pv 0) Zaf (fun _ _=>rfl)) Zab)) Zab))))))),?_⟩
   try dsimp only [cxOf,Cx.nox,Cx.wish]
   refine ⟨_,rfl,Or.inr (Or.inl ⟨t,_,_,.ref a,rfl,rfl,SqT.of et,rfl,a,rfl,⟨_,SqL.of ea⟩,Za3 (xs:=us.map V.ref) (fun D i ys H'=>∃ u2:List Addr,ys=u2.map V.ref∧Same H H'∧H' D=some (.lst ys)∧StRows K (fun x=>H x=none) H' D u2 (sts.take i))
    (fun D hD=>⟨[],rfl,Zak hD,upd_same,by rw [Xaz];exact StRows.nil⟩) (fun D i ys H' hv_=>by obtain ⟨_,_,s9,_⟩:=hv_;exact SqL.of (s9 _ _ ea)) (fun D i x ys H9 RR hD hx hv k=>?_) (fun D2 ys H9 hD2 hv=>?_)⟩)⟩
   · obtain ⟨u2,rfl,s9,eD,SR9⟩:=hv
     obtain ⟨u,hu,rfl⟩:=getm hx
     have hil:i<sts.length:=by rw [←SR.len];exact (Xae.mp hu).1
     have hsi:=Xab hil;obtain ⟨G,E1,xs,a1,⟨gv,a2,a2'⟩,a3,a4,_⟩:=SR.at_ i u _ hu hsi
     have etk:sts.take (i+1)=sts.take i++[sts[i]]:=by rw [Xar,hsi];rfl
     have lu2:=SR9.len;rw [Xaw] at lu2;refine ⟨u,_,rfl,SqT.of (s9 _ _ a1),rfl,_,_,rfl,_,_,rfl,rfl,?_⟩;refine ⟨_,rfl,G,_,rfl,Or.inl (s9.seq a2),fun G3 hG3=>?_⟩;obtain ⟨H10,qH10,t1,eG3⟩:=new_at (o:=.lst gv) hG3;rw [←qH10];refine ⟨_,rfl,E1,_,rfl,Or.inl (SqL.of (t1 _ _ (s9 _ _ a4))),fun E3 hE3=>?_⟩;obtain ⟨H11,qH11,t2,eE3⟩:=new_at (o:=.lst (sts[i].2.map V.str)) hE3;rw [←qH11];refine ⟨ZaF,fun u3 hu3=>?_⟩;obtain ⟨H12,qH12,t3,eu3⟩:=new_at (o:=.tup [.ref G3,.ref E3]) hu3;rw [←qH12];have t13:=(t1.trans t2).trans t3;have t23:=t2.trans t3;have eD12:=t13 _ _ eD
     have nG:G3≠D:=fun y=>by rw [y,eD] at hG3;cases hG3
     have nE:E3≠D:=fun y=>by rw [y,t1 _ _ eD] at hE3;cases hE3
     have gG:Goes K H12 G3 sts[i].1:=⟨_,SqL.of (t23 _ _ eG3),a2'.same (s9.trans t13)⟩;have SR12:=((SR9.same t13).snoc (r:=sts[i]) eu3 gG (t23 _ _ eG3) (t3 _ _ eE3) nG nE (s9.free hG3) ((s9.trans t1).free hE3)).updL (o:=.lst (u2.map V.ref++[.ref u3])) eD12;refine k _ _ eD12 (by rw [Xaa,lu2];exact Zal (by omega)) ⟨u2++[u3],by rw [Xad];rfl,fun b o e=>?_,upd_same,by rw [etk];exact SR12⟩;rw [Zah (Zac e hD)];exact t13 _ _ (s9 _ _ e)
   obtain ⟨u2,rfl,s9,eD,SR9⟩:=hv;rw [show (us.map V.ref).length=sts.length by rw [Xaa,SR.len],Xas] at SR9;refine ⟨_,rfl,_,rfl,Or.inr (Or.inl ⟨t,_,_,.int inn,rfl,rfl,SqT.of (s9 _ _ et),rfl,_,rfl,Or.inr (Or.inl ⟨t,_,_,.ref o,rfl,rfl,SqT.of (s9 _ _ et),rfl,o,_,rfl,Or.inl (SqL.of (s9 _ _ eo)),fun O2 hO2=>?_⟩)⟩)⟩;obtain ⟨H10,qH10,t1,eO2⟩:=new_at (o:=.lst (ts.map V.ref)) hO2;rw [←qH10];refine ⟨Za1,fun kt hkt=>?_⟩;obtain ⟨H11,qH11,t2,ekt⟩:=new_at (o:=.tup [.ref D2,.int inn,.ref O2]) hkt;rw [←qH11];have t12:=t1.trans t2;refine q kt H11 ((s9.trans t1).free hkt) (s9.trans t12) ⟨D2,O2,u2,ts,ekt,hD2,s9.free hO2,fun y=>?_,t12 _ _ eD,SR9.same t12,t2 _ _ eO2,TO.same (s9.trans t12)⟩;rw [←y,eD] at hO2;cases hO2
variable (P w K mg base) in
abbrev Zbw:Prop:=Zax P w K mg base "_law_copy_table" 1 ["_law_table_here"] (ZcT K)
theorem Zd8 (B:Blt mg) (F:Fun K "_law_copy_table" "_law_copy_table" Za2 f fd) (hm:mg "_law_copy_table" = some (.ref f)):Zbw P w K mg base :=
 ⟨f,fd,ZeQ B  F,hm,F.kp,F.binds fun _ _ _ _ _ _ us hl=>(by obtain ⟨x0,rfl⟩:=Zen hl;rfl)⟩
inductive E_better_pairs (K:XFg) (vs:List V) (H:Hp) (Q:VK):Prop where
 | mk (t:Addr) (F:Addr→Prop) (sts:List Stt) (inn:Int) (ord:List (Str×Str)) (h0:vs=[.ref t]) (h1:Tab K F H t sts inn ord) (h2:ord.length≤40) (h3:∀ (p:Addr) (H':Hp),H p=none→Same H H'→BetD H' p ord→Q (.ref p) H'):E_better_pairs K vs H Q
def ZdJ (K:XFg):Sp:=fun vs H Q _=>E_better_pairs K vs H Q
theorem Zgw (B:Blt mg) (F:Fun K "better_pairs" "better_pairs" ZbC f fd):FnOk P w K mg base CX0 1 f fd ["table"] (ZdJ K):=by
 refine F.ok Zgc (fun vs H Q E h=>?_) (fun cdv A outer s H vs Q E hr h=>?_)
 · obtain ⟨t,F,sts,inn,ord,rfl,_⟩:=h
   rfl
 · obtain ⟨t,F,sts,inn,ord,rfl,TB,ol,q⟩:=h
   obtain ⟨ta,o,tus,tts,et,_,_,_,_,_,eo,TO⟩:=TB.ex;refine ⟨_,(Zae (Zar (ZaJ (Zjr rfl (hu2_of hr)) (by rfl) B.b_dict (by decide +kernel) (Zaa (ZcY rfl better_pairs_cs1 (Zaz (Zas Zam (pv 0) Zaf (fun _ _=>rfl))) (fun _ _ _ _ _=>(Zag (i:=0) better_pairs_cs1.nd rfl (Or.inl rfl))) (fun _ _ _ _ _=>ZcL) (fun _ _ _ _ _=>(Zat (Zaa (pv 0) (Zaa Zh7 Zab))))) Zab)))),?_⟩;try dsimp only [cxOf,Cx.nox,Cx.wish]
   refine ⟨_,rfl,Or.inr (Or.inl ⟨t,_,_,.ref o,rfl,rfl,SqT.of et,rfl,o,rfl,⟨_,SqL.of eo⟩,Za3 (xs:=tts.map V.ref) (fun P i ys H'=>Same H H'∧H' P=some (.lst ys)∧ys.length=i∧PrsAt H' ys ((ord.take i).map fun p=>(keyP p,V.bl true)))
    (fun P hP=>⟨Zak hP,upd_same,rfl,.nil⟩) (fun P i ys H' hv_=>by obtain ⟨s,_⟩:=hv_;exact SqL.of (s _ _ eo)) (fun P i y ys H2 RR hP hy hv k=>?_) (fun P ys H2 hP hv=>?_)⟩)⟩
   · obtain ⟨s2,eP,hl,hps⟩:=hv
     obtain ⟨tt,htt,rfl⟩:=getm hy
     have hio:i<ord.length:=by rw [←TO.len];exact (Xae.mp htt).1
     have hoi:=Xab hio;have ett:=s2 _ _ (TO.at_ i _ _ htt hoi);refine ⟨_,rfl,ZaF,fun T hT=>?_⟩;obtain ⟨H3,qH3,s3,eT⟩:=new_at (o:=.tup [.ref tt,.bl true]) hT;rw [←qH3];have eP3:=s3 _ _ eP
     have kp:∀ b xs,H3 b=some (.tup xs)→(upd H3 P (.lst (ys++[.ref T]))) b=some (.tup xs):=fun b xs e=>by
      rw [Zah (ZfN e eP3 (fun z=>nomatch z))];exact e
     refine k _ _ eP3 (by rw [hl];exact Zal (by omega)) ⟨fun b u e=>?_,upd_same,by rw [Xac,hl];rfl,?_⟩
     · rw [Zah (Zac e hP)];exact s3 _ _ (s2 _ _ e)
     · rw [Xar,hoi,Xad]
       exact Paired.snoc ((hps.tups fun b xs e=>s3 _ _ e).tups kp) ⟨T,tt,rfl,kp _ _ eT,kp _ _ (s3 _ _ ett)⟩
   obtain ⟨s2,eP,hl,hps⟩:=hv;rw [Xaa,TO.len,Xas] at hps;rw [Xaa,TO.len] at hl;refine ⟨P,ys,_,rfl,eP,by rw [hl];exact Zal (by omega),hps,fun p hp=>?_⟩;exact q p _ (s2.free hp) (s2.trans (Zak hp)) ⟨_,upd_same,Zm0⟩
variable (P w K mg base) in
abbrev Zbc:Prop:=Zax P w K mg base "better_pairs" 1 ["table"] (ZdJ K)
theorem Zfh (B:Blt mg) (F:Fun K "better_pairs" "better_pairs" ZbC f fd) (hm:mg "better_pairs" = some (.ref f)):Zbc P w K mg base :=
 ⟨f,fd,Zgw B  F,hm,F.kp,F.binds fun _ _ _ _ _ _ us hl=>(by obtain ⟨x0,rfl⟩:=Zen hl;rfl)⟩
inductive E_tree_of (K:XFg) (vs:List V) (H:Hp) (Q:VK):Prop where
 | mk (D:Addr) (F:Addr→Prop) (zs:List (Addr×List Mrk)) (h0:vs=[.ref D]) (h1:H D=some (.lst (zs.map fun z=>V.ref z.1))) (h2:(∀ z∈zs,WyH F H z.1 z.2)) (h3:zs.length≤100) (h4:∀ (d:List Mrk→Addr) (c:List Mrk→Mrk→Addr) (H':Hp),Same H H'→TreeP dW H' (numW (zs.map (·.2))) d c→(∀ p,InT (numW (zs.map (·.2))) p→H (d p)=none)→Q (.ref (d [])) H'):E_tree_of K vs H Q
def Zhg (K:XFg):Sp:=fun vs H Q _=>E_tree_of K vs H Q
theorem Zk0 (B:Blt mg) (F:Fun K "tree_of" "tree_of" Zew f fd):FnOk P w K mg base CX0 1 f fd ["ways"] (Zhg K):=by
 refine F.ok sc_tree_of (fun vs H Q E h=>?_) (fun cdv A outer s H vs Q E hr h=>?_)
 · obtain ⟨D,F,zs,rfl,_⟩:=h
   rfl
 · obtain ⟨D,F,zs,rfl,eD,hz,lz,q⟩:=h
   refine ⟨_,(Zad (Zao (i:=1) sc_tree_of.nd rfl (Or.inl rfl) Zho)
    (Zad (ZaL Xbs rfl (Zjl rfl B.b_enumerate (Zaa (pv 0) Zab)) (ZaR rfl (Zai (Zag (i:=2) sc_tree_of.nd rfl (Or.inl rfl)) (Zai (Zag (i:=3) sc_tree_of.nd rfl (Or.inl rfl)) ZaG))) (Zad (Zao (i:=4) sc_tree_of.nd rfl (Or.inl rfl) (pv 1))
     (Zae (ZaL Xbs rfl (Zaz (pv 3)) (Zag (i:=5) sc_tree_of.nd rfl (Or.inl rfl)) (Zae (Zao (i:=4) sc_tree_of.nd rfl (Or.inl rfl) (Zas Zam (Zbl PySem.F.plainAttrs_dict PySem.F.slot_dict_setdefault PySem.F.type_dict_setdefault (ZmT (Zjf hr)) (pv 4) (Zaa (pv 5) (Zaa (Zat (Zaa (pv 2) (Zaa Zho Zab))) Zab))) Zaf (fun _ _=>rfl))))))))
    (Zae (Zar (pv 1))))),?_⟩
   try dsimp only [cxOf,Cx.nox,Cx.wish]
   refine fun t ht=>?_;obtain ⟨H1,qH1,s1,et⟩:=new_at (o:=.dT []) ht;rw [←qH1];refine g_in ?_;try dsimp only
   refine ⟨_,rfl,D,rfl,⟨_,s1 _ _ eD⟩,Zhz (xs:=zs.map fun z=>V.ref z.1) (fun i σ H'=>∃ (u2 u3 u4 u5:Option V) (d:List Mrk→Addr) (c:List Mrk→Mrk→Addr),σ=[some (.ref D),some (.ref t),u2,u3,u4,u5]∧Same H H'∧d []=t∧TreeP dW H' (numW ((zs.map (·.2)).take i)) d c∧∀ p,InT (numW ((zs.map (·.2)).take i)) p→H (d p)=none)
    ⟨none,none,none,none,fun _=>t,fun _ _=>t,rfl,s1,rfl,?_,fun p hp=>ht⟩ (fun i σ H' hv_=>by obtain ⟨_,_,_,_,_,_,_,s,_⟩:=hv_;exact SqL.of (s _ _ eD)) ?_ ?_⟩
   · have nil:∀ p,InT (numW ((zs.map (·.2)).take 0)) p→p=[]:=fun p hp=>by
      rcases hp with h | ⟨kw,h,_⟩
      · exact h
      · rw [Xaz] at h;cases h
     refine ⟨fun p hp=>?_,fun p m k hm=>?_,fun p p' hp hp' _=>(nil p hp).trans (nil p' hp').symm⟩
     · show H1 t=some (.dT (Za5 _ _ p))
       rw [et,Xaz];rfl
     · rw [Xaz] at hm;cases hm
   rotate_left
   · rintro σ H2 ⟨u2,u3,u4,u5,d,c,rfl,s2,rfl,T2,hn⟩
     rw [Xaa,←Xaa (f:=(·.2)),Xas] at T2 hn;exact ⟨_,rfl,q d c H2 s2 T2 hn⟩
   rintro i y T σ H2 hy hT ⟨u2,u3,u4,u5,d,c,rfl,s2,hd,T2,hn⟩;obtain ⟨z,hzi,rfl⟩:=getm hy;have mz:=Xah hzi;have hil:=(Xae.mp hzi).1
   have hwi:(zs.map (·.2))[i]?=some z.2:=by rw [Xag,hzi];rfl
   obtain ⟨H3,qH3,s3,eT⟩:=new_at (o:=.tup [.int (i:Int),.ref z.1]) hT;rw [←qH3];have s03:=s2.trans s3;obtain ⟨ms,f2,f3,_⟩:=(hz z mz).same s03;refine ⟨T,_,rfl,SqT.of eT,rfl,_,_,rfl,_,_,rfl,rfl,?_⟩;refine ⟨_,rfl,?_⟩;refine g_in ?_;try dsimp only
   refine ⟨_,rfl,z.1,rfl,⟨_,SqL.of f2⟩,ZaI (xs:=ms.map V.ref) (fun j σ H'=>∃ (u5:Option V) (d:List Mrk→Addr) (c:List Mrk→Mrk→Addr),σ=[some (.ref D),some (.ref t),some (.int (i:Int)),some (.ref z.1),some (.ref (d (z.2.take j))),u5]∧Same H H'∧RT mkV H' ms z.2∧H' z.1=some (.lst (ms.map V.ref))∧d []=t∧TreeP dW H' (numW ((zs.map (·.2)).take i)++[(i,z.2.take j)]) d c∧∀ p,InT (numW ((zs.map (·.2)).take i)++[(i,z.2.take j)]) p→H (d p)=none)
    ⟨u5,d,c,by rw [Xaz,hd];rfl,s03,f3,f2,hd,by rw [Xaz];exact (T2.sameW s3).begin,fun p hp=>hn p ?_⟩ (fun j σ H' _ hv_=>by obtain ⟨_,_,_,_,_,_,e,_⟩:=hv_;exact SqL.of e) ?_ ?_⟩
   · rw [Xaz] at hp
     rcases hp with h | ⟨kw,h1,h2⟩
     · exact .inl h
     · rcases Xaf.mp h1 with y | y
       · exact .inr ⟨kw,y,h2⟩
       · rw [Xaj.mp y] at h2
         exact .inl (List.prefix_nil.mp h2)
   rotate_left
   · rintro σ H4 ⟨u5,d,c,rfl,s4,_,_,hd4,T4,hn4⟩
     rw [Xaa,f3.len,Xas,←ZlX hwi] at T4 hn4;exact ⟨_,_,_,_,d,c,rfl,s4,hd4,T4,hn4⟩
   rintro j y σ H4 hy ⟨u5,d,c,rfl,s4,f4,e4,hd4,T4,hn4⟩;obtain ⟨mk,hmk,rfl⟩:=getm hy
   have hj:j<z.2.length:=by rw [←f3.len];exact (Xae.mp hmk).1
   have hmj:=Xab hj;have em:=f4.at_ j _ _ hmk hmj
   have tk:z.2.take (j+1)=z.2.take j++[z.2[j]]:=by rw [Xar,hmj];rfl
   generalize z.2[j]=m at hmj em tk;generalize hg:z.2.take j=g at T4 hn4 tk ⊢;have ing:InT (numW ((zs.map (·.2)).take i)++[(i,g)]) g:=.inr ⟨_,Xan _ (Xaj.mpr rfl),List.prefix_refl g⟩;have eB:=T4.dct g ing;have lk:=Ze8 (numW ((zs.map (·.2)).take i)++[(i,g)]) g
   have lk2:(numW ((zs.map (·.2)).take i)++[(i,g)]).length≤101:=by
    unfold numW;rw [Xac,Xaa,List.length_zipIdx,Xaw,Xaa,Xau];omega
   have lr:(Za5 (numW ((zs.map (·.2)).take i)++[(i,g)]) c g).length<sizeLine:=by unfold Za5;rw [Xaa];exact Zal (by omega)
   refine ⟨_,rfl,Or.inr (Or.inr (Or.inl ⟨rfl,Or.inr ⟨_,eB⟩⟩)),_,rfl,_,rfl,fun e he=>?_⟩;have s5:=Zak (o:=.dT []) he;have ee:(upd H4 e (.dT [])) e=some (.dT []):=upd_same;have hce:=he;generalize upd H4 e (.dT [])=H5 at s5 ee ⊢;refine ⟨ZaF,fun T5 hT5=>?_⟩;obtain ⟨H6,qH6,s6,eT5⟩:=new_at (o:=.tup [.int (i:Int),.ref e]) hT5;rw [←qH6];have s46:=s5.trans s6;refine ⟨d g,_,Zd4 m,mk,.ref T5,rfl,rfl,s46 _ _ eB,s46 _ _ em,lr,fun v hv=>?_,fun hv=>?_⟩
   · rw [Zcv] at hv
     by_cases hm:m∈(TreeM.keysAt (numW ((zs.map (·.2)).take i)++[(i,g)]) g).map (·.1)
     · rw [Xbf hm] at hv
       cases hv;obtain ⟨⟨m',k⟩,hk,rfl⟩:=Xai.mp hm;have et4:=T4.tup g m' k hk;refine Or.inr (Or.inl ⟨_,_,_,.ref (d (g++[m'])),rfl,rfl,SqT.of (s46 _ _ et4),rfl,?_⟩);refine ⟨some (.ref mk),d,c,by rw [tk];rfl,s4.trans s46,f4.same s46,s46 _ _ e4,hd4,by rw [tk];exact (T4.sameW s46).stay hm,fun p hp=>hn4 p ((Zdg hm).mp (by rw [tk] at hp;exact hp))⟩
     · rw [Xbe hm] at hv;cases hv
   · have hm:m ∉ (TreeM.keysAt (numW ((zs.map (·.2)).take i)++[(i,g)]) g).map (·.1):=fun hm=>by rw [Zcv,Xbf hm] at hv;cases hv
     obtain ⟨d',c',T7,hd7,hn7,h07⟩:=T4.grow hm hce hn4 (s4.free hce) s46 (s6 _ _ ee) eT5
     have ndg:∀ {b o},H b=some o→b≠d g:=fun {b o} hb z=>by rw [z,hn4 g ing] at hb;cases hb
     have s7:Same H (upd H6 (d g) (.dT (putK (Za5 (numW ((zs.map (·.2)).take i)++[(i,g)]) c g) (Zd4 m) (.ref T5)))):=fun b o hb=>by
      rw [Zah (ndg hb)];exact s46 _ _ (s4 _ _ hb)
     have eB6:=s46 _ _ eB
     have neT5:T5≠d g:=fun y=>by rw [y,eB6] at eT5;cases eT5
     refine Or.inr (Or.inl ⟨T5,_,_,.ref e,rfl,rfl,SqT.of (by rw [Zah neT5];exact eT5),rfl,?_⟩);refine ⟨some (.ref mk),d',c',by rw [tk,hd7];rfl,s7,⟨f4.len,fun n a b h1 h2=>?_⟩,?_,h07.trans hd4,by rw [tk];exact T7,by rw [tk];exact hn7⟩
     · have x:=s46 _ _ (f4.at_ n a b h1 h2)
       rw [Zah (ZfN x eB6 (fun z=>nomatch z))];exact x
     · have x:=s46 _ _ e4
       rw [Zah (ZfN x eB6 (fun z=>nomatch z))];exact x
variable (P w K mg base) in
abbrev Zda:Prop:=Zax P w K mg base "tree_of" 1 ["ways"] (Zhg K)
theorem Zi2 (B:Blt mg) (F:Fun K "tree_of" "tree_of" Zew f fd) (hm:mg "tree_of" = some (.ref f)):Zda P w K mg base :=
 ⟨f,fd,Zk0 B  F,hm,F.kp,F.binds fun _ _ _ _ _ _ us hl=>(by obtain ⟨x0,rfl⟩:=Zen hl;rfl)⟩
inductive E_label_at (K:XFg) (vs:List V) (H:Hp) (Q:VK):Prop where
 | mk (nt S T R mk:Addr) (us Gs Es:List Addr) (ss:List Sco) (m:Mrk) (h0:vs=[.ref nt,.ref mk]) (h1:SqT K H nt [.ref S,.ref T,.ref R]) (h2:Scs H S us Gs Es ss) (h3:SqT K H mk (mkV m)) (h4:MkOk ss m) (h5:Q (.str (Zcg ss m)) H):E_label_at K vs H Q
def Zgx (K:XFg):Sp:=fun vs H Q _=>E_label_at K vs H Q
theorem ZjF (B:Blt mg) (F:Fun K "label_at" "label_at" ZdO f fd):FnOk P w K mg base CX0 1 f fd ["net", "mark"] (Zgx K):=by
 refine F.ok sc_label_at (fun vs H Q E h=>?_) (fun cdv A outer s H vs Q E hr h=>?_)
 · obtain ⟨nt,S,T,R,mk,us,Gs,Es,ss,m,rfl,_⟩:=h
   rfl
 · obtain ⟨nt,S,T,R,mk,us,Gs,Es,ss,m,rfl,hT,hS,hm,⟨n,k,s',hn,hk,hs,hq⟩,q⟩:=h
   have hnl:n<ss.length:=(Xae.mp hs).1;obtain ⟨u,G,E1,g1,g2,g3,g4,⟨a1,⟨tG,b1,b2⟩,⟨tE,c1,c2⟩⟩⟩:=hS.get hnl;rw [hs] at g4;have es:=Xbd g4;rw [←es] at b2 c2
   have hat:atI (us.map V.ref) m.1=some (.ref u):=by rw [hn];exact ZaQ (by rw [Xag,g1];rfl)
   refine ⟨_,(Zad (Zdl (pv 1) (ZaR rfl (Zai (Zag (i:=2) sc_label_at.nd rfl (Or.inl rfl)) (Zai (Zag (i:=3) sc_label_at.nd rfl (Or.inl rfl)) (Zai (Zag (i:=4) sc_label_at.nd rfl (Or.inl rfl)) ZaG)))))
    (Zad (Zdl (Zas Zam (Zas Zam (pv 0) Zaf (fun _ _=>rfl)) (pv 2) (fun _ _=>rfl)) (ZaR rfl (Zai (Zag (i:=5) sc_label_at.nd rfl (Or.inl rfl)) (Zai (Zag (i:=6) sc_label_at.nd rfl (Or.inl rfl)) ZaG))))
    (Zad (ZaS (Zav Zcf (pv 3) Zaq (ZaD _)) (Zae (Zar (Zas Zam (Zas Zam (pv 5) (pv 4) (fun _ _=>rfl)) Zaf (fun _ _=>rfl)))) Zau)
    (Zae (Zar (Zas Zam (Zas Zam (pv 6) (pv 4) (fun _ _=>rfl)) Zaf (fun _ _=>rfl))))))),?_⟩
   try dsimp only [cxOf,Cx.nox,Cx.wish]
   refine ⟨_,rfl,mk,_,rfl,hm,rfl,_,_,rfl,_,_,rfl,_,_,rfl,rfl,?_⟩;refine ⟨_,rfl,Or.inr (Or.inl ⟨nt,_,_,.ref S,rfl,rfl,hT,rfl,_,rfl,Or.inl ⟨S,_,_,.ref u,rfl,rfl,SqL.of hS.top,hat,?_⟩⟩)⟩;refine ⟨u,_,rfl,SqT.of a1,rfl,_,_,rfl,_,_,rfl,rfl,?_⟩;refine ⟨_,rfl,rfl,_,rfl,ite2 (fun h=>?_) (fun h=>?_)⟩
   · have h1:m.2.1=("step" : Str):=V.str.inj (Xa8 h)
     rcases hq with ⟨_,hkl⟩ | ⟨e,_⟩
     · have hp:=Xab hkl
       rw [Zkg hn hk hs h1 hp] at q;have ht:tG[k]?=some (tG[k]'(by rw [b2.len];exact hkl)):=Xab _;have et:=b2.at_ _ _ _ ht hp
       have hatk:atI (tG.map V.ref) m.2.2=some (.ref (tG[k]'(by rw [b2.len];exact hkl))):=by rw [hk];exact ZaQ (by rw [Xag,ht];rfl)
       exact ⟨_,rfl,_,rfl,Or.inl ⟨G,_,_,_,rfl,rfl,SqL.of b1,hatk,Or.inr (Or.inl ⟨_,_,_,.str s'.1[k].1,rfl,rfl,SqT.of et,rfl,q⟩)⟩⟩
     · exact absurd (e.symm.trans h1) ZiG
   · have h1:m.2.1≠("step" : Str):=fun z=>h (Xa6 (by rw [z]))
     rcases hq with ⟨e,_⟩ | ⟨_,hkl⟩
     · exact absurd e h1
     · have hp:=Xab hkl
       rw [Zkh hn hk hs h1 hp] at q;have ht:tE[k]?=some (tE[k]'(by rw [c2.len];exact hkl)):=Xab _;have et:=c2.at_ _ _ _ ht hp
       have hatk:atI (tE.map V.ref) m.2.2=some (.ref (tE[k]'(by rw [c2.len];exact hkl))):=by rw [hk];exact ZaQ (by rw [Xag,ht];rfl)
       exact ⟨_,rfl,_,rfl,Or.inl ⟨E1,_,_,_,rfl,rfl,SqL.of c1,hatk,Or.inr (Or.inl ⟨_,_,_,.str s'.2[k].1,rfl,rfl,SqT.of et,rfl,q⟩)⟩⟩
variable (P w K mg base) in
abbrev Zd1:Prop:=Zax P w K mg base "label_at" 1 ["net", "mark"] (Zgx K)
theorem ZhZ (B:Blt mg) (F:Fun K "label_at" "label_at" ZdO f fd) (hm:mg "label_at" = some (.ref f)):Zd1 P w K mg base :=
 ⟨f,fd,ZjF B  F,hm,F.kp,F.binds fun _ _ _ _ _ _ us hl=>(by obtain ⟨x0,x1,rfl⟩:=Zd5 hl;rfl)⟩
theorem Zks {bet:Mrk→Mrk→Bool}{ws:TreeM.Ws Mrk}{a:List Mrk}{m:Mrk}{t:List Mrk}:TreeM.gat bet ws a (m :: t)=((TreeM.keysAt ws a).filter fun xk=>bet xk.1 m).map (·.2)++TreeM.gat bet ws (a++[m]) t:=rfl
theorem Zmg {bet:Mrk→Mrk→Bool}{ws:TreeM.Ws Mrk}:∀ {b a:List Mrk},(TreeM.gat bet ws a b).length≤b.length * ws.length
 | [],_=>Xa1 _
 | m :: t,a=>by
   rw [Zks,Xac,Xaa,XaB];have h1:=XaU (fun xk:Mrk×Nat=>bet xk.1 m) (TreeM.keysAt ws a);have h2:=Ze8 ws a;have h3:=Zmg (bet:=bet) (ws:=ws) (b:=t) (a:=a++[m]);rw [Nat.add_mul,Nat.one_mul];omega
inductive E_first_hider (K:XFg) (vs:List V) (H:Hp) (Q:VK):Prop where
 | mk (nt S T R bp l:Addr) (us Gs Es:List Addr) (ss:List Sco) (ord:List (Str×Str)) (ws:TreeM.Ws Mrk) (d:List Mrk→Addr) (c:List Mrk→Mrk→Addr) (F:Addr→Prop) (w:List Mrk) (h0:vs=[.ref nt,.ref bp,.ref (d []),.ref l]) (h1:H nt=some (.tup [.ref S,.ref T,.ref R])) (h2:Scs H S us Gs Es ss) (h3:BetD H bp ord) (h4:TreeP dF H ws d c) (h5:ws.length≤100) (h6:(∀ kw∈ws,∀ m∈kw.2,MkOk ss m)) (h7:WyH F H l w) (h8:Zdq ss w) (h9:∀ H',Same H H'→Q (Zg9 ((TreeM.gat (betM ss ord) ws [] w).map fun k:Nat=>(k:Int))) H'):E_first_hider K vs H Q
def Zeh (K:XFg):Sp:=fun vs H Q _=>E_first_hider K vs H Q
theorem ZgR (B:Blt mg) (c_label_at:Zd1 P w K mg base) (F:Fun K "first_hider" "first_hider" Zcd f fd):FnOk P w K mg base CX0 2 f fd ["net", "better", "tree", "way"] (Zeh K):=by
 refine F.ok sc_first_hider (fun vs H Q E h=>?_) (fun cdv A outer s H vs Q E hr h=>?_)
 · obtain ⟨nt,S,T,R,bp,l,us,Gs,Es,ss,ord,ws,d,c,F,w,rfl,_⟩:=h
   rfl
 · obtain ⟨nt,S,T,R,bp,l,us,Gs,Es,ss,ord,ws,d,c,F,w,rfl,eN,SC,BD,TT,lws,okw,⟨ms,el,rl,_⟩,ok,q⟩:=h
   obtain ⟨kb,eb,hb⟩:=BD
   refine ⟨_,(Zad (Zao (i:=4) sc_first_hider.nd rfl (Or.inl rfl) (ZaM Zab))
    (Zad (Zao (i:=5) sc_first_hider.nd rfl (Or.inl rfl) (pv 2))
    (Zad (ZaL Xbs rfl (Zaz (pv 3)) (Zag (i:=6) sc_first_hider.nd rfl (Or.inl rfl)) (Zad (Zao (i:=7) sc_first_hider.nd rfl (Or.inl rfl) (ZaC c_label_at (hr.mono (by decide)) rfl (Zaa (pv 0) (Zaa (pv 6) Zab))))
     (Zad (ZaL Xbs rfl (pi_dict (pv 5)) (Zag (i:=8) sc_first_hider.nd rfl (Or.inl rfl)) (Zae (ZaS (Zav (Zlt (Zjf hr)) (Zat (Zaa (ZaC c_label_at (hr.mono (by decide)) rfl (Zaa (pv 0) (Zaa (pv 8) Zab))) (Zaa (pv 7) Zab))) (pv 1) (by with_unfolding_all rfl)) (Zae (ZaB (Zbl Xa9 Xba Xbb Zaw (pv 4) (Zaa (Zas Zam (pe_dget (Zjf hr) (pv 5) (pv 8) (fun _ _=>rfl)) Zaf (fun _ _=>rfl)) Zab)))) Zau)))
     (Zae (Zao (i:=5) sc_first_hider.nd rfl (Or.inl rfl) (Zas Zam (Zmt (Zjf hr) (pv 5) (pv 6) (Zat (Zaa Zaf (Zaa Zho Zab))) ⟨rfl,rfl,rfl,rfl⟩) Zaf (fun _ _=>rfl)))))))
    (Zae (Zar (pe_minD rfl (by rfl) B.b_min (Zaa (pv 4) Zab))))))),?_⟩
   try dsimp only [cxOf,Cx.nox,Cx.wish]
   refine ⟨by decide,fun N hN=>?_⟩;obtain ⟨H1,qH1,s1,eN1⟩:=new_at (o:=.lst []) hN;rw [←qH1];refine g_in ?_;try dsimp only
   refine ⟨_,rfl,?_⟩;refine g_in ?_;try dsimp only
   refine ⟨_,rfl,l,rfl,⟨_,SqL.of (s1 _ _ el)⟩,ZaI (xs:=ms.map V.ref) (fun j σ H'=>∃ (a:Addr) (u6 u7 u8:Option V) (ns:List Nat),σ=[some (.ref nt),some (.ref bp),some (.ref (d [])),some (.ref l),some (.ref N),some (.ref a),u6,u7,u8]∧Same H H'∧H' N=some (.lst ((ns.map fun k:Nat=>(k:Int)).map V.int))∧ns++TreeM.gat (betM ss ord) ws (w.take j) (w.drop j)=TreeM.gat (betM ss ord) ws [] w∧a≠N∧((InT ws (w.take j)∧a=d (w.take j))∨(¬InT ws (w.take j)∧H a=none∧Rd H' a (.dT []))))
    ⟨d [],none,none,none,[],rfl,s1,eN1,rfl,?_,.inl ⟨.inl rfl,rfl⟩⟩ (fun j σ H' _ hv_=>by obtain ⟨_,_,_,_,_,_,s,_⟩:=hv_;exact SqL.of (s _ _ el)) ?_ ?_⟩
   · obtain ⟨o,x⟩:=TT.dct [] (.inl rfl)
     exact Zac x hN
   rotate_left
   · rintro σ H2 ⟨a,u6,u7,u8,ns,rfl,s2,eN2,hg,_⟩
     rw [Xaa,rl.len,List.drop_length] at hg;have hg:ns=_:=(XaH ns).symm.trans hg;subst hg;exact ⟨_,rfl,N,_,rfl,eN2,q H2 s2⟩
   rintro j y σ H2 hy ⟨a,u6,u7,u8,ns,rfl,s2,eN2,hg,haN,hbr⟩;obtain ⟨mk,hmk,rfl⟩:=getm hy
   have hj:j<w.length:=by rw [←rl.len];exact (Xae.mp hmk).1
   have hmj:=Xab hj;have em:=rl.at_ j _ _ hmk hmj;have okm:=ok.1 _ (Xav hj)
   have tk:w.take (j+1)=w.take j++[w[j]]:=by rw [Xar,hmj];rfl
   have dk:w.drop j=w[j] :: w.drop (j+1):=XaL hj;rw [dk,Zks] at hg;generalize w[j]=m at hmj em tk okm hg;generalize hgo:w.take j=g at tk hg hbr ⊢;refine ⟨_,rfl,_,rfl,nt,S,T,R,mk,us,Gs,Es,ss,m,rfl,SqT.of (s2 _ _ eN),SC.same s2,SqT.of (s2 _ _ em),okm,?_⟩;refine g_in ?_;try dsimp only
   have hrd:Rd H2 a (.dT (Za5 ws c g)):=by
    rcases hbr with ⟨h1,h2⟩ | ⟨h1,_,h2⟩
    · obtain ⟨o,x⟩:=TT.dct g h1
      rw [h2];exact .inr ⟨o,s2 _ _ x⟩
    · unfold Za5;rw [Zki h1];exact h2
   refine Zdd (fun σ' H'=>∃ (u8:Option V),σ'=[some (.ref nt),some (.ref bp),some (.ref (d [])),some (.ref l),some (.ref N),some (.ref a),some (.ref mk),some (.str (Zcg ss m)),u8]∧Same H H'∧H' N=some (.lst (((ns++((TreeM.keysAt ws g).filter fun xk=>betM ss ord xk.1 m).map (·.2)).map fun k:Nat=>(k:Int)).map V.int))∧Rd H' a (.dT (Za5 ws c g))) ?_ (fun N' hN'=>?_)
   case refine_2 =>
    refine ⟨_,rfl,a,_,rfl,hrd,fun o ho=>?_⟩
    have s3 : Same H (upd H2 a (.frz o (.dT (Za5 ws c g)))) := fun b u e => by
     by_cases hb':b=a
     · subst hb'
       rw [upd_same]
       rcases hbr with ⟨h1,h2⟩ | ⟨_,h2,_⟩
       · obtain ⟨o',x⟩:=TT.dct g h1
         rw [←h2] at x;have x2:=s2 _ _ x
         rcases ho with ho | ho
         · rw [x2] at ho;cases ho
         · rw [x2] at ho;cases ho;rw [x] at e;exact e
       · rw [e] at h2;cases h2
     · rw [Zah hb'];exact s2 _ _ e
    have eN3:(upd H2 a (.frz o (.dT (Za5 ws c g)))) N=_:=(Zah (Ne.symm haN)).trans eN2;have ea3:(upd H2 a (.frz o (.dT (Za5 ws c g)))) a=some (.frz o (.dT (Za5 ws c g))):=upd_same;generalize upd H2 a (.frz o (.dT (Za5 ws c g)))=H3 at s3 eN3 ea3 ⊢
    refine ZmU (fun i σ H'=>∃ (u8:Option V),σ=[some (.ref nt),some (.ref bp),some (.ref (d [])),some (.ref l),some (.ref N),some (.ref a),some (.ref mk),some (.str (Zcg ss m)),u8]∧Same H H'∧H' N=some (.lst (((ns++(((TreeM.keysAt ws g).take i).filter fun xk=>betM ss ord xk.1 m).map (·.2)).map fun k:Nat=>(k:Int)).map V.int))∧H' a=some (.frz o (.dT (Za5 ws c g))))
     ⟨_,rfl,s3,by rw [Xaz];show H3 N=some (.lst (((ns++[]).map _).map _));rw [XaH];exact eN3,ea3⟩ (fun i σ H' _ hv_=>by obtain ⟨_,_,_,_,e⟩:=hv_;exact e) ?_ ?_
    rotate_left
    · rintro σ H4 ⟨u8',rfl,s4,eN4,ea4⟩
      unfold Za5 at eN4;rw [Xaa,Xas] at eN4;exact hN' _ _ ⟨u8',rfl,s4,eN4,.inr ⟨o,ea4⟩⟩
    rintro i k v b σ H4 hi eb4 ⟨u8',rfl,s4,eN4,ea4⟩;unfold Za5 at hi;rw [Xag] at hi;obtain ⟨⟨x,kk⟩,hx,e⟩:=XaV.mp hi;have e1:=Xbk Prod.fst e;have e2:=Xbk Prod.snd e;dsimp only at e1 e2;subst e1 e2;have mx:=Xah hx;have inx:x∈(TreeM.keysAt ws g).map (·.1):=Xai.mpr ⟨_,mx,rfl⟩
    have okx:MkOk ss x:=by
     obtain ⟨kw,h1,h2⟩:=TreeM.keysAt_mem.mp inx;exact okw kw h1 x (h2.subset (by simp))
    have etx:=TT.tup g x kk mx
    have ing:InT ws g:=by
     obtain ⟨kw,h1,h2⟩:=TreeM.keysAt_mem.mp inx;exact .inr ⟨kw,h1,(XaQ g _).trans h2⟩
    have tki:(TreeM.keysAt ws g).take (i+1)=(TreeM.keysAt ws g).take i++[(x,kk)]:=by rw [Xar,hx];rfl
    refine ⟨_,rfl,_,rfl,nt,S,T,R,b,us,Gs,Es,ss,x,rfl,SqT.of (s4 _ _ eN),SC.same s4,SqT.of eb4,okx,?_⟩;refine ⟨_,rfl,ZaF,fun p hp=>?_⟩;obtain ⟨H5,qH5,s5,ep⟩:=new_at (o:=.tup [.str (Zcg ss x),.str (Zcg ss m)]) hp;rw [←qH5];have s05:=s4.trans s5;refine ⟨_,rfl,bp,_,rfl,DGet.t (k:=keyP (Zcg ss x,Zcg ss m)) (s05 _ _ eb) ep,_,rfl,?_⟩;rw [hb];refine ite2 (fun h=>?_) (fun h=>?_)
    · have hbx:betM ss ord x m=true:=by simpa [betM] using h
      refine ⟨_,rfl,Or.inl ⟨rfl,_,SqL.of (s5 _ _ eN4)⟩,_,rfl,_,rfl,a,.ref (c g x),rfl,?_,Or.inr (Or.inl ⟨_,_,_,.int (kk:Int),rfl,rfl,SqT.of (s05 _ _ etx),rfl,N,_,_,rfl,rfl,s5 _ _ eN4,?_,?_⟩)⟩
      · refine .inr ⟨_,Zd4 x,b,.inr ⟨o,s5 _ _ ea4⟩,rfl,s5 _ _ eb4,?_⟩
        rw [Zcv,Xbf inx]
      · rw [Xaa,Xaa,Xac,Xaa]
        have h1:=XaU (fun xk:Mrk×Nat=>betM ss ord xk.1 m) ((TreeM.keysAt ws g).take i);have h2:=Ze8 ws g
        have h3:(((TreeM.keysAt ws g).take i)).length≤(TreeM.keysAt ws g).length:=by rw [Xaw];omega
        have h4:=Xbk List.length hg;have h5:=Zmg (bet:=betM ss ord) (ws:=ws) (b:=w) (a:=[]);have h6:w.length * ws.length≤5 * 100:=Nat.mul_le_mul ok.2 lws;rw [Xac] at h4;exact Zal (by omega)
      · refine ⟨_,rfl,fun b' u e=>?_,?_,?_⟩
        · rw [Zah (Zac e hN)];exact s05 _ _ e
        · rw [upd_same,tki,XaS,XaM,Xbf hbx]
          simp
        · rw [Zah haN];exact s5 _ _ ea4
    · have hbx:¬betM ss ord x m=true:=by simpa [betM] using h
      refine ⟨_,rfl,s05,?_,s5 _ _ ea4⟩;rw [tki,XaS,XaM,Xbe hbx]
      simpa using s5 _ _ eN4
   rintro σ' H3 ⟨u8',rfl,s3,eN3,hrd3⟩;have hdr:((Za5 ws c g).map (·.1)).length=(Za5 ws c g).length:=Xaa _;refine ⟨_,rfl,a,rfl,.inr ⟨_,hrd3⟩,_,rfl,fun e he=>?_⟩;obtain ⟨H4,qH4,s4,ee⟩:=new_at (o:=.dT []) he;rw [←qH4];refine ⟨ZaF,fun T5 hT5=>?_⟩;obtain ⟨H5,qH5,s5,eT5⟩:=new_at (o:=.tup [.int 0,.ref e]) hT5;rw [←qH5];have s35:=s4.trans s5;have s05:=s3.trans s35;have hrd5:Rd H5 a (.dT (Za5 ws c g)):=hrd3.elim (fun z=>.inl (s35 _ _ z)) fun ⟨o,z⟩=>.inr ⟨o,s35 _ _ z⟩
   have neN:e≠N:=fun z=>by rw [z,eN3] at he;cases he
   refine ⟨_,.inr ⟨_,Zd4 m,mk,hrd5,rfl,s05 _ _ em,rfl⟩,?_⟩;rw [Zcv]
   have hg':(ns++((TreeM.keysAt ws g).filter fun xk=>betM ss ord xk.1 m).map (·.2))++TreeM.gat (betM ss ord) ws (g++[m]) (w.drop (j+1))=TreeM.gat (betM ss ord) ws [] w:=by rw [XaE];exact hg
   by_cases hm:m∈(TreeM.keysAt ws g).map (·.1)
   · rw [Xbf hm]
     obtain ⟨⟨m',k⟩,hk,rfl⟩:=Xai.mp hm;have et4:=TT.tup g m' k hk;have inm:=in_key.mpr hm;refine Or.inr (Or.inl ⟨_,_,_,.ref (d (g++[m'])),rfl,rfl,SqT.of (s05 _ _ et4),rfl,?_⟩);refine ⟨_,_,_,_,_,rfl,s05,s35 _ _ eN3,by rw [tk];exact hg',?_,.inl ⟨by rw [tk];exact inm,by rw [tk]⟩⟩;obtain ⟨o,x⟩:=TT.dct _ inm;exact Zac x hN
   · rw [Xbe hm]
     refine Or.inr (Or.inl ⟨T5,_,_,.ref e,rfl,rfl,SqT.of eT5,rfl,?_⟩);exact ⟨_,_,_,_,_,rfl,s05,s35 _ _ eN3,by rw [tk];exact hg',neN,.inr ⟨fun z=>hm (in_key.mp (by rw [tk] at z;exact z)),s3.free he,.inl (s5 _ _ ee)⟩⟩
variable (P w K mg base) in
abbrev Zbx:Prop:=Zax P w K mg base "first_hider" 2 ["net", "better", "tree", "way"] (Zeh K)
theorem ZfE (B:Blt mg) (c_label_at:Zd1 P w K mg base) (F:Fun K "first_hider" "first_hider" Zcd f fd) (hm:mg "first_hider" = some (.ref f)):Zbx P w K mg base :=
 ⟨f,fd,ZgR B c_label_at F,hm,F.kp,F.binds fun _ _ _ _ _ _ us hl=>(by obtain ⟨x0,x1,x2,x3,rfl⟩:=ZhK hl;rfl)⟩
inductive E_seen_ways (K:XFg) (vs:List V) (H:Hp) (Q:VK):Prop where
 | mk (nt S T R t D:Addr) (us Gs Es:List Addr) (ss:List Sco) (F G:Addr→Prop) (sts:List Stt) (inn:Int) (ord:List (Str×Str)) (zs:List (Addr×List Mrk)) (h0:vs=[.ref nt,.ref t,.ref D]) (h1:H nt=some (.tup [.ref S,.ref T,.ref R])) (h2:Scs H S us Gs Es ss) (h3:Tab K F H t sts inn ord) (h4:ord.length≤40) (h5:(∀ x,(x,x) ∉ ord)) (h6:H D=some (.lst (zs.map fun z=>V.ref z.1))) (h7:(∀ z∈zs,WyH G H z.1 z.2)) (h8:(∀ z∈zs,Zdq ss z.2)) (h9:zs.length≤100) (h10:∀ (P:Addr) (ys:List (Addr×List Mrk)) (H':Hp),H P=none→Same H H'→H' P=some (.lst (ys.map fun z=>V.ref z.1))→(∀ z∈ys,WyH (fun l=>H l=none∧l≠P) H' z.1 z.2)→ys.map (·.2)=ZbK ss ord (zs.map (·.2)) (zs.map (·.2))→Q (.ref P) H'):E_seen_ways K vs H Q
def Zfw (K:XFg):Sp:=fun vs H Q _=>E_seen_ways K vs H Q
theorem Zi3 (B : Blt mg) (c_better_pairs : Zbc P w K mg base) (c_tree_of : Zda P w K mg base) (c_first_hider : Zbx P w K mg base) (F : Fun K "seen_ways" "seen_ways" Zcp f fd) : FnOk P w K mg base CX0 3 f fd ["net", "table", "ways"] (Zfw K) := by
 refine F.ok sc_seen_ways (fun vs H Q E h=>?_) (fun cdv A outer s H vs Q E hr h=>?_)
 · obtain ⟨nt,S,T,R,t,D,us,Gs,Es,ss,F,G,sts,inn,ord,zs,rfl,_⟩:=h
   rfl
 · obtain ⟨nt,S,T,R,t,D,us,Gs,Es,ss,F,G,sts,inn,ord,zs,rfl,eN,SC,TB,ol,irr,eD,hz,hzo,lz,q⟩:=h
   refine ⟨_,(Zad (Zao (i:=3) sc_seen_ways.nd rfl (Or.inr rfl) (ZaC c_better_pairs (hr.mono (by decide)) rfl (Zaa (pv 1) Zab)))
    (Zad (Zao (i:=4) sc_seen_ways.nd rfl (Or.inr rfl) (pe_frz (ZaC c_tree_of (hr.mono (by decide)) rfl (Zaa (pv 2) Zab))))
    (Zae (Zar (ZcY (te:=tCB (Zdf K) (Zd3 (tVar 0) tNil)) rfl seen_ways_cs1 (Zaz (pv 2)) (fun _ _ _ _ _=>(Zag (i:=0) seen_ways_cs1.nd rfl (Or.inl rfl))) (fun _ _ _ _ _=>(pf_one (Zh8 (Zk5 (ZaC c_first_hider (hr.mono (by decide)) rfl (Zaa (pv 1) (Zaa (pv 2) (Zaa (pv 3) (Zaa (pv 0) Zab))))))))) (fun _ _ _ _ _=>(ZaJ ZaK (by rfl) B.b_list (by decide +kernel) (Zaa (pv 0) Zab)))))))),?_⟩
   try dsimp only [cxOf,Cx.nox,Cx.wish]
   refine ⟨_,rfl,t,F,sts,inn,ord,rfl,TB,ol,fun bp H1 hbp s1 BD=>?_⟩;refine g_in ?_;try dsimp only
   refine ⟨_,rfl,D,G,zs,rfl,s1 _ _ eD,fun z h=>(hz z h).same s1,lz,fun d c H2 s2 T2 hn2 H3 f3 f4=>?_⟩;have s3:=f3.same s2;have T3:=T2.frz hn2 f3 f4;have BD3:=BD.same s3;clear T2 hn2 f3 f4 s2 BD;have s03:=s1.trans s3;refine g_in ?_;try dsimp only
   have lw:(numW (zs.map (·.2))).length≤100:=by unfold numW;rw [Xaa,List.length_zipIdx,Xaa];exact lz
   have okw:∀ kw∈numW (zs.map (·.2)),∀ m∈kw.2,MkOk ss m:=fun kw hkw m hm=>by
    obtain ⟨z,h1,h2⟩:=Xai.mp (Xah (numW_mem.mp hkw));exact (hzo z h1).1 m (by rw [h2];exact hm)
   refine ⟨_,rfl,D,rfl,⟨_,SqL.of (s03 _ _ eD)⟩,Zg2 (xs:=zs.map fun z=>V.ref z.1) (fun P i ys H'=>∃ vs:List (Addr×List Mrk),ys=(vs.map fun z=>V.ref z.1)∧Same H3 H'∧H' P=some (.lst ys)∧(∀ z∈vs,WyH (fun l=>H l=none∧l≠P) H' z.1 z.2)∧vs.map (·.2)=ZbK ss ord (zs.map (·.2)) ((zs.map (·.2)).take i)∧vs.length≤i)
    (fun P hP=>⟨[],rfl,Zak hP,upd_same,fun z hz=>by simp at hz,by rw [Xaz];rfl,XaW _⟩) (fun P i ys H' hv_=>by obtain ⟨_,_,s,_⟩:=hv_;exact SqL.of (s _ _ (s03 _ _ eD))) (fun P i y ys H4 RR R0 hP hy hv k k0=>?_) (fun P ys H4 hP hv=>?_)⟩
   · obtain ⟨vs,rfl,s4,eP,hvs,hvm,lv⟩:=hv
     obtain ⟨z,hzi,rfl⟩:=getm hy;have hil:i<zs.length:=(Xae.mp hzi).1;have mz:=Xah hzi
     have hwi:(zs.map (·.2))[i]?=some z.2:=by rw [Xag,hzi];rfl
     have s04:=s03.trans s4;refine ⟨_,rfl,_,rfl,_,rfl,_,rfl,nt,S,T,R,bp,z.1,us,Gs,Es,ss,ord,_,d,c,G,z.2,rfl,s04 _ _ eN,SC.same s04,BD3.same s4,T3.same s4,lw,okw,(hz z mz).same s04,hzo z mz,fun H5 s5=>?_⟩;have s35:=s4.trans s5;have s05:=s03.trans s35;have eP5:=s5 _ _ eP;refine ⟨_,rfl,ite2 (fun h=>?_) (fun h=>?_)⟩
     · have hany:=(ZlZ irr).mp (least_non.mp (Xa8 h))
       obtain ⟨ms,f2,f3,_⟩:=(hz z mz).same s05;refine ⟨_,rfl,z.1,_,rfl,Or.inl (SqL.of f2),fun l hl=>?_⟩;obtain ⟨H6,qH6,s6,el⟩:=new_at (o:=.lst (ms.map V.ref)) hl;rw [←qH6];have eP6:=s6 _ _ eP5
       have nlP:l≠P:=fun y=>by rw [y,eP5] at hl;cases hl
       have kP:Keeps (·=P) H6 (upd H6 P (.lst (vs.map (fun z=>V.ref z.1)++[.ref l]))):=Keeps.one eP6;refine k _ _ eP6 (by rw [Xaa];exact Zal (by omega)) ⟨vs++[(l,z.2)],by rw [Xad];rfl,fun b o e=>?_,upd_same,fun w hw'=>?_,?_,by rw [Xac,Xau];omega⟩
       · rw [Zah (Zac e hP)];exact s6 _ _ (s35 _ _ e)
       · rcases Xaf.mp hw' with h | h
         · exact ((hvs w h).same (s5.trans s6)).keeps kP fun x hx=>hx.2
         · rw [Xaj.mp h]
           exact ⟨ms,kP.at_ _ _ el nlP,(f3.same s6).keeps kP,s05.free hl,nlP⟩
       · rw [ZiO hwi,Xbe (by rw [hany];exact Xbc),Xad,hvm];rfl
     · have hany:((zs.map (·.2)).any fun v=>ZaO ss ord v z.2)=true:=by
        cases e:(zs.map (·.2)).any fun v=>ZaO ss ord v z.2 with
        | true=>rfl
        | false=>exact absurd (Xa6 (least_non.mpr ((ZlZ irr).mpr e))) h
       exact k0 _ ⟨vs,rfl,s35,eP5,fun w hw=>(hvs w hw).same s5,by rw [ZiO hwi,Xbf hany];exact hvm,by omega⟩
   obtain ⟨vs,rfl,s4,eP,hvs,hvm,lv⟩:=hv;rw [Xaa,←Xaa (f:=(·.2)),Xas] at hvm;exact q P vs H4 ((s03).free hP) (s03.trans s4) eP hvs hvm
variable (P w K mg base) in
abbrev ZbR:Prop:=Zax P w K mg base "seen_ways" 3 ["net", "table", "ways"] (Zfw K)
theorem ZgS (B:Blt mg) (c_better_pairs:Zbc P w K mg base) (c_tree_of:Zda P w K mg base) (c_first_hider:Zbx P w K mg base) (F:Fun K "seen_ways" "seen_ways" Zcp f fd) (hm:mg "seen_ways" = some (.ref f)):ZbR P w K mg base :=
 ⟨f,fd,Zi3 B c_better_pairs c_tree_of c_first_hider F,hm,F.kp,F.binds fun _ _ _ _ _ _ us hl=>(by obtain ⟨x0,x1,x2,rfl⟩:=ZgF hl;rfl)⟩
inductive E_hidden_ways (K:XFg) (vs:List V) (H:Hp) (Q:VK):Prop where
 | mk (nt S T R t D:Addr) (us Gs Es:List Addr) (ss:List Sco) (F G:Addr→Prop) (sts:List Stt) (inn:Int) (ord:List (Str×Str)) (zs:List (Addr×List Mrk)) (h0:vs=[.ref nt,.ref t,.ref D]) (h1:H nt=some (.tup [.ref S,.ref T,.ref R])) (h2:Scs H S us Gs Es ss) (h3:Tab K F H t sts inn ord) (h4:ord.length≤40) (h5:(∀ x,(x,x) ∉ ord)) (h6:H D=some (.lst (zs.map fun z=>V.ref z.1))) (h7:(∀ z∈zs,WyH G H z.1 z.2)) (h8:(∀ z∈zs,Zdq ss z.2)) (h9:zs.length≤100) (h10:∀ (P:Addr) (ys:List (Addr×List Mrk×List Mrk)) (H':Hp),H P=none→Same H H'→H' P=some (.lst (ys.map fun z=>V.ref z.1))→(∀ z∈ys,RwH (fun l=>H l=none∧l≠P) H' z.1 z.2)→ys.map (·.2)=ZiQ ss ord (zs.map (·.2)) (zs.map (·.2))→Q (.ref P) H'):E_hidden_ways K vs H Q
def Zei (K:XFg):Sp:=fun vs H Q _=>E_hidden_ways K vs H Q
theorem ZgT (B:Blt mg) (c_better_pairs:Zbc P w K mg base) (c_seen_ways:ZbR P w K mg base) (c_tree_of:Zda P w K mg base) (c_first_hider:Zbx P w K mg base) (F:Fun K "hidden_ways" "hidden_ways" Zce f fd):FnOk P w K mg base CX0 4 f fd ["net", "table", "ways"] (Zei K):=by
 refine F.ok sc_hidden_ways (fun vs H Q E h=>?_) (fun cdv A outer s H vs Q E hr h=>?_)
 · obtain ⟨nt,S,T,R,t,D,us,Gs,Es,ss,F,G,sts,inn,ord,zs,rfl,_⟩:=h
   rfl
 · obtain ⟨nt,S,T,R,t,D,us,Gs,Es,ss,F,G,sts,inn,ord,zs,rfl,eN,SC,TB,ol,irr,eD,hz,hzo,lz,q⟩:=h
   refine ⟨_,(Zad (Zao (i:=3) sc_hidden_ways.nd rfl (Or.inl rfl) (ZaC c_better_pairs (hr.mono (by decide)) rfl (Zaa (pv 1) Zab)))
    (Zad (Zao (i:=4) sc_hidden_ways.nd rfl (Or.inl rfl) (ZaC c_seen_ways (hr.mono (by decide)) rfl (Zaa (pv 0) (Zaa (pv 1) (Zaa (pv 2) Zab)))))
    (Zad (Zao (i:=5) sc_hidden_ways.nd rfl (Or.inl rfl) (pe_frz (ZaC c_tree_of (hr.mono (by decide)) rfl (Zaa (pv 4) Zab))))
    (Zad (Zao (i:=6) sc_hidden_ways.nd rfl (Or.inl rfl) (ZaM Zab))
    (Zad (ZaL Xbs rfl (Zaz (pv 2)) (Zag (i:=7) sc_hidden_ways.nd rfl (Or.inl rfl)) (Zad (Zao (i:=8) sc_hidden_ways.nd rfl (Or.inl rfl) (ZaC c_first_hider (hr.mono (by decide)) rfl (Zaa (pv 0) (Zaa (pv 3) (Zaa (pv 5) (Zaa (pv 7) Zab))))))
     (Zae (ZaS (Zh8 (Zk6 (pv 8))) (Zae (ZaB (Zbl Xa9 Xba Xbb Zaw (pv 6) (Zaa (Zat (Zaa (ZaJ ZaK (by rfl) B.b_list (by decide +kernel) (Zaa (pv 7) Zab)) (Zaa (ZaJ ZaK (by rfl) B.b_list (by decide +kernel) (Zaa (Zas Zam (pv 4) (pv 8) (fun _ _=>rfl)) Zab)) Zab))) Zab)))) Zau))))
    (Zae (Zar (pv 6)))))))),?_⟩
   try dsimp only [cxOf,Cx.nox,Cx.wish]
   refine ⟨_,rfl,t,F,sts,inn,ord,rfl,TB,ol,fun bp H1 hbp s1 BD=>?_⟩;refine g_in ?_;try dsimp only
   refine ⟨_,rfl,_,rfl,_,rfl,nt,S,T,R,t,D,us,Gs,Es,ss,F,G,sts,inn,ord,zs,rfl,s1 _ _ eN,SC.same s1,TB.same s1,ol,irr,s1 _ _ eD,fun z h=>(hz z h).same s1,hzo,lz,fun SP sp H2 hSP s2 eSP hsp hsm=>?_⟩;refine g_in ?_;try dsimp only
   have lsp:sp.length≤100:=by
    have:=Xbk List.length hsm
    rw [Xaa] at this;have h2:=Zkk (ss:=ss) (ord:=ord) (all:=zs.map (·.2)) (l:=zs.map (·.2));rw [Xaa] at h2;omega
   have spo:∀ z∈sp,Zdq ss z.2:=fun z h=>by
    have:z.2∈ZbK ss ord (zs.map (·.2)) (zs.map (·.2)):=by rw [←hsm];exact Xai.mpr ⟨z,h,rfl⟩
    obtain ⟨z',h1,h2⟩:=Xai.mp (XaK.mp this).1;rw [←h2];exact hzo z' h1
   refine ⟨_,rfl,SP,_,sp,rfl,eSP,hsp,lsp,fun d c H3 s3 T3 hn3 H4 f3 f4=>?_⟩;have s4:=f3.same s3;have T4:=T3.frz hn3 f3 f4;clear T3 hn3 f3 f4 s3;have s24:=s2.trans s4;have s04:=s1.trans s24;refine g_in ?_;try dsimp only
   have lw:(numW (sp.map (·.2))).length≤100:=by unfold numW;rw [Xaa,List.length_zipIdx,Xaa];exact lsp
   have okw:∀ kw∈numW (sp.map (·.2)),∀ m∈kw.2,MkOk ss m:=fun kw hkw m hm=>by
    obtain ⟨z,h1,h2⟩:=Xai.mp (Xah (numW_mem.mp hkw));exact (spo z h1).1 m (by rw [h2];exact hm)
   refine ⟨by decide,fun P hP=>?_⟩;obtain ⟨H5,qH5,s5,eP5⟩:=new_at (o:=.lst []) hP;rw [←qH5];refine g_in ?_;try dsimp only
   have s05:=s04.trans s5
   refine ⟨_,rfl,D,rfl,⟨_,SqL.of (s05 _ _ eD)⟩,ZaI (xs:=zs.map fun z=>V.ref z.1) (fun i σ H'=>∃ (u7 u8:Option V) (vs:List (Addr×List Mrk×List Mrk)),σ=[some (.ref nt),some (.ref t),some (.ref D),some (.ref bp),some (.ref SP),some (.ref (d [])),some (.ref P),u7,u8]∧Same H4 H'∧H' P=some (.lst (vs.map fun z=>V.ref z.1))∧(∀ z∈vs,RwH (fun l=>H l=none∧l≠P) H' z.1 z.2)∧vs.map (·.2)=ZiQ ss ord (zs.map (·.2)) ((zs.map (·.2)).take i)∧vs.length≤i)
    ⟨none,none,[],rfl,s5,eP5,fun z hz=>by simp at hz,by rw [Xaz];rfl,XaW _⟩ (fun i σ H' _ hv_=>by obtain ⟨_,_,_,_,s,_⟩:=hv_;exact SqL.of (s _ _ (s04 _ _ eD))) ?_ ?_⟩
   rotate_left
   · rintro σ H6 ⟨u7,u8,vs,rfl,s6,eP,hvs,hvm,lv⟩
     rw [Xaa,←Xaa (f:=(·.2)),Xas] at hvm;exact ⟨_,rfl,q P vs H6 (s04.free hP) (s04.trans s6) eP hvs hvm⟩
   rintro i y σ H6 hy ⟨u7,u8,vs,rfl,s6,eP,hvs,hvm,lv⟩;obtain ⟨z,hzi,rfl⟩:=getm hy;have hil:i<zs.length:=(Xae.mp hzi).1;have mz:=Xah hzi
   have hwi:(zs.map (·.2))[i]?=some z.2:=by rw [Xag,hzi];rfl
   have s06:=s04.trans s6;refine ⟨_,rfl,_,rfl,_,rfl,_,rfl,nt,S,T,R,bp,z.1,us,Gs,Es,ss,ord,_,d,c,G,z.2,rfl,s06 _ _ eN,SC.same s06,BD.same (s24.trans s6),T4.same s6,lw,okw,(hz z mz).same s06,hzo z mz,fun H7 s7=>?_⟩;refine g_in ?_;try dsimp only
   have s47:=s6.trans s7;have s07:=s04.trans s47;have eP7:=s7 _ _ eP
   rcases Zjt irr (ss:=ss) (l:=sp.map (·.2)) (w:=z.2) with ⟨hf,e⟩ | ⟨k,v,hf,hk,e⟩
   · rw [e]
     rw [hsm] at hf;refine ⟨_,rfl,_,rfl,iteF ?_⟩;exact ⟨_,_,vs,rfl,s47,eP7,fun w hw=>(hvs w hw).same s7,by rw [Zkl hwi,hf];show _=_++[];rw [XaH];exact hvm,by omega⟩
   · rw [e]
     obtain ⟨sv,hsv,rfl⟩:=getm hk;rw [hsm] at hf;refine ⟨_,rfl,_,rfl,iteT ?_⟩;obtain ⟨ms,f2,f3,_⟩:=(hz z mz).same s07;refine ⟨_,rfl,Or.inl ⟨rfl,_,SqL.of eP7⟩,_,rfl,z.1,_,rfl,Or.inl (SqL.of f2),fun a ha=>?_⟩;obtain ⟨H8,qH8,s8,ea⟩:=new_at (o:=.lst (ms.map V.ref)) ha;rw [←qH8];have s48:=s47.trans s8;have s08:=s04.trans s48;obtain ⟨ns,g2,g3,_⟩:=(hsp sv (Xah hsv)).same (s4.trans s48);have hat:atI (sp.map fun z=>V.ref z.1) (k:Int)=some (.ref sv.1):=ZaQ (by rw [Xag,hsv];rfl);refine ⟨_,rfl,_,rfl,Or.inl ⟨SP,_,_,.ref sv.1,rfl,rfl,SqL.of ((s4.trans s48) _ _ eSP),hat,sv.1,_,rfl,Or.inl (SqL.of g2),fun b hb=>?_⟩⟩;obtain ⟨H9,qH9,s9,eb⟩:=new_at (o:=.lst (ns.map V.ref)) hb;rw [←qH9];refine ⟨ZaF,fun T9 hT9=>?_⟩;obtain ⟨H10,qH10,s10,eT9⟩:=new_at (o:=.tup [.ref a,.ref b]) hT9;rw [←qH10];have s710:=s8.trans (s9.trans s10);have eP10:=s710 _ _ eP7
     have naP:a≠P:=fun y=>by rw [y,eP7] at ha;cases ha
     have nbP:b≠P:=fun y=>by rw [y,s8 _ _ eP7] at hb;cases hb
     have kP:Keeps (·=P) H10 (upd H10 P (.lst (vs.map (fun z=>V.ref z.1)++[.ref T9]))):=Keeps.one eP10;refine ⟨P,_,_,rfl,rfl,eP10,by rw [Xaa];exact Zal (by omega),?_⟩;refine ⟨_,_,vs++[(T9,z.2,sv.2)],rfl,fun b' o e=>?_,by rw [upd_same,Xad];rfl,fun w hw'=>?_,?_,by rw [Xac,Xau];omega⟩
     · rw [Zah (Zac e hP)];exact s710 _ _ (s47 _ _ e)
     · rcases Xaf.mp hw' with h | h
       · exact ((hvs w h).same (s7.trans s710)).keeps kP fun x hx=>hx.2
       · rw [Xaj.mp h]
         refine ⟨a,b,kP.tup eT9,⟨ms,kP.at_ _ _ ((s9.trans s10) _ _ ea) naP,(f3.same s710).keeps kP,s07.free ha,naP⟩,⟨ns,kP.at_ _ _ (s10 _ _ eb) nbP,(g3.same (s9.trans s10)).keeps kP,s08.free hb,nbP⟩⟩
     · rw [Zkl hwi,hf,Xad,hvm];rfl
variable (P w K mg base) in
abbrev Zby:Prop:=Zax P w K mg base "hidden_ways" 4 ["net", "table", "ways"] (Zei K)
theorem ZfF (B:Blt mg) (c_better_pairs:Zbc P w K mg base) (c_seen_ways:ZbR P w K mg base) (c_tree_of:Zda P w K mg base) (c_first_hider:Zbx P w K mg base) (F:Fun K "hidden_ways" "hidden_ways" Zce f fd) (hm:mg "hidden_ways" = some (.ref f)):Zby P w K mg base :=
 ⟨f,fd,ZgT B c_better_pairs c_seen_ways c_tree_of c_first_hider F,hm,F.kp,F.binds fun _ _ _ _ _ _ us hl=>(by obtain ⟨x0,x1,x2,rfl⟩:=ZgF hl;rfl)⟩
inductive E__law_label (K:XFg) (vs:List V) (H:Hp) (Q:VK):Prop where
 | mk (nt S T R mk:Addr) (us Gs Es:List Addr) (ss:List Sco) (m:Mrk) (h0:vs=[.ref nt,.ref mk]) (h1:SqT K H nt [.ref S,.ref T,.ref R]) (h2:Scs H S us Gs Es ss) (h3:SqT K H mk (mkV m)) (h4:MkOk ss m) (h5:Q (.str (Zcg ss m)) H):E__law_label K vs H Q
def ZeR (K:XFg):Sp:=fun vs H Q _=>E__law_label K vs H Q
theorem Zh0 (B:Blt mg) (F:Fun K "_law_label" "_law_label" ZcI f fd):FnOk P w K mg base CX0 1 f fd ["_law_net", "_law_mark"] (ZeR K):=by
 refine F.ok ZhJ (fun vs H Q E h=>?_) (fun cdv A outer s H vs Q E hr h=>?_)
 · obtain ⟨nt,S,T,R,mk,us,Gs,Es,ss,m,rfl,_⟩:=h
   rfl
 · obtain ⟨nt,S,T,R,mk,us,Gs,Es,ss,m,rfl,hT,hS,hm,⟨n,k,s',hn,hk,hs,hq⟩,q⟩:=h
   have hnl:n<ss.length:=(Xae.mp hs).1;obtain ⟨u,G,E1,g1,g2,g3,g4,⟨a1,⟨tG,b1,b2⟩,⟨tE,c1,c2⟩⟩⟩:=hS.get hnl;rw [hs] at g4;have es:=Xbd g4;rw [←es] at b2 c2
   have hat:atI (us.map V.ref) m.1=some (.ref u):=by rw [hn];exact ZaQ (by rw [Xag,g1];rfl)
   refine ⟨_,(Zae (Zar (Zas Zam (Zas Zam (Zas Zam (Zas Zam (Zas Zam (pv 0) Zaf (fun _ _=>rfl)) (Zas Zam (pv 1) Zaf (fun _ _=>rfl)) (fun _ _=>rfl)) (ZaJ ZfQ (by rfl) B.b_int (by decide +kernel) (Zaa (Zb6 Zcf (Zas Zam (pv 1) Zaf (fun _ _=>rfl)) Zaq (ZaD _)) Zab)) (fun _ _=>rfl)) (Zas Zam (pv 1) Zaf (fun _ _=>rfl)) (fun _ _=>rfl)) Zaf (fun _ _=>rfl)))),?_⟩;try dsimp only [cxOf,Cx.nox,Cx.wish]
   refine ⟨_,rfl,Or.inr (Or.inl ⟨nt,_,_,.ref S,rfl,rfl,hT,rfl,_,rfl,Or.inr (Or.inl ⟨mk,_,_,.int m.1,rfl,rfl,hm,rfl,Or.inl ⟨S,_,_,.ref u,rfl,rfl,SqL.of hS.top,hat,_,rfl,Or.inr (Or.inl ⟨mk,_,_,.str m.2.1,rfl,rfl,hm,rfl,rfl,Or.inr ⟨_,rfl,?_⟩⟩)⟩⟩)⟩)⟩
   rcases hq with ⟨h1,hkl⟩ | ⟨h1,hkl⟩
   · have hp:=Xab hkl
     rw [Zkg hn hk hs h1 hp] at q;have ht:tG[k]?=some (tG[k]'(by rw [b2.len];exact hkl)):=Xab _;have et:=b2.at_ _ _ _ ht hp
     have hatk:atI (tG.map V.ref) m.2.2=some (.ref (tG[k]'(by rw [b2.len];exact hkl))):=by rw [hk];exact ZaQ (by rw [Xag,ht];rfl)
     rw [Xa7 (show ¬V.str m.2.1=V.str "told" from fun z=>ZmS (h1.symm.trans (V.str.inj z)))]
     exact Or.inr (Or.inl ⟨u,_,_,.ref G,rfl,rfl,SqT.of a1,rfl,_,rfl,Or.inr (Or.inl ⟨mk,_,_,.int m.2.2,rfl,rfl,hm,rfl,Or.inl ⟨G,_,_,_,rfl,rfl,SqL.of b1,hatk,Or.inr (Or.inl ⟨_,_,_,.str s'.1[k].1,rfl,rfl,SqT.of et,rfl,q⟩)⟩⟩)⟩)
   · have hp:=Xab hkl
     rw [Zkh hn hk hs (fun z=>ZiG (h1.symm.trans z)) hp] at q;have ht:tE[k]?=some (tE[k]'(by rw [c2.len];exact hkl)):=Xab _;have et:=c2.at_ _ _ _ ht hp
     have hatk:atI (tE.map V.ref) m.2.2=some (.ref (tE[k]'(by rw [c2.len];exact hkl))):=by rw [hk];exact ZaQ (by rw [Xag,ht];rfl)
     rw [Xa6 (show V.str m.2.1=V.str "told" by rw [h1])]
     exact Or.inr (Or.inl ⟨u,_,_,.ref E1,rfl,rfl,SqT.of a1,rfl,_,rfl,Or.inr (Or.inl ⟨mk,_,_,.int m.2.2,rfl,rfl,hm,rfl,Or.inl ⟨E1,_,_,_,rfl,rfl,SqL.of c1,hatk,Or.inr (Or.inl ⟨_,_,_,.str s'.2[k].1,rfl,rfl,SqT.of et,rfl,q⟩)⟩⟩)⟩)
variable (P w K mg base) in
abbrev ZcU:Prop:=Zax P w K mg base "_law_label" 1 ["_law_net", "_law_mark"] (ZeR K)
theorem Zgy (B:Blt mg) (F:Fun K "_law_label" "_law_label" ZcI f fd) (hm:mg "_law_label" = some (.ref f)):ZcU P w K mg base :=
 ⟨f,fd,Zh0 B  F,hm,F.kp,F.binds fun _ _ _ _ _ _ us hl=>(by obtain ⟨x0,x1,rfl⟩:=Zd5 hl;rfl)⟩
theorem lcmp_mk (a b:Mrk):Cmp 2 (mkD a) (mkD b):=.tup (.cons (.int _ _) (.cons (.str _ _) (.cons (.int _ _) (.nil _))))
theorem Zna {a b:Mrk} (h:mkD a=mkD b):a=b:=mkE.inj a b h
theorem lpr_in {a b:Str}{ord:List (Str×Str)}:dec (prD (a,b)∈ord.map prD)=dec ((a,b)∈ord):=Zb4 ⟨fun h=>by
 obtain ⟨⟨x,y⟩,hp,e⟩:=Xai.mp h
 injection e with e
 injection e with e1 e2
 injection e2 with e2 _
 have e1:x=a:=Dt.str.inj e1;have e2:y=b:=Dt.str.inj e2;rw [←e1,←e2]
 exact hp,fun h=>Xai.mpr ⟨_,h,rfl⟩⟩
inductive E__law_hides (K:XFg) (vs:List V) (H:Hp) (Q:VK):Prop where
 | mk (nt S T R t a b:Addr) (us Gs Es:List Addr) (ss:List Sco) (F G1 G2:Addr→Prop) (sts:List Stt) (inn:Int) (ord:List (Str×Str)) (w1 w2:List Mrk) (h0:vs=[.ref nt,.ref t,.ref a,.ref b]) (h1:H nt=some (.tup [.ref S,.ref T,.ref R])) (h2:Scs H S us Gs Es ss) (h3:Tab K F H t sts inn ord) (h4:WyH G1 H a w1) (h5:WyH G2 H b w2) (h6:Zdq ss w1) (h7:Zdq ss w2) (h8:∀ H',Same H H'→Q (.bl (ZaO ss ord w1 w2)) H'):E__law_hides K vs H Q
def ZeS (K:XFg):Sp:=fun vs H Q _=>E__law_hides K vs H Q
theorem Zh1 (B:Blt mg) (c__law_label:ZcU P w K mg base) (F:Fun K "_law_hides" "_law_hides" ZcJ f fd):FnOk P w K mg base CX0 2 f fd ["_law_net", "_law_table_here", "_law_one", "_law_other"] (ZeS K):=by
 refine F.ok sc__law_hides (fun vs H Q E h=>?_) (fun cdv A outer s H vs Q E hr h=>?_)
 · obtain ⟨nt,S,T,R,t,a,b,us,Gs,Es,ss,F,G1,G2,sts,inn,ord,w1,w2,rfl,_⟩:=h
   rfl
 · obtain ⟨nt,S,T,R,t,a,b,us,Gs,Es,ss,F,G1,G2,sts,inn,ord,w1,w2,rfl,eN,SC,TB,⟨ma,ea,ra,_⟩,⟨mb,eb,rb,_⟩,ok1,ok2,q⟩:=h
   obtain ⟨ta,o,tus,tts,et,_,_,_,_,_,eo,TO⟩:=TB.ex
   refine ⟨_,(Zad (ZaL Xbs rfl (pi_zip rfl B.b_zip (Zaa (pv 2) (Zaa (pv 3) Zab))) (ZaR rfl (Zai (Zag (i:=4) sc__law_hides.nd rfl (Or.inl rfl)) (Zai (Zag (i:=5) sc__law_hides.nd rfl (Or.inl rfl)) ZaG))) (Zae (ZaS (Zav (ZjZ hr.units) (pv 4) (pv 5) (ZaD _)) (Zae (Zar (Zb6 (op_inD hr.units) (Zat (Zaa (ZaC c__law_label (hr.mono (by decide)) rfl (Zaa (pv 0) (Zaa (pv 4) Zab))) (Zaa (ZaC c__law_label (hr.mono (by decide)) rfl (Zaa (pv 0) (Zaa (pv 5) Zab))) Zab))) (Zas Zam (pv 1) Zaf (fun _ _=>rfl)) (by with_unfolding_all rfl)))) Zau)))
    (Zae (Zar Zh7))),?_⟩
   try dsimp only [cxOf,Cx.nox,Cx.wish]
   refine ⟨_,rfl,_,rfl,a,b,rfl,⟨_,SqL.of ea⟩,⟨_,SqL.of eb⟩,Zlp (xs:=ma.map V.ref) (ys:=mb.map V.ref) (fun i σ H'=>∃ u4 u5:Option V,σ=[some (.ref nt),some (.ref t),some (.ref a),some (.ref b),u4,u5]∧Same H H'∧∀ j,j<i→w1[j]?=w2[j]?) ⟨none,none,rfl,Same.refl _,fun j hj=>by omega⟩ (fun i σ H' hv_=>by obtain ⟨_,_,_,s,_⟩:=hv_;exact ⟨SqL.of (s _ _ ea),SqL.of (s _ _ eb)⟩) ?_ ?_⟩;rotate_left
   · rintro σ H2 ⟨u4,u5,rfl,s2,hall⟩
     rw [Xaa,Xaa,ra.len,rb.len] at hall
     rw [Zel ss ord hall (by omega) (by omega),ZbP ss ord (by
      rcases Nat.le_total w1.length w2.length with h | h
      · exact .inl (List.drop_eq_nil_of_le (by omega))
      · exact .inr (List.drop_eq_nil_of_le (by omega)))] at q
     exact q H2 s2
   rintro i x y T' σ H2 hx hy hT' ⟨u4,u5,rfl,s2,hall⟩;rw [Xag] at hx hy;obtain ⟨tm,htm,rfl⟩:=XaV.mp hx;obtain ⟨tn,htn,rfl⟩:=XaV.mp hy
   have h1:i<w1.length:=by rw [←ra.len];exact (Xae.mp htm).1
   have h2:i<w2.length:=by rw [←rb.len];exact (Xae.mp htn).1
   have e1:=Xab h1;have e2:=Xab h2;have f1:=ra.at_ i tm _ htm e1;have f2:=rb.at_ i tn _ htn e2;have o1:=ok1.1 _ (Xav h1);have o2:=ok2.1 _ (Xav h2);obtain ⟨H3,qH3,s3,eT'⟩:=new_at (o:=.tup [.ref tm,.ref tn]) hT';rw [←qH3];have s03:=s2.trans s3;refine ⟨T',_,rfl,SqT.of eT',rfl,_,_,rfl,_,_,rfl,rfl,?_⟩;refine ⟨_,rfl,_,rfl,2,mkD w1[i],mkD w2[i],lcmp_mk _ _,by decide,ZlN _ _ (s03 _ _ f1),ZlN _ _ (s03 _ _ f2),_,rfl,?_⟩
   by_cases he:w1[i]=w2[i]
   · rw [ZaH (by rw [he])]
     refine iteF ⟨_,_,rfl,s03,fun j hj=>?_⟩
     by_cases hji:j<i
     · exact hall j hji
     · have:j=i:=by omega
       subst this;rw [e1,e2,he]
   · rw [ZaP (fun z=>he (Zna z))]
     refine iteT ?_
     have hd:ZaO ss ord w1 w2=dec ((Zcg ss w1[i],Zcg ss w2[i])∈ord):=by
      rw [Zel ss ord hall (by omega) (by omega),XaL h1,XaL h2];exact Zcu ss ord _ _ he
     refine ⟨_,rfl,_,rfl,nt,S,T,R,tm,us,Gs,Es,ss,w1[i],rfl,SqT.of (s03 _ _ eN),SC.same s03,SqT.of (s03 _ _ f1),o1,_,rfl,_,rfl,nt,S,T,R,tn,us,Gs,Es,ss,w2[i],rfl,SqT.of (s03 _ _ eN),SC.same s03,SqT.of (s03 _ _ f2),o2,ZaF,fun p hp=>?_⟩;obtain ⟨H4,qH4,s4,ep⟩:=new_at (o:=.tup [.str (Zcg ss w1[i]),.str (Zcg ss w2[i])]) hp;rw [←qH4];have s04:=s03.trans s4;refine ⟨_,rfl,Or.inr (Or.inl ⟨t,_,_,.ref o,rfl,rfl,SqT.of (s04 _ _ et),rfl,2,prD (Zcg ss w1[i],Zcg ss w2[i]),ord.map prD,o,_,fun d hd'=>?_,by decide,.tup (SqT.of ep) (.cons (.str _) (.cons (.str _) .nil)),rfl,SqL.of (s04 _ _ eo),(TO.same s04).dts,?_⟩)⟩
     · obtain ⟨z,_,rfl⟩:=Xai.mp hd'
       exact .tup (.cons (.str _ _) (.cons (.str _ _) (.nil _)))
     rw [lpr_in,←hd];exact q H4 s04
variable (P w K mg base) in
abbrev ZcV:Prop:=Zax P w K mg base "_law_hides" 2 ["_law_net", "_law_table_here", "_law_one", "_law_other"] (ZeS K)
theorem Zgz (B:Blt mg) (c__law_label:ZcU P w K mg base) (F:Fun K "_law_hides" "_law_hides" ZcJ f fd) (hm:mg "_law_hides" = some (.ref f)):ZcV P w K mg base :=
 ⟨f,fd,Zh1 B c__law_label F,hm,F.kp,F.binds fun _ _ _ _ _ _ us hl=>(by obtain ⟨x0,x1,x2,x3,rfl⟩:=ZhK hl;rfl)⟩
inductive E__law_first (K:XFg) (vs:List V) (H:Hp) (Q:VK):Prop where
 | mk (nt S T R t D b:Addr) (us Gs Es:List Addr) (ss:List Sco) (F G G2:Addr→Prop) (sts:List Stt) (inn:Int) (ord:List (Str×Str)) (zs:List (Addr×List Mrk)) (w:List Mrk) (h0:vs=[.ref nt,.ref t,.ref D,.ref b]) (h1:H nt=some (.tup [.ref S,.ref T,.ref R])) (h2:Scs H S us Gs Es ss) (h3:Tab K F H t sts inn ord) (h4:H D=some (.lst (zs.map fun z=>V.ref z.1))) (h5:(∀ z∈zs,WyH G H z.1 z.2)) (h6:(∀ z∈zs,Zdq ss z.2)) (h7:WyH G2 H b w) (h8:Zdq ss w) (h9:(∃ v,ZbA ss ord (zs.map (·.2)) w=some v)) (h10:∀ (z:Addr×List Mrk) (H':Hp),z∈zs→ZbA ss ord (zs.map (·.2)) w=some z.2→Same H H'→Q (.ref z.1) H'):E__law_first K vs H Q
def ZeT (K:XFg):Sp:=fun vs H Q _=>E__law_first K vs H Q
theorem Zh2 (B:Blt mg) (c__law_hides:ZcV P w K mg base) (F:Fun K "_law_first" "_law_first" ZcK f fd):FnOk P w K mg base CX0 3 f fd ["_law_net", "_law_table_here", "_law_shown", "_law_way"] (ZeT K):=by
 refine F.ok sc__law_first (fun vs H Q E h=>?_) (fun cdv A outer s H vs Q E hr h=>?_)
 · obtain ⟨nt,S,T,R,t,D,b,us,Gs,Es,ss,F,G,G2,sts,inn,ord,zs,w,rfl,_⟩:=h
   rfl
 · obtain ⟨nt,S,T,R,t,D,b,us,Gs,Es,ss,F,G,G2,sts,inn,ord,zs,w,rfl,eN,SC,TB,eD,hz,hzo,hb,hbo,hex,q⟩:=h
   refine ⟨_,(Zad (ZaL Xbs rfl (Zaz (pv 2)) (Zag (i:=4) sc__law_first.nd rfl (Or.inl rfl)) (Zae (ZaS (Zb7 (ZaC c__law_hides (hr.mono (by decide)) rfl (Zaa (pv 0) (Zaa (pv 1) (Zaa (pv 4) (Zaa (pv 3) Zab)))))) (Zae (Zar (pv 4))) Zau)))
    (Zae (Zar Zk4))),?_⟩
   try dsimp only [cxOf,Cx.nox,Cx.wish]
   refine ⟨_,rfl,D,rfl,⟨_,SqL.of eD⟩,ZaI (xs:=zs.map fun z=>V.ref z.1) (fun i σ H'=>∃ (u4:Option V),σ=[some (.ref nt),some (.ref t),some (.ref D),some (.ref b),u4]∧Same H H'∧∀ v∈(zs.map (·.2)).take i,ZaO ss ord v w=false) ⟨none,rfl,Same.refl _,fun v hv=>by rw [Xaz] at hv;cases hv⟩ (fun i σ H' _ hv_=>by obtain ⟨_,_,s,_⟩:=hv_;exact SqL.of (s _ _ eD)) ?_ ?_⟩;rotate_left
   · rintro σ H2 ⟨u4,rfl,s2,hn⟩
     rw [Xaa,←Xaa (f:=(·.2)),Xas] at hn;obtain ⟨v,hv⟩:=hex;exfalso;have h1:=List.find?_some hv;have h2:=List.mem_of_find?_eq_some hv;rw [hn v h2] at h1;cases h1
   rintro i y σ H2 hy ⟨u4,rfl,s2,hn⟩;obtain ⟨z,hzi,rfl⟩:=getm hy;have mz:=Xah hzi
   have hwi:(zs.map (·.2))[i]?=some z.2:=by rw [Xag,hzi];rfl
   refine ⟨_,rfl,_,rfl,_,rfl,_,rfl,nt,S,T,R,t,z.1,b,us,Gs,Es,ss,F,G,G2,sts,inn,ord,z.2,w,rfl,s2 _ _ eN,SC.same s2,TB.same s2,(hz z mz).same s2,hb.same s2,hzo z mz,hbo,fun H3 s3=>⟨_,rfl,?_⟩⟩
   cases hh:ZaO ss ord z.2 w with
   | true =>
     refine ⟨_,rfl,q z H3 mz ?_ (s2.trans s3)⟩;unfold ZbA;obtain ⟨hlt,hev⟩:=Xae.mp hwi;rw [List.find?_eq_some_iff_getElem];refine ⟨hh,i,hlt,hev,fun j hj=>?_⟩;rw [hn _ (List.mem_iff_getElem?.mpr ⟨j,by rw [List.getElem?_take_of_lt hj];exact Xab (show j<(zs.map (·.2)).length by omega)⟩)];rfl
   | false =>
     refine ⟨_,rfl,s2.trans s3,fun v hv=>?_⟩;rw [Xar,hwi] at hv
     rcases Xaf.mp hv with h | h
     · exact hn v h
     · have e:v=z.2:=by simpa using h
       rw [e];exact hh
variable (P w K mg base) in
abbrev ZcW:Prop:=Zax P w K mg base "_law_first" 3 ["_law_net", "_law_table_here", "_law_shown", "_law_way"] (ZeT K)
theorem ZgA (B:Blt mg) (c__law_hides:ZcV P w K mg base) (F:Fun K "_law_first" "_law_first" ZcK f fd) (hm:mg "_law_first" = some (.ref f)):ZcW P w K mg base :=
 ⟨f,fd,Zh2 B c__law_hides F,hm,F.kp,F.binds fun _ _ _ _ _ _ us hl=>(by obtain ⟨x0,x1,x2,x3,rfl⟩:=ZhK hl;rfl)⟩
inductive E__law_row (K:XFg) (vs:List V) (H:Hp) (Q:VK):Prop where
 | mk (nt S T R t D b p:Addr) (us Gs Es:List Addr) (ss:List Sco) (F G G2 G3:Addr→Prop) (sts:List Stt) (inn:Int) (ord:List (Str×Str)) (zs:List (Addr×List Mrk)) (w v:List Mrk) (h0:vs=[.ref nt,.ref t,.ref D,.ref b,.ref p]) (h1:H nt=some (.tup [.ref S,.ref T,.ref R])) (h2:Scs H S us Gs Es ss) (h3:Tab K F H t sts inn ord) (h4:H D=some (.lst (zs.map fun z=>V.ref z.1))) (h5:(∀ z∈zs,WyH G H z.1 z.2)) (h6:(∀ z∈zs,Zdq ss z.2)) (h7:WyH G2 H b w) (h8:Zdq ss w) (h9:ZbA ss ord (zs.map (·.2)) w=some v) (h10:RwH G3 H p (w,v)) (h11:∀ H',Same H H'→Q (.bl true) H'):E__law_row K vs H Q
def ZgB (K:XFg):Sp:=fun vs H Q _=>E__law_row K vs H Q
theorem ZjG (B:Blt mg) (c__law_first:ZcW P w K mg base) (F:Fun K "_law_row" "_law_row" ZdP f fd):FnOk P w K mg base CX0 4 f fd ["_law_net", "_law_table_here", "_law_shown", "_law_way", "_law_row_here"] (ZgB K):=by
 refine F.ok Zjy (fun vs H Q E h=>?_) (fun cdv A outer s H vs Q E hr h=>?_)
 · obtain ⟨nt,S,T,R,t,D,b,p,us,Gs,Es,ss,F,G,G2,G3,sts,inn,ord,zs,w,v,rfl,_⟩:=h
   rfl
 · obtain ⟨nt,S,T,R,t,D,b,p,us,Gs,Es,ss,F,G,G2,G3,sts,inn,ord,zs,w,v,rfl,eN,SC,TB,eD,hz,hzo,hb,hbo,hf,⟨a1,a2,ep,w1,w2⟩,q⟩:=h
   obtain ⟨m1,e1,r1,_⟩:=id w1;obtain ⟨m2,e2,r2,_⟩:=id w2
   refine ⟨_,(Zad (ZaS (PW.pt (ZgD (Zc2 (Zb7 (Zan Zdc (by rfl) B.b_isinstance (by decide +kernel) (Zaa (pv 4) (Zaa (Zjg "tuple" rfl B.b_tuple (by decide +kernel)) Zab))))) (ZgD (Zav op_ne (Zan Zay (by rfl) B.b_len (by decide +kernel) (Zaa (pv 4) Zab)) Zaf (ZaD _)) (ZgD (Zc2 (Zb7 (Zan Zdc (by rfl) B.b_isinstance (by decide +kernel) (Zaa (Zas Zam (pv 4) Zaf (fun _ _=>rfl)) (Zaa (Zjg "list" rfl B.b_list (by decide +kernel)) Zab))))) (Zh9 (Zc2 (Zb7 (Zan Zdc (by rfl) B.b_isinstance (by decide +kernel) (Zaa (Zas Zam (pv 4) Zaf (fun _ _=>rfl)) (Zaa (Zjg "list" rfl B.b_list (by decide +kernel)) Zab)))))))))) (Zae (Zar Zh7)) Zau)
    (Zae (Zar (ZjK (Zb6 (Ziq hr.units) (Zas Zam (pv 4) Zaf (fun _ _=>rfl)) (pv 3) (ZaD _)) (ZjJ (Zb6 (Ziq hr.units) (Zas Zam (pv 4) Zaf (fun _ _=>rfl)) (ZaC c__law_first (hr.mono (by decide)) rfl (Zaa (pv 0) (Zaa (pv 1) (Zaa (pv 2) (Zaa (pv 3) Zab))))) (ZaD _))))))),?_⟩
   try dsimp only [cxOf,Cx.nox,Cx.wish]
   refine ⟨_,rfl,_,.tup,.tup,rfl,.tup (SqT.of ep),_,rfl,iteF ?_⟩;refine ⟨_,rfl,_,_,rfl,Or.inr ⟨_,SqT.of ep,rfl⟩,rfl,_,rfl,iteF ?_⟩;refine ⟨_,rfl,Or.inr (Or.inl ⟨p,_,_,.ref a1,rfl,rfl,SqT.of ep,rfl,_,.lst,.lst,rfl,.lst (SqL.of e1),_,rfl,iteF ?_⟩)⟩;refine ⟨_,rfl,Or.inr (Or.inl ⟨p,_,_,.ref a2,rfl,rfl,SqT.of ep,rfl,_,.lst,.lst,rfl,.lst (SqL.of e2),_,rfl,iteF ?_⟩)⟩;refine nx_sq ?_;refine ⟨_,rfl,Or.inr (Or.inl ⟨p,_,_,.ref a1,rfl,rfl,SqT.of ep,rfl,_,rfl,4,wayE.D w,wayE.D w,(wayE.cmp w w).mono (by decide),by decide,w1.dt,hb.dt,_,rfl,?_⟩)⟩;rw [ZaH rfl];refine iteT ⟨_,rfl,Or.inr (Or.inl ⟨p,_,_,.ref a2,rfl,rfl,SqT.of ep,rfl,?_⟩)⟩;refine ⟨_,rfl,_,rfl,_,rfl,_,rfl,nt,S,T,R,t,D,b,us,Gs,Es,ss,F,G,G2,sts,inn,ord,zs,w,rfl,eN,SC,TB,eD,hz,hzo,hb,hbo,⟨v,hf⟩,fun z H2 mz hfz s2=>?_⟩;rw [hf] at hfz;cases hfz;refine ⟨4,wayE.D z.2,wayE.D z.2,(wayE.cmp _ _).mono (by decide),by decide,(w2.same s2).dt,((hz z mz).same s2).dt,?_⟩;rw [ZaH rfl];exact q H2 s2
variable (P w K mg base) in
abbrev Zd2:Prop:=Zax P w K mg base "_law_row" 4 ["_law_net", "_law_table_here", "_law_shown", "_law_way", "_law_row_here"] (ZgB K)
theorem Zh3 (B:Blt mg) (c__law_first:ZcW P w K mg base) (F:Fun K "_law_row" "_law_row" ZdP f fd) (hm:mg "_law_row" = some (.ref f)):Zd2 P w K mg base :=
 ⟨f,fd,ZjG B c__law_first F,hm,F.kp,F.binds fun _ _ _ _ _ _ us hl=>(by obtain ⟨x0,x1,x2,x3,x4,rfl⟩:=ZkP hl;rfl)⟩
inductive E__law_right (K:XFg) (vs:List V) (H:Hp) (Q:VK):Prop where
 | mk (H0:Hp) (nt A t WW D:Addr) (W:Wd) (qs:List Qu) (inn:Int) (ord:List (Str×Str)) (ls ws:List Str) (F:Addr→Prop) (zs:List (Addr×List Mrk)) (h0:vs=[.ref nt,.ref t,.ref D]) (h1:CaseL K H0 H nt t A WW W qs inn ord ls ws) (h2:H D=some (.lst (zs.map fun z=>V.ref z.1))) (h3:(∀ z∈zs,WyH F H z.1 z.2)) (h4:(∀ z∈zs,Zdq W.ss z.2)) (h5:zs.length≤60) (h6:∀ H',Same H H'→Q (.bl true) H'):E__law_right K vs H Q
def ZeU (K:XFg):Sp:=fun vs H Q _=>E__law_right K vs H Q
theorem Zh4 (B:Blt mg) (c__law_copy:Zdk P w K mg base) (c__law_copy_table:Zbw P w K mg base) (c_seen_ways:ZbR P w K mg base) (c_hidden_ways:Zby P w K mg base) (c__law_row:Zd2 P w K mg base) (F:Fun K "_law_right" "_law_right" Za6 f fd):FnOk P w K mg base CX0 5 f fd ["_law_net", "_law_table_here", "_law_ways_here"] (ZeU K):=by
 refine F.ok sc__law_right (fun vs H Q E h=>?_) (fun cdv A outer s H vs Q E hr h=>?_)
 · obtain ⟨H0,nt,A,t,WW,D,W,qs,inn,ord,ls,ws,F,zs,rfl,_⟩:=h
   rfl
 · obtain ⟨H0,nt,A,t,WW,D,W,qs,inn,ord,ls,wds,F,zs,rfl,CL,eD,hz,hzo,lz,kq⟩:=h
   obtain ⟨S,T,R,us,Gs,Es,ts,qt,eN,N3,_⟩:=CL.net;have TB:=CL.tab;have ok:=CL.ok.ok
   refine ⟨_,(Zad (Zao (i:=3) sc__law_right.nd rfl (Or.inl rfl) (ZaC c__law_copy (hr.mono (by decide)) rfl (Zaa (pv 0) Zab)))
    (Zad (Zao (i:=4) sc__law_right.nd rfl (Or.inl rfl) (ZaC c__law_copy_table (hr.mono (by decide)) rfl (Zaa (pv 1) Zab)))
    (Zad (Ze1 (i:=5) sc__law_right.nd rfl (Or.inl rfl) (te:=tCB (Zdf K) (Zd3 (tVar 0) tNil)) rfl _law_right_cs1 (Zaz (pv 2)) (fun _ _ _ _ _=>(Zag (i:=0) _law_right_cs1.nd rfl (Or.inl rfl))) (fun _ _ _ _ _=>ZcL) (fun _ _ _ _ _=>(ZaJ ZaK (by rfl) B.b_list (by decide +kernel) (Zaa (pv 0) Zab))))
    (Zad (Zao (i:=6) sc__law_right.nd rfl (Or.inr rfl) (ZcY (te:=tCB (Zdf K) (Zd3 (tVar 0) tNil)) rfl _law_right_cs2 (Zaz (ZaC c_seen_ways (hr.mono (by decide)) rfl (Zaa (pv 0) (Zaa (pv 1) (Zaa (pv 2) Zab))))) (fun _ _ _ _ _=>(Zag (i:=0) _law_right_cs2.nd rfl (Or.inl rfl))) (fun _ _ _ _ _=>ZcL) (fun _ _ _ _ _=>(ZaJ ZaK (by rfl) B.b_list (by decide +kernel) (Zaa (pv 0) Zab)))))
    (Zad (Ze1 (i:=7) sc__law_right.nd rfl (Or.inl rfl) (te:=tVar 0) (tc:=tTest (tOp (Zly K) (tVar 0) (tVar 1))) rfl _law_right_cs3 (Zaz (pv 5)) (fun _ _ _ _ _=>(Zag (i:=0) _law_right_cs3.nd rfl (Or.inl rfl))) (fun _ _ _ _ _=>(pf_one (Zav (Zir hr.units) (pv 0) (pv 1) (by with_unfolding_all rfl)))) (fun _ _ _ _ _=>(pv 0)))
    (Zad (Zao (i:=8) sc__law_right.nd rfl (Or.inl rfl) (ZaC c_hidden_ways (hr.mono (by decide)) rfl (Zaa (pv 0) (Zaa (pv 1) (Zaa (pv 2) Zab)))))
    (Zad (ZaS (PW.pt (ZgD (Zc2 (Zb7 (Zan Zdc (by rfl) B.b_isinstance (by decide +kernel) (Zaa (pv 8) (Zaa (Zjg "list" rfl B.b_list (by decide +kernel)) Zab))))) (ZgD (Zav op_ne (Zan Zay (by rfl) B.b_len (by decide +kernel) (Zaa (pv 8) Zab)) (Zan Zay (by rfl) B.b_len (by decide +kernel) (Zaa (pv 7) Zab)) (ZaD _)) (ZgD (Zav (ZjZ hr.units) (pv 0) (pv 3) (ZaD _)) (ZgD (Zav (ZjZ hr.units) (pv 1) (pv 4) (ZaD _)) (Zh9 (Zav (ZjZ hr.units) (pv 2) (pv 5) (ZaD _)))))))) (Zae (Zar Zh7)) Zau)
    (Zad (ZaL Xbs rfl (pi_zip rfl B.b_zip (Zaa (pv 8) (Zaa (pv 7) Zab))) (ZaR rfl (Zai (Zag (i:=9) sc__law_right.nd rfl (Or.inl rfl)) (Zai (Zag (i:=10) sc__law_right.nd rfl (Or.inl rfl)) ZaG))) (Zae (ZaS (Zc2 (Zb7 (ZaC c__law_row (hr.mono (by decide)) rfl (Zaa (pv 3) (Zaa (pv 4) (Zaa (pv 6) (Zaa (pv 10) (Zaa (pv 9) Zab)))))))) (Zae (Zar Zh7)) Zau)))
    (Zad (Ze1 (i:=11) sc__law_right.nd rfl (Or.inl rfl) (g:=gTup K 2 (Zek (Zc3 0) (Zek (Zc3 1) gNil))) (te:=tTup (Zd3 (tCB (Zdf K) (Zd3 (tVar 0) tNil)) (Zd3 (tCB (Zdf K) (Zd3 (tVar 1) tNil)) tNil))) rfl _law_right_cs4 (Zaz (pv 8)) (fun _ _ _ _ _=>(ZaR rfl (Zai (Zag (i:=0) _law_right_cs4.nd rfl (Or.inl rfl)) (Zai (Zag (i:=1) _law_right_cs4.nd rfl (Or.inl rfl)) ZaG)))) (fun _ _ _ _ _=>ZcL) (fun _ _ _ _ _=>(Zat (Zaa (ZaJ ZaK (by rfl) B.b_list (by decide +kernel) (Zaa (pv 0) Zab)) (Zaa (ZaJ ZaK (by rfl) B.b_list (by decide +kernel) (Zaa (pv 1) Zab)) Zab)))))
    (Zad (ZaL Xbs rfl (Zaz (pv 8)) (ZaR rfl (Zai (Zag (i:=10) sc__law_right.nd rfl (Or.inl rfl)) (Zai (Zag (i:=12) sc__law_right.nd rfl (Or.inl rfl)) ZaG))) (Zad (ZaB (pe_bm0 Xa9 PySem.F.slot_list_clear PySem.F.type_list_clear ZjV (pv 10)))
     (Zae (ZaB (Zbl Xa9 Xba Xbb Zaw (pv 12) (Zaa (Zat (Zaa Zaf (Zaa Zaq (Zaa Zaf Zab)))) Zab))))))
    (Zad (ZaB (pe_bm0 Xa9 PySem.F.slot_list_clear PySem.F.type_list_clear ZjV (pv 8)))
    (Zae (Zar (ZjK (Zb6 (Ziq hr.units) (pv 2) (pv 5) (ZaD _)) (ZjJ (Zb6 (Ziq hr.units) (ZaC c_hidden_ways (hr.mono (by decide)) rfl (Zaa (pv 0) (Zaa (pv 1) (Zaa (pv 2) Zab)))) (pv 11) (ZaD _))))))))))))))))),?_⟩
   try dsimp only [cxOf,Cx.nox,Cx.wish]
   refine ⟨_,rfl,nt,S,T,R,us,Gs,Es,ts,qt,W.ss,W.gs,qs,rfl,eN,N3,by have:=ok.s5;omega,fun kn S2 T2 R2 u2 G2 E2 H2 s2 ekn N2 _ _ _ _ _ _ _ _ _=>?_⟩;refine g_in ?_;try dsimp only
   refine ⟨_,rfl,t,_,W.sts,inn,ord,rfl,TB.same s2,by have:=CL.tok.n;omega,fun t2 H3 ht2 s3 TB2=>?_⟩;refine g_in ?_;try dsimp only
   have s03:=s2.trans s3
   refine ⟨_,rfl,D,rfl,⟨_,SqL.of (s03 _ _ eD)⟩,Za3 (xs:=zs.map fun z=>V.ref z.1) (fun P i ys H'=>∃ vs:List (Addr×List Mrk),ys=(vs.map fun z=>V.ref z.1)∧Same H3 H'∧H' P=some (.lst ys)∧(∀ z∈vs,WyH (fun l=>l≠P) H' z.1 z.2)∧vs.map (·.2)=(zs.map (·.2)).take i)
    (fun P hP=>⟨[],rfl,Zak hP,upd_same,fun z hz=>by simp at hz,by rw [Xaz];rfl⟩) (fun P i ys H' hv_=>by obtain ⟨_,_,s,_⟩:=hv_;exact SqL.of (s _ _ (s03 _ _ eD))) (fun P i y ys H4 RR hP hy hv k=>?_) (fun P ys H4 hP hv=>?_)⟩
   · obtain ⟨vs,rfl,s4,eP,hvs,hvm⟩:=hv
     obtain ⟨z,hzi,rfl⟩:=getm hy;have hil:i<zs.length:=(Xae.mp hzi).1;have mz:=Xah hzi;obtain ⟨ms,f2,f3,_⟩:=(hz z mz).same (s03.trans s4)
     have lv:vs.length=i:=by
      have:=Xbk List.length hvm
      rw [Xaa,Xaw,Xaa] at this;omega
     refine ⟨_,rfl,z.1,_,rfl,Or.inl (SqL.of f2),fun l hl=>?_⟩;obtain ⟨H5,qH5,s5,el⟩:=new_at (o:=.lst (ms.map V.ref)) hl;rw [←qH5];have eP5:=s5 _ _ eP
     have nlP:l≠P:=fun y=>by rw [y,eP] at hl;cases hl
     have kP:Keeps (·=P) H5 (upd H5 P (.lst (vs.map (fun z=>V.ref z.1)++[.ref l]))):=Keeps.one eP5;refine k _ _ eP5 (by rw [Xaa,lv];exact Zal (by omega)) ⟨vs++[(l,z.2)],by rw [Xad];rfl,fun b o e=>?_,upd_same,fun w hw'=>?_,?_⟩
     · rw [Zah (Zac e hP)];exact s5 _ _ (s4 _ _ e)
     · rcases Xaf.mp hw' with h | h
       · exact ((hvs w h).same s5).keeps kP fun x hx=>hx
       · rw [Xaj.mp h]
         exact ⟨ms,kP.at_ _ _ el nlP,(f3.same s5).keeps kP,nlP⟩
     · rw [Xad,hvm,Xar,Xag,hzi];rfl
   obtain ⟨vs,rfl,s4,eP,hvs,hvm⟩:=hv;rw [Xaa,←Xaa (f:=(·.2)),Xas] at hvm;have s04:=s03.trans s4;have eD4:=s04 _ _ eD
   have lvs:vs.length=zs.length:=by have:=Xbk List.length hvm;rw [Xaa,Xaa] at this;exact this
   have hvo:∀ z∈vs,Zdq W.ss z.2:=fun z h=>by
    have:z.2∈zs.map (·.2):=by rw [←hvm];exact Xai.mpr ⟨z,h,rfl⟩
    obtain ⟨z',h1,h2⟩:=Xai.mp this;rw [←h2];exact hzo z' h1
   try dsimp only
   refine ⟨_,rfl,_,rfl,_,rfl,nt,S,T,R,t,D,us,Gs,Es,W.ss,_,F,W.sts,inn,ord,zs,rfl,s04 _ _ eN,N3.sc.same s04,TB.same s04,CL.tok.ol,CL.tok.irr,eD4,fun z h=>(hz z h).same s04,hzo,Xbh lz (by decide),fun SN sn H5 hSN s5 eSN hsn hsm=>⟨SN,rfl,⟨_,SqL.of eSN⟩,?_⟩⟩
   have lsn:sn.length≤60:=by
    have:=Xbk List.length hsm
    rw [Xaa] at this;have h2:=Zkk (ss:=W.ss) (ord:=ord) (all:=zs.map (·.2)) (l:=zs.map (·.2));rw [Xaa] at h2;omega
   refine Za3 (xs:=sn.map fun z=>V.ref z.1) (fun L i ys H'=>∃ vs:List (Addr×List Mrk),ys=(vs.map fun z=>V.ref z.1)∧Same H5 H'∧H' L=some (.lst ys)∧(∀ z∈vs,WyH (fun l=>l≠L) H' z.1 z.2)∧vs.map (·.2)=(sn.map (·.2)).take i)
    (fun L hL=>⟨[],rfl,Zak hL,upd_same,fun z hz=>by simp at hz,by rw [Xaz];rfl⟩) (fun L i ys H' hv_=>by obtain ⟨_,_,s,_⟩:=hv_;exact SqL.of (s _ _ eSN)) (fun L i y ys H6 RR hL hy hv k=>?_) (fun SH ys H6 hSH hv=>?_)
   · obtain ⟨vs',rfl,s6,eL,hvs',hvm'⟩:=hv
     obtain ⟨z,hzi,rfl⟩:=getm hy;have hil:i<sn.length:=(Xae.mp hzi).1;obtain ⟨ms,f2,f3,_⟩:=(hsn z (Xah hzi)).same s6
     have lv:vs'.length=i:=by
      have:=Xbk List.length hvm'
      rw [Xaa,Xaw,Xaa] at this;omega
     refine ⟨_,rfl,z.1,_,rfl,Or.inl (SqL.of f2),fun l hl=>?_⟩;obtain ⟨H7,qH7,s7,el⟩:=new_at (o:=.lst (ms.map V.ref)) hl;rw [←qH7];have eL7:=s7 _ _ eL
     have nlP:l≠L:=fun y=>by rw [y,eL] at hl;cases hl
     have kP:Keeps (·=L) H7 (upd H7 L (.lst (vs'.map (fun z=>V.ref z.1)++[.ref l]))):=Keeps.one eL7;refine k _ _ eL7 (by rw [Xaa,lv];exact Zal (by omega)) ⟨vs'++[(l,z.2)],by rw [Xad];rfl,fun b o e=>?_,upd_same,fun w hw'=>?_,?_⟩
     · rw [Zah (Zac e hL)];exact s7 _ _ (s6 _ _ e)
     · rcases Xaf.mp hw' with h | h
       · exact ((hvs' w h).same s7).keeps kP fun x hx=>hx
       · rw [Xaj.mp h]
         exact ⟨ms,kP.at_ _ _ el nlP,(f3.same s7).keeps kP,nlP⟩
     · rw [Xad,hvm',Xar,Xag,hzi];rfl
   obtain ⟨sh,rfl,s6,eSH,hsh,hshm⟩:=hv;rw [Xaa,←Xaa (f:=(·.2)),Xas,hsm] at hshm;have s46:=s5.trans s6;have s06:=s04.trans s46;clear hsn eSN hsm lsn
   have hsho:∀ z∈sh,Zdq W.ss z.2:=fun z h=>by
    have:z.2∈ZbK W.ss ord (zs.map (·.2)) (zs.map (·.2)):=by rw [←hshm];exact Xai.mpr ⟨z,h,rfl⟩
    obtain ⟨z',h1,h2⟩:=Xai.mp (XaK.mp this).1;rw [←h2];exact hzo z' h1
   refine g_in ?_;try dsimp only
   refine ⟨_,rfl,P,rfl,⟨_,SqL.of (s46 _ _ eP)⟩,Zg2 (xs:=vs.map fun z=>V.ref z.1) (fun L i ys H'=>∃ os:List (Addr×List Mrk),ys=(os.map fun z=>V.ref z.1)∧Same H6 H'∧H' L=some (.lst ys)∧(∀ z∈os,z∈vs)∧os.map (·.2)=Zjv (ZbK W.ss ord (zs.map (·.2)) (zs.map (·.2))) ((zs.map (·.2)).take i)∧os.length≤i)
    (fun L hL=>⟨[],rfl,Zak hL,upd_same,fun z hz=>by simp at hz,by rw [Xaz];rfl,XaW _⟩) (fun L i ys H' hv_=>by obtain ⟨_,_,s,_⟩:=hv_;exact SqL.of (s _ _ (s46 _ _ eP))) (fun L i y ys H7 RR R0 hL hy hv k k0=>?_) (fun OT ys H7 hOT hv=>?_)⟩
   · obtain ⟨os,rfl,s7,eL,hos,hom,lo⟩:=hv
     obtain ⟨z,hzi,rfl⟩:=getm hy;have hil:i<vs.length:=(Xae.mp hzi).1;have mz:=Xah hzi
     have hwi:(zs.map (·.2))[i]?=some z.2:=by rw [←hvm,Xag,hzi];rfl
     refine ⟨_,rfl,_,rfl,4,wayE.D z.2,(sh.map (·.2)).map wayE.D,SH,_,fun d hd=>?_,by decide,((hvs z mz).same (s46.trans s7)).dt,rfl,SqL.of (s7 _ _ eSH),ZdV fun z h=>(hsh z h).same s7,_,rfl,?_⟩
     · obtain ⟨v,_,rfl⟩:=Xai.mp hd
       exact (wayE.cmp v z.2).mono (by decide)
     rw [way_in,hshm]
     cases hm:dec (z.2∈ZbK W.ss ord (zs.map (·.2)) (zs.map (·.2))) with
     | true=>exact k0 _ ⟨os,rfl,s7,eL,hos,by rw [Zkm hwi,Xbf hm];exact hom,by omega⟩
     | false =>
       refine ⟨_,rfl,k _ _ eL (by rw [Xaa];exact Zal (by omega)) ⟨os++[z],by rw [Xad];rfl,fun b o e=>?_,upd_same,fun w hw=>?_,?_,by rw [Xac,Xau];omega⟩⟩
       · rw [Zah (Zac e hL)];exact s7 _ _ e
       · rcases Xaf.mp hw with h | h
         · exact hos w h
         · rw [Xaj.mp h];exact mz
       · rw [Zkm hwi,Xbe (by rw [hm];exact Xbc),Xad,hom];rfl
   obtain ⟨os,rfl,s7,eOT,hos,hom,lo⟩:=hv;rw [Xaa] at lo;rw [Xaa,lvs,←Xaa (f:=(·.2)) (as:=zs),Xas] at hom;have s47:=s46.trans s7;have s07:=s04.trans s47;refine g_in ?_;try dsimp only
   refine ⟨_,rfl,_,rfl,_,rfl,nt,S,T,R,t,D,us,Gs,Es,W.ss,_,F,W.sts,inn,ord,zs,rfl,s07 _ _ eN,N3.sc.same s07,TB.same s07,CL.tok.ol,CL.tok.irr,s07 _ _ eD,fun z h=>(hz z h).same s07,hzo,Xbh lz (by decide),fun RW rw' H8 hRW s8 eRW hrw hrm=>?_⟩;refine g_in ?_;try dsimp only
   have hin:∀ w∈zs.map (·.2),w∈zs.map (·.2):=fun _ h=>h
   have hal:(rw'.map (·.2)).map (·.1)=os.map (·.2):=by rw [hrm,hom];exact Zl2 CL.tok.irr CL.tok.tr hin
   have hll:rw'.length=os.length:=by have:=Xbk List.length hal;rw [Xaa,Xaa,Xaa] at this;exact this
   have s48:=s47.trans s8;have s08:=s04.trans s48;have s28:=s3.trans (s4.trans s48);refine ⟨_,rfl,_,.lst,.lst,rfl,.lst (SqL.of eRW),_,rfl,iteF ?_⟩;refine ⟨_,rfl,_,_,rfl,Or.inl ⟨_,SqL.of eRW,rfl⟩,_,rfl,_,_,rfl,Or.inl ⟨_,SqL.of (s8 _ _ eOT),rfl⟩,rfl,_,rfl,ite2 (fun h=>?_) (fun _=>?_)⟩
   · exfalso
     rw [Xaa,Xaa,hll] at h;simp at h
   refine ⟨_,rfl,_,rfl,6,_,_,cmp_net W.ss W.ss W.gs W.gs qs qs,by decide,(N3.same s08).dt (s08 _ _ eN),(N2.same s28).dt (s28 _ _ ekn),_,rfl,?_⟩;rw [ZaH rfl];refine iteF ⟨_,rfl,_,rfl,6,_,_,ZlO W.sts W.sts inn inn ord ord,by decide,(TB.same s08).dt,(TB2.same (s4.trans s48)).dt,_,rfl,?_⟩;rw [ZaH rfl];refine iteF ⟨_,rfl,_,rfl,4,Dt.lst ((zs.map (·.2)).map wayE.D),Dt.lst ((vs.map (·.2)).map wayE.D),Zke _ _,by decide,.lst (SqL.of (s08 _ _ eD)) (ZdV fun z h=>(hz z h).same s08),.lst (SqL.of (s48 _ _ eP)) (ZdV fun z h=>(hvs z h).same s48),_,rfl,?_⟩;rw [ZaH (by rw [hvm])];refine iteF ?_;refine nx_sq ?_;refine Zdd (fun σ' H'=>∃ u9 u10:Option V,σ'=[some (.ref nt),some (.ref t),some (.ref D),some (.ref kn),some (.ref t2),some (.ref P),some (.ref SH),some (.ref OT),some (.ref RW),u9,u10,none,none]∧Same H8 H') ?_ (fun N hN=>?_)
   case refine_2 =>
    refine ⟨_,rfl,_,rfl,RW,OT,rfl,⟨_,SqL.of eRW⟩,⟨_,SqL.of (s8 _ _ eOT)⟩,Zlp (xs:=rw'.map fun z=>V.ref z.1) (ys:=os.map fun z=>V.ref z.1) (fun i σ H'=>∃ u9 u10:Option V,σ=[some (.ref nt),some (.ref t),some (.ref D),some (.ref kn),some (.ref t2),some (.ref P),some (.ref SH),some (.ref OT),some (.ref RW),u9,u10,none,none]∧Same H8 H') ⟨_,_,rfl,Same.refl _⟩ (fun i σ H' hv_=>by obtain ⟨_,_,_,s⟩:=hv_;exact ⟨SqL.of (s _ _ eRW),SqL.of (s _ _ (s8 _ _ eOT))⟩) ?_ ?_⟩;rotate_left
    · rintro σ H9 ⟨u9,u10,rfl,s9⟩
      exact hN _ _ ⟨u9,u10,rfl,s9⟩
    rintro i x y T' σ H9 hx hy hT' ⟨u9,u10,rfl,s9⟩;rw [Xag] at hx hy;obtain ⟨r,hri,rfl⟩:=XaV.mp hx;obtain ⟨z,hzi,rfl⟩:=XaV.mp hy;have mr:=Xah hri;have mz:=hos z (Xah hzi)
    have e0:r.2.1=z.2:=by
     have h1:((rw'.map (·.2)).map (·.1))[i]?=some r.2.1:=by rw [Xag,Xag,hri];rfl
     rw [hal,Xag,hzi] at h1;exact (Xbd h1).symm
    have hfi:ZbA W.ss ord (sh.map (·.2)) z.2=some r.2.2:=by
     rw [hshm,←e0];exact (Zl3 (l:=zs.map (·.2)) (by rw [←hrm];exact Xai.mpr ⟨r,mr,rfl⟩)).1
    obtain ⟨H10,qH10,s10,eT'⟩:=new_at (o:=.tup [.ref r.1,.ref z.1]) hT';rw [←qH10];have s810:=s9.trans s10;have s210:=s28.trans s810;have s610:=(s7.trans s8).trans s810;have hr10:=(hrw r mr).same s810;rw [show r.2=(z.2,r.2.2) by rw [←e0]] at hr10;refine ⟨T',_,rfl,SqT.of eT',rfl,_,_,rfl,_,_,rfl,rfl,?_⟩;refine ⟨_,rfl,_,rfl,_,rfl,_,rfl,_,rfl,kn,S2,T2,R2,t2,SH,z.1,r.1,u2,G2,E2,W.ss,_,_,_,_,W.sts,inn,ord,sh,z.2,r.2.2,rfl,s210 _ _ ekn,N2.sc.same s210,TB2.same (s4.trans (s48.trans s810)),s610 _ _ eSH,fun z h=>(hsh z h).same s610,hsho,(hvs z mz).same (s48.trans s810),hvo z mz,hfi,hr10,fun H11 s11=>⟨_,rfl,iteF ?_⟩⟩;exact ⟨_,_,rfl,s810.trans s11⟩
   rintro σ' H9 ⟨u9',u10',rfl,s9⟩;have eRW9:=s9 _ _ eRW;have hrw9:∀ z∈rw',RwH (fun l=>H7 l=none∧l≠RW) H9 z.1 z.2:=fun z h=>(hrw z h).same s9
   have lrw:rw'.length≤60:=by omega
   refine ⟨_,rfl,RW,rfl,⟨_,SqL.of eRW9⟩,Za3 (xs:=rw'.map fun z=>V.ref z.1) (fun L i ys H'=>∃ tl:List (Addr×List Mrk×List Mrk),ys=(tl.map fun z=>V.ref z.1)∧Same H9 H'∧H' L=some (.lst ys)∧(∀ z∈tl,RwH (fun l=>H9 l=none∧l≠L) H' z.1 z.2)∧tl.map (·.2)=(rw'.map (·.2)).take i)
    (fun L hL=>⟨[],rfl,Zak hL,upd_same,fun z hz=>by simp at hz,by rw [Xaz];rfl⟩) (fun L i ys H' hv_=>by obtain ⟨_,_,s,_⟩:=hv_;exact SqL.of (s _ _ eRW9)) (fun L i y ys H10 RR hL hy hv k=>?_) (fun TD ys H11 hTD hv=>?_)⟩
   · obtain ⟨tl,rfl,s10,eL,htl,htm⟩:=hv
     obtain ⟨z,hzi,rfl⟩:=getm hy;have hil:i<rw'.length:=(Xae.mp hzi).1;obtain ⟨a,b,e0,⟨ms,f2,f3,_⟩,⟨ns,g2,g3,_⟩⟩:=(hrw9 z (Xah hzi)).same s10
     have lt:tl.length=i:=by
      have:=Xbk List.length htm
      rw [Xaa,Xaw,Xaa] at this;omega
     refine ⟨z.1,_,rfl,SqT.of e0,rfl,_,_,rfl,_,_,rfl,rfl,?_⟩;refine ⟨_,rfl,a,_,rfl,Or.inl (SqL.of f2),fun l1 hl1=>?_⟩;obtain ⟨H11,qH11,s11,e1⟩:=new_at (o:=.lst (ms.map V.ref)) hl1;rw [←qH11];refine ⟨_,rfl,b,_,rfl,Or.inl (SqL.of (s11 _ _ g2)),fun l2 hl2=>?_⟩;obtain ⟨H12,qH12,s12,e2⟩:=new_at (o:=.lst (ns.map V.ref)) hl2;rw [←qH12];refine ⟨ZaF,fun T9 hT9=>?_⟩;obtain ⟨H13,qH13,s13,e3⟩:=new_at (o:=.tup [.ref l1,.ref l2]) hT9;rw [←qH13];have s1013:=s11.trans (s12.trans s13);have eL13:=s1013 _ _ eL
     have n1:l1≠L:=fun y=>by rw [y,eL] at hl1;cases hl1
     have n2:l2≠L:=fun y=>by rw [y,s11 _ _ eL] at hl2;cases hl2
     have kP:Keeps (·=L) H13 (upd H13 L (.lst (tl.map (fun z=>V.ref z.1)++[.ref T9]))):=Keeps.one eL13;refine k _ _ eL13 (by rw [Xaa,lt];exact Zal (by omega)) ⟨tl++[(T9,z.2)],by rw [Xad];rfl,fun b o e=>?_,upd_same,fun w hw'=>?_,?_⟩
     · rw [Zah (Zac e hL)];exact s1013 _ _ (s10 _ _ e)
     · rcases Xaf.mp hw' with h | h
       · exact ((htl w h).same s1013).keeps kP fun x hx=>hx.2
       · rw [Xaj.mp h]
         exact ⟨l1,l2,kP.tup e3,⟨ms,kP.at_ _ _ ((s12.trans s13) _ _ e1) n1,(f3.same s1013).keeps kP,s10.free hl1,n1⟩,⟨ns,kP.at_ _ _ (s13 _ _ e2) n2,(g3.same s1013).keeps kP,(s10.trans s11).free hl2,n2⟩⟩
     · rw [Xad,htm,Xar,Xag,hzi];rfl
   obtain ⟨tl,rfl,s10,eTD,htl,htm⟩:=hv;rw [Xaa,←Xaa (f:=(·.2)),Xas] at htm;refine g_in ?_;try dsimp only
   have s711:=s8.trans (s9.trans s10);have eRW11:=s10 _ _ eRW9;obtain ⟨M,hM⟩:∃ M:Addr→Prop,M=fun y=>∃ z∈rw',∃ a b,H9 z.1=some (.tup [.ref a,.ref b])∧(y=a∨y=b):=⟨_,rfl⟩
   have hrl:∀ r∈rw',r.2.1.length≤5∧r.2.2.length≤5:=fun r mr=>by
    obtain ⟨h1,h2⟩:=Zl3 (ss:=W.ss) (ord:=ord) (l:=zs.map (·.2)) (all:=zs.map (·.2)) (r:=r.2) (by rw [←hrm];exact Xai.mpr ⟨r,mr,rfl⟩);obtain ⟨z1,g1,g2⟩:=Xai.mp h2;obtain ⟨z2,g3,g4⟩:=Xai.mp (XaK.mp (List.mem_of_find?_eq_some h1)).1;rw [←g2,←g4];exact ⟨(hzo z1 g1).2,(hzo z2 g3).2⟩
   have Mat:∀ y,M y→(H7 y=none∧y≠RW)∧(∃ o,H9 y=some o)∧∃ xs,H11 y=some (.lst xs)∧xs.length≤6:=fun y hy=>by
    rw [hM] at hy;obtain ⟨z,mz,a,b,e,hab⟩:=hy;obtain ⟨a',b',e',⟨ms,f2,f3,f4⟩,⟨ns,g2,g3,g4⟩⟩:=hrw9 z mz;rw [e] at e';cases e';obtain ⟨l1,l2⟩:=hrl z mz
    rcases hab with rfl | rfl
    · exact ⟨f4,⟨_,f2⟩,_,s10 _ _ f2,by rw [Xaa,f3.len];omega⟩
    · exact ⟨g4,⟨_,g2⟩,_,s10 _ _ g2,by rw [Xaa,g3.len];omega⟩
   refine Zdd (fun σ' H'=>∃ u10 u12:Option V,σ'=[some (.ref nt),some (.ref t),some (.ref D),some (.ref kn),some (.ref t2),some (.ref P),some (.ref SH),some (.ref OT),some (.ref RW),u9',u10,some (.ref TD),u12]∧Keeps M H11 H') ?_ (fun N hN=>?_)
   case refine_2 =>
    refine ⟨_,rfl,RW,rfl,⟨_,SqL.of eRW11⟩,ZaI (xs:=rw'.map fun z=>V.ref z.1) (fun j σ H'=>∃ u10 u12:Option V,σ=[some (.ref nt),some (.ref t),some (.ref D),some (.ref kn),some (.ref t2),some (.ref P),some (.ref SH),some (.ref OT),some (.ref RW),u9',u10,some (.ref TD),u12]∧Keeps M H11 H'∧∀ x,M x→∃ xs,H' x=some (.lst xs)∧xs.length≤6+j) ⟨_,_,rfl,Keeps.refl fun x o m e=>by
     obtain ⟨_,_,xs,h,_⟩:=Mat x m
     rw [h] at e;exact ⟨xs,(Xbd e).symm⟩,fun x hx=>(Mat x hx).2.2⟩ (fun i σ H' _ hv_=>by obtain ⟨_,_,_,k,_⟩:=hv_;exact SqL.of (k.at_ _ _ eRW11 fun m=>(Mat _ m).1.2 rfl)) ?_ ?_⟩
    rotate_left
    · rintro σ H12 ⟨u10,u12,rfl,k12,_⟩
      exact hN _ _ ⟨u10,u12,rfl,k12⟩
    rintro j y σ H12 hy ⟨u10,u12,rfl,k12,hl12⟩;obtain ⟨z,hzj,rfl⟩:=getm hy;have mz:=Xah hzj;have hjl:j<rw'.length:=(Xae.mp hzj).1;obtain ⟨a,b,e0,_,_⟩:=hrw9 z mz
    have Ma:M a:=by rw [hM];exact ⟨z,mz,a,b,e0,.inl rfl⟩
    have Mb:M b:=by rw [hM];exact ⟨z,mz,a,b,e0,.inr rfl⟩
    obtain ⟨xs,exa,lxs⟩:=hl12 a Ma;refine ⟨z.1,_,rfl,SqT.of (k12.tup (s10 _ _ e0)),rfl,_,_,rfl,_,_,rfl,rfl,?_⟩;refine ⟨_,rfl,Or.inl ⟨rfl,_,SqL.of exa⟩,a,_,rfl,rfl,exa,?_⟩
    have hl13:∀ x,M x→∃ xs,(upd H12 a (.lst [])) x=some (.lst xs)∧xs.length≤6+j:=fun x hx=>by
     by_cases e:x=a
     · subst e;exact ⟨_,upd_same,Xa1 _⟩
     · obtain ⟨ys,ey,ly⟩:=hl12 x hx
       exact ⟨ys,by rw [Zah e];exact ey,ly⟩
    have k13:Keeps M H11 (upd H12 a (.lst [])):=k12.set Ma;generalize upd H12 a (.lst [])=H13 at hl13 k13 ⊢;obtain ⟨ys,exb,lys⟩:=hl13 b Mb;refine ⟨_,rfl,Or.inl ⟨rfl,_,SqL.of exb⟩,Za1,fun w hw'=>?_⟩
    have t1:=Zak (o:=.tup [.int 0,.str "told",.int 0]) hw'
    generalize upd H13 w (.tup [.int 0,.str "told",.int 0])=H14 at t1 ⊢
    refine ⟨b,_,_,rfl,rfl,t1 _ _ exb,Zal (by omega),?_⟩;refine ⟨_,_,rfl,(k13.same t1).set Mb,fun x hx=>?_⟩
    by_cases e:x=b
    · subst e
      exact ⟨_,upd_same,by rw [Xac,Xau];omega⟩
    · obtain ⟨ys,ey,ly⟩:=hl13 x hx
      exact ⟨ys,by rw [Zah e];exact t1 _ _ ey,by omega⟩
   rintro σ' H12 ⟨v10,v12,rfl,k12⟩;have eRW12:=k12.at_ _ _ eRW11 fun m=>(Mat _ m).1.2 rfl;refine ⟨_,rfl,Or.inl ⟨rfl,_,SqL.of eRW12⟩,RW,_,rfl,rfl,eRW12,?_⟩
   have kk:∀ x o,H11 x=some o→¬M x→x≠RW→(upd H12 RW (.lst [])) x=some o:=fun x o e n n2=>by rw [Zah n2];exact k12.at_ _ _ e n
   have ktu:∀ x xs,H11 x=some (.tup xs)→(upd H12 RW (.lst [])) x=some (.tup xs):=fun x xs e=>by
    rw [Zah (ZfN e eRW11 (fun z=>nomatch z))];exact k12.tup e
   have s7n:Same H7 (upd H12 RW (.lst [])):=fun x o e=>kk x o (s711 _ _ e) (fun m=>by rw [(Mat x m).1.1] at e;cases e) (Zac e hRW)
   have n9:∀ x,H9 x=none→¬M x∧x≠RW:=fun x hx=>by
    refine ⟨fun m=>?_,fun y=>?_⟩
    · obtain ⟨_,⟨o,ho⟩,_⟩:=Mat _ m
      rw [hx] at ho;cases ho
    · rw [y,eRW9] at hx;cases hx
   have htlN:∀ z∈tl,RwH (fun _=>True) (upd H12 RW (.lst [])) z.1 z.2:=fun z h=>by
    obtain ⟨a,b,e0,⟨ms,f2,f3,f4⟩,⟨ns,g2,g3,g4⟩⟩:=htl z h;exact ⟨a,b,ktu _ _ e0,⟨ms,kk _ _ f2 (n9 _ f4.1).1 (n9 _ f4.1).2,⟨f3.len,fun n a b h1 h2=>ktu _ _ (f3.at_ n a b h1 h2)⟩,trivial⟩,⟨ns,kk _ _ g2 (n9 _ g4.1).1 (n9 _ g4.1).2,⟨g3.len,fun n a b h1 h2=>ktu _ _ (g3.at_ n a b h1 h2)⟩,trivial⟩⟩
   have eTDn:(upd H12 RW (.lst [])) TD=some (.lst (tl.map fun z=>V.ref z.1)):=kk _ _ eTD (n9 _ hTD).1 (n9 _ hTD).2;generalize upd H12 RW (.lst [])=H13 at s7n htlN eTDn ⊢;have s4n:=s47.trans s7n;have s0n:=s04.trans s4n;try dsimp only
   refine ⟨_,rfl,_,rfl,4,Dt.lst ((zs.map (·.2)).map wayE.D),Dt.lst ((vs.map (·.2)).map wayE.D),Zke _ _,by decide,.lst (SqL.of (s0n _ _ eD)) (ZdV fun z h=>(hz z h).same s0n),.lst (SqL.of (s4n _ _ eP)) (ZdV fun z h=>(hvs z h).same s4n),_,rfl,?_⟩;rw [ZaH (by rw [hvm])];refine iteT ⟨_,rfl,_,rfl,_,rfl,nt,S,T,R,t,D,us,Gs,Es,W.ss,_,F,W.sts,inn,ord,zs,rfl,s0n _ _ eN,N3.sc.same s0n,TB.same s0n,CL.tok.ol,CL.tok.irr,s0n _ _ eD,fun z h=>(hz z h).same s0n,hzo,Xbh lz (by decide),fun R2' r2 H14 _ s14 eR2 hr2 hrm2=>?_⟩;refine ⟨_,rfl,8,Dt.lst ((r2.map (·.2)).map rwE.D),Dt.lst ((tl.map (·.2)).map rwE.D),Zl1 _ _,by decide,.lst (SqL.of eR2) (Zju hr2),.lst (SqL.of (s14 _ _ eTDn)) (Zju fun z h=>(htlN z h).same s14),?_⟩;rw [ZaH (by rw [hrm2,htm,hrm])];exact kq H14 (s0n.trans s14)
variable (P w K mg base) in
abbrev ZcX:Prop:=Zax P w K mg base "_law_right" 5 ["_law_net", "_law_table_here", "_law_ways_here"] (ZeU K)
theorem ZgC (B:Blt mg) (c__law_copy:Zdk P w K mg base) (c__law_copy_table:Zbw P w K mg base) (c_seen_ways:ZbR P w K mg base) (c_hidden_ways:Zby P w K mg base) (c__law_row:Zd2 P w K mg base) (F:Fun K "_law_right" "_law_right" Za6 f fd) (hm:mg "_law_right" = some (.ref f)):ZcX P w K mg base :=
 ⟨f,fd,Zh4 B c__law_copy c__law_copy_table c_seen_ways c_hidden_ways c__law_row F,hm,F.kp,F.binds fun _ _ _ _ _ _ us hl=>(by obtain ⟨x0,x1,x2,rfl⟩:=ZgF hl;rfl)⟩
inductive E_law (K:XFg) (vs:List V) (H:Hp) (Q:VK):Prop where
 | mk (a:Addr) (ns:List Int) (h0:vs=[.ref a]) (h1:SqL K H a (ns.map V.int)) (h2:ns.length≤63) (h3:∀ H',Q (.bl true) H'):E_law K vs H Q
def Zi4 (K:XFg):Sp:=fun vs H Q _=>E_law K vs H Q
theorem ok_law (B:Blt mg) (c__law_case:Zdh P w K mg base) (c__law_cell_at:Zbb P w K mg base) (c__law_ways:Zdj P w K mg base) (c__law_right:ZcX P w K mg base) (c_hidden_ways:Zby P w K mg base) (F:Fun K "law" "law" Zh5 f fd):FnOk P w K mg base CX0 9 f fd ["_law_script"] (Zi4 K):=by
 refine F.ok sc_law (fun vs H Q E h=>?_) (fun cdv A outer s H vs Q E hr h=>?_)
 · obtain ⟨a,ns,rfl,_⟩:=h
   rfl
 · obtain ⟨a,ns,rfl,hS,hlen,kq⟩:=h
   refine ⟨_,(Zad (Zdl (ZaC c__law_case (hr.mono (by decide)) rfl (Zaa (pv 0) Zab)) (ZaR rfl (Zai (Zag (i:=1) sc_law.nd rfl (Or.inl rfl)) (Zai (Zag (i:=2) sc_law.nd rfl (Or.inl rfl)) (Zai (Zag (i:=3) sc_law.nd rfl (Or.inl rfl)) (Zai (Zag (i:=4) sc_law.nd rfl (Or.inl rfl)) ZaG))))))
    (Zad (ZaL Xbs rfl (ZbD rfl B.b_range (Zaa (Zan Zay (by rfl) B.b_len (by decide +kernel) (Zaa (Zas Zam (pv 1) Zaf (fun _ _=>rfl)) Zab)) Zab)) (Zag (i:=5) sc_law.nd rfl (Or.inl rfl)) (Zad (Zdl (Zas Zam (Zas Zam (pv 1) Zaf (fun _ _=>rfl)) (pv 5) (fun _ _=>rfl)) (ZaR rfl (Zai (Zag (i:=6) sc_law.nd rfl (Or.inl rfl)) (Zai (Zag (i:=7) sc_law.nd rfl (Or.inl rfl)) (Zai (Zag (i:=8) sc_law.nd rfl (Or.inl rfl)) ZaG)))))
     (Zad (Zao (i:=9) sc_law.nd rfl (Or.inl rfl) (Zas Zam (pv 4) (Zap ZaE (Zap Zba (Zap ZaN (ZaC c__law_cell_at (hr.mono (by decide)) rfl (Zaa (pv 0) (Zaa Zaf Zab))) Zaf) (pv 5)) Zaf) (fun _ _=>rfl)))
     (Zad (Zao (i:=10) sc_law.nd rfl (Or.inl rfl) (ZaC c__law_ways (hr.mono (by decide)) rfl (Zaa (pv 1) (Zaa (pv 3) (Zaa (pv 2) (Zaa (Zat (Zaa (pv 6) (Zaa (pv 7) Zab))) (Zaa (pv 9) (Zaa (Zap ZaE (Zap ZaN (ZaC c__law_cell_at (hr.mono (by decide)) rfl (Zaa (pv 0) (Zaa Zaf Zab))) Zaf) (Zap op_pow Zaf Zaf)) Zab))))))))
     (Zae (ZaS (PW.pt (ZgD (Zc2 (Zb7 (ZaC c__law_right (hr.mono (by decide)) rfl (Zaa (pv 1) (Zaa (pv 2) (Zaa (pv 10) Zab)))))) (Zh9 (Zc2 (Zb7 (ZaC c__law_right (hr.mono (by decide)) rfl (Zaa (pv 1) (Zaa (pv 2) (Zaa (ZdR ZeY (pv 10) (ZeX Zaf) ZeW) Zab))))))))) (Zae (Zar Zh7)) Zau))))))
    (Zae (Zar (Zb6 (Ziq hr.units) (ZaC c_hidden_ways (hr.mono (by decide)) rfl (Zaa (pv 1) (Zaa (pv 2) (Zaa (ZaM Zab) Zab)))) (ZaM Zab) (ZaD _)))))),?_⟩
   try dsimp only [cxOf,Cx.nox,Cx.wish]
   refine ⟨_,rfl,a,ns,rfl,hS,hlen,fun r nt t A WW W qs inn ord ls ws H1 hr s1 er CL=>?_⟩;refine ⟨r,_,rfl,SqT.of er,rfl,_,_,rfl,_,_,rfl,_,_,rfl,_,_,rfl,rfl,?_⟩;obtain ⟨S,T,R,us,Gs,Es,ts,qt,eN,N3,_⟩:=CL.net;have eW:=CL.wds;have ok:=CL.ok.ok;have lq5:=CL.ok.q5
   have lqt:(qt.map V.ref).length=qs.length:=by rw [Xaa,N3.tq.len]
   refine ⟨_,rfl,Or.inr (Or.inl ⟨nt,_,_,.ref R,rfl,rfl,SqT.of eN,rfl,_,_,rfl,Or.inl ⟨_,SqL.of N3.er,rfl⟩,_,rfl,by omega,by omega,Zb3 (lo:=0) (n:=(((qt.map V.ref).length:Nat):Int).toNat) (fun i σ H'=>∃ u5 u6 u7 u8 u9 u10:Option V,σ=[some (.ref a),some (.ref nt),some (.ref t),some (.ref A),some (.ref WW),u5,u6,u7,u8,u9,u10]∧Same H1 H') ⟨none,none,none,none,none,none,rfl,Same.refl _⟩ ?_ ?_⟩)⟩;rotate_left
   · rintro σ H2 ⟨u5,u6,u7,u8,u9,u10,rfl,s2⟩
     refine ⟨_,rfl,_,rfl,by decide,fun L hL=>?_⟩;obtain ⟨H3,qH3,s3,eL⟩:=new_at (o:=.lst []) hL;rw [←qH3];have s23:=s2.trans s3;refine ⟨nt,S,T,R,t,L,us,Gs,Es,W.ss,_,(fun _=>True),W.sts,inn,ord,[],rfl,s23 _ _ eN,N3.sc.same s23,CL.tab.same s23,CL.tok.ol,CL.tok.irr,eL,(fun z hz=>by cases hz),(fun z hz=>by cases hz),by decide,fun P ys H4 hP s4 eP _ hys=>?_⟩;have hys:ys=[]:=List.map_eq_nil_iff.mp hys;subst hys;refine ⟨by decide,fun L2 hL2=>?_⟩;obtain ⟨H5,qH5,s5,eL2⟩:=new_at (o:=.lst []) hL2;rw [←qH5];refine ⟨8,Dt.lst (([]:List (List Mrk×List Mrk)).map rwE.D),Dt.lst (([]:List (List Mrk×List Mrk)).map rwE.D),Zl1 _ _,by decide,.lst (SqL.of (s5 _ _ eP)) .nil,.lst (SqL.of eL2) .nil,?_⟩;rw [ZaH rfl];exact kq _
   rintro i σ H2 hi ⟨u5,u6,u7,u8,u9,u10,rfl,s2⟩
   have hil:i<qs.length:=by omega
   have hqi:=Xab hil;have hti:qt[i]?=some (qt[i]'(by rw [N3.tq.len];exact hil)):=Xab _;obtain ⟨pu,ep1,ep2⟩:=N3.tq.at_ i _ _ hti hqi;obtain ⟨hsc,hst,_⟩:=CL.ok.q _ (Xav hil);generalize qt[i]'(by rw [N3.tq.len];exact hil)=tq at hti ep1;generalize qs[i]=qq at ep1 ep2 hsc hst
   have hat:atI (qt.map V.ref) (0+(i:Int))=some (.ref tq):=by rw [Int.zero_add];exact ZaQ (by rw [Xag,hti];rfl)
   refine ⟨_,rfl,Or.inr (Or.inl ⟨nt,_,_,.ref R,rfl,rfl,SqT.of (s2 _ _ eN),rfl,_,rfl,Or.inl ⟨R,_,_,.ref tq,rfl,rfl,SqL.of (s2 _ _ N3.er),hat,?_⟩⟩)⟩;refine ⟨tq,_,rfl,SqT.of (s2 _ _ ep1),rfl,_,_,rfl,_,_,rfl,_,_,rfl,rfl,?_⟩;have s02:=s1.trans s2;have y0:=Xa3 (Zd9 ns 5 / 7+(0+(i:Int))) (by decide:(3:Int)≠0);have y1:=Xa2 (Zd9 ns 5 / 7+(0+(i:Int))) (by decide:(0:Int)<3);have w9:=CL.w9;obtain ⟨nm,_,hnm⟩:=Zf3 (ws:=ws) y0 (by omega);refine ⟨_,rfl,_,rfl,a,ns,5,rfl,by decide,s02.seq hS,_,_,rfl,rfl,⟨by decide,by decide⟩,_,rfl,_,_,rfl,rfl,_,_,rfl,rfl,(by show (0:Int)<3;decide),Or.inl ⟨WW,_,_,.str nm,rfl,rfl,SqL.of (s2 _ _ eW),hnm,?_⟩⟩;refine g_in ?_;try dsimp only
   refine ⟨_,rfl,_,rfl,_,rfl,_,rfl,_,rfl,ZaF,fun lk hlk=>?_⟩;obtain ⟨H3,qH3,s3,elk⟩:=new_at (o:=.tup [.int qq.1,.int qq.2.1]) hlk;rw [←qH3];have s03:=s02.trans s3;refine ⟨_,rfl,_,rfl,a,ns,4,rfl,by decide,s03.seq hS,_,_,rfl,rfl,⟨by decide,by decide⟩,_,_,rfl,rfl,⟨by decide,by decide,by decide⟩,_,_,rfl,rfl,(by show (0:Int)<10 ^ Int.toNat 6;decide),nt,A,t,lk,nm,_,W,qq.1,qq.2.1,rfl,CL.caseH.same (s2.trans s3),ok,hsc,hst,SqT.of elk,fun D zs H4 hD s4 eD hz hzo lz=>?_⟩;refine g_in ?_;try dsimp only
   refine ⟨_,rfl,_,rfl,_,rfl,H,nt,A,t,WW,D,W,qs,inn,ord,ls,ws,_,zs,rfl,CL.same (s2.trans (s3.trans s4)),eD,hz,hzo,by omega,fun H5 s5=>⟨_,rfl,iteF ?_⟩⟩;refine ⟨_,rfl,_,rfl,_,rfl,_,rfl,D,_,rfl,SqL.of (s5 _ _ eD),fun D1 hD1=>?_⟩;rw [show cutV (zs.map fun z=>V.ref z.1) (some 1) none=(zs.map fun z=>V.ref z.1).drop 1 from Zez _ 1,←XaP];obtain ⟨H6,qH6,s6,e6⟩:=new_at (o:=.lst ((zs.drop 1).map fun z=>V.ref z.1)) hD1;rw [←qH6];refine ⟨H,nt,A,t,WW,D1,W,qs,inn,ord,ls,ws,_,zs.drop 1,rfl,CL.same (s2.trans (s3.trans (s4.trans (s5.trans s6)))),e6,fun z h=>(hz z (List.mem_of_mem_drop h)).same (s5.trans s6),fun z h=>hzo z (List.mem_of_mem_drop h),by rw [XaF];omega,fun H7 s7=>⟨_,rfl,iteF ?_⟩⟩;exact ⟨_,_,_,_,_,_,rfl,s2.trans (s3.trans (s4.trans (s5.trans (s6.trans s7))))⟩
variable (P w K mg base) in
abbrev C_law:Prop:=Zax P w K mg base "law" 9 ["_law_script"] (Zi4 K)
theorem call_law (B:Blt mg) (c__law_case:Zdh P w K mg base) (c__law_cell_at:Zbb P w K mg base) (c__law_ways:Zdj P w K mg base) (c__law_right:ZcX P w K mg base) (c_hidden_ways:Zby P w K mg base) (F:Fun K "law" "law" Zh5 f fd) (hm:mg "law" = some (.ref f)):C_law P w K mg base :=
 ⟨f,fd,ok_law B c__law_case c__law_cell_at c__law_ways c__law_right c_hidden_ways F,hm,F.kp,F.binds fun _ _ _ _ _ _ us hl=>(by obtain ⟨x0,rfl⟩:=Zen hl;rfl)⟩
end
abbrev Fin (K:XFg) (mg:Str→Option Value) (x:Str) (st:Stmt):Prop:=∃ f fd,Fun K x x st f fd∧mg x=some (.ref f)
theorem ZaA {K:XFg}{h:Heap}{mg:Str→Option Value} (X:K.In h) (G:h.Ns mainGlobals mg) {x:Str} {st:Stmt} (q:Fx K x st):Fin K mg x st:=by
 obtain ⟨f,oc,od,an,osl,kV,doc,pm,cdv,ct,a,l,c,k⟩:=q;exact ⟨f,_,fun_mk l c k,PySem.W.mg_of X G a⟩
theorem all_mk {l:PySem.W.OpenLaw}{w:World}{K:XFg}{h:Heap}{mg:Str→Option Value}{fa:Addr} (X:K.In h) (G:h.Ns mainGlobals mg) (hfa:mg "law" = some (.ref fa)) (q:Facts K)
 : ∃ fd:FuncData,(∀ (s:Shared) (v:Value),BindsTo s fd ⟨[v],[]⟩ [("_law_script",v)])∧∀ base:Heap,K.In base→base.Ns mainGlobals mg→FnOk l.prog w K mg base CX0 9 fa fd ["_law_script"] (Zi4 K):=by
 obtain ⟨f53,oc53,od53,an53,sl53,kV53,dc53,pm53,cd53,ct53,a53,l53,c53,k53⟩:=q.q53;have e:=hfa.symm.trans (PySem.W.mg_of X G a53);cases e;have B:Blt mg:=⟨Xbt X G q.z_all,Xbt X G q.z_bool,Xbt X G q.z_dict,Xbt X G q.z_enumerate,Xbt X G q.z_int,Xbt X G q.z_isinstance,Xbt X G q.z_len,Xbt X G q.z_list,Xbt X G q.z_min,Xbt X G q.z_range,Xbt X G q.z_reversed,Xbt X G q.z_set,Xbt X G q.z_sorted,Xbt X G q.z_str,Xbt X G q.z_tuple,Xbt X G q.z_zip,q.y_LONGEST_NAME.imp fun _ y=>PySem.W.mg_of X G y,q.y_MOST_BEGINNINGS.imp fun _ y=>PySem.W.mg_of X G y,q.y_MOST_ENDS.imp fun _ y=>PySem.W.mg_of X G y,q.y_MOST_GOES.imp fun _ y=>PySem.W.mg_of X G y,q.y_MOST_PAIRS.imp fun _ y=>PySem.W.mg_of X G y,q.y_MOST_STATES.imp fun _ y=>PySem.W.mg_of X G y⟩;obtain ⟨_,_,F0,m0⟩:=ZaA X G q.q0;obtain ⟨_,_,F1,m1⟩:=ZaA X G q.q1;obtain ⟨_,_,F2,m2⟩:=ZaA X G q.q2;obtain ⟨_,_,F3,m3⟩:=ZaA X G q.q3;obtain ⟨_,_,F4,m4⟩:=ZaA X G q.q4;obtain ⟨_,_,F5,m5⟩:=ZaA X G q.q5;obtain ⟨_,_,F6,m6⟩:=ZaA X G q.q6;obtain ⟨_,_,F7,m7⟩:=ZaA X G q.q7;obtain ⟨_,_,F8,m8⟩:=ZaA X G q.q8;obtain ⟨_,_,F9,m9⟩:=ZaA X G q.q9;obtain ⟨_,_,F10,m10⟩:=ZaA X G q.q10;obtain ⟨_,_,F11,m11⟩:=ZaA X G q.q11;obtain ⟨_,_,F12,m12⟩:=ZaA X G q.q12;obtain ⟨_,_,F13,m13⟩:=ZaA X G q.q13;obtain ⟨_,_,F14,m14⟩:=ZaA X G q.q14;obtain ⟨_,_,F15,m15⟩:=ZaA X G q.q15;obtain ⟨_,_,F16,m16⟩:=ZaA X G q.q16;obtain ⟨_,_,F17,m17⟩:=ZaA X G q.q17;obtain ⟨_,_,F18,m18⟩:=ZaA X G q.q18;obtain ⟨_,_,F19,m19⟩:=ZaA X G q.q19;obtain ⟨_,_,F20,m20⟩:=ZaA X G q.q20;obtain ⟨_,_,F21,m21⟩:=ZaA X G q.q21;obtain ⟨_,_,F22,m22⟩:=ZaA X G q.q22;obtain ⟨_,_,F23,m23⟩:=ZaA X G q.q23;obtain ⟨_,_,F24,m24⟩:=ZaA X G q.q24;obtain ⟨_,_,F25,m25⟩:=ZaA X G q.q25;obtain ⟨_,_,F26,m26⟩:=ZaA X G q.q26;obtain ⟨_,_,F27,m27⟩:=ZaA X G q.q27;obtain ⟨_,_,F28,m28⟩:=ZaA X G q.q28;obtain ⟨_,_,F29,m29⟩:=ZaA X G q.q29;obtain ⟨_,_,F30,m30⟩:=ZaA X G q.q30;obtain ⟨_,_,F31,m31⟩:=ZaA X G q.q31;obtain ⟨_,_,F32,m32⟩:=ZaA X G q.q32;obtain ⟨_,_,F33,m33⟩:=ZaA X G q.q33;obtain ⟨_,_,F34,m34⟩:=ZaA X G q.q34;obtain ⟨_,_,F35,m35⟩:=ZaA X G q.q35;obtain ⟨_,_,F36,m36⟩:=ZaA X G q.q36;obtain ⟨_,_,F37,m37⟩:=ZaA X G q.q37;obtain ⟨_,_,F38,m38⟩:=ZaA X G q.q38;obtain ⟨_,_,F39,m39⟩:=ZaA X G q.q39;obtain ⟨_,_,F40,m40⟩:=ZaA X G q.q40;obtain ⟨_,_,F41,m41⟩:=ZaA X G q.q41;obtain ⟨_,_,F42,m42⟩:=ZaA X G q.q42;obtain ⟨_,_,F43,m43⟩:=ZaA X G q.q43;obtain ⟨_,_,F44,m44⟩:=ZaA X G q.q44;obtain ⟨_,_,F45,m45⟩:=ZaA X G q.q45;obtain ⟨_,_,F46,m46⟩:=ZaA X G q.q46;obtain ⟨_,_,F47,m47⟩:=ZaA X G q.q47;obtain ⟨_,_,F48,m48⟩:=ZaA X G q.q48;obtain ⟨_,_,F49,m49⟩:=ZaA X G q.q49;obtain ⟨_,_,F50,m50⟩:=ZaA X G q.q50;obtain ⟨_,_,F51,m51⟩:=ZaA X G q.q51;obtain ⟨_,_,F52,m52⟩:=ZaA X G q.q52;have F53:=fun_mk (st:=Zh5) l53 c53 k53
 refine ⟨PySem.W.fnOf "law" "law" (Zej Zh5) (Zdr Zh5) (Zaj Zh5) .none kV53 dc53 pm53 an53 cd53 ct53,fun s v=>.of_eq rfl,fun base _ _=>?_⟩
 have K__law_words:ZcM l.prog w K mg base:=Zgd B  F0 m0;have K__law_cell_at:Zbb l.prog w K mg base:=Ze9 B  F1 m1;have K__law_stream:ZaT l.prog w K mg base:=ZfA B  F2 m2;have K__law_under:ZcN l.prog w K mg base:=Zgf B  F3 m3;have K__law_table:ZcO l.prog w K mg base:=Zgg B K__law_stream K__law_under F4 m4;have K_refuse_too_great:Zbh l.prog w K mg base:=ZdA B  F5 m5;have K_labels_of:ZbQ l.prog w K mg base:=ZgI B  F6 m6;have K_labels_told:Zch l.prog w K mg base:=ZfB B K_labels_of F7 m7;have K_is_name:ZeH l.prog w K mg base:=ZiU B  F8 m8;have K_refuse_no_names:Zbu l.prog w K mg base:=Zd6 B K_labels_told K_is_name F9 m9;have K_is_whole:ZdW l.prog w K mg base:=ZhP B  F10 m10;have K_is_place:ZdX l.prog w K mg base:=ZhQ B K_is_whole F11 m11;have K_refuse_no_places:Zbi l.prog w K mg base:=ZdB B K_is_place F12 m12;have K_is_one_twice:ZbY l.prog w K mg base:=Zfa B  F13 m13;have K_refuse_twice:ZbZ l.prog w K mg base:=Zfb B K_is_one_twice K_labels_of F14 m14;have K_worse_by_better:Zbv l.prog w K mg base:=Zd7 B  F15 m15;have K_reached:ZeK l.prog w K mg base:=ZiV B  F16 m16;have K_all_that_follows:Zbj l.prog w K mg base:=ZdE B K_worse_by_better K_reached F17 m17;have K_order_of:ZdY l.prog w K mg base:=ZhR B K_all_that_follows F18 m18;have K_sorted_state:Zb0 l.prog w K mg base:=Zfc B  F19 m19;have K_table_of:ZdZ l.prog w K mg base:=ZhS B K_refuse_too_great K_refuse_no_names K_refuse_no_places K_refuse_twice K_order_of K_sorted_state F20 m20;have K_usual:ZhT l.prog w K mg base:=ZkU B K_table_of F21 m21;have K__law_things:Zci l.prog w K mg base:=ZfC B K__law_stream F22 m22;have K__law_questions:ZbH l.prog w K mg base:=Zer B K__law_stream F23 m23;have K__law_lay:Zd0 l.prog w K mg base:=ZhU B  F24 m24;have K__law_answers:Zb1 l.prog w K mg base:=Zfe B K__law_stream F25 m25;have K__law_case:Zdh l.prog w K mg base:=ZgM B K__law_words K__law_cell_at K__law_table K_usual K__law_things K__law_questions K__law_lay K__law_answers F26 m26;have K_has_end:ZeL l.prog w K mg base:=ZiX B  F27 m27;have K_found_behind:Zb2 l.prog w K mg base:=Zff B K_has_end F28 m28;have K_next_state:ZcR l.prog w K mg base:=Zgs B  F29 m29;have K_inside_of_sort:ZbI l.prog w K mg base:=Zes B  F30 m30;have K_inside:ZfM l.prog w K mg base:=ZjE B K_inside_of_sort F31 m31;have K_goal:Zkr l.prog w K mg base:=Zme B K_inside F32 m32;have K_steps_gone:ZbL l.prog w K mg base:=Zgt B K_next_state K_goal F33 m33;have K_longer_by_a_step:Zbk l.prog w K mg base:=ZdI B K_steps_gone F34 m34;have K_beginnings:ZbM l.prog w K mg base:=Zgu B K_longer_by_a_step F35 m35;have K_found_ways:ZcS l.prog w K mg base:=Zgv B K_found_behind K_beginnings F36 m36;have K_owed_behind:Zcj l.prog w K mg base:=ZfD B K_steps_gone F37 m37;have K_owed_ways:Zdi l.prog w K mg base:=ZgO B K_owed_behind K_beginnings F38 m38;have K__law_ways:Zdj l.prog w K mg base:=ZgP B K_found_ways K_owed_ways F39 m39;have K__law_copy:Zdk l.prog w K mg base:=ZgQ B  F40 m40;have K__law_copy_table:Zbw l.prog w K mg base:=Zd8 B  F41 m41;have K_better_pairs:Zbc l.prog w K mg base:=Zfh B  F42 m42;have K_tree_of:Zda l.prog w K mg base:=Zi2 B  F43 m43;have K_label_at:Zd1 l.prog w K mg base:=ZhZ B  F44 m44;have K_first_hider:Zbx l.prog w K mg base:=ZfE B K_label_at F45 m45;have K_seen_ways:ZbR l.prog w K mg base:=ZgS B K_better_pairs K_tree_of K_first_hider F46 m46;have K_hidden_ways:Zby l.prog w K mg base:=ZfF B K_better_pairs K_seen_ways K_tree_of K_first_hider F47 m47;have K__law_label:ZcU l.prog w K mg base:=Zgy B  F48 m48;have K__law_hides:ZcV l.prog w K mg base:=Zgz B K__law_label F49 m49;have K__law_first:ZcW l.prog w K mg base:=ZgA B K__law_hides F50 m50;have K__law_row:Zd2 l.prog w K mg base:=Zh3 B K__law_first F51 m51;have K__law_right:ZcX l.prog w K mg base:=ZgC B K__law_copy K__law_copy_table K_seen_ways K_hidden_ways K__law_row F52 m52;exact ok_law B K__law_case K__law_cell_at K__law_ways K__law_right K_hidden_ways F53
theorem walk {l:PySem.W.OpenLaw}{q:Program}{loose:List Str}{XP:(Str→Option Value)→Heap→Prop} {YP:World→Heap→Prop} {d:DefRec} {K:Params→XFg} (hn:l.most=some 63) (hdf:d.params.defaults=[])
 (hY:∀ (w:World) (h:Heap),YP w h→(K w.params).In h)
 (F:∀ (w:World) (mg:Str→Option Value) (fa:Addr) (h:Heap),(K w.params).In h→h.Ns mainGlobals mg→mg d.name=some (.ref fa) →
  ∃ fd:FuncData,(∀ (s:Shared) (u:Value),BindsTo s fd ⟨[u],[]⟩ [("_law_script",u)])∧∀ base:Heap,(K w.params).In base→base.Ns mainGlobals mg→FnOk l.prog w (K w.params) mg base CX0 9 fa fd ["_law_script"] (Zi4 (K w.params))) :
 PySem.W.WalkO q loose XP YP l.row.toRowW d [] (fun f vs=>PySem.call f vs) :=
 L2.walk_of (n:=63) (k:=9) (x := "_law_script") (CX:=fun _=>CX0) (sp:=fun w=>Zi4 (K w.params)) hn (by decide) hdf ⟨rfl,by decide,by decide⟩ hY F (fun _ _ a ns hl _ hS=>⟨a,ns,rfl,hS,hl,fun _=>rfl⟩) fun _ _ _ _ _ z=>z
end K27
open PySem PySem.W PyProof.Rows in
theorem PySem.Challenge.cw_namepaths_k27_hidden_ways_and_what_hides_holds : PySem.Challenge.rw_namepaths_k27_hidden_ways_and_what_hides.Holds :=
 K27.hd fun K q YP d h1 h2 hY=>K27.walk (l:=PySem.Challenge.rw_namepaths_k27_hidden_ways_and_what_hides) rfl h1 hY fun w mg fa h X G hm=>K27.all_mk X G (h2 ▸ hm) (q w)
