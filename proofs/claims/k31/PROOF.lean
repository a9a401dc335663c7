import PyProof.Rows.All
import Wide.All
import OpenK.AllK
import Wide.FinOn
import Lean
import PyProof.EqAt
import PyProof.EqKinds
import PyProof.TupleCall
import PySem.Challenge.RW_namepaths_k31_a_row_of_scopes
set_option Elab.async false
set_option linter.all false
set_option maxRecDepth 100000
set_option maxHeartbeats 1000000
abbrev XFg := PySem.W.Frag
def Xaa := @List.length_map
def Xab := @List.getElem?_eq_getElem
def Xac := @List.length_append
def Xad := @List.map_append
def Xae := @List.getElem?_eq_some_iff
def Xaf := @List.mem_append
def Xag := @List.getElem?_map
def Xah := @List.mem_of_getElem?
def Xai := @List.mem_map
def Xaj := @List.mem_singleton
def Xak := @List.size_toArray
def Xal := @List.mem_cons_self
def Xam := @List.mem_cons
def Xan := @List.mem_append_right
def Xao := @List.map_cons
def Xap := @List.mem_cons_of_mem
def Xaq := @List.getD_eq_getElem?_getD
def Xar := @List.take_succ
def Xas := @List.take_length
def Xat := @List.getElem?_append_left
def Xau := @List.length_singleton
def Xav := @List.getElem_mem
def Xaw := @List.length_take
def Xax := @List.map_map
def Xay := @List.getElem?_append_right
def Xaz := @List.take_zero
def XaA := @List.mem_append_left
def XaB := @List.length_cons
def XaC := @List.nodup_cons
def XaD := @List.length_set
def XaE := @List.append_assoc
def XaF := @List.length_drop
def XaG := @List.mem_iff_getElem
def XaH := @List.append_nil
def XaI := @List.lookup_cons
def XaJ := @List.getElem?_eq_none
def XaK := @List.mem_filter
def XaL := @List.drop_eq_getElem_cons
def XaM := @List.filter_cons
def XaN := @List.length_nil
def XaO := @List.map_nil
def XaP := @List.prefix_append
def XaQ := @List.any_eq_true
def XaR := @List.find?_cons
def XaS := @List.filter_append
def XaT := @List.foldl_append
def XaU := @List.length_filter_le
def XaV := @Option.map_eq_some_iff
def XaW := @Nat.le_refl
def XaX := @Nat.lt_irrefl
def XaY := @Nat.le_of_lt
def XaZ := @Nat.ne_of_lt
def Xa0 := @Nat.zero_le
def Xa1 := @Int.emod_lt_of_pos
def Xa2 := @Int.emod_nonneg
def Xa3 := @Int.eq_ofNat_of_zero_le
def Xa4 := @Int.toNat_natCast
def Xa5 := @decide_eq_true
def Xa6 := @decide_eq_false
def Xa7 := @of_decide_eq_true
def Xa8 := @PySem.F.plainAttrs_list
def Xa9 := @PySem.F.slot_list_append
def Xba := @PySem.F.type_list_append
def Xbb := @Bool.false_ne_true
def Xbc := @Option.some.inj
def Xbd := @if_neg
def Xbe := @if_pos
def Xbf := @Nat.lt_of_lt_of_le
def Xbg := @Nat.le_trans
def Xbh := @Bool.false_eq_true
def Xbi := @List.filterMap_cons
def Xbj := @congrArg
open PySem PySem.Spec PyProof.Rows in
def Xbk := @wpAny_bind
open PySem PySem.Spec PyProof.Rows in
def Xbl := @wpAny_pure
open PySem PySem.Spec PyProof.Rows in
def Xbm := @wpAny_holding
open PySem PySem.Spec PyProof.Rows in
def Xbn := @wpAny_truthy_bool
open PySem PySem.Spec PyProof.Rows in
def Xbo := @Heap.get?_push_of_some
open PySem PySem.Spec PyProof.Rows in
def Xbp := @Heap.lt_size
open PySem PySem.Spec PyProof.Rows in
def Xbq := @Heap.get?_push_size
open PySem PySem.Spec PyProof.Rows in
def Xbr := @PassesOwn.never
open PySem PySem.Spec PyProof.Rows in
def Xbs := @PySem.W.mg_none_of
open PySem PySem.Spec PyProof.Rows in
def Xbt := @PySem.mem_of_lookup
open PySem PySem.Spec PyProof.Rows in
def Xbu := @wpAny_mono
open PySem PySem.Spec PyProof.Rows in
def Xbv := @wpAny_seqItems
open PySem PySem.Spec PyProof.Rows in
def Xbw := @wpAny_rule
noncomputable section
noncomputable def PySem.W.Fast.tw623788400897132861:PySem.Program:=PySem.Challenge.pw_namepaths_k31_a_row_of_scopes
theorem PySem.W.Fast.te623788400897132861:PySem.Challenge.pw_namepaths_k31_a_row_of_scopes=PySem.W.Fast.tw623788400897132861:=rfl
namespace L2
open PySem PySem.Spec PyProof.Rows
noncomputable def Zdd (s:Stmt):Arguments:=match s with
 | .FunctionDef _ a _ _ _ _ _ _ _ _=>a
 | _=>{ posonlyargs:=[],args:=[],vararg:=none,kwonlyargs:=[],kw_defaults:=[],kwarg:=none,defaults:=[] }
noncomputable def Zcu (s:Stmt):List Stmt:=match s with
 | .FunctionDef _ _ b _ _ _ _ _ _ _=>b
 | _=>[]
noncomputable def Zaj (s:Stmt):Scope:=match s with
 | .FunctionDef _ _ _ _ _ _ sc _ _ _=>sc
 | _=>{ kind:=.function,names:=[],isGenerator:=false,isCoroutine:=false }
section
open PySem.W PySem.W.Fast
noncomputable def runF (p:Program) (w:World) (N:Nat):Option Shared:=((tw10274390034422433532 tw14364793385576792824 (opening p) w N (PySem.start (opening p)).1 (PySem.start (opening p)).2).bind (tw14289696077712309145 p)).bind fun s₀ =>
 match s₀.heap.isNs mainGlobals && s₀.gens.size == 0 with
 | true=>(tw14082659384304107361 tw14364793385576792824 p w s₀.heap.objs.size (s₀.heap.nsMap mainGlobals "__annotations__") N s₀ (topStub p)).bind fun s₁=>match staticsOk (tw5923862056798008813 p.main.body) s₀.heap s₁.heap && namesBound p s₁.heap && gensDone s₁ && laidKept s₀.heap s₁.heap with
   | true=>some s₁
   | false=>none
 | false=>none
theorem left_of {p q:Program}{loose:List Str}{Xt:Shared->Bool}{α:Type}{Yf:Shared->α}{Ya:World->α}{N:Nat}
 (A:∀ w:World,Option.map (fun s=>tw4187177175401517315 q loose (tw5923862056798008813 p.main.body) Xt true s) (runF p w N)=some (openGood q loose))
 (B:∀ w:World,Option.map Yf (runF p w N)=some (Ya w)):LeftO p q loose Xt Yf Ya N:=by
 intro w;have a:=A w;have b:=B w
 have h:Option.map (fun s=>(tw4187177175401517315 q loose (tw5923862056798008813 p.main.body) Xt true s,Yf s)) (runF p w N)=some (openGood q loose,Ya w):=by
  cases e:runF p w N with
  | none=>rw [e] at a;cases a
  | some s =>
    rw [e] at a b;simp only [Option.map_some] at a b ⊢;rw [Xbc a,Xbc b]
 unfold runF at h;rw [<-te14082659384304107361,<-te10274390034422433532,<-te14364793385576792824,<-te4187177175401517315,<-te5923862056798008813,<-te14289696077712309145] at h;exact h
end
end L2
namespace K31
open PySem PySem.Spec PyProof.Rows PySem.W L2
noncomputable def top (i:Nat):Stmt:=PySem.Challenge.pw_namepaths_k31_a_row_of_scopes.main.body.getD i (.Pass ⟨0,0,0,0⟩)
abbrev Zcv:Stmt:=top 40
abbrev Zb1:Stmt:=top 39
abbrev Zcw:Stmt:=top 41
abbrev Zcx:Stmt:=top 42
abbrev Zbx:Stmt:=top 43
abbrev Zbo:Stmt:=top 44
abbrev Zde:Stmt:=top 49
abbrev ZdF:Stmt:=top 50
abbrev Zdf:Stmt:=top 51
abbrev Zcy:Stmt:=top 46
abbrev Zcz:Stmt:=top 47
abbrev Zcg:Stmt:=top 48
abbrev ZcA:Stmt:=top 11
abbrev Zbz:Stmt:=top 3
abbrev ZfA:Stmt:=top 1
abbrev Zi8:Stmt:=top 2
abbrev ZcB:Stmt:=top 19
abbrev Za6:Stmt:=top 18
abbrev ZcC:Stmt:=top 15
abbrev Zel:Stmt:=top 12
abbrev Zb2:Stmt:=top 16
abbrev Zbt:Stmt:=top 22
abbrev Zem:Stmt:=top 23
abbrev ZdG:Stmt:=top 8
abbrev Zch:Stmt:=top 24
abbrev Zci:Stmt:=top 21
abbrev ZdH:Stmt:=top 27
abbrev ZcD:Stmt:=top 29
abbrev ZcE:Stmt:=top 9
abbrev ZcF:Stmt:=top 30
abbrev Zen:Stmt:=top 31
abbrev ZiA:Stmt:=top 28
abbrev Zcj:Stmt:=top 17
abbrev Zeo:Stmt:=top 26
abbrev ZfB:Stmt:=top 37
abbrev ZbN:Stmt:=top 45
abbrev Zi9:Stmt:=top 36
abbrev ZbE:Stmt:=top 52
abbrev Zdg:Stmt:=top 34
abbrev ZfC:Stmt:=top 33
abbrev Ze9:Stmt:=top 53
noncomputable def own:Stmt->Bool
 | .Assign [.Name x _] _ _=>x != "__name__"
 | _=>true
noncomputable def view:Program:={ PySem.Challenge.pw_namepaths_k31_a_row_of_scopes with main:={ PySem.Challenge.pw_namepaths_k31_a_row_of_scopes.main with body:=PySem.Challenge.pw_namepaths_k31_a_row_of_scopes.main.body.filter own } }
noncomputable abbrev Fx (K:Frag) (x:Str) (st:Stmt):Prop:=∃ (f:Addr) (oc:Value) (od an:Option Addr) (osl:Array (Option Value)) (kV doc pm cdv ct:Value),nsIn K mainGlobals x=some (some (.ref f))/\K.lookup f=some ⟨oc,od,.func (fnOf x x (Zdd st) (Zcu st) (Zaj st) .none kV doc pm an cdv ct),osl⟩/\codeIn K cdv x=true/\keepIn K (.ref f)=true
theorem fx_mk {K:Frag}{x:Str}{st:Stmt}{f:Addr}{oc:Value}{od an:Option Addr}{osl:Array (Option Value)} {kV doc pm cdv ct:Value} (a:nsIn K mainGlobals x=some (some (.ref f))) (l:K.lookup f=some ⟨oc,od,.func (fnOf x x (Zdd st) (Zcu st) (Zaj st) .none kV doc pm an cdv ct),osl⟩) (c:codeIn K cdv x=true) (k:keepIn K (.ref f)=true):Fx K x st:=⟨f,oc,od,an,osl,kV,doc,pm,cdv,ct,a,l,c,k⟩
theorem y_mk {K:Frag}{x:Str}{v:Int}{t:Tok} (h:nsIn K mainGlobals x=some (some (.int v t))):∃ t,nsIn K mainGlobals x=some (some (.int v t)):=⟨t,h⟩
structure Facts (K:Frag):Prop where
 q0:Fx K "_law_names" Zcv
 q1:Fx K "_law_cell_at" Zb1
 q2:Fx K "_law_ranks" Zcw
 q3:Fx K "_law_order" Zcx
 q4:Fx K "_law_table" Zbx
 q5:Fx K "_law_made" Zbo
 q6:Fx K "_law_next" Zde
 q7:Fx K "_law_row" ZdF
 q8:Fx K "_law_ways" Zdf
 q9:Fx K "_law_label" Zcy
 q10:Fx K "_law_hides" Zcz
 q11:Fx K "_law_hidden" Zcg
 q12:Fx K "next_state" ZcA
 q13:Fx K "inside_of_sort" Zbz
 q14:Fx K "inside" ZfA
 q15:Fx K "goal" Zi8
 q16:Fx K "steps_gone" ZcB
 q17:Fx K "longer_by_a_step" Za6
 q18:Fx K "beginnings" ZcC
 q19:Fx K "has_end" Zel
 q20:Fx K "found_behind" Zb2
 q21:Fx K "better_pairs" Zbt
 q22:Fx K "tree_of" Zem
 q23:Fx K "label_at" ZdG
 q24:Fx K "first_hider" Zch
 q25:Fx K "seen_ways" Zci
 q26:Fx K "look_for" ZdH
 q27:Fx K "first_owed" ZcD
 q28:Fx K "telling_at" ZcE
 q29:Fx K "first_open" ZcF
 q30:Fx K "meaning" Zen
 q31:Fx K "met" ZiA
 q32:Fx K "owed_behind" Zcj
 q33:Fx K "look_up" Zeo
 q34:Fx K "trail" ZfB
 q35:Fx K "_law_same" ZbN
 q36:Fx K "find" Zi9
 q37:Fx K "_law_answer" ZbE
 q38:Fx K "scopes_of" Zdg
 q39:Fx K "walked" ZfC
 q40:Fx K "law" Ze9
 z_all:nsIn K mainGlobals "all" = some none
 z_any:nsIn K mainGlobals "any" = some none
 z_bool:nsIn K mainGlobals "bool" = some none
 z_dict:nsIn K mainGlobals "dict" = some none
 z_enumerate:nsIn K mainGlobals "enumerate" = some none
 z_int:nsIn K mainGlobals "int" = some none
 z_isinstance:nsIn K mainGlobals "isinstance" = some none
 z_len:nsIn K mainGlobals "len" = some none
 z_list:nsIn K mainGlobals "list" = some none
 z_min:nsIn K mainGlobals "min" = some none
 z_range:nsIn K mainGlobals "range" = some none
 z_sorted:nsIn K mainGlobals "sorted" = some none
 z_str:nsIn K mainGlobals "str" = some none
 z_sum:nsIn K mainGlobals "sum" = some none
 z_tuple:nsIn K mainGlobals "tuple" = some none
 z_zip:nsIn K mainGlobals "zip" = some none
 y_MOST_BEGINNINGS:∃ t,nsIn K mainGlobals "MOST_BEGINNINGS" = some (some (.int 200 t))
theorem run_seen (w:World):Option.map (fun s=>Fast.tw4187177175401517315 view [] (Fast.tw5923862056798008813 PySem.Challenge.pw_namepaths_k31_a_row_of_scopes.main.body) (fun s=>xlAt view [] s && recOk [] s) true s) (runF PySem.Challenge.pw_namepaths_k31_a_row_of_scopes w 40000)=some (openGood view []):=by kernel_rfl
end K31
section
open PySem PySem.W PyProof.Rows
local macro_rules | `(tactic| o_head $H:term) => `(tactic| refine holds_open (q := K31.view) (loose := []) (Xt := fun s => xlAt K31.view [] s && recOk [] s) (XP := XL K31.view []) (Yf := Hook.obs $H) (Ya := Hook.val $H) (YP := Hook.says $H) (N := 40000) ?hl (Hook.of $H) (Hook.keeps $H) (fun s e => xl_of s (Bool.and_eq_true_iff.mp e).1) XL.keeps (by rfl) (by rfl) (by rfl) (fun s e => recFacts_of (Bool.and_eq_true_iff.mp e).2) (by rfl) (by first | assumption | decide +kernel) (by decide +kernel) ⟨rfl, rfl, rfl, rfl, rfl, by decide +kernel⟩ ?hw ?hc)
set_option maxHeartbeats 0 in
theorem K31.hd (hyp:∀ K:Params->Frag,(∀ w:World,K31.Facts (K w.params))->∀ (YP:World->Heap->Prop) (d:DefRec),d.params.defaults=[]->d.name = "law" -> (∀ (w:World) (h:Heap),YP w h->(K w.params).In h)->WalkO K31.view [] (XL K31.view []) YP PySem.Challenge.rw_namepaths_k31_a_row_of_scopes.row.toRowW d [] (fun f vs=>PySem.call f vs)):PySem.Challenge.rw_namepaths_k31_a_row_of_scopes.Holds:=by
 w_on;o_law;k_head
 case hl =>
  refine L2.left_of K31.run_seen fun w=>?_
  kernel_rfl
 case hw=>w_witness2
 k_fill
 refine hyp _ (fun w=>?fx) _ _ rfl rfl (fun w h Y=>PySem.W.kIn_of Y)
 case fx =>
  refine' ⟨K31.fx_mk ?a0 ?l0 ?c0 ?k0,K31.fx_mk ?a1 ?l1 ?c1 ?k1,K31.fx_mk ?a2 ?l2 ?c2 ?k2,K31.fx_mk ?a3 ?l3 ?c3 ?k3,K31.fx_mk ?a4 ?l4 ?c4 ?k4,K31.fx_mk ?a5 ?l5 ?c5 ?k5,K31.fx_mk ?a6 ?l6 ?c6 ?k6,K31.fx_mk ?a7 ?l7 ?c7 ?k7,K31.fx_mk ?a8 ?l8 ?c8 ?k8,K31.fx_mk ?a9 ?l9 ?c9 ?k9,K31.fx_mk ?a10 ?l10 ?c10 ?k10,K31.fx_mk ?a11 ?l11 ?c11 ?k11,K31.fx_mk ?a12 ?l12 ?c12 ?k12,K31.fx_mk ?a13 ?l13 ?c13 ?k13,K31.fx_mk ?a14 ?l14 ?c14 ?k14,K31.fx_mk ?a15 ?l15 ?c15 ?k15,K31.fx_mk ?a16 ?l16 ?c16 ?k16,K31.fx_mk ?a17 ?l17 ?c17 ?k17,K31.fx_mk ?a18 ?l18 ?c18 ?k18,K31.fx_mk ?a19 ?l19 ?c19 ?k19,K31.fx_mk ?a20 ?l20 ?c20 ?k20,K31.fx_mk ?a21 ?l21 ?c21 ?k21,K31.fx_mk ?a22 ?l22 ?c22 ?k22,K31.fx_mk ?a23 ?l23 ?c23 ?k23,K31.fx_mk ?a24 ?l24 ?c24 ?k24,K31.fx_mk ?a25 ?l25 ?c25 ?k25,K31.fx_mk ?a26 ?l26 ?c26 ?k26,K31.fx_mk ?a27 ?l27 ?c27 ?k27,K31.fx_mk ?a28 ?l28 ?c28 ?k28,K31.fx_mk ?a29 ?l29 ?c29 ?k29,K31.fx_mk ?a30 ?l30 ?c30 ?k30,K31.fx_mk ?a31 ?l31 ?c31 ?k31,K31.fx_mk ?a32 ?l32 ?c32 ?k32,K31.fx_mk ?a33 ?l33 ?c33 ?k33,K31.fx_mk ?a34 ?l34 ?c34 ?k34,K31.fx_mk ?a35 ?l35 ?c35 ?k35,K31.fx_mk ?a36 ?l36 ?c36 ?k36,K31.fx_mk ?a37 ?l37 ?c37 ?k37,K31.fx_mk ?a38 ?l38 ?c38 ?k38,K31.fx_mk ?a39 ?l39 ?c39 ?k39,K31.fx_mk ?a40 ?l40 ?c40 ?k40,?z_all,?z_any,?z_bool,?z_dict,?z_enumerate,?z_int,?z_isinstance,?z_len,?z_list,?z_min,?z_range,?z_sorted,?z_str,?z_sum,?z_tuple,?z_zip,K31.y_mk ?y_MOST_BEGINNINGS⟩
  case a0 | l0 | c0 | k0 | a1 | l1 | c1 | k1 | a2 | l2 | c2 | k2 | a3 | l3 | c3 | k3 | a4 | l4 | c4 | k4 | a5 | l5 | c5 | k5 | a6 | l6 | c6 | k6 | a7 | l7 | c7 | k7 | a8 | l8 | c8 | k8 | a9 | l9 | c9 | k9 | a10 | l10 | c10 | k10 | a11 | l11 | c11 | k11 | a12 | l12 | c12 | k12 | a13 | l13 | c13 | k13 | a14 | l14 | c14 | k14 | a15 | l15 | c15 | k15 | a16 | l16 | c16 | k16 | a17 | l17 | c17 | k17 | a18 | l18 | c18 | k18 | a19 | l19 | c19 | k19 | a20 | l20 | c20 | k20 | a21 | l21 | c21 | k21 | a22 | l22 | c22 | k22 | a23 | l23 | c23 | k23 | a24 | l24 | c24 | k24 | a25 | l25 | c25 | k25 | a26 | l26 | c26 | k26 | a27 | l27 | c27 | k27 | a28 | l28 | c28 | k28 | a29 | l29 | c29 | k29 | a30 | l30 | c30 | k30 | a31 | l31 | c31 | k31 | a32 | l32 | c32 | k32 | a33 | l33 | c33 | k33 | a34 | l34 | c34 | k34 | a35 | l35 | c35 | k35 | a36 | l36 | c36 | k36 | a37 | l37 | c37 | k37 | a38 | l38 | c38 | k38 | a39 | l39 | c39 | k39 | a40 | l40 | c40 | k40 | z_all | z_any | z_bool | z_dict | z_enumerate | z_int | z_isinstance | z_len | z_list | z_min | z_range | z_sorted | z_str | z_sum | z_tuple | z_zip | y_MOST_BEGINNINGS=>k_is
end
set_option Elab.async false
set_option linter.all false
set_option maxRecDepth 100000
namespace L2
open PySem PySem.Spec PyProof.Rows
abbrev Key:=Sum Int Str
def ZiB:Key->Value->Bool
 | .inl k,v=>Value.isInt k v
 | .inr x,v=>Value.isStrOf x v
def keyH (w:World):Key->Int
 | .inl k=>hashInt k
 | .inr x=>hashStr w x
theorem Za1:∀ {k:Key}{v:Value},ZiB k v=true->(∃ i t,k=Sum.inl i/\v=Value.int i t)\/(∃ x t,k=Sum.inr x/\v=Value.str x t)
 | .inl i,v,h=>by
   obtain ⟨t,e⟩:=Value.isInt_shape (k:=i) (v:=v) h;exact .inl ⟨i,t,rfl,e⟩
 | .inr x,v,h=>by
   obtain ⟨t,e⟩:=Value.isStrOf_shape (x:=x) (v:=v) h;exact .inr ⟨x,t,rfl,e⟩
theorem Zja (i:Int) (t:Tok):ZiB (.inl i) (.int i t)=true:=by simp [ZiB,Value.isInt]
theorem Zjb (x:Str) (t:Tok):ZiB (.inr x) (.str x t)=true:=by simp [ZiB,Value.isStrOf]
theorem key_ll (a b:Int):decide ((Sum.inl a:Key)=Sum.inl b)=(a == b):=by
 by_cases e:a=b
 . subst e;simp
 . have h:¬(Sum.inl a:Key)=Sum.inl b:=fun q=>e (Sum.inl.inj q)
   rw [Xa6 h];exact (beq_eq_false_iff_ne.mpr e).symm
theorem key_rr (a b:Str):decide ((Sum.inr a:Key)=Sum.inr b)=decide (a=b):=by
 by_cases e:a=b
 . subst e;simp
 . have h:¬(Sum.inr a:Key)=Sum.inr b:=fun q=>e (Sum.inr.inj q)
   rw [Xa6 h,Xa6 e]
theorem key_lr (a:Int) (b:Str):decide ((Sum.inl a:Key)=Sum.inr b)=false:=Xa6 (fun q=>nomatch q)
theorem key_rl (a:Str) (b:Int):decide ((Sum.inr a:Key)=Sum.inl b)=false:=Xa6 (fun q=>nomatch q)
def Za5 (prog : Program) (w : World) : PySem.KeyKind prog w Key where
 is:=ZiB
 hash:=keyH w
 inj:=fun v a b ha hb=>by
  rcases Za1 ha with ⟨i,t,rfl,rfl⟩ | ⟨x,t,rfl,rfl⟩
  . rcases Za1 hb with ⟨j,u,rfl,e⟩ | ⟨y,u,rfl,e⟩
    . injection e with e1 _;rw [e1]
    . exact nomatch e
  . rcases Za1 hb with ⟨j,u,rfl,e⟩ | ⟨y,u,rfl,e⟩
    . exact nomatch e
    . injection e with e1 _;rw [e1]
 byValue:=fun k v h=>by
  rcases Za1 h with ⟨i,t,rfl,rfl⟩ | ⟨x,t,rfl,rfl⟩ <;> rfl
 pyHash:=fun hv h=>by
  rcases Za1 hv with ⟨i,t,rfl,rfl⟩ | ⟨x,t,rfl,rfl⟩
  . exact wpAny_pyHash_int h
  . exact wpAny_pyHash_str h
 eqBool:=fun hu hv h=>by
  rcases Za1 hu with ⟨i,t,rfl,rfl⟩ | ⟨x,t,rfl,rfl⟩
  . rcases Za1 hv with ⟨j,u,rfl,rfl⟩ | ⟨y,u,rfl,rfl⟩
    . rw [key_ll] at h;exact wpAny_eqBool_int h
    . rw [key_lr] at h;exact SeqAt.EqAt.int_str i t y u _ _ _ _ h
  . rcases Za1 hv with ⟨j,u,rfl,rfl⟩ | ⟨y,u,rfl,rfl⟩
    . rw [key_rl] at h;exact SeqAt.EqAt.str_int x t j u _ _ _ _ h
    . rw [key_rr] at h;exact wpAny_eqBool_str h
 «strs»:=fun k x t v h=>by
  rcases Za1 h with ⟨i,u,rfl,e⟩ | ⟨y,u,rfl,e⟩
  . exact nomatch e
  . injection e with e1 _
    subst e1
    cases v <;> rfl
theorem Zhn (prog:Program) (w:World) (i:Int) (t:Tok):(Za5 prog w).is (.inl i) (.int i t)=true:=Zja i t
theorem Zho (prog:Program) (w:World) (x:Str) (t:Tok):(Za5 prog w).is (.inr x) (.str x t)=true:=Zjb x t
inductive V where
 | non | bl (b:Bool) | int (i:Int) | str (x:Str) | byt (b:Array UInt8) | flt (b:UInt64) | ref (a:Addr) | ty (n:String)
 deriving DecidableEq
def RelV:V->Value->Prop
 | .non,u=>u=Value.none
 | .bl b,u=>u=Value.bool b
 | .int i,u=>∃ t,u=Value.int i t
 | .str x,u=>∃ t,u=Value.str x t
 | .byt b,u=>∃ t,u=Value.bytes b t
 | .flt b,u=>∃ t,u=Value.float b t
 | .ref a,u=>u=Value.ref a
 | .ty n,u=>u=Value.type n
abbrev Vals:List V->List Value->Prop:=Paired RelV
theorem Vals.length {xs:List V}{us:List Value} (r:Vals xs us):xs.length=us.length:=Paired.length r
theorem Vals.get:∀ {xs:List V}{us:List Value}{i:Nat}{x:V},Vals xs us->xs[i]?=some x->∃ u,us[i]?=some u/\RelV x u
 | _,_,_,_,.nil,e=>by simp at e
 | _,_,0,_,.cons r _,e=>by simp at e;subst e;exact ⟨_,rfl,r⟩
 | _,_,i+1,x,.cons _ t,e=>by
   obtain ⟨u,h1,h2⟩:=Vals.get (i:=i) (x:=x) t (by simpa using e);exact ⟨u,by simpa using h1,h2⟩
theorem Vals.set {x:V}{u:Value} (r:RelV x u):∀ {xs:List V} {us:List Value} (i:Nat),Vals xs us->Vals (xs.set i x) (us.set i u)
 | _,_,_,.nil=>.nil
 | _,_,0,.cons _ t=>.cons r t
 | _,_,i+1,.cons q t=>.cons q (Vals.set r i t)
theorem Vals.append:∀ {xs ys:List V}{us ws:List Value},Vals xs us->Vals ys ws->Vals (xs++ys) (us++ws)
 | _,_,_,_,.nil,s=>s
 | _,_,_,_,.cons r t,s=>.cons r (Vals.append t s)
theorem Vals.take:∀ {xs:List V}{us:List Value} (n:Nat),Vals xs us->Vals (xs.take n) (us.take n)
 | _,_,0,_=>.nil
 | _,_,_+1,.nil=>.nil
 | _,_,n+1,.cons r t=>.cons r (Vals.take n t)
theorem Vals.drop:∀ {xs:List V}{us:List Value} (n:Nat),Vals xs us->Vals (xs.drop n) (us.drop n)
 | _,_,0,r=>r
 | _,_,_+1,.nil=>.nil
 | _,_,n+1,.cons _ t=>Vals.drop n t
def RelO:Option V->Option Value->Prop
 | some v,some u=>RelV v u
 | none,none=>True
 | _,_=>False
def KV {κ:Type}:List (κ×V)->List (κ×Value)->Prop:=Paired fun (p:κ×V) (q:κ×Value)=>p.1=q.1/\RelV p.2 q.2
def kV:Key->V
 | .inl i=>.int i
 | .inr x=>.str x
inductive HO where
 | lst (xs:List V)
 | tup (xs:List V)
 | dK (kvs:List (Key×V)) | dT (kvs:List (List Key×V))
 | set (S:Int->Bool) (n:Nat)
 | ins (C dx:Addr) (fs:List (Str×V))
 | own (x:Addr)
 | xd (fs:List (Str×V))
 | met (f x:Addr)
 | rng (lo hi:Int)
 | frz (o:Obj) (u:HO)
 | tbl (ps:Array Value)
 | ext (φ:Heap->Prop)
abbrev Hp:=Addr->Option HO
def upd (H:Hp) (a:Addr) (o:HO):Hp:=fun b=>if b=a then some o else H b
variable {H:Hp}{a:Addr}{o:HO}
theorem upd_same :upd H a o a=some o:=by unfold upd;rw [Xbe rfl]
variable {b:Addr}
theorem Zal (h:b≠a):upd H a o b=H b:=by unfold upd;rw [Xbd h]
variable {u:HO}
theorem upd_upd :upd (upd H a o) a u=upd H a u:=by
 funext b;unfold upd;split <;> rfl
theorem Zjc (h:H a=some o) (h':H b=some u) (d:o≠u):a≠b:=by
 intro e;subst e;rw [h] at h';exact d (Xbc h')
theorem Zad (h:H a=some o) (h':H b=none):a≠b:=by
 intro e;subst e;rw [h] at h';cases h'
section
variable (P:Program) (w:World)
def ObjOk (H:Hp) (h:Heap) (a:Addr):HO->Prop
 | .lst xs=>xs.length<=sizeLine/\∃ (its:List Value) (n:Nat),Vals xs its/\h.get? a=some { cls:=.type "list",data:=.seq its.toArray n }
 | .tup xs=>xs.length<=sizeLine/\∃ its:List Value,Vals xs its/\IsTup h a its.toArray
 | .dK kvs=>kvs.length<=sizeLine/\(a == sysModules)=false/\∃ vs,KV kvs vs/\h.DictOf (Za5 P w) a vs
 | .dT kvs=>kvs.length<=sizeLine/\(a == sysModules)=false/\∃ xs:List (List Key×Addr×Value),
  Paired (fun (p:List Key×V) (q:List Key×Addr×Value)=>p.1=q.1/\H q.2.1=some (.tup (p.1.map kV))/\RelV p.2 q.2.2) kvs xs /\
  ∃ o es ep,h.get? a=some o/\o.ExactDict/\o.data=.dict es ep/\es.toList=xs.map (entryOfKey (tupleKind (Za5 P w)))/\(xs.map (·.1)).Nodup
 | .set S n=>h.SetOf (intKind P w) a S n
 | .ins C dx fs=>H dx=some (.own a)/\fs.length<=1000/\dx≠a/\h.get? a=some (PySem.W.instObj C dx) /\
  ∃ mA,h.Ns1 dx mA/\(∀ f,RelO (fs.lookup f) (mA f))/\PySem.Within mA (fs.map (·.1))
 | .own _=>∃ o,h.get? a=some o
 | .xd fs=>∃ mA,h.Ns1 a mA/\∀ f,RelO (fs.lookup f) (mA f)
 | .rng lo hi=>∃ t u v,h.get? a=some { cls:=.type "range",data:=.fields #[.int lo t,.int hi u,.int 1 v] }
 | .frz o u=>h.get? a=some o/\ObjOk H h a u
 | .tbl ps=>h.get? a=some { cls:=.none,data:=.fields ps }
 | .met f x=>h.get? a=some (PySem.W.methodObj (.ref f) (.ref x))
 | .ext φ=>φ h/\(∃ o,h.get? a=some o)/\∀ h1 h2:Heap,φ h1->(∀ o,h1.get? a=some o->h2.get? a=some o)->φ h2
def HOk (H:Hp) (h:Heap):Prop:=∀ a o,H a=some o->ObjOk P w H h a o
end
section
variable {P:Program} {w:World} {H H':Hp} {h h':Heap} {a:Addr} {o:HO}
theorem ObjOk.lt (x:ObjOk P w H h a o):a<h.objs.size:=by
 cases o with
 | lst xs=>obtain ⟨_,_,_,_,e⟩:=x;exact Xbp e
 | tup xs=>obtain ⟨_,_,_,p⟩:=x;exact p.lt
 | dK kvs=>obtain ⟨_,_,_,_,o,_,_,e,_⟩:=x;exact Xbp e
 | dT kvs=>obtain ⟨_,_,_,_,o,_,_,e,_⟩:=x;exact Xbp e
 | set S n=>obtain ⟨o,_,_,_,e,_⟩:=x;exact Xbp e
 | ins C dx fs=>obtain ⟨_,_,_,e,_⟩:=x;exact Xbp e
 | own y=>obtain ⟨_,e⟩:=x;exact Xbp e
 | xd fs=>obtain ⟨_,⟨_,_,_,e,_⟩,_⟩:=x;exact Xbp e
 | rng lo hi=>obtain ⟨_,_,_,e⟩:=x;exact Xbp e
 | frz ob u=>obtain ⟨e,_⟩:=x;exact Xbp e
 | tbl ps=>exact Xbp (show h.get? a=some _ from x)
 | met f y=>exact Xbp (show h.get? a=some _ from x)
 | ext φ=>obtain ⟨_,⟨_,e⟩,_⟩:=x;exact Xbp e
theorem Paired.mapP {α β:Type}{F G:α->β->Prop}:∀ {l₁:List α}{l₂:List β},Paired F l₁ l₂->(∀ a b,F a b->G a b)->Paired G l₁ l₂
 | _,_,.nil,_=>.nil
 | _,_,.cons r t,f=>.cons (f _ _ r) (Paired.mapP t f)
theorem ObjOk.stay (x:ObjOk P w H h a o) (k:∀ b u,(b=a\/H b=some (.own a))->h.get? b=some u->h'.get? b=some u)
 (ho:∀ b,H b=some (.own a)->H' b=some (.own a)) (ht:∀ b xs,H b=some (.tup xs)->H' b=some (.tup xs)):ObjOk P w H' h' a o:=by
 induction o with
 | lst xs=>obtain ⟨z,its,n,r,e⟩:=x;exact ⟨z,its,n,r,k _ _ (.inl rfl) e⟩
 | tup xs=>obtain ⟨z,its,r,ob,e,c⟩:=x;exact ⟨z,its,r,ob,k _ _ (.inl rfl) e,c⟩
 | dK kvs=>obtain ⟨z,y,vs,r,ob,es,ep,e,c⟩:=x;exact ⟨z,y,vs,r,ob,es,ep,k _ _ (.inl rfl) e,c⟩
 | dT kvs =>
   obtain ⟨z,y,xs,r,ob,es,ep,e,c⟩:=x;exact ⟨z,y,xs,Paired.mapP r fun p q z=>⟨z.1,ht _ _ z.2.1,z.2.2⟩,ob,es,ep,k _ _ (.inl rfl) e,c⟩
 | set S n=>obtain ⟨ob,es,ep,t,e,c⟩:=x;exact ⟨ob,es,ep,t,k _ _ (.inl rfl) e,c⟩
 | ins C dx fs =>
   obtain ⟨d,z,ne,e,mA,⟨od,es,ep,e2,c⟩,r⟩:=x;exact ⟨ho _ d,z,ne,k _ _ (.inl rfl) e,mA,⟨od,es,ep,k _ _ (.inr d) e2,c⟩,r⟩
 | own y=>obtain ⟨ob,e⟩:=x;exact ⟨ob,k _ _ (.inl rfl) e⟩
 | xd fs=>obtain ⟨mA,⟨od,es,ep,e,c⟩,r⟩:=x;exact ⟨mA,⟨od,es,ep,k _ _ (.inl rfl) e,c⟩,r⟩
 | rng lo hi=>obtain ⟨t,u,v,e⟩:=x;exact ⟨t,u,v,k _ _ (.inl rfl) e⟩
 | frz ob u ih=>obtain ⟨e,q⟩:=x;exact ⟨k _ _ (.inl rfl) e,ih q⟩
 | tbl ps =>
   have e:h.get? a=some { cls:=.none,data:=.fields ps }:=x;show h'.get? a=some { cls:=.none,data:=.fields ps };exact k a _ (.inl rfl) e
 | met f y =>
   have e:h.get? a=some (PySem.W.methodObj (.ref f) (.ref y)):=x;show h'.get? a=some (PySem.W.methodObj (.ref f) (.ref y));exact k a _ (.inl rfl) e
 | ext φ=>obtain ⟨p,⟨o,e⟩,st⟩:=x;exact ⟨st _ _ p fun o q=>k _ _ (.inl rfl) q,⟨o,k _ _ (.inl rfl) e⟩,st⟩
theorem HOk.lt (x:HOk P w H h) (e:H a=some o):a<h.objs.size:=(x a o e).lt
theorem HOk.fresh (x:HOk P w H h) (e:h.objs.size<=a):H a=none:=by
 cases q:H a with
 | none=>rfl
 | some u=>exact absurd (Xbf (x.lt q) e) (XaX _)
theorem HOk.kept (x:HOk P w H h) (k:∀ b u,h.get? b=some u->h'.get? b=some u):HOk P w H h':=fun a o e =>
 (x a o e).stay (fun b u _ q=>k b u q) (fun _ q=>q) fun _ _ q=>q
theorem HOk.laid (x:HOk P w H h) (k:∀ b u,h.get? b=some u->h'.get? b=some u) (hp:h.objs.size<=a) (new:ObjOk P w (upd H a o) h' a o):HOk P w (upd H a o) h':=fun b u e=>by
 have hn:=x.fresh hp
 by_cases hb:b=a
 . subst hb;rw [upd_same] at e;cases e;exact new
 . rw [Zal hb] at e
   exact (x b u e).stay (fun c v _ q=>k c v q) (fun c q=>by rw [Zal (Zad q hn)];exact q) fun c xs q=>by rw [Zal (Zad q hn)];exact q
end
def Rd (H:Hp) (a:Addr) (u:HO):Prop:=H a=some u\/∃ o,H a=some (.frz o u)
variable {P:Program}{w:World}{h:Heap}
theorem Rd.ok (r:Rd H a u) (x:HOk P w H h):ObjOk P w H h a u:=by
 rcases r with r | ⟨o,r⟩
 . exact x a u r
 . obtain ⟨_,q⟩:=x a _ r
   exact q
def Mut:Option HO->Prop
 | some (.lst _)=>True
 | some (.dK _)=>True
 | some (.dT _)=>True
 | some (.set _ _)=>True
 | some (.ins _ _ _)=>True
 | some (.ext _)=>True
 | _=>False
section
variable {P:Program} {w:World} {H:Hp} {h h':Heap} {x e:Addr} {o':HO}
theorem HOk.write (ok:HOk P w H h) (mu:Mut (H x)) (he:e=x\/H e=some (.own x)) (k:∀ b u,b≠e->h.get? b=some u->h'.get? b=some u) (heo:∃ u,h'.get? e=some u)
 (new:ObjOk P w (upd H x o') h' x o'):HOk P w (upd H x o') h':=fun b u q=>by
 have nown:∀ c y,H c=some (.own y)->c≠x:=fun c y r z=>by subst z;rw [r] at mu;exact mu
 have ntup:∀ c xs,H c=some (.tup xs)->c≠x:=fun c xs r z=>by subst z;rw [r] at mu;exact mu
 by_cases hb:b=x
 . subst hb;rw [upd_same] at q;cases q;exact new
 . rw [Zal hb] at q
   by_cases hbe:b=e
   . have q':H b=some (.own x):=by
      rcases he with z | z
      . exact absurd (hbe.trans z) hb
      . rw [hbe];exact z
     rw [q] at q';cases q';obtain ⟨v,hv⟩:=heo;exact ⟨v,by rw [hbe];exact hv⟩
   . refine (ok b u q).stay (fun c v hc r=>k c v ?_ r) (fun c r=>by rw [Zal (nown c b r)];exact r) fun c xs r=>by rw [Zal (ntup c xs r)];exact r
     rcases hc with rfl | hc
     . exact hbe
     . rintro rfl
       rcases he with z | z
       . exact nown c b hc z
       . rw [hc] at z;cases z;exact hb rfl
end
structure Un (fs ex:List Addr) (H H':Hp) (h h':Heap):Prop where
 keep:∀ b o,h.get? b=some o->H b=none->b ∉ fs->b ∉ ex->h'.get? b=some o
 slot:∀ b o,h.get? b=some o->H b=none->b∈fs->b ∉ ex->∃ sl,h'.get? b=some { o with slots:=sl }
 free:∀ b o,h.get? b=some o->H b=none->b ∉ ex->H' b=none
 there:∀ b o,h.get? b=some o->b ∉ ex->∃ o',h'.get? b=some o'
 tups:∀ b xs,H b=some (.tup xs)->H' b=some (.tup xs)
 frzs:∀ b o u,H b=some (.frz o u)->H' b=some (.frz o u)
 tbls:∀ b ps,H b=some (.tbl ps)->∃ more,H' b=some (.tbl (ps++more))
section
variable {fs fs' ex ex':List Addr} {H H1 H2:Hp} {h h1 h2 h':Heap} {a x e:Addr} {o:HO}
theorem Un.any (u:Un fs ex H H1 h h1) {ob:Obj} (q:h.get? b=some ob) (n:H b=none) (hx:b ∉ ex):∃ sl,h1.get? b=some { ob with slots:=sl }:=by
 by_cases hb:b∈fs
 . exact u.slot b ob q n hb hx
 . exact ⟨ob.slots,u.keep b ob q n hb hx⟩
theorem Un.kept (k:∀ b u,h.get? b=some u->h'.get? b=some u):Un fs ex H H h h' :=
 ⟨fun b ob q _ _ _=>k b ob q,fun b ob q _ _ _=>⟨ob.slots,k b ob q⟩,fun _ _ _ n _=>n,fun b ob q _=>⟨ob,k b ob q⟩,fun _ _ q=>q,fun _ _ _ q=>q,fun _ ps q=>⟨#[],by rw [q];simp⟩⟩
theorem Un.refl:Un fs ex H H h h:=Un.kept fun _ _ q=>q
theorem Un.laid (k:∀ b u,h.get? b=some u->h'.get? b=some u) (hp:h.objs.size<=a) (hn:H a=none):Un fs ex H (upd H a o) h h' where
 keep:=fun b u q _ _ _=>k b u q
 slot:=fun b u q _ _ _=>⟨u.slots,k b u q⟩
 free:=fun b u q n _=>by rw [Zal (XaZ (Xbf (Xbp q) hp))];exact n
 there:=fun b u q _=>⟨u,k b u q⟩
 tups:=fun b xs q=>by rw [Zal (Zad q hn)];exact q
 frzs:=fun b u xs q=>by rw [Zal (Zad q hn)];exact q
 tbls:=fun b ps q=>⟨#[],by rw [Zal (Zad q hn),q];simp⟩
theorem Un.write (mu:Mut (H x)) (he:e=x\/H e=some (.own x)) (k:∀ b u,b≠e->h.get? b=some u->h'.get? b=some u) (heo:∃ u,h'.get? e=some u):Un fs ex H (upd H x o) h h':=by
 have hx:∀ b,H b=none->b≠x:=fun b n z=>by subst z;rw [n] at mu;exact mu
 have hb:∀ b,H b=none->b≠e:=fun b n z=>by
  subst z
  rcases he with r | r
  . exact hx b n r
  . rw [n] at r;cases r
 have hm:∀ b u,H b=some u->¬Mut (some u)->b≠x:=fun b u q nm z=>by subst z;rw [q] at mu;exact nm mu
 refine ⟨fun b u q n _ _=>k b u (hb b n) q,fun b u q n _ _=>⟨u.slots,k b u (hb b n) q⟩,fun b u q n _=>by rw [Zal (hx b n)];exact n,fun b u q _=>?_,
  fun b xs q=>by rw [Zal (hm b _ q fun z=>z)];exact q,fun b u xs q=>by rw [Zal (hm b _ q fun z=>z)];exact q,fun b ps q=>⟨#[],by rw [Zal (hm b _ q fun z=>z),q];simp⟩⟩
 by_cases hbe:b=e
 . subst hbe;exact heo
 . exact ⟨u,k b u hbe q⟩
end
def trk (h:Heap) (H:Hp):List Addr:=(List.range h.objs.size).filter fun a=>(H a).isSome
def hidT (h:Heap) (H:Hp):Heap:=PySem.W.hideAll h (trk h H)
theorem Zjd (h:Heap) (H:Hp):(hidT h H).objs.size=h.objs.size:=PySem.W.hideAll_size _ _
theorem ZkO {o:Obj} (e:h.get? b=some o) (n:H b=none):(hidT h H).get? b=some o :=
 PySem.W.hideAll_get _ e fun hm=>by
  have q:(H b).isSome=true:=(XaK.mp hm).2;rw [n] at q;simp at q
theorem of_hidT {o:Obj} (e:(hidT h H).get? b=some o):h.get? b=some o/\H b=none:=by
 have e':h.get? b=some o:=PySem.W.of_hideAll (trk h H) e;refine ⟨e',?_⟩
 cases q:H b with
 | none=>rfl
 | some x =>
   have hm:b∈trk h H:=XaK.mpr ⟨List.mem_range.mpr (Xbp e'),by simp [q]⟩;have z:(hidT h H).get? b=none:=PySem.W.hideAll_none (trk h H) hm;rw [z] at e;cases e
structure Mod (K:XFg) (mg:Str->Option Value) (base:Heap):Prop where
 kin:K.In base
 glob:base.Ns mainGlobals mg
 blt:∃ mb,base.Ns builtinsNs mb/\∀ x:Str,x ≠ "__name__" -> mb x=bootBuiltins x
 nolimit:base.NoLimit
structure Cx where
 prog:Program
 w:World
 K:XFg
 mg:Str->Option Value
 base:Heap
 A:Around
 N:List Str
 s₀:Shared
 H₀:Hp
 env:Env
 outer:List Env
 stack:List Env
 ex:List Addr
 fn:Str->Bool
 calm:Bool
 pn:List (Addr×Obj)
 xe:Value->Shared->Prop
def frs (l:List Env):List Addr:=l.filterMap (·.frame)
abbrev Cx.fs (X:Cx):List Addr:=frs X.outer
def Vis (sc:Scope) (x:Str):Prop:=sc.names.lookup x=some .local\/sc.names.lookup x=some .cell\/sc.names.lookup x=some .free
def Loc (sc:Scope) (x:Str):Prop:=sc.names.lookup x=some .local\/sc.names.lookup x=some .cell
def Look (env:Env) (h:Heap) (m:Str->Option Value) (x:Str) (u:Value):Prop :=
 (env.kindOf x=some .local/\m x=some u)\/((env.kindOf x=some .cell\/env.kindOf x=some .free)/\∃ c,env.cells.lookup x=some c/\h.IsCell c (some u))
structure Cx.Ok (X:Cx):Prop where
 mod:Mod X.K X.mg X.base
 kind:X.env.scope.kind=.function
 glob:X.env.globals=mainGlobals
 blt:X.env.builtins=builtinsNs
 above:X.s₀.heap.objs.size<=X.env.locals
 inj:∀ x y c,X.env.cells.lookup x=some c->X.env.cells.lookup y=some c->x=y
 has:∀ x,(X.env.kindOf x=some .cell\/X.env.kindOf x=some .free)->∃ c,X.env.cells.lookup x=some c
 cab:∀ x c,X.fn x=true->X.env.cells.lookup x=some c->X.s₀.heap.objs.size<=c
 hd:X.calm=true->X.A.handled=none
 frames:X.A.frames=some X.stack
 stk:X.stack=X.outer\/(X.stack=X.env :: X.outer/\X.env.frame=some X.env.locals)
 exf:∀ b∈X.ex,b≠X.env.locals/\∀ x c,X.env.cells.lookup x=some c->c≠b
 bs:∀ b o,X.base.get? b=some o->X.s₀.heap.get? b=some o/\X.H₀ b=none
 bsz:X.base.objs.size<=X.s₀.heap.objs.size
 noex:∀ b o,X.base.get? b=some o->b ∉ X.ex
 exfs:∀ b∈X.ex,b ∉ X.fs
 funs:X.s₀.heap.FunFrames X.base X.outer
 frf:∀ b∈X.fs,X.H₀ b=none
structure Inv (X:Cx) (pins:List (Addr×Obj)) (σ:List (Option V)) (H:Hp) (s:Shared):Prop where
 ok:X.Ok
 os:s.os=X.s₀.os
 bare:AllBare s.gens
 base:Un X.fs X.ex X.H₀ H X.s₀.heap s.heap
 loc:∃ m,s.heap.Ns X.env.locals m/\∀ (i:Nat) (x:Str) (v:V),X.N[i]?=some x->σ[i]?=some (some v)->Vis X.env.scope x->∃ u,RelV v u/\Look X.env s.heap m x u
 cell:∀ x c,X.env.cells.lookup x=some c->∃ v,s.heap.IsCell c v
 free:H X.env.locals=none
 freeC:∀ x c,X.env.cells.lookup x=some c->H c=none
 pin:∀ p∈X.pn++pins,s.heap.get? p.1=some p.2/\H p.1=none/\p.1≠X.env.locals/\p.1 ∉ X.fs/\∀ v,p.2.data≠.cell v
 hok:HOk X.prog X.w H s.heap
 len:σ.length=X.N.length
section
variable {X:Cx} {pins:List (Addr×Obj)} {σ:List (Option V)} {H H':Hp} {s:Shared} {h':Heap}
theorem Cx.Ok.nofr (ok:X.Ok) {o:Obj} (e:X.base.get? b=some o):b ∉ X.fs:=fun hb=>by
 have:=(ok.funs.mem hb).1
 rw [e] at this;cases this
theorem Inv.bs (I:Inv X pins σ H s):∀ b o,X.base.get? b=some o->s.heap.get? b=some o/\H b=none:=fun b o e =>
 ⟨I.base.keep b o (I.ok.bs b o e).1 (I.ok.bs b o e).2 (I.ok.nofr e) (I.ok.noex b o e),I.base.free b o (I.ok.bs b o e).1 (I.ok.bs b o e).2 (I.ok.noex b o e)⟩
theorem Inv.bk (I:Inv X pins σ H s):∀ b o,X.base.get? b=some o->s.heap.get? b=some o:=fun b o e=>(I.bs b o e).1
theorem Inv.mod (I:Inv X pins σ H s):Mod X.K X.mg X.base:=I.ok.mod
theorem Inv.kIn (I:Inv X pins σ H s):X.K.In s.heap:=I.ok.mod.kin.keeps I.bk
theorem Inv.lt (I:Inv X pins σ H s):X.env.locals<s.heap.objs.size:=let ⟨_,hn,_⟩:=I.loc;hn.lt
theorem Inv.sz (I:Inv X pins σ H s):X.s₀.heap.objs.size<=s.heap.objs.size:=Xbg I.ok.above (XaY I.lt)
theorem Inv.nofs (I:Inv X pins σ H s) (h:s.heap.objs.size<=a):a ∉ X.fs:=fun hb=>by
 obtain ⟨_,o,ho,_⟩:=I.ok.funs.mem hb;exact absurd (Xbf (Xbp ho) (Xbg I.sz h)) (XaX _)
theorem Inv.cne (I:Inv X pins σ H s):∀ x c,X.env.cells.lookup x=some c->c≠X.env.locals:=fun x c e z=>by
 obtain ⟨v,o,ho,hd⟩:=I.cell x c e;obtain ⟨m,⟨o',es,ep,ho',hd',_⟩,_⟩:=I.loc;rw [z,ho'] at ho;cases ho;rw [hd'] at hd;cases hd
theorem Inv.funs (I:Inv X pins σ H s):s.heap.FunFrames X.base X.outer:=by
 have all:∀ (l:List Env),(∀ b∈frs l,b∈X.fs)->X.s₀.heap.FunFrames X.base l->s.heap.FunFrames X.base l:=by
  intro l
  induction l with
  | nil=>intro _ _;trivial
  | cons env r ih =>
    intro hs hl;obtain ⟨hk,⟨L,o,hf,hn,ho,hd⟩,hr⟩:=hl;have hL:L∈X.fs:=hs L (by unfold frs;rw [Xbi,hf];exact Xal);obtain ⟨sl,e⟩:=I.base.slot L o ho (I.ok.frf L hL) hL fun z=>I.ok.exfs L z hL;exact ⟨hk,⟨L,_,hf,hn,e,hd⟩,ih (fun b hb=>hs b (by unfold frs;rw [Xbi,hf];exact Xap _ hb)) hr⟩
 exact all X.outer (fun _ hb=>hb) I.ok.funs
theorem Inv.stack (I:Inv X pins σ H s):s.heap.FunFrames X.base X.stack:=by
 rcases I.ok.stk with e | ⟨e,hf⟩
 . rw [e];exact I.funs
 . rw [e]
   obtain ⟨m,hn,_⟩:=I.loc;refine .cons (by rw [I.ok.kind];decide) hf hn ?_ I.funs;exact Heap.get?_none_of_le (Xbg I.ok.bsz I.ok.above)
theorem Inv.stkSub (I:Inv X pins σ H s):∀ b∈frs X.stack,b∈X.env.locals :: X.fs:=fun b hb=>by
 rcases I.ok.stk with e | ⟨e,hf⟩
 . rw [e] at hb;exact Xap _ hb
 . rw [e] at hb
   unfold frs at hb;rw [Xbi,hf] at hb;exact hb
theorem Inv.stkFree (I:Inv X pins σ H s):∀ b∈frs X.stack,H b=none:=fun b hb=>by
 rcases Xam.mp (I.stkSub b hb) with e | hb
 . rw [e];exact I.free
 . obtain ⟨_,o,ho,_⟩:=I.ok.funs.mem hb
   exact I.base.free b o ho (I.ok.frf b hb) fun z=>I.ok.exfs b z hb
variable {t':Nat}{ch:List Addr}
theorem Inv.step {g':Array GenState}{d':Drawn}(I:Inv X pins σ H s)
 (hch:∀ b∈ch,(b∈X.ex\/X.s₀.heap.objs.size<=b)/\b≠X.env.locals/\(∀ x c,X.env.cells.lookup x=some c->c≠b)/\∀ p∈X.pn++pins,p.1≠b)
 (keep:∀ b o,b≠X.env.locals->b ∉ X.fs->b ∉ ch->s.heap.get? b=some o->H b=none->h'.get? b=some o)
 (slot:∀ b o,b≠X.env.locals->b∈X.fs->b ∉ ch->s.heap.get? b=some o->H b=none->∃ sl,h'.get? b=some { o with slots:=sl }) (free:∀ b o,b ∉ ch->s.heap.get? b=some o->H b=none->H' b=none)
 (there:∀ b o,b ∉ ch->s.heap.get? b=some o->∃ o',h'.get? b=some o')
 (tups:∀ b xs,H b=some (.tup xs)->H' b=some (.tup xs)) (frzs:∀ b o u,H b=some (.frz o u)->H' b=some (.frz o u)) (tbls:∀ b ps,H b=some (.tbl ps)->∃ more,H' b=some (.tbl (ps++more)))
 (ns:∀ m,s.heap.Ns X.env.locals m->h'.Ns X.env.locals m) (hok:HOk X.prog X.w H' h') (hg:AllBare g') :
 Inv X pins σ H' { s with heap:=h',gens:=g',drawn:=d',toks:=t' }:=by
 have neL:∀ b o,X.s₀.heap.get? b=some o->b≠X.env.locals:=fun b o e=>XaZ (Xbf (Xbp e) I.ok.above)
 have neC:∀ b o,X.s₀.heap.get? b=some o->b ∉ X.ex->b ∉ ch:=fun b o e hx hb=>by
  rcases (hch b hb).1 with z | z
  . exact hx z
  . exact absurd (Xbf (Xbp e) z) (XaX _)
 have cellK:∀ x c,X.env.cells.lookup x=some c->∀ v,s.heap.IsCell c v->h'.IsCell c v:=fun x c e v ⟨o,ho,hd⟩=>by
  have nch:c ∉ ch:=fun z=>(hch c z).2.2.1 x c e rfl
  by_cases hc:c∈X.fs
  . obtain ⟨sl,q⟩:=slot c o (I.cne x c e) hc nch ho (I.freeC x c e)
    exact ⟨_,q,hd⟩
  . exact ⟨o,keep c o (I.cne x c e) hc nch ho (I.freeC x c e),hd⟩
 refine ⟨I.ok,I.os,hg,⟨fun b o e n hb hx=>?_,fun b o e n hb hx=>?_,fun b o e n hx=>?_,fun b o e hx=>?_,fun b xs e=>tups b xs (I.base.tups b xs e),fun b o xs e=>frzs b o xs (I.base.frzs b o xs e),fun b ps e=>?_⟩,?_,fun x c e=>?_,?_,fun x c e=>?_,fun p hp=>?_,hok,I.len⟩
 . exact keep b o (neL b o e) hb (neC b o e hx) (I.base.keep b o e n hb hx) (I.base.free b o e n hx)
 . obtain ⟨sl,e1⟩:=I.base.slot b o e n hb hx
   obtain ⟨sl',e2⟩:=slot b _ (neL b o e) hb (neC b o e hx) e1 (I.base.free b o e n hx);exact ⟨sl',e2⟩
 . obtain ⟨o',e1⟩:=I.base.there b o e hx
   exact free b o' (neC b o e hx) e1 (I.base.free b o e n hx)
 . obtain ⟨o',e1⟩:=I.base.there b o e hx
   exact there b o' (neC b o e hx) e1
 . obtain ⟨m1,e1⟩:=I.base.tbls b ps e
   obtain ⟨m2,e2⟩:=tbls b _ e1;exact ⟨m1++m2,by rw [e2,Array.append_assoc]⟩
 . obtain ⟨m,hn,hl⟩:=I.loc
   refine ⟨m,ns m hn,fun i x v e1 e2 e3=>?_⟩;obtain ⟨u,r,l⟩:=hl i x v e1 e2 e3;refine ⟨u,r,?_⟩
   rcases l with l | ⟨k,c,e,z⟩
   . exact .inl l
   . exact .inr ⟨k,c,e,cellK x c e _ z⟩
 . obtain ⟨v,z⟩:=I.cell x c e
   exact ⟨v,cellK x c e v z⟩
 . obtain ⟨m,⟨o,_,_,ho,_⟩,_⟩:=I.loc
   exact free _ o (fun z=>(hch _ z).2.1 rfl) ho I.free
 . obtain ⟨v,o,ho,hd⟩:=I.cell x c e
   exact free c o (fun z=>(hch c z).2.2.1 x c e rfl) ho (I.freeC x c e)
 . obtain ⟨e,n,ne,nf,d⟩:=I.pin p hp
   have nch:p.1 ∉ ch:=fun z=>(hch p.1 z).2.2.2 p hp rfl;exact ⟨keep p.1 p.2 ne nf nch e n,free p.1 p.2 nch e n,ne,nf,d⟩
theorem Inv.un (I:Inv X pins σ H s) (u:Un X.fs [] H H' s.heap h') (hok:HOk X.prog X.w H' h'):Inv X pins σ H' { s with heap:=h',toks:=t' }:=by
 obtain ⟨m,⟨o,es,ep,ho,r⟩,_⟩:=id I.loc;obtain ⟨sl,hL⟩:=u.any ho I.free (by simp)
 exact I.step (g':=s.gens) (d':=s.drawn) (ch:=[]) (fun _ z=>nomatch z) (fun b o _ hb _ e n=>u.keep b o e n hb (by simp)) (fun b o _ hb _ e n=>u.slot b o e n hb (by simp)) (fun b o _ e n=>u.free b o e n (by simp)) (fun b o _ e=>u.there b o e (by simp)) u.tups u.frzs u.tbls (fun m' hm=>by
  obtain ⟨o',es',ep',ho',r'⟩:=hm;rw [ho] at ho';cases ho'
  exact ⟨_,es',ep',hL,r'⟩) hok I.bare
theorem Inv.call {g':Array GenState}{d':Drawn}(I:Inv X pins σ H s) (u:Un (frs X.stack) ch H H' s.heap h') (hok:HOk X.prog X.w H' h') (hg:AllBare g')
 (hch:∀ b∈ch,(b∈X.ex\/X.s₀.heap.objs.size<=b)/\b≠X.env.locals/\(∀ x c,X.env.cells.lookup x=some c->c≠b)/\∀ p∈X.pn++pins,p.1≠b) :
 Inv X pins σ H' { s with heap:=h',gens:=g',drawn:=d',toks:=t' }:=by
 obtain ⟨m,⟨o,es,ep,ho,r⟩,_⟩:=id I.loc;obtain ⟨sl,hL⟩:=u.any ho I.free fun z=>(hch _ z).2.1 rfl
 exact I.step (ch:=ch) hch (fun b o hL hb hc e n=>u.keep b o e n (fun z=>(Xam.mp (I.stkSub b z)).elim hL hb) hc) (fun b o _ _ hc e n=>u.any e n hc) (fun b o hc e n=>u.free b o e n hc) (fun b o hc e=>u.there b o e hc) u.tups u.frzs u.tbls (fun m' hm=>by
  obtain ⟨o',es',ep',ho',r'⟩:=hm;rw [ho] at ho';cases ho'
  exact ⟨_,es',ep',hL,r'⟩) hok hg
theorem Inv.turned {it:Addr} (I:Inv X pins σ H s) (k:∀ b o,b≠it->s.heap.get? b=some o->h'.get? b=some o) (hn:H it=none) (hL:it≠X.env.locals)
 (h1:it∈X.ex\/X.s₀.heap.objs.size<=it) (h2:∀ x c,X.env.cells.lookup x=some c->c≠it) (h3:∀ p∈X.pn++pins,p.1≠it):Inv X pins σ H { s with heap:=h',toks:=t' }:=by
 have nit:∀ b u,H b=some u->b≠it:=fun b u e z=>by rw [z,hn] at e;cases e
 refine I.step (g':=s.gens) (d':=s.drawn) (ch:=[it]) (fun b hb=>?_) (fun b o _ _ hc e _=>k b o (fun z=>hc (by simp [z])) e) (fun b o _ _ hc e _=>⟨o.slots,k b o (fun z=>hc (by simp [z])) e⟩) (fun _ _ _ _ n=>n)
  (fun b o hc e=>⟨o,k b o (fun z=>hc (by simp [z])) e⟩) (fun _ _ e=>e) (fun _ _ _ e=>e) (fun b ps e=>⟨#[],by rw [e];simp⟩) (fun m hm=>?_) (fun b u e=>?_) I.bare
 . have e:b=it:=by simpa using hb
   subst e;exact ⟨h1,hL,h2,h3⟩
 . obtain ⟨o,es,ep,ho,r⟩:=hm
   exact ⟨o,es,ep,k _ o (Ne.symm hL) ho,r⟩
 . refine (I.hok b u e).stay (fun c v hc q=>k c v ?_ q) (fun _ q=>q) fun _ _ q=>q
   rcases hc with z | z
   . rw [z];exact nit b u e
   . exact nit c _ z
theorem Inv.tok (I:Inv X pins σ H s) (t:Nat):Inv X pins σ H { s with toks:=t }:=I.un (h':=s.heap) (t':=t) Un.refl I.hok
theorem Inv.kept {t':Nat} (I:Inv X pins σ H s) (k:∀ b u,s.heap.get? b=some u->h'.get? b=some u):Inv X pins σ H { s with heap:=h',toks:=t' }:=I.un (Un.kept k) (I.hok.kept k)
theorem Inv.laid {a:Addr}{o:HO}{t':Nat} (I:Inv X pins σ H s) (k:∀ b u,s.heap.get? b=some u->h'.get? b=some u) (hp:s.heap.objs.size<=a) (new:ObjOk X.prog X.w (upd H a o) h' a o) :
 Inv X pins σ (upd H a o) { s with heap:=h',toks:=t' }:=I.un (Un.laid k hp (I.hok.fresh hp)) (I.hok.laid k hp new)
theorem Inv.write {x e:Addr}{o:HO}{t':Nat} (I:Inv X pins σ H s) (mu:Mut (H x)) (he:e=x\/H e=some (.own x)) (k:∀ b u,b≠e->s.heap.get? b=some u->h'.get? b=some u) (heo:∃ u,h'.get? e=some u)
 (new:ObjOk X.prog X.w (upd H x o) h' x o):Inv X pins σ (upd H x o) { s with heap:=h',toks:=t' }:=I.un (Un.write mu he k heo) (I.hok.write mu he k heo new)
theorem Inv.pins_of {pins':List (Addr×Obj)} (I:Inv X pins σ H s) (h:∀ p∈pins',s.heap.get? p.1=some p.2/\H p.1=none/\p.1≠X.env.locals/\p.1 ∉ X.fs/\∀ v,p.2.data≠.cell v):Inv X pins' σ H s :=
 ⟨I.ok,I.os,I.bare,I.base,I.loc,I.cell,I.free,I.freeC,fun p hp=>(Xaf.mp hp).elim (fun z=>I.pin p (XaA _ z)) (h p),I.hok,I.len⟩
variable {i:Nat}{x:Str}
theorem ZhR {N:List Str} (hN:N.Nodup) {j:Nat} (a:N[i]?=some x) (b:N[j]?=some x):i=j:=by
 obtain ⟨h1,e1⟩:=Xae.mp a;obtain ⟨h2,e2⟩:=Xae.mp b;exact (List.getElem_inj hN).mp (e1.trans e2.symm)
theorem Zgs {M:Model}{A:Around}{E:Value->Shared->Prop}{v:V}{u:Value}{Q:Unit->Shared->Prop} (I:Inv X pins σ H s) (hN:X.N.Nodup) (hi:X.N[i]?=some x) (hx:Loc X.env.scope x) (r:RelV v u)
 (h:∀ s',Inv X pins (σ.set i (some v)) H s'->(∃ a,Heap.SameBut a s.heap s'.heap/\(a=X.env.locals\/X.env.cells.lookup x=some a))->Q () s') (hf:X.fn x=true\/X.env.scope.names.lookup x=some .local:=by first | exact .inl rfl | exact .inr rfl | assumption):wpAny M A (storeName X.env x u) Q E s:=by
 obtain ⟨m,hn,hl⟩:=id I.loc
 have hcls:(X.env.scope.kind == .class || (X.env.scope.kind == .module && X.env.locals != X.env.globals))=false:=by rw [I.ok.kind];rfl
 have hiσ:i<σ.length:=by rw [I.len];exact (Xae.mp hi).1
 have cne:=I.cne
 have tracked:∀ {a:Addr} {h':Heap},(∃ o,s.heap.get? a=some o/\H a=none)->Heap.SameBut a s.heap h'->HOk X.prog X.w H h':=fun {a h'} ha hs b ob e=>by
  obtain ⟨_,_,hfree⟩:=ha;refine (I.hok b ob e).stay (fun c w' hc q=>(hs.2 c ?_).trans q) (fun _ q=>q) fun _ _ q=>q;rintro rfl
  rcases hc with rfl | hc
  . rw [hfree] at e;cases e
  . rw [hfree] at hc;cases hc
 rcases hx with hk | hk
 . refine wpAny_storeName_local hk hn (fun h' hn' hs=>?_) hcls
   obtain ⟨oL,_,_,hoL,_⟩:=id hn;refine h _ ⟨I.ok,I.os,I.bare,⟨fun b o e n hb hx=>?_,fun b o e n hb hx=>?_,I.base.free,fun b o e hx=>?_,I.base.tups,I.base.frzs,I.base.tbls⟩,⟨_,hn',fun j y v' e1 e2 e3=>?_⟩,fun y c e=>?_,I.free,I.freeC,fun p hp=>?_,tracked ⟨oL,hoL,I.free⟩ hs,by simpa using I.len⟩ ⟨_,hs,.inl rfl⟩
   . exact (hs.2 b (XaZ (Xbf (Xbp e) I.ok.above))).trans (I.base.keep b o e n hb hx)
   . obtain ⟨sl,e1⟩:=I.base.slot b o e n hb hx
     exact ⟨sl,(hs.2 b (XaZ (Xbf (Xbp e) I.ok.above))).trans e1⟩
   . obtain ⟨o',e1⟩:=I.base.there b o e hx
     exact ⟨o',(hs.2 b (XaZ (Xbf (Xbp e) I.ok.above))).trans e1⟩
   . by_cases hj:j=i
     . subst hj
       rw [hi] at e1;cases e1;rw [List.getElem?_set_self hiσ] at e2;cases e2;exact ⟨u,r,.inl ⟨hk,by simp⟩⟩
     . rw [List.getElem?_set_ne (Ne.symm hj)] at e2
       obtain ⟨u',r',q⟩:=hl j y v' e1 e2 e3;refine ⟨u',r',?_⟩
       rcases q with ⟨k,e⟩ | ⟨k,c,e,z⟩
       . refine .inl ⟨k,?_⟩
         have:y≠x:=fun e=>hj (ZhR hN e1 (e ▸ hi))
         simp [this,e]
       . exact .inr ⟨k,c,e,z.sameBut hs (cne y c e)⟩
   . obtain ⟨w',z⟩:=I.cell y c e
     exact ⟨w',z.sameBut hs (cne y c e)⟩
   . obtain ⟨e,n,ne,nf,d⟩:=I.pin p hp
     exact ⟨(hs.2 p.1 ne).trans e,n,ne,nf,d⟩
 . have hfn:X.fn x=true:=by
    rcases hf with z | z
    . exact z
    . rw [z] at hk;cases hk
   obtain ⟨c,hc⟩:=I.ok.has x (.inl hk);obtain ⟨w',z⟩:=I.cell x c hc;refine wpAny_storeName_cell I.ok.kind hk hc z (fun h' hc' hs=>?_);obtain ⟨oc,hoc,hocd⟩:=id z;refine h { s with heap:=h' } ⟨I.ok,I.os,I.bare,⟨fun b o e n hb hx=>?_,fun b o e n hb hx=>?_,I.base.free,fun b o e hx=>?_,I.base.tups,I.base.frzs,I.base.tbls⟩,⟨m,hn.sameBut hs (Ne.symm (cne x c hc)),fun j y v' e1 e2 e3=>?_⟩,fun y c' e=>?_,I.free,I.freeC,fun p hp=>?_,tracked ⟨oc,hoc,I.freeC x c hc⟩ hs,by simpa using I.len⟩ ⟨c,hs,.inr hc⟩
   . exact (hs.2 b (XaZ (Xbf (Xbp e) (I.ok.cab x c hfn hc)))).trans (I.base.keep b o e n hb hx)
   . obtain ⟨sl,e1⟩:=I.base.slot b o e n hb hx
     exact ⟨sl,(hs.2 b (XaZ (Xbf (Xbp e) (I.ok.cab x c hfn hc)))).trans e1⟩
   . obtain ⟨o',e1⟩:=I.base.there b o e hx
     exact ⟨o',(hs.2 b (XaZ (Xbf (Xbp e) (I.ok.cab x c hfn hc)))).trans e1⟩
   . by_cases hj:j=i
     . subst hj
       rw [hi] at e1;cases e1;rw [List.getElem?_set_self hiσ] at e2;cases e2;exact ⟨u,r,.inr ⟨.inl hk,c,hc,hc'⟩⟩
     . rw [List.getElem?_set_ne (Ne.symm hj)] at e2
       obtain ⟨u',r',q⟩:=hl j y v' e1 e2 e3;refine ⟨u',r',?_⟩
       rcases q with q | ⟨k,c',e,z'⟩
       . exact .inl q
       . refine .inr ⟨k,c',e,z'.sameBut hs ?_⟩
         rintro rfl;exact hj (ZhR hN e1 (I.ok.inj _ _ _ e hc ▸ hi))
   . by_cases hcc:c'=c
     . subst hcc;exact ⟨_,hc'⟩
     . obtain ⟨w2,z2⟩:=I.cell y c' e
       exact ⟨w2,z2.sameBut hs hcc⟩
   . obtain ⟨e,n,ne,nf,d⟩:=I.pin p hp
     refine ⟨(hs.2 p.1 ?_).trans e,n,ne,nf,d⟩;intro q;rw [q,hoc] at e;have q':oc=p.2:=Xbc e;exact d w' (by rw [<-q'];exact hocd)
theorem ZfD {M:Model}{A:Around}{E:Value->Shared->Prop}{v:V}{u:Value}{Q:Unit->Shared->Prop} (I:Inv X pins σ H s) (hN:X.N.Nodup) (hi:X.N[i]?=some x) (hx:Loc X.env.scope x) (r:RelV v u)
 (h:∀ s',Inv X pins (σ.set i (some v)) H s'->Q () s') (hf:X.fn x=true\/X.env.scope.names.lookup x=some .local:=by first | exact .inl rfl | exact .inr rfl | assumption):wpAny M A (storeName X.env x u) Q E s :=
 Zgs I hN hi hx r (fun s' I' _=>h s' I') hf
theorem Inv.call' {s':Shared}(I:Inv X pins σ H s) (ho:s'.os=s.os) (u:Un (frs X.stack) ch H H' s.heap s'.heap) (hok:HOk X.prog X.w H' s'.heap) (hg:AllBare s'.gens)
 (hch:∀ b∈ch,(b∈X.ex\/X.s₀.heap.objs.size<=b)/\b≠X.env.locals/\(∀ x c,X.env.cells.lookup x=some c->c≠b)/\∀ p∈X.pn++pins,p.1≠b):Inv X pins σ H' s':=by
 obtain ⟨h',g',d',t',o'⟩:=s';have e:o'=s.os:=ho;subst e;exact I.call (g':=g') (t':=t') (d':=d') u hok hg hch
end
abbrev XK:=Value->Option Addr->Hp->Prop
abbrev St:=List (Option V)
abbrev VK:=V->Hp->Prop
abbrev TE:=St->Hp->VK->Prop
abbrev TT:=St->Hp->(Bool->Hp->Prop)->Prop
abbrev TA:=St->Hp->(List V->Hp->Prop)->Prop
structure Ends where
 nx:St->Hp->Prop
 rt:VK
 bk:St->Hp->Prop:=fun _ _=>False
 ct:St->Hp->Prop:=fun _ _=>False
abbrev TS:=Ends->St->Hp->Prop
def EP (X:Cx) (pins:List (Addr×Obj)) (σ:St) (Q:VK) (u:Value) (s':Shared):Prop:=∃ v H',Inv X pins σ H' s'/\RelV v u/\Q v H'
def TP (X:Cx) (pins:List (Addr×Obj)) (σ:St) (Q:Bool->Hp->Prop) (b:Bool) (s':Shared):Prop:=∃ H',Inv X pins σ H' s'/\Q b H'
def AP (X:Cx) (pins:List (Addr×Obj)) (σ:St) (Q:List V->Hp->Prop) (us:List Value) (s':Shared):Prop:=∃ vs H',Inv X pins σ H' s'/\Vals vs us/\Q vs H'
def SP (X:Cx) (pins:List (Addr×Obj)) (D:Ends) (f:Flow) (s':Shared):Prop :=
 match f with
 | .next=>∃ σ' H',Inv X pins σ' H' s'/\D.nx σ' H'
 | .brk=>∃ σ' H',Inv X pins σ' H' s'/\D.bk σ' H'
 | .cont=>∃ σ' H',Inv X pins σ' H' s'/\D.ct σ' H'
 | .ret u=>∃ v σ' H',Inv X pins σ' H' s'/\RelV v u/\D.rt v H'
def PE (X:Cx) (e:Expr) (t:TE):Prop :=
 ∀ (pins:List (Addr×Obj)) (s:Shared) (σ:St) (H:Hp) (Q:VK),Inv X pins σ H s->t σ H Q->wpAny (model X.prog X.w) X.A (eval e X.env) (EP X pins σ Q) X.xe s
def PT (X:Cx) (e:Expr) (t:TT):Prop :=
 ∀ (pins:List (Addr×Obj)) (s:Shared) (σ:St) (H:Hp) (Q:Bool->Hp->Prop),Inv X pins σ H s->t σ H Q->wpAny (model X.prog X.w) X.A (isTrue e X.env (eval e X.env)) (TP X pins σ Q) X.xe s
def PW (X:Cx) (e:Expr) (t:TT):Prop :=
 ∀ (whole:Sem Value) (pins:List (Addr×Obj)) (s:Shared) (σ:St) (H:Hp) (Q:Bool->Hp->Prop),Inv X pins σ H s->t σ H Q->wpAny (model X.prog X.w) X.A (isTrue e X.env whole) (TP X pins σ Q) X.xe s
variable {X:Cx}{e:Expr}
theorem PW.pt {t:TT} (h:PW X e t):PT X e t:=h _
def PA (X:Cx) (es:List Expr) (t:TA):Prop :=
 ∀ (pos:Pos) (pins:List (Addr×Obj)) (s:Shared) (σ:St) (H:Hp) (Q:List V->Hp->Prop),Inv X pins σ H s->t σ H Q->wpAny (model X.prog X.w) X.A (spliced (backTo pos (starEach es X.env))) (AP X pins σ Q) X.xe s
def PS (X:Cx) (st:Stmt) (t:TS):Prop :=
 ∀ (pins:List (Addr×Obj)) (s:Shared) (σ:St) (H:Hp) (D:Ends),Inv X pins σ H s->t D σ H->wpAny (model X.prog X.w) X.A (exec st X.env) (SP X pins D) X.xe s
def PSs (X:Cx) (st:List Stmt) (t:TS):Prop :=
 ∀ (pins:List (Addr×Obj)) (s:Shared) (σ:St) (H:Hp) (D:Ends),Inv X pins σ H s->t D σ H->wpAny (model X.prog X.w) X.A (execs st X.env) (SP X pins D) X.xe s
variable {A:Around}{E:Value->Shared->Prop}{s:Shared}
theorem thn {α:Type}{t:Sem α}{Q Q':α->Shared->Prop}{M:Model}(h:wpAny M A t Q E s) (hQ:∀ a s,Q a s->Q' a s):wpAny M A t Q' E s:=Xbu h hQ fun _ _ x=>x
section
variable {X:Cx}
def tVar (i:Nat):TE:=fun σ H Q=>∃ v,σ[i]?=some (some v)/\Q v H
def tC (v:V):TE:=fun _ H Q=>Q v H
variable {x:Str}{pos:Pos}
theorem pe_var {i:Nat}(hN:X.N[i]?=some x) (hv:Vis X.env.scope x) (hd:(x == ("__debug__" : Str))=false:=by decide) (hcd:(x == ("__classdict__" : Str))=false:=by decide):PE X (.Name x pos) (tVar i):=by
 intro pins s σ H Q I h;obtain ⟨v,e,h⟩:=h;obtain ⟨m,hn,hl⟩:=I.loc;obtain ⟨u,r,l⟩:=hl i x v hN e hv;have fin:EP X pins σ Q u s:=⟨v,H,I,r,h⟩
 rcases l with ⟨hk,hm⟩ | ⟨hk,c,hc,hcell⟩
 . exact wpAny_Name (wpAny_loadName_local I.ok.kind hk hn hm fin) hd
 . rcases hk with hk | hk
   . exact wpAny_Name (wpAny_loadName_cell I.ok.kind hk hc hcell fin) hd
   . exact wpAny_Name (wpAny_loadName_free I.ok.kind hk hc hcell fin hcd) hd
theorem Zae {i j pos}:PE X (.Constant (.int i) j pos) (tC (.int i)):=fun _ _ _ H _ I h=>wpAny_Constant_int ⟨.int i,H,I.tok _,⟨_,rfl⟩,h⟩
theorem ZdI {b j pos}:PE X (.Constant (.bool b) j pos) (tC (.bl b)):=fun _ _ _ H _ I h=>Constant_bool ⟨.bl b,H,I,rfl,h⟩
theorem ZbU {j pos}:PE X (.Constant .none j pos) (tC .non):=fun _ _ _ H _ I h=>Constant_none ⟨.non,H,I,rfl,h⟩
theorem ZaE {x j pos}:PE X (.Constant (.str x) j pos) (tC (.str x)):=fun _ _ _ H _ I h=>Calls.Constant_str ⟨.str x,H,I.tok _,⟨_,rfl⟩,h⟩
def Gl (X:Cx) (x:Str):Prop:=X.env.kindOf x=some .globalImplicit
theorem Zje {pins:List (Addr×Obj)} {σ:St} {u:Value} {Q:Value->Shared->Prop} (I:Inv X pins σ H s) (hg:Gl X x) (hm:X.mg x=some u) (h:Q u s)
 (hd:(x == ("__debug__" : Str))=false:=by decide):wpAny (model X.prog X.w) X.A (eval (.Name x pos) X.env) Q E s :=
 Calls.Name_function_global I.ok.kind hg (Calls.loadGlobal_global (by rw [I.ok.glob];exact I.mod.glob.keeps I.bk) hm h) hd
theorem Zc9 {pins:List (Addr×Obj)} {σ:St} {u:Value} {Q:Value->Shared->Prop} (I:Inv X pins σ H s) (hg:Gl X x) (hm:X.mg x=none) (hv:bootBuiltins x=some u) (h:Q u s)
 (hn:x ≠ "__name__" := by decide) (hd:(x == ("__debug__" : Str))=false:=by decide):wpAny (model X.prog X.w) X.A (eval (.Name x pos) X.env) Q E s:=by
 obtain ⟨mb,h1,h2⟩:=I.mod.blt;exact Calls.Name_function_global I.ok.kind hg (Calls.loadGlobal_builtin (by rw [I.ok.glob];exact I.mod.glob.keeps I.bk) hm (by rw [I.ok.blt];exact h1.keeps I.bk) ((h2 x hn).trans hv) h) hd
theorem pe_glob {v:V}{u:Value}(hg:Gl X x) (hm:X.mg x=some u) (r:RelV v u) (hd:(x == ("__debug__" : Str))=false:=by decide):PE X (.Name x pos) (tC v) :=
 fun _ _ _ H _ I h=>Zje I hg hm ⟨v,H,I,r,h⟩ hd
theorem pe_bltn {v:V}{u:Value}(hg:Gl X x) (hm:X.mg x=none) (hv:bootBuiltins x=some u) (r:RelV v u) (hn:x ≠ "__name__" := by decide) (hd:(x == ("__debug__" : Str))=false:=by decide):PE X (.Name x pos) (tC v) :=
 fun _ _ _ H _ I h=>Zc9 I hg hm hv ⟨v,H,I,r,h⟩ hn hd
variable {a b:Expr} {ta tb:TE} {pos:Pos}
def PC (X:Cx) (op:CmpOp) (a b:Expr) (t:TE):Prop :=
 ∀ (pins:List (Addr×Obj)) (s:Shared) (σ:St) (H:Hp) (Q:VK),Inv X pins σ H s->t σ H Q ->
  wpAny (model X.prog X.w) X.A (eval a X.env) (fun v s₁=>wpAny (model X.prog X.w) X.A (eval b X.env) (fun u s₂=>wpAny (model X.prog X.w) X.A (compareOp op v u) (EP X pins σ Q) X.xe s₂) X.xe s₁) X.xe s
variable {op:CmpOp}
theorem ZhS (b:Expr) (h:op≠.In) (h2:op≠.NotIn):behindInMarks op b=false:=by
 have e1:(op == CmpOp.In)=false:=by cases op <;> first | rfl | exact absurd rfl h
 have e2:(op == CmpOp.NotIn)=false:=by cases op <;> first | rfl | exact absurd rfl h2
 cases b <;> simp [behindInMarks,e1,e2]
def tIsN (ta:TE):TE:=fun σ H Q=>ta σ H fun x H1=>Q (.bl (decide (x=.non))) H1
def tNotN (ta:TE):TE:=fun σ H Q=>ta σ H fun x H1=>Q (.bl (!decide (x=.non))) H1
theorem RelV.none_iff {x:V}{v:Value} (r:RelV x v):(v == Value.none)=decide (x=.non):=by
 cases x with
 | non=>cases r;rfl
 | bl _=>cases r;rfl
 | int _=>obtain ⟨t,rfl⟩:=r;rfl
 | str _=>obtain ⟨t,rfl⟩:=r;rfl
 | byt _=>obtain ⟨t,rfl⟩:=r;rfl
 | flt _=>obtain ⟨t,rfl⟩:=r;rfl
 | ref _=>cases r;rfl
 | ty _=>cases r;rfl
theorem ZcG {j pos'} (ha:PE X a ta):PC X .Is a (.Constant .none j pos') (tIsN ta):=by
 intro pins s σ H Q I h;refine thn (ha pins s σ H _ I h) fun v s1 ⟨x,H1,I1,r1,q1⟩=>?_;exact Constant_none (is_none_gen ⟨.bl _,H1,I1,by rw [r1.none_iff];rfl,q1⟩)
theorem Zjf {j pos'} (ha:PE X a ta):PC X .IsNot a (.Constant .none j pos') (tNotN ta):=by
 intro pins s σ H Q I h;refine thn (ha pins s σ H _ I h) fun v s1 ⟨x,H1,I1,r1,q1⟩=>?_;exact Constant_none (isnot_none_gen ⟨.bl _,H1,I1,by rw [r1.none_iff];rfl,q1⟩)
def tB (t:TE):TT:=fun σ H Q=>t σ H fun x H1=>∃ c,x=.bl c/\Q c H1
theorem pe_cmp {t:TE} (h:PC X op a b t) (h1:behindInMarks op b=false:=by first | exact ZhS _ (by decide) (by decide) | rfl):PE X (.Compare a [op] [b] pos) t:=fun pins s σ H Q I hw=>wpAny_Compare1 (h pins s σ H Q I hw) h1
theorem ZcH {t:TE} (h:PC X op a b t) (h1:behindInMarks op b=false:=by first | exact ZhS _ (by decide) (by decide) | rfl):PT X (.Compare a [op] [b] pos) (tB t):=by
 intro pins s σ H Q I hw;refine wpAny_isTrue_Compare1 (thn (h pins s σ H _ I hw) fun v s1 h1=>thn h1 fun u s2 h2=>thn h2 fun c s3 ⟨x,H1,I1,r1,q1⟩=>?_) h1;obtain ⟨d,rfl,q⟩:=q1;cases r1;exact Xbn ⟨H1,I1,q⟩
theorem ZbC {t:TE} (h:PE X e t) (he:∀ whole,isTrue e X.env whole=(do let v <-whole;standAt e.pos;holding [v] (truthy v)):=by intro _;rfl):PT X e (tB t):=by
 intro pins s σ H Q I hw;refine isTrue_plain (thn (h pins s σ H _ I hw) fun v s1 ⟨x,H1,I1,r1,q1⟩=>?_) (he _);obtain ⟨d,rfl,q⟩:=q1;cases r1;exact Xbn ⟨H1,I1,q⟩
variable {tA tB':TT} {rest:List Expr}
def tAnd (t u:TT):TT:=fun σ H Q=>t σ H fun c H1=>if c=true then u σ H1 Q else Q false H1
def tOr (t u:TT):TT:=fun σ H Q=>t σ H fun c H1=>if c=true then Q true H1 else u σ H1 Q
def tNot (t:TT):TT:=fun σ H Q=>t σ H fun c H1=>Q (!c) H1
theorem ZcI (ha:PT X a tA):PW X (.BoolOp .And [a] pos) tA:=by
 intro wh pins s σ H Q I h;refine isTrue_and (thn (ha pins s σ H Q I h) fun c s1 e=>?_)
 cases c with
 | true=>exact isTrue_and_nil e
 | false=>exact e
theorem pw_or1 (ha:PT X a tA):PW X (.BoolOp .Or [a] pos) tA:=by
 intro wh pins s σ H Q I h;refine isTrue_or (thn (ha pins s σ H Q I h) fun c s1 e=>?_)
 cases c with
 | false=>exact isTrue_or_nil e
 | true=>exact e
theorem ZdZ (ha:PT X a tA) (hb:PW X (.BoolOp .And (b :: rest) pos) tB'):PW X (.BoolOp .And (a :: b :: rest) pos) (tAnd tA tB'):=by
 intro wh pins s σ H Q I h;refine isTrue_and (thn (ha pins s σ H _ I h) fun c s1 ⟨H1,I1,q1⟩=>?_)
 cases c with
 | true=>exact hb wh pins s1 σ H1 Q I1 q1
 | false=>exact ⟨H1,I1,q1⟩
theorem pw_or (ha:PT X a tA) (hb:PW X (.BoolOp .Or (b :: rest) pos) tB'):PW X (.BoolOp .Or (a :: b :: rest) pos) (tOr tA tB'):=by
 intro wh pins s σ H Q I h;refine isTrue_or (thn (ha pins s σ H _ I h) fun c s1 ⟨H1,I1,q1⟩=>?_)
 cases c with
 | true=>exact ⟨H1,I1,q1⟩
 | false=>exact hb wh pins s1 σ H1 Q I1 q1
theorem Zd0 (ha:PT X a tA):PT X (.UnaryOp .Not a pos) (tNot tA):=by
 intro pins s σ H Q I h;exact isTrue_not (ha pins s σ H (fun c H1=>Q (!c) H1) I h)
def tAndV (ta tb:TE):TE:=fun σ H Q=>ta σ H fun x H1=>∃ c,x=.bl c/\if c=true then tb σ H1 Q else Q (.bl false) H1
def tNotV (ta:TE):TE:=fun σ H Q=>ta σ H fun x H1=>∃ c,x=.bl c/\Q (.bl (!c)) H1
theorem Zjg {op}{t:TE} (h:PE X a t):PE X (.BoolOp op [a] pos) t:=fun pins s σ H Q I hw=>BoolOp_one (h pins s σ H Q I hw)
theorem ZhT (ha:PE X a ta) (hb:PE X (.BoolOp .And (b :: rest) pos) tb):PE X (.BoolOp .And (a :: b :: rest) pos) (tAndV ta tb):=by
 intro pins s σ H Q I h;refine BoolOp_and (thn (ha pins s σ H _ I h) fun v s1 ⟨x,H1,I1,r1,q1⟩=>?_);obtain ⟨c,rfl,q1⟩:=q1;cases r1;refine Xbn ?_
 cases c with
 | true=>exact hb pins s1 σ H1 Q I1 q1
 | false=>exact ⟨.bl false,H1,I1,rfl,q1⟩
theorem pe_not (ha:PE X a ta):PE X (.UnaryOp .Not a pos) (tNotV ta):=by
 intro pins s σ H Q I h;refine UnaryOp_ (thn (ha pins s σ H _ I h) fun v s1 ⟨x,H1,I1,r1,q1⟩=>?_);obtain ⟨c,rfl,q1⟩:=q1;cases r1;exact not_of (Xbn ⟨.bl (!c),H1,I1,rfl,q1⟩)
end
def SqL (K:XFg) (H:Hp) (a:Addr) (xs:List V):Prop :=
 Rd H a (.lst xs) \/
  ∃ (o:Obj) (its:Array Value) (n:Nat),K.lookup a=some o/\o.cls=.type "list" /\ o.dict=none/\o.data=.seq its n/\its.size<=sizeLine/\Vals xs its.toList
def SqT (K:XFg) (H:Hp) (a:Addr) (xs:List V):Prop :=
 Rd H a (.tup xs) \/
  ∃ (o:Obj) (its:Array Value) (n:Nat),K.lookup a=some o/\o.cls=.type "tuple" /\ o.data=.seq its n/\its.size<=sizeLine/\Vals xs its.toList
def absV:Value->Option V
 | .none=>some .non
 | .bool b=>some (.bl b)
 | .int i _=>some (.int i)
 | .str x _=>some (.str x)
 | .bytes b _=>some (.byt b)
 | .float b _=>some (.flt b)
 | .ref a=>some (.ref a)
 | .type n=>some (.ty n)
 | _=>none
variable {x:V}
theorem RelV.abs {u:Value} (r:RelV x u):absV u=some x:=by
 cases x with
 | non=>cases r;rfl
 | bl _=>cases r;rfl
 | int _=>obtain ⟨t,rfl⟩:=r;rfl
 | str _=>obtain ⟨t,rfl⟩:=r;rfl
 | byt _=>obtain ⟨t,rfl⟩:=r;rfl
 | flt _=>obtain ⟨t,rfl⟩:=r;rfl
 | ref _=>cases r;rfl
 | ty _=>cases r;rfl
theorem RelV.inj {y:V} {u:Value} (r:RelV x u) (q:RelV y u):x=y:=Xbc (r.abs.symm.trans q.abs)
theorem Vals.inj:∀ {xs ys:List V}{us:List Value},Vals xs us->Vals ys us->xs=ys
 | _,_,_,.nil,.nil=>rfl
 | _,_,_,.cons r t,.cons r' t'=>by rw [r.inj r',Vals.inj t t']
section
variable {X:Cx} {pins:List (Addr×Obj)} {σ:St} {H:Hp} {s:Shared} {a:Addr} {xs ys:List V}
theorem SqL.of {K:XFg} (h:H a=some (.lst xs)):SqL K H a xs:=.inl (.inl h)
theorem SqT.of {K:XFg} (h:H a=some (.tup xs)):SqT K H a xs:=.inl (.inl h)
theorem Inv.list (I:Inv X pins σ H s) (h:SqL X.K H a xs):∃ its:List Value,Vals xs its/\PlainL s.heap a its.toArray/\xs.length<=sizeLine:=by
 rcases h with h | ⟨o,its,n,hk,hc,hd,hs,hz,r⟩
 . obtain ⟨z,its,n,r,e⟩:=h.ok I.hok
   exact ⟨its,r,⟨_,n,e,rfl,rfl,rfl⟩,z⟩
 . refine ⟨its.toList,r,⟨o,n,I.kIn a o hk,hc,hd,by simpa using hs⟩,?_⟩
   have e:=r.length;simp only [Array.length_toList] at e;omega
theorem Inv.tuple (I:Inv X pins σ H s) (h:SqT X.K H a xs):∃ its:List Value,Vals xs its/\IsTup s.heap a its.toArray/\xs.length<=sizeLine:=by
 rcases h with h | ⟨o,its,n,hk,hc,hs,hz,r⟩
 . obtain ⟨z,its,r,p⟩:=h.ok I.hok
   exact ⟨its,r,p,z⟩
 . refine ⟨its.toList,r,⟨o,I.kIn a o hk,hc,n,by simpa using hs⟩,?_⟩
   have e:=r.length;simp only [Array.length_toList] at e;omega
theorem Inv.list_inj (I:Inv X pins σ H s) (h:SqL X.K H a xs) (h':SqL X.K H a ys):xs=ys:=by
 obtain ⟨its,r,⟨o,n,e,_,_,d⟩,_⟩:=I.list h;obtain ⟨its',r',⟨o',n',e',_,_,d'⟩,_⟩:=I.list h';rw [e] at e';cases e';rw [d] at d'
 injection d' with d1 _
 have:its=its':=by simpa using Xbj Array.toList d1
 subst this;exact r.inj r'
theorem Inv.tuple_inj (I:Inv X pins σ H s) (h:SqT X.K H a xs) (h':SqT X.K H a ys):xs=ys:=by
 obtain ⟨its,r,⟨o,e,_,n,d⟩,_⟩:=I.tuple h;obtain ⟨its',r',⟨o',e',_,n',d'⟩,_⟩:=I.tuple h';rw [e] at e';cases e';rw [d] at d'
 injection d' with d1 _
 have:its=its':=by simpa using Xbj Array.toList d1
 subst this;exact r.inj r'
end
abbrev Cx.wish (X:Cx) (E:Value->Shared->Prop):Cx:={ X with xe:=E }
abbrev Cx.nox (X:Cx):Cx:=X.wish fun _ _=>False
theorem Cx.Ok.wish {X:Cx} (ok:X.Ok) (E:Value->Shared->Prop):(X.wish E).Ok :=
 ⟨ok.mod,ok.kind,ok.glob,ok.blt,ok.above,ok.inj,ok.has,ok.cab,ok.hd,ok.frames,ok.stk,ok.exf,ok.bs,ok.bsz,ok.noex,ok.exfs,ok.funs,ok.frf⟩
theorem Cx.Ok.unwish (ok:(X.wish E).Ok):X.Ok :=
 ⟨ok.mod,ok.kind,ok.glob,ok.blt,ok.above,ok.inj,ok.has,ok.cab,ok.hd,ok.frames,ok.stk,ok.exf,ok.bs,ok.bsz,ok.noex,ok.exfs,ok.funs,ok.frf⟩
section
variable {X:Cx} {pins:List (Addr×Obj)} {σ:St} {H:Hp} {s:Shared} {E:Value->Shared->Prop}
theorem Inv.wish (I:Inv X pins σ H s) (E:Value->Shared->Prop):Inv (X.wish E) pins σ H s:=⟨I.ok.wish E,I.os,I.bare,I.base,I.loc,I.cell,I.free,I.freeC,I.pin,I.hok,I.len⟩
theorem Inv.unwish (I:Inv (X.wish E) pins σ H s):Inv X pins σ H s:=⟨I.ok.unwish,I.os,I.bare,I.base,I.loc,I.cell,I.free,I.freeC,I.pin,I.hok,I.len⟩
theorem SP.unwish {D:Ends}{f:Flow}{s':Shared} (h:SP (X.wish E) pins D f s'):SP X pins D f s':=by
 cases f with
 | next=>obtain ⟨σ',H',I,q⟩:=h;exact ⟨σ',H',I.unwish,q⟩
 | brk=>obtain ⟨σ',H',I,q⟩:=h;exact ⟨σ',H',I.unwish,q⟩
 | cont=>obtain ⟨σ',H',I,q⟩:=h;exact ⟨σ',H',I.unwish,q⟩
 | ret u=>obtain ⟨v,σ',H',I,r,q⟩:=h;exact ⟨v,σ',H',I.unwish,r,q⟩
theorem PSs.nox {st:List Stmt}{t:TS} (h:PSs X.nox st t):PSs X st t:=fun pins s σ H D I hw =>
 Xbu (h pins s σ H D (I.wish _) hw) (fun _ _ q=>q.unwish) fun _ _ z=>False.elim z
end
section
variable {X:Cx} {st:Stmt} {rest:List Stmt} {t u:TS} {e:Expr} {te:TE} {pos:Pos}
def tNext:TS:=fun D σ H=>D.nx σ H
def tSeq (t u:TS):TS:=fun D σ H=>t { D with nx:=u D } σ H
theorem Zaq:PSs X [] tNext:=fun _ _ σ H _ I h=>wpAny_execs_nil ⟨σ,H,I,h⟩
theorem Zab (h1:PS X st t) (h2:PSs X rest u):PSs X (st :: rest) (tSeq t u):=by
 intro pins s σ H D I h;refine wpAny_execs_cons (thn (h1 pins s σ H { D with nx:=u D } I h) fun f s1 q=>?_)
 cases f with
 | next =>
   obtain ⟨σ',H',I',q⟩:=q;exact h2 pins s1 σ' H' D I' q
 | ret v=>exact q
 | brk=>exact q
 | cont=>exact q
theorem Zah (h1:PS X st t):PSs X [st] t:=by
 intro pins s σ H D I h;refine wpAny_execs_cons (thn (h1 pins s σ H D I h) fun f s1 q=>?_)
 cases f with
 | next=>exact wpAny_execs_nil q
 | ret v=>exact q
 | brk=>exact q
 | cont=>exact q
theorem Inv.quiet {pins:List (Addr×Obj)} {σ:St} (I:Inv X pins σ H s):interactive X.env=false:=by simp [interactive,I.ok.kind]
def tDrop (te:TE):TS:=fun D σ H=>te σ H fun _ H1=>D.nx σ H1
theorem ZaW (he:PE X e te) (hs:swapsWith e none pos.line X.env=pure false:=by rfl):PS X (.Expr e pos) (tDrop te):=by
 intro pins s σ H D I h;exact wpAny_Expr_any (thn (he pins s σ H _ I h) fun v s1 ⟨x,H1,I1,r1,q1⟩=>⟨σ,H1,I1,q1⟩) I.quiet hs
def tRet (te:TE):TS:=fun D σ H=>te σ H D.rt
theorem Zao (he:PE X e te):PS X (.Return (some e) pos) (tRet te):=by
 intro pins s σ H D I h;exact wpAny_Return_some (thn (he pins s σ H _ I h) fun v s1 ⟨x,H1,I1,r1,q1⟩=>⟨x,σ,H1,I1,r1,q1⟩)
def tIfS (c:TT) (t u:TS):TS:=fun D σ H=>c σ H fun b H1=>if b=true then t D σ H1 else u D σ H1
theorem ZaN {c:Expr}{a b:List Stmt}{tc:TT} (hc:PT X c tc) (ha:PSs X a t) (hb:PSs X b u):PS X (.If c a b pos) (tIfS tc t u):=by
 intro pins s σ H D I h;refine wpAny_If (thn (hc pins s σ H _ I h) fun d s1 ⟨H1,I1,q1⟩=>?_)
 cases d with
 | true=>exact ha pins s1 σ H1 D I1 q1
 | false=>exact hb pins s1 σ H1 D I1 q1
def tNever:TS:=fun _ _ _=>False
theorem ZkP:PS X st tNever:=fun _ _ _ _ _ _ h=>h.elim
end
abbrev TG:=V->St->Hp->(St->Hp->Prop)->Prop
abbrev TGs:=List V->St->Hp->(St->Hp->Prop)->Prop
def PG (X:Cx) (target:Expr) (t:TG):Prop :=
 ∀ (pins:List (Addr×Obj)) (s:Shared) (σ:St) (H:Hp) (v:V) (u:Value) (Q:St->Hp->Prop),Inv X pins σ H s->RelV v u->t v σ H Q ->
  wpAny (model X.prog X.w) X.A (assign target X.env u) (fun _ s'=>∃ σ' H',Inv X pins σ' H' s'/\Q σ' H') X.xe s
def PGs (X:Cx) (ts:List Expr) (t:TGs):Prop :=
 ∀ (pins:List (Addr×Obj)) (s:Shared) (σ:St) (H:Hp) (vs:List V) (us:List Value) (Q:St->Hp->Prop),Inv X pins σ H s->Vals vs us->t vs σ H Q ->
  wpAny (model X.prog X.w) X.A (assignInOrder ((assignEach ts X.env).map (·.2)) us) (fun _ s'=>∃ σ' H',Inv X pins σ' H' s'/\Q σ' H') X.xe s
abbrev TSet:=V->V->V->Hp->(Hp->Prop)->Prop
def PSet (X:Cx) (t:TSet):Prop :=
 ∀ (pins:List (Addr×Obj)) (s:Shared) (σ:St) (H:Hp) (o i v:V) (ov iv u:Value) (Q:Hp->Prop),Inv X pins σ H s->RelV o ov->RelV i iv->RelV v u->t o i v H Q ->
  wpAny (model X.prog X.w) X.A (setItem ov iv u) (fun _ s'=>∃ H',Inv X pins σ H' s'/\Q H') X.xe s
abbrev TIp:=V->V->Hp->VK->Prop
def PIp (X:Cx) (op:Operator) (t:TIp):Prop :=
 ∀ (pins:List (Addr×Obj)) (s:Shared) (σ:St) (H:Hp) (x y:V) (v u:Value) (Q:VK),Inv X pins σ H s->RelV x v->RelV y u->t x y H Q ->
  wpAny (model X.prog X.w) X.A (inplaceOp op v u) (EP X pins σ Q) X.xe s
section
variable {X:Cx} {pos:Pos}
def Zd7 (i:Nat):TG:=fun v σ H Q=>Q (σ.set i (some v)) H
variable {i:Nat}
theorem Zag {x:Str} (hN:X.N.Nodup) (hi:X.N[i]?=some x) (hx:Loc X.env.scope x) (hf:X.fn x=true\/X.env.scope.names.lookup x=some .local:=by first | exact .inl rfl | exact .inr rfl | assumption):PG X (.Name x pos) (Zd7 i):=by
 intro pins s σ H v u Q I r h;exact wpAny_assign_Name (ZfD I hN hi hx r (fun s' I'=>⟨_,H,I',h⟩) hf)
def gNil:TGs:=fun vs σ H Q=>vs=[]/\Q σ H
def Zhp (t:TG) (u:TGs):TGs:=fun vs σ H Q=>∃ v r,vs=v :: r/\t v σ H fun σ' H'=>u r σ' H' Q
theorem Zav:PGs X [] gNil:=by
 intro pins s σ H vs us Q I r h;obtain ⟨e,h⟩:=h;subst e;cases r;exact assignInOrder_nil ⟨σ,H,I,h⟩
theorem Zaf {es:List Expr}{t:TG}{u:TGs} (h1:PG X e t) (h2:PGs X es u)
 (hs:(assignEach (e :: es) X.env).map (·.2)=assign e X.env :: (assignEach es X.env).map (·.2):=by rfl):PGs X (e :: es) (Zhp t u):=by
 intro pins s σ H vs us Q I r h;obtain ⟨v,vr,e1,h⟩:=h;subst e1
 cases r with
 | cons r rr =>
   rw [hs];refine assignInOrder_cons (thn (h1 pins s σ H _ _ _ I r h) fun _ s1 ⟨σ1,H1,I1,q1⟩=>?_);exact h2 pins s1 σ1 H1 _ _ Q I1 rr q1
def gTup (K:XFg) (n:Nat) (t:TGs):TG:=fun v σ H Q=>∃ a xs,v=.ref a/\SqT K H a xs/\xs.length=n/\t xs σ H Q
theorem ZaF {es:List Expr}{k:Nat}{t:TGs}{n:Nat} (hc:X.calm=true) (h:PGs X es t)
 (hn:(assignEach es X.env).length=n:=by rfl) (hst:(assignEach es X.env).findIdx? (·.1)=none:=by rfl):PG X (.Tuple es k pos) (gTup X.K n t):=by
 intro pins s σ H v u Q I r hw;obtain ⟨a,xs,e1,hq,hl,hw⟩:=hw;subst e1;cases r;obtain ⟨its,rv,ht,hz⟩:=I.tuple hq;refine assign_Tuple_tuple (I.ok.hd hc) ht (by simp [hn,<-hl,rv.length]) hst fun h' hx=>?_;have I1:Inv X pins σ H { s with heap:=h' }:=I.kept (t':=s.toks) fun b o e=>hx b o (XaZ (Xbp e)) e;exact h pins _ σ H xs _ Q I1 (by simpa using rv) hw
def gSub (to ti:TE) (t:TSet):TG:=fun v σ H Q=>to σ H fun o H1=>ti σ H1 fun i H2=>t o i v H2 fun H3=>Q σ H3
theorem pg_sub {o i:Expr}{to ti:TE}{t:TSet} (ho:PE X o to) (hi:PE X i ti) (hs:PSet X t)
 (ha:∀ v,assign (.Subscript o i pos) X.env v=(do
  let ov <-holding [v] (eval o X.env)
  let iv <-holding [v,ov] (eval i X.env)
  standAt pos
  holding [v,ov,iv] (setItem ov iv v)
  release [v,ov,iv] []):=by intro _;rfl):PG X (.Subscript o i pos) (gSub to ti t):=by
 intro pins s σ H v u Q I r h;rw [ha];refine Xbk (Xbm (thn (ho pins s σ H _ I h) fun ov s1 ⟨x,H1,I1,r1,q1⟩=>?_));refine Xbk (Xbm (thn (hi pins s1 σ H1 _ I1 q1) fun iv s2 ⟨y,H2,I2,r2,q2⟩=>?_));refine Xbk (wpAny_standAt (Xbk (Xbm (thn (hs pins s2 σ H2 x y v ov iv u _ I2 r1 r2 r q2) fun _ s3 ⟨H3,I3,q3⟩=>?_))));exact wpAny_release ⟨σ,H3,I3,q3⟩
def tAsg (te:TE) (g:TG):TS:=fun D σ H=>te σ H fun x H1=>g x σ H1 D.nx
variable {te:TE}
theorem Za8 {tg:Expr} {g:TG} (he:PE X e te) (hg:PG X tg g) (hs:swapsWithSole [tg] e pos.line X.env=pure false:=by rfl) (hw:swappedStores [tg] e X.env=pure none:=by rfl)
 (h1:(assignEach [tg] X.env).map (·.2)=[assign tg X.env]:=by rfl):PS X (.Assign [tg] e pos) (tAsg te g):=by
 intro pins s σ H D I h;refine wpAny_Assign_stores (thn (he pins s σ H _ I h) fun v s1 ⟨x,H1,I1,r1,q1⟩=>?_) hs hw;rw [h1];exact thn (hg pins s1 σ H1 x v _ I1 r1 q1) fun _ s2 q=>q
theorem Zap {x:Str}{pos':Pos} (hN:X.N.Nodup) (hi:X.N[i]?=some x) (hx:Loc X.env.scope x) (he:PE X e te) (hs:swapsWith e (some (.Name x pos')) pos.line X.env=pure false:=by rfl) (hf:X.fn x=true\/X.env.scope.names.lookup x=some .local:=by first | exact .inl rfl | exact .inr rfl | assumption) :
 PS X (.Assign [.Name x pos'] e pos) (tAsg te (Zd7 i)):=by
 intro pins s σ H D I h;refine wpAny_Assign_Name (thn (he pins s σ H _ I h) fun v s1 ⟨y,H1,I1,r1,q1⟩=>?_) hs;exact ZfD I1 hN hi hx r1 (fun s2 I2=>⟨_,H1,I2,q1⟩) hf
def tAug (i:Nat) (te:TE) (ti:TIp):TS:=fun D σ H=>∃ x,σ[i]?=some (some x)/\te σ H fun y H1=>ti x y H1 fun z H2=>D.nx (σ.set i (some z)) H2
theorem ps_aug {x:Str}{op:Operator}{ti:TIp}{pos':Pos} (hN:X.N.Nodup) (hi:X.N[i]?=some x) (hx:Loc X.env.scope x) (he:PE X e te) (ho:PIp X op ti) (hf:X.fn x=true\/X.env.scope.names.lookup x=some .local:=by first | exact .inl rfl | exact .inr rfl | assumption) :
 PS X (.AugAssign (.Name x pos') op e pos) (tAug i te ti):=by
 intro pins s σ H D I h;obtain ⟨v,e1,h⟩:=h;obtain ⟨m,hn,hl⟩:=I.loc
 have vis:Vis X.env.scope x:=by rcases hx with k | k;exact .inl k;exact .inr (.inl k)
 obtain ⟨u,r,l⟩:=hl i x v hi e1 vis;refine wpAny_AugAssign_Name ?_
 have go:wpAny (model X.prog X.w) X.A (eval e X.env) (fun w s₂=>wpAny (model X.prog X.w) X.A (inplaceOp op u w) (fun r s₃=>wpAny (model X.prog X.w) X.A (storeName X.env x r) (fun _=>SP X pins D .next) X.xe s₃) X.xe s₂) X.xe s:=by
  refine thn (he pins s σ H _ I h) fun w s1 ⟨y,H1,I1,r1,q1⟩=>?_;refine thn (ho pins s1 σ H1 v y u w _ I1 r r1 q1) fun z s2 ⟨zv,H2,I2,r2,q2⟩=>?_;exact ZfD I2 hN hi hx r2 (fun s3 I3=>⟨_,H2,I3,q2⟩) hf
 rcases l with ⟨hk,hm⟩ | ⟨hk,c,hc,hcell⟩
 . exact wpAny_loadName_local I.ok.kind hk hn hm go
 . rcases hk with hk | hk
   . exact wpAny_loadName_cell I.ok.kind hk hc hcell go
   . rcases hx with k | k
     . have:X.env.scope.names.lookup x=some .free:=hk
       rw [k] at this;cases this
     . have:X.env.scope.names.lookup x=some .free:=hk
       rw [k] at this;cases this
end
section
variable {X:Cx} {pos:Pos}
def tWhile (c:TT) (tb:TS):TS:=fun D σ H=>∃ W:Nat->St->Hp->Prop,(∃ m,W m σ H)/\∀ m σ H,W m σ H ->
 c σ H fun b H1=>if b=true then ∃ N:St->Hp->Prop,(∀ σ' H',N σ' H'->∃ m',m' < m/\W m' σ' H')/\tb { D with nx:=N,ct:=N,bk:=D.nx } σ H1 else D.nx σ H1
theorem ZhU {c:Expr}{body:List Stmt}{tc:TT}{tb:TS} (hp:PassesOwn (model X.prog X.w) X.A X.env X.xe) (hc:PT X c tc) (hb:PSs X body tb):PS X (.While c body [] pos) (tWhile tc tb):=by
 intro pins s σ H D I h;obtain ⟨W,⟨m0,w0⟩,turn⟩:=h;refine wpAny_While (codeAny_whileLoop (fun n s'=>∃ σ' H',Inv X pins σ' H' s'/\W n σ' H') ?_ m0 ⟨σ,H,I,w0⟩);rintro n s1 ⟨σ1,H1,I1,w1⟩;refine wpAny_passesOwn hp (thn (hc pins s1 σ1 H1 _ I1 (turn n σ1 H1 w1)) fun b s2 ⟨H2,I2,q2⟩=>?_)
 cases b with
 | true =>
   obtain ⟨N,hN,q2⟩:=q2;rw [Xbe rfl];refine wpAny_passesOwn hp (thn (hb pins s2 σ1 H2 _ I2 q2) fun f s3 q3=>?_)
   cases f with
   | next =>
     obtain ⟨σ3,H3,I3,n3⟩:=q3;obtain ⟨m',hm,w3⟩:=hN σ3 H3 n3;exact ⟨m',hm,σ3,H3,I3,w3⟩
   | cont =>
     obtain ⟨σ3,H3,I3,n3⟩:=q3;obtain ⟨m',hm,w3⟩:=hN σ3 H3 n3;exact ⟨m',hm,σ3,H3,I3,w3⟩
   | brk=>exact q3
   | ret v=>exact q3
 | false =>
   rw [Xbd Xbb];exact wpAny_execs_nil ⟨σ1,H2,I2,q2⟩
end
structure It where
 go:Nat->Hp->Prop
 yld:Nat->Hp->V->Hp->Prop
 stop:Nat->Hp->Prop
def FpOk (X:Cx) (pins:List (Addr×Obj)) (H:Hp) (b:Addr):Prop :=
 H b=none/\b≠X.env.locals/\b ∉ X.fs/\(b∈X.ex\/X.s₀.heap.objs.size<=b)/\(∀ x c,X.env.cells.lookup x=some c->c≠b)/\∀ p∈X.pn++pins,p.1≠b
variable {pins:List (Addr×Obj)}{σ:St}
theorem Inv.fpOk {H':Hp} (I:Inv X pins σ H s) (hb:s.heap.objs.size<=b) (hn:H' b=none):FpOk X pins H' b:=by
 refine ⟨hn,Nat.ne_of_gt (Xbf I.lt hb),I.nofs hb,.inr (Xbg I.sz hb),fun x c e z=>?_,fun p hp z=>?_⟩
 . obtain ⟨v,q⟩:=I.cell x c e
   exact absurd (Xbf q.lt (by rw [z];exact hb)) (XaX _)
 . exact absurd (Xbf (Xbp (I.pin p hp).1) (by rw [z];exact hb)) (XaX _)
structure Turn (P:Program) (w:World) (K:XFg) (tg:Expr) (J:It) (fp:List Addr) (it:Addr) (tn:Nat->Heap->Prop):Prop where
 mem:it∈fp
 obj:∀ i h,tn i h->∀ b∈fp,∃ o,h.get? b=some o/\∀ v,o.data≠.cell v
 keep:∀ i h h',tn i h->(∀ b∈fp,∀ o,h.get? b=some o->h'.get? b=some o)->tn i h'
 item:∀ (X:Cx),X.prog=P->X.w=w->X.K=K->X.calm=true->∀ (i:Nat) (pins:List (Addr×Obj)) (s:Shared) (σ:St) (H:Hp) (E:Value->Shared->Prop),Inv X pins σ H s->(∀ b∈fp,FpOk X pins H b)->tn i s.heap->J.go i H ->
  wpAny (model P w) X.A (pyNext (.ref it)) (fun r s1=>∃ u,r=some u /\
   wpAny (model P w) X.A (letOwnedTupleGo tg (.ref it) u) (fun _ s2=>∃ x H',Inv X pins σ H' s2/\RelV x u/\J.yld i H x H'/\tn (i+1) s2.heap/\∀ b∈fp,H' b=none) E s1) E s
 done:∀ (X:Cx),X.prog=P->X.w=w->X.K=K->X.calm=true->∀ (i:Nat) (pins:List (Addr×Obj)) (s:Shared) (σ:St) (H:Hp) (E:Value->Shared->Prop),Inv X pins σ H s->(∀ b∈fp,FpOk X pins H b)->tn i s.heap->J.stop i H ->
  wpAny (model P w) X.A (pyNext (.ref it)) (fun r s1=>r=none/\Inv X pins σ H s1) E s
 self:∀ (A:Around) (i:Nat) (s:Shared) (Q:Value->Shared->Prop) (E:Value->Shared->Prop),tn i s.heap->Q (.ref it) s->wpAny (model P w) A (pyIter (.ref it)) Q E s
abbrev TI:=St->Hp->(It->Hp->Prop)->Prop
def PIE (X:Cx) (pins:List (Addr×Obj)) (σ:St) (tg:Expr) (R:It->Hp->Prop) (itv:Value) (s2:Shared):Prop :=
 ∃ (it:Addr) (fp:List Addr) (tn:Nat->Heap->Prop) (J:It) (H':Hp),itv=.ref it/\Inv X pins σ H' s2/\Turn X.prog X.w X.K tg J fp it tn/\tn 0 s2.heap/\(∀ b∈fp,FpOk X pins H' b)/\R J H'
def PI (X:Cx) (tg iter:Expr) (wi:TI):Prop :=
 ∀ (pins:List (Addr×Obj)) (s:Shared) (σ:St) (H:Hp) (R:It->Hp->Prop),Inv X pins σ H s->wi σ H R ->
  wpAny (model X.prog X.w) X.A (eval iter X.env) (fun v s1=>wpAny (model X.prog X.w) X.A (pyIter v) (PIE X pins σ tg R) X.xe s1) X.xe s
variable {tg:Expr}
theorem go_of {M:Model}{it:Addr}{u:Value}{o:Obj}{n:String}{vs:Array Value}{Q:Unit->Shared->Prop} (ho:s.heap.get? it=some o) (hc:o.cls=.type n) (hd:o.data=.fields vs)
 (hn:["enumerate", "zip", "dict_itemiterator", "dict_reverseitemiterator", "odict_iterator", "itertools.zip_longest", "itertools.pairwise"].contains n=false) (hQ:Q () s):wpAny M A (letOwnedTupleGo tg (.ref it) u) Q E s:=by
 unfold letOwnedTupleGo
 cases tg <;> first
  | exact Xbl hQ
  | (cases u <;> first
   | exact Xbl hQ
   | (refine Xbk (wpAny_load ho ?_)
      rw [hc,hd]
      show wpAny M A (if (["enumerate", "zip", "dict_itemiterator", "dict_reverseitemiterator", "odict_iterator", "itertools.zip_longest", "itertools.pairwise"].contains n && vs[0]? == some (rawInt _))=true then _ else _) Q E s
      rw [Xbd (by intro h;rw [hn,Bool.false_and] at h;cases h)]
      exact Xbl hQ))
def Itl (K:XFg) (a:Addr):It :=
 ⟨fun i H=>∃ xs x,SqL K H a xs/\xs[i]?=some x,fun i H x H'=>H'=H/\∀ xs,SqL K H a xs->xs[i]?=some x,fun i H=>∃ xs,SqL K H a xs/\xs.length<=i⟩
def Itr (lo:Int) (n:Nat):It:=⟨fun i _=>i<n,fun i H x H'=>H'=H/\x=.int (lo+i),fun i _=>n<=i⟩
theorem Zjh {K:XFg}(a it:Addr):Turn P w K tg (Itl K a) [it] it (fun i h=>h.IsListIter it a i) where
 mem:=by simp
 obj:=fun i h st b hb=>by
  have e:b=it:=by simpa using hb
  subst e;obtain ⟨o,e,c,d⟩:=st;exact ⟨o,e,fun v z=>by rw [d] at z;cases z⟩
 keep:=fun i h h' st k=>st.at fun o e=>k it (by simp) o e
 item:=by
  intro X hP hw hK hc i pins s σ H E I hf st hg;subst hP hw hK;obtain ⟨xs,x,hq,hx⟩:=hg;obtain ⟨its,rv,p,hz⟩:=I.list hq;obtain ⟨u,hu,ru⟩:=rv.get hx;obtain ⟨f0,f1,f2,f3,f4,f5⟩:=hf it (by simp);refine wpAny_pyNext_list_item st p.isList (x:=u) (by simpa using hu) fun h' st' sb=>?_;have I1:Inv X pins σ H { s with heap:=h' }:=I.turned (t':=s.toks) (fun b o hb e=>(sb.2 b hb).trans e) f0 f1 f3 f4 f5;obtain ⟨o,e,c,d⟩:=id st';exact ⟨u,rfl,go_of (s:={ s with heap:=h' }) e c d (by decide) ⟨x,H,I1,ru,⟨rfl,fun ys hy=>by rw [I.list_inj hy hq];exact hx⟩,st',fun b hb=>(hf b hb).1⟩⟩
 done:=by
  intro X hP hw hK hc i pins s σ H E I hf st hg;subst hP hw hK;obtain ⟨xs,hq,hx⟩:=hg;obtain ⟨its,rv,p,hz⟩:=I.list hq;obtain ⟨f0,f1,f2,f3,f4,f5⟩:=hf it (by simp);have hl:=rv.length;exact wpAny_pyNext_list_end (I.ok.hd hc) st p.isList (by simp;omega) fun h' eb=>⟨rfl,I.turned (t':=s.toks) (fun b o hb e=>eb b o hb e) f0 f1 f3 f4 f5⟩
 self:=fun _ _ _ _ _ st h=>wpAny_pyIter_listiter st h
theorem ZiC {K:XFg}(it:Addr) (lo:Int) (n:Nat):Turn P w K tg (Itr lo n) [it] it (fun i h=>IsRangeIter h it (lo+(i:Nat) * 1) ((n:Int) - (i:Nat)) 1) where
 mem:=by simp
 obj:=fun i h st b hb=>by
  have e:b=it:=by simpa using hb
  subst e
  exact ⟨_,st,fun v z=>by
   have z':Data.fields _=Data.cell v:=z
   cases z'⟩
 keep:=fun i h h' st k=>k it (by simp) _ st
 item:=by
  intro X hP hw hK hc i pins s σ H E I hf st hg;subst hP hw hK;obtain ⟨f0,f1,f2,f3,f4,f5⟩:=hf it (by simp);have W:=Walks.range (prog:=X.prog) (w:=X.w) (I.ok.hd hc) it lo 1 n;refine W.item i s _ _ hg st fun v h' tk hv st' kk=>?_;obtain ⟨t,rfl⟩:=hv;have I1:Inv X pins σ H { s with heap:=h',toks:=tk }:=I.turned (fun b o hb e=>kk b o (by simpa using hb) e) f0 f1 f3 f4 f5
  refine ⟨_,rfl,go_of (s:={ s with heap:=h',toks:=tk }) (n := "range_iterator") st' rfl rfl (by decide) ⟨.int (lo+i),H,I1,⟨t,?_⟩,⟨rfl,rfl⟩,st',fun b hb=>(hf b hb).1⟩⟩
  rw [Int.mul_one]
 done:=by
  intro X hP hw hK hc i pins s σ H E I hf st hg;subst hP hw hK;obtain ⟨f0,f1,f2,f3,f4,f5⟩:=hf it (by simp);exact wpAny_pyNext_range_end (I.ok.hd hc) st (by have:n<=i:=hg;omega) fun h' eb=>⟨rfl,I.turned (t':=s.toks) (fun b o hb e=>eb b o hb e) f0 f1 f3 f4 f5⟩
 self:=fun _ _ _ _ _ st h=>wpAny_pyIter_rangeiter st h
section
variable {X:Cx} {tg:Expr}
def iList (K:XFg) (tl:TE):TI:=fun σ H R=>tl σ H fun x H1=>∃ a,x=.ref a/\(∃ xs,SqL K H1 a xs)/\R (Itl K a) H1
theorem ZaM {l:Expr}{tl:TE} (hl:PE X l tl):PI X tg l (iList X.K tl):=by
 intro pins s σ H R I h;refine thn (hl pins s σ H _ I h) fun v s1 ⟨x,H1,I1,r1,q1⟩=>?_;obtain ⟨a,e,⟨xs,hq⟩,q⟩:=q1;subst e;cases r1;obtain ⟨its,rv,p,hz⟩:=I1.list hq;refine wpAny_pyIter_list p.isList ?_;refine ⟨s1.heap.objs.size,[s1.heap.objs.size],_,_,H1,rfl,I1.kept (t':=s1.toks) fun b o e=>Xbo _ e,Zjh a _,⟨_,Xbq _ rfl,rfl,rfl⟩,fun b hb=>?_,q⟩
 have e:b=s1.heap.objs.size:=by simpa using hb
 subst e;exact I1.fpOk (XaW _) (I1.hok.fresh (XaW _))
theorem ZhV {R:It->Hp->Prop} {lo hi:Int} {t u v:Tok} {tk:Nat} (I:Inv X pins σ H s) (h1:-(2 ^ 62)<=lo) (h2:lo<2 ^ 62) (h3:-(2 ^ 62)<=hi) (h4:hi<2 ^ 62)
 (q:R (Itr lo (hi - lo).toNat) H):wpAny (model X.prog X.w) X.A (pyIter (.ref s.heap.objs.size)) (PIE X pins σ tg R) E { s with heap:=s.heap.push { cls:=.type "range",data:=.fields #[.int lo t,.int hi u,.int 1 v] },toks:=tk }:=by
 refine wpAny_pyIter_range (IsRange.new ..) (small_one h1 h2 h3 h4) ?_
 have I1:Inv X pins σ H { s with heap:=s.heap.push { cls:=.type "range",data:=.fields #[.int lo t,.int hi u,.int 1 v] },toks:=tk }:=I.kept fun b o e=>Xbo _ e
 refine ⟨(s.heap.push { cls:=.type "range",data:=.fields #[.int lo t,.int hi u,.int 1 v] }).objs.size,[(s.heap.push { cls:=.type "range",data:=.fields #[.int lo t,.int hi u,.int 1 v] }).objs.size],_,_,H,rfl,
  I1.kept (t':=tk) fun b o e=>Xbo _ e,ZiC _ lo (hi - lo).toNat,?_,fun b hb=>?_,q⟩
 . have e1:lo+((0:Nat):Int) * 1=lo:=by simp
   have e2:(((hi - lo).toNat:Nat):Int) - ((0:Nat):Int)=Builtin.Range.rangeSize lo hi 1:=by rw [rangeSize_one];split <;> omega
   show IsRangeIter _ _ (lo+((0:Nat):Int) * 1) ((((hi - lo).toNat:Nat):Int) - ((0:Nat):Int)) 1;rw [e1,e2];exact Xbq _ rfl
 . have e:b=(s.heap.push { cls:=.type "range",data:=.fields #[.int lo t,.int hi u,.int 1 v] }).objs.size:=by simpa using hb
   subst e;exact I1.fpOk (XaW _) (I1.hok.fresh (XaW _))
def iRng1 (ta:TA):TI:=fun σ H R=>ta σ H fun vs H1=>∃ j:Int,vs=[.int j]/\-(2 ^ 62)<=j/\j<2 ^ 62/\R (Itr 0 j.toNat) H1
def iRng2 (ta:TA):TI:=fun σ H R=>ta σ H fun vs H1=>∃ i j:Int,vs=[.int i,.int j]/\(-(2 ^ 62)<=i/\i<2 ^ 62/\-(2 ^ 62)<=j/\j<2 ^ 62)/\R (Itr i (j - i).toNat) H1
variable {pos:Pos}
theorem Za9 {a:Expr}{ta:TA}{p:Pos} (hg:Gl X "range") (hm:X.mg "range" = none) (ha:PA X [a] ta) (hs:starEach [a] X.env=[(false,eval a X.env)]:=by rfl):PI X tg (.Call (.Name "range" p) [a] [] pos) (iRng1 ta):=by
 intro pins s σ H R I h;refine Call_ (Zc9 I hg hm boot_range (PyProof.Rows.callWith_type1 (thn (ha pos pins s σ H _ I h) fun us s1 ⟨vs,H1,I1,r1,q1⟩=>?_) hs rfl));obtain ⟨j,e,q1,q2,q⟩:=q1;subst e
 cases r1 with
 | cons r rr =>
   cases rr;obtain ⟨t,rfl⟩:=r;exact call_range_1 (ZhV I1 (by omega) (by omega) q1 q2 (by simpa using q))
theorem Zji {a b:Expr}{ta:TA}{p:Pos} (hg:Gl X "range") (hm:X.mg "range" = none) (ha:PA X [a,b] ta) (hs:starEach [a,b] X.env=[(false,eval a X.env),(false,eval b X.env)]:=by rfl) (hs2:starEach [b] X.env=[(false,eval b X.env)]:=by rfl) :
 PI X tg (.Call (.Name "range" p) [a,b] [] pos) (iRng2 ta):=by
 intro pins s σ H R I h;refine Call_ (Zc9 I hg hm boot_range (PyProof.Rows.callWith_type1 (thn (ha pos pins s σ H _ I h) fun us s1 ⟨vs,H1,I1,r1,q1⟩=>?_) (by rw [hs,hs2]) (by rw [hs2];rfl)));obtain ⟨i,j,e,⟨q1,q2,q3,q4⟩,q⟩:=q1;subst e
 cases r1 with
 | cons r rr =>
   cases rr with
   | cons r' rr =>
     cases rr;obtain ⟨t,rfl⟩:=r;obtain ⟨t',rfl⟩:=r';exact call_range_2 (ZhV I1 q1 q2 q3 q4 q)
def tFor (wi:TI) (g:TG) (tb:TS):TS:=fun D σ H=>wi σ H fun J H1=>∃ W:Nat->Nat->St->Hp->Prop,(∃ m,W 0 m σ H1)/\∀ i m σ H,W i m σ H ->
 (J.stop i H/\D.nx σ H)\/(J.go i H/\∃ N:St->Hp->Prop,(∀ σ' H',N σ' H'->∃ m',m' < m/\W (i+1) m' σ' H')/\∀ x H',J.yld i H x H'->g x σ H' fun σ2 H2=>tb { D with nx:=N,ct:=N,bk:=D.nx } σ2 H2)
def Zgt (fp:List Addr) (h:Heap):List (Addr×Obj):=fp.filterMap fun b=>(h.get? b).map fun o=>(b,o)
variable {fp:List Addr}
theorem Zc0 {o:Obj} (hb:b∈fp) (e:h.get? b=some o):(b,o)∈Zgt fp h:=List.mem_filterMap.mpr ⟨b,hb,by rw [e];rfl⟩
theorem Zjj {p:Addr×Obj} (hp:p∈Zgt fp h):p.1∈fp/\h.get? p.1=some p.2:=by
 obtain ⟨b,hb,e⟩:=List.mem_filterMap.mp hp
 cases q:h.get? b with
 | none=>rw [q] at e;cases e
 | some o =>
   rw [q] at e;have e':(b,o)=p:=Xbc e;subst e';exact ⟨hb,q⟩
theorem Inv.pinned (I:Inv X pins σ H s) (hf:∀ b∈fp,FpOk X pins H b) (ho:∀ b∈fp,∃ o,s.heap.get? b=some o/\∀ v,o.data≠.cell v):Inv X (pins++Zgt fp s.heap) σ H s :=
 I.pins_of fun p hp=>(Xaf.mp hp).elim (fun z=>I.pin p (Xan _ z)) fun z=>by
  obtain ⟨hb,e⟩:=Zjj z;obtain ⟨f0,f1,f2,_⟩:=hf p.1 hb;obtain ⟨o,e',d⟩:=ho p.1 hb;rw [e] at e';cases e';exact ⟨e,f0,f1,f2,d⟩
theorem Inv.unpinned {pl:List (Addr×Obj)} (I:Inv X (pins++pl) σ H s):Inv X pins σ H s:=I.pins_of fun p hp=>I.pin p (Xan _ (XaA _ hp))
theorem ZaQ {iter:Expr}{body:List Stmt}{wi:TI}{g:TG}{tb:TS}(hp:PassesOwn (model X.prog X.w) X.A X.env X.xe) (hc:X.calm=true) (hi:PI X tg iter wi) (hg:PG X tg g) (hb:PSs X body tb)
 (hs:∀ x,foldedSetIterable iter X.env x=pure x:=by intro _;rfl):PS X (.For tg iter body [] pos) (tFor wi g tb):=by
 intro pins s σ H D I h;refine wpAny_For (thn (hi pins s σ H _ I h) fun v s1 h1=>thn h1 fun itv s2 h2=>?_) hs;obtain ⟨it,fp,tn,J,H2,e,I2,T,st2,f2,W,⟨m0,w0⟩,turn⟩:=h2;subst e;have stat:∀ {H':Hp},(∀ b∈fp,H' b=none)->∀ b∈fp,FpOk X pins H' b:=fun hn b hb=>⟨hn b hb,(f2 b hb).2⟩;refine codeAny_forLoop_any (fun n s'=>∃ i σ' H',Inv X pins σ' H' s'/\tn i s'.heap/\(∀ b∈fp,H' b=none)/\W i n σ' H') ?_ m0 ⟨0,σ,H2,I2,st2,fun b hb=>(f2 b hb).1,w0⟩;rintro n s3 ⟨i,σ3,H3,I3,st3,fr3,w3⟩
 rcases turn i n σ3 H3 w3 with ⟨stop,qn⟩ | ⟨go,N,hN,step⟩
 . refine wpAny_passesOwn hp (thn (T.done X rfl rfl rfl hc i pins s3 σ3 H3 X.xe I3 (stat fr3) st3 stop) fun r s4 ⟨hr,I4⟩=>?_)
   subst hr;exact wpAny_execs_nil ⟨σ3,H3,I4,qn⟩
 . refine wpAny_passesOwn hp (thn (T.item X rfl rfl rfl hc i pins s3 σ3 H3 X.xe I3 (stat fr3) st3 go) fun r s4 ⟨u,hr,h4⟩=>?_)
   subst hr;refine wpAny_passesOwn hp (thn h4 fun _ s5 ⟨x,H5,I5,r5,y5,st5,fr5⟩=>?_);have I5':=I5.pinned (stat fr5) (T.obj _ _ st5);refine wpAny_passesOwn hp (thn (hg _ s5 σ3 H5 x u _ I5' r5 (step x H5 y5)) fun _ s6 ⟨σ6,H6,I6,q6⟩=>?_);refine wpAny_passesOwn hp (thn (hb _ s6 σ6 H6 _ I6 q6) fun f s7 q7=>?_)
   have again:∀ {σ7:St} {H7:Hp},Inv X (pins++Zgt fp s5.heap) σ7 H7 s7->N σ7 H7->∃ m,m<n/\∃ i σ' H',Inv X pins σ' H' s7/\tn i s7.heap/\(∀ b∈fp,H' b=none)/\W i m σ' H':=fun {σ7 H7} I7 n7=>by
    obtain ⟨m',hm,w7⟩:=hN σ7 H7 n7;refine ⟨m',hm,i+1,σ7,H7,I7.unpinned,T.keep _ _ _ st5 fun b hb o e=>(I7.pin (b,o) (Xan _ (Xan _ (Zc0 hb e)))).1,fun b hb=>?_,w7⟩;obtain ⟨o,e,d⟩:=T.obj _ _ st5 b hb;exact (I7.pin (b,o) (Xan _ (Xan _ (Zc0 hb e)))).2.1
   cases f with
   | next=>obtain ⟨σ7,H7,I7,n7⟩:=q7;exact again I7 n7
   | cont=>obtain ⟨σ7,H7,I7,n7⟩:=q7;exact again I7 n7
   | brk=>obtain ⟨σ7,H7,I7,q7⟩:=q7;exact ⟨σ7,H7,I7.unpinned,q7⟩
   | ret v=>obtain ⟨x7,σ7,H7,I7,r7,q7⟩:=q7;exact ⟨x7,σ7,H7,I7.unpinned,r7,q7⟩
end
theorem Za2 {K:XFg}{xs:List V}{g:TG}{tb:TS}{D:Ends}(Pv:Nat->St->Hp->Prop) (h0:Pv 0 σ H) (hl:∀ i σ H,i<=xs.length->Pv i σ H->SqL K H a xs)
 (hs:∀ i x σ H,xs[i]?=some x->Pv i σ H->g x σ H fun σ2 H2=>tb { D with nx:=Pv (i+1),ct:=Pv (i+1),bk:=D.nx } σ2 H2) (hd:∀ σ H,Pv xs.length σ H->D.nx σ H) :
 ∃ W:Nat->Nat->St->Hp->Prop,(∃ m,W 0 m σ H)/\∀ i m σ H,W i m σ H ->
  ((Itl K a).stop i H/\D.nx σ H)\/((Itl K a).go i H/\∃ N:St->Hp->Prop,(∀ σ' H',N σ' H'->∃ m',m' < m/\W (i+1) m' σ' H')/\∀ x H',(Itl K a).yld i H x H'->g x σ H' fun σ2 H2=>tb { D with nx:=N,ct:=N,bk:=D.nx } σ2 H2):=by
 refine ⟨fun i m σ H=>m=xs.length - i/\i<=xs.length/\Pv i σ H,⟨xs.length,by simp,Xa0 _,h0⟩,?_⟩;rintro i m σ H ⟨rfl,hi,p⟩;have q:=hl i σ H hi p
 by_cases hlt:i<xs.length
 . refine .inr ⟨⟨xs,xs[i],q,by simp [hlt]⟩,Pv (i+1),fun σ' H' p'=>⟨xs.length - (i+1),by omega,rfl,hlt,p'⟩,fun x H' y=>?_⟩
   obtain ⟨e,y⟩:=y;subst e;exact hs i x σ _ (y xs q) p
 . have e:i=xs.length:=by omega
   subst e;exact .inl ⟨⟨xs,q,XaW _⟩,hd σ H p⟩
theorem ZbO {lo:Int}{n:Nat}{g:TG}{tb:TS}{D:Ends}(Pv:Nat->St->Hp->Prop) (h0:Pv 0 σ H)
 (hs:∀ i σ H,i<n->Pv i σ H->g (.int (lo+i)) σ H fun σ2 H2=>tb { D with nx:=Pv (i+1),ct:=Pv (i+1),bk:=D.nx } σ2 H2) (hd:∀ σ H,Pv n σ H->D.nx σ H) :
 ∃ W:Nat->Nat->St->Hp->Prop,(∃ m,W 0 m σ H)/\∀ i m σ H,W i m σ H ->
  ((Itr lo n).stop i H/\D.nx σ H)\/((Itr lo n).go i H/\∃ N:St->Hp->Prop,(∀ σ' H',N σ' H'->∃ m',m' < m/\W (i+1) m' σ' H')/\∀ x H',(Itr lo n).yld i H x H'->g x σ H' fun σ2 H2=>tb { D with nx:=N,ct:=N,bk:=D.nx } σ2 H2):=by
 refine ⟨fun i m σ H=>m=n - i/\i<=n/\Pv i σ H,⟨n,by simp,Xa0 _,h0⟩,?_⟩;rintro i m σ H ⟨rfl,hi,p⟩
 by_cases hlt:i<n
 . refine .inr ⟨hlt,Pv (i+1),fun σ' H' p'=>⟨n - (i+1),by omega,rfl,hlt,p'⟩,fun x H' y=>?_⟩
   obtain ⟨e,y⟩:=y;subst e y;exact hs i σ _ hlt p
 . have e:i=n:=by omega
   subst e;exact .inl ⟨XaW _,hd σ H p⟩
abbrev R2:=V->V->Hp->VK->Prop
def OpR (X:Cx) (f:Value->Value->Sem Value) (r:R2):Prop :=
 ∀ (pins:List (Addr×Obj)) (s:Shared) (σ:St) (H:Hp) (x y:V) (v u:Value) (Q:VK),Inv X pins σ H s->RelV x v->RelV y u->r x y H Q ->
  wpAny (model X.prog X.w) X.A (f v u) (EP X pins σ Q) X.xe s
def UnR (X:Cx) (f:Value->Sem Value) (r:V->Hp->VK->Prop):Prop :=
 ∀ (pins:List (Addr×Obj)) (s:Shared) (σ:St) (H:Hp) (x:V) (v:Value) (Q:VK),Inv X pins σ H s->RelV x v->r x H Q ->
  wpAny (model X.prog X.w) X.A (f v) (EP X pins σ Q) X.xe s
def CallR (X:Cx) (f:Value) (r:List V->Hp->VK->Prop):Prop :=
 ∀ (pins:List (Addr×Obj)) (s:Shared) (σ:St) (H:Hp) (xs:List V) (us:List Value) (Q:VK),Inv X pins σ H s->Vals xs us->r xs H Q ->
  wpAny (model X.prog X.w) X.A (call f us) (EP X pins σ Q) X.xe s
def tOp (r:R2) (ta tb:TE):TE:=fun σ H Q=>ta σ H fun x H1=>tb σ H1 fun y H2=>r x y H2 Q
def tUn (r:V->Hp->VK->Prop) (ta:TE):TE:=fun σ H Q=>ta σ H fun x H1=>r x H1 Q
def rI (C:Int->Int->Prop) (g:Int->Int->V):R2:=fun x y H Q=>∃ i j,x=.int i/\y=.int j/\C i j/\Q (g i j) H
def rI0 (g:Int->Int->V):R2:=fun x y H Q=>∃ i j,x=.int i/\y=.int j/\Q (g i j) H
def rU (g:Int->V):V->Hp->VK->Prop:=fun x H Q=>∃ i,x=.int i/\Q (g i) H
section
variable {X:Cx} {a b c:Expr} {ta tb tc:TE} {pos:Pos}
variable {f:Value->Value->Sem Value}
theorem binT (ha:PE X a ta) (hb:PE X b tb) {R:V->V->Hp->Prop} (I:Inv X pins σ H s)
 (h:ta σ H fun x H1=>tb σ H1 fun y H2=>R x y H2) {Q:Value->Shared->Prop} (hf:∀ v u s2 x y H2,Inv X pins σ H2 s2->RelV x v->RelV y u->R x y H2->wpAny (model X.prog X.w) X.A (f v u) Q X.xe s2) :
 wpAny (model X.prog X.w) X.A (eval a X.env) (fun v s₁=>wpAny (model X.prog X.w) X.A (eval b X.env) (fun u s₂=>wpAny (model X.prog X.w) X.A (f v u) Q X.xe s₂) X.xe s₁) X.xe s:=by
 refine thn (ha pins s σ H _ I h) fun v s1 ⟨x,H1,I1,r1,q1⟩=>?_;refine thn (hb pins s1 σ H1 _ I1 q1) fun u s2 ⟨y,H2,I2,r2,q2⟩=>?_;exact hf v u s2 x y H2 I2 r1 r2 q2
theorem Zau {op:Operator}{r:R2} (ho:OpR X (binaryOp op) r) (ha:PE X a ta) (hb:PE X b tb):PE X (.BinOp a op b pos) (tOp r ta tb):=by
 intro pins s σ H Q I h;exact wpAny_BinOp (binT ha hb I h fun v u s2 x y H2 I2 rx ry q=>ho pins s2 σ H2 x y v u Q I2 rx ry q)
theorem Zhq {op:UnaryOp}{r:V->Hp->VK->Prop} (ho:UnR X (unaryOp op) r) (ha:PE X a ta):PE X (.UnaryOp op a pos) (tUn r ta):=by
 intro pins s σ H Q I h;exact UnaryOp_ (thn (ha pins s σ H _ I h) fun v s1 ⟨x,H1,I1,r1,q1⟩=>ho pins s1 σ H1 x v Q I1 r1 q1)
theorem opI {C:Int->Int->Prop}{g:Int->Int->Int}
 (rule:∀ (i j:Int) (t u:Tok) (s:Shared) (Q:Value->Shared->Prop) (E:Value->Shared->Prop),C i j->Q (.int (g i j) s.toks) { s with toks:=s.toks+1 }->wpAny (model X.prog X.w) X.A (f (.int i t) (.int j u)) Q E s) :
 OpR X f (rI C fun i j=>.int (g i j)):=by
 intro pins s σ H x y v u Q I rx ry h;obtain ⟨i,j,rfl,rfl,hc,q⟩:=h;obtain ⟨t,rfl⟩:=rx;obtain ⟨t',rfl⟩:=ry;exact rule i j t t' s _ _ hc ⟨.int (g i j),H,I.tok _,⟨_,rfl⟩,q⟩
theorem opI0 {g:Int->Int->Int}
 (rule:∀ (i j:Int) (t u:Tok) (s:Shared) (Q:Value->Shared->Prop) (E:Value->Shared->Prop),Q (.int (g i j) s.toks) { s with toks:=s.toks+1 }->wpAny (model X.prog X.w) X.A (f (.int i t) (.int j u)) Q E s) :
 OpR X f (rI0 fun i j=>.int (g i j)):=by
 intro pins s σ H x y v u Q I rx ry h;obtain ⟨i,j,rfl,rfl,q⟩:=h;obtain ⟨t,rfl⟩:=rx;obtain ⟨t',rfl⟩:=ry;exact rule i j t t' s _ _ ⟨.int (g i j),H,I.tok _,⟨_,rfl⟩,q⟩
theorem opB0 {g:Int->Int->Bool}
 (rule:∀ (i j:Int) (t u:Tok) (s:Shared) (Q:Value->Shared->Prop) (E:Value->Shared->Prop),Q (.bool (g i j)) s->wpAny (model X.prog X.w) X.A (f (.int i t) (.int j u)) Q E s) :
 OpR X f (rI0 fun i j=>.bl (g i j)):=by
 intro pins s σ H x y v u Q I rx ry h;obtain ⟨i,j,rfl,rfl,q⟩:=h;obtain ⟨t,rfl⟩:=rx;obtain ⟨t',rfl⟩:=ry;exact rule i j t t' s _ _ ⟨.bl (g i j),H,I,rfl,q⟩
def CDiv (i j:Int):Prop:=0<j/\j<1073741824
def CPow (i j:Int):Prop:=0<=j/\j<=1000000/\i.natAbs<2 ^ 64
def CMul (i j:Int):Prop:=(-(2 ^ 64)<i/\i<2 ^ 64)\/(-(2 ^ 64)<j/\j<2 ^ 64)
theorem CMul.ok {i j:Int} (h:CMul i j):IntMulOk i j:=by
 rcases h with ⟨h1,h2⟩ | ⟨h1,h2⟩
 . exact .of_left (intBits_le_64 h1 h2)
 . exact .of_right (intBits_le_64 h1 h2)
theorem ZiD (k:Nat):(0:Int)<=2 ^ k:=by
 rw [two_pow_cast];exact Int.natCast_nonneg _
theorem Zb6:OpR X (binaryOp .Add) (rI0 fun i j=>.int (i+j)):=opI0 fun _ _ _ _ _ _ _ q=>add_int q
theorem op_sub:OpR X (binaryOp .Sub) (rI0 fun i j=>.int (i - j)):=opI0 fun _ _ _ _ _ _ _ q=>sub_int q
theorem ZbV:OpR X (binaryOp .Mult) (rI CMul fun i j=>.int (i * j)):=opI fun _ _ _ _ _ _ _ hc q=>mul_int q hc.ok
theorem Zbp:OpR X (binaryOp .FloorDiv) (rI CDiv fun i j=>.int (i / j)):=opI fun i j _ _ _ _ _ hc q=>by
 have h1:(0:Int)<j:=hc.1;have h2:j<1073741824:=hc.2;exact floordiv_int (by omega) (by rw [Int.fdiv_eq_ediv_of_nonneg i (by omega)];exact q) (.inl (PyProof.noPylong_small (by omega)))
theorem ZaP:OpR X (binaryOp .Mod) (rI (fun _ j=>0<j) fun i j=>.int (i % j)):=opI fun i j _ _ _ _ _ hc q=>by
 have h1:(0:Int)<j:=hc;exact mod_int' (by omega) (by rw [Int.fmod_eq_emod_of_nonneg i (by omega)];exact q)
theorem op_shl:OpR X (binaryOp .LShift) (rI CPow fun i j=>.int (i * 2 ^ j.toNat)):=opI fun _ _ _ _ _ _ _ hc q=>lshift_int_small hc.1 hc.2.1 hc.2.2 q
theorem op_shr:OpR X (binaryOp .RShift) (rI (fun _ j=>0<=j) fun i j=>.int (i / 2 ^ j.toNat)):=opI fun i j _ _ _ _ _ hc q =>
 rshift_int hc (by rw [Int.fdiv_eq_ediv_of_nonneg i (ZiD _)];exact q)
theorem op_or:OpR X (binaryOp .BitOr) (rI0 fun i j=>.int (Builtin.bitOr i j)):=opI0 fun _ _ _ _ _ _ _ q=>or_int q
theorem iop_add:OpR X (inplaceOp .Add) (rI0 fun i j=>.int (i+j)):=opI0 fun _ _ _ _ _ _ _ q=>iadd_int q
theorem unI {f:Value->Sem Value}{g:Int->Int}
 (rule:∀ (i:Int) (t:Tok) (s:Shared) (Q:Value->Shared->Prop) (E:Value->Shared->Prop),Q (.int (g i) s.toks) { s with toks:=s.toks+1 }->wpAny (model X.prog X.w) X.A (f (.int i t)) Q E s) :
 UnR X f (rU fun i=>.int (g i)):=by
 intro pins s σ H x v Q I rx h;obtain ⟨i,rfl,q⟩:=h;obtain ⟨t,rfl⟩:=rx;exact rule i t s _ _ ⟨.int (g i),H,I.tok _,⟨_,rfl⟩,q⟩
theorem Zep:UnR X (unaryOp .USub) (rU fun i=>.int (-i)):=unI fun _ _ _ _ _ q=>neg_int q
end
def scal:V->V->Bool
 | .non,.non=>true | .non,.int _=>true | .int _,.non=>true | .non,.bl _=>true | .bl _,.non=>true | .non,.str _=>true | .str _,.non=>true
 | .int _,.int _=>true | .bl _,.bl _=>true | .str _,.str _=>true | .byt _,.byt _=>true
 | .int _,.str _=>true | .str _,.int _=>true | .bl _,.str _=>true | .str _,.bl _=>true
 | _,_=>false
def rEq:R2:=fun x y H Q=>scal x y=true/\Q (.bl (decide (x=y))) H
def rNe:R2:=fun x y H Q=>scal x y=true/\Q (.bl (!decide (x=y))) H
theorem Zjk {i j:Int}:decide (V.int i=V.int j)=(i == j):=by
 rw [Bool.eq_iff_iff]
 simp
theorem dec_bl {i j:Bool}:decide (V.bl i=V.bl j)=(i == j):=by
 rw [Bool.eq_iff_iff]
 simp
theorem Zjl {i j:Str}:decide (V.str i=V.str j)=(i == j):=by
 rw [Bool.eq_iff_iff]
 simp
theorem Zjm {i j:Array UInt8}:decide (V.byt i=V.byt j)=(i.toList == j.toList):=by
 rw [Bool.eq_iff_iff];cases i;cases j
 simp
section
variable {X:Cx} {a b c:Expr} {ta tb tc:TE} {pos:Pos}
theorem ZaR {Q:VK} {k k':Bool} (I:Inv X pins σ H s) (q:Q (.bl k) H) (e:k=k'):EP X pins σ Q (.bool k') s:=by
 subst e;exact ⟨.bl k,H,I,rfl,q⟩
theorem Zbq:OpR X (compareOp .Eq) rEq:=by
 intro pins s σ H x y v u Q I rx ry h;obtain ⟨hs,q⟩:=h
 cases x with
 | non =>
   cases rx
   cases y with
   | non=>cases ry;exact PySem.EqNone.eq_none_none (ZaR I q (by simp))
   | bl j=>cases ry;exact PySem.EqNone.eq_none_bool (ZaR I q (by simp))
   | int j=>obtain ⟨t',rfl⟩:=ry;exact PySem.EqNone.eq_none_int (ZaR I q (by simp))
   | str j=>obtain ⟨t',rfl⟩:=ry;exact PySem.EqNone.eq_none_str (ZaR I q (by simp))
   | _=>exact absurd (show false=true from hs) Xbb
 | bl i =>
   cases rx
   cases y with
   | non=>cases ry;exact PySem.EqNone.eq_bool_none (ZaR I q (by simp))
   | bl j=>cases ry;exact eq_bool (ZaR I q dec_bl)
   | str j=>obtain ⟨t',rfl⟩:=ry;exact PySem.EqMixed.eq_bool_str (ZaR I q (by simp))
   | _=>exact absurd (show false=true from hs) Xbb
 | int i =>
   obtain ⟨t,rfl⟩:=rx
   cases y with
   | non=>cases ry;exact PySem.EqNone.eq_int_none (ZaR I q (by simp))
   | int j=>obtain ⟨t',rfl⟩:=ry;exact eq_int (ZaR I q Zjk)
   | str j=>obtain ⟨t',rfl⟩:=ry;exact PySem.EqMixed.eq_int_str (ZaR I q (by simp))
   | _=>exact absurd (show false=true from hs) Xbb
 | str i =>
   obtain ⟨t,rfl⟩:=rx
   cases y with
   | non=>cases ry;exact PySem.EqNone.eq_str_none (ZaR I q (by simp))
   | bl j=>cases ry;exact PySem.EqMixed.eq_str_bool (ZaR I q (by simp))
   | int j=>obtain ⟨t',rfl⟩:=ry;exact PySem.EqMixed.eq_str_int (ZaR I q (by simp))
   | str j=>obtain ⟨t',rfl⟩:=ry;exact eq_str (ZaR I q Zjl)
   | _=>exact absurd (show false=true from hs) Xbb
 | byt i =>
   obtain ⟨t,rfl⟩:=rx
   cases y with
   | byt j=>obtain ⟨t',rfl⟩:=ry;exact PySem.W.eq_bytes (ZaR I q Zjm)
   | _=>exact absurd (show false=true from hs) Xbb
 | _=>cases y <;> exact absurd (show false=true from hs) Xbb
theorem op_ne:OpR X (compareOp .NotEq) rNe:=by
 intro pins s σ H x y v u Q I rx ry h;obtain ⟨hs,q⟩:=h
 cases x with
 | non =>
   cases rx
   cases y with
   | non=>cases ry;exact PySem.EqNone.ne_none_none (ZaR I q (by simp))
   | bl j=>cases ry;exact PySem.EqNone.ne_none_bool (ZaR I q (by simp))
   | int j=>obtain ⟨t',rfl⟩:=ry;exact PySem.EqNone.ne_none_int (ZaR I q (by simp))
   | str j=>obtain ⟨t',rfl⟩:=ry;exact PySem.EqNone.ne_none_str (ZaR I q (by simp))
   | _=>exact absurd (show false=true from hs) Xbb
 | bl i =>
   cases rx
   cases y with
   | non=>cases ry;exact PySem.EqNone.ne_bool_none (ZaR I q (by simp))
   | bl j=>cases ry;exact ne_bool (ZaR I q (Xbj not dec_bl))
   | str j=>obtain ⟨t',rfl⟩:=ry;exact PySem.EqMixed.ne_bool_str (ZaR I q (by simp))
   | _=>exact absurd (show false=true from hs) Xbb
 | int i =>
   obtain ⟨t,rfl⟩:=rx
   cases y with
   | non=>cases ry;exact PySem.EqNone.ne_int_none (ZaR I q (by simp))
   | int j=>obtain ⟨t',rfl⟩:=ry;exact ne_int (ZaR I q (Xbj not Zjk))
   | str j=>obtain ⟨t',rfl⟩:=ry;exact PySem.EqMixed.ne_int_str (ZaR I q (by simp))
   | _=>exact absurd (show false=true from hs) Xbb
 | str i =>
   obtain ⟨t,rfl⟩:=rx
   cases y with
   | non=>cases ry;exact PySem.EqNone.ne_str_none (ZaR I q (by simp))
   | bl j=>cases ry;exact PySem.EqMixed.ne_str_bool (ZaR I q (by simp))
   | int j=>obtain ⟨t',rfl⟩:=ry;exact PySem.EqMixed.ne_str_int (ZaR I q (by simp))
   | str j=>obtain ⟨t',rfl⟩:=ry;exact ne_str (ZaR I q (Xbj not Zjl))
   | _=>exact absurd (show false=true from hs) Xbb
 | byt i =>
   obtain ⟨t,rfl⟩:=rx
   cases y with
   | byt j=>obtain ⟨t',rfl⟩:=ry;exact PySem.W.ne_bytes (ZaR I q (Xbj not Zjm))
   | _=>exact absurd (show false=true from hs) Xbb
 | _=>cases y <;> exact absurd (show false=true from hs) Xbb
theorem ZiE:OpR X (compareOp .Lt) (rI0 fun i j=>.bl (decide (i<j))):=opB0 fun _ _ _ _ _ _ _ q=>lt_int q
theorem op_gt:OpR X (compareOp .Gt) (rI0 fun i j=>.bl (decide (j<i))):=opB0 fun _ _ _ _ _ _ _ q=>gt_int q
variable {op:CmpOp}
theorem ZaA (b:Expr) (h:op≠.In:=by decide) (h2:op≠.NotIn:=by decide):behindInMarks op b=false:=by
 have e1:(op == CmpOp.In)=false:=by cases op <;> first | rfl | exact absurd rfl h
 have e2:(op == CmpOp.NotIn)=false:=by cases op <;> first | rfl | exact absurd rfl h2
 cases b <;> simp [behindInMarks,e1,e2]
theorem Zb3 {r:R2} (ho:OpR X (compareOp op) r) (ha:PE X a ta) (hb:PE X b tb) (hm:behindInMarks op b=false):PE X (.Compare a [op] [b] pos) (tOp r ta tb):=by
 intro pins s σ H Q I h;exact wpAny_Compare1 (binT ha hb I h fun v u s2 x y H2 I2 rx ry q=>ho pins s2 σ H2 x y v u Q I2 rx ry q) hm
def tTest (t:TE):TT:=fun σ H Q=>t σ H fun x H'=>∃ k,x=.bl k/\Q k H'
theorem Zaw {r:R2} (ho:OpR X (compareOp op) r) (ha:PE X a ta) (hb:PE X b tb) (hm:behindInMarks op b=false):PT X (.Compare a [op] [b] pos) (tTest (tOp r ta tb)):=by
 intro pins s σ H Q I h
 refine wpAny_isTrue_Compare1 (thn (ha pins s σ H _ I h) fun v s1 ⟨x,H1,I1,r1,q1⟩=>thn (hb pins s1 σ H1 _ I1 q1) fun u s2 ⟨y,H2,I2,r2,q2⟩ =>
  thn (ho pins s2 σ H2 x y v u _ I2 r1 r2 q2) fun c s3 ⟨z,H3,I3,r3,k,e,q3⟩=>?_) hm
 subst e;cases r3;exact Xbn ⟨H3,I3,q3⟩
theorem Zgu:(sizeLine:Nat)<2 ^ 63:=by rw [sizeLine_eq];decide
theorem Zfl:OpR X (binaryOp .Add) (fun x y H Q=>∃ i j,x=.str i/\y=.str j/\i.length+j.length<=sizeLine/\Q (.str (i++j)) H):=by
 intro pins s σ H x y v u Q I rx ry h;obtain ⟨i,j,rfl,rfl,hz,q⟩:=h;obtain ⟨t,rfl⟩:=rx;obtain ⟨t',rfl⟩:=ry;exact add_str (fun t' tk=>⟨.str (i++j),H,I.tok _,⟨_,rfl⟩,q⟩) hz
theorem Zdh {us:List Value} (r:Vals [x] us):∃ u,us=[u]/\RelV x u:=by
 cases r with
 | cons r1 r2=>cases r2;exact ⟨_,rfl,r1⟩
theorem Zgv {y:V} {us:List Value} (r:Vals [x,y] us):∃ u w',us=[u,w']/\RelV x u/\RelV y w':=by
 cases r with
 | cons r1 r2 =>
   cases r2 with
   | cons r3 r4=>cases r4;exact ⟨_,_,rfl,r1,r3⟩
theorem Zeq:CallR X (.type "int") (fun xs H Q=>(∃ i,xs=[.int i]/\Q (.int i) H)\/∃ k,xs=[.bl k]/\Q (.int (if k then 1 else 0)) H):=by
 intro pins s σ H xs us Q I r h
 rcases h with ⟨i,rfl,q⟩ | ⟨k,rfl,q⟩
 . obtain ⟨u,rfl,t,rfl⟩:=Zdh r
   exact call_int_int ⟨.int i,H,I,⟨_,rfl⟩,q⟩
 . obtain ⟨u,rfl,r1⟩:=Zdh r
   cases r1;exact call_int_bool ⟨.int (if k then 1 else 0),H,I.tok _,⟨_,rfl⟩,q⟩
def LenV (K:XFg) (x:V) (H:Hp) (n:Nat):Prop :=
 match x with
 | .str y=>y.length<=sizeLine/\n=y.length
 | .byt y=>y.size<=sizeLine/\n=y.size
 | .ref p=>(∃ xs,SqL K H p xs/\n=xs.length)\/∃ xs,SqT K H p xs/\n=xs.length
 | _=>False
theorem Zbm:CallR X (.builtin "len") (fun xs H Q=>∃ x n,xs=[x]/\LenV X.K x H n/\Q (.int n) H):=by
 intro pins s σ H xs us Q I r h;obtain ⟨x,n,rfl,e,q⟩:=h;obtain ⟨u,rfl,rx⟩:=Zdh r;have hl:=Zgu;have hs:sizeLine=16777216:=sizeLine_eq
 cases x with
 | str y =>
   obtain ⟨t,rfl⟩:=rx;obtain ⟨hy,e'⟩:y.length<=sizeLine/\n=y.length:=e;subst e';exact len_str (by omega) ⟨.int _,H,I.tok _,⟨_,rfl⟩,q⟩
 | byt y =>
   obtain ⟨t,rfl⟩:=rx;obtain ⟨hy,e'⟩:y.size<=sizeLine/\n=y.size:=e;subst e';exact PySem.W.len_bytes (by omega) ⟨.int _,H,I.tok _,⟨_,rfl⟩,q⟩
 | ref p =>
   cases rx;have e':(∃ xs,SqL X.K H p xs/\n=xs.length)\/∃ xs,SqT X.K H p xs/\n=xs.length:=e
   rcases e' with ⟨xs,hx,e'⟩ | ⟨xs,hx,e'⟩
   . subst e'
     obtain ⟨its,r',pl,hz⟩:=I.list hx;have hlen:=r'.length;exact Calls.call_len_list pl.isList (by simp only [Xak];omega) ⟨.int xs.length,H,I.tok _,⟨_,by simp only [Xak];rw [hlen]⟩,q⟩
   . subst e'
     obtain ⟨its,r',pl,hz⟩:=I.tuple hx;have hlen:=r'.length;exact len_tuple pl (by simp only [Xak];omega) ⟨.int xs.length,H,I.tok _,⟨_,by simp only [Xak];rw [hlen]⟩,q⟩
 | _=>exact (show False from e).elim
end
section
variable {prog:Program} {w:World} {A:Around} {E:Value->Shared->Prop} {s:Shared} {K:XFg} {x dx C f:Addr} {mA:Str->Option Value} {name:Str} {v:Value}
end
theorem RelO.some_of {v:V}{o:Option Value} (r:RelO (some v) o):∃ u,o=some u/\RelV v u:=by
 cases o with
 | none=>exact (show False from r).elim
 | some u=>exact ⟨u,rfl,r⟩
section
variable {P:Program} {w:World} {H H':Hp} {h h':Heap} {a C dx:Addr} {fs fs':List (Str×V)}
end
section
variable {X:Cx} {pins:List (Addr×Obj)} {σ:St} {H:Hp} {s:Shared} {a C dx:Addr} {fs:List (Str×V)} {f:Str} {v:V} {A:Around} {E:Value->Shared->Prop}
end
section
variable {X:Cx} {o e value:Expr} {f:Str} {pos pos' tpos:Pos} {ta tv:TE}
end
section
variable {X:Cx} {pins:List (Addr×Obj)} {σ:St} {H:Hp} {s:Shared} {A:Around} {E:Value->Shared->Prop} {Q:Value->Shared->Prop} {c:Value} {b:Bool}
end
structure Room (k:Nat) (A:Around):Prop where
 hd:A.handled=none
 dp:A.depth+3 * k+5<recursionLimit
 un:A.units+16 * k+200<cLine
theorem Room.mono {j k:Nat}(r:Room k A) (h:j<=k):Room j A:=⟨r.hd,by have:=r.dp;omega,by have:=r.un;omega⟩
theorem Room.deeper {k:Nat}{A:Around} (r:Room (k+1) A) (env:Env):Room k (A.deeper env) :=
 ⟨r.hd,by have:=r.dp;show A.depth+1+3 * k+5<_;omega,by have:=r.un;show A.units+3+16 * k+200<_;omega⟩
theorem Room.depth {k:Nat}{A:Around} (r:Room k A):A.depth<recursionLimit:=by have:=r.dp;omega
theorem Room.units {k:Nat}{A:Around} (r:Room k A):A.units+64<cLine:=by have:=r.un;omega
def tNil:TA:=fun _ H Q=>Q [] H
def Zgw (ta:TE) (tr:TA):TA:=fun σ H Q=>ta σ H fun x H1=>tr σ H1 fun xs H2=>Q (x :: xs) H2
section
variable {X:Cx} {e:Expr} {es:List Expr} {te:TE} {t:TA} {pos:Pos}
theorem Zac:PA X [] tNil:=fun _ _ _ _ H Q I h=>Calls.spliced_nil ⟨[],H,I,.nil,h⟩
theorem Zaa (ha:PE X e te) (hr:PA X es t) (hs:starEach (e :: es) X.env=(false,eval e X.env) :: starEach es X.env:=by rfl):PA X (e :: es) (Zgw te t):=by
 intro pos pins s σ H Q I h;rw [hs];show wpAny _ _ (spliced ((false,eval e X.env) :: backTo pos (starEach es X.env))) _ _ s;refine Calls.spliced_cons (thn (ha pins s σ H _ I h) fun u s1 ⟨x,H1,I1,r1,q1⟩=>?_);exact thn (hr pos pins s1 σ H1 _ I1 q1) fun us s2 ⟨xs,H2,I2,r2,q2⟩=>⟨x :: xs,H2,I2,.cons r1 r2,q2⟩
def tTup (t:TA):TE:=fun σ H Q=>t σ H fun xs H1=>xs.length<=sizeLine/\∀ p,H1 p=none->Q (.ref p) (upd H1 p (.tup xs))
def tLst (t:TA):TE:=fun σ H Q=>t σ H fun xs H1=>xs.length<=sizeLine/\∀ p,H1 p=none->Q (.ref p) (upd H1 p (.lst xs))
theorem Zat {x1} (h:PA X es t):PE X (.Tuple es x1 pos) (tTup t):=by
 intro pins s σ H Q I hq;refine wpAny_Tuple_spliced (thn (h pos pins s σ H _ I hq) fun us s1 ⟨xs,H1,I1,r,z,q⟩=>⟨by rw [<-r.length];exact z,?_⟩);have hf:H1 s1.heap.objs.size=none:=I1.hok.fresh (XaW _);refine ⟨.ref s1.heap.objs.size,upd H1 s1.heap.objs.size (.tup xs),I1.laid (t':=s1.toks) (fun b u e=>Xbo _ e) (XaW _) ?_,rfl,q _ hf⟩;exact ⟨z,us,r,⟨_,Xbq _ rfl,rfl,_,rfl⟩⟩
theorem ZaJ (h:PA X es t):PE X (.List es pos) (tLst t):=by
 intro pins s σ H Q I hq;refine wpAny_List_spliced (thn (h pos pins s σ H _ I hq) fun us s1 ⟨xs,H1,I1,r,z,q⟩=>⟨by rw [<-r.length];exact z,?_⟩);have hf:H1 s1.heap.objs.size=none:=I1.hok.fresh (XaW _);refine ⟨.ref s1.heap.objs.size,upd H1 s1.heap.objs.size (.lst xs),I1.laid (t':=s1.toks) (fun b u e=>Xbo _ e) (XaW _) ?_,rfl,q _ hf⟩;exact ⟨z,us,0,r,Xbq _ rfl⟩
end
abbrev Sp:=List V->Hp->VK->XK->Prop
abbrev CXT:=List Env->Hp->Shared->XK->Value->Shared->Prop
structure Env0 (P:Program) (w:World) (K:XFg) (mg:Str->Option Value) (base:Heap) (A:Around) (outer:List Env) (s:Shared) (H:Hp):Prop where
 frames:A.frames=some outer
 mod:Mod K mg base
 bs:∀ b o,base.get? b=some o->s.heap.get? b=some o/\H b=none
 bsz:base.objs.size<=s.heap.objs.size
 funs:s.heap.FunFrames base outer
 frf:∀ b∈frs outer,H b=none
 hok:HOk P w H s.heap
 bare:AllBare s.gens
def CE (outer:List Env) (P:Program) (w:World) (H:Hp) (s:Shared) (Q:VK) (u:Value) (s':Shared):Prop :=
 ∃ v H',s'.os=s.os/\AllBare s'.gens/\Un (frs outer) [] H H' s.heap s'.heap/\HOk P w H' s'.heap/\RelV v u/\Q v H'
def CR (CX:CXT) (outer:List Env) (P:Program) (w:World) (H:Hp) (s:Shared) (Q:VK) (E:XK) (r:Result) (s':Shared):Prop :=
 match r with
 | .ok (.ret u)=>CE outer P w H s Q u s'
 | .ok _=>False
 | .error e=>CX outer H s E e s'
structure FnOk (P:Program) (w:World) (K:XFg) (mg:Str->Option Value) (base:Heap) (CX:CXT) (k:Nat) (f:Addr) (fd:FuncData) (ps:List Str) (sp:Sp):Prop where
 len:∀ vs H Q E,sp vs H Q E->vs.length=ps.length
 run:∀ (A:Around) (outer:List Env) (s:Shared) (H:Hp) (args:Args) (us:List Value) (vs:List V) (Q:VK) (E:XK),Room k A->Env0 P w K mg base A outer s H->BindsTo s fd args (ps.zip us)->Vals vs us->sp vs H Q E ->
  codeAny (model P w) A (.call (.ref f) args) (CR CX outer P w H s Q E) s
section
variable {X:Cx} {pins:List (Addr×Obj)} {σ:St} {H:Hp} {s s':Shared}
theorem Inv.env0 (I:Inv X pins σ H s):Env0 X.prog X.w X.K X.mg X.base X.A X.stack s H :=
 ⟨I.ok.frames,I.ok.mod,I.bs,Xbg I.ok.bsz I.sz,I.stack,I.stkFree,I.hok,I.bare⟩
theorem Inv.after {Q:VK}{u:Value} (I:Inv X pins σ H s) (h:CE X.stack X.prog X.w H s Q u s'):EP X pins σ Q u s':=by
 obtain ⟨v,H',os,bare,un,hok,r,q⟩:=h;obtain ⟨hh,g,d,t,os'⟩:=s';obtain rfl:os'=s.os:=os;exact ⟨v,H',I.call (h':=hh) (g':=g) (d':=d) (t':=t) (ch:=[]) un hok bare (fun b z=>absurd z (by simp)),r,q⟩
end
def tCall (sp:Sp) (dvs:List V) (E:XK) (t:TA):TE:=fun σ H Q=>t σ H fun vs H1=>sp (vs++dvs) H1 Q E
def Binds (K:XFg) (fd:FuncData) (ps:List Str) (ds:List Value):Prop :=
 ∀ (s:Shared) (us:List Value),K.In s.heap->(us++ds).length=ps.length->BindsTo s fd ⟨us,[]⟩ (ps.zip (us++ds))
variable {ps:List Str}
theorem Binds.all {K:XFg}{fd:FuncData}(h:∀ us:List Value,us.length=ps.length->bindArgs fd ⟨us,[]⟩=pure (ps.zip us)):Binds K fd ps []:=fun s us _ hl=>by
 rw [XaH] at hl ⊢;exact .of_eq (h us hl)
def Zjn (CX:CXT) (X:Cx) (E:XK):Prop:=∀ (pins:List (Addr×Obj)) (σ:St) (H:Hp) (s:Shared) (e:Value) (s':Shared),Inv X pins σ H s->CX X.stack H s E e s'->X.xe e s'
section
variable {X:Cx} {CX:CXT} {k:Nat} {f C:Addr} {fd:FuncData} {ps:List Str} {sp:Sp} {dvs:List V} {ds:List Value} {E:XK} {x m:Str} {p pos apos:Pos} {e o:Expr} {es:List Expr} {ta:TE} {t:TA}
theorem run_fn {Q:VK} {us:List Value} {vs:List V} (F:FnOk X.prog X.w X.K X.mg X.base CX k f fd ps sp) (hr:Room k X.A) (hb:Binds X.K fd ps ds) (hd:Vals dvs ds) (hx:Zjn CX X E)
 (I:Inv X pins σ H s) (r:Vals vs us) (h:sp (vs++dvs) H Q E):wpAny (model X.prog X.w) X.A (call (.ref f) us) (EP X pins σ Q) X.xe s:=by
 have r2:Vals (vs++dvs) (us++ds):=r.append hd
 have hl:(us++ds).length=ps.length:=by rw [<-r2.length];exact F.len _ _ _ _ h
 refine wpAny_call (codeAny_mono (F.run X.A X.stack s H ⟨us,[]⟩ (us++ds) (vs++dvs) Q E hr I.env0 (hb s us I.kIn hl) r2 h) fun r s' hq=>?_)
 cases r with
 | error e=>exact hx pins σ H s e s' I hq
 | ok fl =>
   cases fl with
   | ret u=>exact I.after hq
   | next=>exact False.elim hq
   | brk=>exact False.elim hq
   | cont=>exact False.elim hq
theorem pe_call (F:FnOk X.prog X.w X.K X.mg X.base CX k f fd ps sp) (hr:Room k X.A) (hg:Gl X x) (hm:X.mg x=some (.ref f)) (hk:PySem.W.keepIn X.K (.ref f)=true) (hb:Binds X.K fd ps ds) (hd:Vals dvs ds) (hx:Zjn CX X E)
 (ha:PA X (e :: es) t) (hdb:(x == ("__debug__" : Str))=false:=by decide) (he:starEach (e :: es) X.env=(false,eval e X.env) :: starEach es X.env:=by rfl) (hpl:(backTo pos (starEach es X.env)).any (·.1)=false:=by rfl) :
 PE X (.Call (.Name x p) (e :: es) [] pos) (tCall sp dvs E t):=by
 intro pins s σ H Q I h;refine wpAny_Call_Name_kw (Zje I hg hm ?_ hdb);refine PySem.W.callWith_K (h₀:=X.base) I.ok.mod.kin hk (thn (ha pos pins s σ H _ I h) fun us s1 ⟨vs,H1,I1,r,q⟩=>⟨I1.kIn,?_⟩) he hpl;exact run_fn F hr hb hd hx I1 r q
end
section
variable {X:Cx} {CX:CXT} {k:Nat} {f C:Addr} {fd:FuncData} {ps ks:List Str} {sp:Sp} {E:XK} {x m:Str} {p pos apos kpos:Pos} {e o:Expr} {es:List Expr} {kws:List Keyword} {te ta:TE} {t tk:TA} {nm:Option Str}
variable {g:List Value->List Value->List Value} {gV:List V->List V->List V}
end
structure FnScope (N P:List Str) (sc:Scope):Prop where
 kind:sc.kind=.function
 co:sc.isCoroutine=false
 gen:sc.isGenerator=false
 nd:N.Nodup
 pre:N.take P.length=P
 par:∀ x∈P,sc.names.lookup x=some .local\/sc.names.lookup x=some .cell
 nofree:∀ y∈sc.names,y.2≠.free
theorem Zgx {kindOf:Str->Option NameKind}{x:Str}:∀ {binds:List (Str×Value)} {m:Str->Option Value},(∀ v,(x,v) ∉ binds)->bindL kindOf binds m x=m x
 | [],_,_=>rfl
 | (n,v) :: r,m,h=>by
   unfold bindL;rw [Zgx fun w hw=>h w (Xap _ hw)]
   split
   . have:x≠n:=by rintro rfl;exact h v Xal
     simp [this]
   . rfl
theorem Zgy {kindOf:Str->Option NameKind}{x:Str}:∀ {binds:List (Str×Value)} {m:Str->Option Value},(∀ v,(x,v) ∉ binds)->bindC kindOf binds m x=m x
 | [],_,_=>rfl
 | (n,v) :: r,m,h=>by
   unfold bindC;rw [Zgy fun w hw=>h w (Xap _ hw)]
   split
   . rfl
   . have:x≠n:=by rintro rfl;exact h v Xal
     simp [this]
theorem Zgz {kindOf:Str->Option NameKind}{x:Str}{v:Value}:∀ {P:List Str}{vs:List Value}{i:Nat}{m:Str->Option Value},P.Nodup->P[i]?=some x->vs[i]?=some v->kindOf x=some .local ->
 bindL kindOf (P.zip vs) m x=some v
 | [],_,_,_,_,h,_,_=>by simp at h
 | _ :: _,[],_,_,_,_,h,_=>by simp at h
 | p :: P,w :: vs,0,m,nd,h1,h2,hk=>by
   simp at h1 h2;subst h1;subst h2;show bindL kindOf ((p,w) :: P.zip vs) m p=_;unfold bindL;rw [Zgx fun v hv=>(XaC.mp nd).1 (List.of_mem_zip hv).1,Xbe hk]
   simp
 | p :: P,w :: vs,i+1,m,nd,h1,h2,hk=>by
   show bindL kindOf ((p,w) :: P.zip vs) m x=_;unfold bindL;exact Zgz (i:=i) (XaC.mp nd).2 (by simpa using h1) (by simpa using h2) hk
theorem ZgA {kindOf:Str->Option NameKind}{x:Str}{v:Value}:∀ {P:List Str}{vs:List Value}{i:Nat}{m:Str->Option Value},P.Nodup->P[i]?=some x->vs[i]?=some v->kindOf x≠some .local ->
 bindC kindOf (P.zip vs) m x=some v
 | [],_,_,_,_,h,_,_=>by simp at h
 | _ :: _,[],_,_,_,_,h,_=>by simp at h
 | p :: P,w :: vs,0,m,nd,h1,h2,hk=>by
   simp at h1 h2;subst h1;subst h2;show bindC kindOf ((p,w) :: P.zip vs) m p=_;unfold bindC;rw [Zgy fun v hv=>(XaC.mp nd).1 (List.of_mem_zip hv).1,Xbd hk]
   simp
 | p :: P,w :: vs,i+1,m,nd,h1,h2,hk=>by
   show bindC kindOf ((p,w) :: P.zip vs) m x=_;unfold bindC;exact ZgA (i:=i) (XaC.mp nd).2 (by simpa using h1) (by simpa using h2) hk
def start (N:List Str) (vs:List V):St:=vs.map some++List.replicate (N.length - vs.length) none
def cxOf (CX:CXT) (P:Program) (w:World) (K:XFg) (mg:Str->Option Value) (base:Heap) (N:List Str) (qual:Str) (scope:Scope) (f:Addr) (cd:Value) (A:Around) (outer:List Env) (s:Shared) (H:Hp) (E:XK):Cx where
 prog:=P
 w:=w
 K:=K
 mg:=mg
 base:=base
 A:=A.deeper (envOfC qual scope s.heap.objs.size f cd)
 N:=N
 s₀:=s
 H₀:=H
 env:=envOfC qual scope s.heap.objs.size f cd
 outer:=outer
 stack:=envOfC qual scope s.heap.objs.size f cd :: outer
 ex:=[]
 calm:=true
 fn:=fun _=>true
 pn:=[]
 xe:=fun e s'=>wpAny (model P w) (A.deeper (envOfC qual scope s.heap.objs.size f cd)) (leaving (envOfC qual scope s.heap.objs.size f cd) e) (fun _ s''=>CX outer H s E e s'') (fun e' s''=>CX outer H s E e' s'') s'
theorem ZhW {sc:Scope}{n:Nat}{x:Str} (h:sc.names.lookup x=some .cell):∃ c,(cellsFrom n sc.names []).lookup x=some c:=by
 have q:=PySem.W.cellsFrom_some sc.names n [] (.inl h);exact Option.isSome_iff_exists.mp q
theorem Zjo {CX:CXT}{K:XFg}{mg:Str->Option Value}{base:Heap}{N:List Str} {qual:Str}{scope:Scope}{f:Addr}{cd:Value}{outer:List Env}{s1:Shared} {E:XK}{us:List Value}{vs:List V}
 (S:FnScope N ps scope) (hd:A.handled=none) (e0:Env0 P w K mg base A outer s H) (hl:vs.length=ps.length) (r:Vals vs us)
 (x:InCallC s s.heap.objs.size (bindL (envOfC qual scope s.heap.objs.size f cd).kindOf (ps.zip us) fun _=>none) (cellsFrom (s.heap.objs.size+1) scope.names []) (bindC (envOfC qual scope s.heap.objs.size f cd).kindOf (ps.zip us) fun _=>none) s1) :
 Inv (cxOf CX P w K mg base N qual scope f cd A outer s H E) [] (start N vs) H s1:=by
 have hpl:ps.length<=N.length:=by have:=Xbj List.length S.pre;rw [Xaw] at this;omega
 obtain ⟨h1,tk,rfl,hk⟩:=x.done;have noA:∀ b:Addr,b ∉ (cxOf CX P w K mg base N qual scope f cd A outer s H E).ex:=fun b z=>absurd (show b∈([]:List Addr) from z) (by simp)
 refine ⟨⟨e0.mod,S.kind,rfl,rfl,XaW _,fun y z c h1 h2=>?_,fun y hy=>?_,fun y c _ h=>?_,fun _=>hd,Around.frames_deeper e0.frames,.inr ⟨rfl,rfl⟩,fun b z=>absurd z (noA b),e0.bs,e0.bsz,fun b _ _=>noA b,fun b z=>absurd z (noA b),e0.funs,e0.frf⟩,
  rfl,e0.bare,Un.kept hk,⟨_,x.toInCall.ns,fun i y v h1 h2 h3=>?_⟩,fun y c h=>⟨_,x.cell y c h⟩,e0.hok.fresh (XaW _),fun y c h=>?_,fun p hp=>absurd (show p∈([]:List (Addr×Obj)) from hp) (by simp),e0.hok.kept hk,?_⟩
 . exact name_of_addr x.apart (Xbt h1) (Xbt h2)
 . have hy:scope.names.lookup y=some .cell\/scope.names.lookup y=some .free:=hy
   rcases hy with hy | hy
   . exact ZhW hy
   . exact absurd rfl (S.nofree _ (Xbt hy))
 . exact XaY (x.above y c (Xbt h))
 . have hi:i<vs.length:=by
    unfold start at h2
    by_cases hi:i<vs.length
    . exact hi
    . rw [Xay (by simpa using hi)] at h2
      rw [List.getElem?_replicate] at h2
      split at h2 <;> cases h2
   have ha:vs[i]?=some v:=by
    unfold start at h2;rw [Xat (by simpa using hi),Xag] at h2
    cases e:vs[i]? with
    | none=>rw [e] at h2;cases h2
    | some a=>rw [e] at h2;cases h2;rfl
   obtain ⟨u,hu,rv⟩:=r.get ha
   have hp:ps[i]?=some y:=by
    rw [<-S.pre,List.getElem?_take_of_lt (by omega)];exact h1
   have ndP:ps.Nodup:=by rw [<-S.pre];exact S.nd.sublist (List.take_sublist _ _)
   refine ⟨u,rv,?_⟩
   rcases S.par y (Xah hp) with k | k
   . exact .inl ⟨k,Zgz ndP hp hu k⟩
   . obtain ⟨c,e⟩:=ZhW (n:=s.heap.objs.size+1) k
     refine .inr ⟨.inl k,c,e,?_⟩;have q:=x.cell y c e;rw [ZgA ndP hp hu (by show scope.names.lookup y≠_;rw [k];decide)] at q;exact q
 . exact e0.hok.fresh (XaY (x.above y c (Xbt h)))
 . unfold start
   show _=N.length;rw [Xac,Xaa,List.length_replicate];omega
theorem fn_of {CX:CXT}{K:XFg}{mg:Str->Option Value}{base:Heap}{k:Nat}{f:Addr}{name qual:Str}{params:Arguments}{body:List Stmt}{scope:Scope}{dV kV doc pm cdv ct oc:Value}{an od:Option Addr}
 {osl:Array (Option Value)} {N:List Str} {sp:Sp} (lk:K.lookup f=some ⟨oc,od,.func (PySem.W.fnOf name qual params body scope dV kV doc pm an cdv ct),osl⟩) (hcd:PySem.W.codeIn K cdv qual=true) (S:FnScope N ps scope)
 (len:∀ vs H Q E,sp vs H Q E->vs.length=ps.length)
 (hbody:∀ (A:Around) (outer:List Env) (s:Shared) (H:Hp) (vs:List V) (Q:VK) (E:XK),Room k (A.deeper (envOfC qual scope s.heap.objs.size f cdv))->sp vs H Q E ->
  ∃ t,PSs (cxOf CX P w K mg base N qual scope f cdv A outer s H E) body t/\t { nx:=fun _ H'=>Q .non H',rt:=Q } (start N vs) H) :
 FnOk P w K mg base CX (k+1) f (PySem.W.fnOf name qual params body scope dV kV doc pm an cdv ct) ps sp:=by
 refine ⟨len,fun A outer s H args us vs Q E hr e0 hb r hsp=>?_⟩;have hl:=len _ _ _ _ hsp;have KX:K.In s.heap:=e0.mod.kin.keeps fun b o e=>(e0.bs b o e).1;have lim:s.heap.NoLimit:=e0.mod.nolimit.keeps fun b o e=>(e0.bs b o e).1
 have hkind:∀ y∈ps.zip us,scope.names.lookup y.1=some .local\/(scope.names.lookup y.1=some .cell/\((cellsFrom (s.heap.objs.size+1) scope.names []).lookup y.1).isSome=true):=fun ⟨n,v⟩ hy=>by
  rcases S.par n (List.of_mem_zip hy).1 with q | q
  . exact .inl q
  . exact .inr ⟨q,PySem.W.cellsFrom_some _ _ _ (.inl q)⟩
 refine codeAny_call_function hr.depth (KX _ _ lk) rfl S.co S.gen rfl (PySem.W.codeRec_of KX hcd) (hb _ _ _ _ ?_);refine wpAny_newFunctionEnv_cells S.kind hkind fun env he s1 x=>?_;subst he;refine ⟨lim.keeps x.toInCall.keep,codeAny_func ?_⟩;obtain ⟨t,ht,hq⟩:=hbody A outer s H vs Q E (hr.deeper _) hsp;have I:Inv (cxOf CX P w K mg base N qual scope f cdv A outer s H E) [] (start N vs) H s1:=Zjo S hr.hd e0 hl r x;refine Xbu (ht [] s1 (start N vs) H _ I hq) (fun fl s' hs=>?_) fun e s' hs=>hs
 have fin:∀ {σ':St} {H':Hp} {v:V} {u:Value},Inv (cxOf CX P w K mg base N qual scope f cdv A outer s H E) [] σ' H' s'->RelV v u->Q v H'->CE outer P w H s Q u s' :=
  fun {σ' H' v u} J rv q=>⟨v,H',J.os,J.bare,J.base,J.hok,rv,q⟩
 cases fl with
 | ret u =>
   obtain ⟨v,σ',H',J,rv,q⟩:=hs;exact fin J rv q
 | next =>
   obtain ⟨σ',H',J,q⟩:=hs;exact fin (v:=V.non) (u:=Value.none) J rfl q
 | brk =>
   obtain ⟨_,_,_,q⟩:=hs;exact False.elim q
 | cont =>
   obtain ⟨_,_,_,q⟩:=hs;exact False.elim q
section
variable {X:Cx} {x:Str} {p pos:Pos} {e:Expr} {es:List Expr} {t:TA} {id T:String} {r:List V->Hp->VK->Prop}
def tCB (r:List V->Hp->VK->Prop) (t:TA):TE:=fun σ H Q=>t σ H fun vs H1=>r vs H1 Q
theorem Zax (hc:CallR X (.builtin id) r) (hg:Gl X x) (hm:X.mg x=none) (hv:bootBuiltins x=some (.builtin id)) (ha:PA X (e :: es) t) (hn:x ≠ "__name__" := by decide) (hdb:(x == ("__debug__" : Str))=false:=by decide)
 (he:starEach (e :: es) X.env=(false,eval e X.env) :: starEach es X.env:=by rfl) (hpl:(backTo pos (starEach es X.env)).any (·.1)=false:=by rfl):PE X (.Call (.Name x p) (e :: es) [] pos) (tCB r t):=by
 intro pins s σ H Q I h;refine wpAny_Call_Name_kw (Zc9 I hg hm hv ?_ hn hdb);exact PyProof.Rows.callWith_builtin1 (thn (ha pos pins s σ H _ I h) fun us s1 ⟨vs,H1,I1,r1,q1⟩=>hc pins s1 σ H1 vs us Q I1 r1 q1) he hpl
theorem Zb7 (hc:CallR X (.type T) r) (hg:Gl X x) (hm:X.mg x=none) (hv:bootBuiltins x=some (.type T)) (ha:PA X (e :: es) t) (hn:x ≠ "__name__" := by decide) (hdb:(x == ("__debug__" : Str))=false:=by decide)
 (he:starEach (e :: es) X.env=(false,eval e X.env) :: starEach es X.env:=by rfl) (hpl:(backTo pos (starEach es X.env)).any (·.1)=false:=by rfl):PE X (.Call (.Name x p) (e :: es) [] pos) (tCB r t):=by
 intro pins s σ H Q I h;refine wpAny_Call_Name_kw (Zc9 I hg hm hv ?_ hn hdb);exact PyProof.Rows.callWith_type1 (thn (ha pos pins s σ H _ I h) fun us s1 ⟨vs,H1,I1,r1,q1⟩=>hc pins s1 σ H1 vs us Q I1 r1 q1) he hpl
end
end L2
namespace HT
open PySem PyProof.Rows
section
open PySem.SeqAt
open PySem.AutoSeq1 (wpAny_loadPart')
open PySem.MeetsSeq PySem.MeetsSeq2 PySem.MeetsSeq3
end
section
variable {prog:Program} {w:World} {A:Around} {E:Value->Shared->Prop} {s:Shared}
def sIx (n d:Nat):Option Int->Nat
 | none=>d
 | some v=>if v<0 then (v+(n:Int)).toNat else min v.toNat n
theorem sIx_nat (n d k:Nat):sIx n d (some (k:Int))=min k n:=by
 show (if (k:Int)<0 then ((k:Int)+(n:Int)).toNat else min (k:Int).toNat n)=min k n;rw [Xbd (by omega),Xa4]
end
end HT
namespace L2
open PySem PySem.Spec PyProof.Rows
abbrev TO:=St->Hp->(Option Int->Hp->Prop)->Prop
def PO (X:Cx) (e:Option Expr) (t:TO):Prop :=
 ∀ (pins:List (Addr×Obj)) (s:Shared) (σ:St) (H:Hp) (Q:Option Int->Hp->Prop),Inv X pins σ H s->t σ H Q ->
  wpAny (model X.prog X.w) X.A (evalPart e X.env) (fun u s'=>∃ o H',Inv X pins σ H' s'/\IsPart u o/\Q o H') X.xe s
def tPart (t:TE):TO:=fun σ H Q=>t σ H fun x H1=>∃ i,x=.int i/\Q (some i) H1
theorem ZiF {ns:List Int}:∀ {us:List Value},Vals (ns.map V.int) us->IntsAre us ns:=by
 induction ns with
 | nil=>intro us r;rw [XaO] at r;cases r;exact .nil
 | cons n ns ih =>
   intro us r;rw [Xao] at r
   cases r with
   | cons r1 r2 =>
     obtain ⟨t,e⟩:=r1;subst e;exact .cons n t (ih r2)
section
variable {X:Cx} {e:Expr} {te:TE} {lo hi:Option Expr} {tl th:TO} {pos p2:Pos}
theorem Zjp (h:PE X e te):PO X (some e) (tPart te):=by
 intro pins s σ H Q I hw;rw [evalPart_some];refine thn (h pins s σ H _ I hw) fun u s1 ⟨x,H1,I1,r1,q1⟩=>?_;obtain ⟨i,rfl,q⟩:=q1;obtain ⟨t,rfl⟩:=r1;exact ⟨some i,H1,I1,.int i t,q⟩
def SlR (X:Cx) (r:V->Option Int->Option Int->Hp->VK->Prop):Prop :=
 ∀ (pins:List (Addr×Obj)) (s:Shared) (σ:St) (H:Hp) (x:V) (v vl vu:Value) (lo hi:Option Int) (sl:Addr) (Q:VK),Inv X pins σ H s->RelV x v->s.heap.IsSliceOf sl vl vu .none->IsPart vl lo->IsPart vu hi->r x lo hi H Q ->
  ∃ T id,typeLookup (.type T) "__getitem__" = pure (some (.builtin id))/\s.TypeIs v T/\wpAny (model X.prog X.w) X.A (getItem v (.ref sl)) (EP X pins σ Q) X.xe s
def tSl (r:V->Option Int->Option Int->Hp->VK->Prop) (te:TE) (tl th:TO):TE:=fun σ H Q=>te σ H fun x H1=>tl σ H1 fun l H2=>th σ H2 fun u H3=>r x l u H3 Q
theorem ZkQ {r:V->Option Int->Option Int->Hp->VK->Prop} (hr:SlR X r) (he:PE X e te) (hl:PO X lo tl) (hu:PO X hi th):PE X (.Subscript e (.Slice lo hi none p2) pos) (tSl r te tl th):=by
 intro pins s σ H Q I h;refine Subscript_ (thn (he pins s σ H _ I h) fun v s1 ⟨x,H1,I1,r1,q1⟩=>?_);refine wpAny_Slice (thn (hl pins s1 σ H1 _ I1 q1) fun vl s2 ⟨l,H2,I2,pl,q2⟩=>thn (hu pins s2 σ H2 _ I2 q2) fun vu s3 ⟨u,H3,I3,pu,q3⟩=>?_);rw [evalPart_none];refine Xbl ?_
 have I4:Inv X pins σ H3 { s3 with heap:=s3.heap.push { cls:=.type "slice",data:=.fields #[vl,vu,.none] } }:=I3.kept (t':=s3.toks) fun b ob q=>Xbo _ q
 obtain ⟨T,id,hT,ht,hg⟩:=hr pins { s3 with heap:=s3.heap.push { cls:=.type "slice",data:=.fields #[vl,vu,.none] } } σ H3 x v vl vu l u s3.heap.objs.size Q I4 r1 (Heap.IsSliceOf.new ..) pl pu q3
 show wpAny (model X.prog X.w) X.A (subscriptTail e (.Slice lo hi none p2) v (.ref s3.heap.objs.size)) (EP X pins σ Q) X.xe { s3 with heap:=s3.heap.push { cls:=.type "slice",data:=.fields #[vl,vu,.none] } }
 exact tail_any (ops:=[.ref s3.heap.objs.size,v]) ht hT hg (by with_unfolding_all rfl)
def cutV (xs:List V) (lo hi:Option Int):List V:=(xs.drop (HT.sIx xs.length 0 lo)).take (HT.sIx xs.length xs.length hi - HT.sIx xs.length 0 lo)
theorem Zhr (xs:List V) (lo hi:Option Int):(cutV xs lo hi).length<=xs.length:=by
 unfold cutV;rw [Xaw,XaF];omega
end
def ixN (n:Nat) (i:Int):Option Nat:=if 0<=i then (if i<n then some i.toNat else none) else if -(n:Int)<=i then some (i+n).toNat else none
def atI {α:Type} (xs:List α) (i:Int):Option α:=(ixN xs.length i).bind fun j=>xs[j]?
variable {n:Nat}
theorem Zjq {i:Int}{j:Nat} (h:ixN n i=some j):seqIndex? i n=some j/\j<n/\-(n:Int)<=i/\i<n:=by
 unfold ixN at h
 by_cases h0:0<=i
 . rw [Xbe h0] at h
   by_cases h1:i<n
   . rw [Xbe h1] at h
     have e:i.toNat=j:=Xbc h;exact ⟨by rw [seqIndex_of h0 h1,e],by omega,by omega,h1⟩
   . rw [Xbd h1] at h;cases h
 . rw [Xbd h0] at h
   by_cases h1:-(n:Int)<=i
   . rw [Xbe h1] at h
     have e:(i+n).toNat=j:=Xbc h;exact ⟨by rw [seqIndex_neg (by omega) h1,e],by omega,h1,by omega⟩
   . rw [Xbd h1] at h;cases h
theorem Zhs {α:Type}{xs:List α}{i:Int}{v:α} (h:atI xs i=some v):∃ j,seqIndex? i xs.length=some j/\xs[j]?=some v/\j<xs.length/\-(xs.length:Int)<=i/\i<xs.length:=by
 unfold atI at h
 cases e:ixN xs.length i with
 | none=>rw [e] at h;cases h
 | some j =>
   rw [e] at h;obtain ⟨h1,h2,h3,h4⟩:=Zjq e;exact ⟨j,h1,h,h2,h3,h4⟩
theorem Zar {α:Type}{xs:List α}{j:Nat}{v:α} (h:xs[j]?=some v):atI xs (j:Int)=some v:=by
 have hj:j<xs.length:=(Xae.mp h).1
 have e:ixN xs.length (j:Int)=some j:=by
  unfold ixN;rw [Xbe (by omega),Xbe (by omega)];simp
 unfold atI;rw [e];exact h
def PlainIx (b:Expr):Prop:=∀ o i,subscripted b false o i=operate [o,i] (getItem o i)
def IxR (X:Cx) (r:R2):Prop :=
 ∀ (value slice:Expr) (pins:List (Addr×Obj)) (s:Shared) (σ:St) (H:Hp) (x y:V) (v u:Value) (Q:VK),Inv X pins σ H s->RelV x v->RelV y u->r x y H Q ->
  subscripted slice false v u=operate [v,u] (getItem v u)->wpAny (model X.prog X.w) X.A (subscriptTail value slice v u) (EP X pins σ Q) X.xe s
def MtR (X:Cx) (id:String) (r:V->List V->Hp->VK->Prop):Prop :=
 ∀ (pins:List (Addr×Obj)) (s:Shared) (σ:St) (H:Hp) (x:V) (xs:List V) (v:Value) (us:List Value) (Q:VK),Inv X pins σ H s->RelV x v->Vals xs us->r x xs H Q ->
  wpAny (model X.prog X.w) X.A (call (.builtin id) (v :: us)) (EP X pins σ Q) X.xe s
section
variable {X:Cx} {a b:Expr} {ta tb:TE} {pos:Pos}
theorem IxR.or {r r':R2} (h:IxR X r) (h':IxR X r'):IxR X (fun x y H Q=>r x y H Q\/r' x y H Q):=by
 intro value slice pins s σ H x y v u Q I rx ry q hs
 rcases q with q | q
 . exact h value slice pins s σ H x y v u Q I rx ry q hs
 . exact h' value slice pins s σ H x y v u Q I rx ry q hs
theorem Zam {r:R2} (hr:IxR X r) (ha:PE X a ta) (hb:PE X b tb) (hs:PlainIx b):PE X (.Subscript a b pos) (tOp r ta tb):=by
 intro pins s σ H Q I h;exact Subscript_ (binT ha hb I h fun v u s2 x y H2 I2 rx ry q=>hr a b pins s2 σ H2 x y v u Q I2 rx ry q (hs _ _))
def rIxL (K:XFg):R2:=fun x y H Q=>∃ p xs i v,x=.ref p/\y=.int i/\SqL K H p xs/\atI xs i=some v/\Q v H
def rIxT (K:XFg):R2:=fun x y H Q=>∃ p xs i v,x=.ref p/\y=.int i/\SqT K H p xs/\atI xs i=some v/\Q v H
def rIxS:R2:=fun x y H Q=>∃ z i c,x=.str z/\y=.int i/\z.length<=sizeLine/\atI z.cps.toList i=some c/\Q (.str ⟨#[c]⟩) H
theorem ix_list:IxR X (rIxL X.K):=by
 intro value slice pins s σ H x y v u Q I rx ry h hs;obtain ⟨p,xs,i,z,rfl,rfl,hq,he,q⟩:=h;cases rx;obtain ⟨t,rfl⟩:=ry;obtain ⟨its,r,pl,hz⟩:=I.list hq;obtain ⟨j,h1,h2,h3,h4,h5⟩:=Zhs he;obtain ⟨w,ew,rw'⟩:=r.get h2;have hl:=r.length;have hn:=Zgu;have fin:EP X pins σ Q w s:=⟨z,H,I,rw',q⟩
 by_cases h0:0<=i
 . have hj:i.toNat=j:=by
    rw [seqIndex_of h0 h5] at h1;exact Xbc h1
   exact item_listR pl.isList h0 (by omega) (by rw [hj];simpa using ew) fin hs
 . have hj:(i+(its.toArray.size:Int)).toNat=j:=by
    rw [seqIndex_neg (by omega) h4] at h1;rw [Xak,<-hl];exact Xbc h1
   exact subscriptTail_builtinR (x:=w) pl.isList.typeIs slot_list_getitem.lookup
    (wpAny_getItem_list_neg (Q:=fun r s'=>r=w/\EP X pins σ Q r s') pl.isList (by omega) (by rw [Xak] <;> omega) (by omega) (by rw [hj];simpa using ew) ⟨rfl,fin⟩) hs
theorem ix_tup:IxR X (rIxT X.K):=by
 intro value slice pins s σ H x y v u Q I rx ry h hs;obtain ⟨p,xs,i,z,rfl,rfl,hq,he,q⟩:=h;cases rx;obtain ⟨t,rfl⟩:=ry;obtain ⟨its,r,pl,hz⟩:=I.tuple hq;obtain ⟨j,h1,h2,h3,h4,h5⟩:=Zhs he;obtain ⟨w,ew,rw'⟩:=r.get h2;have hl:=r.length;have hn:=Zgu;have fin:EP X pins σ Q w s:=⟨z,H,I,rw',q⟩
 exact subscriptTail_builtinR (x:=w) pl.typeIs slot_tuple_getitem.lookup
  (getItem_tuple (j:=j) (Q:=fun r s'=>r=w/\EP X pins σ Q r s') pl (by omega) (by omega) (by rw [Xak,<-hl];exact h1) (by simpa using ew) ⟨rfl,fin⟩) hs
theorem ix_str:IxR X rIxS:=by
 intro value slice pins s σ H x y v u Q I rx ry h hs;obtain ⟨z,i,c,rfl,rfl,hz,he,q⟩:=h;obtain ⟨t,rfl⟩:=rx;obtain ⟨t',rfl⟩:=ry;obtain ⟨j,h1,h2,h3,h4,h5⟩:=Zhs he
 have hl:z.cps.toList.length=z.length:=by simp [Str.length]
 rw [hl] at h1 h4 h5;have hn:=Zgu
 exact tail_any (typeIs_str s z t) slot_str_getitem.lookup (getItem_str (c:=c) (by
  have e1:decide (i < -(2 ^ 63:Int))=false:=Xa6 (by omega);have e2:decide (i ≥ 2 ^ 63)=false:=Xa6 (by omega)
  rw [e1,e2,Bool.or_false]) (by rw [h1];simpa using h2) ⟨.str ⟨#[c]⟩,H,I.tok _,⟨_,rfl⟩,q⟩) hs
def rIx (K:XFg):R2:=fun x y H Q=>rIxL K x y H Q\/rIxT K x y H Q\/rIxS x y H Q
theorem Zai:IxR X (rIx X.K):=ix_list.or (ix_tup.or ix_str)
theorem ZiG (its:List Value) (n j:Nat) (u:Value):Obj.mapSeq (·.setIfInBounds j u) { cls:=.type "list",data:=.seq its.toArray n }={ cls:=.type "list",data:=.seq (its.set j u).toArray n }:=by
 simp [Obj.mapSeq]
theorem Inv.lst {pins:List (Addr×Obj)} {σ:St} {H:Hp} {s:Shared} {p:Addr} {xs:List V} (I:Inv X pins σ H s) (h:H p=some (.lst xs)) :
 ∃ (its:List Value) (n:Nat),Vals xs its/\s.heap.get? p=some { cls:=.type "list",data:=.seq its.toArray n }/\xs.length<=sizeLine:=by
 obtain ⟨z,its,n,r,e⟩:=I.hok p _ h;exact ⟨its,n,r,e,z⟩
theorem Inv.lstUpd {pins:List (Addr×Obj)} {σ:St} {H:Hp} {s:Shared} {p:Addr} {xs ys:List V} {its its':List Value} {n':Nat} {f:Obj->Obj} (I:Inv X pins σ H s) (h:H p=some (.lst xs))
 (ho:s.heap.get? p=some { cls:=.type "list",data:=.seq its.toArray n }) (hf:f { cls:=.type "list",data:=.seq its.toArray n }={ cls:=.type "list",data:=.seq its'.toArray n' }) (r:Vals ys its') (hz:ys.length<=sizeLine) (t:Nat) :
 Inv X pins σ (upd H p (.lst ys)) { s with heap:=s.heap.update p f,toks:=t }:=by
 have e:(s.heap.update p f).get? p=some { cls:=.type "list",data:=.seq its'.toArray n' }:=by
  rw [Heap.get?_update_self f ho (by rw [hf] <;> rfl),hf]
 refine I.write (x:=p) (e:=p) (by rw [h];trivial) (.inl rfl) (fun b u hb q=>(Heap.get?_update_other _ _ (Ne.symm hb)).trans q) ⟨_,e⟩ ?_;exact ⟨hz,its',n',r,e⟩
def rSetL:V->V->V->Hp->(Hp->Prop)->Prop:=fun o i v H Q=>∃ p xs k j,o=.ref p/\i=.int k/\H p=some (.lst xs)/\ixN xs.length k=some j/\Q (upd H p (.lst (xs.set j v)))
theorem ZkR:PSet X rSetL:=by
 intro pins s σ H o i v ov iv u Q I ro ri rv h;obtain ⟨p,xs,k,j,rfl,rfl,hp,hj,q⟩:=h;cases ro;obtain ⟨t,rfl⟩:=ri;obtain ⟨its,n,r,ho,hz⟩:=I.lst hp;obtain ⟨h1,h2,h3,h4⟩:=Zjq hj;have hl:=r.length;have hn:=Zgu
 have I':Inv X pins σ (upd H p (.lst (xs.set j v))) { s with heap:=s.heap.update p (Obj.mapSeq (·.setIfInBounds j u)) } :=
  I.lstUpd hp ho (ZiG its n j u) (r.set rv j) (by rw [XaD];exact hz) s.toks
 by_cases h0:0<=k
 . have hk:k.toNat=j:=by
    rw [seqIndex_of h0 h4] at h1;exact Xbc h1
   exact PySem.W.ki_setAt ho h0 (by omega) (by rw [Xak,<-hl];exact h4) (by rw [hk];exact ⟨_,I',q⟩)
 . have hk:(k+(its.toArray.size:Int)).toNat=j:=by
    rw [seqIndex_neg (by omega) h3] at h1;rw [Xak,<-hl];exact Xbc h1
   exact PySem.W.ki_setBack ho (by omega) (by rw [Xak,<-hl];exact h3) (by omega) (by rw [hk];exact ⟨_,I',q⟩)
theorem ZgB (lo hi:Option Int) (n:Nat):(sliceBounds lo hi none n).1=((HT.sIx n 0 lo:Nat):Int)/\(sliceBounds lo hi none n).2.1=((HT.sIx n n hi:Nat):Int)/\(sliceBounds lo hi none n).2.2=1:=by
 refine ⟨?_,?_,rfl⟩
 . cases lo with
   | none=>simp [sliceBounds,HT.sIx]
   | some i =>
     simp only [sliceBounds,HT.sIx,Option.getD_none,show (1:Int) > 0 by decide,if_true]
     by_cases h:i<0
     . simp only [h,if_true] <;> omega
     . simp only [h,if_false] <;> omega
 . cases hi with
   | none=>simp [sliceBounds,HT.sIx]
   | some i =>
     simp only [sliceBounds,HT.sIx,Option.getD_none,show (1:Int) > 0 by decide,if_true]
     by_cases h:i<0
     . simp only [h,if_true] <;> omega
     . simp only [h,if_false] <;> omega
theorem ZfE (its:List Value) (lo hi:Option Int):slicePick its.toArray lo hi none=((its.drop (HT.sIx its.length 0 lo)).take (HT.sIx its.length its.length hi - HT.sIx its.length 0 lo)).toArray:=by
 obtain ⟨h1,h2,h3⟩:=ZgB lo hi its.toArray.size;unfold slicePick;rw [h1,h2,h3]
 simp only [sliceRange_one,pick_run,Xak] <;> rfl
def rSlL (K:XFg):V->Option Int->Option Int->Hp->VK->Prop:=fun x lo hi H Q=>∃ a xs,x=.ref a/\SqL K H a xs/\∀ p,H p=none->Q (.ref p) (upd H p (.lst (cutV xs lo hi)))
theorem sl_list:SlR X (rSlL X.K):=by
 intro pins s σ H x v vl vu lo hi sl Q I rx hs pl pu h;obtain ⟨a,xs,rfl,hx,q⟩:=h;cases rx;obtain ⟨its,r,ht,hz⟩:=I.list hx;have hlen:=r.length
 refine ⟨"list",_,slot_list_getitem.lookup,ht.isList.typeIs,?_⟩
 refine wpAny_getItem_list_slice ht.isList hs pl pu .none (by simp) ?_ (by rw [Xak] <;> omega)
 rw [ZfE,<-hlen];refine ⟨.ref s.heap.objs.size,_,I.laid (t':=s.toks) (o:=.lst (cutV xs lo hi)) (fun b ob q=>Xbo _ q) (XaW _) ?_,rfl,q _ (I.hok.fresh (XaW _))⟩;exact ⟨Xbg (Zhr xs lo hi) hz,_,0,(r.drop (HT.sIx xs.length 0 lo)).take (HT.sIx xs.length xs.length hi - HT.sIx xs.length 0 lo),Xbq _ rfl⟩
theorem Zd1:CallR X (.type "list") (fun xs H Q=>∃ p ys,xs=[.ref p]/\(SqL X.K H p ys\/SqT X.K H p ys)/\∀ l,H l=none->Q (.ref l) (upd H l (.lst ys))):=by
 intro pins s σ H xs us Q I r h;obtain ⟨p,ys,rfl,hq,q⟩:=h;obtain ⟨u,rfl,rx⟩:=Zdh r;cases rx
 have fin:∀ (its:List Value),Vals ys its->ys.length<=sizeLine->∀ (h':Heap) (c':Nat),(∀ b o',s.heap.get? b=some o'->h'.get? b=some o') ->
  h'.get? s.heap.objs.size=some { cls:=.type "list",dict:=none,data:=.seq its.toArray c',slots:=#[] }->EP X pins σ Q (.ref s.heap.objs.size) { s with heap:=h' }:=fun its r' hz h' c' kp e =>
  ⟨.ref s.heap.objs.size,_,I.laid (t':=s.toks) kp (XaW _) (show ObjOk X.prog X.w _ h' _ (.lst ys) from ⟨hz,its,c',r',e⟩),rfl,q _ (I.hok.fresh (XaW _))⟩
 rcases hq with hq | hq
 . obtain ⟨its,r',pl,hz⟩:=I.list hq
   have hlen:=r'.length;obtain ⟨o,ho,hc,n,hd⟩:=pl.isList
   exact call_list_seq p (.inl rfl) ho hc hd (fun h' c' kp e=>fin its r' hz h' c' kp e) (by simp only [Xak] <;> omega)
 . obtain ⟨its,r',pl,hz⟩:=I.tuple hq
   have hlen:=r'.length;obtain ⟨o,ho,hc,n,hd⟩:=pl
   exact call_list_seq p (.inr rfl) ho hc hd (fun h' c' kp e=>fin its r' hz h' c' kp e) (by simp only [Xak] <;> omega)
def tyV (K:XFg) (T:String) (x:V) (H:Hp):Prop:=match x with
 | .str _=>T = "str"
 | .int _=>T = "int"
 | .ref p=>(T = "list" /\ ∃ xs,SqL K H p xs)\/(T = "tuple" /\ ∃ o,K.lookup p=some o/\o.cls=.type "tuple" /\ o.dict=none) \/
  (T = "dict" /\ ((∃ kvs,H p=some (.dK kvs))\/∃ kvs,H p=some (.dT kvs)))\/(T = "set" /\ ∃ S n,H p=some (.set S n))
 | _=>False
theorem tyV_is {pins : List (Addr × Obj)} {σ : St} {H : Hp} {s : Shared} {T : String} {x : V} {v : Value} (I : Inv X pins σ H s) (r : RelV x v) (ty : tyV X.K T x H) :
 s.TypeIs v T/\∀ a,v=.ref a->∃ ob,s.heap.get? a=some ob/\ob.dict=none:=by
 cases x with
 | str z =>
   obtain ⟨t,rfl⟩:=r
   cases (show T = "str" from ty)
   exact ⟨typeIs_str s z t,fun _ e=>nomatch e⟩
 | int i =>
   obtain ⟨t,rfl⟩:=r
   cases (show T = "int" from ty)
   exact ⟨typeIs_int s i t,fun _ e=>nomatch e⟩
 | ref p =>
   cases r
   rcases ty with ⟨rfl,xs,hq⟩ | ⟨rfl,o,hk,hc,hd⟩ | ⟨rfl,hk⟩ | ⟨rfl,S,n,hk⟩
   . obtain ⟨its,_,pl,_⟩:=I.list hq
     refine ⟨pl.isList.typeIs,fun a e=>?_⟩;cases e;obtain ⟨o,n,e,c,hd,_⟩:=pl;exact ⟨o,e,hd⟩
   . refine ⟨⟨o,I.kIn p o hk,hc⟩,fun a e=>?_⟩
     cases e;exact ⟨o,I.kIn _ o hk,hd⟩
   . have z:∃ o,s.heap.get? p=some o/\o.ExactDict:=by
      rcases hk with ⟨kvs,hk⟩ | ⟨kvs,hk⟩
      . obtain ⟨_,_,_,_,o,_,_,e,ex,_⟩:=I.hok p _ hk
        exact ⟨o,e,ex⟩
      . obtain ⟨_,_,_,_,o,_,_,e,ex,_⟩:=I.hok p _ hk
        exact ⟨o,e,ex⟩
     obtain ⟨o,e,ex⟩:=z;refine ⟨⟨o,e,ex.1⟩,fun a e2=>?_⟩;cases e2;exact ⟨o,e,ex.2.1⟩
   . obtain ⟨o,_,_,_,e,ex,_⟩:=I.hok p _ hk
     refine ⟨⟨o,e,ex.1⟩,fun a e2=>?_⟩;cases e2;exact ⟨o,e,ex.2.1⟩
 | _=>exact False.elim ty
def tBM0 (K:XFg) (T:String) (r:V->List V->Hp->VK->Prop) (to:TE):TE:=fun σ H Q=>to σ H fun x H1=>tyV K T x H1/\r x [] H1 Q
def tBM (K:XFg) (T:String) (r:V->List V->Hp->VK->Prop) (to:TE) (t:TA):TE:=fun σ H Q=>to σ H fun x H1=>tyV K T x H1/\t σ H1 fun xs H2=>r x xs H2 Q
variable {o e:Expr} {es:List Expr} {to:TE} {t:TA} {name:Str} {apos cpos:Pos} {T id:String} {r:V->List V->Hp->VK->Prop}
theorem pe_bm0 (pa:PlainAttrs T) (slot:Slot T name id) (hty:typeOf (.builtin id)=pure (.type "method_descriptor")) (hm:MtR X id r) (ho:PE X o to)
 (hbase:attributeBase o name X.env (eval o X.env)=eval o X.env:=by rfl) (hline:(apos.endLine == cpos.line)=true:=by rfl):PE X (.Call (.Attribute o name apos) [] [] cpos) (tBM0 X.K T r to):=by
 intro pins s σ H Q I h;refine wpAny_Call_method0_late hbase hline (thn (ho pins s σ H _ I h) fun v s1 ⟨x,H1,I1,r1,ty,q1⟩=>?_);obtain ⟨h1,h2⟩:=tyV_is I1 r1 ty;exact ⟨T,id,pa,slot,hty,h1,h2,Calls.callWith_builtin rfl (PySem.evalArgs_none (hm pins s1 σ H1 x [] v [] Q I1 r1 .nil q1))⟩
theorem Zb4 (pa:PlainAttrs T) (slot:Slot T name id) (hty:typeOf (.builtin id)=pure (.type "method_descriptor")) (hm:MtR X id r) (ho:PE X o to) (ha:PA X (e :: es) t)
 (hbase:attributeBase o name X.env (eval o X.env)=eval o X.env:=by rfl)
 (hfew:((backTo cpos (starEach (e :: es) X.env)).all (fun x=>!x.1) && (backToKw cpos (keywordEach [] X.env)).all (fun x=>x.1.isSome)
  && decide ((e :: es).length+([]:List Keyword).length+(if ([]:List Keyword).isEmpty then 0 else 1)<30))=true:=by rfl)
 (hline:(apos.endLine == cpos.line)=true:=by rfl) (hs:starEach (e :: es) X.env=(false,eval e X.env) :: starEach es X.env:=by rfl) (hplain:(backTo cpos (starEach es X.env)).any (·.1)=false:=by rfl) :
 PE X (.Call (.Attribute o name apos) (e :: es) [] cpos) (tBM X.K T r to t):=by
 intro pins s σ H Q I h;refine wpAny_Call_method_late hbase hfew hline rfl (thn (ho pins s σ H _ I h) fun v s1 ⟨x,H1,I1,r1,ty,q1⟩=>?_);obtain ⟨h1,h2⟩:=tyV_is I1 r1 ty;refine ⟨T,id,pa,slot,hty,h1,h2,?_⟩;have hA:=ha cpos pins s1 σ H1 _ I1 q1;rw [hs] at hA ⊢
 refine Calls.callWith_builtin (by show (false || (backTo cpos (starEach es X.env)).any (·.1))=false;rw [hplain] <;> rfl) (Calls.evalArgs_plain ?_)
 exact thn hA fun us s2 ⟨vs,H2,I2,r2,q2⟩=>hm pins s2 σ H2 x vs v us Q I2 r1 r2 q2
end
def MtM (X:Cx) (id:String) (r:V->List V->Hp->VK->Prop):Prop :=
 ∀ (pins:List (Addr×Obj)) (s:Shared) (σ:St) (H:Hp) (x:V) (xs:List V) (v:Value) (us:List Value) (Q:VK),Inv X pins σ H s->RelV x v->Vals xs us->r x xs H Q ->
  wpAny (model X.prog X.w) X.A (call (.builtin id) (v :: us)) (EP X pins σ Q) X.xe s
theorem Vals.one:∀ {x:V}{us:List Value},Vals [x] us->∃ u,us=[u]/\RelV x u
 | _,_,.cons r .nil=>⟨_,rfl,r⟩
theorem Vals.zero:∀ {us:List Value},Vals [] us->us=[]
 | _,.nil=>rfl
section
variable {X:Cx} {pins:List (Addr×Obj)} {σ:St} {H:Hp} {s:Shared} {l b:Addr} {xs ys zs:List V}
theorem Inv.lset {its its':List Value}{f:Array Value->Array Value}{t':Nat} (I:Inv X pins σ H s) (hH:H l=some (.lst xs))
 (e:s.heap.get? l=some { cls:=.type "list",data:=.seq its.toArray n }) (hf:f its.toArray=its'.toArray) (hv:Vals ys its') (hz:ys.length<=sizeLine) :
 Inv X pins σ (upd H l (.lst ys)) { s with heap:=s.heap.update l (Obj.mapSeq f),toks:=t' }:=by
 have q:=PySem.IsL.update e f;rw [hf] at q;refine I.write (x:=l) (e:=l) (by rw [hH];exact trivial) (.inl rfl) (fun b' u hb hu=>(Heap.get?_update_other s.heap (Obj.mapSeq f) (Ne.symm hb)).trans hu) ⟨_,q⟩ ?_;exact ⟨hz,its',_,hv,q⟩
theorem Inv.lnew {its:List Value}{t':Nat} (I:Inv X pins σ H s) (hv:Vals ys its) (hz:ys.length<=sizeLine) :
 Inv X pins σ (upd H s.heap.objs.size (.lst ys)) { s with heap:=s.heap.push { cls:=.type "list",data:=.seq its.toArray },toks:=t' } :=
 I.laid (fun _ _ q=>Xbo _ q) (XaW _) ⟨hz,its,0,hv,Xbq _ rfl⟩
theorem Inv.fresh (I:Inv X pins σ H s):H s.heap.objs.size=none:=I.hok.fresh (XaW _)
theorem Inv.lstM (I:Inv X pins σ H s) (hH:H l=some (.lst xs)):xs.length<=sizeLine/\∃ (its:List Value) (n:Nat),Vals xs its/\xs.length=its.length/\s.heap.get? l=some { cls:=.type "list",data:=.seq its.toArray n }:=by
 obtain ⟨z,its,n,r,e⟩:=I.hok l _ hH;exact ⟨z,its,n,r,r.length,e⟩
theorem ZkS (h:n<=sizeLine):Builtin.List.listTooLong n=false:=by
 unfold Builtin.List.listTooLong;exact Xa6 (by omega)
end
section
variable {X:Cx}
def Zjr:V->List V->Hp->VK->Prop:=fun x vs H Q=>∃ l xs y,x=.ref l/\vs=[y]/\H l=some (.lst xs)/\xs.length<sizeLine/\Q .non (upd H l (.lst (xs++[y])))
theorem ZgC:MtM X "list.append" Zjr:=by
 intro pins s σ H x vs v us Q I rx rv h;obtain ⟨l,xs,y,rfl,rfl,hH,hz,q⟩:=h;cases rx;obtain ⟨u,rfl,ru⟩:=rv.one;obtain ⟨z,its,n,r,hl,e⟩:=I.lstM hH;refine call_meets F.slot_list_append ⟨_,e,rfl⟩ F.entry_list_append (F.args_list_append_2 _ _) (PySem.list_append l its.toArray n u (by rw [Xak];omega)) ⟨e,?_⟩;refine ⟨.non,_,I.lset (its':=its++[u]) hH e (by simp) (r.append (.cons ru .nil)) ?_,rfl,q⟩;rw [Xac,Xau];omega
def Zjs:V->List V->Hp->VK->Prop:=fun x vs H Q=>∃ l b xs zs,x=.ref l/\vs=[.ref b]/\H l=some (.lst xs)/\H b=some (.lst zs)/\xs.length+zs.length<=sizeLine/\Q .non (upd H l (.lst (xs++zs)))
theorem Zjt:MtM X "list.extend" Zjs:=by
 intro pins s σ H x vs v us Q I rx rv h;obtain ⟨l,b,xs,zs,rfl,rfl,hH,hB,hz,q⟩:=h;cases rx;obtain ⟨u,rfl,ru⟩:=rv.one;cases ru;obtain ⟨z,its,n,r,hl,e⟩:=I.lstM hH;obtain ⟨z2,its2,n2,r2,hl2,e2⟩:=I.lstM hB
 have hsz:its.toArray.size+its2.toArray.size<=sizeLine:=by rw [Xak,Xak];omega
 have hlong:¬(!its.toArray.isEmpty && Builtin.List.listTooLong (its.toArray.size+its2.toArray.size))=true:=by
  rw [ZkS hsz,Bool.and_false];exact Xbb
 refine call_meets F.slot_list_extend ⟨_,e,rfl⟩ F.entry_list_extend (F.args_list_extend_2 _ _)
  (AutoSeq1.list_extend_list_list_0 l its.toArray n b its2.toArray n2 hlong (by rw [Xak];omega) (by omega)) ⟨e,e2,?_⟩
 refine ⟨.non,_,I.lset (its':=its++its2) hH e (by simp) (r.append r2) ?_,rfl,q⟩;rw [Xac];omega
def rClear:V->List V->Hp->VK->Prop:=fun x vs H Q=>∃ l xs,x=.ref l/\vs=[]/\H l=some (.lst xs)/\Q .non (upd H l (.lst []))
theorem ZkT:MtM X "list.clear" rClear:=by
 intro pins s σ H x vs v us Q I rx rv h;obtain ⟨l,xs,rfl,rfl,hH,q⟩:=h;cases rx;have hus:=rv.zero;subst hus;obtain ⟨z,its,n,r,hl,e⟩:=I.lstM hH;refine call_meets F.slot_list_clear ⟨_,e,rfl⟩ F.entry_list_clear (F.args_list_clear_1 _) (AutoSeq1.list_clear_list_0 l its.toArray n (by rw [Xak];omega)) ⟨e,?_⟩;exact ⟨.non,_,I.lset (its':=[]) (ys:=[]) hH e rfl .nil (Xa0 _),rfl,q⟩
def rCat:R2:=fun x y H Q=>∃ l b xs zs,x=.ref l/\y=.ref b/\H l=some (.lst xs)/\H b=some (.lst zs)/\xs.length+zs.length<=sizeLine/\∀ p,H p=none->Q (.ref p) (upd H p (.lst (xs++zs)))
theorem Zfm:OpR X (binaryOp .Add) rCat:=by
 intro pins s σ H x y v u Q I rx ry h;obtain ⟨l,b,xs,zs,rfl,rfl,hH,hB,hz,q⟩:=h;cases rx;cases ry;obtain ⟨z,its,n,r,hl,e⟩:=I.lstM hH;obtain ⟨z2,its2,n2,r2,hl2,e2⟩:=I.lstM hB;refine PySem.P.add_list e e2 ?_ (by rw [Xak,Xak];omega)
 have ea:its.toArray++its2.toArray=(its++its2).toArray:=by simp
 rw [ea];exact ⟨.ref _,_,I.lnew (t':=s.toks) (r.append r2) (by rw [Xac];omega),rfl,q _ I.fresh⟩
end
section
variable {prog:Program} {w:World} {A:Around} {E:Value->Shared->Prop} {s:Shared}
end
section
variable {X:Cx}
end
section
variable {κ:Type} [DecidableEq κ]
def valV (kvs:List (κ×V)) (k:κ):Option V:=(kvs.find? fun kv=>decide (kv.1=k)).map (·.2)
def putK (kvs:List (κ×V)) (k:κ) (v:V):List (κ×V) :=
 if (kvs.any fun kv=>decide (kv.1=k))=true then kvs.map (fun kv=>if kv.1=k then (kv.1,v) else kv) else kvs++[(k,v)]
theorem Zbk {p:κ×V}{r:List (κ×V)} {k:κ} (e:p.1=k):valV (p :: r) k=some p.2:=by simp [valV,XaR,e]
theorem Zbl {p:κ×V}{r:List (κ×V)} {k:κ} (e:¬p.1=k):valV (p :: r) k=valV r k:=by simp [valV,XaR,e]
theorem Zdu (k:κ):∀ kvs:List (κ×V),(kvs.any fun kv=>decide (kv.1=k))=(valV kvs k).isSome
 | []=>rfl
 | p :: r=>by
   rw [List.any_cons]
   by_cases e:p.1=k
   . simp only [Zbk e,Xa5 e,Bool.true_or,Option.isSome_some]
   . rw [Zbl e,Xa6 e,Bool.false_or];exact Zdu k r
theorem ZhX (k j:κ) (y:V):∀ kvs:List (κ×V),valV (kvs.map fun kv=>if kv.1=k then (kv.1,y) else kv) j=(valV kvs j).map fun x=>if j=k then y else x
 | []=>rfl
 | p :: r => by
   have ih:=ZhX k j y r;rw [Xao]
   by_cases h:p.1=k
   . rw [Xbe h]
     by_cases e:p.1=j
     . rw [Zbk (p:=(p.1,y)) e,Zbk e,Option.map_some,Xbe (e.symm.trans h)]
     . rw [Zbl (p:=(p.1,y)) e,Zbl e,ih]
   . rw [Xbd h]
     by_cases e:p.1=j
     . rw [Zbk (p:=p) e,Zbk e,Option.map_some,Xbd (fun z=>h (e.trans z))]
     . rw [Zbl (p:=p) e,Zbl e,ih]
theorem ZgD (k j:κ) (y:V):∀ kvs:List (κ×V),valV kvs k=none->valV (kvs++[(k,y)]) j=if j=k then some y else valV kvs j
 | [],_=>by
   by_cases e:k=j
   . rw [Xbe e.symm];exact Zbk (p:=(k,y)) e
   . rw [Xbd (fun z=>e z.symm)];exact Zbl (p:=(k,y)) e
 | p :: r,hn=>by
   rw [List.cons_append]
   have hk:¬p.1=k:=fun z=>by rw [Zbk z] at hn;cases hn
   rw [Zbl hk] at hn;have ih:=ZgD k j y r hn
   by_cases e:p.1=j
   . rw [Zbk e,Zbk e,Xbd (fun z=>hk (e.trans z))]
   . rw [Zbl e,Zbl e,ih]
theorem ZkU (kvs:List (κ×V)) (k j:κ) (y:V):valV (putK kvs k y) j=if j=k then some y else valV kvs j:=by
 unfold putK
 by_cases a:(kvs.any fun kv=>decide (kv.1=k))=true
 . rw [Xbe a,ZhX]
   rw [Zdu] at a
   by_cases e:j=k
   . obtain ⟨x,hx⟩:=Option.isSome_iff_exists.mp a
     rw [Xbe e,e,hx,Option.map_some,Xbe rfl]
   . rw [Xbd e]
     cases valV kvs j with
     | none=>rfl
     | some x=>rw [Option.map_some,Xbd e]
 . rw [Xbd a]
   refine ZgD k j y kvs ?_;rw [Zdu] at a
   cases q:valV kvs k with
   | none=>rfl
   | some x=>rw [q] at a;exact (a rfl).elim
theorem Zer (kvs:List (κ×V)) (k:κ) (v:V):(putK kvs k v).length<=kvs.length+1:=by
 unfold putK
 split
 . rw [Xaa];omega
 . rw [Xac,XaB,XaN];omega
theorem RelO.isSome_eq {o:Option V}{u:Option Value} (r:RelO o u):o.isSome=u.isSome:=by
 cases o with
 | none=>cases u with
   | none=>rfl
   | some _=>exact (show False from r).elim
 | some _=>cases u with
   | none=>exact (show False from r).elim
   | some _=>rfl
theorem RelO.getD {o:Option V}{u:Option Value}{d:V}{d':Value} (r:RelO o u) (rd:RelV d d'):RelV (o.getD d) (u.getD d'):=by
 cases o with
 | none=>cases u with
   | none=>exact rd
   | some _=>exact (show False from r).elim
 | some _=>cases u with
   | none=>exact (show False from r).elim
   | some _=>exact r
theorem KV.val {kvs:List (κ×V)} {vs:List (κ×Value)} (r:KV kvs vs) (k:κ):RelO (valV kvs k) (valueAt vs k):=by
 unfold KV at r
 induction r with
 | nil=>exact True.intro
 | @cons p q ps qs h t ih =>
   obtain ⟨h1,h2⟩:=h
   by_cases e:p.1=k
   . have e':q.1=k:=h1.symm.trans e
     have b:valueAt (q :: qs) k=some q.2:=by simp [valueAt,XaR,e']
     rw [Zbk e,b];exact h2
   . have e':¬q.1=k:=fun z=>e (h1.trans z)
     have b:valueAt (q :: qs) k=valueAt qs k:=by simp [valueAt,XaR,e']
     rw [Zbl e,b];exact ih
end
variable {w:World}{u:Value}
theorem ZkV {P:Program}{k:Key}(r:RelV (kV k) u):(Za5 P w).is k u=true:=by
 cases k with
 | inl i=>obtain ⟨t,e⟩:=(show ∃ t,u=Value.int i t from r);subst e;exact Zhn P w i t
 | inr x=>obtain ⟨t,e⟩:=(show ∃ t,u=Value.str x t from r);subst e;exact Zho P w x t
theorem ZgE {P:Program}{w:World}:∀ {ks:List Key}{us:List Value},Vals (ks.map kV) us->ItemsAre (Za5 P w) ks us
 | [],_,r=>by rw [XaO] at r;cases r;exact .nil
 | k :: ks,_,r=>by
   rw [Xao] at r
   cases r with
   | cons h t=>exact .cons (ZkV h) (ZgE t)
abbrev KT (H:Hp):List (List Key×V)->List (List Key×Addr×Value)->Prop:=Paired fun p q=>p.1=q.1/\H q.2.1=some (.tup (p.1.map kV))/\RelV p.2 q.2.2
variable {H:Hp}{kvs:List (List Key×V)}{xs:List (List Key×Addr×Value)}
theorem KT.val (r:KT H kvs xs) (k:List Key):RelO (valV kvs k) ((atKey xs k).map (·.2)):=by
 induction r with
 | nil=>exact True.intro
 | @cons p q ps qs h t ih =>
   obtain ⟨h1,_,h2⟩:=h
   by_cases e:p.1=k
   . have e':q.1=k:=h1.symm.trans e
     have b:atKey (q :: qs) k=some q.2:=by simp [atKey,XaR,e']
     rw [Zbk e,b];exact h2
   . have e':¬q.1=k:=fun z=>e (h1.trans z)
     have b:atKey (q :: qs) k=atKey qs k:=by simp [atKey,XaR,e']
     rw [Zbl e,b];exact ih
variable {y:V}
theorem KT.repl (r:KT H kvs xs) (k:List Key) (ry:RelV y u) :
 KT H (kvs.map fun kv=>if kv.1=k then (kv.1,y) else kv) (xs.map (putAt k u)):=by
 induction r with
 | nil=>exact .nil
 | @cons p q ps qs h t ih =>
   rw [Xao,Xao];refine .cons ?_ ih;obtain ⟨h1,h2,h3⟩:=h;unfold putAt
   by_cases e:p.1=k
   . rw [Xbe e,Xbe (h1.symm.trans e)];exact ⟨h1,h2,ry⟩
   . rw [Xbd e,Xbd (fun z=>e (h1.trans z))];exact ⟨h1,h2,h3⟩
theorem KT.put (r:KT H kvs xs) (k:List Key) {b:Addr} (hb:H b=some (.tup (k.map kV))) (ry:RelV y u) :
 KT H (putK kvs k y) (storedH xs k b u):=by
 have e:(kvs.any fun kv=>decide (kv.1=k))=(atKey xs k).isSome:=by
  rw [Zdu,(r.val k).isSome_eq,Option.isSome_map]
 unfold putK storedH;rw [e]
 by_cases q:(atKey xs k).isSome=true
 . rw [Xbe q,Xbe q];exact r.repl k ry
 . rw [Xbd q,Xbd q];exact Paired.snoc r ⟨rfl,hb,ry⟩
theorem KT.keeps {H':Hp} (r:KT H kvs xs) (ht:∀ b ys,H b=some (.tup ys)->H' b=some (.tup ys)):KT H' kvs xs :=
 Paired.mapP r fun _ _ z=>⟨z.1,ht _ _ z.2.1,z.2.2⟩
section
variable {P:Program} {w:World} {H:Hp} {h:Heap} {a:Addr}
theorem rd_of {u:HO} (ok:HOk P w H h) (e:Rd H a u):ObjOk P w H h a u:=e.ok ok
theorem Zju {kvs:List (Key×V)} (ok:HOk P w H h) (e:Rd H a (.dK kvs)):kvs.length<=sizeLine/\(a == sysModules)=false/\∃ vs,KV kvs vs/\h.DictOf (Za5 P w) a vs :=
 show ObjOk P w H h a (.dK kvs) from rd_of ok e
theorem Zfn {ks:List Key} (ok:HOk P w H h) (e:H a=some (.tup (ks.map kV))):(tupleKind (Za5 P w)).is h ks a:=by
 obtain ⟨_,its,r,o,h1,h2,n,h3⟩:=(show ObjOk P w H h a (.tup (ks.map kV)) from ok a _ e);exact ⟨o,its.toArray,n,h1,h2,h3,by simpa using ZgE r⟩
theorem ZiH (ok:HOk P w H h) (e:Rd H a (.dT kvs)):kvs.length<=sizeLine/\(a == sysModules)=false /\
 ∃ xs,KT H kvs xs/\h.DictOfH (tupleKind (Za5 P w)) a xs:=by
 obtain ⟨z,y,xs,r,o,es,ep,h1,h2,h3,h4,h5⟩:=(show ObjOk P w H h a (.dT kvs) from rd_of ok e);refine ⟨z,y,xs,r,o,es,ep,h1,h2,h3,h4,fun x hx=>?_,h5⟩
 have all : ∀ {l : List (List Key × V)} {m : List (List Key × Addr × Value)}, KT H l m -> ∀ x ∈ m, (tupleKind (Za5 P w)).is h x.1 x.2.1 := by
  intro l m q
  induction q with
  | nil=>intro x hx;exact nomatch hx
  | @cons p q ps qs hq t ih =>
    intro x hx
    rcases Xam.mp hx with e | hx
    . subst e
      exact Zfn ok (by rw [<-hq.1];exact hq.2.1)
    . exact ih x hx
 exact all r x hx
theorem dt_of (ok:HOk P w H h) (e:H a=some (.dT kvs)):kvs.length<=sizeLine/\(a == sysModules)=false /\
 ∃ xs,KT H kvs xs/\h.DictOfH (tupleKind (Za5 P w)) a xs:=ZiH ok (.inl e)
end
def DGet (H:Hp) (a:Addr) (y:V) (r:Option V):Prop :=
 (∃ kvs k,Rd H a (.dK kvs)/\y=kV k/\r=valV kvs k)\/∃ kvs k b,Rd H a (.dT kvs)/\y=.ref b/\H b=some (.tup (k.map kV))/\r=valV kvs k
variable {a:Addr}
theorem DGet.t {b:Addr} {k:List Key} (e:H a=some (.dT kvs)) (eb:H b=some (.tup (k.map kV))):DGet H a (.ref b) (valV kvs k):=.inr ⟨kvs,k,b,.inl e,rfl,eb,rfl⟩
section
variable {X:Cx} {pins:List (Addr×Obj)} {σ:St} {H:Hp} {s:Shared} {a:Addr} {y v:V} {u r:Value} {o:Option V} {A:Around} {E:Value->Shared->Prop}
theorem Inv.big (I:Inv X pins σ H s):sysModules<s.heap.objs.size:=by
 have h:mainGlobals<s.heap.objs.size:=(I.mod.glob.keeps I.bk).lt;exact Nat.lt_trans (by decide) h
theorem Zjv {Q:Value->Shared->Prop} (hu:A.units+1<cLine) (I:Inv X pins σ H s) (g:DGet H a y (some v)) (ry:RelV y u) (h:∀ w' s',Inv X pins σ H s'->RelV v w'->Q w' s') :
 wpAny (model X.prog X.w) A (getItem (.ref a) u) Q E s:=by
 rcases g with ⟨kvs,k,e,ey,l⟩ | ⟨kvs,k,b,e,ey,eb,l⟩
 . subst ey
   obtain ⟨z,hd,vs,rel,dd⟩:=Zju I.hok e;obtain ⟨w',hw,rw'⟩:=RelO.some_of (v:=v) (o:=valueAt vs k) (by rw [l];exact rel.val k);exact wpAny_getItem_of (ZkV ry) dd.mapOf hw (h w' _ (I.tok _) rw')
 . subst ey
   cases (show u=Value.ref b from ry);obtain ⟨z,hd,xs,rel,dd⟩:=ZiH I.hok e;obtain ⟨w',hw,rw'⟩:=RelO.some_of (v:=v) (o:=(atKey xs k).map (·.2)) (by rw [l];exact rel.val k);obtain ⟨p,hp,hp2⟩:=XaV.mp hw;refine wpAny_getItem_heap (tupleKind_room_in1 hu) (Zfn I.hok eb) dd hp ?_;rw [hp2];exact h w' _ (I.tok _) rw'
theorem d_in {Q:Value->Shared->Prop} (hu:A.units+1<cLine) (I:Inv X pins σ H s) (g:DGet H a y o) (ry:RelV y u) (h:∀ s',Inv X pins σ H s'->Q (.bool o.isSome) s') :
 wpAny (model X.prog X.w) A (compareOp .In u (.ref a)) Q E s:=by
 rcases g with ⟨kvs,k,e,ey,l⟩ | ⟨kvs,k,b,e,ey,eb,l⟩
 . subst ey
   obtain ⟨z,hd,vs,rel,dd⟩:=Zju I.hok e;refine wpAny_in_of (ZkV ry) hd dd.mapOf ?_;rw [<-(rel.val k).isSome_eq,<-l];exact h _ (I.tok _)
 . subst ey
   cases (show u=Value.ref b from ry);obtain ⟨z,hd,xs,rel,dd⟩:=ZiH I.hok e;refine wpAny_in_heap (tupleKind_room_in1 hu) (Zfn I.hok eb) hd dd ?_;have q:=(rel.val k).isSome_eq;rw [Option.isSome_map] at q;rw [<-q,<-l];exact h _ (I.tok _)
theorem Zjw {h':Heap}{t':Nat}{ob:HO} (I:Inv X pins σ H s) (mu:Mut (H a)) (hs:Heap.SameBut a s.heap h') (he:∃ q,h'.get? a=some q) (new:ObjOk X.prog X.w (upd H a ob) h' a ob) :
 Inv X pins σ (upd H a ob) { s with heap:=h',toks:=t' } :=
 I.write (x:=a) (e:=a) mu (.inl rfl) (fun b q hb z=>(hs.2 b hb).trans z) he new
end
section
variable {X:Cx} {pins:List (Addr×Obj)} {σ:St} {H:Hp} {s:Shared} {a:Addr} {kvs:List (Key×V)} {k:Key} {u:Value} {A:Around} {E:Value->Shared->Prop}
end
def NoSl (i:Expr):Prop:=∀ ov iv,subscripted i false ov iv=operate [ov,iv] (getItem ov iv)
variable {s:Shared}
theorem subD_of {prog:Program}{A:Around}{E:Value->Shared->Prop}{env:Env}{value slice:Expr}{pos:Pos}{T id:String}{Q:Value->Shared->Prop}
 (hl:typeLookup (.type T) "__getitem__" = pure (some (.builtin id))) (hs:NoSl slice)
 (h:wpAny (model prog w) A (eval value env) (fun o s₁=>wpAny (model prog w) A (eval slice env) (fun i s₂=>s₂.TypeIs o T/\wpAny (model prog w) A (getItem o i) Q E s₂) E s₁) E s) :
 wpAny (model prog w) A (eval (.Subscript value slice pos) env) Q E s:=by
 refine Subscript_ (Xbu h (fun o s₁ h₁=>Xbu h₁ (fun i s₂ h₂=>?_) fun _ _ x=>x) fun _ _ x=>x);obtain ⟨hT,h₂⟩:=h₂;unfold subscriptTail;refine Xbk ?_;rw [getitemInPython_of_ne hT.not_modules];refine Xbk (wpAny_specialOf hT hl ?_)
 have fin:wpAny (model prog w) A (subscripted slice false o i) (fun r s₃=>wpAny (model prog w) A (letTemporaryGo value o r >>= fun _=>pure r) Q E s₃) E s₂:=by
  rw [hs o i];exact wpAny_operating (Xbu h₂ (fun r s₃ h₃=>Xbk (wpAny_letTemporaryGo (Xbl h₃))) fun _ _ x=>x)
 first
  | exact Xbl (Xbk fin)
  | exact Xbk (Xbl (Xbk fin))
  | exact Xbk fin
theorem Zht {X:Cx}{pins:List (Addr×Obj)} {σ:St} {o:Option V} (I:Inv X pins σ H s) (g:DGet H a y o):s.TypeIs (.ref a) "dict" := by
 rcases g with ⟨kvs,k,e,_,_⟩ | ⟨kvs,k,b,e,_,_,_⟩
 . obtain ⟨_,_,vs,_,dd⟩:=Zju I.hok e
   exact dd.typeIs
 . obtain ⟨_,_,xs,_,dd⟩:=ZiH I.hok e
   exact dd.typeIs
def tDGet (td ty:TE):TE:=fun σ H Q=>td σ H fun x H1=>ty σ H1 fun y H2=>∃ a v,x=.ref a/\DGet H2 a y (some v)/\Q v H2
section
variable {X:Cx} {o i e value:Expr} {pos pos' tpos:Pos} {td ty tv:TE}
theorem pe_dget (hu:X.A.units+1<cLine) (ho:PE X o td) (hi:PE X i ty) (hs:NoSl i):PE X (.Subscript o i pos) (tDGet td ty):=by
 intro pins s σ H Q I h;refine subD_of PySem.F.slot_dict_getitem.lookup hs (thn (ho pins s σ H _ I h) fun u s1 ⟨x,H1,I1,rx,q1⟩=>thn (hi pins s1 σ H1 _ I1 q1) fun iv s2 ⟨y,H2,I2,ry,a,v,ex,g,q2⟩=>?_);subst ex;obtain rfl:u=Value.ref a:=rx;exact ⟨Zht I2 g,Zjv hu I2 g ry fun w' s3 I3 rw'=>⟨v,H2,I3,rw',q2⟩⟩
end
theorem ZhY {P:Program}(h:Heap) (hb:sysModules<h.objs.size):ObjOk P w H (h.push { cls:=.type "dict",data:=.dict #[] }) h.objs.size (.dT []) :=
 ⟨Xa0 _,beq_eq_false_iff_ne.mpr (Ne.symm (XaZ hb)),[],.nil,_,#[],0,Xbq _ rfl,⟨rfl,rfl,rfl⟩,rfl,rfl,List.nodup_nil⟩
def tDNewT:TE:=fun _ H Q=>∀ p,H p=none->Q (.ref p) (upd H p (.dT []))
section
variable {X:Cx} {pos:Pos}
theorem ZfF:PE X (.Dict [] [] pos) tDNewT:=fun pins s σ H Q I h =>
 wpAny_Dict_empty ⟨.ref s.heap.objs.size,_,I.laid (a:=s.heap.objs.size) (o:=.dT []) (t':=s.toks) (fun _ _ q=>Xbo _ q) (XaW _) (ZhY s.heap I.big),rfl,h _ (I.hok.fresh (XaW _))⟩
end
structure M2 (X:Cx) (o:Expr) (m:Str) (apos:Pos) (e f:Expr) (cpos:Pos):Prop where
 base:attributeBase o m X.env (eval o X.env)=eval o X.env
 few:((backTo cpos (starEach [e,f] X.env)).all (fun x=>!x.1) && (backToKw cpos (keywordEach [] X.env)).all (fun x=>x.1.isSome)
  && decide (([e,f]:List Expr).length+([]:List Keyword).length+(if ([]:List Keyword).isEmpty then 0 else 1)<30))=true
 line:(apos.endLine == cpos.line)=true
 trees:backTo cpos (starEach [e,f] X.env)=[(false,eval e X.env),(false,eval f X.env)]
def IsD (H:Hp) (a:Addr):Prop:=(∃ kvs,Rd H a (.dK kvs))\/∃ kvs,Rd H a (.dT kvs)
theorem isD_at {X:Cx}{pins:List (Addr×Obj)} {σ:St} (I:Inv X pins σ H s) (d:IsD H a) :
 s.TypeIs (.ref a) "dict" /\ (∀ b,Value.ref a=.ref b->∃ ob,s.heap.get? b=some ob/\ob.dict=none)/\(a == sysModules)=false:=by
 rcases d with ⟨kvs,e⟩ | ⟨kvs,e⟩
 . obtain ⟨_,hd,vs,_,dd⟩:=Zju I.hok e
   refine ⟨dd.typeIs,fun b q=>?_,hd⟩;cases q;obtain ⟨ob,_,_,h1,h2,_⟩:=dd;exact ⟨ob,h1,h2.2.1⟩
 . obtain ⟨_,hd,xs,_,dd⟩:=ZiH I.hok e
   refine ⟨dd.typeIs,fun b q=>?_,hd⟩;cases q;obtain ⟨ob,_,_,h1,h2,_⟩:=dd;exact ⟨ob,h1,h2.2.1⟩
section
variable {X:Cx} {pins:List (Addr×Obj)} {σ:St} {H:Hp} {s:Shared} {a:Addr} {y d:V} {u r:Value} {o:Option V} {A:Around} {E:Value->Shared->Prop}
theorem d_get2 {Q:Value->Shared->Prop} (hu:A.units+1<cLine) (I:Inv X pins σ H s) (g:DGet H a y o) (ry:RelV y u) (rd:RelV d r) (h:∀ w' s',Inv X pins σ H s'->RelV (o.getD d) w'->Q w' s') :
 wpAny (model X.prog X.w) A (call (.builtin "dict.get") [.ref a,u,r]) Q E s:=by
 rcases g with ⟨kvs,k,e,ey,l⟩ | ⟨kvs,k,b,e,ey,eb,l⟩
 . subst ey
   obtain ⟨z,hd,vs,rel,dd⟩:=Zju I.hok e;refine call_meetsIn PySem.F.slot_dict_get dd.typeIs PySem.F.entry_dict_get (PySem.F.args_dict_get_3 _ _ _) (meets_dict_get_default (Za5 X.prog X.w) a (ZkV ry) hd r) ⟨_,dd.mapOf,h _ _ (I.tok _) ?_⟩;rw [l];exact (rel.val k).getD rd
 . subst ey
   cases (show u=Value.ref b from ry);obtain ⟨z,hd,xs,rel,dd⟩:=ZiH I.hok e;refine call_meetsIn PySem.F.slot_dict_get dd.typeIs PySem.F.entry_dict_get (PySem.F.args_dict_get_3 _ _ _) (meetsH_dict_get_default (tupleKind (Za5 X.prog X.w)) a b hd r) ⟨tupleKind_room_in1 hu,k,xs,Zfn I.hok eb,dd,h _ _ (I.tok _) ?_⟩;rw [l];exact (rel.val k).getD rd
end
def tDGet2 (td ty tx:TE):TE:=fun σ H Q=>td σ H fun x H1=>∃ a,x=.ref a/\IsD H1 a/\ty σ H1 fun y H2=>tx σ H2 fun z H3=>∃ o,DGet H3 a y o/\Q (o.getD z) H3
section
variable {X:Cx} {o e f:Expr} {apos cpos:Pos} {td ty tx:TE}
theorem ZkW (hu:X.A.units+1<cLine) (ho:PE X o td) (he:PE X e ty) (hf:PE X f tx) (m:M2 X o "get" apos e f cpos):PE X (.Call (.Attribute o "get" apos) [e,f] [] cpos) (tDGet2 td ty tx):=by
 intro pins s σ H Q I h;refine wpAny_Call_method m.base m.few m.line PySem.F.plainAttrs_dict PySem.F.slot_dict_get PySem.F.type_dict_get (thn (ho pins s σ H _ I h) fun u s1 ⟨x,H1,I1,rx,a,ex,d,q1⟩=>?_);subst ex;obtain rfl:u=Value.ref a:=rx;obtain ⟨t1,t2,_⟩:=isD_at I1 d;refine ⟨t1,t2,?_⟩;rw [m.trees]
 refine Calls.callWith_builtin rfl (Calls.evalArgs_plain (Calls.spliced_cons (thn (he pins s1 σ H1 _ I1 q1) fun iv s2 ⟨y,H2,I2,ry,q2⟩ =>
  Calls.spliced_cons (thn (hf pins s2 σ H2 _ I2 q2) fun fv s3 ⟨z,H3,I3,rz,ov,g,q3⟩=>Calls.spliced_nil ?_))))
 exact d_get2 hu I3 g ry rz fun w' s4 I4 rw'=>⟨_,H3,I4,rw',q3⟩
end
section
variable {X:Cx} {pins:List (Addr×Obj)} {σ:St} {H:Hp} {s:Shared} {a:Addr} {kvs:List (Key×V)} {A:Around} {E:Value->Shared->Prop}
end
section
variable {X:Cx} {pins:List (Addr×Obj)} {σ:St} {H:Hp} {s:Shared} {a:Addr} {y:V} {u:Value} {A:Around} {E:Value->Shared->Prop}
end
end L2
namespace Att
open PySem PySem.W PySem.Calls PyProof.Rows
theorem Zes {P:Params}{h:Heap}:∀ (ns:List Int) (vs:List Value),WellAll P h vs (ns.map WData.int)->IntsAre vs ns:=by
 intro ns
 induction ns with
 | nil =>
   intro vs w;rw [XaO] at w;cases w;exact .nil
 | cons n ns ih =>
   intro vs w;rw [Xao] at w
   cases w with
   | cons a b =>
     cases a;exact .cons _ _ (ih _ b)
theorem Zjx {l:OpenLaw}{n:Nat} (hn:l.most=some n) {P:Params} {h:Heap} {args:List WData} {vals:List Value}
 (hpre:l.row.toRowW.claim.pre args=true) (hwl:WellAll P h vals args) :
 ∃ a vs ns,vals=[Value.ref a]/\args=[WData.list (ns.map WData.int)]/\h.get? a=some { cls:=.type "list",data:=.seq vs.toArray }/\IntsAre vs ns/\ns.length<=n:=by
 have hsh:WShape.hasAll [] args [.list .int]=true:=(pre_splitW hpre).1;have hc:l.pre.holds [] { args:=args }=true:=(pre_splitW hpre).2;obtain ⟨d,r,rfl,h1,h2⟩:=hasAllW_cons hsh;obtain rfl:=hasAllW_nil h2;obtain ⟨xs,rfl,h3⟩:=hasW_list h1;obtain ⟨ns,rfl⟩:=items_int h3
 have hlen:ns.length<=n:=by
  unfold OpenLaw.pre at hc
  have h4:(WTm.not (.lt (.lit (.int (n:Int))) (.len (.arg 0)))).holds [] { args:=[.list (ns.map .int)] }=true:=by
   have h4:=(holds_andW hc).1;rw [hn] at h4;exact h4
  have h5:=condW_of h4 (w_not (w_lt w_lit (w_len_list (w_arg rfl))));rw [Xaa] at h5;refine Nat.le_of_not_lt fun q=>?_
  have q':(n:Int)<((ns.length:Nat):Int):=by omega
  first
   | (rw [Xa5 q'] at h5;exact absurd h5 (by decide))
   | (simp at h5;omega)
 cases hwl with
 | cons w1 w2 =>
   cases w2
   cases w1 with
   | list ho hall=>exact ⟨_,_,ns,rfl,rfl,ho,Zes ns _ hall,hlen⟩
theorem Zjy (l:OpenLaw) (args:List WData):l.row.toRowW.claim.post args (.bool true) args=true :=
 postW_of (r:=l.row.toRowW) (X:=(true == true))
  (show WShape.has [] (.bool true) .bool=true by first | rfl | decide | simp [WShape.has,WShape.arms,WShape.armsAll])
  (show (WTm.eq .res (.lit (.bool true))).value [] { args:=args,res:=some (.bool true),after:=args }=some (.bool (true == true)) from w_eq_bool (w_res rfl) w_lit) rfl
theorem attach_call {l:OpenLaw}{n:Nat}{q:Program}{loose:List Str}{XP:(Str->Option Value)->Heap->Prop} {YP:World->Heap->Prop} {d:DefRec}
 (hn:l.most=some n) (hdf:d.params.defaults=[])
 (call:∀ (w:World) (s₀ s₁:Shared) (mg mb:Str->Option Value) (fa:Addr) (o:Obj) (pm cd doc:Value) (a:Addr) (vs:List Value) (ns:List Int),
  Ground q loose [] XP w s₀ mg mb s₁.heap->YP w s₁.heap ->
  s₁.heap.get? fa=some o->o.data=.func (docDef d.name d.params d.body d.scope pm cd doc)->s₁.heap.CodeRec cd d.name->mg d.name=some (.ref fa) ->
  s₁.heap.get? a=some { cls:=.type "list",data:=.seq vs.toArray }->IntsAre vs ns->ns.length<=n->s₁.gens=#[] ->
  codeAny (model l.prog w) callerA (.call (.ref fa) ⟨[.ref a],[]⟩) (fun r s'=>r=.ok (.ret (.bool true))/\OldK s₁.heap s'.heap/\s'.os=s₁.os/\AllBare s'.gens) s₁) :
 WalkO q loose XP YP l.row.toRowW d [] (fun f vs=>PySem.call f vs):=by
 intro w s₀ s₁ mg mb G Y fa o pm cd doc dV kV ho hd hcd hD hmg hg args vals as hpre hlay hrd hwl hlo;obtain rfl:dV=.none:=Dflts.none hD hdf;obtain rfl:kV=.none:=Dflts.noKw hD;obtain ⟨a,vs,ns,rfl,rfl,hobj,hints,hlen⟩:=Zjx hn hpre hwl;refine enter_call (codeAny_mono (call w s₀ s₁ mg mb fa o pm cd doc a vs ns G Y ho (fd_plain hd) hcd hmg hobj hints hlen hg) fun r s' hq=>?_);obtain ⟨rfl,h2,h3,h4⟩:=hq
 exact ⟨.inl ⟨.bool true,.bool true,[],rfl,fun _=>rfl,.bool true,Zjy l _,fun _=>⟨List.Pairwise.nil,fun _ hm=>(nomatch hm)⟩⟩,h2,h3,h4⟩
section
variable {prog:Program} {w:World} {A:Around} {E:Value->Shared->Prop} {s:Shared} {K:Frag}
end
end Att
namespace L2
open PySem PySem.Spec PyProof.Rows
theorem ZgF:∀ {vs:List Value}{ns:List Int},IntsAre vs ns->Vals (ns.map V.int) vs
 | _,_,.nil=>.nil
 | _,_,.cons n t h=>.cons ⟨t,rfl⟩ (ZgF h)
def Only (H:Hp):Prop:=∀ b,H b=none\/∃ o xs,H b=some (.frz o (.lst xs))
variable {P:Program}{w:World}{k:Nat}{a:Addr}{fd:FuncData}{x:Str}
theorem ZkX {K : XFg} {mg mb : Str -> Option Value} {CX : CXT} {fa:Addr} {sp : Sp} {s₁ : Shared} {vs : List Value} {ns : List Int}
 (KX:K.In s₁.heap) (hns:s₁.heap.Ns mainGlobals mg) (hb:s₁.heap.Ns builtinsNs mb) (hbb:∀ x:Str,x ≠ "__name__" -> mb x=bootBuiltins x) (hlim:s₁.heap.NoLimit) (hg:s₁.gens=#[])
 (ha:s₁.heap.get? a=some { cls:=.type "list",data:=.seq vs.toArray }) (hi:IntsAre vs ns) (hl:ns.length<=sizeLine) (hr:Room k callerA)
 (F:∀ base:Heap,K.In base->base.Ns mainGlobals mg->FnOk P w K mg base CX k fa fd [x] sp) (hbind:∀ (s:Shared) (u:Value),BindsTo s fd ⟨[u],[]⟩ [(x,u)])
 (hsp:∀ H:Hp,Only H->SqL K H a (ns.map V.int)->sp [.ref a] H (fun v _=>v=.bl true) fun _ _ _=>False)
 (hCX:∀ H e s',CX [] H s₁ (fun _ _ _=>False) e s'->False) :
 codeAny (model P w) callerA (.call (.ref fa) ⟨[.ref a],[]⟩) (fun r s'=>r=.ok (.ret (.bool true))/\OldK s₁.heap s'.heap/\s'.os=s₁.os/\AllBare s'.gens) s₁:=by
 have rv:=ZgF hi;have lenV:=hi.length
 have core : ∀ H : Hp, Only H -> SqL K H a (ns.map V.int) -> HOk P w H s₁.heap -> (∀ b, H b ≠ none -> b = a) -> (H a ≠ none -> K.lookup a = none) ->
  codeAny (model P w) callerA (.call (.ref fa) ⟨[.ref a],[]⟩) (fun r s'=>r=.ok (.ret (.bool true))/\OldK s₁.heap s'.heap/\s'.os=s₁.os/\AllBare s'.gens) s₁:=by
  intro H hO hS hok hA hK;have base_of:∀ {b:Addr} {o:Obj},s₁.heap.get? b=some o->H b=none->(hidT s₁.heap H).get? b=some o:=fun e n=>ZkO e n
  have noA:∀ {b:Addr} {o:Obj} {es:Array DictEntry} {ep:Nat},s₁.heap.get? b=some o->o.data=.dict es ep->H b=none:=fun {b o es ep} e d=>by
   cases q:H b with
   | none=>rfl
   | some u =>
     have e':b=a:=hA b (by rw [q];simp);subst e';rw [ha] at e;cases e;have d':Data.seq vs.toArray _=Data.dict es ep:=d;cases d'
  have nsK:∀ {b:Addr} {m:Str->Option Value},s₁.heap.Ns b m->(hidT s₁.heap H).Ns b m:=fun {b m} ⟨o,es,ep,e,d,r⟩=>⟨o,es,ep,base_of e (noA e d),d,r⟩
  have hKb:K.In (hidT s₁.heap H):=fun b o e=>base_of (KX b o e) (by
   cases q:H b with
   | none=>rfl
   | some u =>
     have e':b=a:=hA b (by rw [q];simp);subst e'
     rw [hK (by rw [q];simp)] at e;cases e)
  have hM:Mod K mg (hidT s₁.heap H):=⟨hKb,nsK hns,⟨mb,nsK hb,hbb⟩,let ⟨mc,h1,h2⟩:=hlim;⟨mc,nsK h1,h2⟩⟩;have e0:Env0 P w K mg (hidT s₁.heap H) callerA [] s₁ H:=⟨rfl,hM,fun b o e=>of_hidT e,Nat.le_of_eq (Zjd _ _),trivial,fun b hb=>absurd (show b∈([]:List Addr) from hb) (by simp),hok,.of_eq hg⟩;refine codeAny_mono ((F _ hKb (nsK hns)).run callerA [] s₁ H ⟨[.ref a],[]⟩ [.ref a] [.ref a] _ _ hr e0 (hbind s₁ (.ref a)) (.cons rfl .nil) (hsp H hO hS)) fun r s' h=>?_
  cases r with
  | error e=>exact (hCX H e s' h).elim
  | ok fl =>
    cases fl with
    | next=>exact False.elim h
    | brk=>exact False.elim h
    | cont=>exact False.elim h
    | ret u =>
      obtain ⟨v,H',os,bare,un,hok',r',q⟩:=h;have q':v=.bl true:=q;subst q';obtain rfl:u=Value.bool true:=r';refine ⟨rfl,OldK.of_keep fun b o e=>?_,os,bare⟩
      cases q:H b with
      | none=>exact un.keep b o e q (by intro z;exact absurd (show b∈([]:List Addr) from z) (by simp)) (by simp)
      | some u =>
        rcases hO b with z | ⟨ob,xs,z⟩
        . rw [q] at z;cases z
        . have z2:=un.frzs b ob _ z
          obtain ⟨e1,_⟩:=hok b _ z;obtain ⟨e2,_⟩:=hok' b _ z2;rw [e] at e1;cases e1;exact e2
 cases hk:K.lookup a with
 | some o =>
   have e:=KX a o hk;rw [ha] at e;cases e;refine core (fun _=>none) (fun _=>.inl rfl) (.inr ⟨_,vs.toArray,_,hk,rfl,rfl,rfl,by rw [Xak,lenV];exact hl,by simpa using rv⟩) (fun b u z=>by have z':(none:Option HO)=some u:=z;cases z') (fun b z=>absurd rfl z) fun z=>absurd rfl z
 | none =>
   refine core (fun b=>if b=a then some (.frz { cls:=.type "list",data:=.seq vs.toArray } (.lst (ns.map V.int))) else none) (fun b=>?_) (.inl (.inr ⟨{ cls:=.type "list",data:=.seq vs.toArray },Xbe rfl⟩)) (fun b u z=>?_) (fun b z=>?_) fun _=>hk
   . by_cases hb:b=a
     . exact .inr ⟨_,_,Xbe hb⟩
     . exact .inl (Xbd hb)
   . by_cases hb:b=a
     . have z':=(Xbe hb).symm.trans z
       cases z';subst hb;exact ⟨ha,by rw [Xaa];exact hl,vs,_,rv,ha⟩
     . have z':=(Xbd hb).symm.trans z
       cases z'
   . by_cases hb:b=a
     . exact hb
     . exact absurd (Xbd hb) z
variable {n:Nat}
theorem walk_of {l:PySem.W.OpenLaw}{q:Program}{loose:List Str}{XP:(Str->Option Value)->Heap->Prop} {YP:World->Heap->Prop} {d:DefRec} {K:Params->XFg} {CX:World->CXT} {sp:World->Sp} (hn:l.most=some n) (hn2:n<=sizeLine) (hdf:d.params.defaults=[]) (hr:Room k callerA)
 (hY:∀ (w:World) (h:Heap),YP w h->(K w.params).In h)
 (F:∀ (w:World) (mg:Str->Option Value) (fa:Addr) (h:Heap),(K w.params).In h->h.Ns mainGlobals mg->mg d.name=some (.ref fa) ->
  ∃ fd:FuncData,(∀ (s:Shared) (u:Value),BindsTo s fd ⟨[u],[]⟩ [(x,u)]) /\
   ∀ base:Heap,(K w.params).In base->base.Ns mainGlobals mg->FnOk l.prog w (K w.params) mg base (CX w) k fa fd [x] (sp w))
 (hsp:∀ (w:World) (H:Hp) (a:Addr) (ns:List Int),ns.length<=n->Only H->SqL (K w.params) H a (ns.map V.int)->sp w [.ref a] H (fun v _=>v=.bl true) fun _ _ _=>False)
 (hCX:∀ (w:World) (H:Hp) (s:Shared) (e:Value) (s':Shared),CX w [] H s (fun _ _ _=>False) e s'->False) :
 PySem.W.WalkO q loose XP YP l.row.toRowW d [] (fun f vs=>PySem.call f vs):=by
 refine Att.attach_call hn hdf fun w s₀ s₁ mg mb fa o pm cd doc a vs ns G Y ho hd hcd hmg hobj hints hlen hg=>?_;have KX:=hY w _ Y;obtain ⟨fd,hb,hF⟩:=F w mg fa _ KX G.T.g hmg;exact ZkX KX G.T.g G.T.b G.T.builtins G.T.nolimit hg hobj hints (Xbg hlen hn2) hr hF hb (fun H hO hS=>hsp w H a ns hlen hO hS) fun H e s'=>hCX w H s₁ e s'
abbrev CX0:CXT:=fun _ _ _ _ _ _=>False
abbrev E0:XK:=fun _ _ _=>False
variable {X:Cx}
theorem pass0 :Zjn CX0 X E0:=fun _ _ _ _ _ _ _ h=>h.elim
structure Fun (K:XFg) (x qual:Str) (st:Stmt) (f:Addr) (fd:FuncData):Prop where
 ex:∃ (oc:Value) (od:Option Addr) (kV doc pm:Value) (an:Option Addr) (cdv ct:Value) (osl:Array (Option Value)),
  fd=PySem.W.fnOf x qual (Zdd st) (Zcu st) (Zaj st) .none kV doc pm an cdv ct/\K.lookup f=some ⟨oc,od,.func fd,osl⟩/\PySem.W.codeIn K cdv qual=true
 kp:PySem.W.keepIn K (.ref f)=true
section
variable {P:Program} {w:World} {K:XFg} {mg:Str->Option Value} {base:Heap}
variable {qual:Str}{st:Stmt}{f:Addr}
theorem Fun.ok {N ps:List Str}{sp:Sp} (F:Fun K x qual st f fd) (S:FnScope N ps (Zaj st)) (len:∀ vs H Q E,sp vs H Q E->vs.length=ps.length)
 (hbody:∀ (cdv:Value) (A:Around) (outer:List Env) (s:Shared) (H:Hp) (vs:List V) (Q:VK) (E:XK),Room k (A.deeper (envOfC qual (Zaj st) s.heap.objs.size f cdv))->sp vs H Q E ->
  ∃ t,PSs (cxOf CX0 P w K mg base N qual (Zaj st) f cdv A outer s H E).nox (Zcu st) t/\t { nx:=fun _ H'=>Q .non H',rt:=Q } (start N vs) H):FnOk P w K mg base CX0 (k+1) f fd ps sp:=by
 obtain ⟨oc,od,kV,doc,pm,an,cdv,ct,osl,rfl,lk,hcd⟩:=F.ex;refine fn_of lk hcd S len fun A outer s H vs Q E hr hsp=>?_;obtain ⟨t,h,q⟩:=hbody cdv A outer s H vs Q E hr hsp;exact ⟨t,h.nox,q⟩
theorem Fun.binds {ps:List Str} (F:Fun K x qual st f fd)
 (h:∀ (kV doc pm:Value) (an:Option Addr) (cdv ct:Value) (us:List Value),us.length=ps.length->bindArgs (PySem.W.fnOf x qual (Zdd st) (Zcu st) (Zaj st) .none kV doc pm an cdv ct) ⟨us,[]⟩=pure (ps.zip us)):Binds K fd ps []:=by
 obtain ⟨oc,od,kV,doc,pm,an,cdv,ct,osl,rfl,lk,hcd⟩:=F.ex;exact .all (h kV doc pm an cdv ct)
theorem fun_mk {oc:Value}{od an:Option Addr}{osl:Array (Option Value)} {kV doc pm cdv ct:Value} (l:K.lookup f=some ⟨oc,od,.func (PySem.W.fnOf x qual (Zdd st) (Zcu st) (Zaj st) .none kV doc pm an cdv ct),osl⟩)
 (c:PySem.W.codeIn K cdv qual=true) (k:PySem.W.keepIn K (.ref f)=true):Fun K x qual st f (PySem.W.fnOf x qual (Zdd st) (Zcu st) (Zaj st) .none kV doc pm an cdv ct):=⟨⟨oc,od,kV,doc,pm,an,cdv,ct,osl,rfl,l,c⟩,k⟩
end
variable {A:Around}
theorem ZkY (hr:Room k A):A.units+1<cLine:=Nat.lt_of_le_of_lt (Nat.add_le_add_left (by decide:1<=64) _) hr.units
theorem Zan (h:n<=1000):n<sizeLine:=Nat.lt_of_le_of_lt h (by decide)
section
variable {X:Cx}
theorem pv (i:Nat) {pos:Pos} (hN:X.N[i]?=some x:=by rfl) (hv:Vis X.env.scope x:=by first | exact Or.inl rfl | exact Or.inr (Or.inl rfl) | exact Or.inr (Or.inr rfl)) (hd:(x == ("__debug__" : Str))=false:=by decide)
 (hcd:(x == ("__classdict__" : Str))=false:=by decide):PE X (.Name x pos) (tVar i):=pe_var hN hv hd hcd
end
variable {B:Prop}
theorem iteF {A:Prop} (h:B):if false=true then A else B:=by
 rw [Xbd Xbb];exact h
theorem iteT {A:Prop} (h:A):if true=true then A else B:=by
 rw [Xbe rfl];exact h
theorem ite2 {c A:Prop} [Decidable c] (h1:c->A) (h2:¬c->B):if c then A else B:=by
 by_cases h:c
 . rw [Xbe h]
   exact h1 h
 . rw [Xbd h]
   exact h2 h
def Same (H H':Hp):Prop:=∀ b o,H b=some o->H' b=some o
theorem Same.refl (H:Hp):Same H H:=fun _ _ h=>h
variable {H:Hp}
theorem Same.trans {H1 H2:Hp} (a:Same H H1) (b:Same H1 H2):Same H H2:=fun c o h=>b c o (a c o h)
variable {H':Hp}
theorem Same.free (e:Same H H') {l:Addr} (h:H' l=Option.none):H l=Option.none:=by
 cases q:H l with
 | none=>rfl
 | some o =>
   rw [e l o q] at h;cases h
variable {xs:List V}
theorem Same.seq {K:XFg}(e:Same H H') (h:SqL K H a xs):SqL K H' a xs:=by
 rcases h with (h | ⟨o,h⟩) | h
 . exact .inl (.inl (e _ _ h))
 . exact .inl (.inr ⟨o,e _ _ h⟩)
 . exact .inr h
section
variable {κ:Type} [DecidableEq κ]
end
inductive Ty where
 | int | bool | str | non | lst | tup | dct
 deriving DecidableEq
def Ty.name:Ty->String
 | .int => "int" | .bool => "bool" | .str => "str" | .non => "NoneType" | .lst => "list" | .tup => "tuple" | .dct => "dict"
inductive TyN (K:XFg) (H:Hp):V->Ty->Prop where
 | int (i:Int):TyN K H (.int i) .int
 | bl (b:Bool):TyN K H (.bl b) .bool
 | str (x:Str):TyN K H (.str x) .str
 | non:TyN K H .non .non
 | lst {a:Addr} {xs:List V} (h:SqL K H a xs):TyN K H (.ref a) .lst
 | tup {a:Addr} {xs:List V} (h:SqT K H a xs):TyN K H (.ref a) .tup
 | dk {a:Addr} {kvs:List (Key×V)} (h:H a=some (.dK kvs)):TyN K H (.ref a) .dct
def isiB:Ty->Ty->Bool
 | .int,.int=>true | .bool,.bool=>true | .bool,.int=>true | .str,.str=>true | .non,.non=>true | .lst,.lst=>true | .tup,.tup=>true | .dct,.dct=>true | _,_=>false
def rIsi (K:XFg):List V->Hp->VK->Prop:=fun vs H Q=>∃ x T T',vs=[x,.ty (Ty.name T)]/\TyN K H x T'/\Q (.bl (isiB T' T)) H
theorem ZbF :CallR X (.builtin "isinstance") (rIsi X.K):=by
 intro pins s σ H vs us Q I r h;obtain ⟨x,T,T',rfl,ty,q⟩:=h;obtain ⟨u,u2,rfl,ru,ru2⟩:=Zgv r;have e2:u2=Value.type (Ty.name T):=ru2;subst e2
 cases ty with
 | int i =>
   obtain ⟨t,rfl⟩:=ru
   cases T with
   | int=>exact IsiPair.int_int ⟨.bl true,H,I,rfl,q⟩
   | bool=>exact IsiPair.int_bool ⟨.bl false,H,I.tok _,rfl,q⟩
   | str=>exact IsiPair.int_str ⟨.bl false,H,I.tok _,rfl,q⟩
   | non=>exact IsiPair.int_NoneType ⟨.bl false,H,I.tok _,rfl,q⟩
   | lst=>exact IsiPair.int_list ⟨.bl false,H,I.tok _,rfl,q⟩
   | tup=>exact IsiPair.int_tuple ⟨.bl false,H,I.tok _,rfl,q⟩
   | dct=>exact IsiPair.int_dict ⟨.bl false,H,I.tok _,rfl,q⟩
 | bl b =>
   obtain rfl:u=Value.bool b:=ru
   cases T with
   | int=>exact IsiPair.bool_int ⟨.bl true,H,I,rfl,q⟩
   | bool=>exact IsiPair.bool_bool ⟨.bl true,H,I,rfl,q⟩
   | str=>exact IsiPair.bool_str ⟨.bl false,H,I.tok _,rfl,q⟩
   | non=>exact IsiPair.bool_NoneType ⟨.bl false,H,I.tok _,rfl,q⟩
   | lst=>exact IsiPair.bool_list ⟨.bl false,H,I.tok _,rfl,q⟩
   | tup=>exact IsiPair.bool_tuple ⟨.bl false,H,I.tok _,rfl,q⟩
   | dct=>exact IsiPair.bool_dict ⟨.bl false,H,I.tok _,rfl,q⟩
 | str y =>
   obtain ⟨t,rfl⟩:=ru
   cases T with
   | int=>exact IsiPair.str_int ⟨.bl false,H,I.tok _,rfl,q⟩
   | bool=>exact IsiPair.str_bool ⟨.bl false,H,I.tok _,rfl,q⟩
   | str=>exact IsiPair.str_str ⟨.bl true,H,I,rfl,q⟩
   | non=>exact IsiPair.str_NoneType ⟨.bl false,H,I.tok _,rfl,q⟩
   | lst=>exact IsiPair.str_list ⟨.bl false,H,I.tok _,rfl,q⟩
   | tup=>exact IsiPair.str_tuple ⟨.bl false,H,I.tok _,rfl,q⟩
   | dct=>exact IsiPair.str_dict ⟨.bl false,H,I.tok _,rfl,q⟩
 | non =>
   obtain rfl:u=Value.none:=ru
   cases T with
   | int=>exact IsiPair.NoneType_int ⟨.bl false,H,I.tok _,rfl,q⟩
   | bool=>exact IsiPair.NoneType_bool ⟨.bl false,H,I.tok _,rfl,q⟩
   | str=>exact IsiPair.NoneType_str ⟨.bl false,H,I.tok _,rfl,q⟩
   | non=>exact IsiPair.NoneType_NoneType ⟨.bl true,H,I,rfl,q⟩
   | lst=>exact IsiPair.NoneType_list ⟨.bl false,H,I.tok _,rfl,q⟩
   | tup=>exact IsiPair.NoneType_tuple ⟨.bl false,H,I.tok _,rfl,q⟩
   | dct=>exact IsiPair.NoneType_dict ⟨.bl false,H,I.tok _,rfl,q⟩
 | lst hq =>
   obtain rfl:u=Value.ref _:=ru;obtain ⟨its,rv,⟨o,n,e,hc,hd,hs⟩,hz⟩:=I.list hq
   cases T with
   | int=>exact IsiPair.list_int e hc ⟨.bl false,H,I.tok _,rfl,q⟩
   | bool=>exact IsiPair.list_bool e hc ⟨.bl false,H,I.tok _,rfl,q⟩
   | str=>exact IsiPair.list_str e hc ⟨.bl false,H,I.tok _,rfl,q⟩
   | non=>exact IsiPair.list_NoneType e hc ⟨.bl false,H,I.tok _,rfl,q⟩
   | lst=>exact IsiPair.list_list e hc ⟨.bl true,H,I,rfl,q⟩
   | tup=>exact IsiPair.list_tuple e hc ⟨.bl false,H,I.tok _,rfl,q⟩
   | dct=>exact IsiPair.list_dict e hc ⟨.bl false,H,I.tok _,rfl,q⟩
 | tup hq =>
   obtain rfl:u=Value.ref _:=ru;obtain ⟨its,rv,⟨o,e,hc,n,hs⟩,hz⟩:=I.tuple hq
   cases T with
   | int=>exact IsiPair.tuple_int e hc ⟨.bl false,H,I.tok _,rfl,q⟩
   | bool=>exact IsiPair.tuple_bool e hc ⟨.bl false,H,I.tok _,rfl,q⟩
   | str=>exact IsiPair.tuple_str e hc ⟨.bl false,H,I.tok _,rfl,q⟩
   | non=>exact IsiPair.tuple_NoneType e hc ⟨.bl false,H,I.tok _,rfl,q⟩
   | lst=>exact IsiPair.tuple_list e hc ⟨.bl false,H,I.tok _,rfl,q⟩
   | tup=>exact IsiPair.tuple_tuple e hc ⟨.bl true,H,I,rfl,q⟩
   | dct=>exact IsiPair.tuple_dict e hc ⟨.bl false,H,I.tok _,rfl,q⟩
 | dk hq =>
   obtain rfl:u=Value.ref _:=ru;obtain ⟨hz,hm,vs,rel,o,es,ep,e,ex,hr⟩:=I.hok _ _ hq;have hc:=ex.1
   cases T with
   | int=>exact IsiPair.dict_int e hc ⟨.bl false,H,I.tok _,rfl,q⟩
   | bool=>exact IsiPair.dict_bool e hc ⟨.bl false,H,I.tok _,rfl,q⟩
   | str=>exact IsiPair.dict_str e hc ⟨.bl false,H,I.tok _,rfl,q⟩
   | non=>exact IsiPair.dict_NoneType e hc ⟨.bl false,H,I.tok _,rfl,q⟩
   | lst=>exact IsiPair.dict_list e hc ⟨.bl false,H,I.tok _,rfl,q⟩
   | tup=>exact IsiPair.dict_tuple e hc ⟨.bl false,H,I.tok _,rfl,q⟩
   | dct=>exact IsiPair.dict_dict e hc ⟨.bl true,H,I,rfl,q⟩
theorem ZhZ {bs:List Bool}{its:List Value} (r:Vals (bs.map V.bl) its):TruthOf P w A (fun i v=>its.toArray[i]?=some v) (fun i=>bs.getD i false):=by
 intro i v s Q E hv hq
 have hv':its[i]?=some v:=by simpa using hv
 have hl:=r.length;rw [Xaa] at hl;have hi:i<its.length:=(Xae.mp hv').1
 have hb:(bs.map V.bl)[i]?=some (V.bl (bs.getD i false)):=by
  rw [Xag,Xaq]
  have:bs[i]?=some bs[i]:=Xab (by omega)
  rw [this];rfl
 obtain ⟨u,hu,ru⟩:=r.get hb;rw [hv'] at hu;cases hu;have e:v=Value.bool (bs.getD i false):=ru;subst e;exact Xbn hq
theorem Zjz {bs:List Bool}:(List.range bs.length).all (fun i=>bs.getD i false)=bs.all id:=by
 rw [Bool.eq_iff_iff,List.all_eq_true,List.all_eq_true]
 constructor
 . intro h b hb
   obtain ⟨i,hi,e⟩:=XaG.mp hb
   have:=h i (List.mem_range.mpr hi)
   rw [Xaq,Xab hi] at this;rw [<-e];exact this
 . intro h i hi
   have hi':=List.mem_range.mp hi;rw [Xaq,Xab hi'];exact h _ (Xav hi')
def rAll (K:XFg):List V->Hp->VK->Prop:=fun vs H Q=>∃ (a:Addr) (bs:List Bool),vs=[.ref a]/\SqL K H a (bs.map V.bl)/\Q (.bl (bs.all id)) H
theorem ZjA (hc:X.calm=true):CallR X (.builtin "all") (rAll X.K):=by
 intro pins s σ H vs us Q I r h;obtain ⟨a,bs,rfl,hq,q⟩:=h;obtain ⟨u,rfl,ru⟩:=Zdh r;obtain rfl:u=Value.ref a:=ru;obtain ⟨its,rv,p,hz⟩:=I.list hq;have hl:=rv.length;rw [Xaa] at hl
 have hlt:a<s.heap.objs.size:=by obtain ⟨_,e,_⟩:=p.isList;exact Xbp e
 refine call_all_walk (wpAny_pyIter_list p.isList ?_);refine ⟨s.heap.objs.size,[s.heap.objs.size,a],[s.heap.objs.size],its.toArray.size,(fun i v=>its.toArray[i]?=some v),(fun i h=>h.IsListIter s.heap.objs.size a i/\h.IsList a its.toArray),(fun i=>bs.getD i false),rfl,Walks.list (A:=X.A.in1) (I.ok.hd hc) s.heap.objs.size a (XaZ hlt) its.toArray,⟨⟨_,Xbq _ rfl,rfl,rfl⟩,p.isList.push _⟩,ZhZ rv,fun h' tk hk=>?_⟩;refine ⟨.bl (bs.all id),H,I.kept fun b o e=>hk b o (fun z=>?_) (Xbo _ e),?_,q⟩
 . have z':b=s.heap.objs.size:=by simpa using z
   exact absurd (Xbp e) (by rw [z'];exact XaX _)
 . have e:its.toArray.size=bs.length:=by rw [Xak,hl]
   show Value.bool _=Value.bool _;rw [e,Zjz]
variable {pins:List (Addr×Obj)}{σ:St}{s:Shared}
theorem Inv.track {T:Addr} {o:HO} (I:Inv X pins σ H s) (hn:FpOk X pins H T) (hT:∃ ob,s.heap.get? T=some ob) (new:ObjOk X.prog X.w (upd H T o) s.heap T o):Inv X pins σ (upd H T o) s:=by
 obtain ⟨f0,f1,f2,f3,f4,f5⟩:=hn;refine I.step (g':=s.gens) (t':=s.toks) (d':=s.drawn) (h':=s.heap) (ch:=[T]) (fun b hb=>?_) (fun b ob _ _ _ e _=>e) (fun b ob _ _ _ e _=>⟨ob.slots,e⟩) (fun b ob hb e n=>?_) (fun b ob _ e=>⟨ob,e⟩) (fun b xs e=>?_) (fun b ob u e=>?_) (fun b ps e=>?_) (fun m hm=>hm) (fun b u e=>?_) I.bare
 . have e:b=T:=by simpa using hb
   subst e;exact ⟨f3,f1,f4,f5⟩
 . rw [Zal (by simpa using hb)];exact n
 . rw [Zal (Zad e f0)];exact e
 . rw [Zal (Zad e f0)];exact e
 . exact ⟨#[],by rw [Zal (Zad e f0),e];simp⟩
 . by_cases hb:b=T
   . subst hb;rw [upd_same] at e;cases e;exact new
   . rw [Zal hb] at e
     exact (I.hok b u e).stay (fun c v _ q=>q) (fun c q=>by rw [Zal (Zad q f0)];exact q) fun c xs q=>by rw [Zal (Zad q f0)];exact q
def Itz (K:XFg) (l1 l2:Addr):It :=
 ⟨fun i H=>∃ xs ys x y,SqL K H l1 xs/\SqL K H l2 ys/\xs[i]?=some x/\ys[i]?=some y,
  fun i H v H'=>∃ T x y,H T=none/\v=.ref T/\H'=upd H T (.tup [x,y])/\(∀ xs,SqL K H l1 xs->xs[i]?=some x)/\∀ ys,SqL K H l2 ys->ys[i]?=some y,
  fun i H=>∃ xs ys,SqL K H l1 xs/\SqL K H l2 ys/\(xs.length<=i\/ys.length<=i)⟩
def ZipSt (z TI TO i1 i2 l1 l2:Addr) (i:Nat) (h:Heap):Prop:=IsZip h z TI TO .none/\IsPair h TI (.ref i1) (.ref i2)/\(∃ a b,IsPair h TO a b)/\h.IsListIter i1 l1 i/\h.IsListIter i2 l2 i
variable {pos:Pos}
theorem Zh0 {K:XFg}{es:List Expr}{z TI TO i1 i2 l1 l2:Addr} (D:ZipApart z TI TO i1 i2 l1 l2) :
 Turn P w K (.Tuple es k pos) (Itz K l1 l2) [z,TI,TO,i1,i2] z (ZipSt z TI TO i1 i2 l1 l2) where
 mem:=by simp
 obj:=fun i h st b hb=>by
  obtain ⟨hz,hTI,⟨a,c,hTO⟩,⟨o1,e1,c1,d1⟩,⟨o2,e2,c2,d2⟩⟩:=st;simp at hb
  rcases hb with rfl | rfl | rfl | rfl | rfl
  . exact ⟨_,hz,fun v q=>by cases q⟩
  . exact ⟨_,hTI,fun v q=>by cases q⟩
  . exact ⟨_,hTO,fun v q=>by cases q⟩
  . exact ⟨_,e1,fun v q=>by rw [d1] at q;cases q⟩
  . exact ⟨_,e2,fun v q=>by rw [d2] at q;cases q⟩
 keep:=fun i h h' st kk=>by
  obtain ⟨hz,hTI,⟨a,c,hTO⟩,h1,h2⟩:=st;exact ⟨kk z (by simp) _ hz,kk TI (by simp) _ hTI,⟨a,c,kk TO (by simp) _ hTO⟩,h1.at fun o e=>kk i1 (by simp) o e,h2.at fun o e=>kk i2 (by simp) o e⟩
 item := by
  intro X hP hw hK hc i pins s σ H E I hf st hg;subst hP hw hK;obtain ⟨xs,ys,x,y,hq1,hq2,hx,hy⟩:=hg;obtain ⟨hz,hTI,⟨a,c,hTO⟩,h1,h2⟩:=st;obtain ⟨its1,rv1,p1,hz1⟩:=I.list hq1;obtain ⟨its2,rv2,p2,hz2⟩:=I.list hq2;obtain ⟨u1,hu1,ru1⟩:=rv1.get hx;obtain ⟨u2,hu2,ru2⟩:=rv2.get hy;refine wpAny_pyNext_zip_item D hz hTI hTO h1 h2 p1.isList p2.isList (x:=u1) (y:=u2) (by simpa using hu1) (by simpa using hu2) fun h' a1 a2 a3 a4 a5 a6 hk=>?_;refine ⟨_,rfl,wpAny_letOwnedTupleGo_zip (s:={ s with heap:=h' }) a1 fun h'' hz'' hs''=>?_⟩;have fz:=hf z (by simp);have fTO:=hf TO (by simp);have f1:=hf i1 (by simp);have f2:=hf i2 (by simp);have trk:∀ b u,H b=some u->b≠z/\b≠TO/\b≠i1/\b≠i2:=fun b u e=>⟨Zad e fz.1,Zad e fTO.1,Zad e f1.1,Zad e f2.1⟩;have keep:∀ b o,b≠z->b≠TO->b≠i1->b≠i2->s.heap.get? b=some o->h''.get? b=some o:=fun b o n1 n2 n3 n4 e=>(hs''.2 b n1).trans (hk b o n1 n2 n3 n4 e)
  have nch:∀ {b:Addr},b ∉ [z,TO,i1,i2]->b≠z/\b≠TO/\b≠i1/\b≠i2:=fun {b} hb=>by simpa using hb
  have I1:Inv X pins σ H { s with heap:=h'' }:=by
   refine I.step (g':=s.gens) (t':=s.toks) (d':=s.drawn) (h':=h'') (ch:=[z,TO,i1,i2]) (fun b hb=>?_) (fun b ob _ _ hb e _=>keep b ob (nch hb).1 (nch hb).2.1 (nch hb).2.2.1 (nch hb).2.2.2 e) (fun b ob _ _ hb e _=>⟨ob.slots,keep b ob (nch hb).1 (nch hb).2.1 (nch hb).2.2.1 (nch hb).2.2.2 e⟩)
    (fun _ _ _ _ n=>n) (fun b ob hb e=>⟨ob,keep b ob (nch hb).1 (nch hb).2.1 (nch hb).2.2.1 (nch hb).2.2.2 e⟩) (fun _ _ e=>e) (fun _ _ _ e=>e) (fun b ps e=>⟨#[],by rw [e];simp⟩) (fun m hm=>?_) (fun b u e=>?_) I.bare
   . have:b=z\/b=TO\/b=i1\/b=i2:=by simpa using hb
     rcases this with rfl | rfl | rfl | rfl
     . exact ⟨fz.2.2.2.1,fz.2.1,fz.2.2.2.2.1,fz.2.2.2.2.2⟩
     . exact ⟨fTO.2.2.2.1,fTO.2.1,fTO.2.2.2.2.1,fTO.2.2.2.2.2⟩
     . exact ⟨f1.2.2.2.1,f1.2.1,f1.2.2.2.2.1,f1.2.2.2.2.2⟩
     . exact ⟨f2.2.2.2.1,f2.2.1,f2.2.2.2.2.1,f2.2.2.2.2.2⟩
   . obtain ⟨o,es,ep,ho,r⟩:=hm
     exact ⟨o,es,ep,keep _ o (Ne.symm fz.2.1) (Ne.symm fTO.2.1) (Ne.symm f1.2.1) (Ne.symm f2.2.1) ho,r⟩
   . refine (I.hok b u e).stay (fun c v hc q=>?_) (fun _ q=>q) fun _ _ q=>q
     have hc':∃ u',H c=some u':=by
      rcases hc with rfl | hc
      . exact ⟨_,e⟩
      . exact ⟨_,hc⟩
     obtain ⟨u',e'⟩:=hc';obtain ⟨n1,n2,n3,n4⟩:=trk c u' e';exact keep c v n1 n2 n3 n4 q
  have hTz:s.heap.objs.size≠z:=Nat.ne_of_gt (Xbp hz);have hT0:H s.heap.objs.size=none:=I.hok.fresh (XaW _)
  have hTget:h''.get? s.heap.objs.size=some { cls:=.type "tuple",data:=.seq #[u1,u2] }:=(hs''.2 _ hTz).trans a5
  have I2:Inv X pins σ (upd H s.heap.objs.size (.tup [x,y])) { s with heap:=h'' }:=by
   refine I1.track (I.fpOk (XaW _) hT0) ⟨_,hTget⟩ ?_;exact ⟨by show 2<=sizeLine;decide,[u1,u2],.cons ru1 (.cons ru2 .nil),⟨_,hTget,rfl,_,rfl⟩⟩
  refine ⟨.ref s.heap.objs.size,_,I2,rfl,⟨s.heap.objs.size,x,y,hT0,rfl,rfl,fun zs hzs=>by rw [I.list_inj hzs hq1];exact hx,fun zs hzs=>by rw [I.list_inj hzs hq2];exact hy⟩,?_,fun b hb=>?_⟩
  . refine ⟨hz'',hs''.extBut _ _ D.TIz (hk _ _ D.TIz D.TITO D.TIi1 D.TIi2 hTI),⟨u1,u2,hs''.extBut _ _ D.TOz a2⟩,a3.extBut hs''.extBut D.i1z,a4.extBut hs''.extBut D.i2z⟩
  . have hb':=(hf b hb).1
    rw [Zal (fun q=>?_)]
    . exact hb'
    . have hb2:b=z\/b=TI\/b=TO\/b=i1\/b=i2:=by simpa using hb
      obtain ⟨o1,e1,_⟩:=h1;obtain ⟨o2,e2,_⟩:=h2
      have lt:b<s.heap.objs.size:=by
       rcases hb2 with rfl | rfl | rfl | rfl | rfl
       . exact Xbp hz
       . exact Xbp hTI
       . exact Xbp hTO
       . exact Xbp e1
       . exact Xbp e2
      rw [q] at lt;exact absurd lt (XaX _)
 done:=by
  intro X hP hw hK hc i pins s σ H E I hf st hg;subst hP hw hK;obtain ⟨xs,ys,hq1,hq2,hend⟩:=hg;obtain ⟨hz,hTI,⟨a,c,hTO⟩,h1,h2⟩:=st;obtain ⟨its1,rv1,p1,hz1⟩:=I.list hq1;obtain ⟨its2,rv2,p2,hz2⟩:=I.list hq2;have l1':=rv1.length;have l2':=rv2.length;refine wpAny_pyNext_zip_end (I.ok.hd hc) D hz hTI hTO h1 h2 p1.isList p2.isList (by simp;omega) fun h' hk=>⟨rfl,?_⟩;have fz:=hf z (by simp);have fTO:=hf TO (by simp);have f1:=hf i1 (by simp);have f2:=hf i2 (by simp)
  have nch:∀ {b:Addr},b ∉ [z,TO,i1,i2]->b≠z/\b≠TO/\b≠i1/\b≠i2:=fun {b} hb=>by simpa using hb
  refine I.step (g':=s.gens) (t':=s.toks) (d':=s.drawn) (h':=h') (ch:=[z,TO,i1,i2]) (fun b hb=>?_) (fun b ob _ _ hb e _=>hk b ob (nch hb).1 (nch hb).2.1 (nch hb).2.2.1 (nch hb).2.2.2 e) (fun b ob _ _ hb e _=>⟨ob.slots,hk b ob (nch hb).1 (nch hb).2.1 (nch hb).2.2.1 (nch hb).2.2.2 e⟩)
   (fun _ _ _ _ n=>n) (fun b ob hb e=>⟨ob,hk b ob (nch hb).1 (nch hb).2.1 (nch hb).2.2.1 (nch hb).2.2.2 e⟩) (fun _ _ e=>e) (fun _ _ _ e=>e) (fun b ps e=>⟨#[],by rw [e];simp⟩) (fun m hm=>?_) (fun b u e=>?_) I.bare
  . have:b=z\/b=TO\/b=i1\/b=i2:=by simpa using hb
    rcases this with rfl | rfl | rfl | rfl
    . exact ⟨fz.2.2.2.1,fz.2.1,fz.2.2.2.2.1,fz.2.2.2.2.2⟩
    . exact ⟨fTO.2.2.2.1,fTO.2.1,fTO.2.2.2.2.1,fTO.2.2.2.2.2⟩
    . exact ⟨f1.2.2.2.1,f1.2.1,f1.2.2.2.2.1,f1.2.2.2.2.2⟩
    . exact ⟨f2.2.2.2.1,f2.2.1,f2.2.2.2.2.1,f2.2.2.2.2.2⟩
  . obtain ⟨o,es,ep,ho,r⟩:=hm
    exact ⟨o,es,ep,hk _ o (Ne.symm fz.2.1) (Ne.symm fTO.2.1) (Ne.symm f1.2.1) (Ne.symm f2.2.1) ho,r⟩
  . refine (I.hok b u e).stay (fun c v hc q=>?_) (fun _ q=>q) fun _ _ q=>q
    have hc':∃ u',H c=some u':=by
     rcases hc with rfl | hc
     . exact ⟨_,e⟩
     . exact ⟨_,hc⟩
    obtain ⟨u',e'⟩:=hc';exact hk c v (Zad e' fz.1) (Zad e' fTO.1) (Zad e' f1.1) (Zad e' f2.1) q
 self:=fun _ _ _ _ _ st h=>wpAny_pyIter_zip st.1 h
def iZip (K:XFg) (ta:TA):TI:=fun σ H R=>ta σ H fun vs H1=>∃ l1 l2,vs=[.ref l1,.ref l2]/\(∃ xs,SqL K H1 l1 xs)/\(∃ ys,SqL K H1 l2 ys)/\R (Itz K l1 l2) H1
theorem pi_zip {es:List Expr}{tpos:Pos}{a b:Expr}{ta:TA}{p:Pos} (hg:Gl X "zip") (hm:X.mg "zip" = none) (ha:PA X [a,b] ta) (hs:starEach [a,b] X.env=[(false,eval a X.env),(false,eval b X.env)]:=by rfl) (hs2:starEach [b] X.env=[(false,eval b X.env)]:=by rfl) :
 PI X (.Tuple es k tpos) (.Call (.Name "zip" p) [a,b] [] pos) (iZip X.K ta):=by
 intro pins s σ H R I h
 refine Call_ (Zc9 I hg hm (u:=.type "zip") (by decide +kernel) (PyProof.Rows.callWith_type1 (thn (ha pos pins s σ H _ I h) fun us s1 ⟨vs,H1,I1,r1,q1⟩=>?_) (by rw [hs,hs2]) (by rw [hs2];rfl)))
 obtain ⟨l1,l2,rfl,⟨xs,hq1⟩,⟨ys,hq2⟩,q⟩:=q1;obtain ⟨u1,u2,rfl,ru1,ru2⟩:=Zgv r1;obtain rfl:u1=Value.ref l1:=ru1;obtain rfl:u2=Value.ref l2:=ru2;obtain ⟨its1,rv1,p1,hz1⟩:=I1.list hq1;obtain ⟨its2,rv2,p2,hz2⟩:=I1.list hq2
 have a1:l1<s1.heap.objs.size:=by obtain ⟨_,e,_⟩:=p1.isList;exact Xbp e
 have a2:l2<s1.heap.objs.size:=by obtain ⟨_,e,_⟩:=p2.isList;exact Xbp e
 refine call_zip_2 p1.isList p2.isList fun h' hz hTI hTO hi1 hi2 hsz hk=>?_;refine wpAny_pyIter_zip (s:={ s1 with heap:=h' }) hz ?_;refine ⟨_,[s1.heap.objs.size+4,s1.heap.objs.size+2,s1.heap.objs.size+3,s1.heap.objs.size,s1.heap.objs.size+1],_,_,H1,rfl,I1.kept (t':=s1.toks) hk,Zh0 (zipApart_new a1 a2),⟨hz,hTI,⟨_,_,hTO⟩,hi1,hi2⟩,fun b hb=>?_,q⟩
 have hb':s1.heap.objs.size<=b:=by
  have hb2:b=s1.heap.objs.size+4\/b=s1.heap.objs.size+2\/b=s1.heap.objs.size+3\/b=s1.heap.objs.size\/b=s1.heap.objs.size+1:=by simpa using hb
  rcases hb2 with rfl | rfl | rfl | rfl | rfl
  . exact Nat.le_add_right _ _
  . exact Nat.le_add_right _ _
  . exact Nat.le_add_right _ _
  . exact XaW _
  . exact Nat.le_add_right _ _
 exact I1.fpOk hb' (I1.hok.fresh hb')
variable {g:TG}{D:Ends}
theorem ZjB {K:XFg}{l1 l2:Addr}{ys:List V} {tb:TS}(Pv:Nat->St->Hp->Prop) (h0:Pv 0 σ H) (hl:∀ i σ H,Pv i σ H->SqL K H l1 xs/\SqL K H l2 ys)
 (hs:∀ i x y T σ H,xs[i]?=some x->ys[i]?=some y->H T=none->Pv i σ H->g (.ref T) σ (upd H T (.tup [x,y])) fun σ2 H2=>tb { D with nx:=Pv (i+1),ct:=Pv (i+1),bk:=D.nx } σ2 H2) (hd:∀ σ H,Pv (min xs.length ys.length) σ H->D.nx σ H) :
 ∃ W:Nat->Nat->St->Hp->Prop,(∃ m,W 0 m σ H)/\∀ i m σ H,W i m σ H ->
  ((Itz K l1 l2).stop i H/\D.nx σ H)\/((Itz K l1 l2).go i H/\∃ N:St->Hp->Prop,(∀ σ' H',N σ' H'->∃ m',m' < m/\W (i+1) m' σ' H')/\∀ x H',(Itz K l1 l2).yld i H x H'->g x σ H' fun σ2 H2=>tb { D with nx:=N,ct:=N,bk:=D.nx } σ2 H2):=by
 refine ⟨fun i m σ H=>m=min xs.length ys.length - i/\i<=min xs.length ys.length/\Pv i σ H,⟨_,rfl,Xa0 _,h0⟩,?_⟩;rintro i m σ H ⟨rfl,hi,p⟩;obtain ⟨q1,q2⟩:=hl i σ H p
 by_cases hlt:i<min xs.length ys.length
 . have hx:i<xs.length:=by omega
   have hy:i<ys.length:=by omega
   refine .inr ⟨⟨xs,ys,xs[i],ys[i],q1,q2,by simp [hx],by simp [hy]⟩,Pv (i+1),fun σ' H' p'=>⟨min xs.length ys.length - (i+1),by omega,rfl,hlt,p'⟩,fun v H' y=>?_⟩;obtain ⟨T,x,y',hT,rfl,rfl,e1,e2⟩:=y;exact hs i x y' T σ H (e1 xs q1) (e2 ys q2) hT p
 . have e:i=min xs.length ys.length:=by omega
   refine .inl ⟨⟨xs,ys,q1,q2,by omega⟩,?_⟩;rw [e] at p;exact hd σ H p
def ZbD (env:Env):List (Str×NameKind)->List (Str×Addr)->List (Str×Addr)
 | [],acc=>acc
 | (n,k) :: r,acc=>if k == .free then ZbD env r ((n,(env.cells.lookup n).getD 0) :: acc) else ZbD env r acc
theorem ZdJ {env:Env} (f:Str×NameKind->List (Str×Addr)->Sem (ForInStep (List (Str×Addr))))
 (hf:∀ n k cs,f (n,k) cs=if (k == NameKind.free)=true then (cellOf env n >>= fun a=>pure (.yield ((n,a) :: cs))) else pure (.yield cs)) :
 ∀ (names:List (Str×NameKind)) (acc:List (Str×Addr)),(∀ x∈names,x.2=.free->∃ c,env.cells.lookup x.1=some c)->forIn names acc f=pure (ZbD env names acc)
 | [],acc,_=>by rw [List.forIn_nil];rfl
 | (n,k) :: r,acc,h=>by
   rw [List.forIn_cons,hf];unfold ZbD
   by_cases hk:(k == NameKind.free)=true
   . rw [Xbe hk,Xbe hk]
     obtain ⟨c,hc⟩:=h (n,k) Xal (beq_iff_eq.mp hk)
     have e:cellOf env n=pure c:=by unfold cellOf;rw [hc]
     rw [e,hc];exact ZdJ f hf r _ fun x hx=>h x (Xap _ hx)
   . rw [Xbd hk,Xbd hk]
     exact ZdJ f hf r _ fun x hx=>h x (Xap _ hx)
variable {scope:Scope}{env:Env}
theorem Zdv (h:∀ x∈scope.names,x.2=.free->∃ c,env.cells.lookup x.1=some c):closureFor scope env=pure (ZbD env scope.names []):=by
 simp only [closureFor]
 rw [ZdJ (env:=env) _ (fun n k cs=>by cases hk:k == NameKind.free <;> simp [hk]) scope.names [] h]
 rfl
theorem Zc1 {env:Env}:∀ {names:List (Str×NameKind)} {acc:List (Str×Addr)} {x:Str} {c:Addr},(x,c)∈ZbD env names acc->(x,c)∈acc\/((x,NameKind.free)∈names/\c=(env.cells.lookup x).getD 0)
 | [],_,_,_,h=>.inl h
 | (n, k) :: r, acc, x, c, h => by
   unfold ZbD at h
   by_cases hk:(k == NameKind.free)=true
   . rw [Xbe hk] at h
     rcases Zc1 h with h | ⟨h,e⟩
     . rcases Xam.mp h with h | h
       . cases h
         rw [beq_iff_eq.mp hk];exact .inr ⟨Xal,rfl⟩
       . exact .inl h
     . exact .inr ⟨Xap _ h,e⟩
   . rw [Xbd hk] at h
     rcases Zc1 h with h | ⟨h,e⟩
     . exact .inl h
     . exact .inr ⟨Xap _ h,e⟩
theorem ZdK {env:Env}:∀ {names:List (Str×NameKind)} {acc:List (Str×Addr)} {p:Str×Addr},p∈acc->p∈ZbD env names acc
 | [],_,_,h=>h
 | (n,k) :: r,acc,p,h=>by
   unfold ZbD
   by_cases hk:(k == NameKind.free)=true
   . rw [Xbe hk];exact ZdK (Xap _ h)
   . rw [Xbd hk];exact ZdK h
theorem Zb8 {env:Env}:∀ {names:List (Str×NameKind)} {acc:List (Str×Addr)} {x:Str},(x,NameKind.free)∈names->∃ c,(x,c)∈ZbD env names acc
 | (n,k) :: r,acc,x,h=>by
   unfold ZbD
   rcases Xam.mp h with h | h
   . cases h
     rw [Xbe (show (NameKind.free == NameKind.free)=true by rfl)];exact ⟨_,ZdK Xal⟩
   . by_cases hk:(k == NameKind.free)=true
     . rw [Xbe hk];exact Zb8 h
     . rw [Xbd hk];exact Zb8 h
theorem Zbr {α:Type}:∀ {l:List (Str×α)} {x:Str} {c:α},(x,c)∈l->∃ c',l.lookup x=some c'
 | (n, d) :: r, x, c, h => by
   rw [XaI]
   cases hb:x == n with
   | true=>exact ⟨d,rfl⟩
   | false =>
     rcases Xam.mp h with h | h
     . cases h
       simp at hb
     . exact Zbr h
theorem ZaT:∀ (names:List (Str×NameKind)) (n:Nat) (acc:List (Str×Addr)),cellsFrom n names acc=cellsFrom n names []++acc
 | [],_,_=>rfl
 | (x,k) :: r,n,acc=>by
   unfold cellsFrom
   by_cases hk:(k == NameKind.cell)=true
   . rw [Xbe hk,Xbe hk,ZaT r (n+1) ((x,n) :: acc),ZaT r (n+1) [(x,n)],XaE]
     rfl
   . rw [Xbd hk,Xbd hk];exact ZaT r n acc
theorem Zbu:∀ {names:List (Str×NameKind)} {n:Nat} {acc:List (Str×Addr)} {x:Str} {c:Addr},(x,c)∈cellsFrom n names acc->(x,c)∈acc\/(x,NameKind.cell)∈names
 | [],_,_,_,_,h=>.inl h
 | (y, k) :: r, n, acc, x, c, h => by
   unfold cellsFrom at h
   by_cases hk:(k == NameKind.cell)=true
   . rw [Xbe hk] at h
     rcases Zbu h with h | h
     . rcases Xam.mp h with h | h
       . cases h
         rw [beq_iff_eq.mp hk];exact .inr Xal
       . exact .inl h
     . exact .inr (Xap _ h)
   . rw [Xbd hk] at h
     rcases Zbu h with h | h
     . exact .inl h
     . exact .inr (Xap _ h)
section
variable {M:Model} {A:Around} {E:Value->Shared->Prop} {s:Shared}
theorem ZkZ {cl:List (Str×Addr)} {Q:Env->Shared->Prop}
 (hQ:Q (newEnv scope s.heap.objs.size env.globals (cellsFrom (s.heap.objs.size+1) scope.names cl) env.qual none .none (some env) builtinsNs) { s with heap:=pushCells (s.heap.push { cls:=.type "dict",data:=.dict #[] }) scope.names }) :
 wpAny M A (newFunctionEnv scope env.globals cl [] env.qual none .none (some env)) Q E s:=by
 simp only [newFunctionEnv,Option.isSome_some,if_true];refine Xbk (wpAny_alloc ?_)
 refine Xbk (wpAny_layCells _ (fun name kind cells=>by cases hkc:kind == NameKind.cell <;> simp [hkc]) _ _ _ _ ?_)
 rw [show ({ s with heap:=s.heap.push { cls:=.type "dict",data:=.dict #[] } }:Shared).heap.objs.size=s.heap.objs.size+1 from Heap.size_push ..]
 exact Xbk (Xbl (Xbl hQ))
end
abbrev Zbh (X:Cx) (N:List Str) (scope:Scope) (cs:List (Str×Addr)) (C:Addr) (s:Shared) (H:Hp) (ex:List Addr):Cx where
 prog:=X.prog
 w:=X.w
 K:=X.K
 mg:=X.mg
 base:=X.base
 A:=X.A
 N:=N
 s₀:=s
 H₀:=H
 env:=compEnvC scope cs C X.env
 outer:=X.stack
 stack:=X.stack
 ex:=ex
 fn:=fun x=>decide (scope.names.lookup x≠some .free)
 calm:=X.calm
 pn:=[]
 xe:=fun _ _=>False
structure CompScope (psc:Scope) (PN:List Str) (scope:Scope) (N:List Str) (k:Nat) (caps:List Nat):Prop where
 kind:scope.kind=.function
 loc:∀ x∈scope.names,x.2=.local->scope.names.lookup x.1=some .local
 ndn:(scope.names.map (·.1)).Nodup
 nd:N.Nodup
 len:N.length=k+caps.length
 free:∀ x∈scope.names,x.2=.free->psc.names.lookup x.1=some .cell\/psc.names.lookup x.1=some .free
 cap:∀ p∈(N.drop k).zip caps,PN[p.2]?=some p.1/\scope.names.lookup p.1=some .free
def Zbe (k:Nat) (caps:List Nat) (σ:St):St:=List.replicate k none++caps.map fun j=>(σ[j]?).getD none
variable {caps:List Nat}{i:Nat}{v:V}
theorem ZgG (h:(Zbe k caps σ)[i]?=some (some v)):∃ j,k<=i/\caps[i - k]?=some j/\σ[j]?=some (some v):=by
 unfold Zbe at h
 by_cases hi:i<k
 . rw [Xat (by simpa using hi),List.getElem?_replicate,Xbe hi] at h
   cases h
 . rw [Xay (by simpa using hi),List.length_replicate,Xag] at h
   cases e:caps[i - k]? with
   | none=>rw [e] at h;cases h
   | some j =>
     rw [e] at h;have h':(σ[j]?).getD none=some v:=Xbc h;refine ⟨j,by omega,rfl,?_⟩
     cases q:σ[j]? with
     | none=>rw [q] at h';cases h'
     | some o=>rw [q] at h';exact Xbj some h'
theorem Zd2 {k':NameKind} (h:(relabel scope env).names.lookup x=some k'):∃ k,(x,k)∈scope.names/\(k'=k\/(k=.free/\k'=.cell)):=by
 have hm:=Xbt h;have hm':(x,k')∈scope.names.map (fun (n,k)=>if (k == NameKind.free && env.scope.kind == .function && env.kindOf n == some .cell) then (n,NameKind.cell) else (n,k)):=hm;obtain ⟨⟨n,k⟩,h1,h2⟩:=Xai.mp hm';dsimp only at h2
 by_cases hc:(k == NameKind.free && env.scope.kind == .function && env.kindOf n == some .cell)=true
 . rw [Xbe hc] at h2
   cases h2;simp only [Bool.and_eq_true,beq_iff_eq] at hc;exact ⟨k,h1,.inr ⟨hc.1.1,rfl⟩⟩
 . rw [Xbd hc] at h2
   cases h2;exact ⟨k',h1,.inl rfl⟩
theorem Zh1 {f:Str×NameKind->Str×NameKind} (hf:∀ n k,f (n,k)=(n,k)\/(k=.free/\f (n,k)=(n,NameKind.cell))):∀ {names:List (Str×NameKind)} {x:Str},names.lookup x=some .free->(names.map f).lookup x=some .cell\/(names.map f).lookup x=some .free
 | [],_,h=>by simp at h
 | (n,k) :: r,x,h=>by
   have ih:=@Zh1 f hf r x;rw [XaI] at h;rw [Xao]
   cases hx:x == n with
   | true =>
     rw [hx] at h;cases h
     rcases hf n .free with e | ⟨_,e⟩
     . right;rw [e,XaI,hx]
     . left;rw [e,XaI,hx]
   | false =>
     rw [hx] at h;have h':=ih h
     rcases hf n k with e | ⟨_,e⟩
     . rw [e,XaI,hx];exact h'
     . rw [e,XaI,hx];exact h'
theorem Zd3 (h:scope.names.lookup x=some .free):(relabel scope env).names.lookup x=some .cell\/(relabel scope env).names.lookup x=some .free:=by
 refine Zh1 (fun n k=>?_) h
 by_cases hc:(k == NameKind.free && env.scope.kind == .function && env.kindOf n == some .cell)=true
 . right
   refine ⟨?_,Xbe hc⟩;simp only [Bool.and_eq_true,beq_iff_eq] at hc;exact hc.1.1
 . left;exact Xbd hc
theorem Zdw {names:List (Str×NameKind)} (h:(names.map (·.1)).Nodup) {k k':NameKind} (h1:(x,k)∈names) (h2:(x,k')∈names):k=k':=by
 induction names with
 | nil=>simp at h1
 | cons p r ih =>
   rw [Xao] at h;obtain ⟨ha,hb⟩:=XaC.mp h
   rcases Xam.mp h1 with e1 | h1 <;> rcases Xam.mp h2 with e2 | h2
   . rw [<-e1] at e2;exact (Prod.mk.inj e2).2.symm
   . exact absurd (Xai.mpr ⟨_,h2,by rw [<-e1]⟩) ha
   . exact absurd (Xai.mpr ⟨_,h1,by rw [<-e2]⟩) ha
   . exact ih hb h1 h2
variable {h1:Heap}{C:Addr}
theorem Un.but {fs ex:List Addr}{h h2:Heap} (u:Un fs ex H H' h h1) (hs:Heap.SameBut C h1 h2) (hC:h.objs.size<=C):Un fs ex H H' h h2:=by
 have ne:∀ b o,h.get? b=some o->b≠C:=fun b o e=>XaZ (Xbf (Xbp e) hC);refine ⟨fun b o e n hb hx=>(hs.2 b (ne b o e)).trans (u.keep b o e n hb hx),fun b o e n hb hx=>?_,u.free,fun b o e hx=>?_,u.tups,u.frzs,u.tbls⟩
 . obtain ⟨sl,q⟩:=u.slot b o e n hb hx
   exact ⟨sl,(hs.2 b (ne b o e)).trans q⟩
 . obtain ⟨o',q⟩:=u.there b o e hx
   exact ⟨o',(hs.2 b (ne b o e)).trans q⟩
theorem HOk.but {h2:Heap} (x:HOk P w H h1) (hs:Heap.SameBut C h1 h2) (hn:H C=none):HOk P w H h2:=fun b u e=>by
 refine (x b u e).stay (fun c v hc q=>(hs.2 c ?_).trans q) (fun _ q=>q) fun _ _ q=>q;rintro rfl
 rcases hc with rfl | hc
 . rw [hn] at e;cases e
 . rw [hn] at hc;cases hc
section
variable {X:Cx} {scope:Scope} {N:List Str} {k:Nat} {caps:List Nat} {psc:Scope} {PN:List Str} {pins:List (Addr×Obj)} {σ:St} {H:Hp} {s:Shared}
abbrev Za0 (X:Cx) (scope:Scope) (C:Addr):List (Str×Addr):=cellsFrom (C+1) scope.names (ZbD X.env scope.names [])
theorem Zd4 (I:Inv X pins σ H s) (S:CompScope X.env.scope X.N scope N k caps) {c:Addr} (h:(x,c)∈Za0 X scope C) :
 (x,c)∈cellsFrom (C+1) scope.names []\/X.env.cells.lookup x=some c:=by
 unfold Za0 at h;rw [ZaT] at h
 rcases Xaf.mp h with h | h
 . exact .inl h
 . rcases Zc1 h with h | ⟨h,e⟩
   . simp at h
   . obtain ⟨c',hc⟩:=I.ok.has x (S.free _ h rfl)
     rw [hc] at e;exact .inr (by rw [hc];exact Xbj some e.symm)
theorem ZiI {fp:List Addr} (I:Inv X pins σ H s) (S:CompScope X.env.scope X.N scope N k caps) (hf:∀ b∈fp,FpOk X pins H b) (hfo:∀ b∈fp,∃ o,s.heap.get? b=some o) {D C:Nat} {t':Nat} (hD:D=s.heap.objs.size) (hC:C=D+1)
 (hh:h1=pushCells ((s.heap.push { cls:=.type "list",data:=.seq #[] }).push { cls:=.type "dict",data:=.dict #[] }) scope.names) :
 Inv (Zbh X N scope (Za0 X scope C) C s H fp) [] (Zbe k caps σ) (upd H D (.lst [])) { s with heap:=h1,toks:=t' }:=by
 have hsz1:(s.heap.push { cls:=.type "list",data:=.seq #[] }).objs.size=C:=by rw [Heap.size_push,hC,hD]
 have hsz2:((s.heap.push { cls:=.type "list",data:=.seq #[] }).push { cls:=.type "dict",data:=.dict #[] }).objs.size=C+1:=by rw [Heap.size_push,hsz1]
 have old:∀ b o,s.heap.get? b=some o->h1.get? b=some o:=fun b o e=>by
  rw [hh];exact pushCells_keeps _ _ b o (Xbo _ (Xbo _ e))
 have hacc:h1.get? D=some { cls:=.type "list",data:=.seq #[] }:=by
  rw [hh,hD];exact pushCells_keeps _ _ _ _ (Xbo _ (Xbq _ rfl))
 have hns:h1.Ns C (fun _=>none):=by
  rw [hh,<-hsz1]
  exact (Heap.Ns.new _ (.type "dict")).keeps (pushCells_keeps _ _)
 have ok:=cellsFrom_ok scope.names ((s.heap.push { cls:=.type "list",data:=.seq #[] }).push { cls:=.type "dict",data:=.dict #[] }) (C+1) [] ⟨fun _ _ hm=>(nomatch hm),List.Pairwise.nil⟩ (by rw [hsz2];exact XaW _)
 rw [hsz2] at ok
 have own:∀ x c,(x,c)∈cellsFrom (C+1) scope.names []->h1.IsCell c none/\C+1<=c:=fun x c h=>by rw [hh];exact ok.empty x c h
 have par:∀ x c,X.env.cells.lookup x=some c->c<D:=fun x c e=>by
  obtain ⟨v,q⟩:=I.cell x c e;rw [hD];exact q.lt
 have fpD:∀ b∈fp,b<D:=fun b hb=>by
  obtain ⟨o,e⟩:=hfo b hb;rw [hD];exact Xbp e
 have hCfree:H C=none:=I.hok.fresh (by rw [hC,hD];exact Nat.le_succ _);have split:=fun x c (h:(Za0 X scope C).lookup x=some c)=>Zd4 (C:=C) I S (Xbt h)
 have updn:∀ b,b≠D->H b=none->(upd H D (.lst [])) b=none:=fun b hb e=>by rw [Zal hb];exact e
 have capt:∀ x,scope.names.lookup x=some .free->∃ c,X.env.cells.lookup x=some c/\(Za0 X scope C).lookup x=some c:=fun x hx=>by
  have hm:=Xbt hx;obtain ⟨c0,h0⟩:=Zb8 (env:=X.env) (acc:=[]) hm;obtain ⟨c,hc⟩:=Zbr (l:=Za0 X scope C) (x:=x) (c:=c0) (by unfold Za0;rw [ZaT];exact Xan _ h0);refine ⟨c,?_,hc⟩
  rcases split x c hc with q | q
  . rcases Zbu q with z | z
    . simp at z
    . have:=Zdw S.ndn hm z;cases this
  . exact q
 have okX : (Zbh X N scope (Za0 X scope C) C s H fp).Ok := by
  refine ⟨I.ok.mod,S.kind,I.ok.glob,I.ok.blt,?above,?inj,?has,?cab,I.ok.hd,I.ok.frames,.inl rfl,?exf,fun b o e=>I.bs b o e,Xbg I.ok.bsz I.sz,?noex,?exfs,I.stack,I.stkFree⟩
  case above =>
   show s.heap.objs.size<=C;rw [hC,hD];exact Nat.le_succ _
  case inj =>
   intro x y c e1 e2
   rcases split x c e1 with q1 | q1 <;> rcases split y c e2 with q2 | q2
   . exact name_of_addr ok.apart q1 q2
   . have h1:@LE.le Nat _ (C+1) c:=(own x c q1).2
     have h2:@LT.lt Nat _ c D:=par y c q2;exfalso;omega
   . have h1:@LE.le Nat _ (C+1) c:=(own y c q2).2
     have h2:@LT.lt Nat _ c D:=par x c q1;exfalso;omega
   . exact I.ok.inj x y c q1 q2
  case has =>
   intro x hx;have hx':(relabel scope X.env).names.lookup x=some .cell\/(relabel scope X.env).names.lookup x=some .free:=hx
   have hk:∃ k',(x,k')∈scope.names/\(k'=.cell\/k'=.free):=by
    rcases hx' with q | q
    . obtain ⟨k',h1,h2⟩:=Zd2 q
      rcases h2 with h2 | ⟨h2,_⟩
      . exact ⟨k',h1,.inl h2.symm⟩
      . exact ⟨k',h1,.inr h2⟩
    . obtain ⟨k',h1,h2⟩:=Zd2 q
      rcases h2 with h2 | ⟨_,h2⟩
      . exact ⟨k',h1,.inr h2.symm⟩
      . cases h2
   obtain ⟨k',hm,hk | hk⟩:=hk
   . subst hk
     have q:=PySem.W.cellsFrom_some scope.names (C+1) (ZbD X.env scope.names []) (x:=x) (.inl (by
      obtain ⟨k2,hk2⟩:=Zbr hm
      rw [hk2,Zdw S.ndn (Xbt hk2) hm]))
     exact Option.isSome_iff_exists.mp q
   . subst hk
     obtain ⟨c0,h0⟩:=Zb8 (env:=X.env) (acc:=[]) hm;exact Zbr (c:=c0) (by show (x,c0)∈Za0 X scope C;unfold Za0;rw [ZaT];exact Xan _ h0)
  case cab =>
   intro x c hx e;have hx':decide (scope.names.lookup x≠some .free)=true:=hx;have hx2:=Xa7 hx';show s.heap.objs.size<=c;have e':(Za0 X scope C).lookup x=some c:=e;have hm:=Xbt e';unfold Za0 at hm;rw [ZaT] at hm
   rcases Xaf.mp hm with z | z
   . have h1:@LE.le Nat _ (C+1) c:=(own x c z).2
     have h2:@LE.le Nat _ s.heap.objs.size c:=by omega
     exact h2
   . rcases Zc1 z with z | ⟨z,_⟩
     . simp at z
     . obtain ⟨k2,hk2⟩:=Zbr z
       exact absurd (by rw [hk2,Zdw S.ndn (Xbt hk2) z]) hx2
  case exf =>
   intro b hb;refine ⟨?_,fun x c e z=>?_⟩
   . have h1:@LT.lt Nat _ b D:=fpD b hb
     exact XaZ (show @LT.lt Nat _ b C by omega)
   . rcases split x c e with q | q
     . have h1:@LE.le Nat _ (C+1) c:=(own x c q).2
       have h2:@LT.lt Nat _ b D:=fpD b hb;have z':@Eq Nat c b:=z;omega
     . exact (hf b hb).2.2.2.2.1 x c q z
  case noex =>
   intro b o e hb
   rcases (hf b hb).2.2.2.1 with q | q
   . exact I.ok.noex b o e q
   . exact absurd (Xbf (Xbp e) (Xbg I.ok.bsz q)) (XaX _)
  case exfs =>
   intro b hb z;have z':b∈frs X.stack:=z
   rcases Xam.mp (I.stkSub b z') with q | q
   . exact (hf b hb).2.1 q
   . exact (hf b hb).2.2.1 q
 refine ⟨okX,rfl,I.bare,Un.laid old (by rw [hD];exact XaW _) (I.hok.fresh (by rw [hD];exact XaW _)),⟨_,hns,?loc⟩,?cell,updn _ (show @Ne Nat C D by omega) hCfree,?freeC,fun p hp=>absurd hp (by simp),?hok,?len⟩
 case loc =>
  intro i x v e1 e2 e3;obtain ⟨j,hi,hj,hv⟩:=ZgG e2
  have hz:(x,j)∈(N.drop k).zip caps:=by
   refine List.mem_iff_getElem?.mpr ⟨i - k,?_⟩;rw [List.getElem?_zip_eq_some];refine ⟨?_,hj⟩;rw [List.getElem?_drop,show k+(i - k)=i by omega];exact e1
  obtain ⟨hp,hfr⟩:=S.cap (x,j) hz;have hk:=S.free (x,.free) (Xbt hfr) rfl;obtain ⟨m,hn,hl⟩:=I.loc;obtain ⟨u,r,l⟩:=hl j x v hp hv (by rcases hk with q | q;exact .inr (.inl q);exact .inr (.inr q));refine ⟨u,r,?_⟩;obtain ⟨c,hc1,hc2⟩:=capt x hfr
  have hcell:s.heap.IsCell c (some u):=by
   rcases l with ⟨q,_⟩ | ⟨_,c',q1,q2⟩
   . have q':X.env.scope.names.lookup x=some .local:=q
     rcases hk with z | z
     . rw [q'] at z;cases z
     . rw [q'] at z;cases z
   . rw [hc1] at q1;cases q1;exact q2
  exact .inr ⟨Zd3 hfr,c,hc2,hcell.keeps old⟩
 case cell =>
  intro x c e
  rcases split x c e with q | q
  . exact ⟨_,(own x c q).1⟩
  . obtain ⟨v,z⟩:=I.cell x c q
    exact ⟨v,z.keeps old⟩
 case freeC =>
  intro x c e
  rcases split x c e with q | q
  . have h1:@LE.le Nat _ (C+1) c:=(own x c q).2
    have h2:@LE.le Nat _ s.heap.objs.size c:=by omega
    exact updn c (show @Ne Nat c D by omega) (I.hok.fresh h2)
  . exact updn c (XaZ (par x c q)) (I.freeC x c q)
 case hok =>
  exact I.hok.laid old (by rw [hD];exact XaW _) ⟨Xa0 _,[],0,.nil,hacc⟩
 case len =>
  show (Zbe k caps σ).length=N.length;unfold Zbe;rw [Xac,List.length_replicate,Xaa,S.len]
theorem ZiJ {fp:List Addr} (I:Inv X pins σ H s) (S:CompScope X.env.scope X.N scope N k caps) {pins':List (Addr×Obj)} {σ':St} {s':Shared} (hfc:∀ x c,X.env.cells.lookup x=some c->c ∉ fp) (hD:s.heap.objs.size<=C)
 (J:Inv (Zbh X N scope (Za0 X scope C) C s H fp) pins' σ' H' s'):Inv (Zbh X N scope (Za0 X scope C) C s H fp) pins' (Zbe k caps σ) H' s':=by
 obtain ⟨m,hn,_⟩:=id J.loc;refine ⟨J.ok,J.os,J.bare,J.base,⟨m,hn,fun i x v e1 e2 e3=>?_⟩,J.cell,J.free,J.freeC,J.pin,J.hok,?_⟩
 . obtain ⟨j,hi,hj,hv⟩:=ZgG e2
   have hz:(x,j)∈(N.drop k).zip caps:=by
    refine List.mem_iff_getElem?.mpr ⟨i - k,?_⟩;rw [List.getElem?_zip_eq_some];refine ⟨?_,hj⟩;rw [List.getElem?_drop,show k+(i - k)=i by omega];exact e1
   obtain ⟨hp,hfr⟩:=S.cap (x,j) hz;have hk:=S.free (x,.free) (Xbt hfr) rfl;obtain ⟨m2,hn2,hl⟩:=I.loc;obtain ⟨u,r,l⟩:=hl j x v hp hv (by rcases hk with q | q;exact .inr (.inl q);exact .inr (.inr q));refine ⟨u,r,?_⟩
   have hcell:∃ c,X.env.cells.lookup x=some c/\s.heap.IsCell c (some u):=by
    rcases l with ⟨q,_⟩ | ⟨_,c',q1,q2⟩
    . have q':X.env.scope.names.lookup x=some .local:=q
      rcases hk with z | z
      . rw [q'] at z;cases z
      . rw [q'] at z;cases z
    . exact ⟨c',q1,q2⟩
   obtain ⟨c,hc1,o,ho,hd⟩:=hcell
   have hc2:(Za0 X scope C).lookup x=some c:=by
    have hm:=Xbt hfr;obtain ⟨c0,h0⟩:=Zb8 (env:=X.env) (acc:=[]) hm;obtain ⟨c',hc'⟩:=Zbr (l:=Za0 X scope C) (x:=x) (c:=c0) (by unfold Za0;rw [ZaT];exact Xan _ h0)
    rcases Zd4 (C:=C) I S (Xbt hc') with q | q
    . rcases Zbu q with z | z
      . simp at z
      . have:=Zdw S.ndn hm z;cases this
    . rw [hc1] at q;cases q;exact hc'
   obtain ⟨sl,q⟩:=J.base.any ho (I.freeC x c hc1) (hfc x c hc1);exact .inr ⟨Zd3 hfr,c,hc2,_,q,hd⟩
 . show (Zbe k caps σ).length=N.length
   unfold Zbe;rw [Xac,List.length_replicate,Xaa,S.len]
end
def PF (X:Cx) (ifs:List Expr) (t:TT):Prop :=
 ∀ (pins:List (Addr×Obj)) (s:Shared) (σ:St) (H:Hp) (Q:Bool->Hp->Prop),Inv X pins σ H s->t σ H Q ->
  wpAny (model X.prog X.w) X.A (forIn ifs true fun c r=>if r=true then do let ok <-isTrue c X.env (eval c X.env);pure (ForInStep.yield ok) else pure (ForInStep.yield r)) (TP X pins σ Q) X.xe s
def tYes:TT:=fun _ H Q=>Q true H
theorem ZcJ :PF X [] tYes:=fun _ _ _ H _ I h=>wpAny_tests_nil ⟨H,I,h⟩
theorem Zh2 {c:Expr}{t:TT} (h:PT X c t):PF X [c] t:=fun pins s σ H Q I hw=>wpAny_tests_one (h pins s σ H Q I hw)
variable {elt iter:Expr}{ifs:List Expr}
theorem ZjC {prog:Program}{R:Result->Shared->Prop}{target:Expr} {it acc:Value}(I:Nat->Shared->Prop)
 (turn:∀ n s,I n s->wpAny (model prog w) A (pyNext it) (fun r s₁=>match r with
  | none=>R (.ok .next) s₁
  | some v=>wpAny (model prog w) A (letOwnedTupleGo target it v) (fun _ s₁=>wpAny (model prog w) A (assign target env v) (fun _ s₂ =>
   wpAny (model prog w) A (forIn ifs true fun c r=>if r=true then do let ok <-isTrue c env (eval c env);pure (ForInStep.yield ok) else pure (ForInStep.yield r)) (fun ok s₃ =>
    if ok=true then wpAny (model prog w) A (eval elt env) (fun x s₄ =>
     wpAny (model prog w) A (call (.builtin "list.append") [acc,x]) (fun _ s₅=>∃ m,m<n/\I m s₅) (fun _ _=>False) s₄) (fun _ _=>False) s₃
    else ∃ m,m<n/\I m s₃) (fun _ _=>False) s₂) (fun _ _=>False) s₁) (fun _ _=>False) s₁) (fun _ _=>False) s)
 (n:Nat) (h:I n s) :
 codeAny (model prog w) A (.compLoop (.ListComp elt [⟨target,iter,ifs,0⟩] scope pos) 0 it acc env) R s:=by
 refine codeAny_loop rfl I (fun n s hI=>?_) n h
 show wpAny _ A ((compTurn (.ListComp elt [⟨target,iter,ifs,0⟩] scope pos) 0 it acc env).onRaise (fun x=>do noteFrame x env;theTreesLotGoes x)) _ _ s
 refine wpAny_noted ?_;rw [compTurn_list];refine Xbk (wpAny_standAt (Xbk (Xbu (turn n s hI) (fun r s₁ h₁=>?_) fun _ _ h'=>h'.elim)))
 cases r with
 | none=>exact Xbl h₁
 | some v =>
   refine Xbk (Xbu h₁ (fun _ s₁ h₁=>?_) fun _ _ h'=>h'.elim);refine Xbk (Xbu h₁ (fun _ s₂ h₂=>Xbk (Xbu h₂ (fun ok s₃ h₃=>?_) fun _ _ h'=>h'.elim)) fun _ _ h'=>h'.elim)
   cases ok with
   | false=>exact Xbl ⟨rfl,h₃⟩
   | true =>
     exact Xbk (Xbk (Xbu h₃ (fun x s₄ h₄=>Xbk (Xbu h₄ (fun _ s₅ h₅=>Xbl (Xbl ⟨rfl,h₅⟩)) fun _ _ h'=>h'.elim)) fun _ _ h'=>h'.elim))
def tComp (k:Nat) (caps:List Nat) (wi:TI) (g:TG) (tc:TT) (te:TE):TE:=fun σ H Q=>wi σ H fun J H1=>∀ D,H1 D=none->∃ W:Nat->Nat->List V->Hp->Prop,(∃ m,W 0 m [] (upd H1 D (.lst [])))/\∀ i m ys H2,W i m ys H2 ->
 (J.stop i H2/\Q (.ref D) H2)\/(J.go i H2/\∀ x H3,J.yld i H2 x H3->g x (Zbe k caps σ) H3 fun σ4 H4=>tc σ4 H4 fun b H5 =>
  if b=true then te σ4 H5 fun y H6=>H6 D=some (.lst ys)/\ys.length<sizeLine/\∃ m',m' < m/\W (i+1) m' (ys++[y]) (upd H6 D (.lst (ys++[y]))) else ∃ m',m' < m/\W (i+1) m' ys H5)
variable {tg:Expr}{N:List Str}{tc:TT}{te:TE}
theorem Zfo {E:Value->Shared->Prop} {Q:VK}
 {it:Addr} {fp:List Addr} {tn:Nat->Heap->Prop} {J:It} {RR:Value->Addr->Result->Shared->Prop} (hc:X.calm=true) (S:CompScope X.env.scope X.N scope N k caps) (I:Inv X pins σ H s)
 (T:Turn X.prog X.w X.K tg J fp it tn) (st:tn 0 s.heap) (hf:∀ b∈fp,FpOk X pins H b)
 (hg:∀ cs C s H ex,PG (Zbh X N scope cs C s H ex) tg g) (ht:∀ cs C s H ex,PF (Zbh X N scope cs C s H ex) ifs tc) (he:∀ cs C s H ex,PE (Zbh X N scope cs C s H ex) elt te)
 (q:∀ D,H D=none->∃ W:Nat->Nat->List V->Hp->Prop,(∃ m,W 0 m [] (upd H D (.lst [])))/\∀ i m ys H2,W i m ys H2 ->
  (J.stop i H2/\Q (.ref D) H2)\/(J.go i H2/\∀ x H3,J.yld i H2 x H3->g x (Zbe k caps σ) H3 fun σ4 H4=>tc σ4 H4 fun b H5 =>
   if b=true then te σ4 H5 fun y H6=>H6 D=some (.lst ys)/\ys.length<sizeLine/\∃ m',m' < m/\W (i+1) m' (ys++[y]) (upd H6 D (.lst (ys++[y]))) else ∃ m',m' < m/\W (i+1) m' ys H5))
 (hRR:∀ D C H' s' m,C≠X.env.locals->(∀ x c,X.env.cells.lookup x=some c->c≠C)->s'.heap.Ns C m->(∀ h',Heap.SameBut C s'.heap h'->Inv X pins σ H' { s' with heap:=h' })->H' C=none->s.heap.objs.size<=C->Q (.ref D) H'->RR (.ref D) C (.ok .next) s') :
 wpAny (model X.prog X.w) X.A (newList []) (fun acc s₃=>wpAny (model X.prog X.w) X.A (newFunctionEnv scope X.env.globals (ZbD X.env scope.names []) [] X.env.qual none .none (some X.env)) (fun cenv s₄ =>
  codeAny (model X.prog X.w) X.A (.compStart (.ListComp elt [⟨tg,iter,ifs,0⟩] scope pos) 0 (.ref it) acc { cenv with scope:=relabel scope X.env }) (RR acc cenv.locals) s₄) E s₃) E s:=by
 refine wpAny_newObj_type (ZkZ ?_);generalize hD:s.heap.objs.size=D
 have hsz1:(s.heap.push { cls:=.type "list",dict:=none,data:=.seq ([]:List Value).toArray }).objs.size=D+1:=by rw [Heap.size_push,hD]
 dsimp only;rw [hsz1];have hfo:∀ b∈fp,∃ o,s.heap.get? b=some o:=fun b hb=>let ⟨o,e,_⟩:=T.obj 0 _ st b hb;⟨o,e⟩;have hHD:H D=none:=I.hok.fresh (by rw [hD];exact XaW _);have J0:=ZiI (t':=s.toks) I S hf hfo (D:=D) (C:=D+1) hD.symm rfl rfl;have hfc:∀ x c,X.env.cells.lookup x=some c->c ∉ fp:=fun x c e hb=>(hf c hb).2.2.2.2.1 x c e rfl
 have fpo:∀ {pins':List (Addr×Obj)} {H':Hp},(∀ b∈fp,H' b=none)->pins'=[]->∀ b∈fp,FpOk (Zbh X N scope (Za0 X scope (D+1)) (D+1) s H fp) pins' H' b:=fun {pins' H'} hn hp b hb=>by
  obtain ⟨o,e⟩:=hfo b hb
  have hlt:@LT.lt Nat _ b D:=by rw [<-hD];exact Xbp e
  subst hp;refine ⟨hn b hb,?_,fun z=>?_,.inl hb,fun x c e=>(J0.ok.exf b hb).2 x c e,fun p hp=>absurd hp (by simp)⟩
  . show @Ne Nat b (D+1)
    omega
  . have z':b∈frs X.stack:=z
    rcases Xam.mp (I.stkSub b z') with w | w
    . exact (hf b hb).2.1 w
    . exact (hf b hb).2.2.1 w
 obtain ⟨W,⟨m0,w0⟩,turn⟩:=q D hHD
 have st1:tn 0 (pushCells ((s.heap.push { cls:=.type "list",data:=.seq #[] }).push { cls:=.type "dict",data:=.dict #[] }) scope.names):=T.keep 0 _ _ st fun b hb o e=>pushCells_keeps _ _ b o (Xbo _ (Xbo _ e))
 have fr0:∀ b∈fp,(upd H D (.lst [])) b=none:=fun b hb=>by
  obtain ⟨o,e⟩:=hfo b hb
  have hlt:@LT.lt Nat _ b D:=by rw [<-hD];exact Xbp e
  rw [Zal (show @Ne Nat b D by omega)];exact (hf b hb).1
 have fin:∀ {H':Hp} {s':Shared} {σ':St} {pins':List (Addr×Obj)},Inv (Zbh X N scope (Za0 X scope (D+1)) (D+1) s H fp) pins' σ' H' s'->Q (.ref D) H'->RR (.ref D) (D+1) (.ok .next) s':=fun {H' s' σ' pins'} J q=>by
  obtain ⟨m,hn,_⟩:=id J.loc;refine hRR D (D+1) H' s' m (fun z=>?_) (fun x c e z=>?_) hn (fun h' hs=>?_) J.free (by rw [hD];exact Nat.le_succ _) q
  . have h1:@LT.lt Nat _ X.env.locals D:=by rw [<-hD];exact I.lt
    have z':@Eq Nat (D+1) X.env.locals:=z;omega
  . obtain ⟨v,y⟩:=I.cell x c e
    have h1:@LT.lt Nat _ c D:=by rw [<-hD];exact y.lt
    have z':@Eq Nat c (D+1):=z;omega
  . refine I.call' (ch:=fp) J.os (J.base.but hs (by rw [hD];exact Nat.le_succ _)) (J.hok.but hs J.free) J.bare fun b hb=>?_
    exact ⟨(hf b hb).2.2.2.1,(hf b hb).2.1,(hf b hb).2.2.2.2.1,(hf b hb).2.2.2.2.2⟩
 have loop : codeAny (model X.prog X.w) X.A (.compLoop (.ListComp elt [⟨tg, iter, ifs, 0⟩] scope pos) 0 (.ref it) (.ref D) (compEnvC scope (Za0 X scope (D + 1)) (D + 1) X.env)) (RR (.ref D) (D + 1))
  { s with heap:=pushCells ((s.heap.push { cls:=.type "list",data:=.seq #[] }).push { cls:=.type "dict",data:=.dict #[] }) scope.names }:=by
  refine ZjC (fun n s'=>∃ i ys H',Inv (Zbh X N scope (Za0 X scope (D+1)) (D+1) s H fp) [] (Zbe k caps σ) H' s'/\tn i s'.heap/\(∀ b∈fp,H' b=none)/\W i n ys H') ?_ m0 ⟨0,[],_,J0,st1,fr0,w0⟩;rintro n s3 ⟨i,ys,H3,I3,st3,fr3,w3⟩
  rcases turn i n ys H3 w3 with ⟨stop,qn⟩ | ⟨go,step⟩
  . refine thn (T.done (Zbh X N scope (Za0 X scope (D+1)) (D+1) s H fp) rfl rfl rfl hc i [] s3 _ H3 _ I3 (fpo fr3 rfl) st3 stop) fun r s4 ⟨hr,I4⟩=>?_
    subst hr;exact fin I4 qn
  . refine thn (T.item (Zbh X N scope (Za0 X scope (D+1)) (D+1) s H fp) rfl rfl rfl hc i [] s3 _ H3 _ I3 (fpo fr3 rfl) st3 go) fun r s4 ⟨u,hr,h4⟩=>?_
    subst hr;refine thn h4 fun _ s5 ⟨x,H5,I5,r5,y5,st5,fr5⟩=>?_;have I5':=I5.pinned (fpo fr5 rfl) (T.obj _ _ st5)
    have again:∀ {σ7:St} {H7:Hp} {s7:Shared} {m':Nat} {zs:List V},Inv (Zbh X N scope (Za0 X scope (D+1)) (D+1) s H fp) ([]++Zgt fp s5.heap) σ7 H7 s7->m' < n->W (i+1) m' zs H7 ->
     ∃ m,m<n/\∃ i ys H',Inv (Zbh X N scope (Za0 X scope (D+1)) (D+1) s H fp) [] (Zbe k caps σ) H' s7/\tn i s7.heap/\(∀ b∈fp,H' b=none)/\W i m ys H':=fun {σ7 H7 s7 m' zs} I7 hm w7=>by
     refine ⟨m',hm,i+1,zs,H7,ZiJ I S hfc (by rw [hD];exact Nat.le_succ _) I7.unpinned,T.keep _ _ _ st5 fun b hb o e=>(I7.pin (b,o) (Xan _ (Xan _ (Zc0 hb e)))).1,fun b hb=>?_,w7⟩;obtain ⟨o,e,d⟩:=T.obj _ _ st5 b hb;exact (I7.pin (b,o) (Xan _ (Xan _ (Zc0 hb e)))).2.1
    refine thn (hg _ _ _ _ _ _ s5 _ H5 x u _ I5' r5 (step x H5 y5)) fun _ s6 ⟨σ6,H6,I6,q6⟩=>?_;refine thn (ht _ _ _ _ _ _ s6 σ6 H6 _ I6 q6) fun b s7 ⟨H7,I7,q7⟩=>?_
    cases b with
    | false =>
      rw [Xbd Xbb] at q7 ⊢;obtain ⟨m',hm,w7⟩:=q7;exact again I7 hm w7
    | true =>
      rw [Xbe rfl] at q7 ⊢;refine thn (he _ _ _ _ _ _ s7 σ6 H7 _ I7 q7) fun y s8 ⟨yv,H8,I8,r8,hD8,hz8,m',hm,w8⟩=>?_;refine thn (ZgC (X:=Zbh X N scope (Za0 X scope (D+1)) (D+1) s H fp) _ s8 σ6 H8 (.ref D) [yv] (.ref D) [y] (fun _ H9=>W (i+1) m' (ys++[yv]) H9) I8 rfl (.cons r8 .nil) ⟨D,ys,yv,rfl,rfl,hD8,hz8,w8⟩) fun _ s9 ⟨_,H9,I9,_,w9⟩=>?_;exact again I9 hm w9
 exact codeAny_compStart_list loop (T.self _ 0 _ _ _ st1 loop)
theorem ZcK {wi:TI}(hc:X.calm=true) (S:CompScope X.env.scope X.N scope N k caps) (hi:PI X tg iter wi)
 (hg:∀ cs C s H ex,PG (Zbh X N scope cs C s H ex) tg g) (ht:∀ cs C s H ex,PF (Zbh X N scope cs C s H ex) ifs tc) (he:∀ cs C s H ex,PE (Zbh X N scope cs C s H ex) elt te)
 (hs:∀ x,foldedSetIterable iter X.env x=pure x:=by intro _;rfl):PE X (.ListComp elt [⟨tg,iter,ifs,0⟩] scope pos) (tComp k caps wi g tc te):=by
 intro pins s σ H Q I h;have hcl:closureFor scope X.env=pure (ZbD X.env scope.names []):=Zdv fun x hx hfr=>I.ok.has x.1 (S.free x hx hfr);rw [eval_ListComp];refine wpAny_comprehension_free (use:=none) rfl hs hcl S.kind S.loc (thn (hi pins s σ H _ I h) fun v s1 h1=>thn h1 fun itv s2 h2=>?_);obtain ⟨it,fp,tn,J,H2,e,I2,T,st2,f2,q⟩:=h2;subst e;refine Zfo (Q:=Q) hc S I2 T st2 f2 hg ht he q ?_;intro D C H' s' m _ _ hn hI _ _ hq;exact ⟨m,hn,fun h' hs'=>⟨.ref D,H',hI h' hs',rfl,hq⟩⟩
theorem Zdi {spos:Pos} {pos':Pos}{wi:TI}(hN:X.N.Nodup) (hi':X.N[i]?=some x) (hx:Loc X.env.scope x)
 (hc:X.calm=true) (S:CompScope X.env.scope X.N scope N k caps) (hi:PI X tg iter wi)
 (hg:∀ cs C s H ex,PG (Zbh X N scope cs C s H ex) tg g) (ht:∀ cs C s H ex,PF (Zbh X N scope cs C s H ex) ifs tc) (he:∀ cs C s H ex,PE (Zbh X N scope cs C s H ex) elt te)
 (hsw:swapsWith (.ListComp elt [⟨tg,iter,ifs,0⟩] scope pos) (some (.Name x pos')) spos.line X.env=pure true:=by rfl)
 (hs:∀ x,foldedSetIterable iter X.env x=pure x:=by intro _;rfl) (hfn:X.fn x=true\/X.env.scope.names.lookup x=some .local:=by first | exact .inl rfl | exact .inr rfl | assumption) :
 PS X (.Assign [.Name x pos'] (.ListComp elt [⟨tg,iter,ifs,0⟩] scope pos) spos) (tAsg (tComp k caps wi g tc te) (Zd7 i)):=by
 intro pins s σ H D I h;have hcl:closureFor scope X.env=pure (ZbD X.env scope.names []):=Zdv fun x hx hfr=>I.ok.has x.1 (S.free x hx hfr);rw [exec_Assign_Name_used _ _ _ _ hsw];refine Xbk (wpAny_standAt (Xbk ?_))
 show wpAny _ _ (do let _ <-comprehension (.ListComp elt [⟨tg,iter,ifs,0⟩] scope pos) scope X.env _ (newList []) false (eval iter X.env) (some (assign (.Name x pos') X.env))) _ _ s
 refine Xbk (Xbu (wpAny_comprehension_free (use:=some (assign (.Name x pos') X.env)) (Q:=fun _ s'=>SP X pins D .next s') rfl hs hcl S.kind S.loc
  (thn (hi pins s σ H _ I h) fun v s1 h1=>thn h1 fun itv s2 h2=>?_)) (fun _ s' hq=>Xbl (Xbl hq)) fun _ _ e=>e)
 obtain ⟨it,fp,tn,J,H2,e,I2,T,st2,f2,q⟩:=h2;subst e;refine Zfo (Q:=fun x H1=>Zd7 i x σ H1 D.nx) hc S I2 T st2 f2 hg ht he q ?_;intro D' C H' s' m hCL hCc hn hI hHC hCs hq;have I3:=hI s'.heap (.refl ..);have I3':Inv X pins σ H' s':=I3;refine wpAny_assign_Name (Zgs I3' hN hi' hx (show RelV (V.ref D') (.ref D') from rfl) (fun s'' I4 ⟨a,hsb,ha⟩=>?_) hfn)
 have hCa:C≠a:=by
  rcases ha with ha | ha
  . rw [ha];exact hCL
  . exact Ne.symm (hCc x a ha)
 refine ⟨m,hn.sameBut hsb hCa,fun h' hs'=>?_⟩;refine ⟨_,H',?_,hq⟩
 exact I4.turned (t':=s''.toks) (fun b o hb e=>(hs'.2 b hb).trans e) hHC hCL (.inr (Xbg I2.sz hCs)) hCc fun p hp z=>by
  have:=Xbp (I2.pin p hp).1
  rw [z] at this;exact absurd (Xbf this hCs) (XaX _)
def ZaB (P:Program) (w:World) (K:XFg) (mg:Str->Option Value) (base:Heap) (x:Str) (k:Nat) (ps:List Str) (sp:Sp):Prop :=
 ∃ f fd,FnOk P w K mg base CX0 k f fd ps sp/\mg x=some (.ref f)/\PySem.W.keepIn K (.ref f)=true/\Binds K fd ps []
section
variable {X:Cx} {x:Str} {k:Nat} {ps:List Str} {sp:Sp} {e:Expr} {es:List Expr} {t:TA} {p pos:Pos}
theorem Zaz (C:ZaB X.prog X.w X.K X.mg X.base x k ps sp) (hr:Room k X.A) (hg:Gl X x) (ha:PA X (e :: es) t) (hdb:(x == ("__debug__" : Str))=false:=by decide)
 (he:starEach (e :: es) X.env=(false,eval e X.env) :: starEach es X.env:=by rfl) (hpl:(backTo pos (starEach es X.env)).any (·.1)=false:=by rfl):PE X (.Call (.Name x p) (e :: es) [] pos) (tCall sp [] E0 t):=by
 obtain ⟨f,fd,F,hm,hk,hb⟩:=C;exact pe_call F hr hg hm hk hb .nil pass0 ha hdb he hpl
end
theorem ZfG (n:String) (hg:Gl X x) (hm:X.mg x=none) (hv:bootBuiltins x=some (.type n)) (hn:x ≠ "__name__" := by decide) (hd:(x == ("__debug__" : Str))=false:=by decide):PE X (.Name x pos) (tC (.ty n)):=pe_bltn (v:=.ty n) hg hm hv rfl hn hd
theorem ZdL {t u:TS}{σ:L2.St}(P:L2.St->Hp->Prop) (hu:∀ σ' H',P σ' H'->u D σ' H') (ht:∀ N:L2.St->Hp->Prop,(∀ σ' H',P σ' H'->N σ' H')->t { D with nx:=N } σ H):tSeq t u D σ H:=ht (u D) hu
theorem Same.upd {H H':Hp}{D:Addr}{o:HO} (h:Same H H') (hn:H D=none):Same H (upd H' D o):=fun b u e=>by
 rw [Zal (Zad e hn)];exact h b u e
theorem Same.seqT {K:XFg}(e:Same H H') (h:SqT K H a xs):SqT K H' a xs:=by
 rcases h with (h | ⟨o,h⟩) | h
 . exact .inl (.inl (e _ _ h))
 . exact .inl (.inr ⟨o,e _ _ h⟩)
 . exact .inr h
theorem ZgH {K:XFg}{H1:Hp}{Q:Addr->Hp->Prop} (f:V->V) (hn:xs.length<=sizeLine) (hq:SqL K H1 a xs)
 (hs:∀ (i:Nat) (x:V) (H2:Hp) (D:Addr) (R:VK),xs[i]?=some x->Same H1 H2->H1 D=none->(∀ H3,Same H2 H3->R (f x) H3)->g x (Zbe k caps σ) H2 fun σ4 H4=>te σ4 H4 R)
 (hd:∀ (H2:Hp) (D:Addr),Same H1 H2->H1 D=none->H2 D=some (.lst (xs.map f))->Q D H2) :
 ∀ D,H1 D=none->∃ W:Nat->Nat->List V->Hp->Prop,(∃ m,W 0 m [] (upd H1 D (.lst [])))/\∀ i m ys H2,W i m ys H2 ->
  ((Itl K a).stop i H2/\Q D H2)\/((Itl K a).go i H2/\∀ x H3,(Itl K a).yld i H2 x H3->g x (Zbe k caps σ) H3 fun σ4 H4=>tYes σ4 H4 fun b H5 =>
   if b=true then te σ4 H5 fun y H6=>H6 D=some (.lst ys)/\ys.length<sizeLine/\∃ m',m' < m/\W (i+1) m' (ys++[y]) (upd H6 D (.lst (ys++[y]))) else ∃ m',m' < m/\W (i+1) m' ys H5):=by
 intro D hD;refine ⟨fun i m ys H2=>m=xs.length - i/\i<=xs.length/\ys=(xs.take i).map f/\Same H1 H2/\H2 D=some (.lst ys),⟨xs.length,rfl,Xa0 _,rfl,(Same.refl _).upd hD,upd_same⟩,?_⟩;rintro i m ys H2 ⟨rfl,hi,rfl,s2,e2⟩;have q2:=s2.seq hq
 by_cases hlt:i<xs.length
 . refine .inr ⟨⟨xs,xs[i],q2,by simp [hlt]⟩,fun x H3 y=>?_⟩
   obtain ⟨rfl,y⟩:=y;have hx:=y xs q2;refine hs i x H3 D _ hx s2 hD fun H4 s4=>?_;refine ⟨s4 _ _ e2,by rw [Xaa,Xaw];omega,xs.length - (i+1),by omega,rfl,hlt,?_,(s2.trans s4).upd hD,upd_same⟩;rw [Xar,hx,Xad];rfl
 . have e:i=xs.length:=by omega
   subst e;rw [Xas] at e2;exact .inl ⟨⟨xs,q2,XaW _⟩,hd H2 D s2 hD e2⟩
def Zas (ns:List Int) (k:Int):Int:=(ns[k.toNat]?).getD 0
theorem ZfH {u:TS}(h:u D (σ.set i (some v)) H):tSeq (tAsg (tC v) (Zd7 i)) u D σ H:=h
theorem ixN_in {k:Int} (h0:0<=k) (h1:k<n):ixN n k=some k.toNat:=by
 unfold ixN;rw [Xbe h0,Xbe h1]
theorem Zk0 (xs:List V) (a b:Nat) (hab:a<=b):cutV xs (some (a:Int)) (some (b:Int))=(xs.drop a).take (b - a):=by
 unfold cutV;rw [HT.sIx_nat,HT.sIx_nat]
 by_cases ha:a<=xs.length
 . rw [Nat.min_eq_left ha]
   by_cases hb:b<=xs.length
   . rw [Nat.min_eq_left hb]
   . rw [Nat.min_eq_right (show xs.length<=b by omega),List.take_of_length_le (by rw [XaF];exact XaW _),List.take_of_length_le (by rw [XaF];omega)]
 . rw [Nat.min_eq_right (show xs.length<=a by omega),List.drop_of_length_le (XaW _),List.drop_of_length_le (show xs.length<=a by omega)]
   simp
theorem Zak {p:Addr}{o:HO} (h:H p=none):Same H (upd H p o):=(Same.refl H).upd h
theorem g_in {σ:L2.St}{N:L2.St->Hp->Prop} (h:N (σ.set i (some v)) H):Zd7 i v σ H N:=h
section
variable {X:Cx}
theorem ZaK:MtR X "list.append" Zjr:=ZgC
theorem ZjD:MtR X "list.extend" Zjs:=Zjt
theorem Zk1:MtR X "list.clear" rClear:=ZkT
end
abbrev xMod:R2:=rI (fun _ j=>0<j) fun i j=>.int (i % j)
abbrev xMul:R2:=rI CMul fun i j=>.int (i * j)
abbrev xAdd:R2:=rI0 fun i j=>.int (i+j)
section
variable {X:Cx}
def rInDict (neg:Bool):R2:=fun x y H Q=>∃ a o,y=.ref a/\DGet H a x o/\Q (.bl (o.isSome != neg)) H
theorem ZjE (hu:X.A.units+1<cLine):OpR X (compareOp .In) (rInDict false):=by
 intro pins s σ H x y v u Q I rx ry h;obtain ⟨a,o,rfl,g,q⟩:=h;cases ry;refine d_in hu I g rx fun s' I'=>⟨.bl _,H,I',?_,q⟩
 cases o <;> rfl
end
section
variable {prog:Program} {w:World} {A:Around} {R:Result->Shared->Prop} {It:Addr} {fp wr:List Addr} {G:Array GenState->Array GenState->Prop} {n:Nat} {Pn:Nat->Value->Prop} {Sn:Nat->Shared->Prop}
end
section
variable {prog:Program} {w:World} {A:Around} {E:Value->Shared->Prop} {s:Shared}
end
section
variable {X:Cx}
end
open PySem.SeqAt
inductive Dt where
 | non | bl (b:Bool) | int (i:Int) | str (x:Str) | tup (l:List Dt) | lst (l:List Dt)
mutual
inductive IsDt (K:XFg) (H:Hp):V->Dt->Prop where
 | non:IsDt K H .non .non
 | bl (b:Bool):IsDt K H (.bl b) (.bl b)
 | int (i:Int):IsDt K H (.int i) (.int i)
 | str (x:Str):IsDt K H (.str x) (.str x)
 | tup {a:Addr} {vs:List V} {ds:List Dt} (h:SqT K H a vs) (t:IsDts K H vs ds):IsDt K H (.ref a) (.tup ds)
 | lst {a:Addr} {vs:List V} {ds:List Dt} (h:SqL K H a vs) (t:IsDts K H vs ds):IsDt K H (.ref a) (.lst ds)
inductive IsDts (K:XFg) (H:Hp):List V->List Dt->Prop where
 | nil:IsDts K H [] []
 | cons {v:V} {d:Dt} {vs:List V} {ds:List Dt} (h:IsDt K H v d) (t:IsDts K H vs ds):IsDts K H (v :: vs) (d :: ds)
end
mutual
theorem IsDt.same {K:XFg}{H H':Hp} (e:Same H H') {v:V} {d:Dt} (h:IsDt K H v d):IsDt K H' v d:=by
 cases h with
 | non=>exact .non
 | bl b=>exact .bl b
 | int i=>exact .int i
 | str x=>exact .str x
 | tup h t=>exact .tup (e.seqT h) (IsDts.same e t)
 | lst h t=>exact .lst (e.seq h) (IsDts.same e t)
theorem IsDts.same {K:XFg}{H H':Hp} (e:Same H H') {vs:List V} {ds:List Dt} (h:IsDts K H vs ds):IsDts K H' vs ds:=by
 cases h with
 | nil=>exact .nil
 | cons h t=>exact .cons (IsDt.same e h) (IsDts.same e t)
end
theorem IsDts.length {K:XFg}{H:Hp}:∀ {vs:List V}{ds:List Dt},IsDts K H vs ds->vs.length=ds.length
 | _,_,.nil=>rfl
 | _,_,.cons _ t=>Xbj (· + 1) t.length
theorem IsDts.get {K:XFg}{H:Hp}:∀ {vs:List V}{ds:List Dt}{i:Nat}{v:V},IsDts K H vs ds->vs[i]?=some v->∃ d,ds[i]?=some d/\IsDt K H v d
 | _,_,_,_,.nil,e=>by simp at e
 | _,_,0,_,.cons h _,e=>by simp at e;subst e;exact ⟨_,rfl,h⟩
 | _,_,i+1,v,.cons _ t,e=>by
   obtain ⟨d,h1,h2⟩:=IsDts.get (i:=i) (v:=v) t (by simpa using e);exact ⟨d,by simpa using h1,h2⟩
theorem IsDts.get' {K:XFg}{H:Hp}:∀ {vs:List V}{ds:List Dt}{i:Nat}{d:Dt},IsDts K H vs ds->ds[i]?=some d->∃ v,vs[i]?=some v/\IsDt K H v d
 | _,_,_,_,.nil,e=>by simp at e
 | _,_,0,_,.cons h _,e=>by simp at e;subst e;exact ⟨_,rfl,h⟩
 | _,_,i+1,v,.cons _ t,e=>by
   obtain ⟨d,h1,h2⟩:=IsDts.get' (i:=i) (d:=v) t (by simpa using e);exact ⟨d,by simpa using h1,h2⟩
theorem IsDts.strs {K:XFg}{H:Hp}:∀ (xs:List Str),IsDts K H (xs.map V.str) (xs.map Dt.str)
 | []=>.nil
 | x :: xs=>.cons (.str x) (IsDts.strs xs)
section
variable {X:Cx} {pins:List (Addr×Obj)} {σ:St} {H:Hp} {s:Shared}
theorem Inv.not_both (I:Inv X pins σ H s) {ys:List V} (h:SqL X.K H a xs) (h':SqT X.K H a ys):False:=by
 obtain ⟨_,_,⟨o,n,e,c,_⟩,_⟩:=I.list h;obtain ⟨_,_,⟨o',e',c',_⟩,_⟩:=I.tuple h';rw [e] at e';cases e';rw [c] at c';exact absurd c' (by decide)
mutual
theorem IsDt.inj (I:Inv X pins σ H s) {v:V} {d e:Dt} (h:IsDt X.K H v d) (h':IsDt X.K H v e):d=e:=by
 cases h with
 | non=>cases h';rfl
 | bl _=>cases h';rfl
 | int _=>cases h';rfl
 | str _=>cases h';rfl
 | tup h t=>cases h' with
   | tup h' t' =>
     have e:=I.tuple_inj h h';subst e;rw [IsDts.inj I t t']
   | lst h' _=>exact (I.not_both h' h).elim
 | lst h t=>cases h' with
   | lst h' t' =>
     have e:=I.list_inj h h';subst e;rw [IsDts.inj I t t']
   | tup h' _=>exact (I.not_both h h').elim
theorem IsDts.inj (I:Inv X pins σ H s) {vs:List V} {ds es:List Dt} (h:IsDts X.K H vs ds) (h':IsDts X.K H vs es):ds=es:=by
 cases h with
 | nil=>cases h';rfl
 | cons h t=>cases h' with
   | cons h' t'=>rw [IsDt.inj I h h',IsDts.inj I t t']
end
end
def Dt.kd:Dt->Nat
 | .non=>0 | .bl _=>1 | .int _=>2 | .str _=>3 | .tup _=>4 | .lst _=>5
def Zd8 (a b:Nat):Bool:=a != b && !(a == 1 && b == 2) && !(a == 2 && b == 1)
mutual
inductive Cmp:Nat->Dt->Dt->Prop where
 | non {n:Nat}:Cmp n .non .non
 | bl {n:Nat} (a b:Bool):Cmp n (.bl a) (.bl b)
 | int {n:Nat} (a b:Int):Cmp n (.int a) (.int b)
 | str {n:Nat} (a b:Str):Cmp n (.str a) (.str b)
 | tup {n:Nat} {ds es:List Dt} (t:Cmps n ds es):Cmp (n+1) (.tup ds) (.tup es)
 | lst {n:Nat} {ds es:List Dt} (t:Cmps n ds es):Cmp (n+1) (.lst ds) (.lst es)
 | apart {n:Nat} {d e:Dt} (h:Zd8 d.kd e.kd=true):Cmp (n+1) d e
inductive Cmps:Nat->List Dt->List Dt->Prop where
 | nil {n:Nat} (es:List Dt):Cmps n [] es
 | nil' {n:Nat} (ds:List Dt):Cmps n ds []
 | cons {n:Nat} {d e:Dt} {ds es:List Dt} (h:Cmp n d e) (t:Cmps n ds es):Cmps n (d :: ds) (e :: es)
end
theorem Cmps.of {n:Nat}:∀ {ds es:List Dt},(∀ d∈ds,∀ e∈es,Cmp n d e)->Cmps n ds es
 | [],es,_=>.nil es
 | d :: ds,[],_=>.nil' _
 | d :: ds,e :: es,h=>.cons (h d (by simp) e (by simp)) (Cmps.of fun x hx y hy=>h x (by simp [hx]) y (by simp [hy]))
open Classical in
noncomputable def dec (p:Prop):Bool:=decide p
variable {p:Prop}
theorem ZaC (h:p):dec p=true:=@Xa5 p (Classical.propDecidable p) h
theorem ZaL (h:¬p):dec p=false:=@Xa6 p (Classical.propDecidable p) h
theorem dec_iff :dec p=true↔p:=⟨fun h=>@Xa7 p (Classical.propDecidable p) h,ZaC⟩
theorem Zbi {q:Prop} (h:p↔q):dec p=dec q:=by rw [propext h]
theorem Zhu {α:Type} [BEq α] [LawfulBEq α] {a b:α}(h:p↔a=b):(a == b)=dec p:=by
 by_cases e:a=b
 . subst e;rw [ZaC (h.mpr rfl)];exact beq_self_eq_true _
 . rw [ZaL fun q=>e (h.mp q)];exact beq_false_of_ne e
variable {ds es:List Dt}
theorem ZgI (hl:ds.length=es.length) (h:∀ i,i<ds.length->ds[i]?=es[i]?):ds=es:=List.ext_getElem? fun i=>by
 by_cases hi:i<ds.length
 . exact h i hi
 . rw [XaJ (by omega),XaJ (by omega)]
section
variable {X:Cx} {pins:List (Addr×Obj)} {σ:St} {H:Hp} {s:Shared}
theorem Za4 (A:Around):A.in1.units=A.units+1:=rfl
theorem Zh3 (I:Inv X pins σ H s) {vs us:List V} {ivs ius:List Value} (rv:Vals vs ivs) (ru:Vals us ius) (tv:IsDts X.K H vs ds) (tu:IsDts X.K H us es)
 (hc:∀ (i:Nat) (d e:Dt) (v u:V) (x y:Value),ds[i]?=some d->es[i]?=some e->RelV v x->RelV u y->IsDt X.K H v d->IsDt X.K H u e->EqAt A s x y (dec (d=e))) :
 ∀ j (h1:j<ivs.toArray.size) (h2:j<ius.toArray.size),EqAt A s ivs.toArray[j] ius.toArray[j] (dec (ds[j]?=es[j]?)):=by
 intro j h1 h2;have l1:=rv.length;have l2:=ru.length
 have h1':j<ivs.length:=by simpa using h1
 have h2':j<ius.length:=by simpa using h2
 obtain ⟨x,hx,rx⟩:=rv.get (i:=j) (x:=vs[j]'(by omega)) (Xab (by omega));obtain ⟨y,hy,ry⟩:=ru.get (i:=j) (x:=us[j]'(by omega)) (Xab (by omega));obtain ⟨d,hd,td⟩:=tv.get (i:=j) (v:=vs[j]'(by omega)) (Xab (by omega));obtain ⟨e,he,te⟩:=tu.get (i:=j) (v:=us[j]'(by omega)) (Xab (by omega))
 have ex:ivs.toArray[j]=x:=by
  rw [Xab h1'] at hx
  simpa using hx
 have ey:ius.toArray[j]=y:=by
  rw [Xab h2'] at hy
  simpa using hy
 rw [ex,ey,hd,he]
 have:=hc j d e _ _ x y hd he rx ry td te
 rw [Zbi (p:=some d=some e) (q:=d=e) (by simp)];exact this
theorem ZgJ (hn:n=ds.length) (hl:ds.length=es.length):(List.range n).all (fun j=>dec (ds[j]?=es[j]?))=dec (ds=es):=by
 subst hn
 by_cases h:ds=es
 . subst h
   rw [ZaC rfl,List.all_eq_true];exact fun i _=>ZaC rfl
 . rw [ZaL h,Bool.eq_false_iff]
   intro q;rw [List.all_eq_true] at q;exact h (ZgI hl fun i hi=>dec_iff.mp (q i (List.mem_range.mpr hi)))
variable {d e:Dt}{u:V}{y:Value}
theorem ZjF (I:Inv X pins σ H s) {x:Value} (h:Zd8 d.kd e.kd=true) (td:IsDt X.K H v d) (te:IsDt X.K H u e) (rx:RelV v x) (ry:RelV u y) (hu:A.units<cLine):EqAt A s x y false/\RcAt A s x y false/\RcNeAt A s x y true:=by
 cases td with
 | non =>
   cases rx
   cases te with
   | non=>exact absurd h (by simp [Zd8,Dt.kd])
   | bl b =>
     cases ry;exact ⟨EqAt.none_bool _,RcAt.none_bool _,RcNeAt.none_bool _⟩
   | int b =>
     obtain ⟨t2,rfl⟩:=ry;exact ⟨EqAt.none_int _ _,RcAt.none_int _ _,RcNeAt.none_int _ _⟩
   | str b =>
     obtain ⟨t2,rfl⟩:=ry;exact ⟨EqAt.none_str _ _,RcAt.none_str _ _,RcNeAt.none_str _ _⟩
   | tup h2 t2 =>
     cases ry;obtain ⟨_,_,p2,_⟩:=I.tuple h2;exact ⟨EqAt.none_tuple  p2 hu,RcAt.none_tuple  p2 hu,RcNeAt.none_tuple  p2 hu⟩
   | lst h2 t2 =>
     cases ry;obtain ⟨_,_,p2,_⟩:=I.list h2;have p2:=p2.isList;exact ⟨EqAt.none_list  p2 hu,RcAt.none_list  p2 hu,RcNeAt.none_list  p2 hu⟩
 | bl a =>
   cases rx
   cases te with
   | non =>
     cases ry;exact ⟨EqAt.bool_none _,RcAt.bool_none _,RcNeAt.bool_none _⟩
   | bl b=>exact absurd h (by simp [Zd8,Dt.kd])
   | int b=>exact absurd h (by simp [Zd8,Dt.kd])
   | str b =>
     obtain ⟨t2,rfl⟩:=ry;exact ⟨EqAt.bool_str _ _ _,RcAt.bool_str _ _ _,RcNeAt.bool_str _ _ _⟩
   | tup h2 t2 =>
     cases ry;obtain ⟨_,_,p2,_⟩:=I.tuple h2;exact ⟨EqAt.bool_tuple _ p2 hu,RcAt.bool_tuple _ p2 hu,RcNeAt.bool_tuple _ p2 hu⟩
   | lst h2 t2 =>
     cases ry;obtain ⟨_,_,p2,_⟩:=I.list h2;have p2:=p2.isList;exact ⟨EqAt.bool_list _ p2 hu,RcAt.bool_list _ p2 hu,RcNeAt.bool_list _ p2 hu⟩
 | int a =>
   obtain ⟨t,rfl⟩:=rx
   cases te with
   | non =>
     cases ry;exact ⟨EqAt.int_none _ _,RcAt.int_none _ _,RcNeAt.int_none _ _⟩
   | bl b=>exact absurd h (by simp [Zd8,Dt.kd])
   | int b=>exact absurd h (by simp [Zd8,Dt.kd])
   | str b =>
     obtain ⟨t2,rfl⟩:=ry;exact ⟨EqAt.int_str _ _ _ _,RcAt.int_str _ _ _ _,RcNeAt.int_str _ _ _ _⟩
   | tup h2 t2 =>
     cases ry;obtain ⟨_,_,p2,_⟩:=I.tuple h2;exact ⟨EqAt.int_tuple _ _ p2 hu,RcAt.int_tuple _ _ p2 hu,RcNeAt.int_tuple _ _ p2 hu⟩
   | lst h2 t2 =>
     cases ry;obtain ⟨_,_,p2,_⟩:=I.list h2;have p2:=p2.isList;exact ⟨EqAt.int_list _ _ p2 hu,RcAt.int_list _ _ p2 hu,RcNeAt.int_list _ _ p2 hu⟩
 | str a =>
   obtain ⟨t,rfl⟩:=rx
   cases te with
   | non =>
     cases ry;exact ⟨EqAt.str_none _ _,RcAt.str_none _ _,RcNeAt.str_none _ _⟩
   | bl b =>
     cases ry;exact ⟨EqAt.str_bool _ _ _,RcAt.str_bool _ _ _,RcNeAt.str_bool _ _ _⟩
   | int b =>
     obtain ⟨t2,rfl⟩:=ry;exact ⟨EqAt.str_int _ _ _ _,RcAt.str_int _ _ _ _,RcNeAt.str_int _ _ _ _⟩
   | str b=>exact absurd h (by simp [Zd8,Dt.kd])
   | tup h2 t2 =>
     cases ry;obtain ⟨_,_,p2,_⟩:=I.tuple h2;exact ⟨EqAt.str_tuple _ _ p2 hu,RcAt.str_tuple _ _ p2 hu,RcNeAt.str_tuple _ _ p2 hu⟩
   | lst h2 t2 =>
     cases ry;obtain ⟨_,_,p2,_⟩:=I.list h2;have p2:=p2.isList;exact ⟨EqAt.str_list _ _ p2 hu,RcAt.str_list _ _ p2 hu,RcNeAt.str_list _ _ p2 hu⟩
 | tup h1 t1 =>
   cases rx;obtain ⟨_,_,p,_⟩:=I.tuple h1
   cases te with
   | non =>
     cases ry;exact ⟨EqAt.tuple_none  p hu,RcAt.tuple_none  p hu,RcNeAt.tuple_none  p hu⟩
   | bl b =>
     cases ry;exact ⟨EqAt.tuple_bool _ p hu,RcAt.tuple_bool _ p hu,RcNeAt.tuple_bool _ p hu⟩
   | int b =>
     obtain ⟨t2,rfl⟩:=ry;exact ⟨EqAt.tuple_int _ _ p hu,RcAt.tuple_int _ _ p hu,RcNeAt.tuple_int _ _ p hu⟩
   | str b =>
     obtain ⟨t2,rfl⟩:=ry;exact ⟨EqAt.tuple_str _ _ p hu,RcAt.tuple_str _ _ p hu,RcNeAt.tuple_str _ _ p hu⟩
   | tup h2 t2=>exact absurd h (by simp [Zd8,Dt.kd])
   | lst h2 t2 =>
     cases ry;obtain ⟨_,_,p2,_⟩:=I.list h2;have p2:=p2.isList;exact ⟨EqAt.tuple_list p p2 hu,RcAt.tuple_list p p2 hu,RcNeAt.tuple_list p p2 hu⟩
 | lst h1 t1 =>
   cases rx;obtain ⟨_,_,p,_⟩:=I.list h1;have p:=p.isList
   cases te with
   | non =>
     cases ry;exact ⟨EqAt.list_none  p hu,RcAt.list_none  p hu,RcNeAt.list_none  p hu⟩
   | bl b =>
     cases ry;exact ⟨EqAt.list_bool _ p hu,RcAt.list_bool _ p hu,RcNeAt.list_bool _ p hu⟩
   | int b =>
     obtain ⟨t2,rfl⟩:=ry;exact ⟨EqAt.list_int _ _ p hu,RcAt.list_int _ _ p hu,RcNeAt.list_int _ _ p hu⟩
   | str b =>
     obtain ⟨t2,rfl⟩:=ry;exact ⟨EqAt.list_str _ _ p hu,RcAt.list_str _ _ p hu,RcNeAt.list_str _ _ p hu⟩
   | tup h2 t2 =>
     cases ry;obtain ⟨_,_,p2,_⟩:=I.tuple h2;exact ⟨EqAt.list_tuple p p2 hu,RcAt.list_tuple p p2 hu,RcNeAt.list_tuple p p2 hu⟩
   | lst h2 t2=>exact absurd h (by simp [Zd8,Dt.kd])
theorem Zh4 (I:Inv X pins σ H s) {x:Value} (td:IsDt X.K H v d) (te:IsDt X.K H u e) (rx:RelV v x) (ry:RelV u y) (h:RcAt A s x y (dec (d=e))):EqAt A s x y (dec (d=e)):=by
 by_cases hxy:x=y
 . subst hxy
   have e1:=rx.inj ry;subst e1;rw [ZaC (IsDt.inj I td te)];exact EqAt.same _
 . intro prog w E Q hq
   unfold eqBool;refine Xbm ?_;refine wpAny_ite_split (fun hab=>absurd (eq_of_beq hab) hxy) (fun _=>?_)
   cases td with
   | non=>cases rx;exact Xbk (h prog w E _ (Xbn hq))
   | bl a=>cases rx;exact Xbk (h prog w E _ (Xbn hq))
   | int a=>obtain ⟨t,rfl⟩:=rx;exact Xbk (h prog w E _ (Xbn hq))
   | str a=>obtain ⟨t,rfl⟩:=rx;exact Xbk (h prog w E _ (Xbn hq))
   | tup _ _=>cases rx;exact Xbk (h prog w E _ (Xbn hq))
   | lst _ _=>cases rx;exact Xbk (h prog w E _ (Xbn hq))
theorem kd_ne (h:Zd8 d.kd e.kd=true):¬d=e:=fun z=>by
 subst z;simp [Zd8] at h
mutual
theorem rcD (I:Inv X pins σ H s) {n:Nat} {d e:Dt} {v u:V} {x y:Value} {A:Around} (c:Cmp n d e) (td:IsDt X.K H v d) (te:IsDt X.K H u e) (rx:RelV v x) (ry:RelV u y) (hu:A.units+n<cLine):RcAt A s x y (dec (d=e))/\RcNeAt A s x y (!dec (d=e)):=by
 cases c with
 | non =>
   cases td;cases te;cases rx;cases ry;rw [ZaC rfl];exact ⟨RcAt.none_none,RcNeAt.none_none⟩
 | bl a b =>
   cases td;cases te;cases rx;cases ry;rw [<-Zhu (a:=a) (b:=b) (by simp)];exact ⟨RcAt.bool_bool a b,RcNeAt.bool_bool a b⟩
 | int a b =>
   cases td;cases te;obtain ⟨t,rfl⟩:=rx;obtain ⟨t',rfl⟩:=ry;rw [<-Zhu (a:=a) (b:=b) (by simp)];exact ⟨RcAt.int_int a t b t',RcNeAt.int_int a t b t'⟩
 | str a b =>
   cases td;cases te;obtain ⟨t,rfl⟩:=rx;obtain ⟨t',rfl⟩:=ry;rw [<-Zhu (a:=a) (b:=b) (by simp)];exact ⟨RcAt.str_str a t b t',RcNeAt.str_str a t b t'⟩
 | @tup n ds es c =>
   cases td;cases te
   rename_i a vs h t b us h' t'
   cases rx;cases ry;obtain ⟨its,r,p,_⟩:=I.tuple h;obtain ⟨its',r',p',_⟩:=I.tuple h';have l1:=r.length;have l2:=r'.length;have l3:=t.length;have l4:=t'.length;have he:=Zh3 (A:=A.in1) I r r' t t' (eqDs I c (by rw [Za4];omega))
   have e:dec (Dt.tup ds=Dt.tup es)=((List.range (min its.toArray.size its'.toArray.size)).all (fun j=>dec (ds[j]?=es[j]?)) && its.toArray.size == its'.toArray.size):=by
    rw [Zbi (p:=Dt.tup ds=Dt.tup es) (q:=ds=es) (by simp)];simp only [Xak]
    by_cases hl:ds.length=es.length
    . rw [show (its.length == its'.length)=true from beq_iff_eq.mpr (by omega),Bool.and_true,ZgJ (by omega) hl]
    . rw [show (its.length == its'.length)=false from beq_false_of_ne (by omega),Bool.and_false,ZaL fun z=>hl (by rw [z])]
   rw [e];exact ⟨RcAt.tuples (A:=A) p p' (by omega) he,RcNeAt.tuples (A:=A) p p' (by omega) he⟩
 | @lst n ds es c =>
   cases td;cases te
   rename_i a vs h t b us h' t'
   cases rx;cases ry;obtain ⟨its,r,p,_⟩:=I.list h;obtain ⟨its',r',p',_⟩:=I.list h';have l1:=r.length;have l2:=r'.length;have l3:=t.length;have l4:=t'.length
   by_cases hl:ds.length=es.length
   . have he:=Zh3 (A:=A.in1) I r r' t t' (eqDs I c (by rw [Za4];omega))
     rw [Zbi (p:=Dt.lst ds=Dt.lst es) (q:=ds=es) (by simp),<-ZgJ (n:=its.toArray.size) (by simp only [Xak];omega) hl];exact ⟨RcAt.lists (A:=A) p.isList p'.isList (by simp only [Xak];omega) (by omega) he,RcNeAt.lists (A:=A) p.isList p'.isList (by simp only [Xak];omega) (by omega) he⟩
   . rw [ZaL (show ¬Dt.lst ds=Dt.lst es from fun z=>hl (by cases z;rfl))]
     have hz:(its.toArray.size != its'.toArray.size)=true:=by simp only [Xak];rw [bne_iff_ne];omega
     exact ⟨RcAt.lists_lengths p.isList p'.isList hz (by omega),RcNeAt.lists_lengths p.isList p'.isList hz (by omega)⟩
 | apart h =>
   obtain ⟨_,h1,h2⟩:=ZjF (A:=A) I h td te rx ry (by omega);rw [ZaL (kd_ne h)];exact ⟨h1,h2⟩
theorem eqDs (I:Inv X pins σ H s) {n:Nat} {ds es:List Dt} {A:Around} (c:Cmps n ds es) (hu:A.units+n<cLine)
 (i:Nat) (d e:Dt) (v u:V) (x y:Value) (h:ds[i]?=some d) (h':es[i]?=some e) (rx:RelV v x) (ry:RelV u y) (td:IsDt X.K H v d) (te:IsDt X.K H u e):EqAt A s x y (dec (d=e)):=by
 cases c with
 | nil=>simp at h
 | nil'=>simp at h'
 | cons c t=>cases i with
   | zero =>
     simp at h h';subst h;subst h';have hrc:=rcD (A:=A) I c td te rx ry hu;exact Zh4 I td te rx ry hrc.1
   | succ i=>exact eqDs I t hu i d e v u x y (by simpa using h) (by simpa using h') rx ry td te
end
theorem eqD (I:Inv X pins σ H s) {x:Value} (c:Cmp n d e) (td:IsDt X.K H v d) (te:IsDt X.K H u e) (rx:RelV v x) (ry:RelV u y) (hu:A.units+n<cLine):EqAt A s x y (dec (d=e)) :=
 Zh4 I td te rx ry (rcD I c td te rx ry hu).1
end
section
variable {X:Cx}
def rEqD (K:XFg):R2:=fun x y H Q=>∃ n d e,Cmp n d e/\n<=60/\IsDt K H x d/\IsDt K H y e/\Q (.bl (dec (d=e))) H
def rNeD (K:XFg):R2:=fun x y H Q=>∃ n d e,Cmp n d e/\n<=60/\IsDt K H x d/\IsDt K H y e/\Q (.bl (!dec (d=e))) H
theorem ZjG (hu:X.A.units+64<cLine):OpR X (compareOp .Eq) (rEqD X.K):=by
 intro pins s σ H x y v u Q I rx ry h;obtain ⟨n,d,e,c,hn,td,te,q⟩:=h;exact (rcD (A:=X.A) I c td te rx ry (by omega)).1 _ _ _ _ ⟨.bl _,H,I,rfl,q⟩
theorem op_neD (hu:X.A.units+64<cLine):OpR X (compareOp .NotEq) (rNeD X.K):=by
 intro pins s σ H x y v u Q I rx ry h;obtain ⟨n,d,e,c,hn,td,te,q⟩:=h;exact (rcD (A:=X.A) I c td te rx ry (by omega)).2 _ _ _ _ ⟨.bl _,H,I,rfl,q⟩
def rInD (K:XFg):R2:=fun x y H Q=>∃ n d ds a vs,(∀ e∈ds,Cmp n e d)/\n<=60/\IsDt K H x d/\y=.ref a/\SqL K H a vs/\IsDts K H vs ds/\Q (.bl (dec (d∈ds))) H
def rNotInD (K:XFg):R2:=fun x y H Q=>∃ n d ds a vs,(∀ e∈ds,Cmp n e d)/\n<=60/\IsDt K H x d/\y=.ref a/\SqL K H a vs/\IsDts K H vs ds/\Q (.bl (!dec (d∈ds))) H
theorem ZfI (I:Inv X pins σ H s) {d:Dt} {vs:List V} {its:List Value} {x:Value} (r:Vals vs its) (t:IsDts X.K H vs ds) (hc:∀ e∈ds,Cmp n e d) (td:IsDt X.K H v d) (rx:RelV v x) (hu:A.units+n<cLine) :
 (∀ y,y∈its.toArray->EqAt A s y x (dec (∃ u,RelV u y/\IsDt X.K H u d)))/\its.toArray.any (fun y=>dec (∃ u,RelV u y/\IsDt X.K H u d))=dec (d∈ds):=by
 have ll:=r.length;have lt:=t.length
 have one:∀ y,y∈its->∃ e∈ds,∃ u,RelV u y/\IsDt X.K H u e:=fun y hy=>by
  obtain ⟨i,hi,e⟩:=XaG.mp hy;obtain ⟨y',hy',ry⟩:=r.get (i:=i) (x:=vs[i]'(by omega)) (Xab (by omega));obtain ⟨e',he,te⟩:=t.get (i:=i) (v:=vs[i]'(by omega)) (Xab (by omega));rw [Xab hi,e] at hy';cases hy';exact ⟨e',Xah he,_,ry,te⟩
 refine ⟨fun y hy=>?_,?_⟩
 . obtain ⟨e,he,u,ru,te⟩:=one y (by simpa using hy)
   have:=eqD (A:=A) I (hc e he) te td ru rx hu
   rw [Zbi (p:=∃ u,RelV u y/\IsDt X.K H u d) (q:=e=d) ⟨fun ⟨u',ru',te'⟩=>by
    have e1:=ru.inj ru';subst e1
    exact IsDt.inj I te te',fun z=>⟨u,ru,by rw [<-z];exact te⟩⟩]
   exact this
 . by_cases hm:d∈ds
   . rw [ZaC hm,Array.any_eq_true]
     obtain ⟨i,hi,e⟩:=XaG.mp hm;obtain ⟨u,hu',te⟩:=t.get' (i:=i) (d:=d) (by rw [Xab hi,e]);obtain ⟨y,hy,ry⟩:=r.get hu';have hi':i<its.length:=(Xae.mp hy).1;refine ⟨i,by simpa using hi',?_⟩
     have:its.toArray[i]'(by simpa using hi')=y:=by
      rw [Xab hi'] at hy
      simpa using hy
     rw [this];exact ZaC ⟨u,ry,te⟩
   . rw [ZaL hm,Bool.eq_false_iff]
     intro q;obtain ⟨i,hi,q⟩:=Array.any_eq_true.mp q;obtain ⟨u,ru,te⟩:=dec_iff.mp q;obtain ⟨e,he,u',ru',te'⟩:=one (its.toArray[i]) (by simp);have e1:=ru.inj ru';subst e1;have e2:=IsDt.inj I te te';subst e2;exact hm he
theorem Zh5 (hu:X.A.units+64<cLine):OpR X (compareOp .In) (rInD X.K):=by
 intro pins s σ H x y v u Q I rx ry h;obtain ⟨n,d,ds,a,vs,hc,hn,td,rfl,hq,t,q⟩:=h;cases ry;obtain ⟨its,r,p,_⟩:=I.list hq;obtain ⟨h1,h2⟩:=ZfI (A:=X.A.in1) I r t hc td rx (by rw [Za4];omega);exact in_listAt _ p.isList h1 (by rw [h2];exact ⟨.bl _,H,I,rfl,q⟩)
theorem ZjH (hu:X.A.units+64<cLine):OpR X (compareOp .NotIn) (rNotInD X.K):=by
 intro pins s σ H x y v u Q I rx ry h;obtain ⟨n,d,ds,a,vs,hc,hn,td,rfl,hq,t,q⟩:=h;cases ry;obtain ⟨its,r,p,_⟩:=I.list hq;obtain ⟨h1,h2⟩:=ZfI (A:=X.A.in1) I r t hc td rx (by rw [Za4];omega);exact notIn_listAt _ p.isList h1 (by rw [h2];exact ⟨.bl _,H,I,rfl,q⟩)
end
end L2
namespace Ord
variable {α:Type} [DecidableEq α]
end Ord
namespace War
end War
namespace Ord
variable {α:Type} [DecidableEq α]
end Ord
namespace L2
open PySem PySem.Spec PyProof.Rows Ord
abbrev prD (p:Str×Str):Dt:=.tup [.str p.1,.str p.2]
theorem ZbP:([]:List V).length+1<=sizeLine:=by decide
theorem ZaI:([]:List V).length+1+1<=sizeLine:=by decide
theorem IsDts.of_get {K:XFg}{H:Hp}:∀ {vs:List V}{ds:List Dt},vs.length=ds.length->(∀ (n:Nat) v d,vs[n]?=some v->ds[n]?=some d->IsDt K H v d)->IsDts K H vs ds
 | [],[],_,_=>.nil
 | v :: vs,d :: ds,hl,h=>.cons (h 0 v d rfl rfl) (IsDts.of_get (by simpa using hl) fun n x y e1 e2=>h (n+1) x y (by simpa using e1) (by simpa using e2))
structure Tups (H:Hp) (ts:List Addr) (ps:List (Str×Str)):Prop where
 len:ts.length=ps.length
 at_:∀ (n:Nat) t p,ts[n]?=some t->ps[n]?=some p->H t=some (.tup [.str p.1,.str p.2])
variable {H:Hp}
theorem Tups.nil :Tups H [] []:=⟨rfl,fun n t p h=>by simp at h⟩
variable {ts:List Addr}{ps:List (Str×Str)}
theorem Tups.same {H':Hp} (e:Same H H') (h:Tups H ts ps):Tups H' ts ps:=⟨h.len,fun n t p h1 h2=>e _ _ (h.at_ n t p h1 h2)⟩
theorem Tups.dts {K:XFg}(h:Tups H ts ps):IsDts K H (ts.map V.ref) (ps.map prD):=by
 refine IsDts.of_get (by simpa using h.len) fun n v d e1 e2=>?_;rw [Xag] at e1 e2;obtain ⟨t,h1,rfl⟩:=XaV.mp e1;obtain ⟨p,h2,rfl⟩:=XaV.mp e2;exact .tup (SqT.of (h.at_ n t p h1 h2)) (.cons (.str _) (.cons (.str _) .nil))
theorem Tups.snoc {t:Addr}{p:Str×Str} (h:Tups H ts ps) (e:H t=some (.tup [.str p.1,.str p.2])):Tups H (ts++[t]) (ps++[p]):=by
 refine ⟨by rw [Xac,Xac,h.len];rfl,fun n t' p' h1 h2=>?_⟩
 by_cases hn:n<ts.length
 . rw [Xat hn] at h1
   rw [Xat (by rw [<-h.len];exact hn)] at h2;exact h.at_ n t' p' h1 h2
 . have hn2:n=ts.length:=by
    have:=(Xae.mp h1).1
    rw [Xac,Xau] at this;omega
   subst hn2;rw [Xay (XaW _)] at h1;rw [Xay (by rw [h.len];exact XaW _)] at h2;simp at h1;simp [h.len] at h2;subst h1;subst h2;exact e
variable {a:Addr}
theorem ZbM {K:XFg}{xs:List V}{k:Nat}{caps:List Nat}{g:TG}{te:TE}{σ:St}{H1:Hp}{Q:Addr->Hp->Prop} (Pv:Addr->Nat->List V->Hp->Prop)
 (h0:∀ D,H1 D=none->Pv D 0 [] (upd H1 D (.lst []))) (hq:∀ D i ys H2,Pv D i ys H2->SqL K H2 a xs)
 (hs:∀ D i x ys H2 (R:VK),H1 D=none->xs[i]?=some x->Pv D i ys H2->(∀ y H6,H6 D=some (.lst ys)->ys.length<sizeLine->Pv D (i+1) (ys++[y]) (upd H6 D (.lst (ys++[y])))->R y H6)->g x (Zbe k caps σ) H2 fun σ4 H4=>te σ4 H4 R)
 (hd:∀ D ys H2,H1 D=none->Pv D xs.length ys H2->Q D H2) :
 ∀ D,H1 D=none->∃ W:Nat->Nat->List V->Hp->Prop,(∃ m,W 0 m [] (upd H1 D (.lst [])))/\∀ i m ys H2,W i m ys H2 ->
  ((Itl K a).stop i H2/\Q D H2)\/((Itl K a).go i H2/\∀ x H3,(Itl K a).yld i H2 x H3->g x (Zbe k caps σ) H3 fun σ4 H4=>tYes σ4 H4 fun b H5 =>
   if b=true then te σ4 H5 fun y H6=>H6 D=some (.lst ys)/\ys.length<sizeLine/\∃ m',m' < m/\W (i+1) m' (ys++[y]) (upd H6 D (.lst (ys++[y]))) else ∃ m',m' < m/\W (i+1) m' ys H5):=by
 intro D hD;refine ⟨fun i m ys H2=>m=xs.length - i/\i<=xs.length/\Pv D i ys H2,⟨xs.length,rfl,Xa0 _,h0 D hD⟩,?_⟩;rintro i m ys H2 ⟨rfl,hi,p⟩;have q2:=hq D i ys H2 p
 by_cases hlt:i<xs.length
 . refine .inr ⟨⟨xs,xs[i],q2,by simp [hlt]⟩,fun x H3 y=>?_⟩
   obtain ⟨rfl,y⟩:=y;have hx:=y xs q2;refine hs D i x ys H3 _ hD hx p fun v H6 e6 hz p6=>?_;exact ⟨e6,hz,xs.length - (i+1),by omega,rfl,hlt,p6⟩
 . have e:i=xs.length:=by omega
   subst e;exact .inl ⟨⟨xs,q2,XaW _⟩,hd D ys H2 hD p⟩
theorem ObjOk.ex {P:Program}{w:World}{h:Heap}{o:HO} (x:ObjOk P w H h a o):∃ u,h.get? a=some u:=by
 cases o with
 | lst xs=>obtain ⟨_,_,_,_,e⟩:=x;exact ⟨_,e⟩
 | tup xs=>obtain ⟨_,_,_,u,e,_⟩:=x;exact ⟨u,e⟩
 | dK kvs=>obtain ⟨_,_,_,_,u,_,_,e,_⟩:=x;exact ⟨u,e⟩
 | dT kvs=>obtain ⟨_,_,_,_,u,_,_,e,_⟩:=x;exact ⟨u,e⟩
 | set S n=>obtain ⟨u,_,_,_,e,_⟩:=x;exact ⟨u,e⟩
 | ins C dx fs=>obtain ⟨_,_,_,e,_⟩:=x;exact ⟨_,e⟩
 | own y=>exact x
 | xd fs=>obtain ⟨_,⟨u,_,_,e,_⟩,_⟩:=x;exact ⟨u,e⟩
 | rng lo hi=>obtain ⟨_,_,_,e⟩:=x;exact ⟨_,e⟩
 | frz ob u=>obtain ⟨e,_⟩:=x;exact ⟨_,e⟩
 | tbl ps=>exact ⟨_,(show h.get? a=some _ from x)⟩
 | met f y=>exact ⟨_,(show h.get? a=some _ from x)⟩
 | ext φ=>exact x.2.1
theorem Inv.freshN {X:Cx}{pins:List (Addr×Obj)} {σ:L2.St} {s:Shared} (I:Inv X pins σ H s) (hne:∀ b u,s.heap.get? b=some u->b≠a):H a=none:=by
 cases e:H a with
 | none=>rfl
 | some o =>
   obtain ⟨u,hu⟩:=(I.hok a o e).ex;exact absurd rfl (hne a u hu)
theorem Inv.laidN {X:Cx}{pins:List (Addr×Obj)} {σ:L2.St} {s:Shared} {h':Heap} {o:HO} {t':Nat} (I:Inv X pins σ H s) (k:∀ b u,s.heap.get? b=some u->h'.get? b=some u) (hne:∀ b u,s.heap.get? b=some u->b≠a) (new:ObjOk X.prog X.w (upd H a o) h' a o) :
 Inv X pins σ (upd H a o) { s with heap:=h',toks:=t' }:=by
 have hn:=I.freshN hne;refine I.un ⟨fun b u q _ _ _=>k b u q,fun b u q _ _ _=>⟨u.slots,k b u q⟩,fun b u q n _=>by rw [Zal (hne b u q)];exact n,fun b u q _=>⟨u,k b u q⟩,fun b xs q=>by rw [Zal (Zad q hn)];exact q,fun b u xs q=>by rw [Zal (Zad q hn)];exact q,fun b ps q=>⟨#[],by rw [Zal (Zad q hn),q];simp⟩⟩ fun b u e=>?_
 by_cases hb:b=a
 . subst hb;rw [upd_same] at e;cases e;exact new
 . rw [Zal hb] at e
   exact (I.hok b u e).stay (fun c v _ q=>k c v q) (fun c q=>by rw [Zal (Zad q hn)];exact q) fun c xs q=>by rw [Zal (Zad q hn)];exact q
section
variable {prog:Program} {w:World} {A:Around} {E:Value->Shared->Prop} {s:Shared}
end
section
variable {X:Cx}
end
end L2
namespace HT
open PySem PyProof.Rows
section
open PySem.SeqAt
open PySem.AutoSeq1 (wpAny_loadPart')
open PySem.MeetsSeq PySem.MeetsSeq2 PySem.MeetsSeq3
end
section
variable {prog:Program} {w:World} {A:Around} {E:Value->Shared->Prop} {s:Shared}
end
end HT
namespace L2
open PySem PySem.Spec PyProof.Rows
section
variable {X:Cx}
theorem ZiK {ss:List Str}:∀ {us:List Value},Vals (ss.map V.str) us->StrsAre us ss:=by
 induction ss with
 | nil=>intro us h;cases h;exact .nil
 | cons x r ih =>
   intro us h
   cases h with
   | cons a b =>
     obtain ⟨t,rfl⟩:=a;exact .cons _ _ (ih b)
end
end L2
namespace L2
end L2
namespace KasM
open PySem PySem.W PyProof.Rows
set_option autoImplicit false
def Tw {α:Type} (lt:Nat->Nat->Bool) (n:Nat):KasT α->(α->Prop)->Prop
 | .ret a,Q=>Q a
 | .ask i j k,Q=>i<n/\j<n/\Tw lt n (k (lt i j)) Q
theorem ZdM {α β:Type}{lt:Nat->Nat->Bool}{n:Nat}{f:α->KasT β}{Q:β->Prop}:∀ (t:KasT α),Tw lt n t (fun a=>Tw lt n (f a) Q)->Tw lt n (t.bind f) Q
 | .ret _,h=>h
 | .ask _ _ k,⟨h1,h2,h3⟩=>⟨h1,h2,ZdM (k _) h3⟩
theorem Tw_mono {α:Type}{lt:Nat->Nat->Bool}{n:Nat}{Q Q':α->Prop} (hq:∀ a,Q a->Q' a):∀ (t:KasT α),Tw lt n t Q->Tw lt n t Q'
 | .ret a,h=>hq a h
 | .ask _ _ k,⟨h1,h2,h3⟩=>⟨h1,h2,Tw_mono hq (k _) h3⟩
theorem Tw_wp {α:Type}{lt:Nat->Nat->Bool}{n:Nat}{cmp:Nat->Nat->(Bool->Shared->Prop)->Shared->Prop} {s:Shared} {Q:α->Shared->Prop} (hc:∀ i j C,i<n->j<n->C (lt i j) s->cmp i j C s) :
 ∀ (t:KasT α),Tw lt n t (fun a=>Q a s)->t.kasWp cmp Q s
 | .ret _,h=>h
 | .ask _ _ k,⟨h1,h2,h3⟩=>hc _ _ _ h1 h2 (Tw_wp hc (k _) h3)
section
variable {O:KeyOrd} {key:Nat->O.α} {n:Nat}
def K (key:Nat->O.α) (p:Array Nat) (i:Nat):O.α:=key (p.getD i 0)
def Asc (key:Nat->O.α) (p:Array Nat) (k:Nat):Prop:=∀ i,i+1<k->O.kle (K key p i) (K key p (i+1))
def Dsc (key:Nat->O.α) (p:Array Nat) (k:Nat):Prop:=∀ i,i+1<k->O.kle (K key p (i+1)) (K key p i)
def Pm (n:Nat) (p:Array Nat):Prop:=p.Perm (List.range n).toArray
theorem Pm.size {p:Array Nat} (h:Pm n p):p.size=n:=by have:=h.size_eq;simpa using this
variable {p:Array Nat}
theorem Pm.lt (h:Pm n p) (hn:0<n) (i:Nat):p.getD i 0<n:=by
 by_cases hi:i<p.size
 . have e:p.getD i 0=p[i]:=by simp [Array.getD,hi]
   rw [e]
   have:p[i]∈p:=Array.getElem_mem hi
   have h2:=h.mem_iff.mp this
   simpa using h2
 . have e:p.getD i 0=0:=by simp [Array.getD,hi]
   rw [e];exact hn
variable {i j:Nat}
theorem Zk2 (hj:j<=p.size) (k:Nat):(kas_rev p i j).getD k 0=if i<=k/\k<j then p.getD (i+j - 1 - k) 0 else p.getD k 0:=by
 unfold kas_rev;simp only [Array.getD_eq_getD_getElem?];rw [getElem?_mirror_all hj]
 split <;> rfl
variable {k:Nat}
theorem Zk3 {l:Nat} (hk:k<p.size) (hl:l<=k) (t:Nat):(bubble p k (k - l)).getD t 0=if t=l then p.getD k 0 else if l<t/\t<=k then p.getD (t - 1) 0 else p.getD t 0:=by
 simp only [Array.getD_eq_getD_getElem?];rw [getElem?_bubble hk _ (by omega)];rw [show k - (k - l)=l by omega]
 split
 . rfl
 . split <;> rfl
theorem Pm.rev (h:Pm n p) (i j:Nat):Pm n (kas_rev p i j):=(mirror_perm _ _ _ _).trans h
theorem Pm.bub (h:Pm n p) (i j:Nat):Pm n (bubble p i j):=(bubble_perm _ _ _).trans h
theorem K_rev (hj:j<=p.size) (k:Nat):K key (kas_rev p i j) k=if i<=k/\k<j then K key p (i+j - 1 - k) else K key p k:=by
 unfold K;rw [Zk2 hj];split <;> rfl
theorem ZfJ (hj:j<=p.size) (he:∀ k,i<=k->k<j->K key p k=K key p (j - 1)) (k:Nat):K key (kas_rev p i j) k=K key p k:=by
 rw [K_rev hj]
 split
 . rw [he _ (by omega) (by omega),he k (by omega) (by omega)]
 . rfl
theorem K_bub {l:Nat} (hk:k<p.size) (hl:l<=k) (t:Nat):K key (bubble p k (k - l)) t=if t=l then K key p k else if l<t/\t<=k then K key p (t - 1) else K key p t:=by
 unfold K;rw [Zk3 hk hl];split
 . rfl
 . split <;> rfl
theorem Asc.le {p:Array Nat}{k:Nat} (h:Asc key p k) {i:Nat}:∀ (d:Nat),i+d<k->O.kle (K key p i) (K key p (i+d))
 | 0,_=>KeyOrd.kle_refl _
 | d+1,hd=>KeyOrd.kle_trans (h.le d (by omega)) (h (i+d) (by omega))
theorem Asc.le' (h:Asc key p k) (hij:i<=j) (hj:j<k):O.kle (K key p i) (K key p j):=by
 have:=h.le (i:=i) (j - i) (by omega)
 rwa [show i+(j - i)=j by omega] at this
abbrev lt (O:KeyOrd) (key:Nat->O.α) (i j:Nat):Bool:=O.blt (key i) (key j)
theorem ZjI {p:Array Nat} (hp:Pm n p) (h0:0<n):∀ (f a:Nat),1<=a->Tw (lt O key) n (kas_asc p f a) fun m=>a<=m/\m<=a+f/\(∀ i,a - 1<=i->i+1<m->O.kle (K key p i) (K key p (i+1)))/\(m<a+f->O.klt (K key p m) (K key p (m - 1)))
 | 0,a,_=>⟨XaW _,XaW _,fun i h1 h2=>by omega,fun h=>by omega⟩
 | f + 1, a, ha => by
   refine ⟨hp.lt h0 _,hp.lt h0 _,?_⟩
   cases hc:lt O key (p.getD a 0) (p.getD (a - 1) 0) with
   | true =>
     simp only [if_true];exact ⟨XaW _,by omega,fun i h1 h2=>by omega,fun _=>hc⟩
   | false =>
     simp only [Xbh,if_false];refine Tw_mono ?_ _ (ZjI hp h0 f (a+1) (by omega));rintro m ⟨h1,h2,h3,h4⟩;refine ⟨by omega,by omega,fun i h5 h6=>?_,fun h=>h4 (by omega)⟩
     by_cases e:i=a - 1
     . subst e
       rw [show a - 1+1=a by omega];exact hc
     . exact h3 i (by omega) h6
theorem ZfK (h0 : 0 < n) : ∀ (f : Nat) (p : Array Nat) (a q : Nat), Pm n p -> a + f <= n -> Dsc key p a -> q + 1 <= a -> (∀ k, a - (q + 1) <= k -> k < a -> K key p k = K key p (a - 1)) ->
 Tw (lt O key) n (kas_desc f p a q) fun r=>Pm n r.1/\a<=r.2.1/\r.2.1<=a+f/\Dsc key r.1 r.2.1/\r.2.2+1<=r.2.1/\(∀ k,r.2.1 - (r.2.2+1)<=k->k<r.2.1->K key r.1 k=K key r.1 (r.2.1 - 1))
 | 0,p,a,q,hp,_,hd,hq,he=>⟨hp,XaW _,XaW _,hd,hq,he⟩
 | f + 1, p, a, q, hp, hf, hd, hq, he => by
   have hz:=hp.size;refine ⟨hp.lt h0 _,hp.lt h0 _,?_⟩
   cases hc:lt O key (p.getD a 0) (p.getD (a - 1) 0) with
   | true =>
     have hc':O.klt (K key p a) (K key p (a - 1)):=hc
     have hd':Dsc key p (a+1):=fun i hi=>by
      by_cases e:i+1=a
      . rw [e];have:i=a - 1:=by omega
        rw [this];exact KeyOrd.kle_of_klt hc'
      . exact hd i (by omega)
     simp only [if_true]
     by_cases hq0:q > 0
     . rw [Xbe hq0]
       have kk:=ZfJ (key:=key) (p:=p) (i:=a - (q+1)) (j:=a) (by omega) he;refine Tw_mono ?_ _ (ZfK h0 f _ (a+1) 0 (hp.rev _ _) (by omega) (fun i hi=>by rw [kk,kk];exact hd' i hi) (by omega) (fun k h1 h2=>by rw [show k=a+1 - 1 by omega]));rintro r ⟨b1,b2,b3,b4,b5,b6⟩;exact ⟨b1,by omega,by omega,b4,b5,b6⟩
     . rw [Xbd hq0]
       refine Tw_mono ?_ _ (ZfK h0 f _ (a+1) 0 hp (by omega) hd' (by omega) (fun k h1 h2=>by rw [show k=a+1 - 1 by omega]));rintro r ⟨b1,b2,b3,b4,b5,b6⟩;exact ⟨b1,by omega,by omega,b4,b5,b6⟩
   | false =>
     have hc':O.kle (K key p (a - 1)) (K key p a):=hc;simp only [Xbh,if_false];refine ⟨hp.lt h0 _,hp.lt h0 _,?_⟩
     cases hc2:lt O key (p.getD (a - 1) 0) (p.getD a 0) with
     | true =>
       simp only [if_true];exact ⟨hp,XaW _,Nat.le_add_right _ _,hd,hq,he⟩
     | false =>
       have hc2':O.kle (K key p a) (K key p (a - 1)):=hc2;have ee:K key p a=K key p (a - 1):=KeyOrd.kle_antisymm hc2' hc';simp only [Xbh,if_false];refine Tw_mono ?_ _ (ZfK h0 f _ (a+1) (q+1) hp (by omega) (fun i hi=>?_) (by omega) (fun k h1 h2=>?_))
       . rintro r ⟨b1,b2,b3,b4,b5,b6⟩
         exact ⟨b1,by omega,by omega,b4,b5,b6⟩
       . by_cases e:i+1=a
         . rw [e];have:i=a - 1:=by omega
           rw [this];exact hc2'
         . exact hd i (by omega)
       . rw [show a+1 - 1=a by omega]
         by_cases e:k=a
         . rw [e]
         . rw [he k (by omega) (by omega),ee]
abbrev Cnt (key:Nat->O.α) (n:Nat) (r:Nat×Array Nat):Prop:=Pm n r.2/\1<=r.1/\r.1<=n/\Asc key r.2 r.1
theorem Zh6 (h0:0<n) {a:Nat} (hp:Pm n p) (h1:1<=a) (ha:a<=n) (hd:Dsc key p a):Tw (lt O key) n (kas_tail3 a n p) (Cnt key n):=by
 unfold kas_tail3;have hz:=hp.size;have kk:=K_rev (key:=key) (p:=p) (i:=0) (j:=a) (by omega);refine ZdM _ (Tw_mono ?_ _ (ZjI (O:=O) (key:=key) (hp.rev 0 a) h0 (n - a) a h1));rintro m ⟨b1,b2,b3,_⟩;refine ⟨hp.rev _ _,by show 1<=m;omega,by show m<=n;omega,fun i hi=>?_⟩;have hi':i+1<m:=hi
 by_cases e:a - 1<=i
 . exact b3 i e hi'
 . show O.kle (K key (kas_rev p 0 a) i) (K key (kas_rev p 0 a) (i+1))
   rw [kk,kk,Xbe (by omega),Xbe (by omega)]
   have:=hd (0+a - 1 - (i+1)) (by omega)
   rwa [show 0+a - 1 - (i+1)+1=0+a - 1 - i by omega] at this
theorem Zet (h0:0<n) {a:Nat} (hp:Pm n p) (h1:1<=a) (ha:a+1<=n) (hd:Dsc key p (a+1)):Tw (lt O key) n (kas_descPart a n p) (Cnt key n):=by
 unfold kas_descPart;refine ZdM _ (Tw_mono ?_ _ (ZfK (O:=O) (key:=key) h0 (n - (a+1)) p (a+1) 0 hp (by omega) hd (by omega) (fun k h1 h2=>by rw [show k=a+1 - 1 by omega])));rintro ⟨p',m,q⟩ ⟨b1,b2,b3,b4,b5,b6⟩;dsimp only at b1 b2 b3 b4 b5 b6 ⊢;have hz:=b1.size
 split
 . have kk:=ZfJ (key:=key) (p:=p') (i:=m - (q+1)) (j:=m) (by omega) b6
   exact Zh6 h0 (b1.rev _ _) (by omega) (by omega) fun i hi=>by rw [kk,kk];exact b4 i hi
 . exact Zh6 h0 b1 (by omega) (by omega) b4
theorem Zk4 (h0 : 0 < n) (hp : Pm n p) : Tw (lt O key) n (kas_count n p) (Cnt key n) := by
 unfold kas_count;have hz:=hp.size;refine ZdM _ (Tw_mono ?_ _ (ZjI (O:=O) (key:=key) hp h0 (n - 1) 1 (XaW _)));rintro m ⟨b1,b2,b3,b4⟩;have asc:Asc key p m:=fun i hi=>b3 i (by omega) hi
 by_cases e1:(m == n)=true
 . rw [Xbe e1]
   exact ⟨hp,b1,by show m<=n;omega,asc⟩
 . rw [Xbd e1]
   have hlt:m<n:=by
    have:m≠n:=fun q=>e1 (by rw [q];exact beq_self_eq_true _)
    omega
   have hk:=b4 (by omega)
   by_cases e2:m > 1
   . rw [Xbe e2]
     refine ⟨hp.lt h0 _,hp.lt h0 _,?_⟩
     cases hc:lt O key (p.getD 0 0) (p.getD (m - 1) 0) with
     | true =>
       simp only [if_true];exact ⟨hp,b1,by show m<=n;omega,asc⟩
     | false =>
       have hc':O.kle (K key p (m - 1)) (K key p 0):=hc;simp only [Xbh,if_false]
       have he:∀ k,0<=k->k<m->K key p k=K key p (m - 1):=fun k _ h2 =>
        KeyOrd.kle_antisymm (asc.le' (by omega) (by omega)) (KeyOrd.kle_trans hc' (asc.le' (by omega) h2))
       have kk:=ZfJ (key:=key) (p:=p) (i:=0) (j:=m) (by omega) he;refine Zet h0 (hp.rev _ _) b1 (by omega) fun i hi=>?_;rw [kk,kk]
       by_cases e:i+1=m
       . rw [e,show i=m - 1 by omega];exact KeyOrd.kle_of_klt hk
       . rw [he i (by omega) (by omega),he (i+1) (by omega) (by omega)];exact KeyOrd.kle_refl _
   . rw [Xbd e2]
     refine Zet h0 hp b1 (by omega) fun i hi=>?_
     have:m=1:=by omega
     subst this
     obtain rfl:i=0:=by omega
     exact KeyOrd.kle_of_klt hk
theorem ZfL (h0:0<n) {p:Array Nat} {k:Nat} (hp:Pm n p) (ha:Asc key p k):∀ (f l r:Nat),r - l<=f->l<=r->r<=k->(∀ i,i<l->O.kle (K key p i) (K key p k))->(∀ i,r<=i->i<k->O.klt (K key p k) (K key p i)) ->
 Tw (lt O key) n (kas_place p k f l r) fun m=>m<=k/\(∀ i,i<m->O.kle (K key p i) (K key p k))/\(∀ i,m<=i->i<k->O.klt (K key p k) (K key p i))
 | 0,l,r,hf,hl,hr,h1,h2=>⟨by omega,h1,fun i a b=>h2 i (by omega) b⟩
 | f + 1, l, r, hf, hl, hr, h1, h2 => by
   unfold kas_place
   by_cases e:l ≥ r
   . rw [Xbe e]
     exact ⟨by omega,h1,fun i a b=>h2 i (by omega) b⟩
   . rw [Xbd e]
     refine ⟨hp.lt h0 _,hp.lt h0 _,?_⟩
     cases hc:lt O key (p.getD k 0) (p.getD ((l+r) / 2) 0) with
     | true =>
       have hc':O.klt (K key p k) (K key p ((l+r) / 2)):=hc;simp only [if_true];exact ZfL h0 hp ha f l ((l+r) / 2) (by omega) (by omega) (by omega) h1 fun i a b=>KeyOrd.klt_of_klt_of_kle hc' (ha.le' a b)
     | false =>
       have hc':O.kle (K key p ((l+r) / 2)) (K key p k):=hc;simp only [Xbh,if_false];exact ZfL h0 hp ha f ((l+r) / 2+1) r (by omega) (by omega) hr (fun i a=>KeyOrd.kle_trans (ha.le' (by omega) (by omega)) hc') h2
theorem bin_ok (h0:0<n):∀ (f:Nat) (p:Array Nat) (k:Nat),Pm n p->k+f=n->Asc key p k->Tw (lt O key) n (kas_bin f p k) fun p'=>Pm n p'/\Asc key p' n
 | 0, p, k, hp, hk, ha => ⟨hp, by have : k = n := by omega
                                  rw [<-this];exact ha⟩
 | f + 1, p, k, hp, hk, ha => by
   have hz:=hp.size;unfold kas_bin;refine ZdM _ (Tw_mono ?_ _ (ZfL (O:=O) (key:=key) h0 hp ha k 0 k (by omega) (by omega) (XaW _) (fun i h=>by omega) fun i a b=>by omega));rintro l ⟨b1,b2,b3⟩;have kk:=K_bub (key:=key) (p:=p) (k:=k) (l:=l) (by omega) b1;refine bin_ok h0 f _ (k+1) (hp.bub _ _) (by omega) fun i hi=>?_;rw [kk,kk]
   by_cases e1:i=l
   . rw [Xbe e1,Xbd (by omega)]
     by_cases e2:i+1<=k
     . rw [Xbe (by omega)]
       exact KeyOrd.kle_of_klt (b3 (i+1 - 1) (by omega) (by omega))
     . omega
   . rw [Xbd e1]
     by_cases e2:i+1=l
     . rw [Xbe e2,Xbd (by omega)]
       exact b2 i (by omega)
     . rw [Xbd e2]
       by_cases e3:l<i
       . rw [Xbe (by omega),Xbe (by omega)]
         have:=ha (i - 1) (by omega)
         rwa [show i - 1+1=i+1 - 1 by omega] at this
       . rw [Xbd (by omega),Xbd (by omega)]
         exact ha i (by omega)
theorem sort_ok (h0:0<n):Tw (lt O key) n (kas_sort n) fun p=>Pm n p/\Asc key p n:=by
 unfold kas_sort;refine ZdM _ (Tw_mono ?_ _ (Zk4 (O:=O) (key:=key) h0 (Array.Perm.refl _)));rintro ⟨m,p⟩ ⟨b1,b2,b3,b4⟩;dsimp only at b1 b2 b3 b4 ⊢
 split
 . rw [show max m 1=m by omega]
   exact bin_ok h0 _ _ _ b1 (by omega) b4
 . exact ⟨b1, by have : m = n := by omega
                 rw [<-this];exact b4⟩
end
end KasM
namespace L2
open PySem PySem.Spec PyProof.Rows
section
variable {prog:Program} {w:World} {A:Around} {E:Value->Shared->Prop} {s:Shared}
theorem ZfM {O:KeyOrd}{key:Nat->O.α}{κ:SortKind}{a:Addr}{vs:List Value}{n:Nat}{P:PySem.Fin->Shared->Prop} (ho:s.heap.get? a=some (seqObj "list" vs.toArray n)) (h64:vs.length<64)
 (hkind:2<=vs.length->∀ (h':Heap),(∀ b o,b≠a->s.heap.get? b=some o->h'.get? b=some o)->∀ (Q:SortKind->Shared->Prop),Q κ { s with heap:=h' }->wpAny (model prog w) A (keyKind' vs.toArray) Q (fun _ _=>False) { s with heap:=h' })
 (hcmp:∀ (h':Heap),(∀ b o,b≠a->s.heap.get? b=some o->h'.get? b=some o)->∀ (i j:Nat) (C:Bool->Shared->Prop),i<vs.length->j<vs.length->C (O.blt (key i) (key j)) { s with heap:=h' }->PySem.W.kas_ask prog w A κ vs i j C { s with heap:=h' })
 (h:∀ is:List Nat,is.Perm (List.range vs.length)->(∀ i,i+1<is.length->O.kle (key (is.getD i 0)) (key (is.getD (i+1) 0)))->P (.done (.ret .none)) { s with heap:=sortedHeap s.heap a vs (is.map fun i=>vs.getD i Value.none).toArray }) :
 wpAny (model prog w) A (Builtin.«list.sort» ⟨[.ref a],[]⟩) P E s:=by
 rw [list_sort_plain];have ha:a<s.heap.objs.size:=Xbp ho
 have hsz:vs.toArray.size=vs.length:=by simp
 refine Xbk (listItems_at ho rfl ?_);refine Xbk (listUpdate_at ho rfl ?_ (by rw [Xak,sizeLine_eq];omega) (Xa0 _))
 obtain ⟨e1,ho1⟩:∃ e1,(s.heap.update a (Obj.mapSeq fun _=>#[])).get? a=some (seqObj "list" #[] e1):=⟨_,get?_update_seq ho (fun _=>#[])⟩
 refine Xbk (seqEpoch_at ho1 rfl ?_);refine Xbk (wpAny_newTuple ?_ (by show vs.length<=_;rw [sizeLine_eq];omega));refine Xbk (wpAny_newList ?_ (Xa0 _));refine Xbm ?_
 have ho6:(((s.heap.update a (Obj.mapSeq fun _=>#[])).push (seqObj "tuple" vs.toArray 0)).push (seqObj "list" #[] 0)).get? a=some (seqObj "list" #[] e1):=by
  rw [Heap.get?_push_ne _ _ _ (by rw [size_push',Heap.size_update];exact XaZ (Nat.lt_succ_of_lt ha)),Heap.get?_push_ne _ _ _ (by rw [Heap.size_update];exact XaZ ha)];exact ho1
 have keep:∀ b o,b≠a->s.heap.get? b=some o->(((s.heap.update a (Obj.mapSeq fun _=>#[])).push (seqObj "tuple" vs.toArray 0)).push (seqObj "list" #[] 0)).get? b=some o:=fun b o hb q=>by
  refine Xbo _ (Xbo _ ?_);rw [Heap.get?_update_ne _ _ _ _ hb];exact q
 show wpAny (model prog w) A _ P E { s with heap:=((s.heap.update a (Obj.mapSeq fun _=>#[])).push (seqObj "tuple" vs.toArray 0)).push (seqObj "list" #[] 0) }
 dsimp only
 by_cases h2:vs.toArray.size<2
 . rw [Xbe h2,Xbe h2]
   refine Xbk (Xbl ?_);rw [StateT.run_pure];refine Xbk (Xbl ?_);dsimp only;refine Xbk (seqEpoch_at ho6 rfl ?_);refine Xbk (listUpdate_at ho6 rfl ?_ (Xa0 _) (by rw [Array.size_map];show (pairsOf vs).size<=_;rw [pairsOf_size,sizeLine_eq];omega));simp only [bne_self_eq_false,Xbh,if_false]
   have:=h (List.range vs.length) (List.Perm.refl _) (fun i hi=>by rw [List.length_range] at hi;omega)
   have e:((List.range vs.length).map fun i=>vs.getD i Value.none).toArray=(arrOf (SortSt.mk' general' (vs.toArray.zip vs.toArray) #[] 7 none)).map (·.2):=by
    apply Array.toList_inj.mp;show (List.range vs.length).map (fun i=>vs.getD i Value.none)=((vs.toArray.zip vs.toArray).map (·.2)).toList;apply List.ext_getElem?;intro k
    by_cases hk:k<vs.length
    . simp [hk,Xaq]
    . simp [hk]
   rw [e] at this;exact Xbl this
 . rw [Xbd h2,Xbd h2]
   have h2':2<=vs.length:=by omega
   refine Xbk (Xbu (hkind h2' _ keep (fun κ' s'=>κ'=κ/\s'=_) ⟨rfl,rfl⟩) ?_ fun _ _ x=>x.elim);rintro κ' s' ⟨rfl,rfl⟩
   refine Xbk (Xbu (PySem.W.kat_run (Q:=fun st' s'=>∃ p:Array Nat,arrOf st'=p.map (PySem.W.kas_item (vs.toArray.zip vs.toArray))/\failedOf st'=none/\KasM.Pm vs.length p/\KasM.Asc key p vs.length/\s'={ s with heap:=((s.heap.update a (Obj.mapSeq fun _=>#[])).push (seqObj "tuple" vs.toArray 0)).push (seqObj "list" #[] 0) })
    (G:=fun p s'=>KasM.Pm vs.length p/\KasM.Asc key p vs.length/\s'={ s with heap:=((s.heap.update a (Obj.mapSeq fun _=>#[])).push (seqObj "tuple" vs.toArray 0)).push (seqObj "list" #[] 0) })
    rfl h2' h64 (fun p' st' s' a1 a2 a3 a4=>⟨p',a2,a3,a4.1,a4.2.1,a4.2.2⟩)
    (KasM.Tw_wp (lt:=KasM.lt O key) (n:=vs.length) (hcmp _ keep) _ (KasM.Tw_mono (fun p hp=>⟨hp.1,hp.2,rfl⟩) _ (KasM.sort_ok (O:=O) (key:=key) (by omega))))) ?_ fun _ _ e=>e)
   rintro ⟨⟨⟩,st'⟩ s' ⟨p,har,hf,hp,hasc,rfl⟩;dsimp only;have hout:=PySem.W.kat_snds (ks:=vs) (vs:=vs) rfl har;rw [hout];refine Xbk (seqEpoch_at ho6 rfl ?_);refine Xbk (listUpdate_at ho6 rfl ?_ (Xa0 _) (by rw [Xak,Xaa,Array.length_toList,hp.size,sizeLine_eq];omega));rw [hf];simp only [bne_self_eq_false,Xbh,if_false];refine Xbl (h p.toList (by have:=Array.perm_iff_toList_perm.mp hp;simpa using this) fun i hi=>?_);have hz:=hp.size
   have:=hasc i (by simpa [hz] using hi)
   simpa [KasM.K,Array.getD_eq_getD_getElem?,Xaq] using this
theorem ZdN {O:KeyOrd}{key:Nat->O.α}{κ:SortKind}{l:Addr}{vs:List Value}{Q:Value->Shared->Prop} (hl:s.heap.IsList l vs.toArray) (h64:vs.length<64)
 (hkind:2<=vs.length->∀ (h':Heap),(∀ b o,s.heap.get? b=some o->h'.get? b=some o)->∀ (Q:SortKind->Shared->Prop),Q κ { s with heap:=h' }->wpAny (model prog w) A.in1.in1 (keyKind' vs.toArray) Q (fun _ _=>False) { s with heap:=h' })
 (hcmp:∀ (h':Heap),(∀ b o,s.heap.get? b=some o->h'.get? b=some o)->∀ (i j:Nat) (C:Bool->Shared->Prop),i<vs.length->j<vs.length->C (O.blt (key i) (key j)) { s with heap:=h' }->PySem.W.kas_ask prog w A.in1.in1 κ vs i j C { s with heap:=h' })
 (h:∀ (D:Addr) (h':Heap) (n:Nat) (is:List Nat),(∀ b o,s.heap.get? b=some o->h'.get? b=some o)->(∀ b o,s.heap.get? b=some o->b≠D)->is.Perm (List.range vs.length)->(∀ i,i+1<is.length->O.kle (key (is.getD i 0)) (key (is.getD (i+1) 0))) ->
  h'.get? D=some (seqObj "list" (is.map fun i=>vs.getD i Value.none).toArray n)->Q (.ref D) { s with heap:=h' }) :
 wpAny (model prog w) A (call (.builtin "sorted") [.ref l]) Q E s:=by
 refine Calls.call_function_entry kind_sorted plain_sorted entry_sorted (args_sorted1 _) ?_;unfold Builtin.«sorted»
 refine Xbk (m:=checkCount "sorted" 1 1 _) (Xbl ?_)
 refine Xbk (collect_list hl ?_ (by rw [sizeLine_eq];omega));refine Xbk (wpAny_newList ?_ (by rw [sizeLine_eq];omega))
 have hsz:((s.heap.push (seqObj "list" #[] 0)).update s.heap.objs.size (Obj.mapSeq (·++vs.toArray))).objs.size=s.heap.objs.size+1:=by
  rw [Heap.size_update,size_push']
 have hoL:(((s.heap.push (seqObj "list" #[] 0)).update s.heap.objs.size (Obj.mapSeq (·++vs.toArray))).push (seqObj "list" vs.toArray 0)).get? (s.heap.objs.size+1)=some (seqObj "list" vs.toArray 0):=by
  rw [<-hsz];exact Xbq _ rfl
 have keep:∀ b o,s.heap.get? b=some o->(((s.heap.push (seqObj "list" #[] 0)).update s.heap.objs.size (Obj.mapSeq (·++vs.toArray))).push (seqObj "list" vs.toArray 0)).get? b=some o:=fun b o q=>by
  have hlt:b<s.heap.objs.size:=Xbp q;rw [Heap.get?_push_ne _ _ _ (by rw [hsz];exact XaZ (Nat.lt_succ_of_lt hlt)),Heap.get?_update_ne _ _ _ _ (XaZ hlt),Heap.get?_push_ne _ _ _ (XaZ hlt)];exact q
 have szne:∀ b o,s.heap.get? b=some o->b≠s.heap.objs.size+1:=fun b o q=>XaZ (Nat.lt_succ_of_lt (Xbp q))
 show wpAny _ _ _ _ _ { s with heap:=((s.heap.push (seqObj "list" #[] 0)).update s.heap.objs.size (Obj.mapSeq (·++vs.toArray))).push (seqObj "list" vs.toArray 0) }
 rw [hsz];refine Xbk (Xbm (wpAny_call_entry slot_list_sort ⟨_,hoL,rfl⟩ entry_list_sort ?body (args_list_sort _)))
 case body =>
  refine ZfM (s:={ s with heap:=((s.heap.push (seqObj "list" #[] 0)).update s.heap.objs.size (Obj.mapSeq (·++vs.toArray))).push (seqObj "list" vs.toArray 0) }) (key:=key) (κ:=κ) hoL h64
   (fun h2 h' k=>hkind h2 h' fun b o q=>k b o (szne b o q) (keep b o q)) (fun h' k=>hcmp h' fun b o q=>k b o (szne b o q) (keep b o q)) fun is hp hs=>?_
  obtain ⟨n,hg⟩:=sortedHeap_at (vs:=vs) (out:=(is.map fun i=>vs.getD i Value.none).toArray) hoL;refine ⟨_,rfl,Xbl ⟨_,rfl,h (s.heap.objs.size+1) _ n is (fun b o q=>?_) szne hp hs hg⟩⟩
  show (sortedHeap (((s.heap.push (seqObj "list" #[] 0)).update s.heap.objs.size (Obj.mapSeq (·++vs.toArray))).push (seqObj "list" vs.toArray 0)) (s.heap.objs.size+1) vs _).get? b=some o
  rw [sortedHeap_old (szne b o q) (Xbp (keep b o q))];exact keep b o q
end
@[reducible] def lexO (O P:KeyOrd):KeyOrd where
 α:=O.α×P.α
 blt x y:=O.blt x.1 y.1 || (!O.blt y.1 x.1 && P.blt x.2 y.2)
 irrefl x:=by simp [O.irrefl,P.irrefl]
 trans x y z h1 h2:=by
  simp only [Bool.or_eq_true,Bool.and_eq_true,Bool.not_eq_true'] at h1 h2 ⊢
  rcases h1 with h1 | ⟨h1,k1⟩ <;> rcases h2 with h2 | ⟨h2,k2⟩
  . exact .inl (O.trans _ _ _ h1 h2)
  . exact .inl (KeyOrd.klt_of_klt_of_kle h1 h2)
  . exact .inl (KeyOrd.klt_of_kle_of_klt h1 h2)
  . exact .inr ⟨KeyOrd.kle_trans (O:=O) h1 h2,P.trans _ _ _ k1 k2⟩
 negTrans x y z h:=by
  simp only [Bool.or_eq_true,Bool.and_eq_true,Bool.not_eq_true'] at h ⊢
  rcases h with h | ⟨h,k⟩
  . rcases O.negTrans _ y.1 _ h with h | h
    . exact .inl (.inl h)
    . exact .inr (.inl h)
  . cases e1:O.blt x.1 y.1 with
    | true=>exact .inl (.inl rfl)
    | false =>
      cases e2:O.blt y.1 z.1 with
      | true=>exact .inr (.inl rfl)
      | false =>
        have a1:O.kle y.1 x.1:=e1;have a2:O.kle z.1 y.1:=e2;have a3:O.kle x.1 z.1:=h;have b1:O.blt y.1 x.1=false:=KeyOrd.kle_trans (O:=O) a3 a2;have b2:O.blt z.1 y.1=false:=KeyOrd.kle_trans (O:=O) a1 a3
        rcases P.negTrans _ y.2 _ k with k | k
        . exact .inl (.inr ⟨b1,k⟩)
        . exact .inr (.inr ⟨b2,k⟩)
 total x y h1 h2:=by
  simp only [Bool.or_eq_false_iff,Bool.and_eq_false_iff,Bool.not_eq_false'] at h1 h2;have e1:x.1=y.1:=O.total _ _ h1.1 h2.1;have e2:x.2=y.2:=P.total _ _ (by rcases h1.2 with z | z;exact absurd (h2.1.symm.trans z) (by simp);exact z) (by rcases h2.2 with z | z;exact absurd (h1.1.symm.trans z) (by simp);exact z);exact Prod.ext e1 e2
@[reducible] def strO:KeyOrd where
 α:=Str
 blt a b:=decide (a.cps.toList<b.cps.toList)
 irrefl a:=by simpa using List.lt_irrefl a.cps.toList
 trans a b c h1 h2:=by simp only [decide_eq_true_eq] at *;exact List.lt_trans h1 h2
 negTrans a b c h:=by
  simp only [decide_eq_true_eq] at *
  by_cases hab:a.cps.toList<b.cps.toList
  . exact .inl hab
  . exact .inr (List.lt_of_le_of_lt (List.not_lt.mp hab) h)
 total a b h1 h2:=by simp only [decide_eq_false_iff_not] at *;exact ext_toList (List.le_antisymm (List.not_lt.mp h2) (List.not_lt.mp h1))
@[reducible] def intO:KeyOrd where
 α:=Int
 blt a b:=decide (a<b)
 irrefl a:=by simp
 trans a b c h1 h2:=by simp only [decide_eq_true_eq] at *;omega
 negTrans a b c h:=by simp only [decide_eq_true_eq] at *;omega
 total a b h1 h2:=by simp only [decide_eq_false_iff_not] at *;omega
structure Col where
 O:KeyOrd
 val:O.α->V
 dflt:O.α
 T:Value
 tT:(T == T)=true
 tN:(T != Value.type "tuple")=true
 look:∀ (M:Model) (h:Heap) (a:O.α) (u:Value),RelV (val a) u->PySem.W.Looks M h (typeOf u) T
 eqB:∀ (prog:Program) (w:World) (A:Around) (E:Value->Shared->Prop) (s:Shared) (a b:O.α) (u v:Value) (Q:Bool->Shared->Prop),RelV (val a) u->RelV (val b) v->(∀ e:Bool,(e=true↔a=b)->Q e s)->wpAny (model prog w) A (eqBool u v) Q E s
 ltB:∀ (prog:Program) (w:World) (A:Around) (E:Value->Shared->Prop) (s:Shared) (a b:O.α) (u v:Value) (Q:Bool->Shared->Prop),RelV (val a) u->RelV (val b) v->Q (O.blt a b) s->wpAny (model prog w) A (oneLt' true u v) Q E s
 ltC:∀ (prog:Program) (w:World) (A:Around) (E:Value->Shared->Prop) (s:Shared) (a b:O.α) (u v:Value) (Q:Bool->Shared->Prop),RelV (val a) u->RelV (val b) v->Q (O.blt a b) s->wpAny (model prog w) A (oneLt' false u v) Q E s
@[reducible] def strC:Col where
 O:=strO
 val:=V.str
 dflt:=default
 T:=.type "str"
 tT:=by decide
 tN:=by decide
 look M h a u r:=by obtain ⟨t,rfl⟩:=r;exact PySem.W.Looks.of_pure rfl
 eqB prog w A E s a b u v Q r r' h:=by
  obtain ⟨t,rfl⟩:=r;obtain ⟨t',rfl⟩:=r';exact eqBool_str (h _ (by simp))
 ltB prog w A E s a b u v Q r r' h:=by
  obtain ⟨t,rfl⟩:=r;obtain ⟨t',rfl⟩:=r';exact oneLt_str h
 ltC prog w A E s a b u v Q r r' h:=by
  obtain ⟨t,rfl⟩:=r;obtain ⟨t',rfl⟩:=r';exact PySem.W.kat_one _ _ (PySem.P.lt_str h)
@[reducible] def intC:Col where
 O:=intO
 val:=V.int
 dflt:=0
 T:=.type "int"
 tT:=by decide
 tN:=by decide
 look M h a u r:=by obtain ⟨t,rfl⟩:=r;exact PySem.W.Looks.of_pure rfl
 eqB prog w A E s a b u v Q r r' h:=by
  obtain ⟨t,rfl⟩:=r;obtain ⟨t',rfl⟩:=r';exact wpAny_eqBool_int (h _ (by simp))
 ltB prog w A E s a b u v Q r r' h:=by
  obtain ⟨t,rfl⟩:=r;obtain ⟨t',rfl⟩:=r';exact oneLt_int h
 ltC prog w A E s a b u v Q r r' h:=by
  obtain ⟨t,rfl⟩:=r;obtain ⟨t',rfl⟩:=r';exact PySem.W.kat_one _ _ (PySem.P.lt_int h)
variable {c d:Col}
theorem lexO_eq (x y:(lexO c.O d.O).α) (e:x.1=y.1):(lexO c.O d.O).blt x y=d.O.blt x.2 y.2:=by
 show (c.O.blt x.1 y.1 || (!c.O.blt y.1 x.1 && d.O.blt x.2 y.2))=_;rw [e,c.O.irrefl];rfl
theorem lexO_ne (x y:(lexO c.O d.O).α) (e:x.1≠y.1):(lexO c.O d.O).blt x y=c.O.blt x.1 y.1:=by
 show (c.O.blt x.1 y.1 || (!c.O.blt y.1 x.1 && d.O.blt x.2 y.2))=_
 cases h1:c.O.blt x.1 y.1 with
 | true=>rfl
 | false =>
   cases h2:c.O.blt y.1 x.1 with
   | true=>rfl
   | false=>exact absurd (c.O.total _ _ h1 h2) e
section
variable {prog:Program} {w:World} {A:Around} {E:Value->Shared->Prop} {s:Shared}
theorem Zk5 (c d:Col) {x y:Addr} {p q:(lexO c.O d.O).α} {u1 u2 v1 v2:Value} {Q:Bool->Shared->Prop} (hx:IsTup s.heap x #[u1,u2]) (hy:IsTup s.heap y #[v1,v2]) (r1:RelV (c.val p.1) u1) (r2:RelV (d.val p.2) u2) (s1:RelV (c.val q.1) v1) (s2:RelV (d.val q.2) v2)
 (h:Q ((lexO c.O d.O).blt p q) s):wpAny (model prog w) A (keyLt' (tuples' true) (.ref x) (.ref y)) Q E s:=by
 obtain ⟨ox,hox,_,n,dx⟩:=hx;obtain ⟨oy,hoy,_,m,dy⟩:=hy;refine PySem.W.kat_lt hox dx hoy dy (PySem.W.kat_cons (c.eqB _ _ _ _ _ _ _ _ _ _ r1 s1 fun e he=>?_))
 cases e with
 | false =>
   have hne:p.1≠q.1:=fun z=>Xbb (he.mpr z);rw [lexO_ne _ _ hne] at h;exact PySem.W.kat_no (c.ltB _ _ _ _ _ _ _ _ _ _ r1 s1 h)
 | true =>
   rw [lexO_eq _ _ (he.mp rfl)] at h;refine PySem.W.kat_yes (PySem.W.kat_cons (d.eqB _ _ _ _ _ _ _ _ _ _ r2 s2 fun e he=>?_))
   cases e with
   | false=>exact PySem.W.kat_no (d.ltC _ _ _ _ _ _ _ _ _ _ r2 s2 h)
   | true =>
     refine PySem.W.kat_yes (PySem.W.kat_nil ?_);rw [he.mp rfl,d.O.irrefl] at h;exact h
end
theorem Zbd {α:Type}{R:α->α->Prop} (tr:∀ a b c,R a b->R b c->R a c):∀ (l:List α),(∀ i a b,l[i]?=some a->l[i+1]?=some b->R a b)->l.Pairwise R
 | [],_=>.nil
 | [x],_=>by simp
 | x :: y :: r,h=>by
   have ih:=Zbd tr (y :: r) fun i a b h1 h2=>h (i+1) a b (by simpa using h1) (by simpa using h2);have hxy:R x y:=h 0 x y rfl rfl;refine List.pairwise_cons.mpr ⟨fun z hz=>?_,ih⟩
   rcases Xam.mp hz with e | hz
   . rw [e];exact hxy
   . exact tr _ _ _ hxy ((List.pairwise_cons.mp ih).1 z hz)
section
variable {X:Cx}
abbrev Row (c d:Col):Type:=V×(lexO c.O d.O).α
def rSortP (X:Cx) (c d:Col):List V->Hp->VK->Prop:=fun vs H Q=>∃ (l:Addr) (zs:List (Row c d)),vs=[.ref l]/\SqL X.K H l (zs.map (·.1))/\zs.length<64 /\
 (∀ z∈zs,∃ t,z.1=.ref t/\SqT X.K H t [c.val z.2.1,d.val z.2.2])/\∀ (D:Addr) (zs':List (Row c d)),zs'.Perm zs->(zs'.map (·.2)).Pairwise (lexO c.O d.O).kle->H D=none->Q (.ref D) (upd H D (.lst (zs'.map (·.1))))
def HR (c d:Col) (h:Heap) (z:Row c d) (v:Value):Prop:=∃ t u1 u2,z.1=.ref t/\v=.ref t/\IsTup h t #[u1,u2]/\RelV (c.val z.2.1) u1/\RelV (d.val z.2.2) u2
theorem HR.keeps {c d:Col}{h h':Heap}{z:Row c d}{v:Value} (k:∀ b o,h.get? b=some o->h'.get? b=some o) (x:HR c d h z v):HR c d h' z v:=by
 obtain ⟨t,u1,u2,a1,a2,a3,a4⟩:=x;exact ⟨t,u1,u2,a1,a2,a3.keeps k,a4⟩
theorem hr_tups {h:Heap} (zs:List (Row c d)) (its:List Value) (hp:Paired (HR c d h) zs its):∃ fs,PySem.W.KatTups h its fs/\fs.length=zs.length/\∀ v∈fs,∃ a,RelV (c.val a) v:=by
 induction hp with
 | nil=>exact ⟨[],.nil,rfl,fun _ x=>by cases x⟩
 | cons hx r ih =>
   obtain ⟨t,u1,u2,a1,a2,⟨o,b1,b2,n,b3⟩,a4,a5⟩:=hx;obtain ⟨fs,k1,k2,k3⟩:=ih;subst a2;refine ⟨u1 :: fs,.cons b1 b2 b3 rfl k1,by simp [k2],fun v hv=>?_⟩
   rcases Xam.mp hv with e | hv
   . exact ⟨_,e ▸ a4⟩
   . exact k3 v hv
theorem ZcL {α β:Type}{R:α->β->Prop}{xs:List α}{ys:List β} (h:Paired R xs ys):∀ (i:Nat) (dx:α) (dy:β),i<xs.length->R (xs.getD i dx) (ys.getD i dy):=by
 induction h with
 | nil=>intro i dx dy h;simp at h
 | cons a r ih =>
   intro i dx dy h
   cases i with
   | zero=>exact a
   | succ i=>simpa using ih i dx dy (by simpa using h)
theorem Zc2 {α β γ:Type}{R:α->β->Prop}{f:γ->α}{g:γ->β}:∀ (l:List γ),(∀ x∈l,R (f x) (g x))->Paired R (l.map f) (l.map g)
 | [],_=>.nil
 | x :: l,h=>.cons (h x Xal) (Zc2 l fun y hy=>h y (Xap _ hy))
theorem hr_of {c d:Col}{pins:List (Addr×Obj)} {σ:L2.St} {H:Hp} {s:Shared} (I:Inv X pins σ H s):∀ (zs:List (Row c d)) (its:List Value),Vals (zs.map (·.1)) its->(∀ z∈zs,∃ t,z.1=.ref t/\SqT X.K H t [c.val z.2.1,d.val z.2.2])->Paired (HR c d s.heap) zs its
 | [],its,r,_=>by cases r;exact .nil
 | z :: zs, its, r, h => by
   cases r with
   | cons a b =>
     obtain ⟨t,e,sq⟩:=h z Xal;obtain ⟨us,r1,it,_⟩:=I.tuple sq
     cases r1 with
     | cons r1 r2 =>
       cases r2 with
       | cons r2 r3 =>
         cases r3;dsimp only at a;rw [e] at a;exact .cons ⟨t,_,_,e,a,it,r1,r2⟩ (hr_of I zs _ b fun y hy=>h y (Xap _ hy))
theorem Zfp (c d:Col):CallR X (.builtin "sorted") (rSortP X c d):=by
 intro pins s σ H vs us Q I r h;obtain ⟨l,zs,rfl,hl,h64,hr,q⟩:=h;obtain ⟨u,rfl,ru⟩:=Zdh r;obtain rfl:u=Value.ref l:=ru;obtain ⟨its,ri,pl,_⟩:=I.list hl;have hp:=hr_of I zs its ri hr;have hlen:zs.length=its.length:=hp.length
 let dz:Row c d:=(V.non,(c.dflt,d.dflt))
 refine ZdN (O:=lexO c.O d.O) (key:=fun i=>(zs.getD i dz).2) (κ:=tuples' true) (vs:=its) (by obtain ⟨o,n,a1,a2,a3,a4⟩:=pl;exact ⟨o,a1,a2,n,a4⟩) (by omega) (fun h2 h' k Q' hq=>?_) (fun h' k i j C hi hj hC=>?_) fun D h' n is kk hD hpm hst hg=>?_
 . have hp':Paired (HR c d h') zs its:=Paired.mapP hp fun _ _ x=>x.keeps k
   obtain ⟨fs,k1,k2,k3⟩:=hr_tups _ _ hp';refine PySem.W.kat_kind (T:=c.T) k1 (by omega) (fun v hv=>?_) c.tT (by rw [c.tN];exact hq);obtain ⟨a,ha⟩:=k3 v hv;exact c.look _ _ a v ha
 . obtain ⟨t,u1,u2,a1,a2,a3,a4,a5⟩:=(ZcL hp i dz Value.none (by omega)).keeps k
   obtain ⟨t',v1,v2,b1,b2,b3,b4,b5⟩:=(ZcL hp j dz Value.none (by omega)).keeps k;unfold PySem.W.kas_ask;rw [a2,b2];exact Zk5 c d a3 b3 a4 a5 b4 b5 hC
 . have hin:∀ i∈is,i<zs.length:=fun i hi=>by
    have:=hpm.mem_iff.mp hi
    rw [hlen];simpa using this
   have hrange:(List.range zs.length).map (fun i=>zs.getD i dz)=zs:=by
    apply List.ext_getElem?;intro k
    by_cases hk:k<zs.length
    . simp [hk,Xaq]
    . simp [hk]
   have hperm:(is.map fun i=>zs.getD i dz).Perm zs:=by
    have:=hpm.map (fun i=>zs.getD i dz)
    rwa [<-hlen,hrange] at this
   have hv:Vals ((is.map fun i=>zs.getD i dz).map (·.1)) (is.map fun i=>its.getD i Value.none):=by
    rw [Xax];refine Zc2 is fun i hi=>?_;obtain ⟨t,u1,u2,a1,a2,_⟩:=ZcL hp i dz Value.none (hin i hi);show RelV (zs.getD i dz).1 (its.getD i Value.none);rw [a1,a2];exact rfl
   have hpw:((is.map fun i=>zs.getD i dz).map (·.2)).Pairwise (lexO c.O d.O).kle:=by
    refine Zbd (fun _ _ _=>KeyOrd.kle_trans) _ fun i a b h1 h2=>?_;rw [Xax,Xag,XaV] at h1 h2;obtain ⟨x,e1,rfl⟩:=h1;obtain ⟨y,e2,rfl⟩:=h2;obtain ⟨hlt,_⟩:=Xae.mp e2
    have:=hst i hlt
    have g1:is.getD i 0=x:=by rw [Xaq,e1];rfl
    have g2:is.getD (i+1) 0=y:=by rw [Xaq,e2];rfl
    rw [g1,g2] at this;exact this
   exact ⟨.ref D,upd H D (.lst ((is.map fun i=>zs.getD i dz).map (·.1))),I.laidN (t':=s.toks) kk hD ⟨by rw [Xaa,hperm.length_eq];exact XaY (Zan (by omega)),_,n,hv,hg⟩,rfl,q D _ hperm hpw (I.freshN hD)⟩
end
open Ord
abbrev goD (p:Str×Int):Dt:=.tup [.str p.1,.int p.2]
abbrev Stt:Type:=List (Str×Int)×List Str
abbrev stD (s:Stt):Dt:=.tup [.lst (s.1.map goD),.lst (s.2.map Dt.str)]
def Goes (K:XFg) (H:Hp) (a:Addr) (gs:List (Str×Int)):Prop:=∃ vs,SqL K H a vs/\IsDts K H vs (gs.map goD)
def Stts (K:XFg) (H:Hp) (a:Addr) (ss:List Stt):Prop:=∃ vs,SqL K H a vs/\IsDts K H vs (ss.map stD)
theorem Goes.same {K:XFg}{H H':Hp}{a:Addr}{gs:List (Str×Int)} (e:Same H H') (h:Goes K H a gs):Goes K H' a gs:=by
 obtain ⟨vs,h1,h2⟩:=h;exact ⟨vs,e.seq h1,h2.same e⟩
theorem Zh7 {K:XFg}{H:Hp}:∀ {vs:List V}{xs:List Str},IsDts K H vs (xs.map Dt.str)->vs=xs.map V.str
 | _,[],.nil=>rfl
 | _,_ :: _,.cons h t=>by cases h;rw [Zh7 t];rfl
variable {H:Hp}{v:V}{p:Str×Int}
theorem Zk6 {K:XFg}(h:IsDt K H v (goD p)):∃ t,v=.ref t/\SqT K H t [.str p.1,.int p.2]:=by
 cases h with
 | tup h t =>
   cases t with
   | cons h1 t =>
     cases t with
     | cons h2 t =>
       cases t;cases h1;cases h2;exact ⟨_,rfl,h⟩
variable {vs:List V}{gs:List (Str×Int)}{i:Nat}
theorem IsDts.goes_get {K:XFg}(h:IsDts K H vs (gs.map goD)) (hv:vs[i]?=some v):∃ p t,gs[i]?=some p/\v=.ref t/\SqT K H t [.str p.1,.int p.2]:=by
 obtain ⟨d,hd,hi⟩:=h.get hv;rw [Xag] at hd
 cases e:gs[i]? with
 | none=>rw [e] at hd;cases hd
 | some p =>
   rw [e] at hd;cases hd;obtain ⟨t,h1,h2⟩:=Zk6 hi;exact ⟨p,t,rfl,h1,h2⟩
theorem Zk7 {K:XFg}{s:Stt} (h:IsDt K H v (stD s)):∃ t g e,v=.ref t/\SqT K H t [.ref g,.ref e]/\Goes K H g s.1/\SqL K H e (s.2.map V.str):=by
 cases h with
 | tup h t =>
   cases t with
   | cons h1 t =>
     cases t with
     | cons h2 t =>
       cases t
       cases h1 with
       | lst a1 b1 =>
         cases h2 with
         | lst a2 b2 =>
           rw [Zh7 b2] at a2;exact ⟨_,_,_,rfl,h,⟨_,a1,b1⟩,a2⟩
variable {α:Type}
theorem IsDts.len_map {K:XFg}{f:α->Dt}{xs:List α} (h:IsDts K H vs (xs.map f)):vs.length=xs.length:=by
 have:=h.length
 rwa [Xaa] at this
theorem ZiL {its:List Value}{ss:List Str} (hS:StrsAre its ss) (h2:2<=its.length):keyKind' its.toArray=pure oneType':=by
 match its,hS,h2 with
 | [],_,h2=>simp at h2
 | [_],_,h2=>simp at h2
 | v₁ :: v₂ :: rest,hS,_=>exact keyKind_strs hS
section
variable {X:Cx}
def rSortS (X:Cx):List V->Hp->VK->Prop:=fun vs H Q=>∃ (l:Addr) (ss:List Str),vs=[.ref l]/\SqL X.K H l (ss.map V.str)/\ss.length<64/\∀ (D:Addr) (ss':List Str),ss'.Perm ss->ss'.Pairwise strO.kle->H D=none->Q (.ref D) (upd H D (.lst (ss'.map V.str)))
theorem ZiM:CallR X (.builtin "sorted") (rSortS X):=by
 intro pins s σ H vs us Q I r h;obtain ⟨l,ss,rfl,hl,h64,q⟩:=h;obtain ⟨u,rfl,ru⟩:=Zdh r;obtain rfl:u=Value.ref l:=ru;obtain ⟨its,ri,pl,_⟩:=I.list hl;have hS:=ZiK ri
 have hlen:ss.length=its.length:=by have:=ri.length;rwa [Xaa] at this
 have hat:∀ i,i<ss.length->∃ t,its.getD i Value.none=.str (ss.getD i default) t:=fun i hi=>by
  have:=ZcL ri i V.non Value.none (by rw [Xaa];exact hi)
  have e:(ss.map V.str).getD i V.non=V.str (ss.getD i default):=by
   rw [Xaq,Xag,Xaq,Xab hi];rfl
  rw [e] at this;exact this
 refine ZdN (O:=strO) (key:=fun i=>ss.getD i default) (κ:=oneType') (vs:=its) pl.isList (by omega) (fun h2 h' k Q' hq=>?_) (fun h' k i j C hi hj hC=>?_) fun D h' n is kk hD hpm hst hg=>?_
 . rw [ZiL hS h2]
   exact Xbl hq
 . obtain ⟨t,e1⟩:=hat i (by omega)
   obtain ⟨t',e2⟩:=hat j (by omega);unfold PySem.W.kas_ask;rw [e1,e2,keyLt'_oneType];exact oneLt_str hC
 . have hin:∀ i∈is,i<ss.length:=fun i hi=>by
    have:=hpm.mem_iff.mp hi
    rw [hlen];simpa using this
   have hrange:(List.range ss.length).map (fun i=>ss.getD i default)=ss:=by
    apply List.ext_getElem?;intro k
    by_cases hk:k<ss.length
    . simp [hk,Xaq]
    . simp [hk]
   have hperm:(is.map fun i=>ss.getD i default).Perm ss:=by
    have:=hpm.map (fun i=>ss.getD i default)
    rwa [<-hlen,hrange] at this
   have hv:Vals ((is.map fun i=>ss.getD i default).map V.str) (is.map fun i=>its.getD i Value.none):=by
    rw [Xax];exact Zc2 is fun i hi=>hat i (hin i hi)
   have hpw:(is.map fun i=>ss.getD i default).Pairwise strO.kle:=by
    refine Zbd (R:=strO.kle) (fun _ _ _ h k=>KeyOrd.kle_trans (O:=strO) h k) _ fun i a b h1 h2=>?_;rw [Xag,XaV] at h1 h2;obtain ⟨x,e1,rfl⟩:=h1;obtain ⟨y,e2,rfl⟩:=h2;obtain ⟨hlt,_⟩:=Xae.mp e2
    have:=hst i hlt
    have g1:is.getD i 0=x:=by rw [Xaq,e1];rfl
    have g2:is.getD (i+1) 0=y:=by rw [Xaq,e2];rfl
    rw [g1,g2] at this;exact this
   exact ⟨.ref D,upd H D (.lst ((is.map fun i=>ss.getD i default).map V.str)),I.laidN (t':=s.toks) kk hD ⟨by rw [Xaa,hperm.length_eq];exact XaY (Zan (by omega)),_,n,hv,hg⟩,rfl,q D _ hperm hpw (I.freshN hD)⟩
end
abbrev Zk8 (K:XFg) (H:Hp) (z:Row strC intC):Prop:=∃ t,z.1=.ref t/\SqT K H t [V.str z.2.1,V.int z.2.2]
theorem ZfN {K:XFg}{H:Hp}:∀ {ts:List Addr}{gs:List (Str×Int)},ts.length=gs.length->(∀ (n:Nat) (a:Addr) (p:Str×Int),ts[n]?=some a->gs[n]?=some p->H a=some (.tup [.str p.1,.int p.2])) ->
 ∃ zs:List (Row strC intC),zs.map (·.1)=ts.map V.ref/\zs.map (·.2)=gs/\∀ z∈zs,Zk8 K H z
 | [],[],_,_=>⟨[],rfl,rfl,fun z hz=>by cases hz⟩
 | [],_ :: _,h,_=>by simp at h
 | _ :: _,[],h,_=>by simp at h
 | a :: ts,p :: gs,h,k=>by
   obtain ⟨zs,h1,h2,h3⟩:=ZfN (K:=K) (H:=H) (ts:=ts) (gs:=gs) (by simpa using h) fun n a p h1 h2=>k (n+1) a p (by simpa using h1) (by simpa using h2);refine ⟨(V.ref a,p) :: zs,by rw [Xao,h1];rfl,by rw [Xao,h2],fun z hz=>?_⟩
   rcases Xam.mp hz with e | hz
   . rw [e];exact ⟨a,rfl,SqT.of (k 0 a p rfl rfl)⟩
   . exact h3 z hz
theorem ZfO {K:XFg}{H:Hp}:∀ (zs:List (Row strC intC)),(∀ z∈zs,Zk8 K H z)->IsDts K H (zs.map (·.1)) ((zs.map (·.2)).map goD)
 | [],_=>.nil
 | z :: zs,h=>by
   obtain ⟨t,e,sq⟩:=h z Xal;refine .cons ?_ (ZfO zs fun y hy=>h y (Xap _ hy));show IsDt K H z.1 (goD z.2);rw [e];exact .tup sq (.cons (.str _) (.cons (.int _) .nil))
variable {a D:Addr}{o:HO}{xs:List V}
theorem SqL.updN {K:XFg}(hn:a≠D) (h:SqL K H a xs):SqL K (upd H D o) a xs:=by
 rcases h with (h | ⟨u,h⟩) | h
 . exact .inl (.inl (by rw [Zal hn];exact h))
 . exact .inl (.inr ⟨u,by rw [Zal hn];exact h⟩)
 . exact .inr h
theorem SqT.updL {K:XFg}{ys:List V} (hD:H D=some (.lst ys)) (h:SqT K H a xs):SqT K (upd H D o) a xs:=by
 rcases h with (h | ⟨u,h⟩) | h
 . exact .inl (.inl (by rw [Zal fun z=>by rw [z,hD] at h;cases h];exact h))
 . exact .inl (.inr ⟨u,by rw [Zal fun z=>by rw [z,hD] at h;cases h];exact h⟩)
 . exact .inr h
theorem Zh8 {K:XFg}{H:Hp}{D:Addr}{o:HO}{ys:List V} (hD:H D=some (.lst ys)):∀ {vs:List V} {gs:List (Str×Int)},IsDts K H vs (gs.map goD)->IsDts K (upd H D o) vs (gs.map goD)
 | _,[],.nil=>.nil
 | _,p :: gs,.cons h t=>by
   obtain ⟨a,e,sq⟩:=Zk6 h;subst e;exact .cons (.tup (sq.updL hD) (.cons (.str _) (.cons (.int _) .nil))) (Zh8 hD t)
theorem Goes.updL {K:XFg}{ys:List V}(hD:H D=some (.lst ys)) (hn:a≠D) (h:Goes K H a gs):Goes K (upd H D o) a gs:=by
 obtain ⟨vs,h1,h2⟩:=h;exact ⟨vs,h1.updN hn,Zh8 hD h2⟩
structure StRows (K:XFg) (F:Addr->Prop) (H:Hp) (D:Addr) (us:List Addr) (rs:List Stt):Prop where
 len:us.length=rs.length
 at_:∀ (i:Nat) (u:Addr) (r:Stt),us[i]?=some u->rs[i]?=some r->∃ G E xs,H u=some (.tup [.ref G,.ref E])/\Goes K H G r.1/\H G=some (.lst xs)/\H E=some (.lst (r.2.map V.str))/\G≠D/\E≠D/\F G/\F E
variable {F:Addr->Prop}
theorem StRows.nil {K:XFg}:StRows K F H D [] []:=⟨rfl,fun i u r h=>by simp at h⟩
theorem StRows.same {K:XFg}{F:Addr->Prop}{H H':Hp}{D:Addr}{us:List Addr}{rs:List Stt} (e:Same H H') (h:StRows K F H D us rs):StRows K F H' D us rs:=by
 refine ⟨h.len,fun i u r h1 h2=>?_⟩;obtain ⟨G,E,xs,a1,a2,a3,a4,a5,a6,a7⟩:=h.at_ i u r h1 h2;exact ⟨G,E,xs,e _ _ a1,a2.same e,e _ _ a3,e _ _ a4,a5,a6,a7⟩
theorem StRows.updL {K:XFg}{F:Addr->Prop}{H:Hp}{D:Addr}{o:HO}{ys:List V}{us:List Addr}{rs:List Stt} (hD:H D=some (.lst ys)) (h:StRows K F H D us rs):StRows K F (upd H D o) D us rs:=by
 refine ⟨h.len,fun i u r h1 h2=>?_⟩;obtain ⟨G,E,xs,a1,a2,a3,a4,a5,a6,a7⟩:=h.at_ i u r h1 h2;exact ⟨G,E,xs,by rw [Zal fun z=>by rw [z,hD] at a1;cases a1];exact a1,a2.updL hD a5,by rw [Zal a5];exact a3,by rw [Zal a6];exact a4,a5,a6,a7⟩
variable {u G E:Addr}{us:List Addr}{rs:List Stt}
theorem StRows.snoc {K:XFg}{r:Stt} (h:StRows K F H D us rs) (a1:H u=some (.tup [.ref G,.ref E])) (a2:Goes K H G r.1) (a3:H G=some (.lst xs)) (a4:H E=some (.lst (r.2.map V.str))) (a5:G≠D) (a6:E≠D) (a7:F G) (a8:F E):StRows K F H D (us++[u]) (rs++[r]):=by
 refine ⟨by rw [Xac,Xac,h.len];rfl,fun i v q h1 h2=>?_⟩
 rcases Nat.lt_or_ge i us.length with hlt | hge
 . rw [Xat hlt] at h1
   rw [Xat (by rw [<-h.len];exact hlt)] at h2;exact h.at_ i v q h1 h2
 . have hn1:i<(us++[u]).length:=(Xae.mp h1).1
   rw [Xac,Xau] at hn1
   have e:i=us.length:=by omega
   subst e;rw [Xay (XaW _),Nat.sub_self] at h1;rw [Xay (by rw [h.len];exact XaW _),h.len,Nat.sub_self] at h2;cases h1;cases h2;exact ⟨G,E,xs,a1,a2,a3,a4,a5,a6,a7,a8⟩
theorem ZaV:([]:List V).length+1+1+1<=sizeLine:=by decide
theorem StRows.dts {K:XFg}{F:Addr->Prop}{H:Hp}{D:Addr}:∀ {us:List Addr}{rs:List Stt},StRows K F H D us rs->IsDts K H (us.map V.ref) (rs.map stD)
 | [],[],_=>.nil
 | [],_ :: _,h=>by have:=h.len;simp at this
 | _ :: _,[],h=>by have:=h.len;simp at this
 | u :: us,r :: rs,h=>by
   obtain ⟨G,E,xs,a1,⟨gv,a2,a2'⟩,a3,a4,_⟩:=h.at_ 0 u r rfl rfl;refine .cons (.tup (SqT.of a1) (.cons (.lst a2 a2') (.cons (.lst (SqL.of a4) (IsDts.strs _)) .nil))) ?_;exact StRows.dts (D:=D) ⟨by simpa using h.len,fun i v q h1 h2=>h.at_ (i+1) v q (by simpa using h1) (by simpa using h2)⟩
theorem StRows.stts {K:XFg}(e:H a=some (.lst (us.map V.ref))) (h:StRows K F H a us rs):Stts K H a rs:=⟨_,SqL.of e,h.dts⟩
variable {O:KeyOrd}
theorem Zck {l m:List O.α} (h:l.Perm m) (h1:l.Pairwise O.kle) (h2:m.Pairwise O.kle):l=m :=
 h.eq_of_pairwise (fun a b _ _ x y=>KeyOrd.kle_antisymm x y) h1 h2
theorem cmp_go (p q:Str×Int):Cmp 2 (goD p) (goD q):=.tup (.cons (.str _ _) (.cons (.int _ _) (.nil _)))
structure GT (H:Hp) (ts:List Addr) (gs:List (Str×Int)):Prop where
 len:ts.length=gs.length
 at_:∀ (n:Nat) (t:Addr) (p:Str×Int),ts[n]?=some t->gs[n]?=some p->H t=some (.tup [.str p.1,.int p.2])
theorem GT.nil :GT H [] []:=⟨rfl,fun n t p h=>by simp at h⟩
variable {H':Hp}{ts:List Addr}
theorem GT.same (e:Same H H') (h:GT H ts gs):GT H' ts gs:=⟨h.len,fun n t p h1 h2=>e _ _ (h.at_ n t p h1 h2)⟩
theorem GT.updL (hD:H a=some (.lst xs)) (h:GT H ts gs):GT (upd H a o) ts gs:=⟨h.len,fun n t p h1 h2=>by
 have:=h.at_ n t p h1 h2
 rw [Zal fun z=>by rw [z,hD] at this;cases this]
 exact this⟩
theorem GT.snoc {t:Addr}(h:GT H ts gs) (e:H t=some (.tup [.str p.1,.int p.2])):GT H (ts++[t]) (gs++[p]):=by
 refine ⟨by rw [Xac,Xac,h.len];rfl,fun n v q h1 h2=>?_⟩
 rcases Nat.lt_or_ge n ts.length with hlt | hge
 . rw [Xat hlt] at h1
   rw [Xat (by rw [<-h.len];exact hlt)] at h2;exact h.at_ n v q h1 h2
 . have hn1:n<(ts++[t]).length:=(Xae.mp h1).1
   rw [Xac,Xau] at hn1
   have e':n=ts.length:=by omega
   subst e';rw [Xay (XaW _),Nat.sub_self] at h1;rw [Xay (by rw [h.len];exact XaW _),h.len,Nat.sub_self] at h2;cases h1;cases h2;exact e
theorem GT.dts {K:XFg}(h:GT H ts gs):IsDts K H (ts.map V.ref) (gs.map goD):=by
 obtain ⟨zs,z1,z2,z3⟩:=ZfN (K:=K) h.len h.at_;rw [<-z1,<-z2];exact ZfO zs z3
variable {k n:Nat}{g:TG}{te:TE}{σ:St}
theorem Zdj {caps:List Nat}{H1:Hp}{Q:Addr->Hp->Prop}{lo:Int}(Pv:Addr->Nat->List V->Hp->Prop)
 (h0:∀ D,H1 D=none->Pv D 0 [] (upd H1 D (.lst [])))
 (hs:∀ (D:Addr) (i:Nat) (ys:List V) (H2:Hp) (R:VK),H1 D=none->i<n->Pv D i ys H2->(∀ y H6,H6 D=some (.lst ys)->ys.length<sizeLine->Pv D (i+1) (ys++[y]) (upd H6 D (.lst (ys++[y])))->R y H6)->g (.int (lo+i)) (Zbe k caps σ) H2 fun σ4 H4=>te σ4 H4 R)
 (hd:∀ D ys H2,H1 D=none->Pv D n ys H2->Q D H2) :
 ∀ D,H1 D=none->∃ W:Nat->Nat->List V->Hp->Prop,(∃ m,W 0 m [] (upd H1 D (.lst [])))/\∀ i m ys H2,W i m ys H2 ->
  ((Itr lo n).stop i H2/\Q D H2)\/((Itr lo n).go i H2/\∀ x H3,(Itr lo n).yld i H2 x H3->g x (Zbe k caps σ) H3 fun σ4 H4=>tYes σ4 H4 fun b H5 =>
   if b=true then te σ4 H5 fun y H6=>H6 D=some (.lst ys)/\ys.length<sizeLine/\∃ m',m' < m/\W (i+1) m' (ys++[y]) (upd H6 D (.lst (ys++[y]))) else ∃ m',m' < m/\W (i+1) m' ys H5):=by
 intro D hD;refine ⟨fun i m ys H2=>m=n - i/\i<=n/\Pv D i ys H2,⟨n,rfl,Xa0 _,h0 D hD⟩,?_⟩;rintro i m ys H2 ⟨rfl,hi,p⟩
 by_cases hlt:i<n
 . refine .inr ⟨hlt,fun x H3 y=>?_⟩
   obtain ⟨rfl,rfl⟩:=y;refine hs D i ys H3 _ hD hlt p fun v H6 e6 hz p6=>?_;exact ⟨e6,hz,n - (i+1),by omega,rfl,hlt,p6⟩
 . have e:i=n:=by omega
   subst e;exact .inl ⟨XaW _,hd D ys H2 hD p⟩
structure Keeps (M:Addr->Prop) (H H':Hp):Prop where
 at_:∀ x o,H x=some o->¬M x->H' x=some o
 ls:∀ x o,M x->H x=some o->∃ xs,o=HO.lst xs
section
variable {K:XFg} {M:Addr->Prop} {H H':Hp}
theorem Keeps.refl (h:∀ x o,M x->H x=some o->∃ xs,o=HO.lst xs):Keeps M H H:=⟨fun _ _ e _=>e,h⟩
theorem Keeps.set (k:Keeps M H H') (hD:M D):Keeps M H (upd H' D o):=⟨fun x u e n=>by
 have hn:x≠D:=fun z=>n (by rw [z];exact hD)
 rw [Zal hn];exact k.at_ x u e n,k.ls⟩
theorem Keeps.one (hD:H D=some (.lst xs)):Keeps (·=D) H (upd H D o) :=
 ⟨fun x u e n=>by rw [Zal n];exact e,fun x u m e=>by rw [m,hD] at e;exact ⟨xs,(Xbc e).symm⟩⟩
theorem Keeps.same {H2:Hp} (k:Keeps M H H') (s:Same H' H2):Keeps M H H2:=⟨fun x o e n=>s _ _ (k.at_ x o e n),k.ls⟩
theorem Keeps.noT (k:Keeps M H H') (h:H a=some (.tup xs)):¬M a:=fun m=>by
 obtain ⟨_,e⟩:=k.ls _ _ m h;cases e
theorem Keeps.tup (k:Keeps M H H') {a:Addr} {xs:List V} (h:H a=some (.tup xs)):H' a=some (.tup xs):=k.at_ _ _ h (k.noT h)
theorem Keeps.tups (k:Keeps M H H') {ps:List (Str×Str)} (h:Tups H ts ps):Tups H' ts ps:=⟨h.len,fun n t p h1 h2=>k.tup (h.at_ n t p h1 h2)⟩
end
theorem Zfq {K:XFg}{caps:List Nat}{tc:TT}{H1:Hp}{Q:Addr->Hp->Prop} (Pv:Addr->Nat->List V->Hp->Prop)
 (h0:∀ D,H1 D=none->Pv D 0 [] (upd H1 D (.lst []))) (hq:∀ D i ys H2,Pv D i ys H2->SqL K H2 a xs)
 (hs:∀ D i x ys H2 (R:VK) (R0:Hp->Prop),H1 D=none->xs[i]?=some x->Pv D i ys H2->(∀ y H6,H6 D=some (.lst ys)->ys.length<sizeLine->Pv D (i+1) (ys++[y]) (upd H6 D (.lst (ys++[y])))->R y H6)->(∀ H5,Pv D (i+1) ys H5->R0 H5)->g x (Zbe k caps σ) H2 fun σ4 H4=>tc σ4 H4 fun b H5=>if b=true then te σ4 H5 R else R0 H5)
 (hd:∀ D ys H2,H1 D=none->Pv D xs.length ys H2->Q D H2) :
 ∀ D,H1 D=none->∃ W:Nat->Nat->List V->Hp->Prop,(∃ m,W 0 m [] (upd H1 D (.lst [])))/\∀ i m ys H2,W i m ys H2 ->
  ((Itl K a).stop i H2/\Q D H2)\/((Itl K a).go i H2/\∀ x H3,(Itl K a).yld i H2 x H3->g x (Zbe k caps σ) H3 fun σ4 H4=>tc σ4 H4 fun b H5 =>
   if b=true then te σ4 H5 fun y H6=>H6 D=some (.lst ys)/\ys.length<sizeLine/\∃ m',m' < m/\W (i+1) m' (ys++[y]) (upd H6 D (.lst (ys++[y]))) else ∃ m',m' < m/\W (i+1) m' ys H5):=by
 intro D hD;refine ⟨fun i m ys H2=>m=xs.length - i/\i<=xs.length/\Pv D i ys H2,⟨xs.length,rfl,Xa0 _,h0 D hD⟩,?_⟩;rintro i m ys H2 ⟨rfl,hi,p⟩;have q2:=hq D i ys H2 p
 by_cases hlt:i<xs.length
 . refine .inr ⟨⟨xs,xs[i],q2,by simp [hlt]⟩,fun x H3 y=>?_⟩
   obtain ⟨rfl,y⟩:=y;have hx:=y xs q2;refine hs D i x ys H3 _ _ hD hx p (fun v H6 e6 hz p6=>?_) (fun H5 p5=>?_)
   . exact ⟨e6,hz,xs.length - (i+1),by omega,rfl,hlt,p6⟩
   . exact ⟨xs.length - (i+1),by omega,rfl,hlt,p5⟩
 . have e:i=xs.length:=by omega
   subst e;exact .inl ⟨⟨xs,q2,XaW _⟩,hd D ys H2 hD p⟩
structure Tab (K:XFg) (F:Addr->Prop) (H:Hp) (t:Addr) (rs:List Stt) (n:Int) (ord:List (Str×Str)):Prop where
 ex:∃ (a o:Addr) (us:List Addr) (ts:List Addr),H t=some (.tup [.ref a,.int n,.ref o])/\F a/\F o/\a≠o/\H a=some (.lst (us.map V.ref))/\StRows K F H a us rs/\H o=some (.lst (ts.map V.ref))/\Tups H ts ord
theorem Tab.same {K:XFg}{F:Addr->Prop}{H H':Hp}{t:Addr}{rs:List Stt}{n:Int}{ord:List (Str×Str)} (s:Same H H') (h:Tab K F H t rs n ord):Tab K F H' t rs n ord:=by
 obtain ⟨a,o,us,ts,h1,h2,h3,h4,h5,h6,h7,h8⟩:=h.ex;exact ⟨a,o,us,ts,s _ _ h1,h2,h3,h4,s _ _ h5,h6.same s,s _ _ h7,h8.same s⟩
section
variable {X:Cx}
end
abbrev ansD:Option (Str×Int)->Dt
 | none=>.non
 | some p=>goD p
def Ans (K:XFg) (H:Hp) (a:Addr) (as:List (Option (Str×Int))):Prop:=∃ vs,SqL K H a vs/\IsDts K H vs (as.map ansD)
abbrev Qu:Type:=Int×Int×List Str
abbrev quD (q:Qu):Dt:=.tup [.int q.1,.int q.2.1,.tup (q.2.2.map Dt.str)]
section
variable {K:XFg} {H H':Hp} {a:Addr}
theorem Ans.same {as:List (Option (Str×Int))} (e:Same H H') (h:Ans K H a as):Ans K H' a as:=by
 obtain ⟨vs,h1,h2⟩:=h;exact ⟨vs,e.seq h1,h2.same e⟩
theorem ans_at {o:Option (Str×Int)} (h:IsDt K H v (ansD o)):(o=none/\v=.non)\/∃ p t,o=some p/\v=.ref t/\SqT K H t [.str p.1,.int p.2]:=by
 cases o with
 | none=>cases h;exact .inl ⟨rfl,rfl⟩
 | some p =>
   obtain ⟨t,e,sq⟩:=Zk6 h;exact .inr ⟨p,t,rfl,e,sq⟩
theorem Ans.get {as:List (Option (Str×Int))} (h:Ans K H a as) (hk:k<as.length):∃ vs v,SqL K H a vs/\vs[k]?=some v/\((as[k]?=some none/\v=.non)\/∃ p t,as[k]?=some (some p)/\v=.ref t/\SqT K H t [.str p.1,.int p.2]):=by
 obtain ⟨vs,h1,h2⟩:=h;have hs:=Xab hk;obtain ⟨v,hv,hd⟩:=h2.get' (i:=k) (d:=ansD as[k]) (by rw [Xag,hs];rfl);refine ⟨vs,v,h1,hv,?_⟩
 rcases ans_at hd with ⟨e1,e2⟩ | ⟨p,t,e1,e2,e3⟩
 . exact .inl ⟨by rw [hs,e1],e2⟩
 . exact .inr ⟨p,t,by rw [hs,e1],e2,e3⟩
theorem Goes.get (h:Goes K H a gs) (hk:gs[k]?=some p):∃ vs t,SqL K H a vs/\vs[k]?=some (.ref t)/\SqT K H t [.str p.1,.int p.2]:=by
 obtain ⟨vs,h1,h2⟩:=h;obtain ⟨v,hv,hd⟩:=h2.get' (i:=k) (d:=goD p) (by rw [Xag,hk];rfl);obtain ⟨t,rfl,sq⟩:=Zk6 hd;exact ⟨vs,t,h1,hv,sq⟩
end
structure QT (H:Hp) (ts:List Addr) (qs:List Qu):Prop where
 len:ts.length=qs.length
 at_:∀ (n:Nat) (t:Addr) (q:Qu),ts[n]?=some t->qs[n]?=some q->∃ u,H t=some (.tup [.int q.1,.int q.2.1,.ref u])/\H u=some (.tup (q.2.2.map V.str))
theorem QT.nil :QT H [] []:=⟨rfl,fun n t p h=>by simp at h⟩
variable {qs:List Qu}
theorem QT.same (e:Same H H') (h:QT H ts qs):QT H' ts qs:=⟨h.len,fun n t p h1 h2=>by
 obtain ⟨u,e1,e2⟩:=h.at_ n t p h1 h2
 exact ⟨u,e _ _ e1,e _ _ e2⟩⟩
theorem QT.snoc {t:Addr} {q:Qu} (h:QT H ts qs) (e:H t=some (.tup [.int q.1,.int q.2.1,.ref u])) (e2:H u=some (.tup (q.2.2.map V.str))):QT H (ts++[t]) (qs++[q]):=by
 refine ⟨by rw [Xac,Xac,h.len];rfl,fun n v q' h1 h2=>?_⟩
 rcases Nat.lt_or_ge n ts.length with hlt | hge
 . rw [Xat hlt] at h1
   rw [Xat (by rw [<-h.len];exact hlt)] at h2;exact h.at_ n v q' h1 h2
 . have hn1:n<(ts++[t]).length:=(Xae.mp h1).1
   rw [Xac,Xau] at hn1
   have e':n=ts.length:=by omega
   subst e';rw [Xay (XaW _),Nat.sub_self] at h1;rw [Xay (by rw [h.len];exact XaW _),h.len,Nat.sub_self] at h2;cases h1;cases h2;exact ⟨u,e,e2⟩
theorem QT.dts {K:XFg}(h:QT H ts qs):IsDts K H (ts.map V.ref) (qs.map quD):=by
 refine IsDts.of_get (by simpa using h.len) fun n v d e1 e2=>?_;rw [Xag] at e1 e2;obtain ⟨t,h1,rfl⟩:=XaV.mp e1;obtain ⟨q,h2,rfl⟩:=XaV.mp e2;obtain ⟨u,a1,a2⟩:=h.at_ n t q h1 h2;exact .tup (SqT.of a1) (.cons (.int _) (.cons (.int _) (.cons (.tup (SqT.of a2) (IsDts.strs _)) .nil)))
def Zb9 (ths:List (Str×Int)) (as:List (Option (Str×Int))) (q:Int):Str×Int:=match as[q.toNat]? with
 | some (some p)=>if p.1=("thing" : Str) then (match ths[p.2.toNat]? with
   | some k=>if k.1=("part" : Str) then ("to",k.2) else ("no",0)
   | none=>("no",0)) else ("no",0)
 | some none=>("open",q)
 | none=>("no",0)
def Za3 (ths:List (Str×Int)) (as:List (Option (Str×Int))) (p:Str×Int):Str×Int :=
 if p.1=("part" : Str) then ("to",p.2) else if p.1=("sort" : Str) then Zb9 ths as p.2 else ("no",0)
structure NetOk (ths:List (Str×Int)) (as:List (Option (Str×Int))):Prop where
 q:∀ p∈ths,p.1=("sort" : Str)->0<=p.2/\p.2<as.length
 t:∀ p,some p∈as->p.1=("thing" : Str)->0<=p.2/\p.2<ths.length
variable {ths:List (Str×Int)}{as:List (Option (Str×Int))}
theorem ZiN (h:as[n]?=some none):Zb9 ths as (n:Int)=(("open" : Str),(n:Int)):=by
 unfold Zb9;rw [Xa4,h]
theorem Zk9 (h:as[n]?=some (some p)) (hp:p.1≠("thing" : Str)):Zb9 ths as (n:Int)=(("no" : Str),0):=by
 unfold Zb9;rw [Xa4,h];exact Xbd hp
variable {m:Nat}
theorem ZiO {k:Str×Int} (h:as[n]?=some (some p)) (hp:p.1=("thing" : Str)) (hm:p.2=(m:Int)) (hk:ths[m]?=some k) (hk1:k.1=("part" : Str)):Zb9 ths as (n:Int)=(("to" : Str),k.2):=by
 unfold Zb9;rw [Xa4,h]
 show (if p.1=("thing" : Str) then _ else _)=_
 rw [Xbe hp,hm,Xa4,hk];exact Xbe hk1
theorem ZiP {k:Str×Int} (h:as[n]?=some (some p)) (hp:p.1=("thing" : Str)) (hm:p.2=(m:Int)) (hk:ths[m]?=some k) (hk1:k.1≠("part" : Str)):Zb9 ths as (n:Int)=(("no" : Str),0):=by
 unfold Zb9;rw [Xa4,h]
 show (if p.1=("thing" : Str) then _ else _)=_
 rw [Xbe hp,hm,Xa4,hk];exact Xbd hk1
variable {pos:Pos}{x:Str}
theorem ps_augR {X:Cx}{e:Expr}{op:Operator}{ti:R2}{pos':Pos} (hN:X.N.Nodup) (hi:X.N[i]?=some x) (hx:Loc X.env.scope x) (he:PE X e te) (ho:OpR X (inplaceOp op) ti) (hf:X.fn x=true\/X.env.scope.names.lookup x=some .local:=by first | exact .inl rfl | exact .inr rfl | assumption) :
 PS X (.AugAssign (.Name x pos') op e pos) (tAug i te ti):=ps_aug hN hi hx he ho hf
abbrev Stp:Type:=Str×Str×Int
abbrev stpV (p:Stp):List V:=[.str p.1,.str p.2.1,.int p.2.2]
abbrev Tlg:Type:=Str×Str×Str×Int
abbrev tlgV (p:Tlg):List V:=[.str p.1,.str p.2.1,.str p.2.2.1,.int p.2.2.2]
abbrev stpD (p:Stp):Dt:=.tup [.str p.1,.str p.2.1,.int p.2.2]
abbrev tlgD (p:Tlg):Dt:=.tup [.str p.1,.str p.2.1,.str p.2.2.1,.int p.2.2.2]
section
variable {α:Type} {f:α->List V} {H H':Hp} {ts:List Addr} {rs:List α}
structure RT (f:α->List V) (H:Hp) (ts:List Addr) (rs:List α):Prop where
 len:ts.length=rs.length
 at_:∀ (n:Nat) (t:Addr) (r:α),ts[n]?=some t->rs[n]?=some r->H t=some (.tup (f r))
theorem RT.nil:RT f H [] []:=⟨rfl,fun n t p h=>by simp at h⟩
theorem RT.same (e:Same H H') (h:RT f H ts rs):RT f H' ts rs:=⟨h.len,fun n t p h1 h2=>e _ _ (h.at_ n t p h1 h2)⟩
theorem RT.keeps {M:Addr->Prop} (k:Keeps M H H') (h:RT f H ts rs):RT f H' ts rs:=⟨h.len,fun n t p h1 h2=>k.tup (h.at_ n t p h1 h2)⟩
theorem RT.snoc {t:Addr}{r:α} (h:RT f H ts rs) (e:H t=some (.tup (f r))):RT f H (ts++[t]) (rs++[r]):=by
 refine ⟨by rw [Xac,Xac,h.len];rfl,fun n v q h1 h2=>?_⟩
 rcases Nat.lt_or_ge n ts.length with hlt | hge
 . rw [Xat hlt] at h1
   rw [Xat (by rw [<-h.len];exact hlt)] at h2;exact h.at_ n v q h1 h2
 . have hn1:n<(ts++[t]).length:=(Xae.mp h1).1
   rw [Xac,Xau] at hn1
   have e':n=ts.length:=by omega
   subst e';rw [Xay (XaW _),Nat.sub_self] at h1;rw [Xay (by rw [h.len];exact XaW _),h.len,Nat.sub_self] at h2;cases h1;cases h2;exact e
theorem RT.dts {K:XFg}{g:α->Dt} (hg:∀ (r:α) (t:Addr),H t=some (.tup (f r))->IsDt K H (.ref t) (g r)) (h:RT f H ts rs):IsDts K H (ts.map V.ref) (rs.map g):=by
 refine IsDts.of_get (by simpa using h.len) fun n v d e1 e2=>?_;rw [Xag] at e1 e2;obtain ⟨t,h1,rfl⟩:=XaV.mp e1;obtain ⟨q,h2,rfl⟩:=XaV.mp e2;exact hg q t (h.at_ n t q h1 h2)
end
theorem stp_dt {K:XFg}(r:Stp) (t:Addr) (h:H t=some (.tup (stpV r))):IsDt K H (.ref t) (stpD r):=.tup (SqT.of h) (.cons (.str _) (.cons (.str _) (.cons (.int _) .nil)))
theorem tlg_dt {K:XFg}(r:Tlg) (t:Addr) (h:H t=some (.tup (tlgV r))):IsDt K H (.ref t) (tlgD r):=.tup (SqT.of h) (.cons (.str _) (.cons (.str _) (.cons (.str _) (.cons (.int _) .nil))))
abbrev Sco:Type:=List Stp×List Tlg
abbrev scoD (s:Sco):Dt:=.tup [.lst (s.1.map stpD),.lst (s.2.map tlgD)]
structure ScH (H:Hp) (u G E:Addr) (s:Sco):Prop where
 u:H u=some (.tup [.ref G,.ref E])
 g:∃ ts:List Addr,H G=some (.lst (ts.map V.ref))/\RT stpV H ts s.1
 e:∃ ts:List Addr,H E=some (.lst (ts.map V.ref))/\RT tlgV H ts s.2
theorem ScH.same {H H':Hp}{u G E:Addr}{s:Sco} (e:Same H H') (h:ScH H u G E s):ScH H' u G E s:=by
 obtain ⟨a,⟨ts,b1,b2⟩,⟨us,c1,c2⟩⟩:=h;exact ⟨e _ _ a,⟨ts,e _ _ b1,b2.same e⟩,⟨us,e _ _ c1,c2.same e⟩⟩
theorem ScH.keeps {M:Addr->Prop}{H H':Hp}{u G E:Addr}{s:Sco} (k:Keeps M H H') (hG:¬M G) (hE:¬M E) (h:ScH H u G E s):ScH H' u G E s:=by
 obtain ⟨a,⟨ts,b1,b2⟩,⟨us,c1,c2⟩⟩:=h;exact ⟨k.tup a,⟨ts,k.at_ _ _ b1 hG,b2.keeps k⟩,⟨us,k.at_ _ _ c1 hE,c2.keeps k⟩⟩
variable {s:Sco}
theorem ScH.dt {K:XFg}(h:ScH H u G E s):IsDt K H (.ref u) (scoD s):=by
 obtain ⟨a,⟨ts,b1,b2⟩,⟨us,c1,c2⟩⟩:=h;exact .tup (SqT.of a) (.cons (.lst (SqL.of b1) (b2.dts stp_dt)) (.cons (.lst (SqL.of c1) (c2.dts tlg_dt)) .nil))
structure Scs (H:Hp) (D:Addr) (us Gs Es:List Addr) (ss:List Sco):Prop where
 top:H D=some (.lst (us.map V.ref))
 lu:us.length=ss.length
 lg:Gs.length=ss.length
 le:Es.length=ss.length
 at_:∀ (i:Nat) (u G E:Addr) (s:Sco),us[i]?=some u->Gs[i]?=some G->Es[i]?=some E->ss[i]?=some s->ScH H u G E s
theorem Scs.same {H H':Hp}{D:Addr}{us Gs Es:List Addr}{ss:List Sco} (e:Same H H') (h:Scs H D us Gs Es ss):Scs H' D us Gs Es ss :=
 ⟨e _ _ h.top,h.lu,h.lg,h.le,fun i u G E s h1 h2 h3 h4=>(h.at_ i u G E s h1 h2 h3 h4).same e⟩
variable {Gs Es:List Addr}{ss:List Sco}
theorem Scs.get (h:Scs H D us Gs Es ss) (hi:i<ss.length) :
 ∃ u G E,us[i]?=some u/\Gs[i]?=some G/\Es[i]?=some E/\ss[i]?=some ss[i]/\ScH H u G E ss[i]:=by
 have h1:us[i]?=some (us[i]'(by rw [h.lu];exact hi)):=Xab _;have h2:Gs[i]?=some (Gs[i]'(by rw [h.lg];exact hi)):=Xab _;have h3:Es[i]?=some (Es[i]'(by rw [h.le];exact hi)):=Xab _;exact ⟨_,_,_,h1,h2,h3,Xab hi,h.at_ i _ _ _ _ h1 h2 h3 (Xab hi)⟩
theorem Scs.dts {K:XFg}(h:Scs H D us Gs Es ss):IsDts K H (us.map V.ref) (ss.map scoD):=by
 refine IsDts.of_get (by simpa using h.lu) fun n v d e1 e2=>?_;rw [Xag] at e1 e2;obtain ⟨u,h1,rfl⟩:=XaV.mp e1;obtain ⟨s,h2,rfl⟩:=XaV.mp e2;have hn:n<ss.length:=(Xae.mp h2).1;obtain ⟨u',G,E,g1,g2,g3,g4,g5⟩:=h.get hn;rw [h1] at g1;cases g1;rw [h2] at g4;rw [Xbc g4];exact g5.dt
theorem Scs.step (h:Scs H D us Gs Es ss) (nd:(D :: (Gs++Es)).Nodup) {t:Addr} {p:Stp} (hi:i<ss.length) (hG:Gs[i]?=some G) (eG:H G=some (.lst (ts.map V.ref))) (T:RT stpV H ts ss[i].1) (et:H t=some (.tup (stpV p))) :
 Scs (upd H G (.lst (ts.map V.ref++[.ref t]))) D us Gs Es (ss.set i (ss[i].1++[p],ss[i].2)):=by
 have k:Keeps (·=G) H (upd H G (.lst (ts.map V.ref++[.ref t]))):=Keeps.one eG;obtain ⟨nD,nd2⟩:=XaC.mp nd;obtain ⟨ng,ne,nge⟩:=List.nodup_append.mp nd2;have mG:G∈Gs:=Xah hG;refine ⟨k.at_ _ _ h.top fun z=>nD (z ▸ XaA _ mG),by rw [XaD];exact h.lu,by rw [XaD];exact h.lg,by rw [XaD];exact h.le,fun j u G' E s h1 h2 h3 h4=>?_⟩;have hE:E≠G:=fun z=>nge G mG E (Xah h3) z.symm
 by_cases e:i=j
 . subst e
   rw [hG] at h2;cases h2;rw [List.getElem?_set_self hi] at h4;cases h4;obtain ⟨a,_,⟨es,c1,c2⟩⟩:=h.at_ i u G E _ h1 hG h3 (Xab hi);exact ⟨k.tup a,⟨ts++[t],by rw [upd_same,Xad];rfl,(T.keeps k).snoc (k.tup et)⟩,⟨es,k.at_ _ _ c1 hE,c2.keeps k⟩⟩
 . rw [List.getElem?_set_ne e] at h4
   have hG':G'≠G:=fun z=>by
    subst z;obtain ⟨q1,e1⟩:=Xae.mp h2;obtain ⟨q2,e2⟩:=Xae.mp hG;exact e ((List.getElem_inj ng).mp (e2.trans e1.symm))
   exact (h.at_ j u G' E s h1 h2 h3 h4).keeps k hG' hE
theorem Scs.alive (h:Scs H D us Gs Es ss):∀ x∈Gs++Es,∃ xs,H x=some (.lst xs):=fun x hx=>by
 rcases Xaf.mp hx with hx | hx
 . obtain ⟨j,hj⟩:=List.getElem?_of_mem hx
   have hjl:j<ss.length:=by rw [<-h.lg];exact (Xae.mp hj).1
   obtain ⟨u',G',E',g1,g2,g3,g4,⟨_,⟨ts',b1,_⟩,_⟩⟩:=h.get hjl;rw [hj] at g2;cases g2;exact ⟨_,b1⟩
 . obtain ⟨j,hj⟩:=List.getElem?_of_mem hx
   have hjl:j<ss.length:=by rw [<-h.le];exact (Xae.mp hj).1
   obtain ⟨u',G',E',g1,g2,g3,g4,⟨_,_,⟨ts',b1,_⟩⟩⟩:=h.get hjl;rw [hj] at g3;cases g3;exact ⟨_,b1⟩
theorem Scs.nil (h:H D=some (.lst [])):Scs H D [] [] [] []:=⟨h,rfl,rfl,rfl,fun i u G E s h1=>by simp at h1⟩
theorem Scs.snoc (h:Scs H D us Gs Es ss) (hs:ScH H u G E s) (hG:G≠D) (hE:E≠D) (hD:∀ x∈Gs++Es,x≠D) :
 Scs (upd H D (.lst (us.map V.ref++[.ref u]))) D (us++[u]) (Gs++[G]) (Es++[E]) (ss++[s]):=by
 have k:Keeps (·=D) H (upd H D (.lst (us.map V.ref++[.ref u]))):=Keeps.one h.top;refine ⟨by rw [upd_same,Xad];rfl,by simp [h.lu],by simp [h.lg],by simp [h.le],fun i u' G' E' s' h1 h2 h3 h4=>?_⟩
 rcases Nat.lt_or_ge i ss.length with hlt | hge
 . rw [Xat (by rw [h.lu];exact hlt)] at h1
   rw [Xat (by rw [h.lg];exact hlt)] at h2;rw [Xat (by rw [h.le];exact hlt)] at h3;rw [Xat hlt] at h4;exact (h.at_ i u' G' E' s' h1 h2 h3 h4).keeps k (hD _ (XaA _ (Xah h2))) (hD _ (Xan _ (Xah h3)))
 . have hn1:i<(ss++[s]).length:=(Xae.mp h4).1
   rw [Xac,Xau] at hn1
   have e':i=ss.length:=by omega
   subst e';rw [Xay (by rw [h.lu];exact XaW _),h.lu,Nat.sub_self] at h1;rw [Xay (by rw [h.lg];exact XaW _),h.lg,Nat.sub_self] at h2;rw [Xay (by rw [h.le];exact XaW _),h.le,Nat.sub_self] at h3;rw [Xay (XaW _),Nat.sub_self] at h4;cases h1;cases h2;cases h3;cases h4;exact hs.keeps k hG hE
theorem Zla (nd:(D :: (Gs++Es)).Nodup) (h1:G ∉ D :: (Gs++Es)) (h2:E ∉ D :: (Gs++Es)) (h3:G≠E):(D :: ((Gs++[G])++(Es++[E]))).Nodup:=by
 have p:(D :: ((Gs++[G])++(Es++[E]))).Perm (G :: E :: (D :: (Gs++Es))):=by
  have p1:(D :: ((Gs++[G])++(Es++[E]))).Perm (E :: (D :: ((Gs++[G])++Es))):=by
   have:(D :: ((Gs++[G])++(Es++[E])))=(D :: ((Gs++[G])++Es))++[E]:=by simp
   rw [this];exact List.perm_append_singleton _ _
  have p2:(D :: ((Gs++[G])++Es)).Perm (G :: (D :: (Gs++Es))):=by
   have:(D :: ((Gs++[G])++Es))=(D :: Gs)++G :: Es:=by simp
   rw [this];exact List.perm_middle
  exact (p1.trans (p2.cons E)).trans (List.Perm.swap _ _ _)
 rw [p.nodup_iff,XaC,XaC];refine ⟨fun z=>?_,h2,nd⟩
 rcases Xam.mp z with z | z
 . exact h3 z
 . exact h1 z
def ZbG (ths:List (Str×Int)) (as:List (Option (Str×Int))) (p:Stp):Str×Int :=
 if p.2.1=("to" : Str) then ("to",p.2.2) else match as[p.2.2.toNat]? with
 | some (some w)=>if w.1=("thing" : Str) then (match ths[w.2.toNat]? with
   | some k=>Za3 ths as k
   | none=>("no",0)) else ("no",0)
 | some none=>("open",p.2.2)
 | none=>("no",0)
theorem Zc3 {p:Stp} (h:p.2.1=("to" : Str)):ZbG ths as p=(("to" : Str),p.2.2):=Xbe h
theorem ZiQ {p:Stp} (h:p.2.1≠("to" : Str)) (hn:p.2.2=(n:Int)) (ha:as[n]?=some none):ZbG ths as p=(("open" : Str),p.2.2):=by
 unfold ZbG;rw [Xbd h,hn,Xa4,ha]
theorem Zlb {p:Stp} {w:Str×Int} (h:p.2.1≠("to" : Str)) (hn:p.2.2=(n:Int)) (ha:as[n]?=some (some w)) (hw:w.1≠("thing" : Str)):ZbG ths as p=(("no" : Str),0):=by
 unfold ZbG;rw [Xbd h,hn,Xa4,ha];exact Xbd hw
theorem Zlc {p:Stp} {w k:Str×Int} (h:p.2.1≠("to" : Str)) (hn:p.2.2=(n:Int)) (ha:as[n]?=some (some w)) (hw:w.1=("thing" : Str)) (hm:w.2=(m:Int)) (hk:ths[m]?=some k):ZbG ths as p=Za3 ths as k:=by
 unfold ZbG;rw [Xbd h,hn,Xa4,ha]
 show (if w.1=("thing" : Str) then _ else _)=_
 rw [Xbe hw,hm,Xa4,hk]
section
variable {X:Cx}
end
def thOk (s q:Int) (p:Str×Int):Prop:=(p.1=("plain" : Str)/\p.2=0)\/(p.1=("part" : Str)/\0<=p.2/\p.2<s)\/(p.1=("sort" : Str)/\0<=p.2/\p.2<q)
def stOk (s q:Int) (p:Stp):Prop:=(p.2.1=("to" : Str)/\0<=p.2.2/\p.2.2<s)\/(p.2.1=("by" : Str)/\0<=p.2.2/\p.2.2<q)
def tlOk (t q:Int) (p:Tlg):Prop:=(p.2.2.1=("thing" : Str)/\0<=p.2.2.2/\p.2.2.2<t)\/(p.2.2.1=("by" : Str)/\0<=p.2.2.2/\p.2.2.2<q)
structure Net3 (H:Hp) (S T R:Addr) (us Gs Es ts qt:List Addr) (ss:List Sco) (gs:List (Str×Int)) (qs:List Qu):Prop where
 sc:Scs H S us Gs Es ss
 et:H T=some (.lst (ts.map V.ref))
 tg:GT H ts gs
 er:H R=some (.lst (qt.map V.ref))
 tq:QT H qt qs
theorem Net3.same {H H':Hp}{S T R:Addr}{us Gs Es ts qt:List Addr}{ss:List Sco}{gs:List (Str×Int)} {qs:List Qu} (e:Same H H') (h:Net3 H S T R us Gs Es ts qt ss gs qs):Net3 H' S T R us Gs Es ts qt ss gs qs :=
 ⟨h.sc.same e,e _ _ h.et,h.tg.same e,e _ _ h.er,h.tq.same e⟩
abbrev netD (ss:List Sco) (gs:List (Str×Int)) (qs:List Qu):Dt:=.tup [.lst (ss.map scoD),.lst (gs.map goD),.lst (qs.map quD)]
theorem Net3.dt {K:XFg}{nt S T R:Addr}{qt:List Addr} (h:Net3 H S T R us Gs Es ts qt ss gs qs) (e:H nt=some (.tup [.ref S,.ref T,.ref R])):IsDt K H (.ref nt) (netD ss gs qs) :=
 .tup (SqT.of e) (.cons (.lst (SqL.of h.sc.top) h.sc.dts) (.cons (.lst (SqL.of h.et) h.tg.dts) (.cons (.lst (SqL.of h.er) h.tq.dts) .nil)))
theorem cmp_sco (s r:Sco):Cmp 4 (scoD s) (scoD r):=by
 refine .tup (.cons (.lst (Cmps.of fun d hd e he=>?_)) (.cons (.lst (Cmps.of fun d hd e he=>?_)) (.nil _)))
 . obtain ⟨p,_,rfl⟩:=Xai.mp hd
   obtain ⟨q,_,rfl⟩:=Xai.mp he;exact .tup (.cons (.str _ _) (.cons (.str _ _) (.cons (.int _ _) (.nil _))))
 . obtain ⟨p,_,rfl⟩:=Xai.mp hd
   obtain ⟨q,_,rfl⟩:=Xai.mp he;exact .tup (.cons (.str _ _) (.cons (.str _ _) (.cons (.str _ _) (.cons (.int _ _) (.nil _)))))
theorem cmp_net (ss ss':List Sco) (gs gs':List (Str×Int)) (qs qs':List Qu):Cmp 6 (netD ss gs qs) (netD ss' gs' qs'):=by
 refine .tup (.cons (.lst (Cmps.of fun d hd e he=>?_)) (.cons (.lst (Cmps.of fun d hd e he=>?_)) (.cons (.lst (Cmps.of fun d hd e he=>?_)) (.nil _))))
 . obtain ⟨p,_,rfl⟩:=Xai.mp hd
   obtain ⟨q,_,rfl⟩:=Xai.mp he;exact cmp_sco p q
 . obtain ⟨p,_,rfl⟩:=Xai.mp hd
   obtain ⟨q,_,rfl⟩:=Xai.mp he;exact .tup (.cons (.str _ _) (.cons (.int _ _) (.nil _)))
 . obtain ⟨p,_,rfl⟩:=Xai.mp hd
   obtain ⟨q,_,rfl⟩:=Xai.mp he;refine .tup (.cons (.int _ _) (.cons (.int _ _) (.cons (.tup (Cmps.of fun d hd e he=>?_)) (.nil _))));obtain ⟨p,_,rfl⟩:=Xai.mp hd;obtain ⟨q,_,rfl⟩:=Xai.mp he;exact .str _ _
abbrev rListOf (K:XFg):List V->Hp->VK->Prop:=fun xs H Q=>∃ p ys,xs=[V.ref p]/\(SqL K H p ys\/SqT K H p ys)/\∀ l,H l=none->Q (V.ref l) (upd H l (HO.lst ys))
theorem Scs.tell (h:Scs H D us Gs Es ss) (nd:(D :: (Gs++Es)).Nodup) {t:Addr} {p:Tlg} (hi:i<ss.length) (hE:Es[i]?=some E) (eE:H E=some (.lst (ts.map V.ref))) (T:RT tlgV H ts ss[i].2) (et:H t=some (.tup (tlgV p))) :
 Scs (upd H E (.lst (ts.map V.ref++[.ref t]))) D us Gs Es (ss.set i (ss[i].1,ss[i].2++[p])):=by
 have k:Keeps (·=E) H (upd H E (.lst (ts.map V.ref++[.ref t]))):=Keeps.one eE;obtain ⟨nD,nd2⟩:=XaC.mp nd;obtain ⟨ng,ne,nge⟩:=List.nodup_append.mp nd2;have mE:E∈Es:=Xah hE;refine ⟨k.at_ _ _ h.top fun z=>nD (z ▸ Xan _ mE),by rw [XaD];exact h.lu,by rw [XaD];exact h.lg,by rw [XaD];exact h.le,fun j u G E' s h1 h2 h3 h4=>?_⟩;have hG:G≠E:=fun z=>nge G (Xah h2) E mE z
 by_cases e:i=j
 . subst e
   rw [hE] at h3;cases h3;rw [List.getElem?_set_self hi] at h4;cases h4;obtain ⟨a,⟨gts,c1,c2⟩,_⟩:=h.at_ i u G E _ h1 h2 hE (Xab hi);exact ⟨k.tup a,⟨gts,k.at_ _ _ c1 hG,c2.keeps k⟩,⟨ts++[t],by rw [upd_same,Xad];rfl,(T.keeps k).snoc (k.tup et)⟩⟩
 . rw [List.getElem?_set_ne e] at h4
   have hE':E'≠E:=fun z=>by
    subst z;obtain ⟨q1,e1⟩:=Xae.mp h3;obtain ⟨q2,e2⟩:=Xae.mp hE;exact e ((List.getElem_inj ne).mp (e2.trans e1.symm))
   exact (h.at_ j u G E' s h1 h2 h3 h4).keeps k hG hE'
def Ite (K:XFg) (l:Addr):It :=
 ⟨fun i H=>∃ xs x,SqL K H l xs/\xs[i]?=some x,
  fun i H v H'=>∃ T x,H T=none/\v=.ref T/\H'=upd H T (.tup [.int i,x])/\∀ xs,SqL K H l xs->xs[i]?=some x,
  fun i H=>∃ xs,SqL K H l xs/\xs.length<=i⟩
def EnumSt (e it l:Addr) (i:Nat) (h:Heap):Prop:=(∃ old,IsEnum h e it i old)/\h.IsListIter it l i
variable {w:World}{l:Addr}
theorem ZjJ {P:Program}{K:XFg}{es:List Expr}{e it:Addr} (hei:e≠it) :
 Turn P w K (.Tuple es k pos) (Ite K l) [e,it] e (EnumSt e it l) where
 mem:=by simp
 obj:=fun i h st b hb=>by
  obtain ⟨⟨old,he⟩,⟨o1,e1,c1,d1⟩⟩:=st;simp at hb
  rcases hb with rfl | rfl
  . exact ⟨_,he,fun v q=>by cases q⟩
  . exact ⟨_,e1,fun v q=>by rw [d1] at q;cases q⟩
 keep:=fun i h h' st kk=>by
  obtain ⟨⟨old,he⟩,h1⟩:=st;exact ⟨⟨old,kk e (by simp) _ he⟩,h1.at fun o x=>kk it (by simp) o x⟩
 item := by
  intro X hP hw hK hc i pins s σ H E I hf st hg;subst hP hw hK;obtain ⟨xs,x,hq1,hx⟩:=hg;obtain ⟨⟨old,he⟩,h1⟩:=st;obtain ⟨its1,rv1,p1,hz1⟩:=I.list hq1;obtain ⟨u1,hu1,ru1⟩:=rv1.get hx;refine wpAny_pyNext_enum_item he h1 p1.isList (x:=u1) (by simpa using hu1) hei fun h' a1 a2 a3 a4 hk=>?_;refine ⟨_,rfl,wpAny_letOwnedTupleGo_enum (s:={ s with heap:=h',toks:=s.toks+1 }) a1 fun h'' hz'' hs''=>?_⟩;have fe:=hf e (by simp);have fi:=hf it (by simp);have trk:∀ b u,H b=some u->b≠e/\b≠it:=fun b u z=>⟨Zad z fe.1,Zad z fi.1⟩;have keep:∀ b o,b≠e->b≠it->s.heap.get? b=some o->h''.get? b=some o:=fun b o n1 n2 z=>(hs''.2 b n1).trans (hk b o n1 n2 z)
  have nch:∀ {b:Addr},b ∉ [e,it]->b≠e/\b≠it:=fun {b} hb=>by simpa using hb
  have I1:Inv X pins σ H { s with heap:=h'',toks:=s.toks+1 }:=by
   refine I.step (g':=s.gens) (t':=s.toks+1) (d':=s.drawn) (h':=h'') (ch:=[e,it]) (fun b hb=>?_) (fun b ob _ _ hb z _=>keep b ob (nch hb).1 (nch hb).2 z) (fun b ob _ _ hb z _=>⟨ob.slots,keep b ob (nch hb).1 (nch hb).2 z⟩)
    (fun _ _ _ _ n=>n) (fun b ob hb z=>⟨ob,keep b ob (nch hb).1 (nch hb).2 z⟩) (fun _ _ z=>z) (fun _ _ _ z=>z) (fun b ps z=>⟨#[],by rw [z];simp⟩) (fun m hm=>?_) (fun b u z=>?_) I.bare
   . have:b=e\/b=it:=by simpa using hb
     rcases this with rfl | rfl
     . exact ⟨fe.2.2.2.1,fe.2.1,fe.2.2.2.2.1,fe.2.2.2.2.2⟩
     . exact ⟨fi.2.2.2.1,fi.2.1,fi.2.2.2.2.1,fi.2.2.2.2.2⟩
   . obtain ⟨o,es,ep,ho,r⟩:=hm
     exact ⟨o,es,ep,keep _ o (Ne.symm fe.2.1) (Ne.symm fi.2.1) ho,r⟩
   . refine (I.hok b u z).stay (fun c v hc q=>?_) (fun _ q=>q) fun _ _ q=>q
     have hc':∃ u',H c=some u':=by
      rcases hc with rfl | hc
      . exact ⟨_,z⟩
      . exact ⟨_,hc⟩
     obtain ⟨u',e'⟩:=hc';obtain ⟨n1,n2⟩:=trk c u' e';exact keep c v n1 n2 q
  have hTz:s.heap.objs.size≠e:=Nat.ne_of_gt (Xbp he);have hT0:H s.heap.objs.size=none:=I.hok.fresh (XaW _)
  have hTget:h''.get? s.heap.objs.size=some { cls:=.type "tuple",data:=.seq #[.int i s.toks,u1] }:=(hs''.2 _ hTz).trans a3
  have I2:Inv X pins σ (upd H s.heap.objs.size (.tup [.int i,x])) { s with heap:=h'',toks:=s.toks+1 }:=by
   refine I1.track (I.fpOk (XaW _) hT0) ⟨_,hTget⟩ ?_;exact ⟨by show 2<=sizeLine;decide,[.int i s.toks,u1],.cons ⟨_,rfl⟩ (.cons ru1 .nil),⟨_,hTget,rfl,_,rfl⟩⟩
  refine ⟨.ref s.heap.objs.size,_,I2,rfl,⟨s.heap.objs.size,x,hT0,rfl,rfl,fun zs hzs=>by rw [I.list_inj hzs hq1];exact hx⟩,?_,fun b hb=>?_⟩
  . refine ⟨⟨u1,by simpa using hz''⟩,a2.extBut hs''.extBut (Ne.symm hei)⟩
  . have hb':=(hf b hb).1
    rw [Zal (fun q=>?_)]
    . exact hb'
    . have hb2:b=e\/b=it:=by simpa using hb
      obtain ⟨o1,e1,_⟩:=h1
      have lt:b<s.heap.objs.size:=by
       rcases hb2 with rfl | rfl
       . exact Xbp he
       . exact Xbp e1
      rw [q] at lt;exact absurd lt (XaX _)
 done:=by
  intro X hP hw hK hc i pins s σ H E I hf st hg;subst hP hw hK;obtain ⟨xs,hq1,hend⟩:=hg;obtain ⟨⟨old,he⟩,h1⟩:=st;obtain ⟨its1,rv1,p1,hz1⟩:=I.list hq1;have l1':=rv1.length;obtain ⟨f0,f1,f2,f3,f4,f5⟩:=hf it (by simp);exact wpAny_pyNext_enum_end (I.ok.hd hc) he h1 p1.isList (by simp;omega) fun h' eb=>⟨rfl,I.turned (t':=s.toks) (fun b o hb z=>eb b o hb z) f0 f1 f3 f4 f5⟩
 self:=fun _ _ _ _ _ st h=>by
  obtain ⟨⟨old,he⟩,_⟩:=st;exact wpAny_pyIter_enum he h
def iEnum (K:XFg) (ta:TA):TI:=fun σ H R=>ta σ H fun vs H1=>∃ l,vs=[.ref l]/\(∃ xs,H1 l=some (.lst xs))/\R (Ite K l) H1
theorem ZfP {X:Cx}{es:List Expr}{tpos:Pos}{a:Expr}{ta:TA}{p:Pos} (hg:Gl X "enumerate") (hm:X.mg "enumerate" = none) (ha:PA X [a] ta) (hs:starEach [a] X.env=[(false,eval a X.env)]:=by rfl) :
 PI X (.Tuple es k tpos) (.Call (.Name "enumerate" p) [a] [] pos) (iEnum X.K ta):=by
 intro pins s σ H R I h
 refine Call_ (Zc9 I hg hm (u:=.type "enumerate") (by decide +kernel) (PyProof.Rows.callWith_type1 (thn (ha pos pins s σ H _ I h) fun us s1 ⟨vs,H1,I1,r1,q1⟩=>?_) (by rw [hs];rfl) (by rfl)))
 obtain ⟨l,rfl,⟨xs,hq⟩,q⟩:=q1;obtain ⟨u1,rfl,ru1⟩:=Zdh r1;obtain rfl:u1=Value.ref l:=ru1;obtain ⟨z,its,n,rv,e⟩:=I1.hok l _ hq;have a1:l<s1.heap.objs.size:=Xbp e;refine call_enumerate_1 e fun h' he hi hsz hk=>?_;refine wpAny_pyIter_enum (s:={ s1 with heap:=h' }) he ?_;refine ⟨_,[s1.heap.objs.size+1,s1.heap.objs.size],_,_,H1,rfl,I1.kept (t':=s1.toks) hk,ZjJ (Nat.succ_ne_self _),⟨⟨_,he⟩,hi⟩,fun b hb=>?_,q⟩
 have hb':s1.heap.objs.size<=b:=by
  have hb2:b=s1.heap.objs.size+1\/b=s1.heap.objs.size:=by simpa using hb
  rcases hb2 with rfl | rfl
  . exact Nat.le_add_right _ _
  . exact XaW _
 exact I1.fpOk hb' (I1.hok.fresh hb')
theorem Zee {K:XFg}{tb:TS}{D:Ends}(Pv:Nat->St->Hp->Prop) (h0:Pv 0 σ H) (hl:∀ i σ H,Pv i σ H->SqL K H l xs)
 (hs:∀ i x T σ H,xs[i]?=some x->H T=none->Pv i σ H->g (.ref T) σ (upd H T (.tup [.int i,x])) fun σ2 H2=>tb { D with nx:=Pv (i+1),ct:=Pv (i+1),bk:=D.nx } σ2 H2) (hd:∀ σ H,Pv xs.length σ H->D.nx σ H) :
 ∃ W:Nat->Nat->St->Hp->Prop,(∃ m,W 0 m σ H)/\∀ i m σ H,W i m σ H ->
  ((Ite K l).stop i H/\D.nx σ H)\/((Ite K l).go i H/\∃ N:St->Hp->Prop,(∀ σ' H',N σ' H'->∃ m',m' < m/\W (i+1) m' σ' H')/\∀ x H',(Ite K l).yld i H x H'->g x σ H' fun σ2 H2=>tb { D with nx:=N,ct:=N,bk:=D.nx } σ2 H2):=by
 refine ⟨fun i m σ H=>m=xs.length - i/\i<=xs.length/\Pv i σ H,⟨_,rfl,Xa0 _,h0⟩,?_⟩;rintro i m σ H ⟨rfl,hi,p⟩;have q1:=hl i σ H p
 by_cases hlt:i<xs.length
 . refine .inr ⟨⟨xs,xs[i],q1,by simp [hlt]⟩,Pv (i+1),fun σ' H' p'=>⟨xs.length - (i+1),by omega,rfl,hlt,p'⟩,fun v H' y=>?_⟩
   obtain ⟨T,x,hT,rfl,rfl,e1⟩:=y;exact hs i x T σ H (e1 xs q1) hT p
 . have e:i=xs.length:=by omega
   refine .inl ⟨⟨xs,q1,by omega⟩,?_⟩;rw [e] at p;exact hd σ H p
open PySem.SeqAt
open PySem.AutoSeq1 (wpAny_loadPart')
open PySem.MeetsSeq PySem.MeetsSeq2 PySem.MeetsSeq3
def RcLtAt (A:Around) (s:Shared) (x y:Value) (b:Bool):Prop :=
 ∀ (prog:Program) (w:World) (E:Value->Shared->Prop) (Q:Value->Shared->Prop),Q (.bool b) s->wpAny (model prog w) A (richCompare .Lt x y) Q E s
inductive LexAt (A:Around) (s:Shared):List Value->List Value->Bool->Prop where
 | nil:LexAt A s [] [] false
 | lt (w:Value) (ws:List Value):LexAt A s [] (w :: ws) true
 | gt (v:Value) (vs:List Value):LexAt A s (v :: vs) [] false
 | eq {v w:Value} {vs ws:List Value} {b:Bool} (h:EqAt A s v w true) (t:LexAt A s vs ws b):LexAt A s (v :: vs) (w :: ws) b
 | ne {v w:Value} {vs ws:List Value} {b:Bool} (h:EqAt A s v w false) (l:RcLtAt A s v w b):LexAt A s (v :: vs) (w :: ws) b
theorem ZiR (l b:Addr) (items items2:Array Value) (n n2:Nat) (dd dd2:Option Addr) (sl sl2:Array (Option Value)) (c:Bool) :
 Meets (Builtin.«tuple.__lt__» ⟨[.ref l,.ref b],[]⟩)
  (fun A R s=>s.heap.get? l=some { cls:=.type "tuple",dict:=dd,data:=.seq items n,slots:=sl }/\s.heap.get? b=some { cls:=.type "tuple",dict:=dd2,data:=.seq items2 n2,slots:=sl2 } /\
   LexAt A.in1 s items.toList items2.toList c/\R (.ok (.ret (.bool c))) s) :=
 .of_wp fun prog w A R s h=>by
  obtain ⟨hp,g,d,tk,os⟩:=s;obtain ⟨hl,hb,hx,h⟩:=h;have f2:=AutoSeq1.sub_tuple_tuple
  wp_walk using wpAny_loadPart' hl,wpAny_loadPart' hb,wpAny_forIn_list _ (fun rest b s'=>b.1=none/\s'=⟨hp,g,d,tk,os⟩/\∃ (vs ws:List Value),rest=vs.zip ws /\
   LexAt A.in1 ⟨hp,g,d,tk,os⟩ vs ws c/\vs.length+items2.size=ws.length+items.size) _
  case turn =>
   rintro ⟨y,x⟩ rest b s' ⟨hb',rfl,vs,ws,hz,hvi,hlen⟩
   cases hvi with
   | nil=>rw [List.zip_nil_left] at hz;cases hz
   | lt=>rw [List.zip_nil_left] at hz;cases hz
   | gt=>rw [List.zip_nil_right] at hz;cases hz
   | eq he ht =>
     rw [List.zip_cons_cons] at hz
     injection hz with hyx hrest
     injection hyx with hy hx
     subst hy hx;simp only [XaB] at hlen;refine Xbk (he prog w _ _ ?_)
     wp_walk
     exact ⟨rfl,rfl,_,_,hrest,ht,by omega⟩
   | ne he hL =>
     rw [List.zip_cons_cons] at hz
     injection hz with hyx hrest
     injection hyx with hy hx
     subst hy hx;refine Xbk (he prog w _ _ ?_);have hri:=hL prog w
     wp_walk using hri
     exact ⟨_,rfl,by simpa using h⟩
  case fin =>
   rintro ⟨b1,b2⟩ s' ⟨hb',rfl,vs,ws,hz,hvi,hlen⟩;simp only at hb';subst hb'
   have hv:c=decide (items.size<items2.size):=by
    cases hvi with
    | nil =>
      simp only [XaN] at hlen;exact (Xa6 (by omega)).symm
    | lt =>
      simp only [XaN,XaB] at hlen;exact (Xa5 (by omega)).symm
    | gt =>
      simp only [XaN,XaB] at hlen;exact (Xa6 (by omega)).symm
    | eq=>rw [List.zip_cons_cons] at hz;cases hz
    | ne=>rw [List.zip_cons_cons] at hz;cases hz
   rw [hv] at h
   wp_walk
   exact ⟨_,rfl,by simpa [Builtin.Tuple.tupleCompareSizes] using h⟩
  case h =>
   exact ⟨rfl,rfl,items.toList,items2.toList,rfl,hx,by simp [Nat.add_comm]⟩
theorem ZjK (l b : Addr) (items items2 : Array Value) (n n2 : Nat) (dd dd2 : Option Addr) (sl sl2 : Array (Option Value)) (c : Bool) (k : Nat) :
 ∀ i:Nat,items.size - i=k->i<=items.size->i<=items2.size->Meets (Builtin.«list.__eq__.loop» ⟨[.ref l,.ref b,rawInt i,rawInt 0],[]⟩)
  (fun A R s=>s.heap.get? l=some { cls:=.type "list",dict:=dd,data:=.seq items n,slots:=sl }/\s.heap.get? b=some { cls:=.type "list",dict:=dd2,data:=.seq items2 n2,slots:=sl2 } /\
   LexAt A.in1 s (items.toList.drop i) (items2.toList.drop i) c/\R (.ok (.ret (.bool c))) s):=by
 induction k with
 | zero =>
   intro i hk hi hi2 prog w A R s h;obtain ⟨hp,g,d,tk,os⟩:=s;obtain ⟨hl,hb,hx,h⟩:=h
   have e1:items.toList.drop i=[]:=by simp;omega
   rw [e1] at hx
   have hv:c=decide (items.size<items2.size):=by
    generalize e2:items2.toList.drop i=r at hx;have l2:=Xbj List.length e2;simp only [XaF,Array.length_toList] at l2
    cases hx with
    | nil=>simp only [XaN] at l2;exact (Xa6 (by omega)).symm
    | lt=>simp only [XaB] at l2;exact (Xa5 (by omega)).symm
   wp_walk using wpAny_loadPart' hl,wpAny_loadPart' hb
   have hi1:items[((i:Nat):Int).toNat]?=none:=by simp;omega
   rw [hi1]
   wp_walk using wpAny_loadPart' hl,wpAny_loadPart' hb
   show R (.ok (.ret (.bool (decide (items.size<items2.size))))) _;rw [<-hv];exact h
 | succ k ih =>
   intro i hk hi hi2 prog w A R s h;obtain ⟨hp,g,d,tk,os⟩:=s;obtain ⟨hl,hb,hx,h⟩:=h
   have hlt:i<items.size:=by omega
   have hi1:items[((i:Nat):Int).toNat]?=some items[i]:=by simp [hlt]
   have e1:items.toList.drop i=items[i] :: items.toList.drop (i+1):=by simp [XaL,hlt]
   rw [e1] at hx
   wp_walk using wpAny_loadPart' hl,wpAny_loadPart' hb
   by_cases hlt2:i<items2.size
   . have hj1:items2[((i:Nat):Int).toNat]?=some items2[i]:=by simp [hlt2]
     have e2:items2.toList.drop i=items2[i] :: items2.toList.drop (i+1):=by simp [XaL,hlt2]
     have hc:((i:Int)+1)=((i+1:Nat):Int):=by push_cast;rfl
     rw [e2] at hx;rw [hi1,hj1]
     cases hx with
     | eq he ht =>
       refine Xbk (he prog w _ _ ?_)
       wp_walk
       rw [hc]
       exact ⟨plainId_quiet plain_eq_loop _,codeAny_builtin entry_eq_loop (by
        rw [Around.under_plainId plain_eq_loop _]
        exact ih (i+1) (by omega) (by omega) (by omega) prog w A R _ ⟨hl,hb,ht,h⟩)⟩
     | ne he hL =>
       refine Xbk (he prog w _ _ ?_);have hri:=hL prog w
       wp_walk using wpAny_loadPart' hl,wpAny_loadPart' hb
       rw [hi1,hj1]
       wp_walk using hri
       exact h
   . have hj1:items2[((i:Nat):Int).toNat]?=none:=by simp;omega
     have e2:items2.toList.drop i=[]:=by simp;omega
     rw [e2] at hx
     have hv:c=decide (items.size<items2.size):=by
      cases hx;exact (Xa6 (by omega)).symm
     rw [hi1,hj1]
     wp_walk using wpAny_loadPart' hl,wpAny_loadPart' hb
     show R (.ok (.ret (.bool (decide (items.size<items2.size))))) _;rw [<-hv];exact h
theorem ZgK (l b:Addr) (items items2:Array Value) (n n2:Nat) (dd dd2:Option Addr) (sl sl2:Array (Option Value)) (c:Bool) :
 Meets (Builtin.«list.__lt__» ⟨[.ref l,.ref b],[]⟩)
  (fun A R s=>s.heap.get? l=some { cls:=.type "list",dict:=dd,data:=.seq items n,slots:=sl }/\s.heap.get? b=some { cls:=.type "list",dict:=dd2,data:=.seq items2 n2,slots:=sl2 } /\
   LexAt A.in1 s items.toList items2.toList c/\R (.ok (.ret (.bool c))) s):=by
 intro prog w A R s h;obtain ⟨hp,g,d,tk,os⟩:=s;obtain ⟨hl,hb,hx,h⟩:=h;have f3:=AutoSeq1.sub_list_list
 wp_walk using wpAny_loadPart' hl,wpAny_loadPart' hb
 exact ⟨plainId_quiet plain_eq_loop _,codeAny_builtin entry_eq_loop (by
  rw [Around.under_plainId plain_eq_loop _]
  exact ZjK l b items items2 n n2 dd dd2 sl sl2 c _ 0 rfl (Xa0 _) (Xa0 _) prog w A R _ ⟨hl,hb,by simpa using hx,h⟩)⟩
section
variable {A:Around} {s:Shared}
variable {b:Addr}{items items2:Array Value}
theorem RcLtAt.tuples {c:Bool} (hl:IsTup s.heap l items) (hb:IsTup s.heap b items2) (hx:LexAt A.in1 s items.toList items2.toList c) (hu:A.units<cLine):RcLtAt A s (.ref l) (.ref b) c:=fun prog w E Q h=>by
 obtain ⟨⟨cls,dd,data,sl⟩,ho,hc,n,hd⟩:=id hl;obtain ⟨⟨cls2,dd2,data2,sl2⟩,ho2,hc2,n2,hd2⟩:=id hb;simp only at hc hd hc2 hd2;subst hc hd hc2 hd2
 exact richCompare_meets_room (op:=.Lt) ⟨_,ho,rfl⟩ ⟨_,ho2,rfl⟩ PySem.F.slot_tuple_lt PySem.F.entry_tuple_lt (PySem.F.args_tuple_lt_2 _ _) (ZiR l b items items2 n n2 dd dd2 sl sl2 c)
  ⟨ho,ho2,hx,show Value.bool c≠Value.notImplemented/\Q (.bool c) s from ⟨(fun x=>nomatch x),h⟩⟩ hu
theorem RcLtAt.lists {c:Bool} (hl:s.heap.IsList l items) (hb:s.heap.IsList b items2) (hx:LexAt A.in1 s items.toList items2.toList c) (hu:A.units<cLine):RcLtAt A s (.ref l) (.ref b) c:=fun prog w E Q h=>by
 obtain ⟨⟨cls,dd,data,sl⟩,ho,hc,n,hd⟩:=id hl;obtain ⟨⟨cls2,dd2,data2,sl2⟩,ho2,hc2,n2,hd2⟩:=id hb;simp only at hc hd hc2 hd2;subst hc hd hc2 hd2
 exact richCompare_meets_room (op:=.Lt) ⟨_,ho,rfl⟩ ⟨_,ho2,rfl⟩ PySem.F.slot_list_lt PySem.F.entry_list_lt (PySem.F.args_list_lt_2 _ _) (ZgK l b items items2 n n2 dd dd2 sl sl2 c)
  ⟨ho,ho2,hx,show Value.bool c≠Value.notImplemented/\Q (.bool c) s from ⟨(fun x=>nomatch x),h⟩⟩ hu
theorem Zeu {prog:Program}{E:Value->Shared->Prop}{c:Bool}{Q:Bool->Shared->Prop} (hl:s.heap.IsList l items) (hb:s.heap.IsList b items2) (hx:LexAt A.in1 s items.toList items2.toList c) (hu:A.units<cLine) (h:Q c s) :
 wpAny (model prog w) A (oneLt' true (.ref l) (.ref b)) Q E s:=by
 obtain ⟨⟨cls,dd,data,sl⟩,ho,hc,n,hd⟩:=id hl;obtain ⟨⟨cls2,dd2,data2,sl2⟩,ho2,hc2,n2,hd2⟩:=id hb;simp only at hc hd hc2 hd2;subst hc hd hc2 hd2;rw [oneLt'_eq];simp only [if_true];refine Xbk (wpAny_cRoomFor hu ?_)
 refine Xbk (wpAny_callSpecialIfBound?_slot (T := "list") ⟨_,ho,rfl⟩ PySem.F.slot_list_lt (call_meets PySem.F.slot_list_lt ⟨_,ho,rfl⟩ PySem.F.entry_list_lt (PySem.F.args_list_lt_2 _ _) (ZgK l b items items2 n n2 dd dd2 sl sl2 c) ⟨ho,ho2,hx,?_⟩))
 exact Xbn h
end
def ZaX (O:KeyOrd):List O.α->List O.α->Bool
 | [],[]=>false
 | [],_ :: _=>true
 | _ :: _,[]=>false
 | x :: xs,y :: ys=>O.blt x y || (!O.blt y x && ZaX O xs ys)
theorem Zba (O:KeyOrd) (x y:O.α) (xs ys:List O.α):ZaX O (x :: xs) (y :: ys)=(O.blt x y || (!O.blt y x && ZaX O xs ys)):=rfl
theorem Zda (O:KeyOrd):∀ xs,ZaX O xs xs=false
 | []=>rfl
 | x :: xs=>by rw [Zba,O.irrefl,Zda O xs];rfl
theorem Zdx (O:KeyOrd):∀ xs ys zs,ZaX O xs ys=true->ZaX O ys zs=true->ZaX O xs zs=true
 | [],[],_,h,_=>by cases h
 | [],_ :: _,[],_,k=>by cases k
 | [],_ :: _,_ :: _,_,_=>rfl
 | _ :: _,[],_,h,_=>by cases h
 | _ :: _,_ :: _,[],_,k=>by cases k
 | x :: xs,y :: ys,z :: zs,h1,h2=>by
   rw [Zba] at *;simp only [Bool.or_eq_true,Bool.and_eq_true,Bool.not_eq_true'] at h1 h2 ⊢
   rcases h1 with h1 | ⟨h1,k1⟩ <;> rcases h2 with h2 | ⟨h2,k2⟩
   . exact .inl (O.trans _ _ _ h1 h2)
   . exact .inl (KeyOrd.klt_of_klt_of_kle h1 h2)
   . exact .inl (KeyOrd.klt_of_kle_of_klt h1 h2)
   . exact .inr ⟨KeyOrd.kle_trans (O:=O) h1 h2,Zdx O xs ys zs k1 k2⟩
theorem Zev (O:KeyOrd):∀ xs ys zs,ZaX O xs zs=true->ZaX O xs ys=true\/ZaX O ys zs=true
 | [],[],[],h=>by cases h
 | [],[],_ :: _,_=>.inr rfl
 | [],_ :: _,_,_=>.inl rfl
 | _ :: _,_,[],h=>by cases h
 | _ :: _,[],_ :: _,_=>.inr rfl
 | x :: xs, y :: ys, z :: zs, h => by
   rw [Zba] at *;rw [Zba];simp only [Bool.or_eq_true,Bool.and_eq_true,Bool.not_eq_true'] at h ⊢
   rcases h with h | ⟨h,k⟩
   . rcases O.negTrans _ y _ h with h | h
     . exact .inl (.inl h)
     . exact .inr (.inl h)
   . cases e1:O.blt x y with
     | true=>exact .inl (.inl rfl)
     | false =>
       cases e2:O.blt y z with
       | true=>exact .inr (.inl rfl)
       | false =>
         have a1:O.kle y x:=e1;have a2:O.kle z y:=e2;have a3:O.kle x z:=h;have b1:O.blt y x=false:=KeyOrd.kle_trans (O:=O) a3 a2;have b2:O.blt z y=false:=KeyOrd.kle_trans (O:=O) a1 a3
         rcases Zev O xs ys zs k with k | k
         . exact .inl (.inr ⟨b1,k⟩)
         . exact .inr (.inr ⟨b2,k⟩)
theorem Zdy (O:KeyOrd):∀ xs ys,ZaX O xs ys=false->ZaX O ys xs=false->xs=ys
 | [],[],_,_=>rfl
 | [],_ :: _,h,_=>by cases h
 | _ :: _,[],_,k=>by cases k
 | x :: xs,y :: ys,h1,h2=>by
   rw [Zba] at h1 h2;simp only [Bool.or_eq_false_iff,Bool.and_eq_false_iff,Bool.not_eq_false'] at h1 h2;have e1:x=y:=O.total _ _ h1.1 h2.1;have e2:xs=ys:=Zdy O xs ys (by rcases h1.2 with z | z;exact absurd (h2.1.symm.trans z) (by simp);exact z) (by rcases h2.2 with z | z;exact absurd (h1.1.symm.trans z) (by simp);exact z);rw [e1,e2]
@[reducible] def listO (O:KeyOrd):KeyOrd where
 α:=List O.α
 blt:=ZaX O
 irrefl:=Zda O
 trans:=Zdx O
 negTrans:=Zev O
 total:=Zdy O
theorem Zca {P:KeyOrd} (x y:(lexO O P).α) (e:x.1=y.1):(lexO O P).blt x y=P.blt x.2 y.2:=by
 show (O.blt x.1 y.1 || (!O.blt y.1 x.1 && P.blt x.2 y.2))=_;rw [e,O.irrefl];rfl
theorem Zcb {P:KeyOrd} (x y:(lexO O P).α) (e:x.1≠y.1):(lexO O P).blt x y=O.blt x.1 y.1:=by
 show (O.blt x.1 y.1 || (!O.blt y.1 x.1 && P.blt x.2 y.2))=_
 cases h1:O.blt x.1 y.1 with
 | true=>rfl
 | false =>
   cases h2:O.blt y.1 x.1 with
   | true=>rfl
   | false=>exact absurd (O.total _ _ h1 h2) e
theorem ZgL (x:O.α) (xs ys:List O.α):ZaX O (x :: xs) (x :: ys)=ZaX O xs ys:=by
 rw [Zba,O.irrefl];rfl
theorem ZgM {x y:O.α} (xs ys:List O.α) (e:x≠y):ZaX O (x :: xs) (y :: ys)=O.blt x y:=by
 rw [Zba]
 cases h1:O.blt x y with
 | true=>rfl
 | false =>
   cases h2:O.blt y x with
   | true=>rfl
   | false=>exact absurd (O.total _ _ h1 h2) e
mutual
theorem Cmp.mono {n m:Nat}{d e:Dt} (c:Cmp n d e) (h:n<=m):Cmp m d e:=by
 cases c with
 | non=>exact .non
 | bl a b=>exact .bl a b
 | int a b=>exact .int a b
 | str a b=>exact .str a b
 | tup t=>cases m with
   | zero=>exact absurd h (Nat.not_succ_le_zero _)
   | succ m=>exact .tup (Cmps.mono t (Nat.le_of_succ_le_succ h))
 | lst t=>cases m with
   | zero=>exact absurd h (Nat.not_succ_le_zero _)
   | succ m=>exact .lst (Cmps.mono t (Nat.le_of_succ_le_succ h))
 | apart a=>cases m with
   | zero=>exact absurd h (Nat.not_succ_le_zero _)
   | succ m=>exact .apart a
theorem Cmps.mono {n m:Nat}{ds es:List Dt} (c:Cmps n ds es) (h:n<=m):Cmps m ds es:=by
 cases c with
 | nil=>exact .nil _
 | nil'=>exact .nil' _
 | cons c t=>exact .cons (Cmp.mono c h) (Cmps.mono t h)
end
structure Enc where
 O:KeyOrd
 D:O.α->Dt
 dflt:O.α
 dep:Nat
 cmp:∀ a b,Cmp dep (D a) (D b)
 inj:∀ a b,D a=D b->a=b
 lt:∀ {X:Cx} {pins:List (Addr×Obj)} {σ:St} {H:Hp} {s:Shared},Inv X pins σ H s->∀ {a b:O.α} {v u:V} {x y:Value} {A:Around},IsDt X.K H v (D a)->IsDt X.K H u (D b)->RelV v x->RelV u y->A.units+dep<cLine->RcLtAt A s x y (O.blt a b)
section
variable {X:Cx} {pins:List (Addr×Obj)} {σ:St} {H:Hp} {s:Shared}
theorem Enc.eq (c:Enc) (I:Inv X pins σ H s) {a b:c.O.α} {u:V} {x y:Value} {A:Around} (hv:IsDt X.K H v (c.D a)) (hu:IsDt X.K H u (c.D b)) (rx:RelV v x) (ry:RelV u y) (hA:A.units+c.dep<cLine):EqAt A s x y (dec (a=b)):=by
 have:=eqD (A:=A) I (c.cmp a b) hv hu rx ry hA
 rwa [Zbi (p:=c.D a=c.D b) (q:=a=b) ⟨c.inj a b,fun z=>by rw [z]⟩] at this
theorem Enc.lex (c:Enc) (I:Inv X pins σ H s) {a b:c.O.α} {u:V} {x y:Value} {A:Around} {vs ws:List Value} {e f:Bool} (hv:IsDt X.K H v (c.D a)) (hu:IsDt X.K H u (c.D b)) (rx:RelV v x) (ry:RelV u y) (hA:A.units+c.dep<cLine) (h1:a=b->LexAt A s vs ws e/\f=e) (h2:a≠b->f=c.O.blt a b):LexAt A s (x :: vs) (y :: ws) f:=by
 have he:=c.eq (A:=A) I hv hu rx ry hA
 by_cases hab:a=b
 . rw [ZaC hab] at he
   obtain ⟨t,rfl⟩:=h1 hab;exact .eq he t
 . rw [ZaL hab] at he
   rw [h2 hab];exact .ne he (c.lt I hv hu rx ry hA)
end
@[reducible] def intE:Enc where
 O:=intO
 D:=Dt.int
 dflt:=(0:Int)
 dep:=0
 cmp a b:=.int a b
 inj a b h:=Dt.int.inj h
 lt {X pins σ H s} I {a b v u x y A} hv hu rx ry _:=by
  cases hv;cases hu;obtain ⟨t,rfl⟩:=rx;obtain ⟨t',rfl⟩:=ry;exact fun prog w E Q h=>(PySem.P.lt_int h:wpAny (model prog w) _ (compareOp .Lt _ _) Q E _)
@[reducible] def strE:Enc where
 O:=strO
 D:=Dt.str
 dflt:=(default:Str)
 dep:=0
 cmp a b:=.str a b
 inj a b h:=Dt.str.inj h
 lt {X pins σ H s} I {a b v u x y A} hv hu rx ry _:=by
  cases hv;cases hu;obtain ⟨t,rfl⟩:=rx;obtain ⟨t',rfl⟩:=ry;exact fun prog w E Q h=>(PySem.P.lt_str h:wpAny (model prog w) _ (compareOp .Lt _ _) Q E _)
section
variable {X:Cx} {pins:List (Addr×Obj)} {σ:St} {H:Hp} {s:Shared}
theorem Enc.lexL (c:Enc) (I:Inv X pins σ H s) {A:Around} (hA:A.units+c.dep<cLine):∀ {as bs:List c.O.α} {vs us:List V} {xs ys:List Value},IsDts X.K H vs (as.map c.D)->IsDts X.K H us (bs.map c.D)->Vals vs xs->Vals us ys->LexAt A s xs ys (ZaX c.O as bs):=by
 intro as
 induction as with
 | nil =>
   intro bs vs us xs ys h1 h2 h3 h4;cases h1;cases h3
   cases bs with
   | nil=>cases h2;cases h4;exact .nil
   | cons b bs=>cases h2;cases h4;exact .lt _ _
 | cons a as ih =>
   intro bs vs us xs ys h1 h2 h3 h4
   cases h1 with
   | cons h t=>cases h3 with
     | cons r q=>cases bs with
       | nil=>cases h2;cases h4;exact .gt _ _
       | cons b bs=>cases h2 with
         | cons h' t'=>cases h4 with
           | cons r' q'=>exact c.lex I h h' r r' hA (fun e=>⟨ih t t' q q',by subst e;exact ZgL a as bs⟩) (fun e=>ZgM as bs e)
end
theorem ZgN (c:Enc):∀ {a b:List c.O.α},a.map c.D=b.map c.D->a=b
 | [],[],_=>rfl
 | [],_ :: _,h=>by cases h
 | _ :: _,[],h=>by cases h
 | x :: a,y :: b,h=>by
   rw [Xao,Xao] at h
   injection h with h1 h2
   rw [c.inj x y h1,ZgN c h2]
@[reducible] def ZbQ (c:Enc):Enc where
 O:=listO c.O
 D l:=Dt.lst (l.map c.D)
 dflt:=([]:List c.O.α)
 dep:=c.dep+1
 cmp a b:=.lst (Cmps.of fun d hd e he=>by
  obtain ⟨x,_,rfl⟩:=Xai.mp hd;obtain ⟨y,_,rfl⟩:=Xai.mp he
  exact c.cmp x y)
 inj a b h:=ZgN c (Dt.lst.inj h)
 lt {X pins σ H s} I {a b v u x y A} hv hu rx ry hA := by
  cases hv with
  | lst h t =>
    cases hu with
    | lst h' t' =>
      cases rx;cases ry;obtain ⟨its,r,p,_⟩:=I.list h;obtain ⟨its',r',p',_⟩:=I.list h';exact RcLtAt.lists p.isList p'.isList (c.lexL (A:=A.in1) I (by rw [Za4];omega) t t' r r') (by omega)
theorem dts2 {K:XFg}{d e:Dt} (h:IsDts K H vs [d,e]):∃ a b,vs=[a,b]/\IsDt K H a d/\IsDt K H b e:=by
 cases h with
 | cons h1 t=>cases t with
   | cons h2 t=>cases t;exact ⟨_,_,rfl,h1,h2⟩
theorem dts3 {K:XFg}{d e f:Dt} (h:IsDts K H vs [d,e,f]):∃ a b c,vs=[a,b,c]/\IsDt K H a d/\IsDt K H b e/\IsDt K H c f:=by
 cases h with
 | cons h1 t=>obtain ⟨a,b,rfl,h2,h3⟩:=dts2 t;exact ⟨_,_,_,rfl,h1,h2,h3⟩
theorem vals3' {x y z:V}{us:List Value} (r:Vals [x,y,z] us):∃ u w v,us=[u,w,v]/\RelV x u/\RelV y w/\RelV z v:=by
 cases r with
 | cons r1 r2=>obtain ⟨a,b,rfl,h2,h3⟩:=Zgv r2;exact ⟨_,_,_,rfl,r1,h2,h3⟩
@[reducible] def Zhv (c d:Enc):Enc where
 O:=lexO c.O d.O
 D p:=Dt.tup [c.D p.1,d.D p.2]
 dflt:=(c.dflt,d.dflt)
 dep:=max c.dep d.dep+1
 cmp a b:=.tup (.cons ((c.cmp a.1 b.1).mono (Nat.le_max_left _ _)) (.cons ((d.cmp a.2 b.2).mono (Nat.le_max_right _ _)) (.nil _)))
 inj a b h:=by
  injection h with h
  injection h with h1 h2
  injection h2 with h2 _
  exact Prod.ext (c.inj _ _ h1) (d.inj _ _ h2)
 lt {X pins σ H s} I {a b v u x y A} hv hu rx ry hA := by
  have m1:=Nat.le_max_left c.dep d.dep;have m2:=Nat.le_max_right c.dep d.dep
  cases hv with
  | tup h t =>
    cases hu with
    | tup h' t' =>
      cases rx;cases ry;obtain ⟨its,r,p,_⟩:=I.tuple h;obtain ⟨its',r',p',_⟩:=I.tuple h';obtain ⟨v1,v2,rfl,t1,t2⟩:=dts2 t;obtain ⟨u1,u2,rfl,s1,s2⟩:=dts2 t';obtain ⟨x1,x2,rfl,r1,r2⟩:=Zgv r;obtain ⟨y1,y2,rfl,q1,q2⟩:=Zgv r';refine RcLtAt.tuples p p' (c.lex (A:=A.in1) I t1 s1 r1 q1 (by rw [Za4];omega) (fun e=>⟨d.lex (A:=A.in1) I t2 s2 r2 q2 (by rw [Za4];omega) (fun e'=>⟨.nil,?_⟩) fun e'=>rfl,Zca a b e⟩) fun e=>Zcb a b e) (by omega);rw [e',d.O.irrefl]
@[reducible] def ZgO (c d e:Enc):Enc where
 O:=lexO c.O (lexO d.O e.O)
 D p:=Dt.tup [c.D p.1,d.D p.2.1,e.D p.2.2]
 dflt:=(c.dflt,d.dflt,e.dflt)
 dep:=max c.dep (max d.dep e.dep)+1
 cmp a b:=.tup (.cons ((c.cmp a.1 b.1).mono (Nat.le_max_left _ _)) (.cons ((d.cmp a.2.1 b.2.1).mono (by omega)) (.cons ((e.cmp a.2.2 b.2.2).mono (by omega)) (.nil _))))
 inj a b h:=by
  injection h with h
  injection h with h1 h2
  injection h2 with h2 h3
  injection h3 with h3 _
  exact Prod.ext (c.inj _ _ h1) (Prod.ext (d.inj _ _ h2) (e.inj _ _ h3))
 lt {X pins σ H s} I {a b v u x y A} hv hu rx ry hA := by
  have m1:=Nat.le_max_left c.dep (max d.dep e.dep);have m2:=Nat.le_max_right c.dep (max d.dep e.dep);have m3:=Nat.le_max_left d.dep e.dep;have m4:=Nat.le_max_right d.dep e.dep
  cases hv with
  | tup h t =>
    cases hu with
    | tup h' t' =>
      cases rx;cases ry;obtain ⟨its,r,p,_⟩:=I.tuple h;obtain ⟨its',r',p',_⟩:=I.tuple h';obtain ⟨v1,v2,v3,rfl,t1,t2,t3⟩:=dts3 t;obtain ⟨u1,u2,u3,rfl,s1,s2,s3⟩:=dts3 t';obtain ⟨x1,x2,x3,rfl,r1,r2,r3⟩:=vals3' r;obtain ⟨y1,y2,y3,rfl,q1,q2,q3⟩:=vals3' r';refine RcLtAt.tuples p p' (c.lex (A:=A.in1) I t1 s1 r1 q1 (by rw [Za4];omega) (fun g=>⟨d.lex (A:=A.in1) I t2 s2 r2 q2 (by rw [Za4];omega) (fun g'=>⟨e.lex (A:=A.in1) I t3 s3 r3 q3 (by rw [Za4];omega) (fun g''=>⟨.nil,?_⟩) fun _=>rfl,Zca a.2 b.2 g'⟩) fun g'=>Zcb a.2 b.2 g',Zca a b g⟩) fun g=>Zcb a b g) (by omega);rw [g'',e.O.irrefl]
section
variable {X:Cx}
abbrev RowE (c:Enc):Type:=V×c.O.α
def Zh9 (X:Cx) (c:Enc):List V->Hp->VK->Prop:=fun vs H Q=>∃ (l:Addr) (zs:List (RowE c)),vs=[.ref l]/\SqL X.K H l (zs.map (·.1))/\zs.length<64 /\
 (∀ z∈zs,IsDt X.K H z.1 (c.D z.2))/\∀ (D:Addr) (zs':List (RowE c)),zs'.Perm zs->(zs'.map (·.2)).Pairwise c.O.kle->H D=none->Q (.ref D) (upd H D (.lst (zs'.map (·.1))))
theorem ZfQ (c:Enc) (κ:SortKind)
 (hkind:∀ (pins:List (Addr×Obj)) (σ:St) (H:Hp) (s:Shared) (zs:List (RowE c)) (its:List Value) (Q:SortKind->Shared->Prop),Inv X pins σ H s->Vals (zs.map (·.1)) its->(∀ z∈zs,IsDt X.K H z.1 (c.D z.2))->2<=its.length->Q κ s->wpAny (model X.prog X.w) X.A.in1.in1 (keyKind' its.toArray) Q (fun _ _=>False) s)
 (hcmp:∀ (pins:List (Addr×Obj)) (σ:St) (H:Hp) (s:Shared) (z z':RowE c) (x y:Value) (C:Bool->Shared->Prop),Inv X pins σ H s->IsDt X.K H z.1 (c.D z.2)->IsDt X.K H z'.1 (c.D z'.2)->RelV z.1 x->RelV z'.1 y->C (c.O.blt z.2 z'.2) s->wpAny (model X.prog X.w) X.A.in1.in1 (keyLt' κ x y) C (fun _ _=>False) s) :
 CallR X (.builtin "sorted") (Zh9 X c):=by
 intro pins s σ H vs us Q I r h;obtain ⟨l,zs,rfl,hl,h64,hr,q⟩:=h;obtain ⟨u,rfl,ru⟩:=Zdh r;obtain rfl:u=Value.ref l:=ru;obtain ⟨its,ri,pl,_⟩:=I.list hl
 have hlen:zs.length=its.length:=by have:=ri.length;rwa [Xaa] at this
 let dz:RowE c:=(V.non,c.dflt)
 have hat:∀ i,i<zs.length->RelV (zs.getD i dz).1 (its.getD i Value.none)/\IsDt X.K H (zs.getD i dz).1 (c.D (zs.getD i dz).2):=fun i hi=>by
  have:=ZcL ri i V.non Value.none (by rw [Xaa];exact hi)
  have e:(zs.map (·.1)).getD i V.non=(zs.getD i dz).1:=by
   rw [Xaq,Xag,Xaq,Xab hi];rfl
  rw [e] at this;refine ⟨this,hr _ ?_⟩;rw [Xaq,Xab hi];exact Xav hi
 refine ZdN (O:=c.O) (key:=fun i=>(zs.getD i dz).2) (κ:=κ) (vs:=its) pl.isList (by omega) (fun h2 h' k Q' hq=>?_) (fun h' k i j C hi hj hC=>?_) fun D h' n is kk hD hpm hst hg=>?_
 . exact hkind pins σ H _ zs its Q' (I.kept (t':=s.toks) k) ri hr h2 hq
 . obtain ⟨a1,a2⟩:=hat i (by omega)
   obtain ⟨b1,b2⟩:=hat j (by omega);unfold PySem.W.kas_ask;exact hcmp pins σ H _ _ _ _ _ C (I.kept (t':=s.toks) k) a2 b2 a1 b1 hC
 . have hin:∀ i∈is,i<zs.length:=fun i hi=>by
    have:=hpm.mem_iff.mp hi
    rw [hlen];simpa using this
   have hrange:(List.range zs.length).map (fun i=>zs.getD i dz)=zs:=by
    apply List.ext_getElem?;intro k
    by_cases hk:k<zs.length
    . simp [hk,Xaq]
    . simp [hk]
   have hperm:(is.map fun i=>zs.getD i dz).Perm zs:=by
    have:=hpm.map (fun i=>zs.getD i dz)
    rwa [<-hlen,hrange] at this
   have hv:Vals ((is.map fun i=>zs.getD i dz).map (·.1)) (is.map fun i=>its.getD i Value.none):=by
    rw [Xax];exact Zc2 is fun i hi=>(hat i (hin i hi)).1
   have hpw:((is.map fun i=>zs.getD i dz).map (·.2)).Pairwise c.O.kle:=by
    refine Zbd (fun _ _ _=>KeyOrd.kle_trans) _ fun i a b h1 h2=>?_;rw [Xax,Xag,XaV] at h1 h2;obtain ⟨x,e1,rfl⟩:=h1;obtain ⟨y,e2,rfl⟩:=h2;obtain ⟨hlt,_⟩:=Xae.mp e2
    have:=hst i hlt
    have g1:is.getD i 0=x:=by rw [Xaq,e1];rfl
    have g2:is.getD (i+1) 0=y:=by rw [Xaq,e2];rfl
    rw [g1,g2] at this;exact this
   exact ⟨.ref D,upd H D (.lst ((is.map fun i=>zs.getD i dz).map (·.1))),I.laidN (t':=s.toks) kk hD ⟨by rw [Xaa,hperm.length_eq];exact XaY (Zan (by omega)),_,n,hv,hg⟩,rfl,q D _ hperm hpw (I.freshN hD)⟩
theorem Zew {pins:List (Addr×Obj)} {s:Shared} {M:Model} (I:Inv X pins σ H s) {ds:List Dt} {x:Value} (h:IsDt X.K H v (.lst ds)) (r:RelV v x):PySem.W.Looks M s.heap (typeOf x) (.type "list"):=by
 cases h with
 | lst h t =>
   cases r;obtain ⟨its,_,p,_⟩:=I.list h;obtain ⟨o,ho,hc,_⟩:=p.isList;rw [<-hc];exact (PySem.W.Looks.ld ho).andThen .now
theorem Zfr (c:Enc) (hu:X.A.units+64<cLine) (hd:c.dep<=50):CallR X (.builtin "sorted") (Zh9 X (ZbQ c)):=by
 refine ZfQ (ZbQ c) oneType' (fun pins σ H s zs its Q I rv hz h2 hq=>?_) fun pins σ H s z z' x y C I h h' r r' hC=>?_
 . refine PySem.W.kas_kind (T:=.type "list") h2 (fun v hv=>?_) (by decide) (by decide) hq
   obtain ⟨i,hi⟩:=List.getElem?_of_mem hv;have hi':=(Xae.mp hi).1;have hl:=rv.length;rw [Xaa] at hl;obtain ⟨x,hx,rx⟩:=rv.get (i:=i) (x:=(zs[i]'(by omega)).1) (by rw [Xag,Xab (by omega)];rfl);rw [hi] at hx;cases hx;exact Zew I (hz _ (Xav (by omega))) rx
 . rw [keyLt'_oneType]
   obtain ⟨v,as⟩:=z;obtain ⟨u,bs⟩:=z'
   cases h with
   | lst h t =>
     cases h' with
     | lst h' t' =>
       cases r;cases r';obtain ⟨its,rr,p,_⟩:=I.list h;obtain ⟨its',rr',p',_⟩:=I.list h';exact Zeu p.isList p'.isList (c.lexL I (by show _+1+1+1+_<_;omega) t t' rr rr') (by show _+1+1<_;omega) hC
theorem Zhw (c:Enc) {pins:List (Addr×Obj)} {σ:St} {H:Hp} {s:Shared} (I:Inv X pins σ H s) {g:c.O.α->List Dt}:∀ {zs:List (V×c.O.α)} {its:List Value} {k:c.O.α->List Dt},Vals (zs.map (·.1)) its->(∀ z∈zs,∃ ds,k z.2=Dt.lst ds :: g z.2/\IsDt X.K H z.1 (.tup (k z.2))) ->
 ∃ fs,PySem.W.KatTups s.heap its fs/\fs.length=zs.length/\∀ v∈fs,∃ (u:V) (ds:List Dt),IsDt X.K H u (.lst ds)/\RelV u v
 | [],_,_,.nil,_=>⟨[],.nil,rfl,fun _ x=>by cases x⟩
 | z :: zs, _, k, .cons r rr, h => by
   obtain ⟨fs,k1,k2,k3⟩:=Zhw c I (zs:=zs) rr fun y hy=>h y (Xap _ hy);obtain ⟨ds,e,hd⟩:=h z Xal;rw [e] at hd;obtain ⟨v,a⟩:=z;dsimp only at r hd
   cases hd with
   | tup hs t =>
     cases r;obtain ⟨its,ri,⟨o,b1,b2,n,b3⟩,_⟩:=I.tuple hs
     cases t with
     | cons t1 t2 =>
       cases ri with
       | cons r1 r2 =>
         refine ⟨_ :: fs,.cons b1 b2 b3 rfl k1,by simp [k2],fun w hw=>?_⟩
         rcases Xam.mp hw with e | hw
         . exact ⟨_,ds,t1,e ▸ r1⟩
         . exact k3 w hw
theorem ZfR {A:Around}{s:Shared}{prog:Program}{E:Value->Shared->Prop}{x y:Value}{b:Bool}{Q:Bool->Shared->Prop} (h:RcLtAt A s x y b) (q:Q b s):wpAny (model prog w) A (oneLt' false x y) Q E s :=
 PySem.W.kat_one _ _ (h prog w E _ q)
theorem oneLtL (c:Enc) {pins:List (Addr×Obj)} {s:Shared} (I:Inv X pins σ H s) {A:Around} {as bs:List c.O.α} {u:V} {x y:Value} {prog:Program} {E:Value->Shared->Prop} {Q:Bool->Shared->Prop} (h:IsDt X.K H v ((ZbQ c).D as)) (h':IsDt X.K H u ((ZbQ c).D bs)) (r:RelV v x) (r':RelV u y) (hA:A.units+(c.dep+1)<cLine) (q:Q (ZaX c.O as bs) s):wpAny (model prog w) A (oneLt' true x y) Q E s:=by
 cases h with
 | lst h t =>
   cases h' with
   | lst h' t' =>
     cases r;cases r';obtain ⟨its,rr,p,_⟩:=I.list h;obtain ⟨its',rr',p',_⟩:=I.list h';exact Zeu p.isList p'.isList (c.lexL I (by rw [Za4];omega) t t' rr rr') (by omega) q
theorem Zhx (c d : Enc) (hu : X.A.units + 64 < cLine) (h1 : c.dep <= 50) (h2 : d.dep <= 50) : CallR X (.builtin "sorted") (Zh9 X (Zhv (ZbQ c) d)) := by
 refine ZfQ (Zhv (ZbQ c) d) (tuples' true) (fun pins σ H s zs its Q I rv hz hl hq=>?_) fun pins σ H s z z' x y C I h h' r r' hC=>?_
 . obtain ⟨fs,k1,k2,k3⟩:=Zhw (Zhv (ZbQ c) d) I (k:=fun p=>[(ZbQ c).D p.1,d.D p.2]) (g:=fun p=>[d.D p.2]) rv fun z hz'=>⟨_,rfl,hz z hz'⟩
   have hl2:=rv.length;rw [Xaa] at hl2
   refine PySem.W.kat_kind (T:=.type "list") k1 (by omega) (fun v hv=>?_) (by decide) hq
   obtain ⟨u,ds,a1,a2⟩:=k3 v hv;exact Zew I a1 a2
 . obtain ⟨v, p⟩ := z
   obtain ⟨u,q⟩:=z';dsimp only at h h' r r'
   change C ((Zhv (ZbQ c) d).O.blt p q) s at hC
   have hun:X.A.in1.in1.units=X.A.units+1+1:=rfl
   cases h with
   | tup hs t =>
     cases h' with
     | tup hs' t' =>
       cases r;cases r';obtain ⟨its,rr,⟨ox,hox,_,n,dx⟩,_⟩:=I.tuple hs;obtain ⟨its',rr',⟨oy,hoy,_,m,dy⟩,_⟩:=I.tuple hs'
       cases t with
       | cons t1 t => cases t with
         | cons t2 t => cases t; cases t' with
           | cons s1 t' => cases t' with
             | cons s2 t' => cases t'; cases rr with
               | cons r1 rr => cases rr with
                 | cons r2 rr => cases rr; cases rr' with
                   | cons q1 rr'=>cases rr' with
                     | cons q2 rr' =>
                       cases rr';refine PySem.W.kat_lt hox dx hoy dy (PySem.W.kat_cons ((ZbQ c).eq (A:=X.A.in1.in1) I t1 s1 r1 q1 (by rw [hun];show _+(c.dep+1)<_;omega) _ _ _ _ ?_))
                       by_cases e1:p.1=q.1
                       . rw [ZaC e1]
                         rw [show (Zhv (ZbQ c) d).O.blt p q=d.O.blt p.2 q.2 from Zca p q e1] at hC;refine PySem.W.kat_yes (PySem.W.kat_cons (d.eq (A:=X.A.in1.in1) I t2 s2 r2 q2 (by rw [hun];omega) _ _ _ _ ?_))
                         by_cases e2:p.2=q.2
                         . rw [ZaC e2]
                           refine PySem.W.kat_yes (PySem.W.kat_nil ?_);rw [e2,d.O.irrefl] at hC;exact hC
                         . rw [ZaL e2]
                           exact PySem.W.kat_no (ZfR (d.lt I t2 s2 r2 q2 (by rw [hun];omega)) hC)
                       . rw [ZaL e1]
                         rw [show (Zhv (ZbQ c) d).O.blt p q=ZaX c.O p.1 q.1 from Zcb p q e1] at hC;exact PySem.W.kat_no (oneLtL c I t1 s1 r1 q1 (by rw [hun];omega) hC)
theorem Zhy (c d e : Enc) (hu : X.A.units + 64 < cLine) (h1 : c.dep <= 50) (h2 : d.dep <= 50) (h3 : e.dep <= 50) : CallR X (.builtin "sorted") (Zh9 X (ZgO (ZbQ c) d e)) := by
 refine ZfQ (ZgO (ZbQ c) d e) (tuples' true) (fun pins σ H s zs its Q I rv hz hl hq=>?_) fun pins σ H s z z' x y C I h h' r r' hC=>?_
 . obtain ⟨fs,k1,k2,k3⟩:=Zhw (ZgO (ZbQ c) d e) I (k:=fun p=>[(ZbQ c).D p.1,d.D p.2.1,e.D p.2.2]) (g:=fun p=>[d.D p.2.1,e.D p.2.2]) rv fun z hz'=>⟨_,rfl,hz z hz'⟩
   have hl2:=rv.length;rw [Xaa] at hl2
   refine PySem.W.kat_kind (T:=.type "list") k1 (by omega) (fun v hv=>?_) (by decide) hq
   obtain ⟨u,ds,a1,a2⟩:=k3 v hv;exact Zew I a1 a2
 . obtain ⟨v, p⟩ := z
   obtain ⟨u,q⟩:=z';dsimp only at h h' r r'
   change C ((ZgO (ZbQ c) d e).O.blt p q) s at hC
   have hun:X.A.in1.in1.units=X.A.units+1+1:=rfl
   cases h with
   | tup hs t =>
     cases h' with
     | tup hs' t' =>
       cases r;cases r';obtain ⟨its,rr,⟨ox,hox,_,n,dx⟩,_⟩:=I.tuple hs;obtain ⟨its',rr',⟨oy,hoy,_,m,dy⟩,_⟩:=I.tuple hs'
       cases t with
       | cons t1 t => cases t with
         | cons t2 t => cases t with
           | cons t3 t => cases t; cases t' with
             | cons s1 t' => cases t' with
               | cons s2 t' => cases t' with
                 | cons s3 t' => cases t'; cases rr with
                   | cons r1 rr => cases rr with
                     | cons r2 rr => cases rr with
                       | cons r3 rr => cases rr; cases rr' with
                         | cons q1 rr' => cases rr' with
                           | cons q2 rr' => cases rr' with
                             | cons q3 rr' =>
                               cases rr';refine PySem.W.kat_lt hox dx hoy dy (PySem.W.kat_cons ((ZbQ c).eq (A:=X.A.in1.in1) I t1 s1 r1 q1 (by rw [hun];show _+(c.dep+1)<_;omega) _ _ _ _ ?_))
                               by_cases e1:p.1=q.1
                               . rw [ZaC e1]
                                 rw [show (ZgO (ZbQ c) d e).O.blt p q=(lexO d.O e.O).blt p.2 q.2 from Zca p q e1] at hC;refine PySem.W.kat_yes (PySem.W.kat_cons (d.eq (A:=X.A.in1.in1) I t2 s2 r2 q2 (by rw [hun];omega) _ _ _ _ ?_))
                                 by_cases e2:p.2.1=q.2.1
                                 . rw [ZaC e2]
                                   rw [show (lexO d.O e.O).blt p.2 q.2=e.O.blt p.2.2 q.2.2 from Zca p.2 q.2 e2] at hC;refine PySem.W.kat_yes (PySem.W.kat_cons (e.eq (A:=X.A.in1.in1) I t3 s3 r3 q3 (by rw [hun];omega) _ _ _ _ ?_))
                                   by_cases e3:p.2.2=q.2.2
                                   . rw [ZaC e3]
                                     refine PySem.W.kat_yes (PySem.W.kat_nil ?_);rw [e3,e.O.irrefl] at hC;exact hC
                                   . rw [ZaL e3]
                                     exact PySem.W.kat_no (ZfR (e.lt I t3 s3 r3 q3 (by rw [hun];omega)) hC)
                                 . rw [ZaL e2]
                                   rw [show (lexO d.O e.O).blt p.2 q.2=d.O.blt p.2.1 q.2.1 from Zcb p.2 q.2 e2] at hC;exact PySem.W.kat_no (ZfR (d.lt I t2 s2 r2 q2 (by rw [hun];omega)) hC)
                               . rw [ZaL e1]
                                 rw [show (ZgO (ZbQ c) d e).O.blt p q=ZaX c.O p.1 q.1 from Zcb p q e1] at hC;exact PySem.W.kat_no (oneLtL c I t1 s1 r1 q1 (by rw [hun];omega) hC)
end
def goN:List (Str×Int)->Str->Option Int
 | [],_=>none
 | (y,n) :: r,x=>if y=x then some n else goN r x
def onV:Option Int->V
 | some n=>.int n
 | none=>.non
theorem ZjL:∀ {gs:List (Str×Int)} {i:Nat} {p:Str×Int} {x:Str},gs[i]?=some p->p.1=x->(∀ q∈gs.take i,q.1≠x)->goN gs x=some p.2
 | [],_,_,_,h,_,_=>by simp at h
 | q :: r,0,p,x,h,e,_=>by
   simp at h;subst h;obtain ⟨y,n⟩:=q;exact Xbe e
 | q :: r,i+1,p,x,h,e,k=>by
   obtain ⟨y,n⟩:=q;have k1:y≠x:=k (y,n) (by simp);show (if y=x then some n else goN r x)=_;rw [Xbd k1];exact ZjL (i:=i) (by simpa using h) e fun q hq=>k q (by simp [hq])
theorem ZfS:∀ {gs:List (Str×Int)} {x:Str},(∀ q∈gs,q.1≠x)->goN gs x=none
 | [],_,_=>rfl
 | (y,n) :: r,x,k=>by
   show (if y=x then some n else goN r x)=_;rw [Xbd (k (y,n) (by simp))];exact ZfS fun q hq=>k q (by simp [hq])
theorem Zhz:∀ {gs:List (Str×Int)} {x:Str} {n:Int},goN gs x=some n->(x,n)∈gs
 | [],_,_,h=>by cases h
 | (y,m) :: r,x,n,h=>by
   have h':(if y=x then some m else goN r x)=some n:=h
   by_cases e:y=x
   . rw [Xbe e] at h'
     rw [<-e,<-Xbc h'];exact Xal
   . rw [Xbd e] at h'
     exact Xap _ (Zhz h')
abbrev Mrk:Type:=Int×Str×Int
abbrev mkV (m:Mrk):List V:=[.int m.1,.str m.2.1,.int m.2.2]
abbrev Beg:Type:=List Mrk×Int×Int
structure Wd where
 ss:List Sco
 gs:List (Str×Int)
 as:List (Option (Str×Int))
 sts:List Stt
abbrev Gn:Type:=Mrk×(Str×Int)×Int
def ZcM (W:Wd) (sc:Int) (go:List (Str×Int)) (p:Stp) (i:Nat):List Gn:=match goN go p.1 with
 | some a=>[((sc,("step" : Str),(i:Int)),ZbG W.gs W.as p,a)]
 | none=>[]
def Zcc (W:Wd) (sc:Int) (go:List (Str×Int)):List Stp->Nat->List Gn
 | [],_=>[]
 | p :: r,i=>ZcM W sc go p i++Zcc W sc go r (i+1)
def ZaD (W:Wd) (sc:Int):List Stp:=match W.ss[sc.toNat]? with
 | some s=>s.1
 | none=>[]
def Za7 (W:Wd) (st:Int):List (Str×Int):=match W.sts[st.toNat]? with
 | some s=>s.1
 | none=>[]
def ZbW (W:Wd) (sc st:Int):List Gn:=Zcc W sc (Za7 W st) (ZaD W sc) 0
theorem Zfs (W:Wd) (sc:Int) (go:List (Str×Int)) (p:Stp):∀ (l:List Stp) (i:Nat),Zcc W sc go (l++[p]) i=Zcc W sc go l i++ZcM W sc go p (i+l.length)
 | [],i=>by simp [Zcc]
 | q :: l,i=>by
   show ZcM W sc go q i++Zcc W sc go (l++[p]) (i+1)=(ZcM W sc go q i++Zcc W sc go l (i+1))++_;rw [Zfs W sc go p l (i+1),XaE,XaB,show i+1+l.length=i+(l.length+1) by omega]
variable {W:Wd}{sc:Int}{r:Gn}
theorem mem_gone1 {go:List (Str×Int)} {p:Stp} :r∈ZcM W sc go p i↔∃ a,goN go p.1=some a/\r=((sc,("step" : Str),(i:Int)),ZbG W.gs W.as p,a):=by
 unfold ZcM
 cases e:goN go p.1 with
 | none=>simp
 | some a=>simp
theorem mem_gone0 {W:Wd}{sc:Int}{go:List (Str×Int)} {r:Gn}:∀ {l:List Stp} {i:Nat},r∈Zcc W sc go l i↔∃ (j:Nat) (p:Stp) (a:Int),l[j]?=some p/\goN go p.1=some a/\r=((sc,("step" : Str),((i+j:Nat):Int)),ZbG W.gs W.as p,a)
 | [],i=>by simp [Zcc]
 | q :: l, i => by
   show r∈ZcM W sc go q i++Zcc W sc go l (i+1)↔_;rw [Xaf,mem_gone1,mem_gone0 (l:=l) (i:=i+1)]
   constructor
   . rintro (⟨a,h1,h2⟩ | ⟨j,p,a,h1,h2,h3⟩)
     . exact ⟨0,q,a,rfl,h1,by rw [h2];rfl⟩
     . exact ⟨j+1,p,a,by simpa using h1,h2,by rw [h3,show i+1+j=i+(j+1) by omega]⟩
   . rintro ⟨j,p,a,h1,h2,h3⟩
     cases j with
     | zero =>
       simp at h1;subst h1;exact .inl ⟨a,h2,by rw [h3];rfl⟩
     | succ j=>exact .inr ⟨j,p,a,by simpa using h1,h2,by rw [h3,show i+1+j=i+(j+1) by omega]⟩
theorem Zia (W:Wd) (sc:Int) (go:List (Str×Int)):∀ (l:List Stp) (i:Nat),(Zcc W sc go l i).Pairwise (fun r r'=>r.1≠r'.1)
 | [],i=>List.Pairwise.nil
 | q :: l, i => by
   show (ZcM W sc go q i++Zcc W sc go l (i+1)).Pairwise _;refine List.pairwise_append.mpr ⟨?_,Zia W sc go l (i+1),fun r hr r' hr' e=>?_⟩
   . unfold ZcM
     split
     . exact List.pairwise_singleton _ _
     . exact List.Pairwise.nil
   . obtain ⟨a,_,rfl⟩:=mem_gone1.mp hr
     obtain ⟨j,p,a',_,_,rfl⟩:=mem_gone0.mp hr'
     have:=Xbj (fun m:Mrk=>m.2.2) e
     simp only at this;omega
theorem ZbR (W:Wd) (sc:Int) (go:List (Str×Int)):∀ (l:List Stp) (i:Nat),(Zcc W sc go l i).length<=l.length
 | [],i=>XaW _
 | q :: l,i=>by
   show (ZcM W sc go q i++Zcc W sc go l (i+1)).length<=_
   have h1:(ZcM W sc go q i).length<=1:=by unfold ZcM;split <;> simp
   have h2:=ZbR W sc go l (i+1);rw [Xac,XaB];omega
theorem ZjM {go:List (Str×Int)} {l:List Stp} {r':Gn} (h:r∈Zcc W sc go l i) (h':r'∈Zcc W sc go l i) (e:r.1=r'.1):r=r':=by
 obtain ⟨j,p,a,h1,h2,rfl⟩:=mem_gone0.mp h;obtain ⟨j',p',a',h1',h2',rfl⟩:=mem_gone0.mp h'
 have:=Xbj (fun m:Mrk=>m.2.2) e
 simp only at this
 have ej:j=j':=by omega
 subst ej;rw [h1] at h1';cases h1';rw [h2] at h2';cases h2';rfl
def been (b:Beg):List Int:=b.1.map (·.1)++[b.2.1]
def kid (b:Beg) (r:Gn):Option Beg:=if r.2.1.1=("to" : Str)/\r.2.1.2 ∉ been b then some (b.1++[r.1],r.2.1.2,r.2.2) else none
def kids (W:Wd) (b:Beg):List Beg:=(ZbW W b.2.1 b.2.2).filterMap (kid b)
variable {b:Beg}
theorem mem_kids {c:Beg} :c∈kids W b↔∃ r∈ZbW W b.2.1 b.2.2,r.2.1.1=("to" : Str)/\r.2.1.2 ∉ been b/\c=(b.1++[r.1],r.2.1.2,r.2.2):=by
 unfold kids kid;rw [List.mem_filterMap]
 constructor
 . rintro ⟨r,hr,e⟩
   split at e
   . rename_i h
     exact ⟨r,hr,h.1,h.2,(Xbc e).symm⟩
   . cases e
 . rintro ⟨r,hr,h1,h2,e⟩
   exact ⟨r,hr,by rw [Xbe ⟨h1,h2⟩,e]⟩
theorem ZfT (W:Wd) (b:Beg):(kids W b).length<=(ZaD W b.2.1).length:=Xbg (List.length_filterMap_le _ _) (ZbR _ _ _ _ _)
theorem kids_nd (W:Wd) (b:Beg):(kids W b).Nodup:=by
 refine List.Pairwise.filterMap (kid b) (fun r r' hne c hc c' hc' e=>?_) (Zia W b.2.1 (Za7 W b.2.2) (ZaD W b.2.1) 0);unfold kid at hc hc'
 split at hc
 . split at hc'
   . cases hc;cases hc'
     have:=Xbj Prod.fst e
     simp only at this
     have:=(List.append_inj' this rfl).2
     exact hne (by simpa using this)
   . cases hc'
 . cases hc
inductive IsBeg (W:Wd) (sc st:Int):Beg->Prop where
 | root:IsBeg W sc st ([],sc,st)
 | kid {b c:Beg} (h:IsBeg W sc st b) (k:c∈kids W b):IsBeg W sc st c
structure WOk (W:Wd):Prop where
 s5:W.ss.length<=100
 st:∀ s∈W.ss,s.1.length<=8
 kst:∀ s∈W.ss,∀ p∈s.1,stOk W.ss.length W.as.length p
 kth:∀ p∈W.gs,thOk W.ss.length W.as.length p
 an:∀ p,some p∈W.as->p.1=("thing" : Str)->0<=p.2/\p.2<W.gs.length
 go:∀ s∈W.sts,∀ p∈s.1,0<=p.2/\p.2<W.sts.length
 few:∀ (sc st:Int) (F:List Beg),(0<=sc/\sc<W.ss.length)->(0<=st/\st<W.sts.length)->F.Nodup->(∀ b∈F,IsBeg W sc st b)->F.length<=62
theorem WOk.net (h:WOk W):NetOk W.gs W.as:=⟨fun p hp e=>by
 rcases h.kth p hp with ⟨e1,_⟩ | ⟨e1,_⟩ | ⟨_,e2⟩
 . rw [e] at e1;exact absurd e1 (by decide +kernel)
 . rw [e] at e1;exact absurd e1 (by decide +kernel)
 . exact e2,h.an⟩
theorem WOk.by_ (h:WOk W) (hs:s∈W.ss) {p:Stp} (hp:p∈s.1) (hn:p.2.1≠("to" : Str)):0<=p.2.2/\p.2.2<W.as.length:=by
 rcases h.kst s hs p hp with ⟨e,_⟩ | ⟨_,e⟩
 . exact absurd e hn
 . exact e
theorem Zc7:(("no" : Str),(0:Int)).1≠("to" : Str):=by decide +kernel
theorem ZfU:("open" : Str)≠("to" : Str):=by decide +kernel
theorem Zib (h:WOk W) {k:Str×Int} (hk:k∈W.gs) (ek:k.1=("part" : Str)):0<=k.2/\k.2<W.ss.length:=by
 rcases h.kth k hk with ⟨e1,_⟩ | ⟨_,e2⟩ | ⟨e1,_⟩
 . rw [ek] at e1;exact absurd e1 (by decide +kernel)
 . exact e2
 . rw [ek] at e1;exact absurd e1 (by decide +kernel)
theorem Zld (h:WOk W) {q:Int} {g:Str×Int} (e:Zb9 W.gs W.as q=g) (hg:g.1=("to" : Str)):0<=g.2/\g.2<W.ss.length:=by
 unfold Zb9 at e
 split at e
 . split at e
   . split at e
     . rename_i k hk
       split at e
       . rename_i hp
         subst e;exact Zib (k:=k) h (Xah hk) hp
       . subst e;exact absurd hg Zc7
     . subst e;exact absurd hg Zc7
   . subst e;exact absurd hg Zc7
 . subst e;exact absurd hg ZfU
 . subst e;exact absurd hg Zc7
theorem Zft (h:WOk W) (hp:p∈W.gs) {g:Str×Int} (e:Za3 W.gs W.as p=g) (hg:g.1=("to" : Str)):0<=g.2/\g.2<W.ss.length:=by
 unfold Za3 at e
 split at e
 . rename_i hpart
   subst e;exact Zib (k:=p) h hp hpart
 . split at e
   . exact Zld h e hg
   . subst e;exact absurd hg Zc7
theorem Zle (h:WOk W) (hs:s∈W.ss) {p:Stp} (hp:p∈s.1) {g:Str×Int} (e:ZbG W.gs W.as p=g) (hg:g.1=("to" : Str)):0<=g.2/\g.2<W.ss.length:=by
 unfold ZbG at e
 split at e
 . rename_i hto
   subst e
   rcases h.kst s hs p hp with ⟨_,e2⟩ | ⟨e1,_⟩
   . exact e2
   . rw [hto] at e1;exact absurd e1 (by decide +kernel)
 . split at e
   . split at e
     . split at e
       . rename_i k hk
         exact Zft h (Xah hk) e hg
       . subst e;exact absurd hg Zc7
     . subst e;exact absurd hg Zc7
   . subst e;exact absurd hg ZfU
   . subst e;exact absurd hg Zc7
structure BegOk (W:Wd) (b:Beg):Prop where
 nd:(been b).Nodup
 rng:∀ x∈been b,0<=x/\x<W.ss.length
 st:0<=b.2.2/\b.2.2<W.sts.length
theorem Zex {p:Stp} (h:p∈ZaD W sc):∃ s∈W.ss,p∈s.1:=by
 unfold ZaD at h
 split at h
 . rename_i s hs
   exact ⟨s,Xah hs,h⟩
 . cases h
variable {st:Int}
theorem Zic (h:p∈Za7 W st):∃ s∈W.sts,p∈s.1:=by
 unfold Za7 at h
 split at h
 . rename_i s hs
   exact ⟨s,Xah hs,h⟩
 . cases h
theorem ZcN (h:r∈ZbW W sc st):∃ (j:Nat) (p:Stp) (a:Int),(ZaD W sc)[j]?=some p/\goN (Za7 W st) p.1=some a/\r=((sc,("step" : Str),(j:Int)),ZbG W.gs W.as p,a):=by
 obtain ⟨j,p,a,h1,h2,h3⟩:=mem_gone0.mp h;exact ⟨j,p,a,h1,h2,by rw [h3,Nat.zero_add]⟩
theorem Zid (h:r∈ZbW W b.2.1 b.2.2):been (b.1++[r.1],r.2.1.2,r.2.2)=been b++[r.2.1.2]:=by
 obtain ⟨j,p,a,_,_,rfl⟩:=ZcN h;unfold been
 simp
theorem BegOk.kid (ok:WOk W) {c:Beg} (h:BegOk W b) (k:c∈kids W b):BegOk W c:=by
 obtain ⟨r,hr,h1,h2,rfl⟩:=mem_kids.mp k;have eb:=Zid hr;obtain ⟨j,p,a,g1,g2,rfl⟩:=ZcN hr;obtain ⟨s,hs,hp⟩:=Zex (Xah g1);refine ⟨?_,?_,?_⟩
 . rw [eb,List.nodup_append]
   exact ⟨h.nd,by simp,fun x hx y hy=>by
    rw [Xaj.mp hy]
    exact fun z=>h2 (z ▸ hx)⟩
 . rw [eb]
   intro x hx
   rcases Xaf.mp hx with hx | hx
   . exact h.rng x hx
   . rw [Xaj.mp hx]
     exact Zle ok hs hp rfl h1
 . obtain ⟨t,ht,hpt⟩:=Zic (Zhz g2)
   exact ok.go t ht _ hpt
theorem IsBeg.ok {W:Wd} (ok:WOk W) {sc st:Int} (hsc:0<=sc/\sc<W.ss.length) (hst:0<=st/\st<W.sts.length) {b:Beg} (h:IsBeg W sc st b):BegOk W b:=by
 induction h with
 | root=>exact ⟨by simp [been],fun x hx=>by simp [been] at hx;rw [hx];exact hsc,hst⟩
 | kid _ k ih=>exact ih.kid ok k
theorem IsBeg.uniq (h:IsBeg W sc st b):∀ {c:Beg},IsBeg W sc st c->b.1=c.1->b=c:=by
 induction h with
 | root =>
   intro c hc e
   cases hc with
   | root=>rfl
   | kid _ k =>
     obtain ⟨r,_,_,_,rfl⟩:=mem_kids.mp k;simp at e
 | @kid b0 b1 h0 k ih =>
   intro c hc e;obtain ⟨r,hr,h1,h2,rfl⟩:=mem_kids.mp k
   cases hc with
   | root=>simp at e
   | @kid c0 _ hc0 k' =>
     obtain ⟨r',hr',h1',h2',rfl⟩:=mem_kids.mp k';simp only at e;obtain ⟨e1,e2⟩:=List.append_inj' e rfl;have e0:=ih hc0 e1;subst e0
     have:=ZjM hr hr' (by simpa using e2)
     subst this;rfl
theorem Zbb:∀ (n:Nat) (l:List Int),l.Nodup->(∀ x∈l,0<=x/\x<(n:Int))->l.length<=n
 | 0,[],_,_=>XaW _
 | 0,x :: l,_,h=>by have:=h x Xal;omega
 | n+1,l,nd,h=>by
   have nd':(l.erase (n:Int)).Nodup:=nd.erase _
   have h':∀ x∈l.erase (n:Int),0<=x/\x<(n:Int):=fun x hx=>by
    obtain ⟨hne,hm⟩:=(nd.mem_erase_iff).mp hx
    have:=h x hm
    omega
   have:=Zbb n _ nd' h'
   have hle:l.length<=(l.erase (n:Int)).length+1:=by
    by_cases hm:(n:Int)∈l
    . rw [List.length_erase_of_mem hm];omega
    . rw [List.erase_of_not_mem hm];omega
   omega
theorem Zie (ok:WOk W) (sc:Int):(ZaD W sc).length<=8:=by
 unfold ZaD
 split
 . rename_i s hs
   exact ok.st s (Xah hs)
 . exact Xa0 _
structure Bfs (W:Wd) (sc st:Int) (F:List Beg) (p:Nat):Prop where
 root:([],sc,st)∈F
 is:∀ b∈F,IsBeg W sc st b
 nd:F.Nodup
 done:∀ (j:Nat) (b:Beg),j<p->F[j]?=some b->∀ c∈kids W b,c∈F
 src:∀ c∈F,c=([],sc,st)\/∃ (j:Nat) (b:Beg),j<p/\F[j]?=some b/\c∈kids W b
 le:p<=F.length
theorem Bfs.start (W:Wd) (sc st:Int):Bfs W sc st [([],sc,st)] 0 where
 root:=Xal
 is b hb:=by rw [Xaj.mp hb];exact .root
 nd:=by simp
 done j b hj:=by omega
 src c hc:=.inl (Xaj.mp hc)
 le:=Xa0 _
theorem Bfs.turn {F:List Beg}{p:Nat}(h:Bfs W sc st F p) (hb:F[p]?=some b):Bfs W sc st (F++kids W b) (p+1):=by
 have hpl:p<F.length:=(Xae.mp hb).1;have hbF:=Xah hb;have ib:=h.is b hbF;have at_:∀ (j:Nat),j<F.length->(F++kids W b)[j]?=F[j]?:=fun j hj=>Xat hj
 have one:∀ (j:Nat) (c:Beg),j<p+1->(F++kids W b)[j]?=some c->(j<p/\F[j]?=some c)\/c=b:=fun j c hj e=>by
  rw [at_ j (by omega)] at e
  by_cases hjp:j<p
  . exact .inl ⟨hjp,e⟩
  . have:j=p:=by omega
    subst this;rw [hb] at e;exact .inr (Xbc e).symm
 refine ⟨XaA _ h.root,fun c hc=>?_,?_,fun j c hj e d hd=>?_,fun c hc=>?_,by rw [Xac];omega⟩
 . rcases Xaf.mp hc with hc | hc
   . exact h.is c hc
   . exact .kid ib hc
 . refine List.nodup_append.mpr ⟨h.nd,kids_nd W b,fun c hc d hd e=>?_⟩
   subst e;obtain ⟨r,hr,_,_,ec⟩:=mem_kids.mp hd
   rcases h.src c hc with e0 | ⟨j,b',hj,hb',hk⟩
   . rw [e0] at ec
     have:=Xbj Prod.fst ec
     simp at this
   . obtain ⟨r',hr',_,_,ec'⟩:=mem_kids.mp hk
     have e1:b'.1=b.1:=by
      have:=Xbj Prod.fst (ec'.symm.trans ec)
      simp only at this;exact (List.append_inj' this rfl).1
     have e2:=(h.is b' (Xah hb')).uniq ib e1;subst e2;obtain ⟨q1,g1⟩:=Xae.mp hb';obtain ⟨q2,g2⟩:=Xae.mp hb
     have:=(List.getElem_inj h.nd).mp (g1.trans g2.symm)
     omega
 . rcases one j c hj e with ⟨hj',e'⟩ | rfl
   . exact XaA _ (h.done j c hj' e' d hd)
   . exact Xan _ hd
 . rcases Xaf.mp hc with hc | hc
   . rcases h.src c hc with e0 | ⟨j,b',hj,hb',hk⟩
     . exact .inl e0
     . exact .inr ⟨j,b',by omega,by rw [at_ j (by omega)];exact hb',hk⟩
   . exact .inr ⟨p,b,by omega,by rw [at_ p hpl];exact hb,hc⟩
theorem Bfs.few {W:Wd} (ok:WOk W) {sc st:Int} (hsc:0<=sc/\sc<W.ss.length) (hst:0<=st/\st<W.sts.length) {F:List Beg} {p:Nat} (h:Bfs W sc st F p):F.length<=62:=ok.few sc st F hsc hst h.nd h.is
abbrev mkE:Enc:=ZgO intE strE intE
abbrev begE:Enc:=ZgO (ZbQ mkE) intE intE
structure Begs (W:Wd) (sc st:Int) (bs:List Beg):Prop where
 mem:∀ b,b∈bs↔IsBeg W sc st b
 nd:bs.Nodup
 srt:bs.Pairwise begE.O.kle
 few:bs.length<=62
theorem Begs.uniq {l m:List Beg} (h:Begs W sc st l) (k:Begs W sc st m):l=m :=
 Zck (O:=begE.O) ((List.perm_ext_iff_of_nodup h.nd k.nd).mpr fun b=>(h.mem b).trans (k.mem b).symm) h.srt k.srt
theorem Bfs.all (ok:WOk W) (hsc:0<=sc/\sc<W.ss.length) (hst:0<=st/\st<W.sts.length) {F l:List Beg} (h:Bfs W sc st F F.length) (hp:l.Perm F) (hs:l.Pairwise begE.O.kle):Begs W sc st l:=by
 refine ⟨fun b=>?_,hp.nodup_iff.mpr h.nd,hs,by rw [hp.length_eq];exact h.few ok hsc hst⟩;rw [hp.mem_iff];refine ⟨h.is b,fun hb=>?_⟩
 induction hb with
 | root=>exact h.root
 | kid _ k ih =>
   obtain ⟨j,hj⟩:=List.getElem?_of_mem ih;exact h.done j _ (Xae.mp hj).1 hj _ k
def BgH (F:Addr->Prop) (H:Hp) (t:Addr) (b:Beg):Prop:=∃ (l:Addr) (ms:List Addr),H t=some (.tup [.ref l,.int b.2.1,.int b.2.2])/\H l=some (.lst (ms.map V.ref))/\RT mkV H ms b.1/\F l
theorem BgH.same {F:Addr->Prop}{H H':Hp}{t:Addr}{b:Beg} (e:Same H H') (h:BgH F H t b):BgH F H' t b:=by
 obtain ⟨l,ms,a1,a2,a3,a4⟩:=h;exact ⟨l,ms,e _ _ a1,e _ _ a2,a3.same e,a4⟩
theorem BgH.mono {G:Addr->Prop} {t:Addr}(e:∀ x,F x->G x) (h:BgH F H t b):BgH G H t b:=by
 obtain ⟨l,ms,a1,a2,a3,a4⟩:=h;exact ⟨l,ms,a1,a2,a3,e _ a4⟩
theorem BgH.keeps {M F:Addr->Prop}{H H':Hp}{t:Addr}{b:Beg} (k:Keeps M H H') (hF:∀ x,F x->¬M x) (h:BgH F H t b):BgH F H' t b:=by
 obtain ⟨l,ms,a1,a2,a3,a4⟩:=h;exact ⟨l,ms,k.tup a1,k.at_ _ _ a2 (hF _ a4),a3.keeps k,a4⟩
abbrev mkD (m:Mrk):Dt:=.tup [.int m.1,.str m.2.1,.int m.2.2]
theorem ZjN {K:XFg}(r:Mrk) (t:Addr) (h:H t=some (.tup (mkV r))):IsDt K H (.ref t) (mkD r):=.tup (SqT.of h) (.cons (.int _) (.cons (.str _) (.cons (.int _) .nil)))
theorem BgH.dt {K:XFg}{t:Addr}(h:BgH F H t b):IsDt K H (.ref t) (begE.D b):=by
 obtain ⟨l,ms,a1,a2,a3,a4⟩:=h;exact .tup (SqT.of a1) (.cons (.lst (SqL.of a2) (a3.dts ZjN)) (.cons (.int _) (.cons (.int _) .nil)))
def GnH (H:Hp) (t:Addr) (r:Gn):Prop:=∃ m,H t=some (.tup [.ref m,.str r.2.1.1,.int r.2.1.2,.int r.2.2])/\H m=some (.tup (mkV r.1))
theorem GnH.same {t:Addr}(e:Same H H') (h:GnH H t r):GnH H' t r:=by
 obtain ⟨m,a1,a2⟩:=h;exact ⟨m,e _ _ a1,e _ _ a2⟩
theorem GnH.keeps {M:Addr->Prop}{t:Addr}(k:Keeps M H H') (h:GnH H t r):GnH H' t r:=by
 obtain ⟨m,a1,a2⟩:=h;exact ⟨m,k.tup a1,k.tup a2⟩
structure CaseH (K:XFg) (H:Hp) (nt A t:Addr) (W:Wd):Prop where
 net:∃ (S T R:Addr) (us Gs Es ts qt:List Addr) (qs:List Qu),H nt=some (.tup [.ref S,.ref T,.ref R])/\Net3 H S T R us Gs Es ts qt W.ss W.gs qs
 ans:Ans K H A W.as
 tab:∃ (a o:Addr) (inn:V),SqT K H t [.ref a,inn,.ref o]/\Stts K H a W.sts
theorem CaseH.same {K:XFg}{H H':Hp}{nt A t:Addr}{W:Wd} (e:Same H H') (h:CaseH K H nt A t W):CaseH K H' nt A t W:=by
 obtain ⟨S,T,R,us,Gs,Es,ts,qt,qs,a1,a2⟩:=h.net;obtain ⟨a,o,inn,b1,vs,b2,b3⟩:=h.tab;exact ⟨⟨S,T,R,us,Gs,Es,ts,qt,qs,e _ _ a1,a2.same e⟩,h.ans.same e,⟨a,o,inn,e.seqT b1,vs,e.seq b2,b3.same e⟩⟩
theorem BgH.mono' {G:Addr->Prop} {t:Addr}(e:∀ x o,H x=some o->F x->G x) (h:BgH F H t b):BgH G H t b:=by
 obtain ⟨l,ms,a1,a2,a3,a4⟩:=h;exact ⟨l,ms,a1,a2,a3,e _ _ a2 a4⟩
theorem Zfu {H:Hp}:∀ {ts:List Addr}{ps:List (Str×Str)},Tups H ts ps->∃ zs:List (Row strC strC),zs.map (·.1)=ts.map V.ref/\zs.map (·.2)=ps/\∀ z∈zs,∃ t,z.1=.ref t/\H t=some (.tup [.str z.2.1,.str z.2.2])
 | [],[],_=>⟨[],rfl,rfl,fun z hz=>by cases hz⟩
 | [],_ :: _,h=>by have:=h.len;simp at this
 | _ :: _,[],h=>by have:=h.len;simp at this
 | a :: ts,p :: ps,h=>by
   obtain ⟨zs,h1,h2,h3⟩:=Zfu (ts:=ts) (ps:=ps) ⟨by simpa using h.len,fun n t p a1 a2=>h.at_ (n+1) t p (by simpa using a1) (by simpa using a2)⟩;refine ⟨(V.ref a,p) :: zs,by rw [Xao,h1];rfl,by rw [Xao,h2],fun z hz=>?_⟩
   rcases Xam.mp hz with e | hz
   . rw [e];exact ⟨a,rfl,h.at_ 0 a p rfl rfl⟩
   . exact h3 z hz
theorem Zfv {H:Hp}:∀ {zs:List (Row strC strC)},(∀ z∈zs,∃ t,z.1=.ref t/\H t=some (.tup [.str z.2.1,.str z.2.2]))->∃ ts:List Addr,zs.map (·.1)=ts.map V.ref/\Tups H ts (zs.map (·.2))
 | [],_=>⟨[],rfl,Tups.nil⟩
 | z :: zs,h=>by
   obtain ⟨ts,h1,h2⟩:=Zfv (zs:=zs) fun y hy=>h y (Xap _ hy);obtain ⟨t,e,et⟩:=h z Xal;refine ⟨t :: ts,by rw [Xao,h1,e];rfl,by simp [h2.len],fun n u p a1 a2=>?_⟩
   cases n with
   | zero=>simp at a1 a2;subst a1;subst a2;exact et
   | succ n=>exact h2.at_ n u p (by simpa using a1) (by simpa using a2)
theorem Tab.caseT {K:XFg}{t:Addr}{n:Int}{ord:List (Str×Str)} (h:Tab K F H t rs n ord):∃ (a o:Addr) (inn:V),SqT K H t [.ref a,inn,.ref o]/\Stts K H a rs:=by
 obtain ⟨a,o,us,ts,h1,_,_,_,h5,h6,_⟩:=h.ex;exact ⟨a,o,_,SqT.of h1,h6.stts h5⟩
theorem ints_in {x:Int}{l:List Int}:Dt.int x∈l.map Dt.int↔x∈l:=⟨fun h=>by
 obtain ⟨y,hy,z⟩:=Xai.mp h
 rw [<-Dt.int.inj z];exact hy,fun h=>Xai.mpr ⟨x,h,rfl⟩⟩
theorem ints_dts {K:XFg}{H:Hp}:∀ (l:List Int),IsDts K H (l.map V.int) (l.map Dt.int)
 | []=>.nil
 | x :: l=>.cons (.int x) (ints_dts l)
theorem Zey (xs:List α) (x:α):atI (xs++[x]) (-1)=some x:=by
 have e:ixN (xs++[x]).length (-1)=some xs.length:=by
  unfold ixN;rw [Xbd (by decide),Xbe (by rw [Xac,Xau];omega),Xac,Xau];congr 1;omega
 unfold atI;rw [e];show (xs++[x])[xs.length]?=some x
 simp
abbrev ZjO (sts:List Stt) (inn:Int) (ord:List (Str×Str)):Dt:=.tup [.lst (sts.map stD),.int inn,.lst (ord.map prD)]
theorem cmp_stt (s r:Stt):Cmp 4 (stD s) (stD r):=by
 refine .tup (.cons (.lst (Cmps.of fun d hd e he=>?_)) (.cons (.lst (Cmps.of fun d hd e he=>?_)) (.nil _)))
 . obtain ⟨p,_,rfl⟩:=Xai.mp hd
   obtain ⟨q,_,rfl⟩:=Xai.mp he;exact cmp_go p q
 . obtain ⟨p,_,rfl⟩:=Xai.mp hd
   obtain ⟨q,_,rfl⟩:=Xai.mp he;exact .str _ _
theorem ZjP (s r:List Stt) (m n:Int) (o u:List (Str×Str)):Cmp 6 (ZjO s m o) (ZjO r n u):=by
 refine .tup (.cons (.lst (Cmps.of fun d hd e he=>?_)) (.cons (.int _ _) (.cons (.lst (Cmps.of fun d hd e he=>?_)) (.nil _))))
 . obtain ⟨p,_,rfl⟩:=Xai.mp hd
   obtain ⟨q,_,rfl⟩:=Xai.mp he;exact cmp_stt p q
 . obtain ⟨p,_,rfl⟩:=Xai.mp hd
   obtain ⟨q,_,rfl⟩:=Xai.mp he;exact .tup (.cons (.str _ _) (.cons (.str _ _) (.nil _)))
theorem Tab.dt {K:XFg}{t:Addr}{sts:List Stt}{inn:Int}{ord:List (Str×Str)} (h:Tab K F H t sts inn ord):IsDt K H (.ref t) (ZjO sts inn ord):=by
 obtain ⟨a,o,us,ts,et,_,_,_,ea,SR,eo,TO⟩:=h.ex;exact .tup (SqT.of et) (.cons (.lst (SqL.of ea) SR.dts) (.cons (.int _) (.cons (.lst (SqL.of eo) TO.dts) .nil)))
abbrev wayE:Enc:=ZbQ mkE
def ZaG (W:Wd) (sc:Int):List Tlg:=match W.ss[sc.toNat]? with
 | some s=>s.2
 | none=>[]
def Zby (W:Wd) (st:Int):List Str:=match W.sts[st.toNat]? with
 | some s=>s.2
 | none=>[]
def Zcl (W:Wd) (b:Beg) (x:Str) (q:Tlg) (i:Nat):List (List Mrk):=if q.2.1=x/\q.1∈Zby W b.2.2 then [b.1++[(b.2.1,("told" : Str),(i:Int))]] else []
def Zbf (W:Wd) (b:Beg) (x:Str):List Tlg->Nat->List (List Mrk)
 | [],_=>[]
 | q :: r,i=>Zcl W b x q i++Zbf W b x r (i+1)
def Zay (W:Wd) (x:Str) (bs:List Beg):List (List Mrk):=bs.flatMap fun b=>Zbf W b x (ZaG W b.2.1) 0
theorem ZdO (W:Wd) (b:Beg) (x:Str) (q:Tlg):∀ (l:List Tlg) (i:Nat),Zbf W b x (l++[q]) i=Zbf W b x l i++Zcl W b x q (i+l.length)
 | [],i=>by simp [Zbf]
 | p :: l,i=>by
   show Zcl W b x p i++Zbf W b x (l++[q]) (i+1)=(Zcl W b x p i++Zbf W b x l (i+1))++_;rw [ZdO W b x q l (i+1),XaE,XaB,show i+1+l.length=i+(l.length+1) by omega]
theorem ZgP (W:Wd) (b:Beg) (x:Str):∀ (l:List Tlg) (i:Nat),(Zbf W b x l i).length<=l.length
 | [],i=>XaW _
 | q :: l,i=>by
   show (Zcl W b x q i++Zbf W b x l (i+1)).length<=_
   have h1:(Zcl W b x q i).length<=1:=by unfold Zcl;split <;> simp
   have h2:=ZgP W b x l (i+1);rw [Xac,XaB];omega
theorem ZgQ {W:Wd}{b:Beg}{x:Str}{w:List Mrk}:∀ {l:List Tlg}{i:Nat},w∈Zbf W b x l i->∃ (j:Nat) (q:Tlg),l[j]?=some q/\q.2.1=x/\q.1∈Zby W b.2.2/\w=b.1++[(b.2.1,("told" : Str),((i+j:Nat):Int))]
 | [],i,h=>by cases h
 | q :: l, i, h => by
   rcases Xaf.mp (show w∈Zcl W b x q i++Zbf W b x l (i+1) from h) with h | h
   . unfold Zcl at h
     split at h
     . rename_i hq
       exact ⟨0,q,rfl,hq.1,hq.2,Xaj.mp h⟩
     . cases h
   . obtain ⟨j,q',h1,h2,h3,h4⟩:=ZgQ h
     exact ⟨j+1,q',by simpa using h1,h2,h3,by rw [h4,show i+1+j=i+(j+1) by omega]⟩
theorem Zez {bs:List Beg}{w:List Mrk} (h:w∈Zay W x bs):∃ b∈bs,∃ (j:Nat) (q:Tlg),(ZaG W b.2.1)[j]?=some q/\q.2.1=x/\q.1∈Zby W b.2.2/\w=b.1++[(b.2.1,("told" : Str),(j:Int))]:=by
 obtain ⟨b,hb,hw⟩:=List.mem_flatMap.mp h;obtain ⟨j,q,h1,h2,h3,h4⟩:=ZgQ hw;exact ⟨b,hb,j,q,h1,h2,h3,by rw [h4,Nat.zero_add]⟩
theorem ZfV {α:Type}{f:Beg->List α}{k:Nat}:∀ (bs:List Beg),(∀ b,(f b).length<=k)->(bs.flatMap f).length<=bs.length * k
 | [],_=>by simp
 | b :: bs,h=>by
   rw [List.flatMap_cons,Xac,XaB,Nat.succ_mul]
   have:=h b
   have:=ZfV bs h
   omega
structure Fnd (W:Wd) (x:Str) (bs:List Beg) (ws:List (List Mrk)):Prop where
 perm:ws.Perm (Zay W x bs)
 srt:ws.Pairwise wayE.O.kle
theorem Fnd.uniq {bs:List Beg}{l m:List (List Mrk)} (h:Fnd W x bs l) (k:Fnd W x bs m):l=m:=Zck (O:=wayE.O) (h.perm.trans k.perm.symm) h.srt k.srt
def WyH (F:Addr->Prop) (H:Hp) (l:Addr) (w:List Mrk):Prop:=∃ ms:List Addr,H l=some (.lst (ms.map V.ref))/\RT mkV H ms w/\F l
theorem WyH.same {F:Addr->Prop}{H H':Hp}{t:Addr}{b:List Mrk} (e:Same H H') (h:WyH F H t b):WyH F H' t b:=by
 obtain ⟨ms,a2,a3,a4⟩:=h;exact ⟨ms,e _ _ a2,a3.same e,a4⟩
theorem WyH.mono' {G:Addr->Prop} {t:Addr}{b:List Mrk} (e:∀ x o,H x=some o->F x->G x) (h:WyH F H t b):WyH G H t b:=by
 obtain ⟨ms,a2,a3,a4⟩:=h;exact ⟨ms,a2,a3,e _ _ a2 a4⟩
theorem WyH.keeps {M F:Addr->Prop}{H H':Hp}{t:Addr}{b:List Mrk} (k:Keeps M H H') (hF:∀ x,F x->¬M x) (h:WyH F H t b):WyH F H' t b:=by
 obtain ⟨ms,a2,a3,a4⟩:=h;exact ⟨ms,k.at_ _ _ a2 (hF _ a4),a3.keeps k,a4⟩
theorem WyH.dt {K:XFg}{t:Addr}{b:List Mrk} (h:WyH F H t b):IsDt K H (.ref t) (wayE.D b):=by
 obtain ⟨ms,a2,a3,_⟩:=h;exact .lst (SqL.of a2) (a3.dts ZjN)
theorem Zif {K:XFg}{H:Hp}{F:Addr->Prop}:∀ {zs:List (Addr×List Mrk)},(∀ z∈zs,WyH F H z.1 z.2)->IsDts K H (zs.map fun z=>V.ref z.1) ((zs.map (·.2)).map wayE.D)
 | [],_=>.nil
 | z :: zs,h=>.cons (h z Xal).dt (Zif fun y hy=>h y (Xap _ hy))
theorem ZdP {c:Enc}{zs:List (Addr×c.O.α)} {zs':List (RowE c)} (hp:zs'.Perm (zs.map fun z=>((V.ref z.1,z.2):RowE c))) :
 ∃ ws:List (Addr×c.O.α),zs'.map (·.1)=(ws.map fun z=>V.ref z.1)/\zs'.map (·.2)=ws.map (·.2)/\(ws.map (·.2)).Perm (zs.map (·.2))/\∀ z∈ws,z∈zs:=by
 have:∀ {l:List (RowE c)},(∀ y∈l,y∈zs.map fun z=>((V.ref z.1,z.2):RowE c))->∃ ws:List (Addr×c.O.α),l=ws.map fun z=>(V.ref z.1,z.2):=by
  intro l
  induction l with
  | nil=>exact fun _=>⟨[],rfl⟩
  | cons y l ih =>
    intro h;obtain ⟨ws,rfl⟩:=ih fun z hz=>h z (Xap _ hz);obtain ⟨z,_,rfl⟩:=Xai.mp (h y Xal);exact ⟨z :: ws,rfl⟩
 obtain ⟨ws,rfl⟩:=this fun y hy=>hp.mem_iff.mp hy;refine ⟨ws,by rw [Xax];rfl,by rw [Xax];rfl,?_,fun z hz'=>?_⟩
 . have:=hp.map (·.2)
   rw [Xax,Xax] at this;exact this
 . have:=hp.mem_iff.mp (Xai.mpr ⟨z,hz',rfl⟩)
   obtain ⟨y,hy,e⟩:=Xai.mp this
   injection e with e1 e2
   have:y=z:=Prod.ext (V.ref.inj e1) e2
   rw [<-this];exact hy
abbrev owE:Enc:=Zhv (ZbQ mkE) intE
abbrev Ow:Type:=List Mrk×Int
def ow (b:Beg) (r:Gn):Option Ow:=if r.2.1.1=("open" : Str) then some (b.1++[r.1],r.2.1.2) else none
def Zcd (W:Wd) (bs:List Beg):List Ow:=bs.flatMap fun b=>(ZbW W b.2.1 b.2.2).filterMap (ow b)
theorem Zig {bs:List Beg}{w:Ow} (h:w∈Zcd W bs):∃ b∈bs,∃ (j:Nat) (p:Stp) (a:Int),(ZaD W b.2.1)[j]?=some p/\goN (Za7 W b.2.2) p.1=some a/\(ZbG W.gs W.as p).1=("open" : Str)/\w=(b.1++[(b.2.1,("step" : Str),(j:Int))],(ZbG W.gs W.as p).2):=by
 obtain ⟨b,hb,hw⟩:=List.mem_flatMap.mp h;obtain ⟨r,hr,e⟩:=List.mem_filterMap.mp hw;obtain ⟨j,p,a,h1,h2,rfl⟩:=ZcN hr;unfold ow at e
 split at e
 . rename_i ho
   exact ⟨b,hb,j,p,a,h1,h2,ho,(Xbc e).symm⟩
 . cases e
structure Owd (W:Wd) (bs:List Beg) (ws:List Ow):Prop where
 perm:ws.Perm (Zcd W bs)
 srt:ws.Pairwise owE.O.kle
theorem Owd.uniq {bs:List Beg}{l m:List Ow} (h:Owd W bs l) (k:Owd W bs m):l=m:=Zck (O:=owE.O) (h.perm.trans k.perm.symm) h.srt k.srt
def OwH (F:Addr->Prop) (H:Hp) (t:Addr) (p:Ow):Prop:=∃ (l:Addr) (ms:List Addr),H t=some (.tup [.ref l,.int p.2])/\H l=some (.lst (ms.map V.ref))/\RT mkV H ms p.1/\F l
theorem OwH.same {F:Addr->Prop}{H H':Hp}{t:Addr}{b:Ow} (e:Same H H') (h:OwH F H t b):OwH F H' t b:=by
 obtain ⟨l,ms,a1,a2,a3,a4⟩:=h;exact ⟨l,ms,e _ _ a1,e _ _ a2,a3.same e,a4⟩
theorem OwH.mono' {G:Addr->Prop} {t:Addr}{b:Ow} (e:∀ x o,H x=some o->F x->G x) (h:OwH F H t b):OwH G H t b:=by
 obtain ⟨l,ms,a1,a2,a3,a4⟩:=h;exact ⟨l,ms,a1,a2,a3,e _ _ a2 a4⟩
theorem OwH.keeps {M F:Addr->Prop}{H H':Hp}{t:Addr}{b:Ow} (k:Keeps M H H') (hF:∀ x,F x->¬M x) (h:OwH F H t b):OwH F H' t b:=by
 obtain ⟨l,ms,a1,a2,a3,a4⟩:=h;exact ⟨l,ms,k.tup a1,k.at_ _ _ a2 (hF _ a4),a3.keeps k,a4⟩
theorem OwH.dt {K:XFg}{t:Addr}{b:Ow} (h:OwH F H t b):IsDt K H (.ref t) (owE.D b):=by
 obtain ⟨l,ms,a1,a2,a3,_⟩:=h;exact .tup (SqT.of a1) (.cons (.lst (SqL.of a2) (a3.dts ZjN)) (.cons (.int _) .nil))
theorem ZjQ {bs:List Beg}(h:bs[i]?=some b):Zcd W (bs.take (i+1))=Zcd W (bs.take i)++(ZbW W b.2.1 b.2.2).filterMap (ow b):=by
 rw [Xar,h];show (bs.take i++[b]).flatMap _=_;rw [List.flatMap_append];simp [Zcd]
theorem fm_one {β:Type} (f:α->Option β) (l:List α) (x:α):(l++[x]).filterMap f=l.filterMap f++(f x).toList:=by
 rw [List.filterMap_append]
 cases e:f x <;> simp [e]
theorem ow_some (h:r.2.1.1=("open" : Str)):ow b r=some (b.1++[r.1],r.2.1.2):=Xbe h
theorem ow_none (h:r.2.1.1≠("open" : Str)):ow b r=none:=Xbd h
structure Small (W:Wd):Prop where
 tl:∀ s∈W.ss,∀ p∈s.2,tlOk W.gs.length W.as.length p
 fnd:∀ (x:Str) (sc st:Int) (bs:List Beg),(0<=sc/\sc<W.ss.length)->(0<=st/\st<W.sts.length)->Begs W sc st bs->(Zay W x bs).length<=62
 owd:∀ (sc st:Int) (bs:List Beg),(0<=sc/\sc<W.ss.length)->(0<=st/\st<W.sts.length)->Begs W sc st bs->(Zcd W bs).length<=62
def ZbH (ss:List Sco) (m:Mrk):Str:=match ss[m.1.toNat]? with
 | some s=>if m.2.1=("step" : Str) then (match s.1[m.2.2.toNat]? with
   | some p=>p.1
   | none=>default) else (match s.2[m.2.2.toNat]? with
   | some p=>p.1
   | none=>default)
 | none=>default
def MkOk (ss:List Sco) (m:Mrk):Prop:=∃ (n k:Nat) (s:Sco),m.1=(n:Int)/\m.2.2=(k:Int)/\ss[n]?=some s/\((m.2.1=("step" : Str)/\k<s.1.length)\/(m.2.1=("told" : Str)/\k<s.2.length))
theorem Zih {m:Mrk}{p:Stp} (h1:m.1=(n:Int)) (h2:m.2.2=(k:Int)) (hs:ss[n]?=some s) (hk:m.2.1=("step" : Str)) (hp:s.1[k]?=some p):ZbH ss m=p.1:=by
 unfold ZbH;rw [h1,h2,Xa4,Xa4,hs];dsimp only;rw [Xbe hk,hp]
theorem Zii {m:Mrk}{p:Tlg} (h1:m.1=(n:Int)) (h2:m.2.2=(k:Int)) (hs:ss[n]?=some s) (hk:m.2.1≠("step" : Str)) (hp:s.2[k]?=some p):ZbH ss m=p.1:=by
 unfold ZbH;rw [h1,h2,Xa4,Xa4,hs];dsimp only;rw [Xbd hk,hp]
theorem Zce:("told" : Str)≠("step" : Str):=by decide +kernel
theorem Zlf:("step" : Str)≠("told" : Str):=by decide +kernel
open Classical in
noncomputable def ZaO (ss:List Sco) (ord:List (Str×Str)):List Mrk->List Mrk->Bool
 | m :: ms,q :: qs=>if m=q then ZaO ss ord ms qs else dec ((ZbH ss m,ZbH ss q)∈ord)
 | _,_=>false
theorem ZeA (ss:List Sco) (ord:List (Str×Str)) (m:Mrk) (ms qs:List Mrk):ZaO ss ord (m :: ms) (m :: qs)=ZaO ss ord ms qs:=by
 rw [ZaO];exact Xbe rfl
theorem ZgR (ss:List Sco) (ord:List (Str×Str)) {m q:Mrk} (ms qs:List Mrk) (h:m≠q):ZaO ss ord (m :: ms) (q :: qs)=dec ((ZbH ss m,ZbH ss q)∈ord):=by
 rw [ZaO];exact Xbd h
theorem ZdQ (ss:List Sco) (ord:List (Str×Str)):∀ {l m:List Mrk},l=[]\/m=[]->ZaO ss ord l m=false
 | [],_,_=>by rw [ZaO];intros;simp at *
 | _ :: _,[],_=>by rw [ZaO];intros;simp at *
 | _ :: _,_ :: _,h=>by simp at h
theorem Zdk (ss:List Sco) (ord:List (Str×Str)):∀ {l m:List Mrk} {i:Nat},(∀ j,j<i->l[j]?=m[j]?)->i<=l.length->i<=m.length->ZaO ss ord l m=ZaO ss ord (l.drop i) (m.drop i)
 | _,_,0,_,_,_=>rfl
 | [],_,i+1,_,h,_=>by simp at h
 | _ :: _,[],i+1,_,_,h=>by simp at h
 | x :: l,y :: m,i+1,h,h1,h2=>by
   have e:x=y:=by simpa using h 0 (by omega)
   subst e;rw [ZeA,List.drop_succ_cons,List.drop_succ_cons];exact Zdk ss ord (fun j hj=>by simpa using h (j+1) (by omega)) (by simpa using h1) (by simpa using h2)
theorem ZeB (ok:WOk W) (hsc:0<=sc/\sc<W.ss.length) (hst:0<=st/\st<W.sts.length) (h:IsBeg W sc st b):∀ m∈b.1,MkOk W.ss m:=by
 induction h with
 | root=>intro m hm;cases hm
 | @kid b0 b1 h0 k ih =>
   obtain ⟨r,hr,_,_,rfl⟩:=mem_kids.mp k;intro m hm
   rcases Xaf.mp hm with hm | hm
   . exact ih m hm
   . rw [Xaj.mp hm]
     have hb:=h0.ok ok hsc hst;have hs:=hb.rng b0.2.1 (by unfold been;simp);obtain ⟨j,p,a,g1,_,rfl⟩:=ZcN hr;obtain ⟨n,hn⟩:=Xa3 hs.1
     have hnl:n<W.ss.length:=by omega
     have g4:=Xab hnl
     have eS:ZaD W b0.2.1=W.ss[n].1:=by unfold ZaD;rw [hn,Xa4,g4]
     rw [eS] at g1;exact ⟨n,j,_,hn,rfl,g4,.inl ⟨rfl,(Xae.mp g1).1⟩⟩
theorem Zdl (ok:WOk W) (hsc:0<=sc/\sc<W.ss.length) (hst:0<=st/\st<W.sts.length) {bs:List Beg} (hB:Begs W sc st bs) {w:List Mrk} (hw:w∈Zay W x bs):(∀ m∈w,MkOk W.ss m)/\w.length<=100:=by
 obtain ⟨b,hb,j,q,g1,_,_,rfl⟩:=Zez hw;have ib:=(hB.mem b).mp hb;have hk:=ib.ok ok hsc hst;have hs:=hk.rng b.2.1 (by unfold been;simp);refine ⟨fun m hm=>?_,?_⟩
 . rcases Xaf.mp hm with hm | hm
   . exact ZeB ok hsc hst ib m hm
   . rw [Xaj.mp hm]
     obtain ⟨n,hn⟩:=Xa3 hs.1
     have hnl:n<W.ss.length:=by omega
     have g4:=Xab hnl
     have eS:ZaG W b.2.1=W.ss[n].2:=by unfold ZaG;rw [hn,Xa4,g4]
     rw [eS] at g1;exact ⟨n,j,_,hn,rfl,g4,.inr ⟨rfl,(Xae.mp g1).1⟩⟩
 . have:=Zbb W.ss.length (been b) hk.nd hk.rng
   rw [show (been b).length=b.1.length+1 by unfold been;simp] at this
   have:=ok.s5
   rw [Xac,Xau];omega
theorem ZiS (ok:WOk W) (hsc:0<=sc/\sc<W.ss.length) (hst:0<=st/\st<W.sts.length) {bs:List Beg} (hB:Begs W sc st bs) {w:Ow} (hw:w∈Zcd W bs):(∀ m∈w.1,MkOk W.ss m)/\w.1.length<=100:=by
 obtain ⟨b,hb,j,p,a,g1,_,_,rfl⟩:=Zig hw;have ib:=(hB.mem b).mp hb;have hk:=ib.ok ok hsc hst;have hs:=hk.rng b.2.1 (by unfold been;simp);refine ⟨fun m hm=>?_,?_⟩
 . rcases Xaf.mp hm with hm | hm
   . exact ZeB ok hsc hst ib m hm
   . rw [Xaj.mp hm]
     obtain ⟨n,hn⟩:=Xa3 hs.1
     have hnl:n<W.ss.length:=by omega
     have g4:=Xab hnl
     have eS:ZaD W b.2.1=W.ss[n].1:=by unfold ZaD;rw [hn,Xa4,g4]
     rw [eS] at g1;exact ⟨n,j,_,hn,rfl,g4,.inl ⟨rfl,(Xae.mp g1).1⟩⟩
 . have:=Zbb W.ss.length (been b) hk.nd hk.rng
   rw [show (been b).length=b.1.length+1 by unfold been;simp] at this
   have:=ok.s5
   show (b.1++[(b.2.1,("step" : Str),(j:Int))]).length<=100
   rw [Xac,Xau];omega
theorem Zlg (h:n<=40000):n<sizeLine:=Nat.lt_of_le_of_lt h (by decide)
def ZeC (ss:List Sco) (w:List Mrk):Prop:=(∀ m∈w,MkOk ss m)/\w.length<=100
end L2
namespace PySem
section
variable {prog:Program} {w:World} {K:Type} [DecidableEq K] {knd:HeapKind prog w K} {A:Around} {E:Value->Shared->Prop} {s:Shared}
theorem ZeD {d a:Addr}{xs:List (K×Addr×Value)} {k:K} {v:Value} {Q:Value->Shared->Prop} (hu:knd.room A) (hkey:knd.is s.heap k a) (hm:s.heap.DictOfH knd d xs)
 (h1:∀ p,atKey xs k=some p->Q p.2 { s with toks:=s.toks+knd.draws k })
 (h2:atKey xs k=none->∀ h',h'.DictOfH knd d (storedH xs k a v)->Heap.SameBut d s.heap h'->Q v { s with heap:=h',toks:=s.toks+knd.draws k })
 (hsz:xs.length<=sizeLine:=by size_fits) :
 wpAny (model prog w) A (dictSetDefault d (.ref a) v) Q E s:=by
 obtain ⟨o,es,ep,ho,hc,hd,he,his,hn⟩:=hm;unfold dictSetDefault
 try with_reducible refine Xbm ?_
 refine Xbk (knd.pyHash hu hkey ?_);refine Xbk (wpAny_dictFind_heap (s:={ s with toks:=s.toks+knd.draws k }) hu hkey ho hd he his hn ?_ ?_)
 . intro hno
   have hnot:k ∉ xs.map (·.1):=not_mem_keys_of_get hno
   refine Xbk (Xbw (Xbk (wpAny_updateDictKeys (hz:=by have e:=size_of_entries he;omega) (s:={ s with toks:=s.toks+knd.draws k }) ho hd (Xbl (h2 (atKey_none_of_get hno) _ ⟨_,_,ep+1,Heap.get?_update_self _ ho (Obj.isFreed_of_dict (Obj.data_mapDictKeys hd _)),
    hc.mapDictKeys _,Obj.data_mapDictKeys hd _,?_,?_,?_⟩ (Heap.SameBut.update ..))))))
   . rw [storedH_new (atKey_none_of_get hno)]
     simp [he,entryOfKey]
   . rw [storedH_new (atKey_none_of_get hno)]
     intro x hx
     rcases Xaf.mp hx with hx | hx
     . exact knd.keeps (his x hx) ho hd (Heap.SameBut.update ..)
     . simp only [Xaj] at hx
       subst hx;exact knd.keeps hkey ho hd (Heap.SameBut.update ..)
   . rw [storedH_new (atKey_none_of_get hno)]
     rw [Xad,List.nodup_append];refine ⟨hn,by simp,?_⟩;intro x hx y hy;simp only [Xao,XaO,Xaj] at hy;subst hy;exact fun e=>hnot (e ▸ hx)
 . intro j p hj
   refine Xbk (wpAny_dictEntries (s:={ s with toks:=s.toks+knd.draws k }) ho hd ?_);rw [entry_at he j,hj];exact Xbk (Xbw (Xbl (h1 p (atKey_of_get hn hj))))
theorem ZdR (d a:Addr) (hd:(d == sysModules)=false) (dflt:Value) :
 MeetsIn prog w (Builtin.«dict.setdefault» ⟨[.ref d,.ref a,dflt],[]⟩) (fun A R s=>knd.room A.in1/\∃ k xs,knd.is s.heap k a/\s.heap.DictOfH knd d xs/\xs.length<=sizeLine /\
  (∀ p,atKey xs k=some p->R (.ok (.ret p.2)) { s with toks:=s.toks+knd.draws k }) /\
  (atKey xs k=none->∀ h',h'.DictOfH knd d (storedH xs k a dflt)->Heap.SameBut d s.heap h'->R (.ok (.ret dflt)) { s with heap:=h',toks:=s.toks+knd.draws k })) :=
 .of_wp fun A R s hyp=>by
  obtain ⟨hu,k,xs,hkey,hm,hz,h1,h2⟩:=hyp;unfold Builtin.«dict.setdefault»;refine Xbk ?_;unfold Builtin.Dict.keyAndDefault;refine Xbk (wpAny_notOrdered_dict hm.typeIs ?_);show wpAny _ _ (pure (d,Value.ref a,some dflt)) _ _ s;refine Xbl ?_;show wpAny _ _ (if (d == sysModules)=true then _ else (dictSetDefault d (.ref a) dflt >>= _)) _ _ s;rw [Xbd (by rw [hd];exact Xbb)];exact Xbk (ZeD (hsz:=hz) hu hkey hm (fun p hp=>Xbl ⟨p.2,rfl,h1 p hp⟩) fun hn h' hm' hs'=>Xbl ⟨dflt,rfl,h2 hn h' hm' hs'⟩)
end
section
variable {prog:Program} {w:World} {A:Around} {E:Value->Shared->Prop} {s:Shared}
variable {d:Addr}{es:Array DictEntry}{ep:Nat}
theorem ZgS {o:Obj}{Q:Value->Shared->Prop} (hd:(d == sysModules)=false) (ho:s.heap.get? d=some o) (hc:o.ExactDict) (hdat:o.data=.dict es ep)
 (hQ:Q (.ref s.heap.objs.size) { s with heap:=s.heap.push { cls:=.type "dict_keyiterator",data:=.fields #[.ref d,.int 0 0,.int es.size 0,.int ep 0] } }) :
 wpAny (model prog w) A (pyIter (.ref d)) Q E s:=by
 have hT:s.TypeIs (.ref d) "dict" := ⟨o,ho,hc.1⟩
 refine wpAny_pyIter_slot hT F.slot_dict_iter (wpAny_call_entry F.slot_dict_iter hT F.entry_dict_iter ?_ (F.args_dict_iter_1 _));unfold Builtin.«dict.__iter__»;refine Xbk ?_;unfold Builtin.Dict.dictSlotNone;refine Xbk (wpAny_notOrdered_dict hT ?_);show wpAny _ _ (pure (Value.ref d)) _ _ s;refine Xbl ?_;show wpAny _ _ (Builtin.Dict.showsAll d >>= _) _ _ s;unfold Builtin.Dict.showsAll;rw [Xbd (by rw [hd];exact Xbb)];refine Xbk (Xbl ?_);refine Xbk (wpAny_dictEntries ho hdat ?_);refine Xbk (wpAny_dictEpoch ho hdat ?_)
 refine Xbk (wpAny_newObj_type (Xbl ⟨_,rfl, "dict_keyiterator",_,⟨_,Xbq _ rfl,rfl⟩,F.slot_dict_keyiterator_next.lookup,?_⟩))
 simpa [rawInt] using hQ
theorem ZgT {it:Addr} {i:Nat} {od:Obj}{Q:Option Value->Shared->Prop} (hit:s.heap.IsKeyIter it d i es.size ep)
 (hod:s.heap.get? d=some od) (hdd:od.data=.dict es ep) (hlt':i<es.size)
 (hQ:∀ h',h'.IsKeyIter it d (i+1) es.size ep->Heap.SameBut it s.heap h'->Q (some es[i].key) { s with heap:=h' }) :
 wpAny (model prog w) A (pyNext (.ref it)) Q E s:=by
 obtain ⟨o,ho,hc,hd⟩:=id hit;unfold pyNext
 refine Xbk (wpAny_attempt (wpAny_callSpecial?_slot (name:=Str.ofString "__next__") hit.typeIs F.slot_dict_keyiterator_next
  (wpAny_call_entry F.slot_dict_keyiterator_next hit.typeIs F.entry_dict_keyiterator_next ?_ (F.args_dict_keyiterator_next_1 _))))
 refine Xbk (Xbl ?_);refine Xbk ?_;refine Xbk ?_
 first | refine Xbk (wpAny_typeNameOfWhole_keyiter hit.typeIs (Xbl ?_)) | refine Xbk (wpAny_typeNameOf_keyiter hit.typeIs (Xbl ?_))
 refine Xbk (wpAny_fieldsOf ho hd ?_)
 have hown:Builtin.Dict_items.ownsTuple "dict_keyiterator" = false:=by decide
 simp only [hown,Xbh,if_false];show wpAny _ _ (if (Value.ref d == Value.none)=true then _ else _) _ _ s;rw [Xbd (show ¬((Value.ref d == Value.none)=true) from Xbb)];refine Xbk (Xbl ?_);refine Xbk (wpAny_dictEntries hod hdd ?_);rw [Xbd (by simp)];refine Xbk (Xbl ?_);refine Xbk (wpAny_dictEpoch hod hdd ?_);rw [Xbd (by simp)];refine Xbl ?_;simp only [show ¬((i:Int)<0) from by omega,if_false,Xa4,Array.getElem?_eq_getElem hlt'];refine Xbk ?_
 first | refine Xbk (wpAny_typeNameOfWhole_keyiter hit.typeIs (Xbl ?_)) | refine Xbk (wpAny_typeNameOf_keyiter hit.typeIs (Xbl ?_))
 refine Xbk (wpAny_isOneOf_keyiter hit.typeIs ?_);show wpAny _ _ (setField (.ref it) 1 (rawInt ((i:Int)+1)) >>= _) _ _ s;refine Xbk (wpAny_setField ho hd (by simp) ?_)
 have hit':(s.heap.update it (Obj.mapFields (·.setIfInBounds 1 (rawInt ((i:Int)+1))))).IsKeyIter it d (i+1) es.size ep :=
  ⟨_,Heap.get?_update_self _ ho (Obj.isFreed_of_fields (Obj.data_mapFields hd _)),(Obj.cls_mapFields ..).trans hc,by rw [Obj.data_mapFields hd];simp [rawInt]⟩
 refine Xbk (Xbm ?_);refine Xbk (wpAny_isOneOf_keyiter (s:={ s with heap:=s.heap.update it (Obj.mapFields (·.setIfInBounds 1 (rawInt ((i:Int)+1)))) }) hit'.typeIs ?_);show wpAny _ _ (pure es[i].key) _ _ _;exact Xbl (Xbl ⟨_,rfl,Xbl (hQ _ hit' (Heap.SameBut.update ..))⟩)
theorem ZfW {it:Addr} {i:Nat} {od:Obj}{Q:Option Value->Shared->Prop} (hh:A.handled=none) (hit:s.heap.IsKeyIter it d i es.size ep)
 (hod:s.heap.get? d=some od) (hdd:od.data=.dict es ep) (hge:es.size<=i)
 (hQ:∀ h',Heap.ExtBut it s.heap h'->Q none { s with heap:=h' }):wpAny (model prog w) A (pyNext (.ref it)) Q E s:=by
 obtain ⟨o,ho,hc,hd⟩:=id hit;unfold pyNext
 refine Xbk (wpAny_attempt (wpAny_callSpecial?_slot (name:=Str.ofString "__next__") hit.typeIs F.slot_dict_keyiterator_next
  (wpAny_call_entry F.slot_dict_keyiterator_next hit.typeIs F.entry_dict_keyiterator_next ?_ (F.args_dict_keyiterator_next_1 _))))
 refine Xbk (Xbl ?_);refine Xbk ?_;refine Xbk ?_
 first | refine Xbk (wpAny_typeNameOfWhole_keyiter hit.typeIs (Xbl ?_)) | refine Xbk (wpAny_typeNameOf_keyiter hit.typeIs (Xbl ?_))
 refine Xbk (wpAny_fieldsOf ho hd ?_)
 have hown:Builtin.Dict_items.ownsTuple "dict_keyiterator" = false:=by decide
 simp only [hown,Xbh,if_false];show wpAny _ _ (if (Value.ref d == Value.none)=true then _ else _) _ _ s;rw [Xbd (show ¬((Value.ref d == Value.none)=true) from Xbb)];refine Xbk (Xbl ?_);refine Xbk (wpAny_dictEntries hod hdd ?_);rw [Xbd (by simp)];refine Xbk (Xbl ?_);refine Xbk (wpAny_dictEpoch hod hdd ?_);rw [Xbd (by simp)];refine Xbl ?_;simp only [show ¬((i:Int)<0) from by omega,if_false,Xa4,Array.getElem?_eq_none hge];refine Xbk ?_
 first | refine Xbk (wpAny_typeNameOfWhole_keyiter hit.typeIs (Xbl ?_)) | refine Xbk (wpAny_typeNameOf_keyiter hit.typeIs (Xbl ?_))
 show wpAny _ _ (setField (.ref it) 0 .none >>= _) _ _ s;refine Xbk (wpAny_setField ho hd (by simp) ?_)
 show wpAny _ _ (newExc (.type "StopIteration") [] >>= _) _ _ _
 refine Xbk ?_;simp only [newExc,newTuple];refine Xbk (wpAny_newObj_type ?_ (by size_fits));refine Xbk (m:=firstArgMember _ _) (wpAny_of_eq (a:=Value.none) (by first | rfl | (simp only [firstArgMember];rfl)) ?_);refine wpAny_newObj_type ?_ (by size_fits);simp only [raiseNew];refine Xbk (wpAny_handled ?_);rw [show A.in1.handled=none from hh];refine Xbk (Xbl (wpAny_throw ?_))
 refine Xbk (wpAny_isInstance (T := "StopIteration") (b:=true) ⟨_,Xbq _ rfl,rfl⟩ isSubtype_stop ?_)
 exact Xbl (hQ _ (((Heap.SameBut.update ..).extBut.push _).push _))
end
end PySem
namespace L2
open PySem PySem.Spec PyProof.Rows
section
variable {X:Cx}
def rSetT:V->List V->Hp->VK->Prop:=fun x vs H Q=>∃ a kvs k b d,x=.ref a/\vs=[.ref b,d]/\H a=some (.dT kvs)/\H b=some (.tup (k.map kV))/\kvs.length<sizeLine/\(∀ v,valV kvs k=some v->Q v H)/\(valV kvs k=none->Q d (upd H a (.dT (putK kvs k d))))
theorem Zlh (hu:X.A.units+1<cLine):MtR X "dict.setdefault" rSetT:=by
 intro pins s σ H x vs v us Q I rx rv h;obtain ⟨a,kvs,k,b,d,rfl,rfl,hd,hb,hz,q1,q2⟩:=h;cases rx;obtain ⟨u,r,rfl,ru,rr⟩:=Zgv rv;cases (show u=Value.ref b from ru);obtain ⟨z,hm,xs,rel,dd⟩:=dt_of I.hok hd
 have hl:xs.length<=sizeLine:=by rw [<-Paired.length rel];exact z
 have hv:=rel.val k
 refine call_meetsIn PySem.F.slot_dict_setdefault dd.typeIs PySem.F.entry_dict_setdefault (PySem.F.args_dict_setdefault_3 _ _ _) (ZdR (knd:=tupleKind (Za5 X.prog X.w)) a b hm r)
  ⟨tupleKind_room_in1 hu,k,xs,Zfn I.hok hb,dd,hl,fun y hy=>?_,fun hn h' dd' hs=>?_⟩
 . rw [hy] at hv
   cases e:valV kvs k with
   | none=>rw [e] at hv;exact False.elim hv
   | some v0 =>
     rw [e] at hv;exact ⟨v0,H,I.tok _,hv,q1 v0 e⟩
 . rw [hn] at hv
   cases e:valV kvs k with
   | some v0=>rw [e] at hv;exact False.elim hv
   | none =>
     have hl:(putK kvs k d).length<=sizeLine:=by have:=Zer kvs k d;omega
     obtain ⟨q,es,ep,hq,h2,h3,h4,_,h5⟩:=dd';refine ⟨d,_,Zjw (ob:=.dT (putK kvs k d)) I (by rw [hd];exact True.intro) hs ⟨q,hq⟩ ⟨hl,hm,_,(rel.put k hb rr).keeps fun c ys ec=>?_,q,es,ep,hq,h2,h3,h4,h5⟩,rr,q2 e⟩
     rw [Zal (Zjc ec hd (fun z=>nomatch z))]
     exact ec
def Frz (H H1 H2:Hp):Prop:=∀ b,H2 b=H1 b\/H b=none/\∃ kvs o,H1 b=some (.dT kvs)/\H2 b=some (.frz o (.dT kvs))
theorem Inv.frz {pins:List (Addr×Obj)} {s:Shared} {σ:St} {H H2:Hp} (I:Inv X pins σ H s) (h:∀ b,H2 b=H b\/∃ kvs o,s.heap.get? b=some o/\H b=some (.dT kvs)/\H2 b=some (.frz o (.dT kvs))):Inv X pins σ H2 s:=by
 have same:∀ b u,H b=some u->(∀ kvs,u≠.dT kvs)->H2 b=some u:=fun b u e n=>by
  rcases h b with z | ⟨kvs,o,_,z,_⟩
  . rw [z];exact e
  . rw [e] at z;cases z;exact absurd rfl (n kvs)
 refine I.step (g':=s.gens) (t':=s.toks) (d':=s.drawn) (h':=s.heap) (ch:=[]) (fun b hb=>nomatch hb) (fun b o _ _ _ z _=>z) (fun b o _ _ _ z _=>⟨o.slots,z⟩) (fun b o _ _ n=>?_) (fun b o _ z=>⟨o,z⟩)
  (fun b xs z=>same b _ z fun _ q=>nomatch q) (fun b o u z=>same b _ z fun _ q=>nomatch q) (fun b ps z=>⟨#[],by rw [same b _ z fun _ q=>nomatch q];simp⟩) (fun m hm=>hm) (fun b u z=>?_) I.bare
 . rcases h b with z | ⟨kvs,o,_,z,_⟩
   . rw [z];exact n
   . rw [n] at z;cases z
 . have st:∀ {v:HO},H b=some v->ObjOk X.prog X.w H2 s.heap b v:=fun {v} e=>(I.hok b v e).stay (fun _ _ _ q=>q) (fun c q=>same c _ q fun _ q=>nomatch q) fun c xs q=>same c _ q fun _ q=>nomatch q
   rcases h b with y | ⟨kvs,o,g,y,y2⟩
   . rw [y] at z;exact st z
   . rw [y2] at z;cases z;exact ⟨g,st y⟩
def tFrz (t:TE):TE:=fun σ H Q=>t σ H fun v H1=>∀ H2,Frz H H1 H2->(∀ b kvs,H b=none->H1 b=some (.dT kvs)->∃ o,H2 b=some (.frz o (.dT kvs)))->Q v H2
theorem pe_frz {e:Expr}{t:TE} (he:PE X e t):PE X e (tFrz t):=by
 intro pins s σ H Q I h;refine thn (he pins s σ H _ I h) fun u s1 ⟨x,H1,I1,r1,q1⟩=>?_
 classical
 let H2:Hp:=fun b=>if H b=none then (match H1 b,s1.heap.get? b with
  | some (.dT kvs),some o=>some (.frz o (.dT kvs))
  | z,_=>z) else H1 b
 have key : ∀ b, H2 b = H1 b \/ H b = none /\ ∃ kvs o, s1.heap.get? b = some o /\ H1 b = some (.dT kvs) /\ H2 b = some (.frz o (.dT kvs)) := fun b => by
  by_cases hb:H b=none
  . have e:H2 b=(match H1 b,s1.heap.get? b with
     | some (.dT kvs),some o=>some (.frz o (.dT kvs))
     | z,_=>z):=Xbe hb
    by_cases hd:∃ kvs o,H1 b=some (.dT kvs)/\s1.heap.get? b=some o
    . obtain ⟨kvs,o,z1,z2⟩:=hd
      rw [z1,z2] at e;exact .inr ⟨hb,kvs,o,z2,z1,e⟩
    . refine .inl ?_
      rw [e]
      split
      . rename_i kvs o z1 z2;exact absurd ⟨kvs,o,z1,z2⟩ hd
      . rfl
  . exact .inl (Xbd hb)
 refine ⟨x,H2,I1.frz fun b=>(key b).imp id fun ⟨_,z⟩=>z,r1,q1 H2 (fun b=>(key b).imp id fun ⟨hb,kvs,o,_,z1,z2⟩=>⟨hb,kvs,o,z1,z2⟩) fun b kvs hb z=>?_⟩
 rcases key b with y | ⟨_,k',o,_,y1,y2⟩
 . exfalso
   obtain ⟨_,_,_,_,o,es,ep,g,_⟩:=(show ObjOk X.prog X.w H1 s1.heap b (.dT kvs) from I1.hok b _ z)
   have e:H2 b=some (.frz o (.dT kvs)):=by
    show (if H b=none then _ else _)=_;rw [Xbe hb,z,g]
   rw [e,z] at y;cases y
 . rw [z] at y1;cases y1;exact ⟨o,y2⟩
def Itd (a:Addr) (o:Obj) (kvs:List (List Key×V)):It :=
 ⟨fun i H=>H a=some (.frz o (.dT kvs))/\i<kvs.length,fun i H x H'=>H'=H/\∃ k v b,kvs[i]?=some (k,v)/\x=.ref b/\H b=some (.tup (k.map kV)),fun i H=>H a=some (.frz o (.dT kvs))/\kvs.length<=i⟩
theorem prd_at {α β:Type}{F:α->β->Prop}{l:List α}{m:List β} (h:Paired F l m):∀ {i:Nat} (hi:i<l.length),∃ y,m[i]?=some y/\F l[i] y:=by
 induction h with
 | nil=>intro i hi;exact absurd hi (Nat.not_lt_zero _)
 | cons r t ih =>
   intro i hi
   cases i with
   | zero=>exact ⟨_,rfl,r⟩
   | succ i=>exact ih (i:=i) (by simpa using hi)
theorem ZjR {P:Program}{w:World}{K:XFg}{tg:Expr}{a it:Addr}{o:Obj}{kvs:List (List Key×V)} {es:Array DictEntry} {ep:Nat} (hd:o.data=.dict es ep) :
 Turn P w K tg (Itd a o kvs) [it] it (fun i h=>h.IsKeyIter it a i es.size ep) where
 mem:=by simp
 obj:=fun i h st b hb=>by
  have e:b=it:=by simpa using hb
  subst e;obtain ⟨o,e,c,d⟩:=st;exact ⟨o,e,fun v z=>by rw [d] at z;cases z⟩
 keep:=fun i h h' st k=>st.at fun o e=>k it (by simp) o e
 item:=by
  intro X hP hw hK hc i pins s σ H E I hf st hg;subst hP hw hK;obtain ⟨hq,hi⟩:=hg;obtain ⟨ho,z,y,xs,rel,o',es',ep',g,c1,c2,c3,c4⟩:=(show ObjOk X.prog X.w H s.heap a (.frz o (.dT kvs)) from I.hok a _ hq);rw [ho] at g;cases g;rw [hd] at c2;cases c2;obtain ⟨q,hx,e1,e2,e3⟩:=prd_at rel hi;have he:=entry_at (knd:=tupleKind (Za5 X.prog X.w)) c3 i;rw [hx] at he;obtain ⟨hlt,he'⟩:=Array.getElem?_eq_some_iff.mp he;obtain ⟨f0,f1,f2,f3,f4,f5⟩:=hf it (by simp);refine ZgT st ho hd hlt fun h' st' sb=>?_;have I1:Inv X pins σ H { s with heap:=h' }:=I.turned (t':=s.toks) (fun b o hb e=>(sb.2 b hb).trans e) f0 f1 f3 f4 f5;obtain ⟨oi,e,c,d⟩:=id st';refine ⟨_,rfl,go_of (s:={ s with heap:=h' }) e c d (by decide) ⟨.ref q.2.1,H,I1,?_,⟨rfl,kvs[i].1,kvs[i].2,q.2.1,by simp [hi],rfl,e2⟩,st',fun b hb=>(hf b hb).1⟩⟩;rw [he'];rfl
 done:=by
  intro X hP hw hK hc i pins s σ H E I hf st hg;subst hP hw hK;obtain ⟨hq,hi⟩:=hg;obtain ⟨ho,z,y,xs,rel,o',es',ep',g,c1,c2,c3,c4⟩:=(show ObjOk X.prog X.w H s.heap a (.frz o (.dT kvs)) from I.hok a _ hq);rw [ho] at g;cases g;rw [hd] at c2;cases c2;have hsz:=size_of_entries c3;have hl:=Paired.length rel;obtain ⟨f0,f1,f2,f3,f4,f5⟩:=hf it (by simp);exact ZfW (I.ok.hd hc) st ho hd (by omega) fun h' eb=>⟨rfl,I.turned (t':=s.toks) (fun b o hb e=>eb b o hb e) f0 f1 f3 f4 f5⟩
 self:=fun _ _ _ _ _ st h=>wpAny_pyIter_keyiter st h
def iDict (tl:TE):TI:=fun σ H R=>tl σ H fun x H1=>∃ a kvs,x=.ref a/\Rd H1 a (.dT kvs)/\∀ o,(H1 a=some (.dT kvs)\/H1 a=some (.frz o (.dT kvs)))->R (Itd a o kvs) (upd H1 a (.frz o (.dT kvs)))
theorem pi_dict {tg l:Expr}{tl:TE} (hl:PE X l tl):PI X tg l (iDict tl):=by
 intro pins s σ H R I h;refine thn (hl pins s σ H _ I h) fun v s1 ⟨x,H1,I1,r1,q1⟩=>?_;obtain ⟨a,kvs,e,hr,q⟩:=q1;subst e;cases r1;obtain ⟨_,hm,xs,_,o,es,ep,g,c1,c2,_⟩:=(show ObjOk X.prog X.w H1 s1.heap a (.dT kvs) from rd_of I1.hok hr)
 have hb:H1 a=some (.dT kvs)\/H1 a=some (.frz o (.dT kvs)):=by
  rcases hr with z | ⟨o',z⟩
  . exact .inl z
  . have:=(show ObjOk X.prog X.w H1 s1.heap a (.frz o' (.dT kvs)) from I1.hok a _ z).1
    rw [g] at this;cases this;exact .inr z
 have I2:Inv X pins σ (upd H1 a (.frz o (.dT kvs))) s1:=I1.frz fun b=>by
  by_cases e:b=a
  . subst e
    rcases hb with z | z
    . exact .inr ⟨kvs,o,g,z,upd_same⟩
    . exact .inl (upd_same.trans z.symm)
  . exact .inl (Zal e)
 refine ZgS hm g c1 c2 ?_;refine ⟨s1.heap.objs.size,[s1.heap.objs.size],_,_,_,rfl,I2.kept (t':=s1.toks) fun b o e=>Xbo _ e,ZjR c2,⟨_,Xbq _ rfl,rfl,rfl⟩,fun b hb=>?_,q o hb⟩
 have e:b=s1.heap.objs.size:=by simpa using hb
 subst e;exact I2.fpOk (XaW _) (I2.hok.fresh (XaW _))
theorem Zli {a:Addr}{o:Obj}{kvs:List (List Key×V)} {g:TG} {tb:TS} {D:Ends} {σ:St} {H:Hp} (Pv:Nat->St->Hp->Prop) (h0:Pv 0 σ H) (hl:∀ i σ H,i<=kvs.length->Pv i σ H->H a=some (.frz o (.dT kvs)))
 (hs:∀ i k v b σ H,kvs[i]?=some (k,v)->H b=some (.tup (k.map kV))->Pv i σ H->g (.ref b) σ H fun σ2 H2=>tb { D with nx:=Pv (i+1),ct:=Pv (i+1),bk:=D.nx } σ2 H2) (hd:∀ σ H,Pv kvs.length σ H->D.nx σ H) :
 ∃ W:Nat->Nat->St->Hp->Prop,(∃ m,W 0 m σ H)/\∀ i m σ H,W i m σ H ->
  ((Itd a o kvs).stop i H/\D.nx σ H)\/((Itd a o kvs).go i H/\∃ N:St->Hp->Prop,(∀ σ' H',N σ' H'->∃ m',m' < m/\W (i+1) m' σ' H')/\∀ x H',(Itd a o kvs).yld i H x H'->g x σ H' fun σ2 H2=>tb { D with nx:=N,ct:=N,bk:=D.nx } σ2 H2):=by
 refine ⟨fun i m σ H=>m=kvs.length - i/\i<=kvs.length/\Pv i σ H,⟨kvs.length,by simp,Xa0 _,h0⟩,?_⟩;rintro i m σ H ⟨rfl,hi,p⟩;have q:=hl i σ H hi p
 by_cases hlt:i<kvs.length
 . refine .inr ⟨⟨q,hlt⟩,Pv (i+1),fun σ' H' p'=>⟨kvs.length - (i+1),by omega,rfl,hlt,p'⟩,fun x H' y=>?_⟩
   obtain ⟨e,k,v,b,y1,y2,y3⟩:=y;subst e y2;exact hs i k v b σ _ y1 y3 p
 . have e:i=kvs.length:=by omega
   subst e;exact .inl ⟨⟨q,XaW _⟩,hd σ H p⟩
end
end L2
namespace PySem
section
variable {prog:Program} {w:World} {A:Around} {E:Value->Shared->Prop} {s:Shared}
theorem ZjS {a:Addr}{o:Obj}{xs:Array Value}{k:Nat}{Q:Option Value->Shared->Prop}
 (hx:s.heap.get? a=some o) (hc:o.cls=.type "list") (hdat:o.data=.seq xs k) (hd:o.dict=none) (hA:A.handled=none)
 (h:∀ h' tk,(∀ b o,s.heap.get? b=some o->h'.get? b=some o)->Q none { s with heap:=h',toks:=tk }):wpAny (model prog w) A (getAttr? (.ref a) "keys") Q E s:=by
 obtain ⟨c,dct,dat,sl⟩:=o;simp only at hc hdat hd;subst hc hdat hd;obtain ⟨hp,g,d,tk,os⟩:=s
 have hT:∀ tk',(⟨hp,g,d,tk',os⟩:Shared).TypeIs (.ref a) "list" := fun _=>⟨_,hx,rfl⟩
 have f1:=sub_AttributeError;have f3:=F.slot_list_getattribute.lookup;have f4:=F.slot_list_getattribute.bind (.ref a);have f5:=am_list_getattr_none
 have hmiss:typeLookup (.type "list") "keys" = pure none:=by rw [typeLookup_type,builtinLookup_eq_fast];kernel_rfl
 unfold getAttr? getAttrBy? getAttrBy
 repeat (any_goals (first | assumption | exact hT _ | ((with_reducible show wpAny _ _ (call (Value.builtin "list.__getattribute__") _ _) _ _ _);refine call_meets F.slot_list_getattribute (hT _) am_entry_list_getattribute (F.args_list_getattribute_2 _ _) (meets_getattribute_miss_list a xs k sl "keys" _ hmiss (by decide) (by size_fits)) ⟨hx,hA,fun h' tk' e hx'=>?_⟩) | wp_step))
 obtain ⟨t',u',he⟩:=hx'.there;show wpAny _ _ (getattributeRaised _ _ _ _ _ _ _) _ _ _;unfold getattributeRaised
 repeat (any_goals (first | assumption | wp_step))
 exact h _ _ hx'.keeps
namespace F
theorem args_minD (a v:Value):argsOk "min" ⟨[a],[(Str.ofString "default",v)]⟩:=by unfold argsOk;kernel_rfl
theorem entry_upd_loop:entryFor table "dict.update.loop" = some Builtin.«dict.update.loop»:=entryFor_of_tree (by kernel_rfl)
theorem plain_upd_loop:plainId "dict.update.loop" = true:=by decide +kernel
end F
variable {R:Result->Shared->Prop} {I:Addr} {fp wr:List Addr} {n:Nat} {P:Nat->Value->Prop} {St:Nat->Heap->Prop}
theorem Zef:(toString "min" ++ toString ".loop" : String) = "min.loop" := by decide
theorem ZeE (W:Walks prog w A.in1 I fp wr n P St) (bt:Nat->Nat->Bool) (hcmp:CmpOf prog w A.in1 .Lt P bt) (S:Addr) (hSf:S ∉ fp) (kw:List (Str×Value)) :
 ∀ (k j:Nat) (s:Shared) (vb:Value) (c:Nat),n=j+1+k->St (j+1) s.heap->P (argBest bt j) vb->s.heap.get? S=some { cls:=.type "list",data:=.seq #[vb,vb] c } ->
 (∀ v h' tk,P (argBest bt (n - 1)) v->(∀ b o,b ∉ wr->b≠S->s.heap.get? b=some o->h'.get? b=some o)->R (.ok (.ret v)) { s with heap:=h',toks:=tk }) ->
 codeAny (model prog w) A (.builtin "min.loop" ⟨[.ref I,.none,.ref S],kw⟩) R s
 | 0,j,s,vb,c,hk,hst,hPb,hS,hR=>by
   subst hk;refine codeAny_builtin F.entry_min_loop ?_;rw [Around.under_plainId F.plain_min_loop _];show wpAny _ A.in1 (seqItems? (.ref S) >>= _) _ _ s;refine Xbk (Xbv hS rfl ?_);show wpAny _ A.in1 (tryCatch (pyNext (.ref I)) _ >>= _) _ _ s;refine Xbk (wpAny_tryCatch (W.done s _ _ hst fun h' tk hk'=>?_));show wpAny _ A.in1 (updateSeq S (fun _=>#[]) >>= _) _ _ _;refine Xbk (wpAny_updateSeq (hk' S _ (fun h=>hSf (W.sub _ h)) hS) rfl (Xbk (wpAny_letGo (Xbl (hR vb _ tk hPb fun b o hbw hbS e=>?_)))));exact (Heap.get?_update_other _ _ (Ne.symm hbS)).trans (hk' b o hbw e)
 | k + 1, j, s, vb, c, hk, hst, hPb, hS, hR => by
   refine codeAny_builtin F.entry_min_loop ?_;rw [Around.under_plainId F.plain_min_loop _];show wpAny _ A.in1 (seqItems? (.ref S) >>= _) _ _ s;refine Xbk (Xbv hS rfl ?_);show wpAny _ A.in1 (tryCatch (pyNext (.ref I)) _ >>= _) _ _ s;refine Xbk (wpAny_tryCatch (W.item (j+1) s _ _ (by omega) hst fun v h' tk hP hst' hk'=>?_));have hS':=hk' S _ (fun h=>hSf (W.sub _ h)) hS;show wpAny _ A.in1 (tryCatch (holding [v,v] (richCompare .Lt v vb >>= _)) _ >>= _) _ _ _;refine Xbk (wpAny_tryCatch (Xbm (Xbk (hcmp (j+1) (argBest bt j) v vb _ _ _ hP hPb (Xbk (Xbm (Xbn (Xbk (wpAny_letGo (Xbl ?_))))))))))
   cases hb:bt (j+1) (argBest bt j) with
   | true =>
     simp only [if_true];refine Xbk (wpAny_updateSeq hS' rfl (Xbk (wpAny_letGo ?_)));rw [Zef];refine Xbl ⟨plainId_quiet F.plain_min_loop _,ZeE W bt hcmp S hSf kw k (j+1) _ v _ (by omega) (W.frame _ _ _ hst' fun b hbf o e=>?_) (by simp only [argBest,hb,if_true];exact hP) (Heap.get?_update_self _ hS' rfl) fun v' h2 tk2 hP' hk2=>?_⟩
     . exact (Heap.get?_update_other _ _ (fun h:S=b=>hSf (by rw [h];exact hbf))).trans e
     . exact hR v' h2 tk2 hP' fun b o hbw hbS e=>hk2 b o hbw hbS ((Heap.get?_update_other _ _ (Ne.symm hbS)).trans (hk' b o hbw e))
   | false =>
     simp only [Xbh,if_false];refine Xbk (wpAny_letGo ?_);rw [Zef]
     exact Xbl ⟨plainId_quiet F.plain_min_loop _,ZeE W bt hcmp S hSf kw k (j+1) _ vb c (by omega) hst' (by simp only [argBest,hb,Xbh,if_false];exact hPb) hS' fun v' h2 tk2 hP' hk2 =>
      hR v' h2 tk2 hP' fun b o hbw hbS e=>hk2 b o hbw hbS (hk' b o hbw e)⟩
theorem ZjT {x d:Value}{Q:Value->Shared->Prop}
 (h:wpAny (model prog w) A.in1 (pyIter x) (fun it s₂=>∃ I fp wr n P St bt,it=.ref I/\Walks prog w A.in1 I fp wr n P St/\St 0 s₂.heap/\(∀ b∈fp,b<s₂.heap.objs.size)/\CmpOf prog w A.in1 .Lt P bt /\
  ∀ v h' tk,(if n=0 then v=d else P (argBest bt (n - 1)) v)->(∀ b o,b ∉ wr->s₂.heap.get? b=some o->h'.get? b=some o)->Q v { s₂ with heap:=h',toks:=tk }) E s) :
 wpAny (model prog w) A (call (.builtin "min") [x] [(Str.ofString "default",d)]) Q E s:=by
 refine wpAny_call (codeAny_call_builtin F.plain_min F.entry_min (wpAny_of_eq (a:=()) (by
  have ha:=F.args_minD x d;simp only [checkBuiltinCall,F.kind_min];unfold argsOk at ha
  cases hsig:Manifest.signature? "min" with
  | none=>rfl
  | some sig=>rw [hsig] at ha;exact ha) ?_))
 show wpAny _ A.in1 (Builtin.Builtins.bindParams "min" ["key", "default"] 0 ⟨[],[(Str.ofString "default",d)]⟩ >>= _) _ _ s
 refine Xbk (wpAny_of_eq (show Builtin.Builtins.bindParams "min" ["key", "default"] 0 ⟨[],[(Str.ofString "default",d)]⟩=pure [none,some d] from rfl) ?_)
 refine Xbk (Xbl ?_);refine Xbk (Xbu h (fun it s₂ h₂=>?_) fun _ _ e=>e);obtain ⟨I,fp,wr,n,P,St,bt,rfl,W,hst,hfp,hcmp,hQ⟩:=h₂;refine Xbk (wpAny_newObj_type ?_);have hSf:s₂.heap.objs.size ∉ fp:=fun hm=>XaX _ (hfp _ hm);have hSw:s₂.heap.objs.size ∉ wr:=fun h=>hSf (W.sub _ h);rw [Zef]
 have hS:(s₂.heap.push { cls:=.type "list",data:=.seq #[] }).get? s₂.heap.objs.size=some { cls:=.type "list",data:=.seq #[] }:=Xbq _ rfl
 have hst':=W.frame _ _ (s₂.heap.push { cls:=.type "list",data:=.seq #[] }) hst fun b _ o e=>Xbo _ e
 refine Xbl ⟨plainId_quiet F.plain_min_loop _,codeAny_builtin F.entry_min_loop ?_⟩;rw [Around.under_plainId F.plain_min_loop _];show wpAny _ A.in1 (seqItems? (.ref s₂.heap.objs.size) >>= _) _ _ _;refine Xbk (Xbv hS rfl ?_);show wpAny _ A.in1 (tryCatch (pyNext (.ref I)) _ >>= _) _ _ _
 cases n with
 | zero =>
   refine Xbk (wpAny_tryCatch (W.done _ _ _ hst' fun h' tk hk'=>?_));exact Xbk (Xbw (Xbl (hQ d _ tk (by rw [Xbe rfl]) fun b o hbw e=>hk' b o hbw (Xbo _ e))))
 | succ n =>
   refine Xbk (wpAny_tryCatch (W.item 0 _ _ _ (Nat.succ_pos _) hst' fun v h' tk hP hst2 hk'=>?_));have hS':=hk' _ _ hSw hS;show wpAny _ A.in1 (updateSeq s₂.heap.objs.size (fun _=>#[v,v]) >>= _) _ _ _;refine Xbk (wpAny_updateSeq hS' rfl ?_);rw [Zef];refine Xbl ⟨plainId_quiet F.plain_min_loop _,ZeE W bt hcmp _ hSf _ n 0 _ v _ (by omega) (W.frame _ _ _ hst2 fun b hbf o e=>?_) hP (Heap.get?_update_self _ hS' rfl) fun v' h2 tk2 hP' hk2=>?_⟩
   . exact (Heap.get?_update_other _ _ (fun h:s₂.heap.objs.size=b=>hSf (by rw [h];exact hbf))).trans e
   . refine hQ v' h2 tk2 (by rw [Xbd (Nat.succ_ne_zero n)];exact hP') fun b o hbw e=>?_
     have hb:b≠s₂.heap.objs.size:=XaZ (Xbp e);exact hk2 b o hbw hb ((Heap.get?_update_other _ _ (Ne.symm hb)).trans (hk' b o hbw (Xbo _ e)))
end
end PySem
namespace L2
open PySem PySem.Spec PyProof.Rows
section
variable {X:Cx}
def Zij:List Int->V
 | []=>.non
 | n :: ns=>.int (ns.foldl min n)
theorem Zdz (f:Nat->Int):∀ n,f (argBest (fun i j=>decide (f i<f j)) n)=((List.range n).map fun i=>f (i+1)).foldl min (f 0)
 | 0=>rfl
 | n+1=>by
   have ih:=Zdz f n;rw [List.range_succ,Xad,XaT];show f (if _ then _ else _)=min _ (f (n+1));rw [<-ih]
   by_cases h:f (n+1)<f (argBest (fun i j=>decide (f i<f j)) n)
   . rw [Xbe (Xa5 h)];omega
   . rw [Xbd (by simpa using h)];omega
theorem ZiT (n:Int) (ns:List Int):((List.range ns.length).map fun i=>(n :: ns).getD (i+1) 0)=ns:=by
 apply List.ext_getElem?;intro i;rw [Xag]
 by_cases h:i<ns.length
 . rw [List.getElem?_range h,Option.map_some,Xaq,List.getElem?_cons_succ,Xab h];rfl
 . rw [XaJ (by simpa using h),XaJ (by omega)];rfl
def tMinD (ta:TA):TE:=fun σ H Q=>ta σ H fun vs H1=>∃ p ns,vs=[.ref p]/\H1 p=some (.lst (ns.map V.int))/\Q (Zij ns) H1
theorem pe_minD {e:Expr}{ta:TA}{p pos p1 p2:Pos}{j:Nat} (hc:X.calm=true) (hg:Gl X "min") (hm:X.mg "min" = none) (ha:PA X [e] ta)
 (hb:backTo pos (starEach [e] X.env)=(false,eval e X.env) :: backTo pos (starEach [] X.env):=by rfl) (hpl:(backTo pos (starEach [e] X.env)).any (·.1)=false:=by rfl) :
 PE X (.Call (.Name "min" p) [e] [⟨some "default",.Constant .none j p1,p2⟩] pos) (tMinD ta):=by
 intro pins s σ H Q I h
 refine wpAny_Call_Name_kw (Zc9 I hg hm (u:=.builtin "min") (by decide +kernel) (callWith_kw (thn (ha pos pins s σ H _ I h) fun us s1 ⟨vs,H1,I1,r1,q1⟩=>kws_cons (Constant_none (kws_nil ?_))) hb hpl))
 obtain ⟨l,ns,rfl,hq,q⟩:=q1;obtain ⟨u,rfl,rx⟩:=Zdh r1;cases rx;obtain ⟨z,its,n,rv,e⟩:=(show ObjOk X.prog X.w H1 s1.heap l (.lst (ns.map V.int)) from I1.hok l _ hq);have ia:=ZiF rv;have hl:s1.heap.IsList l its.toArray:=⟨_,e,rfl,n,rfl⟩
 have hlen:its.length=ns.length:=by have:=rv.length;rw [Xaa] at this;exact this.symm
 refine ZjT (wpAny_pyIter_list hl ⟨_,[s1.heap.objs.size,l],[s1.heap.objs.size],_,fun i v=>its.toArray[i]?=some v,fun i h=>h.IsListIter s1.heap.objs.size l i/\h.IsList l its.toArray,fun i j=>decide (ns.getD i 0<ns.getD j 0),rfl,Walks.list (A:=X.A.in1) (I1.ok.hd hc) s1.heap.objs.size l (XaZ (Xbp e)) its.toArray,
  ⟨⟨_,Xbq _ rfl,rfl,rfl⟩,hl.push _⟩,fun b hb=>?_,CmpOf.ints_lt (fun i=>ns.getD i 0) (fun i v hv=>ia.int_at i v (by simpa using hv)),fun v h' tk hv kp=>?_⟩)
 . show b<(s1.heap.push _).objs.size
   rw [Heap.size_push]
   rcases Xam.mp hb with rfl | hb
   . exact Nat.lt_succ_self _
   . rw [Xaj.mp hb];exact Nat.lt_succ_of_lt (Xbp e)
 . have kp':∀ b o,s1.heap.get? b=some o->h'.get? b=some o:=fun b o z=>kp b o (by simpa using XaZ (Xbp z)) (Xbo _ z)
   refine ⟨Zij ns,H1,I1.kept kp',?_,q⟩;rw [Xak,hlen] at hv
   cases ns with
   | nil=>exact hv
   | cons m ns =>
     rw [XaB,Xbd (Nat.succ_ne_zero _),Nat.add_sub_cancel] at hv;obtain ⟨t,rfl⟩:=ia.int_at (argBest (fun i j=>decide ((m :: ns).getD i 0<(m :: ns).getD j 0)) ns.length) v (by rw [<-List.getElem?_toArray];exact hv);refine ⟨t,?_⟩;rw [Zdz fun i=>(m :: ns).getD i 0,ZiT];rfl
def Zd5 (acc:List (List Key×V)) (ps:List (List Key×V)):List (List Key×V):=ps.foldl (fun a kv=>putK a kv.1 kv.2) acc
def PrsAt (H:Hp) (xs:List V) (ps:List (List Key×V)):Prop:=Paired (fun x (p:List Key×V)=>∃ t b,x=.ref t/\H t=some (.tup [.ref b,p.2])/\H b=some (.tup (p.1.map kV))) xs ps
theorem Zlj {pins:List (Addr×Obj)} {σ:St} {A:Around} {R:Result->Shared->Prop} {H:Hp} {p l it:Addr} (hu:A.units+1<cLine) (hh:A.in1.handled=none) (hp:H p=none) (hpi:it≠p) :
 ∀ (xs:List V) (ps:List (List Key×V)) (pre:List V) (acc:List (List Key×V)) (s:Shared),PrsAt H xs ps->H l=some (.lst (pre++xs))->acc.length+xs.length<=sizeLine->Inv X pins σ (upd H p (.dT acc)) s ->
 s.heap.IsListIter it l pre.length->FpOk X pins H it->(∀ s',Inv X pins σ (upd H p (.dT (Zd5 acc ps))) s'->R (.ok (.ret .none)) s')->∀ n:Int,
 codeAny (model X.prog X.w) A (.builtin "dict.update.loop" ⟨[.ref p,.ref it,rawInt n,.none],[]⟩) R s:=by
 intro xs ps pre acc s hx
 induction hx generalizing pre acc s with
 | nil =>
   intro hl hz I st hf hR n;have hl':upd H p (.dT acc) l=some (.lst (pre++[])):=(Zal (Zad hl hp)).trans hl;obtain ⟨f0,f1,f2,f3,f4,f5⟩:=hf;have f0':upd H p (.dT acc) it=none:=(Zal hpi).trans f0;obtain ⟨z,its,c,rv,e⟩:=(show ObjOk X.prog X.w _ s.heap l (.lst (pre++[])) from I.hok l _ hl');have hlen:=rv.length;rw [XaH] at hlen;refine codeAny_builtin PySem.F.entry_upd_loop ?_;rw [Around.under_plainId PySem.F.plain_upd_loop _];show wpAny _ A.in1 (pyNext (.ref it) >>= _) _ _ s;refine Xbk (wpAny_pyNext_list_end hh st ⟨_,e,rfl,c,rfl⟩ (by simp;omega) fun h' eb=>?_);exact Xbk (Xbl (Xbl (hR _ (I.turned (t':=s.toks) (fun b o hb e=>eb b o hb e) f0' f1 f3 f4 f5))))
 | @cons x q xs ps hq tl ih =>
   intro hl hz I st hf hR n;obtain ⟨t,b,rfl,ht,hb⟩:=hq;have hl':upd H p (.dT acc) l=some (.lst (pre++.ref t :: xs)):=(Zal (Zad hl hp)).trans hl;have ht':upd H p (.dT acc) t=some (.tup [.ref b,q.2]):=(Zal (Zad ht hp)).trans ht;have hb':upd H p (.dT acc) b=some (.tup (q.1.map kV)):=(Zal (Zad hb hp)).trans hb;obtain ⟨f0,f1,f2,f3,f4,f5⟩:=id hf;have f0':upd H p (.dT acc) it=none:=(Zal hpi).trans f0;obtain ⟨z,its,c,rv,e⟩:=(show ObjOk X.prog X.w _ s.heap l (.lst (pre++.ref t :: xs)) from I.hok l _ hl');obtain ⟨u,hu1,ru⟩:=rv.get (i:=pre.length) (x:=.ref t) (by simp);cases ru;refine codeAny_builtin PySem.F.entry_upd_loop ?_;rw [Around.under_plainId PySem.F.plain_upd_loop _];show wpAny _ A.in1 (pyNext (.ref it) >>= _) _ _ s;refine Xbk (wpAny_pyNext_list_item st (⟨_,e,rfl,c,rfl⟩:s.heap.IsList l its.toArray) (x:=.ref t) (by simpa using hu1) fun h' st' sb=>?_);have I1:Inv X pins σ (upd H p (.dT acc)) { s with heap:=h' }:=I.turned (t':=s.toks) (fun b o hb e=>(sb.2 b hb).trans e) f0' f1 f3 f4 f5;obtain ⟨_,ts,rt,ot,et,ct,nt,dt⟩:=(show ObjOk X.prog X.w _ h' t (.tup [.ref b,q.2]) from I1.hok t _ ht');obtain ⟨u1,u2,rfl,r1,r2⟩:=Zgv rt;cases (show u1=Value.ref b from r1);obtain ⟨zd,hm,es,rel,dd⟩:=dt_of I1.hok (upd_same (H:=H) (a:=p) (o:=.dT acc))
   have hl2:es.length<=sizeLine:=by rw [<-Paired.length rel];exact zd
   have hacc:(putK acc q.1 q.2).length<=acc.length+1:=Zer acc q.1 q.2;rw [XaB] at hz;refine Xbk (Xbm (Xbk (wpAny_tryCatch ?_)));show wpAny _ A.in1 (Builtin.Dict.pairItems (.ref t)) _ _ _;unfold Builtin.Dict.pairItems
   refine Xbk (wpAny_typeOf (s:={ s with heap:=h' }) (T := "tuple") ⟨ot,et,ct⟩ ?_)
   rw [Xbe (by decide)];refine Xbk (Xbv (s:={ s with heap:=h' }) et dt (Xbl ?_));show wpAny _ A.in1 (holding [Value.ref b,u2] (dictSet p (.ref b) u2)) _ _ _;refine Xbm (wpAny_dictSet_heap (hsz:=hl2) (knd:=tupleKind (Za5 X.prog X.w)) (tupleKind_room_in1 hu) (Zfn I1.hok hb') dd fun h2 dd' hs=>?_);obtain ⟨oo,es2,ep2,g1,g2,g3,g4,_,g5⟩:=dd'
   have I2:Inv X pins σ (upd H p (.dT (putK acc q.1 q.2))) { s with heap:=h2,toks:=s.toks+(tupleKind (Za5 X.prog X.w)).draws q.1 }:=by
    have:=Zjw (t':=s.toks+(tupleKind (Za5 X.prog X.w)).draws q.1) (ob:=.dT (putK acc q.1 q.2)) I1 (by rw [upd_same];exact True.intro) hs ⟨oo,g1⟩ ⟨by omega,hm,_,(rel.put q.1 hb' r2).keeps fun c ys ec=>?_,oo,es2,ep2,g1,g2,g3,g4,g5⟩
    . rw [upd_upd] at this;exact this
    . rw [Zal (Zjc ec upd_same (fun z=>nomatch z))];exact ec
   refine Xbl ⟨plainId_quiet PySem.F.plain_upd_loop _,?_⟩
   have:=ih (pre++[.ref t]) (putK acc q.1 q.2) _ (by rw [XaE];exact hl) (by omega) I2 (by rw [Xac];exact st'.at fun o e=>(hs.2 it hpi).trans e) hf hR (n+1)
   exact this
def rDictOf:List V->Hp->VK->Prop:=fun vs H Q=>∃ l xs ps,vs=[.ref l]/\H l=some (.lst xs)/\xs.length<sizeLine/\PrsAt H xs ps/\∀ p,H p=none->Q (.ref p) (upd H p (.dT (Zd5 [] ps)))
theorem ZhA (hc:X.calm=true) (hu:X.A.units+2<cLine):CallR X (.type "dict") rDictOf:=by
 intro pins s σ H vs us Q I r h;obtain ⟨l,xs,ps,rfl,hl,hz,hp,q⟩:=h;obtain ⟨u,rfl,rx⟩:=Zdh r;cases rx;have hn:H s.heap.objs.size=none:=I.hok.fresh (XaW _)
 refine callType_codes (Q₁:=fun obj s₁=>obj=.ref s.heap.objs.size/\s₁={ s with heap:=s.heap.push { cls:=.type "dict",data:=.dict #[] } }) PySem.F.kt_called_dict (PySem.F.kt_typeCall_dict_1 _) PySem.F.entry_dict_init (kt_code_dict_new _ ⟨rfl,rfl⟩) ?_
 rintro obj s₁ ⟨rfl,rfl⟩
 have I1:=I.laid (a:=s.heap.objs.size) (o:=.dT []) (t':=s.toks) (h':=s.heap.push { cls:=.type "dict",data:=.dict #[] }) (fun _ _ q=>Xbo _ q) (XaW _) (ZhY s.heap I.big)
 obtain ⟨z,its,c,rv,e⟩:=(show ObjOk X.prog X.w _ s.heap l (.lst xs) from I.hok l _ hl)
 have e':=Xbo { cls:=.type "dict",data:=.dict #[] } e
 have hT:Shared.TypeIs { s with heap:=s.heap.push { cls:=.type "dict",data:=.dict #[] } } (.ref s.heap.objs.size) "dict" := ⟨_,Xbq _ rfl,rfl⟩
 refine ⟨hT,PySem.F.args_dict_init_2 _ _,?_⟩;unfold Builtin.«dict.__init__»;refine Xbk ?_;unfold Builtin.Dict.selfAndRest;refine Xbk (wpAny_notOrdered_dict hT ?_);show wpAny _ _ (pure (s.heap.objs.size,[Value.ref l])) _ _ _;refine Xbl ?_
 show wpAny _ _ (Builtin.Dict.updateFrom "dict.__init__" s.heap.objs.size (.ref l) [] .none) _ _ _
 unfold Builtin.Dict.updateFrom
 refine Xbk (wpAny_typeOf (T := "list") ⟨_,e',rfl⟩ ?_)
 rw [Xbe (by decide)];refine Xbk (ZjS e' rfl rfl rfl (I.ok.hd hc) fun h1 tk k1=>?_);rw [Xbe (show (none:Option Value).isNone=true from rfl)];have I2:=I1.kept (t':=tk) k1;refine Xbk (Xbw (Xbk (wpAny_pyIter_list (s:={ s with heap:=h1,toks:=tk }) ⟨_,k1 _ _ e',rfl,c,rfl⟩ ?_)))
 have I3:=I2.kept (t':=tk) (h':=h1.push { cls:=.type "list_iterator",data:=.fields #[.ref l,.int 0 0] }) fun b o e=>Xbo _ e
 obtain ⟨f0,fr⟩:=I2.fpOk (XaW h1.objs.size) (I2.hok.fresh (XaW _))
 have hne:h1.objs.size≠s.heap.objs.size:=fun z=>by rw [z,upd_same] at f0;cases f0
 refine Xbl ⟨plainId_quiet PySem.F.plain_upd_loop _,Zlj (A:=X.A.in1) (X:=X) (pins:=pins) (σ:=σ) (l:=l) (H:=H) hu (I.ok.hd hc) hn hne xs ps [] [] _ hp hl (by rw [XaN];omega) I3 ⟨_,Xbq _ rfl,rfl,rfl⟩ ⟨(Zal hne).symm.trans f0,fr⟩ (fun s' I'=>⟨rfl,.ref _,_,I',rfl,q _ hn⟩) 0⟩
end
open Ord
theorem ZjU {bs:List Bool}:(List.range bs.length).any (fun i=>bs.getD i false)=bs.any id:=by
 rw [Bool.eq_iff_iff,XaQ,XaQ]
 constructor
 . rintro ⟨i,hi,h⟩
   have hi':=List.mem_range.mp hi;rw [Xaq,Xab hi'] at h;exact ⟨_,Xav hi',h⟩
 . rintro ⟨b,hb,h⟩
   obtain ⟨i,hi,e⟩:=XaG.mp hb;refine ⟨i,List.mem_range.mpr hi,?_⟩;rw [Xaq,Xab hi,e];exact h
def rAny (K:XFg):List V->Hp->VK->Prop:=fun vs H Q=>∃ (a:Addr) (bs:List Bool),vs=[.ref a]/\SqL K H a (bs.map V.bl)/\Q (.bl (bs.any id)) H
theorem ZjV {X:Cx} (hc:X.calm=true):CallR X (.builtin "any") (rAny X.K):=by
 intro pins s σ H vs us Q I r h;obtain ⟨a,bs,rfl,hq,q⟩:=h;obtain ⟨u,rfl,ru⟩:=Zdh r;obtain rfl:u=Value.ref a:=ru;obtain ⟨its,rv,p,hz⟩:=I.list hq;have hl:=rv.length;rw [Xaa] at hl
 have hlt:a<s.heap.objs.size:=by obtain ⟨_,e,_⟩:=p.isList;exact Xbp e
 refine call_any_walk (wpAny_pyIter_list p.isList ?_);refine ⟨s.heap.objs.size,[s.heap.objs.size,a],[s.heap.objs.size],its.toArray.size,(fun i v=>its.toArray[i]?=some v),(fun i h=>h.IsListIter s.heap.objs.size a i/\h.IsList a its.toArray),(fun i=>bs.getD i false),rfl,Walks.list (A:=X.A.in1) (I.ok.hd hc) s.heap.objs.size a (XaZ hlt) its.toArray,⟨⟨_,Xbq _ rfl,rfl,rfl⟩,p.isList.push _⟩,ZhZ rv,fun h' tk hk=>?_⟩;refine ⟨.bl (bs.any id),H,I.kept fun b o e=>hk b o (fun z=>?_) (Xbo _ e),?_,q⟩
 . have z':b=s.heap.objs.size:=by simpa using z
   exact absurd (Xbp e) (by rw [z'];exact XaX _)
 . have e:its.toArray.size=bs.length:=by rw [Xak,hl]
   show Value.bool _=Value.bool _;rw [e,ZjU]
section
variable {prog:Program} {w:World} {A:Around} {E:Value->Shared->Prop} {s:Shared}
end
section
variable {X:Cx}
end
end L2
namespace TreeM
theorem ZfX {β:Type}{P:List β->Prop} (nil:P []) (snoc:∀ l x,P l->P (l++[x])) (l:List β):P l:=by
 have:∀ l:List β,P l.reverse:=fun l=>by
  induction l with
  | nil=>exact nil
  | cons x l ih=>rw [List.reverse_cons];exact snoc _ _ ih
 rw [<-List.reverse_reverse l];exact this _
variable {α:Type} [DecidableEq α]
abbrev Ws (α:Type):=List (Nat×List α)
def nxt (p:List α) (w:List α):Option α:=if p <+: w then w[p.length]? else none
def keysAt (ws:Ws α) (p:List α):List (α×Nat):=ws.foldl (fun ks kw=>match nxt p kw.2 with
 | some m=>if m∈ks.map (·.1) then ks else ks++[(m,kw.1)]
 | none=>ks) []
theorem Zbc (ws:Ws α) (k:Nat) (w p:List α):keysAt (ws++[(k,w)]) p=match nxt p w with
 | some m=>if m∈(keysAt ws p).map (·.1) then keysAt ws p else keysAt ws p++[(m,k)]
 | none=>keysAt ws p:=by
 unfold keysAt;rw [XaT];rfl
theorem nxt_end (p:List α):nxt p p=none:=by
 unfold nxt;rw [Xbe (List.prefix_refl p)];exact XaJ (XaW _)
theorem ZfY (p:List α) (m:α):nxt p (p++[m])=some m:=by
 unfold nxt;rw [Xbe (XaP p [m]),Xay (XaW _),Nat.sub_self];rfl
variable {p:List α}{m:α}
theorem Zlk {q:List α} (h:p≠q):nxt p (q++[m])=nxt p q:=by
 unfold nxt
 by_cases a:p <+: q
 . rw [Xbe a,Xbe (a.trans (XaP q [m]))]
   have l:p.length<q.length:=by
    rcases Nat.lt_or_ge p.length q.length with x | x
    . exact x
    . exact absurd (a.eq_of_length_le x) h
   exact Xat l
 . rw [Xbd a]
   by_cases b:p <+: q++[m]
   . rw [Xbe b]
     rcases List.prefix_concat_iff.mp b with e | e
     . rw [e];exact XaJ (XaW _)
     . exact absurd e a
   . rw [Xbd b]
theorem ZhB (ws:Ws α) (k:Nat) (p:List α):keysAt (ws++[(k,[])]) p=keysAt ws p:=by
 rw [Zbc]
 have:nxt p ([]:List α)=none:=by
  unfold nxt
  by_cases a:p <+: []
  . rw [Xbe a];rfl
  . rw [Xbd a]
 rw [this]
variable {ws:Ws α}
theorem Zdm {k:Nat}{q:List α} (h:p≠q):keysAt (ws++[(k,q++[m])]) p=keysAt (ws++[(k,q)]) p:=by
 rw [Zbc,Zbc,Zlk h]
theorem Zcs (ws:Ws α) (k:Nat) (q:List α) (m:α):keysAt (ws++[(k,q++[m])]) q =
 if m∈(keysAt (ws++[(k,q)]) q).map (·.1) then keysAt (ws++[(k,q)]) q else keysAt (ws++[(k,q)]) q++[(m,k)]:=by
 rw [Zbc,Zbc,ZfY,nxt_end]
theorem nxt_some {w:List α} :nxt p w=some m↔p++[m] <+: w:=by
 unfold nxt
 by_cases a:p <+: w
 . rw [Xbe a]
   obtain ⟨t,rfl⟩:=a;rw [Xay (XaW _),Nat.sub_self]
   cases t with
   | nil =>
     refine ⟨fun e=>(nomatch e),fun e=>?_⟩
     have:=e.length_le
     rw [XaH,Xac] at this;exact absurd this (by show ¬p.length+1<=p.length;omega)
   | cons x t =>
     refine ⟨fun e=>?_,fun e=>?_⟩
     . cases e;exact ⟨t,by simp⟩
     . obtain ⟨u,e⟩:=e
       rw [XaE] at e
       have:=List.append_cancel_left e
       simp at this;rw [this.1];rfl
 . rw [Xbd a]
   exact ⟨fun e=>(nomatch e),fun e=>absurd ((XaP p [m]).trans e) a⟩
theorem keysAt_mem :m∈(keysAt ws p).map (·.1)↔∃ kw∈ws,p++[m] <+: kw.2:=by
 induction ws using ZfX with
 | nil=>exact ⟨fun h=>(nomatch h),fun ⟨_,h,_⟩=>(nomatch h)⟩
 | snoc ws kw ih =>
   obtain ⟨k,w⟩:=kw;rw [Zbc]
   have both:(∃ kw∈ws++[(k,w)],p++[m] <+: kw.2)↔(∃ kw∈ws,p++[m] <+: kw.2)\/p++[m] <+: w:=by
    constructor
    . rintro ⟨x,hx,e⟩
      rcases Xaf.mp hx with y | y
      . exact .inl ⟨x,y,e⟩
      . rw [Xaj.mp y] at e;exact .inr e
    . rintro (⟨x,hx,e⟩ | e)
      . exact ⟨x,XaA _ hx,e⟩
      . exact ⟨_,Xan _ (Xaj.mpr rfl),e⟩
   rw [both,<-ih,<-nxt_some]
   cases hx:nxt p w with
   | none=>exact ⟨.inl,fun z=>z.elim id fun e=>(nomatch e)⟩
   | some x =>
     dsimp only
     by_cases d:x∈(keysAt ws p).map (·.1)
     . rw [Xbe d]
       exact ⟨.inl,fun z=>z.elim id fun e=>by cases e;exact d⟩
     . rw [Xbd d,Xad,Xaf]
       refine or_congr Iff.rfl ?_;simp [eq_comm]
theorem Zd6 {k:Nat} (hs:(ws.map (·.1)).Pairwise (· < ·)) (h:(m,k)∈keysAt ws p):(∃ w,(k,w)∈ws/\p++[m] <+: w)/\∀ j w,(j,w)∈ws->p++[m] <+: w->k<=j:=by
 induction ws using ZfX with
 | nil=>cases h
 | snoc ws kw ih =>
   obtain ⟨n,v⟩:=kw;rw [Xad,List.pairwise_append] at hs;obtain ⟨h1,-,h3⟩:=hs;have low:∀ j w,(j,w)∈ws->j<n:=fun j w hj=>h3 j (Xai.mpr ⟨_,hj,rfl⟩) n (Xaj.mpr rfl);rw [Zbc] at h
   have old:(m,k)∈keysAt ws p->(∃ w,(k,w)∈ws++[(n,v)]/\p++[m] <+: w)/\∀ j w,(j,w)∈ws++[(n,v)]->p++[m] <+: w->k<=j:=fun hm=>by
    obtain ⟨⟨w,a,b⟩,c⟩:=ih h1 hm;refine ⟨⟨w,XaA _ a,b⟩,fun j u hj hp=>?_⟩
    rcases Xaf.mp hj with y | y
    . exact c j u y hp
    . cases Xaj.mp y;exact XaY (low _ _ a)
   cases hx:nxt p v with
   | none=>rw [hx] at h;exact old h
   | some x =>
     rw [hx] at h;dsimp only at h
     by_cases d:x∈(keysAt ws p).map (·.1)
     . rw [Xbe d] at h;exact old h
     . rw [Xbd d] at h
       rcases Xaf.mp h with y | y
       . exact old y
       . cases Xaj.mp y
         refine ⟨⟨v,Xan _ (Xaj.mpr rfl),nxt_some.mp hx⟩,fun j u hj hp=>?_⟩
         rcases Xaf.mp hj with y | y
         . exact absurd (keysAt_mem.mpr ⟨_,y,hp⟩) d
         . cases Xaj.mp y;exact XaW _
section
variable (bet:α->α->Bool)
def hid:List α->List α->Bool
 | x :: s,m :: t=>if x=m then hid s t else bet x m
 | _,_=>false
def gat (ws:Ws α):List α->List α->List Nat
 | _,[]=>[]
 | a,m :: t=>((keysAt ws a).filter fun xk=>bet xk.1 m).map (·.2)++gat ws (a++[m]) t
end
variable {bet:α->α->Bool}
theorem hid_at {a b:List α}{x:α} {t:List α} (h:a++[x] <+: b) (hx:x≠m):hid bet b (a++m :: t)=bet x m:=by
 obtain ⟨u,rfl⟩:=h
 induction a with
 | nil=>show (if x=m then _ else bet x m)=_;rw [Xbd hx]
 | cons y a ih=>show (if y=y then _ else _)=_;rw [Xbe rfl];exact ih
theorem ZgU {ws:Ws α} (hs:(ws.map (·.1)).Pairwise (· < ·)) (irr:∀ m,bet m m=false):∀ (b a:List α) (k:Nat),k∈gat bet ws a b->∃ w,(k,w)∈ws/\hid bet w (a++b)=true
 | [],_,_,h=>nomatch h
 | m :: t, a, k, h => by
   rcases Xaf.mp h with y | y
   . obtain ⟨⟨x,j⟩,z,rfl⟩:=Xai.mp y
     obtain ⟨z1,z2⟩:=XaK.mp z;obtain ⟨⟨w,q1,q2⟩,-⟩:=Zd6 hs z1;refine ⟨w,q1,?_⟩;rw [hid_at q2 (fun e=>?_)]
     . exact z2
     . rw [e,irr] at z2;cases z2
   . obtain ⟨w,q1,q2⟩:=ZgU hs irr t (a++[m]) k y
     refine ⟨w,q1,?_⟩;rw [XaE] at q2;exact q2
theorem ZgV:∀ {b w:List α},hid bet w b=true->∃ a x m t,b=a++m :: t/\a++[x] <+: w/\x≠m/\bet x m=true
 | m :: t, x :: s, h => by
   by_cases e:x=m
   . subst e
     have h':hid bet s t=true:=by simpa [hid] using h
     obtain ⟨a,y,n,u,rfl,q2,q3,q4⟩:=ZgV h';exact ⟨x :: a,y,n,u,rfl,List.cons_prefix_cons.mpr ⟨rfl,q2⟩,q3,q4⟩
   . have h':bet x m=true:=by simpa [hid,e] using h
     exact ⟨[],x,m,t,rfl,List.cons_prefix_cons.mpr ⟨rfl,List.nil_prefix⟩,e,h'⟩
 | [],[],h=>nomatch h
 | [],_ :: _,h=>nomatch h
 | _ :: _,[],h=>nomatch h
theorem ZjW {ws:Ws α}:∀ {a b c:List α}{m x:α}{t:List α}{k:Nat},(x,k)∈keysAt ws (c++a)->bet x m=true->b=a++m :: t->k∈gat bet ws c b
 | [],b,c,m,x,t,k,h1,h2,h3=>by
   subst h3;rw [XaH] at h1;exact XaA _ (Xai.mpr ⟨_,XaK.mpr ⟨h1,h2⟩,rfl⟩)
 | y :: a,b,c,m,x,t,k,h1,h2,h3=>by
   subst h3;refine Xan _ (ZjW (a:=a) (m:=m) (x:=x) (t:=t) ?_ h2 rfl);rw [XaE];exact h1
theorem ZjX (hs:(ws.map (·.1)).Pairwise (· < ·)) {b w:List α} {j:Nat} (h:(j,w)∈ws) (hh:hid bet w b=true):∃ k∈gat bet ws [] b,k<=j:=by
 obtain ⟨a,x,m,t,e,q2,-,q4⟩:=ZgV hh;obtain ⟨⟨y,k⟩,z1,z2⟩:=Xai.mp (keysAt_mem.mpr ⟨_,h,q2⟩);dsimp only at z2;subst z2;exact ⟨k,ZjW (a:=a) (c:=[]) z1 q4 e,(Zd6 hs z1).2 j w h q2⟩
end TreeM
namespace L2
open PySem PySem.Spec PyProof.Rows Ord TreeM
variable {A:Around}{k:Nat}
theorem hu2_of (hr:Room k A):A.units+2<cLine:=Nat.lt_of_le_of_lt (Nat.add_le_add_left (by decide:2<=64) _) hr.units
abbrev Zc8 (m:Mrk):List Key:=[.inl m.1,.inr m.2.1,.inl m.2.2]
theorem ZjY {a b:Mrk} (h:Zc8 a=Zc8 b):a=b:=by
 obtain ⟨a1,a2,a3⟩:=a;obtain ⟨b1,b2,b3⟩:=b;simp only [Zc8,List.cons.injEq,Sum.inl.injEq,Sum.inr.injEq,and_true] at h;rw [h.1,h.2.1,h.2.2]
def ZaY (ws:Ws Mrk) (c:List Mrk->Mrk->Addr) (p:List Mrk):List (List Key×V):=(keysAt ws p).map fun mk=>(Zc8 mk.1,V.ref (c p mk.1))
theorem ZgW {c:Mrk->Addr}{m:Mrk}:∀ {ks:List (Mrk×Nat)},valV (ks.map fun mk=>(Zc8 mk.1,V.ref (c mk.1))) (Zc8 m)=if m∈ks.map (·.1) then some (.ref (c m)) else none
 | []=>rfl
 | (x,k) :: ks=>by
   rw [Xao]
   by_cases h:x=m
   . subst h
     rw [Zbk rfl,Xbe (by simp)]
   . rw [Zbl (fun z=>h (ZjY z)),ZgW]
     have:(m∈List.map (·.1) ((x,k) :: ks))↔m∈ks.map (·.1):=by
      rw [Xao,Xam];exact ⟨fun z=>z.elim (fun e=>absurd e.symm h) id,.inr⟩
     by_cases h2:m∈ks.map (·.1)
     . rw [Xbe h2,Xbe (this.mpr h2)]
     . rw [Xbd h2,Xbd (fun z=>h2 (this.mp z))]
variable {ws:Ws Mrk}{c:List Mrk->Mrk->Addr}{p:List Mrk}{m:Mrk}
theorem ZbS :valV (ZaY ws c p) (Zc8 m)=if m∈(keysAt ws p).map (·.1) then some (.ref (c p m)) else none:=ZgW (c:=c p)
def InT (ws:Ws Mrk) (p:List Mrk):Prop:=p=[]\/∃ kw∈ws,p <+: kw.2
theorem Zik (h:¬InT ws p):keysAt ws p=[]:=by
 cases e:keysAt ws p with
 | nil=>rfl
 | cons x l =>
   exfalso;obtain ⟨kw,h1,h2⟩:=keysAt_mem.mp (show x.1∈(keysAt ws p).map (·.1) by rw [e];simp);exact h (.inr ⟨kw,h1,(XaP p _).trans h2⟩)
theorem in_key :InT ws (p++[m])↔m∈(keysAt ws p).map (·.1):=by
 rw [keysAt_mem];exact ⟨fun h=>h.elim (fun e=>absurd e (by simp)) id,.inr⟩
structure TreeP (φ:Hp->Addr->List (List Key×V)->Prop) (H:Hp) (ws:Ws Mrk) (d:List Mrk->Addr) (c:List Mrk->Mrk->Addr):Prop where
 dct:∀ p,InT ws p->φ H (d p) (ZaY ws c p)
 tup:∀ p m k,(m,k)∈keysAt ws p->H (c p m)=some (.tup [.int (k:Int),.ref (d (p++[m]))])
 inj:∀ p q,InT ws p->InT ws q->d p=d q->p=q
abbrev dW:Hp->Addr->List (List Key×V)->Prop:=fun H a kvs=>H a=some (.dT kvs)
abbrev dF:Hp->Addr->List (List Key×V)->Prop:=fun H a kvs=>∃ o,H a=some (.frz o (.dT kvs))
variable {H H':Hp}{d:List Mrk->Addr}
theorem TreeP.same (e:Same H H') (h:TreeP dF H ws d c):TreeP dF H' ws d c :=
 ⟨fun p hp=>let ⟨o,x⟩:=h.dct p hp;⟨o,e _ _ x⟩,fun p m k hm=>e _ _ (h.tup p m k hm),h.inj⟩
theorem TreeP.sameW (e:Same H H') (h:TreeP dW H ws d c):TreeP dW H' ws d c :=
 ⟨fun p hp=>e _ _ (h.dct p hp),fun p m k hm=>e _ _ (h.tup p m k hm),h.inj⟩
variable {n:Nat}{g:List Mrk}
theorem Zcm (hm:m∈(keysAt (ws++[(n,g)]) g).map (·.1)) :InT (ws++[(n,g++[m])]) p↔InT (ws++[(n,g)]) p:=by
 constructor
 . rintro (h | ⟨kw,h1,h2⟩)
   . exact .inl h
   . rcases Xaf.mp h1 with y | y
     . exact .inr ⟨kw,XaA _ y,h2⟩
     . rw [Xaj.mp y] at h2
       rcases List.prefix_concat_iff.mp h2 with e | e
       . rw [e];exact in_key.mpr hm
       . exact .inr ⟨_,Xan _ (Xaj.mpr rfl),e⟩
 . rintro (h | ⟨kw,h1,h2⟩)
   . exact .inl h
   . rcases Xaf.mp h1 with y | y
     . exact .inr ⟨kw,XaA _ y,h2⟩
     . rw [Xaj.mp y] at h2
       exact .inr ⟨_,Xan _ (Xaj.mpr rfl),h2.trans (XaP g [m])⟩
theorem TreeP.stay {φ:Hp->Addr->List (List Key×V)->Prop} (h:TreeP φ H (ws++[(n,g)]) d c) (hm:m∈(keysAt (ws++[(n,g)]) g).map (·.1)):TreeP φ H (ws++[(n,g++[m])]) d c:=by
 have ke:∀ p,keysAt (ws++[(n,g++[m])]) p=keysAt (ws++[(n,g)]) p:=fun p=>by
  by_cases e:p=g
  . subst e;rw [Zcs,Xbe hm]
  . exact Zdm e
 refine ⟨fun p hp=>?_,fun p x k hx=>h.tup p x k (by rw [<-ke];exact hx),fun p q hp hq=>h.inj p q ((Zcm hm).mp hp) ((Zcm hm).mp hq)⟩
 have:=h.dct p ((Zcm hm).mp hp)
 unfold ZaY at this ⊢;rw [ke];exact this
variable {v:V}
theorem Zll {kvs:List (List Key×V)} {k:List Key} (h:valV kvs k=none):putK kvs k v=kvs++[(k,v)]:=by
 unfold putK;rw [Xbd (by rw [Zdu,h];simp)]
theorem TreeP.grow {H0:Hp} {e T : Addr} (h : TreeP dW H (ws ++ [(n, g)]) d c) (hm : m ∉ (keysAt (ws ++ [(n, g)]) g).map (·.1))
 (he:H e=none) (hn:∀ p,InT (ws++[(n,g)]) p->H0 (d p)=none) (he0:H0 e=none) (s:Same H H') (e1:H' e=some (.dT [])) (e2:H' T=some (.tup [.int (n:Int),.ref e])) :
 ∃ d' c',TreeP dW (upd H' (d g) (.dT (putK (ZaY (ws++[(n,g)]) c g) (Zc8 m) (.ref T)))) (ws++[(n,g++[m])]) d' c'/\d' (g++[m])=e/\(∀ p,InT (ws++[(n,g++[m])]) p->H0 (d' p)=none)/\d' []=d []:=by
 have ing:InT (ws++[(n,g)]) g:=.inr ⟨_,Xan _ (Xaj.mpr rfl),List.prefix_refl g⟩
 have hv:valV (ZaY (ws++[(n,g)]) c g) (Zc8 m)=none:=by rw [ZbS,Xbd hm]
 have inI : ∀ {p}, InT (ws ++ [(n, g ++ [m])]) p -> p = g ++ [m] \/ p ≠ g ++ [m] /\ InT (ws ++ [(n, g)]) p := fun {p} hp => by
  by_cases e:p=g++[m]
  . exact .inl e
  . refine .inr ⟨e,?_⟩
    rcases hp with z | ⟨kw,h1,h2⟩
    . exact .inl z
    . rcases Xaf.mp h1 with y | y
      . exact .inr ⟨kw,XaA _ y,h2⟩
      . rw [Xaj.mp y] at h2
        rcases List.prefix_concat_iff.mp h2 with z | z
        . exact absurd z e
        . exact .inr ⟨_,Xan _ (Xaj.mpr rfl),z⟩
 have ned:∀ p,InT (ws++[(n,g)]) p->d p≠e:=fun p hp z=>by have this:H (d p)=some _:=h.dct p hp;rw [z,he] at this;cases this
 have neT:T≠d g:=fun z=>by
  have:=s _ _ (h.dct g ing)
  rw [<-z,e2] at this;cases this
 have nm:¬InT (ws++[(n,g)]) (g++[m]):=fun z=>hm (in_key.mp z)
 have k0:keysAt (ws++[(n,g++[m])]) (g++[m])=[]:=by
  rw [Zdm (by simp)];exact Zik nm
 have kg:∀ p,p≠g->keysAt (ws++[(n,g++[m])]) p=keysAt (ws++[(n,g)]) p:=fun p hp=>Zdm hp
 have kself:keysAt (ws++[(n,g++[m])]) g=keysAt (ws++[(n,g)]) g++[(m,n)]:=by rw [Zcs,Xbd hm]
 refine ⟨fun p=>if p=g++[m] then e else d p,fun p x=>if p=g/\x=m then T else c p x,⟨fun p hp=>?_,fun p x k hx=>?_,fun p q hp hq hpq=>?_⟩,Xbe rfl,fun p hp=>?_,Xbd (by simp)⟩
 . show upd _ _ _ (if p = g ++ [m] then e else d p) = some _
   rcases inI hp with z | ⟨z,zi⟩
   . subst z
     rw [Xbe rfl,Zal (Ne.symm (ned g ing)),e1];unfold ZaY;rw [k0];rfl
   . rw [Xbd z]
     by_cases pg:p=g
     . subst pg
       rw [upd_same,Zll hv];unfold ZaY;rw [kself,Xad]
       have:∀ l:List (Mrk×Nat),m ∉ l.map (·.1)->(l.map fun mk=>(Zc8 mk.1,V.ref (c p mk.1)))=l.map fun mk=>(Zc8 mk.1,V.ref (if p=p/\mk.1=m then T else c p mk.1)):=fun l hl=>List.map_congr_left fun mk hmk=>by
        rw [Xbd (fun z=>hl (Xai.mpr ⟨mk,hmk,z.2⟩))]
       rw [this _ hm,Xao,XaO];dsimp only;rw [Xbe ⟨rfl,rfl⟩]
     . rw [Zal (fun z2=>pg (h.inj p g zi ing z2))]
       have:=s _ _ (h.dct p zi)
       unfold ZaY at this ⊢;rw [kg p pg,this]
       congr 2
       exact List.map_congr_left fun mk _=>by
        show _=(Zc8 mk.1,V.ref (if p=g/\mk.1=m then T else c p mk.1));rw [Xbd (fun z=>pg z.1)]
 . show upd _ _ _ (if p=g/\x=m then T else c p x)=some (.tup [_,.ref (if p++[x]=g++[m] then e else d (p++[x]))])
   by_cases pg:p=g
   . subst pg
     rw [kself] at hx
     by_cases xm:x=m
     . subst xm
       rw [Xbe ⟨rfl,rfl⟩,Xbe rfl,Zal neT,e2]
       rcases Xaf.mp hx with y | y
       . exact absurd (Xai.mpr ⟨_,y,rfl⟩) hm
       . cases Xaj.mp y;rfl
     . rcases Xaf.mp hx with y | y
       . rw [Xbd (fun z=>xm z.2),Xbd (fun z=>xm (by simpa using z))]
         have t:=h.tup p x k y;rw [Zal (fun z=>by have this:H (d p)=some _:=h.dct p ing;rw [<-z,t] at this;cases this)];exact s _ _ t
       . cases Xaj.mp y;exact absurd rfl xm
   . rw [kg p pg] at hx
     rw [Xbd (fun z=>pg z.1),Xbd (show ¬(p++[x]=g++[m]) from fun z=>pg (List.append_inj_left' z rfl))];have t:=h.tup p x k hx;rw [Zal (fun z=>by have this:H (d g)=some _:=h.dct g ing;rw [<-z,t] at this;cases this)];exact s _ _ t
 . have hpq':(if p=g++[m] then e else d p)=(if q=g++[m] then e else d q):=hpq
   rcases inI hp with z | ⟨z,zi⟩ <;> rcases inI hq with y | ⟨y,yi⟩
   . rw [z,y]
   . rw [Xbe z,Xbd y] at hpq';exact absurd hpq'.symm (ned q yi)
   . rw [Xbd z,Xbe y] at hpq';exact absurd hpq' (ned p zi)
   . rw [Xbd z,Xbd y] at hpq';exact h.inj p q zi yi hpq'
 . show H0 (if p=g++[m] then e else d p)=none
   rcases inI hp with z | ⟨z,zi⟩
   . rw [Xbe z];exact he0
   . rw [Xbd z];exact hn p zi
theorem ZgX (ws:Ws Mrk) (n:Nat) (p:List Mrk):keysAt (ws++[(n,[])]) p=keysAt ws p:=ZhB ws n p
theorem TreeP.begin {φ:Hp->Addr->List (List Key×V)->Prop} (h:TreeP φ H ws d c):TreeP φ H (ws++[(n,[])]) d c:=by
 have i : ∀ {p}, InT (ws ++ [(n, [])]) p -> InT ws p := fun {p} hp => by
  rcases hp with z | ⟨kw,h1,h2⟩
  . exact .inl z
  . rcases Xaf.mp h1 with y | y
    . exact .inr ⟨kw,y,h2⟩
    . rw [Xaj.mp y] at h2
      exact .inl (List.prefix_nil.mp h2)
 refine ⟨fun p hp=>?_,fun p m k hm=>h.tup p m k (by rw [<-ZgX];exact hm),fun p q hp hq=>h.inj p q (i hp) (i hq)⟩
 have:=h.dct p (i hp)
 unfold ZaY at this ⊢;rw [ZgX];exact this
theorem TreeP.frz {H H1 H2:Hp}{ws:Ws Mrk}{d:List Mrk->Addr}{c:List Mrk->Mrk->Addr} (h:TreeP dW H1 ws d c) (hn:∀ p,InT ws p->H (d p)=none) (f:Frz H H1 H2) (f2:∀ b kvs,H b=none->H1 b=some (.dT kvs)->∃ o,H2 b=some (.frz o (.dT kvs))):TreeP dF H2 ws d c:=by
 refine ⟨fun p hp=>f2 _ _ (hn p hp) (h.dct p hp),fun p m k hm=>?_,h.inj⟩;have t:=h.tup p m k hm
 rcases f (c p m) with z | ⟨_,kvs,o,z,_⟩
 . rw [z];exact t
 . rw [t] at z;cases z
theorem Frz.same {H1 H2:Hp} (s:Same H H1) (f:Frz H H1 H2):Same H H2:=fun b o e=>by
 rcases f b with z | ⟨z,_⟩
 . rw [z];exact s _ _ e
 . rw [e] at z;cases z
theorem ZdS (ws:Ws Mrk) (p:List Mrk):(keysAt ws p).length<=ws.length:=by
 induction ws using ZfX with
 | nil=>exact XaW _
 | snoc ws kw ih =>
   obtain ⟨k,w⟩:=kw;rw [Zbc,Xac]
   split
   . split
     . omega
     . rw [Xac];simp;exact ih
   . omega
abbrev keyP (p:Str×Str):List Key:=[.inr p.1,.inr p.2]
theorem PrsAt.tups (e:∀ b xs,H b=some (.tup xs)->H' b=some (.tup xs)):∀ {xs:List V} {ps:List (List Key×V)},PrsAt H xs ps->PrsAt H' xs ps:=fun h =>
 Paired.mapP h fun _ _ ⟨t,b,h1,h2,h3⟩=>⟨t,b,h1,e _ _ h2,e _ _ h3⟩
theorem Zfw {k:List Key}:∀ {ps acc:List (List Key×V)},(valV (Zd5 acc ps) k).isSome=true↔(valV acc k).isSome=true\/k∈ps.map (·.1)
 | [],acc=>by simp [Zd5]
 | p :: ps,acc=>by
   show (valV (Zd5 (putK acc p.1 p.2) ps) k).isSome=true↔_;rw [Zfw,ZkU,Xao,Xam]
   by_cases h:k=p.1
   . rw [Xbe h];simp [h]
   . rw [Xbd h];simp [h]
def BetD (H:Hp) (p:Addr) (ord:List (Str×Str)):Prop:=∃ kvs,H p=some (.dT kvs)/\∀ a b,(valV kvs (keyP (a,b))).isSome=dec ((a,b)∈ord)
variable {ord:List (Str×Str)}
theorem BetD.same {p:Addr}(e:Same H H') (h:BetD H p ord):BetD H' p ord:=let ⟨k,a,b⟩:=h;⟨k,e _ _ a,b⟩
theorem Zlm (a b:Str):(valV (Zd5 [] (ord.map fun p=>(keyP p,V.bl true))) (keyP (a,b))).isSome=dec ((a,b)∈ord):=by
 have : (valV (Zd5 [] (ord.map fun p => (keyP p, V.bl true))) (keyP (a, b))).isSome = true ↔ (a, b) ∈ ord := by
  rw [Zfw]
  constructor
  . rintro (h | h)
    . simp [valV] at h
    . rw [Xax] at h
      obtain ⟨q,hq,e⟩:=Xai.mp h;obtain ⟨q1,q2⟩:=q;simp at e;rw [<-e.1,<-e.2];exact hq
  . intro h
    refine .inr ?_;rw [Xax];exact Xai.mpr ⟨_,h,rfl⟩
 by_cases h:(a,b)∈ord
 . rw [ZaC h];exact this.mpr h
 . rw [ZaL h]
   cases e:(valV (Zd5 [] (ord.map fun p=>(keyP p,V.bl true))) (keyP (a,b))).isSome with
   | false=>rfl
   | true=>exact absurd (this.mp e) h
def numW (l:List (List Mrk)):Ws Mrk:=l.zipIdx.map fun p=>(p.2,p.1)
theorem ZjZ (l:List (List Mrk)) (w:List Mrk):numW (l++[w])=numW l++[(l.length,w)]:=by
 unfold numW;rw [List.zipIdx_append,Xad]
 simp
variable {l:List (List Mrk)}{i:Nat}{w:List Mrk}
theorem Zj0 (h:l[i]?=some w):numW (l.take (i+1))=numW (l.take i)++[(i,w)]:=by
 have hi:=(Xae.mp h).1;rw [Xar,h];show numW (l.take i++[w])=_;rw [ZjZ,Xaw,Nat.min_eq_left (XaY hi)]
theorem Zil (l:List (List Mrk)):((numW l).map (·.1)).Pairwise (· < ·):=by
 have:(numW l).map (·.1)=List.range l.length:=by
  unfold numW;rw [Xax,List.range_eq_range'];exact List.zipIdx_map_snd 0 l
 rw [this];exact List.pairwise_lt_range
theorem numW_mem :(k,w)∈numW l↔l[k]?=some w:=by
 unfold numW;rw [Xai]
 constructor
 . rintro ⟨⟨a,b⟩,h,e⟩
   cases e;exact List.mem_zipIdx_iff_getElem?.mp h
 . intro h
   exact ⟨(w,k),List.mem_zipIdx_iff_getElem?.mpr h,rfl⟩
noncomputable def betM (ss:List Sco) (ord:List (Str×Str)) (x m:Mrk):Bool:=dec ((ZbH ss x,ZbH ss m)∈ord)
variable {ss:List Sco}
theorem Zln (h:∀ x,(x,x) ∉ ord) (m:Mrk):betM ss ord m m=false:=ZaL (h _)
theorem ZeF (ss:List Sco) (ord:List (Str×Str)):∀ (a b:List Mrk),hid (betM ss ord) a b=ZaO ss ord a b
 | x :: s,m :: t=>by
   show (if x=m then _ else betM ss ord x m)=_
   by_cases e:x=m
   . subst e;rw [Xbe rfl,ZeA];exact ZeF ss ord s t
   . rw [Xbd e,ZgR ss ord s t e];rfl
 | [],m=>by rw [ZdQ ss ord (.inl rfl)];rfl
 | _ :: _,[]=>by rw [ZdQ ss ord (.inr rfl)];rfl
theorem gat_nil (h:∀ x,(x,x) ∉ ord) :gat (betM ss ord) (numW l) [] w=[]↔∀ v∈l,ZaO ss ord v w=false:=by
 constructor
 . intro e v hv
   obtain ⟨k,hk⟩:=List.mem_iff_getElem?.mp hv
   cases hh:ZaO ss ord v w with
   | false=>rfl
   | true =>
     obtain ⟨j,hj,_⟩:=ZjX (Zil l) (numW_mem.mpr hk) (by rw [ZeF];exact hh);rw [e] at hj;cases hj
 . intro hall
   cases e:gat (betM ss ord) (numW l) [] w with
   | nil=>rfl
   | cons k ks =>
     exfalso;obtain ⟨v,hv,hh⟩:=ZgU (Zil l) (Zln h) w [] k (by rw [e];simp);rw [List.nil_append,ZeF] at hh;rw [hall v (List.mem_iff_getElem?.mpr ⟨k,numW_mem.mp hv⟩)] at hh;cases hh
noncomputable def Zbj (ss:List Sco) (ord:List (Str×Str)) (all l:List (List Mrk)):List (List Mrk):=l.filter fun w=>!all.any fun v=>ZaO ss ord v w
theorem ZeG {all:List (List Mrk)} (h:l[i]?=some w):Zbj ss ord all (l.take (i+1))=if (all.any fun v=>ZaO ss ord v w)=true then Zbj ss ord all (l.take i) else Zbj ss ord all (l.take i)++[w]:=by
 unfold Zbj;rw [Xar,h,XaS];show _++List.filter _ [w]=_;rw [XaM]
 cases all.any fun v=>ZaO ss ord v w with
 | true=>rw [Xbe rfl];simp
 | false=>simp
theorem ZfZ {all:List (List Mrk)} :(Zbj ss ord all l).length<=l.length:=XaU _ _
theorem least_non {ks:List Nat}:Zij (ks.map fun k:Nat=>(k:Int))=.non↔ks=[]:=by
 cases ks with
 | nil=>exact ⟨fun _=>rfl,fun _=>rfl⟩
 | cons k ks=>exact ⟨fun h=>(nomatch h),fun h=>(nomatch h)⟩
theorem Zf0 (h:∀ x,(x,x) ∉ ord) :gat (betM ss ord) (numW l) [] w=[]↔(l.any fun v=>ZaO ss ord v w)=false:=by
 rw [gat_nil h,List.any_eq_false];exact ⟨fun z v hv=>by rw [z v hv];simp,fun z v hv=>by have:=z v hv;simpa using this⟩
variable {σ:St}
theorem ZeH {caps:List Nat}{g:TG}{tc:TT}{te:TE}{H1:Hp}{Q:Addr->Hp->Prop}{lo:Int}(Pv:Addr->Nat->List V->Hp->Prop)
 (h0:∀ D,H1 D=none->Pv D 0 [] (upd H1 D (.lst [])))
 (hs:∀ (D:Addr) (i:Nat) (ys:List V) (H2:Hp) (R:VK) (R0:Hp->Prop),H1 D=none->i<n->Pv D i ys H2->(∀ y H6,H6 D=some (.lst ys)->ys.length<sizeLine->Pv D (i+1) (ys++[y]) (upd H6 D (.lst (ys++[y])))->R y H6)->(∀ H5,Pv D (i+1) ys H5->R0 H5)->g (.int (lo+i)) (Zbe k caps σ) H2 fun σ4 H4=>tc σ4 H4 fun b H5=>if b=true then te σ4 H5 R else R0 H5)
 (hd:∀ D ys H2,H1 D=none->Pv D n ys H2->Q D H2) :
 ∀ D,H1 D=none->∃ W:Nat->Nat->List V->Hp->Prop,(∃ m,W 0 m [] (upd H1 D (.lst [])))/\∀ i m ys H2,W i m ys H2 ->
  ((Itr lo n).stop i H2/\Q D H2)\/((Itr lo n).go i H2/\∀ x H3,(Itr lo n).yld i H2 x H3->g x (Zbe k caps σ) H3 fun σ4 H4=>tc σ4 H4 fun b H5 =>
   if b=true then te σ4 H5 fun y H6=>H6 D=some (.lst ys)/\ys.length<sizeLine/\∃ m',m' < m/\W (i+1) m' (ys++[y]) (upd H6 D (.lst (ys++[y]))) else ∃ m',m' < m/\W (i+1) m' ys H5):=by
 intro D hD;refine ⟨fun i m ys H2=>m=n - i/\i<=n/\Pv D i ys H2,⟨n,rfl,Xa0 _,h0 D hD⟩,?_⟩;rintro i m ys H2 ⟨rfl,hi,p⟩
 by_cases hlt:i<n
 . refine .inr ⟨hlt,fun x H3 y=>?_⟩
   obtain ⟨rfl,rfl⟩:=y;refine hs D i ys H3 _ _ hD hlt p (fun v H6 e6 hz p6=>?_) (fun H5 p5=>?_)
   . exact ⟨e6,hz,n - (i+1),by omega,rfl,hlt,p6⟩
   . exact ⟨n - (i+1),by omega,rfl,hlt,p5⟩
 . have e:i=n:=by omega
   subst e;exact .inl ⟨XaW _,hd D ys H2 hD p⟩
section
variable {prog:Program} {w:World} {A:Around} {E:Value->Shared->Prop} {s:Shared}
theorem Zc4 {j p:Addr}{vs:Array Value}{y:Value}{Q:Value->Shared->Prop} (hj:s.heap.IsTupleIter j p k) (hp:s.heap.IsTuple p vs) (hy:vs[k]?=some y)
 (q:∀ g,g.IsTupleIter j p (k+1)->Heap.SameBut j s.heap g->Q y { s with heap:=g }):wpAny (model prog w) A (Builtin.SmallTypes.nextOf (.ref j)) Q E s:=by
 obtain ⟨oj,ej,cj,dj⟩:=id hj;obtain ⟨op,ep,_,_,dp⟩:=hp;unfold Builtin.SmallTypes.nextOf
 refine Xbk (wpAny_callSpecial?_slot (name:=Str.ofString "__next__") hj.typeIs F.slot_tuple_iterator_next (wpAny_call_entry F.slot_tuple_iterator_next hj.typeIs F.entry_tuple_iterator_next ?_ (F.args_tuple_iterator_next_1 _)))
 show wpAny _ _ (field (.ref j) 0 >>= _) _ _ s;refine Xbk (wpAny_field ej dj (x:=.ref p) rfl ?_);show wpAny _ _ (if (Value.ref p == Value.none)=true then _ else _) _ _ s;rw [Xbd (show ¬((Value.ref p == Value.none)=true) from Xbb)];show wpAny _ _ (field (.ref j) 1 >>= _) _ _ s;refine Xbk (wpAny_field ej dj (x:=.int k 0) rfl ?_);show wpAny _ _ (seqItems? (.ref p) >>= _) _ _ s;refine Xbk (Xbv ep dp ?_);simp only [Xa4,hy];refine Xbk (wpAny_setField ej dj (by simp) (Xbl ⟨y,rfl,Xbl (q _ ⟨_,Heap.get?_update_self _ ej (Obj.isFreed_of_fields (Obj.data_mapFields dj _)),(Obj.cls_mapFields ..).trans cj,by rw [Obj.data_mapFields dj];simp [rawInt]⟩ (Heap.SameBut.update ..))⟩))
theorem ZeI {j p:Addr}{vs:Array Value}{Q:Value->Shared->Prop} (hh:A.handled=none) (hj:s.heap.IsTupleIter j p k) (hp:s.heap.IsTuple p vs) (hy:vs[k]?=none)
 (q:∀ g x,Heap.ExtBut j s.heap g->(∃ o,g.get? x=some o/\o.cls=.type "StopIteration")->E (.ref x) { s with heap:=g }):wpAny (model prog w) A (Builtin.SmallTypes.nextOf (.ref j)) Q E s:=by
 obtain ⟨oj,ej,cj,dj⟩:=id hj;obtain ⟨op,ep,_,_,dp⟩:=hp;unfold Builtin.SmallTypes.nextOf
 refine Xbk (wpAny_callSpecial?_slot (name:=Str.ofString "__next__") hj.typeIs F.slot_tuple_iterator_next (wpAny_call_entry F.slot_tuple_iterator_next hj.typeIs F.entry_tuple_iterator_next ?_ (F.args_tuple_iterator_next_1 _)))
 show wpAny _ _ (field (.ref j) 0 >>= _) _ _ s;refine Xbk (wpAny_field ej dj (x:=.ref p) rfl ?_);show wpAny _ _ (if (Value.ref p == Value.none)=true then _ else _) _ _ s;rw [Xbd (show ¬((Value.ref p == Value.none)=true) from Xbb)];show wpAny _ _ (field (.ref j) 1 >>= _) _ _ s;refine Xbk (wpAny_field ej dj (x:=.int k 0) rfl ?_);show wpAny _ _ (seqItems? (.ref p) >>= _) _ _ s;refine Xbk (Xbv ep dp ?_);simp only [Xa4,hy];refine Xbk (Xbw (Xbk (wpAny_setField ej dj (by simp) ?_)))
 show wpAny _ _ (newExc (.type "StopIteration") [] >>= _) _ _ _
 refine Xbk ?_;simp only [newExc,newTuple];refine Xbk (wpAny_newObj_type (Xbk (m:=firstArgMember _ _) (wpAny_of_eq (a:=Value.none) (by first | rfl | (simp only [firstArgMember];rfl)) (wpAny_newObj_type ?_ (by size_fits)))) (by size_fits));simp only [raiseNew];refine Xbk (wpAny_handled ?_)
 first | rw [show A.in1.handled=none from hh] | rw [hh]
 exact Xbk (Xbl (wpAny_throw (q _ _ (((Heap.SameBut.update ..).extBut.push _).push _) ⟨_,Xbq _ rfl,rfl⟩)))
end
variable {prog:Program}
theorem drawsT {w:World}(hh:A.handled=none) (j p:Addr) (hn:p≠j) (vs:Array Value):Draws prog w A j [j,p] vs.size (fun i v=>vs[i]?=some v) (fun i h=>h.IsTupleIter j p i/\h.IsTuple p vs) where
 live _ _ st:=let ⟨o,ho,_⟩:=st.1;⟨o,ho⟩
 frame _ _ _ st k:=by
  obtain ⟨⟨o,a1,a2⟩,u,b1,b2⟩:=st;exact ⟨⟨o,k j (by simp) _ a1,a2⟩,u,k p (by simp) _ b1,b2⟩
 item i s Q E hi st q:=Zc4 st.1 st.2 (y:=vs[i]) (by simp [hi]) fun g h1 h2=>q _ g s.toks (by simp [hi]) ⟨h1,st.2.extBut h2.extBut hn⟩ h2
 done s Q E st q:=ZeI hh st.1 st.2 (by simp) q
theorem ZhC (p:Addr) (vs:Array Value) (n:Nat) (dct:Option Addr) (sl:Array (Option Value)) :
 Meets (Builtin.«enumerate.__new__» ⟨[.type "enumerate",.ref p],[]⟩) (fun _ R s=>s.heap.get? p=some { cls:=.type "tuple",dict:=dct,data:=.seq vs n,slots:=sl }/\R (.ok (.ret (.ref (s.heap.push { cls:=.type "tuple_iterator",data:=.fields #[.ref p,.int 0 0] }).objs.size))) { s with heap:=(s.heap.push { cls:=.type "tuple_iterator",data:=.fields #[.ref p,.int 0 0] }).push { cls:=.type "enumerate",data:=.fields #[.none,.bool false,.ref s.heap.objs.size,rawInt 0,.none,.none] } }) :=
 .of_wp fun prog w A R s h=>by
  obtain ⟨hp,g,d,tk,os⟩:=s;obtain ⟨hl,h⟩:=h;have hsub:=sub_enumerate;have hT:Heap.IsTuple (Shared.heap ⟨hp,g,d,tk,os⟩) p vs:=⟨_,hl,rfl,n,rfl⟩
  wp_walk using AutoSeq1.wpAny_loadPart' hl
  refine wpAny_stack_any fun st=>Xbl ?_
  split
  . rename_i c _ _ _ _ _
    cases (c == Value.type "enumerate") <;> (wp_walk using AutoSeq1.wpAny_loadPart' hl,wpAny_pyIter_tuple hT;exact ⟨_,rfl,h⟩)
  . wp_walk using AutoSeq1.wpAny_loadPart' hl,wpAny_pyIter_tuple hT
    exact ⟨_,rfl,h⟩
variable {Q:Value->Shared->Prop}
theorem ZiU {w:World}{E:Value->Shared->Prop}{s:Shared}{p:Addr}{vs:Array Value}(hT:s.heap.IsTuple p vs)
 (h:∀ g,IsEnum g (s.heap.objs.size+1) s.heap.objs.size 0 .none->g.IsTupleIter s.heap.objs.size p 0->g.objs.size=s.heap.objs.size+2->(∀ b o,s.heap.get? b=some o->g.get? b=some o)->Q (.ref (s.heap.objs.size+1)) { s with heap:=g }) :
 wpAny (model prog w) A (call (.type "enumerate") [.ref p]) Q E s:=by
 obtain ⟨⟨c,dct,dt,sl⟩,hl,hc,n,hd⟩:=hT
 replace hc:c=.type "tuple" := hc
 replace hd:dt=.seq vs n:=hd
 subst hc hd;refine callType_new F.called_enumerate (by decide) (F.typeCall_enumerate_1 _) (F.newCall_enumerate_1 _) (fun obj=>F.args_object_init_2 obj _) F.entry_enumerate_new (ZhC p vs n dct sl) ⟨hl,?_⟩
 have hz:(s.heap.push { cls:=.type "tuple_iterator",data:=.fields #[.ref p,.int 0 0] }).objs.size=s.heap.objs.size+1:=Heap.size_push ..
 show _/\_;rw [hz]
 have he:IsEnum ((s.heap.push { cls:=.type "tuple_iterator",data:=.fields #[.ref p,.int 0 0] }).push { cls:=.type "enumerate",data:=.fields #[.none,.bool false,.ref s.heap.objs.size,rawInt 0,.none,.none] }) (s.heap.objs.size+1) s.heap.objs.size 0 .none:=by
  have e:=Xbq (s.heap.push { cls:=.type "tuple_iterator",data:=.fields #[.ref p,.int 0 0] }) (o:={ cls:=.type "enumerate",data:=.fields #[.none,.bool false,.ref s.heap.objs.size,rawInt 0,.none,.none] }) rfl
  rwa [hz] at e
 exact ⟨⟨_,he,rfl⟩,h _ he ⟨_,Xbo _ (Xbq _ rfl),rfl,rfl⟩ (by rw [Heap.size_push,hz]) fun b o x=>Xbo _ (Xbo _ x)⟩
def IteT (K:XFg) (l:Addr):It :=
 ⟨fun i H=>∃ xs x,SqT K H l xs/\xs[i]?=some x,
  fun i H v H'=>∃ T x,H T=none/\v=.ref T/\H'=upd H T (.tup [.int i,x])/\∀ xs,SqT K H l xs->xs[i]?=some x,
  fun i H=>∃ xs,SqT K H l xs/\xs.length=i⟩
def EnumTS (e it l:Addr) (i:Nat) (h:Heap):Prop:=(∃ old,IsEnum h e it i old)/\h.IsTupleIter it l i
variable {es:List Expr}{pos:Pos}
theorem ZiV {P:Program}{w:World}{K:XFg}{e it l:Addr} (hei:e≠it) (hel:e≠l) (hil:l≠it) :
 Turn P w K (.Tuple es k pos) (IteT K l) [e,it] e (EnumTS e it l) where
 mem:=by simp
 obj:=fun i h st b hb=>by
  obtain ⟨⟨old,he⟩,⟨o1,e1,c1,d1⟩⟩:=st;simp at hb
  rcases hb with rfl | rfl
  . exact ⟨_,he,fun v q=>by cases q⟩
  . exact ⟨_,e1,fun v q=>by rw [d1] at q;cases q⟩
 keep:=fun i h h' st kk=>by
  obtain ⟨⟨old,he⟩,⟨o1,e1,c1,d1⟩⟩:=st;exact ⟨⟨old,kk e (by simp) _ he⟩,⟨o1,kk it (by simp) _ e1,c1,d1⟩⟩
 item := by
  intro X hP hw hK hc i pins s σ H E I hf st hg;subst hP hw hK;obtain ⟨xs,x,hq1,hx⟩:=hg;obtain ⟨⟨old,he⟩,h1⟩:=st;obtain ⟨its1,rv1,p1,hz1⟩:=I.tuple hq1;obtain ⟨u1,hu1,ru1⟩:=rv1.get hx;have p1':s.heap.IsTuple l its1.toArray:=p1
  have hlt:i<its1.toArray.size:=by have:=(Xae.mp hu1).1;simpa using this
  refine wpAny_pyNext_enum_itemD (drawsT (A:=X.A.in1) (by exact I.ok.hd hc) it l hil its1.toArray) he ⟨h1,p1'⟩ hlt hei (by simp;exact ⟨hei,hel⟩) fun y h' tk hy a1 a2 a3 a4 hk=>?_
  have ey:y=u1:=by
   have h2:its1.toArray[i]?=some u1:=by simpa using hu1
   rw [h2] at hy;exact (Xbc hy).symm
  subst ey;refine ⟨_,rfl,wpAny_letOwnedTupleGo_enum (s:={ s with heap:=h',toks:=tk+1 }) a1 fun h'' hz'' hs''=>?_⟩;have fe:=hf e (by simp);have fi:=hf it (by simp);have trk:∀ b u,H b=some u->b≠e/\b≠it:=fun b u z=>⟨Zad z fe.1,Zad z fi.1⟩;have keep:∀ b o,b≠e->b≠it->s.heap.get? b=some o->h''.get? b=some o:=fun b o n1 n2 z=>(hs''.2 b n1).trans (hk b o n1 n2 z)
  have nch:∀ {b:Addr},b ∉ [e,it]->b≠e/\b≠it:=fun {b} hb=>by simpa using hb
  have I1:Inv X pins σ H { s with heap:=h'',toks:=tk+1 }:=by
   refine I.step (g':=s.gens) (t':=tk+1) (d':=s.drawn) (h':=h'') (ch:=[e,it]) (fun b hb=>?_) (fun b ob _ _ hb z _=>keep b ob (nch hb).1 (nch hb).2 z) (fun b ob _ _ hb z _=>⟨ob.slots,keep b ob (nch hb).1 (nch hb).2 z⟩)
    (fun _ _ _ _ n=>n) (fun b ob hb z=>⟨ob,keep b ob (nch hb).1 (nch hb).2 z⟩) (fun _ _ z=>z) (fun _ _ _ z=>z) (fun b ps z=>⟨#[],by rw [z];simp⟩) (fun m hm=>?_) (fun b u z=>?_) I.bare
   . have:b=e\/b=it:=by simpa using hb
     rcases this with rfl | rfl
     . exact ⟨fe.2.2.2.1,fe.2.1,fe.2.2.2.2.1,fe.2.2.2.2.2⟩
     . exact ⟨fi.2.2.2.1,fi.2.1,fi.2.2.2.2.1,fi.2.2.2.2.2⟩
   . obtain ⟨o,es,ep,ho,r⟩:=hm
     exact ⟨o,es,ep,keep _ o (Ne.symm fe.2.1) (Ne.symm fi.2.1) ho,r⟩
   . refine (I.hok b u z).stay (fun c v hc q=>?_) (fun _ q=>q) fun _ _ q=>q
     have hc':∃ u',H c=some u':=by
      rcases hc with rfl | hc
      . exact ⟨_,z⟩
      . exact ⟨_,hc⟩
     obtain ⟨u',e'⟩:=hc';obtain ⟨n1,n2⟩:=trk c u' e';exact keep c v n1 n2 q
  have hTz:s.heap.objs.size≠e:=Nat.ne_of_gt (Xbp he);have hT0:H s.heap.objs.size=none:=I.hok.fresh (XaW _)
  have hTget:h''.get? s.heap.objs.size=some { cls:=.type "tuple",data:=.seq #[.int i tk,y] }:=(hs''.2 _ hTz).trans a3
  have I2:Inv X pins σ (upd H s.heap.objs.size (.tup [.int i,x])) { s with heap:=h'',toks:=tk+1 }:=by
   refine I1.track (I.fpOk (XaW _) hT0) ⟨_,hTget⟩ ?_;exact ⟨by show 2<=sizeLine;decide,[.int i tk,y],.cons ⟨_,rfl⟩ (.cons ru1 .nil),⟨_,hTget,rfl,_,rfl⟩⟩
  refine ⟨.ref s.heap.objs.size,_,I2,rfl,⟨s.heap.objs.size,x,hT0,rfl,rfl,fun zs hzs=>by rw [I.tuple_inj hzs hq1];exact hx⟩,?_,fun b hb=>?_⟩
  . refine ⟨⟨y,by simpa using hz''⟩,a2.1.extBut hs''.extBut (Ne.symm hei)⟩
  . have hb':=(hf b hb).1
    rw [Zal (fun q=>?_)]
    . exact hb'
    . have hb2:b=e\/b=it:=by simpa using hb
      obtain ⟨o1,e1,_⟩:=h1
      have lt:b<s.heap.objs.size:=by
       rcases hb2 with rfl | rfl
       . exact Xbp he
       . exact Xbp e1
      rw [q] at lt;exact absurd lt (XaX _)
 done:=by
  intro X hP hw hK hc i pins s σ H E I hf st hg;subst hP hw hK;obtain ⟨xs,hq1,hend⟩:=hg;obtain ⟨⟨old,he⟩,h1⟩:=st;obtain ⟨its1,rv1,p1,hz1⟩:=I.tuple hq1;have l1':=rv1.length;have p1':s.heap.IsTuple l its1.toArray:=p1
  have ei:i=its1.toArray.size:=by simp;omega
  obtain ⟨f0,f1,f2,f3,f4,f5⟩:=hf it (by simp);refine wpAny_pyNext_enum_endD (drawsT (A:=X.A.in1) (by exact I.ok.hd hc) it l hil its1.toArray) he ⟨by rw [<-ei];exact h1,p1'⟩ fun h' eb=>⟨rfl,I.turned (t':=s.toks) (fun b o hb z=>eb b o hb z) f0 f1 f3 f4 f5⟩
 self:=fun _ _ _ _ _ st h=>by
  obtain ⟨⟨old,he⟩,_⟩:=st;exact wpAny_pyIter_enum he h
def iEnumT (K:XFg) (ta:TA):TI:=fun σ H R=>ta σ H fun vs H1=>∃ l,vs=[.ref l]/\(∃ xs,SqT K H1 l xs)/\R (IteT K l) H1
variable {X:Cx}
theorem Zlo {tpos:Pos}{a:Expr}{ta:TA}{p:Pos} (hg:Gl X "enumerate") (hm:X.mg "enumerate" = none) (ha:PA X [a] ta) (hs:starEach [a] X.env=[(false,eval a X.env)]:=by rfl) :
 PI X (.Tuple es k tpos) (.Call (.Name "enumerate" p) [a] [] pos) (iEnumT X.K ta):=by
 intro pins s σ H R I h
 refine Call_ (Zc9 I hg hm (u:=.type "enumerate") (by decide +kernel) (PyProof.Rows.callWith_type1 (thn (ha pos pins s σ H _ I h) fun us s1 ⟨vs,H1,I1,r1,q1⟩=>?_) (by rw [hs];rfl) (by rfl)))
 obtain ⟨l,rfl,⟨xs,hq⟩,q⟩:=q1;obtain ⟨u1,rfl,ru1⟩:=Zdh r1;obtain rfl:u1=Value.ref l:=ru1;obtain ⟨its,rv,e,z⟩:=I1.tuple hq;have e':s1.heap.IsTuple l its.toArray:=e;obtain ⟨ol,el,_⟩:=id e';have a1:l<s1.heap.objs.size:=Xbp el;refine ZiU e' fun h' he hi hsz hk=>?_;refine wpAny_pyIter_enum (s:={ s1 with heap:=h' }) he ?_;refine ⟨_,[s1.heap.objs.size+1,s1.heap.objs.size],_,_,H1,rfl,I1.kept (t':=s1.toks) hk,ZiV (Nat.succ_ne_self _) (Nat.ne_of_gt (Nat.lt_succ_of_lt a1)) (XaZ a1),⟨⟨_,he⟩,hi⟩,fun b hb=>?_,q⟩
 have hb':s1.heap.objs.size<=b:=by
  have hb2:b=s1.heap.objs.size+1\/b=s1.heap.objs.size:=by simpa using hb
  rcases hb2 with rfl | rfl
  . exact Nat.le_add_right _ _
  . exact XaW _
 exact I1.fpOk hb' (I1.hok.fresh hb')
theorem Zj1 {K:XFg}{l:Addr}{xs:List V}{g:TG}{tb:TS}{D:Ends}(Pv:Nat->St->Hp->Prop) (h0:Pv 0 σ H) (hl:∀ i σ H,Pv i σ H->SqT K H l xs)
 (hs:∀ i x T σ H,xs[i]?=some x->H T=none->Pv i σ H->g (.ref T) σ (upd H T (.tup [.int i,x])) fun σ2 H2=>tb { D with nx:=Pv (i+1),ct:=Pv (i+1),bk:=D.nx } σ2 H2) (hd:∀ σ H,Pv xs.length σ H->D.nx σ H) :
 ∃ W:Nat->Nat->St->Hp->Prop,(∃ m,W 0 m σ H)/\∀ i m σ H,W i m σ H ->
  ((IteT K l).stop i H/\D.nx σ H)\/((IteT K l).go i H/\∃ N:St->Hp->Prop,(∀ σ' H',N σ' H'->∃ m',m' < m/\W (i+1) m' σ' H')/\∀ x H',(IteT K l).yld i H x H'->g x σ H' fun σ2 H2=>tb { D with nx:=N,ct:=N,bk:=D.nx } σ2 H2):=by
 refine ⟨fun i m σ H=>m=xs.length - i/\i<=xs.length/\Pv i σ H,⟨_,rfl,Xa0 _,h0⟩,?_⟩;rintro i m σ H ⟨rfl,hi,p⟩;have q1:=hl i σ H p
 by_cases hlt:i<xs.length
 . refine .inr ⟨⟨xs,xs[i],q1,by simp [hlt]⟩,Pv (i+1),fun σ' H' p'=>⟨xs.length - (i+1),by omega,rfl,hlt,p'⟩,fun v H' y=>?_⟩
   obtain ⟨T,x,hT,rfl,rfl,e1⟩:=y;exact hs i x T σ H (e1 xs q1) hT p
 . have e:i=xs.length:=by omega
   refine .inl ⟨⟨xs,q1,by omega⟩,?_⟩;rw [e] at p;exact hd σ H p
section
variable {X:Cx}
def rCountD (K:XFg):V->List V->Hp->VK->Prop:=fun x vs H Q=>∃ (n:Nat) (d:Dt) (ds:List Dt) (a:Addr) (us:List V) (y:V),x=.ref a/\vs=[y]/\SqL K H a us/\IsDts K H us ds/\IsDt K H y d/\(∀ e∈ds,Cmp n e d)/\n<=60/\Q (.int (ds.countP fun e=>dec (e=d):Nat)) H
theorem ZgY {pins:List (Addr×Obj)} {σ:St} {H:Hp} {s:Shared} (I:Inv X pins σ H s) {d:Dt}:∀ {vs:List V} {its:List Value} {ds:List Dt},Vals vs its->IsDts X.K H vs ds->its.countP (fun y=>dec (∃ u,RelV u y/\IsDt X.K H u d))=ds.countP fun e=>dec (e=d)
 | _,_,_,.nil,.nil=>rfl
 | _,_,_,.cons ru r,.cons te t=>by
   rw [List.countP_cons,List.countP_cons,ZgY I r t];congr 1
   have e:dec (∃ u,RelV u _/\IsDt X.K H u d)=dec (_=d):=Zbi ⟨fun ⟨u',ru',te'⟩=>by
    have e1:=ru.inj ru';subst e1
    exact IsDt.inj I te te',fun z=>⟨_,ru,z ▸ te⟩⟩
   rw [e]
theorem Zj2 (hu:X.A.units+64<cLine):MtR X "list.count" (rCountD X.K):=by
 intro pins s σ H x vs v us Q I rx rv h;obtain ⟨n,d,ds,a,ws,y,rfl,rfl,hq,t,td,hc,hn,q⟩:=h;cases rx;obtain ⟨u,rfl,ru⟩:=Zdh rv;obtain ⟨its,r,p,_⟩:=I.list hq;obtain ⟨h1,h2⟩:=ZfI (A:=X.A.in1) I r t hc td ru (by rw [Za4];omega);obtain ⟨⟨c,dct,dt,sl⟩,hl,hcl,m,hd⟩:=p.isList
 replace hcl:c=.type "list" := hcl
 replace hd:dt=.seq its.toArray m:=hd
 subst hcl hd;refine call_meets F.slot_list_count ⟨_,hl,rfl⟩ F.entry_list_count (F.args_list_count_2 _ _) (PySem.SeqAt.list_countAt a its.toArray m dct sl u (fun y=>dec (∃ u,RelV u y/\IsDt X.K H u d))) ⟨hl,h1,?_⟩;refine ⟨.int (ds.countP fun e=>dec (e=d):Nat),H,I.tok _,?_,q⟩;rw [show its.toArray.toList=its from rfl,ZgY I r t];exact ⟨_,rfl⟩
end
section
variable {prog:Program} {w:World} {A:Around} {E:Value->Shared->Prop} {s:Shared}
variable {z a o j q:Addr}{xs ys:Array Value}{u:Value}
theorem Zj3 {i p:Addr} {m:Nat} {x y v:Value} (D:ZipApart z a o i j p q) (ez:IsZip s.heap z a o .none) (ea:IsPair s.heap a (.ref i) (.ref j)) (eo:IsPair s.heap o u v)
 (ei:s.heap.IsTupleIter i p k) (ej:s.heap.IsTupleIter j q m) (tp:s.heap.IsTuple p xs) (tq:s.heap.IsTuple q ys) (hx:xs[k]?=some x) (hy:ys[m]?=some y)
 (fin:∀ g,IsZip g z a o (rawInt s.heap.objs.size)->IsPair g o x y->g.IsTupleIter i p (k+1)->g.IsTupleIter j q (m+1)->IsPair g s.heap.objs.size x y->g.objs.size=s.heap.objs.size+1->(∀ c d,c≠z->c≠o->c≠i->c≠j->s.heap.get? c=some d->g.get? c=some d)->Q (.ref s.heap.objs.size) { s with heap:=g }) :
 wpAny (model prog w) A (Builtin.«zip.__next__» ⟨[.ref z],[]⟩) (fun f t=>∃ v,f=.done (.ret v)/\Q v t) E s:=by
 show wpAny _ _ (field (.ref z) 2 >>= _) _ _ _;refine Xbk (wpAny_field ez rfl (x:=.bool false) rfl ?_);show wpAny _ _ (field (.ref z) 3 >>= _) _ _ _;refine Xbk (wpAny_field ez rfl (x:=.ref a) rfl (Xbk (Xbv ea rfl ?_)));show wpAny _ _ (Builtin.SmallTypes.ownedTupleIsFree (.ref z) >>= _) _ _ _;refine Xbk ?_;unfold Builtin.SmallTypes.ownedTupleIsFree;refine Xbk (wpAny_field ez rfl (x:=.none) rfl (Xbl ?_));simp only [if_true];refine Xbk (Xbw (Xbk (wpAny_field ez rfl (x:=.ref o) rfl (Xbk (wpAny_setField_rec ez (by simp) fun g1 z1 b1=>?_)))))
 replace z1:IsZip g1 z a o .ellipsis:=z1
 refine Xbk ?_;simp only [List.zipIdx_cons,List.zipIdx_nil,List.forIn_cons,List.forIn_nil];refine Xbk (Xbk (wpAny_onRaise ?_));show wpAny _ _ (Builtin.SmallTypes.nextOf (.ref i) >>= _) _ _ _;refine Xbk (Zc4 (ei.extBut b1.extBut D.i1z) (tp.extBut b1.extBut D.l1z) hx fun g2 i2 b2=>Xbl ?_);have o2:IsPair g2 o u v:=b2.extBut _ _ D.TOi1 (b1.extBut _ _ D.TOz eo);refine Xbk (Xbv o2 rfl (Xbk (wpAny_updateSeq_pair o2 fun g3 o3 b3=>Xbk (wpAny_letGo (Xbl ?_)))))
 replace o3:IsPair g3 o x v:=o3
 refine Xbk (Xbk (wpAny_onRaise ?_));show wpAny _ _ (Builtin.SmallTypes.nextOf (.ref j) >>= _) _ _ _;refine Xbk (Zc4 (((ej.extBut b1.extBut D.i2z).extBut b2.extBut D.i12.symm).extBut b3.extBut D.TOi2.symm) (((tq.extBut b1.extBut D.l2z).extBut b2.extBut D.l2i1).extBut b3.extBut D.l2TO) hy fun g4 j4 b4=>Xbl ?_);have o4:IsPair g4 o x v:=b4.extBut _ _ D.TOi2 o3;refine Xbk (Xbv o4 rfl (Xbk (wpAny_updateSeq_pair o4 fun g5 o5 b5=>Xbk (wpAny_letGo (Xbl (Xbl ?_))))))
 replace o5:IsPair g5 o x y:=o5
 refine Xbk (Xbv o5 rfl (Xbk (wpAny_newTuple ?_)))
 have sz:g5.objs.size=s.heap.objs.size:=by rw [b5.1,b4.1,b3.1,b2.1,b1.1]
 have z5:IsZip g5 z a o .ellipsis:=b5.extBut _ _ D.TOz.symm (b4.extBut _ _ D.i2z.symm (b3.extBut _ _ D.TOz.symm (b2.extBut _ _ D.i1z.symm z1)));have k5:∀ c d,c≠z->c≠o->c≠i->c≠j->s.heap.get? c=some d->g5.get? c=some d:=fun c d n1 n2 n3 n4 e=>b5.extBut _ _ n2 (b4.extBut _ _ n4 (b3.extBut _ _ n2 (b2.extBut _ _ n3 (b1.extBut _ _ n1 e))));have i5:g5.IsTupleIter i p (k+1):=((i2.extBut b3.extBut D.TOi1.symm).extBut b4.extBut D.i12).extBut b5.extBut D.TOi1.symm;have j5:g5.IsTupleIter j q (m+1):=j4.extBut b5.extBut D.TOi2.symm;have lz:z<g5.objs.size:=Xbp z5;show wpAny _ _ (Builtin.SmallTypes.ownedTupleHandOut (.ref z) (.ref g5.objs.size) >>= _) _ _ _;refine Xbk ?_;unfold Builtin.SmallTypes.ownedTupleHandOut
 have z6:IsZip (g5.push { cls:=.type "tuple",data:=.seq #[x,y] }) z a o .ellipsis:=Xbo _ z5
 refine Xbk (wpAny_setField_rec z6 (by simp) fun g7 z7 b7=>?_)
 replace z7:IsZip g7 z a o (rawInt g5.objs.size):=z7
 refine wpAny_setField_rec z7 (by simp) fun g8 z8 b8=>?_
 replace z8:IsZip g8 z a o (rawInt g5.objs.size):=z8
 have up:∀ c d,c≠z->g5.get? c=some d->g8.get? c=some d:=fun c d n e=>b8.extBut _ _ n (b7.extBut _ _ n (Xbo _ e));have t8:IsPair g8 g5.objs.size x y:=b8.extBut _ _ (Nat.ne_of_gt lz) (b7.extBut _ _ (Nat.ne_of_gt lz) (Xbq _ rfl))
 have s8:g8.objs.size=g5.objs.size+1:=by rw [b8.1,b7.1,Heap.size_push]
 rw [sz] at z8 t8 s8;refine Xbl ⟨_,rfl,?_⟩;show Q (.ref g5.objs.size) _;rw [sz];obtain ⟨oi,e1,e2⟩:=i5;obtain ⟨oj,f1,f2⟩:=j5;exact fin g8 z8 (up _ _ D.TOz o5) ⟨oi,up _ _ D.i1z e1,e2⟩ ⟨oj,up _ _ D.i2z f1,f2⟩ t8 s8 fun c d n1 n2 n3 n4 e=>up c d n1 (k5 c d n1 n2 n3 n4 e)
theorem Zj4 {i p:Addr} {m:Nat} {v:Value} {Q:PySem.Fin->Shared->Prop} (hh:A.handled=none) (D:ZipApart z a o i j p q) (ez:IsZip s.heap z a o .none) (ea:IsPair s.heap a (.ref i) (.ref j)) (eo:IsPair s.heap o u v)
 (ei:s.heap.IsTupleIter i p k) (ej:s.heap.IsTupleIter j q m) (tp:s.heap.IsTuple p xs) (tq:s.heap.IsTuple q ys) (hend:xs[k]?=none\/ys[m]?=none)
 (fin:∀ g e,(∀ c d,c≠z->c≠o->c≠i->c≠j->s.heap.get? c=some d->g.get? c=some d)->(∃ d,g.get? e=some d/\d.cls=.type "StopIteration")->E (.ref e) { s with heap:=g }) :
 wpAny (model prog w) A (Builtin.«zip.__next__» ⟨[.ref z],[]⟩) Q E s:=by
 show wpAny _ _ (field (.ref z) 2 >>= _) _ _ _;refine Xbk (wpAny_field ez rfl (x:=.bool false) rfl ?_);show wpAny _ _ (field (.ref z) 3 >>= _) _ _ _;refine Xbk (wpAny_field ez rfl (x:=.ref a) rfl (Xbk (Xbv ea rfl ?_)));show wpAny _ _ (Builtin.SmallTypes.ownedTupleIsFree (.ref z) >>= _) _ _ _;refine Xbk ?_;unfold Builtin.SmallTypes.ownedTupleIsFree;refine Xbk (wpAny_field ez rfl (x:=.none) rfl (Xbl ?_));simp only [if_true];refine Xbk (Xbw (Xbk (wpAny_field ez rfl (x:=.ref o) rfl (Xbk (wpAny_setField_rec ez (by simp) fun g1 z1 b1=>?_)))))
 replace z1:IsZip g1 z a o .ellipsis:=z1
 refine Xbk ?_;simp only [List.zipIdx_cons,List.zipIdx_nil,List.forIn_cons,List.forIn_nil];refine Xbk (Xbk (wpAny_onRaise ?_));show wpAny _ _ (Builtin.SmallTypes.nextOf (.ref i) >>= _) _ _ _
 cases hx:xs[k]? with
 | none =>
   refine Xbk (ZeI hh (ei.extBut b1.extBut D.i1z) (tp.extBut b1.extBut D.l1z) hx fun g2 e b2 he=>?_);obtain ⟨d,h1,h2⟩:=he;have z2:IsZip g2 z a o .ellipsis:=b2 _ _ D.i1z.symm z1
   have ne:e≠z:=fun t=>by subst t;rw [z2] at h1;cases h1;simp at h2
   exact wpAny_setField_rec z2 (by simp) fun g3 _ b3=>fin g3 e (fun c d n1 _ n3 _ t=>b3.extBut _ _ n1 (b2 _ _ n3 (b1.extBut _ _ n1 t))) ⟨d,b3.extBut _ _ ne h1,h2⟩
 | some x =>
   have hy:ys[m]?=none:=by
    rcases hend with h | h
    . rw [hx] at h;cases h
    . exact h
   refine Xbk (Zc4 (ei.extBut b1.extBut D.i1z) (tp.extBut b1.extBut D.l1z) hx fun g2 i2 b2=>Xbl ?_);have o2:IsPair g2 o u v:=b2.extBut _ _ D.TOi1 (b1.extBut _ _ D.TOz eo);refine Xbk (Xbv o2 rfl (Xbk (wpAny_updateSeq_pair o2 fun g3 o3 b3=>Xbk (wpAny_letGo (Xbl ?_)))));refine Xbk (Xbk (wpAny_onRaise ?_));show wpAny _ _ (Builtin.SmallTypes.nextOf (.ref j) >>= _) _ _ _;refine Xbk (ZeI hh (((ej.extBut b1.extBut D.i2z).extBut b2.extBut D.i12.symm).extBut b3.extBut D.TOi2.symm) (((tq.extBut b1.extBut D.l2z).extBut b2.extBut D.l2i1).extBut b3.extBut D.l2TO) hy fun g4 e b4 he=>?_);obtain ⟨d,h1,h2⟩:=he;have z4:IsZip g4 z a o .ellipsis:=b4 _ _ D.i2z.symm (b3.extBut _ _ D.TOz.symm (b2.extBut _ _ D.i1z.symm z1))
   have ne:e≠z:=fun t=>by subst t;rw [z4] at h1;cases h1;simp at h2
   exact wpAny_setField_rec z4 (by simp) fun g5 _ b5=>fin g5 e (fun c d n1 n2 n3 n4 t=>b5.extBut _ _ n1 (b4 _ _ n4 (b3.extBut _ _ n2 (b2.extBut _ _ n3 (b1.extBut _ _ n1 t))))) ⟨d,b5.extBut _ _ ne h1,h2⟩
theorem Zj5 {i p:Addr} {m:Nat} {x y v:Value} {Q:Option Value->Shared->Prop} (D:ZipApart z a o i j p q) (ez:IsZip s.heap z a o .none) (ea:IsPair s.heap a (.ref i) (.ref j)) (eo:IsPair s.heap o u v)
 (ei:s.heap.IsTupleIter i p k) (ej:s.heap.IsTupleIter j q m) (tp:s.heap.IsTuple p xs) (tq:s.heap.IsTuple q ys) (hx:xs[k]?=some x) (hy:ys[m]?=some y)
 (fin:∀ g,IsZip g z a o (rawInt s.heap.objs.size)->IsPair g o x y->g.IsTupleIter i p (k+1)->g.IsTupleIter j q (m+1)->IsPair g s.heap.objs.size x y->g.objs.size=s.heap.objs.size+1->(∀ c d,c≠z->c≠o->c≠i->c≠j->s.heap.get? c=some d->g.get? c=some d)->Q (some (.ref s.heap.objs.size)) { s with heap:=g }):wpAny (model prog w) A (pyNext (.ref z)) Q E s:=by
 have tz:s.TypeIs (.ref z) "zip" := ⟨_,ez,rfl⟩
 unfold pyNext
 exact Xbk (wpAny_attempt (wpAny_callSpecial?_slot (name:=Str.ofString "__next__") tz F.slot_zip_next (wpAny_call_entry F.slot_zip_next tz F.entry_zip_next (Zj3 D ez ea eo ei ej tp tq hx hy fun g a1 a2 a3 a4 a5 a6 a7=>Xbl (fin g a1 a2 a3 a4 a5 a6 a7)) (F.args_zip_next_1 _))))
theorem Zlp {i p:Addr} {m:Nat} {v:Value} {Q:Option Value->Shared->Prop} (hh:A.handled=none) (D:ZipApart z a o i j p q) (ez:IsZip s.heap z a o .none) (ea:IsPair s.heap a (.ref i) (.ref j)) (eo:IsPair s.heap o u v)
 (ei:s.heap.IsTupleIter i p k) (ej:s.heap.IsTupleIter j q m) (tp:s.heap.IsTuple p xs) (tq:s.heap.IsTuple q ys) (hend:xs[k]?=none\/ys[m]?=none)
 (fin:∀ g,(∀ c d,c≠z->c≠o->c≠i->c≠j->s.heap.get? c=some d->g.get? c=some d)->Q none { s with heap:=g }):wpAny (model prog w) A (pyNext (.ref z)) Q E s:=by
 have tz:s.TypeIs (.ref z) "zip" := ⟨_,ez,rfl⟩
 unfold pyNext
 refine Xbk (wpAny_attempt (wpAny_callSpecial?_slot (name:=Str.ofString "__next__") tz F.slot_zip_next (wpAny_call_entry F.slot_zip_next tz F.entry_zip_next (Zj4 hh D ez ea eo ei ej tp tq hend fun g e hk he=>?_) (F.args_zip_next_1 _))))
 obtain ⟨d,h1,h2⟩:=he
 exact Xbk (wpAny_isInstance (T := "StopIteration") (b:=true) ⟨d,h1,h2⟩ isSubtype_stop (Xbl (fin _ hk)))
end
abbrev zt1 (h:Heap) (p:Addr):Heap:=h.push { cls:=.type "tuple_iterator",data:=.fields #[.ref p,.int 0 0] }
abbrev zt2 (h:Heap) (p q:Addr):Heap:=(zt1 h p).push { cls:=.type "tuple_iterator",data:=.fields #[.ref q,.int 0 0] }
abbrev zt3 (h:Heap) (p q:Addr):Heap:=(zt2 h p q).push { cls:=.type "tuple",data:=.seq #[.ref h.objs.size,.ref (zt1 h p).objs.size] }
abbrev zt4 (h:Heap) (p q:Addr):Heap:=(zt3 h p q).push { cls:=.type "tuple",data:=.seq #[.none,.none] }
abbrev zt5 (h:Heap) (p q:Addr):Heap:=(zt4 h p q).push { cls:=.type "zip",data:=.fields #[.none,.bool false,.bool false,.ref (zt2 h p q).objs.size,.ref (zt3 h p q).objs.size] }
theorem ZiW (p q:Addr) (xs ys:Array Value):Meets (Builtin.«zip.__new__» ⟨[.type "zip",.ref p,.ref q],[]⟩) (fun _ R s=>s.heap.IsTuple p xs/\s.heap.IsTuple q ys/\R (.ok (.ret (.ref (zt4 s.heap p q).objs.size))) { s with heap:=zt5 s.heap p q }) :=
 .of_wp fun prog w A R s h=>by
  obtain ⟨hp,g,d,tk,os⟩:=s;obtain ⟨h1,h2,h⟩:=h;have hsub:=sub_zip;have t1:Heap.IsTuple (Shared.heap ⟨hp,g,d,tk,os⟩) p xs:=h1
  have t2:Heap.IsTuple (Shared.heap ⟨hp.push { cls:=.type "tuple_iterator",data:=.fields #[.ref p,.int 0 0] },g,d,tk,os⟩) q ys:=Heap.IsTuple.push h2 _
  wp_walk using wpAny_pyIter_tuple t1,wpAny_pyIter_tuple t2
  exact ⟨_,rfl,h⟩
theorem Zj6 {w:World}{E:Value->Shared->Prop}{s:Shared}{p q:Addr}{xs ys:Array Value}(hp:s.heap.IsTuple p xs) (hq:s.heap.IsTuple q ys)
 (h:∀ g,IsZip g (s.heap.objs.size+4) (s.heap.objs.size+2) (s.heap.objs.size+3) .none->IsPair g (s.heap.objs.size+2) (.ref s.heap.objs.size) (.ref (s.heap.objs.size+1))->IsPair g (s.heap.objs.size+3) .none .none->g.IsTupleIter s.heap.objs.size p 0->g.IsTupleIter (s.heap.objs.size+1) q 0->g.objs.size=s.heap.objs.size+5->(∀ c o,s.heap.get? c=some o->g.get? c=some o)->Q (.ref (s.heap.objs.size+4)) { s with heap:=g }) :
 wpAny (model prog w) A (call (.type "zip") [.ref p,.ref q]) Q E s:=by
 refine callType_new F.called_zip (by decide) (F.typeCall_zip_2 _ _) (F.newCall_zip_2 _ _) (fun obj=>F.args_object_init_3 obj _ _) F.entry_zip_new (ZiW p q xs ys) ⟨hp,hq,?_⟩;have n1:(zt1 s.heap p).objs.size=s.heap.objs.size+1:=Heap.size_push ..
 have n2:(zt2 s.heap p q).objs.size=s.heap.objs.size+2:=by rw [Heap.size_push,n1]
 have n3:(zt3 s.heap p q).objs.size=s.heap.objs.size+3:=by rw [Heap.size_push,n2]
 have n4:(zt4 s.heap p q).objs.size=s.heap.objs.size+4:=by rw [Heap.size_push,n3]
 have n5:(zt5 s.heap p q).objs.size=s.heap.objs.size+5:=by rw [Heap.size_push,n4]
 have g5:(zt5 s.heap p q).get? (zt4 s.heap p q).objs.size=some _:=Xbq _ rfl;have g4:(zt5 s.heap p q).get? (zt3 s.heap p q).objs.size=some _:=Xbo _ (Xbq _ rfl);have g3:(zt5 s.heap p q).get? (zt2 s.heap p q).objs.size=some _:=Xbo _ (Xbo _ (Xbq _ rfl));have g2:(zt5 s.heap p q).get? (zt1 s.heap p).objs.size=some _:=Xbo _ (Xbo _ (Xbo _ (Xbq _ rfl)));have g1:(zt5 s.heap p q).get? s.heap.objs.size=some _:=Xbo _ (Xbo _ (Xbo _ (Xbo _ (Xbq _ rfl))));show _/\_;rw [n2,n3,n4] at g5;rw [n1,n2] at g3;rw [n3] at g4;rw [n1] at g2;rw [n4];exact ⟨⟨_,g5,rfl⟩,h _ g5 g3 g4 ⟨_,g1,rfl,rfl⟩ ⟨_,g2,rfl,rfl⟩ n5 fun c o e=>Xbo _ (Xbo _ (Xbo _ (Xbo _ (Xbo _ e))))⟩
def ItzT (K:XFg) (l1 l2:Addr):It :=
 ⟨fun i H=>∃ xs ys x y,SqT K H l1 xs/\SqT K H l2 ys/\xs[i]?=some x/\ys[i]?=some y,
  fun i H v H'=>∃ T x y,H T=none/\v=.ref T/\H'=upd H T (.tup [x,y])/\(∀ xs,SqT K H l1 xs->xs[i]?=some x)/\∀ ys,SqT K H l2 ys->ys[i]?=some y,
  fun i H=>∃ xs ys,SqT K H l1 xs/\SqT K H l2 ys/\(xs.length<=i\/ys.length<=i)⟩
def ZipTS (z TI TO i1 i2 l1 l2:Addr) (i:Nat) (h:Heap):Prop:=IsZip h z TI TO .none/\IsPair h TI (.ref i1) (.ref i2)/\(∃ a b,IsPair h TO a b)/\h.IsTupleIter i1 l1 i/\h.IsTupleIter i2 l2 i
theorem Zj7 {P:Program}{w:World}{K:XFg}{z TI TO i1 i2 l1 l2:Addr} (D:ZipApart z TI TO i1 i2 l1 l2) :
 Turn P w K (.Tuple es k pos) (ItzT K l1 l2) [z,TI,TO,i1,i2] z (ZipTS z TI TO i1 i2 l1 l2) where
 mem:=by simp
 obj:=fun i h st b hb=>by
  obtain ⟨hz,hTI,⟨a,c,hTO⟩,⟨o1,e1,c1,d1⟩,⟨o2,e2,c2,d2⟩⟩:=st;simp at hb
  rcases hb with rfl | rfl | rfl | rfl | rfl
  . exact ⟨_,hz,fun v q=>by cases q⟩
  . exact ⟨_,hTI,fun v q=>by cases q⟩
  . exact ⟨_,hTO,fun v q=>by cases q⟩
  . exact ⟨_,e1,fun v q=>by rw [d1] at q;cases q⟩
  . exact ⟨_,e2,fun v q=>by rw [d2] at q;cases q⟩
 keep:=fun i h h' st kk=>by
  obtain ⟨hz,hTI,⟨a,c,hTO⟩,h1,h2⟩:=st;exact ⟨kk z (by simp) _ hz,kk TI (by simp) _ hTI,⟨a,c,kk TO (by simp) _ hTO⟩,h1.at fun o e=>kk i1 (by simp) o e,h2.at fun o e=>kk i2 (by simp) o e⟩
 item := by
  intro X hP hw hK hc i pins s σ H E I hf st hg;subst hP hw hK;obtain ⟨xs,ys,x,y,hq1,hq2,hx,hy⟩:=hg;obtain ⟨hz,hTI,⟨a,c,hTO⟩,h1,h2⟩:=st;obtain ⟨its1,rv1,p1,hz1⟩:=I.tuple hq1;obtain ⟨its2,rv2,p2,hz2⟩:=I.tuple hq2;obtain ⟨u1,hu1,ru1⟩:=rv1.get hx;obtain ⟨u2,hu2,ru2⟩:=rv2.get hy;refine Zj5 D hz hTI hTO h1 h2 p1 p2 (x:=u1) (y:=u2) (by simpa using hu1) (by simpa using hu2) fun h' a1 a2 a3 a4 a5 a6 hk=>?_;refine ⟨_,rfl,wpAny_letOwnedTupleGo_zip (s:={ s with heap:=h' }) a1 fun h'' hz'' hs''=>?_⟩;have fz:=hf z (by simp);have fTO:=hf TO (by simp);have f1:=hf i1 (by simp);have f2:=hf i2 (by simp);have trk:∀ b u,H b=some u->b≠z/\b≠TO/\b≠i1/\b≠i2:=fun b u e=>⟨Zad e fz.1,Zad e fTO.1,Zad e f1.1,Zad e f2.1⟩;have keep:∀ b o,b≠z->b≠TO->b≠i1->b≠i2->s.heap.get? b=some o->h''.get? b=some o:=fun b o n1 n2 n3 n4 e=>(hs''.2 b n1).trans (hk b o n1 n2 n3 n4 e)
  have nch:∀ {b:Addr},b ∉ [z,TO,i1,i2]->b≠z/\b≠TO/\b≠i1/\b≠i2:=fun {b} hb=>by simpa using hb
  have I1:Inv X pins σ H { s with heap:=h'' }:=by
   refine I.step (g':=s.gens) (t':=s.toks) (d':=s.drawn) (h':=h'') (ch:=[z,TO,i1,i2]) (fun b hb=>?_) (fun b ob _ _ hb e _=>keep b ob (nch hb).1 (nch hb).2.1 (nch hb).2.2.1 (nch hb).2.2.2 e) (fun b ob _ _ hb e _=>⟨ob.slots,keep b ob (nch hb).1 (nch hb).2.1 (nch hb).2.2.1 (nch hb).2.2.2 e⟩)
    (fun _ _ _ _ n=>n) (fun b ob hb e=>⟨ob,keep b ob (nch hb).1 (nch hb).2.1 (nch hb).2.2.1 (nch hb).2.2.2 e⟩) (fun _ _ e=>e) (fun _ _ _ e=>e) (fun b ps e=>⟨#[],by rw [e];simp⟩) (fun m hm=>?_) (fun b u e=>?_) I.bare
   . have:b=z\/b=TO\/b=i1\/b=i2:=by simpa using hb
     rcases this with rfl | rfl | rfl | rfl
     . exact ⟨fz.2.2.2.1,fz.2.1,fz.2.2.2.2.1,fz.2.2.2.2.2⟩
     . exact ⟨fTO.2.2.2.1,fTO.2.1,fTO.2.2.2.2.1,fTO.2.2.2.2.2⟩
     . exact ⟨f1.2.2.2.1,f1.2.1,f1.2.2.2.2.1,f1.2.2.2.2.2⟩
     . exact ⟨f2.2.2.2.1,f2.2.1,f2.2.2.2.2.1,f2.2.2.2.2.2⟩
   . obtain ⟨o,es,ep,ho,r⟩:=hm
     exact ⟨o,es,ep,keep _ o (Ne.symm fz.2.1) (Ne.symm fTO.2.1) (Ne.symm f1.2.1) (Ne.symm f2.2.1) ho,r⟩
   . refine (I.hok b u e).stay (fun c v hc q=>?_) (fun _ q=>q) fun _ _ q=>q
     have hc':∃ u',H c=some u':=by
      rcases hc with rfl | hc
      . exact ⟨_,e⟩
      . exact ⟨_,hc⟩
     obtain ⟨u',e'⟩:=hc';obtain ⟨n1,n2,n3,n4⟩:=trk c u' e';exact keep c v n1 n2 n3 n4 q
  have hTz:s.heap.objs.size≠z:=Nat.ne_of_gt (Xbp hz);have hT0:H s.heap.objs.size=none:=I.hok.fresh (XaW _)
  have hTget:h''.get? s.heap.objs.size=some { cls:=.type "tuple",data:=.seq #[u1,u2] }:=(hs''.2 _ hTz).trans a5
  have I2:Inv X pins σ (upd H s.heap.objs.size (.tup [x,y])) { s with heap:=h'' }:=by
   refine I1.track (I.fpOk (XaW _) hT0) ⟨_,hTget⟩ ?_;exact ⟨by show 2<=sizeLine;decide,[u1,u2],.cons ru1 (.cons ru2 .nil),⟨_,hTget,rfl,_,rfl⟩⟩
  refine ⟨.ref s.heap.objs.size,_,I2,rfl,⟨s.heap.objs.size,x,y,hT0,rfl,rfl,fun zs hzs=>by rw [I.tuple_inj hzs hq1];exact hx,fun zs hzs=>by rw [I.tuple_inj hzs hq2];exact hy⟩,?_,fun b hb=>?_⟩
  . refine ⟨hz'',hs''.extBut _ _ D.TIz (hk _ _ D.TIz D.TITO D.TIi1 D.TIi2 hTI),⟨u1,u2,hs''.extBut _ _ D.TOz a2⟩,a3.extBut hs''.extBut D.i1z,a4.extBut hs''.extBut D.i2z⟩
  . have hb':=(hf b hb).1
    rw [Zal (fun q=>?_)]
    . exact hb'
    . have hb2:b=z\/b=TI\/b=TO\/b=i1\/b=i2:=by simpa using hb
      obtain ⟨o1,e1,_⟩:=h1;obtain ⟨o2,e2,_⟩:=h2
      have lt:b<s.heap.objs.size:=by
       rcases hb2 with rfl | rfl | rfl | rfl | rfl
       . exact Xbp hz
       . exact Xbp hTI
       . exact Xbp hTO
       . exact Xbp e1
       . exact Xbp e2
      rw [q] at lt;exact absurd lt (XaX _)
 done:=by
  intro X hP hw hK hc i pins s σ H E I hf st hg;subst hP hw hK;obtain ⟨xs,ys,hq1,hq2,hend⟩:=hg;obtain ⟨hz,hTI,⟨a,c,hTO⟩,h1,h2⟩:=st;obtain ⟨its1,rv1,p1,hz1⟩:=I.tuple hq1;obtain ⟨its2,rv2,p2,hz2⟩:=I.tuple hq2;have l1':=rv1.length;have l2':=rv2.length;refine Zlp (I.ok.hd hc) D hz hTI hTO h1 h2 p1 p2 (by simp;omega) fun h' hk=>⟨rfl,?_⟩;have fz:=hf z (by simp);have fTO:=hf TO (by simp);have f1:=hf i1 (by simp);have f2:=hf i2 (by simp)
  have nch:∀ {b:Addr},b ∉ [z,TO,i1,i2]->b≠z/\b≠TO/\b≠i1/\b≠i2:=fun {b} hb=>by simpa using hb
  refine I.step (g':=s.gens) (t':=s.toks) (d':=s.drawn) (h':=h') (ch:=[z,TO,i1,i2]) (fun b hb=>?_) (fun b ob _ _ hb e _=>hk b ob (nch hb).1 (nch hb).2.1 (nch hb).2.2.1 (nch hb).2.2.2 e) (fun b ob _ _ hb e _=>⟨ob.slots,hk b ob (nch hb).1 (nch hb).2.1 (nch hb).2.2.1 (nch hb).2.2.2 e⟩)
   (fun _ _ _ _ n=>n) (fun b ob hb e=>⟨ob,hk b ob (nch hb).1 (nch hb).2.1 (nch hb).2.2.1 (nch hb).2.2.2 e⟩) (fun _ _ e=>e) (fun _ _ _ e=>e) (fun b ps e=>⟨#[],by rw [e];simp⟩) (fun m hm=>?_) (fun b u e=>?_) I.bare
  . have:b=z\/b=TO\/b=i1\/b=i2:=by simpa using hb
    rcases this with rfl | rfl | rfl | rfl
    . exact ⟨fz.2.2.2.1,fz.2.1,fz.2.2.2.2.1,fz.2.2.2.2.2⟩
    . exact ⟨fTO.2.2.2.1,fTO.2.1,fTO.2.2.2.2.1,fTO.2.2.2.2.2⟩
    . exact ⟨f1.2.2.2.1,f1.2.1,f1.2.2.2.2.1,f1.2.2.2.2.2⟩
    . exact ⟨f2.2.2.2.1,f2.2.1,f2.2.2.2.2.1,f2.2.2.2.2.2⟩
  . obtain ⟨o,es,ep,ho,r⟩:=hm
    exact ⟨o,es,ep,hk _ o (Ne.symm fz.2.1) (Ne.symm fTO.2.1) (Ne.symm f1.2.1) (Ne.symm f2.2.1) ho,r⟩
  . refine (I.hok b u e).stay (fun c v hc q=>?_) (fun _ q=>q) fun _ _ q=>q
    have hc':∃ u',H c=some u':=by
     rcases hc with rfl | hc
     . exact ⟨_,e⟩
     . exact ⟨_,hc⟩
    obtain ⟨u',e'⟩:=hc';exact hk c v (Zad e' fz.1) (Zad e' fTO.1) (Zad e' f1.1) (Zad e' f2.1) q
 self:=fun _ _ _ _ _ st h=>wpAny_pyIter_zip st.1 h
theorem Zlq {K:XFg}{l1 l2:Addr}{xs ys:List V}{g:TG}{tb:TS}{D:Ends}(Pv:Nat->St->Hp->Prop) (h0:Pv 0 σ H) (hl:∀ i σ H,Pv i σ H->SqT K H l1 xs/\SqT K H l2 ys)
 (hs:∀ i x y T σ H,xs[i]?=some x->ys[i]?=some y->H T=none->Pv i σ H->g (.ref T) σ (upd H T (.tup [x,y])) fun σ2 H2=>tb { D with nx:=Pv (i+1),ct:=Pv (i+1),bk:=D.nx } σ2 H2) (hd:∀ σ H,Pv (min xs.length ys.length) σ H->D.nx σ H) :
 ∃ W:Nat->Nat->St->Hp->Prop,(∃ m,W 0 m σ H)/\∀ i m σ H,W i m σ H ->
  ((ItzT K l1 l2).stop i H/\D.nx σ H)\/((ItzT K l1 l2).go i H/\∃ N:St->Hp->Prop,(∀ σ' H',N σ' H'->∃ m',m' < m/\W (i+1) m' σ' H')/\∀ x H',(ItzT K l1 l2).yld i H x H'->g x σ H' fun σ2 H2=>tb { D with nx:=N,ct:=N,bk:=D.nx } σ2 H2):=by
 refine ⟨fun i m σ H=>m=min xs.length ys.length - i/\i<=min xs.length ys.length/\Pv i σ H,⟨_,rfl,Xa0 _,h0⟩,?_⟩;rintro i m σ H ⟨rfl,hi,p⟩;obtain ⟨q1,q2⟩:=hl i σ H p
 by_cases hlt:i<min xs.length ys.length
 . have hx:i<xs.length:=by omega
   have hy:i<ys.length:=by omega
   refine .inr ⟨⟨xs,ys,xs[i],ys[i],q1,q2,by simp [hx],by simp [hy]⟩,Pv (i+1),fun σ' H' p'=>⟨min xs.length ys.length - (i+1),by omega,rfl,hlt,p'⟩,fun v H' y=>?_⟩;obtain ⟨T,x,y',hT,rfl,rfl,e1,e2⟩:=y;exact hs i x y' T σ H (e1 xs q1) (e2 ys q2) hT p
 . have e:i=min xs.length ys.length:=by omega
   refine .inl ⟨⟨xs,ys,q1,q2,by omega⟩,?_⟩;rw [e] at p;exact hd σ H p
def iZipA (K:XFg) (ta:TA):TI:=fun σ H R=>ta σ H fun vs H1=>∃ l1 l2,vs=[.ref l1,.ref l2]/\(((∃ xs,SqL K H1 l1 xs)/\(∃ ys,SqL K H1 l2 ys)/\R (Itz K l1 l2) H1)\/((∃ xs,SqT K H1 l1 xs)/\(∃ ys,SqT K H1 l2 ys)/\R (ItzT K l1 l2) H1))
theorem pi_zipA {tpos:Pos}{a b:Expr}{ta:TA}{p:Pos} (hg:Gl X "zip") (hm:X.mg "zip" = none) (ha:PA X [a,b] ta) (hs:starEach [a,b] X.env=[(false,eval a X.env),(false,eval b X.env)]:=by rfl) (hs2:starEach [b] X.env=[(false,eval b X.env)]:=by rfl) :
 PI X (.Tuple es k tpos) (.Call (.Name "zip" p) [a,b] [] pos) (iZipA X.K ta):=by
 intro pins s σ H R I h
 refine Call_ (Zc9 I hg hm (u:=.type "zip") (by decide +kernel) (PyProof.Rows.callWith_type1 (thn (ha pos pins s σ H _ I h) fun us s1 ⟨vs,H1,I1,r1,q1⟩=>?_) (by rw [hs,hs2]) (by rw [hs2];rfl)))
 obtain ⟨l1,l2,rfl,qq⟩:=q1;obtain ⟨u1,u2,rfl,ru1,ru2⟩:=Zgv r1;obtain rfl:u1=Value.ref l1:=ru1;obtain rfl:u2=Value.ref l2:=ru2
 rcases qq with ⟨⟨xs,hq1⟩,⟨ys,hq2⟩,q⟩ | ⟨⟨xs,hq1⟩,⟨ys,hq2⟩,q⟩
 . obtain ⟨its1,rv1,p1,hz1⟩:=I1.list hq1
   obtain ⟨its2,rv2,p2,hz2⟩:=I1.list hq2
   have a1:l1<s1.heap.objs.size:=by obtain ⟨_,e,_⟩:=p1.isList;exact Xbp e
   have a2:l2<s1.heap.objs.size:=by obtain ⟨_,e,_⟩:=p2.isList;exact Xbp e
   refine call_zip_2 p1.isList p2.isList fun h' hz hTI hTO hi1 hi2 hsz hk=>?_;refine wpAny_pyIter_zip (s:={ s1 with heap:=h' }) hz ?_;refine ⟨_,[s1.heap.objs.size+4,s1.heap.objs.size+2,s1.heap.objs.size+3,s1.heap.objs.size,s1.heap.objs.size+1],_,_,H1,rfl,I1.kept (t':=s1.toks) hk,Zh0 (zipApart_new a1 a2),⟨hz,hTI,⟨_,_,hTO⟩,hi1,hi2⟩,fun b hb=>?_,q⟩
   have hb':s1.heap.objs.size<=b:=by
    have hb2:b=s1.heap.objs.size+4\/b=s1.heap.objs.size+2\/b=s1.heap.objs.size+3\/b=s1.heap.objs.size\/b=s1.heap.objs.size+1:=by simpa using hb
    rcases hb2 with rfl | rfl | rfl | rfl | rfl
    . exact Nat.le_add_right _ _
    . exact Nat.le_add_right _ _
    . exact Nat.le_add_right _ _
    . exact XaW _
    . exact Nat.le_add_right _ _
   exact I1.fpOk hb' (I1.hok.fresh hb')
 . obtain ⟨its1,rv1,p1,hz1⟩:=I1.tuple hq1
   obtain ⟨its2,rv2,p2,hz2⟩:=I1.tuple hq2
   have a1:l1<s1.heap.objs.size:=by obtain ⟨_,e,_⟩:=p1;exact Xbp e
   have a2:l2<s1.heap.objs.size:=by obtain ⟨_,e,_⟩:=p2;exact Xbp e
   refine Zj6 p1 p2 fun h' hz hTI hTO hi1 hi2 hsz hk=>?_;refine wpAny_pyIter_zip (s:={ s1 with heap:=h' }) hz ?_;refine ⟨_,[s1.heap.objs.size+4,s1.heap.objs.size+2,s1.heap.objs.size+3,s1.heap.objs.size,s1.heap.objs.size+1],_,_,H1,rfl,I1.kept (t':=s1.toks) hk,Zj7 (zipApart_new a1 a2),⟨hz,hTI,⟨_,_,hTO⟩,hi1,hi2⟩,fun b hb=>?_,q⟩
   have hb':s1.heap.objs.size<=b:=by
    have hb2:b=s1.heap.objs.size+4\/b=s1.heap.objs.size+2\/b=s1.heap.objs.size+3\/b=s1.heap.objs.size\/b=s1.heap.objs.size+1:=by simpa using hb
    rcases hb2 with rfl | rfl | rfl | rfl | rfl
    . exact Nat.le_add_right _ _
    . exact Nat.le_add_right _ _
    . exact Nat.le_add_right _ _
    . exact XaW _
    . exact Nat.le_add_right _ _
   exact I1.fpOk hb' (I1.hok.fresh hb')
mutual
inductive OwD (F:Addr->Prop) (H:Hp):V->Dt->Prop where
 | non:OwD F H .non .non
 | bl (b:Bool):OwD F H (.bl b) (.bl b)
 | int (i:Int):OwD F H (.int i) (.int i)
 | str (x:Str):OwD F H (.str x) (.str x)
 | tup {a:Addr} {vs:List V} {ds:List Dt} (h:H a=some (.tup vs)) (t:OwDs F H vs ds):OwD F H (.ref a) (.tup ds)
 | lst {a:Addr} {vs:List V} {ds:List Dt} (h:H a=some (.lst vs)) (f:F a) (t:OwDs F H vs ds):OwD F H (.ref a) (.lst ds)
inductive OwDs (F:Addr->Prop) (H:Hp):List V->List Dt->Prop where
 | nil:OwDs F H [] []
 | cons {v:V} {d:Dt} {vs:List V} {ds:List Dt} (h:OwD F H v d) (t:OwDs F H vs ds):OwDs F H (v :: vs) (d :: ds)
end
mutual
theorem OwD.go {F G:Addr->Prop}{H H':Hp} (e:∀ a vs,H a=some (.tup vs)->H' a=some (.tup vs)) (l:∀ a vs,H a=some (.lst vs)->F a->H' a=some (.lst vs)/\G a) {v:V} {d:Dt} (h:OwD F H v d):OwD G H' v d:=by
 cases h with
 | non=>exact .non
 | bl b=>exact .bl b
 | int i=>exact .int i
 | str x=>exact .str x
 | tup h t=>exact .tup (e _ _ h) (OwDs.go e l t)
 | lst h f t=>exact .lst (l _ _ h f).1 (l _ _ h f).2 (OwDs.go e l t)
theorem OwDs.go {F G:Addr->Prop}{H H':Hp} (e:∀ a vs,H a=some (.tup vs)->H' a=some (.tup vs)) (l:∀ a vs,H a=some (.lst vs)->F a->H' a=some (.lst vs)/\G a) {vs:List V} {ds:List Dt} (h:OwDs F H vs ds):OwDs G H' vs ds:=by
 cases h with
 | nil=>exact .nil
 | cons h t=>exact .cons (OwD.go e l h) (OwDs.go e l t)
end
mutual
theorem OwD.dt {K:XFg}{F:Addr->Prop}{H:Hp}{v:V}{d:Dt} (h:OwD F H v d):IsDt K H v d:=by
 cases h with
 | non=>exact .non
 | bl b=>exact .bl b
 | int i=>exact .int i
 | str x=>exact .str x
 | tup h t=>exact .tup (SqT.of h) (OwDs.dts t)
 | lst h f t=>exact .lst (SqL.of h) (OwDs.dts t)
theorem OwDs.dts {K:XFg}{F:Addr->Prop}{H:Hp}{vs:List V}{ds:List Dt} (h:OwDs F H vs ds):IsDts K H vs ds:=by
 cases h with
 | nil=>exact .nil
 | cons h t=>exact .cons (OwD.dt h) (OwDs.dts t)
end
section
variable {F G M:Addr->Prop} {H H':Hp} {v:V} {d:Dt} {vs us:List V} {ds es:List Dt}
theorem OwD.same (s:Same H H') (h:OwD F H v d):OwD F H' v d:=h.go (fun _ _ q=>s _ _ q) fun _ _ q f=>⟨s _ _ q,f⟩
theorem OwDs.same (s:Same H H') (h:OwDs F H vs ds):OwDs F H' vs ds:=h.go (fun _ _ q=>s _ _ q) fun _ _ q f=>⟨s _ _ q,f⟩
theorem OwD.keeps (k:Keeps M H H') (hF:∀ x,F x->¬M x) (h:OwD F H v d):OwD F H' v d:=h.go (fun _ _ q=>k.tup q) fun _ _ q f=>⟨k.at_ _ _ q (hF _ f),f⟩
theorem OwDs.keeps (k:Keeps M H H') (hF:∀ x,F x->¬M x) (h:OwDs F H vs ds):OwDs F H' vs ds:=h.go (fun _ _ q=>k.tup q) fun _ _ q f=>⟨k.at_ _ _ q (hF _ f),f⟩
theorem OwD.mono (e:∀ x o,H x=some o->F x->G x) (h:OwD F H v d):OwD G H v d:=h.go (fun _ _ q=>q) fun _ _ q f=>⟨q,e _ _ q f⟩
theorem OwDs.mono (e:∀ x o,H x=some o->F x->G x) (h:OwDs F H vs ds):OwDs G H vs ds:=h.go (fun _ _ q=>q) fun _ _ q f=>⟨q,e _ _ q f⟩
theorem OwDs.length:∀ {vs:List V}{ds:List Dt},OwDs F H vs ds->vs.length=ds.length
 | _,_,.nil=>rfl
 | _,_,.cons _ t=>by rw [XaB,XaB,OwDs.length t]
theorem OwDs.snoc:∀ {vs:List V}{ds:List Dt},OwDs F H vs ds->OwD F H v d->OwDs F H (vs++[v]) (ds++[d])
 | _,_,.nil,h=>.cons h .nil
 | _,_,.cons a t,h=>.cons a (OwDs.snoc t h)
theorem OwDs.get:∀ {vs:List V}{ds:List Dt}{i:Nat}{v:V},OwDs F H vs ds->vs[i]?=some v->∃ d,ds[i]?=some d/\OwD F H v d
 | _,_,i,v,.nil,e=>by simp at e
 | _,_,0,v,.cons a t,e=>by simp at e;subst e;exact ⟨_,rfl,a⟩
 | _,_,i+1,v,.cons a t,e=>by
   obtain ⟨d,h1,h2⟩:=OwDs.get (i:=i) t (by simpa using e);exact ⟨d,by simpa using h1,h2⟩
theorem OwDs.of_all {α:Type}{f:α->V}{g:α->Dt}:∀ {l:List α},(∀ x∈l,OwD F H (f x) (g x))->OwDs F H (l.map f) (l.map g)
 | [],_=>.nil
 | x :: l,h=>.cons (h x Xal) (OwDs.of_all fun y hy=>h y (Xap _ hy))
end
theorem Zj8 {α:Type}{f:α->List V}{D:α->Dt}{F:Addr->Prop}{H:Hp} (hf:∀ (r:α) (t:Addr),H t=some (.tup (f r))->OwD F H (.ref t) (D r)):∀ {ts:List Addr} {rs:List α},RT f H ts rs->OwDs F H (ts.map V.ref) (rs.map D)
 | [],[],_=>.nil
 | [],_ :: _,h=>by have:=h.len;simp at this
 | _ :: _,[],h=>by have:=h.len;simp at this
 | t :: ts,r :: rs,h=>.cons (hf r t (h.at_ 0 t r rfl rfl)) (Zj8 hf ⟨by simpa using h.len,fun n a b h1 h2=>h.at_ (n+1) a b (by simpa using h1) (by simpa using h2)⟩)
variable {F:Addr->Prop}
theorem mk_own (r:Mrk) (t:Addr) (h:H t=some (.tup (mkV r))):OwD F H (.ref t) (mkD r):=.tup h (.cons (.int _) (.cons (.str _) (.cons (.int _) .nil)))
theorem WyH.own {t:Addr}(h:WyH F H t w):OwD F H (.ref t) (wayE.D w):=by
 obtain ⟨ms,a,b,c⟩:=h;exact .lst a c (Zj8 mk_own b)
variable {b:Beg}
theorem BgH.own {t:Addr}(h:BgH F H t b):OwD F H (.ref t) (begE.D b):=by
 obtain ⟨l,ms,a1,a2,a3,a4⟩:=h;exact .tup a1 (.cons (.lst a2 a4 (Zj8 mk_own a3)) (.cons (.int _) (.cons (.int _) .nil)))
def ZeJ (ss:List Sco) (m:Mrk):Tlg:=match ss[m.1.toNat]? with
 | some s=>(match s.2[m.2.2.toNat]? with
   | some p=>p
   | none=>default)
 | none=>default
theorem Zf1 {s:Sco}{p:Tlg} (h1:m.1=(n:Int)) (h2:m.2.2=(k:Int)) (hs:ss[n]?=some s) (hp:s.2[k]?=some p):ZeJ ss m=p:=by
 unfold ZeJ;rw [h1,h2,Xa4,Xa4,hs];dsimp only;rw [hp]
def ZbT (ss:List Sco) (w:List Mrk):Tlg:=match w.getLast? with
 | some m=>ZeJ ss m
 | none=>default
def EndT (ss:List Sco) (w:List Mrk):Prop:=∃ (v:List Mrk) (m:Mrk),w=v++[m]/\MkOk ss m/\m.2.1=("told" : Str)
theorem Zcf (ss:List Sco) (v:List Mrk) (m:Mrk):ZbT ss (v++[m])=ZeJ ss m:=by
 unfold ZbT;rw [List.getLast?_concat]
def Zf2 (W:Wd) (w:List Mrk):Option Int:=if (ZbT W.ss w).2.2.1=("by" : Str)/\W.as[(ZbT W.ss w).2.2.2.toNat]?=some none then some (ZbT W.ss w).2.2.2 else none
def ZaU (W:Wd):List (List Mrk)->Option Ow
 | []=>none
 | w :: ws=>match Zf2 W w with
   | some q=>some (w,q)
   | none=>ZaU W ws
def ZaS (W:Wd) (w:List Mrk):Option Int:=if (ZbT W.ss w).2.2.1=("thing" : Str) then some (ZbT W.ss w).2.2.2 else match W.as[(ZbT W.ss w).2.2.2.toNat]? with
 | some (some p)=>if p.1=("thing" : Str) then some p.2 else none
 | _=>none
noncomputable def ZaZ (ss:List Sco) (ord:List (Str×Str)) (ws:List (List Mrk)):List Ow->Option Ow
 | []=>none
 | o :: os=>if (ws.any fun v=>ZaO ss ord v o.1)=true then ZaZ ss ord ws os else some o
abbrev Wt:Type:=Int×List Mrk×Int
abbrev Zj9:Option Wt->Dt
 | none=>.non
 | some p=>.tup [.int p.1,wayE.D p.2.1,.int p.2.2]
noncomputable def Zd9 (W:Wd) (ord:List (Str×Str)) (ws:List (List Mrk)) (os:List Ow):Option Ow:=match ZaZ W.ss ord ws os with
 | some o=>some o
 | none=>ZaU W (Zbj W.ss ord ws ws)
def ansW (W:Wd) (seen:List (List Mrk)) (at_:Int):Str×Int:=if ∀ w∈seen,ZaS W w=none then ("none",at_) else match seen with
 | []=>("none",at_)
 | w :: _=>(match ZaS W w with
   | some n=>if ∀ v∈seen,ZaS W v=some n then ("thing",n) else ("torn",at_)
   | none=>("torn",at_))
noncomputable def metV (W:Wd) (ord:List (Str×Str)) (ws:List (List Mrk)) (os:List Ow) (at_:Int):Option (Str×Int)×Option Wt:=match Zd9 W ord ws os with
 | some o=>(none,some (at_,o.1,o.2))
 | none=>(some (ansW W (Zbj W.ss ord ws ws) at_),none)
variable {W:Wd}{os:List Ow}{at_:Int}{o:Ow}
theorem Zlr {ws:List (List Mrk)} (h:Zd9 W ord ws os=some o):metV W ord ws os at_=(none,some (at_,o.1,o.2)):=by unfold metV;rw [h]
theorem Zf3 {ws:List (List Mrk)} (h:Zd9 W ord ws os=none):metV W ord ws os at_=(some (ansW W (Zbj W.ss ord ws ws) at_),none):=by unfold metV;rw [h]
theorem Zka {ws:List (List Mrk)} (h:Zd9 W ord ws os=none):ZaU W (Zbj W.ss ord ws ws)=none:=by
 unfold Zd9 at h
 cases e:ZaZ W.ss ord ws os with
 | some o=>rw [e] at h;cases h
 | none=>rw [e] at h;exact h
theorem Zim {seen:List (List Mrk)} (h:∀ w∈seen,ZaS W w=none):ansW W seen at_=(("none" : Str),at_):=Xbe h
theorem Zin {r:List (List Mrk)} (h:¬∀ v∈w :: r,ZaS W v=none) (k:¬∀ v∈w :: r,ZaS W v=ZaS W w):ansW W (w :: r) at_=(("torn" : Str),at_):=by
 unfold ansW;rw [Xbd h];dsimp only
 cases e:ZaS W w with
 | none=>rfl
 | some n =>
   rw [e] at k;exact Xbd k
theorem ZgZ {r:List (List Mrk)} (h:¬∀ v∈w :: r,ZaS W v=none) (k:∀ v∈w :: r,ZaS W v=ZaS W w):∃ n,ZaS W w=some n/\ansW W (w :: r) at_=(("thing" : Str),n):=by
 cases e:ZaS W w with
 | none=>exact absurd (fun v hv=>by rw [k v hv,e]) h
 | some n =>
   refine ⟨n,rfl,?_⟩;unfold ansW;rw [Xbd h];dsimp only;rw [e]
   exact Xbe fun v hv=>by rw [k v hv,e]
theorem Zkb {a b:Option Int} (h:onV a=onV b):a=b:=by
 cases a <;> cases b <;> first | rfl | (cases h;rfl) | cases h
theorem onV_non {a:Option Int}:onV a=.non↔a=none:=⟨fun h=>Zkb (b:=none) h,fun h=>by rw [h];rfl⟩
theorem Zls (a b:Option Int):scal (onV a) (onV b)=true:=by cases a <;> cases b <;> rfl
theorem all_none :(((l.map fun w=>onV (ZaS W w)).map fun v=>decide (v=V.non)).all id=true)↔∀ w∈l,ZaS W w=none:=by
 simp only [List.all_map,List.all_eq_true,Function.comp,id,decide_eq_true_eq,onV_non]
theorem any_ne :(((l.map fun w=>onV (ZaS W w)).map fun v=>!decide (v=onV (ZaS W w))).any id=true)↔¬∀ v∈l,ZaS W v=ZaS W w:=by
 simp only [List.any_map,XaQ,Function.comp,id,Bool.not_eq_true',decide_eq_false_iff_not];refine ⟨fun ⟨v,h1,h2⟩ h=>h2 (by rw [h v h1]),fun h=>?_⟩;refine Classical.byContradiction fun n=>h fun v hv=>?_;exact Classical.byContradiction fun m=>n ⟨v,hv,fun z=>m (Zkb z)⟩
abbrev Lk:Type:=List Beg×List (List Mrk)×List (List Mrk)
abbrev lkD (l:Lk):Dt:=.tup [.lst (l.1.map begE.D),.lst (l.2.1.map wayE.D),.lst (l.2.2.map wayE.D)]
structure LkOk (W:Wd) (ord:List (Str×Str)) (sc st:Int) (x:Str) (l:Lk) (os:List Ow):Prop where
 b:Begs W sc st l.1
 f:Fnd W x l.1 l.2.1
 s:l.2.2=Zbj W.ss ord l.2.1 l.2.1
 o:Owd W l.1 os
abbrev insW (W:Wd) (n:Int):Str×Int:=match W.gs[n.toNat]? with
 | some p=>Za3 W.gs W.as p
 | none=>("no",0)
inductive LU (W:Wd) (inn:Int) (ord:List (Str×Str)):Int->Int->List Str->Int->Option (Str×Int)->Option Wt->List Lk->List Int->Prop where
 | stop {sc st:Int} {x:Str} {r:List Str} {at_:Int} {l:Lk} {os:List Ow} {a:Option (Str×Int)} {w:Option Wt} (h:LkOk W ord sc st x l os) (e:metV W ord l.2.1 os at_=(a,w)) (n:(∀ k,a≠some (("thing" : Str),k))\/r=[]):LU W inn ord sc st (x :: r) at_ a w [l] []
 | opn {sc st:Int} {x y:Str} {r:List Str} {at_:Int} {l:Lk} {os:List Ow} {n q:Int} {w:Option Wt} (h:LkOk W ord sc st x l os) (e:metV W ord l.2.1 os at_=(some (("thing" : Str),n),w)) (i:insW W n=(("open" : Str),q)):LU W inn ord sc st (x :: y :: r) at_ none (some (at_,[],q)) [l] [n]
 | no {sc st:Int} {x y:Str} {r:List Str} {at_:Int} {l:Lk} {os:List Ow} {n q:Int} {w:Option Wt} (h:LkOk W ord sc st x l os) (e:metV W ord l.2.1 os at_=(some (("thing" : Str),n),w)) (i:insW W n=(("no" : Str),q)):LU W inn ord sc st (x :: y :: r) at_ (some ("none",at_+1)) none [l] [n]
 | go {sc st:Int} {x y:Str} {r:List Str} {at_:Int} {l:Lk} {os:List Ow} {n q:Int} {w w':Option Wt} {a:Option (Str×Int)} {ls:List Lk} {ts:List Int} (h:LkOk W ord sc st x l os) (e:metV W ord l.2.1 os at_=(some (("thing" : Str),n),w)) (i:insW W n=(("to" : Str),q)) (k:LU W inn ord q inn (y :: r) (at_+1) a w' ls ts):LU W inn ord sc st (x :: y :: r) at_ a w' (l :: ls) (n :: ts)
variable {sc st:Int}
theorem Zkc (ok:WOk W) (hsc:0<=sc/\sc<W.ss.length) (hst:0<=st/\st<W.sts.length) {x:Str} {bs:List Beg} (hB:Begs W sc st bs) (hw:w∈Zay W x bs):EndT W.ss w:=by
 have hm:=(Zdl ok hsc hst hB hw).1;obtain ⟨b,hb,j,q,g1,_,_,rfl⟩:=Zez hw;exact ⟨b.1,_,rfl,hm _ (by simp),rfl⟩
theorem Zeg {all:List (List Mrk)} (h:w∈Zbj ss ord all l):w∈l:=(XaK.mp h).1
theorem ZhD (sm:Small W) (h:EndT W.ss w):tlOk W.gs.length W.as.length (ZbT W.ss w):=by
 obtain ⟨v,m,rfl,⟨n,k,s,h1,h2,hs,hq⟩,ht⟩:=h
 rcases hq with ⟨e,_⟩ | ⟨_,hk⟩
 . exact absurd (ht.symm.trans e) Zce
 . rw [Zcf,Zf1 h1 h2 hs (Xab hk)]
   exact sm.tl s (Xah hs) _ (Xav hk)
theorem Zf4 {l:Addr}{v:List Mrk}(h:WyH F H l (v++[m])):∃ (ms:List Addr) (t:Addr),H l=some (.lst (ms.map V.ref))/\atI (ms.map V.ref) (-1)=some (.ref t)/\H t=some (.tup (mkV m)):=by
 obtain ⟨ms,a1,a2,_⟩:=h;have hl:=a2.len;rw [Xac,Xau] at hl
 have hlt:v.length<ms.length:=by omega
 have e1:=Xab hlt;refine ⟨ms,ms[v.length],a1,?_,a2.at_ v.length _ m e1 (by simp)⟩
 have e:ms.map V.ref=(ms.take v.length).map V.ref++[V.ref ms[v.length]]:=by
  have:ms=ms.take v.length++[ms[v.length]]:=by
   have h3:=List.take_append_drop v.length ms;rw [XaL hlt,List.drop_eq_nil_of_le (by omega)] at h3;exact h3.symm
  conv=>lhs;rw [this]
  rw [Xad];rfl
 rw [e];exact Zey _ _
def WtH (F:Addr->Prop) (H:Hp) (v:V):Option Ow->Prop
 | none=>v=.non
 | some o=>∃ p l,v=.ref p/\H p=some (.tup [.ref l,.int o.2])/\WyH F H l o.1
theorem OwH.way {t:Addr}{p:Ow} (h:OwH F H t p):∃ l,H t=some (.tup [.ref l,.int p.2])/\WyH F H l p.1:=by
 obtain ⟨l,ms,a1,a2,a3,a4⟩:=h;exact ⟨l,a1,ms,a2,a3,a4⟩
theorem ZhE {α:Type}{l:List α}{x:α} (h:l[i]?=some x):l.drop i=x :: l.drop (i+1):=by
 obtain ⟨hl,rfl⟩:=Xae.mp h;exact XaL hl
theorem Zlt {ws:List (List Mrk)} (h:(ws.any fun v=>ZaO ss ord v o.1)=false):ZaZ ss ord ws (o :: os)=some o:=by
 unfold ZaZ;rw [h,Xbd Xbb]
theorem Zkd {ws:List (List Mrk)} (h:(ws.any fun v=>ZaO ss ord v o.1)=true):ZaZ ss ord ws (o :: os)=ZaZ ss ord ws os:=by
 conv=>lhs;unfold ZaZ
 rw [h,Xbe rfl]
theorem Zio {ws:List (List Mrk)} {q:Int} (h:Zf2 W w=some q):ZaU W (w :: ws)=some (w,q):=by
 unfold ZaU;rw [h]
theorem ZdA {ws:List (List Mrk)} (h:Zf2 W w=none):ZaU W (w :: ws)=ZaU W ws:=by
 conv=>lhs;unfold ZaU
 rw [h]
theorem Zg0 {W:Wd}:∀ {ws:List (List Mrk)},ZaU W ws=none->∀ w∈ws,Zf2 W w=none
 | [],_,w,h=>by cases h
 | x :: ws, e, w, h => by
   cases ex:Zf2 W x with
   | some q=>rw [Zio ex] at e;cases e
   | none =>
     rw [ZdA ex] at e
     rcases Xam.mp h with rfl | h
     . exact ex
     . exact Zg0 e w h
theorem OwD.two {m:Addr}{d e:Dt} (h:OwD F H (.ref m) (.tup [d,e])):∃ x y,H m=some (.tup [x,y])/\OwD F H x d/\OwD F H y e:=by
 cases h with
 | tup h t =>
   cases t with
   | cons a t =>
     cases t with
     | cons b t =>
       cases t with
       | nil=>exact ⟨_,_,h,a,b⟩
theorem OwD.ansN (h:OwD F H v (ansD none)):v=.non:=by cases h;rfl
theorem OwD.ansS {p:Str×Int} (h:OwD F H v (ansD (some p))):∃ t,v=.ref t/\H t=some (.tup [.str p.1,.int p.2]):=by
 have h':OwD F H v (.tup [.str p.1,.int p.2]):=h
 cases v with
 | ref m =>
   obtain ⟨x,y,e,a,b⟩:=h'.two;cases a;cases b;exact ⟨m,rfl,e⟩
 | _=>cases h'
theorem Zfx:("none" : Str)≠("thing" : Str):=by decide +kernel
theorem Zfy:("torn" : Str)≠("thing" : Str):=by decide +kernel
theorem Zlu {seen:List (List Mrk)} {n:Int} (h:ansW W seen at_=(("thing" : Str),n)):∃ w∈seen,ZaS W w=some n:=by
 unfold ansW at h
 split at h
 . exact absurd (Xbj Prod.fst h) Zfx
 . split at h
   . exact absurd (Xbj Prod.fst h) Zfx
   . rename_i w r _
     split at h
     . rename_i m hm
       split at h
       . refine ⟨w,Xal,?_⟩
         have e:m=n:=Xbj Prod.snd h;rw [hm,e]
       . exact absurd (Xbj Prod.fst h) Zfy
     . exact absurd (Xbj Prod.fst h) Zfy
theorem Zlv (ok:WOk W) (sm:Small W) (he:EndT W.ss w) {n:Int} (h:ZaS W w=some n):0<=n/\n<W.gs.length:=by
 have tk:=ZhD sm he;unfold ZaS at h
 split at h
 . rename_i ht
   have e:=Xbc h
   rcases tk with ⟨_,h1⟩ | ⟨hb,_⟩
   . rw [<-e];exact h1
   . rw [ht] at hb;exact absurd hb (by decide +kernel)
 . split at h
   . rename_i p hp
     split at h
     . rename_i hk
       rw [<-Xbc h];exact ok.an p (Xah hp) hk
     . cases h
   . cases h
theorem met_rng (ok:WOk W) (sm:Small W) {ws:List (List Mrk)} {n:Int} {w:Option Wt} (he:∀ w∈ws,EndT W.ss w) (h:metV W ord ws os at_=(some (("thing" : Str),n),w)):0<=n/\n<W.gs.length:=by
 unfold metV at h
 split at h
 . cases Xbj Prod.fst h
 . obtain ⟨w,hw,hm⟩:=Zlu (Xbc (Xbj Prod.fst h))
   exact Zlv ok sm (he w (Zeg hw)) hm
theorem Zke (ths:List (Str×Int)) (as:List (Option (Str×Int))) (q:Int):(Zb9 ths as q).1=("to" : Str)\/(Zb9 ths as q).1=("open" : Str)\/(Zb9 ths as q).1=("no" : Str):=by
 unfold Zb9
 split
 . split
   . split
     . split
       . exact .inl rfl
       . exact .inr (.inr rfl)
     . exact .inr (.inr rfl)
   . exact .inr (.inr rfl)
 . exact .inr (.inl rfl)
 . exact .inr (.inr rfl)
theorem Zlw (ths:List (Str×Int)) (as:List (Option (Str×Int))) (p:Str×Int):(Za3 ths as p).1=("to" : Str)\/(Za3 ths as p).1=("open" : Str)\/(Za3 ths as p).1=("no" : Str):=by
 unfold Za3
 split
 . exact .inl rfl
 . split
   . exact Zke ths as p.2
   . exact .inr (.inr rfl)
structure LC (K:XFg) (F:Addr->Prop) (H:Hp) (nt A t:Addr) (W:Wd) (qs:List Qu) (inn:Int) (ord:List (Str×Str)):Prop where
 net:∃ (S T R:Addr) (us Gs Es ts qt:List Addr),H nt=some (.tup [.ref S,.ref T,.ref R])/\Net3 H S T R us Gs Es ts qt W.ss W.gs qs
 ans:Ans K H A W.as
 tab:Tab K F H t W.sts inn ord
structure LOk (W:Wd) (qs:List Qu) (inn:Int) (ord:List (Str×Str)):Prop where
 ok:WOk W
 sm:Small W
 ol:ord.length<=40
 irr:∀ x,(x,x) ∉ ord
 inn:0<=inn/\inn<W.sts.length
 q:∀ q∈qs,(0<=q.1/\q.1<W.ss.length)/\(0<=q.2.1/\q.2.1<W.sts.length)/\1<=q.2.2.length/\q.2.2.length<=8
variable {inn:Int}
theorem LC.caseH {K:XFg}{nt A t:Addr}{qs:List Qu}(h:LC K F H nt A t W qs inn ord):CaseH K H nt A t W:=by
 obtain ⟨⟨S,T,R,us,Gs,Es,ts,qt,a1,a2⟩,b,c⟩:=h;exact ⟨⟨S,T,R,us,Gs,Es,ts,qt,qs,a1,a2⟩,b,c.caseT⟩
abbrev Zg1 (l:Lk):Dt:=.lst (l.2.2.map wayE.D)
theorem OwD.look {l:Lk} (h:OwD F H v (lkD l)):∃ t x y z,v=.ref t/\H t=some (.tup [x,y,z])/\OwD F H z (Zg1 l):=by
 cases h with
 | tup h t =>
   cases t with
   | cons a t =>
     cases t with
     | cons b t =>
       cases t with
       | cons c t =>
         cases t with
         | nil=>exact ⟨_,_,_,_,rfl,h,c⟩
theorem OwD.look' {t:Addr}{x y z:V}{l:Lk} (e:H t=some (.tup [x,y,z])) (h:OwD F H (.ref t) (lkD l)):OwD F H z (Zg1 l):=by
 obtain ⟨u,a,b,c,e1,e2,e3⟩:=h.look
 have:=V.ref.inj e1
 subst this;rw [e] at e2;have h2:=HO.tup.inj (Xbc e2);cases h2;exact e3
theorem lu_len {p:List Str} {a:Option (Str×Int)} {w:Option Wt} {ls:List Lk} {ts:List Int} (h:LU W inn ord sc st p at_ a w ls ts):ls.length<=p.length:=by
 induction h with
 | stop=>simp
 | opn=>simp
 | no=>simp
 | go _ _ _ _ ih=>simpa using ih
def Dn:Nat->Dt->Prop
 | 0,_=>False
 | _+1,.non=>True
 | _+1,.bl _=>False
 | _+1,.int _=>True
 | _+1,.str _=>True
 | n+1,.tup l=>∀ d∈l,Dn n d
 | n+1,.lst l=>∀ d∈l,Dn n d
structure WOk0 (W:Wd):Prop where
 st:∀ s∈W.ss,s.1.length<=8
 kst:∀ s∈W.ss,∀ p∈s.1,stOk W.ss.length W.as.length p
 kth:∀ p∈W.gs,thOk W.ss.length W.as.length p
 an:∀ p,some p∈W.as->p.1=("thing" : Str)->0<=p.2/\p.2<W.gs.length
 go:∀ s∈W.sts,∀ p∈s.1,0<=p.2/\p.2<W.sts.length
theorem Zg2 (h:WOk0 W) {k:Str×Int} (hk:k∈W.gs) (ek:k.1=("part" : Str)):0<=k.2/\k.2<W.ss.length:=by
 rcases h.kth k hk with ⟨e1,_⟩ | ⟨_,e2⟩ | ⟨e1,_⟩
 . rw [ek] at e1;exact absurd e1 (by decide +kernel)
 . exact e2
 . rw [ek] at e1;exact absurd e1 (by decide +kernel)
theorem Zkf (h:WOk0 W) {q:Int} {g:Str×Int} (e:Zb9 W.gs W.as q=g) (hg:g.1=("to" : Str)):0<=g.2/\g.2<W.ss.length:=by
 unfold Zb9 at e
 split at e
 . split at e
   . split at e
     . rename_i k hk
       split at e
       . rename_i hp
         subst e;exact Zg2 (k:=k) h (Xah hk) hp
       . subst e;exact absurd hg Zc7
     . subst e;exact absurd hg Zc7
   . subst e;exact absurd hg Zc7
 . subst e;exact absurd hg ZfU
 . subst e;exact absurd hg Zc7
theorem ZhF (h:WOk0 W) {p:Str×Int} (hp:p∈W.gs) {g:Str×Int} (e:Za3 W.gs W.as p=g) (hg:g.1=("to" : Str)):0<=g.2/\g.2<W.ss.length:=by
 unfold Za3 at e
 split at e
 . rename_i hpart
   subst e;exact Zg2 (k:=p) h hp hpart
 . split at e
   . exact Zkf h e hg
   . subst e;exact absurd hg Zc7
theorem Zkg (h:WOk0 W) {s:Sco} (hs:s∈W.ss) {p:Stp} (hp:p∈s.1) {g:Str×Int} (e:ZbG W.gs W.as p=g) (hg:g.1=("to" : Str)):0<=g.2/\g.2<W.ss.length:=by
 unfold ZbG at e
 split at e
 . rename_i hto
   subst e
   rcases h.kst s hs p hp with ⟨_,e2⟩ | ⟨e1,_⟩
   . exact e2
   . rw [hto] at e1;exact absurd e1 (by decide +kernel)
 . split at e
   . split at e
     . split at e
       . rename_i k hk
         exact ZhF h (Xah hk) e hg
       . subst e;exact absurd hg Zc7
     . subst e;exact absurd hg Zc7
   . subst e;exact absurd hg ZfU
   . subst e;exact absurd hg Zc7
theorem BegOk.kid0 (ok:WOk0 W) {c:Beg} (h:BegOk W b) (k:c∈kids W b):BegOk W c:=by
 obtain ⟨r,hr,h1,h2,rfl⟩:=mem_kids.mp k;have eb:=Zid hr;obtain ⟨j,p,a,g1,g2,rfl⟩:=ZcN hr;obtain ⟨s,hs,hp⟩:=Zex (Xah g1);refine ⟨?_,?_,?_⟩
 . rw [eb,List.nodup_append]
   exact ⟨h.nd,by simp,fun x hx y hy=>by
    rw [Xaj.mp hy]
    exact fun z=>h2 (z ▸ hx)⟩
 . rw [eb]
   intro x hx
   rcases Xaf.mp hx with hx | hx
   . exact h.rng x hx
   . rw [Xaj.mp hx]
     exact Zkg ok hs hp rfl h1
 . obtain ⟨t,ht,hpt⟩:=Zic (Zhz g2)
   exact ok.go t ht _ hpt
theorem IsBeg.ok0 (ok:WOk0 W) (hsc:0<=sc/\sc<W.ss.length) (hst:0<=st/\st<W.sts.length) (h:IsBeg W sc st b):BegOk W b:=by
 induction h with
 | root=>exact ⟨by simp [been],fun x hx=>by simp [been] at hx;rw [hx];exact hsc,hst⟩
 | kid _ k ih=>exact ih.kid0 ok k
def begL (W:Wd) (sc st:Int):Nat->List Beg
 | 0=>[([],sc,st)]
 | d+1=>(begL W sc st d).flatMap (kids W)
theorem Zf5 (h:IsBeg W sc st b):b∈begL W sc st b.1.length:=by
 induction h with
 | root=>exact Xal
 | @kid b0 c h k ih =>
   obtain ⟨r,_,_,_,rfl⟩:=mem_kids.mp k;show _∈begL W sc st (b0.1++[r.1]).length;rw [Xac,Xau];exact List.mem_flatMap.mpr ⟨b0,ih,k⟩
theorem Zf6 {B:Nat} (h:∀ s∈W.ss,s.1.length<=B) (sc:Int):(ZaD W sc).length<=B:=by
 unfold ZaD
 split
 . rename_i s hs
   exact h s (Xah hs)
 . exact Xa0 _
theorem Zf7 {W:Wd}{B:Nat} (h:∀ s∈W.ss,s.1.length<=B) (sc st:Int):∀ d,(begL W sc st d).length<=B ^ d
 | 0=>by show 1<=_;rw [Nat.pow_zero];exact XaW _
 | d+1=>by
   have h1:((begL W sc st d).flatMap (kids W)).length<=(begL W sc st d).length * B:=ZfV _ fun b=>Xbg (ZfT W b) (Zf6 h _);have h2:=Nat.mul_le_mul_right B (Zf7 h sc st d);rw [Nat.pow_succ];exact Xbg h1 h2
def geo (B:Nat):Nat->Nat
 | 0=>0
 | n+1=>geo B n+B ^ n
theorem Zkh {α:Type} [DecidableEq α]:∀ {F l:List α},F.Nodup->(∀ x∈F,x∈l)->F.length<=l.length
 | [],_,_,_=>Xa0 _
 | x :: F,l,nd,h=>by
   have hx:=h x Xal;obtain ⟨n1,n2⟩:=XaC.mp nd
   have:=Zkh (l:=l.erase x) n2 fun y hy=>by
    have hne:y≠x:=fun e=>n1 (e ▸ hy);exact (List.mem_erase_of_ne hne).mpr (h y (Xap _ hy))
   rw [List.length_erase_of_mem hx] at this;have hp:0<l.length:=List.length_pos_of_mem hx;rw [XaB];omega
theorem Zg3 {W:Wd}{B:Nat} (h:∀ s∈W.ss,s.1.length<=B) (sc st:Int):∀ n,((List.range n).flatMap (begL W sc st)).length<=geo B n
 | 0=>XaW _
 | n+1=>by
   rw [List.range_succ,List.flatMap_append,Xac];have h1:=Zg3 h sc st n;have h2:=Zf7 h sc st n
   have h3:([n].flatMap (begL W sc st)).length=(begL W sc st n).length:=by simp
   show _<=geo B n+B ^ n;omega
theorem few_of (ok:WOk0 W) {B:Nat} (h:∀ s∈W.ss,s.1.length<=B) (sc st:Int) (F:List Beg) (hsc:0<=sc/\sc<W.ss.length) (hst:0<=st/\st<W.sts.length) (nd:F.Nodup) (hF:∀ b∈F,IsBeg W sc st b):F.length<=geo B W.ss.length:=by
 refine Xbg (Zkh (l:=(List.range W.ss.length).flatMap (begL W sc st)) nd fun b hb=>?_) (Zg3 h sc st _);have hk:=(hF b hb).ok0 ok hsc hst;have h1:=Zbb W.ss.length (been b) hk.nd hk.rng;rw [show (been b).length=b.1.length+1 by unfold been;simp] at h1;exact List.mem_flatMap.mpr ⟨b.1.length,List.mem_range.mpr (by omega),Zf5 (hF b hb)⟩
theorem Zki {α:Type}{f:Beg->List α}{k:Nat}:∀ (bs:List Beg),(∀ b∈bs,(f b).length<=k)->(bs.flatMap f).length<=bs.length * k
 | [],_=>by simp
 | b :: bs,h=>by
   rw [List.flatMap_cons,Xac,XaB,Nat.succ_mul]
   have:=h b Xal
   have:=Zki bs fun c hc=>h c (Xap _ hc)
   omega
theorem Zbg {x:Str} {l m:Lk} {us:List Ow} (h:LkOk W ord sc st x l os) (k:LkOk W ord sc st x m us):l=m/\os=us:=by
 have e1:=h.b.uniq k.b;have h2:=h.f;have h3:=h.o;rw [e1] at h2 h3;have e2:=h2.uniq k.f
 have e4:l.2.2=m.2.2:=by rw [h.s,k.s,e2]
 exact ⟨Prod.ext e1 (Prod.ext e2 e4),h3.uniq k.o⟩
theorem ZhG {p:List Str} {a:Option (Str×Int)} {w:Option Wt} {ls:List Lk} {ts:List Int} (h:LU W inn ord sc st p at_ a w ls ts):∀ {a':Option (Str×Int)} {w':Option Wt} {ls':List Lk} {ts':List Int},LU W inn ord sc st p at_ a' w' ls' ts'->a=a'/\w=w'/\ls=ls'/\ts=ts':=by
 have oi:("open" : Str)≠("no" : Str):=by decide +kernel
 have ot:("open" : Str)≠("to" : Str):=by decide +kernel
 have nt:("no" : Str)≠("to" : Str):=by decide +kernel
 induction h with
 | stop h e n =>
   intro a' w' ls' ts' k
   cases k with
   | stop h' e' n' =>
     obtain ⟨rfl,rfl⟩:=Zbg h h';rw [e] at e';cases e';exact ⟨rfl,rfl,rfl,rfl⟩
   | opn h' e' i' =>
     obtain ⟨rfl,rfl⟩:=Zbg h h';rw [e] at e';cases e'
     rcases n with n | n
     . exact absurd rfl (n _)
     . cases n
   | no h' e' i' =>
     obtain ⟨rfl,rfl⟩:=Zbg h h';rw [e] at e';cases e'
     rcases n with n | n
     . exact absurd rfl (n _)
     . cases n
   | go h' e' i' k' =>
     obtain ⟨rfl,rfl⟩:=Zbg h h';rw [e] at e';cases e'
     rcases n with n | n
     . exact absurd rfl (n _)
     . cases n
 | opn h e i =>
   intro a' w' ls' ts' k
   cases k with
   | stop h' e' n' =>
     obtain ⟨rfl,rfl⟩:=Zbg h h';rw [e] at e';cases e'
     rcases n' with n' | n'
     . exact absurd rfl (n' _)
     . cases n'
   | opn h' e' i' =>
     obtain ⟨rfl,rfl⟩:=Zbg h h';rw [e] at e';cases e';rw [i] at i';cases i';exact ⟨rfl,rfl,rfl,rfl⟩
   | no h' e' i' =>
     obtain ⟨rfl,rfl⟩:=Zbg h h';rw [e] at e';cases e';rw [i] at i';exact absurd (Xbj Prod.fst i') oi
   | go h' e' i' k' =>
     obtain ⟨rfl,rfl⟩:=Zbg h h';rw [e] at e';cases e';rw [i] at i';exact absurd (Xbj Prod.fst i') ot
 | no h e i =>
   intro a' w' ls' ts' k
   cases k with
   | stop h' e' n' =>
     obtain ⟨rfl,rfl⟩:=Zbg h h';rw [e] at e';cases e'
     rcases n' with n' | n'
     . exact absurd rfl (n' _)
     . cases n'
   | opn h' e' i' =>
     obtain ⟨rfl,rfl⟩:=Zbg h h';rw [e] at e';cases e';rw [i] at i';exact absurd (Xbj Prod.fst i').symm oi
   | no h' e' i' =>
     obtain ⟨rfl,rfl⟩:=Zbg h h';rw [e] at e';cases e';exact ⟨rfl,rfl,rfl,rfl⟩
   | go h' e' i' k' =>
     obtain ⟨rfl,rfl⟩:=Zbg h h';rw [e] at e';cases e';rw [i] at i';exact absurd (Xbj Prod.fst i') nt
 | go h e i k0 ih =>
   intro a' w' ls' ts' k
   cases k with
   | stop h' e' n' =>
     obtain ⟨rfl,rfl⟩:=Zbg h h';rw [e] at e';cases e'
     rcases n' with n' | n'
     . exact absurd rfl (n' _)
     . cases n'
   | opn h' e' i' =>
     obtain ⟨rfl,rfl⟩:=Zbg h h';rw [e] at e';cases e';rw [i] at i';exact absurd (Xbj Prod.fst i').symm ot
   | no h' e' i' =>
     obtain ⟨rfl,rfl⟩:=Zbg h h';rw [e] at e';cases e';rw [i] at i';exact absurd (Xbj Prod.fst i').symm nt
   | go h' e' i' k' =>
     obtain ⟨rfl,rfl⟩:=Zbg h h';rw [e] at e';cases e';rw [i] at i';cases i';obtain ⟨h1,h2,h3,h4⟩:=ih k';exact ⟨h1,h2,by rw [h3],by rw [h4]⟩
section
variable {ss:List Sco} {ord:List (Str×Str)}
end
theorem Zkj {ds:List Dt} (h:OwD F H v (.lst ds)):∃ a vs,v=.ref a/\H a=some (.lst vs)/\F a/\OwDs F H vs ds:=by
 cases h with
 | lst h f t=>exact ⟨_,_,rfl,h,f,t⟩
section
variable {ths:List (Str×Int)} {as as':List (Option (Str×Int))}
end
section
variable {W:Wd} {as':List (Option (Str×Int))} {sc st:Int}
end
section
variable {W:Wd} {sc st:Int}
end
theorem Zip {W:Wd}:∀ {ws:List (List Mrk)},(∀ w∈ws,Zf2 W w=none)->ZaU W ws=none
 | [],_=>rfl
 | w :: ws,h=>by rw [ZdA (h w Xal)];exact Zip fun v hv=>h v (Xap _ hv)
theorem Zkk {ws:List (List Mrk)} (h1:ZaZ W.ss ord ws os=none) (h2:ZaU W (Zbj W.ss ord ws ws)=none):Zd9 W ord ws os=none:=by
 unfold Zd9;rw [h1];exact h2
section
variable {W:Wd} {as':List (Option (Str×Int))} {ord:List (Str×Str)} {sc st:Int}
end
section
variable {ths:List (Str×Int)} {as:List (Option (Str×Int))}
end
section
variable {W:Wd} {ord:List (Str×Str)} {sc st:Int}
end
section
variable {W:Wd} {sc st:Int}
theorem Ziq (h:∀ s∈W.ss,s.1.length<=1) {c:Beg} (hb:IsBeg W sc st b) (hc:IsBeg W sc st c) (e:b.1.length=c.1.length):b=c:=by
 have h1:=Zf5 hb;have h2:=Zf5 hc;rw [<-e] at h2;have h3:=Zf7 h sc st b.1.length;rw [Nat.one_pow] at h3;generalize begL W sc st b.1.length=l at h1 h2 h3
 cases l with
 | nil=>cases h1
 | cons x l =>
   cases l with
   | nil=>rw [Xaj.mp h1,Xaj.mp h2]
   | cons y l=>simp at h3
theorem Zkl {c:Beg} (k:c∈kids W b):c.1.length=b.1.length+1/\c.1.map (·.1)=b.1.map (·.1)++[b.2.1]:=by
 obtain ⟨r,hr,_,_,rfl⟩:=mem_kids.mp k;obtain ⟨j,p,a,_,_,rfl⟩:=ZcN hr;exact ⟨by simp,by simp⟩
theorem beg_anc {c:Beg} (hc:IsBeg W sc st c):∀ d,d<c.1.length->∃ b,IsBeg W sc st b/\b.1.length=d/\b.2.1∈c.1.map (·.1):=by
 induction hc with
 | root=>intro d hd;simp at hd
 | kid h k ih =>
   rename_i b0 c0
   obtain ⟨h1,h2⟩:=Zkl k;intro d hd;rw [h2]
   by_cases e:d=b0.1.length
   . exact ⟨b0,h,e.symm,by simp⟩
   . obtain ⟨b,a1,a2,a3⟩:=ih d (by omega)
     exact ⟨b,a1,a2,XaA _ a3⟩
theorem Zg4 (h1:∀ s∈W.ss,s.1.length<=1) (ok:WOk0 W) (hsc:0<=sc/\sc<W.ss.length) (hst:0<=st/\st<W.sts.length) {c:Beg} (hb:IsBeg W sc st b) (hc:IsBeg W sc st c) (e:b.2.1=c.2.1):b=c:=by
 have key:∀ {b c:Beg},IsBeg W sc st b->IsBeg W sc st c->b.2.1=c.2.1->¬b.1.length<c.1.length:=fun {b c} hb hc e hl=>by
  obtain ⟨b',a1,a2,a3⟩:=beg_anc hc _ hl
  have:=Ziq h1 a1 hb a2
  subst this;have nd:=(hc.ok0 ok hsc hst).nd;unfold been at nd
  have:=(List.nodup_append.mp nd).2.2 _ a3 _ (Xaj.mpr rfl)
  exact this e
 refine Ziq h1 hb hc ?_
 have:=key hb hc e
 have:=key hc hb e.symm
 omega
theorem Zir {α β:Type} [DecidableEq α] {g:α->List β}:∀ {l m:List α},l.Nodup->(∀ x∈l,x∈m)->(l.flatMap g).length<=(m.flatMap g).length
 | [],m,_,_=>Xa0 _
 | x :: l,m,nd,h=>by
   have hx:=h x Xal;have hp:=List.perm_cons_erase hx;have h1:=(hp.flatMap_right g).length_eq;rw [List.flatMap_cons,Xac] at h1 ⊢;have nx:=(XaC.mp nd).1
   have:=Zir (g:=g) (l:=l) (m:=m.erase x) (XaC.mp nd).2 fun y hy=>(List.mem_erase_of_ne (fun e=>nx (by rw [<-e];exact hy))).mpr (h y (Xap _ hy))
   omega
theorem Zis (x:Str):∀ bs:List Beg,(Zay W x bs).length<=((bs.map (·.2.1)).flatMap (ZaG W)).length
 | []=>Xa0 _
 | b :: bs=>by
   have h1:=ZgP (W:=W) b x (ZaG W b.2.1) 0;have h2:=Zis x bs;unfold Zay at h2 ⊢;rw [List.flatMap_cons,Xac,Xao,List.flatMap_cons,Xac];omega
theorem Zkm:((List.range W.ss.length).map fun i:Nat=>(i:Int)).flatMap (ZaG W)=W.ss.flatMap (·.2):=by
 have:((List.range W.ss.length).map fun i:Nat=>(i:Int)).map (ZaG W)=W.ss.map (·.2):=by
  refine List.ext_getElem? fun i=>?_;rw [Xax,Xag,Xag]
  by_cases hi:i<W.ss.length
  . rw [List.getElem?_range hi,Xab hi]
    show some (ZaG W (i:Int))=_;unfold ZaG;rw [Xa4,Xab hi];rfl
  . rw [XaJ (by simpa using hi),XaJ (by simpa using hi)];rfl
 rw [List.flatMap_def,this,<-List.flatMap_def]
theorem Zkn {α β:Type}{f:α->β}:∀ {l:List α},l.Nodup->(∀ x∈l,∀ y∈l,f x=f y->x=y)->(l.map f).Nodup
 | [],_,_=>List.nodup_nil
 | x :: l,nd,h=>by
   rw [Xao];refine XaC.mpr ⟨fun hm=>?_,Zkn (XaC.mp nd).2 fun a ha b hb=>h a (Xap _ ha) b (Xap _ hb)⟩;obtain ⟨y,hy,e⟩:=Xai.mp hm
   have:=h y (Xap _ hy) x Xal e
   subst this;exact (XaC.mp nd).1 hy
theorem Zg5 (ok:WOk0 W) (h1:∀ s∈W.ss,s.1.length<=1) (hsc:0<=sc/\sc<W.ss.length) (hst:0<=st/\st<W.sts.length) (x:Str) {bs:List Beg} (nd:bs.Nodup) (hb:∀ b∈bs,IsBeg W sc st b):(Zay W x bs).length<=(W.ss.flatMap (·.2)).length:=by
 refine Xbg (Zis x bs) ?_;rw [<-Zkm];refine Zir (Zkn nd fun b h c h' e=>Zg4 h1 ok hsc hst (hb b h) (hb c h') e) fun y hy=>?_;obtain ⟨b,h,rfl⟩:=Xai.mp hy
 have:=((hb b h).ok0 ok hsc hst).rng b.2.1 (by unfold been;simp)
 obtain ⟨n,hn⟩:=Xa3 this.1;exact Xai.mpr ⟨n,List.mem_range.mpr (by omega),by rw [hn]⟩
theorem WOk.zero (ok:WOk W):WOk0 W:=⟨ok.st,ok.kst,ok.kth,ok.an,ok.go⟩
theorem ZhH (ok:WOk0 W) (h1:∀ s∈W.ss,s.1.length<=1) (hl:W.ss.length<=60) (ht:(W.ss.flatMap (·.2)).length<=62) (tl:∀ s∈W.ss,∀ p∈s.2,tlOk W.gs.length W.as.length p):WOk W/\Small W:=by
 have hg:∀ n,geo 1 n<=n+1:=fun n=>by
  induction n with
  | zero=>decide
  | succ n ih=>unfold geo;simp;omega
 have fw:∀ (sc st:Int) (F:List Beg),(0<=sc/\sc<W.ss.length)->(0<=st/\st<W.sts.length)->F.Nodup->(∀ b∈F,IsBeg W sc st b)->F.length<=62:=fun sc st F hsc hst nd hF=>by
  have:=few_of ok h1 sc st F hsc hst nd hF
  have:=hg W.ss.length
  omega
 refine ⟨⟨by omega,ok.st,ok.kst,ok.kth,ok.an,ok.go,fw⟩,tl,fun x sc st bs hsc hst hB=>?_,fun sc st bs hsc hst hB=>?_⟩
 . exact Xbg (Zg5 ok h1 hsc hst x hB.nd fun b hb=>(hB.mem b).mp hb) ht
 . have h2:=Zki (f:=fun b=>(ZbW W b.2.1 b.2.2).filterMap (ow b)) (k:=1) bs fun b _=>Xbg (List.length_filterMap_le _ _) (Xbg (ZbR _ _ _ _ _) (Zf6 h1 _))
   have:=fw sc st bs hsc hst hB.nd fun b hb=>(hB.mem b).mp hb
   unfold Zcd;omega
inductive Chn (W:Wd):List Beg->Beg->Prop where
 | one (b:Beg):Chn W [b] b
 | more {l:List Beg} {b c:Beg} (h:Chn W l b) (k:c∈kids W b):Chn W (l++[c]) c
theorem Chn.last {l:List Beg}(h:Chn W l b):b∈l:=by cases h <;> simp
theorem Chn.beg {l:List Beg}(h:Chn W l b) (hr:l.head?=some ([],sc,st)):∀ c∈l,IsBeg W sc st c:=by
 induction h with
 | one b =>
   intro c hc;rw [Xaj.mp hc];have e:b=([],sc,st):=Xbc hr;rw [e];exact .root
 | more h k ih =>
   rename_i l b c
   have hne:l≠[]:=fun e=>by have:=h.last;rw [e] at this;cases this
   have hr':l.head?=some ([],sc,st):=by
    cases l with
    | nil=>exact absurd rfl hne
    | cons x l=>exact hr
   intro d hd
   rcases Xaf.mp hd with hd | hd
   . exact ih hr' d hd
   . rw [Xaj.mp hd];exact .kid (ih hr' b h.last) k
theorem Chn.all (h1:∀ s∈W.ss,s.1.length<=1) {l:List Beg} (h:Chn W l b):∀ c∈l,(c=b\/∀ d∈kids W c,d∈l):=by
 have one:∀ (x c d:Beg),c∈kids W x->d∈kids W x->c=d:=fun x c d hc hd=>by
  have:=Xbg (ZfT W x) (Zf6 h1 x.2.1)
  generalize kids W x=ks at hc hd this
  cases ks with
  | nil=>cases hc
  | cons y ks =>
    cases ks with
    | nil=>rw [Xaj.mp hc,Xaj.mp hd]
    | cons z ks=>simp at this
 induction h with
 | one b=>intro c hc;exact .inl (Xaj.mp hc)
 | more h k ih =>
   rename_i l b c
   intro d hd
   rcases Xaf.mp hd with hd | hd
   . right
     intro e he
     rcases ih d hd with rfl | h2
     . rw [one d e c he k];exact Xan _ (Xaj.mpr rfl)
     . exact XaA _ (h2 e he)
   . exact .inl (Xaj.mp hd)
theorem Chn.mem (h1:∀ s∈W.ss,s.1.length<=1) {l:List Beg} (h:Chn W l b) (hr:l.head?=some ([],sc,st)) (he:kids W b=[]) (c:Beg):c∈l↔IsBeg W sc st c:=by
 refine ⟨h.beg hr c,fun hc=>?_⟩
 induction hc with
 | root=>exact List.mem_of_mem_head? (by rw [hr];exact rfl)
 | kid _ k ih =>
   rcases h.all h1 _ ih with rfl | h2
   . rw [he] at k;cases k
   . exact h2 _ k
theorem Chn.nd {l:List Beg}(h:Chn W l b):l.Nodup/\∀ c∈l,c.1.length<=b.1.length:=by
 induction h with
 | one b=>exact ⟨XaC.mpr ⟨by simp,List.nodup_nil⟩,fun c hc=>by rw [Xaj.mp hc];exact XaW _⟩
 | more h k ih =>
   rename_i l b c
   obtain ⟨g1,g2⟩:=ih
   have:=(Zkl k).1
   refine ⟨List.nodup_append.mpr ⟨g1,XaC.mpr ⟨by simp,List.nodup_nil⟩,fun x hx y hy e=>?_⟩,fun d hd=>?_⟩
   . rw [Xaj.mp hy] at e
     have:=g2 x hx
     rw [e] at this;omega
   . rcases Xaf.mp hd with hd | hd
     . have:=g2 d hd;omega
     . rw [Xaj.mp hd];exact XaW _
theorem Chn.perm (h1:∀ s∈W.ss,s.1.length<=1) {l bs:List Beg} (h:Chn W l b) (hr:l.head?=some ([],sc,st)) (he:kids W b=[]) (hB:Begs W sc st bs):bs.Perm l :=
 (List.perm_ext_iff_of_nodup hB.nd h.nd.1).mpr fun c=>(hB.mem c).trans (h.mem h1 hr he c).symm
end
def rSum (K:XFg):List V->Hp->VK->Prop:=fun vs H Q=>∃ (a:Addr) (ns:List Int),vs=[.ref a]/\SqL K H a (ns.map V.int)/\Q (.int ns.sum) H
theorem ZeK (ns:List Int):∀ n,n<=ns.length->preSum (fun i=>ns.getD i 0) n=(ns.take n).sum
 | 0,_=>by simp [preSum]
 | n+1,h=>by
   have ih:=ZeK ns n (by omega)
   have e:(ns.take (n+1))=ns.take n++[ns.getD n 0]:=by
    rw [Xar,Xab (by omega),Xaq,Xab (by omega)];rfl
   rw [e,List.sum_append];show preSum _ n+ns.getD n 0=_;rw [ih];simp
theorem Zko (hc:X.calm=true):CallR X (.builtin "sum") (rSum X.K):=by
 intro pins s σ H vs us Q I r h;obtain ⟨a,ns,rfl,hq,q⟩:=h;obtain ⟨u,rfl,ru⟩:=Zdh r;obtain rfl:u=Value.ref a:=ru;obtain ⟨its,rv,p,hz⟩:=I.list hq;have hl:=rv.length;rw [Xaa] at hl
 have hlt:a<s.heap.objs.size:=by obtain ⟨_,e,_⟩:=p.isList;exact Xbp e
 refine call_sum_walkG (wpAny_pyIter_list p.isList ?_);refine ⟨s.heap.objs.size,[s.heap.objs.size,a],[s.heap.objs.size],its.toArray.size,(fun i v=>its.toArray[i]?=some v),(fun i h=>h.IsListIter s.heap.objs.size a i/\h.IsList a its.toArray),(fun i=>ns.getD i 0),rfl,Walks.list (A:=X.A.in1) (I.ok.hd hc) s.heap.objs.size a (XaZ hlt) its.toArray,⟨⟨_,Xbq _ rfl,rfl,rfl⟩,p.isList.push _⟩,(fun b hb=>?_),(fun i v hv=>?_),fun h' tk t' hk=>?_⟩
 . rw [Heap.size_push]
   rcases Xam.mp hb with rfl | hb
   . exact Nat.lt_succ_self _
   . rw [Xaj.mp hb];exact Nat.lt_succ_of_lt hlt
 . have hv':its[i]?=some v:=by simpa using hv
   have hi:i<ns.length:=by have:=(Xae.mp hv').1;omega
   obtain ⟨u,hu,t,ru⟩:=rv.get (i:=i) (x:=V.int (ns.getD i 0)) (by rw [Xag,Xaq,Xab hi];rfl);rw [hv'] at hu;cases hu;exact ⟨t,ru⟩
 . have e:its.toArray.size=ns.length:=by rw [Xak,hl]
   refine ⟨.int ns.sum,H,I.kept fun b o e=>hk b o (fun z=>?_) (Xbo _ e),?_,q⟩
   . have z':b=s.heap.objs.size:=by simpa using z
     exact absurd (Xbp e) (by rw [z'];exact XaX _)
   . refine ⟨t',?_⟩
     rw [e,ZeK ns _ (XaW _),Xas]
theorem or_pow {s:Nat}{l:List Nat} (h:∀ j,s.testBit j=decide (j∈l)) {e:Nat} (he:e ∉ l):Builtin.bitOr (s:Int) (1 * 2 ^ e)=((s+2 ^ e:Nat):Int)/\∀ j,(s+2 ^ e).testBit j=decide (j∈e :: l):=by
 have a0:s &&& 2 ^ e=0:=by
  refine Nat.eq_of_testBit_eq fun j=>?_;rw [Nat.testBit_and,Nat.testBit_two_pow,h,Nat.zero_testBit]
  by_cases c:e=j
  . subst c;simp [he]
  . simp [c]
 have o0:s ||| 2 ^ e=s+2 ^ e:=by
  have:=nat_or_add_and s (2 ^ e)
  rw [a0] at this;omega
 have p0:((1 * 2 ^ e:Int))=((2 ^ e:Nat):Int):=by rw [Int.one_mul];norm_cast
 refine ⟨?_,fun j=>?_⟩
 . rw [p0,bitOr_and,bitAnd_pp (Int.natCast_nonneg _) (Int.natCast_nonneg _),Xa4,Xa4,a0]
   omega
 . rw [<-o0,Nat.testBit_or,h,Nat.testBit_two_pow]
   by_cases c:e=j
   . subst c;simp
   . have:j≠e:=fun z=>c z.symm
     simp [c,this]
theorem Zkp:∀ (es:List Nat) {s:Nat} {l:List Nat},(∀ j,s.testBit j=decide (j∈l))->es.Nodup->(∀ e∈es,e ∉ l)->es.foldl (fun (n:Int) e=>Builtin.bitOr n (1 * 2 ^ e)) (s:Int)=((s:Int)+(es.map fun e=>(2 ^ e:Int)).sum)
 | [],s,l,_,_,_=>by simp
 | e :: es, s, l, h, nd, hd => by
   obtain ⟨h1,h2⟩:=or_pow h (hd e Xal);rw [List.foldl_cons,h1,Zkp es h2 (XaC.mp nd).2 fun x hx z=>?_,Xao,List.sum_cons]
   . have:((s+2 ^ e:Nat):Int)=(s:Int)+2 ^ e:=by norm_cast
     rw [this];omega
   . rcases Xam.mp z with rfl | z
     . exact (XaC.mp nd).1 hx
     . exact hd x (Xap _ hx) z
end L2
theorem L2.new_at {H:L2.Hp}{a:PySem.Addr}{o:L2.HO} (h:H a=none):∃ H':L2.Hp,H'=L2.upd H a o/\L2.Same H H'/\H' a=some o:=⟨_,rfl,L2.Zak h,L2.upd_same⟩
variable {i:Nat}
theorem L2.getm {α β:Type}{f:α->β}{l:List α}{x:β} (h:(l.map f)[i]?=some x):∃ z,l[i]?=some z/\f z=x:=by
 rw [Xag] at h;exact XaV.mp h
namespace K31
open PySem PySem.Spec PyProof.Rows L2 Ord
local macro_rules | `(tactic| trivial) => `(tactic| exact ⟨rfl, rfl, rfl, by decide +kernel, rfl, by decide +kernel, by decide +kernel⟩)
local macro_rules | `(tactic| trivial) => `(tactic| exact ⟨rfl, by decide +kernel, by decide +kernel, by decide +kernel, rfl, by decide +kernel, by decide +kernel⟩)
theorem sc__law_names:FnScope ["_law_cell", "_law_many", "_law_letters", "_law_long", "_law_at", "_law_some", "_law_k", "_law_name", "_law_j", "_law_sign"] ["_law_cell", "_law_many"] (Zaj Zcv):=by trivial
theorem ZeL:FnScope ["_law_script", "_law_k"] ["_law_script", "_law_k"] (Zaj Zb1):=by trivial
theorem sc__law_ranks:FnScope ["_law_number", "_law_many", "_law_some", "_law_k"] ["_law_number", "_law_many"] (Zaj Zcw):=by trivial
theorem sc__law_order:FnScope ["_law_cell", "_law_labels", "_law_one", "_law_other", "_law_some", "_law_j", "_law_k"] ["_law_cell", "_law_labels"] (Zaj Zcx):=by trivial
theorem sc__law_table:FnScope ["_law_script", "_law_labels", "_law_bits", "_law_states", "_law_k", "_law_goes", "_law_ends"] ["_law_script", "_law_labels"] (Zaj Zbx):=by trivial
theorem _law_table_cs1:CompScope (Zaj Zbx) ["_law_script", "_law_labels", "_law_bits", "_law_states", "_law_k", "_law_goes", "_law_ends"] { kind:=.function,names:=[ (".0",.local),("_law_j",.local),("_law_bits",.free),("_law_k",.free),("_law_labels",.free)],isGenerator:=false,isCoroutine:=false,more:=[]:PySem.Scope } ["_law_j", "_law_labels", "_law_bits", "_law_k"] 1 [1,2,4]:=by trivial
theorem _law_table_cs2:CompScope (Zaj Zbx) ["_law_script", "_law_labels", "_law_bits", "_law_states", "_law_k", "_law_goes", "_law_ends"] { kind:=.function,names:=[ (".0",.local),("_law_j",.local),("_law_bits",.free),("_law_k",.free),("_law_labels",.free)],isGenerator:=false,isCoroutine:=false,more:=[]:PySem.Scope } ["_law_j", "_law_labels", "_law_bits", "_law_k"] 1 [1,2,4]:=by trivial
theorem sc__law_made:FnScope ["_law_script", "_law_names_here", "_law_labels", "_law_head", "_law_many", "_law_way", "_law_spots", "_law_scopes", "_law_kinds", "_law_k", "_law_cell", "_law_label_here", "_law_name", "_law_number", "_law_thing", "_law_start", "_law_question", "_law_things"] ["_law_script"] (Zaj Zbo):=by trivial
theorem _law_made_cs1:CompScope (Zaj Zbo) ["_law_script", "_law_names_here", "_law_labels", "_law_head", "_law_many", "_law_way", "_law_spots", "_law_scopes", "_law_kinds", "_law_k", "_law_cell", "_law_label_here", "_law_name", "_law_number", "_law_thing", "_law_start", "_law_question", "_law_things"] { kind:=.function,names:=[ (".0",.local),("_law_k",.local),("_law_head",.free),("_law_many",.free),("_law_way",.free)],isGenerator:=false,isCoroutine:=false,more:=[]:PySem.Scope } ["_law_k", "_law_many", "_law_head", "_law_way"] 1 [4,3,5]:=by trivial
theorem _law_made_cs2:CompScope (Zaj Zbo) ["_law_script", "_law_names_here", "_law_labels", "_law_head", "_law_many", "_law_way", "_law_spots", "_law_scopes", "_law_kinds", "_law_k", "_law_cell", "_law_label_here", "_law_name", "_law_number", "_law_thing", "_law_start", "_law_question", "_law_things"] { kind:=.function,names:=[(".0",.local),("_law_k",.local)],isGenerator:=false,isCoroutine:=false,more:=[]:PySem.Scope } ["_law_k"] 1 []:=by trivial
theorem _law_made_cs3:CompScope (Zaj Zbo) ["_law_script", "_law_names_here", "_law_labels", "_law_head", "_law_many", "_law_way", "_law_spots", "_law_scopes", "_law_kinds", "_law_k", "_law_cell", "_law_label_here", "_law_name", "_law_number", "_law_thing", "_law_start", "_law_question", "_law_things"] { kind:=.function,names:=[(".0",.local),("_law_k",.local)],isGenerator:=false,isCoroutine:=false,more:=[]:PySem.Scope } ["_law_k"] 1 []:=by trivial
theorem sc__law_next:FnScope ["_law_table_here", "_law_state", "_law_label_here", "_law_one", "_law_then"] ["_law_table_here", "_law_state", "_law_label_here"] (Zaj Zde):=by trivial
theorem sc__law_row:FnScope ["_law_net", "_law_table_here", "_law_here", "_law_state", "_law_marks", "_law_rows", "_law_come", "_law_label_here", "_law_kind", "_law_there"] ["_law_net", "_law_table_here", "_law_here", "_law_state"] (Zaj ZdF):=by trivial
theorem sc__law_ways:FnScope ["_law_net", "_law_table_here", "_law_rows", "_law_name", "_law_ways_here", "_law_marks", "_law_here", "_law_state", "_law_k", "_law_telling"] ["_law_net", "_law_table_here", "_law_rows", "_law_name"] (Zaj Zdf):=by trivial
theorem sc__law_label:FnScope ["_law_net", "_law_mark", "_law_scope"] ["_law_net", "_law_mark"] (Zaj Zcy):=by trivial
theorem sc__law_hides:FnScope ["_law_net", "_law_table_here", "_law_one", "_law_other", "_law_a", "_law_b"] ["_law_net", "_law_table_here", "_law_one", "_law_other"] (Zaj Zcz):=by trivial
theorem sc__law_hidden:FnScope ["_law_net", "_law_table_here", "_law_ways_here", "_law_way", "_law_one"] ["_law_net", "_law_table_here", "_law_ways_here", "_law_way"] (Zaj Zcg):=by trivial
theorem sc_next_state:FnScope ["table", "state", "label", "goes", "known", "number"] ["table", "state", "label"] (Zaj ZcA):=by trivial
theorem sc_inside_of_sort:FnScope ["net", "answers", "question", "answer", "kind", "number"] ["net", "answers", "question"] (Zaj Zbz):=by trivial
theorem sc_inside:FnScope ["net", "answers", "thing", "kind", "number"] ["net", "answers", "thing"] (Zaj ZfA):=by trivial
theorem sc_goal:FnScope ["net", "answers", "step", "label", "kind", "number", "answer"] ["net", "answers", "step"] (Zaj Zi8):=by trivial
theorem sc_steps_gone:FnScope ["net", "answers", "table", "scope", "state", "gone", "index", "step", "after", "kind", "number"] ["net", "answers", "table", "scope", "state"] (Zaj ZcB):=by trivial
theorem sc_longer_by_a_step:FnScope ["net", "answers", "table", "beginning", "marks", "last", "then", "come_to", "longer", "mark", "kind", "number", "after"] ["net", "answers", "table", "beginning"] (Zaj Za6):=by trivial
theorem longer_by_a_step_cs1:CompScope (Zaj Za6) ["net", "answers", "table", "beginning", "marks", "last", "then", "come_to", "longer", "mark", "kind", "number", "after"] { kind:=.function,names:=[(".0",.local),("mark",.local)],isGenerator:=false,isCoroutine:=false,more:=[]:PySem.Scope } ["mark"] 1 []:=by trivial
theorem sc_beginnings:FnScope ["net", "answers", "table", "scope", "state", "found", "place"] ["net", "answers", "table", "scope", "state"] (Zaj ZcC):=by trivial
theorem sc_has_end:FnScope ["table", "state", "label", "ends"] ["table", "state", "label"] (Zaj Zel):=by trivial
theorem sc_found_behind:FnScope ["net", "table", "begun", "name", "ways", "marks", "last", "then", "index", "telling"] ["net", "table", "begun", "name"] (Zaj Zb2):=by trivial
theorem ZeM:FnScope ["table"] ["table"] (Zaj Zbt):=by trivial
theorem better_pairs_cs1:CompScope (Zaj Zbt) ["table"] { kind:=.function,names:=[(".0",.local),("pair",.local)],isGenerator:=false,isCoroutine:=false,more:=[]:PySem.Scope } ["pair"] 1 []:=by trivial
theorem sc_tree_of:FnScope ["ways", "tree", "number", "way", "branch", "mark"] ["ways"] (Zaj Zem):=by trivial
theorem sc_label_at:FnScope ["net", "mark", "scope", "kind", "index", "steps", "tellings"] ["net", "mark"] (Zaj ZdG):=by trivial
theorem sc_first_hider:FnScope ["net", "better", "tree", "way", "numbers", "branch", "mark", "label", "beside"] ["net", "better", "tree", "way"] (Zaj Zch):=by trivial
theorem sc_seen_ways:FnScope ["net", "table", "ways", "better", "tree"] ["net", "table", "ways"] (Zaj Zci):=by trivial
theorem seen_ways_cs1:CompScope (Zaj Zci) ["net", "table", "ways", "better", "tree"] { kind:=.function,names:=[ (".0",.local),("way",.local),("first_hider",.globalImplicit),("list",.globalImplicit),("better",.free),("net",.free),("tree",.free)],isGenerator:=false,isCoroutine:=false,more:=[]:PySem.Scope } ["way", "net", "better", "tree"] 1 [0,3,4]:=by trivial
theorem sc_look_for:FnScope ["net", "table", "begun", "name", "found"] ["net", "table", "begun", "name"] (Zaj ZdH):=by trivial
theorem sc_first_owed:FnScope ["net", "table", "found", "owed", "better", "tree", "way", "question"] ["net", "table", "found", "owed"] (Zaj ZcD):=by trivial
theorem sc_telling_at:FnScope ["net", "mark", "scope", "kind", "index", "tellings"] ["net", "mark"] (Zaj ZcE):=by trivial
theorem sc_first_open:FnScope ["net", "answers", "seen", "way", "label", "name", "kind", "number"] ["net", "answers", "seen"] (Zaj ZcF):=by trivial
theorem sc_meaning:FnScope ["net", "answers", "way", "label", "name", "kind", "number"] ["net", "answers", "way"] (Zaj Zen):=by trivial
theorem sc_met:FnScope ["net", "answers", "table", "owed", "look", "at", "begun", "found", "seen", "waiting", "way", "question", "meanings"] ["net", "answers", "table", "owed", "look", "at"] (Zaj ZiA):=by trivial
theorem met_cs1:CompScope (Zaj ZiA) ["net", "answers", "table", "owed", "look", "at", "begun", "found", "seen", "waiting", "way", "question", "meanings"] { kind:=.function,names:=[ (".0",.local),("way",.local),("meaning",.globalImplicit),("answers",.free),("net",.free)],isGenerator:=false,isCoroutine:=false,more:=[]:PySem.Scope } ["way", "net", "answers"] 1 [0,1]:=by trivial
theorem met_cs2:CompScope (Zaj ZiA) ["net", "answers", "table", "owed", "look", "at", "begun", "found", "seen", "waiting", "way", "question", "meanings"] { kind:=.function,names:=[(".0",.local),("thing",.local)],isGenerator:=false,isCoroutine:=false,more:=[]:PySem.Scope } ["thing"] 1 []:=by trivial
theorem met_cs3:CompScope (Zaj ZiA) ["net", "answers", "table", "owed", "look", "at", "begun", "found", "seen", "waiting", "way", "question", "meanings"] { kind:=.function,names:=[ (".0",.local),("thing",.local),("meanings",.free)],isGenerator:=false,isCoroutine:=false,more:=[]:PySem.Scope } ["thing", "meanings"] 1 [12]:=by trivial
theorem sc_owed_behind:FnScope ["net", "answers", "table", "begun", "ways", "marks", "last", "then", "mark", "kind", "number", "after"] ["net", "answers", "table", "begun"] (Zaj Zcj):=by trivial
theorem sc_look_up:FnScope ["net", "answers", "table", "asked", "scope", "state", "path", "looks", "things", "at", "name", "begun", "answer", "wait", "kind", "number"] ["net", "answers", "table", "asked"] (Zaj Zeo):=by trivial
theorem sc_trail:FnScope ["net", "answers", "table", "question", "answer", "wait", "looks", "things"] ["net", "answers", "table", "question"] (Zaj ZfB):=by trivial
theorem trail_cs1:CompScope (Zaj ZfB) ["net", "answers", "table", "question", "answer", "wait", "looks", "things"] { kind:=.function,names:=[ (".0",.local),("begun",.local),("found",.local),("seen",.local)],isGenerator:=false,isCoroutine:=false,more:=[]:PySem.Scope } ["begun", "found", "seen"] 3 []:=by trivial
theorem sc__law_same:FnScope ["_law_found", "_law_due", "_law_one", "_law_other"] ["_law_found", "_law_due"] (Zaj ZbN):=by trivial
theorem sc_find:FnScope ["net", "answers", "table", "question", "answer", "wait", "looks", "things"] ["net", "answers", "table", "question"] (Zaj Zi9):=by trivial
theorem sc__law_answer:FnScope ["_law_net", "_law_shown", "_law_things"] ["_law_net", "_law_shown"] (Zaj ZbE):=by trivial
theorem _law_answer_cs1:CompScope (Zaj ZbE) ["_law_net", "_law_shown", "_law_things"] { kind:=.function,names:=[ (".0",.local),("_law_way",.local),("_law_net",.free)],isGenerator:=false,isCoroutine:=false,more:=[]:PySem.Scope } ["_law_way", "_law_net"] 1 [0]:=by trivial
theorem sc_scopes_of:FnScope ["looks", "scopes", "begun", "found", "seen", "marks", "last", "then"] ["looks"] (Zaj Zdg):=by trivial
theorem sc_walked:FnScope ["net", "answers", "table", "question", "answer", "wait", "looks", "things"] ["net", "answers", "table", "question"] (Zaj ZfC):=by trivial
theorem sc_law:FnScope ["_law_script", "_law_net", "_law_table_here", "_law_handed", "_law_answers", "_law_scope", "_law_state", "_law_path", "_law_rows", "_law_ways_here", "_law_shown", "_law_told", "_law_bits"] ["_law_script"] (Zaj Ze9):=by trivial
theorem law_cs1:CompScope (Zaj Ze9) ["_law_script", "_law_net", "_law_table_here", "_law_handed", "_law_answers", "_law_scope", "_law_state", "_law_path", "_law_rows", "_law_ways_here", "_law_shown", "_law_told", "_law_bits"] { kind:=.function,names:=[ (".0",.local),("_law_way",.local),("_law_hidden",.globalImplicit),("_law_net",.free),("_law_table_here",.free),("_law_ways_here",.free)],isGenerator:=false,isCoroutine:=false,more:=[]:PySem.Scope } ["_law_way", "_law_net", "_law_table_here", "_law_ways_here"] 1 [1,2,9]:=by trivial
theorem law_cs2:CompScope (Zaj Ze9) ["_law_script", "_law_net", "_law_table_here", "_law_handed", "_law_answers", "_law_scope", "_law_state", "_law_path", "_law_rows", "_law_ways_here", "_law_shown", "_law_told", "_law_bits"] { kind:=.function,names:=[ (".0",.local),("_law_marks",.local),("_law_here",.local),("_law_then",.local)],isGenerator:=false,isCoroutine:=false,more:=[]:PySem.Scope } ["_law_marks", "_law_here", "_law_then"] 3 []:=by trivial
structure Blt (mg:Str->Option Value):Prop where
 b_all:mg "all" = none
 b_any:mg "any" = none
 b_bool:mg "bool" = none
 b_dict:mg "dict" = none
 b_enumerate:mg "enumerate" = none
 b_int:mg "int" = none
 b_isinstance:mg "isinstance" = none
 b_len:mg "len" = none
 b_list:mg "list" = none
 b_min:mg "min" = none
 b_range:mg "range" = none
 b_sorted:mg "sorted" = none
 b_str:mg "str" = none
 b_sum:mg "sum" = none
 b_tuple:mg "tuple" = none
 b_zip:mg "zip" = none
 c_MOST_BEGINNINGS:∃ t,mg "MOST_BEGINNINGS" = some (.int 200 t)
variable {us:List Value}
theorem ZiX (h:us.length=1):∃ x0,us=[x0]:=by
 cases us with
 | nil=>cases h
 | cons x0 t=>exact ⟨x0,by rw [List.length_eq_zero_iff.mp (Nat.succ.inj h)]⟩
theorem ZeN (h:us.length=2):∃ x0 x1,us=[x0,x1]:=by
 cases us with
 | nil=>cases h
 | cons x0 t =>
   obtain ⟨x1,rfl⟩:=ZiX (Nat.succ.inj h);exact ⟨x0,x1,rfl⟩
theorem Zfa (h:us.length=3):∃ x0 x1 x2,us=[x0,x1,x2]:=by
 cases us with
 | nil=>cases h
 | cons x0 t =>
   obtain ⟨x1,x2,rfl⟩:=ZeN (Nat.succ.inj h);exact ⟨x0,x1,x2,rfl⟩
theorem Zdn (h:us.length=4):∃ x0 x1 x2 x3,us=[x0,x1,x2,x3]:=by
 cases us with
 | nil=>cases h
 | cons x0 t =>
   obtain ⟨x1,x2,x3,rfl⟩:=Zfa (Nat.succ.inj h);exact ⟨x0,x1,x2,x3,rfl⟩
theorem len_5 (h:us.length=5):∃ x0 x1 x2 x3 x4,us=[x0,x1,x2,x3,x4]:=by
 cases us with
 | nil=>cases h
 | cons x0 t =>
   obtain ⟨x1,x2,x3,x4,rfl⟩:=Zdn (Nat.succ.inj h);exact ⟨x0,x1,x2,x3,x4,rfl⟩
theorem len_6 (h:us.length=6):∃ x0 x1 x2 x3 x4 x5,us=[x0,x1,x2,x3,x4,x5]:=by
 cases us with
 | nil=>cases h
 | cons x0 t =>
   obtain ⟨x1,x2,x3,x4,x5,rfl⟩:=len_5 (Nat.succ.inj h);exact ⟨x0,x1,x2,x3,x4,x5,rfl⟩
theorem len_7 (h:us.length=7):∃ x0 x1 x2 x3 x4 x5 x6,us=[x0,x1,x2,x3,x4,x5,x6]:=by
 cases us with
 | nil=>cases h
 | cons x0 t =>
   obtain ⟨x1,x2,x3,x4,x5,x6,rfl⟩:=len_6 (Nat.succ.inj h);exact ⟨x0,x1,x2,x3,x4,x5,x6,rfl⟩
theorem len_8 (h:us.length=8):∃ x0 x1 x2 x3 x4 x5 x6 x7,us=[x0,x1,x2,x3,x4,x5,x6,x7]:=by
 cases us with
 | nil=>cases h
 | cons x0 t =>
   obtain ⟨x1,x2,x3,x4,x5,x6,x7,rfl⟩:=len_7 (Nat.succ.inj h);exact ⟨x0,x1,x2,x3,x4,x5,x6,x7,rfl⟩
section
set_option maxHeartbeats 4000000
seal L2.PE L2.PA L2.PS L2.PSs L2.PT L2.PW L2.PC L2.PG L2.PGs L2.PI L2.PF L2.PSet L2.OpR L2.UnR L2.CallR L2.MtR L2.IxR L2.SlR L2.PO
variable {P:Program} {w:World} {K:XFg} {mg:Str->Option Value} {base:Heap} {f:Addr} {fd:FuncData}
theorem let26:(("abcdefghijklmnopqrstuvwxyz" : Str)).cps.toList.length=26:=by decide +kernel
theorem Zeh (w:Str) (c:Nat):(w++(⟨#[c]⟩:Str)).length=w.length+1:=by
 show (w.cps++#[c]).size=w.cps.size+1
 simp
theorem let_at:∀ n,n<26->(("abcdefghijklmnopqrstuvwxyz" : Str)).cps.toList[n]?=some (97+n):=by decide +kernel
theorem Zkq (n:Int):atI (("abcdefghijklmnopqrstuvwxyz" : Str)).cps.toList (n % 26)=some (97+(n % 26).toNat):=by
 have y0:=Xa2 n (by decide:(26:Int)≠0);have y1:=Xa1 n (by decide:(0:Int)<26);obtain ⟨k,hk⟩:=Xa3 y0;rw [hk,Xa4];exact Zar (let_at k (by omega))
theorem ZiY (w:Str) (c:Nat):(w++(⟨#[c]⟩:Str)).cps.toList=w.cps.toList++[c]:=by
 show (w.cps++#[c]).toList=_
 simp
abbrev letS (n:Int):Str:=⟨#[97+(n % 26).toNat]⟩
def nmN (c:Int) (k j:Nat):Int:=c / (64+3 * (j:Int))+(j:Int) * (c / 64 % 2)+(k:Int) * (if (j:Int)=c / 8 % (1+c % 8) then 1 else 0)
def nmW (c:Int) (k:Nat):Nat->Str
 | 0 => ""
 | j+1=>nmW c k j++letS (nmN c k j)
def nmL (c:Int) (m:Nat):List Str:=(List.range m).map fun k=>nmW c k (1+c % 8).toNat
def Zbs (c:Int) (m:Nat):List Str:=if c / 128 % 3=1/\1+c % 8<8 then (nmL c m).set 1 (nmW c 0 (1+c % 8).toNat++letS (c / 384)) else nmL c m
theorem Zcn (c:Int) (k:Nat):∀ j,(nmW c k j).length=j
 | 0=>show ("" : Str).length=0 by decide +kernel
 | j+1=>by
   show (nmW c k j++letS (nmN c k j)).length=j+1;rw [Zeh,Zcn c k j]
theorem Zkr (c:Int) (k:Nat) {a:Nat}:∀ {j:Nat},a<j->(nmW c k j).cps.toList[a]?=some (97+(nmN c k a % 26).toNat)
 | 0,h=>absurd h (Nat.not_lt_zero _)
 | j + 1, h => by
   show (nmW c k j++letS (nmN c k j)).cps.toList[a]?=_;rw [ZiY]
   have hl:(nmW c k j).cps.toList.length=j:=by rw [Array.length_toList];exact Zcn c k j
   by_cases h2:a<j
   . rw [Xat (by rw [hl];exact h2)];exact Zkr c k h2
   . have e:a=j:=by omega
     subst e;rw [Xay (by rw [hl];exact XaW _),hl,Nat.sub_self];rfl
theorem ZeO (c:Int) (m:Nat):(nmL c m).length=m:=by unfold nmL;rw [Xaa,List.length_range]
theorem ZeP (c:Int) (m:Nat):(Zbs c m).length=m:=by
 unfold Zbs
 split
 . rw [XaD,ZeO]
 . exact ZeO c m
variable {c:Int}
theorem nm_inj {j:Nat} (hi:i<26) (hj:j<26) (h:nmW c i (1+c % 8).toNat=nmW c j (1+c % 8).toNat):i=j:=by
 have z0:=Xa2 (c / 8) (show (1+c % 8)≠0 by omega);have z1:=Xa1 (c / 8) (show 0<1+c % 8 by omega);obtain ⟨a,ha⟩:=Xa3 z0
 have hal:a<(1+c % 8).toNat:=by omega
 have h1:=Zkr c i hal;rw [h,Zkr c j hal] at h1;have h2:=Xbc h1;unfold nmN at h2;rw [Xbe ha.symm] at h2;generalize c / (64+3 * (a:Int))+(a:Int) * (c / 64 % 2)=b at h2;omega
variable {m:Nat}
theorem nmL_nd (hm:m<=26):(nmL c m).Nodup:=by
 unfold nmL;refine List.pairwise_iff_getElem.mpr fun i j hi hj hij e=>?_;rw [Xaa,List.length_range] at hi hj;rw [List.getElem_map,List.getElem_map,List.getElem_range,List.getElem_range] at e
 have:=nm_inj (by omega) (by omega) e
 omega
theorem Zlx :∀ y∈nmL c m,y.length=(1+c % 8).toNat:=fun y hy=>by
 obtain ⟨k,_,rfl⟩:=Xai.mp hy;exact Zcn _ _ _
theorem Zly (hm:m<=26):(Zbs c m).Nodup:=by
 unfold Zbs
 split
 . refine List.pairwise_iff_getElem.mpr fun i j hi hj hij e=>?_
   rw [XaD,ZeO] at hi hj;have long:∀ (k:Nat) (hk:k<(nmL c m).length),(nmL c m)[k].length=(1+c % 8).toNat:=fun k hk=>Zlx _ (Xav hk);rw [List.getElem_set,List.getElem_set] at e
   split at e
   . rw [Xbd (by omega)] at e
     have:=Xbj Str.length e
     rw [Zeh,Zcn,long] at this;omega
   . split at e
     . have:=Xbj Str.length e
       rw [Zeh,Zcn,long] at this;omega
     . exact absurd e ((List.pairwise_iff_getElem.mp (nmL_nd (c:=c) hm)) i j _ _ hij)
 . exact nmL_nd hm
variable {k:Nat}
theorem Zks :(nmW c k (1+c % 8).toNat).length<=8:=by rw [Zcn];omega
theorem names_short :∀ x∈Zbs c m,x.length<=8:=by
 intro x hx;unfold Zbs at hx
 have h0:∀ y∈nmL c m,y.length<=8:=fun y hy=>by
  obtain ⟨k,_,rfl⟩:=Xai.mp hy;exact Zks
 split at hx
 . rename_i hc
   rcases List.mem_or_eq_of_mem_set hx with h | rfl
   . exact h0 x h
   . rw [Zeh,Zcn];omega
 . exact h0 x hx
inductive E__law_names (K:XFg) (vs:List V) (H:Hp) (Q:VK):Prop where
 | mk (c:Int) (m:Nat) (h0:vs=[.int c,.int m]) (h1:2<=m) (h2:m<=26) (h3:∀ (L:Addr) (H':Hp),H L=none->Same H H'->H' L=some (.lst ((Zbs c m).map V.str))->Q (.ref L) H'):E__law_names K vs H Q
def Zf8 (K:XFg):Sp:=fun vs H Q _=>E__law_names K vs H Q
variable (P w K mg base) in
abbrev ZcO:Prop:=ZaB P w K mg base "_law_names" 1 ["_law_cell", "_law_many"] (Zf8 K)
theorem ZeQ (B:Blt mg) (F:Fun K "_law_names" "_law_names" Zcv f fd) (hm:mg "_law_names" = some (.ref f)):ZcO P w K mg base:=by
 refine ⟨f,fd,?_,hm,F.kp,F.binds fun _ _ _ _ _ _ us hl=>(by obtain ⟨x0,x1,rfl⟩:=ZeN hl;rfl)⟩;refine F.ok sc__law_names (fun vs H Q E h=>?_) (fun cdv A outer s H vs Q E hr h=>?_)
 . obtain ⟨c,m,rfl,_⟩:=h
   rfl
 . obtain ⟨c,m,rfl,m0,m9,q⟩:=h
   refine ⟨_,(Zab (Zap (i:=2) sc__law_names.nd rfl (Or.inl rfl) ZaE)
    (Zab (Zap (i:=3) sc__law_names.nd rfl (Or.inl rfl) (Zau Zb6 Zae (Zau ZaP (pv 0) Zae)))
    (Zab (Zap (i:=4) sc__law_names.nd rfl (Or.inl rfl) (Zau ZaP (Zau Zbp (pv 0) Zae) (pv 3)))
    (Zab (Zap (i:=5) sc__law_names.nd rfl (Or.inl rfl) (ZaJ Zac))
    (Zab (ZaQ Xbr rfl (Za9 rfl B.b_range (Zaa (pv 1) Zac)) (Zag (i:=6) sc__law_names.nd rfl (Or.inl rfl)) (Zab (Zap (i:=7) sc__law_names.nd rfl (Or.inl rfl) ZaE)
     (Zab (ZaQ Xbr rfl (Za9 rfl B.b_range (Zaa (pv 3) Zac)) (Zag (i:=8) sc__law_names.nd rfl (Or.inl rfl)) (Zab (Zap (i:=9) sc__law_names.nd rfl (Or.inl rfl) (Zau Zb6 (Zau Zbp (pv 0) (Zau Zb6 Zae (Zau ZbV Zae (pv 8)))) (Zau ZbV (pv 8) (Zau ZaP (Zau Zbp (pv 0) Zae) Zae))))
      (Zah (Zap (i:=7) sc__law_names.nd rfl (Or.inl rfl) (Zau Zfl (pv 7) (Zam Zai (pv 2) (Zau ZaP (Zau Zb6 (pv 9) (Zau ZbV (pv 6) (Zb7 Zeq (by rfl) B.b_int (by decide +kernel) (Zaa (Zb3 Zbq (pv 8) (pv 4) (ZaA _)) Zac)))) Zae) (fun _ _=>rfl)))))))
     (Zah (ZaW (Zb4 Xa8 Xa9 Xba ZaK (pv 5) (Zaa (pv 7) Zac)))))))
    (Zab (ZaN (PW.pt (ZdZ (Zaw Zbq (Zau ZaP (Zau Zbp (pv 0) Zae) Zae) Zae (ZaA _)) (ZcI (Zaw ZiE (pv 3) Zae (ZaA _))))) (Zah (Za8 (Zau Zfl (Zam Zai (pv 5) Zae (fun _ _=>rfl)) (Zam Zai (pv 2) (Zau ZaP (Zau Zbp (pv 0) Zae) Zae) (fun _ _=>rfl))) (pg_sub (pv 5) Zae ZkR))) Zaq)
    (Zah (Zao (pv 5))))))))),?_⟩
   try dsimp only [cxOf,Cx.nox,Cx.wish]
   refine ZfH ?_;try dsimp only
   refine ⟨_,rfl,_,_,rfl,rfl,(by show (0:Int)<8;decide),_,_,rfl,rfl,?_⟩;try dsimp only
   have z0:1<=1+c % 8/\1+c % 8<=8:=by omega
   refine g_in ?_;try dsimp only
   refine ⟨_,rfl,_,_,rfl,rfl,⟨by decide,by decide⟩,_,rfl,_,_,rfl,rfl,(by show 0<1+c % 8;omega),?_⟩;try dsimp only
   refine g_in ?_;try dsimp only
   refine ⟨by decide,fun L hL=>?_⟩;obtain ⟨H1,qH1,s1,eL1⟩:=new_at (o:=.lst []) hL;rw [<-qH1];refine g_in ?_;try dsimp only
   refine ⟨_,rfl,_,rfl,by omega,by omega,ZbO (lo:=0) (n:=m) (fun i σ H'=>∃ u6 u7 u8 u9,σ=[some (.int c),some (.int m),some (.str "abcdefghijklmnopqrstuvwxyz"),some (.int (1+c % 8)),some (.int (c / 8 % (1+c % 8))),some (.ref L),u6,u7,u8,u9]/\Same H H'/\H' L=some (.lst ((nmL c i).map V.str))) ⟨none,none,none,none,rfl,s1,eL1⟩ ?_ ?_⟩
   rotate_left
   . rintro σ H2 ⟨u6,u7,u8,u9,rfl,s2,eL2⟩
     try dsimp only
     refine ZdL (fun σ' H'=>σ'=[some (.int c),some (.int m),some (.str "abcdefghijklmnopqrstuvwxyz"),some (.int (1+c % 8)),some (.int (c / 8 % (1+c % 8))),some (.ref L),u6,u7,u8,u9]/\Same H H'/\H' L=some (.lst ((Zbs c m).map V.str))) ?_ (fun N hN=>?_)
     case refine_2 =>
      refine ⟨_,rfl,_,_,rfl,rfl,⟨by decide,by decide⟩,_,_,rfl,rfl,(by show (0:Int)<3;decide),rfl,_,rfl,ite2 (fun h1=>?_) (fun h1=>iteF ?_)⟩;rotate_left
      . have h1':¬c / 128 % 3=1:=fun e=>h1 (Xa5 (by show V.int (c / 128 % 3)=V.int 1;rw [e]))
        refine hN _ _ ⟨rfl,s2,?_⟩;unfold Zbs;rw [Xbd fun z=>h1' z.1];exact eL2
      have h1':c / 128 % 3=1:=V.int.inj (Xa7 h1);refine ⟨_,rfl,_,_,rfl,rfl,_,rfl,ite2 (fun h2=>?_) (fun h2=>?_)⟩;rotate_left
      . have h2':¬1+c % 8<8:=fun e=>h2 (Xa5 e)
        refine hN _ _ ⟨rfl,s2,?_⟩;unfold Zbs;rw [Xbd fun z=>h2' z.2];exact eL2
      have h2':1+c % 8<8:=Xa7 h2;have hl:(nmL c m).length=m:=ZeO c m
      have hw0:(nmL c m)[0]?=some (nmW c 0 (1+c % 8).toNat):=by
       unfold nmL;rw [Xag,List.getElem?_range (by omega)];rfl
      have hat:atI ((nmL c m).map V.str) 0=some (V.str (nmW c 0 (1+c % 8).toNat)):=Zar (j:=0) (by rw [Xag,hw0];rfl);refine ⟨_,rfl,Or.inl ⟨L,_,_,.str (nmW c 0 (1+c % 8).toNat),rfl,rfl,SqL.of eL2,hat,_,rfl,_,rfl,_,_,rfl,rfl,⟨by decide,by decide⟩,_,_,rfl,rfl,(by show (0:Int)<26;decide),Or.inr (Or.inr ⟨_,_,_,rfl,rfl,by decide +kernel,Zkq (c / 384),nmW c 0 (1+c % 8).toNat,_,rfl,rfl,?_,_,rfl,L,_,_,1,rfl,rfl,eL2,?_,?_⟩)⟩⟩
      . show (nmW c 0 (1+c % 8).toNat).length+1<=sizeLine
        rw [Zcn];exact XaY (Zan (by omega))
      . exact ixN_in (k:=1) (by decide) (by rw [Xaa];omega)
      . refine hN _ _ ⟨rfl,fun b o e=>?_,?_⟩
        . rw [Zal (Zad e hL)];exact s2 _ _ e
        . unfold Zbs
          rw [upd_same,Xbe ⟨h1',h2'⟩,List.map_set]
     rintro σ' H3 ⟨rfl,s3,eL3⟩;exact ⟨_,rfl,q L H3 hL s3 eL3⟩
   rintro i σ H2 hi ⟨u6,u7,u8,u9,rfl,s2,eL2⟩;refine g_in ?_;try dsimp only
   refine ZfH ?_;try dsimp only
   refine ⟨_,rfl,_,rfl,by omega,by omega,ZbO (lo:=0) (n:=(1+c % 8).toNat) (fun j σ H'=>∃ (u8 u9:Option V),σ=[some (.int c),some (.int m),some (.str "abcdefghijklmnopqrstuvwxyz"),some (.int (1+c % 8)),some (.int (c / 8 % (1+c % 8))),some (.ref L),some (.int (0+(i:Int))),some (.str (nmW c i j)),u8,u9]/\H'=H2) ⟨_,_,rfl,rfl⟩ ?_ ?_⟩
   rotate_left
   . rintro σ H3 ⟨u8,u9,rfl,rfl⟩
     refine ⟨_,rfl,Or.inl ⟨rfl,_,SqL.of eL2⟩,_,rfl,L,_,_,rfl,rfl,eL2,by rw [Xaa,ZeO];exact Zan (by omega),?_⟩;refine ⟨_,_,_,_,rfl,fun b o e=>?_,?_⟩
     . rw [Zal (Zad e hL)];exact s2 _ _ e
     . rw [upd_same]
       unfold nmL;rw [List.range_succ,Xad,Xad];rfl
   rintro j σ H3 hj ⟨u8,u9,rfl,rfl⟩
   have hj8:j<8:=by omega
   refine g_in ?_;try dsimp only
   refine ⟨_,rfl,_,rfl,_,_,rfl,rfl,Or.inl ⟨by omega,by omega⟩,_,_,rfl,rfl,_,_,rfl,rfl,⟨by omega,by omega⟩,_,rfl,_,rfl,_,_,rfl,rfl,⟨by decide,by decide⟩,_,_,rfl,rfl,(by show (0:Int)<2;decide),_,_,rfl,rfl,Or.inl ⟨by omega,by omega⟩,_,_,rfl,rfl,?_⟩;refine g_in ?_;try dsimp only
   refine ⟨_,rfl,_,rfl,_,rfl,_,rfl,_,rfl,_,rfl,rfl,Or.inr ⟨_,rfl,_,_,rfl,rfl,Or.inl ⟨by omega,by omega⟩,_,_,rfl,rfl,_,_,rfl,rfl,(by show (0:Int)<26;decide),Or.inr (Or.inr ⟨_,_,_,rfl,rfl,by decide +kernel,Zkq _,nmW c i j,_,rfl,rfl,?_,?_⟩)⟩⟩
   . show (nmW c i j).length+1<=sizeLine
     rw [Zcn];exact XaY (Zan (by omega))
   refine ⟨some (.int (0+(j:Int))),some (.int (c / (64+3 * (0+(j:Int)))+(0+(j:Int)) * (c / 64 % 2))),?_,rfl⟩
   have e:nmW c i (j+1)=nmW c i j++letS (c / (64+3 * (0+(j:Int)))+(0+(j:Int)) * (c / 64 % 2)+(0+(i:Int)) * (if decide (V.int (0+(j:Int))=V.int (c / 8 % (1+c % 8)))=true then 1 else 0)):=by
    show nmW c i j++letS (nmN c i j)=_;unfold nmN;simp only [Int.zero_add,decide_eq_true_eq,V.int.injEq]
   rw [e];rfl
variable {ns:List Int}
theorem Zkt {k:Int} (hk:0<=k) (hlt:k<ns.length):atI (ns.map V.int) k=some (V.int (Zas ns k)):=by
 obtain ⟨n,rfl⟩:=Xa3 hk
 have hn:n<ns.length:=by omega
 refine Zar ?_;rw [Xag,Xab hn];show some (V.int ns[n])=some (V.int ((ns[((n:Int)).toNat]?).getD 0));rw [Xa4,Xab hn];rfl
theorem Zku {k:Int} (hk:0<=k) (hlt:¬k<ns.length):Zas ns k=0:=by
 unfold Zas;rw [XaJ (by omega)];rfl
def ZeR (K:XFg):Sp:=fun vs H Q _=>∃ a ns k,vs=[.ref a,.int k]/\0<=k/\SqL K H a (ns.map V.int)/\Q (.int (Zas ns k)) H
variable (P w K mg base) in
abbrev Zbv:Prop:=ZaB P w K mg base "_law_cell_at" 1 ["_law_script", "_law_k"] (ZeR K)
theorem ZdT (B:Blt mg) (F:Fun K "_law_cell_at" "_law_cell_at" Zb1 f fd) (hm:mg "_law_cell_at" = some (.ref f)):Zbv P w K mg base:=by
 refine ⟨f,fd,?_,hm,F.kp,F.binds fun _ _ _ _ _ _ us hl=>(by obtain ⟨x0,x1,rfl⟩:=ZeN hl;rfl)⟩;refine F.ok ZeL (fun vs H Q E h=>?_) (fun cdv A outer s H vs Q E hr h=>?_)
 . obtain ⟨a,ns,k,rfl,_⟩:=h
   rfl
 . obtain ⟨a,ns,k,rfl,hk,hS,q⟩:=h
   refine ⟨_,(Zab (ZaN (Zaw ZiE (pv 1) (Zax Zbm (by rfl) B.b_len (by decide +kernel) (Zaa (pv 0) Zac)) (ZaA _)) (Zah (Zao (Zam Zai (pv 0) (pv 1) (fun _ _=>rfl)))) Zaq)
    (Zah (Zao Zae))),?_⟩
   try dsimp only [cxOf,Cx.nox,Cx.wish]
   refine ⟨_,rfl,_,rfl,_,_,rfl,Or.inl ⟨_,hS,rfl⟩,_,_,rfl,rfl,_,rfl,?_⟩;rw [Xaa];refine ite2 (fun hlt=>?_) (fun hge=>?_)
   . have hlt:=Xa7 hlt
     exact ⟨_,rfl,_,rfl,Or.inl ⟨_,_,_,_,rfl,rfl,hS,Zkt hk hlt,q⟩⟩
   . have hge:¬k<(ns.length:Int):=fun z=>hge (Xa5 z)
     show Q (.int 0) H;rw [Zku hk hge] at q;exact q
def rkN (n:Int):Nat->Int
 | 0=>n
 | k+1=>rkN n k / 5
def rkL (n:Int) (m:Nat):List Int:=(List.range m).map fun k=>rkN n k % 5
theorem Zf9 (n:Int) (m:Nat):(rkL n m).length=m:=by unfold rkL;rw [Xaa,List.length_range]
theorem Zlz (n:Int) (m:Nat):rkL n (m+1)=rkL n m++[rkN n m % 5]:=by unfold rkL;rw [List.range_succ,Xad];rfl
theorem rkL_at (n:Int) (h:k<m):(rkL n m)[k]?=some (rkN n k % 5):=by unfold rkL;rw [Xag,List.getElem?_range h];rfl
inductive E__law_ranks (K:XFg) (vs:List V) (H:Hp) (Q:VK):Prop where
 | mk (n:Int) (m:Nat) (h0:vs=[.int n,.int m]) (h1:m<=100) (h2:∀ (D:Addr) (H':Hp),H D=none->Same H H'->H' D=some (.lst ((rkL n m).map V.int))->Q (.ref D) H'):E__law_ranks K vs H Q
def Zga (K:XFg):Sp:=fun vs H Q _=>E__law_ranks K vs H Q
variable (P w K mg base) in
abbrev ZbX:Prop:=ZaB P w K mg base "_law_ranks" 1 ["_law_number", "_law_many"] (Zga K)
theorem ZeS (B:Blt mg) (F:Fun K "_law_ranks" "_law_ranks" Zcw f fd) (hm:mg "_law_ranks" = some (.ref f)):ZbX P w K mg base:=by
 refine ⟨f,fd,?_,hm,F.kp,F.binds fun _ _ _ _ _ _ us hl=>(by obtain ⟨x0,x1,rfl⟩:=ZeN hl;rfl)⟩;refine F.ok sc__law_ranks (fun vs H Q E h=>?_) (fun cdv A outer s H vs Q E hr h=>?_)
 . obtain ⟨n,m,rfl,_⟩:=h
   rfl
 . obtain ⟨n,m,rfl,hm,q⟩:=h
   refine ⟨_,(Zab (Zap (i:=2) sc__law_ranks.nd rfl (Or.inl rfl) (ZaJ Zac))
    (Zab (ZaQ Xbr rfl (Za9 rfl B.b_range (Zaa (pv 1) Zac)) (Zag (i:=3) sc__law_ranks.nd rfl (Or.inl rfl)) (Zab (ZaW (Zb4 Xa8 Xa9 Xba ZaK (pv 2) (Zaa (Zau ZaP (pv 0) Zae) Zac)))
     (Zah (Zap (i:=0) sc__law_ranks.nd rfl (Or.inl rfl) (Zau Zbp (pv 0) Zae)))))
    (Zah (Zao (pv 2))))),?_⟩
   try dsimp only [cxOf,Cx.nox,Cx.wish]
   refine ⟨by decide,fun D hD=>?_⟩;obtain ⟨H1,qH1,s1,eD1⟩:=new_at (o:=.lst []) hD;rw [<-qH1];refine g_in ?_;try dsimp only
   refine ⟨_,rfl,_,rfl,by omega,by omega,ZbO (lo:=0) (n:=m) (fun i σ H'=>∃ u3,σ=[some (.int (rkN n i)),some (.int m),some (.ref D),u3]/\Same H H'/\H' D=some (.lst ((rkL n i).map V.int))) ⟨none,rfl,s1,eD1⟩ ?_ ?_⟩;rotate_left
   . rintro σ H2 ⟨u3,rfl,s2,eD2⟩
     exact ⟨_,rfl,q D H2 hD s2 eD2⟩
   rintro i σ H2 hi ⟨u3,rfl,s2,eD2⟩;refine g_in ?_;try dsimp only
   refine ⟨_,rfl,Or.inl ⟨rfl,_,SqL.of eD2⟩,_,rfl,_,_,rfl,rfl,(by show (0:Int)<5;decide),D,_,_,rfl,rfl,eD2,by rw [Xaa,Zf9];exact Zan (by omega),?_⟩;refine ⟨_,rfl,_,_,rfl,rfl,⟨by decide,by decide⟩,?_⟩;refine ⟨_,rfl,fun b o e=>?_,?_⟩
   . rw [Zal (Zad e hD)];exact s2 _ _ e
   . rw [upd_same,Zlz,Xad];rfl
def ordP (ls:List Str) (one oth:List Int) (j k:Nat):List (Str×Str):=if one.getD j 0<one.getD k 0/\oth.getD j 0<oth.getD k 0 then [(ls.getD j default,ls.getD k default)] else []
def ordI (ls:List Str) (one oth:List Int) (j n:Nat):List (Str×Str):=(List.range n).flatMap (ordP ls one oth j)
def ordO (ls:List Str) (one oth:List Int) (n:Nat):List (Str×Str):=(List.range n).flatMap fun j=>ordI ls one oth j ls.length
theorem ZdB (ls:List Str) (one oth:List Int) (j n:Nat):ordI ls one oth j (n+1)=ordI ls one oth j n++ordP ls one oth j n:=by unfold ordI;rw [List.range_succ,List.flatMap_append];simp
theorem Zg6 (ls:List Str) (one oth:List Int) (n:Nat):ordO ls one oth (n+1)=ordO ls one oth n++ordI ls one oth n ls.length:=by unfold ordO;rw [List.range_succ,List.flatMap_append];simp
theorem ZlA (ls:List Str) (one oth:List Int) (j k:Nat):(ordP ls one oth j k).length<=1:=by unfold ordP;split <;> simp
theorem Zgb (ls:List Str) (one oth:List Int) (j:Nat):∀ n,(ordI ls one oth j n).length<=n
 | 0=>XaW _
 | n+1=>by
   rw [ZdB,Xac]
   have:=Zgb ls one oth j n
   have:=ZlA ls one oth j n
   omega
theorem Zei (ls:List Str) (one oth:List Int):∀ n,(ordO ls one oth n).length<=n * ls.length
 | 0=>by simp [ordO]
 | n+1=>by
   rw [Zg6,Xac,Nat.succ_mul]
   have:=Zei ls one oth n
   have:=Zgb ls one oth n ls.length
   omega
def Zdo (c:Int) (m:Nat):List Int:=rkL (c * 48271 % 2147483647) m
def ZcP (c:Int) (m:Nat):List Int:=if c % 2=1 then rkL (c * 69621 % 2147483629) m else Zdo c m
theorem Zkv (c:Int) (m:Nat):(Zdo c m).length=m:=Zf9 _ _
theorem oth_len (c:Int) (m:Nat):(ZcP c m).length=m:=by unfold ZcP;split;exact Zf9 _ _;exact Zkv _ _
structure OrdR (c:Int) (ls:List Str) (ord:List (Str×Str)):Prop where
 perm:ord.Perm (ordO ls (Zdo c ls.length) (ZcP c ls.length) ls.length)
 srt:ord.Pairwise (lexO strO strO).kle
variable {ls:List Str}{o:List (Str×Str)}
theorem OrdR.uniq {u:List (Str×Str)} (h:OrdR c ls o) (k:OrdR c ls u):o=u:=Zck (O:=lexO strO strO) (h.perm.trans k.perm.symm) h.srt k.srt
theorem OrdR.len (h:OrdR c ls o) (hl:ls.length<=6):o.length<=36:=by
 have h1:=h.perm.length_eq;have h2:=Zei ls (Zdo c ls.length) (ZcP c ls.length) ls.length;have h3:ls.length * ls.length<=6 * 6:=Nat.mul_le_mul hl hl;omega
theorem OrdR.irr (h:OrdR c ls o) (nd:ls.Nodup) (x:Str):(x,x) ∉ o:=fun hx=>by
 have h1:=h.perm.mem_iff.mp hx;obtain ⟨j,hj,h2⟩:=List.mem_flatMap.mp h1;obtain ⟨k,hk,h3⟩:=List.mem_flatMap.mp h2;rw [List.mem_range] at hj hk;unfold ordP at h3
 split at h3
 . rename_i hlt
   have e:=Xaj.mp h3;have e1:x=ls.getD j default:=Xbj Prod.fst e;have e2:x=ls.getD k default:=Xbj Prod.snd e;rw [e1,Xaq,Xaq,Xab hj,Xab hk] at e2
   have:=(List.getElem_inj nd).mp (show ls[j]=ls[k] from e2)
   subst this;exact absurd hlt.1 (Int.lt_irrefl _)
 . cases h3
theorem ZbY {xs:List Int}{v:Int} (h:xs[i]?=some v):xs.getD i 0=v:=by rw [Xaq,h];rfl
variable {xs:List Str}
theorem Zit {v:Str} (h:xs[i]?=some v):xs.getD i default=v:=by rw [Xaq,h];rfl
inductive E__law_order (K:XFg) (vs:List V) (H:Hp) (Q:VK):Prop where
 | mk (c:Int) (l:Addr) (ls:List Str) (h0:vs=[.int c,.ref l]) (h1:SqL K H l (ls.map V.str)) (h2:ls.length<=6) (h3:∀ (D:Addr) (ts:List Addr) (ord:List (Str×Str)) (H':Hp),H D=none->Same H H'->H' D=some (.lst (ts.map V.ref))->Tups H' ts ord->OrdR c ls ord->Q (.ref D) H'):E__law_order K vs H Q
def Zgc (K:XFg):Sp:=fun vs H Q _=>E__law_order K vs H Q
variable (P w K mg base) in
abbrev ZcQ:Prop:=ZaB P w K mg base "_law_order" 2 ["_law_cell", "_law_labels"] (Zgc K)
theorem ZeT (B:Blt mg) (c__law_ranks:ZbX P w K mg base) (F:Fun K "_law_order" "_law_order" Zcx f fd) (hm:mg "_law_order" = some (.ref f)):ZcQ P w K mg base:=by
 refine ⟨f,fd,?_,hm,F.kp,F.binds fun _ _ _ _ _ _ us hl=>(by obtain ⟨x0,x1,rfl⟩:=ZeN hl;rfl)⟩;refine F.ok sc__law_order (fun vs H Q E h=>?_) (fun cdv A outer s H vs Q E hr h=>?_)
 . obtain ⟨c,l,ls,rfl,_⟩:=h
   rfl
 . obtain ⟨c,l,ls,rfl,hl,ll,q⟩:=h
   refine ⟨_,(Zab (Zap (i:=2) sc__law_order.nd rfl (Or.inl rfl) (Zaz c__law_ranks (hr.mono (by decide)) rfl (Zaa (Zau ZaP (Zau ZbV (pv 0) Zae) Zae) (Zaa (Zax Zbm (by rfl) B.b_len (by decide +kernel) (Zaa (pv 1) Zac)) Zac))))
    (Zab (Zap (i:=3) sc__law_order.nd rfl (Or.inl rfl) (Zb7 Zd1 (by rfl) B.b_list (by decide +kernel) (Zaa (pv 2) Zac)))
    (Zab (ZaN (Zaw Zbq (Zau ZaP (pv 0) Zae) Zae (ZaA _)) (Zah (Zap (i:=3) sc__law_order.nd rfl (Or.inl rfl) (Zaz c__law_ranks (hr.mono (by decide)) rfl (Zaa (Zau ZaP (Zau ZbV (pv 0) Zae) Zae) (Zaa (Zax Zbm (by rfl) B.b_len (by decide +kernel) (Zaa (pv 1) Zac)) Zac))))) Zaq)
    (Zab (Zap (i:=4) sc__law_order.nd rfl (Or.inl rfl) (ZaJ Zac))
    (Zab (ZaQ Xbr rfl (Za9 rfl B.b_range (Zaa (Zax Zbm (by rfl) B.b_len (by decide +kernel) (Zaa (pv 1) Zac)) Zac)) (Zag (i:=5) sc__law_order.nd rfl (Or.inl rfl)) (Zah (ZaQ Xbr rfl (Za9 rfl B.b_range (Zaa (Zax Zbm (by rfl) B.b_len (by decide +kernel) (Zaa (pv 1) Zac)) Zac)) (Zag (i:=6) sc__law_order.nd rfl (Or.inl rfl)) (Zah (ZaN (PW.pt (ZdZ (Zaw ZiE (Zam Zai (pv 2) (pv 5) (fun _ _=>rfl)) (Zam Zai (pv 2) (pv 6) (fun _ _=>rfl)) (ZaA _)) (ZcI (Zaw ZiE (Zam Zai (pv 3) (pv 5) (fun _ _=>rfl)) (Zam Zai (pv 3) (pv 6) (fun _ _=>rfl)) (ZaA _))))) (Zah (ZaW (Zb4 Xa8 Xa9 Xba ZaK (pv 4) (Zaa (Zat (Zaa (Zam Zai (pv 1) (pv 5) (fun _ _=>rfl)) (Zaa (Zam Zai (pv 1) (pv 6) (fun _ _=>rfl)) Zac))) Zac)))) Zaq)))))
    (Zah (Zao (Zax (Zfp strC strC) (by rfl) B.b_sorted (by decide +kernel) (Zaa (pv 4) Zac))))))))),?_⟩
   try dsimp only [cxOf,Cx.nox,Cx.wish]
   refine ⟨_,rfl,_,_,rfl,rfl,Or.inr ⟨by decide,by decide⟩,_,_,rfl,rfl,(by show (0:Int)<2147483647;decide),_,rfl,_,_,rfl,Or.inl ⟨_,hl,rfl⟩,_,_,rfl,by rw [Xaa];omega,fun A1 H1 hA1 s1 e1=>?_⟩;rw [Xaa] at e1;refine g_in ?_;try dsimp only
   refine ⟨_,rfl,A1,_,rfl,Or.inl (SqL.of e1),fun A2 hA2=>?_⟩;obtain ⟨H2,qH2,s2,e2⟩:=new_at (o:=.lst ((rkL (c * 48271 % 2147483647) ls.length).map V.int)) hA2;rw [<-qH2];refine g_in ?_;try dsimp only
   have s02:=s1.trans s2;refine ZdL (fun σ' H'=>∃ A3,σ'=[some (.int c),some (.ref l),some (.ref A1),some (.ref A3),none,none,none]/\Same H H'/\H' A1=some (.lst ((Zdo c ls.length).map V.int))/\H' A3=some (.lst ((ZcP c ls.length).map V.int))) ?_ (fun N hN=>?_);rotate_left
   . refine ⟨_,rfl,_,_,rfl,rfl,(by show (0:Int)<2;decide),rfl,_,rfl,ite2 (fun h1=>?_) (fun h1=>?_)⟩
     . have h1':c % 2=1:=V.int.inj (Xa7 h1)
       refine ⟨_,rfl,_,_,rfl,rfl,Or.inr ⟨by decide,by decide⟩,_,_,rfl,rfl,(by show (0:Int)<2147483629;decide),_,rfl,_,_,rfl,Or.inl ⟨_,s02.seq hl,rfl⟩,_,_,rfl,by rw [Xaa];omega,fun A3 H3 hA3 s3 e3=>?_⟩;rw [Xaa] at e3;refine hN _ _ ⟨A3,rfl,s02.trans s3,s3 _ _ (s2 _ _ e1),?_⟩;unfold ZcP;rw [Xbe h1'];exact e3
     . have h1':¬c % 2=1:=fun e=>h1 (Xa5 (by show V.int (c % 2)=V.int 1;rw [e]))
       refine hN _ _ ⟨A2,rfl,s02,s2 _ _ e1,?_⟩;unfold ZcP;rw [Xbd h1'];exact e2
   rintro σ' H3 ⟨A3,rfl,s3,e31,e33⟩;clear e1 e2 s1 s2 s02 hA1 hA2;refine ⟨by decide,fun D hD=>?_⟩;obtain ⟨H4,qH4,s4,eD4⟩:=new_at (o:=.lst []) hD;rw [<-qH4];refine g_in ?_;try dsimp only
   have s04:=s3.trans s4;have hDH:=s3.free hD;have l1:=Zkv c ls.length;have l2:=oth_len c ls.length
   refine ⟨_,rfl,_,_,rfl,Or.inl ⟨_,s04.seq hl,rfl⟩,_,rfl,by omega,by rw [Xaa];omega,ZbO (lo:=0) (n:=(ls.map V.str).length) (fun j σ H'=>∃ u5 u6 ts,σ=[some (.int c),some (.ref l),some (.ref A1),some (.ref A3),some (.ref D),u5,u6]/\Keeps (·=D) H4 H'/\H' D=some (.lst (ts.map V.ref))/\Tups H' ts (ordO ls (Zdo c ls.length) (ZcP c ls.length) j))
    ⟨none,none,[],rfl,Keeps.refl fun x o m e=>by rw [m,eD4] at e;exact ⟨_,(Xbc e).symm⟩,eD4,Tups.nil⟩ ?_ ?_⟩
   rotate_left
   . rintro σ H5 ⟨u5,u6,ts,rfl,k5,eD5,T5⟩
     rw [Xaa] at T5;obtain ⟨zs,z1,z2,z3⟩:=Zfu T5
     have lz:zs.length<=36:=by
      have h1:=Xbj List.length z2;rw [Xaa] at h1;have h2:=Zei ls (Zdo c ls.length) (ZcP c ls.length) ls.length;have h3:ls.length * ls.length<=6 * 6:=Nat.mul_le_mul ll ll;omega
     refine ⟨_,rfl,D,zs,rfl,SqL.of (by rw [z1];exact eD5),by omega,fun z hz=>?_,fun O2 zs' hp hw hO2=>?_⟩
     . obtain ⟨t,a1,a2⟩:=z3 z hz
       exact ⟨t,a1,SqT.of a2⟩
     have s05:Same H H5:=fun b o e=>k5.at_ _ _ (s04 _ _ e) (Zad e hDH);have s6:=Zak (o:=.lst (zs'.map (·.1))) hO2;obtain ⟨ts',t1,t2⟩:=Zfv (H:=H5) (zs:=zs') fun z hz=>z3 z (hp.mem_iff.mp hz);refine q O2 ts' (zs'.map (·.2)) _ (s05.free hO2) (s05.trans s6) (by rw [upd_same,t1]) (t2.same s6) ⟨?_,hw⟩;rw [<-z2];exact hp.map _
   rintro j σ H5 hj ⟨u5,u6,ts,rfl,k5,eD5,T5⟩;rw [Xaa] at hj;refine g_in ?_;try dsimp only
   have upK:∀ {H':Hp},Keeps (·=D) H4 H'->Same H H':=fun k x o e=>k.at_ _ _ (s04 _ _ e) (Zad e hDH);have nD1:A1≠D:=Zad e31 hD;have nD3:A3≠D:=Zad e33 hD
   refine ⟨_,rfl,_,_,rfl,Or.inl ⟨_,(upK k5).seq hl,rfl⟩,_,rfl,by omega,by rw [Xaa];omega,ZbO (lo:=0) (n:=(ls.map V.str).length) (fun k σ H'=>∃ u6 ts,σ=[some (.int c),some (.ref l),some (.ref A1),some (.ref A3),some (.ref D),some (.int (0+(j:Int))),u6]/\Keeps (·=D) H4 H'/\H' D=some (.lst (ts.map V.ref))/\Tups H' ts (ordO ls (Zdo c ls.length) (ZcP c ls.length) j++ordI ls (Zdo c ls.length) (ZcP c ls.length) j k))
    ⟨_,ts,rfl,k5,eD5,by unfold ordI;simpa using T5⟩ ?_ ?_⟩
   rotate_left
   . rintro σ H6 ⟨u6,ts,rfl,k6,eD6,T6⟩
     rw [Xaa] at T6;exact ⟨_,_,ts,rfl,k6,eD6,by rw [Zg6];exact T6⟩
   rintro k σ H6 hk ⟨u6,ts,rfl,k6,eD6,T6⟩;rw [Xaa] at hk;refine g_in ?_;try dsimp only
   have lt6:ts.length<=100:=by
    rw [T6.len,Xac];have h2:=Zei ls (Zdo c ls.length) (ZcP c ls.length) j;have h3:j * ls.length<=6 * 6:=Nat.mul_le_mul (by omega) ll;have h4:=Zgb ls (Zdo c ls.length) (ZcP c ls.length) j k;omega
   have e61:=k6.at_ _ _ (s4 _ _ e31) nD1;have e63:=k6.at_ _ _ (s4 _ _ e33) nD3;have at1:∀ n,n<ls.length->∃ v,(Zdo c ls.length)[n]?=some v/\atI ((Zdo c ls.length).map V.int) (0+(n:Int))=some (.int v):=fun n hn=>⟨_,Xab (by omega),by rw [Int.zero_add];exact Zar (by rw [Xag,Xab (by omega)];rfl)⟩;have at3:∀ n,n<ls.length->∃ v,(ZcP c ls.length)[n]?=some v/\atI ((ZcP c ls.length).map V.int) (0+(n:Int))=some (.int v):=fun n hn=>⟨_,Xab (by omega),by rw [Int.zero_add];exact Zar (by rw [Xag,Xab (by omega)];rfl)⟩;have atL:∀ n,n<ls.length->∃ v,ls[n]?=some v/\atI (ls.map V.str) (0+(n:Int))=some (.str v):=fun n hn=>⟨_,Xab hn,by rw [Int.zero_add];exact Zar (by rw [Xag,Xab hn];rfl)⟩;obtain ⟨a1,h1,g1⟩:=at1 j hj;obtain ⟨a2,h2,g2⟩:=at1 k hk;obtain ⟨b1,h3,g3⟩:=at3 j hj;obtain ⟨b2,h4,g4⟩:=at3 k hk;obtain ⟨x1,h5,g5⟩:=atL j hj;obtain ⟨x2,h6,g6⟩:=atL k hk
   have skip:¬(a1<a2/\b1<b2)->ordP ls (Zdo c ls.length) (ZcP c ls.length) j k=[]:=fun hn=>by
    unfold ordP;rw [ZbY h1,ZbY h2,ZbY h3,ZbY h4,Xbd hn]
   refine ⟨_,rfl,_,rfl,Or.inl ⟨A1,_,_,_,rfl,rfl,SqL.of e61,g1,_,rfl,_,rfl,Or.inl ⟨A1,_,_,_,rfl,rfl,SqL.of e61,g2,_,_,rfl,rfl,_,rfl,ite2 (fun c1=>?_) (fun c1=>iteF ?_)⟩⟩⟩;rotate_left
   . refine ⟨_,ts,rfl,k6,eD6,?_⟩
     rw [ZdB,skip fun z=>c1 (Xa5 z.1),XaH];exact T6
   refine ⟨_,rfl,_,rfl,Or.inl ⟨A3,_,_,_,rfl,rfl,SqL.of e63,g3,_,rfl,_,rfl,Or.inl ⟨A3,_,_,_,rfl,rfl,SqL.of e63,g4,_,_,rfl,rfl,_,rfl,ite2 (fun c2=>?_) (fun c2=>?_)⟩⟩⟩;rotate_left
   . refine ⟨_,ts,rfl,k6,eD6,?_⟩
     rw [ZdB,skip fun z=>c2 (Xa5 z.2),XaH];exact T6
   have hl6:=(upK k6).seq hl;refine ⟨_,rfl,Or.inl ⟨rfl,_,SqL.of eD6⟩,_,rfl,_,rfl,Or.inl ⟨l,_,_,.str x1,rfl,rfl,hl6,g5,_,rfl,_,rfl,Or.inl ⟨l,_,_,.str x2,rfl,rfl,hl6,g6,ZaI,fun t ht=>?_⟩⟩⟩;obtain ⟨H7,qH7,s7,et⟩:=new_at (o:=.tup [.str x1,.str x2]) ht;rw [<-qH7];have eD7:=s7 _ _ eD6;have k7:Keeps (·=D) H7 (upd H7 D (.lst (ts.map V.ref++[.ref t]))):=Keeps.one eD7;refine ⟨D,_,_,rfl,rfl,eD7,by rw [Xaa];exact Zan (by omega),?_⟩;refine ⟨_,ts++[t],rfl,(k6.same s7).set rfl,by rw [upd_same,Xad];rfl,?_⟩
   have eP:ordP ls (Zdo c ls.length) (ZcP c ls.length) j k=[(x1,x2)]:=by
    unfold ordP;rw [ZbY h1,ZbY h2,ZbY h3,ZbY h4,Xbe ⟨Xa7 c1,Xa7 c2⟩,Zit h5,Zit h6]
   rw [ZdB,eP,<-XaE];exact k7.tups ((T6.same s7).snoc et)
def tbB (ns:List Int):List Int:=rkL (Zas ns 3 * 864691128455135233 % 2305843009213693951) 14
theorem tbB_len (ns:List Int):(tbB ns).length=14:=Zf9 _ _
def tbG (ls:List Str) (b:List Int) (k:Nat):Nat->List (Str×Int)
 | 0=>[]
 | j+1=>tbG ls b k j++if 0<b.getD (2 * j+k) 0 then [(ls.getD j default,b.getD (4 * j+k) 0 % 2)] else []
def tbE (ls:List Str) (b:List Int) (k:Nat):Nat->List Str
 | 0=>[]
 | j+1=>tbE ls b k j++if 1<b.getD (2 * (2+j)+4+k) 0 then [ls.getD (2+j) default] else []
theorem ZhI (ls:List Str) (b:List Int) (k:Nat):∀ j,(tbG ls b k j).length<=j
 | 0=>XaW _
 | j+1=>by
   have:=ZhI ls b k j
   rw [tbG,Xac]
   split
   . rw [Xau];omega
   . rw [XaN];omega
theorem ZhJ (ls:List Str) (b:List Int) (k:Nat):∀ j,(tbE ls b k j).length<=j
 | 0=>XaW _
 | j+1=>by
   have:=ZhJ ls b k j
   rw [tbE,Xac]
   split
   . rw [Xau];omega
   . rw [XaN];omega
theorem Zkw {ls:List Str}{b:List Int}{k:Nat}:∀ j,∀ p∈tbG ls b k j,0<=p.2/\p.2<2
 | 0,p,hp=>by cases hp
 | j + 1, p, hp => by
   rw [tbG] at hp
   rcases Xaf.mp hp with hp | hp
   . exact Zkw j p hp
   . split at hp
     . rw [Xaj.mp hp]
       exact ⟨Xa2 _ (by decide),Xa1 _ (by decide)⟩
     . cases hp
structure StR (ls:List Str) (b:List Int) (k:Nat) (s:Stt):Prop where
 pg:s.1.Perm (tbG ls b k 2)
 og:s.1.Pairwise (lexO strO intO).kle
 pe:s.2.Perm (tbE ls b k 3)
 oe:s.2.Pairwise strO.kle
variable {s:Stt}
theorem StR.uniq {b:List Int}{u:Stt} (h:StR ls b k s) (g:StR ls b k u):s=u :=
 Prod.ext (Zck (O:=lexO strO intO) (h.pg.trans g.pg.symm) h.og g.og) (Zck (O:=strO) (h.pe.trans g.pe.symm) h.oe g.oe)
structure TbR (ns:List Int) (ls:List Str) (sts:List Stt) (inn:Int) (ord:List (Str×Str)):Prop where
 len:sts.length=2
 at_:∀ (i:Nat) (s:Stt),sts[i]?=some s->StR ls (tbB ns) i s
 inn:inn=Zas ns 3 % 2
 ord:OrdR (Zas ns 4) ls ord
theorem TbR.uniq {ns:List Int}{ls:List Str}{sts:List Stt}{inn:Int}{ord:List (Str×Str)} {sts':List Stt} {inn':Int} {ord':List (Str×Str)} (h:TbR ns ls sts inn ord) (k:TbR ns ls sts' inn' ord'):sts=sts'/\inn=inn'/\ord=ord':=by
 refine ⟨List.ext_getElem? fun i=>?_,h.inn.trans k.inn.symm,h.ord.uniq k.ord⟩;have hl:=h.len.trans k.len.symm
 cases e:sts[i]? with
 | none =>
   rw [List.getElem?_eq_none_iff] at e;exact (List.getElem?_eq_none_iff.mpr (by omega)).symm
 | some s =>
   have hi:i<sts'.length:=by have:=(Xae.mp e).1;omega
   rw [Xab hi,(h.at_ i s e).uniq (k.at_ i _ (Xab hi))]
variable {n:Nat}
theorem Zgd {xs:List Int}(h:n<xs.length):atI (xs.map V.int) (n:Int)=some (.int (xs.getD n 0)):=by
 rw [Xaq,Xab h];exact Zar (by rw [Xag,Xab h];rfl)
theorem ZdC (h:n<xs.length):atI (xs.map V.str) (n:Int)=some (.str (xs.getD n default)):=by
 rw [Xaq,Xab h];exact Zar (by rw [Xag,Xab h];rfl)
inductive E__law_table (K:XFg) (vs:List V) (H:Hp) (Q:VK):Prop where
 | mk (a L:Addr) (ns:List Int) (ls:List Str) (h0:vs=[.ref a,.ref L]) (h1:SqL K H a (ns.map V.int)) (h2:SqL K H L (ls.map V.str)) (h3:ls.length=5) (h4:∀ (t:Addr) (sts:List Stt) (inn:Int) (ord:List (Str×Str)) (H':Hp),Same H H'->Tab K (fun _=>True) H' t sts inn ord->TbR ns ls sts inn ord->Q (.ref t) H'):E__law_table K vs H Q
def Zge (K:XFg):Sp:=fun vs H Q _=>E__law_table K vs H Q
variable (P w K mg base) in
abbrev ZcR:Prop:=ZaB P w K mg base "_law_table" 3 ["_law_script", "_law_labels"] (Zge K)
theorem ZeU (B:Blt mg) (c__law_ranks:ZbX P w K mg base) (c__law_cell_at:Zbv P w K mg base) (c__law_order:ZcQ P w K mg base) (F:Fun K "_law_table" "_law_table" Zbx f fd) (hm:mg "_law_table" = some (.ref f)):ZcR P w K mg base:=by
 refine ⟨f,fd,?_,hm,F.kp,F.binds fun _ _ _ _ _ _ us hl=>(by obtain ⟨x0,x1,rfl⟩:=ZeN hl;rfl)⟩;refine F.ok sc__law_table (fun vs H Q E h=>?_) (fun cdv A outer s H vs Q E hr h=>?_)
 . obtain ⟨a,L,ns,ls,rfl,_⟩:=h
   rfl
 . obtain ⟨a,L,ns,ls,rfl,hS,hL,l5,q⟩:=h
   have lb:=tbB_len ns
   refine ⟨_,(Zab (Zap (i:=2) sc__law_table.nd rfl (Or.inr rfl) (Zaz c__law_ranks (hr.mono (by decide)) rfl (Zaa (Zau ZaP (Zau ZbV (Zaz c__law_cell_at (hr.mono (by decide)) rfl (Zaa (pv 0) (Zaa Zae Zac))) Zae) Zae) (Zaa Zae Zac))))
    (Zab (Zap (i:=3) sc__law_table.nd rfl (Or.inl rfl) (ZaJ Zac))
    (Zab (ZaQ Xbr rfl (Za9 rfl B.b_range (Zaa Zae Zac)) (Zag (i:=4) sc__law_table.nd rfl (Or.inr rfl)) (Zab (Zdi (i:=5) sc__law_table.nd rfl (Or.inl rfl) (te:=tTup (Zgw (tOp (rIx K) (tVar 1) (tVar 0)) (Zgw (tOp xMod (tOp (rIx K) (tVar 2) (tOp xAdd (tOp xMul (tC (.int 4)) (tVar 0)) (tVar 3))) (tC (.int 2))) tNil))) (tc:=tTest (tOp (rI0 fun i j=>.bl (decide (j<i))) (tOp (rIx K) (tVar 2) (tOp xAdd (tOp xMul (tC (.int 2)) (tVar 0)) (tVar 3))) (tC (.int 0)))) rfl _law_table_cs1 (Za9 rfl B.b_range (Zaa Zae Zac)) (fun _ _ _ _ _=>(Zag (i:=0) _law_table_cs1.nd rfl (Or.inl rfl))) (fun _ _ _ _ _=>(Zh2 (Zaw op_gt (Zam Zai (pv 2) (Zau Zb6 (Zau ZbV Zae (pv 0)) (pv 3)) (fun _ _=>rfl)) Zae (ZaA _)))) (fun _ _ _ _ _=>(Zat (Zaa (Zam Zai (pv 1) (pv 0) (fun _ _=>rfl)) (Zaa (Zau ZaP (Zam Zai (pv 2) (Zau Zb6 (Zau ZbV Zae (pv 0)) (pv 3)) (fun _ _=>rfl)) Zae) Zac)))))
     (Zab (Zdi (i:=6) sc__law_table.nd rfl (Or.inl rfl) (te:=tOp (rIx K) (tVar 1) (tVar 0)) (tc:=tTest (tOp (rI0 fun i j=>.bl (decide (j<i))) (tOp (rIx K) (tVar 2) (tOp xAdd (tOp xAdd (tOp xMul (tC (.int 2)) (tVar 0)) (tC (.int 4))) (tVar 3))) (tC (.int 1)))) rfl _law_table_cs2 (Zji rfl B.b_range (Zaa Zae (Zaa Zae Zac))) (fun _ _ _ _ _=>(Zag (i:=0) _law_table_cs2.nd rfl (Or.inl rfl))) (fun _ _ _ _ _=>(Zh2 (Zaw op_gt (Zam Zai (pv 2) (Zau Zb6 (Zau Zb6 (Zau ZbV Zae (pv 0)) Zae) (pv 3)) (fun _ _=>rfl)) Zae (ZaA _)))) (fun _ _ _ _ _=>(Zam Zai (pv 1) (pv 0) (fun _ _=>rfl))))
     (Zah (ZaW (Zb4 Xa8 Xa9 Xba ZaK (pv 3) (Zaa (Zat (Zaa (Zax (Zfp strC intC) (by rfl) B.b_sorted (by decide +kernel) (Zaa (pv 5) Zac)) (Zaa (Zax ZiM (by rfl) B.b_sorted (by decide +kernel) (Zaa (pv 6) Zac)) Zac))) Zac)))))))
    (Zah (Zao (Zat (Zaa (pv 3) (Zaa (Zau ZaP (Zaz c__law_cell_at (hr.mono (by decide)) rfl (Zaa (pv 0) (Zaa Zae Zac))) Zae) (Zaa (Zaz c__law_order (hr.mono (by decide)) rfl (Zaa (Zaz c__law_cell_at (hr.mono (by decide)) rfl (Zaa (pv 0) (Zaa Zae Zac))) (Zaa (pv 1) Zac))) Zac))))))))),?_⟩
   try dsimp only [cxOf,Cx.nox,Cx.wish]
   refine ⟨_,rfl,a,ns,3,rfl,by decide,hS,_,_,rfl,rfl,Or.inr ⟨by decide,by decide⟩,_,_,rfl,rfl,(by show (0:Int)<2305843009213693951;decide),_,14,rfl,by decide,fun X H1 hX s1 eX=>?_⟩;have eX:H1 X=some (.lst ((tbB ns).map V.int)):=eX;refine g_in ?_;try dsimp only
   refine ⟨by decide,fun D hDH=>?_⟩;obtain ⟨H2,qH2,s2,eD2⟩:=new_at (o:=.lst []) hDH;rw [<-qH2];refine g_in ?_;try dsimp only
   have s02:=s1.trans s2;have hD0:H D=none:=s1.free hDH;have up:∀ {H':Hp},Keeps (·=D) H2 H'->Same H1 H':=fun k x o e=>k.at_ _ _ (s2 _ _ e) (Zad e hDH);have q':∀ (t:Addr) (sts:List Stt) (inn:Int) (ord:List (Str×Str)) (H':Hp),Same H H'->Tab K (fun _=>True) H' t sts inn ord->sts.length=2/\(∀ (i:Nat) (s:Stt),sts[i]?=some s->StR ls (tbB ns) i s)/\inn=Zas ns 3 % 2/\OrdR (Zas ns 4) ls ord->Q (.ref t) H':=fun t sts inn ord H' s T ⟨h1,h2,h3,h4⟩=>q t sts inn ord H' s T ⟨h1,h2,h3,h4⟩;clear q;generalize tbB ns=b at lb eX q'
   refine ⟨2,rfl,by decide,by decide,ZbO (lo:=0) (n:=2) (fun i σ H'=>∃ (u4 u5 u6:Option V) (us:List Addr) (rs:List Stt),σ=[some (.ref a),some (.ref L),some (.ref X),some (.ref D),u4,u5,u6]/\Keeps (·=D) H2 H'/\H' D=some (.lst (us.map V.ref))/\StRows K (fun _=>True) H' D us rs/\rs.length=i/\∀ (j:Nat) (s:Stt),rs[j]?=some s->StR ls b j s)
    ⟨none,none,none,[],[],rfl,Keeps.refl fun x o m e=>by rw [m,eD2] at e;exact ⟨_,(Xbc e).symm⟩,eD2,StRows.nil,rfl,fun j s h=>by simp at h⟩ ?_ ?_⟩
   . rintro i σ H4 hi ⟨u4,u5,u6,us,rs,rfl,k4,eD4,SR4,hrl,hok⟩
     refine g_in ?_;try dsimp only
     have s14:=up k4;have s04:=s1.trans s14;have eX4:=s14 _ _ eX;refine ⟨2,rfl,by decide,by decide,ZeH (lo:=0) (n:=2) (fun G j ys H'=>∃ ts:List Addr,ys=ts.map V.ref/\Same H4 H'/\H' G=some (.lst ys)/\GT H' ts (tbG ls b i j)) (fun G hG=>⟨[],rfl,Zak hG,upd_same,GT.nil⟩) (fun G j ys H5 RR R0 hG hj hv k k0=>?_) (fun G0 ys H5 hG0 hv=>?_)⟩
     . obtain ⟨ts,rfl,s5,eG,T5⟩:=hv
       have a1:atI (b.map V.int) (2 * (0+(j:Int))+(0+(i:Int)))=some (.int (b.getD (2 * j+i) 0)):=by rw [show (2 * (0+(j:Int))+(0+(i:Int)))=((2 * j+i:Nat):Int) by omega];exact Zgd (by omega)
       have a2:atI (b.map V.int) (4 * (0+(j:Int))+(0+(i:Int)))=some (.int (b.getD (4 * j+i) 0)):=by rw [show (4 * (0+(j:Int))+(0+(i:Int)))=((4 * j+i:Nat):Int) by omega];exact Zgd (by omega)
       have al:atI (ls.map V.str) (0+(j:Int))=some (.str (ls.getD j default)):=by rw [Int.zero_add];exact ZdC (by omega)
       have lG:=ZhI ls b i j;refine ⟨_,rfl,_,rfl,_,_,rfl,rfl,Or.inl ⟨by decide,by decide⟩,_,rfl,_,_,rfl,rfl,Or.inl ⟨X,_,_,_,rfl,rfl,SqL.of (s5 _ _ eX4),a1,_,_,rfl,rfl,_,rfl,ite2 (fun d=>?_) (fun d=>?_)⟩⟩;rotate_left
       . have d':¬0<b.getD (2 * j+i) 0:=fun z=>d (Xa5 z)
         refine k0 _ ⟨ts,rfl,s5,eG,?_⟩;rw [tbG,Xbd d',XaH];exact T5
       have d':0<b.getD (2 * j+i) 0:=Xa7 d;refine ⟨_,rfl,_,rfl,Or.inl ⟨L,_,_,_,rfl,rfl,(s04.trans s5).seq hL,al,_,rfl,_,rfl,_,_,rfl,rfl,Or.inl ⟨by decide,by decide⟩,_,rfl,_,_,rfl,rfl,Or.inl ⟨X,_,_,_,rfl,rfl,SqL.of (s5 _ _ eX4),a2,_,_,rfl,rfl,(by show (0:Int)<2;decide),ZaI,fun t ht=>?_⟩⟩⟩;obtain ⟨H6,qH6,s6,et⟩:=new_at (o:=.tup [.str (ls.getD j default),.int (b.getD (4 * j+i) 0 % 2)]) ht;rw [<-qH6];have eG6:=s6 _ _ eG;refine k _ _ eG6 (by rw [Xaa,T5.len];exact Zan (by omega)) ⟨ts++[t],by rw [Xad];rfl,fun x o e=>?_,upd_same,?_⟩
       . rw [Zal (Zad e hG)];exact s6 _ _ (s5 _ _ e)
       . rw [tbG,Xbe d']
         exact ((T5.same s6).snoc (p:=(ls.getD j default,b.getD (4 * j+i) 0 % 2)) et).updL eG6
     obtain ⟨ts,rfl,s5,eG5,T5⟩:=hv;try dsimp only
     have s15:=s14.trans s5;have s05:=s1.trans s15;have eX5:=s15 _ _ eX;refine ⟨2,5,rfl,⟨by decide,by decide,by decide,by decide⟩,ZeH (lo:=2) (n:=3) (fun E j ys H'=>ys=(tbE ls b i j).map V.str/\Same H5 H'/\H' E=some (.lst ys)) (fun E hE=>⟨rfl,Zak hE,upd_same⟩) (fun E j ys H6 RR R0 hE hj hv k k0=>?_) (fun E0 ys H6 hE0 hv=>?_)⟩
     . obtain ⟨rfl,s6,eE⟩:=hv
       have a1:atI (b.map V.int) (2 * (2+(j:Int))+4+(0+(i:Int)))=some (.int (b.getD (2 * (2+j)+4+i) 0)):=by rw [show (2 * (2+(j:Int))+4+(0+(i:Int)))=((2 * (2+j)+4+i:Nat):Int) by omega];exact Zgd (by omega)
       have al:atI (ls.map V.str) (2+(j:Int))=some (.str (ls.getD (2+j) default)):=by rw [show (2+(j:Int))=((2+j:Nat):Int) by omega];exact ZdC (by omega)
       have lE:=ZhJ ls b i j;refine ⟨_,rfl,_,rfl,_,_,rfl,rfl,Or.inl ⟨by decide,by decide⟩,_,_,rfl,rfl,_,rfl,_,_,rfl,rfl,Or.inl ⟨X,_,_,_,rfl,rfl,SqL.of (s6 _ _ eX5),a1,_,_,rfl,rfl,_,rfl,ite2 (fun d=>?_) (fun d=>?_)⟩⟩;rotate_left
       . have d':¬1<b.getD (2 * (2+j)+4+i) 0:=fun z=>d (Xa5 z)
         refine k0 _ ⟨?_,s6,eE⟩;rw [tbE,Xbd d',XaH]
       have d':1<b.getD (2 * (2+j)+4+i) 0:=Xa7 d;refine ⟨_,rfl,_,rfl,Or.inl ⟨L,_,_,_,rfl,rfl,(s05.trans s6).seq hL,al,?_⟩⟩;refine k _ _ eE (by rw [Xaa];exact Zan (by omega)) ⟨by rw [tbE,Xbe d',Xad];rfl,fun x o e=>?_,upd_same⟩;rw [Zal (Zad e hE)];exact s6 _ _ e
     obtain ⟨rfl,s6,eE8⟩:=hv;try dsimp only
     have s46:=s5.trans s6;have k08:Keeps (·=D) H2 H6:=⟨fun x o e n=>s46 _ _ (k4.at_ x o e n),k4.ls⟩;have eD8:=s46 _ _ eD4;have eG8:=s6 _ _ eG5;have T8:=T5.same s6;have lG:=ZhI ls b i 2;have lE:=ZhJ ls b i 3;obtain ⟨zs,z1,z2,z3⟩:=ZfN (K:=K) T8.len T8.at_
     have lzs:zs.length=(tbG ls b i 2).length:=by rw [<-z2,Xaa]
     refine ⟨_,rfl,Or.inl ⟨rfl,_,SqL.of eD8⟩,_,rfl,G0,zs,rfl,SqL.of (by rw [z1];exact eG8),by omega,z3,fun G zs' hp hw hG=>?_⟩;have s9:=Zak (o:=.lst (zs'.map (·.1))) hG;have eG9:(upd H6 G (.lst (zs'.map (·.1)))) G=some (.lst (zs'.map (·.1))):=upd_same
     have z3':∀ z∈zs',Zk8 K (upd H6 G (.lst (zs'.map (·.1)))) z:=fun z hz=>by
      obtain ⟨t,a1,a2⟩:=z3 z (hp.mem_iff.mp hz);exact ⟨t,a1,s9.seqT a2⟩
     generalize upd H6 G (.lst (zs'.map (·.1)))=H9 at s9 eG9 z3' ⊢;refine ⟨_,rfl,E0,tbE ls b i 3,rfl,SqL.of (s9 _ _ eE8),by omega,fun E1 es' hpe hwe hE1=>?_⟩;have s10:=Zak (o:=.lst (es'.map V.str)) hE1;have eE10:(upd H9 E1 (.lst (es'.map V.str))) E1=some (.lst (es'.map V.str)):=upd_same
     have z4:∀ z∈zs',Zk8 K (upd H9 E1 (.lst (es'.map V.str))) z:=fun z hz=>by
      obtain ⟨t,a1,a2⟩:=z3' z hz;exact ⟨t,a1,s10.seqT a2⟩
     generalize upd H9 E1 (.lst (es'.map V.str))=H10 at s10 eE10 z4 ⊢;refine ⟨ZaI,fun u hu=>?_⟩;obtain ⟨H11,qH11,s11,eu⟩:=new_at (o:=.tup [.ref G,.ref E1]) hu;rw [<-qH11];have s811:=(s9.trans s10).trans s11;have eD11:=s811 _ _ eD8
     have nG:G≠D:=fun y=>by rw [y,eD8] at hG;cases hG
     have nE:E1≠D:=fun y=>by rw [y,s9 _ _ eD8] at hE1;cases hE1
     have gG:Goes K H11 G (zs'.map (·.2)):=⟨_,SqL.of ((s10.trans s11) _ _ eG9),(ZfO zs' z4).same s11⟩;refine ⟨D,_,_,rfl,rfl,eD11,by rw [Xaa,SR4.len,hrl];exact Zan (by omega),?_⟩;have SR11:=((SR4.same (s46.trans s811)).snoc (r:=(zs'.map (·.2),es')) eu gG ((s10.trans s11) _ _ eG9) (s11 _ _ eE10) nG nE True.intro True.intro).updL (o:=.lst (us.map V.ref++[.ref u])) eD11;refine ⟨_,_,_,us++[u],rs++[(zs'.map (·.2),es')],rfl,(k08.same s811).set rfl,by rw [upd_same,Xad];rfl,SR11,by rw [Xac,hrl];rfl,fun j s hj=>?_⟩
     rcases Nat.lt_or_ge j rs.length with hlt | hge
     . rw [Xat hlt] at hj
       exact hok j s hj
     . have hjl:j=rs.length:=by
        have:=(Xae.mp hj).1
        rw [Xac,Xau] at this;omega
       rw [hjl,List.getElem?_concat_length] at hj;rw [<-Xbc hj,hjl,hrl];exact ⟨by rw [<-z2];exact hp.map _,hw,hpe,hwe⟩
   rintro σ H4 ⟨u4,u5,u6,us,rs,rfl,k4,eD4,SR4,hrl,hok⟩;have s04:=s1.trans (up k4);refine ⟨_,rfl,_,rfl,a,ns,3,rfl,by decide,s04.seq hS,_,_,rfl,rfl,(by show (0:Int)<2;decide),_,rfl,a,ns,4,rfl,by decide,s04.seq hS,_,rfl,_,L,ls,rfl,s04.seq hL,by omega,fun O ots ord H5 hO s5 eO TO hord=>?_⟩;refine ⟨ZaV,fun t ht=>?_⟩;have s6:=Zak (o:=.tup [.ref D,.int (Zas ns 3 % 2),.ref O]) ht
   have nDO:D≠O:=fun y=>by rw [<-y,eD4] at hO;cases hO
   have s46:=s5.trans s6;exact q' t rs (Zas ns 3 % 2) ord _ (s04.trans s46) ⟨D,O,us,ots,upd_same,True.intro,True.intro,nDO,s46 _ _ eD4,SR4.same s46,s6 _ _ eO,TO.same s6⟩ ⟨hrl,hok,rfl,hord⟩
abbrev rNs (ns:List Int):List Str:=Zbs (Zas ns 0) 2
abbrev rLs (ns:List Int):List Str:=Zbs (Zas ns 1) 5
abbrev rM (ns:List Int):Nat:=(1+Zas ns 2 % 40).toNat
def rW (ns:List Int):Int:=if Zas ns 2 / 40 % 2=0 then 1 else -1
def rSp (ns:List Int) (k:Nat):Int:=(Zas ns 2 / 80+rW ns * (k:Int)) % (rM ns:Int)
def rKd (ns:List Int):Int:=Zas ns 5 * 864691128455135233 % 2305843009213693951
def rStp (ns:List Int) (k:Nat):Stp:=((rLs ns).getD (rKd ns / 2 ^ k % 2).toNat default, "to",rSp ns (k+1))
def rLst (ns:List Int):Stp:=((rLs ns).getD (Zas ns 6 / 2 % 2).toNat default, "to",rSp ns 0)
def Zg7 (ss:List Sco) (n:Nat) (p:Stp):List Sco:=ss.set n ((ss.getD n ([],[])).1++[p],(ss.getD n ([],[])).2)
def Zfb (ss:List Sco) (n:Nat) (p:Tlg):List Sco:=ss.set n ((ss.getD n ([],[])).1,(ss.getD n ([],[])).2++[p])
def rS1 (ns:List Int):Nat->List Sco
 | 0=>List.replicate (rM ns) ([],[])
 | k+1=>Zg7 (rS1 ns k) (rSp ns k).toNat (rStp ns k)
def rS2 (ns:List Int):List Sco:=if Zas ns 6 % 2=1 then Zg7 (rS1 ns (rM ns - 1)) (rSp ns (rM ns - 1)).toNat (rLst ns) else rS1 ns (rM ns - 1)
abbrev rTh (c:Int):Int:=c * 69621 % 65497 / 2 % (if c * 69621 % 65497 % 2=0 then 2 else 80)
def rTl (ns:List Int) (c:Int):Tlg:=((rLs ns).getD (2+c * 48271 % 65521 % 3).toNat default,(rNs ns).getD (if c * 16807 % 65519 % 4=0 then 1 else 0) default, "thing",rTh c)
abbrev rCs (ns:List Int):List Int:=(ns.drop 8).take 6
def rS3 (ns:List Int):Nat->List Sco
 | 0=>rS2 ns
 | i+1=>Zfb (rS3 ns i) (rSp ns ((rCs ns).getD i 0 % (rM ns:Int)).toNat).toNat (rTl ns ((rCs ns).getD i 0))
def rQu (ns:List Int):Qu:=(rSp ns (Zas ns 7 % (rM ns:Int)).toNat,Zas ns 7 / 40 % 2,[(rNs ns).getD (Zas ns 7 / 80 % 5 / 4).toNat default])
theorem Ziu (ns:List Int):1<=rM ns/\rM ns<=40:=by unfold rM;omega
theorem rW_two (ns:List Int):rW ns=1\/rW ns=-1:=by unfold rW;split;exact .inl rfl;exact .inr rfl
theorem ZbA (ns:List Int) (k:Nat):0<=rSp ns k/\rSp ns k<rM ns:=by
 have:=Ziu ns
 exact ⟨Xa2 _ (by omega),Xa1 _ (by omega)⟩
theorem rSp_inj {j:Nat} (hi:i<rM ns) (hj:j<rM ns) (e:rSp ns i=rSp ns j):i=j:=by
 unfold rSp at e;have h:=Int.emod_eq_emod_iff_emod_sub_eq_zero.mp e
 have hd:(rM ns:Int) ∣ ((i:Int) - (j:Int)):=by
  have h2:(rM ns:Int) ∣ (rW ns * ((i:Int) - (j:Int))):=by
   have:=Int.dvd_of_emod_eq_zero h
   rw [show Zas ns 2 / 80+rW ns * (i:Int) - (Zas ns 2 / 80+rW ns * (j:Int))=rW ns * ((i:Int) - (j:Int)) by rw [Int.mul_sub];omega] at this;exact this
  rcases rW_two ns with w | w
  . rw [w,Int.one_mul] at h2;exact h2
  . rw [w] at h2
    have h3:=Int.dvd_neg.mpr h2;rw [show -(-1 * ((i:Int) - (j:Int)))=(i:Int) - (j:Int) by omega] at h3;exact h3
 rcases Nat.lt_trichotomy i j with hlt | he | hlt
 . have h4:=Int.dvd_neg.mpr hd
   have:=Int.le_of_dvd (by omega) h4
   omega
 . exact he
 . have:=Int.le_of_dvd (by omega) hd
   omega
variable {ss:List Sco}
theorem ZhK {x:Sco} (h:n≠k):(ss.set n x).getD k ([],[])=ss.getD k ([],[]):=by
 rw [Xaq,Xaq,List.getElem?_set_ne h]
theorem Zc5 (h:n<ss.length):ss.getD n ([],[])∈ss:=by
 rw [Xaq,Xab h];exact Xav h
structure R1 (ns:List Int) (k:Nat) (ss:List Sco):Prop where
 len:ss.length=rM ns
 one:∀ s∈ss,s.1.length<=1
 nil:∀ s∈ss,s.2=[]
 to:∀ s∈ss,∀ p∈s.1,p.2.1=("to" : Str)/\0<=p.2.2/\p.2.2<rM ns
 free:∀ j,k<=j->j<rM ns->(ss.getD (rSp ns j).toNat ([],[])).1=[]
variable {p:Stp}
theorem R1.add (h:R1 ns k ss) (hk:k<rM ns) (hp:p.2.1=("to" : Str)/\0<=p.2.2/\p.2.2<rM ns):R1 ns (k+1) (Zg7 ss (rSp ns k).toNat p):=by
 have hr:=ZbA ns k
 have hn:(rSp ns k).toNat<ss.length:=by rw [h.len];omega
 have hm:=Zc5 hn;have he:=h.free k (XaW _) hk
 have key:∀ s∈Zg7 ss (rSp ns k).toNat p,s∈ss\/s=([p],[]):=fun s hs=>by
  rcases List.mem_or_eq_of_mem_set hs with hs | rfl
  . exact .inl hs
  . right;rw [he,h.nil _ hm];rfl
 refine ⟨by unfold Zg7;rw [XaD];exact h.len,fun s hs=>?_,fun s hs=>?_,fun s hs q hq=>?_,fun j hj1 hj2=>?_⟩
 . rcases key s hs with hs | rfl
   . exact h.one s hs
   . exact XaW _
 . rcases key s hs with hs | rfl
   . exact h.nil s hs
   . rfl
 . rcases key s hs with hs | rfl
   . exact h.to s hs q hq
   . rw [Xaj.mp hq];exact hp
 . unfold Zg7
   rw [ZhK fun e=>?_]
   . exact h.free j (by omega) hj2
   . have hr2:=ZbA ns j
     have:=rSp_inj hk hj2 (by omega)
     omega
theorem Ziv (ns:List Int):∀ k,k<=rM ns - 1->R1 ns k (rS1 ns k)
 | 0,_=>by
   have e:∀ s∈List.replicate (rM ns) (([],[]):Sco),s=([],[]):=fun s hs=>(List.mem_replicate.mp hs).2;refine ⟨List.length_replicate,(fun s hs=>by rw [e s hs];exact Xa0 _),(fun s hs=>by rw [e s hs]),(fun s hs p hp=>by rw [e s hs] at hp;cases hp),fun j _ _=>?_⟩;have hr:=ZbA ns j;have hm:=Zc5 (ss:=List.replicate (rM ns) (([],[]):Sco)) (n:=(rSp ns j).toNat) (by rw [List.length_replicate];omega);show ((List.replicate (rM ns) (([],[]):Sco)).getD _ _).1=[];rw [e _ hm]
 | k+1,h=>(Ziv ns k (by omega)).add (by omega) ⟨rfl,ZbA ns (k+1)⟩
theorem Ziw:∀ {ss:List Sco}{n:Nat}{p:Tlg},((Zfb ss n p).flatMap (·.2)).length<=(ss.flatMap (·.2)).length+1
 | [],n,p=>by show ([].flatMap _).length<=_;exact Xa0 _
 | s :: ss,0,p=>by
   show (s.2++[p]++ss.flatMap (·.2)).length<=(s.2++ss.flatMap (·.2)).length+1
   simp;omega
 | s :: ss,n+1,p=>by
   have:=Ziw (ss:=ss) (n:=n) (p:=p)
   show (s.2++(Zfb ss n p).flatMap (·.2)).length<=(s.2++ss.flatMap (·.2)).length+1;rw [Xac,Xac];omega
structure R3 (ns:List Int) (i:Nat) (ss:List Sco):Prop where
 len:ss.length=rM ns
 one:∀ s∈ss,s.1.length<=1
 to:∀ s∈ss,∀ p∈s.1,p.2.1=("to" : Str)/\0<=p.2.2/\p.2.2<rM ns
 tl:∀ s∈ss,∀ p∈s.2,p.2.2.1=("thing" : Str)/\0<=p.2.2.2/\p.2.2.2<80
 all:(ss.flatMap (·.2)).length<=i
theorem R1.r3 (h:R1 ns k ss):R3 ns 0 ss:=by
 refine ⟨h.len,h.one,h.to,(fun s hs p hp=>by rw [h.nil s hs] at hp;cases hp),?_⟩
 have:ss.flatMap (·.2)=[]:=List.flatMap_eq_nil_iff.mpr h.nil
 rw [this];exact XaW _
theorem rS2_ok (ns:List Int):R3 ns 0 (rS2 ns):=by
 have hm:=Ziu ns;have h:=Ziv ns (rM ns - 1) (XaW _);unfold rS2
 split
 . exact (h.add (p:=rLst ns) (by omega) ⟨rfl,ZbA ns 0⟩).r3
 . exact h.r3
theorem rTh_rng (c:Int):0<=rTh c/\rTh c<80:=by unfold rTh;split <;> omega
theorem Zg8 (ns:List Int):∀ i,R3 ns i (rS3 ns i)
 | 0=>rS2_ok ns
 | i + 1 => by
   have h:=Zg8 ns i;show R3 ns (i+1) (Zfb (rS3 ns i) _ _);generalize (rSp ns ((rCs ns).getD i 0 % (rM ns:Int)).toNat).toNat=n;generalize (rCs ns).getD i 0=c;generalize rS3 ns i=ss at h
   by_cases hn:n<ss.length
   . have hm:=Zc5 hn
     have key:∀ s∈Zfb ss n (rTl ns c),s∈ss\/s=((ss.getD n ([],[])).1,(ss.getD n ([],[])).2++[rTl ns c]):=fun s hs=>List.mem_or_eq_of_mem_set hs;refine ⟨by unfold Zfb;rw [XaD];exact h.len,fun s hs=>?_,fun s hs q hq=>?_,fun s hs q hq=>?_,Xbg Ziw (by have:=h.all;omega)⟩
     . rcases key s hs with hs | rfl
       . exact h.one s hs
       . exact h.one (ss.getD n ([],[])) hm
     . rcases key s hs with hs | rfl
       . exact h.to s hs q hq
       . exact h.to _ hm q hq
     . rcases key s hs with hs | rfl
       . exact h.tl s hs q hq
       . rcases Xaf.mp hq with hq | hq
         . exact h.tl _ hm q hq
         . rw [Xaj.mp hq];exact ⟨rfl,rTh_rng c⟩
   . have e:Zfb ss n (rTl ns c)=ss:=List.set_eq_of_length_le (by omega)
     rw [e];exact ⟨h.len,h.one,h.to,h.tl,by have:=h.all;omega⟩
structure MdR (ns:List Int) (ss:List Sco) (gs:List (Str×Int)) (qs:List Qu) (sts:List Stt) (inn:Int) (ord:List (Str×Str)):Prop where
 ss:ss=rS3 ns (rCs ns).length
 gs:gs=List.replicate 80 (("plain" : Str),(0:Int))
 qs:qs=[rQu ns]
 tb:TbR ns (rLs ns) sts inn ord
theorem MdR.uniq {ns:List Int}{ss ss':List Sco}{gs gs':List (Str×Int)} {qs qs':List Qu} {sts sts':List Stt} {inn inn':Int} {ord ord':List (Str×Str)} (h:MdR ns ss gs qs sts inn ord) (k:MdR ns ss' gs' qs' sts' inn' ord'):ss=ss'/\gs=gs'/\qs=qs'/\sts=sts'/\inn=inn'/\ord=ord':=by
 obtain ⟨a,b,c⟩:=h.tb.uniq k.tb;exact ⟨h.ss.trans k.ss.symm,h.gs.trans k.gs.symm,h.qs.trans k.qs.symm,a,b,c⟩
variable {inn:Int}{ord:List (Str×Str)}
theorem md_one {gs:List (Str×Int)} {qs:List Qu} {sts:List Stt} (h:MdR ns ss gs qs sts inn ord):∀ s∈ss,s.1.length<=1:=by rw [h.ss];exact (Zg8 ns _).one
theorem md_ok {gs:List (Str×Int)} {qs:List Qu} {sts:List Stt} (h:MdR ns ss gs qs sts inn ord):LOk ⟨ss,gs,[none],sts⟩ qs inn ord:=by
 have hm:=Ziu ns;have r:=Zg8 ns (rCs ns).length;rw [<-h.ss] at r
 have eg:gs.length=80:=by rw [h.gs,List.length_replicate]
 have lc:(rCs ns).length<=6:=by rw [Xaw];omega
 have lst:=h.tb.len
 have W0:WOk0 ⟨ss,gs,[none],sts⟩:=by
  refine ⟨fun s hs=>?_,fun s hs p hp=>?_,fun p hp=>?_,fun p hp _=>?_,fun s hs p hp=>?_⟩
  . exact Xbg (r.one s hs) (by decide)
  . have:=r.to s hs p hp
    refine .inl ⟨this.1,this.2.1,?_⟩;show p.2.2<(ss.length:Int);rw [r.len];exact this.2.2
  . left
    have hp':p∈gs:=hp;rw [h.gs] at hp';rw [(List.mem_replicate.mp hp').2];exact ⟨rfl,rfl⟩
  . cases Xaj.mp hp
  . obtain ⟨i,hi,e⟩:=List.getElem_of_mem hs
    have st:=h.tb.at_ i s (by rw [Xab hi,e])
    have:=Zkw 2 p (st.pg.mem_iff.mp hp)
    show 0<=p.2/\p.2<(sts.length:Int);rw [lst];exact this
 obtain ⟨ok,sm⟩:=ZhH W0 r.one (by show ss.length<=60;rw [r.len];omega) (Xbg r.all (by omega)) (fun s hs p hp=>by
  have:=r.tl s hs p hp
  refine .inl ⟨this.1,this.2.1,?_⟩;show p.2.2.2<(gs.length:Int)
  rw [eg];exact this.2.2)
 refine ⟨ok,sm,?_,h.tb.ord.irr (Zly (by decide)),?_,fun q hq=>?_⟩
 . have:=h.tb.ord.len (by rw [ZeP];decide)
   omega
 . show 0<=inn/\inn<(sts.length:Int)
   rw [h.tb.inn,lst];omega
 . rw [h.qs] at hq
   rw [Xaj.mp hq]
   have:=ZbA ns (Zas ns 7 % (rM ns:Int)).toNat
   refine ⟨⟨this.1,by show _<(ss.length:Int);rw [r.len];exact this.2⟩,⟨?_,?_⟩,XaW _,by show 1<=8;decide⟩
   . show 0<=Zas ns 7 / 40 % 2;omega
   . show Zas ns 7 / 40 % 2<(sts.length:Int);rw [lst];omega
theorem ZdD {i:Int} (h0:0<=i) (h1:i<xs.length):atI (xs.map V.str) i=some (.str (xs.getD i.toNat default)):=by
 obtain ⟨n,rfl⟩:=Xa3 h0;exact ZdC (by omega)
theorem Zkx {H4 H':Hp}{S:Addr}{us Gs Es:List Addr}{n:Int}(nd:(S :: (Gs++Es)).Nodup) (hfr:∀ x∈Gs++Es,H4 x=none) (s:Same H4 H') (SC:Scs H' S us Gs Es ss) (ls:ss.length=m) (hn:0<=n/\n<m):∃ (u G E1:Addr) (tG tE:List Addr),atI (us.map V.ref) n=some (.ref u)/\H' u=some (.tup [.ref G,.ref E1])/\H' G=some (.lst (tG.map V.ref))/\tG.length=(ss.getD n.toNat ([],[])).1.length/\H' E1=some (.lst (tE.map V.ref))/\tE.length=(ss.getD n.toNat ([],[])).2.length/\E1∈Gs++Es/\(∀ {H2:Hp} {tp:Addr} {p:Stp},Same H' H2->H2 tp=some (.tup (stpV p))->Same H4 (upd H2 G (.lst (tG.map V.ref++[.ref tp])))/\Scs (upd H2 G (.lst (tG.map V.ref++[.ref tp]))) S us Gs Es (Zg7 ss n.toNat p))/\(∀ {H2:Hp} {tp:Addr} {p:Tlg},Same H' H2->H2 tp=some (.tup (tlgV p))->Same H4 (upd H2 E1 (.lst (tE.map V.ref++[.ref tp])))/\Scs (upd H2 E1 (.lst (tE.map V.ref++[.ref tp]))) S us Gs Es (Zfb ss n.toNat p)):=by
 obtain ⟨k,hk⟩:=Xa3 hn.1
 have hml:k<ss.length:=by omega
 obtain ⟨u,G,E1,g1,g2,g3,g4,⟨c0,⟨tG,b1,b2⟩,⟨tE,d1,d2⟩⟩⟩:=SC.get hml
 have eget:ss.getD k ([],[])=ss[k]:=by rw [Xaq,Xab hml];rfl
 have mG:G∈Gs++Es:=XaA _ (Xah g2);have mE:E1∈Gs++Es:=Xan _ (Xah g3);rw [hk,Xa4];refine ⟨u,G,E1,tG,tE,Zar (by rw [Xag,g1];rfl),c0,b1,by rw [eget];exact b2.len,d1,by rw [eget];exact d2.len,mE,fun {H2 tp p} s2 etp=>⟨fun x o e=>?_,?_⟩,fun {H2 tp p} s2 etp=>⟨fun x o e=>?_,?_⟩⟩
 . rw [Zal (Zad e (hfr G mG))];exact s2 _ _ (s _ _ e)
 . have:=(SC.same s2).step nd hml g2 (s2 _ _ b1) (b2.same s2) etp
   unfold Zg7;rw [eget];exact this
 . rw [Zal (Zad e (hfr E1 mE))];exact s2 _ _ (s _ _ e)
 . have:=(SC.same s2).tell nd hml g3 (s2 _ _ d1) (d2.same s2) etp
   unfold Zfb;rw [eget];exact this
theorem ZhL (n:Int):0<=n % 2/\n % 2<2:=by omega
theorem Zix {α β:Type}{f:α->List β}:∀ {l:List α}{x:α},x∈l->(f x).length<=(l.flatMap f).length
 | y :: l,x,h=>by
   rw [List.flatMap_cons,Xac]
   rcases Xam.mp h with rfl | h
   . omega
   . have:=Zix (f:=f) h;omega
theorem four_rm:([]:List V).length+1+1+1+1<=sizeLine:=by decide
inductive E__law_made (K:XFg) (vs:List V) (H:Hp) (Q:VK):Prop where
 | mk (a:Addr) (ns:List Int) (h0:vs=[.ref a]) (h1:SqL K H a (ns.map V.int)) (h2:ns.length<=63) (h3:∀ (r nt t S T R:Addr) (us Gs Es ts qt:List Addr) (ss:List Sco) (gs:List (Str×Int)) (qs:List Qu) (sts:List Stt) (inn:Int) (ord:List (Str×Str)) (H':Hp),Same H H'->H' r=some (.tup [.ref nt,.ref t])->H' nt=some (.tup [.ref S,.ref T,.ref R])->Net3 H' S T R us Gs Es ts qt ss gs qs->Tab K (fun _=>True) H' t sts inn ord->MdR ns ss gs qs sts inn ord->Q (.ref r) H'):E__law_made K vs H Q
def Zg9 (K:XFg):Sp:=fun vs H Q _=>E__law_made K vs H Q
variable (P w K mg base) in
abbrev Zco:Prop:=ZaB P w K mg base "_law_made" 4 ["_law_script"] (Zg9 K)
theorem Zfc (B:Blt mg) (c__law_names:ZcO P w K mg base) (c__law_cell_at:Zbv P w K mg base) (c__law_table:ZcR P w K mg base) (F:Fun K "_law_made" "_law_made" Zbo f fd) (hm:mg "_law_made" = some (.ref f)):Zco P w K mg base:=by
 refine ⟨f,fd,?_,hm,F.kp,F.binds fun _ _ _ _ _ _ us hl=>(by obtain ⟨x0,rfl⟩:=ZiX hl;rfl)⟩;refine F.ok sc__law_made (fun vs H Q E h=>?_) (fun cdv A outer s H vs Q E hr h=>?_)
 . obtain ⟨a,ns,rfl,_⟩:=h
   rfl
 . obtain ⟨a,ns,rfl,hS,hlen,q⟩:=h
   have z1:=Ziu ns
   refine ⟨_,(Zab (Zap (i:=1) sc__law_made.nd rfl (Or.inl rfl) (Zaz c__law_names (hr.mono (by decide)) rfl (Zaa (Zaz c__law_cell_at (hr.mono (by decide)) rfl (Zaa (pv 0) (Zaa Zae Zac))) (Zaa Zae Zac))))
    (Zab (Zap (i:=2) sc__law_made.nd rfl (Or.inl rfl) (Zaz c__law_names (hr.mono (by decide)) rfl (Zaa (Zaz c__law_cell_at (hr.mono (by decide)) rfl (Zaa (pv 0) (Zaa Zae Zac))) (Zaa Zae Zac))))
    (Zab (Zap (i:=3) sc__law_made.nd rfl (Or.inr rfl) (Zaz c__law_cell_at (hr.mono (by decide)) rfl (Zaa (pv 0) (Zaa Zae Zac))))
    (Zab (Zap (i:=4) sc__law_made.nd rfl (Or.inr rfl) (Zau Zb6 Zae (Zau ZaP (pv 3) Zae)))
    (Zab (Zap (i:=5) sc__law_made.nd rfl (Or.inr rfl) (Zam Zai (ZaJ (Zaa Zae (Zaa (Zhq Zep Zae) Zac))) (Zau ZaP (Zau Zbp (pv 3) Zae) Zae) (fun _ _=>rfl)))
    (Zab (Zdi (i:=6) sc__law_made.nd rfl (Or.inl rfl) rfl _law_made_cs1 (Za9 rfl B.b_range (Zaa (pv 4) Zac)) (fun _ _ _ _ _=>(Zag (i:=0) _law_made_cs1.nd rfl (Or.inl rfl))) (fun _ _ _ _ _=>ZcJ) (fun _ _ _ _ _=>(Zau ZaP (Zau Zb6 (Zau Zbp (pv 2) Zae) (Zau ZbV (pv 3) (pv 0))) (pv 1))))
    (Zab (Zdi (i:=7) sc__law_made.nd rfl (Or.inl rfl) rfl _law_made_cs2 (Za9 rfl B.b_range (Zaa (pv 4) Zac)) (fun _ _ _ _ _=>(Zag (i:=0) _law_made_cs2.nd rfl (Or.inl rfl))) (fun _ _ _ _ _=>ZcJ) (fun _ _ _ _ _=>(Zat (Zaa (ZaJ Zac) (Zaa (ZaJ Zac) Zac)))))
    (Zab (Zap (i:=8) sc__law_made.nd rfl (Or.inl rfl) (Zau ZaP (Zau ZbV (Zaz c__law_cell_at (hr.mono (by decide)) rfl (Zaa (pv 0) (Zaa Zae Zac))) Zae) Zae))
    (Zab (ZaQ Xbr rfl (Za9 rfl B.b_range (Zaa (Zau op_sub (pv 4) Zae) Zac)) (Zag (i:=9) sc__law_made.nd rfl (Or.inl rfl)) (Zah (ZaW (Zb4 Xa8 Xa9 Xba ZaK (Zam Zai (Zam Zai (pv 7) (Zam Zai (pv 6) (pv 9) (fun _ _=>rfl)) (fun _ _=>rfl)) Zae (fun _ _=>rfl)) (Zaa (Zat (Zaa (Zam Zai (pv 2) (Zau ZaP (Zau op_shr (pv 8) (pv 9)) Zae) (fun _ _=>rfl)) (Zaa ZaE (Zaa (Zam Zai (pv 6) (Zau Zb6 (pv 9) Zae) (fun _ _=>rfl)) Zac)))) Zac)))))
    (Zab (ZaN (Zaw Zbq (Zau ZaP (Zaz c__law_cell_at (hr.mono (by decide)) rfl (Zaa (pv 0) (Zaa Zae Zac))) Zae) Zae (ZaA _)) (Zah (ZaW (Zb4 Xa8 Xa9 Xba ZaK (Zam Zai (Zam Zai (pv 7) (Zam Zai (pv 6) (Zhq Zep Zae) (fun _ _=>rfl)) (fun _ _=>rfl)) Zae (fun _ _=>rfl)) (Zaa (Zat (Zaa (Zam Zai (pv 2) (Zau ZaP (Zau Zbp (Zaz c__law_cell_at (hr.mono (by decide)) rfl (Zaa (pv 0) (Zaa Zae Zac))) Zae) Zae) (fun _ _=>rfl)) (Zaa ZaE (Zaa (Zam Zai (pv 6) Zae (fun _ _=>rfl)) Zac)))) Zac)))) Zaq)
    (Zab (ZaQ Xbr rfl (ZaM (ZkQ sl_list (pv 0) (Zjp Zae) (Zjp Zae))) (Zag (i:=10) sc__law_made.nd rfl (Or.inl rfl)) (Zab (Zap (i:=11) sc__law_made.nd rfl (Or.inl rfl) (Zam Zai (pv 2) (Zau Zb6 Zae (Zau ZaP (Zau ZaP (Zau ZbV (pv 10) Zae) Zae) Zae)) (fun _ _=>rfl)))
     (Zab (Zap (i:=12) sc__law_made.nd rfl (Or.inl rfl) (Zam Zai (pv 1) (Zb7 Zeq (by rfl) B.b_int (by decide +kernel) (Zaa (Zb3 Zbq (Zau ZaP (Zau ZaP (Zau ZbV (pv 10) Zae) Zae) Zae) Zae (ZaA _)) Zac)) (fun _ _=>rfl)))
     (Zab (Zap (i:=13) sc__law_made.nd rfl (Or.inl rfl) (Zau ZaP (Zau ZbV (pv 10) Zae) Zae))
     (Zab (Zap (i:=14) sc__law_made.nd rfl (Or.inl rfl) (Zau ZaP (Zau Zbp (pv 13) Zae) (Zam Zai (ZaJ (Zaa Zae (Zaa Zae Zac))) (Zau ZaP (pv 13) Zae) (fun _ _=>rfl))))
     (Zah (ZaW (Zb4 Xa8 Xa9 Xba ZaK (Zam Zai (Zam Zai (pv 7) (Zam Zai (pv 6) (Zau ZaP (pv 10) (pv 4)) (fun _ _=>rfl)) (fun _ _=>rfl)) Zae (fun _ _=>rfl)) (Zaa (Zat (Zaa (pv 11) (Zaa (pv 12) (Zaa ZaE (Zaa (pv 14) Zac))))) Zac)))))))))
    (Zab (Zap (i:=15) sc__law_made.nd rfl (Or.inl rfl) (Zaz c__law_cell_at (hr.mono (by decide)) rfl (Zaa (pv 0) (Zaa Zae Zac))))
    (Zab (Zap (i:=16) sc__law_made.nd rfl (Or.inl rfl) (Zat (Zaa (Zam Zai (pv 6) (Zau ZaP (pv 15) (pv 4)) (fun _ _=>rfl)) (Zaa (Zau ZaP (Zau Zbp (pv 15) Zae) Zae) (Zaa (Zat (Zaa (Zam Zai (pv 1) (Zau Zbp (Zau ZaP (Zau Zbp (pv 15) Zae) Zae) Zae) (fun _ _=>rfl)) Zac)) Zac)))))
    (Zab (Zdi (i:=17) sc__law_made.nd rfl (Or.inl rfl) rfl _law_made_cs3 (Za9 rfl B.b_range (Zaa Zae Zac)) (fun _ _ _ _ _=>(Zag (i:=0) _law_made_cs3.nd rfl (Or.inl rfl))) (fun _ _ _ _ _=>ZcJ) (fun _ _ _ _ _=>(Zat (Zaa ZaE (Zaa Zae Zac)))))
    (Zah (Zao (Zat (Zaa (Zat (Zaa (pv 7) (Zaa (pv 17) (Zaa (ZaJ (Zaa (pv 16) Zac)) Zac)))) (Zaa (Zaz c__law_table (hr.mono (by decide)) rfl (Zaa (pv 0) (Zaa (pv 2) Zac))) Zac))))))))))))))))))),?_⟩
   try dsimp only [cxOf,Cx.nox,Cx.wish]
   refine ⟨_,rfl,a,ns,0,rfl,by decide,hS,_,2,rfl,by decide,by decide,fun N H1 hN s1 eN=>?_⟩;refine g_in ?_;try dsimp only
   refine ⟨_,rfl,a,ns,1,rfl,by decide,s1.seq hS,_,5,rfl,by decide,by decide,fun L H2 hL s2 eL=>?_⟩;have s02:=s1.trans s2;have eN2:=s2 _ _ eN;refine g_in ?_;try dsimp only
   refine ⟨_,rfl,a,ns,2,rfl,by decide,s02.seq hS,?_⟩;refine g_in ?_;try dsimp only
   refine ⟨_,rfl,_,_,rfl,rfl,(by show (0:Int)<40;decide),_,_,rfl,rfl,?_⟩;try dsimp only
   rw [show (1+Zas ns 2 % 40:Int)=(rM ns:Int) by unfold rM;omega];refine g_in ?_;try dsimp only
   refine ⟨_,rfl,ZaI,fun wl hwl=>?_⟩;obtain ⟨H3,qH3,s3,ewl⟩:=new_at (o:=.lst [.int 1,.int (-1)]) hwl;rw [<-qH3]
   have hatw:atI [V.int 1,V.int (-1)] (Zas ns 2 / 40 % 2)=some (.int (rW ns)):=by
    unfold rW
    by_cases e:Zas ns 2 / 40 % 2=0
    . rw [Xbe e,e];exact Zar (j:=0) rfl
    . rw [Xbd e,show Zas ns 2 / 40 % 2=((1:Nat):Int) by omega];exact Zar (j:=1) rfl
   refine ⟨_,rfl,_,_,rfl,rfl,⟨by decide,by decide⟩,_,_,rfl,rfl,(by show (0:Int)<2;decide),Or.inl ⟨wl,_,_,.int (rW ns),rfl,rfl,SqL.of ewl,hatw,?_⟩⟩;refine g_in ?_;try dsimp only
   have s03:=s02.trans s3;have eL3:=s3 _ _ eL;have eN3:=s3 _ _ eN2;have hw2:=rW_two ns
   refine ⟨_,rfl,_,rfl,by omega,by omega,Zdj (lo:=0) (n:=rM ns) (fun D i ys H'=>Same H3 H'/\H' D=some (.lst ys)/\ys=(List.range i).map fun k=>V.int (rSp ns k))
    (fun D hD=>⟨Zak hD,upd_same,rfl⟩) (fun D i ys H4 RR hD hi hv k=>?_) (fun P ys H4 hP hv=>?_)⟩
   . obtain ⟨s4,eD,rfl⟩:=hv
     refine ⟨_,rfl,_,_,rfl,rfl,⟨by decide,by decide⟩,_,rfl,_,rfl,_,_,rfl,rfl,Or.inl ⟨by show -2 ^ 64<rW ns;omega,by show rW ns<2 ^ 64;omega⟩,_,_,rfl,rfl,_,rfl,_,_,rfl,rfl,(by show (0:Int)<rM ns;omega),?_⟩;refine k _ _ eD (by rw [Xaa,List.length_range];exact Zan (by omega)) ⟨fun b o e=>?_,upd_same,?_⟩
     . rw [Zal (Zad e hD)];exact s4 _ _ e
     . rw [List.range_succ,Xad]
       show _++[V.int ((Zas ns 2 / 80+rW ns * (0+(i:Int))) % (rM ns:Int))]=_;rw [Int.zero_add];rfl
   obtain ⟨s4,eP,rfl⟩:=hv;try dsimp only
   have s04:=s03.trans s4;have eL4:=s4 _ _ eL3;have eN4:=s4 _ _ eN3;have spk:∀ {k:Nat},k<rM ns->atI ((List.range (rM ns)).map fun k=>V.int (rSp ns k)) (k:Int)=some (.int (rSp ns k)):=fun {k} hk=>Zar (by rw [Xag,List.getElem?_range hk];rfl)
   refine ⟨_,rfl,_,rfl,by omega,by omega,Zdj (lo:=0) (n:=rM ns) (fun D i ys H'=>∃ us Gs Es:List Addr,ys=us.map V.ref/\Same H4 H'/\Scs H' D us Gs Es (List.replicate i (([],[]):Sco))/\(D :: (Gs++Es)).Nodup/\∀ x∈Gs++Es,H4 x=none)
    (fun D hD=>⟨[],[],[],rfl,Zak hD,Scs.nil upd_same,by simp,fun x hx=>by simp at hx⟩) (fun D i ys H7 RR hD hi hv k=>?_) (fun S ys H7 hS7 hv=>?_)⟩
   . obtain ⟨us,Gs,Es,rfl,s7,SC,nd,hfr⟩:=hv
     have lus:=SC.lu;rw [List.length_replicate] at lus;refine ⟨by decide,fun G hG=>?_⟩;obtain ⟨H8,qH8,t1,eG⟩:=new_at (o:=.lst []) hG;rw [<-qH8];refine ⟨by decide,fun E1 hE1=>?_⟩;obtain ⟨H9,qH9,t2,eE1⟩:=new_at (o:=.lst []) hE1;rw [<-qH9];refine ⟨ZaI,fun u hu=>?_⟩;obtain ⟨H10,qH10,t3,eu⟩:=new_at (o:=.tup [.ref G,.ref E1]) hu;rw [<-qH10];have t13:=(t1.trans t2).trans t3;have t23:=t2.trans t3;have SC8:=SC.same t13;have al:=SC.alive
     have nG:G ∉ D :: (Gs++Es):=fun y=>by
      rcases Xam.mp y with y | y
      . rw [y,SC.top] at hG;cases hG
      . obtain ⟨xs,e⟩:=al G y
        rw [e] at hG;cases hG
     have nE:E1 ∉ D :: (Gs++Es):=fun y=>by
      rcases Xam.mp y with y | y
      . rw [y,t1 _ _ SC.top] at hE1;cases hE1
      . obtain ⟨xs,e⟩:=al E1 y
        rw [t1 _ _ e] at hE1;cases hE1
     have nGE:G≠E1:=fun y=>by rw [<-y,eG] at hE1;cases hE1
     have hs8:ScH H10 u G E1 ([],[]):=⟨eu,⟨[],t23 _ _ eG,RT.nil⟩,⟨[],t3 _ _ eE1,RT.nil⟩⟩;have SC9:=SC8.snoc hs8 (fun z=>nG (z ▸ Xal)) (fun z=>nE (z ▸ Xal)) (fun x hx z=>(XaC.mp nd).1 (z ▸ hx));refine k _ _ SC8.top (by rw [Xaa,lus];exact Zan (by omega)) ⟨us++[u],Gs++[G],Es++[E1],by rw [Xad];rfl,fun b o e=>?_,?_,Zla nd nG nE nGE,fun x hx=>?_⟩
     . rw [Zal (Zad e hD)];exact t13 _ _ (s7 _ _ e)
     . rw [List.replicate_succ'];exact SC9
     . have:x∈Gs++Es\/x=G\/x=E1:=by
        simp only [Xaf,Xaj] at hx ⊢
        rcases hx with (h | h) | (h | h)
        . exact .inl (.inl h)
        . exact .inr (.inl h)
        . exact .inl (.inr h)
        . exact .inr (.inr h)
       rcases this with h | h | h
       . exact hfr x h
       . rw [h];exact s7.free hG
       . rw [h];exact (s7.trans t1).free hE1
   obtain ⟨us,Gs,Es,rfl,s7,SC7,nd,hfr⟩:=hv;try dsimp only
   have s07:=s04.trans s7;refine ⟨_,rfl,a,ns,5,rfl,by decide,s07.seq hS,_,_,rfl,rfl,Or.inr ⟨by decide,by decide⟩,_,_,rfl,rfl,(by show (0:Int)<2305843009213693951;decide),?_⟩;try dsimp only
   rw [show (Zas ns 5 * 864691128455135233 % 2305843009213693951:Int)=rKd ns from rfl];refine g_in ?_;try dsimp only
   have hk0:0<=rKd ns:=Xa2 _ (by decide);have lL:(rLs ns).length=5:=ZeP _ _;have lN:(rNs ns).length=2:=ZeP _ _;refine ⟨_,rfl,_,_,rfl,rfl,_,rfl,by omega,by omega,ZbO (lo:=0) (n:=((rM ns:Int) - 1).toNat) (fun i σ H'=>∃ u9,σ=[some (.ref a),some (.ref N),some (.ref L),some (.int (Zas ns 2)),some (.int (rM ns)),some (.int (rW ns)),some (.ref P),some (.ref S),some (.int (rKd ns)),u9,none,none,none,none,none,none,none,none]/\Same H4 H'/\Scs H' S us Gs Es (rS1 ns i)) ⟨none,rfl,s7,SC7⟩ ?_ ?_⟩
   . rintro i σ H8 hi ⟨u9,rfl,s8,SC8⟩
     refine g_in ?_;try dsimp only
     have ok8:=Ziv ns i (by omega);obtain ⟨u,G,E1,tG,tE,hatu,eu,eG,lG,_,_,_,add,_⟩:=Zkx nd hfr s8 SC8 ok8.len (ZbA ns i);have eP8:=(s7.trans (Same.refl _))
     have sp1:atI ((List.range (rM ns)).map fun k=>V.int (rSp ns k)) (0+(i:Int))=some (.int (rSp ns i)):=by rw [Int.zero_add];exact spk (by omega)
     have sp2:atI ((List.range (rM ns)).map fun k=>V.int (rSp ns k)) (0+(i:Int)+1)=some (.int (rSp ns (i+1))):=by rw [show (0+(i:Int)+1)=((i+1:Nat):Int) by omega];exact spk (by omega)
     have hb:=ZhL (rKd ns / 2 ^ (0+(i:Int)).toNat)
     have hlab:atI ((rLs ns).map V.str) (rKd ns / 2 ^ (0+(i:Int)).toNat % 2)=some (.str ((rLs ns).getD (rKd ns / 2 ^ i % 2).toNat default)):=by
      rw [show (0+(i:Int)).toNat=i by omega];have hb:=ZhL (rKd ns / 2 ^ i);exact ZdD hb.1 (by omega)
     have lG1:=ok8.one _ (Zc5 (n:=(rSp ns i).toNat) (by have:=ZbA ns i;have:=ok8.len;omega));refine ⟨_,rfl,_,rfl,_,rfl,Or.inl ⟨P,_,_,.int (rSp ns i),rfl,rfl,SqL.of (s8 _ _ eP),sp1,Or.inl ⟨S,_,_,.ref u,rfl,rfl,SqL.of SC8.top,hatu,Or.inr (Or.inl ⟨u,_,_,.ref G,rfl,rfl,SqT.of eu,rfl,Or.inl ⟨rfl,_,SqL.of eG⟩,_,rfl,_,rfl,_,rfl,_,_,rfl,rfl,(by show (0:Int)<=0+(i:Int);omega),_,_,rfl,rfl,(by show (0:Int)<2;decide),Or.inl ⟨L,_,_,_,rfl,rfl,SqL.of (s8 _ _ eL4),hlab,_,rfl,_,rfl,_,_,rfl,rfl,Or.inl ⟨P,_,_,.int (rSp ns (i+1)),rfl,rfl,SqL.of (s8 _ _ eP),sp2,ZaV,fun tp htp=>?_⟩⟩⟩)⟩⟩⟩
     have t1:=Zak (o:=.tup [.str ((rLs ns).getD (rKd ns / 2 ^ i % 2).toNat default),.str "to",.int (rSp ns (i+1))]) htp
     have etp:(upd H8 tp (.tup [.str ((rLs ns).getD (rKd ns / 2 ^ i % 2).toNat default),.str "to",.int (rSp ns (i+1))])) tp=some (.tup (stpV (rStp ns i))):=upd_same
     generalize upd H8 tp (.tup [.str ((rLs ns).getD (rKd ns / 2 ^ i % 2).toNat default),.str "to",.int (rSp ns (i+1))])=H9 at t1 etp ⊢
     obtain ⟨f1,f2⟩:=add t1 etp;exact ⟨G,_,_,rfl,rfl,t1 _ _ eG,by rw [Xaa,lG];exact Zan (by omega),_,rfl,f1,f2⟩
   rintro σ H8 ⟨u9,rfl,s8,SC8⟩;rw [show ((rM ns:Int) - 1).toNat=rM ns - 1 by omega] at SC8;have ok8:=Ziv ns (rM ns - 1) (XaW _);try dsimp only
   refine ZdL (fun σ' H'=>σ'=[some (.ref a),some (.ref N),some (.ref L),some (.int (Zas ns 2)),some (.int (rM ns)),some (.int (rW ns)),some (.ref P),some (.ref S),some (.int (rKd ns)),u9,none,none,none,none,none,none,none,none]/\Same H4 H'/\Scs H' S us Gs Es (rS2 ns)) ?_ (fun NX hN'=>?_);rotate_left
   . refine ⟨_,rfl,a,ns,6,rfl,by decide,(s04.trans s8).seq hS,_,_,rfl,rfl,(by show (0:Int)<2;decide),rfl,_,rfl,ite2 (fun d=>?_) (fun d=>?_)⟩
     rotate_left
     . refine hN' _ _ ⟨rfl,s8,?_⟩
       unfold rS2;rw [Xbd fun z=>d (Xa5 (by show V.int (Zas ns 6 % 2)=V.int 1;rw [z]))];exact SC8
     have d':Zas ns 6 % 2=1:=V.int.inj (Xa7 d);obtain ⟨u,G,E1,tG,tE,hatu,eu,eG,lG,_,_,_,add,_⟩:=Zkx nd hfr s8 SC8 ok8.len (ZbA ns (rM ns - 1))
     have spl:atI ((List.range (rM ns)).map fun k=>V.int (rSp ns k)) (-1)=some (.int (rSp ns (rM ns - 1))):=by
      have:rM ns=rM ns - 1+1:=by omega
      rw [this,List.range_succ,Xad];exact Zey _ _
     have hb:=ZhL (Zas ns 6 / 2);have hlab:atI ((rLs ns).map V.str) (Zas ns 6 / 2 % 2)=some (.str ((rLs ns).getD (Zas ns 6 / 2 % 2).toNat default)):=ZdD hb.1 (by omega);have lG1:=ok8.one _ (Zc5 (n:=(rSp ns (rM ns - 1)).toNat) (by have:=ZbA ns (rM ns - 1);have:=ok8.len;omega));refine ⟨_,rfl,_,rfl,_,rfl,Or.inl ⟨P,_,_,.int (rSp ns (rM ns - 1)),rfl,rfl,SqL.of (s8 _ _ eP),spl,Or.inl ⟨S,_,_,.ref u,rfl,rfl,SqL.of SC8.top,hatu,Or.inr (Or.inl ⟨u,_,_,.ref G,rfl,rfl,SqT.of eu,rfl,Or.inl ⟨rfl,_,SqL.of eG⟩,_,rfl,_,rfl,a,ns,6,rfl,by decide,(s04.trans s8).seq hS,_,_,rfl,rfl,⟨by decide,by decide⟩,_,_,rfl,rfl,(by show (0:Int)<2;decide),Or.inl ⟨L,_,_,_,rfl,rfl,SqL.of (s8 _ _ eL4),hlab,_,rfl,Or.inl ⟨P,_,_,.int (rSp ns 0),rfl,rfl,SqL.of (s8 _ _ eP),spk (k:=0) (by omega),ZaV,fun tp htp=>?_⟩⟩⟩)⟩⟩⟩
     have t1:=Zak (o:=.tup [.str ((rLs ns).getD (Zas ns 6 / 2 % 2).toNat default),.str "to",.int (rSp ns 0)]) htp
     have etp:(upd H8 tp (.tup [.str ((rLs ns).getD (Zas ns 6 / 2 % 2).toNat default),.str "to",.int (rSp ns 0)])) tp=some (.tup (stpV (rLst ns))):=upd_same
     generalize upd H8 tp (.tup [.str ((rLs ns).getD (Zas ns 6 / 2 % 2).toNat default),.str "to",.int (rSp ns 0)])=H9 at t1 etp ⊢
     obtain ⟨f1,f2⟩:=add t1 etp;refine ⟨G,_,_,rfl,rfl,t1 _ _ eG,by rw [Xaa,lG];exact Zan (by omega),hN' _ _ ⟨rfl,f1,?_⟩⟩;unfold rS2;rw [Xbe d'];exact f2
   rintro σ' H9 ⟨rfl,s9,SC9⟩;refine ⟨_,rfl,_,rfl,_,rfl,a,_,rfl,(s04.trans s9).seq hS,fun p0 h0=>?_⟩;rw [show cutV (ns.map V.int) (some 8) (some 14)=(rCs ns).map V.int from (Zk0 _ 8 14 (by decide)).trans (by rw [<-List.map_drop,<-List.map_take])];obtain ⟨H10,qH10,s10,ep0⟩:=new_at (o:=.lst ((rCs ns).map V.int)) h0;rw [<-qH10]
   have np0:p0 ∉ Gs++Es:=fun y=>by
    obtain ⟨xs,e⟩:=SC9.alive p0 y;rw [e] at h0;cases h0
   have lcs:(rCs ns).length<=6:=by rw [Xaw];omega
   refine ⟨p0,rfl,⟨_,SqL.of ep0⟩,Za2 (xs:=(rCs ns).map V.int) (fun i σ H'=>∃ u10 u11 u12 u13 u14,σ=[some (.ref a),some (.ref N),some (.ref L),some (.int (Zas ns 2)),some (.int (rM ns)),some (.int (rW ns)),some (.ref P),some (.ref S),some (.int (rKd ns)),u9,u10,u11,u12,u13,u14,none,none,none]/\Same H4 H'/\H' p0=some (.lst ((rCs ns).map V.int))/\Scs H' S us Gs Es (rS3 ns i)) ⟨none,none,none,none,none,rfl,s9.trans s10,ep0,SC9.same s10⟩ (fun i σ H' _ hv_=>by obtain ⟨_,_,_,_,_,_,_,e,_⟩:=hv_;exact SqL.of e) ?_ ?_⟩
   . rintro i y σ H11 hy ⟨u10,u11,u12,u13,u14,rfl,s11,ep11,SC11⟩
     obtain ⟨c,hc,rfl⟩:=getm hy
     have ec:(rCs ns).getD i 0=c:=by rw [Xaq,hc];rfl
     refine g_in ?_;try dsimp only
     have h3:0<=c * 48271 % 65521 % 3/\c * 48271 % 65521 % 3<3:=by omega
     have hlab:atI ((rLs ns).map V.str) (2+c * 48271 % 65521 % 3)=some (.str (rTl ns c).1):=ZdD (by omega) (by omega);refine ⟨_,rfl,_,rfl,_,_,rfl,rfl,Or.inr ⟨by decide,by decide⟩,_,_,rfl,rfl,(by show (0:Int)<65521;decide),_,_,rfl,rfl,(by show (0:Int)<3;decide),_,_,rfl,rfl,Or.inl ⟨L,_,_,_,rfl,rfl,SqL.of (s11 _ _ eL4),hlab,?_⟩⟩;refine g_in ?_;try dsimp only
     have hnam:atI ((rNs ns).map V.str) (if decide (V.int (c * 16807 % 65519 % 4)=V.int 0)=true then 1 else 0)=some (.str (rTl ns c).2.1):=by
      show _=some (V.str ((rNs ns).getD (if c * 16807 % 65519 % 4=0 then 1 else 0) default))
      by_cases h:c * 16807 % 65519 % 4=0
      . rw [Xbe (Xa5 (by rw [h])),Xbe h];exact ZdC (n:=1) (by omega)
      . rw [Xbd (by rw [Xa6 (fun z=>h (V.int.inj z))];exact Xbb),Xbd h];exact ZdC (n:=0) (by omega)
     refine ⟨_,rfl,_,rfl,_,_,rfl,rfl,Or.inr ⟨by decide,by decide⟩,_,_,rfl,rfl,(by show (0:Int)<65519;decide),_,_,rfl,rfl,(by show (0:Int)<4;decide),rfl,Or.inr ⟨_,rfl,Or.inl ⟨N,_,_,_,rfl,rfl,SqL.of (s11 _ _ eN4),hnam,?_⟩⟩⟩;refine g_in ?_;try dsimp only
     refine ⟨_,rfl,_,_,rfl,rfl,Or.inr ⟨by decide,by decide⟩,_,_,rfl,rfl,(by show (0:Int)<65497;decide),?_⟩;refine g_in ?_;try dsimp only
     refine ⟨_,rfl,_,_,rfl,rfl,⟨by decide,by decide⟩,ZaI,fun tl htl=>?_⟩;obtain ⟨H12,qH12,t1,etl⟩:=new_at (o:=.lst [.int 2,.int 80]) htl;rw [<-qH12]
     have hmd:atI [V.int 2,V.int 80] (c * 69621 % 65497 % 2)=some (.int (if c * 69621 % 65497 % 2=0 then 2 else 80)):=by
      by_cases e:c * 69621 % 65497 % 2=0
      . rw [Xbe e,e];exact Zar (j:=0) rfl
      . rw [Xbd e,show c * 69621 % 65497 % 2=((1:Nat):Int) by omega];exact Zar (j:=1) rfl
     refine ⟨_,rfl,_,_,rfl,rfl,(by show (0:Int)<2;decide),Or.inl ⟨tl,_,_,_,rfl,rfl,SqL.of etl,hmd,_,_,rfl,rfl,(by show (0:Int)<if c * 69621 % 65497 % 2=0 then 2 else 80;split <;> decide),?_⟩⟩
     refine g_in ?_;try dsimp only
     have s12:=s11.trans t1;have SC12:=SC11.same t1;have ok12:=Zg8 ns i;have cm:0<=c % (rM ns:Int)/\c % (rM ns:Int)<rM ns:=⟨Xa2 _ (by omega),Xa1 _ (by omega)⟩;obtain ⟨u,G,E1,tG,tE,hatu,eu,_,_,eE,lE,mE,_,tel⟩:=Zkx nd hfr s12 SC12 ok12.len (ZbA ns (c % (rM ns:Int)).toNat)
     have sp1:atI ((List.range (rM ns)).map fun k=>V.int (rSp ns k)) (c % (rM ns:Int))=some (.int (rSp ns (c % (rM ns:Int)).toNat)):=by
      obtain ⟨k,hk⟩:=Xa3 cm.1;rw [hk,Xa4];exact spk (by omega)
     have lE1:(((rS3 ns i).getD (rSp ns (c % (rM ns:Int)).toNat).toNat ([],[])).2).length<=6:=by
      have hm:=Zc5 (ss:=rS3 ns i) (n:=(rSp ns (c % (rM ns:Int)).toNat).toNat) (by have:=ZbA ns (c % (rM ns:Int)).toNat;have:=ok12.len;omega);have h1:=ok12.all;have h2:=Zix (f:=fun s:Sco=>s.2) hm;have h4:i<(rCs ns).length:=(Xae.mp hc).1;omega
     refine ⟨_,rfl,_,rfl,_,rfl,_,rfl,_,_,rfl,rfl,(by show (0:Int)<rM ns;omega),Or.inl ⟨P,_,_,_,rfl,rfl,SqL.of (s12 _ _ eP),sp1,Or.inl ⟨S,_,_,.ref u,rfl,rfl,SqL.of SC12.top,hatu,Or.inr (Or.inl ⟨u,_,_,.ref E1,rfl,rfl,SqT.of eu,rfl,Or.inl ⟨rfl,_,SqL.of eE⟩,_,rfl,_,rfl,_,rfl,four_rm,fun tp htp=>?_⟩)⟩⟩⟩
     have t2:=Zak (o:=.tup [.str (rTl ns c).1,.str (rTl ns c).2.1,.str "thing",.int (rTh c)]) htp
     have etp:(upd H12 tp (.tup [.str (rTl ns c).1,.str (rTl ns c).2.1,.str "thing",.int (rTh c)])) tp=some (.tup (tlgV (rTl ns c))):=upd_same
     generalize upd H12 tp (.tup [.str (rTl ns c).1,.str (rTl ns c).2.1,.str "thing",.int (rTh c)])=H13 at t2 etp ⊢
     obtain ⟨f1,f2⟩:=tel t2 etp;refine ⟨E1,_,_,rfl,rfl,t2 _ _ eE,by rw [Xaa,lE];exact Zan (by omega),_,_,_,_,_,rfl,f1,?_,?_⟩
     . rw [Zal (fun z=>np0 (by rw [z];exact mE))];exact t2 _ _ (t1 _ _ ep11)
     . show Scs _ S us Gs Es (Zfb (rS3 ns i) (rSp ns ((rCs ns).getD i 0 % (rM ns:Int)).toNat).toNat (rTl ns ((rCs ns).getD i 0)))
       rw [ec];exact f2
   rintro σ H11 ⟨u10,u11,u12,u13,u14,rfl,s11,ep11,SC11⟩;rw [Xaa] at SC11;have s011:=s04.trans s11;refine ⟨_,rfl,a,ns,7,rfl,by decide,s011.seq hS,?_⟩;refine g_in ?_;try dsimp only
   have cm:0<=Zas ns 7 % (rM ns:Int)/\Zas ns 7 % (rM ns:Int)<rM ns:=⟨Xa2 _ (by omega),Xa1 _ (by omega)⟩
   have sp1:atI ((List.range (rM ns)).map fun k=>V.int (rSp ns k)) (Zas ns 7 % (rM ns:Int))=some (.int (rSp ns (Zas ns 7 % (rM ns:Int)).toNat)):=by
    obtain ⟨k,hk⟩:=Xa3 cm.1;rw [hk,Xa4];exact spk (by omega)
   have hnm:atI ((rNs ns).map V.str) (Zas ns 7 / 80 % 5 / 4)=some (.str ((rNs ns).getD (Zas ns 7 / 80 % 5 / 4).toNat default)):=ZdD (by omega) (by omega);refine ⟨_,rfl,_,rfl,_,rfl,_,_,rfl,rfl,(by show (0:Int)<rM ns;omega),Or.inl ⟨P,_,_,_,rfl,rfl,SqL.of (s11 _ _ eP),sp1,_,rfl,_,_,rfl,rfl,⟨by decide,by decide⟩,_,_,rfl,rfl,(by show (0:Int)<2;decide),_,rfl,_,rfl,_,_,rfl,rfl,⟨by decide,by decide⟩,_,_,rfl,rfl,(by show (0:Int)<5;decide),_,_,rfl,rfl,⟨by decide,by decide⟩,Or.inl ⟨N,_,_,_,rfl,rfl,SqL.of (s11 _ _ eN4),hnm,ZbP,fun pu hpu=>?_⟩⟩⟩;have s12:=Zak (o:=.tup [.str ((rNs ns).getD (Zas ns 7 / 80 % 5 / 4).toNat default)]) hpu;have epu:(upd H11 pu (.tup [.str ((rNs ns).getD (Zas ns 7 / 80 % 5 / 4).toNat default)])) pu=some (.tup ((rQu ns).2.2.map V.str)):=upd_same;generalize upd H11 pu (.tup [.str ((rNs ns).getD (Zas ns 7 / 80 % 5 / 4).toNat default)])=H12 at s12 epu ⊢;refine ⟨ZaV,fun pq hpq=>?_⟩;have s13:=Zak (o:=.tup [.int (rSp ns (Zas ns 7 % (rM ns:Int)).toNat),.int (Zas ns 7 / 40 % 2),.ref pu]) hpq;have epq:(upd H12 pq (.tup [.int (rSp ns (Zas ns 7 % (rM ns:Int)).toNat),.int (Zas ns 7 / 40 % 2),.ref pu])) pq=some (.tup [.int (rQu ns).1,.int (rQu ns).2.1,.ref pu]):=upd_same;generalize upd H12 pq (.tup [.int (rSp ns (Zas ns 7 % (rM ns:Int)).toNat),.int (Zas ns 7 / 40 % 2),.ref pu])=H13 at s13 epq ⊢;refine g_in ?_;try dsimp only
   refine ⟨80,rfl,by decide,by decide,Zdj (lo:=0) (n:=80) (fun D i ys H'=>∃ ts:List Addr,ys=ts.map V.ref/\Same H13 H'/\H' D=some (.lst ys)/\GT H' ts (List.replicate i (("plain" : Str),(0:Int)))) (fun D hD=>⟨[],rfl,Zak hD,upd_same,GT.nil⟩) (fun D i ys H14 RR hD hi hv k=>?_) (fun T ys H14 hT hv=>?_)⟩
   . obtain ⟨ts,rfl,s14,eD,T14⟩:=hv
     refine ⟨ZaI,fun t ht=>?_⟩
     obtain ⟨H15,qH15,t1,et⟩:=new_at (o:=.tup [.str "plain",.int 0]) ht
     rw [<-qH15];have eD15:=t1 _ _ eD
     have lts:ts.length=i:=by rw [T14.len,List.length_replicate]
     refine k _ _ eD15 (by rw [Xaa,lts];exact Zan (by omega)) ⟨ts++[t],by rw [Xad];rfl,fun x o e=>?_,upd_same,?_⟩
     . rw [Zal (Zad e hD)];exact t1 _ _ (s14 _ _ e)
     . rw [List.replicate_succ']
       exact ((T14.same t1).snoc (p:=(("plain" : Str),(0:Int))) et).updL eD15
   obtain ⟨ts,rfl,s14,eT,T14⟩:=hv;try dsimp only
   have s1114:=s12.trans (s13.trans s14);refine ⟨_,rfl,_,rfl,_,rfl,ZbP,fun R hR=>?_⟩;obtain ⟨H15,qH15,s15,eR⟩:=new_at (o:=.lst [.ref pq]) hR;rw [<-qH15];refine ⟨ZaV,fun nt hnt=>?_⟩;obtain ⟨H16,qH16,s16,ent⟩:=new_at (o:=.tup [.ref S,.ref T,.ref R]) hnt;rw [<-qH16];have s1416:=s15.trans s16;have s1116:=s1114.trans s1416;refine ⟨_,rfl,_,rfl,a,L,ns,rLs ns,rfl,(s011.trans s1116).seq hS,SqL.of ((s11.trans s1116) _ _ eL4),lL,fun t sts inn ord H17 s17 TB tbr=>?_⟩;refine ⟨ZaI,fun r hr=>?_⟩;have s18:=Zak (o:=.tup [.ref nt,.ref t]) hr;have s1618:=s17.trans s18;have s1418:=s1416.trans s1618;have s1118:=s1116.trans s1618;exact q r nt t S T R us Gs Es ts [pq] _ _ [rQu ns] sts inn ord _ (s011.trans s1118) upd_same (s1618 _ _ ent) ⟨SC11.same s1118,s1418 _ _ eT,T14.same s1418,(s16.trans s1618) _ _ eR,(QT.nil.snoc (q:=rQu ns) ((s14.trans s1418) _ _ epq) ((s13.trans (s14.trans s1418)) _ _ epu))⟩ (TB.same s18) ⟨rfl,rfl,rfl,tbr⟩
inductive E__law_next (K:XFg) (vs:List V) (H:Hp) (Q:VK):Prop where
 | mk (t a o:Addr) (inn:V) (ss:List Stt) (n:Int) (k:Nat) (s:Stt) (x:Str) (h0:vs=[.ref t,.int n,.str x]) (h1:n=k) (h2:SqT K H t [.ref a,inn,.ref o]) (h3:Stts K H a ss) (h4:ss[k]?=some s) (h5:Q (onV (goN s.1 x)) H):E__law_next K vs H Q
def Zha (K:XFg):Sp:=fun vs H Q _=>E__law_next K vs H Q
variable (P w K mg base) in
abbrev Zdp:Prop:=ZaB P w K mg base "_law_next" 1 ["_law_table_here", "_law_state", "_law_label_here"] (Zha K)
theorem Zfd (B:Blt mg) (F:Fun K "_law_next" "_law_next" Zde f fd) (hm:mg "_law_next" = some (.ref f)):Zdp P w K mg base:=by
 refine ⟨f,fd,?_,hm,F.kp,F.binds fun _ _ _ _ _ _ us hl=>(by obtain ⟨x0,x1,x2,rfl⟩:=Zfa hl;rfl)⟩;refine F.ok sc__law_next (fun vs H Q E h=>?_) (fun cdv A outer s H vs Q E hr h=>?_)
 . obtain ⟨t,a,o,inn,ss,n,k,s,x,rfl,_⟩:=h
   rfl
 . obtain ⟨t,a,o,inn,ss,n,k,s,x,rfl,rfl,hT,⟨vs,hS,hD⟩,hs,q⟩:=h
   obtain ⟨v,hv,hvs⟩:=hD.get' (i:=k) (d:=stD s) (by rw [Xag,hs];rfl);obtain ⟨st,g,e,rfl,hst,⟨gv,hg,hgd⟩,he⟩:=Zk7 hvs;have lgv:=hgd.len_map
   refine ⟨_,(Zab (ZaQ Xbr rfl (ZaM (Zam Zai (Zam Zai (Zam Zai (pv 0) Zae (fun _ _=>rfl)) (pv 1) (fun _ _=>rfl)) Zae (fun _ _=>rfl))) (ZaF rfl (Zaf (Zag (i:=3) sc__law_next.nd rfl (Or.inl rfl)) (Zaf (Zag (i:=4) sc__law_next.nd rfl (Or.inl rfl)) Zav))) (Zah (ZaN (Zaw Zbq (pv 3) (pv 2) (ZaA _)) (Zah (Zao (pv 4))) Zaq)))
    (Zah (Zao ZbU))),?_⟩
   try dsimp only [cxOf,Cx.nox,Cx.wish]
   refine ⟨_,rfl,Or.inr (Or.inl ⟨t,_,_,.ref a,rfl,rfl,hT,rfl,?_⟩)⟩;refine ⟨_,rfl,Or.inl ⟨a,vs,_,.ref st,rfl,rfl,hS,Zar hv,?_⟩⟩;refine Or.inr (Or.inl ⟨st,_,_,.ref g,rfl,rfl,hst,rfl,?_⟩);refine ⟨g,rfl,⟨_,hg⟩,Za2 (xs:=gv) (fun i σ H'=>∃ u4 u5,σ=[some (.ref t),some (.int k),some (.str x),u4,u5]/\H'=H/\∀ q∈s.1.take i,q.1≠x) ⟨none,none,rfl,rfl,fun q hq=>by simp at hq⟩ (fun i σ H' _ hv_=>by obtain ⟨_,_,_,e,_⟩:=hv_;exact by rw [e];exact hg) ?_ ?_⟩
   . rintro i y σ H2 hy ⟨u4,u5,rfl,rfl,hno⟩
     obtain ⟨p,t',hp,rfl,ht⟩:=hgd.goes_get hy;refine ⟨t',_,rfl,ht,rfl,_,_,rfl,_,_,rfl,rfl,?_⟩;refine ⟨_,rfl,_,rfl,rfl,_,rfl,?_⟩;refine ite2 (fun h1=>?_) (fun h1=>?_)
     . have h1:p.1=x:=V.str.inj (Xa7 h1)
       refine ⟨_,rfl,?_⟩;rw [ZjL hp h1 hno] at q;exact q
     . have h1:p.1≠x:=fun z=>h1 (Xa5 (by rw [z]))
       refine ⟨_,_,rfl,rfl,fun q hq=>?_⟩;rw [Xar,hp] at hq
       rcases Xaf.mp hq with hq | hq
       . exact hno q hq
       . rw [Xaj.mp hq];exact h1
   . rintro σ H2 ⟨u4,u5,rfl,rfl,hno⟩
     rw [lgv,Xas] at hno;rw [ZfS hno] at q;exact q
section
variable {W:Wd} {b:Beg} {p:Stp}
theorem ZlB (h:ZaD W b.2.1=[]):kids W b=[]:=by
 unfold kids ZbW;rw [h];rfl
theorem Zky (h:ZaD W b.2.1=[p]) (e:goN (Za7 W b.2.2) p.1=none):kids W b=[]:=by
 refine List.eq_nil_iff_forall_not_mem.mpr fun c hc=>?_;obtain ⟨r,hr,_,_,_⟩:=mem_kids.mp hc;obtain ⟨j,p',a,g1,g2,_⟩:=ZcN hr;rw [h] at g1;rw [<-Xaj.mp (Xah g1),g2] at e;cases e
theorem Zkz (h:ZaD W b.2.1=[p]) (hp:p.2.1=("to" : Str)) (hb:p.2.2∈been b):kids W b=[]:=by
 refine List.eq_nil_iff_forall_not_mem.mpr fun c hc=>?_;obtain ⟨r,hr,_,h2,_⟩:=mem_kids.mp hc;obtain ⟨j,p',a,g1,_,rfl⟩:=ZcN hr;rw [h] at g1;rw [Xaj.mp (Xah g1),Zc3 hp] at h2;exact h2 hb
theorem ZlC (h:ZaD W b.2.1=[p]) (hp:p.2.1=("to" : Str)) {a:Int} (e:goN (Za7 W b.2.2) p.1=some a) (hb:p.2.2 ∉ been b):(b.1++[(b.2.1,("step" : Str),(0:Int))],p.2.2,a)∈kids W b:=by
 have hr:((b.2.1,("step" : Str),(0:Int)),ZbG W.gs W.as p,a)∈ZbW W b.2.1 b.2.2:=mem_gone0.mpr ⟨0,p,a,by rw [h];rfl,e,rfl⟩
 refine mem_kids.mpr ⟨_,hr,?_,?_,?_⟩
 . rw [Zc3 hp]
 . rw [Zc3 hp];exact hb
 . rw [Zc3 hp]
theorem ZlD {s:Sco} (h:W.ss[k]?=some s):ZaD W (k:Int)=s.1:=by unfold ZaD;rw [Xa4,h]
theorem rw_goes (h:W.sts[k]?=some s):Za7 W (k:Int)=s.1:=by unfold Za7;rw [Xa4,h]
theorem int_in {x:Int}{l:List Int}:dec (Dt.int x∈l.map Dt.int)=dec (x∈l):=Zbi ⟨fun h=>by
 obtain ⟨y,hy,z⟩:=Xai.mp h
 rw [<-Dt.int.inj z];exact hy,fun h=>Xai.mpr ⟨x,h,rfl⟩⟩
theorem ints_dts {K:XFg}{H:Hp}:∀ l:List Int,IsDts K H (l.map V.int) (l.map Dt.int)
 | []=>.nil
 | x :: l=>.cons (.int x) (ints_dts l)
end
inductive E__law_row (K:XFg) (vs:List V) (H:Hp) (Q:VK):Prop where
 | mk (nt A t:Addr) (W:Wd) (sc st:Int) (h0:vs=[.ref nt,.ref t,.int sc,.int st]) (h1:CaseH K H nt A t W) (h2:WOk W) (h3:(∀ s∈W.ss,s.1.length<=1)) (h4:(∀ s∈W.ss,∀ p∈s.1,p.2.1=("to" : Str))) (h5:(0<=sc/\sc<W.ss.length)) (h6:(0<=st/\st<W.sts.length)) (h7:∀ (D:Addr) (zs:List (Addr×Beg)) (b:Beg) (H':Hp),H D=none->Same H H'->H' D=some (.lst (zs.map fun z=>V.ref z.1))->(∀ z∈zs,BgH (fun x=>H x=none) H' z.1 z.2)->Chn W (zs.map (·.2)) b->(zs.map (·.2)).head?=some ([],sc,st)->kids W b=[]->Q (.ref D) H'):E__law_row K vs H Q
def ZhM (K:XFg):Sp:=fun vs H Q _=>E__law_row K vs H Q
variable (P w K mg base) in
abbrev Zc6:Prop:=ZaB P w K mg base "_law_row" 2 ["_law_net", "_law_table_here", "_law_here", "_law_state"] (ZhM K)
theorem Zgf (B:Blt mg) (c__law_next:Zdp P w K mg base) (F:Fun K "_law_row" "_law_row" ZdF f fd) (hm:mg "_law_row" = some (.ref f)):Zc6 P w K mg base:=by
 refine ⟨f,fd,?_,hm,F.kp,F.binds fun _ _ _ _ _ _ us hl=>(by obtain ⟨x0,x1,x2,x3,rfl⟩:=Zdn hl;rfl)⟩;refine F.ok sc__law_row (fun vs H Q E h=>?_) (fun cdv A outer s H vs Q E hr h=>?_)
 . obtain ⟨nt,A,t,W,sc,st,rfl,_⟩:=h
   rfl
 . obtain ⟨nt,A,t,W,sc,st,rfl,hC,ok,one,to,hsc,hst,q⟩:=h
   obtain ⟨S,T,R,us,Gs,Es,ts,qt,qs,eN,N3⟩:=hC.net;obtain ⟨ta,o,inn,b1,tv,b2,b3⟩:=hC.tab
   refine ⟨_,(Zab (Zap (i:=4) sc__law_row.nd rfl (Or.inl rfl) (ZaJ Zac))
    (Zab (Zap (i:=5) sc__law_row.nd rfl (Or.inl rfl) (ZaJ (Zaa (Zat (Zaa (ZaJ Zac) (Zaa (pv 2) (Zaa (pv 3) Zac)))) Zac)))
    (Zab (Zap (i:=6) sc__law_row.nd rfl (Or.inl rfl) (ZaJ (Zaa (pv 2) Zac)))
    (Zab (ZhU Xbr (Zaw (op_neD hr.units) (Zam Zai (Zam Zai (Zam Zai (pv 0) Zae (fun _ _=>rfl)) (pv 2) (fun _ _=>rfl)) Zae (fun _ _=>rfl)) (ZaJ Zac) (ZaA _)) (Zab (Za8 (Zam Zai (Zam Zai (Zam Zai (Zam Zai (pv 0) Zae (fun _ _=>rfl)) (pv 2) (fun _ _=>rfl)) Zae (fun _ _=>rfl)) Zae (fun _ _=>rfl)) (ZaF rfl (Zaf (Zag (i:=7) sc__law_row.nd rfl (Or.inl rfl)) (Zaf (Zag (i:=8) sc__law_row.nd rfl (Or.inl rfl)) (Zaf (Zag (i:=9) sc__law_row.nd rfl (Or.inl rfl)) Zav)))))
     (Zab (Zap (i:=3) sc__law_row.nd rfl (Or.inl rfl) (Zaz c__law_next (hr.mono (by decide)) rfl (Zaa (pv 1) (Zaa (pv 3) (Zaa (pv 7) Zac)))))
     (Zab (ZaN (PW.pt (pw_or (ZcH (ZcG (pv 3))) (pw_or1 (Zaw (Zh5 hr.units) (pv 9) (pv 6) (by with_unfolding_all rfl))))) (Zah (Zao (pv 5))) Zaq)
     (Zab (Zap (i:=4) sc__law_row.nd rfl (Or.inl rfl) (Zau Zfm (pv 4) (ZaJ (Zaa (Zat (Zaa (pv 2) (Zaa ZaE (Zaa Zae Zac)))) Zac))))
     (Zab (Zap (i:=2) sc__law_row.nd rfl (Or.inl rfl) (pv 9))
     (Zab (ZaW (Zb4 Xa8 Xa9 Xba ZaK (pv 6) (Zaa (pv 2) Zac)))
     (Zah (ZaW (Zb4 Xa8 Xa9 Xba ZaK (pv 5) (Zaa (Zat (Zaa (pv 4) (Zaa (pv 2) (Zaa (pv 3) Zac)))) Zac)))))))))))
    (Zah (Zao (pv 5))))))),?_⟩
   try dsimp only [cxOf,Cx.nox,Cx.wish]
   refine ⟨Xa0 _,fun m0 hm0=>?_⟩;obtain ⟨H1,qH1,s1,em0⟩:=new_at (o:=.lst []) hm0;rw [<-qH1];refine g_in ?_;try dsimp only
   refine ⟨Xa0 _,fun l0 hl0=>?_⟩;obtain ⟨H2,qH2,s2,el0⟩:=new_at (o:=.lst []) hl0;rw [<-qH2];refine ⟨_,rfl,_,rfl,ZaV,fun t0 ht0=>?_⟩;obtain ⟨H3,qH3,s3,et0⟩:=new_at (o:=.tup [.ref l0,.int sc,.int st]) ht0;rw [<-qH3];refine ⟨ZbP,fun D hD=>?_⟩;obtain ⟨H4,qH4,s4,eD4⟩:=new_at (o:=.lst [.ref t0]) hD;rw [<-qH4];refine g_in ?_;try dsimp only
   refine ⟨_,rfl,ZbP,fun C hC'=>?_⟩;obtain ⟨H5,qH5,s5,eC5⟩:=new_at (o:=.lst [.int sc]) hC';rw [<-qH5];refine g_in ?_;try dsimp only
   have s15:=(s2.trans s3).trans (s4.trans s5);have s05:=s1.trans s15;have hDH:H D=none:=(s1.trans (s2.trans s3)).free hD;have hCH:H C=none:=(s1.trans (s2.trans (s3.trans s4))).free hC'
   have nDC:D≠C:=fun z=>by rw [z] at eD4;rw [eD4] at hC';cases hC'
   have nl0:l0≠D/\l0≠C:=⟨(fun z=>by rw [<-z,s3 _ _ el0] at hD;cases hD),(fun z=>by rw [<-z,(s3.trans s4) _ _ el0] at hC';cases hC')⟩;have nm0:m0≠D/\m0≠C:=⟨(fun z=>by rw [<-z,(s2.trans s3) _ _ em0] at hD;cases hD),(fun z=>by rw [<-z,(s2.trans (s3.trans s4)) _ _ em0] at hC';cases hC')⟩
   refine ⟨fun m σ H'=>∃ (b:Beg) (ml:Addr) (ms:List Addr) (zs:List (Addr×Beg)) (u7 u8 u9:Option V),σ=[some (.ref nt),some (.ref t),some (.int b.2.1),some (.int b.2.2),some (.ref ml),some (.ref D),some (.ref C),u7,u8,u9]/\Same H H'/\H' D=some (.lst (zs.map fun z=>V.ref z.1))/\(∀ z∈zs,BgH (fun x=>H x=none/\x≠D/\x≠C) H' z.1 z.2)/\H' C=some (.lst ((been b).map V.int))/\H' ml=some (.lst (ms.map V.ref))/\RT mkV H' ms b.1/\(H ml=none/\ml≠D/\ml≠C)/\Chn W (zs.map (·.2)) b/\(zs.map (·.2)).head?=some ([],sc,st)/\m=100 - zs.length,
    ⟨99,([],sc,st),m0,[],[(t0,([],sc,st))],none,none,none,rfl,s05,s5 _ _ eD4,(fun z hz=>?_),eC5,s15 _ _ em0,RT.nil,⟨hm0,nm0⟩,Chn.one _,rfl,rfl⟩,?_⟩
   . rw [Xaj.mp hz]
     exact ⟨l0,[],(s4.trans s5) _ _ et0,(s3.trans (s4.trans s5)) _ _ el0,RT.nil,s1.free hl0,nl0⟩
   rintro m σ H6 ⟨b,ml,ms,zs,u7,u8,u9,rfl,s6,eD6,hz6,eC6,eml,hms,fml,ch,hh,em⟩;have ib:IsBeg W sc st b:=ch.beg hh b ch.last;have bok:=ib.ok ok hsc hst
   have few:zs.length<=62:=by
    have:=ok.few sc st _ hsc hst ch.nd.1 (ch.beg hh)
    rw [Xaa] at this;exact this
   have hrs:=bok.rng b.2.1 (by unfold been;simp);obtain ⟨n,hn⟩:=Xa3 hrs.1;obtain ⟨k,hk⟩:=Xa3 bok.st.1
   have hnl:n<W.ss.length:=by have:=hrs.2;omega
   have hkl:k<W.sts.length:=by have:=bok.st.2;omega
   obtain ⟨u,G,E1,g1,g2,g3,g4,⟨c0,⟨tG,c1,c2⟩,_⟩⟩:=N3.sc.get hnl;have hks:=Xab hkl
   have eS:ZaD W b.2.1=W.ss[n].1:=by rw [hn];exact ZlD g4
   have eGo:Za7 W b.2.2=W.sts[k].1:=by rw [hk];exact rw_goes hks
   have hat:atI (us.map V.ref) b.2.1=some (.ref u):=by rw [hn];exact Zar (by rw [Xag,g1];rfl)
   have hone:=one _ (Xav hnl);have hto:=to _ (Xav hnl);have dG:∀ {H':Hp},Same H H'->IsDt K H' (.ref G) (.lst (W.ss[n].1.map stpD)):=fun s=>.lst (SqL.of (s _ _ c1)) ((c2.same s).dts stp_dt);generalize hss:W.ss[n].1=stl at eS hone hto dG c2;have fin:∀ {H':Hp},Same H6 H'->kids W b=[]->Q (.ref D) H':=fun s e=>q D zs b _ hDH (s6.trans s) (s _ _ eD6) (fun z hz=>((hz6 z hz).same s).mono fun x hx=>hx.1) ch hh e;refine ⟨_,rfl,Or.inr (Or.inl ⟨nt,_,_,.ref S,rfl,rfl,SqT.of (s6 _ _ eN),rfl,_,rfl,Or.inl ⟨S,_,_,.ref u,rfl,rfl,SqL.of (s6 _ _ N3.sc.top),hat,Or.inr (Or.inl ⟨u,_,_,.ref G,rfl,rfl,SqT.of (s6 _ _ c0),rfl,Xa0 _,fun nl hnl'=>?_⟩)⟩⟩)⟩;obtain ⟨H7,qH7,s7,enl⟩:=new_at (o:=.lst []) hnl';rw [<-qH7];have s07:=s6.trans s7;refine ⟨4,.lst (stl.map stpD),.lst [],.lst (.nil' _),by decide,dG s07,.lst (SqL.of enl) .nil,_,rfl,?_⟩
   cases stl with
   | nil =>
     rw [show dec (Dt.lst (List.map stpD [])=Dt.lst [])=true from ZaC rfl];exact iteF ⟨_,rfl,fin s7 (ZlB eS)⟩
   | cons p stl =>
   have e0:stl=[]:=by cases stl with
    | nil=>rfl
    | cons x y=>simp at hone
   subst e0;have hp:=hto p Xal;rw [ZaL (by intro z;cases z)];refine iteT ⟨fun σ' H'=>∃ (b:Beg) (ml:Addr) (ms:List Addr) (zs':List (Addr×Beg)) (u7 u8 u9:Option V),σ'=[some (.ref nt),some (.ref t),some (.int b.2.1),some (.int b.2.2),some (.ref ml),some (.ref D),some (.ref C),u7,u8,u9]/\Same H H'/\H' D=some (.lst (zs'.map fun z=>V.ref z.1))/\(∀ z∈zs',BgH (fun x=>H x=none/\x≠D/\x≠C) H' z.1 z.2)/\H' C=some (.lst ((been b).map V.int))/\H' ml=some (.lst (ms.map V.ref))/\RT mkV H' ms b.1/\(H ml=none/\ml≠D/\ml≠C)/\Chn W (zs'.map (·.2)) b/\(zs'.map (·.2)).head?=some ([],sc,st)/\zs'.length=zs.length+1,?_,?_⟩
   . rintro σ' H' ⟨b',ml',ms',zs',v7,v8,v9,h1,h2,h3,h4,h5,h6,h7,h8,h9,h10,h11⟩
     exact ⟨100 - zs'.length,by omega,b',ml',ms',zs',v7,v8,v9,h1,h2,h3,h4,h5,h6,h7,h8,h9,h10,rfl⟩
   obtain ⟨tp,htp⟩:∃ tp,tG=[tp]:=by
    have:=c2.len
    cases tG with
    | nil=>simp at this
    | cons x y =>
      cases y with
      | nil=>exact ⟨x,rfl⟩
      | cons z w=>simp at this
   subst htp;have etp:=c2.at_ 0 tp p rfl rfl;refine ⟨_,rfl,Or.inr (Or.inl ⟨nt,_,_,.ref S,rfl,rfl,SqT.of (s07 _ _ eN),rfl,_,rfl,Or.inl ⟨S,_,_,.ref u,rfl,rfl,SqL.of (s07 _ _ N3.sc.top),hat,Or.inr (Or.inl ⟨u,_,_,.ref G,rfl,rfl,SqT.of (s07 _ _ c0),rfl,Or.inl ⟨G,_,_,.ref tp,rfl,rfl,SqL.of (s07 _ _ c1),Zar (j:=0) rfl,tp,_,rfl,SqT.of (s07 _ _ etp),rfl,_,_,rfl,_,_,rfl,_,_,rfl,rfl,?_⟩⟩)⟩⟩)⟩;try dsimp only
   refine ⟨_,rfl,_,rfl,_,rfl,t,ta,o,inn,W.sts,b.2.2,k,W.sts[k],p.1,rfl,hk,s07.seqT b1,⟨tv,s07.seq b2,b3.same s07⟩,hks,?_⟩;refine g_in ?_;try dsimp only
   rw [<-eGo]
   cases hg:goN (Za7 W b.2.2) p.1 with
   | none =>
     refine ⟨_,rfl,_,rfl,ite2 (fun _=>iteT ⟨_,rfl,fin s7 (Zky eS hg)⟩) (fun h=>absurd (Xa5 rfl) h)⟩
   | some a =>
   refine ⟨_,rfl,_,rfl,ite2 (fun h=>absurd (Xa7 h) (by intro z;cases z)) (fun _=>?_)⟩;refine ⟨_,rfl,_,rfl,2,.int p.2.2,(been b).map Dt.int,C,_,fun d hd=>?_,by decide,.int _,rfl,SqL.of (s7 _ _ eC6),ints_dts _,_,rfl,?_⟩
   . obtain ⟨y,_,rfl⟩:=Xai.mp hd
     exact .int _ _
   rw [int_in];refine ite2 (fun hb=>?_) (fun hb=>?_)
   . exact ⟨_,rfl,fin s7 (Zkz eS hp (dec_iff.mp hb))⟩
   have hb':p.2.2 ∉ been b:=fun z=>hb (ZaC z);have hkid:=ZlC eS hp hg hb';refine ⟨_,rfl,_,rfl,ZaV,fun mk hmk=>?_⟩
   obtain ⟨H8,qH8,s8,emk⟩:=new_at (o:=.tup [.int b.2.1,.str "step",.int 0]) hmk
   rw [<-qH8];refine ⟨ZbP,fun M hM=>?_⟩;obtain ⟨H9,qH9,s9,eM⟩:=new_at (o:=.lst [.ref mk]) hM;rw [<-qH9];have s79:=s8.trans s9;have s69:=s7.trans s79
   have lms:ms.length<=100:=by
    have:=Zbb W.ss.length (been b) bok.nd bok.rng
    rw [show (been b).length=b.1.length+1 by unfold been;simp] at this
    have:=ok.s5
    rw [hms.len];omega
   refine ⟨ml,M,_,_,rfl,rfl,s69 _ _ eml,eM,by rw [Xaa];exact XaY (Zan (by show ms.length+1<=1000;omega)),fun L hL=>?_⟩;have s10:=Zak (o:=.lst (ms.map V.ref++[.ref mk])) hL
   have eL:(upd H9 L (.lst (ms.map V.ref++[.ref mk]))) L=some (.lst ((ms++[mk]).map V.ref)):=by rw [upd_same,Xad];rfl
   have hLH:H L=none:=(s6.trans s69).free hL
   have nLD:L≠D:=fun z=>by rw [z,s69 _ _ eD6] at hL;cases hL
   have nLC:L≠C:=fun z=>by rw [z,s69 _ _ eC6] at hL;cases hL
   generalize upd H9 L (.lst (ms.map V.ref++[.ref mk]))=H10 at s10 eL ⊢;refine g_in ?_;try dsimp only
   have s610:=s69.trans s10;refine ⟨_,rfl,?_⟩;refine g_in ?_;try dsimp only
   have eC10:=s610 _ _ eC6
   have lbn:((been b).map V.int).length<=100:=by
    have:=Zbb W.ss.length (been b) bok.nd bok.rng
    have:=ok.s5
    rw [Xaa];omega
   refine ⟨_,rfl,Or.inl ⟨rfl,_,SqL.of eC10⟩,_,rfl,C,_,_,rfl,rfl,eC10,Zan (by omega),?_⟩;have kC:Keeps (·=C) H10 (upd H10 C (.lst ((been b).map V.int++[.int p.2.2]))):=Keeps.one eC10
   have s11:Same H (upd H10 C (.lst ((been b).map V.int++[.int p.2.2]))):=fun x o e=>by rw [Zal (Zad e hCH)];exact (s6.trans s610) _ _ e
   have eC11:(upd H10 C (.lst ((been b).map V.int++[.int p.2.2]))) C=some (.lst ((been (b.1++[(b.2.1,("step" : Str),(0:Int))],p.2.2,a)).map V.int)):=by
    rw [upd_same];unfold been
    simp
   have eD11:(upd H10 C (.lst ((been b).map V.int++[.int p.2.2]))) D=some (.lst (zs.map fun z=>V.ref z.1)):=by rw [Zal nDC];exact s610 _ _ eD6
   have hz11:∀ z∈zs,BgH (fun x=>H x=none/\x≠D/\x≠C) (upd H10 C (.lst ((been b).map V.int++[.int p.2.2]))) z.1 z.2:=fun z hz=>((hz6 z hz).same s610).keeps kC fun x hx=>hx.2.2
   have eL11:(upd H10 C (.lst ((been b).map V.int++[.int p.2.2]))) L=some (.lst ((ms++[mk]).map V.ref)):=by rw [Zal nLC];exact eL
   have hms11:RT mkV (upd H10 C (.lst ((been b).map V.int++[.int p.2.2]))) (ms++[mk]) (b.1++[(b.2.1,("step" : Str),(0:Int))]):=RT.snoc ((hms.same s610).keeps kC) (kC.tup ((s9.trans s10) _ _ emk))
   generalize upd H10 C (.lst ((been b).map V.int++[.int p.2.2]))=H11 at s11 eC11 eD11 hz11 eL11 hms11 ⊢;try dsimp only
   refine ⟨_,rfl,Or.inl ⟨rfl,_,SqL.of eD11⟩,_,rfl,_,rfl,_,rfl,ZaV,fun t1 ht1=>?_⟩;have s12:=Zak (o:=.tup [.ref L,.int p.2.2,onV (some a)]) ht1;have et1:(upd H11 t1 (.tup [.ref L,.int p.2.2,onV (some a)])) t1=some (.tup [.ref L,.int p.2.2,.int a]):=upd_same;generalize upd H11 t1 (.tup [.ref L,.int p.2.2,onV (some a)])=H12 at s12 et1 ⊢;have eD12:=s12 _ _ eD11;have kD:Keeps (·=D) H12 (upd H12 D (.lst ((zs.map fun z=>V.ref z.1)++[.ref t1]))):=Keeps.one eD12;refine ⟨D,_,_,rfl,rfl,eD12,by rw [Xaa];exact Zan (by omega),?_⟩
   refine ⟨(b.1++[(b.2.1,("step" : Str),(0:Int))],p.2.2,a),L,ms++[mk],zs++[(t1,(b.1++[(b.2.1,("step" : Str),(0:Int))],p.2.2,a))],_,_,_,rfl,fun x o e=>?_,by rw [upd_same,Xad];rfl,fun z hz=>?_,kD.at_ _ _ (s12 _ _ eC11) (Ne.symm nDC),kD.at_ _ _ (s12 _ _ eL11) nLD,(hms11.same s12).keeps kD,⟨hLH,nLD,nLC⟩,?_,?_,by rw [Xac];rfl⟩
   . rw [Zal (Zad e hDH)];exact s12 _ _ (s11 _ _ e)
   . rcases Xaf.mp hz with hz | hz
     . exact ((hz11 z hz).same s12).keeps kD fun x hx=>hx.2.1
     . rw [Xaj.mp hz]
       exact ⟨L,ms++[mk],kD.tup et1,kD.at_ _ _ (s12 _ _ eL11) nLD,(hms11.same s12).keeps kD,hLH,nLD,nLC⟩
   . rw [Xad];exact .more ch hkid
   . rw [Xad]
     cases zs with
     | nil=>cases hh
     | cons x y=>exact hh
variable {W:Wd}
theorem ZkA (h:W.sts[k]?=some s):Zby W (k:Int)=s.2:=by unfold Zby;rw [Xa4,h]
theorem ZiZ {s:Sco} (h:W.ss[k]?=some s):ZaG W (k:Int)=s.2:=by unfold ZaG;rw [Xa4,h]
variable {b:Beg}{x:Str}{q:Tlg}
theorem ZlE (h1:q.2.1=x) (h2:q.1∈Zby W b.2.2):Zcl W b x q i=[b.1++[(b.2.1,("told" : Str),(i:Int))]]:=Xbe ⟨h1,h2⟩
theorem ZkB (h:¬(q.2.1=x/\q.1∈Zby W b.2.2)):Zcl W b x q i=[]:=Xbd h
theorem Zhb {bs:List Beg}(h:bs[i]?=some b):Zay W x (bs.take (i+1))=Zay W x (bs.take i)++Zbf W b x (ZaG W b.2.1) 0:=by
 rw [Xar,h];show (bs.take i++[b]).flatMap _=_;rw [List.flatMap_append];simp [Zay]
theorem fwfb_le {bs:List Beg} (i:Nat):(Zay W x (bs.take i)).length<=(Zay W x bs).length:=by
 have:Zay W x bs=Zay W x (bs.take i)++Zay W x (bs.drop i):=by
  unfold Zay;rw [<-List.flatMap_append,List.take_append_drop]
 rw [this,Xac];omega
theorem Zct (W:Wd) (b:Beg) (x:Str):∀ (l:List Tlg) (j i:Nat),(Zbf W b x (l.take j) i).length<=(Zbf W b x l i).length
 | [],j,i=>by rw [List.take_nil];exact XaW _
 | q :: l,0,i=>Xa0 _
 | q :: l,j+1,i=>by
   show (Zcl W b x q i++Zbf W b x (l.take j) (i+1)).length<=(Zcl W b x q i++Zbf W b x l (i+1)).length;rw [Xac,Xac]
   have:=Zct W b x l j (i+1)
   omega
inductive E__law_ways (K:XFg) (vs:List V) (H:Hp) (Q:VK):Prop where
 | mk (nt A t D:Addr) (x:Str) (F:Addr->Prop) (W:Wd) (zs:List (Addr×Beg)) (h0:vs=[.ref nt,.ref t,.ref D,.str x]) (h1:CaseH K H nt A t W) (h2:WOk W) (h3:H D=some (.lst (zs.map fun z=>V.ref z.1))) (h4:(∀ z∈zs,BgH F H z.1 z.2)) (h5:(∀ z∈zs,BegOk W z.2)) (h6:(Zay W x (zs.map (·.2))).length<=62) (h7:∀ (D2:Addr) (ws:List (Addr×List Mrk)) (H':Hp),H D2=none->Same H H'->H' D2=some (.lst (ws.map fun z=>V.ref z.1))->(∀ z∈ws,WyH (fun l=>H l=none/\l≠D2) H' z.1 z.2)->Fnd W x (zs.map (·.2)) (ws.map (·.2))->Q (.ref D2) H'):E__law_ways K vs H Q
def Zhc (K:XFg):Sp:=fun vs H Q _=>E__law_ways K vs H Q
variable (P w K mg base) in
abbrev Zcp:Prop:=ZaB P w K mg base "_law_ways" 1 ["_law_net", "_law_table_here", "_law_rows", "_law_name"] (Zhc K)
theorem Zfe (B:Blt mg) (F:Fun K "_law_ways" "_law_ways" Zdf f fd) (hm:mg "_law_ways" = some (.ref f)):Zcp P w K mg base:=by
 refine ⟨f,fd,?_,hm,F.kp,F.binds fun _ _ _ _ _ _ us hl=>(by obtain ⟨x0,x1,x2,x3,rfl⟩:=Zdn hl;rfl)⟩;refine F.ok sc__law_ways (fun vs H Q E h=>?_) (fun cdv A outer s H vs Q E hr h=>?_)
 . obtain ⟨nt,A,t,D,x,F,W,zs,rfl,_⟩:=h
   rfl
 . obtain ⟨nt,A,t,D,x,F,W,zs,rfl,hC,ok,eD,hz,hbo,hfl,q⟩:=h
   obtain ⟨S,T,R,us,Gs,Es,ts,qt,qs,eN,N3⟩:=hC.net;obtain ⟨a,o,inn,b1,tv,b2,b3⟩:=hC.tab
   refine ⟨_,(Zab (Zap (i:=4) sc__law_ways.nd rfl (Or.inl rfl) (ZaJ Zac))
    (Zab (ZaQ Xbr rfl (ZaM (pv 2)) (ZaF rfl (Zaf (Zag (i:=5) sc__law_ways.nd rfl (Or.inl rfl)) (Zaf (Zag (i:=6) sc__law_ways.nd rfl (Or.inl rfl)) (Zaf (Zag (i:=7) sc__law_ways.nd rfl (Or.inl rfl)) Zav)))) (Zah (ZaQ Xbr rfl (ZfP rfl B.b_enumerate (Zaa (Zam Zai (Zam Zai (Zam Zai (pv 0) Zae (fun _ _=>rfl)) (pv 6) (fun _ _=>rfl)) Zae (fun _ _=>rfl)) Zac)) (ZaF rfl (Zaf (Zag (i:=8) sc__law_ways.nd rfl (Or.inl rfl)) (Zaf (Zag (i:=9) sc__law_ways.nd rfl (Or.inl rfl)) Zav))) (Zah (ZaN (PW.pt (ZdZ (Zaw Zbq (Zam Zai (pv 9) Zae (fun _ _=>rfl)) (pv 3) (ZaA _)) (ZcI (Zaw (Zh5 hr.units) (Zam Zai (pv 9) Zae (fun _ _=>rfl)) (Zam Zai (Zam Zai (Zam Zai (pv 1) Zae (fun _ _=>rfl)) (pv 7) (fun _ _=>rfl)) Zae (fun _ _=>rfl)) (by with_unfolding_all rfl))))) (Zah (ZaW (Zb4 Xa8 Xa9 Xba ZaK (pv 4) (Zaa (Zau Zfm (pv 5) (ZaJ (Zaa (Zat (Zaa (pv 6) (Zaa ZaE (Zaa (pv 8) Zac)))) Zac))) Zac)))) Zaq)))))
    (Zah (Zao (Zax (Zfr mkE hr.units (by decide)) (by rfl) B.b_sorted (by decide +kernel) (Zaa (pv 4) Zac)))))),?_⟩
   try dsimp only [cxOf,Cx.nox,Cx.wish]
   refine ⟨by decide,fun P hP=>?_⟩;obtain ⟨H1,qH1,s1,eP1⟩:=new_at (o:=.lst []) hP;rw [<-qH1];have nDP:D≠P:=Zad eD hP;have upK:∀ {H':Hp},Keeps (·=P) H1 H'->Same H H':=fun k x o e=>k.at_ _ _ (s1 _ _ e) (Zad e hP)
   refine ⟨_,rfl,D,rfl,⟨_,SqL.of (s1 _ _ eD)⟩,Za2 (xs:=zs.map fun z=>V.ref z.1) (fun i σ H'=>∃ u5 u6 u7 u8 u9 ws,σ=[some (.ref nt),some (.ref t),some (.ref D),some (.str x),some (.ref P),u5,u6,u7,u8,u9]/\Keeps (·=P) H1 H'/\H' P=some (.lst (ws.map fun z:Addr×List Mrk=>V.ref z.1))/\(∀ z∈ws,WyH (fun l=>H l=none/\l≠P) H' z.1 z.2)/\ws.map (·.2)=Zay W x ((zs.map (·.2)).take i))
    ⟨none,none,none,none,none,[],rfl,Keeps.refl fun x o m e=>by rw [m,eP1] at e;exact ⟨_,(Xbc e).symm⟩,eP1,fun z hz=>by simp at hz,by rw [Xaz];rfl⟩ (fun i σ H' _ hv_=>by obtain ⟨_,_,_,_,_,_,_,k,_⟩:=hv_;exact SqL.of (upK k _ _ eD)) ?_ ?_⟩
   rotate_left
   . rintro σ H2 ⟨u5,u6,u7,u8,u9,ws,rfl,k2,eP2,hw,hm⟩
     rw [Xaa,<-Xaa (f:=(·.2)),Xas] at hm
     have lw:ws.length<=62:=by have:=Xbj List.length hm;rw [Xaa] at this;omega
     refine ⟨_,rfl,P,ws.map fun z=>(V.ref z.1,z.2),rfl,?_,by rw [Xaa];omega,fun y hy=>?_,fun D2 zs' hp hs hD2=>?_⟩
     . rw [Xax];exact SqL.of eP2
     . obtain ⟨z,hz',rfl⟩:=Xai.mp hy
       exact (hw z hz').dt
     obtain ⟨vs,r1,r2,r3,r4⟩:=ZdP (c:=wayE) hp;have s3:=Zak (o:=.lst (zs'.map (·.1))) hD2;rw [r1] at s3 ⊢;rw [r2] at hs;have s02:=upK k2;refine q D2 vs _ (s02.free hD2) (s02.trans s3) upd_same (fun z hz'=>?_) ⟨by rw [<-hm];exact r3,hs⟩;refine ((hw z (r4 z hz')).mono' ?_).same s3;intro x o ex hx;exact ⟨hx.1,fun y=>by rw [y,hD2] at ex;cases ex⟩
   rintro i y σ H2 hy ⟨u5,u6,u7,u8,u9,ws,rfl,k2,eP2,hw,hm⟩;obtain ⟨z,hzi,rfl⟩:=getm hy;have mz:=Xah hzi;have hbz:=hbo z mz;have s02:=upK k2;obtain ⟨l,ms,f1,f2,e3,_⟩:=hz z mz;have e1:=s02 _ _ f1;have hsc:=hbz.rng z.2.2.1 (by unfold been;simp);have hst:=hbz.st;obtain ⟨n,hn⟩:=Xa3 hsc.1;obtain ⟨k,hk⟩:=Xa3 hst.1
   have hnl:n<W.ss.length:=by omega
   have hkl:k<W.sts.length:=by omega
   obtain ⟨u,G,E1,g1,g2,g3,g4,⟨c0,_,⟨tE,c1,c2⟩⟩⟩:=N3.sc.get hnl;have hks:=Xab hkl
   have eT:ZaG W z.2.2.1=W.ss[n].2:=by rw [hn];exact ZiZ g4
   have eE:Zby W z.2.2.2=W.sts[k].2:=by rw [hk];exact ZkA hks
   have hat:atI (us.map V.ref) z.2.2.1=some (.ref u):=by rw [hn];exact Zar (by rw [Xag,g1];rfl)
   have htk:(zs.map (·.2))[i]?=some z.2:=by rw [Xag,hzi];rfl
   have hml:ms.length<=100:=by
    have:=Zbb W.ss.length (been z.2) hbz.nd hbz.rng
    rw [show (been z.2).length=z.2.1.length+1 by unfold been;simp] at this
    have:=ok.s5
    rw [e3.len];omega
   have hle:=fwfb_le (W:=W) (x:=x) (bs:=zs.map (·.2)) (i+1);rw [Zhb htk,Xac] at hle;refine ⟨z.1,_,rfl,SqT.of e1,rfl,_,_,rfl,_,_,rfl,_,_,rfl,rfl,?_⟩;refine ⟨_,rfl,Or.inr (Or.inl ⟨nt,_,_,.ref S,rfl,rfl,SqT.of (s02 _ _ eN),rfl,_,rfl,Or.inl ⟨S,_,_,.ref u,rfl,rfl,SqL.of (s02 _ _ N3.sc.top),hat,Or.inr (Or.inl ⟨u,_,_,.ref E1,rfl,rfl,SqT.of (s02 _ _ c0),rfl,E1,rfl,⟨_,s02 _ _ c1⟩,?_⟩)⟩⟩)⟩
   refine Zee (xs:=tE.map V.ref) (fun j σ H'=>∃ u8 u9 ws,σ=[some (.ref nt),some (.ref t),some (.ref D),some (.str x),some (.ref P),some (.ref l),some (.int z.2.2.1),some (.int z.2.2.2),u8,u9]/\Keeps (·=P) H1 H'/\H' P=some (.lst (ws.map fun z:Addr×List Mrk=>V.ref z.1))/\(∀ z∈ws,WyH (fun l=>H l=none/\l≠P) H' z.1 z.2)/\ws.map (·.2)=Zay W x ((zs.map (·.2)).take i)++Zbf W z.2 x ((ZaG W z.2.2.1).take j) 0)
    ⟨_,_,ws,rfl,k2,eP2,hw,by rw [hm,Xaz];simp [Zbf]⟩ (fun j σ H' hv_=>by obtain ⟨_,_,_,_,k,_⟩:=hv_;exact SqL.of (upK k _ _ c1)) ?_ ?_
   rotate_left
   . rintro σ H3 ⟨u8,u9,ws,rfl,k3,eP3,hw3,hm3⟩
     refine ⟨_,_,_,_,_,ws,rfl,k3,eP3,hw3,?_⟩;rw [Zhb htk,hm3,Xaa,c2.len,eT,Xas]
   rintro j y T' σ H3 hy hT' ⟨u8,u9,ws,rfl,k3,eP3,hw3,hm3⟩;obtain ⟨tp,htp,rfl⟩:=getm hy
   have hjl:j<W.ss[n].2.length:=by rw [<-c2.len];exact (Xae.mp htp).1
   have hp:=Xab hjl;have etp:=c2.at_ j tp _ htp hp;generalize W.ss[n].2[j]=p at hp etp;obtain ⟨H4,qH4,s4,eT'⟩:=new_at (o:=.tup [.int j,.ref tp]) hT';rw [<-qH4];have s03:=upK k3;have s04:=s03.trans s4;have k4:Keeps (·=P) H1 H4:=k3.same s4;have eP4:=s4 _ _ eP3;have hw4:∀ z∈ws,WyH (fun l=>H l=none/\l≠P) H4 z.1 z.2:=fun z h=>(hw3 z h).same s4;have htp4:=SqT.of (K:=K) (s04 _ _ etp)
   have etk:Zbf W z.2 x ((ZaG W z.2.2.1).take (j+1)) 0=Zbf W z.2 x ((ZaG W z.2.2.1).take j) 0++Zcl W z.2 x p j:=by
    rw [Xar,eT,hp];show Zbf W z.2 x (W.ss[n].2.take j++[p]) 0=_;rw [ZdO,Xaw,Nat.zero_add,Nat.min_eq_left (by omega)]
   have skip:¬(p.2.1=x/\p.1∈Zby W z.2.2.2)->ws.map (·.2)=Zay W x ((zs.map (·.2)).take i)++Zbf W z.2 x ((ZaG W z.2.2.1).take (j+1)) 0:=fun hn=>by
    rw [etk,ZkB hn,XaH,hm3]
   have lw:ws.length<100:=by
    have:=Xbj List.length hm3
    rw [Xaa,Xac] at this;have h1:=Zct W z.2 x (ZaG W z.2.2.1) j 0;omega
   refine ⟨T',_,rfl,SqT.of eT',rfl,_,_,rfl,_,_,rfl,rfl,?_⟩;refine ⟨_,rfl,Or.inr (Or.inl ⟨tp,_,_,.str p.2.1,rfl,rfl,htp4,rfl,_,rfl,rfl,_,rfl,ite2 (fun h1=>?_) (fun h1=>iteF ?_)⟩)⟩;rotate_left
   . exact ⟨_,_,ws,rfl,k4,eP4,hw4,skip fun h=>h1 (Xa5 (by rw [h.1]))⟩
   have h1:p.2.1=x:=V.str.inj (Xa7 h1);obtain ⟨v,hv,hvs⟩:=(b3.same s04).get' (i:=k) (d:=stD W.sts[k]) (by rw [Xag,hks];rfl);obtain ⟨st,g,e,rfl,hst',hg,he⟩:=Zk7 hvs
   have e1:dec (Dt.str p.1∈W.sts[k].2.map Dt.str)=dec (p.1∈W.sts[k].2):=Zbi ⟨fun h=>by
    obtain ⟨y,hy,z⟩:=Xai.mp h
    rw [<-Dt.str.inj z];exact hy,fun h=>Xai.mpr ⟨p.1,h,rfl⟩⟩
   refine ⟨_,rfl,Or.inr (Or.inl ⟨tp,_,_,.str p.1,rfl,rfl,htp4,rfl,_,rfl,Or.inr (Or.inl ⟨t,_,_,.ref a,rfl,rfl,s04.seqT b1,rfl,_,rfl,Or.inl ⟨a,tv,_,.ref st,rfl,rfl,s04.seq b2,by rw [hk];exact Zar hv,Or.inr (Or.inl ⟨st,_,_,.ref e,rfl,rfl,hst',rfl,2,.str p.1,W.sts[k].2.map Dt.str,e,_,fun d hd=>?_,by decide,.str _,rfl,he,IsDts.strs _,_,rfl,?_⟩)⟩⟩)⟩)⟩
   . obtain ⟨y,_,rfl⟩:=Xai.mp hd
     exact .str _ _
   rw [e1];refine ite2 (fun h2=>?_) (fun h2=>?_);rotate_left
   . exact ⟨_,_,ws,rfl,k4,eP4,hw4,skip fun h=>h2 (ZaC (by rw [<-eE];exact h.2))⟩
   have h2:p.1∈Zby W z.2.2.2:=by rw [eE];exact dec_iff.mp h2
   refine ⟨_,rfl,Or.inl ⟨rfl,_,SqL.of eP4⟩,_,rfl,_,rfl,_,rfl,ZaV,fun m hm'=>?_⟩
   obtain ⟨H5,qH5,s5,em⟩:=new_at (o:=.tup [.int z.2.2.1,.str "told",.int j]) hm'
   rw [<-qH5];refine ⟨ZbP,fun M hM=>?_⟩;obtain ⟨H6,qH6,s6,eM⟩:=new_at (o:=.lst [.ref m]) hM;rw [<-qH6];have s46:=s5.trans s6;refine ⟨l,M,_,_,rfl,rfl,s46 _ _ (s04 _ _ f2),eM,by rw [Xaa];exact XaY (Zan (by show ms.length+1<=1000;omega)),fun L hL=>?_⟩;have hLH:H L=none:=(s04.trans s46).free hL
   have nLP:L≠P:=fun y=>by rw [y,s46 _ _ eP4] at hL;cases hL
   have s7:=Zak (o:=.lst (ms.map V.ref++[.ref m])) hL
   have eL:(upd H6 L (.lst (ms.map V.ref++[.ref m]))) L=some (.lst ((ms++[m]).map V.ref)):=by rw [upd_same,Xad];rfl
   generalize upd H6 L (.lst (ms.map V.ref++[.ref m]))=H7 at s7 eL ⊢;have s47:=s46.trans s7;have eP7:=s47 _ _ eP4;have k7:Keeps (·=P) H7 (upd H7 P (.lst (ws.map (fun z=>V.ref z.1)++[.ref L]))):=Keeps.one eP7;refine ⟨P,_,_,rfl,rfl,eP7,by rw [Xaa];exact Zan (by omega),?_⟩
   refine ⟨_,_,ws++[(L,z.2.1++[(z.2.2.1,("told" : Str),(j:Int))])],rfl,(k4.same s47).set rfl,by rw [upd_same,Xad];rfl,fun y hy=>?_,?_⟩
   . rcases Xaf.mp hy with hy | hy
     . exact ((hw4 y hy).same s47).keeps k7 fun x hx=>hx.2
     . rw [Xaj.mp hy]
       refine ⟨ms++[m],k7.at_ _ _ eL nLP,?_,hLH,nLP⟩;exact RT.snoc ((e3.same (s04.trans s47)).keeps k7) (k7.tup ((s6.trans s7) _ _ em))
   . rw [etk,ZlE h1 h2,Xad,hm3,XaE];rfl
inductive E__law_label (K:XFg) (vs:List V) (H:Hp) (Q:VK):Prop where
 | mk (nt S T R mk:Addr) (us Gs Es:List Addr) (ss:List Sco) (m:Mrk) (h0:vs=[.ref nt,.ref mk]) (h1:SqT K H nt [.ref S,.ref T,.ref R]) (h2:Scs H S us Gs Es ss) (h3:SqT K H mk (mkV m)) (h4:MkOk ss m) (h5:Q (.str (ZbH ss m)) H):E__law_label K vs H Q
def Zgg (K:XFg):Sp:=fun vs H Q _=>E__law_label K vs H Q
variable (P w K mg base) in
abbrev ZcS:Prop:=ZaB P w K mg base "_law_label" 1 ["_law_net", "_law_mark"] (Zgg K)
theorem ZeV (B:Blt mg) (F:Fun K "_law_label" "_law_label" Zcy f fd) (hm:mg "_law_label" = some (.ref f)):ZcS P w K mg base:=by
 refine ⟨f,fd,?_,hm,F.kp,F.binds fun _ _ _ _ _ _ us hl=>(by obtain ⟨x0,x1,rfl⟩:=ZeN hl;rfl)⟩;refine F.ok sc__law_label (fun vs H Q E h=>?_) (fun cdv A outer s H vs Q E hr h=>?_)
 . obtain ⟨nt,S,T,R,mk,us,Gs,Es,ss,m,rfl,_⟩:=h
   rfl
 . obtain ⟨nt,S,T,R,mk,us,Gs,Es,ss,m,rfl,hT,hS,hm,⟨n,k,s',hn,hk,hs,hq⟩,q⟩:=h
   have hnl:n<ss.length:=(Xae.mp hs).1;obtain ⟨u,G,E1,g1,g2,g3,g4,⟨a1,⟨tG,b1,b2⟩,⟨tE,c1,c2⟩⟩⟩:=hS.get hnl;rw [hs] at g4;have es:=Xbc g4;rw [<-es] at b2 c2
   have hat:atI (us.map V.ref) m.1=some (.ref u):=by rw [hn];exact Zar (by rw [Xag,g1];rfl)
   refine ⟨_,(Zab (Zap (i:=2) sc__law_label.nd rfl (Or.inl rfl) (Zam Zai (Zam Zai (pv 0) Zae (fun _ _=>rfl)) (Zam Zai (pv 1) Zae (fun _ _=>rfl)) (fun _ _=>rfl)))
    (Zah (Zao (Zam Zai (Zam Zai (Zam Zai (pv 2) (Zb7 Zeq (by rfl) B.b_int (by decide +kernel) (Zaa (Zb3 Zbq (Zam Zai (pv 1) Zae (fun _ _=>rfl)) ZaE (ZaA _)) Zac)) (fun _ _=>rfl)) (Zam Zai (pv 1) Zae (fun _ _=>rfl)) (fun _ _=>rfl)) Zae (fun _ _=>rfl))))),?_⟩
   try dsimp only [cxOf,Cx.nox,Cx.wish]
   refine ⟨_,rfl,Or.inr (Or.inl ⟨nt,_,_,.ref S,rfl,rfl,hT,rfl,_,rfl,Or.inr (Or.inl ⟨mk,_,_,.int m.1,rfl,rfl,hm,rfl,Or.inl ⟨S,_,_,.ref u,rfl,rfl,SqL.of hS.top,hat,?_⟩⟩)⟩)⟩;refine g_in ?_;try dsimp only
   refine ⟨_,rfl,_,rfl,Or.inr (Or.inl ⟨mk,_,_,.str m.2.1,rfl,rfl,hm,rfl,rfl,Or.inr ⟨_,rfl,?_⟩⟩)⟩
   rcases hq with ⟨h1,hkl⟩ | ⟨h1,hkl⟩
   . have hp:=Xab hkl
     rw [Zih hn hk hs h1 hp] at q;have ht:tG[k]?=some (tG[k]'(by rw [b2.len];exact hkl)):=Xab _;have et:=b2.at_ _ _ _ ht hp
     have hatk:atI (tG.map V.ref) m.2.2=some (.ref (tG[k]'(by rw [b2.len];exact hkl))):=by rw [hk];exact Zar (by rw [Xag,ht];rfl)
     rw [Xa6 (show ¬V.str m.2.1=V.str "told" from fun z=>Zlf (h1.symm.trans (V.str.inj z)))]
     exact Or.inr (Or.inl ⟨u,_,_,.ref G,rfl,rfl,SqT.of a1,rfl,_,rfl,Or.inr (Or.inl ⟨mk,_,_,.int m.2.2,rfl,rfl,hm,rfl,Or.inl ⟨G,_,_,_,rfl,rfl,SqL.of b1,hatk,Or.inr (Or.inl ⟨_,_,_,.str s'.1[k].1,rfl,rfl,SqT.of et,rfl,q⟩)⟩⟩)⟩)
   . have hp:=Xab hkl
     rw [Zii hn hk hs (fun z=>Zce (h1.symm.trans z)) hp] at q;have ht:tE[k]?=some (tE[k]'(by rw [c2.len];exact hkl)):=Xab _;have et:=c2.at_ _ _ _ ht hp
     have hatk:atI (tE.map V.ref) m.2.2=some (.ref (tE[k]'(by rw [c2.len];exact hkl))):=by rw [hk];exact Zar (by rw [Xag,ht];rfl)
     rw [Xa5 (show V.str m.2.1=V.str "told" by rw [h1])]
     exact Or.inr (Or.inl ⟨u,_,_,.ref E1,rfl,rfl,SqT.of a1,rfl,_,rfl,Or.inr (Or.inl ⟨mk,_,_,.int m.2.2,rfl,rfl,hm,rfl,Or.inl ⟨E1,_,_,_,rfl,rfl,SqL.of c1,hatk,Or.inr (Or.inl ⟨_,_,_,.str s'.2[k].1,rfl,rfl,SqT.of et,rfl,q⟩)⟩⟩)⟩)
theorem lcmp_mk (a b:Mrk):Cmp 2 (mkD a) (mkD b):=.tup (.cons (.int _ _) (.cons (.str _ _) (.cons (.int _ _) (.nil _))))
theorem ZlF {a b:Mrk} (h:mkD a=mkD b):a=b:=mkE.inj a b h
theorem lpr_in {a b:Str}:dec (prD (a,b)∈ord.map prD)=dec ((a,b)∈ord):=Zbi ⟨fun h=>by
 obtain ⟨⟨x,y⟩,hp,e⟩:=Xai.mp h
 injection e with e
 injection e with e1 e2
 injection e2 with e2 _
 have e1:x=a:=Dt.str.inj e1;have e2:y=b:=Dt.str.inj e2;rw [<-e1,<-e2]
 exact hp,fun h=>Xai.mpr ⟨_,h,rfl⟩⟩
inductive E__law_hides (K:XFg) (vs:List V) (H:Hp) (Q:VK):Prop where
 | mk (nt S T R t a b:Addr) (us Gs Es:List Addr) (ss:List Sco) (F G1 G2:Addr->Prop) (sts:List Stt) (inn:Int) (ord:List (Str×Str)) (w1 w2:List Mrk) (h0:vs=[.ref nt,.ref t,.ref a,.ref b]) (h1:H nt=some (.tup [.ref S,.ref T,.ref R])) (h2:Scs H S us Gs Es ss) (h3:Tab K F H t sts inn ord) (h4:WyH G1 H a w1) (h5:WyH G2 H b w2) (h6:ZeC ss w1) (h7:ZeC ss w2) (h8:∀ H',Same H H'->Q (.bl (ZaO ss ord w1 w2)) H'):E__law_hides K vs H Q
def Zgh (K:XFg):Sp:=fun vs H Q _=>E__law_hides K vs H Q
variable (P w K mg base) in
abbrev ZcT:Prop:=ZaB P w K mg base "_law_hides" 2 ["_law_net", "_law_table_here", "_law_one", "_law_other"] (Zgh K)
theorem ZeW (B:Blt mg) (c__law_label:ZcS P w K mg base) (F:Fun K "_law_hides" "_law_hides" Zcz f fd) (hm:mg "_law_hides" = some (.ref f)):ZcT P w K mg base:=by
 refine ⟨f,fd,?_,hm,F.kp,F.binds fun _ _ _ _ _ _ us hl=>(by obtain ⟨x0,x1,x2,x3,rfl⟩:=Zdn hl;rfl)⟩;refine F.ok sc__law_hides (fun vs H Q E h=>?_) (fun cdv A outer s H vs Q E hr h=>?_)
 . obtain ⟨nt,S,T,R,t,a,b,us,Gs,Es,ss,F,G1,G2,sts,inn,ord,w1,w2,rfl,_⟩:=h
   rfl
 . obtain ⟨nt,S,T,R,t,a,b,us,Gs,Es,ss,F,G1,G2,sts,inn,ord,w1,w2,rfl,eN,SC,TB,⟨ma,ea,ra,_⟩,⟨mb,eb,rb,_⟩,ok1,ok2,q⟩:=h
   obtain ⟨ta,o,tus,tts,et,_,_,_,_,_,eo,TO⟩:=TB.ex
   refine ⟨_,(Zab (ZaQ Xbr rfl (pi_zip rfl B.b_zip (Zaa (pv 2) (Zaa (pv 3) Zac))) (ZaF rfl (Zaf (Zag (i:=4) sc__law_hides.nd rfl (Or.inl rfl)) (Zaf (Zag (i:=5) sc__law_hides.nd rfl (Or.inl rfl)) Zav))) (Zah (ZaN (Zaw (op_neD hr.units) (pv 4) (pv 5) (ZaA _)) (Zah (Zao (Zb3 (Zh5 hr.units) (Zat (Zaa (Zaz c__law_label (hr.mono (by decide)) rfl (Zaa (pv 0) (Zaa (pv 4) Zac))) (Zaa (Zaz c__law_label (hr.mono (by decide)) rfl (Zaa (pv 0) (Zaa (pv 5) Zac))) Zac))) (Zam Zai (pv 1) Zae (fun _ _=>rfl)) (by with_unfolding_all rfl)))) Zaq)))
    (Zah (Zao ZdI))),?_⟩
   try dsimp only [cxOf,Cx.nox,Cx.wish]
   refine ⟨_,rfl,_,rfl,a,b,rfl,⟨_,SqL.of ea⟩,⟨_,SqL.of eb⟩,ZjB (xs:=ma.map V.ref) (ys:=mb.map V.ref) (fun i σ H'=>∃ u4 u5:Option V,σ=[some (.ref nt),some (.ref t),some (.ref a),some (.ref b),u4,u5]/\Same H H'/\∀ j,j<i->w1[j]?=w2[j]?) ⟨none,none,rfl,Same.refl _,fun j hj=>by omega⟩ (fun i σ H' hv_=>by obtain ⟨_,_,_,s,_⟩:=hv_;exact ⟨SqL.of (s _ _ ea),SqL.of (s _ _ eb)⟩) ?_ ?_⟩;rotate_left
   . rintro σ H2 ⟨u4,u5,rfl,s2,hall⟩
     rw [Xaa,Xaa,ra.len,rb.len] at hall
     rw [Zdk ss ord hall (by omega) (by omega),ZdQ ss ord (by
      rcases Nat.le_total w1.length w2.length with h | h
      . exact .inl (List.drop_eq_nil_of_le (by omega))
      . exact .inr (List.drop_eq_nil_of_le (by omega)))] at q
     exact q H2 s2
   rintro i x y T' σ H2 hx hy hT' ⟨u4,u5,rfl,s2,hall⟩;rw [Xag] at hx hy;obtain ⟨tm,htm,rfl⟩:=XaV.mp hx;obtain ⟨tn,htn,rfl⟩:=XaV.mp hy
   have h1:i<w1.length:=by rw [<-ra.len];exact (Xae.mp htm).1
   have h2:i<w2.length:=by rw [<-rb.len];exact (Xae.mp htn).1
   have e1:=Xab h1;have e2:=Xab h2;have f1:=ra.at_ i tm _ htm e1;have f2:=rb.at_ i tn _ htn e2;have o1:=ok1.1 _ (Xav h1);have o2:=ok2.1 _ (Xav h2);obtain ⟨H3,qH3,s3,eT'⟩:=new_at (o:=.tup [.ref tm,.ref tn]) hT';rw [<-qH3];have s03:=s2.trans s3;refine ⟨T',_,rfl,SqT.of eT',rfl,_,_,rfl,_,_,rfl,rfl,?_⟩;refine ⟨_,rfl,_,rfl,2,mkD w1[i],mkD w2[i],lcmp_mk _ _,by decide,ZjN _ _ (s03 _ _ f1),ZjN _ _ (s03 _ _ f2),_,rfl,?_⟩
   by_cases he:w1[i]=w2[i]
   . rw [ZaC (by rw [he])]
     refine iteF ⟨_,_,rfl,s03,fun j hj=>?_⟩
     by_cases hji:j<i
     . exact hall j hji
     . have:j=i:=by omega
       subst this;rw [e1,e2,he]
   . rw [ZaL (fun z=>he (ZlF z))]
     refine iteT ?_
     have hd:ZaO ss ord w1 w2=dec ((ZbH ss w1[i],ZbH ss w2[i])∈ord):=by
      rw [Zdk ss ord hall (by omega) (by omega),XaL h1,XaL h2];exact ZgR ss ord _ _ he
     refine ⟨_,rfl,_,rfl,nt,S,T,R,tm,us,Gs,Es,ss,w1[i],rfl,SqT.of (s03 _ _ eN),SC.same s03,SqT.of (s03 _ _ f1),o1,_,rfl,_,rfl,nt,S,T,R,tn,us,Gs,Es,ss,w2[i],rfl,SqT.of (s03 _ _ eN),SC.same s03,SqT.of (s03 _ _ f2),o2,ZaI,fun p hp=>?_⟩;obtain ⟨H4,qH4,s4,ep⟩:=new_at (o:=.tup [.str (ZbH ss w1[i]),.str (ZbH ss w2[i])]) hp;rw [<-qH4];have s04:=s03.trans s4;refine ⟨_,rfl,Or.inr (Or.inl ⟨t,_,_,.ref o,rfl,rfl,SqT.of (s04 _ _ et),rfl,2,prD (ZbH ss w1[i],ZbH ss w2[i]),ord.map prD,o,_,fun d hd'=>?_,by decide,.tup (SqT.of ep) (.cons (.str _) (.cons (.str _) .nil)),rfl,SqL.of (s04 _ _ eo),(TO.same s04).dts,?_⟩)⟩
     . obtain ⟨z,_,rfl⟩:=Xai.mp hd'
       exact .tup (.cons (.str _ _) (.cons (.str _ _) (.nil _)))
     rw [lpr_in,<-hd];exact q H4 s04
inductive E__law_hidden (K:XFg) (vs:List V) (H:Hp) (Q:VK):Prop where
 | mk (nt S T R t D l:Addr) (us Gs Es:List Addr) (ss:List Sco) (F G1 G2:Addr->Prop) (sts:List Stt) (inn:Int) (ord:List (Str×Str)) (zs:List (Addr×List Mrk)) (w:List Mrk) (h0:vs=[.ref nt,.ref t,.ref D,.ref l]) (h1:H nt=some (.tup [.ref S,.ref T,.ref R])) (h2:Scs H S us Gs Es ss) (h3:Tab K F H t sts inn ord) (h4:H D=some (.lst (zs.map fun z=>V.ref z.1))) (h5:(∀ z∈zs,WyH G1 H z.1 z.2)) (h6:(∀ z∈zs,ZeC ss z.2)) (h7:WyH G2 H l w) (h8:ZeC ss w) (h9:∀ H',Same H H'->Q (.bl ((zs.map (·.2)).any fun v=>ZaO ss ord v w)) H'):E__law_hidden K vs H Q
def Zdb (K:XFg):Sp:=fun vs H Q _=>E__law_hidden K vs H Q
variable (P w K mg base) in
abbrev ZbI:Prop:=ZaB P w K mg base "_law_hidden" 3 ["_law_net", "_law_table_here", "_law_ways_here", "_law_way"] (Zdb K)
theorem Zea (B:Blt mg) (c__law_hides:ZcT P w K mg base) (F:Fun K "_law_hidden" "_law_hidden" Zcg f fd) (hm:mg "_law_hidden" = some (.ref f)):ZbI P w K mg base:=by
 refine ⟨f,fd,?_,hm,F.kp,F.binds fun _ _ _ _ _ _ us hl=>(by obtain ⟨x0,x1,x2,x3,rfl⟩:=Zdn hl;rfl)⟩;refine F.ok sc__law_hidden (fun vs H Q E h=>?_) (fun cdv A outer s H vs Q E hr h=>?_)
 . obtain ⟨nt,S,T,R,t,D,l,us,Gs,Es,ss,F,G1,G2,sts,inn,ord,zs,w,rfl,_⟩:=h
   rfl
 . obtain ⟨nt,S,T,R,t,D,l,us,Gs,Es,ss,F,G1,G2,sts,inn,ord,zs,w,rfl,eN,SC,TB,eD,hz,oz,hl,ol,q⟩:=h
   refine ⟨_,(Zab (ZaQ Xbr rfl (ZaM (pv 2)) (Zag (i:=4) sc__law_hidden.nd rfl (Or.inl rfl)) (Zah (ZaN (ZbC (Zaz c__law_hides (hr.mono (by decide)) rfl (Zaa (pv 0) (Zaa (pv 1) (Zaa (pv 4) (Zaa (pv 3) Zac)))))) (Zah (Zao ZdI)) Zaq)))
    (Zah (Zao ZdI))),?_⟩
   try dsimp only [cxOf,Cx.nox,Cx.wish]
   refine ⟨_,rfl,D,rfl,⟨_,SqL.of eD⟩,Za2 (xs:=zs.map fun z=>V.ref z.1) (fun i σ H'=>∃ u4,σ=[some (.ref nt),some (.ref t),some (.ref D),some (.ref l),u4]/\Same H H'/\(((zs.take i).map (·.2)).any fun v=>ZaO ss ord v w)=false) ⟨none,rfl,Same.refl _,rfl⟩ (fun i σ H' _ hv_=>by obtain ⟨_,_,s,_⟩:=hv_;exact SqL.of (s _ _ eD)) ?_ ?_⟩;rotate_left
   . rintro σ H1 ⟨u4,rfl,s1,h1⟩
     rw [Xaa,Xas] at h1
     have:=q _ s1
     rw [h1] at this;exact this
   rintro i x σ H1 hx ⟨u4,rfl,s1,h1⟩;obtain ⟨z,hj,rfl⟩:=getm hx;have mj:=Xah hj;refine g_in ?_;try dsimp only
   refine ⟨_,rfl,_,rfl,_,rfl,_,rfl,nt,S,T,R,t,z.1,l,us,Gs,Es,ss,F,G1,G2,sts,inn,ord,z.2,w,rfl,s1 _ _ eN,SC.same s1,TB.same s1,(hz z mj).same s1,hl.same s1,oz z mj,ol,fun H2 s2=>⟨_,rfl,ite2 (fun c=>?_) (fun c=>?_)⟩⟩
   . have:=q _ (s1.trans s2)
     rw [show ((zs.map (·.2)).any fun v=>ZaO ss ord v w)=true from XaQ.mpr ⟨z.2,Xai.mpr ⟨z,mj,rfl⟩,c⟩] at this;exact this
   . refine ⟨_,rfl,s1.trans s2,?_⟩
     rw [Xar,hj,Xad,List.any_append,h1]
     simpa using c
inductive E_next_state (K:XFg) (vs:List V) (H:Hp) (Q:VK):Prop where
 | mk (t a o:Addr) (inn:V) (ss:List Stt) (n:Int) (k:Nat) (s:Stt) (x:Str) (h0:vs=[.ref t,.int n,.str x]) (h1:n=k) (h2:SqT K H t [.ref a,inn,.ref o]) (h3:Stts K H a ss) (h4:ss[k]?=some s) (h5:Q (onV (goN s.1 x)) H):E_next_state K vs H Q
def Zgi (K:XFg):Sp:=fun vs H Q _=>E_next_state K vs H Q
variable (P w K mg base) in
abbrev ZcU:Prop:=ZaB P w K mg base "next_state" 1 ["table", "state", "label"] (Zgi K)
theorem ZeX (B:Blt mg) (F:Fun K "next_state" "next_state" ZcA f fd) (hm:mg "next_state" = some (.ref f)):ZcU P w K mg base:=by
 refine ⟨f,fd,?_,hm,F.kp,F.binds fun _ _ _ _ _ _ us hl=>(by obtain ⟨x0,x1,x2,rfl⟩:=Zfa hl;rfl)⟩;refine F.ok sc_next_state (fun vs H Q E h=>?_) (fun cdv A outer s H vs Q E hr h=>?_)
 . obtain ⟨t,a,o,inn,ss,n,k,s,x,rfl,_⟩:=h
   rfl
 . obtain ⟨t,a,o,inn,ss,n,k,s,x,rfl,rfl,hT,⟨vs,hS,hD⟩,hs,q⟩:=h
   obtain ⟨v,hv,hvs⟩:=hD.get' (i:=k) (d:=stD s) (by rw [Xag,hs];rfl);obtain ⟨st,g,e,rfl,hst,⟨gv,hg,hgd⟩,he⟩:=Zk7 hvs;have lgv:=hgd.len_map
   refine ⟨_,(Zab (Zap (i:=3) sc_next_state.nd rfl (Or.inl rfl) (Zam Zai (Zam Zai (Zam Zai (pv 0) Zae (fun _ _=>rfl)) (pv 1) (fun _ _=>rfl)) Zae (fun _ _=>rfl)))
    (Zab (ZaQ Xbr rfl (ZaM (pv 3)) (ZaF rfl (Zaf (Zag (i:=4) sc_next_state.nd rfl (Or.inl rfl)) (Zaf (Zag (i:=5) sc_next_state.nd rfl (Or.inl rfl)) Zav))) (Zah (ZaN (Zaw Zbq (pv 4) (pv 2) (ZaA _)) (Zah (Zao (pv 5))) Zaq)))
    (Zah (Zao ZbU)))),?_⟩
   try dsimp only [cxOf,Cx.nox,Cx.wish]
   refine ⟨_,rfl,Or.inr (Or.inl ⟨t,_,_,.ref a,rfl,rfl,hT,rfl,?_⟩)⟩;refine ⟨_,rfl,Or.inl ⟨a,vs,_,.ref st,rfl,rfl,hS,Zar hv,?_⟩⟩;refine Or.inr (Or.inl ⟨st,_,_,.ref g,rfl,rfl,hst,rfl,?_⟩);refine ⟨_,rfl,g,rfl,⟨_,hg⟩,Za2 (xs:=gv) (fun i σ H'=>∃ u4 u5,σ=[some (.ref t),some (.int k),some (.str x),some (.ref g),u4,u5]/\H'=H/\∀ q∈s.1.take i,q.1≠x) ⟨none,none,rfl,rfl,fun q hq=>by simp at hq⟩ (fun i σ H' _ hv_=>by obtain ⟨_,_,_,e,_⟩:=hv_;exact by rw [e];exact hg) ?_ ?_⟩
   . rintro i y σ H2 hy ⟨u4,u5,rfl,rfl,hno⟩
     obtain ⟨p,t',hp,rfl,ht⟩:=hgd.goes_get hy;refine ⟨t',_,rfl,ht,rfl,_,_,rfl,_,_,rfl,rfl,?_⟩;refine ⟨_,rfl,_,rfl,rfl,_,rfl,?_⟩;refine ite2 (fun h1=>?_) (fun h1=>?_)
     . have h1:p.1=x:=V.str.inj (Xa7 h1)
       refine ⟨_,rfl,?_⟩;rw [ZjL hp h1 hno] at q;exact q
     . have h1:p.1≠x:=fun z=>h1 (Xa5 (by rw [z]))
       refine ⟨_,_,rfl,rfl,fun q hq=>?_⟩;rw [Xar,hp] at hq
       rcases Xaf.mp hq with hq | hq
       . exact hno q hq
       . rw [Xaj.mp hq];exact h1
   . rintro σ H2 ⟨u4,u5,rfl,rfl,hno⟩
     rw [lgv,Xas] at hno;rw [ZfS hno] at q;exact q
inductive E_inside_of_sort (K:XFg) (vs:List V) (H:Hp) (Q:VK):Prop where
 | mk (t S T R A:Addr) (ths:List (Str×Int)) (as:List (Option (Str×Int))) (n:Int) (k:Nat) (h0:vs=[.ref t,.ref A,.int n]) (h1:n=k) (h2:k<as.length) (h3:SqT K H t [.ref S,.ref T,.ref R]) (h4:Goes K H T ths) (h5:Ans K H A as) (h6:NetOk ths as) (h7:∀ (r:Addr) (H':Hp),H r=none->Same H H'->H' r=some (.tup [.str (Zb9 ths as n).1,.int (Zb9 ths as n).2])->Q (.ref r) H'):E_inside_of_sort K vs H Q
def ZdU (K:XFg):Sp:=fun vs H Q _=>E_inside_of_sort K vs H Q
variable (P w K mg base) in
abbrev ZbB:Prop:=ZaB P w K mg base "inside_of_sort" 1 ["net", "answers", "question"] (ZdU K)
theorem Zdq (B:Blt mg) (F:Fun K "inside_of_sort" "inside_of_sort" Zbz f fd) (hm:mg "inside_of_sort" = some (.ref f)):ZbB P w K mg base:=by
 refine ⟨f,fd,?_,hm,F.kp,F.binds fun _ _ _ _ _ _ us hl=>(by obtain ⟨x0,x1,x2,rfl⟩:=Zfa hl;rfl)⟩;refine F.ok sc_inside_of_sort (fun vs H Q E h=>?_) (fun cdv A outer s H vs Q E hr h=>?_)
 . obtain ⟨t,S,T,R,A,ths,as,n,k,rfl,_⟩:=h
   rfl
 . obtain ⟨t,S,T,R,A,ths,as,n,k,rfl,rfl,hk,hT,hG,hA,ok,q⟩:=h
   obtain ⟨vs,v,hA1,hv,hc⟩:=hA.get hk
   refine ⟨_,(Zab (Zap (i:=3) sc_inside_of_sort.nd rfl (Or.inl rfl) (Zam Zai (pv 1) (pv 2) (fun _ _=>rfl)))
    (Zab (ZaN (ZcH (ZcG (pv 3))) (Zah (Zao (Zat (Zaa ZaE (Zaa (pv 2) Zac))))) Zaq)
    (Zab (ZaN (Zaw Zbq (Zam Zai (pv 3) Zae (fun _ _=>rfl)) ZaE (ZaA _)) (Zab (Za8 (Zam Zai (Zam Zai (pv 0) Zae (fun _ _=>rfl)) (Zam Zai (pv 3) Zae (fun _ _=>rfl)) (fun _ _=>rfl)) (ZaF rfl (Zaf (Zag (i:=4) sc_inside_of_sort.nd rfl (Or.inl rfl)) (Zaf (Zag (i:=5) sc_inside_of_sort.nd rfl (Or.inl rfl)) Zav))))
     (Zah (ZaN (Zaw Zbq (pv 4) ZaE (ZaA _)) (Zah (Zao (Zat (Zaa ZaE (Zaa (pv 5) Zac))))) Zaq))) Zaq)
    (Zah (Zao (Zat (Zaa ZaE (Zaa Zae Zac)))))))),?_⟩
   try dsimp only [cxOf,Cx.nox,Cx.wish]
   refine ⟨_,rfl,_,rfl,Or.inl ⟨A,vs,_,v,rfl,rfl,hA1,Zar hv,?_⟩⟩;refine g_in ?_;try dsimp only
   rcases hc with ⟨e1,rfl⟩ | ⟨p,ta,e1,rfl,hta⟩
   . refine ⟨_,rfl,_,rfl,ite2 (fun _=>?_) (fun h=>absurd (Xa5 rfl) h)⟩
     refine ⟨_,rfl,ZaI,fun r hr=>?_⟩;rw [ZiN e1] at q;exact q r _ hr (Zak hr) upd_same
   refine ⟨_,rfl,_,rfl,ite2 (fun h=>absurd (Xa7 h) (by simp)) (fun _=>?_)⟩;refine ⟨_,rfl,Or.inr (Or.inl ⟨ta,_,_,.str p.1,rfl,rfl,hta,rfl,rfl,_,rfl,ite2 (fun h=>?_) (fun h=>?_)⟩)⟩
   . have hp:p.1=("thing" : Str):=V.str.inj (Xa7 h)
     obtain ⟨p0,p1⟩:=ok.t p (Xah e1) hp;obtain ⟨m,hm⟩:=Xa3 p0
     have hml:m<ths.length:=by omega
     have hkk:=Xab hml;obtain ⟨tv,th,hT1,hth,sth⟩:=hG.get hkk
     have hat:atI tv p.2=some (.ref th):=by rw [hm];exact Zar hth
     refine ⟨_,rfl,Or.inr (Or.inl ⟨t,_,_,.ref T,rfl,rfl,hT,rfl,_,rfl,Or.inr (Or.inl ⟨ta,_,_,.int p.2,rfl,rfl,hta,rfl,Or.inl ⟨T,tv,_,.ref th,rfl,rfl,hT1,hat,?_⟩⟩)⟩)⟩;refine ⟨th,_,rfl,sth,rfl,_,_,rfl,_,_,rfl,rfl,?_⟩;refine ⟨_,rfl,rfl,_,rfl,ite2 (fun h=>?_) (fun h=>?_)⟩
     . have hk1:ths[m].1=("part" : Str):=V.str.inj (Xa7 h)
       refine ⟨_,rfl,ZaI,fun r hr=>?_⟩;rw [ZiO e1 hp hm hkk hk1] at q;exact q r _ hr (Zak hr) upd_same
     . have hk1:ths[m].1≠("part" : Str):=fun z=>h (Xa5 (by rw [z]))
       refine ⟨ZaI,fun r hr=>?_⟩;rw [ZiP e1 hp hm hkk hk1] at q;exact q r _ hr (Zak hr) upd_same
   . have hp:p.1≠("thing" : Str):=fun z=>h (Xa5 (by rw [z]))
     refine ⟨ZaI,fun r hr=>?_⟩;rw [Zk9 e1 hp] at q;exact q r _ hr (Zak hr) upd_same
inductive E_inside (K:XFg) (vs:List V) (H:Hp) (Q:VK):Prop where
 | mk (t S T R A:Addr) (ths:List (Str×Int)) (as:List (Option (Str×Int))) (n:Int) (k:Nat) (p:Str×Int) (h0:vs=[.ref t,.ref A,.int n]) (h1:n=k) (h2:ths[k]?=some p) (h3:SqT K H t [.ref S,.ref T,.ref R]) (h4:Goes K H T ths) (h5:Ans K H A as) (h6:NetOk ths as) (h7:∀ (r:Addr) (H':Hp),H r=none->Same H H'->H' r=some (.tup [.str (Za3 ths as p).1,.int (Za3 ths as p).2])->Q (.ref r) H'):E_inside K vs H Q
def ZkC (K:XFg):Sp:=fun vs H Q _=>E_inside K vs H Q
variable (P w K mg base) in
abbrev Zej:Prop:=ZaB P w K mg base "inside" 2 ["net", "answers", "thing"] (ZkC K)
theorem ZhN (B:Blt mg) (c_inside_of_sort:ZbB P w K mg base) (F:Fun K "inside" "inside" ZfA f fd) (hm:mg "inside" = some (.ref f)):Zej P w K mg base:=by
 refine ⟨f,fd,?_,hm,F.kp,F.binds fun _ _ _ _ _ _ us hl=>(by obtain ⟨x0,x1,x2,rfl⟩:=Zfa hl;rfl)⟩;refine F.ok sc_inside (fun vs H Q E h=>?_) (fun cdv A outer s H vs Q E hr h=>?_)
 . obtain ⟨t,S,T,R,A,ths,as,n,k,p,rfl,_⟩:=h
   rfl
 . obtain ⟨t,S,T,R,A,ths,as,n,k,p,rfl,rfl,hp,hT,hG,hA,ok,q⟩:=h
   obtain ⟨tv,th,hT1,hth,sth⟩:=hG.get hp
   refine ⟨_,(Zab (Za8 (Zam Zai (Zam Zai (pv 0) Zae (fun _ _=>rfl)) (pv 2) (fun _ _=>rfl)) (ZaF rfl (Zaf (Zag (i:=3) sc_inside.nd rfl (Or.inl rfl)) (Zaf (Zag (i:=4) sc_inside.nd rfl (Or.inl rfl)) Zav))))
    (Zab (ZaN (Zaw Zbq (pv 3) ZaE (ZaA _)) (Zah (Zao (Zat (Zaa ZaE (Zaa (pv 4) Zac))))) Zaq)
    (Zab (ZaN (Zaw Zbq (pv 3) ZaE (ZaA _)) (Zah (Zao (Zaz c_inside_of_sort (hr.mono (by decide)) rfl (Zaa (pv 0) (Zaa (pv 1) (Zaa (pv 4) Zac)))))) Zaq)
    (Zah (Zao (Zat (Zaa ZaE (Zaa Zae Zac)))))))),?_⟩
   try dsimp only [cxOf,Cx.nox,Cx.wish]
   refine ⟨_,rfl,Or.inr (Or.inl ⟨t,_,_,.ref T,rfl,rfl,hT,rfl,_,rfl,Or.inl ⟨T,tv,_,.ref th,rfl,rfl,hT1,Zar hth,?_⟩⟩)⟩;refine ⟨th,_,rfl,sth,rfl,_,_,rfl,_,_,rfl,rfl,?_⟩;refine ⟨_,rfl,rfl,_,rfl,ite2 (fun h=>?_) (fun h=>?_)⟩
   . have h1:p.1=("part" : Str):=V.str.inj (Xa7 h)
     refine ⟨_,rfl,ZaI,fun r hr=>?_⟩
     rw [show Za3 ths as p=(("to" : Str),p.2) from Xbe h1] at q
     exact q r _ hr (Zak hr) upd_same
   have h1:p.1≠("part" : Str):=fun z=>h (Xa5 (by rw [z]))
   refine ⟨_,rfl,rfl,_,rfl,ite2 (fun h=>?_) (fun h=>?_)⟩
   . have h2:p.1=("sort" : Str):=V.str.inj (Xa7 h)
     obtain ⟨p0,p1⟩:=ok.q p (Xah hp) h2;obtain ⟨m,hm⟩:=Xa3 p0;rw [show Za3 ths as p=Zb9 ths as p.2 from (Xbd h1).trans (Xbe h2)] at q;exact ⟨_,rfl,_,rfl,_,rfl,t,S,T,R,A,ths,as,p.2,m,rfl,hm,by omega,hT,hG,hA,ok,q⟩
   . have h2:p.1≠("sort" : Str):=fun z=>h (Xa5 (by rw [z]))
     refine ⟨ZaI,fun r hr=>?_⟩
     rw [show Za3 ths as p=(("no" : Str),0) from (Xbd h1).trans (Xbd h2)] at q
     exact q r _ hr (Zak hr) upd_same
inductive E_goal (K:XFg) (vs:List V) (H:Hp) (Q:VK):Prop where
 | mk (t S T R A st:Addr) (ths:List (Str×Int)) (as:List (Option (Str×Int))) (p:Stp) (h0:vs=[.ref t,.ref A,.ref st]) (h1:SqT K H t [.ref S,.ref T,.ref R]) (h2:Goes K H T ths) (h3:Ans K H A as) (h4:NetOk ths as) (h5:SqT K H st (stpV p)) (h6:(p.2.1≠("to" : Str)->0<=p.2.2/\p.2.2<as.length)) (h7:∀ (r:Addr) (H':Hp),H r=none->Same H H'->H' r=some (.tup [.str (ZbG ths as p).1,.int (ZbG ths as p).2])->Q (.ref r) H'):E_goal K vs H Q
def sp_goal (K:XFg):Sp:=fun vs H Q _=>E_goal K vs H Q
variable (P w K mg base) in
abbrev ZkD:Prop:=ZaB P w K mg base "goal" 3 ["net", "answers", "step"] (sp_goal K)
theorem ZkE (B:Blt mg) (c_inside:Zej P w K mg base) (F:Fun K "goal" "goal" Zi8 f fd) (hm:mg "goal" = some (.ref f)):ZkD P w K mg base:=by
 refine ⟨f,fd,?_,hm,F.kp,F.binds fun _ _ _ _ _ _ us hl=>(by obtain ⟨x0,x1,x2,rfl⟩:=Zfa hl;rfl)⟩;refine F.ok sc_goal (fun vs H Q E h=>?_) (fun cdv A outer s H vs Q E hr h=>?_)
 . obtain ⟨t,S,T,R,A,st,ths,as,p,rfl,_⟩:=h
   rfl
 . obtain ⟨t,S,T,R,A,st,ths,as,p,rfl,hT,hG,hA,ok,hst,hp,q⟩:=h
   refine ⟨_,(Zab (Za8 (pv 2) (ZaF rfl (Zaf (Zag (i:=3) sc_goal.nd rfl (Or.inl rfl)) (Zaf (Zag (i:=4) sc_goal.nd rfl (Or.inl rfl)) (Zaf (Zag (i:=5) sc_goal.nd rfl (Or.inl rfl)) Zav)))))
    (Zab (ZaN (Zaw Zbq (pv 4) ZaE (ZaA _)) (Zah (Zao (Zat (Zaa ZaE (Zaa (pv 5) Zac))))) Zaq)
    (Zab (Zap (i:=6) sc_goal.nd rfl (Or.inl rfl) (Zam Zai (pv 1) (pv 5) (fun _ _=>rfl)))
    (Zab (ZaN (ZcH (ZcG (pv 6))) (Zah (Zao (Zat (Zaa ZaE (Zaa (pv 5) Zac))))) Zaq)
    (Zab (ZaN (Zaw Zbq (Zam Zai (pv 6) Zae (fun _ _=>rfl)) ZaE (ZaA _)) (Zah (Zao (Zaz c_inside (hr.mono (by decide)) rfl (Zaa (pv 0) (Zaa (pv 1) (Zaa (Zam Zai (pv 6) Zae (fun _ _=>rfl)) Zac)))))) Zaq)
    (Zah (Zao (Zat (Zaa ZaE (Zaa Zae Zac)))))))))),?_⟩
   try dsimp only [cxOf,Cx.nox,Cx.wish]
   refine ⟨_,rfl,st,_,rfl,hst,rfl,_,_,rfl,_,_,rfl,_,_,rfl,rfl,?_⟩;refine ⟨_,rfl,rfl,_,rfl,ite2 (fun h=>?_) (fun h=>?_)⟩
   . have h1:p.2.1=("to" : Str):=V.str.inj (Xa7 h)
     refine ⟨_,rfl,ZaI,fun r hr=>?_⟩;rw [Zc3 h1] at q;exact q r _ hr (Zak hr) upd_same
   have h1:p.2.1≠("to" : Str):=fun z=>h (Xa5 (by rw [z]))
   obtain ⟨p0,p1⟩:=hp h1;obtain ⟨n,hn⟩:=Xa3 p0;obtain ⟨vs,v,hA1,hv,hc⟩:=hA.get (k:=n) (by omega)
   have hatn:atI vs p.2.2=some v:=by rw [hn];exact Zar hv
   refine ⟨_,rfl,_,rfl,Or.inl ⟨A,vs,_,v,rfl,rfl,hA1,hatn,?_⟩⟩;refine g_in ?_;try dsimp only
   rcases hc with ⟨e1,rfl⟩ | ⟨pa,ta,e1,rfl,hta⟩
   . refine ⟨_,rfl,_,rfl,ite2 (fun _=>?_) (fun h=>absurd (Xa5 rfl) h)⟩
     refine ⟨_,rfl,ZaI,fun r hr=>?_⟩;rw [ZiQ h1 hn e1] at q;exact q r _ hr (Zak hr) upd_same
   refine ⟨_,rfl,_,rfl,ite2 (fun h=>absurd (Xa7 h) (by simp)) (fun _=>?_)⟩;refine ⟨_,rfl,Or.inr (Or.inl ⟨ta,_,_,.str pa.1,rfl,rfl,hta,rfl,rfl,_,rfl,ite2 (fun h=>?_) (fun h=>?_)⟩)⟩
   . have hpa:pa.1=("thing" : Str):=V.str.inj (Xa7 h)
     obtain ⟨q0,q1⟩:=ok.t pa (Xah e1) hpa;obtain ⟨m,hm⟩:=Xa3 q0;have hkk:=Xab (show m<ths.length by omega);rw [Zlc h1 hn e1 hpa hm hkk] at q;exact ⟨_,rfl,_,rfl,_,rfl,Or.inr (Or.inl ⟨ta,_,_,.int pa.2,rfl,rfl,hta,rfl,t,S,T,R,A,ths,as,pa.2,m,_,rfl,hm,hkk,hT,hG,hA,ok,q⟩)⟩
   . have hpa:pa.1≠("thing" : Str):=fun z=>h (Xa5 (by rw [z]))
     refine ⟨ZaI,fun r hr=>?_⟩;rw [Zlb h1 hn e1 hpa] at q;exact q r _ hr (Zak hr) upd_same
theorem four_le:([]:List V).length+1+1+1+1<=sizeLine:=by decide
theorem ZkF (h:W.sts[k]?=some s):Za7 W (k:Int)=s.1:=by unfold Za7;rw [Xa4,h]
theorem Zi0 {s:Sco} (h:W.ss[k]?=some s):ZaD W (k:Int)=s.1:=by unfold ZaD;rw [Xa4,h]
variable {sc:Int}
theorem Zi1 {go:List (Str×Int)} {a:Int} (h:goN go p.1=some a):ZcM W sc go p i=[((sc,("step" : Str),(i:Int)),ZbG W.gs W.as p,a)]:=by unfold ZcM;rw [h]
theorem Zi2 {go:List (Str×Int)} (h:goN go p.1=none):ZcM W sc go p i=[]:=by unfold ZcM;rw [h]
inductive E_steps_gone (K:XFg) (vs:List V) (H:Hp) (Q:VK):Prop where
 | mk (nt A t:Addr) (W:Wd) (sc st:Int) (h0:vs=[.ref nt,.ref A,.ref t,.int sc,.int st]) (h1:CaseH K H nt A t W) (h2:WOk W) (h3:(0<=sc/\sc<W.ss.length)) (h4:(0<=st/\st<W.sts.length)) (h5:∀ (D:Addr) (zs:List (Addr×Gn)) (H':Hp),H D=none->Same H H'->H' D=some (.lst (zs.map fun z=>V.ref z.1))->(∀ z∈zs,GnH H' z.1 z.2)->zs.map (·.2)=ZbW W sc st->Q (.ref D) H'):E_steps_gone K vs H Q
def Zgj (K:XFg):Sp:=fun vs H Q _=>E_steps_gone K vs H Q
variable (P w K mg base) in
abbrev ZbZ:Prop:=ZaB P w K mg base "steps_gone" 4 ["net", "answers", "table", "scope", "state"] (Zgj K)
theorem ZeY (B:Blt mg) (c_next_state:ZcU P w K mg base) (c_goal:ZkD P w K mg base) (F:Fun K "steps_gone" "steps_gone" ZcB f fd) (hm:mg "steps_gone" = some (.ref f)):ZbZ P w K mg base:=by
 refine ⟨f,fd,?_,hm,F.kp,F.binds fun _ _ _ _ _ _ us hl=>(by obtain ⟨x0,x1,x2,x3,x4,rfl⟩:=len_5 hl;rfl)⟩;refine F.ok sc_steps_gone (fun vs H Q E h=>?_) (fun cdv A outer s H vs Q E hr h=>?_)
 . obtain ⟨nt,A,t,W,sc,st,rfl,_⟩:=h
   rfl
 . obtain ⟨nt,A,t,W,sc,st,rfl,hC,ok,hsc,hst,q⟩:=h
   obtain ⟨S,T,R,us,Gs,Es,ts,qt,qs,eN,N3⟩:=hC.net;obtain ⟨a,o,inn,b1,tv,b2,b3⟩:=hC.tab;obtain ⟨n,hn⟩:=Xa3 hsc.1;obtain ⟨k,hk⟩:=Xa3 hst.1;subst hn hk
   have hnl:n<W.ss.length:=by omega
   have hkl:k<W.sts.length:=by omega
   obtain ⟨u,G,E1,g1,g2,g3,g4,⟨c0,⟨tG,c1,c2⟩,_⟩⟩:=N3.sc.get hnl;have hks:=Xab hkl;have eS:=Zi0 g4;have eG:=ZkF hks;have hat:atI (us.map V.ref) (n:Int)=some (.ref u):=Zar (by rw [Xag,g1];rfl);have st3:=ok.st _ (Xav hnl)
   refine ⟨_,(Zab (Zap (i:=5) sc_steps_gone.nd rfl (Or.inl rfl) (ZaJ Zac))
    (Zab (ZaQ Xbr rfl (ZfP rfl B.b_enumerate (Zaa (Zam Zai (Zam Zai (Zam Zai (pv 0) Zae (fun _ _=>rfl)) (pv 3) (fun _ _=>rfl)) Zae (fun _ _=>rfl)) Zac)) (ZaF rfl (Zaf (Zag (i:=6) sc_steps_gone.nd rfl (Or.inl rfl)) (Zaf (Zag (i:=7) sc_steps_gone.nd rfl (Or.inl rfl)) Zav))) (Zab (Zap (i:=8) sc_steps_gone.nd rfl (Or.inl rfl) (Zaz c_next_state (hr.mono (by decide)) rfl (Zaa (pv 2) (Zaa (pv 4) (Zaa (Zam Zai (pv 7) Zae (fun _ _=>rfl)) Zac)))))
     (Zah (ZaN (ZcH (Zjf (pv 8))) (Zab (Za8 (Zaz c_goal (hr.mono (by decide)) rfl (Zaa (pv 0) (Zaa (pv 1) (Zaa (pv 7) Zac)))) (ZaF rfl (Zaf (Zag (i:=9) sc_steps_gone.nd rfl (Or.inl rfl)) (Zaf (Zag (i:=10) sc_steps_gone.nd rfl (Or.inl rfl)) Zav))))
      (Zah (ZaW (Zb4 Xa8 Xa9 Xba ZaK (pv 5) (Zaa (Zat (Zaa (Zat (Zaa (pv 3) (Zaa ZaE (Zaa (pv 6) Zac)))) (Zaa (pv 9) (Zaa (pv 10) (Zaa (pv 8) Zac))))) Zac))))) Zaq))))
    (Zah (Zao (pv 5))))),?_⟩
   try dsimp only [cxOf,Cx.nox,Cx.wish]
   refine ⟨by decide,fun D hD=>?_⟩;obtain ⟨H1,qH1,s1,eD1⟩:=new_at (o:=.lst []) hD;rw [<-qH1];refine ⟨_,rfl,Or.inr (Or.inl ⟨nt,_,_,.ref S,rfl,rfl,SqT.of (s1 _ _ eN),rfl,_,rfl,Or.inl ⟨S,_,_,.ref u,rfl,rfl,SqL.of (s1 _ _ N3.sc.top),hat,Or.inr (Or.inl ⟨u,_,_,.ref G,rfl,rfl,SqT.of (s1 _ _ c0),rfl,G,rfl,⟨_,s1 _ _ c1⟩,?_⟩)⟩⟩)⟩
   refine Zee (xs:=tG.map V.ref) (fun i σ H'=>∃ u6 u7 u8 u9 u10 zs,σ=[some (.ref nt),some (.ref A),some (.ref t),some (.int n),some (.int k),some (.ref D),u6,u7,u8,u9,u10]/\Same H H'/\H' D=some (.lst (zs.map fun z:Addr×Gn=>V.ref z.1))/\(∀ z∈zs,GnH H' z.1 z.2)/\zs.map (·.2)=Zcc W n (Za7 W k) ((ZaD W n).take i) 0)
    ⟨none,none,none,none,none,[],rfl,s1,eD1,fun z hz=>by simp at hz,by rw [Xaz];rfl⟩ (fun i σ H' hv_=>by obtain ⟨_,_,_,_,_,_,_,s,_⟩:=hv_;exact SqL.of (s _ _ c1)) ?_ ?_
   rotate_left
   . rintro σ H2 ⟨u6,u7,u8,u9,u10,zs,rfl,s2,eD2,hz,hm⟩
     refine ⟨_,rfl,q D zs H2 hD s2 eD2 hz ?_⟩;rw [hm,Xaa,c2.len,eS,Xas];unfold ZbW;rw [eS]
   rintro i x T' σ H2 hx hT' ⟨u6,u7,u8,u9,u10,zs,rfl,s2,eD2,hz,hm⟩;obtain ⟨tp,htp,rfl⟩:=getm hx
   have hil:i<W.ss[n].1.length:=by rw [<-c2.len];exact (Xae.mp htp).1
   have hp:=Xab hil;have etp:=c2.at_ i tp _ htp hp;have mp:=Xav hil;generalize W.ss[n].1[i]=p at hp etp mp;obtain ⟨H3,qH3,s3,eT'⟩:=new_at (o:=.tup [.int i,.ref tp]) hT';rw [<-qH3];have s03:=s2.trans s3
   have etk:Zcc W n (Za7 W k) ((ZaD W n).take (i+1)) 0=Zcc W n (Za7 W k) ((ZaD W n).take i) 0++ZcM W n (Za7 W k) p i:=by
    rw [Xar,eS,hp];show Zcc W n (Za7 W k) (W.ss[n].1.take i++[p]) 0=_;rw [Zfs,Xaw,Nat.zero_add,Nat.min_eq_left (by omega)]
   refine ⟨T',_,rfl,SqT.of eT',rfl,_,_,rfl,_,_,rfl,rfl,?_⟩;refine ⟨_,rfl,_,rfl,_,rfl,Or.inr (Or.inl ⟨tp,_,_,.str p.1,rfl,rfl,SqT.of (s03 _ _ etp),rfl,t,a,o,inn,W.sts,k,k,_,p.1,rfl,rfl,s03.seqT b1,⟨tv,s03.seq b2,b3.same s03⟩,hks,?_⟩)⟩;rw [<-eG];refine g_in ?_;try dsimp only
   cases eg:goN (Za7 W k) p.1 with
   | none =>
     refine ⟨_,rfl,_,rfl,ite2 (fun h=>absurd h (by simp [onV])) (fun _=>?_)⟩;refine ⟨_,_,_,_,_,zs,rfl,s03,s3 _ _ eD2,fun z h=>(hz z h).same s3,?_⟩;rw [etk,Zi2 eg,XaH,hm]
   | some af =>
     refine ⟨_,rfl,_,rfl,ite2 (fun _=>?_) (fun h=>absurd (by simp [onV]) h)⟩;refine ⟨_,rfl,_,rfl,_,rfl,nt,S,T,R,A,tp,W.gs,W.as,p,rfl,SqT.of (s03 _ _ eN),⟨_,SqL.of (s03 _ _ N3.et),(N3.tg.same s03).dts⟩,hC.ans.same s03,ok.net,SqT.of (s03 _ _ etp),fun e=>ok.by_ (Xav hnl) mp e,fun r H4 hr s4 er=>?_⟩;refine ⟨r,_,rfl,SqT.of er,rfl,_,_,rfl,_,_,rfl,rfl,?_⟩;have eD4:=s4 _ _ (s3 _ _ eD2);refine ⟨_,rfl,Or.inl ⟨rfl,_,SqL.of eD4⟩,_,rfl,_,rfl,ZaV,fun m hm'=>?_⟩
     obtain ⟨H5,qH5,s5,em⟩:=new_at (o:=.tup [.int n,.str "step",.int i]) hm'
     rw [<-qH5];refine ⟨_,rfl,_,rfl,_,rfl,four_le,fun z hz'=>?_⟩;obtain ⟨H6,qH6,s6,ez⟩:=new_at (o:=.tup [.ref m,.str (ZbG W.gs W.as p).1,.int (ZbG W.gs W.as p).2,onV (some af)]) hz';rw [<-qH6];have s36:=(s4.trans s5).trans s6;have eD6:=s36 _ _ (s3 _ _ eD2);have k6:Keeps (·=D) H6 (upd H6 D (.lst (zs.map (fun z=>V.ref z.1)++[.ref z]))):=Keeps.one eD6
     have lz:zs.length<=8:=by
      have e1:=Xbj List.length hm;have e2:=ZbR W n (Za7 W k) ((ZaD W n).take i) 0;rw [Xaw,eS] at e2;rw [Xaa] at e1;rw [eS] at e1;omega
     refine ⟨D,_,_,rfl,rfl,eD6,by rw [Xaa];exact Zan (by omega),?_⟩
     refine ⟨_,_,_,_,_,zs++[(z,(((n:Int),("step" : Str),(i:Int)),ZbG W.gs W.as p,af))],rfl,fun b o e=>?_,by rw [upd_same,Xad];rfl,fun y hy=>?_,?_⟩
     . rw [Zal (Zad e hD)];exact s36 _ _ (s03 _ _ e)
     . rcases Xaf.mp hy with hy | hy
       . exact ((hz y hy).same (s3.trans s36)).keeps k6
       . rw [Xaj.mp hy]
         exact ⟨m,k6.tup ez,k6.tup (s6 _ _ em)⟩
     . rw [etk,Zi1 eg,Xad,hm];rfl
theorem ZlG {r:Gn} (h1:r.2.1.1=("to" : Str)) (h2:r.2.1.2 ∉ been b):kid b r=some (b.1++[r.1],r.2.1.2,r.2.2):=Xbe ⟨h1,h2⟩
theorem ZlH {r:Gn} (h:¬(r.2.1.1=("to" : Str)/\r.2.1.2 ∉ been b)):kid b r=none:=Xbd h
theorem fm_snoc {α β:Type} (f:α->Option β) (l:List α) (x:α):(l++[x]).filterMap f=l.filterMap f++(f x).toList:=by
 rw [List.filterMap_append]
 cases e:f x <;> simp [e]
theorem ZlI (b:Beg):(been b).length=b.1.length+1:=by unfold been;simp
inductive E_longer_by_a_step (K:XFg) (vs:List V) (H:Hp) (Q:VK):Prop where
 | mk (nt A t bt:Addr) (W:Wd) (b:Beg) (h0:vs=[.ref nt,.ref A,.ref t,.ref bt]) (h1:CaseH K H nt A t W) (h2:WOk W) (h3:BegOk W b) (h4:(∃ F,BgH F H bt b)) (h5:∀ (D:Addr) (zs:List (Addr×Beg)) (H':Hp),H D=none->Same H H'->H' D=some (.lst (zs.map fun z=>V.ref z.1))->(∀ z∈zs,BgH (fun l=>H l=none/\l≠D) H' z.1 z.2)->zs.map (·.2)=kids W b->Q (.ref D) H'):E_longer_by_a_step K vs H Q
def Zdr (K:XFg):Sp:=fun vs H Q _=>E_longer_by_a_step K vs H Q
variable (P w K mg base) in
abbrev Zbn:Prop:=ZaB P w K mg base "longer_by_a_step" 5 ["net", "answers", "table", "beginning"] (Zdr K)
theorem ZcV (B:Blt mg) (c_steps_gone:ZbZ P w K mg base) (F:Fun K "longer_by_a_step" "longer_by_a_step" Za6 f fd) (hm:mg "longer_by_a_step" = some (.ref f)):Zbn P w K mg base:=by
 refine ⟨f,fd,?_,hm,F.kp,F.binds fun _ _ _ _ _ _ us hl=>(by obtain ⟨x0,x1,x2,x3,rfl⟩:=Zdn hl;rfl)⟩;refine F.ok sc_longer_by_a_step (fun vs H Q E h=>?_) (fun cdv A outer s H vs Q E hr h=>?_)
 . obtain ⟨nt,A,t,bt,W,b,rfl,_⟩:=h
   rfl
 . obtain ⟨nt,A,t,bt,W,b,rfl,hC,ok,hb,⟨F,l,ms,e1,e2,e3,_⟩,q⟩:=h
   have hml:ms.length<=100:=by
    have:=Zbb W.ss.length (been b) hb.nd hb.rng
    rw [ZlI] at this
    have:=ok.s5
    rw [e3.len];omega
   have hsc:=hb.rng b.2.1 (by unfold been;simp)
   refine ⟨_,(Zab (Za8 (pv 3) (ZaF rfl (Zaf (Zag (i:=4) sc_longer_by_a_step.nd rfl (Or.inl rfl)) (Zaf (Zag (i:=5) sc_longer_by_a_step.nd rfl (Or.inl rfl)) (Zaf (Zag (i:=6) sc_longer_by_a_step.nd rfl (Or.inl rfl)) Zav)))))
    (Zab (Zap (i:=7) sc_longer_by_a_step.nd rfl (Or.inl rfl) (Zau Zfm (ZcK (te:=tOp (rIx K) (tVar 0) (tC (.int ((0:Nat):Int)))) rfl longer_by_a_step_cs1 (ZaM (pv 4)) (fun _ _ _ _ _=>(Zag (i:=0) longer_by_a_step_cs1.nd rfl (Or.inl rfl))) (fun _ _ _ _ _=>ZcJ) (fun _ _ _ _ _=>(Zam Zai (pv 0) Zae (fun _ _=>rfl)))) (ZaJ (Zaa (pv 5) Zac))))
    (Zab (Zap (i:=8) sc_longer_by_a_step.nd rfl (Or.inl rfl) (ZaJ Zac))
    (Zab (ZaQ Xbr rfl (ZaM (Zaz c_steps_gone (hr.mono (by decide)) rfl (Zaa (pv 0) (Zaa (pv 1) (Zaa (pv 2) (Zaa (pv 5) (Zaa (pv 6) Zac))))))) (ZaF rfl (Zaf (Zag (i:=9) sc_longer_by_a_step.nd rfl (Or.inl rfl)) (Zaf (Zag (i:=10) sc_longer_by_a_step.nd rfl (Or.inl rfl)) (Zaf (Zag (i:=11) sc_longer_by_a_step.nd rfl (Or.inl rfl)) (Zaf (Zag (i:=12) sc_longer_by_a_step.nd rfl (Or.inl rfl)) Zav))))) (Zah (ZaN (PW.pt (ZdZ (Zaw Zbq (pv 10) ZaE (ZaA _)) (ZcI (Zaw (ZjH hr.units) (pv 11) (pv 7) (by with_unfolding_all rfl))))) (Zah (ZaW (Zb4 Xa8 Xa9 Xba ZaK (pv 8) (Zaa (Zat (Zaa (Zau Zfm (pv 4) (ZaJ (Zaa (pv 9) Zac))) (Zaa (pv 11) (Zaa (pv 12) Zac)))) Zac)))) Zaq)))
    (Zah (Zao (pv 8))))))),?_⟩
   try dsimp only [cxOf,Cx.nox,Cx.wish]
   refine ⟨_,rfl,bt,_,rfl,SqT.of e1,rfl,_,_,rfl,_,_,rfl,_,_,rfl,rfl,?_⟩
   refine ⟨_,rfl,l,rfl,⟨_,SqL.of e2⟩,ZbM (xs:=ms.map V.ref) (fun D i ys H'=>Same H H'/\H' D=some (.lst ys)/\ys=(b.1.take i).map fun m=>V.int m.1)
    (fun D hD=>⟨Zak hD,upd_same,by rw [Xaz];rfl⟩) (fun D i ys H' hv_=>by obtain ⟨s,_⟩:=hv_;exact SqL.of (s _ _ e2)) (fun D i x ys H2 RR hD hx hv k=>?_) (fun C ys H1 hC0 hv=>?_)⟩
   . obtain ⟨s2,eD,rfl⟩:=hv
     obtain ⟨tm,htm,rfl⟩:=getm hx
     have hil:i<b.1.length:=by rw [<-e3.len];exact (Xae.mp htm).1
     have hm:=Xab hil;have etm:=e3.at_ i tm _ htm hm
     have etk:b.1.take (i+1)=b.1.take i++[b.1[i]]:=by rw [Xar,hm];rfl
     have hl5:=e3.len;refine ⟨_,rfl,Or.inr (Or.inl ⟨tm,_,_,.int b.1[i].1,rfl,rfl,SqT.of (s2 _ _ etm),rfl,?_⟩)⟩;refine k _ _ eD (by rw [Xaa,Xaw];exact Zan (by omega)) ⟨fun x o e=>?_,upd_same,by rw [etk,Xad];rfl⟩;rw [Zal (Zad e hD)];exact s2 _ _ e
   obtain ⟨s1,eC,rfl⟩:=hv;rw [Xaa,e3.len,Xas] at eC;refine ⟨_,rfl,ZbP,fun C2 hC2=>?_⟩;obtain ⟨H2,qH2,s2,eC2⟩:=new_at (o:=.lst [.int b.2.1]) hC2;rw [<-qH2];have hl5:=e3.len;refine ⟨C,C2,_,_,rfl,rfl,s2 _ _ eC,eC2,?_,fun B hB=>?_⟩
   . rw [Xaa]
     exact XaY (Zan (by show b.1.length+1<=1000;omega))
   have s3:=Zak (o:=.lst ((b.1.map fun m=>V.int m.1)++[.int b.2.1])) hB
   have eB:(upd H2 B (.lst ((b.1.map fun m=>V.int m.1)++[.int b.2.1]))) B=some (.lst ((been b).map V.int)):=by
    rw [upd_same];unfold been
    simp
   generalize upd H2 B (.lst ((b.1.map fun m=>V.int m.1)++[.int b.2.1]))=H3 at s3 eB ⊢;have s03:=(s1.trans s2).trans s3;refine g_in ?_;try dsimp only
   refine ⟨by decide,fun D hD=>?_⟩;have hDH:H D=none:=s03.free hD;obtain ⟨H4,qH4,s4,eD4⟩:=new_at (o:=.lst []) hD;rw [<-qH4];have s04:=s03.trans s4;refine ⟨_,rfl,_,rfl,_,rfl,_,rfl,_,rfl,nt,A,t,W,b.2.1,b.2.2,rfl,hC.same s04,ok,hsc,hb.st,fun G gz H5 hG s5 eG hgz hgm=>⟨G,rfl,⟨_,SqL.of eG⟩,?_⟩⟩;have s05:=s04.trans s5
   have lgz:gz.length<=8:=by
    have e1:=Xbj List.length hgm;have e2:=ZbR W b.2.1 (Za7 W b.2.2) (ZaD W b.2.1) 0;have e3:=Zie ok b.2.1;rw [Xaa] at e1;unfold ZbW at e1;omega
   refine Za2 (xs:=gz.map fun z=>V.ref z.1) (fun i σ H'=>∃ u9 u10 u11 u12 zs,σ=[some (.ref nt),some (.ref A),some (.ref t),some (.ref bt),some (.ref l),some (.int b.2.1),some (.int b.2.2),some (.ref B),some (.ref D),u9,u10,u11,u12]/\Keeps (·=D) H5 H'/\H' D=some (.lst (zs.map fun z:Addr×Beg=>V.ref z.1))/\(∀ z∈zs,BgH (fun l=>H l=none/\l≠D) H' z.1 z.2)/\zs.map (·.2)=((gz.map (·.2)).take i).filterMap (kid b))
    ⟨none,none,none,none,[],rfl,Keeps.refl fun x o m e=>by rw [m,s5 _ _ eD4] at e;exact ⟨_,(Xbc e).symm⟩,s5 _ _ eD4,fun z hz=>by simp at hz,by rw [Xaz];rfl⟩ (fun i σ H' _ hv_=>by obtain ⟨_,_,_,_,_,_,k,_⟩:=hv_;exact SqL.of (k.at_ _ _ eG fun z=>by rw [z,eD4] at hG;cases hG)) ?_ ?_
   rotate_left
   . rintro σ H6 ⟨u9,u10,u11,u12,zs,rfl,k6,eD6,hz,hm⟩
     refine ⟨_,rfl,q D zs H6 hDH (fun x o e=>?_) eD6 hz ?_⟩
     . exact k6.at_ _ _ (s05 _ _ e) (Zad e hDH)
     . rw [hm,Xaa,<-Xaa (f:=(·.2)),Xas,hgm];rfl
   rintro i x σ H6 hx ⟨u9,u10,u11,u12,zs,rfl,k6,eD6,hz,hm⟩;obtain ⟨z,hz0,rfl⟩:=getm hx;obtain ⟨m,em1,em2⟩:=hgz z (Xah hz0);have em1:=k6.tup em1;have em2:=k6.tup em2
   have etk:((gz.map (·.2)).take (i+1)).filterMap (kid b)=((gz.map (·.2)).take i).filterMap (kid b)++(kid b z.2).toList:=by
    rw [Xar,Xag,hz0];exact fm_snoc _ _ _
   have lz:zs.length<=8:=by
    have e1:=Xbj List.length hm;have e2:=List.length_filterMap_le (kid b) ((gz.map (·.2)).take i);rw [Xaw,Xaa] at e2;rw [Xaa] at e1;omega
   refine ⟨z.1,_,rfl,SqT.of em1,rfl,_,_,rfl,_,_,rfl,_,_,rfl,_,_,rfl,rfl,?_⟩
   have skip:¬(z.2.2.1.1=("to" : Str)/\z.2.2.1.2 ∉ been b)->zs.map (·.2)=((gz.map (·.2)).take (i+1)).filterMap (kid b):=fun hn=>by
    rw [etk,ZlH hn,hm];simp
   have eB6:=k6.at_ _ _ ((s4.trans s5) _ _ eB) (fun z=>by rw [z,hD] at eB;cases eB);refine ⟨_,rfl,rfl,_,rfl,ite2 (fun h1=>?_) (fun h1=>iteF ?_)⟩;rotate_left
   . exact ⟨_,_,_,_,zs,rfl,k6,eD6,hz,skip fun h=>h1 (Xa5 (by rw [h.1]))⟩
   have h1:z.2.2.1.1=("to" : Str):=V.str.inj (Xa7 h1)
   refine ⟨_,rfl,_,rfl,2,.int z.2.2.1.2,(been b).map Dt.int,B,_,fun d hd=>?_,by decide,.int _,rfl,SqL.of eB6,ints_dts _,_,rfl,ite2 (fun h2=>?_) (fun h2=>?_)⟩
   . obtain ⟨y,_,rfl⟩:=Xai.mp hd
     exact .int _ _
   rotate_left
   . refine ⟨_,_,_,_,zs,rfl,k6,eD6,hz,skip fun h=>h2 ?_⟩
     rw [ZaL fun z=>h.2 (ints_in.mp z)];rfl
   have h2:z.2.2.1.2 ∉ been b:=fun z=>by
    rw [ZaC (ints_in.mpr z)] at h2;cases h2
   have el6:=k6.at_ _ _ (s05 _ _ e2) (Zad e2 hDH);refine ⟨_,rfl,Or.inl ⟨rfl,_,SqL.of eD6⟩,_,rfl,_,rfl,ZbP,fun M hM=>?_⟩;obtain ⟨H7,qH7,s7,eM⟩:=new_at (o:=.lst [.ref m]) hM;rw [<-qH7];refine ⟨l,M,_,_,rfl,rfl,s7 _ _ el6,eM,by rw [Xaa];exact XaY (Zan (by show ms.length+1<=1000;omega)),fun L hL=>?_⟩
   have hLH:H L=none:=by
    have h6:=s7.free hL
    cases e:H L with
    | none=>rfl
    | some o=>rw [k6.at_ _ _ (s05 _ _ e) (Zad e hDH)] at h6;cases h6
   have nLD:L≠D:=fun y=>by rw [y,s7 _ _ eD6] at hL;cases hL
   have s8:=Zak (o:=.lst (ms.map V.ref++[.ref m])) hL
   have eL:(upd H7 L (.lst (ms.map V.ref++[.ref m]))) L=some (.lst ((ms++[m]).map V.ref)):=by rw [upd_same,Xad];rfl
   generalize upd H7 L (.lst (ms.map V.ref++[.ref m]))=H8 at s8 eL ⊢;refine ⟨_,rfl,_,rfl,ZaV,fun r hr=>?_⟩;obtain ⟨H9,qH9,s9,er⟩:=new_at (o:=.tup [.ref L,.int z.2.2.1.2,.int z.2.2.2]) hr;rw [<-qH9];have s69:=(s7.trans s8).trans s9;have eD9:=s69 _ _ eD6;have k9:Keeps (·=D) H9 (upd H9 D (.lst (zs.map (fun z=>V.ref z.1)++[.ref r]))):=Keeps.one eD9;refine ⟨D,_,_,rfl,rfl,eD9,by rw [Xaa];exact Zan (by omega),?_⟩;refine ⟨_,_,_,_,zs++[(r,(b.1++[z.2.1],z.2.2.1.2,z.2.2.2))],rfl,⟨fun x o e n=>?_,k6.ls⟩,by rw [upd_same,Xad];rfl,fun y hy=>?_,?_⟩
   . rw [Zal n];exact s69 _ _ (k6.at_ x o e n)
   . rcases Xaf.mp hy with hy | hy
     . exact ((hz y hy).same s69).keeps k9 fun x hx=>hx.2
     . rw [Xaj.mp hy]
       refine ⟨L,ms++[m],k9.tup er,k9.at_ _ _ (s9 _ _ eL) nLD,?_,hLH,nLD⟩;refine RT.snoc ?_ (k9.tup ((s69) _ _ em2));exact ((e3.same s05).keeps k6 |>.same s69).keeps k9
   . rw [etk,ZlG h1 h2,Xad,hm];rfl
inductive E_beginnings (K:XFg) (vs:List V) (H:Hp) (Q:VK):Prop where
 | mk (nt A t:Addr) (W:Wd) (sc st:Int) (h0:vs=[.ref nt,.ref A,.ref t,.int sc,.int st]) (h1:CaseH K H nt A t W) (h2:WOk W) (h3:(0<=sc/\sc<W.ss.length)) (h4:(0<=st/\st<W.sts.length)) (h5:∀ (D:Addr) (zs:List (Addr×Beg)) (H':Hp),H D=none->Same H H'->H' D=some (.lst (zs.map fun z=>V.ref z.1))->(∀ z∈zs,BgH (fun l=>H l=none/\l≠D) H' z.1 z.2)->Begs W sc st (zs.map (·.2))->Q (.ref D) H'):E_beginnings K vs H Q
def Zgk (K:XFg):Sp:=fun vs H Q _=>E_beginnings K vs H Q
variable (P w K mg base) in
abbrev ZcW:Prop:=ZaB P w K mg base "beginnings" 6 ["net", "answers", "table", "scope", "state"] (Zgk K)
theorem ZeZ (B:Blt mg) (c_longer_by_a_step:Zbn P w K mg base) (F:Fun K "beginnings" "beginnings" ZcC f fd) (hm:mg "beginnings" = some (.ref f)):ZcW P w K mg base:=by
 refine ⟨f,fd,?_,hm,F.kp,F.binds fun _ _ _ _ _ _ us hl=>(by obtain ⟨x0,x1,x2,x3,x4,rfl⟩:=len_5 hl;rfl)⟩;refine F.ok sc_beginnings (fun vs H Q E h=>?_) (fun cdv A outer s H vs Q E hr h=>?_)
 . obtain ⟨nt,A,t,W,sc,st,rfl,_⟩:=h
   rfl
 . obtain ⟨nt,A,t,W,sc,st,rfl,hC,ok,hsc,hst,q⟩:=h
   refine ⟨_,(Zab (Zap (i:=5) sc_beginnings.nd rfl (Or.inl rfl) (ZaJ (Zaa (Zat (Zaa (ZaJ Zac) (Zaa (pv 3) (Zaa (pv 4) Zac)))) Zac)))
    (Zab (Zap (i:=6) sc_beginnings.nd rfl (Or.inl rfl) Zae)
    (Zab (ZhU Xbr (Zaw ZiE (pv 6) (Zax Zbm (by rfl) B.b_len (by decide +kernel) (Zaa (pv 5) Zac)) (ZaA _)) (Zab (ZaW (Zb4 Xa8 PySem.F.slot_list_extend PySem.F.type_list_extend ZjD (pv 5) (Zaa (Zaz c_longer_by_a_step (hr.mono (by decide)) rfl (Zaa (pv 0) (Zaa (pv 1) (Zaa (pv 2) (Zaa (Zam Zai (pv 5) (pv 6) (fun _ _=>rfl)) Zac))))) Zac)))
     (Zab (ZaN (Zaw op_gt (Zax Zbm (by rfl) B.b_len (by decide +kernel) (Zaa (pv 5) Zac)) (pe_glob (v:=.int 200) rfl (Classical.choose_spec B.c_MOST_BEGINNINGS) ⟨_,rfl⟩) (ZaA _)) (Zah ZkP) Zaq)
     (Zah (ps_augR (i:=6) sc_beginnings.nd rfl (Or.inl rfl) Zae iop_add)))))
    (Zah (Zao (Zax (Zhy mkE intE intE hr.units (by decide) (by decide) (by decide)) (by rfl) B.b_sorted (by decide +kernel) (Zaa (pv 5) Zac))))))),?_⟩
   try dsimp only [cxOf,Cx.nox,Cx.wish]
   refine ⟨by decide,fun l hl=>?_⟩;obtain ⟨H1,qH1,s1,el⟩:=new_at (o:=.lst []) hl;rw [<-qH1];refine ⟨_,rfl,_,rfl,ZaV,fun r hr=>?_⟩;obtain ⟨H2,qH2,s2,er⟩:=new_at (o:=.tup [.ref l,.int sc,.int st]) hr;rw [<-qH2];refine ⟨ZbP,fun D hD=>?_⟩;have s02:=s1.trans s2;have hDH:H D=none:=s02.free hD;have nlD:l≠D:=Zad (s2 _ _ el) hD;obtain ⟨H3,qH3,s3,eD3⟩:=new_at (o:=.lst [.ref r]) hD;rw [<-qH3];have s03:=s02.trans s3;refine g_in ?_;try dsimp only
   refine ZfH ?_;try dsimp only
   refine ZdL (fun σ' H'=>∃ (u6:V) (zs:List (Addr×Beg)),σ'=[some (.ref nt),some (.ref A),some (.ref t),some (.int sc),some (.int st),some (.ref D),some u6]/\Same H H'/\H' D=some (.lst (zs.map fun z=>V.ref z.1))/\(∀ z∈zs,BgH (fun l=>H l=none/\l≠D) H' z.1 z.2)/\Bfs W sc st (zs.map fun z:Addr×Beg=>z.2) (zs.map fun z:Addr×Beg=>z.2).length) ?_ (fun N hN=>?_)
   . rintro σ' H4 ⟨u6,zs,rfl,s4,eD4,hz,hB⟩
     have hf:=hB.few ok hsc hst;rw [Xaa] at hf;refine ⟨_,rfl,D,zs.map fun z=>(V.ref z.1,z.2),rfl,?_,by rw [Xaa];omega,fun y hy=>?_,fun D2 zs' hp hs hD2=>?_⟩
     . rw [Xax];exact SqL.of eD4
     . obtain ⟨z,hz',rfl⟩:=Xai.mp hy
       exact (hz z hz').dt
     have s5:=Zak (o:=.lst (zs'.map (·.1))) hD2
     obtain ⟨ws,rfl⟩:∃ ws:List (Addr×Beg),zs'=ws.map fun z=>(V.ref z.1,z.2):=by
      have:∀ {l:List (RowE begE)},(∀ y∈l,y∈zs.map fun z=>((V.ref z.1,z.2):RowE begE))->∃ ws:List (Addr×Beg),l=ws.map fun z=>(V.ref z.1,z.2):=by
       intro l
       induction l with
       | nil=>exact fun _=>⟨[],rfl⟩
       | cons y l ih =>
         intro h;obtain ⟨ws,rfl⟩:=ih fun z hz=>h z (Xap _ hz);obtain ⟨z,_,rfl⟩:=Xai.mp (h y Xal);exact ⟨z :: ws,rfl⟩
      exact this fun y hy=>hp.mem_iff.mp hy
     have e2:(ws.map fun z=>((V.ref z.1,z.2):RowE begE)).map (·.2)=ws.map (·.2):=by rw [Xax];rfl
     have e1:(ws.map fun z=>((V.ref z.1,z.2):RowE begE)).map (·.1)=ws.map fun z=>V.ref z.1:=by rw [Xax];rfl
     have hp2:(ws.map (·.2)).Perm (zs.map (·.2)):=by
      have:=hp.map (·.2)
      rwa [e2,Xax] at this
     rw [e2] at hs;rw [e1] at s5 ⊢
     have nm:∀ z∈ws,z∈zs:=fun z hz'=>by
      have:=hp.mem_iff.mp (Xai.mpr ⟨z,hz',rfl⟩)
      obtain ⟨y,hy,e⟩:=Xai.mp this
      injection e with e1 e2
      have:y=z:=Prod.ext (V.ref.inj e1) e2
      rw [<-this];exact hy
     refine q D2 ws _ (s4.free hD2) (s4.trans s5) upd_same (fun z hz'=>?_) (hB.all ok hsc hst hp2 hs);refine ((hz z (nm z hz')).mono' ?_).same s5;intro x o ex hx;exact ⟨hx.1,fun y=>by rw [y,hD2] at ex;cases ex⟩
   refine ⟨fun m σ H'=>∃ (p:Nat) (zs:List (Addr×Beg)),σ=[some (.ref nt),some (.ref A),some (.ref t),some (.int sc),some (.int st),some (.ref D),some (.int p)]/\Same H H'/\H' D=some (.lst (zs.map fun z=>V.ref z.1))/\(∀ z∈zs,BgH (fun l=>H l=none/\l≠D) H' z.1 z.2)/\Bfs W sc st (zs.map fun z:Addr×Beg=>z.2) p/\m=62 - p,⟨_,0,[(r,([],sc,st))],rfl,s03,eD3,fun z hz=>?_,Bfs.start W sc st,rfl⟩,?_⟩
   . rw [Xaj.mp hz]
     exact ⟨l,[],s3 _ _ er,(s2.trans s3) _ _ el,RT.nil,hl,nlD⟩
   rintro m σ H4 ⟨p,zs,rfl,s4,eD4,hz,hB,em⟩;have hf:=hB.few ok hsc hst;have hle:=hB.le;rw [Xaa] at hf hle;refine ⟨_,rfl,_,rfl,_,_,rfl,Or.inl ⟨_,SqL.of eD4,rfl⟩,_,_,rfl,rfl,_,rfl,?_⟩
   by_cases hlt:p<zs.length
   rotate_left
   . have ep:p=zs.length:=by omega
     rw [Xa6 (by rw [Xaa];omega)];refine iteF (hN _ _ ⟨_,zs,rfl,s4,eD4,hz,?_⟩);rw [Xaa,<-ep];exact hB
   rw [Xa5 (by rw [Xaa];omega)];refine iteT ?_;have hzp:=Xab hlt
   have hbp:(zs.map (·.2))[p]?=some zs[p].2:=by rw [Xag,hzp];rfl
   have hBn:=hB.turn hbp;have ib:=(hB.is _ (Xah hbp)).ok ok hsc hst;refine ⟨fun σ' H'=>∃ (zs':List (Addr×Beg)),σ'=[some (.ref nt),some (.ref A),some (.ref t),some (.int sc),some (.int st),some (.ref D),some (.int ((p+1:Nat):Int))]/\Same H H'/\H' D=some (.lst (zs'.map fun z=>V.ref z.1))/\(∀ z∈zs',BgH (fun l=>H l=none/\l≠D) H' z.1 z.2)/\Bfs W sc st (zs'.map fun z:Addr×Beg=>z.2) (p+1),?_,?_⟩
   . rintro σ' H' ⟨zs',rfl,s5,eD5,hz5,hB5⟩
     exact ⟨_,by omega,p+1,zs',rfl,s5,eD5,hz5,hB5,rfl⟩
   have hat:atI (zs.map fun z=>V.ref z.1) (p:Int)=some (.ref zs[p].1):=Zar (by rw [Xag,hzp];rfl);refine ⟨_,rfl,Or.inl ⟨rfl,_,SqL.of eD4⟩,_,rfl,_,rfl,_,rfl,_,rfl,_,rfl,Or.inl ⟨D,_,_,.ref zs[p].1,rfl,rfl,SqL.of eD4,hat,nt,A,t,zs[p].1,W,zs[p].2,rfl,hC.same s4,ok,ib,⟨_,hz _ (Xav hlt)⟩,fun D2 ks H5 hD2 s5 eD2 hks hkm=>?_⟩⟩
   have hkl:ks.length<=8:=by
    have e1:=Xbj List.length hkm;have e2:=ZfT W zs[p].2;have e3:=Zie ok zs[p].2.2.1;rw [Xaa] at e1;omega
   have eD5:=s5 _ _ eD4;have k5:Keeps (·=D) H5 (upd H5 D (.lst (zs.map (fun z=>V.ref z.1)++ks.map fun z=>V.ref z.1))):=Keeps.one eD5;refine ⟨D,D2,_,_,rfl,rfl,eD5,eD2,by rw [Xaa,Xaa];exact XaY (Zan (by omega)),?_⟩;have few2:=hBn.few ok hsc hst;rw [<-hkm,<-Xad,Xaa] at few2;rw [<-hkm,<-Xad] at hBn
   have eDn:(upd H5 D (.lst (zs.map (fun z=>V.ref z.1)++ks.map fun z=>V.ref z.1))) D=some (.lst ((zs++ks).map fun z=>V.ref z.1)):=by rw [upd_same,Xad]
   have sn:Same H (upd H5 D (.lst (zs.map (fun z=>V.ref z.1)++ks.map fun z=>V.ref z.1))):=fun b o e=>by
    rw [Zal (Zad e hDH)];exact s5 _ _ (s4 _ _ e)
   have hzn:∀ z∈zs++ks,BgH (fun l=>H l=none/\l≠D) (upd H5 D (.lst (zs.map (fun z=>V.ref z.1)++ks.map fun z=>V.ref z.1))) z.1 z.2:=fun z h=>by
    rcases Xaf.mp h with h | h
    . exact ((hz z h).same s5).keeps k5 fun x hx=>hx.2
    . refine ((hks z h).mono fun x hx=>⟨s4.free hx.1,?_⟩).keeps k5 fun x hx=>hx.2
      intro y;rw [y,eD4] at hx;cases hx.1
   generalize upd H5 D (.lst (zs.map (fun z=>V.ref z.1)++ks.map fun z=>V.ref z.1))=H6 at eDn sn hzn ⊢;refine ⟨_,rfl,_,_,rfl,Or.inl ⟨_,SqL.of eDn,rfl⟩,_,_,rfl,rfl,_,rfl,?_⟩;rw [Xa6 (by rw [Xaa];omega)];refine iteF ?_;refine ⟨_,rfl,_,_,rfl,rfl,zs++ks,?_,sn,eDn,hzn,hBn⟩
   simp
inductive E_has_end (K:XFg) (vs:List V) (H:Hp) (Q:VK):Prop where
 | mk (t a o:Addr) (inn:V) (ss:List Stt) (n:Int) (k:Nat) (s:Stt) (x:Str) (h0:vs=[.ref t,.int n,.str x]) (h1:n=k) (h2:SqT K H t [.ref a,inn,.ref o]) (h3:Stts K H a ss) (h4:ss[k]?=some s) (h5:Q (.bl (dec (x∈s.2))) H):E_has_end K vs H Q
def Zi3 (K:XFg):Sp:=fun vs H Q _=>E_has_end K vs H Q
variable (P w K mg base) in
abbrev Ze0:Prop:=ZaB P w K mg base "has_end" 1 ["table", "state", "label"] (Zi3 K)
theorem Zhd (B:Blt mg) (F:Fun K "has_end" "has_end" Zel f fd) (hm:mg "has_end" = some (.ref f)):Ze0 P w K mg base:=by
 refine ⟨f,fd,?_,hm,F.kp,F.binds fun _ _ _ _ _ _ us hl=>(by obtain ⟨x0,x1,x2,rfl⟩:=Zfa hl;rfl)⟩;refine F.ok sc_has_end (fun vs H Q E h=>?_) (fun cdv A outer s H vs Q E hr h=>?_)
 . obtain ⟨t,a,o,inn,ss,n,k,s,x,rfl,_⟩:=h
   rfl
 . obtain ⟨t,a,o,inn,ss,n,k,s,x,rfl,rfl,hT,⟨vs,hS,hD⟩,hs,q⟩:=h
   obtain ⟨v,hv,hvs⟩:=hD.get' (i:=k) (d:=stD s) (by rw [Xag,hs];rfl);obtain ⟨st,g,e,rfl,hst,hg,he⟩:=Zk7 hvs
   refine ⟨_,(Zab (Zap (i:=3) sc_has_end.nd rfl (Or.inl rfl) (Zam Zai (Zam Zai (Zam Zai (pv 0) Zae (fun _ _=>rfl)) (pv 1) (fun _ _=>rfl)) Zae (fun _ _=>rfl)))
    (Zah (Zao (Zb3 (Zh5 hr.units) (pv 2) (pv 3) (by with_unfolding_all rfl))))),?_⟩
   try dsimp only [cxOf,Cx.nox,Cx.wish]
   refine ⟨_,rfl,Or.inr (Or.inl ⟨t,_,_,.ref a,rfl,rfl,hT,rfl,?_⟩)⟩;refine ⟨_,rfl,Or.inl ⟨a,vs,_,.ref st,rfl,rfl,hS,Zar hv,?_⟩⟩;refine Or.inr (Or.inl ⟨st,_,_,.ref e,rfl,rfl,hst,rfl,?_⟩);refine ⟨_,rfl,_,rfl,2,.str x,s.2.map Dt.str,e,_,fun d hd=>?_,by decide,.str x,rfl,he,IsDts.strs _,?_⟩
   . obtain ⟨y,_,rfl⟩:=Xai.mp hd
     exact .str _ _
   have e1:dec (Dt.str x∈s.2.map Dt.str)=dec (x∈s.2):=Zbi ⟨fun h=>by
    obtain ⟨y,hy,z⟩:=Xai.mp h
    rw [<-Dt.str.inj z];exact hy,fun h=>Xai.mpr ⟨x,h,rfl⟩⟩
   rw [e1];exact q
theorem fb_ends (h:W.sts[k]?=some s):Zby W (k:Int)=s.2:=by unfold Zby;rw [Xa4,h]
theorem ZlJ {s:Sco} (h:W.ss[k]?=some s):ZaG W (k:Int)=s.2:=by unfold ZaG;rw [Xa4,h]
theorem fb_one (h1:q.2.1=x) (h2:q.1∈Zby W b.2.2):Zcl W b x q i=[b.1++[(b.2.1,("told" : Str),(i:Int))]]:=Xbe ⟨h1,h2⟩
theorem fb_none (h:¬(q.2.1=x/\q.1∈Zby W b.2.2)):Zcl W b x q i=[]:=Xbd h
theorem ZkG {bs:List Beg}(h:bs[i]?=some b):Zay W x (bs.take (i+1))=Zay W x (bs.take i)++Zbf W b x (ZaG W b.2.1) 0:=by
 rw [Xar,h];show (bs.take i++[b]).flatMap _=_;rw [List.flatMap_append];simp [Zay]
theorem fb_le {bs:List Beg} (i:Nat):(Zay W x (bs.take i)).length<=(Zay W x bs).length:=by
 have:Zay W x bs=Zay W x (bs.take i)++Zay W x (bs.drop i):=by
  unfold Zay;rw [<-List.flatMap_append,List.take_append_drop]
 rw [this,Xac];omega
theorem Zdc (W:Wd) (b:Beg) (x:Str):∀ (l:List Tlg) (j i:Nat),(Zbf W b x (l.take j) i).length<=(Zbf W b x l i).length
 | [],j,i=>by rw [List.take_nil];exact XaW _
 | q :: l,0,i=>Xa0 _
 | q :: l,j+1,i=>by
   show (Zcl W b x q i++Zbf W b x (l.take j) (i+1)).length<=(Zcl W b x q i++Zbf W b x l (i+1)).length;rw [Xac,Xac]
   have:=Zdc W b x l j (i+1)
   omega
inductive E_found_behind (K:XFg) (vs:List V) (H:Hp) (Q:VK):Prop where
 | mk (nt A t D:Addr) (x:Str) (F:Addr->Prop) (W:Wd) (zs:List (Addr×Beg)) (h0:vs=[.ref nt,.ref t,.ref D,.str x]) (h1:CaseH K H nt A t W) (h2:WOk W) (h3:H D=some (.lst (zs.map fun z=>V.ref z.1))) (h4:(∀ z∈zs,BgH F H z.1 z.2)) (h5:(∀ z∈zs,BegOk W z.2)) (h6:(Zay W x (zs.map (·.2))).length<=62) (h7:∀ (D2:Addr) (ws:List (Addr×List Mrk)) (H':Hp),H D2=none->Same H H'->H' D2=some (.lst (ws.map fun z=>V.ref z.1))->(∀ z∈ws,WyH (fun l=>H l=none/\l≠D2) H' z.1 z.2)->Fnd W x (zs.map (·.2)) (ws.map (·.2))->Q (.ref D2) H'):E_found_behind K vs H Q
def Ze1 (K:XFg):Sp:=fun vs H Q _=>E_found_behind K vs H Q
variable (P w K mg base) in
abbrev Zb5:Prop:=ZaB P w K mg base "found_behind" 2 ["net", "table", "begun", "name"] (Ze1 K)
theorem ZdV (B:Blt mg) (c_has_end:Ze0 P w K mg base) (F:Fun K "found_behind" "found_behind" Zb2 f fd) (hm:mg "found_behind" = some (.ref f)):Zb5 P w K mg base:=by
 refine ⟨f,fd,?_,hm,F.kp,F.binds fun _ _ _ _ _ _ us hl=>(by obtain ⟨x0,x1,x2,x3,rfl⟩:=Zdn hl;rfl)⟩;refine F.ok sc_found_behind (fun vs H Q E h=>?_) (fun cdv A outer s H vs Q E hr h=>?_)
 . obtain ⟨nt,A,t,D,x,F,W,zs,rfl,_⟩:=h
   rfl
 . obtain ⟨nt,A,t,D,x,F,W,zs,rfl,hC,ok,eD,hz,hbo,hfl,q⟩:=h
   obtain ⟨S,T,R,us,Gs,Es,ts,qt,qs,eN,N3⟩:=hC.net;obtain ⟨a,o,inn,b1,tv,b2,b3⟩:=hC.tab
   refine ⟨_,(Zab (Zap (i:=4) sc_found_behind.nd rfl (Or.inl rfl) (ZaJ Zac))
    (Zab (ZaQ Xbr rfl (ZaM (pv 2)) (ZaF rfl (Zaf (Zag (i:=5) sc_found_behind.nd rfl (Or.inl rfl)) (Zaf (Zag (i:=6) sc_found_behind.nd rfl (Or.inl rfl)) (Zaf (Zag (i:=7) sc_found_behind.nd rfl (Or.inl rfl)) Zav)))) (Zah (ZaQ Xbr rfl (ZfP rfl B.b_enumerate (Zaa (Zam Zai (Zam Zai (Zam Zai (pv 0) Zae (fun _ _=>rfl)) (pv 6) (fun _ _=>rfl)) Zae (fun _ _=>rfl)) Zac)) (ZaF rfl (Zaf (Zag (i:=8) sc_found_behind.nd rfl (Or.inl rfl)) (Zaf (Zag (i:=9) sc_found_behind.nd rfl (Or.inl rfl)) Zav))) (Zah (ZaN (PW.pt (ZdZ (Zaw Zbq (Zam Zai (pv 9) Zae (fun _ _=>rfl)) (pv 3) (ZaA _)) (ZcI (ZbC (Zaz c_has_end (hr.mono (by decide)) rfl (Zaa (pv 1) (Zaa (pv 7) (Zaa (Zam Zai (pv 9) Zae (fun _ _=>rfl)) Zac)))))))) (Zah (ZaW (Zb4 Xa8 Xa9 Xba ZaK (pv 4) (Zaa (Zau Zfm (pv 5) (ZaJ (Zaa (Zat (Zaa (pv 6) (Zaa ZaE (Zaa (pv 8) Zac)))) Zac))) Zac)))) Zaq)))))
    (Zah (Zao (Zax (Zfr mkE hr.units (by decide)) (by rfl) B.b_sorted (by decide +kernel) (Zaa (pv 4) Zac)))))),?_⟩
   try dsimp only [cxOf,Cx.nox,Cx.wish]
   refine ⟨by decide,fun P hP=>?_⟩;obtain ⟨H1,qH1,s1,eP1⟩:=new_at (o:=.lst []) hP;rw [<-qH1];have nDP:D≠P:=Zad eD hP;have upK:∀ {H':Hp},Keeps (·=P) H1 H'->Same H H':=fun k x o e=>k.at_ _ _ (s1 _ _ e) (Zad e hP)
   refine ⟨_,rfl,D,rfl,⟨_,SqL.of (s1 _ _ eD)⟩,Za2 (xs:=zs.map fun z=>V.ref z.1) (fun i σ H'=>∃ u5 u6 u7 u8 u9 ws,σ=[some (.ref nt),some (.ref t),some (.ref D),some (.str x),some (.ref P),u5,u6,u7,u8,u9]/\Keeps (·=P) H1 H'/\H' P=some (.lst (ws.map fun z:Addr×List Mrk=>V.ref z.1))/\(∀ z∈ws,WyH (fun l=>H l=none/\l≠P) H' z.1 z.2)/\ws.map (·.2)=Zay W x ((zs.map (·.2)).take i))
    ⟨none,none,none,none,none,[],rfl,Keeps.refl fun x o m e=>by rw [m,eP1] at e;exact ⟨_,(Xbc e).symm⟩,eP1,fun z hz=>by simp at hz,by rw [Xaz];rfl⟩ (fun i σ H' _ hv_=>by obtain ⟨_,_,_,_,_,_,_,k,_⟩:=hv_;exact SqL.of (upK k _ _ eD)) ?_ ?_⟩
   rotate_left
   . rintro σ H2 ⟨u5,u6,u7,u8,u9,ws,rfl,k2,eP2,hw,hm⟩
     rw [Xaa,<-Xaa (f:=(·.2)),Xas] at hm
     have lw:ws.length<=62:=by have:=Xbj List.length hm;rw [Xaa] at this;omega
     refine ⟨_,rfl,P,ws.map fun z=>(V.ref z.1,z.2),rfl,?_,by rw [Xaa];omega,fun y hy=>?_,fun D2 zs' hp hs hD2=>?_⟩
     . rw [Xax];exact SqL.of eP2
     . obtain ⟨z,hz',rfl⟩:=Xai.mp hy
       exact (hw z hz').dt
     obtain ⟨vs,r1,r2,r3,r4⟩:=ZdP (c:=wayE) hp;have s3:=Zak (o:=.lst (zs'.map (·.1))) hD2;rw [r1] at s3 ⊢;rw [r2] at hs;have s02:=upK k2;refine q D2 vs _ (s02.free hD2) (s02.trans s3) upd_same (fun z hz'=>?_) ⟨by rw [<-hm];exact r3,hs⟩;refine ((hw z (r4 z hz')).mono' ?_).same s3;intro x o ex hx;exact ⟨hx.1,fun y=>by rw [y,hD2] at ex;cases ex⟩
   rintro i y σ H2 hy ⟨u5,u6,u7,u8,u9,ws,rfl,k2,eP2,hw,hm⟩;obtain ⟨z,hzi,rfl⟩:=getm hy;have mz:=Xah hzi;have hbz:=hbo z mz;have s02:=upK k2;obtain ⟨l,ms,f1,f2,e3,_⟩:=hz z mz;have e1:=s02 _ _ f1;have hsc:=hbz.rng z.2.2.1 (by unfold been;simp);have hst:=hbz.st;obtain ⟨n,hn⟩:=Xa3 hsc.1;obtain ⟨k,hk⟩:=Xa3 hst.1
   have hnl:n<W.ss.length:=by omega
   have hkl:k<W.sts.length:=by omega
   obtain ⟨u,G,E1,g1,g2,g3,g4,⟨c0,_,⟨tE,c1,c2⟩⟩⟩:=N3.sc.get hnl;have hks:=Xab hkl
   have eT:ZaG W z.2.2.1=W.ss[n].2:=by rw [hn];exact ZlJ g4
   have eE:Zby W z.2.2.2=W.sts[k].2:=by rw [hk];exact fb_ends hks
   have hat:atI (us.map V.ref) z.2.2.1=some (.ref u):=by rw [hn];exact Zar (by rw [Xag,g1];rfl)
   have htk:(zs.map (·.2))[i]?=some z.2:=by rw [Xag,hzi];rfl
   have hml:ms.length<=100:=by
    have:=Zbb W.ss.length (been z.2) hbz.nd hbz.rng
    rw [show (been z.2).length=z.2.1.length+1 by unfold been;simp] at this
    have:=ok.s5
    rw [e3.len];omega
   have hle:=fb_le (W:=W) (x:=x) (bs:=zs.map (·.2)) (i+1);rw [ZkG htk,Xac] at hle;refine ⟨z.1,_,rfl,SqT.of e1,rfl,_,_,rfl,_,_,rfl,_,_,rfl,rfl,?_⟩;refine ⟨_,rfl,Or.inr (Or.inl ⟨nt,_,_,.ref S,rfl,rfl,SqT.of (s02 _ _ eN),rfl,_,rfl,Or.inl ⟨S,_,_,.ref u,rfl,rfl,SqL.of (s02 _ _ N3.sc.top),hat,Or.inr (Or.inl ⟨u,_,_,.ref E1,rfl,rfl,SqT.of (s02 _ _ c0),rfl,E1,rfl,⟨_,s02 _ _ c1⟩,?_⟩)⟩⟩)⟩
   refine Zee (xs:=tE.map V.ref) (fun j σ H'=>∃ u8 u9 ws,σ=[some (.ref nt),some (.ref t),some (.ref D),some (.str x),some (.ref P),some (.ref l),some (.int z.2.2.1),some (.int z.2.2.2),u8,u9]/\Keeps (·=P) H1 H'/\H' P=some (.lst (ws.map fun z:Addr×List Mrk=>V.ref z.1))/\(∀ z∈ws,WyH (fun l=>H l=none/\l≠P) H' z.1 z.2)/\ws.map (·.2)=Zay W x ((zs.map (·.2)).take i)++Zbf W z.2 x ((ZaG W z.2.2.1).take j) 0)
    ⟨_,_,ws,rfl,k2,eP2,hw,by rw [hm,Xaz];simp [Zbf]⟩ (fun j σ H' hv_=>by obtain ⟨_,_,_,_,k,_⟩:=hv_;exact SqL.of (upK k _ _ c1)) ?_ ?_
   rotate_left
   . rintro σ H3 ⟨u8,u9,ws,rfl,k3,eP3,hw3,hm3⟩
     refine ⟨_,_,_,_,_,ws,rfl,k3,eP3,hw3,?_⟩;rw [ZkG htk,hm3,Xaa,c2.len,eT,Xas]
   rintro j y T' σ H3 hy hT' ⟨u8,u9,ws,rfl,k3,eP3,hw3,hm3⟩;obtain ⟨tp,htp,rfl⟩:=getm hy
   have hjl:j<W.ss[n].2.length:=by rw [<-c2.len];exact (Xae.mp htp).1
   have hp:=Xab hjl;have etp:=c2.at_ j tp _ htp hp;generalize W.ss[n].2[j]=p at hp etp;obtain ⟨H4,qH4,s4,eT'⟩:=new_at (o:=.tup [.int j,.ref tp]) hT';rw [<-qH4];have s03:=upK k3;have s04:=s03.trans s4;have k4:Keeps (·=P) H1 H4:=k3.same s4;have eP4:=s4 _ _ eP3;have hw4:∀ z∈ws,WyH (fun l=>H l=none/\l≠P) H4 z.1 z.2:=fun z h=>(hw3 z h).same s4;have htp4:=SqT.of (K:=K) (s04 _ _ etp)
   have etk:Zbf W z.2 x ((ZaG W z.2.2.1).take (j+1)) 0=Zbf W z.2 x ((ZaG W z.2.2.1).take j) 0++Zcl W z.2 x p j:=by
    rw [Xar,eT,hp];show Zbf W z.2 x (W.ss[n].2.take j++[p]) 0=_;rw [ZdO,Xaw,Nat.zero_add,Nat.min_eq_left (by omega)]
   have skip:¬(p.2.1=x/\p.1∈Zby W z.2.2.2)->ws.map (·.2)=Zay W x ((zs.map (·.2)).take i)++Zbf W z.2 x ((ZaG W z.2.2.1).take (j+1)) 0:=fun hn=>by
    rw [etk,fb_none hn,XaH,hm3]
   have lw:ws.length<100:=by
    have:=Xbj List.length hm3
    rw [Xaa,Xac] at this;have h1:=Zdc W z.2 x (ZaG W z.2.2.1) j 0;omega
   refine ⟨T',_,rfl,SqT.of eT',rfl,_,_,rfl,_,_,rfl,rfl,?_⟩;refine ⟨_,rfl,Or.inr (Or.inl ⟨tp,_,_,.str p.2.1,rfl,rfl,htp4,rfl,_,rfl,rfl,_,rfl,ite2 (fun h1=>?_) (fun h1=>iteF ?_)⟩)⟩;rotate_left
   . exact ⟨_,_,ws,rfl,k4,eP4,hw4,skip fun h=>h1 (Xa5 (by rw [h.1]))⟩
   have h1:p.2.1=x:=V.str.inj (Xa7 h1);refine ⟨_,rfl,_,rfl,_,rfl,Or.inr (Or.inl ⟨tp,_,_,.str p.1,rfl,rfl,htp4,rfl,t,a,o,inn,W.sts,z.2.2.2,k,_,p.1,rfl,hk,s04.seqT b1,⟨tv,s04.seq b2,b3.same s04⟩,hks,_,rfl,ite2 (fun h2=>?_) (fun h2=>?_)⟩)⟩;rotate_left
   . exact ⟨_,_,ws,rfl,k4,eP4,hw4,skip fun h=>h2 (ZaC (by rw [<-eE];exact h.2))⟩
   have h2:p.1∈Zby W z.2.2.2:=by rw [eE];exact dec_iff.mp h2
   refine ⟨_,rfl,Or.inl ⟨rfl,_,SqL.of eP4⟩,_,rfl,_,rfl,_,rfl,ZaV,fun m hm'=>?_⟩
   obtain ⟨H5,qH5,s5,em⟩:=new_at (o:=.tup [.int z.2.2.1,.str "told",.int j]) hm'
   rw [<-qH5];refine ⟨ZbP,fun M hM=>?_⟩;obtain ⟨H6,qH6,s6,eM⟩:=new_at (o:=.lst [.ref m]) hM;rw [<-qH6];have s46:=s5.trans s6;refine ⟨l,M,_,_,rfl,rfl,s46 _ _ (s04 _ _ f2),eM,by rw [Xaa];exact XaY (Zan (by show ms.length+1<=1000;omega)),fun L hL=>?_⟩;have hLH:H L=none:=(s04.trans s46).free hL
   have nLP:L≠P:=fun y=>by rw [y,s46 _ _ eP4] at hL;cases hL
   have s7:=Zak (o:=.lst (ms.map V.ref++[.ref m])) hL
   have eL:(upd H6 L (.lst (ms.map V.ref++[.ref m]))) L=some (.lst ((ms++[m]).map V.ref)):=by rw [upd_same,Xad];rfl
   generalize upd H6 L (.lst (ms.map V.ref++[.ref m]))=H7 at s7 eL ⊢;have s47:=s46.trans s7;have eP7:=s47 _ _ eP4;have k7:Keeps (·=P) H7 (upd H7 P (.lst (ws.map (fun z=>V.ref z.1)++[.ref L]))):=Keeps.one eP7;refine ⟨P,_,_,rfl,rfl,eP7,by rw [Xaa];exact Zan (by omega),?_⟩
   refine ⟨_,_,ws++[(L,z.2.1++[(z.2.2.1,("told" : Str),(j:Int))])],rfl,(k4.same s47).set rfl,by rw [upd_same,Xad];rfl,fun y hy=>?_,?_⟩
   . rcases Xaf.mp hy with hy | hy
     . exact ((hw4 y hy).same s47).keeps k7 fun x hx=>hx.2
     . rw [Xaj.mp hy]
       refine ⟨ms++[m],k7.at_ _ _ eL nLP,?_,hLH,nLP⟩;exact RT.snoc ((e3.same (s04.trans s47)).keeps k7) (k7.tup ((s6.trans s7) _ _ em))
   . rw [etk,fb_one h1 h2,Xad,hm3,XaE];rfl
inductive E_better_pairs (K:XFg) (vs:List V) (H:Hp) (Q:VK):Prop where
 | mk (t:Addr) (F:Addr->Prop) (sts:List Stt) (inn:Int) (ord:List (Str×Str)) (h0:vs=[.ref t]) (h1:Tab K F H t sts inn ord) (h2:ord.length<=40) (h3:∀ (p:Addr) (H':Hp),H p=none->Same H H'->BetD H' p ord->Q (.ref p) H'):E_better_pairs K vs H Q
def Ze2 (K:XFg):Sp:=fun vs H Q _=>E_better_pairs K vs H Q
variable (P w K mg base) in
abbrev Zbw:Prop:=ZaB P w K mg base "better_pairs" 1 ["table"] (Ze2 K)
theorem ZdW (B:Blt mg) (F:Fun K "better_pairs" "better_pairs" Zbt f fd) (hm:mg "better_pairs" = some (.ref f)):Zbw P w K mg base:=by
 refine ⟨f,fd,?_,hm,F.kp,F.binds fun _ _ _ _ _ _ us hl=>(by obtain ⟨x0,rfl⟩:=ZiX hl;rfl)⟩;refine F.ok ZeM (fun vs H Q E h=>?_) (fun cdv A outer s H vs Q E hr h=>?_)
 . obtain ⟨t,F,sts,inn,ord,rfl,_⟩:=h
   rfl
 . obtain ⟨t,F,sts,inn,ord,rfl,TB,ol,q⟩:=h
   obtain ⟨ta,o,tus,tts,et,_,_,_,_,_,eo,TO⟩:=TB.ex;refine ⟨_,(Zah (Zao (Zb7 (ZhA rfl (hu2_of hr)) (by rfl) B.b_dict (by decide +kernel) (Zaa (ZcK rfl better_pairs_cs1 (ZaM (Zam Zai (pv 0) Zae (fun _ _=>rfl))) (fun _ _ _ _ _=>(Zag (i:=0) better_pairs_cs1.nd rfl (Or.inl rfl))) (fun _ _ _ _ _=>ZcJ) (fun _ _ _ _ _=>(Zat (Zaa (pv 0) (Zaa ZdI Zac))))) Zac)))),?_⟩;try dsimp only [cxOf,Cx.nox,Cx.wish]
   refine ⟨_,rfl,Or.inr (Or.inl ⟨t,_,_,.ref o,rfl,rfl,SqT.of et,rfl,o,rfl,⟨_,SqL.of eo⟩,ZbM (xs:=tts.map V.ref) (fun P i ys H'=>Same H H'/\H' P=some (.lst ys)/\ys.length=i/\PrsAt H' ys ((ord.take i).map fun p=>(keyP p,V.bl true)))
    (fun P hP=>⟨Zak hP,upd_same,rfl,.nil⟩) (fun P i ys H' hv_=>by obtain ⟨s,_⟩:=hv_;exact SqL.of (s _ _ eo)) (fun P i y ys H2 RR hP hy hv k=>?_) (fun P ys H2 hP hv=>?_)⟩)⟩
   . obtain ⟨s2,eP,hl,hps⟩:=hv
     obtain ⟨tt,htt,rfl⟩:=getm hy
     have hio:i<ord.length:=by rw [<-TO.len];exact (Xae.mp htt).1
     have hoi:=Xab hio;have ett:=s2 _ _ (TO.at_ i _ _ htt hoi);refine ⟨_,rfl,ZaI,fun T hT=>?_⟩;obtain ⟨H3,qH3,s3,eT⟩:=new_at (o:=.tup [.ref tt,.bl true]) hT;rw [<-qH3];have eP3:=s3 _ _ eP
     have kp:∀ b xs,H3 b=some (.tup xs)->(upd H3 P (.lst (ys++[.ref T]))) b=some (.tup xs):=fun b xs e=>by
      rw [Zal (Zjc e eP3 (fun z=>nomatch z))];exact e
     refine k _ _ eP3 (by rw [hl];exact Zan (by omega)) ⟨fun b u e=>?_,upd_same,by rw [Xac,hl];rfl,?_⟩
     . rw [Zal (Zad e hP)];exact s3 _ _ (s2 _ _ e)
     . rw [Xar,hoi,Xad]
       exact Paired.snoc ((hps.tups fun b xs e=>s3 _ _ e).tups kp) ⟨T,tt,rfl,kp _ _ eT,kp _ _ (s3 _ _ ett)⟩
   obtain ⟨s2,eP,hl,hps⟩:=hv;rw [Xaa,TO.len,Xas] at hps;rw [Xaa,TO.len] at hl;refine ⟨P,ys,_,rfl,eP,by rw [hl];exact Zan (by omega),hps,fun p hp=>?_⟩;exact q p _ (s2.free hp) (s2.trans (Zak hp)) ⟨_,upd_same,Zlm⟩
inductive E_tree_of (K:XFg) (vs:List V) (H:Hp) (Q:VK):Prop where
 | mk (D:Addr) (F:Addr->Prop) (zs:List (Addr×List Mrk)) (h0:vs=[.ref D]) (h1:H D=some (.lst (zs.map fun z=>V.ref z.1))) (h2:(∀ z∈zs,WyH F H z.1 z.2)) (h3:zs.length<=100) (h4:∀ (d:List Mrk->Addr) (c:List Mrk->Mrk->Addr) (H':Hp),Same H H'->TreeP dW H' (numW (zs.map (·.2))) d c->(∀ p,InT (numW (zs.map (·.2))) p->H (d p)=none)->Q (.ref (d [])) H'):E_tree_of K vs H Q
def Zi4 (K:XFg):Sp:=fun vs H Q _=>E_tree_of K vs H Q
variable (P w K mg base) in
abbrev ZdE:Prop:=ZaB P w K mg base "tree_of" 1 ["ways"] (Zi4 K)
theorem Zhe (B:Blt mg) (F:Fun K "tree_of" "tree_of" Zem f fd) (hm:mg "tree_of" = some (.ref f)):ZdE P w K mg base:=by
 refine ⟨f,fd,?_,hm,F.kp,F.binds fun _ _ _ _ _ _ us hl=>(by obtain ⟨x0,rfl⟩:=ZiX hl;rfl)⟩;refine F.ok sc_tree_of (fun vs H Q E h=>?_) (fun cdv A outer s H vs Q E hr h=>?_)
 . obtain ⟨D,F,zs,rfl,_⟩:=h
   rfl
 . obtain ⟨D,F,zs,rfl,eD,hz,lz,q⟩:=h
   refine ⟨_,(Zab (Zap (i:=1) sc_tree_of.nd rfl (Or.inl rfl) ZfF)
    (Zab (ZaQ Xbr rfl (ZfP rfl B.b_enumerate (Zaa (pv 0) Zac)) (ZaF rfl (Zaf (Zag (i:=2) sc_tree_of.nd rfl (Or.inl rfl)) (Zaf (Zag (i:=3) sc_tree_of.nd rfl (Or.inl rfl)) Zav))) (Zab (Zap (i:=4) sc_tree_of.nd rfl (Or.inl rfl) (pv 1))
     (Zah (ZaQ Xbr rfl (ZaM (pv 3)) (Zag (i:=5) sc_tree_of.nd rfl (Or.inl rfl)) (Zah (Zap (i:=4) sc_tree_of.nd rfl (Or.inl rfl) (Zam Zai (Zb4 PySem.F.plainAttrs_dict PySem.F.slot_dict_setdefault PySem.F.type_dict_setdefault (Zlh (ZkY hr)) (pv 4) (Zaa (pv 5) (Zaa (Zat (Zaa (pv 2) (Zaa ZfF Zac))) Zac))) Zae (fun _ _=>rfl))))))))
    (Zah (Zao (pv 1))))),?_⟩
   try dsimp only [cxOf,Cx.nox,Cx.wish]
   refine fun t ht=>?_;obtain ⟨H1,qH1,s1,et⟩:=new_at (o:=.dT []) ht;rw [<-qH1];refine g_in ?_;try dsimp only
   refine ⟨_,rfl,D,rfl,⟨_,s1 _ _ eD⟩,Zee (xs:=zs.map fun z=>V.ref z.1) (fun i σ H'=>∃ (u2 u3 u4 u5:Option V) (d:List Mrk->Addr) (c:List Mrk->Mrk->Addr),σ=[some (.ref D),some (.ref t),u2,u3,u4,u5]/\Same H H'/\d []=t/\TreeP dW H' (numW ((zs.map (·.2)).take i)) d c/\∀ p,InT (numW ((zs.map (·.2)).take i)) p->H (d p)=none)
    ⟨none,none,none,none,fun _=>t,fun _ _=>t,rfl,s1,rfl,?_,fun p hp=>ht⟩ (fun i σ H' hv_=>by obtain ⟨_,_,_,_,_,_,_,s,_⟩:=hv_;exact SqL.of (s _ _ eD)) ?_ ?_⟩
   . have nil:∀ p,InT (numW ((zs.map (·.2)).take 0)) p->p=[]:=fun p hp=>by
      rcases hp with h | ⟨kw,h,_⟩
      . exact h
      . rw [Xaz] at h;cases h
     refine ⟨fun p hp=>?_,fun p m k hm=>?_,fun p p' hp hp' _=>(nil p hp).trans (nil p' hp').symm⟩
     . show H1 t=some (.dT (ZaY _ _ p))
       rw [et,Xaz];rfl
     . rw [Xaz] at hm;cases hm
   rotate_left
   . rintro σ H2 ⟨u2,u3,u4,u5,d,c,rfl,s2,rfl,T2,hn⟩
     rw [Xaa,<-Xaa (f:=(·.2)),Xas] at T2 hn;exact ⟨_,rfl,q d c H2 s2 T2 hn⟩
   rintro i y T σ H2 hy hT ⟨u2,u3,u4,u5,d,c,rfl,s2,hd,T2,hn⟩;obtain ⟨z,hzi,rfl⟩:=getm hy;have mz:=Xah hzi;have hil:=(Xae.mp hzi).1
   have hwi:(zs.map (·.2))[i]?=some z.2:=by rw [Xag,hzi];rfl
   obtain ⟨H3,qH3,s3,eT⟩:=new_at (o:=.tup [.int (i:Int),.ref z.1]) hT;rw [<-qH3];have s03:=s2.trans s3;obtain ⟨ms,f2,f3,_⟩:=(hz z mz).same s03;refine ⟨T,_,rfl,SqT.of eT,rfl,_,_,rfl,_,_,rfl,rfl,?_⟩;refine ⟨_,rfl,?_⟩;refine g_in ?_;try dsimp only
   refine ⟨_,rfl,z.1,rfl,⟨_,SqL.of f2⟩,Za2 (xs:=ms.map V.ref) (fun j σ H'=>∃ (u5:Option V) (d:List Mrk->Addr) (c:List Mrk->Mrk->Addr),σ=[some (.ref D),some (.ref t),some (.int (i:Int)),some (.ref z.1),some (.ref (d (z.2.take j))),u5]/\Same H H'/\RT mkV H' ms z.2/\H' z.1=some (.lst (ms.map V.ref))/\d []=t/\TreeP dW H' (numW ((zs.map (·.2)).take i)++[(i,z.2.take j)]) d c/\∀ p,InT (numW ((zs.map (·.2)).take i)++[(i,z.2.take j)]) p->H (d p)=none)
    ⟨u5,d,c,by rw [Xaz,hd];rfl,s03,f3,f2,hd,by rw [Xaz];exact (T2.sameW s3).begin,fun p hp=>hn p ?_⟩ (fun j σ H' _ hv_=>by obtain ⟨_,_,_,_,_,_,e,_⟩:=hv_;exact SqL.of e) ?_ ?_⟩
   . rw [Xaz] at hp
     rcases hp with h | ⟨kw,h1,h2⟩
     . exact .inl h
     . rcases Xaf.mp h1 with y | y
       . exact .inr ⟨kw,y,h2⟩
       . rw [Xaj.mp y] at h2
         exact .inl (List.prefix_nil.mp h2)
   rotate_left
   . rintro σ H4 ⟨u5,d,c,rfl,s4,_,_,hd4,T4,hn4⟩
     rw [Xaa,f3.len,Xas,<-Zj0 hwi] at T4 hn4;exact ⟨_,_,_,_,d,c,rfl,s4,hd4,T4,hn4⟩
   rintro j y σ H4 hy ⟨u5,d,c,rfl,s4,f4,e4,hd4,T4,hn4⟩;obtain ⟨mk,hmk,rfl⟩:=getm hy
   have hj:j<z.2.length:=by rw [<-f3.len];exact (Xae.mp hmk).1
   have hmj:=Xab hj;have em:=f4.at_ j _ _ hmk hmj
   have tk:z.2.take (j+1)=z.2.take j++[z.2[j]]:=by rw [Xar,hmj];rfl
   generalize z.2[j]=m at hmj em tk;generalize hg:z.2.take j=g at T4 hn4 tk ⊢;have ing:InT (numW ((zs.map (·.2)).take i)++[(i,g)]) g:=.inr ⟨_,Xan _ (Xaj.mpr rfl),List.prefix_refl g⟩;have eB:=T4.dct g ing;have lk:=ZdS (numW ((zs.map (·.2)).take i)++[(i,g)]) g
   have lk2:(numW ((zs.map (·.2)).take i)++[(i,g)]).length<=101:=by
    unfold numW;rw [Xac,Xaa,List.length_zipIdx,Xaw,Xaa,Xau];omega
   have lr:(ZaY (numW ((zs.map (·.2)).take i)++[(i,g)]) c g).length<sizeLine:=by unfold ZaY;rw [Xaa];exact Zan (by omega)
   refine ⟨_,rfl,Or.inr (Or.inr (Or.inl ⟨rfl,Or.inr ⟨_,eB⟩⟩)),_,rfl,_,rfl,fun e he=>?_⟩;have s5:=Zak (o:=.dT []) he;have ee:(upd H4 e (.dT [])) e=some (.dT []):=upd_same;have hce:=he;generalize upd H4 e (.dT [])=H5 at s5 ee ⊢;refine ⟨ZaI,fun T5 hT5=>?_⟩;obtain ⟨H6,qH6,s6,eT5⟩:=new_at (o:=.tup [.int (i:Int),.ref e]) hT5;rw [<-qH6];have s46:=s5.trans s6;refine ⟨d g,_,Zc8 m,mk,.ref T5,rfl,rfl,s46 _ _ eB,s46 _ _ em,lr,fun v hv=>?_,fun hv=>?_⟩
   . rw [ZbS] at hv
     by_cases hm:m∈(TreeM.keysAt (numW ((zs.map (·.2)).take i)++[(i,g)]) g).map (·.1)
     . rw [Xbe hm] at hv
       cases hv;obtain ⟨⟨m',k⟩,hk,rfl⟩:=Xai.mp hm;have et4:=T4.tup g m' k hk;refine Or.inr (Or.inl ⟨_,_,_,.ref (d (g++[m'])),rfl,rfl,SqT.of (s46 _ _ et4),rfl,?_⟩);refine ⟨some (.ref mk),d,c,by rw [tk];rfl,s4.trans s46,f4.same s46,s46 _ _ e4,hd4,by rw [tk];exact (T4.sameW s46).stay hm,fun p hp=>hn4 p ((Zcm hm).mp (by rw [tk] at hp;exact hp))⟩
     . rw [Xbd hm] at hv;cases hv
   . have hm:m ∉ (TreeM.keysAt (numW ((zs.map (·.2)).take i)++[(i,g)]) g).map (·.1):=fun hm=>by rw [ZbS,Xbe hm] at hv;cases hv
     obtain ⟨d',c',T7,hd7,hn7,h07⟩:=T4.grow hm hce hn4 (s4.free hce) s46 (s6 _ _ ee) eT5
     have ndg:∀ {b o},H b=some o->b≠d g:=fun {b o} hb z=>by rw [z,hn4 g ing] at hb;cases hb
     have s7:Same H (upd H6 (d g) (.dT (putK (ZaY (numW ((zs.map (·.2)).take i)++[(i,g)]) c g) (Zc8 m) (.ref T5)))):=fun b o hb=>by
      rw [Zal (ndg hb)];exact s46 _ _ (s4 _ _ hb)
     have eB6:=s46 _ _ eB
     have neT5:T5≠d g:=fun y=>by rw [y,eB6] at eT5;cases eT5
     refine Or.inr (Or.inl ⟨T5,_,_,.ref e,rfl,rfl,SqT.of (by rw [Zal neT5];exact eT5),rfl,?_⟩);refine ⟨some (.ref mk),d',c',by rw [tk,hd7];rfl,s7,⟨f4.len,fun n a b h1 h2=>?_⟩,?_,h07.trans hd4,by rw [tk];exact T7,by rw [tk];exact hn7⟩
     . have x:=s46 _ _ (f4.at_ n a b h1 h2)
       rw [Zal (Zjc x eB6 (fun z=>nomatch z))];exact x
     . have x:=s46 _ _ e4
       rw [Zal (Zjc x eB6 (fun z=>nomatch z))];exact x
inductive E_label_at (K:XFg) (vs:List V) (H:Hp) (Q:VK):Prop where
 | mk (nt S T R mk:Addr) (us Gs Es:List Addr) (ss:List Sco) (m:Mrk) (h0:vs=[.ref nt,.ref mk]) (h1:SqT K H nt [.ref S,.ref T,.ref R]) (h2:Scs H S us Gs Es ss) (h3:SqT K H mk (mkV m)) (h4:MkOk ss m) (h5:Q (.str (ZbH ss m)) H):E_label_at K vs H Q
def ZhO (K:XFg):Sp:=fun vs H Q _=>E_label_at K vs H Q
variable (P w K mg base) in
abbrev ZdX:Prop:=ZaB P w K mg base "label_at" 1 ["net", "mark"] (ZhO K)
theorem Zgl (B:Blt mg) (F:Fun K "label_at" "label_at" ZdG f fd) (hm:mg "label_at" = some (.ref f)):ZdX P w K mg base:=by
 refine ⟨f,fd,?_,hm,F.kp,F.binds fun _ _ _ _ _ _ us hl=>(by obtain ⟨x0,x1,rfl⟩:=ZeN hl;rfl)⟩;refine F.ok sc_label_at (fun vs H Q E h=>?_) (fun cdv A outer s H vs Q E hr h=>?_)
 . obtain ⟨nt,S,T,R,mk,us,Gs,Es,ss,m,rfl,_⟩:=h
   rfl
 . obtain ⟨nt,S,T,R,mk,us,Gs,Es,ss,m,rfl,hT,hS,hm,⟨n,k,s',hn,hk,hs,hq⟩,q⟩:=h
   have hnl:n<ss.length:=(Xae.mp hs).1;obtain ⟨u,G,E1,g1,g2,g3,g4,⟨a1,⟨tG,b1,b2⟩,⟨tE,c1,c2⟩⟩⟩:=hS.get hnl;rw [hs] at g4;have es:=Xbc g4;rw [<-es] at b2 c2
   have hat:atI (us.map V.ref) m.1=some (.ref u):=by rw [hn];exact Zar (by rw [Xag,g1];rfl)
   refine ⟨_,(Zab (Za8 (pv 1) (ZaF rfl (Zaf (Zag (i:=2) sc_label_at.nd rfl (Or.inl rfl)) (Zaf (Zag (i:=3) sc_label_at.nd rfl (Or.inl rfl)) (Zaf (Zag (i:=4) sc_label_at.nd rfl (Or.inl rfl)) Zav)))))
    (Zab (Za8 (Zam Zai (Zam Zai (pv 0) Zae (fun _ _=>rfl)) (pv 2) (fun _ _=>rfl)) (ZaF rfl (Zaf (Zag (i:=5) sc_label_at.nd rfl (Or.inl rfl)) (Zaf (Zag (i:=6) sc_label_at.nd rfl (Or.inl rfl)) Zav))))
    (Zab (ZaN (Zaw Zbq (pv 3) ZaE (ZaA _)) (Zah (Zao (Zam Zai (Zam Zai (pv 5) (pv 4) (fun _ _=>rfl)) Zae (fun _ _=>rfl)))) Zaq)
    (Zah (Zao (Zam Zai (Zam Zai (pv 6) (pv 4) (fun _ _=>rfl)) Zae (fun _ _=>rfl))))))),?_⟩
   try dsimp only [cxOf,Cx.nox,Cx.wish]
   refine ⟨_,rfl,mk,_,rfl,hm,rfl,_,_,rfl,_,_,rfl,_,_,rfl,rfl,?_⟩;refine ⟨_,rfl,Or.inr (Or.inl ⟨nt,_,_,.ref S,rfl,rfl,hT,rfl,_,rfl,Or.inl ⟨S,_,_,.ref u,rfl,rfl,SqL.of hS.top,hat,?_⟩⟩)⟩;refine ⟨u,_,rfl,SqT.of a1,rfl,_,_,rfl,_,_,rfl,rfl,?_⟩;refine ⟨_,rfl,rfl,_,rfl,ite2 (fun h=>?_) (fun h=>?_)⟩
   . have h1:m.2.1=("step" : Str):=V.str.inj (Xa7 h)
     rcases hq with ⟨_,hkl⟩ | ⟨e,_⟩
     . have hp:=Xab hkl
       rw [Zih hn hk hs h1 hp] at q;have ht:tG[k]?=some (tG[k]'(by rw [b2.len];exact hkl)):=Xab _;have et:=b2.at_ _ _ _ ht hp
       have hatk:atI (tG.map V.ref) m.2.2=some (.ref (tG[k]'(by rw [b2.len];exact hkl))):=by rw [hk];exact Zar (by rw [Xag,ht];rfl)
       exact ⟨_,rfl,_,rfl,Or.inl ⟨G,_,_,_,rfl,rfl,SqL.of b1,hatk,Or.inr (Or.inl ⟨_,_,_,.str s'.1[k].1,rfl,rfl,SqT.of et,rfl,q⟩)⟩⟩
     . exact absurd (e.symm.trans h1) Zce
   . have h1:m.2.1≠("step" : Str):=fun z=>h (Xa5 (by rw [z]))
     rcases hq with ⟨e,_⟩ | ⟨_,hkl⟩
     . exact absurd e h1
     . have hp:=Xab hkl
       rw [Zii hn hk hs h1 hp] at q;have ht:tE[k]?=some (tE[k]'(by rw [c2.len];exact hkl)):=Xab _;have et:=c2.at_ _ _ _ ht hp
       have hatk:atI (tE.map V.ref) m.2.2=some (.ref (tE[k]'(by rw [c2.len];exact hkl))):=by rw [hk];exact Zar (by rw [Xag,ht];rfl)
       exact ⟨_,rfl,_,rfl,Or.inl ⟨E1,_,_,_,rfl,rfl,SqL.of c1,hatk,Or.inr (Or.inl ⟨_,_,_,.str s'.2[k].1,rfl,rfl,SqT.of et,rfl,q⟩)⟩⟩
theorem Ziy {bet:Mrk->Mrk->Bool}{ws:TreeM.Ws Mrk}{a:List Mrk}{m:Mrk}{t:List Mrk}:TreeM.gat bet ws a (m :: t)=((TreeM.keysAt ws a).filter fun xk=>bet xk.1 m).map (·.2)++TreeM.gat bet ws (a++[m]) t:=rfl
theorem ZkH {bet:Mrk->Mrk->Bool}{ws:TreeM.Ws Mrk}:∀ {b a:List Mrk},(TreeM.gat bet ws a b).length<=b.length * ws.length
 | [],_=>Xa0 _
 | m :: t,a=>by
   rw [Ziy,Xac,Xaa,XaB];have h1:=XaU (fun xk:Mrk×Nat=>bet xk.1 m) (TreeM.keysAt ws a);have h2:=ZdS ws a;have h3:=ZkH (bet:=bet) (ws:=ws) (b:=t) (a:=a++[m]);rw [Nat.add_mul,Nat.one_mul];omega
inductive E_first_hider (K:XFg) (vs:List V) (H:Hp) (Q:VK):Prop where
 | mk (nt S T R bp l:Addr) (us Gs Es:List Addr) (ss:List Sco) (ord:List (Str×Str)) (ws:TreeM.Ws Mrk) (d:List Mrk->Addr) (c:List Mrk->Mrk->Addr) (F:Addr->Prop) (w:List Mrk) (h0:vs=[.ref nt,.ref bp,.ref (d []),.ref l]) (h1:H nt=some (.tup [.ref S,.ref T,.ref R])) (h2:Scs H S us Gs Es ss) (h3:BetD H bp ord) (h4:TreeP dF H ws d c) (h5:ws.length<=100) (h6:(∀ kw∈ws,∀ m∈kw.2,MkOk ss m)) (h7:WyH F H l w) (h8:ZeC ss w) (h9:∀ H',Same H H'->Q (Zij ((TreeM.gat (betM ss ord) ws [] w).map fun k:Nat=>(k:Int))) H'):E_first_hider K vs H Q
def Zff (K:XFg):Sp:=fun vs H Q _=>E_first_hider K vs H Q
variable (P w K mg base) in
abbrev ZbJ:Prop:=ZaB P w K mg base "first_hider" 2 ["net", "better", "tree", "way"] (Zff K)
theorem Zeb (B:Blt mg) (c_label_at:ZdX P w K mg base) (F:Fun K "first_hider" "first_hider" Zch f fd) (hm:mg "first_hider" = some (.ref f)):ZbJ P w K mg base:=by
 refine ⟨f,fd,?_,hm,F.kp,F.binds fun _ _ _ _ _ _ us hl=>(by obtain ⟨x0,x1,x2,x3,rfl⟩:=Zdn hl;rfl)⟩;refine F.ok sc_first_hider (fun vs H Q E h=>?_) (fun cdv A outer s H vs Q E hr h=>?_)
 . obtain ⟨nt,S,T,R,bp,l,us,Gs,Es,ss,ord,ws,d,c,F,w,rfl,_⟩:=h
   rfl
 . obtain ⟨nt,S,T,R,bp,l,us,Gs,Es,ss,ord,ws,d,c,F,w,rfl,eN,SC,BD,TT,lws,okw,⟨ms,el,rl,_⟩,ok,q⟩:=h
   obtain ⟨kb,eb,hb⟩:=BD
   refine ⟨_,(Zab (Zap (i:=4) sc_first_hider.nd rfl (Or.inl rfl) (ZaJ Zac))
    (Zab (Zap (i:=5) sc_first_hider.nd rfl (Or.inl rfl) (pv 2))
    (Zab (ZaQ Xbr rfl (ZaM (pv 3)) (Zag (i:=6) sc_first_hider.nd rfl (Or.inl rfl)) (Zab (Zap (i:=7) sc_first_hider.nd rfl (Or.inl rfl) (Zaz c_label_at (hr.mono (by decide)) rfl (Zaa (pv 0) (Zaa (pv 6) Zac))))
     (Zab (ZaQ Xbr rfl (pi_dict (pv 5)) (Zag (i:=8) sc_first_hider.nd rfl (Or.inl rfl)) (Zah (ZaN (Zaw (ZjE (ZkY hr)) (Zat (Zaa (Zaz c_label_at (hr.mono (by decide)) rfl (Zaa (pv 0) (Zaa (pv 8) Zac))) (Zaa (pv 7) Zac))) (pv 1) (by with_unfolding_all rfl)) (Zah (ZaW (Zb4 Xa8 Xa9 Xba ZaK (pv 4) (Zaa (Zam Zai (pe_dget (ZkY hr) (pv 5) (pv 8) (fun _ _=>rfl)) Zae (fun _ _=>rfl)) Zac)))) Zaq)))
     (Zah (Zap (i:=5) sc_first_hider.nd rfl (Or.inl rfl) (Zam Zai (ZkW (ZkY hr) (pv 5) (pv 6) (Zat (Zaa Zae (Zaa ZfF Zac))) ⟨rfl,rfl,rfl,rfl⟩) Zae (fun _ _=>rfl)))))))
    (Zah (Zao (pe_minD rfl (by rfl) B.b_min (Zaa (pv 4) Zac))))))),?_⟩
   try dsimp only [cxOf,Cx.nox,Cx.wish]
   refine ⟨by decide,fun N hN=>?_⟩;obtain ⟨H1,qH1,s1,eN1⟩:=new_at (o:=.lst []) hN;rw [<-qH1];refine g_in ?_;try dsimp only
   refine ⟨_,rfl,?_⟩;refine g_in ?_;try dsimp only
   refine ⟨_,rfl,l,rfl,⟨_,SqL.of (s1 _ _ el)⟩,Za2 (xs:=ms.map V.ref) (fun j σ H'=>∃ (a:Addr) (u6 u7 u8:Option V) (ns:List Nat),σ=[some (.ref nt),some (.ref bp),some (.ref (d [])),some (.ref l),some (.ref N),some (.ref a),u6,u7,u8]/\Same H H'/\H' N=some (.lst ((ns.map fun k:Nat=>(k:Int)).map V.int))/\ns++TreeM.gat (betM ss ord) ws (w.take j) (w.drop j)=TreeM.gat (betM ss ord) ws [] w/\a≠N/\((InT ws (w.take j)/\a=d (w.take j))\/(¬InT ws (w.take j)/\H a=none/\Rd H' a (.dT []))))
    ⟨d [],none,none,none,[],rfl,s1,eN1,rfl,?_,.inl ⟨.inl rfl,rfl⟩⟩ (fun j σ H' _ hv_=>by obtain ⟨_,_,_,_,_,_,s,_⟩:=hv_;exact SqL.of (s _ _ el)) ?_ ?_⟩
   . obtain ⟨o,x⟩:=TT.dct [] (.inl rfl)
     exact Zad x hN
   rotate_left
   . rintro σ H2 ⟨a,u6,u7,u8,ns,rfl,s2,eN2,hg,_⟩
     rw [Xaa,rl.len,List.drop_length] at hg;have hg:ns=_:=(XaH ns).symm.trans hg;subst hg;exact ⟨_,rfl,N,_,rfl,eN2,q H2 s2⟩
   rintro j y σ H2 hy ⟨a,u6,u7,u8,ns,rfl,s2,eN2,hg,haN,hbr⟩;obtain ⟨mk,hmk,rfl⟩:=getm hy
   have hj:j<w.length:=by rw [<-rl.len];exact (Xae.mp hmk).1
   have hmj:=Xab hj;have em:=rl.at_ j _ _ hmk hmj;have okm:=ok.1 _ (Xav hj)
   have tk:w.take (j+1)=w.take j++[w[j]]:=by rw [Xar,hmj];rfl
   have dk:w.drop j=w[j] :: w.drop (j+1):=XaL hj;rw [dk,Ziy] at hg;generalize w[j]=m at hmj em tk okm hg;generalize hgo:w.take j=g at tk hg hbr ⊢;refine ⟨_,rfl,_,rfl,nt,S,T,R,mk,us,Gs,Es,ss,m,rfl,SqT.of (s2 _ _ eN),SC.same s2,SqT.of (s2 _ _ em),okm,?_⟩;refine g_in ?_;try dsimp only
   have hrd:Rd H2 a (.dT (ZaY ws c g)):=by
    rcases hbr with ⟨h1,h2⟩ | ⟨h1,_,h2⟩
    . obtain ⟨o,x⟩:=TT.dct g h1
      rw [h2];exact .inr ⟨o,s2 _ _ x⟩
    . unfold ZaY;rw [Zik h1];exact h2
   refine ZdL (fun σ' H'=>∃ (u8:Option V),σ'=[some (.ref nt),some (.ref bp),some (.ref (d [])),some (.ref l),some (.ref N),some (.ref a),some (.ref mk),some (.str (ZbH ss m)),u8]/\Same H H'/\H' N=some (.lst (((ns++((TreeM.keysAt ws g).filter fun xk=>betM ss ord xk.1 m).map (·.2)).map fun k:Nat=>(k:Int)).map V.int))/\Rd H' a (.dT (ZaY ws c g))) ?_ (fun N' hN'=>?_)
   case refine_2 =>
    refine ⟨_,rfl,a,_,rfl,hrd,fun o ho=>?_⟩
    have s3 : Same H (upd H2 a (.frz o (.dT (ZaY ws c g)))) := fun b u e => by
     by_cases hb':b=a
     . subst hb'
       rw [upd_same]
       rcases hbr with ⟨h1,h2⟩ | ⟨_,h2,_⟩
       . obtain ⟨o',x⟩:=TT.dct g h1
         rw [<-h2] at x;have x2:=s2 _ _ x
         rcases ho with ho | ho
         . rw [x2] at ho;cases ho
         . rw [x2] at ho;cases ho;rw [x] at e;exact e
       . rw [e] at h2;cases h2
     . rw [Zal hb'];exact s2 _ _ e
    have eN3:(upd H2 a (.frz o (.dT (ZaY ws c g)))) N=_:=(Zal (Ne.symm haN)).trans eN2;have ea3:(upd H2 a (.frz o (.dT (ZaY ws c g)))) a=some (.frz o (.dT (ZaY ws c g))):=upd_same;generalize upd H2 a (.frz o (.dT (ZaY ws c g)))=H3 at s3 eN3 ea3 ⊢
    refine Zli (fun i σ H'=>∃ (u8:Option V),σ=[some (.ref nt),some (.ref bp),some (.ref (d [])),some (.ref l),some (.ref N),some (.ref a),some (.ref mk),some (.str (ZbH ss m)),u8]/\Same H H'/\H' N=some (.lst (((ns++(((TreeM.keysAt ws g).take i).filter fun xk=>betM ss ord xk.1 m).map (·.2)).map fun k:Nat=>(k:Int)).map V.int))/\H' a=some (.frz o (.dT (ZaY ws c g))))
     ⟨_,rfl,s3,by rw [Xaz];show H3 N=some (.lst (((ns++[]).map _).map _));rw [XaH];exact eN3,ea3⟩ (fun i σ H' _ hv_=>by obtain ⟨_,_,_,_,e⟩:=hv_;exact e) ?_ ?_
    rotate_left
    . rintro σ H4 ⟨u8',rfl,s4,eN4,ea4⟩
      unfold ZaY at eN4;rw [Xaa,Xas] at eN4;exact hN' _ _ ⟨u8',rfl,s4,eN4,.inr ⟨o,ea4⟩⟩
    rintro i k v b σ H4 hi eb4 ⟨u8',rfl,s4,eN4,ea4⟩;unfold ZaY at hi;rw [Xag] at hi;obtain ⟨⟨x,kk⟩,hx,e⟩:=XaV.mp hi;have e1:=Xbj Prod.fst e;have e2:=Xbj Prod.snd e;dsimp only at e1 e2;subst e1 e2;have mx:=Xah hx;have inx:x∈(TreeM.keysAt ws g).map (·.1):=Xai.mpr ⟨_,mx,rfl⟩
    have okx:MkOk ss x:=by
     obtain ⟨kw,h1,h2⟩:=TreeM.keysAt_mem.mp inx;exact okw kw h1 x (h2.subset (by simp))
    have etx:=TT.tup g x kk mx
    have ing:InT ws g:=by
     obtain ⟨kw,h1,h2⟩:=TreeM.keysAt_mem.mp inx;exact .inr ⟨kw,h1,(XaP g _).trans h2⟩
    have tki:(TreeM.keysAt ws g).take (i+1)=(TreeM.keysAt ws g).take i++[(x,kk)]:=by rw [Xar,hx];rfl
    refine ⟨_,rfl,_,rfl,nt,S,T,R,b,us,Gs,Es,ss,x,rfl,SqT.of (s4 _ _ eN),SC.same s4,SqT.of eb4,okx,?_⟩;refine ⟨_,rfl,ZaI,fun p hp=>?_⟩;obtain ⟨H5,qH5,s5,ep⟩:=new_at (o:=.tup [.str (ZbH ss x),.str (ZbH ss m)]) hp;rw [<-qH5];have s05:=s4.trans s5;refine ⟨_,rfl,bp,_,rfl,DGet.t (k:=keyP (ZbH ss x,ZbH ss m)) (s05 _ _ eb) ep,_,rfl,?_⟩;rw [hb];refine ite2 (fun h=>?_) (fun h=>?_)
    . have hbx:betM ss ord x m=true:=by simpa [betM] using h
      refine ⟨_,rfl,Or.inl ⟨rfl,_,SqL.of (s5 _ _ eN4)⟩,_,rfl,_,rfl,a,.ref (c g x),rfl,?_,Or.inr (Or.inl ⟨_,_,_,.int (kk:Int),rfl,rfl,SqT.of (s05 _ _ etx),rfl,N,_,_,rfl,rfl,s5 _ _ eN4,?_,?_⟩)⟩
      . refine .inr ⟨_,Zc8 x,b,.inr ⟨o,s5 _ _ ea4⟩,rfl,s5 _ _ eb4,?_⟩
        rw [ZbS,Xbe inx]
      . rw [Xaa,Xaa,Xac,Xaa]
        have h1:=XaU (fun xk:Mrk×Nat=>betM ss ord xk.1 m) ((TreeM.keysAt ws g).take i);have h2:=ZdS ws g
        have h3:(((TreeM.keysAt ws g).take i)).length<=(TreeM.keysAt ws g).length:=by rw [Xaw];omega
        have h4:=Xbj List.length hg;have h5:=ZkH (bet:=betM ss ord) (ws:=ws) (b:=w) (a:=[]);have h6:w.length * ws.length<=100 * 100:=Nat.mul_le_mul ok.2 lws;rw [Xac] at h4;exact Zlg (by omega)
      . refine ⟨_,rfl,fun b' u e=>?_,?_,?_⟩
        . rw [Zal (Zad e hN)];exact s05 _ _ e
        . rw [upd_same,tki,XaS,XaM,Xbe hbx]
          simp
        . rw [Zal haN];exact s5 _ _ ea4
    . have hbx:¬betM ss ord x m=true:=by simpa [betM] using h
      refine ⟨_,rfl,s05,?_,s5 _ _ ea4⟩;rw [tki,XaS,XaM,Xbd hbx]
      simpa using s5 _ _ eN4
   rintro σ' H3 ⟨u8',rfl,s3,eN3,hrd3⟩;have hdr:((ZaY ws c g).map (·.1)).length=(ZaY ws c g).length:=Xaa _;refine ⟨_,rfl,a,rfl,.inr ⟨_,hrd3⟩,_,rfl,fun e he=>?_⟩;obtain ⟨H4,qH4,s4,ee⟩:=new_at (o:=.dT []) he;rw [<-qH4];refine ⟨ZaI,fun T5 hT5=>?_⟩;obtain ⟨H5,qH5,s5,eT5⟩:=new_at (o:=.tup [.int 0,.ref e]) hT5;rw [<-qH5];have s35:=s4.trans s5;have s05:=s3.trans s35;have hrd5:Rd H5 a (.dT (ZaY ws c g)):=hrd3.elim (fun z=>.inl (s35 _ _ z)) fun ⟨o,z⟩=>.inr ⟨o,s35 _ _ z⟩
   have neN:e≠N:=fun z=>by rw [z,eN3] at he;cases he
   refine ⟨_,.inr ⟨_,Zc8 m,mk,hrd5,rfl,s05 _ _ em,rfl⟩,?_⟩;rw [ZbS]
   have hg':(ns++((TreeM.keysAt ws g).filter fun xk=>betM ss ord xk.1 m).map (·.2))++TreeM.gat (betM ss ord) ws (g++[m]) (w.drop (j+1))=TreeM.gat (betM ss ord) ws [] w:=by rw [XaE];exact hg
   by_cases hm:m∈(TreeM.keysAt ws g).map (·.1)
   . rw [Xbe hm]
     obtain ⟨⟨m',k⟩,hk,rfl⟩:=Xai.mp hm;have et4:=TT.tup g m' k hk;have inm:=in_key.mpr hm;refine Or.inr (Or.inl ⟨_,_,_,.ref (d (g++[m'])),rfl,rfl,SqT.of (s05 _ _ et4),rfl,?_⟩);refine ⟨_,_,_,_,_,rfl,s05,s35 _ _ eN3,by rw [tk];exact hg',?_,.inl ⟨by rw [tk];exact inm,by rw [tk]⟩⟩;obtain ⟨o,x⟩:=TT.dct _ inm;exact Zad x hN
   . rw [Xbd hm]
     refine Or.inr (Or.inl ⟨T5,_,_,.ref e,rfl,rfl,SqT.of eT5,rfl,?_⟩);exact ⟨_,_,_,_,_,rfl,s05,s35 _ _ eN3,by rw [tk];exact hg',neN,.inr ⟨fun z=>hm (in_key.mp (by rw [tk] at z;exact z)),s3.free he,.inl (s5 _ _ ee)⟩⟩
inductive E_seen_ways (K:XFg) (vs:List V) (H:Hp) (Q:VK):Prop where
 | mk (nt S T R t D:Addr) (us Gs Es:List Addr) (ss:List Sco) (F G:Addr->Prop) (sts:List Stt) (inn:Int) (ord:List (Str×Str)) (zs:List (Addr×List Mrk)) (h0:vs=[.ref nt,.ref t,.ref D]) (h1:H nt=some (.tup [.ref S,.ref T,.ref R])) (h2:Scs H S us Gs Es ss) (h3:Tab K F H t sts inn ord) (h4:ord.length<=40) (h5:(∀ x,(x,x) ∉ ord)) (h6:H D=some (.lst (zs.map fun z=>V.ref z.1))) (h7:(∀ z∈zs,WyH G H z.1 z.2)) (h8:(∀ z∈zs,ZeC ss z.2)) (h9:zs.length<=100) (h10:∀ (P:Addr) (ys:List (Addr×List Mrk)) (H':Hp),H P=none->Same H H'->H' P=some (.lst (ys.map fun z=>V.ref z.1))->(∀ z∈ys,WyH (fun l=>H l=none/\l≠P) H' z.1 z.2)->ys.map (·.2)=Zbj ss ord (zs.map (·.2)) (zs.map (·.2))->Q (.ref P) H'):E_seen_ways K vs H Q
def Zhf (K:XFg):Sp:=fun vs H Q _=>E_seen_ways K vs H Q
variable (P w K mg base) in
abbrev Zds:Prop:=ZaB P w K mg base "seen_ways" 3 ["net", "table", "ways"] (Zhf K)
theorem Zfg (B:Blt mg) (c_better_pairs:Zbw P w K mg base) (c_tree_of:ZdE P w K mg base) (c_first_hider:ZbJ P w K mg base) (F:Fun K "seen_ways" "seen_ways" Zci f fd) (hm:mg "seen_ways" = some (.ref f)):Zds P w K mg base:=by
 refine ⟨f,fd,?_,hm,F.kp,F.binds fun _ _ _ _ _ _ us hl=>(by obtain ⟨x0,x1,x2,rfl⟩:=Zfa hl;rfl)⟩;refine F.ok sc_seen_ways (fun vs H Q E h=>?_) (fun cdv A outer s H vs Q E hr h=>?_)
 . obtain ⟨nt,S,T,R,t,D,us,Gs,Es,ss,F,G,sts,inn,ord,zs,rfl,_⟩:=h
   rfl
 . obtain ⟨nt,S,T,R,t,D,us,Gs,Es,ss,F,G,sts,inn,ord,zs,rfl,eN,SC,TB,ol,irr,eD,hz,hzo,lz,q⟩:=h
   refine ⟨_,(Zab (Zap (i:=3) sc_seen_ways.nd rfl (Or.inr rfl) (Zaz c_better_pairs (hr.mono (by decide)) rfl (Zaa (pv 1) Zac)))
    (Zab (Zap (i:=4) sc_seen_ways.nd rfl (Or.inr rfl) (pe_frz (Zaz c_tree_of (hr.mono (by decide)) rfl (Zaa (pv 2) Zac))))
    (Zah (Zao (ZcK (te:=tCB (rListOf K) (Zgw (tVar 0) tNil)) rfl seen_ways_cs1 (ZaM (pv 2)) (fun _ _ _ _ _=>(Zag (i:=0) seen_ways_cs1.nd rfl (Or.inl rfl))) (fun _ _ _ _ _=>(Zh2 (ZcH (ZcG (Zaz c_first_hider (hr.mono (by decide)) rfl (Zaa (pv 1) (Zaa (pv 2) (Zaa (pv 3) (Zaa (pv 0) Zac))))))))) (fun _ _ _ _ _=>(Zb7 Zd1 (by rfl) B.b_list (by decide +kernel) (Zaa (pv 0) Zac)))))))),?_⟩
   try dsimp only [cxOf,Cx.nox,Cx.wish]
   refine ⟨_,rfl,t,F,sts,inn,ord,rfl,TB,ol,fun bp H1 hbp s1 BD=>?_⟩;refine g_in ?_;try dsimp only
   refine ⟨_,rfl,D,G,zs,rfl,s1 _ _ eD,fun z h=>(hz z h).same s1,lz,fun d c H2 s2 T2 hn2 H3 f3 f4=>?_⟩;have s3:=f3.same s2;have T3:=T2.frz hn2 f3 f4;have BD3:=BD.same s3;clear T2 hn2 f3 f4 s2 BD;have s03:=s1.trans s3;refine g_in ?_;try dsimp only
   have lw:(numW (zs.map (·.2))).length<=100:=by unfold numW;rw [Xaa,List.length_zipIdx,Xaa];exact lz
   have okw:∀ kw∈numW (zs.map (·.2)),∀ m∈kw.2,MkOk ss m:=fun kw hkw m hm=>by
    obtain ⟨z,h1,h2⟩:=Xai.mp (Xah (numW_mem.mp hkw));exact (hzo z h1).1 m (by rw [h2];exact hm)
   refine ⟨_,rfl,D,rfl,⟨_,SqL.of (s03 _ _ eD)⟩,Zfq (xs:=zs.map fun z=>V.ref z.1) (fun P i ys H'=>∃ vs:List (Addr×List Mrk),ys=(vs.map fun z=>V.ref z.1)/\Same H3 H'/\H' P=some (.lst ys)/\(∀ z∈vs,WyH (fun l=>H l=none/\l≠P) H' z.1 z.2)/\vs.map (·.2)=Zbj ss ord (zs.map (·.2)) ((zs.map (·.2)).take i)/\vs.length<=i)
    (fun P hP=>⟨[],rfl,Zak hP,upd_same,fun z hz=>by simp at hz,by rw [Xaz];rfl,XaW _⟩) (fun P i ys H' hv_=>by obtain ⟨_,_,s,_⟩:=hv_;exact SqL.of (s _ _ (s03 _ _ eD))) (fun P i y ys H4 RR R0 hP hy hv k k0=>?_) (fun P ys H4 hP hv=>?_)⟩
   . obtain ⟨vs,rfl,s4,eP,hvs,hvm,lv⟩:=hv
     obtain ⟨z,hzi,rfl⟩:=getm hy;have hil:i<zs.length:=(Xae.mp hzi).1;have mz:=Xah hzi
     have hwi:(zs.map (·.2))[i]?=some z.2:=by rw [Xag,hzi];rfl
     have s04:=s03.trans s4;refine ⟨_,rfl,_,rfl,_,rfl,_,rfl,nt,S,T,R,bp,z.1,us,Gs,Es,ss,ord,_,d,c,G,z.2,rfl,s04 _ _ eN,SC.same s04,BD3.same s4,T3.same s4,lw,okw,(hz z mz).same s04,hzo z mz,fun H5 s5=>?_⟩;have s35:=s4.trans s5;have s05:=s03.trans s35;have eP5:=s5 _ _ eP;refine ⟨_,rfl,ite2 (fun h=>?_) (fun h=>?_)⟩
     . have hany:=(Zf0 irr).mp (least_non.mp (Xa7 h))
       obtain ⟨ms,f2,f3,_⟩:=(hz z mz).same s05;refine ⟨_,rfl,z.1,_,rfl,Or.inl (SqL.of f2),fun l hl=>?_⟩;obtain ⟨H6,qH6,s6,el⟩:=new_at (o:=.lst (ms.map V.ref)) hl;rw [<-qH6];have eP6:=s6 _ _ eP5
       have nlP:l≠P:=fun y=>by rw [y,eP5] at hl;cases hl
       have kP:Keeps (·=P) H6 (upd H6 P (.lst (vs.map (fun z=>V.ref z.1)++[.ref l]))):=Keeps.one eP6;refine k _ _ eP6 (by rw [Xaa];exact Zan (by omega)) ⟨vs++[(l,z.2)],by rw [Xad];rfl,fun b o e=>?_,upd_same,fun w hw'=>?_,?_,by rw [Xac,Xau];omega⟩
       . rw [Zal (Zad e hP)];exact s6 _ _ (s35 _ _ e)
       . rcases Xaf.mp hw' with h | h
         . exact ((hvs w h).same (s5.trans s6)).keeps kP fun x hx=>hx.2
         . rw [Xaj.mp h]
           exact ⟨ms,kP.at_ _ _ el nlP,(f3.same s6).keeps kP,s05.free hl,nlP⟩
       . rw [ZeG hwi,Xbd (by rw [hany];exact Xbb),Xad,hvm];rfl
     . have hany:((zs.map (·.2)).any fun v=>ZaO ss ord v z.2)=true:=by
        cases e:(zs.map (·.2)).any fun v=>ZaO ss ord v z.2 with
        | true=>rfl
        | false=>exact absurd (Xa5 (least_non.mpr ((Zf0 irr).mpr e))) h
       exact k0 _ ⟨vs,rfl,s35,eP5,fun w hw=>(hvs w hw).same s5,by rw [ZeG hwi,Xbe hany];exact hvm,by omega⟩
   obtain ⟨vs,rfl,s4,eP,hvs,hvm,lv⟩:=hv;rw [Xaa,<-Xaa (f:=(·.2)),Xas] at hvm;exact q P vs H4 ((s03).free hP) (s03.trans s4) eP hvs hvm
inductive E_look_for (K:XFg) (vs:List V) (H:Hp) (Q:VK):Prop where
 | mk (nt A t D:Addr) (x:Str) (F G:Addr->Prop) (W:Wd) (inn:Int) (ord:List (Str×Str)) (sc st:Int) (zs:List (Addr×Beg)) (h0:vs=[.ref nt,.ref t,.ref D,.str x]) (h1:CaseH K H nt A t W) (h2:Tab K F H t W.sts inn ord) (h3:WOk W) (h4:Small W) (h5:ord.length<=40) (h6:(∀ x,(x,x) ∉ ord)) (h7:(0<=sc/\sc<W.ss.length)) (h8:(0<=st/\st<W.sts.length)) (h9:H D=some (.lst (zs.map fun z=>V.ref z.1))) (h10:(∀ z∈zs,BgH G H z.1 z.2)) (h11:Begs W sc st (zs.map (·.2))) (h12:∀ (r D2 P:Addr) (ws ys:List (Addr×List Mrk)) (H':Hp),Same H H'->H' r=some (.tup [.ref D,.ref D2,.ref P])->H D2=none->H' D2=some (.lst (ws.map fun z=>V.ref z.1))->(∀ z∈ws,WyH (fun l=>H l=none) H' z.1 z.2)->Fnd W x (zs.map (·.2)) (ws.map (·.2))->H P=none->H' P=some (.lst (ys.map fun z=>V.ref z.1))->(∀ z∈ys,WyH (fun l=>H l=none) H' z.1 z.2)->ys.map (·.2)=Zbj W.ss ord (ws.map (·.2)) (ws.map (·.2))->Q (.ref r) H'):E_look_for K vs H Q
def ZhP (K:XFg):Sp:=fun vs H Q _=>E_look_for K vs H Q
variable (P w K mg base) in
abbrev ZdY:Prop:=ZaB P w K mg base "look_for" 4 ["net", "table", "begun", "name"] (ZhP K)
theorem Zgm (B:Blt mg) (c_found_behind:Zb5 P w K mg base) (c_seen_ways:Zds P w K mg base) (F:Fun K "look_for" "look_for" ZdH f fd) (hm:mg "look_for" = some (.ref f)):ZdY P w K mg base:=by
 refine ⟨f,fd,?_,hm,F.kp,F.binds fun _ _ _ _ _ _ us hl=>(by obtain ⟨x0,x1,x2,x3,rfl⟩:=Zdn hl;rfl)⟩;refine F.ok sc_look_for (fun vs H Q E h=>?_) (fun cdv A outer s H vs Q E hr h=>?_)
 . obtain ⟨nt,A,t,D,x,F,G,W,inn,ord,sc,st,zs,rfl,_⟩:=h
   rfl
 . obtain ⟨nt,A,t,D,x,F,G,W,inn,ord,sc,st,zs,rfl,hC,TB,ok,sm,ol,irr,hsc,hst,eD,hz,hB,q⟩:=h
   obtain ⟨S,T,R,us,Gs,Es,ts,qt,qs,eN,N3⟩:=hC.net
   refine ⟨_,(Zab (Zap (i:=4) sc_look_for.nd rfl (Or.inl rfl) (Zaz c_found_behind (hr.mono (by decide)) rfl (Zaa (pv 0) (Zaa (pv 1) (Zaa (pv 2) (Zaa (pv 3) Zac))))))
    (Zah (Zao (Zat (Zaa (pv 2) (Zaa (pv 4) (Zaa (Zaz c_seen_ways (hr.mono (by decide)) rfl (Zaa (pv 0) (Zaa (pv 1) (Zaa (pv 4) Zac)))) Zac))))))),?_⟩
   try dsimp only [cxOf,Cx.nox,Cx.wish]
   refine ⟨_,rfl,_,rfl,_,rfl,_,rfl,nt,A,t,D,x,G,W,zs,rfl,hC,ok,eD,hz,fun z hz'=>((hB.mem _).mp (Xai.mpr ⟨z,hz',rfl⟩)).ok ok hsc hst,sm.fnd x sc st _ hsc hst hB,fun D2 ws H1 hD2 s1 eD2 hw hF=>?_⟩;refine g_in ?_;try dsimp only
   have hwf:∀ z∈ws,z.2∈Zay W x (zs.map (·.2)):=fun z h=>hF.perm.mem_iff.mp (Xai.mpr ⟨z,h,rfl⟩)
   have lw:ws.length<=100:=by
    have h1:=hF.perm.length_eq;have h2:=sm.fnd x sc st _ hsc hst hB;rw [Xaa] at h1;omega
   refine ⟨_,rfl,_,rfl,_,rfl,_,rfl,_,rfl,nt,S,T,R,t,D2,us,Gs,Es,W.ss,F,_,W.sts,inn,ord,ws,rfl,s1 _ _ eN,N3.sc.same s1,TB.same s1,ol,irr,eD2,hw,fun z h=>Zdl ok hsc hst hB (hwf z h),lw,fun P ys H2 hP s2 eP hy hys=>?_⟩;refine ⟨ZaV,fun r hr=>?_⟩;have s3:=Zak (o:=.tup [.ref D,.ref D2,.ref P]) hr;refine q r D2 P ws ys _ ((s1.trans s2).trans s3) upd_same hD2 (s3 _ _ (s2 _ _ eD2)) (fun z h=>(((hw z h).mono' fun _ _ _ hx=>hx.1).same s2).same s3) hF (s1.free hP) (s3 _ _ eP) (fun z h=>((hy z h).mono' fun x o _ hx=>s1.free hx.1).same s3) hys
inductive E_first_owed (K:XFg) (vs:List V) (H:Hp) (Q:VK):Prop where
 | mk (nt S T R t D O:Addr) (us Gs Es:List Addr) (ss:List Sco) (F G:Addr->Prop) (sts:List Stt) (inn:Int) (ord:List (Str×Str)) (ws:List (Addr×List Mrk)) (os:List (Addr×Ow)) (h0:vs=[.ref nt,.ref t,.ref D,.ref O]) (h1:H nt=some (.tup [.ref S,.ref T,.ref R])) (h2:Scs H S us Gs Es ss) (h3:Tab K F H t sts inn ord) (h4:ord.length<=40) (h5:(∀ x,(x,x) ∉ ord)) (h6:H D=some (.lst (ws.map fun z=>V.ref z.1))) (h7:(∀ z∈ws,WyH G H z.1 z.2)) (h8:(∀ z∈ws,ZeC ss z.2)) (h9:ws.length<=100) (h10:H O=some (.lst (os.map fun z=>V.ref z.1))) (h11:(∀ z∈os,OwH G H z.1 z.2)) (h12:(∀ z∈os,ZeC ss z.2.1)) (h13:∀ (v:V) (H':Hp),Same H H'->WtH G H' v (ZaZ ss ord (ws.map (·.2)) (os.map (·.2)))->Q v H'):E_first_owed K vs H Q
def Zgn (K:XFg):Sp:=fun vs H Q _=>E_first_owed K vs H Q
variable (P w K mg base) in
abbrev ZcX:Prop:=ZaB P w K mg base "first_owed" 3 ["net", "table", "found", "owed"] (Zgn K)
theorem Ze3 (B:Blt mg) (c_better_pairs:Zbw P w K mg base) (c_tree_of:ZdE P w K mg base) (c_first_hider:ZbJ P w K mg base) (F:Fun K "first_owed" "first_owed" ZcD f fd) (hm:mg "first_owed" = some (.ref f)):ZcX P w K mg base:=by
 refine ⟨f,fd,?_,hm,F.kp,F.binds fun _ _ _ _ _ _ us hl=>(by obtain ⟨x0,x1,x2,x3,rfl⟩:=Zdn hl;rfl)⟩;refine F.ok sc_first_owed (fun vs H Q E h=>?_) (fun cdv A outer s H vs Q E hr h=>?_)
 . obtain ⟨nt,S,T,R,t,D,O,us,Gs,Es,ss,F,G,sts,inn,ord,ws,os,rfl,_⟩:=h
   rfl
 . obtain ⟨nt,S,T,R,t,D,O,us,Gs,Es,ss,F,G,sts,inn,ord,ws,os,rfl,eN,SC,TB,ol,irr,eD,hw,hwo,lw0,eO,ho,hoo,q⟩:=h
   refine ⟨_,(Zab (Zap (i:=4) sc_first_owed.nd rfl (Or.inl rfl) (Zaz c_better_pairs (hr.mono (by decide)) rfl (Zaa (pv 1) Zac)))
    (Zab (Zap (i:=5) sc_first_owed.nd rfl (Or.inl rfl) (pe_frz (Zaz c_tree_of (hr.mono (by decide)) rfl (Zaa (pv 2) Zac))))
    (Zab (ZaQ Xbr rfl (ZaM (pv 3)) (ZaF rfl (Zaf (Zag (i:=6) sc_first_owed.nd rfl (Or.inl rfl)) (Zaf (Zag (i:=7) sc_first_owed.nd rfl (Or.inl rfl)) Zav))) (Zah (ZaN (ZcH (ZcG (Zaz c_first_hider (hr.mono (by decide)) rfl (Zaa (pv 0) (Zaa (pv 4) (Zaa (pv 5) (Zaa (pv 6) Zac))))))) (Zah (Zao (Zat (Zaa (pv 6) (Zaa (pv 7) Zac))))) Zaq)))
    (Zah (Zao ZbU))))),?_⟩
   try dsimp only [cxOf,Cx.nox,Cx.wish]
   refine ⟨_,rfl,t,F,sts,inn,ord,rfl,TB,ol,fun bp H1 hbp s1 BD=>?_⟩;refine g_in ?_;try dsimp only
   refine ⟨_,rfl,D,G,ws,rfl,s1 _ _ eD,fun z h=>(hw z h).same s1,lw0,fun d c H2 s2 T2 hn2 H3 f3 f4=>?_⟩;have s3:=f3.same s2;have T3:=T2.frz hn2 f3 f4;have BD3:=BD.same s3;clear T2 hn2 f3 f4 s2 BD;have s03:=s1.trans s3;refine g_in ?_;try dsimp only
   have lw:(numW (ws.map (·.2))).length<=100:=by unfold numW;rw [Xaa,List.length_zipIdx,Xaa];exact lw0
   have okw:∀ kw∈numW (ws.map (·.2)),∀ m∈kw.2,MkOk ss m:=fun kw hkw m hm=>by
    obtain ⟨z,h1,h2⟩:=Xai.mp (Xah (numW_mem.mp hkw));exact (hwo z h1).1 m (by rw [h2];exact hm)
   refine ⟨_,rfl,O,rfl,⟨_,SqL.of (s03 _ _ eO)⟩,Za2 (xs:=os.map fun z=>V.ref z.1) (fun i σ H'=>∃ u6 u7,σ=[some (.ref nt),some (.ref t),some (.ref D),some (.ref O),some (.ref bp),some (.ref (d [])),u6,u7]/\Same H3 H'/\ZaZ ss ord (ws.map (·.2)) (os.map (·.2))=ZaZ ss ord (ws.map (·.2)) ((os.map (·.2)).drop i))
    ⟨none,none,rfl,fun _ _ e=>e,rfl⟩ (fun i σ H' _ hv_=>by obtain ⟨_,_,_,s,_⟩:=hv_;exact SqL.of (s _ _ (s03 _ _ eO))) ?_ ?_⟩
   rotate_left
   . rintro σ H4 ⟨u6,u7,rfl,s4,hf⟩
     rw [Xaa,<-Xaa (f:=(·.2)),List.drop_length] at hf;refine q _ _ (s03.trans s4) ?_;rw [hf];rfl
   rintro i x σ H4 hx ⟨u6,u7,rfl,s4,hf⟩;obtain ⟨z,hzi,rfl⟩:=getm hx;have mz:=Xah hzi;have s04:=s03.trans s4;obtain ⟨l,e1,wl⟩:=((ho z mz).same s04).way;have hd:=ZhE (l:=os.map (·.2)) (i:=i) (x:=z.2) (by rw [Xag,hzi];rfl);rw [hd] at hf;refine ⟨z.1,_,rfl,SqT.of e1,rfl,_,_,rfl,_,_,rfl,rfl,?_⟩;refine ⟨_,rfl,_,rfl,_,rfl,_,rfl,nt,S,T,R,bp,l,us,Gs,Es,ss,ord,_,d,c,G,z.2.1,rfl,s04 _ _ eN,SC.same s04,BD3.same s4,T3.same s4,lw,okw,wl,hoo z mz,fun H5 s5=>?_⟩;have s35:=s4.trans s5;refine ⟨_,rfl,ite2 (fun h=>?_) (fun h=>?_)⟩
   . have hany:=(Zf0 irr).mp (least_non.mp (Xa7 h))
     refine ⟨_,rfl,_,rfl,ZaI,fun p hp=>?_⟩;have s6:=Zak (o:=.tup [.ref l,.int z.2.2]) hp;refine q _ _ ((s03.trans s35).trans s6) ?_;rw [hf,Zlt hany];exact ⟨p,l,rfl,upd_same,(wl.same s5).same s6⟩
   . have hany:((ws.map (·.2)).any fun v=>ZaO ss ord v z.2.1)=true:=by
      cases e:(ws.map (·.2)).any fun v=>ZaO ss ord v z.2.1 with
      | true=>rfl
      | false=>exact absurd (Xa5 (least_non.mpr ((Zf0 irr).mpr e))) h
     exact ⟨_,_,rfl,s35,by rw [hf,Zkd hany]⟩
inductive E_telling_at (K:XFg) (vs:List V) (H:Hp) (Q:VK):Prop where
 | mk (nt S T R mk:Addr) (us Gs Es:List Addr) (ss:List Sco) (m:Mrk) (h0:vs=[.ref nt,.ref mk]) (h1:SqT K H nt [.ref S,.ref T,.ref R]) (h2:Scs H S us Gs Es ss) (h3:SqT K H mk (mkV m)) (h4:MkOk ss m) (h5:m.2.1=("told" : Str)) (h6:∀ t,H t=some (.tup (tlgV (ZeJ ss m)))->Q (.ref t) H):E_telling_at K vs H Q
def Zgo (K:XFg):Sp:=fun vs H Q _=>E_telling_at K vs H Q
variable (P w K mg base) in
abbrev Zb0:Prop:=ZaB P w K mg base "telling_at" 1 ["net", "mark"] (Zgo K)
theorem Ze4 (B:Blt mg) (F:Fun K "telling_at" "telling_at" ZcE f fd) (hm:mg "telling_at" = some (.ref f)):Zb0 P w K mg base:=by
 refine ⟨f,fd,?_,hm,F.kp,F.binds fun _ _ _ _ _ _ us hl=>(by obtain ⟨x0,x1,rfl⟩:=ZeN hl;rfl)⟩;refine F.ok sc_telling_at (fun vs H Q E h=>?_) (fun cdv A outer s H vs Q E hr h=>?_)
 . obtain ⟨nt,S,T,R,mk,us,Gs,Es,ss,m,rfl,_⟩:=h
   rfl
 . obtain ⟨nt,S,T,R,mk,us,Gs,Es,ss,m,rfl,hT,hS,hm,⟨n,k,s',hn,hk,hs,hq⟩,told,q⟩:=h
   have hnl:n<ss.length:=(Xae.mp hs).1;obtain ⟨u,G,E1,g1,g2,g3,g4,⟨a1,⟨tG,b1,b2⟩,⟨tE,c1,c2⟩⟩⟩:=hS.get hnl;rw [hs] at g4;have es:=Xbc g4;rw [<-es] at b2 c2
   have hat:atI (us.map V.ref) m.1=some (.ref u):=by rw [hn];exact Zar (by rw [Xag,g1];rfl)
   refine ⟨_,(Zab (Za8 (pv 1) (ZaF rfl (Zaf (Zag (i:=2) sc_telling_at.nd rfl (Or.inl rfl)) (Zaf (Zag (i:=3) sc_telling_at.nd rfl (Or.inl rfl)) (Zaf (Zag (i:=4) sc_telling_at.nd rfl (Or.inl rfl)) Zav)))))
    (Zab (Zap (i:=5) sc_telling_at.nd rfl (Or.inl rfl) (Zam Zai (Zam Zai (Zam Zai (pv 0) Zae (fun _ _=>rfl)) (pv 2) (fun _ _=>rfl)) Zae (fun _ _=>rfl)))
    (Zah (Zao (Zam Zai (pv 5) (pv 4) (fun _ _=>rfl)))))),?_⟩
   try dsimp only [cxOf,Cx.nox,Cx.wish]
   refine ⟨_,rfl,mk,_,rfl,hm,rfl,_,_,rfl,_,_,rfl,_,_,rfl,rfl,?_⟩;refine ⟨_,rfl,Or.inr (Or.inl ⟨nt,_,_,.ref S,rfl,rfl,hT,rfl,_,rfl,Or.inl ⟨S,_,_,.ref u,rfl,rfl,SqL.of hS.top,hat,Or.inr (Or.inl ⟨u,_,_,.ref E1,rfl,rfl,SqT.of a1,rfl,?_⟩)⟩⟩)⟩;refine g_in ?_;try dsimp only
   rcases hq with ⟨e,_⟩ | ⟨_,hkl⟩
   . exact absurd (told.symm.trans e) Zce
   . have hp:=Xab hkl
     rw [Zf1 hn hk hs hp] at q;have ht:tE[k]?=some (tE[k]'(by rw [c2.len];exact hkl)):=Xab _;have et:=c2.at_ _ _ _ ht hp
     have hatk:atI (tE.map V.ref) m.2.2=some (.ref (tE[k]'(by rw [c2.len];exact hkl))):=by rw [hk];exact Zar (by rw [Xag,ht];rfl)
     exact ⟨_,rfl,_,rfl,Or.inl ⟨E1,_,_,_,rfl,rfl,SqL.of c1,hatk,q _ et⟩⟩
inductive E_first_open (K:XFg) (vs:List V) (H:Hp) (Q:VK):Prop where
 | mk (nt A t P:Addr) (G:Addr->Prop) (W:Wd) (ys:List (Addr×List Mrk)) (h0:vs=[.ref nt,.ref A,.ref P]) (h1:CaseH K H nt A t W) (h2:Small W) (h3:H P=some (.lst (ys.map fun z=>V.ref z.1))) (h4:(∀ z∈ys,WyH G H z.1 z.2)) (h5:(∀ z∈ys,EndT W.ss z.2)) (h6:∀ (v:V) (H':Hp),Same H H'->WtH G H' v (ZaU W (ys.map (·.2)))->Q v H'):E_first_open K vs H Q
def Zgp (K:XFg):Sp:=fun vs H Q _=>E_first_open K vs H Q
variable (P w K mg base) in
abbrev ZcY:Prop:=ZaB P w K mg base "first_open" 2 ["net", "answers", "seen"] (Zgp K)
theorem Ze5 (B:Blt mg) (c_telling_at:Zb0 P w K mg base) (F:Fun K "first_open" "first_open" ZcF f fd) (hm:mg "first_open" = some (.ref f)):ZcY P w K mg base:=by
 refine ⟨f,fd,?_,hm,F.kp,F.binds fun _ _ _ _ _ _ us hl=>(by obtain ⟨x0,x1,x2,rfl⟩:=Zfa hl;rfl)⟩;refine F.ok sc_first_open (fun vs H Q E h=>?_) (fun cdv A outer s H vs Q E hr h=>?_)
 . obtain ⟨nt,A,t,P,G,W,ys,rfl,_⟩:=h
   rfl
 . obtain ⟨nt,A,t,P,G,W,ys,rfl,hC,sm,eP,hy,hye,q⟩:=h
   obtain ⟨S,T,R,us,Gs,Es,ts,qt,qs,eN,N3⟩:=hC.net
   refine ⟨_,(Zab (ZaQ Xbr rfl (ZaM (pv 2)) (Zag (i:=3) sc_first_open.nd rfl (Or.inl rfl)) (Zab (Za8 (Zaz c_telling_at (hr.mono (by decide)) rfl (Zaa (pv 0) (Zaa (Zam Zai (pv 3) (Zhq Zep Zae) (fun _ _=>rfl)) Zac))) (ZaF rfl (Zaf (Zag (i:=4) sc_first_open.nd rfl (Or.inl rfl)) (Zaf (Zag (i:=5) sc_first_open.nd rfl (Or.inl rfl)) (Zaf (Zag (i:=6) sc_first_open.nd rfl (Or.inl rfl)) (Zaf (Zag (i:=7) sc_first_open.nd rfl (Or.inl rfl)) Zav))))))
    (Zah (ZaN (PW.pt (ZdZ (Zaw Zbq (pv 6) ZaE (ZaA _)) (ZcI (ZcH (ZcG (Zam Zai (pv 1) (pv 7) (fun _ _=>rfl))))))) (Zah (Zao (Zat (Zaa (pv 3) (Zaa (pv 7) Zac))))) Zaq))))
    (Zah (Zao ZbU))),?_⟩
   try dsimp only [cxOf,Cx.nox,Cx.wish]
   refine ⟨_,rfl,P,rfl,⟨_,SqL.of eP⟩,Za2 (xs:=ys.map fun z=>V.ref z.1) (fun i σ H'=>∃ u3 u4 u5 u6 u7,σ=[some (.ref nt),some (.ref A),some (.ref P),u3,u4,u5,u6,u7]/\Same H H'/\ZaU W (ys.map (·.2))=ZaU W ((ys.map (·.2)).drop i))
    ⟨none,none,none,none,none,rfl,fun _ _ e=>e,rfl⟩ (fun i σ H' _ hv_=>by obtain ⟨_,_,_,_,_,_,s,_⟩:=hv_;exact SqL.of (s _ _ eP)) ?_ ?_⟩
   rotate_left
   . rintro σ H4 ⟨u3,u4,u5,u6,u7,rfl,s4,hf⟩
     rw [Xaa,<-Xaa (f:=(·.2)),List.drop_length] at hf;refine q _ _ s4 ?_;rw [hf];rfl
   rintro i x σ H4 hx ⟨u3,u4,u5,u6,u7,rfl,s4,hf⟩;obtain ⟨z,hzi,rfl⟩:=getm hx;have mz:=Xah hzi;have hd:=ZhE (l:=ys.map (·.2)) (i:=i) (x:=z.2) (by rw [Xag,hzi];rfl);rw [hd] at hf;have tk:=ZhD sm (hye z mz);have wz:=(hy z mz).same s4;obtain ⟨vv,m,ew,mo,mt⟩:=hye z mz;have wz':=wz;rw [ew] at wz';obtain ⟨ms,mk,l1,l2,l3⟩:=Zf4 wz';refine g_in ?_;try dsimp only
   refine ⟨_,rfl,_,rfl,_,rfl,Or.inl ⟨z.1,_,_,.ref mk,rfl,rfl,SqL.of l1,l2,nt,S,T,R,mk,us,Gs,Es,W.ss,m,rfl,SqT.of (s4 _ _ eN),N3.sc.same s4,SqT.of l3,mo,mt,fun tp etp=>?_⟩⟩
   have et:ZeJ W.ss m=ZbT W.ss z.2:=by rw [ew,Zcf]
   rw [et] at etp;refine ⟨tp,_,rfl,SqT.of etp,rfl,_,_,rfl,_,_,rfl,_,_,rfl,_,_,rfl,rfl,?_⟩;refine ⟨_,rfl,rfl,_,rfl,ite2 (fun h=>?_) (fun h=>?_)⟩;rotate_left
   . have hn:(ZbT W.ss z.2).2.2.1≠("by" : Str):=fun e=>h (Xa5 (by rw [e]))
     refine iteF ?_;refine ⟨_,_,_,_,_,rfl,s4,?_⟩;rw [hf,ZdA (Xbd fun e=>hn e.1)]
   have hby:(ZbT W.ss z.2).2.2.1=("by" : Str):=V.str.inj (Xa7 h)
   rcases tk with ⟨e,_⟩ | ⟨_,k0,k1⟩
   . rw [hby] at e;exact absurd e (by decide +kernel)
   obtain ⟨k,hk⟩:=Xa3 k0
   have hkl:k<W.as.length:=by omega
   obtain ⟨avs,v,hA1,hv,hc⟩:=(hC.ans.same s4).get hkl
   have hat:atI avs (ZbT W.ss z.2).2.2.2=some v:=by rw [hk];exact Zar hv
   rcases hc with ⟨e1,rfl⟩ | ⟨p,ta,e1,rfl,hta⟩
   . refine ⟨_,rfl,_,rfl,Or.inl ⟨A,avs,_,_,rfl,rfl,hA1,hat,_,rfl,ite2 (fun _=>?_) (fun h=>absurd (Xa5 rfl) h)⟩⟩
     refine ⟨_,rfl,_,rfl,ZaI,fun p hp=>?_⟩;have s6:=Zak (o:=.tup [.ref z.1,.int (ZbT W.ss z.2).2.2.2]) hp;refine q _ _ (s4.trans s6) ?_;rw [hf,Zio (q:=(ZbT W.ss z.2).2.2.2) (Xbe ⟨hby,by rw [hk,Xa4];exact e1⟩)];exact ⟨p,z.1,rfl,upd_same,wz.same s6⟩
   . refine ⟨_,rfl,_,rfl,Or.inl ⟨A,avs,_,_,rfl,rfl,hA1,hat,_,rfl,ite2 (fun h=>absurd (Xa7 h) (by simp)) (fun _=>?_)⟩⟩
     refine ⟨_,_,_,_,_,rfl,s4,?_⟩;rw [hf,ZdA (Xbd fun e=>by have:=e.2;rw [hk,Xa4,e1] at this;cases this)]
inductive E_meaning (K:XFg) (vs:List V) (H:Hp) (Q:VK):Prop where
 | mk (nt A t l:Addr) (G:Addr->Prop) (W:Wd) (w:List Mrk) (h0:vs=[.ref nt,.ref A,.ref l]) (h1:CaseH K H nt A t W) (h2:Small W) (h3:WyH G H l w) (h4:EndT W.ss w) (h5:Zf2 W w=none) (h6:Q (onV (ZaS W w)) H):E_meaning K vs H Q
def Zi5 (K:XFg):Sp:=fun vs H Q _=>E_meaning K vs H Q
variable (P w K mg base) in
abbrev Ze6:Prop:=ZaB P w K mg base "meaning" 2 ["net", "answers", "way"] (Zi5 K)
theorem Zhg (B:Blt mg) (c_telling_at:Zb0 P w K mg base) (F:Fun K "meaning" "meaning" Zen f fd) (hm:mg "meaning" = some (.ref f)):Ze6 P w K mg base:=by
 refine ⟨f,fd,?_,hm,F.kp,F.binds fun _ _ _ _ _ _ us hl=>(by obtain ⟨x0,x1,x2,rfl⟩:=Zfa hl;rfl)⟩;refine F.ok sc_meaning (fun vs H Q E h=>?_) (fun cdv A outer s H vs Q E hr h=>?_)
 . obtain ⟨nt,A,t,l,G,W,w,rfl,_⟩:=h
   rfl
 . obtain ⟨nt,A,t,l,G,W,w,rfl,hC,sm,wz,he,hno,q⟩:=h
   obtain ⟨S,T,R,us,Gs,Es,ts,qt,qs,eN,N3⟩:=hC.net;have tk:=ZhD sm he;obtain ⟨vv,m,ew,mo,mt⟩:=he
   have et:ZeJ W.ss m=ZbT W.ss w:=by rw [ew,Zcf]
   rw [ew] at wz;obtain ⟨ms,mk,l1,l2,l3⟩:=Zf4 wz
   refine ⟨_,(Zab (Za8 (Zaz c_telling_at (hr.mono (by decide)) rfl (Zaa (pv 0) (Zaa (Zam Zai (pv 2) (Zhq Zep Zae) (fun _ _=>rfl)) Zac))) (ZaF rfl (Zaf (Zag (i:=3) sc_meaning.nd rfl (Or.inl rfl)) (Zaf (Zag (i:=4) sc_meaning.nd rfl (Or.inl rfl)) (Zaf (Zag (i:=5) sc_meaning.nd rfl (Or.inl rfl)) (Zaf (Zag (i:=6) sc_meaning.nd rfl (Or.inl rfl)) Zav))))))
    (Zab (ZaN (Zaw Zbq (pv 5) ZaE (ZaA _)) (Zah (Zao (pv 6))) Zaq)
    (Zab (Za8 (Zam Zai (pv 1) (pv 6) (fun _ _=>rfl)) (ZaF rfl (Zaf (Zag (i:=5) sc_meaning.nd rfl (Or.inl rfl)) (Zaf (Zag (i:=6) sc_meaning.nd rfl (Or.inl rfl)) Zav))))
    (Zab (ZaN (Zaw Zbq (pv 5) ZaE (ZaA _)) (Zah (Zao (pv 6))) Zaq)
    (Zah (Zao ZbU)))))),?_⟩
   try dsimp only [cxOf,Cx.nox,Cx.wish]
   refine ⟨_,rfl,_,rfl,_,rfl,Or.inl ⟨l,_,_,.ref mk,rfl,rfl,SqL.of l1,l2,nt,S,T,R,mk,us,Gs,Es,W.ss,m,rfl,SqT.of eN,N3.sc,SqT.of l3,mo,mt,fun tp etp=>?_⟩⟩;rw [et] at etp;refine ⟨tp,_,rfl,SqT.of etp,rfl,_,_,rfl,_,_,rfl,_,_,rfl,_,_,rfl,rfl,?_⟩;refine ⟨_,rfl,rfl,_,rfl,ite2 (fun h=>?_) (fun h=>?_)⟩
   . have ht:(ZbT W.ss w).2.2.1=("thing" : Str):=V.str.inj (Xa7 h)
     refine ⟨_,rfl,?_⟩;rw [show ZaS W w=some (ZbT W.ss w).2.2.2 from Xbe ht] at q;exact q
   have hn:(ZbT W.ss w).2.2.1≠("thing" : Str):=fun e=>h (Xa5 (by rw [e]))
   rcases tk with ⟨e,_⟩ | ⟨hby,k0,k1⟩
   . exact absurd e hn
   obtain ⟨k,hk⟩:=Xa3 k0
   have hkl:k<W.as.length:=by omega
   obtain ⟨avs,v,hA1,hv,hc⟩:=hC.ans.get hkl
   have hat:atI avs (ZbT W.ss w).2.2.2=some v:=by rw [hk];exact Zar hv
   rcases hc with ⟨e1,rfl⟩ | ⟨p,ta,e1,rfl,hta⟩
   . unfold Zf2 at hno
     rw [Xbe ⟨hby,by rw [hk,Xa4];exact e1⟩] at hno;cases hno
   have em:ZaS W w=if p.1=("thing" : Str) then some p.2 else none:=by
    unfold ZaS;rw [Xbd hn,hk,Xa4,e1]
   refine ⟨_,rfl,_,rfl,Or.inl ⟨A,avs,_,_,rfl,rfl,hA1,hat,?_⟩⟩;refine ⟨ta,_,rfl,hta,rfl,_,_,rfl,_,_,rfl,rfl,?_⟩;refine ⟨_,rfl,rfl,_,rfl,ite2 (fun h=>?_) (fun h=>?_)⟩
   . have hp:p.1=("thing" : Str):=V.str.inj (Xa7 h)
     rw [em,Xbe hp] at q;exact ⟨_,rfl,q⟩
   . have hp:p.1≠("thing" : Str):=fun e=>h (Xa5 (by rw [e]))
     rw [em,Xbd hp] at q;exact q
inductive E_met (K:XFg) (vs:List V) (H:Hp) (Q:VK):Prop where
 | mk (nt A t O r D D2 P:Addr) (F G:Addr->Prop) (W:Wd) (inn:Int) (ord:List (Str×Str)) (ws ys:List (Addr×List Mrk)) (os:List (Addr×Ow)) (at_:Int) (h0:vs=[.ref nt,.ref A,.ref t,.ref O,.ref r,.int at_]) (h1:CaseH K H nt A t W) (h2:Tab K F H t W.sts inn ord) (h3:Small W) (h4:ord.length<=40) (h5:(∀ x,(x,x) ∉ ord)) (h6:H r=some (.tup [.ref D,.ref D2,.ref P])) (h7:H D2=some (.lst (ws.map fun z=>V.ref z.1))) (h8:(∀ z∈ws,WyH G H z.1 z.2)) (h9:(∀ z∈ws,ZeC W.ss z.2)) (h10:ws.length<=100) (h11:(∀ z∈ws,EndT W.ss z.2)) (h12:H P=some (.lst (ys.map fun z=>V.ref z.1))) (h13:(∀ z∈ys,WyH G H z.1 z.2)) (h14:ys.map (·.2)=Zbj W.ss ord (ws.map (·.2)) (ws.map (·.2))) (h15:H O=some (.lst (os.map fun z=>V.ref z.1))) (h16:(∀ z∈os,OwH G H z.1 z.2)) (h17:(∀ z∈os,ZeC W.ss z.2.1)) (h18:∀ (v:Addr) (a:Option (Str×Int)) (w:Option Wt) (H':Hp),Same H H'->metV W ord (ws.map (·.2)) (os.map (·.2)) at_=(a,w)->OwD G H' (.ref v) (.tup [ansD a,Zj9 w])->Q (.ref v) H'):E_met K vs H Q
def sp_met (K:XFg):Sp:=fun vs H Q _=>E_met K vs H Q
variable (P w K mg base) in
abbrev C_met:Prop:=ZaB P w K mg base "met" 4 ["net", "answers", "table", "owed", "look", "at"] (sp_met K)
theorem ZlK (B:Blt mg) (c_first_owed:ZcX P w K mg base) (c_first_open:ZcY P w K mg base) (c_meaning:Ze6 P w K mg base) (F:Fun K "met" "met" ZiA f fd) (hm:mg "met" = some (.ref f)):C_met P w K mg base:=by
 refine ⟨f,fd,?_,hm,F.kp,F.binds fun _ _ _ _ _ _ us hl=>(by obtain ⟨x0,x1,x2,x3,x4,x5,rfl⟩:=len_6 hl;rfl)⟩;refine F.ok sc_met (fun vs H Q E h=>?_) (fun cdv A outer s H vs Q E hr h=>?_)
 . obtain ⟨nt,A,t,O,r,D,D2,P,F,G,W,inn,ord,ws,ys,os,at_,rfl,_⟩:=h
   rfl
 . obtain ⟨nt,A,t,O,r,D,D2,P,F,G,W,inn,ord,ws,ys,os,at_,rfl,hC,TB,sm,ol,irr,er,eD2,hw,hwo,lw,hwe,eP,hy,hys,eO,ho,hoo,q⟩:=h
   obtain ⟨S,T,R,us,Gs,Es,ts,qt,qs,eN,N3⟩:=hC.net
   have hye:∀ z∈ys,EndT W.ss z.2:=fun z h=>by
    have h1:z.2∈ys.map (·.2):=Xai.mpr ⟨z,h,rfl⟩;rw [hys] at h1;obtain ⟨y,h2,h3⟩:=Xai.mp (Zeg h1);rw [<-h3];exact hwe y h2
   have ly:ys.length<=100:=by
    have h1:=Xbj List.length hys;have h2:=ZfZ (ss:=W.ss) (ord:=ord) (all:=ws.map (·.2)) (l:=ws.map (·.2));rw [Xaa] at h1 h2;omega
   refine ⟨_,(Zab (Za8 (pv 4) (ZaF rfl (Zaf (Zag (i:=6) sc_met.nd rfl (Or.inl rfl)) (Zaf (Zag (i:=7) sc_met.nd rfl (Or.inl rfl)) (Zaf (Zag (i:=8) sc_met.nd rfl (Or.inl rfl)) Zav)))))
    (Zab (Zap (i:=9) sc_met.nd rfl (Or.inl rfl) (Zaz c_first_owed (hr.mono (by decide)) rfl (Zaa (pv 0) (Zaa (pv 2) (Zaa (pv 7) (Zaa (pv 3) Zac))))))
    (Zab (ZaN (ZcH (ZcG (pv 9))) (Zah (Zap (i:=9) sc_met.nd rfl (Or.inl rfl) (Zaz c_first_open (hr.mono (by decide)) rfl (Zaa (pv 0) (Zaa (pv 1) (Zaa (pv 8) Zac)))))) Zaq)
    (Zab (ZaN (ZcH (Zjf (pv 9))) (Zab (Za8 (pv 9) (ZaF rfl (Zaf (Zag (i:=10) sc_met.nd rfl (Or.inl rfl)) (Zaf (Zag (i:=11) sc_met.nd rfl (Or.inl rfl)) Zav))))
     (Zah (Zao (Zat (Zaa ZbU (Zaa (Zat (Zaa (pv 5) (Zaa (pv 10) (Zaa (pv 11) Zac)))) Zac)))))) Zaq)
    (Zab (Zap (i:=12) sc_met.nd rfl (Or.inr rfl) (ZcK rfl met_cs1 (ZaM (pv 8)) (fun _ _ _ _ _=>(Zag (i:=0) met_cs1.nd rfl (Or.inl rfl))) (fun _ _ _ _ _=>ZcJ) (fun _ _ _ _ _=>(Zaz c_meaning (hr.mono (by decide)) rfl (Zaa (pv 1) (Zaa (pv 2) (Zaa (pv 0) Zac)))))))
    (Zab (ZaN (ZbC (Zax (ZjA rfl) (by rfl) B.b_all (by decide +kernel) (Zaa (ZcK rfl met_cs2 (ZaM (pv 12)) (fun _ _ _ _ _=>(Zag (i:=0) met_cs2.nd rfl (Or.inl rfl))) (fun _ _ _ _ _=>ZcJ) (fun _ _ _ _ _=>(pe_cmp (ZcG (pv 0))))) Zac))) (Zah (Zao (Zat (Zaa (Zat (Zaa ZaE (Zaa (pv 5) Zac))) (Zaa ZbU Zac))))) Zaq)
    (Zab (ZaN (ZbC (Zax (ZjV rfl) (by rfl) B.b_any (by decide +kernel) (Zaa (ZcK (te:=tOp rNe (tVar 0) (tOp (rIx K) (tVar 1) (tC (.int ((0:Nat):Int))))) rfl met_cs3 (ZaM (pv 12)) (fun _ _ _ _ _=>(Zag (i:=0) met_cs3.nd rfl (Or.inl rfl))) (fun _ _ _ _ _=>ZcJ) (fun _ _ _ _ _=>(Zb3 op_ne (pv 0) (Zam Zai (pv 1) Zae (fun _ _=>rfl)) (ZaA _)))) Zac))) (Zah (Zao (Zat (Zaa (Zat (Zaa ZaE (Zaa (pv 5) Zac))) (Zaa ZbU Zac))))) Zaq)
    (Zah (Zao (Zat (Zaa (Zat (Zaa ZaE (Zaa (Zam Zai (pv 12) Zae (fun _ _=>rfl)) Zac))) (Zaa ZbU Zac)))))))))))),?_⟩
   try dsimp only [cxOf,Cx.nox,Cx.wish]
   refine ⟨_,rfl,r,_,rfl,SqT.of er,rfl,_,_,rfl,_,_,rfl,_,_,rfl,rfl,?_⟩;refine ⟨_,rfl,_,rfl,_,rfl,_,rfl,nt,S,T,R,t,D2,O,us,Gs,Es,W.ss,F,G,W.sts,inn,ord,ws,os,rfl,eN,N3.sc,TB,ol,irr,eD2,hw,hwo,lw,eO,ho,hoo,fun v1 H1 s1 hv1=>?_⟩;refine g_in ?_;try dsimp only
   refine ZdL (fun σ' H'=>∃ v,σ'=[some (.ref nt),some (.ref A),some (.ref t),some (.ref O),some (.ref r),some (.int at_),some (.ref D),some (.ref D2),some (.ref P),some v,none,none,none]/\Same H H'/\WtH G H' v (Zd9 W ord (ws.map (·.2)) (os.map (·.2)))) ?_ (fun N hN=>?_);rotate_left
   . cases e:ZaZ W.ss ord (ws.map (·.2)) (os.map (·.2)) with
     | none =>
       rw [e] at hv1;obtain rfl:v1=.non:=hv1;refine ⟨_,rfl,_,rfl,ite2 (fun _=>?_) (fun h=>absurd (Xa5 rfl) h)⟩;refine ⟨_,rfl,_,rfl,_,rfl,nt,A,t,P,G,W,ys,rfl,hC.same s1,sm,s1 _ _ eP,fun z h=>(hy z h).same s1,hye,fun v2 H2 s2 hv2=>?_⟩;refine hN _ _ ⟨v2,rfl,s1.trans s2,?_⟩;unfold Zd9;rw [e];rw [hys] at hv2;exact hv2
     | some o =>
       rw [e] at hv1;obtain ⟨p,l,rfl,h1,h2⟩:=hv1;refine ⟨_,rfl,_,rfl,ite2 (fun h=>absurd (Xa7 h) (by simp)) (fun _=>?_)⟩;refine hN _ _ ⟨_,rfl,s1,?_⟩;unfold Zd9;rw [e];exact ⟨p,l,rfl,h1,h2⟩
   rintro σ' H2 ⟨v,rfl,s2,hv⟩
   cases e:Zd9 W ord (ws.map (·.2)) (os.map (·.2)) with
   | some o =>
     rw [e] at hv;obtain ⟨p,l,rfl,h1,h2⟩:=hv;refine ⟨_,rfl,_,rfl,ite2 (fun _=>?_) (fun h=>absurd rfl h)⟩;refine ⟨_,rfl,p,_,rfl,SqT.of h1,rfl,_,_,rfl,_,_,rfl,rfl,?_⟩;refine ⟨_,rfl,_,rfl,_,rfl,ZaV,fun p2 hp2=>?_⟩;obtain ⟨H3,qH3,s3,e3⟩:=new_at (o:=.tup [.int at_,.ref l,.int o.2]) hp2;rw [<-qH3];refine ⟨ZaI,fun p3 hp3=>?_⟩;have s4:=Zak (o:=.tup [.non,.ref p2]) hp3;exact q p3 _ _ _ ((s2.trans s3).trans s4) (Zlr e) (.tup upd_same (.cons .non (.cons (.tup (s4 _ _ e3) (.cons (.int _) (.cons ((h2.same s3).same s4).own (.cons (.int _) .nil)))) .nil)))
   | none =>
     rw [e] at hv;obtain rfl:v=.non:=hv;refine ⟨_,rfl,_,rfl,ite2 (fun h=>absurd h (by decide)) (fun _=>?_)⟩;have hop:=Zg0 (Zka e)
     refine ⟨_,rfl,P,rfl,⟨_,SqL.of (s2 _ _ eP)⟩,ZbM (xs:=ys.map fun z=>V.ref z.1) (fun M i vs H'=>Same H2 H'/\H' M=some (.lst vs)/\vs=((ys.map (·.2)).take i).map fun w=>onV (ZaS W w))
      (fun M hM=>⟨Zak hM,upd_same,by rw [Xaz];rfl⟩) (fun M i vs H' hv_=>by obtain ⟨s,_⟩:=hv_;exact SqL.of (s _ _ (s2 _ _ eP))) (fun M i y vs H3 RR hM hyi hv k=>?_) (fun M vs H3 hM hv=>?_)⟩
     . obtain ⟨s3,eM,rfl⟩:=hv
       obtain ⟨z,hzi,rfl⟩:=getm hyi;have mz:=Xah hzi;have s03:=s2.trans s3
       have mo:z.2∈Zbj W.ss ord (ws.map (·.2)) (ws.map (·.2)):=by rw [<-hys];exact Xai.mpr ⟨z,mz,rfl⟩
       refine ⟨_,rfl,_,rfl,_,rfl,nt,A,t,z.1,G,W,z.2,rfl,hC.same s03,sm,(hy z mz).same s03,hye z mz,hop _ mo,?_⟩;refine k _ _ eM ?_ ⟨fun b o e=>?_,upd_same,?_⟩
       . rw [Xaa,Xaw,Xaa];exact Zan (by omega)
       . rw [Zal (Zad e hM)];exact s3 _ _ e
       . rw [Xar,Xag,hzi,Xad];rfl
     obtain ⟨s3,eM,rfl⟩:=hv;rw [Xaa,<-Xaa (f:=(·.2)),Xas,hys] at eM;generalize hse:Zbj W.ss ord (ws.map (·.2)) (ws.map (·.2))=seen at *
     have ls:seen.length<=100:=by rw [<-hys,Xaa];exact ly
     have s03:=s2.trans s3;refine g_in ?_;try dsimp only
     refine ⟨_,rfl,M,rfl,⟨_,SqL.of eM⟩,ZgH (xs:=seen.map fun w=>onV (ZaS W w)) (fun v=>V.bl (decide (v=V.non))) (by rw [Xaa];exact XaY (Zan (by omega))) (SqL.of eM) (fun j y H4 D4 R4 hy4 s4 hD4 k4=>⟨_,rfl,k4 _ (Same.refl _)⟩) (fun H4 D4 s4 hD4 e4=>?_)⟩;refine ⟨D4,(seen.map fun w=>onV (ZaS W w)).map fun v=>decide (v=V.non),rfl,SqL.of (by rw [e4,Xax (f:=fun v=>decide (v=V.non))];rfl),_,rfl,ite2 (fun h=>?_) (fun h=>?_)⟩
     . refine ⟨_,rfl,ZaI,fun p2 hp2=>?_⟩
       obtain ⟨H5,qH5,s5,e5⟩:=new_at (o:=.tup [.str "none",.int at_]) hp2
       rw [<-qH5];refine ⟨ZaI,fun p3 hp3=>?_⟩;have s6:=Zak (o:=.tup [.ref p2,.non]) hp3
       refine q p3 (some ("none",at_)) none _ (((s03.trans s4).trans s5).trans s6) ?_ (.tup upd_same (.cons (.tup (s6 _ _ e5) (.cons (.str _) (.cons (.int _) .nil))) (.cons .non .nil)))
       rw [Zf3 e,hse,Zim (all_none.mp h)]
     have hn:¬∀ w∈seen,ZaS W w=none:=fun z=>h (all_none.mpr z)
     cases hs0:seen with
     | nil=>rw [hs0] at hn;exact absurd (fun w hw=>by cases hw) hn
     | cons w0 r0 =>
       have eM4:=s4 _ _ eM;have h0:atI (seen.map fun w=>onV (ZaS W w)) ((0:Nat):Int)=some (onV (ZaS W w0)):=Zar (by rw [hs0];rfl);refine ⟨_,rfl,M,rfl,⟨_,SqL.of eM4⟩,ZgH (xs:=seen.map fun w=>onV (ZaS W w)) (fun v=>V.bl (!decide (v=onV (ZaS W w0)))) (by rw [Xaa];exact XaY (Zan (by omega))) (SqL.of eM4) (fun j y H5 D5 R5 hy5 s5 hD5 k5=>?_) (fun H5 D5 s5 hD5 e5=>?_)⟩
       . obtain ⟨w,_,rfl⟩:=getm hy5
         exact ⟨_,rfl,_,rfl,Or.inl ⟨M,_,_,_,rfl,rfl,SqL.of (s5 _ _ eM4),h0,Zls _ _,k5 _ (Same.refl _)⟩⟩
       refine ⟨D5,(seen.map fun w=>onV (ZaS W w)).map fun v=>!decide (v=onV (ZaS W w0)),rfl,SqL.of (by rw [e5,Xax (f:=fun v=>!decide (v=onV (ZaS W w0)))];rfl),_,rfl,ite2 (fun h5=>?_) (fun h5=>?_)⟩
       . refine ⟨_,rfl,ZaI,fun p2 hp2=>?_⟩
         obtain ⟨H6,qH6,s6,e6⟩:=new_at (o:=.tup [.str "torn",.int at_]) hp2
         rw [<-qH6];refine ⟨ZaI,fun p3 hp3=>?_⟩;have s7:=Zak (o:=.tup [.ref p2,.non]) hp3
         refine q p3 (some ("torn",at_)) none _ ((((s03.trans s4).trans s5).trans s6).trans s7) ?_ (.tup upd_same (.cons (.tup (s7 _ _ e6) (.cons (.str _) (.cons (.int _) .nil))) (.cons .non .nil)))
         have h6:=any_ne.mp h5;rw [hs0] at hn h6;rw [Zf3 e,hse,hs0,Zin hn h6]
       . have h6:∀ v∈seen,ZaS W v=ZaS W w0:=Classical.byContradiction fun z=>h5 (any_ne.mpr z)
         have hn':=hn;rw [hs0] at hn' h6;obtain ⟨n,en,ea⟩:=ZgZ (at_:=at_) hn' h6;have eM5:=s5 _ _ eM4;rw [en] at h0;refine ⟨_,rfl,Or.inl ⟨M,_,_,.int n,rfl,rfl,SqL.of eM5,h0,ZaI,fun p2 hp2=>?_⟩⟩
         obtain ⟨H6,qH6,s6,e6⟩:=new_at (o:=.tup [.str "thing",.int n]) hp2
         rw [<-qH6];refine ⟨ZaI,fun p3 hp3=>?_⟩;have s7:=Zak (o:=.tup [.ref p2,.non]) hp3
         refine q p3 (some ("thing",n)) none _ ((((s03.trans s4).trans s5).trans s6).trans s7) ?_ (.tup upd_same (.cons (.tup (s7 _ _ e6) (.cons (.str _) (.cons (.int _) .nil))) (.cons .non .nil)))
         rw [Zf3 e,hse,hs0,ea]
inductive E_owed_behind (K:XFg) (vs:List V) (H:Hp) (Q:VK):Prop where
 | mk (nt A t D:Addr) (F:Addr->Prop) (W:Wd) (zs:List (Addr×Beg)) (h0:vs=[.ref nt,.ref A,.ref t,.ref D]) (h1:CaseH K H nt A t W) (h2:WOk W) (h3:H D=some (.lst (zs.map fun z=>V.ref z.1))) (h4:(∀ z∈zs,BgH F H z.1 z.2)) (h5:(∀ z∈zs,BegOk W z.2)) (h6:zs.length<=62) (h7:(Zcd W (zs.map (·.2))).length<=62) (h8:∀ (D2:Addr) (ws:List (Addr×Ow)) (H':Hp),H D2=none->Same H H'->H' D2=some (.lst (ws.map fun z=>V.ref z.1))->(∀ z∈ws,OwH (fun l=>H l=none/\l≠D2) H' z.1 z.2)->Owd W (zs.map (·.2)) (ws.map (·.2))->Q (.ref D2) H'):E_owed_behind K vs H Q
def Zfh (K:XFg):Sp:=fun vs H Q _=>E_owed_behind K vs H Q
variable (P w K mg base) in
abbrev Zcq:Prop:=ZaB P w K mg base "owed_behind" 5 ["net", "answers", "table", "begun"] (Zfh K)
theorem Zec (B:Blt mg) (c_steps_gone:ZbZ P w K mg base) (F:Fun K "owed_behind" "owed_behind" Zcj f fd) (hm:mg "owed_behind" = some (.ref f)):Zcq P w K mg base:=by
 refine ⟨f,fd,?_,hm,F.kp,F.binds fun _ _ _ _ _ _ us hl=>(by obtain ⟨x0,x1,x2,x3,rfl⟩:=Zdn hl;rfl)⟩;refine F.ok sc_owed_behind (fun vs H Q E h=>?_) (fun cdv A outer s H vs Q E hr h=>?_)
 . obtain ⟨nt,A,t,D,F,W,zs,rfl,_⟩:=h
   rfl
 . obtain ⟨nt,A,t,D,F,W,zs,rfl,hC,ok,eD,hz,hbo,hzl,hfl,q⟩:=h
   refine ⟨_,(Zab (Zap (i:=4) sc_owed_behind.nd rfl (Or.inl rfl) (ZaJ Zac))
    (Zab (ZaQ Xbr rfl (ZaM (pv 3)) (ZaF rfl (Zaf (Zag (i:=5) sc_owed_behind.nd rfl (Or.inl rfl)) (Zaf (Zag (i:=6) sc_owed_behind.nd rfl (Or.inl rfl)) (Zaf (Zag (i:=7) sc_owed_behind.nd rfl (Or.inl rfl)) Zav)))) (Zah (ZaQ Xbr rfl (ZaM (Zaz c_steps_gone (hr.mono (by decide)) rfl (Zaa (pv 0) (Zaa (pv 1) (Zaa (pv 2) (Zaa (pv 6) (Zaa (pv 7) Zac))))))) (ZaF rfl (Zaf (Zag (i:=8) sc_owed_behind.nd rfl (Or.inl rfl)) (Zaf (Zag (i:=9) sc_owed_behind.nd rfl (Or.inl rfl)) (Zaf (Zag (i:=10) sc_owed_behind.nd rfl (Or.inl rfl)) (Zaf (Zag (i:=11) sc_owed_behind.nd rfl (Or.inl rfl)) Zav))))) (Zah (ZaN (Zaw Zbq (pv 9) ZaE (ZaA _)) (Zah (ZaW (Zb4 Xa8 Xa9 Xba ZaK (pv 4) (Zaa (Zat (Zaa (Zau Zfm (pv 5) (ZaJ (Zaa (pv 8) Zac))) (Zaa (pv 10) Zac))) Zac)))) Zaq)))))
    (Zah (Zao (Zax (Zhx mkE intE hr.units (by decide) (by decide)) (by rfl) B.b_sorted (by decide +kernel) (Zaa (pv 4) Zac)))))),?_⟩
   try dsimp only [cxOf,Cx.nox,Cx.wish]
   refine ⟨by decide,fun P hP=>?_⟩;obtain ⟨H1,qH1,s1,eP1⟩:=new_at (o:=.lst []) hP;rw [<-qH1];have upK:∀ {H':Hp},Keeps (·=P) H1 H'->Same H H':=fun k x o e=>k.at_ _ _ (s1 _ _ e) (Zad e hP)
   refine ⟨_,rfl,D,rfl,⟨_,SqL.of (s1 _ _ eD)⟩,Za2 (xs:=zs.map fun z=>V.ref z.1) (fun i σ H'=>∃ u5 u6 u7 u8 u9 u10 u11 ws,σ=[some (.ref nt),some (.ref A),some (.ref t),some (.ref D),some (.ref P),u5,u6,u7,u8,u9,u10,u11]/\Keeps (·=P) H1 H'/\H' P=some (.lst (ws.map fun z:Addr×Ow=>V.ref z.1))/\(∀ z∈ws,OwH (fun l=>H l=none/\l≠P) H' z.1 z.2)/\ws.map (·.2)=Zcd W ((zs.map (·.2)).take i))
    ⟨none,none,none,none,none,none,none,[],rfl,Keeps.refl fun x o m e=>by rw [m,eP1] at e;exact ⟨_,(Xbc e).symm⟩,eP1,fun z hz=>by simp at hz,by rw [Xaz];rfl⟩ (fun i σ H' _ hv_=>by obtain ⟨_,_,_,_,_,_,_,_,_,k,_⟩:=hv_;exact SqL.of (upK k _ _ eD)) ?_ ?_⟩
   rotate_left
   . rintro σ H2 ⟨u5,u6,u7,u8,u9,u10,u11,ws,rfl,k2,eP2,hw,hm⟩
     rw [Xaa,<-Xaa (f:=(·.2)),Xas] at hm
     have lw:ws.length<=62:=by have:=Xbj List.length hm;rw [Xaa] at this;omega
     refine ⟨_,rfl,P,ws.map fun z=>(V.ref z.1,z.2),rfl,?_,by rw [Xaa];omega,fun y hy=>?_,fun D2 zs' hp hs hD2=>?_⟩
     . rw [Xax];exact SqL.of eP2
     . obtain ⟨z,hz',rfl⟩:=Xai.mp hy
       exact (hw z hz').dt
     obtain ⟨vs,r1,r2,r3,r4⟩:=ZdP (c:=owE) hp;have s3:=Zak (o:=.lst (zs'.map (·.1))) hD2;rw [r1] at s3 ⊢;rw [r2] at hs;have s02:=upK k2;refine q D2 vs _ (s02.free hD2) (s02.trans s3) upd_same (fun z hz'=>?_) ⟨by rw [<-hm];exact r3,hs⟩;refine ((hw z (r4 z hz')).mono' ?_).same s3;intro x o ex hx;exact ⟨hx.1,fun y=>by rw [y,hD2] at ex;cases ex⟩
   rintro i y σ H2 hy ⟨u5,u6,u7,u8,u9,u10,u11,ws,rfl,k2,eP2,hw,hm⟩;obtain ⟨z,hzi,rfl⟩:=getm hy;have hil:i<zs.length:=(Xae.mp hzi).1;have mz:=Xah hzi;have hbz:=hbo z mz;have s02:=upK k2;obtain ⟨l,ms,f1,f2,e3,_⟩:=hz z mz;have e1:=s02 _ _ f1;have hsc:=hbz.rng z.2.2.1 (by unfold been;simp)
   have htk:(zs.map (·.2))[i]?=some z.2:=by rw [Xag,hzi];rfl
   have hml:ms.length<=100:=by
    have:=Zbb W.ss.length (been z.2) hbz.nd hbz.rng
    rw [show (been z.2).length=z.2.1.length+1 by unfold been;simp] at this
    have:=ok.s5
    rw [e3.len];omega
   have lw0:ws.length<=8 * i:=by
    have h1:=Xbj List.length hm;rw [Xaa] at h1;have h2:=ZfV (f:=fun b=>(ZbW W b.2.1 b.2.2).filterMap (ow b)) (k:=8) ((zs.map (·.2)).take i) fun b=>Xbg (List.length_filterMap_le _ _) (Xbg (ZbR W b.2.1 (Za7 W b.2.2) (ZaD W b.2.1) 0) (Zie ok b.2.1));rw [Xaw,Xaa] at h2;unfold Zcd at h1
    have h3:min i zs.length=i:=by omega
    rw [h3] at h2;omega
   refine ⟨z.1,_,rfl,SqT.of e1,rfl,_,_,rfl,_,_,rfl,_,_,rfl,rfl,?_⟩;refine ⟨_,rfl,_,rfl,_,rfl,_,rfl,_,rfl,nt,A,t,W,z.2.2.1,z.2.2.2,rfl,hC.same s02,ok,hsc,hbz.st,fun G gz H3 hG s3 eG hgz hgm=>⟨G,rfl,⟨_,SqL.of eG⟩,?_⟩⟩
   have nGP:G≠P:=fun y=>by rw [y,eP2] at hG;cases hG
   have lgz:gz.length<=8:=by
    have e1:=Xbj List.length hgm;have e2:=ZbR W z.2.2.1 (Za7 W z.2.2.2) (ZaD W z.2.2.1) 0;have e3:=Zie ok z.2.2.1;rw [Xaa] at e1;unfold ZbW at e1;omega
   refine Za2 (xs:=gz.map fun z=>V.ref z.1) (fun j σ H'=>∃ u8 u9 u10 u11 vs,σ=[some (.ref nt),some (.ref A),some (.ref t),some (.ref D),some (.ref P),some (.ref l),some (.int z.2.2.1),some (.int z.2.2.2),u8,u9,u10,u11]/\Keeps (·=P) H3 H'/\H' P=some (.lst (vs.map fun z:Addr×Ow=>V.ref z.1))/\(∀ z∈vs,OwH (fun l=>H l=none/\l≠P) H' z.1 z.2)/\vs.map (·.2)=Zcd W ((zs.map (·.2)).take i)++((gz.map (·.2)).take j).filterMap (ow z.2)/\vs.length<=8 * i+j)
    ⟨_,_,_,_,ws,rfl,Keeps.refl fun x o m e=>by rw [m,s3 _ _ eP2] at e;exact ⟨_,(Xbc e).symm⟩,s3 _ _ eP2,fun z h=>(hw z h).same s3,by rw [hm,Xaz];simp,lw0⟩ (fun j σ H' _ hv_=>by obtain ⟨_,_,_,_,_,_,k,_⟩:=hv_;exact SqL.of (k.at_ _ _ eG nGP)) ?_ ?_
   rotate_left
   . rintro σ H4 ⟨u8,u9,u10,u11,vs,rfl,k4,eP4,hw4,hm4,_⟩
     refine ⟨_,_,_,_,_,_,_,vs,rfl,⟨fun x o e n=>k4.at_ _ _ (s3 _ _ (k2.at_ x o e n)) n,k2.ls⟩,eP4,hw4,?_⟩;rw [ZjQ htk,hm4,Xaa,<-Xaa (f:=(·.2)),Xas,hgm]
   rintro j y σ H4 hy ⟨u8,u9,u10,u11,vs,rfl,k4,eP4,hw4,hm4,hvl⟩;obtain ⟨g,hgj,rfl⟩:=getm hy;have hjl:j<gz.length:=(Xae.mp hgj).1;obtain ⟨m,em1,em2⟩:=hgz g (Xah hgj);have em1:=k4.tup em1;have em2:=k4.tup em2
   have etk:((gz.map (·.2)).take (j+1)).filterMap (ow z.2)=((gz.map (·.2)).take j).filterMap (ow z.2)++(ow z.2 g.2).toList:=by
    rw [Xar,Xag,hgj];exact fm_one _ _ _
   refine ⟨g.1,_,rfl,SqT.of em1,rfl,_,_,rfl,_,_,rfl,_,_,rfl,_,_,rfl,rfl,?_⟩;refine ⟨_,rfl,rfl,_,rfl,ite2 (fun h1=>?_) (fun h1=>?_)⟩;rotate_left
   . refine ⟨_,_,_,_,vs,rfl,k4,eP4,hw4,?_,by omega⟩
     rw [etk,ow_none (fun e=>h1 (Xa5 (by rw [e]))),hm4];simp
   have h1:g.2.2.1.1=("open" : Str):=V.str.inj (Xa7 h1)
   have s24:Same H2 H3:=s3;have el4:H4 l=some (.lst (ms.map V.ref)):=k4.at_ _ _ (s3 _ _ (s02 _ _ f2)) (Zad f2 hP);have e34:RT mkV H4 ms z.2.1:=(e3.same (s02.trans s3)).keeps k4;refine ⟨_,rfl,Or.inl ⟨rfl,_,SqL.of eP4⟩,_,rfl,_,rfl,ZbP,fun M hM=>?_⟩;obtain ⟨H5,qH5,s5,eM⟩:=new_at (o:=.lst [.ref m]) hM;rw [<-qH5];refine ⟨l,M,_,_,rfl,rfl,s5 _ _ el4,eM,by rw [Xaa];exact XaY (Zan (by show ms.length+1<=1000;omega)),fun L hL=>?_⟩
   have hLH:H L=none:=by
    have h4:=s5.free hL
    cases e:H L with
    | none=>rfl
    | some o=>rw [k4.at_ _ _ (s3 _ _ (s02 _ _ e)) (Zad e hP)] at h4;cases h4
   have nLP:L≠P:=fun y=>by rw [y,s5 _ _ eP4] at hL;cases hL
   have s6:=Zak (o:=.lst (ms.map V.ref++[.ref m])) hL
   have eL:(upd H5 L (.lst (ms.map V.ref++[.ref m]))) L=some (.lst ((ms++[m]).map V.ref)):=by rw [upd_same,Xad];rfl
   generalize upd H5 L (.lst (ms.map V.ref++[.ref m]))=H6 at s6 eL ⊢;refine ⟨_,rfl,ZaI,fun r hr=>?_⟩;obtain ⟨H7,qH7,s7,er⟩:=new_at (o:=.tup [.ref L,.int g.2.2.1.2]) hr;rw [<-qH7];have s47:=(s5.trans s6).trans s7;have eP7:=s47 _ _ eP4;have k7:Keeps (·=P) H7 (upd H7 P (.lst (vs.map (fun z=>V.ref z.1)++[.ref r]))):=Keeps.one eP7;refine ⟨P,_,_,rfl,rfl,eP7,by rw [Xaa];exact Zan (by omega),?_⟩;refine ⟨_,_,_,_,vs++[(r,(z.2.1++[g.2.1],g.2.2.1.2))],rfl,(k4.same s47).set rfl,by rw [upd_same,Xad];rfl,fun y hy=>?_,?_,by rw [Xac,Xau];omega⟩
   . rcases Xaf.mp hy with hy | hy
     . exact ((hw4 y hy).same s47).keeps k7 fun x hx=>hx.2
     . rw [Xaj.mp hy]
       refine ⟨L,ms++[m],k7.tup er,k7.at_ _ _ (s7 _ _ eL) nLP,?_,hLH,nLP⟩;exact RT.snoc ((e34.same s47).keeps k7) (k7.tup (s47 _ _ em2))
   . rw [etk,ow_some h1,Xad,hm4,XaE];rfl
theorem both {A G:Prop} (k:A->G) (a:A):G:=k a
theorem Ze7:([]:List V).length+1+1+1+1<=sizeLine:=by decide
inductive E_look_up (K:XFg) (vs:List V) (H:Hp) (Q:VK):Prop where
 | mk (nt A t ask u:Addr) (F:Addr->Prop) (W:Wd) (inn:Int) (ord:List (Str×Str)) (q:Qu) (h0:vs=[.ref nt,.ref A,.ref t,.ref ask]) (h1:CaseH K H nt A t W) (h2:Tab K F H t W.sts inn ord) (h3:WOk W) (h4:Small W) (h5:ord.length<=40) (h6:(∀ x,(x,x) ∉ ord)) (h7:(0<=inn/\inn<W.sts.length)) (h8:H ask=some (.tup [.int q.1,.int q.2.1,.ref u])) (h9:H u=some (.tup (q.2.2.map V.str))) (h10:(0<=q.1/\q.1<W.ss.length)) (h11:(0<=q.2.1/\q.2.1<W.sts.length)) (h12:1<=q.2.2.length) (h13:q.2.2.length<=8) (h14:∀ (r L T:Addr) (av wv:V) (lv:List V) (a:Option (Str×Int)) (w:Option Wt) (ls:List Lk) (ts:List Int) (H':Hp),Same H H'->H' r=some (.tup [av,wv,.ref L,.ref T])->H L=none->H' L=some (.lst lv)->H' T=some (.lst (ts.map V.int))->OwD (fun x=>H x=none) H' av (ansD a)->OwD (fun x=>H x=none) H' wv (Zj9 w)->OwDs (fun x=>H x=none/\x≠L) H' lv (ls.map lkD)->LU W inn ord q.1 q.2.1 q.2.2 0 a w ls ts->Q (.ref r) H'):E_look_up K vs H Q
def Zi6 (K:XFg):Sp:=fun vs H Q _=>E_look_up K vs H Q
variable (P w K mg base) in
abbrev ZcZ:Prop:=ZaB P w K mg base "look_up" 7 ["net", "answers", "table", "asked"] (Zi6 K)
theorem Zhh (B:Blt mg) (c_beginnings:ZcW P w K mg base) (c_look_for:ZdY P w K mg base) (c_met:C_met P w K mg base) (c_owed_behind:Zcq P w K mg base) (c_inside:Zej P w K mg base) (F:Fun K "look_up" "look_up" Zeo f fd) (hm:mg "look_up" = some (.ref f)):ZcZ P w K mg base:=by
 refine ⟨f,fd,?_,hm,F.kp,F.binds fun _ _ _ _ _ _ us hl=>(by obtain ⟨x0,x1,x2,x3,rfl⟩:=Zdn hl;rfl)⟩;refine F.ok sc_look_up (fun vs H Q E h=>?_) (fun cdv A outer s H vs Q E hr h=>?_)
 . obtain ⟨nt,A,t,ask,u,F,W,inn,ord,q,rfl,_⟩:=h
   rfl
 . obtain ⟨nt,A,t,ask,u,F,W,inn,ord,q,rfl,hC,TB,ok,sm,ol,irr,hinn,eq,eu,hq1,hq2,lq1,lq8,qk⟩:=h
   obtain ⟨S,Tn,R,us,Gs,Es,ts0,qt,qs,eN,N3⟩:=hC.net
   refine ⟨_,(Zab (Za8 (pv 3) (ZaF rfl (Zaf (Zag (i:=4) sc_look_up.nd rfl (Or.inl rfl)) (Zaf (Zag (i:=5) sc_look_up.nd rfl (Or.inl rfl)) (Zaf (Zag (i:=6) sc_look_up.nd rfl (Or.inl rfl)) Zav)))))
    (Zab (Zap (i:=7) sc_look_up.nd rfl (Or.inl rfl) (ZaJ Zac))
    (Zab (Zap (i:=8) sc_look_up.nd rfl (Or.inl rfl) (ZaJ Zac))
    (Zah (ZaQ Xbr rfl (Zlo rfl B.b_enumerate (Zaa (pv 6) Zac)) (ZaF rfl (Zaf (Zag (i:=9) sc_look_up.nd rfl (Or.inl rfl)) (Zaf (Zag (i:=10) sc_look_up.nd rfl (Or.inl rfl)) Zav))) (Zab (Zap (i:=11) sc_look_up.nd rfl (Or.inl rfl) (Zaz c_beginnings (hr.mono (by decide)) rfl (Zaa (pv 0) (Zaa (pv 1) (Zaa (pv 2) (Zaa (pv 4) (Zaa (pv 5) Zac)))))))
     (Zab (ZaW (Zb4 Xa8 Xa9 Xba ZaK (pv 7) (Zaa (Zaz c_look_for (hr.mono (by decide)) rfl (Zaa (pv 0) (Zaa (pv 2) (Zaa (pv 11) (Zaa (pv 10) Zac))))) Zac)))
     (Zab (Za8 (Zaz c_met (hr.mono (by decide)) rfl (Zaa (pv 0) (Zaa (pv 1) (Zaa (pv 2) (Zaa (Zaz c_owed_behind (hr.mono (by decide)) rfl (Zaa (pv 0) (Zaa (pv 1) (Zaa (pv 2) (Zaa (pv 11) Zac))))) (Zaa (Zam Zai (pv 7) (Zhq Zep Zae) (fun _ _=>rfl)) (Zaa (pv 9) Zac))))))) (ZaF rfl (Zaf (Zag (i:=12) sc_look_up.nd rfl (Or.inl rfl)) (Zaf (Zag (i:=13) sc_look_up.nd rfl (Or.inl rfl)) Zav))))
     (Zab (ZaN (PW.pt (pw_or (ZcH (ZcG (pv 12))) (pw_or (Zaw op_ne (Zam Zai (pv 12) Zae (fun _ _=>rfl)) ZaE (ZaA _)) (pw_or1 (Zaw Zbq (pv 9) (Zau op_sub (Zax Zbm (by rfl) B.b_len (by decide +kernel) (Zaa (pv 6) Zac)) Zae) (ZaA _)))))) (Zah (Zao (Zat (Zaa (pv 12) (Zaa (pv 13) (Zaa (pv 7) (Zaa (pv 8) Zac))))))) Zaq)
     (Zab (ZaW (Zb4 Xa8 Xa9 Xba ZaK (pv 8) (Zaa (Zam Zai (pv 12) Zae (fun _ _=>rfl)) Zac)))
     (Zab (Za8 (Zaz c_inside (hr.mono (by decide)) rfl (Zaa (pv 0) (Zaa (pv 1) (Zaa (Zam Zai (pv 12) Zae (fun _ _=>rfl)) Zac)))) (ZaF rfl (Zaf (Zag (i:=14) sc_look_up.nd rfl (Or.inl rfl)) (Zaf (Zag (i:=15) sc_look_up.nd rfl (Or.inl rfl)) Zav))))
     (Zab (ZaN (Zaw Zbq (pv 14) ZaE (ZaA _)) (Zah (Zao (Zat (Zaa ZbU (Zaa (Zat (Zaa (pv 9) (Zaa (ZaJ Zac) (Zaa (pv 15) Zac)))) (Zaa (pv 7) (Zaa (pv 8) Zac))))))) Zaq)
     (Zab (ZaN (Zaw Zbq (pv 14) ZaE (ZaA _)) (Zah (Zao (Zat (Zaa (Zat (Zaa ZaE (Zaa (Zau Zb6 (pv 9) Zae) Zac))) (Zaa ZbU (Zaa (pv 7) (Zaa (pv 8) Zac))))))) Zaq)
     (Zab (Zap (i:=4) sc_look_up.nd rfl (Or.inl rfl) (pv 15))
     (Zah (Zap (i:=5) sc_look_up.nd rfl (Or.inl rfl) (Zam Zai (pv 2) Zae (fun _ _=>rfl)))))))))))))))))),?_⟩
   try dsimp only [cxOf,Cx.nox,Cx.wish]
   refine ⟨_,rfl,ask,_,rfl,SqT.of eq,rfl,_,_,rfl,_,_,rfl,_,_,rfl,rfl,?_⟩;refine ⟨by decide,fun L hL=>?_⟩;obtain ⟨H1,qH1,s1,eL1⟩:=new_at (o:=.lst []) hL;rw [<-qH1];refine g_in ?_;try dsimp only
   refine ⟨by decide,fun T hT=>?_⟩;have s2:=Zak (o:=.lst []) hT;have eT2:(upd H1 T (.lst [])) T=some (.lst []):=upd_same;have eL2:=s2 _ _ eL1;generalize upd H1 T (.lst [])=H2 at s2 eT2 eL2 ⊢
   have nLT:L≠T:=fun z=>by rw [z,hT] at eL1;cases eL1
   have hT0:H T=none:=s1.free hT;refine g_in ?_;try dsimp only
   refine ⟨_,rfl,u,rfl,⟨_,SqT.of ((s1.trans s2) _ _ eu)⟩,Zj1 (xs:=q.2.2.map V.str) (fun i σ H'=>∃ (sc st:Int) (u9 u10 u11 u12 u13 u14 u15:Option V) (lv:List V) (ls:List Lk) (ts:List Int),σ=[some (.ref nt),some (.ref A),some (.ref t),some (.ref ask),some (.int sc),some (.int st),some (.ref u),some (.ref L),some (.ref T),u9,u10,u11,u12,u13,u14,u15]/\Same H H'/\H' L=some (.lst lv)/\H' T=some (.lst (ts.map V.int))/\OwDs (fun x=>H x=none/\x≠L/\x≠T) H' lv (ls.map lkD)/\lv.length=i/\ts.length=i/\i<q.2.2.length/\(0<=sc/\sc<W.ss.length)/\(0<=st/\st<W.sts.length)/\∀ a w ls' ts',LU W inn ord sc st (q.2.2.drop i) i a w ls' ts'->LU W inn ord q.1 q.2.1 q.2.2 0 a w (ls++ls') (ts++ts'))
    ⟨_,_,none,none,none,none,none,none,none,[],[],[],rfl,s1.trans s2,eL2,eT2,.nil,rfl,rfl,by omega,hq1,hq2,fun a w ls' ts' z=>z⟩ (fun i σ H' hv_=>by obtain ⟨_,_,_,_,_,_,_,_,_,_,_,_,_,s,_⟩:=hv_;exact SqT.of (s _ _ eu)) ?_ ?_⟩
   rotate_left
   . rintro σ H' ⟨_,_,_,_,_,_,_,_,_,_,_,_,_,_,_,_,_,_,_,hi,_⟩
     rw [Xaa] at hi;exact absurd hi (XaX _)
   rintro i xv Te σ H3 hx hTe ⟨sc,st,u9,u10,u11,u12,u13,u14,u15,lv,ls,ts,rfl,s3,eL3,eT3,hlv,llv,lts,hi,hsc,hst,cont⟩;obtain ⟨x,hxi,rfl⟩:=getm hx;have hdr:=ZhE hxi;obtain ⟨H4,qH4,s4,eTe⟩:=new_at (o:=.tup [.int i,.str x]) hTe;rw [<-qH4];have s04:=s3.trans s4;have eL4:=s4 _ _ eL3;have eT4:=s4 _ _ eT3;refine ⟨Te,_,rfl,SqT.of eTe,rfl,_,_,rfl,_,_,rfl,rfl,?_⟩;refine ⟨_,rfl,_,rfl,_,rfl,_,rfl,_,rfl,nt,A,t,W,sc,st,rfl,hC.same s04,ok,hsc,hst,fun D zs H5 hD s5 eD hz hB=>?_⟩;refine g_in ?_;try dsimp only
   have s05:=s04.trans s5;have eL5:=s5 _ _ eL4;have eT5:=s5 _ _ eT4;have frs:∀ {Hn:Hp} {x:Addr},Same H Hn->Hn L=some (.lst lv)->Hn T=some (.lst (ts.map V.int))->Hn x=none->H x=none/\x≠L/\x≠T:=fun {Hn x} s e1 e2 h=>⟨s.free h,fun z=>(by rw [z,e1] at h;cases h),fun z=>(by rw [z,e2] at h;cases h)⟩;refine ⟨_,rfl,Or.inl ⟨rfl,_,SqL.of eL5⟩,_,rfl,_,rfl,_,rfl,_,rfl,nt,A,t,D,x,F,_,W,inn,ord,sc,st,zs,rfl,hC.same s05,TB.same s05,ok,sm,ol,irr,hsc,hst,eD,hz,hB,fun r D2 P ws ys H6 s6 er hD2 eD2 hw hF hP eP hy hys=>?_⟩;have s06:=s05.trans s6;have eL6:=s6 _ _ eL5;have eT6:=s6 _ _ eT5;have k7:Keeps (·=L) H6 (upd H6 L (.lst (lv++[.ref r]))):=Keeps.one eL6
   have s07:Same H (upd H6 L (.lst (lv++[.ref r]))):=fun b o e=>by rw [Zal (Zad e hL)];exact s06 _ _ e
   have eL7:(upd H6 L (.lst (lv++[.ref r]))) L=some (.lst (lv++[.ref r])):=upd_same;refine ⟨L,_,_,rfl,rfl,eL6,Zan (by omega),?_⟩;generalize upd H6 L (.lst (lv++[.ref r]))=H7 at k7 s07 eL7 ⊢
   have nD:D≠L:=fun z=>by rw [z,eL4] at hD;cases hD
   have nD2:D2≠L:=fun z=>by rw [z,eL5] at hD2;cases hD2
   have nP:P≠L:=fun z=>by rw [z,eL5] at hP;cases hP
   have eT7:=k7.at_ _ _ eT6 (Ne.symm nLT);have er7:=k7.tup er;have eD7:=k7.at_ _ _ (s6 _ _ eD) nD;have eD27:=k7.at_ _ _ eD2 nD2;have eP7:=k7.at_ _ _ eP nP;have hz7:∀ z∈zs,BgH (fun x=>H x=none/\x≠L/\x≠T) H7 z.1 z.2:=fun z h=>(((hz z h).mono' fun y o _ hy=>frs s04 eL4 eT4 hy.1).same s6).keeps k7 fun y hy=>hy.2.1;have hw7:∀ z∈ws,WyH (fun x=>H x=none/\x≠L/\x≠T) H7 z.1 z.2:=fun z h=>((hw z h).mono' fun y o _ hy=>frs s05 eL5 eT5 hy).keeps k7 fun y hy=>hy.2.1;have hy7:∀ z∈ys,WyH (fun x=>H x=none/\x≠L/\x≠T) H7 z.1 z.2:=fun z h=>((hy z h).mono' fun y o _ hy=>frs s05 eL5 eT5 hy).keeps k7 fun y hy=>hy.2.1;have hlv7:OwDs (fun x=>H x=none/\x≠L/\x≠T) H7 lv (ls.map lkD):=(((hlv.same s4).same s5).same s6).keeps k7 fun y hy=>hy.2.1;have hB':=hB;have hbz:=hB.few;rw [Xaa] at hbz;refine ⟨_,rfl,_,rfl,_,rfl,_,rfl,_,rfl,_,rfl,_,rfl,nt,A,t,D,_,W,zs,rfl,hC.same s07,ok,eD7,hz7,fun z hz'=>((hB.mem _).mp (Xai.mpr ⟨z,hz',rfl⟩)).ok ok hsc hst,hbz,sm.owd sc st _ hsc hst hB,fun O os H8 hO s8 eO ho hOw=>?_⟩;have s08:=s07.trans s8;have eL8:=s8 _ _ eL7;have eT8:=s8 _ _ eT7;have hwf:∀ z∈ws,z.2∈Zay W x (zs.map (·.2)):=fun z h=>hF.perm.mem_iff.mp (Xai.mpr ⟨z,h,rfl⟩)
   have lw:ws.length<=100:=by
    have h1:=hF.perm.length_eq;have h2:=sm.fnd x sc st _ hsc hst hB;rw [Xaa] at h1;omega
   have hwe:∀ z∈ws,EndT W.ss z.2:=fun z h=>Zkc ok hsc hst hB (hwf z h);have frs8:∀ {x:Addr},H7 x=none->H x=none/\x≠L/\x≠T:=fun {x} h=>⟨s07.free h,fun z=>(by rw [z,eL7] at h;cases h),fun z=>(by rw [z,eT7] at h;cases h)⟩;refine ⟨_,rfl,_,rfl,Or.inl ⟨L,_,_,.ref r,rfl,rfl,SqL.of eL8,Zey _ _,_,rfl,nt,A,t,O,r,D,D2,P,F,(fun x=>H x=none/\x≠L/\x≠T),W,inn,ord,ws,ys,os,(i:Int),rfl,hC.same s08,TB.same s08,sm,ol,irr,s8 _ _ er7,s8 _ _ eD27,fun z h=>(hw7 z h).same s8,fun z h=>Zdl ok hsc hst hB (hwf z h),lw,hwe,s8 _ _ eP7,fun z h=>(hy7 z h).same s8,hys,eO,fun z h=>(ho z h).mono' fun y o _ hy=>frs8 hy.1,fun z h=>ZiS ok hsc hst hB (hOw.perm.mem_iff.mp (Xai.mpr ⟨z,h,rfl⟩)),fun m a w H9 s9 hmet hm=>?_⟩⟩;have s09:=s08.trans s9;have eL9:=s9 _ _ eL8;have eT9:=s9 _ _ eT8;obtain ⟨av,wv,em,ha,hwt⟩:=hm.two;have LK:LkOk W ord sc st x (zs.map (·.2),ws.map (·.2),ys.map (·.2)) (os.map (·.2)):=⟨hB,hF,hys,hOw⟩
   have hlk:OwD (fun x=>H x=none/\x≠L/\x≠T) H9 (.ref r) (lkD (zs.map (·.2),ws.map (·.2),ys.map (·.2))):=by
    have g1:=frs s04 eL4 eT4 hD;have g2:=frs s05 eL5 eT5 hD2;have g3:=frs s05 eL5 eT5 hP
    have f1:OwDs (fun x=>H x=none/\x≠L/\x≠T) H7 (zs.map fun z=>V.ref z.1) ((zs.map (·.2)).map begE.D):=by
     rw [Xax];exact OwDs.of_all fun z h=>(hz7 z h).own
    have f2:OwDs (fun x=>H x=none/\x≠L/\x≠T) H7 (ws.map fun z=>V.ref z.1) ((ws.map (·.2)).map wayE.D):=by
     rw [Xax];exact OwDs.of_all fun z h=>(hw7 z h).own
    have f3:OwDs (fun x=>H x=none/\x≠L/\x≠T) H7 (ys.map fun z=>V.ref z.1) ((ys.map (·.2)).map wayE.D):=by
     rw [Xax];exact OwDs.of_all fun z h=>(hy7 z h).own
    exact ((OwD.tup er7 (.cons (.lst eD7 g1 f1) (.cons (.lst eD27 g2 f2) (.cons (.lst eP7 g3 f3) .nil)))).same s8).same s9
   have hlv9:OwDs (fun x=>H x=none/\x≠L/\x≠T) H9 (lv++[.ref r]) ((ls++[(zs.map (·.2),ws.map (·.2),ys.map (·.2))]).map lkD):=by
    rw [Xad];exact ((hlv7.same s8).same s9).snoc hlk
   clear hw7 hy7 hz7 hlv7 hlk hw hy hz ho eD eD2 eP er eD7 eD27 eP7 er7 k7;refine ⟨m,_,rfl,SqT.of em,rfl,_,_,rfl,_,_,rfl,rfl,?_⟩
   have fin:((∀ k,a≠some (("thing" : Str),k))\/q.2.2.drop (i+1)=[])->∀ r2,H9 r2=none->Q (.ref r2) (upd H9 r2 (.tup [av,wv,.ref L,.ref T])):=fun hstop r2 hr2=>by
    have s10:=Zak (o:=.tup [av,wv,.ref L,.ref T]) hr2;refine qk r2 L T av wv (lv++[.ref r]) a w _ ts _ (s09.trans s10) upd_same hL (s10 _ _ eL9) (s10 _ _ eT9) ((ha.mono fun _ _ _ h=>h.1).same s10) ((hwt.mono fun _ _ _ h=>h.1).same s10) ((hlv9.mono fun _ _ _ h=>⟨h.1,h.2.1⟩).same s10) ?_
    have:=cont a w [(zs.map (·.2),ws.map (·.2),ys.map (·.2))] [] (by rw [hdr];exact .stop LK hmet hstop)
    rw [XaH] at this;exact this
   cases a with
   | none =>
     obtain rfl:=ha.ansN;exact ⟨_,rfl,_,rfl,ite2 (fun _=>iteT ⟨_,rfl,_,rfl,_,rfl,_,rfl,Ze7,fin (.inl fun k z=>(by cases z))⟩) (fun h=>absurd (Xa5 rfl) h)⟩
   | some p =>
     obtain ⟨pa,rfl,epa⟩:=ha.ansS;refine ⟨_,rfl,_,rfl,ite2 (fun h=>absurd (Xa7 h) (by simp)) (fun _=>?_)⟩;refine ⟨_,rfl,Or.inr (Or.inl ⟨pa,_,_,.str p.1,rfl,rfl,SqT.of epa,rfl,rfl,_,rfl,ite2 (fun h=>?_) (fun h=>?_)⟩)⟩
     . refine iteT ⟨_,rfl,_,rfl,_,rfl,_,rfl,Ze7,fin (.inl fun k z=>?_)⟩
       have:p.1=("thing" : Str):=Xbj Prod.fst (Xbc z)
       rw [this] at h;simp at h
     have hp:p.1=("thing" : Str):=Classical.byContradiction fun z=>h (by
      have:decide (V.str p.1=V.str "thing")=false:=Xa6 fun y=>z (V.str.inj y)
      rw [this];rfl)
     have hmet':metV W ord (ws.map (·.2)) (os.map (·.2)) i=(some (("thing" : Str),p.2),w):=by rw [hmet,<-hp]
     refine ⟨_,rfl,_,rfl,_,_,rfl,Or.inr ⟨_,SqT.of (s09 _ _ eu),rfl⟩,_,_,rfl,rfl,rfl,_,rfl,ite2 (fun h2=>?_) (fun h2=>?_)⟩
     . have e2:(i:Int)=((q.2.2.map V.str).length:Nat) - 1:=V.int.inj (Xa7 h2)
       rw [Xaa] at e2;exact ⟨_,rfl,_,rfl,_,rfl,_,rfl,Ze7,fin (.inr (List.drop_eq_nil_of_le (by omega)))⟩
     have hi2:i+1<q.2.2.length:=by
      refine Classical.byContradiction fun z=>h2 (Xa5 ?_);rw [Xaa];congr 1;omega
     clear fin;have rng:=met_rng ok sm (fun v hv=>by obtain ⟨z,h1,rfl⟩:=Xai.mp hv;exact hwe z h1) hmet';obtain ⟨n,hn⟩:=Xa3 rng.1
     have hnl:n<W.gs.length:=by omega
     have hg:=Xab hnl;have k10:Keeps (·=T) H9 (upd H9 T (.lst (ts.map V.int++[.int p.2]))):=Keeps.one eT9
     have s10:Same H (upd H9 T (.lst (ts.map V.int++[.int p.2]))):=fun b o e=>by rw [Zal (Zad e hT0)];exact s09 _ _ e
     have eT10:(upd H9 T (.lst (ts.map V.int++[.int p.2]))) T=some (.lst ((ts++[p.2]).map V.int)):=by rw [upd_same,Xad];rfl
     refine ⟨_,rfl,Or.inl ⟨rfl,_,SqL.of eT9⟩,_,rfl,Or.inr (Or.inl ⟨pa,_,_,.int p.2,rfl,rfl,SqT.of epa,rfl,T,_,_,rfl,rfl,eT9,by rw [Xaa];exact Zan (by omega),?_⟩)⟩;generalize upd H9 T (.lst (ts.map V.int++[.int p.2]))=H10 at k10 s10 eT10 ⊢;have eL10:=k10.at_ _ _ eL9 nLT;have epa10:=k10.tup epa;have hlv10:=hlv9.keeps k10 fun y hy=>hy.2.2;have hC10:=hC.same s10;refine ⟨_,rfl,_,rfl,_,rfl,Or.inr (Or.inl ⟨pa,_,_,.int p.2,rfl,rfl,SqT.of epa10,rfl,nt,S,Tn,R,A,W.gs,W.as,p.2,n,W.gs[n],rfl,hn,hg,SqT.of (s10 _ _ eN),⟨_,SqL.of (s10 _ _ N3.et),(N3.tg.same s10).dts⟩,hC10.ans,ok.net,fun b H11 hb s11 eb=>?_⟩)⟩;have s011:=s10.trans s11;have eL11:=s11 _ _ eL10;have eT11:=s11 _ _ eT10;have hlv11:=hlv10.same s11
     have ei:insW W p.2=Za3 W.gs W.as W.gs[n]:=by
      show (match W.gs[p.2.toNat]? with | some p=>Za3 W.gs W.as p | none=>("no",0))=_
      rw [hn,Xa4,hg]
     obtain ⟨y2,r2,hdr2⟩:∃ y2 r2,q.2.2.drop (i+1)=y2 :: r2:=⟨_,_,XaL hi2⟩;rw [hdr2] at hdr;refine ⟨b,_,rfl,SqT.of eb,rfl,_,_,rfl,_,_,rfl,rfl,?_⟩;generalize hIV:Za3 W.gs W.as W.gs[n]=iv at *;refine ⟨_,rfl,rfl,_,rfl,ite2 (fun h3=>?_) (fun h3=>?_)⟩
     . have e3:iv.1=("open" : Str):=V.str.inj (Xa7 h3)
       refine ⟨_,rfl,by decide,fun e0 he0=>?_⟩;obtain ⟨H12,qH12,s12,ee0⟩:=new_at (o:=.lst []) he0;rw [<-qH12];refine ⟨_,rfl,ZaV,fun e1 he1=>?_⟩;obtain ⟨H13,qH13,s13,ee1⟩:=new_at (o:=.tup [.int i,.ref e0,.int iv.2]) he1;rw [<-qH13];refine ⟨_,rfl,_,rfl,Ze7,fun r3 hr3=>?_⟩;have s14:=Zak (o:=.tup [.non,.ref e1,.ref L,.ref T]) hr3;have sx:=(s12.trans s13).trans s14;refine qk r3 L T .non (.ref e1) (lv++[.ref r]) none (some ((i:Int),[],iv.2)) _ _ _ (s011.trans sx) upd_same hL (sx _ _ eL11) (sx _ _ eT11) .non (.tup (s14 _ _ ee1) (.cons (.int _) (.cons (.lst ((s13.trans s14) _ _ ee0) (s011.free he0) .nil) (.cons (.int _) .nil)))) ((hlv11.mono fun _ _ _ h=>⟨h.1,h.2.1⟩).same sx) ?_;exact cont none (some ((i:Int),[],iv.2)) [(zs.map (·.2),ws.map (·.2),ys.map (·.2))] [p.2] (by rw [hdr];exact .opn LK hmet' (ei.trans (Prod.ext e3 rfl)))
     have e3:iv.1≠("open" : Str):=fun z=>h3 (Xa5 (by rw [z]))
     refine ⟨_,rfl,rfl,_,rfl,ite2 (fun h4=>?_) (fun h4=>?_)⟩
     . have e4:iv.1=("no" : Str):=V.str.inj (Xa7 h4)
       refine ⟨_,rfl,_,_,rfl,rfl,ZaI,fun e1 he1=>?_⟩
       obtain ⟨H12,qH12,s12,ee1⟩:=new_at (o:=.tup [.str "none",.int ((i:Int)+1)]) he1
       rw [<-qH12];refine ⟨_,rfl,_,rfl,Ze7,fun r3 hr3=>?_⟩;have s14:=Zak (o:=.tup [.ref e1,.non,.ref L,.ref T]) hr3;have sx:=s12.trans s14
       refine qk r3 L T (.ref e1) .non (lv++[.ref r]) (some (("none" : Str),(i:Int)+1)) none _ _ _ (s011.trans sx) upd_same hL (sx _ _ eL11) (sx _ _ eT11) (.tup (s14 _ _ ee1) (.cons (.str _) (.cons (.int _) .nil))) .non ((hlv11.mono fun _ _ _ h=>⟨h.1,h.2.1⟩).same sx) ?_
       exact cont (some (("none" : Str),(i:Int)+1)) none [(zs.map (·.2),ws.map (·.2),ys.map (·.2))] [p.2] (by rw [hdr];exact .no LK hmet' (ei.trans (Prod.ext e4 rfl)))
     have e4:iv.1≠("no" : Str):=fun z=>h4 (Xa5 (by rw [z]))
     have e5:iv.1=("to" : Str):=by
      have:=Zlw W.gs W.as W.gs[n]
      rw [hIV] at this
      rcases this with h | h | h
      . exact h
      . exact absurd h e3
      . exact absurd h e4
     have rg:=Zft ok (Xav hnl) hIV e5;obtain ⟨ta,o,tus,tts,et,_⟩:=TB.ex;refine ⟨_,rfl,?_⟩;refine g_in ?_;try dsimp only
     refine ⟨_,rfl,Or.inr (Or.inl ⟨t,_,_,.int inn,rfl,rfl,SqT.of (s011 _ _ et),rfl,?_⟩)⟩;refine ⟨iv.2,inn,_,_,_,_,_,_,_,lv++[.ref r],ls++[(zs.map (·.2),ws.map (·.2),ys.map (·.2))],ts++[p.2],rfl,s011,eL11,eT11,hlv11,by simp [llv],by simp [lts],hi2,rg,hinn,fun a w ls' ts' z=>?_⟩;rw [XaE,XaE];refine cont a w _ _ ?_;rw [hdr];rw [hdr2] at z;exact .go LK hmet' (ei.trans (Prod.ext e5 rfl)) z
inductive E_trail (K:XFg) (vs:List V) (H:Hp) (Q:VK):Prop where
 | mk (nt A t:Addr) (F:Addr->Prop) (W:Wd) (qs:List Qu) (inn:Int) (ord:List (Str×Str)) (n:Int) (k:Nat) (q:Qu) (h0:vs=[.ref nt,.ref A,.ref t,.int n]) (h1:n=k) (h2:qs[k]?=some q) (h3:LC K F H nt A t W qs inn ord) (h4:LOk W qs inn ord) (h5:∀ (D:Addr) (lv:List V) (a:Option (Str×Int)) (w:Option Wt) (ls:List Lk) (ts:List Int) (H':Hp),H D=none->Same H H'->H' D=some (.lst lv)->OwDs (fun x=>H x=none/\x≠D) H' lv (ls.map Zg1)->LU W inn ord q.1 q.2.1 q.2.2 0 a w ls ts->Q (.ref D) H'):E_trail K vs H Q
def ZlL (K:XFg):Sp:=fun vs H Q _=>E_trail K vs H Q
variable (P w K mg base) in
abbrev Zgq:Prop:=ZaB P w K mg base "trail" 8 ["net", "answers", "table", "question"] (ZlL K)
theorem Zi7 (B:Blt mg) (c_look_up:ZcZ P w K mg base) (F:Fun K "trail" "trail" ZfB f fd) (hm:mg "trail" = some (.ref f)):Zgq P w K mg base:=by
 refine ⟨f,fd,?_,hm,F.kp,F.binds fun _ _ _ _ _ _ us hl=>(by obtain ⟨x0,x1,x2,x3,rfl⟩:=Zdn hl;rfl)⟩;refine F.ok sc_trail (fun vs H Q E h=>?_) (fun cdv A outer s H vs Q E hr h=>?_)
 . obtain ⟨nt,A,t,F,W,qs,inn,ord,n,k,q,rfl,_⟩:=h
   rfl
 . obtain ⟨nt,A,t,F,W,qs,inn,ord,n,k,q,rfl,rfl,hk,hC,ok,qk⟩:=h
   obtain ⟨S,T,R,us,Gs,Es,ts,qt,eN,N3⟩:=hC.net;have hkl:k<qs.length:=(Xae.mp hk).1
   have hkt:k<qt.length:=by rw [N3.tq.len];exact hkl
   have hqt:=Xab hkt;obtain ⟨u,eq,eu⟩:=N3.tq.at_ k _ q hqt hk;have hat:atI (qt.map V.ref) (k:Int)=some (.ref qt[k]):=Zar (by rw [Xag,hqt];rfl);obtain ⟨g1,g2,g3,g4⟩:=ok.q q (Xah hk)
   refine ⟨_,(Zab (Za8 (Zaz c_look_up (hr.mono (by decide)) rfl (Zaa (pv 0) (Zaa (pv 1) (Zaa (pv 2) (Zaa (Zam Zai (Zam Zai (pv 0) Zae (fun _ _=>rfl)) (pv 3) (fun _ _=>rfl)) Zac))))) (ZaF rfl (Zaf (Zag (i:=4) sc_trail.nd rfl (Or.inl rfl)) (Zaf (Zag (i:=5) sc_trail.nd rfl (Or.inl rfl)) (Zaf (Zag (i:=6) sc_trail.nd rfl (Or.inl rfl)) (Zaf (Zag (i:=7) sc_trail.nd rfl (Or.inl rfl)) Zav))))))
    (Zah (Zao (ZcK (g:=gTup K 3 (Zhp (Zd7 0) (Zhp (Zd7 1) (Zhp (Zd7 2) gNil)))) rfl trail_cs1 (ZaM (pv 6)) (fun _ _ _ _ _=>(ZaF rfl (Zaf (Zag (i:=0) trail_cs1.nd rfl (Or.inl rfl)) (Zaf (Zag (i:=1) trail_cs1.nd rfl (Or.inl rfl)) (Zaf (Zag (i:=2) trail_cs1.nd rfl (Or.inl rfl)) Zav))))) (fun _ _ _ _ _=>ZcJ) (fun _ _ _ _ _=>(pv 2)))))),?_⟩
   try dsimp only [cxOf,Cx.nox,Cx.wish]
   refine ⟨_,rfl,_,rfl,_,rfl,_,rfl,Or.inr (Or.inl ⟨nt,_,_,.ref R,rfl,rfl,SqT.of eN,rfl,_,rfl,Or.inl ⟨R,_,_,.ref qt[k],rfl,rfl,SqL.of N3.er,hat,nt,A,t,qt[k],u,F,W,inn,ord,q,rfl,hC.caseH,hC.tab,ok.ok,ok.sm,ok.ol,ok.irr,ok.inn,eq,eu,g1,g2,g3,g4,fun r L T av wv lv a w ls ts H1 s1 er hL eL eT ha hw hlv hlu=>?_⟩⟩)⟩;refine ⟨r,_,rfl,SqT.of er,rfl,_,_,rfl,_,_,rfl,_,_,rfl,_,_,rfl,rfl,?_⟩
   have ll:lv.length<=sizeLine:=by
    have h1:=hlv.length;rw [Xaa] at h1;have h2:=lu_len hlu;exact XaY (Zan (by omega))
   refine ⟨_,rfl,L,rfl,⟨_,SqL.of eL⟩,ZbM (xs:=lv) (fun D i ys H'=>Same H1 H'/\H' D=some (.lst ys)/\OwDs (fun x=>H x=none/\x≠D) H' ys ((ls.take i).map Zg1)/\ys.length=i)
    (fun D hD=>⟨Zak hD,upd_same,.nil,rfl⟩) (fun D i ys H' hv_=>by obtain ⟨s,_⟩:=hv_;exact SqL.of (s _ _ eL)) (fun D i y ys H2 RR hD hy hv k=>?_) (fun D ys H2 hD hv=>?_)⟩
   . obtain ⟨s2,eD,hys,ly⟩:=hv
     have hil:i<lv.length:=(Xae.mp hy).1;obtain ⟨d,hd,hyd⟩:=hlv.get hy;obtain ⟨l,hli,rfl⟩:=getm hd;obtain ⟨tl,x1,x2,x3,rfl,etl,hx3⟩:=(hyd.same s2).look;refine ⟨tl,_,rfl,SqT.of etl,rfl,_,_,rfl,_,_,rfl,_,_,rfl,rfl,?_⟩;have kD:Keeps (·=D) H2 (upd H2 D (.lst (ys++[x3]))):=Keeps.one eD;refine ⟨_,rfl,k _ _ eD ?_ ⟨fun b o e=>?_,upd_same,?_,by rw [Xac,ly];rfl⟩⟩
     . rw [ly];exact Xbf hil ll
     . rw [Zal (Zad e hD)];exact s2 _ _ e
     . rw [Xar,hli,Xad]
       refine (hys.keeps kD fun x hx=>hx.2).snoc ?_;refine (((OwD.mono (F:=fun x=>H x=none/\x≠L) (G:=fun x=>H x=none/\x≠D) (fun b o e h=>⟨h.1,Zad e hD⟩) hyd).same s2).look' etl).keeps kD fun x hx=>hx.2
   obtain ⟨s2,eD,hys,ly⟩:=hv
   have e1:ls.length=lv.length:=by have:=hlv.length;rw [Xaa] at this;omega
   rw [<-e1,Xas] at hys;exact qk D ys a w ls ts H2 (s1.free hD) (s1.trans s2) eD hys hlu
variable {H:Hp}{v:V}
theorem ZkI {ds:List Dt} (h:IsDt K H v (.lst ds)):∃ a vs,v=.ref a/\SqL K H a vs/\IsDts K H vs ds:=by cases h with | lst h t=>exact ⟨_,_,rfl,h,t⟩
theorem ZkJ {ds:List Dt} (h:IsDt K H v (.tup ds)):∃ a vs,v=.ref a/\SqT K H a vs/\IsDts K H vs ds:=by cases h with | tup h t=>exact ⟨_,_,rfl,h,t⟩
def ZbK (K:XFg) (n:Nat):Sp:=fun vs H Q _=>∃ (x y:V) (d:Dt),vs=[x,y]/\IsDt K H x d/\IsDt K H y d/\Dn n d/\∀ H',Same H H'->Q (.bl true) H'
abbrev Zhi (K:XFg):Sp:=ZbK K 8
theorem Zhj (B:Blt mg)  (n:Nat) (c__law_same:ZaB P w K mg base "_law_same" (0+n) ["_law_found", "_law_due"] (ZbK K n)) (F:Fun K "_law_same" "_law_same" ZbN f fd):FnOk P w K mg base CX0 (0+n+1) f fd ["_law_found", "_law_due"] (ZbK K (n+1)):=by
 refine F.ok sc__law_same (fun vs H Q E h=>?_) (fun cdv A outer s H vs Q E hr h=>?_)
 . obtain ⟨x,y,d,rfl,_⟩:=h
   rfl
 . obtain ⟨x,y,d,rfl,hx,hy,hd,q⟩:=h
   refine ⟨_,(Zab (ZaN (ZcH (ZcG (pv 1))) (Zah (Zao (pe_cmp (ZcG (pv 0))))) Zaq)
    (Zab (ZaN (ZbC (Zax ZbF (by rfl) B.b_isinstance (by decide +kernel) (Zaa (pv 1) (Zaa (ZfG "str" rfl B.b_str (by decide +kernel)) Zac)))) (Zah (Zao (ZhT (Zax ZbF (by rfl) B.b_isinstance (by decide +kernel) (Zaa (pv 0) (Zaa (ZfG "str" rfl B.b_str (by decide +kernel)) Zac))) (Zjg (Zb3 Zbq (pv 0) (pv 1) (ZaA _)))))) Zaq)
    (Zab (ZaN (ZbC (Zax ZbF (by rfl) B.b_isinstance (by decide +kernel) (Zaa (pv 1) (Zaa (ZfG "int" rfl B.b_int (by decide +kernel)) Zac)))) (Zah (Zao (ZhT (Zax ZbF (by rfl) B.b_isinstance (by decide +kernel) (Zaa (pv 0) (Zaa (ZfG "int" rfl B.b_int (by decide +kernel)) Zac))) (ZhT (pe_not (Zax ZbF (by rfl) B.b_isinstance (by decide +kernel) (Zaa (pv 0) (Zaa (ZfG "bool" rfl B.b_bool (by decide +kernel)) Zac)))) (Zjg (Zb3 Zbq (pv 0) (pv 1) (ZaA _))))))) Zaq)
    (Zab (ZaN (PW.pt (ZdZ (ZbC (Zax ZbF (by rfl) B.b_isinstance (by decide +kernel) (Zaa (pv 1) (Zaa (ZfG "list" rfl B.b_list (by decide +kernel)) Zac)))) (ZcI (Zd0 (ZbC (Zax ZbF (by rfl) B.b_isinstance (by decide +kernel) (Zaa (pv 0) (Zaa (ZfG "list" rfl B.b_list (by decide +kernel)) Zac)))))))) (Zah (Zao ZdI)) Zaq)
    (Zab (ZaN (PW.pt (ZdZ (ZbC (Zax ZbF (by rfl) B.b_isinstance (by decide +kernel) (Zaa (pv 1) (Zaa (ZfG "tuple" rfl B.b_tuple (by decide +kernel)) Zac)))) (ZcI (Zd0 (ZbC (Zax ZbF (by rfl) B.b_isinstance (by decide +kernel) (Zaa (pv 0) (Zaa (ZfG "tuple" rfl B.b_tuple (by decide +kernel)) Zac)))))))) (Zah (Zao ZdI)) Zaq)
    (Zab (ZaN (Zaw op_ne (Zax Zbm (by rfl) B.b_len (by decide +kernel) (Zaa (pv 0) Zac)) (Zax Zbm (by rfl) B.b_len (by decide +kernel) (Zaa (pv 1) Zac)) (ZaA _)) (Zah (Zao ZdI)) Zaq)
    (Zab (ZaQ Xbr rfl (pi_zipA rfl B.b_zip (Zaa (pv 0) (Zaa (pv 1) Zac))) (ZaF rfl (Zaf (Zag (i:=2) sc__law_same.nd rfl (Or.inl rfl)) (Zaf (Zag (i:=3) sc__law_same.nd rfl (Or.inl rfl)) Zav))) (Zah (ZaN (Zd0 (ZbC (Zaz c__law_same (hr.mono (by omega)) rfl (Zaa (pv 2) (Zaa (pv 3) Zac))))) (Zah (Zao ZdI)) Zaq)))
    (Zah (Zao ZdI))))))))),?_⟩
   try dsimp only [cxOf,Cx.nox,Cx.wish]
   cases d with
   | non =>
     cases hx;cases hy;refine ⟨_,rfl,_,rfl,ite2 (fun _=>⟨_,rfl,?_⟩) (fun h=>absurd (Xa5 rfl) h)⟩;show Q (.bl (decide (V.non=V.non))) H;rw [show decide (V.non=V.non)=true from Xa5 rfl];exact q _ (Same.refl _)
   | bl b=>exact False.elim hd
   | int i =>
     cases hx;cases hy;refine ⟨_,rfl,_,rfl,ite2 (fun h=>absurd (Xa7 h) (by simp)) (fun _=>?_)⟩;refine ⟨_,rfl,_,.str,.int,rfl,.int i,_,rfl,iteF ?_⟩;refine ⟨_,rfl,_,.int,.int,rfl,.int i,_,rfl,iteT ?_⟩;refine ⟨_,rfl,_,.int,.int,rfl,.int i,_,rfl,iteT ⟨_,rfl,_,.bool,.int,rfl,.int i,_,rfl,_,rfl,iteT ⟨_,rfl,_,rfl,rfl,?_⟩⟩⟩;show Q (.bl (decide (V.int i=V.int i))) H;rw [show decide (V.int i=V.int i)=true from Xa5 rfl];exact q _ (Same.refl _)
   | str x =>
     cases hx;cases hy;refine ⟨_,rfl,_,rfl,ite2 (fun h=>absurd (Xa7 h) (by simp)) (fun _=>?_)⟩;refine ⟨_,rfl,_,.str,.str,rfl,.str x,_,rfl,iteT ?_⟩;refine ⟨_,rfl,_,.str,.str,rfl,.str x,_,rfl,iteT ⟨_,rfl,_,rfl,rfl,?_⟩⟩;show Q (.bl (decide (V.str x=V.str x))) H;rw [show decide (V.str x=V.str x)=true from Xa5 rfl];exact q _ (Same.refl _)
   | lst ds =>
     obtain ⟨a,us,rfl,sa,ta⟩:=ZkI hx;obtain ⟨b,ws,rfl,sb,tb⟩:=ZkI hy;have la:=ta.length;have lb:=tb.length;refine ⟨_,rfl,_,rfl,ite2 (fun h=>absurd (Xa7 h) (by simp)) (fun _=>?_)⟩;refine ⟨_,rfl,_,.str,.lst,rfl,.lst sb,_,rfl,iteF ?_⟩;refine ⟨_,rfl,_,.int,.lst,rfl,.lst sb,_,rfl,iteF ?_⟩;refine ⟨_,rfl,_,.lst,.lst,rfl,.lst sb,_,rfl,iteT ⟨_,rfl,_,.lst,.lst,rfl,.lst sa,_,rfl,iteF ?_⟩⟩;refine ⟨_,rfl,_,.tup,.lst,rfl,.lst sb,_,rfl,iteF (iteF ?_)⟩;refine ⟨_,rfl,_,_,rfl,Or.inl ⟨_,sa,rfl⟩,_,rfl,_,_,rfl,Or.inl ⟨_,sb,rfl⟩,rfl,_,rfl,ite2 (fun h=>?_) (fun _=>?_)⟩
     . rw [la,lb] at h
       simp at h
     refine ⟨_,rfl,_,rfl,a,b,rfl,Or.inl ⟨⟨_,sa⟩,⟨_,sb⟩,ZjB (xs:=us) (ys:=ws) (fun i σ H'=>∃ u2 u3,σ=[some (.ref a),some (.ref b),u2,u3]/\Same H H') ⟨none,none,rfl,Same.refl _⟩ (fun i σ H' hv_=>by obtain ⟨_,_,_,s⟩:=hv_;exact ⟨s.seq sa,s.seq sb⟩) ?_ ?_⟩⟩
     . rintro i x y T σ H1 hx hy hT ⟨u2,u3,rfl,s1⟩
       obtain ⟨d1,hd1,t1⟩:=ta.get hx;obtain ⟨d2,hd2,t2⟩:=tb.get hy;have e:d1=d2:=Xbc (hd1.symm.trans hd2);subst e;have s2:=Zak (o:=.tup [x,y]) hT;refine ⟨T,_,rfl,SqT.of upd_same,rfl,_,_,rfl,_,_,rfl,rfl,?_⟩;generalize upd H1 T (.tup [x,y])=H2 at s2 ⊢;have s02:=s1.trans s2;exact ⟨_,rfl,_,rfl,x,y,d1,rfl,t1.same s02,t2.same s02,hd d1 (Xah hd1),fun H3 s3=>⟨_,rfl,iteF ⟨_,_,rfl,s02.trans s3⟩⟩⟩
     . rintro σ H1 ⟨u2,u3,rfl,s1⟩
       exact q _ s1
   | tup ds =>
     obtain ⟨a,us,rfl,sa,ta⟩:=ZkJ hx;obtain ⟨b,ws,rfl,sb,tb⟩:=ZkJ hy;have la:=ta.length;have lb:=tb.length;refine ⟨_,rfl,_,rfl,ite2 (fun h=>absurd (Xa7 h) (by simp)) (fun _=>?_)⟩;refine ⟨_,rfl,_,.str,.tup,rfl,.tup sb,_,rfl,iteF ?_⟩;refine ⟨_,rfl,_,.int,.tup,rfl,.tup sb,_,rfl,iteF ?_⟩;refine ⟨_,rfl,_,.lst,.tup,rfl,.tup sb,_,rfl,iteF (iteF ?_)⟩;refine ⟨_,rfl,_,.tup,.tup,rfl,.tup sb,_,rfl,iteT ⟨_,rfl,_,.tup,.tup,rfl,.tup sa,_,rfl,iteF ?_⟩⟩;refine ⟨_,rfl,_,_,rfl,Or.inr ⟨_,sa,rfl⟩,_,rfl,_,_,rfl,Or.inr ⟨_,sb,rfl⟩,rfl,_,rfl,ite2 (fun h=>?_) (fun _=>?_)⟩
     . rw [la,lb] at h
       simp at h
     refine ⟨_,rfl,_,rfl,a,b,rfl,Or.inr ⟨⟨_,sa⟩,⟨_,sb⟩,Zlq (xs:=us) (ys:=ws) (fun i σ H'=>∃ u2 u3,σ=[some (.ref a),some (.ref b),u2,u3]/\Same H H') ⟨none,none,rfl,Same.refl _⟩ (fun i σ H' hv_=>by obtain ⟨_,_,_,s⟩:=hv_;exact ⟨s.seqT sa,s.seqT sb⟩) ?_ ?_⟩⟩
     . rintro i x y T σ H1 hx hy hT ⟨u2,u3,rfl,s1⟩
       obtain ⟨d1,hd1,t1⟩:=ta.get hx;obtain ⟨d2,hd2,t2⟩:=tb.get hy;have e:d1=d2:=Xbc (hd1.symm.trans hd2);subst e;have s2:=Zak (o:=.tup [x,y]) hT;refine ⟨T,_,rfl,SqT.of upd_same,rfl,_,_,rfl,_,_,rfl,rfl,?_⟩;generalize upd H1 T (.tup [x,y])=H2 at s2 ⊢;have s02:=s1.trans s2;exact ⟨_,rfl,_,rfl,x,y,d1,rfl,t1.same s02,t2.same s02,hd d1 (Xah hd1),fun H3 s3=>⟨_,rfl,iteF ⟨_,_,rfl,s02.trans s3⟩⟩⟩
     . rintro σ H1 ⟨u2,u3,rfl,s1⟩
       exact q _ s1
theorem Ze8 (B:Blt mg) (F:Fun K "_law_same" "_law_same" ZbN f fd) (hm:mg "_law_same" = some (.ref f)) (n:Nat):ZaB P w K mg base "_law_same" (0+n) ["_law_found", "_law_due"] (ZbK K n):=by
 have bi:Binds K fd ["_law_found", "_law_due"] []:=F.binds fun _ _ _ _ _ _ us hl=>(by obtain ⟨x0,x1,rfl⟩:=ZeN hl;rfl)
 induction n with
 | zero=>exact ⟨f,fd,⟨fun vs H Q E h=>(by obtain ⟨_,_,_,_,_,_,h,_⟩:=h;exact False.elim h),fun A outer s H args us vs Q E _ _ _ _ h=>(by obtain ⟨_,_,_,_,_,_,h,_⟩:=h;exact False.elim h)⟩,hm,F.kp,bi⟩
 | succ n ih=>exact ⟨f,fd,Zhj B  n ih F,hm,F.kp,bi⟩
variable (P w K mg base) in
abbrev Zcr:Prop:=ZaB P w K mg base "_law_same" 8 ["_law_found", "_law_due"] (Zhi K)
theorem Zfi (B:Blt mg) (F:Fun K "_law_same" "_law_same" ZbN f fd) (hm:mg "_law_same" = some (.ref f)):Zcr P w K mg base :=
 Ze8 B  F hm 8
inductive E_find (K:XFg) (vs:List V) (H:Hp) (Q:VK):Prop where
 | mk (nt A t:Addr) (F:Addr->Prop) (W:Wd) (qs:List Qu) (inn:Int) (ord:List (Str×Str)) (n:Int) (k:Nat) (q:Qu) (h0:vs=[.ref nt,.ref A,.ref t,.int n]) (h1:n=k) (h2:qs[k]?=some q) (h3:LC K F H nt A t W qs inn ord) (h4:LOk W qs inn ord) (h5:∀ (v:V) (a:Option (Str×Int)) (w:Option Wt) (ls:List Lk) (ts:List Int) (H':Hp),Same H H'->OwD (fun x=>H x=none) H' v (.tup [ansD a,Zj9 w])->LU W inn ord q.1 q.2.1 q.2.2 0 a w ls ts->Q v H'):E_find K vs H Q
def sp_find (K:XFg):Sp:=fun vs H Q _=>E_find K vs H Q
variable (P w K mg base) in
abbrev Ziz:Prop:=ZaB P w K mg base "find" 8 ["net", "answers", "table", "question"] (sp_find K)
theorem ZkK (B:Blt mg) (c_look_up:ZcZ P w K mg base) (F:Fun K "find" "find" Zi9 f fd) (hm:mg "find" = some (.ref f)):Ziz P w K mg base:=by
 refine ⟨f,fd,?_,hm,F.kp,F.binds fun _ _ _ _ _ _ us hl=>(by obtain ⟨x0,x1,x2,x3,rfl⟩:=Zdn hl;rfl)⟩;refine F.ok sc_find (fun vs H Q E h=>?_) (fun cdv A outer s H vs Q E hr h=>?_)
 . obtain ⟨nt,A,t,F,W,qs,inn,ord,n,k,q,rfl,_⟩:=h
   rfl
 . obtain ⟨nt,A,t,F,W,qs,inn,ord,n,k,q,rfl,rfl,hk,hC,ok,qk⟩:=h
   obtain ⟨S,T,R,us,Gs,Es,ts,qt,eN,N3⟩:=hC.net;have hkl:k<qs.length:=(Xae.mp hk).1
   have hkt:k<qt.length:=by rw [N3.tq.len];exact hkl
   have hqt:=Xab hkt;obtain ⟨u,eq,eu⟩:=N3.tq.at_ k _ q hqt hk;have hat:atI (qt.map V.ref) (k:Int)=some (.ref qt[k]):=Zar (by rw [Xag,hqt];rfl);obtain ⟨g1,g2,g3,g4⟩:=ok.q q (Xah hk)
   refine ⟨_,(Zab (Za8 (Zaz c_look_up (hr.mono (by decide)) rfl (Zaa (pv 0) (Zaa (pv 1) (Zaa (pv 2) (Zaa (Zam Zai (Zam Zai (pv 0) Zae (fun _ _=>rfl)) (pv 3) (fun _ _=>rfl)) Zac))))) (ZaF rfl (Zaf (Zag (i:=4) sc_find.nd rfl (Or.inl rfl)) (Zaf (Zag (i:=5) sc_find.nd rfl (Or.inl rfl)) (Zaf (Zag (i:=6) sc_find.nd rfl (Or.inl rfl)) (Zaf (Zag (i:=7) sc_find.nd rfl (Or.inl rfl)) Zav))))))
    (Zah (Zao (Zat (Zaa (pv 4) (Zaa (pv 5) Zac)))))),?_⟩
   try dsimp only [cxOf,Cx.nox,Cx.wish]
   refine ⟨_,rfl,_,rfl,_,rfl,_,rfl,Or.inr (Or.inl ⟨nt,_,_,.ref R,rfl,rfl,SqT.of eN,rfl,_,rfl,Or.inl ⟨R,_,_,.ref qt[k],rfl,rfl,SqL.of N3.er,hat,nt,A,t,qt[k],u,F,W,inn,ord,q,rfl,hC.caseH,hC.tab,ok.ok,ok.sm,ok.ol,ok.irr,ok.inn,eq,eu,g1,g2,g3,g4,fun r L T av wv lv a w ls ts H1 s1 er hL eL eT ha hw hlv hlu=>?_⟩⟩)⟩;refine ⟨r,_,rfl,SqT.of er,rfl,_,_,rfl,_,_,rfl,_,_,rfl,_,_,rfl,rfl,?_⟩;refine ⟨_,rfl,_,rfl,ZaI,fun p hp=>?_⟩;have s2:=Zak (o:=.tup [av,wv]) hp;exact qk _ a w ls ts _ (s1.trans s2) (.tup upd_same (.cons (ha.same s2) (.cons (hw.same s2) .nil))) hlu
def ansR:List Int->Str×Int
 | []=>("none",0)
 | x :: r=>if ∀ y∈x :: r,y=x then ("thing",x) else ("torn",0)
theorem count_int {l:List Int}{x:Int}:(decide ((((l.map Dt.int).countP fun e=>dec (e=Dt.int x):Nat):Int)<(l.length:Nat)))=false↔∀ y∈l,y=x:=by
 have h1:=List.countP_le_length (p:=fun e=>dec (e=Dt.int x)) (l:=l.map Dt.int);rw [Xaa] at h1;rw [decide_eq_false_iff_not]
 constructor
 . intro h y hy
   have h2:(l.map Dt.int).countP (fun e=>dec (e=Dt.int x))=(l.map Dt.int).length:=by rw [Xaa];omega
   exact Dt.int.inj (dec_iff.mp (List.countP_eq_length.mp h2 _ (Xai.mpr ⟨y,hy,rfl⟩)))
 . intro h
   have h2:(l.map Dt.int).countP (fun e=>dec (e=Dt.int x))=(l.map Dt.int).length:=List.countP_eq_length.mpr fun e he=>by
    obtain ⟨y,hy,rfl⟩:=Xai.mp he;exact ZaC (by rw [h y hy])
   rw [Xaa] at h2;omega
theorem Zgr {K:XFg}{H:Hp}:∀ l:List Int,IsDts K H (l.map V.int) (l.map Dt.int)
 | []=>.nil
 | x :: l=>.cons (.int x) (Zgr l)
abbrev thgW (ss:List Sco) (w:List Mrk):Int:=(ZbT ss w).2.2.2
inductive E__law_answer (K:XFg) (vs:List V) (H:Hp) (Q:VK):Prop where
 | mk (nt S T R D:Addr) (us Gs Es:List Addr) (ss:List Sco) (G:Addr->Prop) (zs:List (Addr×List Mrk)) (h0:vs=[.ref nt,.ref D]) (h1:H nt=some (.tup [.ref S,.ref T,.ref R])) (h2:Scs H S us Gs Es ss) (h3:H D=some (.lst (zs.map fun z=>V.ref z.1))) (h4:(∀ z∈zs,WyH G H z.1 z.2)) (h5:(∀ z∈zs,EndT ss z.2)) (h6:zs.length<=62) (h7:∀ (p:Addr) (H':Hp),Same H H'->H' p=some (.tup [.str (ansR ((zs.map (·.2)).map (thgW ss))).1,.int (ansR ((zs.map (·.2)).map (thgW ss))).2])->Q (.ref p) H'):E__law_answer K vs H Q
def Zfj (K:XFg):Sp:=fun vs H Q _=>E__law_answer K vs H Q
variable (P w K mg base) in
abbrev ZbL:Prop:=ZaB P w K mg base "_law_answer" 1 ["_law_net", "_law_shown"] (Zfj K)
theorem Zed (B:Blt mg) (F:Fun K "_law_answer" "_law_answer" ZbE f fd) (hm:mg "_law_answer" = some (.ref f)):ZbL P w K mg base:=by
 refine ⟨f,fd,?_,hm,F.kp,F.binds fun _ _ _ _ _ _ us hl=>(by obtain ⟨x0,x1,rfl⟩:=ZeN hl;rfl)⟩;refine F.ok sc__law_answer (fun vs H Q E h=>?_) (fun cdv A outer s H vs Q E hr h=>?_)
 . obtain ⟨nt,S,T,R,D,us,Gs,Es,ss,G,zs,rfl,_⟩:=h
   rfl
 . obtain ⟨nt,S,T,R,D,us,Gs,Es,ss,G,zs,rfl,eN,SC,eD,hz,ez,lz,q⟩:=h
   refine ⟨_,(Zab (Zdi (i:=2) sc__law_answer.nd rfl (Or.inl rfl) (te:=tOp (rIx K) (tOp (rIx K) (tOp (rIx K) (tOp (rIx K) (tOp (rIx K) (tVar 1) (tC (.int 0))) (tOp (rIx K) (tOp (rIx K) (tVar 0) (tUn (rU fun i=>.int (-i)) (tC (.int 1)))) (tC (.int 0)))) (tC (.int 1))) (tOp (rIx K) (tOp (rIx K) (tVar 0) (tUn (rU fun i=>.int (-i)) (tC (.int 1)))) (tC (.int 2)))) (tC (.int 3))) rfl _law_answer_cs1 (ZaM (pv 1)) (fun _ _ _ _ _=>(Zag (i:=0) _law_answer_cs1.nd rfl (Or.inl rfl))) (fun _ _ _ _ _=>ZcJ) (fun _ _ _ _ _=>(Zam Zai (Zam Zai (Zam Zai (Zam Zai (Zam Zai (pv 1) Zae (fun _ _=>rfl)) (Zam Zai (Zam Zai (pv 0) (Zhq Zep Zae) (fun _ _=>rfl)) Zae (fun _ _=>rfl)) (fun _ _=>rfl)) Zae (fun _ _=>rfl)) (Zam Zai (Zam Zai (pv 0) (Zhq Zep Zae) (fun _ _=>rfl)) Zae (fun _ _=>rfl)) (fun _ _=>rfl)) Zae (fun _ _=>rfl))))
    (Zab (ZaN (Zaw (ZjG hr.units) (pv 2) (ZaJ Zac) (ZaA _)) (Zah (Zao (Zat (Zaa ZaE (Zaa Zae Zac))))) Zaq)
    (Zab (ZaN (Zaw ZiE (Zb4 Xa8 PySem.F.slot_list_count PySem.F.type_list_count (Zj2 hr.units) (pv 2) (Zaa (Zam Zai (pv 2) Zae (fun _ _=>rfl)) Zac)) (Zax Zbm (by rfl) B.b_len (by decide +kernel) (Zaa (pv 2) Zac)) (ZaA _)) (Zah (Zao (Zat (Zaa ZaE (Zaa Zae Zac))))) Zaq)
    (Zah (Zao (Zat (Zaa ZaE (Zaa (Zam Zai (pv 2) Zae (fun _ _=>rfl)) Zac)))))))),?_⟩
   try dsimp only [cxOf,Cx.nox,Cx.wish]
   refine ⟨_,rfl,D,rfl,⟨_,SqL.of eD⟩,ZbM (xs:=zs.map fun z=>V.ref z.1) (fun M i ys H'=>Same H H'/\H' M=some (.lst ys)/\ys=(((zs.map (·.2)).map (thgW ss)).take i).map V.int)
    (fun M hM=>⟨Zak hM,upd_same,rfl⟩) (fun M i ys H' hv_=>by obtain ⟨s,_⟩:=hv_;exact SqL.of (s _ _ eD)) (fun M i y ys H2 RR hM hy hv k=>?_) (fun M ys H2 hM hv=>?_)⟩
   . obtain ⟨s2,eM,rfl⟩:=hv
     obtain ⟨z,hzi,rfl⟩:=getm hy;have mz:=Xah hzi;obtain ⟨v0,m0,ev,⟨n,j,s',h1,h2,hs',hq⟩,mt⟩:=ez z mz;have hw:=(hz z mz).same s2;rw [ev] at hw;obtain ⟨ms,tm,el,eat,etm⟩:=Zf4 hw;have hnl:n<ss.length:=(Xae.mp hs').1;obtain ⟨u,G1,E1,g1,g2,g3,g4,⟨c0,_,⟨tE,c1,c2⟩⟩⟩:=SC.get hnl;rw [hs'] at g4;have es:=Xbc g4;rw [<-es] at c2
     have hj:j<s'.2.length:=by
      rcases hq with ⟨e,_⟩ | ⟨_,hk⟩
      . exact absurd (mt.symm.trans e) Zce
      . exact hk
     have htE:j<tE.length:=by rw [c2.len];exact hj
     have etE:=Xab htE;have ep:=c2.at_ j _ _ etE (Xab hj);generalize tE[j]=tp at etE ep
     have hat1:atI (us.map V.ref) m0.1=some (.ref u):=by rw [h1];exact Zar (by rw [Xag,g1];rfl)
     have hat2:atI (tE.map V.ref) m0.2.2=some (.ref tp):=by rw [h2];exact Zar (by rw [Xag,etE];rfl)
     have et:thgW ss z.2=s'.2[j].2.2.2:=by
      unfold thgW;rw [ev,Zcf,Zf1 h1 h2 hs' (Xab hj)]
     refine ⟨_,rfl,Or.inr (Or.inl ⟨nt,_,_,.ref S,rfl,rfl,SqT.of (s2 _ _ eN),rfl,_,rfl,_,rfl,Or.inl ⟨z.1,_,_,.ref tm,rfl,rfl,SqL.of el,eat,Or.inr (Or.inl ⟨tm,_,_,.int m0.1,rfl,rfl,SqT.of etm,rfl,Or.inl ⟨S,_,_,.ref u,rfl,rfl,SqL.of (s2 _ _ SC.top),hat1,Or.inr (Or.inl ⟨u,_,_,.ref E1,rfl,rfl,SqT.of (s2 _ _ c0),rfl,_,rfl,_,rfl,Or.inl ⟨z.1,_,_,.ref tm,rfl,rfl,SqL.of el,eat,Or.inr (Or.inl ⟨tm,_,_,.int m0.2.2,rfl,rfl,SqT.of etm,rfl,Or.inl ⟨E1,_,_,.ref tp,rfl,rfl,SqL.of (s2 _ _ c1),hat2,Or.inr (Or.inl ⟨tp,_,_,.int s'.2[j].2.2.2,rfl,rfl,SqT.of (s2 _ _ ep),rfl,?_⟩)⟩⟩)⟩⟩)⟩⟩)⟩⟩)⟩;refine k _ _ eM ?_ ⟨fun b o e=>?_,upd_same,?_⟩
     . rw [Xaa,Xaw,Xaa,Xaa];exact Zan (by omega)
     . rw [Zal (Zad e hM)];exact s2 _ _ e
     . rw [Xar,Xag,Xag,hzi,Xad,<-et];rfl
   obtain ⟨s2,eM,rfl⟩:=hv;rw [Xaa,<-Xaa (f:=(·.2)) (as:=zs),<-Xaa (f:=thgW ss) (as:=zs.map (·.2)),Xas] at eM
   have ll:((zs.map (·.2)).map (thgW ss)).length<=62:=by rw [Xaa,Xaa];exact lz
   generalize (zs.map (·.2)).map (thgW ss)=l at eM q ll;try dsimp only
   refine ⟨_,rfl,Xa0 _,fun nl hnl=>?_⟩;obtain ⟨H3,qH3,s3,enl⟩:=new_at (o:=.lst []) hnl;rw [<-qH3];have s03:=s2.trans s3;have eM3:=s3 _ _ eM;refine ⟨3,.lst (l.map Dt.int),.lst [],.lst (.nil' _),by decide,.lst (SqL.of eM3) (Zgr l),.lst (SqL.of enl) .nil,_,rfl,?_⟩
   cases l with
   | nil =>
     rw [show dec (Dt.lst (List.map Dt.int [])=Dt.lst [])=true from ZaC rfl];exact iteT ⟨ZaI,fun p hp=>q p _ (s03.trans (Zak hp)) upd_same⟩
   | cons x r =>
   rw [ZaL (by intro z;cases z)];refine iteF ⟨_,rfl,Or.inl ⟨rfl,_,SqL.of eM3⟩,_,rfl,Or.inl ⟨M,_,_,.int x,rfl,rfl,SqL.of eM3,Zar (j:=0) rfl,2,.int x,_,M,_,.int x,rfl,rfl,SqL.of eM3,Zgr _,.int x,fun e he=>?_,by decide,_,rfl,_,_,rfl,Or.inl ⟨_,SqL.of eM3,rfl⟩,_,_,rfl,rfl,_,rfl,?_⟩⟩
   . obtain ⟨y,_,rfl⟩:=Xai.mp he
     exact .int _ _
   rw [Xaa];refine ite2 (fun c2=>?_) (fun c2=>?_)
   . refine ⟨ZaI,fun p hp=>q p _ (s03.trans (Zak hp)) ?_⟩
     have hn:¬∀ y∈x :: r,y=x:=fun h=>by
      rw [count_int.mpr h] at c2;cases c2
     rw [show ansR (x :: r)=(("torn" : Str),(0:Int)) from Xbd hn]
     exact upd_same
   . refine ⟨_,rfl,Or.inl ⟨M,_,_,.int x,rfl,rfl,SqL.of eM3,Zar (j:=0) rfl,ZaI,fun p hp=>q p _ (s03.trans (Zak hp)) ?_⟩⟩
     rw [show ansR (x :: r)=(("thing" : Str),x) from Xbe (count_int.mp (Bool.eq_false_iff.mpr c2))]
     exact upd_same
def orB (n:Int) (b:Beg):Int:=Builtin.bitOr n (1 * 2 ^ b.2.1.toNat)
def orL (n:Int) (l:Lk):Int:=l.1.foldl orB n
theorem own_lk {F:Addr->Prop}{l:Lk} (h:OwD F H v (lkD l)):∃ t x y z,v=.ref t/\H t=some (.tup [x,y,z])/\OwD F H x (.lst (l.1.map begE.D)):=by
 cases h with
 | tup h t =>
   cases t with
   | cons a t =>
     cases t with
     | cons b t =>
       cases t with
       | cons c t =>
         cases t with
         | nil=>exact ⟨_,_,_,_,rfl,h,a⟩
theorem own_beg {F:Addr->Prop}(h:OwD F H v (begE.D b)):∃ t m,v=.ref t/\H t=some (.tup [m,.int b.2.1,.int b.2.2]):=by
 have h':OwD F H v (.tup [.lst (b.1.map mkD),.int b.2.1,.int b.2.2]):=h
 cases h' with
 | tup h t =>
   cases t with
   | cons a t =>
     cases t with
     | cons b t =>
       cases b
       cases t with
       | cons c t =>
         cases c
         cases t with
         | nil=>exact ⟨_,_,rfl,h⟩
inductive E_scopes_of (K:XFg) (vs:List V) (H:Hp) (Q:VK):Prop where
 | mk (D:Addr) (F:Addr->Prop) (vs':List V) (ls:List Lk) (h0:vs=[.ref D]) (h1:H D=some (.lst vs')) (h2:OwDs F H vs' (ls.map lkD)) (h3:(∀ l∈ls,∀ b∈l.1,0<=b.2.1/\b.2.1<100)) (h4:Q (.int (ls.foldl orL 0)) H):E_scopes_of K vs H Q
def Zhk (K:XFg):Sp:=fun vs H Q _=>E_scopes_of K vs H Q
variable (P w K mg base) in
abbrev Zdt:Prop:=ZaB P w K mg base "scopes_of" 1 ["looks"] (Zhk K)
theorem Zfk (B:Blt mg) (F:Fun K "scopes_of" "scopes_of" Zdg f fd) (hm:mg "scopes_of" = some (.ref f)):Zdt P w K mg base:=by
 refine ⟨f,fd,?_,hm,F.kp,F.binds fun _ _ _ _ _ _ us hl=>(by obtain ⟨x0,rfl⟩:=ZiX hl;rfl)⟩;refine F.ok sc_scopes_of (fun vs H Q E h=>?_) (fun cdv A outer s H vs Q E hr h=>?_)
 . obtain ⟨D,F,vs',ls,rfl,_⟩:=h
   rfl
 . obtain ⟨D,F',vs',ls,rfl,eD,hls,hrg,q⟩:=h
   have lls:vs'.length=ls.length:=by rw [hls.length,Xaa]
   refine ⟨_,(Zab (Zap (i:=1) sc_scopes_of.nd rfl (Or.inl rfl) Zae)
    (Zab (ZaQ Xbr rfl (ZaM (pv 0)) (ZaF rfl (Zaf (Zag (i:=2) sc_scopes_of.nd rfl (Or.inl rfl)) (Zaf (Zag (i:=3) sc_scopes_of.nd rfl (Or.inl rfl)) (Zaf (Zag (i:=4) sc_scopes_of.nd rfl (Or.inl rfl)) Zav)))) (Zah (ZaQ Xbr rfl (ZaM (pv 2)) (ZaF rfl (Zaf (Zag (i:=5) sc_scopes_of.nd rfl (Or.inl rfl)) (Zaf (Zag (i:=6) sc_scopes_of.nd rfl (Or.inl rfl)) (Zaf (Zag (i:=7) sc_scopes_of.nd rfl (Or.inl rfl)) Zav)))) (Zah (Zap (i:=1) sc_scopes_of.nd rfl (Or.inl rfl) (Zau op_or (pv 1) (Zau op_shl Zae (pv 6))))))))
    (Zah (Zao (pv 1))))),?_⟩
   try dsimp only [cxOf,Cx.nox,Cx.wish]
   refine ⟨_,rfl,D,rfl,⟨_,SqL.of eD⟩,Za2 (xs:=vs') (fun i σ H'=>∃ u2 u3 u4 u5 u6 u7:Option V,σ=[some (.ref D),some (.int ((ls.take i).foldl orL 0)),u2,u3,u4,u5,u6,u7]/\H'=H) ⟨none,none,none,none,none,none,rfl,rfl⟩ (fun i σ H' _ hv_=>by obtain ⟨_,_,_,_,_,_,_,e⟩:=hv_;exact by rw [e];exact SqL.of eD) ?_ ?_⟩;rotate_left
   . rintro σ H' ⟨u2,u3,u4,u5,u6,u7,rfl,rfl⟩
     rw [lls,Xas];exact ⟨_,rfl,q⟩
   rintro i y σ H' hy ⟨u2,u3,u4,u5,u6,u7,rfl,rfl⟩;obtain ⟨d,hd,hyd⟩:=hls.get hy;obtain ⟨l,hli,rfl⟩:=getm hd;obtain ⟨t,x,y',z,rfl,et,hx⟩:=own_lk hyd;obtain ⟨bl,bv,rfl,ebl,_,hbv⟩:=Zkj hx
   have lbv:bv.length=l.1.length:=by rw [hbv.length,Xaa]
   have hrl:=hrg l (Xah hli)
   have etk:(ls.take (i+1)).foldl orL 0=l.1.foldl orB ((ls.take i).foldl orL 0):=by rw [Xar,hli,XaT];rfl
   rw [etk];generalize (ls.take i).foldl orL 0=n0;refine ⟨t,_,rfl,SqT.of et,rfl,_,_,rfl,_,_,rfl,_,_,rfl,rfl,?_⟩;refine ⟨_,rfl,bl,rfl,⟨_,SqL.of ebl⟩,Za2 (xs:=bv) (fun j σ H2=>∃ u5 u6 u7:Option V,σ=[some (.ref D),some (.int ((l.1.take j).foldl orB n0)),some (.ref bl),some y',some z,u5,u6,u7]/\H2=H') ⟨u5,u6,u7,rfl,rfl⟩ (fun j σ H2 _ hv_=>by obtain ⟨_,_,_,_,e⟩:=hv_;exact by rw [e];exact SqL.of ebl) ?_ ?_⟩;rotate_left
   . rintro σ H2 ⟨v5,v6,v7,rfl,rfl⟩
     rw [lbv,Xas];exact ⟨_,_,_,_,_,_,rfl,rfl⟩
   rintro j w σ H2 hw ⟨v5,v6,v7,rfl,rfl⟩;obtain ⟨d,hd,hwd⟩:=hbv.get hw;obtain ⟨b,hbj,rfl⟩:=getm hd;obtain ⟨tb,m,rfl,etb⟩:=own_beg hwd;have hb:=hrl b (Xah hbj)
   have etj:(l.1.take (j+1)).foldl orB n0=orB ((l.1.take j).foldl orB n0) b:=by rw [Xar,hbj,XaT];rfl
   rw [etj];refine ⟨tb,_,rfl,SqT.of etb,rfl,_,_,rfl,_,_,rfl,_,_,rfl,rfl,?_⟩;refine ⟨_,rfl,_,rfl,_,_,rfl,rfl,⟨hb.1,by omega,by decide⟩,_,_,rfl,rfl,?_⟩;refine g_in ?_;try dsimp only
   exact ⟨_,_,_,rfl,rfl⟩
inductive E_walked (K:XFg) (vs:List V) (H:Hp) (Q:VK):Prop where
 | mk (nt A t:Addr) (F:Addr->Prop) (W:Wd) (qs:List Qu) (inn:Int) (ord:List (Str×Str)) (n:Int) (k:Nat) (q:Qu) (h0:vs=[.ref nt,.ref A,.ref t,.int n]) (h1:n=k) (h2:qs[k]?=some q) (h3:LC K F H nt A t W qs inn ord) (h4:LOk W qs inn ord) (h5:q.2.2.length=1) (h6:∀ (a:Option (Str×Int)) (w:Option Wt) (ls:List Lk) (ts:List Int) (H':Hp),Same H H'->LU W inn ord q.1 q.2.1 q.2.2 0 a w ls ts->Q (.int (ls.foldl orL 0)) H'):E_walked K vs H Q
def ZkL (K:XFg):Sp:=fun vs H Q _=>E_walked K vs H Q
variable (P w K mg base) in
abbrev Zek:Prop:=ZaB P w K mg base "walked" 8 ["net", "answers", "table", "question"] (ZkL K)
theorem ZhQ (B:Blt mg) (c_look_up:ZcZ P w K mg base) (c_scopes_of:Zdt P w K mg base) (F:Fun K "walked" "walked" ZfC f fd) (hm:mg "walked" = some (.ref f)):Zek P w K mg base:=by
 refine ⟨f,fd,?_,hm,F.kp,F.binds fun _ _ _ _ _ _ us hl=>(by obtain ⟨x0,x1,x2,x3,rfl⟩:=Zdn hl;rfl)⟩;refine F.ok sc_walked (fun vs H Q E h=>?_) (fun cdv A outer s H vs Q E hr h=>?_)
 . obtain ⟨nt,A,t,F,W,qs,inn,ord,n,k,q,rfl,_⟩:=h
   rfl
 . obtain ⟨nt,A,t,F,W,qs,inn,ord,n,k,q,rfl,rfl,hk,hC,ok,l1,qk⟩:=h
   obtain ⟨S,T,R,us,Gs,Es,ts,qt,eN,N3⟩:=hC.net;have hkl:k<qs.length:=(Xae.mp hk).1
   have hkt:k<qt.length:=by rw [N3.tq.len];exact hkl
   have hqt:=Xab hkt;obtain ⟨u,eq,eu⟩:=N3.tq.at_ k _ q hqt hk;have hat:atI (qt.map V.ref) (k:Int)=some (.ref qt[k]):=Zar (by rw [Xag,hqt];rfl);obtain ⟨g1,g2,g3,g4⟩:=ok.q q (Xah hk)
   refine ⟨_,(Zab (Za8 (Zaz c_look_up (hr.mono (by decide)) rfl (Zaa (pv 0) (Zaa (pv 1) (Zaa (pv 2) (Zaa (Zam Zai (Zam Zai (pv 0) Zae (fun _ _=>rfl)) (pv 3) (fun _ _=>rfl)) Zac))))) (ZaF rfl (Zaf (Zag (i:=4) sc_walked.nd rfl (Or.inl rfl)) (Zaf (Zag (i:=5) sc_walked.nd rfl (Or.inl rfl)) (Zaf (Zag (i:=6) sc_walked.nd rfl (Or.inl rfl)) (Zaf (Zag (i:=7) sc_walked.nd rfl (Or.inl rfl)) Zav))))))
    (Zah (Zao (Zaz c_scopes_of (hr.mono (by decide)) rfl (Zaa (pv 6) Zac))))),?_⟩
   try dsimp only [cxOf,Cx.nox,Cx.wish]
   refine ⟨_,rfl,_,rfl,_,rfl,_,rfl,Or.inr (Or.inl ⟨nt,_,_,.ref R,rfl,rfl,SqT.of eN,rfl,_,rfl,Or.inl ⟨R,_,_,.ref qt[k],rfl,rfl,SqL.of N3.er,hat,nt,A,t,qt[k],u,F,W,inn,ord,q,rfl,hC.caseH,hC.tab,ok.ok,ok.sm,ok.ol,ok.irr,ok.inn,eq,eu,g1,g2,g3,g4,fun r L T av wv lv a w ls ts H1 s1 er hL eL eT ha hw hlv hlu=>?_⟩⟩)⟩;refine ⟨r,_,rfl,SqT.of er,rfl,_,_,rfl,_,_,rfl,_,_,rfl,_,_,rfl,rfl,?_⟩;try dsimp only
   have hb:∀ l∈ls,∀ b∈l.1,0<=b.2.1/\b.2.1<100:=by
    have s5:=ok.ok.s5
    obtain ⟨x,hx⟩:∃ x,q.2.2=[x]:=by
     generalize q.2.2=p at l1
     cases p with
     | nil=>cases l1
     | cons x p =>
       cases p with
       | nil=>exact ⟨x,rfl⟩
       | cons y p=>simp at l1
    have hlu':=hlu;rw [hx] at hlu'
    cases hlu' with
    | stop h e n =>
      intro l hl b hb;rw [Xaj.mp hl] at hb
      have:=(((h.b.mem b).mp hb).ok ok.ok g1 g2).rng b.2.1 (by unfold been;simp)
      omega
   refine ⟨_,rfl,L,_,lv,ls,rfl,eL,hlv,hb,qk a w ls ts H1 s1 hlu⟩
variable {st:Int}
theorem ZlM {at_:Int} {a:Option (Str×Int)} {w:Option Wt} {ls:List Lk} {ts:List Int} (h:LU W inn ord sc st [x] at_ a w ls ts):∃ l os,ls=[l]/\LkOk W ord sc st x l os/\metV W ord l.2.1 os at_=(a,w):=by
 cases h with
 | stop h e n=>exact ⟨_,_,rfl,h,e⟩
theorem fnd_eq {bs l:List Beg}{ws ms:List (List Mrk)} (h:Fnd W x bs ws) (k:Fnd W x l ms) (p:bs.Perm l):ws=ms:=Zck (O:=wayE.O) (h.perm.trans ((p.flatMap_right _).trans k.perm.symm)) h.srt k.srt
theorem owed_to (to:∀ s∈W.ss,∀ p∈s.1,p.2.1=("to" : Str)) (bs:List Beg):Zcd W bs=[]:=by
 refine List.eq_nil_iff_forall_not_mem.mpr fun o ho=>?_;obtain ⟨b,_,j,p,a,g1,_,g3,_⟩:=Zig ho;obtain ⟨s,hs,hp⟩:=Zex (Xah g1);rw [Zc3 (to s hs p hp)] at g3
 exact absurd (show ("to" : Str)=("open" : Str) from g3) (by decide +kernel)
theorem Zfz (tl:∀ s∈ss,∀ p∈s.2,p.2.2.1=("thing" : Str)) {w:List Mrk} (h:EndT ss w):(ZbT ss w).2.2.1=("thing" : Str):=by
 obtain ⟨v,m,rfl,⟨n,k,s,h1,h2,hs,hq⟩,ht⟩:=h
 rcases hq with ⟨e,_⟩ | ⟨_,hk⟩
 . exact absurd (ht.symm.trans e) Zce
 . rw [Zcf,Zf1 h1 h2 hs (Xab hk)]
   exact tl s (Xah hs) _ (Xav hk)
theorem ZkM {l:Lk} {os:List Ow} (to:∀ s∈W.ss,∀ p∈s.1,p.2.1=("to" : Str)) (tl:∀ s∈W.ss,∀ p∈s.2,p.2.2.1=("thing" : Str)) (he:∀ w∈l.2.1,EndT W.ss w) (hl:LkOk W ord sc st x l os):metV W ord l.2.1 os 0=(some (ansR (l.2.2.map (thgW W.ss))),none):=by
 have eo:os=[]:=by
  have:=hl.o.perm
  rw [owed_to to] at this;exact List.Perm.eq_nil this
 have hm:∀ w∈l.2.1,ZaS W w=some (thgW W.ss w):=fun w hw=>by
  unfold ZaS;rw [Xbe (Zfz tl (he w hw))]
 have hs:∀ w∈Zbj W.ss ord l.2.1 l.2.1,ZaS W w=some (thgW W.ss w):=fun w hw=>hm w (Zeg hw)
 have hw:Zd9 W ord l.2.1 os=none:=by
  refine Zkk (by rw [eo];rfl) (Zip fun w hw=>?_);unfold Zf2;refine Xbd fun c=>?_;rw [Zfz tl (he w (Zeg hw))] at c;exact absurd c.1 (by decide +kernel)
 rw [Zf3 hw,hl.s];generalize Zbj W.ss ord l.2.1 l.2.1=seen at hs;congr 1;congr 1
 cases seen with
 | nil=>exact Zim fun w hw=>by cases hw
 | cons w r =>
   have hw:=hs w Xal
   have c:¬∀ v∈w :: r,ZaS W v=none:=fun z=>by have:=z w Xal;rw [hw] at this;cases this
   by_cases c2:∀ v∈w :: r,ZaS W v=ZaS W w
   . obtain ⟨n,a1,a2⟩:=ZgZ (at_:=0) c c2
     rw [a2]
     have e:n=thgW W.ss w:=by rw [hw] at a1;exact (Xbc a1).symm
     show _=ansR (thgW W.ss w :: r.map (thgW W.ss));rw [e];refine (Xbe fun y hy=>?_).symm;obtain ⟨v,hv,rfl⟩:=Xai.mp (show y∈(w :: r).map (thgW W.ss) from hy)
     have:=c2 v hv
     rw [hs v hv,hw] at this;exact Xbc this
   . rw [Zin c c2]
     show _=ansR (thgW W.ss w :: r.map (thgW W.ss));refine (Xbd fun h=>c2 fun v hv=>?_).symm;rw [hs v hv,hw,h (thgW W.ss v) (Xai.mpr ⟨v,hv,rfl⟩:thgW W.ss v∈(w :: r).map (thgW W.ss))]
theorem ZlN {l m:List Int} (h:l.Perm m):l.sum=m.sum:=by
 induction h with
 | nil=>rfl
 | cons x _ ih=>rw [List.sum_cons,List.sum_cons,ih]
 | swap x y l=>rw [List.sum_cons,List.sum_cons,List.sum_cons,List.sum_cons];omega
 | trans _ _ h1 h2=>exact h1.trans h2
theorem ZkN (h1:∀ s∈W.ss,s.1.length<=1) (ok:WOk W) (hsc:0<=sc/\sc<W.ss.length) (hst:0<=st/\st<W.sts.length) {bs l:List Beg} (hB:Begs W sc st bs) (p:bs.Perm l):bs.foldl orB 0=(l.map fun b=>(1 * 2 ^ b.2.1.toNat:Int)).sum:=by
 have e1:bs.foldl orB 0=(bs.map fun b:Beg=>b.2.1.toNat).foldl (fun (n:Int) e=>Builtin.bitOr n (1 * 2 ^ e)) 0:=by rw [List.foldl_map];rfl
 have nd:(bs.map fun b:Beg=>b.2.1.toNat).Nodup:=Zkn hB.nd fun b hb c hc e=>by
  have ib:=(hB.mem b).mp hb;have ic:=(hB.mem c).mp hc;have r1:=(ib.ok ok hsc hst).rng b.2.1 (by unfold been;simp);have r2:=(ic.ok ok hsc hst).rng c.2.1 (by unfold been;simp);exact Zg4 h1 ok.zero hsc hst ib ic (by omega)
 have h:=Zkp (bs.map fun b:Beg=>b.2.1.toNat) (s:=0) (l:=[]) (fun j=>by rw [Nat.zero_testBit];simp) nd fun e _=>by simp
 rw [e1];refine Eq.trans h ?_
 have e2:((0:Nat):Int)+((bs.map fun b:Beg=>b.2.1.toNat).map fun e=>(2 ^ e:Int)).sum=(bs.map fun b=>(1 * 2 ^ b.2.1.toNat:Int)).sum:=by
  rw [Xax]
  have:(fun e:Nat=>(2 ^ e:Int)) ∘ (fun b:Beg=>b.2.1.toNat)=fun b=>(1 * 2 ^ b.2.1.toNat:Int):=funext fun b=>by show (2 ^ b.2.1.toNat:Int)=_;rw [Int.one_mul]
  rw [this];simp
 rw [e2];exact ZlN (p.map _)
theorem dn_wayR (n:Nat) (w:List Mrk):Dn (n+3) (wayE.D w):=fun d hd=>by
 obtain ⟨m,_,rfl⟩:=Xai.mp hd;intro e he
 rcases Xam.mp he with rfl | he
 . exact True.intro
 . rcases Xam.mp he with rfl | he
   . exact True.intro
   . rw [Xaj.mp he];exact True.intro
theorem dn_one (l:Lk):Dn 8 (.lst [Zg1 l]):=fun d hd=>by
 rw [Xaj.mp hd];intro e he;obtain ⟨w,_,rfl⟩:=Xai.mp he;exact dn_wayR 3 w
theorem dn_res (p:Str×Int):Dn 8 (.tup [ansD (some p),Zj9 none]):=fun d hd=>by
 rcases Xam.mp hd with rfl | hd
 . intro e he
   rcases Xam.mp he with rfl | he
   . exact True.intro
   . rw [Xaj.mp he];exact True.intro
 . rw [Xaj.mp hd];exact True.intro
theorem Zhl {H':Hp} {a:Addr}{o:HO} (s:Same H H') (h:H a=none):Same H (upd H' a o):=fun b x e=>by rw [Zal (Zad e h)];exact s _ _ e
inductive E_law (K:XFg) (vs:List V) (H:Hp) (Q:VK):Prop where
 | mk (a:Addr) (ns:List Int) (h0:vs=[.ref a]) (h1:SqL K H a (ns.map V.int)) (h2:ns.length<=63) (h3:∀ H',Q (.bl true) H'):E_law K vs H Q
def Zhm (K:XFg):Sp:=fun vs H Q _=>E_law K vs H Q
theorem ok_law (B:Blt mg) (c__law_made:Zco P w K mg base) (c__law_row:Zc6 P w K mg base) (c__law_ways:Zcp P w K mg base) (c__law_hidden:ZbI P w K mg base) (c_trail:Zgq P w K mg base) (c__law_same:Zcr P w K mg base) (c_find:Ziz P w K mg base) (c__law_answer:ZbL P w K mg base) (c_walked:Zek P w K mg base) (F:Fun K "law" "law" Ze9 f fd):FnOk P w K mg base CX0 9 f fd ["_law_script"] (Zhm K):=by
 refine F.ok sc_law (fun vs H Q E h=>?_) (fun cdv A outer s H vs Q E hr h=>?_)
 . obtain ⟨a,ns,rfl,_⟩:=h
   rfl
 . obtain ⟨a,ns,rfl,hS,hlen,kq⟩:=h
   refine ⟨_,(Zab (Za8 (Zaz c__law_made (hr.mono (by decide)) rfl (Zaa (pv 0) Zac)) (ZaF rfl (Zaf (Zag (i:=1) sc_law.nd rfl (Or.inr rfl)) (Zaf (Zag (i:=2) sc_law.nd rfl (Or.inr rfl)) Zav))))
    (Zab (Zap (i:=3) sc_law.nd rfl (Or.inl rfl) (Zaz c__law_made (hr.mono (by decide)) rfl (Zaa (pv 0) Zac)))
    (Zab (Zap (i:=4) sc_law.nd rfl (Or.inl rfl) (ZaJ (Zaa ZbU Zac)))
    (Zab (Za8 (Zam Zai (Zam Zai (pv 1) Zae (fun _ _=>rfl)) Zae (fun _ _=>rfl)) (ZaF rfl (Zaf (Zag (i:=5) sc_law.nd rfl (Or.inl rfl)) (Zaf (Zag (i:=6) sc_law.nd rfl (Or.inl rfl)) (Zaf (Zag (i:=7) sc_law.nd rfl (Or.inl rfl)) Zav)))))
    (Zab (Zap (i:=8) sc_law.nd rfl (Or.inl rfl) (Zaz c__law_row (hr.mono (by decide)) rfl (Zaa (pv 1) (Zaa (pv 2) (Zaa (pv 5) (Zaa (pv 6) Zac))))))
    (Zab (Zap (i:=9) sc_law.nd rfl (Or.inr rfl) (Zaz c__law_ways (hr.mono (by decide)) rfl (Zaa (pv 1) (Zaa (pv 2) (Zaa (pv 8) (Zaa (Zam Zai (pv 7) Zae (fun _ _=>rfl)) Zac))))))
    (Zab (Zdi (i:=10) sc_law.nd rfl (Or.inl rfl) (te:=tVar 0) (tc:=tNot (tB (tCall (Zdb K) [] E0 (Zgw (tVar 1) (Zgw (tVar 2) (Zgw (tVar 3) (Zgw (tVar 0) tNil))))))) rfl law_cs1 (ZaM (pv 9)) (fun _ _ _ _ _=>(Zag (i:=0) law_cs1.nd rfl (Or.inl rfl))) (fun _ _ _ _ _=>(Zh2 (Zd0 (ZbC (Zaz c__law_hidden (hr.mono (by decide)) rfl (Zaa (pv 1) (Zaa (pv 2) (Zaa (pv 3) (Zaa (pv 0) Zac))))))))) (fun _ _ _ _ _=>(pv 0)))
    (Zab (Zap (i:=11) sc_law.nd rfl (Or.inl rfl) (Zaz c_trail (hr.mono (by decide)) rfl (Zaa (Zam Zai (pv 3) Zae (fun _ _=>rfl)) (Zaa (pv 4) (Zaa (Zam Zai (pv 3) Zae (fun _ _=>rfl)) (Zaa Zae Zac))))))
    (Zab (ZaN (Zd0 (ZbC (Zaz c__law_same (hr.mono (by decide)) rfl (Zaa (pv 11) (Zaa (ZaJ (Zaa (pv 10) Zac)) Zac))))) (Zah (Zao ZdI)) Zaq)
    (Zab (ZaW (pe_bm0 Xa8 PySem.F.slot_list_clear PySem.F.type_list_clear Zk1 (Zam Zai (pv 11) Zae (fun _ _=>rfl))))
    (Zab (ZaW (Zb4 Xa8 Xa9 Xba ZaK (pv 11) (Zaa (ZaJ Zac) Zac)))
    (Zab (ZaN (Zd0 (ZbC (Zaz c__law_same (hr.mono (by decide)) rfl (Zaa (Zaz c_find (hr.mono (by decide)) rfl (Zaa (Zam Zai (pv 3) Zae (fun _ _=>rfl)) (Zaa (pv 4) (Zaa (Zam Zai (pv 3) Zae (fun _ _=>rfl)) (Zaa Zae Zac))))) (Zaa (Zat (Zaa (Zaz c__law_answer (hr.mono (by decide)) rfl (Zaa (pv 1) (Zaa (pv 10) Zac))) (Zaa ZbU Zac))) Zac))))) (Zah (Zao ZdI)) Zaq)
    (Zab (Zap (i:=12) sc_law.nd rfl (Or.inl rfl) (Zaz c_walked (hr.mono (by decide)) rfl (Zaa (Zam Zai (pv 3) Zae (fun _ _=>rfl)) (Zaa (pv 4) (Zaa (Zam Zai (pv 3) Zae (fun _ _=>rfl)) (Zaa Zae Zac))))))
    (Zab (ZaN (Zd0 (ZbC (Zaz c__law_same (hr.mono (by decide)) rfl (Zaa (pv 12) (Zaa (Zax (Zko rfl) (by rfl) B.b_sum (by decide +kernel) (Zaa (ZcK (g:=gTup K 3 (Zhp (Zd7 0) (Zhp (Zd7 1) (Zhp (Zd7 2) gNil)))) rfl law_cs2 (ZaM (pv 8)) (fun _ _ _ _ _=>(ZaF rfl (Zaf (Zag (i:=0) law_cs2.nd rfl (Or.inl rfl)) (Zaf (Zag (i:=1) law_cs2.nd rfl (Or.inl rfl)) (Zaf (Zag (i:=2) law_cs2.nd rfl (Or.inl rfl)) Zav))))) (fun _ _ _ _ _=>ZcJ) (fun _ _ _ _ _=>(Zau op_shl Zae (pv 1)))) Zac)) Zac))))) (Zah (Zao ZdI)) Zaq)
    (Zab (ZaN (Zd0 (ZbC (Zaz c__law_same (hr.mono (by decide)) rfl (Zaa (Zaz c_trail (hr.mono (by decide)) rfl (Zaa (Zam Zai (pv 3) Zae (fun _ _=>rfl)) (Zaa (pv 4) (Zaa (Zam Zai (pv 3) Zae (fun _ _=>rfl)) (Zaa Zae Zac))))) (Zaa (ZaJ (Zaa (pv 10) Zac)) Zac))))) (Zah (Zao ZdI)) Zaq)
    (Zah (Zao (ZhT (Zb3 (ZjG hr.units) (pv 3) (Zat (Zaa (pv 1) (Zaa (pv 2) Zac))) (ZaA _)) (Zjg (Zb3 (ZjG hr.units) (pv 4) (ZaJ (Zaa ZbU Zac)) (ZaA _))))))))))))))))))))),?_⟩
   try dsimp only [cxOf,Cx.nox,Cx.wish]
   refine ⟨_,rfl,a,ns,rfl,hS,hlen,fun r nt t S T R us Gs Es ts qt ss gs qs sts inn ord H1 s1 er eN N3 TB md=>?_⟩;refine ⟨r,_,rfl,SqT.of er,rfl,_,_,rfl,_,_,rfl,rfl,?_⟩;refine ⟨_,rfl,a,ns,rfl,s1.seq hS,hlen,fun r2 nt2 t2 S2 T2 R2 us2 Gs2 Es2 ts2 qt2 ss2 gs2 qs2 sts2 inn2 ord2 H2 s2 er2 eN2 N32 TB2 md2=>?_⟩;obtain ⟨e1,e2,e3,e4,e5,e6⟩:=md.uniq md2;subst e1 e2 e3 e4 e5 e6;refine g_in ?_;try dsimp only
   refine ⟨ZbP,fun A hA=>?_⟩;obtain ⟨H3,qH3,s3,eA⟩:=new_at (o:=.lst [.non]) hA;rw [<-qH3];refine g_in ?_;try dsimp only
   have s23:=s2.trans s3;have lo:=md_ok md;have one:=md_one md;have r3:=Zg8 ns (rCs ns).length;rw [<-md.ss] at r3
   have to:∀ s∈ss,∀ p∈s.1,p.2.1=("to" : Str):=fun s hs p hp=>(r3.to s hs p hp).1
   have tl:∀ s∈ss,∀ p∈s.2,p.2.2.1=("thing" : Str):=fun s hs p hp=>(r3.tl s hs p hp).1
   have lc6:(rCs ns).length<=6:=by rw [Xaw];omega
   have hq0:qs[0]?=some (rQu ns):=by rw [md.qs];rfl
   obtain ⟨g1,g2,_,_⟩:=lo.q _ (Xah hq0);have hA1:∀ {H':Hp},Same H3 H'->Ans K H' A [none]:=fun s=>⟨[.non],SqL.of (s _ _ eA),.cons .non .nil⟩;have C1:∀ {H':Hp},Same H3 H'->LC K (fun _=>True) H' nt A t ⟨ss,gs,[none],sts⟩ qs inn ord:=fun s=>⟨⟨S,T,R,us,Gs,Es,ts,qt,(s23.trans s) _ _ eN,N3.same (s23.trans s)⟩,hA1 s,TB.same (s23.trans s)⟩;have C2:∀ {H':Hp},Same H3 H'->LC K (fun _=>True) H' nt2 A t2 ⟨ss,gs,[none],sts⟩ qs inn ord:=fun s=>⟨⟨S2,T2,R2,us2,Gs2,Es2,ts2,qt2,(s3.trans s) _ _ eN2,N32.same (s3.trans s)⟩,hA1 s,TB2.same (s3.trans s)⟩
   have hqt:0<qt.length:=by rw [N3.tq.len];exact (Xae.mp hq0).1
   have etq:=Xab hqt;generalize qt[0]=tq at etq;obtain ⟨pu,ep1,ep2⟩:=N3.tq.at_ 0 tq _ etq hq0;have hatq:atI (qt.map V.ref) ((0:Nat):Int)=some (.ref tq):=Zar (by rw [Xag,etq];rfl);refine ⟨_,rfl,Or.inr (Or.inl ⟨nt,_,_,.ref R,rfl,rfl,SqT.of (s23 _ _ eN),rfl,Or.inl ⟨R,_,_,.ref tq,rfl,rfl,SqL.of (s23 _ _ N3.er),hatq,tq,_,rfl,SqT.of (s23 _ _ ep1),rfl,_,_,rfl,_,_,rfl,_,_,rfl,rfl,?_⟩⟩)⟩;try dsimp only
   refine ⟨_,rfl,_,rfl,_,rfl,_,rfl,nt,A,t,⟨ss,gs,[none],sts⟩,_,_,rfl,(C1 (Same.refl _)).caseH,lo.ok,one,to,g1,g2,fun D8 zs b H4 hD8 s4 eD8 hz ch hh hk=>?_⟩;refine g_in ?_;try dsimp only
   have hbeg:=ch.beg hh;have hbm:∀ z∈zs,IsBeg ⟨ss,gs,[none],sts⟩ (rQu ns).1 (rQu ns).2.1 z.2:=fun z hz=>hbeg z.2 (Xai.mpr ⟨z,hz,rfl⟩);have flen:=Zg5 lo.ok.zero one g1 g2 ((rNs ns).getD (Zas ns 7 / 80 % 5 / 4).toNat default) ch.nd.1 hbeg;have flen2:(ss.flatMap (·.2)).length<=62:=Xbg r3.all (by omega);refine ⟨_,rfl,_,rfl,_,rfl,_,rfl,Or.inr (Or.inl ⟨pu,_,_,.str ((rNs ns).getD (Zas ns 7 / 80 % 5 / 4).toNat default),rfl,rfl,SqT.of ((s23.trans s4) _ _ ep2),rfl,nt,A,t,D8,_,_,⟨ss,gs,[none],sts⟩,zs,rfl,(C1 s4).caseH,lo.ok,eD8,hz,(fun z hz=>(hbm z hz).ok lo.ok g1 g2),Xbg flen flen2,fun D9 ws H5 hD9 s5 eD9 hw hF=>?_⟩)⟩;refine g_in ?_;try dsimp only
   have s35:=s4.trans s5;have s25:=s23.trans s35
   have hen:∀ z∈ws,EndT ss z.2/\ZeC ss z.2:=fun z hz=>by
    have h1:=hF.perm.mem_iff.mp (Xai.mpr ⟨z,hz,rfl⟩);obtain ⟨b',hb',j,q',g3,_,_,e⟩:=Zez h1;have ib:=hbeg b' hb';have bok:=ib.ok lo.ok g1 g2;have hsc:=bok.rng b'.2.1 (by unfold been;simp);obtain ⟨n,hn⟩:=Xa3 hsc.1;have hsc2:b'.2.1<(ss.length:Int):=hsc.2
    have hnl:n<ss.length:=by omega
    have hm:MkOk ss (b'.2.1,("told" : Str),(j:Int)):=by
     refine ⟨n,j,ss[n],hn,rfl,Xab hnl,.inr ⟨rfl,?_⟩⟩
     have:ZaG ⟨ss,gs,[none],sts⟩ b'.2.1=ss[n].2:=by
      unfold ZaG;rw [hn,Xa4]
      show (match ss[n]? with | some s=>s.2 | none=>[])=_
      rw [Xab hnl]
     rw [this] at g3;exact (Xae.mp g3).1
    refine ⟨⟨b'.1,_,e,hm,rfl⟩,?_,?_⟩
    . intro m' hm'
      rw [e] at hm'
      rcases Xaf.mp hm' with h | h
      . exact ZeB lo.ok g1 g2 ib m' h
      . rw [Xaj.mp h];exact hm
    . have h2:=Zbb ss.length (been b') bok.nd bok.rng
      rw [show (been b').length=b'.1.length+1 by unfold been;simp] at h2
      have:=lo.ok.s5
      rw [e,Xac,Xau];have h5:ss.length<=100:=this;omega
   have lws:ws.length<=62:=by
    have h1:=hF.perm.length_eq;rw [Xaa] at h1;have h2:=Xbg flen flen2;omega
   refine ⟨_,rfl,D9,rfl,⟨_,SqL.of eD9⟩,Zfq (xs:=ws.map fun z=>V.ref z.1) (fun D' i ys H'=>∃ sub:List (Addr×List Mrk),ys=sub.map (fun z=>V.ref z.1)/\sub.map (·.2)=Zbj ss ord (ws.map (·.2)) ((ws.map (·.2)).take i)/\(∀ z∈sub,z∈ws)/\Same H5 H'/\H' D'=some (.lst ys))
    (fun D' hD'=>⟨[],rfl,rfl,(fun z hz=>by cases hz),Zak hD',upd_same⟩) (fun D' i ys H' hv_=>by obtain ⟨_,_,_,_,s,_⟩:=hv_;exact SqL.of (s _ _ eD9)) (fun D' j y ys H6 RR R0 hD' hy hv k k0=>?_) (fun SH ys H6 hSH hv=>?_)⟩
   . obtain ⟨sub,rfl,hs,hm,s6,eD'⟩:=hv
     obtain ⟨z,hzj,rfl⟩:=getm hy;have mz:=Xah hzj;have s26:=s25.trans s6;have st:=ZeG (ss:=ss) (ord:=ord) (all:=ws.map (·.2)) (l:=ws.map (·.2)) (i:=j) (w:=z.2) (by rw [Xag,hzj];rfl);refine ⟨_,rfl,_,rfl,_,rfl,_,rfl,nt,S,T,R,t,D9,z.1,us,Gs,Es,ss,_,_,_,sts,inn,ord,ws,z.2,rfl,s26 _ _ eN,N3.sc.same s26,TB.same s26,s6 _ _ eD9,(fun y hy=>(hw y hy).same s6),(fun y hy=>(hen y hy).2),(hw z mz).same s6,(hen z mz).2,fun H7 s7=>⟨_,rfl,ite2 (fun c=>?_) (fun c=>?_)⟩⟩
     . have c':((ws.map (·.2)).any fun v=>ZaO ss ord v z.2)=false:=by rw [Bool.not_eq_true'] at c;exact c
       rw [c',Xbd Xbb] at st;have eD7:=s7 _ _ eD';refine ⟨_,rfl,k _ _ eD7 ?_ ⟨sub++[z],by rw [Xad];rfl,by rw [Xad,hs,st];rfl,fun y hy=>?_,fun b o e=>?_,upd_same⟩⟩
       . have h1:=Xbj List.length hs
         have h2:=ZfZ (ss:=ss) (ord:=ord) (all:=ws.map (·.2)) (l:=(ws.map (·.2)).take j);rw [Xaa] at h1;rw [Xaw,Xaa] at h2;rw [Xaa];exact Zan (by omega)
       . rcases Xaf.mp hy with hy | hy
         . exact hm y hy
         . rw [Xaj.mp hy];exact mz
       . rw [Zal (Zad e hD')];exact s7 _ _ (s6 _ _ e)
     . have c':((ws.map (·.2)).any fun v=>ZaO ss ord v z.2)=true:=by
        cases e:((ws.map (·.2)).any fun v=>ZaO ss ord v z.2) with
        | true=>rfl
        | false=>rw [e] at c;exact absurd rfl c
       rw [c',Xbe rfl] at st;exact k0 _ ⟨sub,rfl,by rw [hs,st],hm,s6.trans s7,s7 _ _ eD'⟩
   obtain ⟨sub,rfl,hs,hm,s6,eSH⟩:=hv;rw [Xaa,<-Xaa (f:=(·.2)) (as:=ws),Xas] at hs;try dsimp only
   have s36:=s35.trans s6;have er6:=(s3.trans s36) _ _ er2;have hsub:∀ z∈sub,WyH (fun l=>H4 l=none/\l≠D9) H6 z.1 z.2:=fun z hz=>(hw z (hm z hz)).same s6;refine ⟨_,rfl,Or.inr (Or.inl ⟨r2,_,_,.ref nt2,rfl,rfl,SqT.of er6,rfl,_,rfl,_,rfl,Or.inr (Or.inl ⟨r2,_,_,.ref t2,rfl,rfl,SqT.of er6,rfl,nt2,A,t2,fun _=>True,⟨ss,gs,[none],sts⟩,qs,inn,ord,0,0,_,rfl,rfl,hq0,C2 s36,lo,fun D11 lv a1 w1 ls ts1 H7 hD11 s7 eD11 hlv hlu=>?_⟩)⟩)⟩;refine g_in ?_;try dsimp only
   obtain ⟨l,os,rfl,hlk,hmet⟩:=ZlM (x:=(rNs ns).getD (Zas ns 7 / 80 % 5 / 4).toNat default) hlu;have hperm:=ch.perm one hh hk hlk.b;have ewl:l.2.1=ws.map (·.2):=fnd_eq hlk.f hF hperm
   have esl:l.2.2=sub.map (·.2):=by rw [hlk.s,ewl,hs]
   have hmp:=ZkM to tl (fun w hw=>by
    rw [ewl] at hw;obtain ⟨z,hz,rfl⟩:=Xai.mp hw
    exact (hen z hz).1) hlk
   rw [hmp] at hmet;cases hmet;have dSH:∀ {H':Hp},Same H6 H'->IsDt K H' (.ref SH) (Zg1 l):=fun s=>.lst (SqL.of (s _ _ eSH)) (by rw [esl];exact Zif fun z hz=>(hsub z hz).same s);refine ⟨_,rfl,_,rfl,ZbP,fun L1 hL1=>?_⟩;obtain ⟨H8,qH8,s8,eL1⟩:=new_at (o:=.lst [.ref SH]) hL1;rw [<-qH8];refine ⟨_,_,.lst [Zg1 l],rfl,.lst (SqL.of (s8 _ _ eD11)) (hlv.same s8).dts,.lst (SqL.of eL1) (.cons (dSH (s7.trans s8)) .nil),dn_one l,fun H9 s9=>⟨_,rfl,iteF ?_⟩⟩;have s79:=s8.trans s9;have hl0:=hlv.length
   obtain ⟨v0,rfl⟩:∃ v0,lv=[v0]:=by
    cases lv with
    | nil=>cases hl0
    | cons x y =>
      cases y with
      | nil=>exact ⟨x,rfl⟩
      | cons z w=>cases hl0
   obtain ⟨d0,hd0,hv0⟩:=hlv.get (i:=0) (v:=v0) rfl;cases hd0;obtain ⟨b0,vs0,rfl,eb0,fb0,_⟩:=Zkj hv0;have eD9':=s79 _ _ eD11;have eb9:=s79 _ _ eb0;refine ⟨_,rfl,Or.inl ⟨D11,_,_,.ref b0,rfl,rfl,SqL.of eD9',Zar (j:=0) rfl,Or.inl ⟨rfl,_,SqL.of eb9⟩,b0,_,rfl,rfl,eb9,?_⟩⟩;have s10:Same H6 (upd H9 b0 (.lst [])):=Zhl (s7.trans s79) fb0.1
   have eD10:(upd H9 b0 (.lst [])) D11=some (.lst [.ref b0]):=by rw [Zal (Ne.symm fb0.2)];exact eD9'
   generalize upd H9 b0 (.lst [])=H10 at s10 eD10 ⊢;try dsimp only
   refine ⟨_,rfl,Or.inl ⟨rfl,_,SqL.of eD10⟩,Xa0 _,fun NL hNL=>?_⟩;have s11:=Zak (o:=.lst []) hNL;generalize upd H10 NL (.lst [])=H11 at s11 ⊢;refine ⟨D11,_,_,rfl,rfl,s11 _ _ eD10,Zan (by show 1<=1000;decide),?_⟩;have s12:Same H6 (upd H11 D11 (.lst ([.ref b0]++[.ref NL]))):=Zhl (s10.trans s11) hD11;generalize upd H11 D11 (.lst ([.ref b0]++[.ref NL]))=H12 at s12 ⊢;try dsimp only
   have s312:=s36.trans s12;have er12:=(s3.trans s312) _ _ er2;refine ⟨_,rfl,Or.inr (Or.inl ⟨r2,_,_,.ref nt2,rfl,rfl,SqT.of er12,rfl,_,rfl,_,rfl,Or.inr (Or.inl ⟨r2,_,_,.ref t2,rfl,rfl,SqT.of er12,rfl,nt2,A,t2,fun _=>True,⟨ss,gs,[none],sts⟩,qs,inn,ord,0,0,_,rfl,rfl,hq0,C2 s312,lo,fun fv a2 w2 ls2 ts2' H13 s13 hfv hlu2=>?_⟩)⟩)⟩;obtain ⟨ea,ew,_,_⟩:=ZhG hlu hlu2;rw [<-ea,<-ew] at hfv;have s613:=s12.trans s13;have s313:=s36.trans s613;have s213:=s23.trans s313
   have lsub:sub.length<=62:=by
    have h1:=Xbj List.length hs;have h2:=ZfZ (ss:=ss) (ord:=ord) (all:=ws.map (·.2)) (l:=ws.map (·.2));rw [Xaa] at h1;rw [Xaa] at h2;omega
   refine ⟨_,rfl,_,rfl,nt,S,T,R,SH,us,Gs,Es,ss,_,sub,rfl,s213 _ _ eN,N3.sc.same s213,s613 _ _ eSH,(fun z hz=>(hsub z hz).same s613),(fun z hz=>(hen z (hm z hz)).1),lsub,fun p H14 s14 ep=>?_⟩;rw [<-esl] at ep;refine ⟨ZaI,fun tp htp=>?_⟩;obtain ⟨H15,qH15,s15,etp⟩:=new_at (o:=.tup [.ref p,.non]) htp;rw [<-qH15];refine ⟨_,_,.tup [ansD (some (ansR (l.2.2.map (thgW ss)))),Zj9 none],rfl,(hfv.same (s14.trans s15)).dt,.tup (SqT.of etp) (.cons (.tup (SqT.of (s15 _ _ ep)) (.cons (.str _) (.cons (.int _) .nil))) (.cons .non .nil)),dn_res _,fun H16 s16=>⟨_,rfl,iteF ?_⟩⟩;have s616:=s613.trans (s14.trans (s15.trans s16));have s316:=s36.trans s616;have er16:=(s3.trans s316) _ _ er2;refine ⟨_,rfl,Or.inr (Or.inl ⟨r2,_,_,.ref nt2,rfl,rfl,SqT.of er16,rfl,_,rfl,_,rfl,Or.inr (Or.inl ⟨r2,_,_,.ref t2,rfl,rfl,SqT.of er16,rfl,nt2,A,t2,fun _=>True,⟨ss,gs,[none],sts⟩,qs,inn,ord,0,0,_,rfl,rfl,hq0,C2 s316,lo,rfl,fun a3 w3 ls3 ts3 H17 s17 hlu3=>?_⟩)⟩)⟩;obtain ⟨_,_,els,_⟩:=ZhG hlu hlu3;rw [<-els];clear els hlu3 ls3;refine g_in ?_;try dsimp only
   have ebits:[l].foldl orL 0=(zs.map fun z=>(1 * 2 ^ z.2.2.1.toNat:Int)).sum:=by
    show l.1.foldl orB 0=_;rw [ZkN one lo.ok g1 g2 hlk.b hperm,Xax];rfl
   rw [ebits];have s617:=s616.trans s17;have eD17:=(s6.trans s617) _ _ (s5 _ _ eD8)
   have few:zs.length<=62:=by
    have:=lo.ok.few _ _ _ g1 g2 ch.nd.1 hbeg
    rw [Xaa] at this;exact this
   refine ⟨_,rfl,_,rfl,D8,rfl,⟨_,SqL.of eD17⟩,ZbM (xs:=zs.map fun z=>V.ref z.1) (fun D i ys H'=>Same H17 H'/\H' D=some (.lst ys)/\ys=((zs.take i).map fun z=>(1 * 2 ^ z.2.2.1.toNat:Int)).map V.int)
    (fun D hD=>⟨Zak hD,upd_same,rfl⟩) (fun D i ys H' hv_=>by obtain ⟨s,_⟩:=hv_;exact SqL.of (s _ _ eD17)) (fun D j y ys H18 RR hD hy hv k=>?_) (fun DS ys H18 hDS hv=>?_)⟩
   . obtain ⟨s18,eD,rfl⟩:=hv
     obtain ⟨z,hzj,rfl⟩:=getm hy;have mz:=Xah hzj;obtain ⟨lz,msz,ez,_⟩:=hz z mz;have rz:=((hbm z mz).ok lo.ok g1 g2).rng z.2.2.1 (by unfold been;simp);have rz2:z.2.2.1<(ss.length:Int):=rz.2;have l5:ss.length<=100:=lo.ok.s5;have ez18:=((s5.trans s6).trans (s617.trans s18)) _ _ ez;refine ⟨z.1,_,rfl,SqT.of ez18,rfl,_,_,rfl,_,_,rfl,_,_,rfl,rfl,?_⟩;refine ⟨_,rfl,_,_,rfl,rfl,⟨rz.1,by omega,by decide⟩,?_⟩;have hjl:j<zs.length:=(Xae.mp hzj).1;refine k _ _ eD (by rw [Xaa,Xaa,Xaw];exact Zan (by omega)) ⟨fun b o e=>?_,upd_same,?_⟩
     . rw [Zal (Zad e hD)];exact s18 _ _ e
     . rw [Xar,hzj,Xad,Xad];rfl
   obtain ⟨s18,eDS,rfl⟩:=hv;rw [Xaa,Xas] at eDS;refine ⟨DS,_,rfl,SqL.of eDS,?_⟩;refine ⟨_,_,.int (zs.map fun z=>(1 * 2 ^ z.2.2.1.toNat:Int)).sum,rfl,.int _,.int _,True.intro,fun H19 s19=>⟨_,rfl,iteF ?_⟩⟩;have s619:=s617.trans (s18.trans s19);have s319:=s36.trans s619;have er19:=(s3.trans s319) _ _ er2;refine ⟨_,rfl,Or.inr (Or.inl ⟨r2,_,_,.ref nt2,rfl,rfl,SqT.of er19,rfl,_,rfl,_,rfl,Or.inr (Or.inl ⟨r2,_,_,.ref t2,rfl,rfl,SqT.of er19,rfl,nt2,A,t2,fun _=>True,⟨ss,gs,[none],sts⟩,qs,inn,ord,0,0,_,rfl,rfl,hq0,C2 s319,lo,fun D20 lv2 a4 w4 ls4 ts4 H20 hD20 s20 eD20 hlv2 hlu4=>?_⟩)⟩)⟩;obtain ⟨_,_,els,_⟩:=ZhG hlu hlu4;rw [<-els] at hlv2;clear els hlu4 ls4;refine ⟨_,rfl,ZbP,fun L2 hL2=>?_⟩;obtain ⟨H21,qH21,s21,eL2⟩:=new_at (o:=.lst [.ref SH]) hL2;rw [<-qH21];refine ⟨_,_,.lst [Zg1 l],rfl,.lst (SqL.of (s21 _ _ eD20)) (hlv2.same s21).dts,.lst (SqL.of eL2) (.cons (dSH (s619.trans (s20.trans s21))) .nil),dn_one l,fun H22 s22=>⟨_,rfl,iteF ?_⟩⟩;have s622:=s619.trans (s20.trans (s21.trans s22));have s322:=s36.trans s622;refine ⟨_,rfl,_,rfl,_,rfl,ZaI,fun p hp=>?_⟩;obtain ⟨H23,qH23,s23',ep⟩:=new_at (o:=.tup [.ref nt,.ref t]) hp;rw [<-qH23];have s323:=s322.trans s23';have s123:=s23.trans s323;have s223:=s3.trans s323;have d1:IsDt K H23 (.ref p) (.tup [netD ss gs qs,ZjO sts inn ord]):=.tup (SqT.of ep) (.cons ((N3.same s123).dt (s123 _ _ eN)) (.cons (TB.same s123).dt .nil));have d2:IsDt K H23 (.ref r2) (.tup [netD ss gs qs,ZjO sts inn ord]):=.tup (SqT.of (s223 _ _ er2)) (.cons ((N32.same s223).dt (s223 _ _ eN2)) (.cons (TB2.same s223).dt .nil));refine ⟨7,_,_,.tup (.cons (cmp_net _ _ _ _ _ _) (.cons (ZjP _ _ _ _ _ _) (.nil _))),by decide,d2,d1,?_⟩;rw [ZaC rfl];refine ⟨_,rfl,iteT ⟨_,rfl,ZbP,fun nl hnl=>?_⟩⟩;obtain ⟨H24,qH24,s24,enl⟩:=new_at (o:=.lst [.non]) hnl;rw [<-qH24];refine ⟨3,.lst [.non],.lst [.non],.lst (.cons .non (.nil _)),by decide,.lst (SqL.of ((s323.trans s24) _ _ eA)) (.cons .non .nil),.lst (SqL.of enl) (.cons .non .nil),?_⟩;rw [ZaC rfl];exact kq _
variable (P w K mg base) in
abbrev C_law:Prop:=ZaB P w K mg base "law" 9 ["_law_script"] (Zhm K)
theorem call_law (B:Blt mg) (c__law_made:Zco P w K mg base) (c__law_row:Zc6 P w K mg base) (c__law_ways:Zcp P w K mg base) (c__law_hidden:ZbI P w K mg base) (c_trail:Zgq P w K mg base) (c__law_same:Zcr P w K mg base) (c_find:Ziz P w K mg base) (c__law_answer:ZbL P w K mg base) (c_walked:Zek P w K mg base) (F:Fun K "law" "law" Ze9 f fd) (hm:mg "law" = some (.ref f)):C_law P w K mg base :=
 ⟨f,fd,ok_law B c__law_made c__law_row c__law_ways c__law_hidden c_trail c__law_same c_find c__law_answer c_walked F,hm,F.kp,F.binds fun _ _ _ _ _ _ us hl=>(by obtain ⟨x0,rfl⟩:=ZiX hl;rfl)⟩
end
abbrev Fin (K:XFg) (mg:Str->Option Value) (x:Str) (st:Stmt):Prop:=∃ f fd,Fun K x x st f fd/\mg x=some (.ref f)
theorem ZaH {K:XFg}{h:Heap}{mg:Str->Option Value} (X:K.In h) (G:h.Ns mainGlobals mg) {x:Str} {st:Stmt} (q:Fx K x st):Fin K mg x st:=by
 obtain ⟨f,oc,od,an,osl,kV,doc,pm,cdv,ct,a,l,c,k⟩:=q;exact ⟨f,_,fun_mk l c k,PySem.W.mg_of X G a⟩
theorem all_mk {l:PySem.W.OpenLaw}{w:World}{K:XFg}{h:Heap}{mg:Str->Option Value}{fa:Addr} (X:K.In h) (G:h.Ns mainGlobals mg) (hfa:mg "law" = some (.ref fa)) (q:Facts K)
 : ∃ fd:FuncData,(∀ (s:Shared) (v:Value),BindsTo s fd ⟨[v],[]⟩ [("_law_script",v)])/\∀ base:Heap,K.In base->base.Ns mainGlobals mg->FnOk l.prog w K mg base CX0 9 fa fd ["_law_script"] (Zhm K):=by
 obtain ⟨f40,oc40,od40,an40,sl40,kV40,dc40,pm40,cd40,ct40,a40,l40,c40,k40⟩:=q.q40;have e:=hfa.symm.trans (PySem.W.mg_of X G a40);cases e;have B:Blt mg:=⟨Xbs X G q.z_all,Xbs X G q.z_any,Xbs X G q.z_bool,Xbs X G q.z_dict,Xbs X G q.z_enumerate,Xbs X G q.z_int,Xbs X G q.z_isinstance,Xbs X G q.z_len,Xbs X G q.z_list,Xbs X G q.z_min,Xbs X G q.z_range,Xbs X G q.z_sorted,Xbs X G q.z_str,Xbs X G q.z_sum,Xbs X G q.z_tuple,Xbs X G q.z_zip,q.y_MOST_BEGINNINGS.imp fun _ y=>PySem.W.mg_of X G y⟩;obtain ⟨_,_,F0,m0⟩:=ZaH X G q.q0;obtain ⟨_,_,F1,m1⟩:=ZaH X G q.q1;obtain ⟨_,_,F2,m2⟩:=ZaH X G q.q2;obtain ⟨_,_,F3,m3⟩:=ZaH X G q.q3;obtain ⟨_,_,F4,m4⟩:=ZaH X G q.q4;obtain ⟨_,_,F5,m5⟩:=ZaH X G q.q5;obtain ⟨_,_,F6,m6⟩:=ZaH X G q.q6;obtain ⟨_,_,F7,m7⟩:=ZaH X G q.q7;obtain ⟨_,_,F8,m8⟩:=ZaH X G q.q8;obtain ⟨_,_,F9,m9⟩:=ZaH X G q.q9;obtain ⟨_,_,F10,m10⟩:=ZaH X G q.q10;obtain ⟨_,_,F11,m11⟩:=ZaH X G q.q11;obtain ⟨_,_,F12,m12⟩:=ZaH X G q.q12;obtain ⟨_,_,F13,m13⟩:=ZaH X G q.q13;obtain ⟨_,_,F14,m14⟩:=ZaH X G q.q14;obtain ⟨_,_,F15,m15⟩:=ZaH X G q.q15;obtain ⟨_,_,F16,m16⟩:=ZaH X G q.q16;obtain ⟨_,_,F17,m17⟩:=ZaH X G q.q17;obtain ⟨_,_,F18,m18⟩:=ZaH X G q.q18;obtain ⟨_,_,F19,m19⟩:=ZaH X G q.q19;obtain ⟨_,_,F20,m20⟩:=ZaH X G q.q20;obtain ⟨_,_,F21,m21⟩:=ZaH X G q.q21;obtain ⟨_,_,F22,m22⟩:=ZaH X G q.q22;obtain ⟨_,_,F23,m23⟩:=ZaH X G q.q23;obtain ⟨_,_,F24,m24⟩:=ZaH X G q.q24;obtain ⟨_,_,F25,m25⟩:=ZaH X G q.q25;obtain ⟨_,_,F26,m26⟩:=ZaH X G q.q26;obtain ⟨_,_,F27,m27⟩:=ZaH X G q.q27;obtain ⟨_,_,F28,m28⟩:=ZaH X G q.q28;obtain ⟨_,_,F29,m29⟩:=ZaH X G q.q29;obtain ⟨_,_,F30,m30⟩:=ZaH X G q.q30;obtain ⟨_,_,F31,m31⟩:=ZaH X G q.q31;obtain ⟨_,_,F32,m32⟩:=ZaH X G q.q32;obtain ⟨_,_,F33,m33⟩:=ZaH X G q.q33;obtain ⟨_,_,F34,m34⟩:=ZaH X G q.q34;obtain ⟨_,_,F35,m35⟩:=ZaH X G q.q35;obtain ⟨_,_,F36,m36⟩:=ZaH X G q.q36;obtain ⟨_,_,F37,m37⟩:=ZaH X G q.q37;obtain ⟨_,_,F38,m38⟩:=ZaH X G q.q38;obtain ⟨_,_,F39,m39⟩:=ZaH X G q.q39;have F40:=fun_mk (st:=Ze9) l40 c40 k40
 refine ⟨PySem.W.fnOf "law" "law" (Zdd Ze9) (Zcu Ze9) (Zaj Ze9) .none kV40 dc40 pm40 an40 cd40 ct40,fun s v=>.of_eq rfl,fun base _ _=>?_⟩
 have K__law_names:ZcO l.prog w K mg base:=ZeQ B  F0 m0;have K__law_cell_at:Zbv l.prog w K mg base:=ZdT B  F1 m1;have K__law_ranks:ZbX l.prog w K mg base:=ZeS B  F2 m2;have K__law_order:ZcQ l.prog w K mg base:=ZeT B K__law_ranks F3 m3;have K__law_table:ZcR l.prog w K mg base:=ZeU B K__law_ranks K__law_cell_at K__law_order F4 m4;have K__law_made:Zco l.prog w K mg base:=Zfc B K__law_names K__law_cell_at K__law_table F5 m5;have K__law_next:Zdp l.prog w K mg base:=Zfd B  F6 m6;have K__law_row:Zc6 l.prog w K mg base:=Zgf B K__law_next F7 m7;have K__law_ways:Zcp l.prog w K mg base:=Zfe B  F8 m8;have K__law_label:ZcS l.prog w K mg base:=ZeV B  F9 m9;have K__law_hides:ZcT l.prog w K mg base:=ZeW B K__law_label F10 m10;have K__law_hidden:ZbI l.prog w K mg base:=Zea B K__law_hides F11 m11;have K_next_state:ZcU l.prog w K mg base:=ZeX B  F12 m12;have K_inside_of_sort:ZbB l.prog w K mg base:=Zdq B  F13 m13;have K_inside:Zej l.prog w K mg base:=ZhN B K_inside_of_sort F14 m14;have K_goal:ZkD l.prog w K mg base:=ZkE B K_inside F15 m15;have K_steps_gone:ZbZ l.prog w K mg base:=ZeY B K_next_state K_goal F16 m16;have K_longer_by_a_step:Zbn l.prog w K mg base:=ZcV B K_steps_gone F17 m17;have K_beginnings:ZcW l.prog w K mg base:=ZeZ B K_longer_by_a_step F18 m18;have K_has_end:Ze0 l.prog w K mg base:=Zhd B  F19 m19;have K_found_behind:Zb5 l.prog w K mg base:=ZdV B K_has_end F20 m20;have K_better_pairs:Zbw l.prog w K mg base:=ZdW B  F21 m21;have K_tree_of:ZdE l.prog w K mg base:=Zhe B  F22 m22;have K_label_at:ZdX l.prog w K mg base:=Zgl B  F23 m23;have K_first_hider:ZbJ l.prog w K mg base:=Zeb B K_label_at F24 m24;have K_seen_ways:Zds l.prog w K mg base:=Zfg B K_better_pairs K_tree_of K_first_hider F25 m25;have K_look_for:ZdY l.prog w K mg base:=Zgm B K_found_behind K_seen_ways F26 m26;have K_first_owed:ZcX l.prog w K mg base:=Ze3 B K_better_pairs K_tree_of K_first_hider F27 m27;have K_telling_at:Zb0 l.prog w K mg base:=Ze4 B  F28 m28;have K_first_open:ZcY l.prog w K mg base:=Ze5 B K_telling_at F29 m29;have K_meaning:Ze6 l.prog w K mg base:=Zhg B K_telling_at F30 m30;have K_met:C_met l.prog w K mg base:=ZlK B K_first_owed K_first_open K_meaning F31 m31;have K_owed_behind:Zcq l.prog w K mg base:=Zec B K_steps_gone F32 m32;have K_look_up:ZcZ l.prog w K mg base:=Zhh B K_beginnings K_look_for K_met K_owed_behind K_inside F33 m33;have K_trail:Zgq l.prog w K mg base:=Zi7 B K_look_up F34 m34;have K__law_same:Zcr l.prog w K mg base:=Zfi B  F35 m35;have K_find:Ziz l.prog w K mg base:=ZkK B K_look_up F36 m36;have K__law_answer:ZbL l.prog w K mg base:=Zed B  F37 m37;have K_scopes_of:Zdt l.prog w K mg base:=Zfk B  F38 m38;have K_walked:Zek l.prog w K mg base:=ZhQ B K_look_up K_scopes_of F39 m39;exact ok_law B K__law_made K__law_row K__law_ways K__law_hidden K_trail K__law_same K_find K__law_answer K_walked F40
theorem walk {l:PySem.W.OpenLaw}{q:Program}{loose:List Str}{XP:(Str->Option Value)->Heap->Prop} {YP:World->Heap->Prop} {d:DefRec} {K:Params->XFg} (hn:l.most=some 63) (hdf:d.params.defaults=[])
 (hY:∀ (w:World) (h:Heap),YP w h->(K w.params).In h)
 (F:∀ (w:World) (mg:Str->Option Value) (fa:Addr) (h:Heap),(K w.params).In h->h.Ns mainGlobals mg->mg d.name=some (.ref fa) ->
  ∃ fd:FuncData,(∀ (s:Shared) (u:Value),BindsTo s fd ⟨[u],[]⟩ [("_law_script",u)])/\∀ base:Heap,(K w.params).In base->base.Ns mainGlobals mg->FnOk l.prog w (K w.params) mg base CX0 9 fa fd ["_law_script"] (Zhm (K w.params))) :
 PySem.W.WalkO q loose XP YP l.row.toRowW d [] (fun f vs=>PySem.call f vs) :=
 L2.walk_of (n:=63) (k:=9) (x := "_law_script") (CX:=fun _=>CX0) (sp:=fun w=>Zhm (K w.params)) hn (by decide) hdf ⟨rfl,by decide,by decide⟩ hY F (fun _ _ a ns hl _ hS=>⟨a,ns,rfl,hS,hl,fun _=>rfl⟩) fun _ _ _ _ _ z=>z
end K31
open PySem PySem.W PyProof.Rows in
theorem PySem.Challenge.cw_namepaths_k31_a_row_of_scopes_holds : PySem.Challenge.rw_namepaths_k31_a_row_of_scopes.Holds :=
 K31.hd fun K q YP d h1 h2 hY=>K31.walk (l:=PySem.Challenge.rw_namepaths_k31_a_row_of_scopes) rfl h1 hY fun w mg fa h X G hm=>K31.all_mk X G (h2 ▸ hm) (q w)
