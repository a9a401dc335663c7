import PyProof.Rows.All
import Wide.All
import OpenK.AllK
import Wide.FinOn
import Lean
import PyProof.EqAt
import PyProof.EqKinds
import PyProof.TupleCall
import PySem.Challenge.RW_namepaths_k33_owed_ways
set_option Elab.async false
set_option linter.all false
set_option maxRecDepth 100000
set_option compiler.extract_closed false
set_option maxHeartbeats 1000000
noncomputable section
local macro_rules|`(def $n $s:optDeclSig $v:declVal)=>`(noncomputable def $n $s:optDeclSig $v:declVal)
abbrev Aj:=PySem.W.Frag
def Ak:=@List.length_map
def AB:=@List.getElem?_eq_getElem
def AO:=@List.length_append
def A8:=@List.map_append
def Bi:=@List.getElem?_eq_some_iff
def BR:=@List.mem_append
def AM:=@List.getElem?_map
def Bk:=@List.mem_of_getElem?
def AF:=@List.mem_map
def A9:=@List.mem_singleton
def CM:=@List.size_toArray
def BF:=@List.mem_cons_self
def BI:=@List.mem_cons
def D6:=@List.mem_append_right
def EX:=@List.map_cons
def Cw:=@List.mem_cons_of_mem
def B6:=@List.getD_eq_getElem?_getD
def D7:=@List.take_succ
def De:=@List.take_length
def EQ:=@List.getElem?_append_left
def Ew:=@List.length_singleton
def Dk:=@List.getElem_mem
def Ek:=@List.length_take
def El:=@List.map_map
def E8:=@List.getElem?_append_right
def Ea:=@List.take_zero
def GP:=@List.mem_append_left
def Em:=@List.length_cons
def F4:=@List.nodup_cons
def Iq:=@List.length_set
def FJ:=@List.append_assoc
def K0:=@List.length_drop
def OT:=@List.mem_iff_getElem
def Eb:=@List.append_nil
def Ir:=@List.lookup_cons
def G5:=@List.getElem?_eq_none
def Nb:=@List.mem_filter
def Ki:=@List.drop_eq_getElem_cons
def QJ:=@List.filter_cons
def GQ:=@List.length_nil
def Nc:=@List.map_nil
def MI:=@List.prefix_append
def K1:=@List.any_eq_true
def MJ:=@List.find?_cons
def QK:=@List.filter_append
def OU:=@List.foldl_append
def QL:=@List.length_filter_le
def ER:=@Option.map_eq_some_iff
def AG:=@Nat.le_refl
def G6:=@Nat.lt_irrefl
def CU:=@Nat.le_of_lt
def CN:=@Nat.ne_of_lt
def QM:=@Nat.lt_succ_self
def DP:=@Nat.zero_le
def Gr:=@Int.emod_lt_of_pos
def Gu:=@Int.emod_nonneg
def Co:=@Int.eq_ofNat_of_zero_le
def Bl:=@Int.toNat_natCast
def A5:=@decide_eq_true
def En:=@decide_eq_false
def Be:=@of_decide_eq_true
def Ec:=@PySem.F.plainAttrs_list
def Fk:=@PySem.F.slot_list_append
def Fl:=@PySem.F.type_list_append
def Df:=@Bool.false_ne_true
def BS:=@Option.some.inj
def At:=@if_neg
def Au:=@if_pos
def FC:=@Nat.lt_of_lt_of_le
def Fa:=@Nat.le_trans
def FD:=@Bool.false_eq_true
def K2:=@List.filterMap_cons
def Bq:=@congrArg
open PySem PySem.Spec PyProof.Rows in
def Ad:=@wpAny_bind
open PySem PySem.Spec PyProof.Rows in
def Az:=@wpAny_pure
open PySem PySem.Spec PyProof.Rows in
def FK:=@wpAny_holding
open PySem PySem.Spec PyProof.Rows in
def Gv:=@wpAny_truthy_bool
open PySem PySem.Spec PyProof.Rows in
def Bo:=@Heap.get?_push_of_some
open PySem PySem.Spec PyProof.Rows in
def Bh:=@Heap.lt_size
open PySem PySem.Spec PyProof.Rows in
def Cp:=@Heap.get?_push_size
open PySem PySem.Spec PyProof.Rows in
def Cu:=@PassesOwn.never
open PySem PySem.Spec PyProof.Rows in
def F5:=@PySem.W.mg_none_of
open PySem PySem.Spec PyProof.Rows in
def Gd:=@PySem.mem_of_lookup
open PySem PySem.Spec PyProof.Rows in
def OV:=@wpAny_typeOf
open PySem PySem.Spec PyProof.Rows in
def FL:=@wpAny_mono
open PySem PySem.Spec PyProof.Rows in
def Gw:=@wpAny_seqItems
open PySem PySem.Spec PyProof.Rows in
def Iu:=@wpAny_rule
noncomputable section
noncomputable def PySem.W.Fast.tw13870441194341748942:PySem.Program:=PySem.Challenge.pw_namepaths_k33_owed_ways
theorem PySem.W.Fast.te13870441194341748942:PySem.Challenge.pw_namepaths_k33_owed_ways=PySem.W.Fast.tw13870441194341748942:=rfl
namespace L2
open PySem PySem.Spec PyProof.Rows
noncomputable def Kj (s:Stmt):Arguments:=match s with
 |.FunctionDef _ a _ _ _ _ _ _ _ _=>a
 |_=>{posonlyargs:=[],args:=[],vararg:=none,kwonlyargs:=[],kw_defaults:=[],kwarg:=none,defaults:=[]}
noncomputable def Iv (s:Stmt):List Stmt:=match s with
 |.FunctionDef _ _ b _ _ _ _ _ _ _=>b
 |_=>[]
noncomputable def AR (s:Stmt):Scope:=match s with
 |.FunctionDef _ _ _ _ _ _ sc _ _ _=>sc
 |_=>{kind:=.function,names:=[],isGenerator:=false,isCoroutine:=false}
section
open PySem.W PySem.W.Fast
noncomputable def GR (p:Program) (w:World) (N:Nat):Option Shared:=((tw10274390034422433532 tw14364793385576792824 (opening p) w N (PySem.start (opening p)).1 (PySem.start (opening p)).2).bind (tw14289696077712309145 p)).bind λs₀ =>
 match s₀.heap.isNs mainGlobals && s₀.gens.size==0 with
 |true=>(tw14082659384304107361 tw14364793385576792824 p w s₀.heap.objs.size (s₀.heap.nsMap mainGlobals "__annotations__") N s₀ (topStub p)).bind λs₁=>match staticsOk (tw5923862056798008813 p.main.body) s₀.heap s₁.heap && namesBound p s₁.heap && gensDone s₁ && laidKept s₀.heap s₁.heap with
   |true=>some s₁
   |false=>none
 |false=>none
def IJ{p q:Program}{loose:List Str}{Xt:Shared->Bool}{α:Type}{Yf:Shared->α}{Ya:World->α}{N:Nat}
 (A:∀w:World,Option.map (λs=>tw4187177175401517315 q loose (tw5923862056798008813 p.main.body) Xt true s) (GR p w N)=some (openGood q loose))
 (B:∀w:World,Option.map Yf (GR p w N)=some (Ya w)):LeftO p q loose Xt Yf Ya N:=by
 intro w;have a:=A w;have b:=B w
 have h:Option.map (λs=>(tw4187177175401517315 q loose (tw5923862056798008813 p.main.body) Xt true s,Yf s)) (GR p w N)=some (openGood q loose,Ya w):=by
  cases e:GR p w N with
  |none=>rw[e] at a;cases a
  |some s =>
    rw[e] at a b;simp only[Option.map_some] at a b ⊢;rw[BS a,BS b]
 unfold GR at h;rw[<-te14082659384304107361,<-te10274390034422433532,<-te14364793385576792824,<-te4187177175401517315,<-te5923862056798008813,<-te14289696077712309145] at h;exact h
end
end L2
namespace K33
open PySem PySem.Spec PyProof.Rows PySem.W L2
noncomputable def top (i:Nat):Stmt:=PySem.Challenge.pw_namepaths_k33_owed_ways.main.body.getD i (.Pass ⟨0,0,0,0⟩)
abbrev QN:Stmt:=top 44
abbrev QO:Stmt:=top 43
abbrev QP:Stmt:=top 48
abbrev QQ:Stmt:=top 47
abbrev QR:Stmt:=top 45
abbrev QS:Stmt:=top 46
abbrev IK:Stmt:=top 49
abbrev OW:Stmt:=top 56
abbrev QU:Stmt:=top 55
abbrev OX:Stmt:=top 57
abbrev QV:Stmt:=top 51
abbrev QW:Stmt:=top 52
abbrev QX:Stmt:=top 53
abbrev QY:Stmt:=top 11
abbrev QZ:Stmt:=top 3
abbrev Q0:Stmt:=top 1
abbrev Q1:Stmt:=top 2
abbrev Q2:Stmt:=top 19
abbrev OY:Stmt:=top 18
abbrev Q3:Stmt:=top 15
abbrev Q4:Stmt:=top 12
abbrev Q5:Stmt:=top 16
abbrev OZ:Stmt:=top 22
abbrev Q6:Stmt:=top 23
abbrev Q7:Stmt:=top 8
abbrev Q8:Stmt:=top 24
abbrev O0:Stmt:=top 21
abbrev Q9:Stmt:=top 27
abbrev Ra:Stmt:=top 29
abbrev Rb:Stmt:=top 9
abbrev Rc:Stmt:=top 30
abbrev Re:Stmt:=top 31
abbrev MK:Stmt:=top 28
abbrev Rf:Stmt:=top 17
abbrev Rg:Stmt:=top 26
abbrev Rh:Stmt:=top 33
abbrev Nd:Stmt:=top 50
abbrev Ri:Stmt:=top 54
abbrev O1:Stmt:=top 59
abbrev O3:Stmt:=top 34
abbrev Rj:Stmt:=top 41
abbrev Rk:Stmt:=top 40
abbrev Rl:Stmt:=top 38
abbrev Rm:Stmt:=top 39
abbrev Rn:Stmt:=top 37
abbrev Ro:Stmt:=top 36
abbrev O4:Stmt:=top 58
abbrev IL:Stmt:=top 60
noncomputable def own:Stmt->Bool
 |.Assign [.Name x _] _ _=>x != "__name__"
 |_=>true
noncomputable def view:Program:={PySem.Challenge.pw_namepaths_k33_owed_ways with main:={PySem.Challenge.pw_namepaths_k33_owed_ways.main with body:=PySem.Challenge.pw_namepaths_k33_owed_ways.main.body.filter own}}
noncomputable abbrev Fx (K:Frag) (x:Str) (st:Stmt):Prop:=∃(f:Addr)(oc:Value)(od an:Option Addr)(osl:Array (Option Value))(kV doc pm cdv ct:Value),nsIn K mainGlobals x=some (some (.ref f))/\K.lookup f=some ⟨oc,od,.func (fnOf x x (Kj st) (Iv st) (AR st) .none kV doc pm an cdv ct),osl⟩/\codeIn K cdv x=true/\keepIn K (.ref f)=true
def Ay{K:Frag}{x:Str}{st:Stmt}{f:Addr}{d:Value}{e g:Option Addr}{i:Array (Option Value)}{kV j h b ct:Value}(a:nsIn K mainGlobals x=some (some (.ref f)))(l:K.lookup f=some ⟨d,e,.func (fnOf x x (Kj st) (Iv st) (AR st) .none kV j h g b ct),i⟩)(c:codeIn K b x=true)(k:keepIn K (.ref f)=true):Fx K x st:=⟨f,d,e,g,i,kV,j,h,b,ct,a,l,c,k⟩
def Rp{K:Frag}{x:Str}{v:Int}{t:Tok}(h:nsIn K mainGlobals x=some (some (.int v t))):∃t,nsIn K mainGlobals x=some (some (.int v t)):=⟨t,h⟩
structure Kk (K:Frag):Prop where
 q0:Fx K "_law_names" QN
 q1:Fx K "_law_cell_at" QO
 q2:Fx K "_law_step" QP
 q3:Fx K "_law_telling" QQ
 q4:Fx K "_law_ranks" QR
 q5:Fx K "_law_order" QS
 q6:Fx K "_law_made" IK
 q7:Fx K "_law_ends" OW
 q8:Fx K "_law_goal" QU
 q9:Fx K "_law_ways" OX
 q10:Fx K "_law_label" QV
 q11:Fx K "_law_hides" QW
 q12:Fx K "_law_hidden" QX
 q13:Fx K "next_state" QY
 q14:Fx K "inside_of_sort" QZ
 q15:Fx K "inside" Q0
 q16:Fx K "goal" Q1
 q17:Fx K "steps_gone" Q2
 q18:Fx K "longer_by_a_step" OY
 q19:Fx K "beginnings" Q3
 q20:Fx K "has_end" Q4
 q21:Fx K "found_behind" Q5
 q22:Fx K "better_pairs" OZ
 q23:Fx K "tree_of" Q6
 q24:Fx K "label_at" Q7
 q25:Fx K "first_hider" Q8
 q26:Fx K "seen_ways" O0
 q27:Fx K "look_for" Q9
 q28:Fx K "first_owed" Ra
 q29:Fx K "telling_at" Rb
 q30:Fx K "first_open" Rc
 q31:Fx K "meaning" Re
 q32:Fx K "met" MK
 q33:Fx K "owed_behind" Rf
 q34:Fx K "look_up" Rg
 q35:Fx K "find" Rh
 q36:Fx K "_law_same" Nd
 q37:Fx K "_law_meant" Ri
 q38:Fx K "_law_end" O1
 q39:Fx K "trail" O3
 q40:Fx K "of_sort" Rj
 q41:Fx K "of_answer" Rk
 q42:Fx K "of_steps" Rl
 q43:Fx K "of_tellings" Rm
 q44:Fx K "questions_of" Rn
 q45:Fx K "used" Ro
 q46:Fx K "_law_used" O4
 q47:Fx K "law" IL
 z_all:nsIn K mainGlobals "all" = some none
 z_any:nsIn K mainGlobals "any" = some none
 z_bool:nsIn K mainGlobals "bool" = some none
 z_dict:nsIn K mainGlobals "dict" = some none
 z_enumerate:nsIn K mainGlobals "enumerate" = some none
 z_int:nsIn K mainGlobals "int" = some none
 z_isinstance:nsIn K mainGlobals "isinstance" = some none
 z_len:nsIn K mainGlobals "len" = some none
 z_list:nsIn K mainGlobals "list" = some none
 z_min:nsIn K mainGlobals "min" = some none
 z_range:nsIn K mainGlobals "range" = some none
 z_set:nsIn K mainGlobals "set" = some none
 z_sorted:nsIn K mainGlobals "sorted" = some none
 z_str:nsIn K mainGlobals "str" = some none
 z_tuple:nsIn K mainGlobals "tuple" = some none
 z_zip:nsIn K mainGlobals "zip" = some none
 y_MOST_BEGINNINGS:∃t,nsIn K mainGlobals "MOST_BEGINNINGS" = some (some (.int 200 t))
theorem Hj(w:World):Option.map (λs=>Fast.tw4187177175401517315 view [] (Fast.tw5923862056798008813 PySem.Challenge.pw_namepaths_k33_owed_ways.main.body) (λs=>xlAt view [] s && recOk [] s) true s) (GR PySem.Challenge.pw_namepaths_k33_owed_ways w 40000)=some (openGood view []):=by kernel_rfl
end K33
abbrev A' := List (PySem.Str × PySem.Str)
abbrev B' := List (PySem.Addr × PySem.Obj)
abbrev C' := Option (PySem.Str × Int)
abbrev I' := PySem.Value → PySem.Shared → Prop
local macro_rules | `(tactic| lia) => `(tactic| omega)
local macro_rules | `(tactic| cbv) => `(tactic| try dsimp only)
set_option tactic.hygienic false
section
open PySem PySem.W PyProof.Rows
local macro_rules | `(tactic| o_head $H:term) => `(tactic| refine holds_open (q := K33.view) (loose := []) (Xt := fun s => xlAt K33.view [] s && recOk [] s) (XP := XL K33.view []) (Yf := Hook.obs $H) (Ya := Hook.val $H) (YP := Hook.says $H) (N := 40000) ?hl (Hook.of $H) (Hook.keeps $H) (fun s e => xl_of s (Bool.and_eq_true_iff.mp e).1) XL.keeps (by rfl) (by rfl) (by rfl) (fun s e => recFacts_of (Bool.and_eq_true_iff.mp e).2) (by rfl) (by first | assumption | decide +kernel) (by decide +kernel) ⟨rfl, rfl, rfl, rfl, rfl, by decide +kernel⟩ ?hw ?hc)
set_option maxHeartbeats 0 in
theorem K33.hd(a:∀K:Params->Frag,(∀w:World,K33.Kk (K w.params))->∀(YP:World->Heap->Prop)(d:DefRec),d.params.defaults=[]->d.name = "law" -> (∀(w:World)(h:Heap),YP w h->(K w.params).In h)->WalkO K33.view [] (XL K33.view []) YP PySem.Challenge.rw_namepaths_k33_owed_ways.row.toRowW d [] (λf vs=>PySem.call f vs)):PySem.Challenge.rw_namepaths_k33_owed_ways.Holds:=by
 w_on;o_law;k_head
 case hl =>
  refine L2.IJ K33.Hj λw=>?_
  kernel_rfl
 case hw=>w_witness2
 k_fill
 refine a _ (λw=>?fx) _ _ rfl rfl (λw h Y=>PySem.W.kIn_of Y)
 case fx =>
  refine' ⟨K33.Ay ?a0 ?l0 ?c0 ?k0,K33.Ay ?a1 ?l1 ?c1 ?k1,K33.Ay ?a2 ?l2 ?c2 ?k2,K33.Ay ?a3 ?l3 ?c3 ?k3,K33.Ay ?a4 ?l4 ?c4 ?k4,K33.Ay ?a5 ?l5 ?c5 ?k5,K33.Ay ?a6 ?l6 ?c6 ?k6,K33.Ay ?a7 ?l7 ?c7 ?k7,K33.Ay ?a8 ?l8 ?c8 ?k8,K33.Ay ?a9 ?l9 ?c9 ?k9,K33.Ay ?a10 ?l10 ?c10 ?k10,K33.Ay ?a11 ?l11 ?c11 ?k11,K33.Ay ?a12 ?l12 ?c12 ?k12,K33.Ay ?a13 ?l13 ?c13 ?k13,K33.Ay ?a14 ?l14 ?c14 ?k14,K33.Ay ?a15 ?l15 ?c15 ?k15,K33.Ay ?a16 ?l16 ?c16 ?k16,K33.Ay ?a17 ?l17 ?c17 ?k17,K33.Ay ?a18 ?l18 ?c18 ?k18,K33.Ay ?a19 ?l19 ?c19 ?k19,K33.Ay ?a20 ?l20 ?c20 ?k20,K33.Ay ?a21 ?l21 ?c21 ?k21,K33.Ay ?a22 ?l22 ?c22 ?k22,K33.Ay ?a23 ?l23 ?c23 ?k23,K33.Ay ?a24 ?l24 ?c24 ?k24,K33.Ay ?a25 ?l25 ?c25 ?k25,K33.Ay ?a26 ?l26 ?c26 ?k26,K33.Ay ?a27 ?l27 ?c27 ?k27,K33.Ay ?a28 ?l28 ?c28 ?k28,K33.Ay ?a29 ?l29 ?c29 ?k29,K33.Ay ?a30 ?l30 ?c30 ?k30,K33.Ay ?a31 ?l31 ?c31 ?k31,K33.Ay ?a32 ?l32 ?c32 ?k32,K33.Ay ?a33 ?l33 ?c33 ?k33,K33.Ay ?a34 ?l34 ?c34 ?k34,K33.Ay ?a35 ?l35 ?c35 ?k35,K33.Ay ?a36 ?l36 ?c36 ?k36,K33.Ay ?a37 ?l37 ?c37 ?k37,K33.Ay ?a38 ?l38 ?c38 ?k38,K33.Ay ?a39 ?l39 ?c39 ?k39,K33.Ay ?a40 ?l40 ?c40 ?k40,K33.Ay ?a41 ?l41 ?c41 ?k41,K33.Ay ?a42 ?l42 ?c42 ?k42,K33.Ay ?a43 ?l43 ?c43 ?k43,K33.Ay ?a44 ?l44 ?c44 ?k44,K33.Ay ?a45 ?l45 ?c45 ?k45,K33.Ay ?a46 ?l46 ?c46 ?k46,K33.Ay ?a47 ?l47 ?c47 ?k47,?z_all,?z_any,?z_bool,?z_dict,?z_enumerate,?z_int,?z_isinstance,?z_len,?z_list,?z_min,?z_range,?z_set,?z_sorted,?z_str,?z_tuple,?z_zip,K33.Rp ?y_MOST_BEGINNINGS⟩
  case a0|l0|c0|k0|a1|l1|c1|k1|a2|l2|c2|k2|a3|l3|c3|k3|a4|l4|c4|k4|a5|l5|c5|k5|a6|l6|c6|k6|a7|l7|c7|k7|a8|l8|c8|k8|a9|l9|c9|k9|a10|l10|c10|k10|a11|l11|c11|k11|a12|l12|c12|k12|a13|l13|c13|k13|a14|l14|c14|k14|a15|l15|c15|k15|a16|l16|c16|k16|a17|l17|c17|k17|a18|l18|c18|k18|a19|l19|c19|k19|a20|l20|c20|k20|a21|l21|c21|k21|a22|l22|c22|k22|a23|l23|c23|k23|a24|l24|c24|k24|a25|l25|c25|k25|a26|l26|c26|k26|a27|l27|c27|k27|a28|l28|c28|k28|a29|l29|c29|k29|a30|l30|c30|k30|a31|l31|c31|k31|a32|l32|c32|k32|a33|l33|c33|k33|a34|l34|c34|k34|a35|l35|c35|k35|a36|l36|c36|k36|a37|l37|c37|k37|a38|l38|c38|k38|a39|l39|c39|k39|a40|l40|c40|k40|a41|l41|c41|k41|a42|l42|c42|k42|a43|l43|c43|k43|a44|l44|c44|k44|a45|l45|c45|k45|a46|l46|c46|k46|a47|l47|c47|k47|z_all|z_any|z_bool|z_dict|z_enumerate|z_int|z_isinstance|z_len|z_list|z_min|z_range|z_set|z_sorted|z_str|z_tuple|z_zip|y_MOST_BEGINNINGS=>k_is
end
set_option Elab.async false
set_option linter.all false
set_option maxRecDepth 100000
namespace L2
open PySem PySem.Spec PyProof.Rows
abbrev Br:=Sum Int Str
def ML:Br->Value->Bool
 |.inl k,v=>Value.isInt k v
 |.inr x,v=>Value.isStrOf x v
def Rq (w:World):Br->Int
 |.inl k=>hashInt k
 |.inr x=>hashStr w x
theorem IM:∀{k:Br}{v:Value},ML k v=true->(∃i t,k=Sum.inl i/\v=Value.int i t)\/(∃x t,k=Sum.inr x/\v=Value.str x t)
 |.inl i,v,h=>by
   obtain⟨t,e⟩:=Value.isInt_shape (k:=i) (v:=v) h;exact .inl ⟨i,t,rfl,e⟩
 |.inr x,v,h=>by
   obtain⟨t,e⟩:=Value.isStrOf_shape (x:=x) (v:=v) h;exact .inr ⟨x,t,rfl,e⟩
def Xf(i:Int)(t:Tok):ML (.inl i) (.int i t)=true:=by simp[ML,Value.isInt]
def Xg(x:Str)(t:Tok):ML (.inr x) (.str x t)=true:=by simp[ML,Value.isStrOf]
def K3(a b:Int):decide ((Sum.inl a:Br)=Sum.inl b)=(a==b):=by
 by_cases e:a=b;subst e;simp;have h:¬(Sum.inl a:Br)=Sum.inl b:=λq=>e (Sum.inl.inj q);rw[En h];exact(beq_eq_false_iff_ne.mpr e).symm
def K4(a b:Str):decide ((Sum.inr a:Br)=Sum.inr b)=decide (a=b):=by
 by_cases e:a=b;subst e;simp;have h:¬(Sum.inr a:Br)=Sum.inr b:=λq=>e (Sum.inr.inj q);rw[En h,En e]
def K5(a:Int)(b:Str):decide ((Sum.inl a:Br)=Sum.inr b)=false:=En (λq=>nomatch q)
def K6(a:Str)(b:Int):decide ((Sum.inr a:Br)=Sum.inl b)=false:=En (λq=>nomatch q)
def FE (prog:Program) (w:World):PySem.KeyKind prog w Br where
 is:=ML
 hash:=Rq w
 inj:=λv a b ha hb=>by
  rcases IM ha with⟨i,t,rfl,rfl⟩|⟨x,t,rfl,rfl⟩;rcases IM hb with⟨j,u,rfl,e⟩|⟨y,u,rfl,e⟩;injection e with e1 _;rw[e1];exact nomatch e;rcases IM hb with⟨j,u,rfl,e⟩|⟨y,u,rfl,e⟩;exact nomatch e;injection e with e1 _;rw[e1]
 byValue:=λk v h=>by
  rcases IM h with⟨i,t,rfl,rfl⟩|⟨x,t,rfl,rfl⟩<;>rfl
 pyHash:=λhv h=>by
  rcases IM hv with⟨i,t,rfl,rfl⟩|⟨x,t,rfl,rfl⟩;exact wpAny_pyHash_int h;exact wpAny_pyHash_str h
 eqBool:=λhu hv h=>by
  rcases IM hu with⟨i,t,rfl,rfl⟩|⟨x,t,rfl,rfl⟩;rcases IM hv with⟨j,u,rfl,rfl⟩|⟨y,u,rfl,rfl⟩;rw[K3] at h;exact wpAny_eqBool_int h;rw[K5] at h;exact SeqAt.EqAt.int_str i t y u _ _ _ _ h;rcases IM hv with⟨j,u,rfl,rfl⟩|⟨y,u,rfl,rfl⟩;rw[K6] at h;exact SeqAt.EqAt.str_int x t j u _ _ _ _ h;rw[K4] at h;exact wpAny_eqBool_str h
 «strs»:=λk x t v h=>by
  rcases IM h with⟨i,u,rfl,e⟩|⟨y,u,rfl,e⟩;exact nomatch e;injection e with e1 _;subst e1;cases v<;>rfl
def Xh(prog:Program)(w:World)(i:Int)(t:Tok):(FE prog w).is (.inl i) (.int i t)=true:=Xf i t
def Xi(prog:Program)(w:World)(x:Str)(t:Tok):(FE prog w).is (.inr x) (.str x t)=true:=Xg x t
inductive V where
 |non|bl (b:Bool)|int (i:Int)|str (x:Str)|byt (b:Array UInt8)|flt (b:UInt64)|ref (a:Addr)|ty (n:String)
 deriving DecidableEq
def RelV:V->Value->Prop
 |.non,u=>u=Value.none
 |.bl b,u=>u=Value.bool b
 |.int i,u=>∃t,u=Value.int i t
 |.str x,u=>∃t,u=Value.str x t
 |.byt b,u=>∃t,u=Value.bytes b t
 |.flt b,u=>∃t,u=Value.float b t
 |.ref a,u=>u=Value.ref a
 |.ty n,u=>u=Value.type n
abbrev Ax:List V->List Value->Prop:=Paired RelV
def Ax.length{xs:List V}{a:List Value}(r:Ax xs a):xs.length=a.length:=Paired.length r
theorem Ax.get:∀{xs:List V}{a:List Value}{i:Nat}{x:V},Ax xs a->xs[i]?=some x->∃u,a[i]?=some u/\RelV x u
 |_,_,_,_,.nil,e=>by simp at e
 |_,_,0,_,.cons r _,e=>by simp at e;subst e;exact⟨_,rfl,r⟩
 |_,_,i+1,x,.cons _ t,e=>by
   obtain⟨u,b,c⟩:=Ax.get (i:=i) (x:=x) t (by simpa using e);exact⟨u,by simpa using b,c⟩
theorem Ax.set{x:V}{u:Value}(r:RelV x u):∀{xs:List V}{a:List Value}(i:Nat),Ax xs a->Ax (xs.set i x) (a.set i u)
 |_,_,_,.nil=>.nil
 |_,_,0,.cons _ t=>.cons r t
 |_,_,i+1,.cons q t=>.cons q (Ax.set r i t)
theorem Ax.append:∀{xs ys:List V}{a ws:List Value},Ax xs a->Ax ys ws->Ax (xs++ys) (a++ws)
 |_,_,_,_,.nil,s=>s
 |_,_,_,_,.cons r t,s=>.cons r (Ax.append t s)
theorem Ax.take:∀{xs:List V}{a:List Value}(n:Nat),Ax xs a->Ax (xs.take n) (a.take n)
 |_,_,0,_=>.nil
 |_,_,_+1,.nil=>.nil
 |_,_,n+1,.cons r t=>.cons r (Ax.take n t)
theorem Ax.drop:∀{xs:List V}{a:List Value}(n:Nat),Ax xs a->Ax (xs.drop n) (a.drop n)
 |_,_,0,r=>r
 |_,_,_+1,.nil=>.nil
 |_,_,n+1,.cons _ t=>Ax.drop n t
def Ed:Option V->Option Value->Prop
 |some v,some u=>RelV v u
 |none,none=>True
 |_,_=>False
def KV {κ:Type}:List (κ×V)->List (κ×Value)->Prop:=Paired λ(p:κ×V)(q:κ×Value)=>p.1=q.1/\RelV p.2 q.2
def kV:Br->V
 |.inl i=>.int i
 |.inr x=>.str x
inductive HO where
 |lst (xs:List V)
 |tup (xs:List V)
 |dK (kvs:List (Br×V))|dT (kvs:List (List Br×V))
 |set (S:Int->Bool) (n:Nat)
 |ins (C dx:Addr) (fs:List (Str×V))
 |own (x:Addr)
 |xd (fs:List (Str×V))
 |met (f x:Addr)
 |rng (lo hi:Int)
 |frz (o:Obj) (u:HO)
 |tbl (ps:Array Value)
 |ext (φ:Heap->Prop)
abbrev Hp:=Addr->Option HO
def upd (H:Hp) (a:Addr) (o:HO):Hp:=λb=>if b=a then some o else H b
variable {H:Hp}{a:Addr}{o:HO}
def Aa:upd H a o a=some o:=by unfold upd;rw[Au rfl]
variable {b:Addr}
def AH(h:b≠a):upd H a o b=H b:=by unfold upd;rw[At h]
variable {u:HO}
def IP:upd (upd H a o) a u=upd H a u:=by
 funext b;unfold upd;split<;>rfl
def Nf(h:H a=some o)(h':H b=some u)(d:o≠u):a≠b:=by
 intro e;subst e;rw[h] at h';exact d (BS h')
def AV(h:H a=some o)(h':H b=none):a≠b:=by
 intro e;subst e;rw[h] at h';cases h'
section
variable (P:Program) (w:World)
def AE (H:Hp) (h:Heap) (a:Addr):HO->Prop
 |.lst xs=>xs.length<=sizeLine/\∃(its:List Value)(n:Nat),Ax xs its/\h.get? a=some {cls:=.type "list",data:=.seq its.toArray n}
 |.tup xs=>xs.length<=sizeLine/\∃its:List Value,Ax xs its/\IsTup h a its.toArray
 |.dK kvs=>kvs.length<=sizeLine/\(a==sysModules)=false/\∃vs,KV kvs vs/\h.DictOf (FE P w) a vs
 |.dT kvs=>kvs.length<=sizeLine/\(a==sysModules)=false/\∃xs:List (List Br×Addr×Value),
  Paired (λ(p:List Br×V)(q:List Br×Addr×Value)=>p.1=q.1/\H q.2.1=some (.tup (p.1.map kV))/\RelV p.2 q.2.2) kvs xs /\
  ∃o es ep,h.get? a=some o/\o.ExactDict/\o.data=.dict es ep/\es.toList=xs.map (entryOfKey (tupleKind (FE P w)))/\(xs.map (·.1)).Nodup
 |.set S n=>h.SetOf (intKind P w) a S n
 |.ins C dx fs=>H dx=some (.own a)/\fs.length<=1000/\dx≠a/\h.get? a=some (PySem.W.instObj C dx) /\
  ∃mA,h.Ns1 dx mA/\(∀f,Ed (fs.lookup f) (mA f))/\PySem.Within mA (fs.map (·.1))
 |.own _=>∃o,h.get? a=some o
 |.xd fs=>∃mA,h.Ns1 a mA/\∀f,Ed (fs.lookup f) (mA f)
 |.rng lo hi=>∃t u v,h.get? a=some {cls:=.type "range",data:=.fields #[.int lo t,.int hi u,.int 1 v]}
 |.frz o u=>h.get? a=some o/\AE H h a u
 |.tbl ps=>h.get? a=some {cls:=.none,data:=.fields ps}
 |.met f x=>h.get? a=some (PySem.W.methodObj (.ref f) (.ref x))
 |.ext φ=>φ h/\(∃o,h.get? a=some o)/\∀h1 h2:Heap,φ h1->(∀o,h1.get? a=some o->h2.get? a=some o)->φ h2
def Dc (H:Hp) (h:Heap):Prop:=∀a o,H a=some o->AE P w H h a o
end
section
variable {P:Program} {w:World} {H H':Hp} {h h':Heap} {a:Addr} {o:HO}
def AE.lt(x:AE P w H h a o):a<h.objs.size:=by
 cases o with
 |lst b=>obtain⟨_,_,_,_,e⟩:=x;exact Bh e
 |tup b=>obtain⟨_,_,_,p⟩:=x;exact p.lt
 |dK c=>obtain⟨_,_,_,_,o,_,_,e,_⟩:=x;exact Bh e
 |dT c=>obtain⟨_,_,_,_,o,_,_,e,_⟩:=x;exact Bh e
 |set S n=>obtain⟨o,_,_,_,e,_⟩:=x;exact Bh e
 |ins C d fs=>obtain⟨_,_,_,e,_⟩:=x;exact Bh e
 |own y=>obtain⟨_,e⟩:=x;exact Bh e
 |xd fs=>obtain⟨_,⟨_,_,_,e,_⟩,_⟩:=x;exact Bh e
 |rng lo g=>obtain⟨_,_,_,e⟩:=x;exact Bh e
 |frz i u=>obtain⟨e,_⟩:=x;exact Bh e
 |tbl j=>exact Bh (show h.get? a=some _ from x)
 |met f y=>exact Bh (show h.get? a=some _ from x)
 |ext φ=>obtain⟨_,⟨_,e⟩,_⟩:=x;exact Bh e
theorem Paired.mapP{α β:Type}{F G:α->β->Prop}:∀{c:List α}{l₂:List β},Paired F c l₂->(∀a b,F a b->G a b)->Paired G c l₂
 |_,_,.nil,_=>.nil
 |_,_,.cons r t,f=>.cons (f _ _ r) (Paired.mapP t f)
def AE.stay(x:AE P w H h a o)(k:∀b u,(b=a\/H b=some (.own a))->h.get? b=some u->h'.get? b=some u)
 (B:∀b,H b=some (.own a)->H' b=some (.own a)) (D:∀b xs,H b=some (.tup xs)->H' b=some (.tup xs)):AE P w H' h' a o:=by
 induction o with
 |lst xs=>obtain⟨z,m,n,r,e⟩:=x;exact⟨z,m,n,r,k _ _ (.inl rfl) e⟩
 |tup xs=>obtain⟨z,m,r,g,e,c⟩:=x;exact⟨z,m,r,g,k _ _ (.inl rfl) e,c⟩
 |dK I=>obtain⟨z,y,E,r,g,i,j,e,c⟩:=x;exact⟨z,y,E,r,g,i,j,k _ _ (.inl rfl) e,c⟩
 |dT I =>
   obtain⟨z,y,xs,r,g,i,j,e,c⟩:=x;exact⟨z,y,xs,Paired.mapP r λp q z=>⟨z.1,D _ _ z.2.1,z.2.2⟩,g,i,j,k _ _ (.inl rfl) e,c⟩
 |set S n=>obtain⟨g,i,j,t,e,c⟩:=x;exact⟨g,i,j,t,k _ _ (.inl rfl) e,c⟩
 |ins C J fs =>
   obtain⟨d,z,ne,e,mA,⟨l,i,j,F,c⟩,r⟩:=x;exact⟨B _ d,z,ne,k _ _ (.inl rfl) e,mA,⟨l,i,j,k _ _ (.inr d) F,c⟩,r⟩
 |own y=>obtain⟨g,e⟩:=x;exact⟨g,k _ _ (.inl rfl) e⟩
 |xd fs=>obtain⟨mA,⟨l,i,j,e,c⟩,r⟩:=x;exact⟨mA,⟨l,i,j,k _ _ (.inl rfl) e,c⟩,r⟩
 |rng lo K=>obtain⟨t,u,v,e⟩:=x;exact⟨t,u,v,k _ _ (.inl rfl) e⟩
 |frz g u G=>obtain⟨e,q⟩:=x;exact⟨k _ _ (.inl rfl) e,G q⟩
 |tbl s =>
   have e:h.get? a=some {cls:=.none,data:=.fields s}:=x;show h'.get? a=some {cls:=.none,data:=.fields s};exact k a _ (.inl rfl) e
 |met f y =>
   have e:h.get? a=some (PySem.W.methodObj (.ref f) (.ref y)):=x;show h'.get? a=some (PySem.W.methodObj (.ref f) (.ref y));exact k a _ (.inl rfl) e
 |ext φ=>obtain⟨p,⟨o,e⟩,A⟩:=x;exact⟨A _ _ p λo q=>k _ _ (.inl rfl) q,⟨o,k _ _ (.inl rfl) e⟩,A⟩
def Dc.lt(x:Dc P w H h)(e:H a=some o):a<h.objs.size:=(x a o e).lt
def Dc.fresh(x:Dc P w H h)(e:h.objs.size<=a):H a=none:=by
 cases q:H a with
 |none=>rfl
 |some u=>exact absurd (FC (x.lt q) e) (G6 _)
def Dc.kept(x:Dc P w H h)(k:∀b u,h.get? b=some u->h'.get? b=some u):Dc P w H h':=λa o e =>
 (x a o e).stay (λb u ζ q=>k b u q) (λζ q=>q) λζ ζ q=>q
def Dc.laid(x:Dc P w H h)(k:∀b u,h.get? b=some u->h'.get? b=some u)(g:h.objs.size<=a)(i:AE P w (upd H a o) h' a o):Dc P w (upd H a o) h':=λb u e=>by
 have d:=x.fresh g;by_cases f:b=a;subst f;rw[Aa] at e;cases e;exact i;rw[AH f] at e;exact(x b u e).stay (λc v ζ q=>k c v q) (λc q=>by rw[AH (AV q d)];exact q) λc j q=>by rw[AH (AV q d)];exact q
end
def Rd (H:Hp) (a:Addr) (u:HO):Prop:=H a=some u\/∃o,H a=some (.frz o u)
variable {P:Program}{w:World}{h:Heap}
def Rd.ok(r:Rd H a u)(x:Dc P w H h):AE P w H h a u:=by
 rcases r with r|⟨o,r⟩;exact x a u r;obtain⟨_,q⟩:=x a _ r;exact q
def Ng:Option HO->Prop
 |some (.lst _)=>True
 |some (.dK _)=>True
 |some (.dT _)=>True
 |some (.set _ _)=>True
 |some (.ins _ _ _)=>True
 |some (.ext _)=>True
 |_=>False
section
variable {P:Program} {w:World} {H:Hp} {h h':Heap} {x e:Addr} {o':HO}
def Dc.write(ok:Dc P w H h)(a:Ng (H x))(j:e=x\/H e=some (.own x))(k:∀b u,b≠e->h.get? b=some u->h'.get? b=some u)(o:∃u,h'.get? e=some u)
 (p:AE P w (upd H x o') h' x o'):Dc P w (upd H x o') h':=λb u q=>by
 have m:∀c y,H c=some (.own y)->c≠x:=λc y r z=>by subst z;rw[r] at a;exact a
 have s:∀c d,H c=some (.tup d)->c≠x:=λc d r z=>by subst z;rw[r] at a;exact a
 by_cases f:b=x;subst f;rw[Aa] at q;cases q;exact p;rw[AH f] at q;by_cases i:b=e
 have l:H b=some (.own x):=by
  rcases j with z|z;exact absurd (i.trans z) f;rw[i];exact z
 rw[q] at l;cases l;obtain⟨v,n⟩:=o;exact⟨v,by rw[i];exact n⟩;refine(ok b u q).stay (λc v g r=>k c v ?_ r) (λc r=>by rw[AH (m c b r)];exact r) λc d r=>by rw[AH (s c d r)];exact r
 rcases g with rfl|g;exact i;rintro rfl;rcases j with z|z;exact m c b g z;rw[g] at z;cases z;exact f rfl
end
structure Un (fs ex:List Addr) (H H':Hp) (h h':Heap):Prop where
 keep:∀b o,h.get? b=some o->H b=none->b∉fs->b∉ex->h'.get? b=some o
 slot:∀b o,h.get? b=some o->H b=none->b∈fs->b∉ex->∃sl,h'.get? b=some {o with slots:=sl}
 free:∀b o,h.get? b=some o->H b=none->b∉ex->H' b=none
 there:∀b o,h.get? b=some o->b∉ex->∃o',h'.get? b=some o'
 tups:∀b xs,H b=some (.tup xs)->H' b=some (.tup xs)
 frzs:∀b o u,H b=some (.frz o u)->H' b=some (.frz o u)
 tbls:∀b ps,H b=some (.tbl ps)->∃more,H' b=some (.tbl (ps++more))
section
variable {fs fs' ex ex':List Addr} {H U Y:Hp} {h h1 h2 h':Heap} {a x e:Addr} {o:HO}
def Un.any(u:Un fs ex H U h h1){ob:Obj}(q:h.get? b=some ob)(n:H b=none)(a:b∉ex):∃d,h1.get? b=some {ob with slots:=d}:=by
 by_cases c:b∈fs;exact u.slot b ob q n c a;exact⟨ob.slots,u.keep b ob q n c a⟩
def Un.kept(k:∀b u,h.get? b=some u->h'.get? b=some u):Un fs ex H H h h':=
 ⟨λb a q ζ ζ ζ=>k b a q,λb a q ζ ζ ζ=>⟨a.slots,k b a q⟩,λζ ζ ζ n ζ=>n,λb a q ζ=>⟨a,k b a q⟩,λζ ζ q=>q,λζ ζ ζ q=>q,λζ c q=>⟨#[],by rw[q];simp⟩⟩
def Un.refl:Un fs ex H H h h:=Un.kept λζ ζ q=>q
def Un.laid(k:∀b u,h.get? b=some u->h'.get? b=some u)(d:h.objs.size<=a)(c:H a=none):Un fs ex H (upd H a o) h h' where
 keep:=λb u q ζ ζ ζ=>k b u q
 slot:=λb u q ζ ζ ζ=>⟨u.slots,k b u q⟩
 free:=λb u q n ζ=>by rw[AH (CN (FC (Bh q) d))];exact n
 there:=λb u q ζ=>⟨u,k b u q⟩
 tups:=λb e q=>by rw[AH (AV q c)];exact q
 frzs:=λb u e q=>by rw[AH (AV q c)];exact q
 tbls:=λb f q=>⟨#[],by rw[AH (AV q c),q];simp⟩
def Un.write(a:Ng (H x))(i:e=x\/H e=some (.own x))(k:∀b u,b≠e->h.get? b=some u->h'.get? b=some u)(m:∃u,h'.get? e=some u):Un fs ex H (upd H x o) h h':=by
 have d:∀b,H b=none->b≠x:=λb n z=>by subst z;rw[n] at a;exact a
 have f:∀b,H b=none->b≠e:=λb n z=>by
  subst z;rcases i with r|r;exact d b n r;rw[n] at r;cases r
 have c:∀b u,H b=some u->¬Ng (some u)->b≠x:=λb u q j z=>by subst z;rw[q] at a;exact j a
 refine⟨λb u q n ζ ζ=>k b u (f b n) q,λb u q n ζ ζ=>⟨u.slots,k b u (f b n) q⟩,λb u q n ζ=>by rw[AH (d b n)];exact n,λb u q ζ=>?_,
  λb l q=>by rw[AH (c b _ q λz=>z)];exact q,λb u l q=>by rw[AH (c b _ q λz=>z)];exact q,λb p q=>⟨#[],by rw[AH (c b _ q λz=>z),q];simp⟩⟩
 by_cases g:b=e;subst g;exact m;exact⟨u,k b u g q⟩
end
def MM (h:Heap) (H:Hp):List Addr:=(List.range h.objs.size).filter λa=>(H a).isSome
def Fm (h:Heap) (H:Hp):Heap:=PySem.W.hideAll h (MM h H)
def Xj(h:Heap)(H:Hp):(Fm h H).objs.size=h.objs.size:=PySem.W.hideAll_size _ _
def Xk{o:Obj}(e:h.get? b=some o)(n:H b=none):(Fm h H).get? b=some o:=
 PySem.W.hideAll_get _ e λa=>by
  have q:(H b).isSome=true:=(Nb.mp a).2;rw[n] at q;simp at q
def IQ{o:Obj}(e:(Fm h H).get? b=some o):h.get? b=some o/\H b=none:=by
 have a:h.get? b=some o:=PySem.W.of_hideAll (MM h H) e;refine⟨a,?_⟩
 cases q:H b with
 |none=>rfl
 |some x =>
   have c:b∈MM h H:=Nb.mpr ⟨List.mem_range.mpr (Bh a),by simp[q]⟩;have z:(Fm h H).get? b=none:=PySem.W.hideAll_none (MM h H) c;rw[z] at e;cases e
structure Mod (K:Aj) (mg:Str->Option Value) (base:Heap):Prop where
 kin:K.In base
 glob:base.Ns mainGlobals mg
 blt:∃mb,base.Ns builtinsNs mb/\∀x:Str,x ≠ "__name__" -> mb x=bootBuiltins x
 nolimit:base.NoLimit
structure Cx where
 prog:Program
 w:World
 K:Aj
 mg:Str->Option Value
 base:Heap
 A:Around
 N:List Str
 s₀:Shared
 H₀:Hp
 env:Env
 outer:List Env
 stack:List Env
 ex:List Addr
 fn:Str->Bool
 calm:Bool
 pn:B'
 xe:Value->Shared->Prop
def Fb (l:List Env):List Addr:=l.filterMap (·.frame)
abbrev Cx.fs (X:Cx):List Addr:=Fb X.outer
def O5 (sc:Scope) (x:Str):Prop:=sc.names.lookup x=some .local\/sc.names.lookup x=some .cell\/sc.names.lookup x=some .free
def Loc (sc:Scope) (x:Str):Prop:=sc.names.lookup x=some .local\/sc.names.lookup x=some .cell
def Look (env:Env) (h:Heap) (m:Str->Option Value) (x:Str) (u:Value):Prop:=
 (env.kindOf x=some .local/\m x=some u)\/((env.kindOf x=some .cell\/env.kindOf x=some .free)/\∃c,env.cells.lookup x=some c/\h.IsCell c (some u))
structure Cx.Ok (X:Cx):Prop where
 mod:Mod X.K X.mg X.base
 kind:X.env.scope.kind=.function
 glob:X.env.globals=mainGlobals
 blt:X.env.builtins=builtinsNs
 above:X.s₀.heap.objs.size<=X.env.locals
 inj:∀x y c,X.env.cells.lookup x=some c->X.env.cells.lookup y=some c->x=y
 has:∀x,(X.env.kindOf x=some .cell\/X.env.kindOf x=some .free)->∃c,X.env.cells.lookup x=some c
 cab:∀x c,X.fn x=true->X.env.cells.lookup x=some c->X.s₀.heap.objs.size<=c
 hd:X.calm=true->X.A.handled=none
 frames:X.A.frames=some X.stack
 stk:X.stack=X.outer\/(X.stack=X.env::X.outer/\X.env.frame=some X.env.locals)
 exf:∀b∈X.ex,b≠X.env.locals/\∀x c,X.env.cells.lookup x=some c->c≠b
 bs:∀b o,X.base.get? b=some o->X.s₀.heap.get? b=some o/\X.H₀ b=none
 bsz:X.base.objs.size<=X.s₀.heap.objs.size
 noex:∀b o,X.base.get? b=some o->b∉X.ex
 exfs:∀b∈X.ex,b∉X.fs
 funs:X.s₀.heap.FunFrames X.base X.outer
 frf:∀b∈X.fs,X.H₀ b=none
structure Inv (X:Cx) (pins:B') (σ:List (Option V)) (H:Hp) (s:Shared):Prop where
 ok:X.Ok
 os:s.os=X.s₀.os
 bare:AllBare s.gens
 base:Un X.fs X.ex X.H₀ H X.s₀.heap s.heap
 loc:∃m,s.heap.Ns X.env.locals m/\∀(i:Nat)(x:Str)(v:V),X.N[i]?=some x->σ[i]?=some (some v)->O5 X.env.scope x->∃u,RelV v u/\Look X.env s.heap m x u
 cell:∀x c,X.env.cells.lookup x=some c->∃v,s.heap.IsCell c v
 free:H X.env.locals=none
 freeC:∀x c,X.env.cells.lookup x=some c->H c=none
 pin:∀p∈X.pn++pins,s.heap.get? p.1=some p.2/\H p.1=none/\p.1≠X.env.locals/\p.1∉X.fs/\∀v,p.2.data≠.cell v
 hok:Dc X.prog X.w H s.heap
 len:σ.length=X.N.length
section
variable {X:Cx} {pins:B'} {σ:List (Option V)} {H H':Hp} {s:Shared} {h':Heap}
def Cx.Ok.nofr(ok:X.Ok){o:Obj}(e:X.base.get? b=some o):b∉X.fs:=λa=>by
 have:=(ok.funs.mem a).1;rw[e] at this;cases this
def Inv.bs(I:Inv X pins σ H s):∀b o,X.base.get? b=some o->s.heap.get? b=some o/\H b=none:=λb o e =>
 ⟨I.base.keep b o (I.ok.bs b o e).1 (I.ok.bs b o e).2 (I.ok.nofr e) (I.ok.noex b o e),I.base.free b o (I.ok.bs b o e).1 (I.ok.bs b o e).2 (I.ok.noex b o e)⟩
def Inv.bk(I:Inv X pins σ H s):∀b o,X.base.get? b=some o->s.heap.get? b=some o:=λb o e=>(I.bs b o e).1
def Inv.mod(I:Inv X pins σ H s):Mod X.K X.mg X.base:=I.ok.mod
def Inv.kIn(I:Inv X pins σ H s):X.K.In s.heap:=I.ok.mod.kin.keeps I.bk
def Inv.lt(I:Inv X pins σ H s):X.env.locals<s.heap.objs.size:=let ⟨_,a,_⟩:=I.loc;a.lt
def Inv.sz(I:Inv X pins σ H s):X.s₀.heap.objs.size<=s.heap.objs.size:=Fa I.ok.above (CU I.lt)
def Inv.nofs(I:Inv X pins σ H s)(h:s.heap.objs.size<=a):a∉X.fs:=λb=>by
 obtain⟨_,o,c,_⟩:=I.ok.funs.mem b;exact absurd (FC (Bh c) (Fa I.sz h)) (G6 _)
def Inv.cne(I:Inv X pins σ H s):∀x c,X.env.cells.lookup x=some c->c≠X.env.locals:=λx c e z=>by
 obtain⟨v,o,a,hd⟩:=I.cell x c e;obtain⟨m,⟨f,g,h,b,d,_⟩,_⟩:=I.loc;rw[z,b] at a;cases a;rw[d] at hd;cases hd
def Inv.funs(I:Inv X pins σ H s):s.heap.FunFrames X.base X.outer:=by
 have all:∀(l:List Env),(∀b∈Fb l,b∈X.fs)->X.s₀.heap.FunFrames X.base l->s.heap.FunFrames X.base l:=by
  intro l
  induction l with
  |nil=>intro _ _;trivial
  |cons p r g =>
    intro f h;obtain⟨i,⟨L,o,a,j,k,hd⟩,m⟩:=h;have c:L∈X.fs:=f L (by unfold Fb;rw[K2,a];exact BF);obtain⟨n,e⟩:=I.base.slot L o k (I.ok.frf L c) c λz=>I.ok.exfs L z c;exact⟨i,⟨L,_,a,j,e,hd⟩,g (λb d=>f b (by unfold Fb;rw[K2,a];exact Cw _ d)) m⟩
 exact all X.outer (λζ d=>d) I.ok.funs
def Inv.stack(I:Inv X pins σ H s):s.heap.FunFrames X.base X.stack:=by
 rcases I.ok.stk with e|⟨e,a⟩;rw[e];exact I.funs;rw[e];obtain⟨m,b,_⟩:=I.loc;refine .cons (by rw[I.ok.kind];decide) a b ?_ I.funs;exact Heap.get?_none_of_le (Fa I.ok.bsz I.ok.above)
def Inv.stkSub(I:Inv X pins σ H s):∀b∈Fb X.stack,b∈X.env.locals::X.fs:=λb a=>by
 rcases I.ok.stk with e|⟨e,c⟩;rw[e] at a;exact Cw _ a;rw[e] at a;unfold Fb at a;rw[K2,c] at a;exact a
def Inv.stkFree(I:Inv X pins σ H s):∀b∈Fb X.stack,H b=none:=λb a=>by
 rcases BI.mp (I.stkSub b a) with e|a;rw[e];exact I.free;obtain⟨_,o,c,_⟩:=I.ok.funs.mem a;exact I.base.free b o c (I.ok.frf b a) λz=>I.ok.exfs b z a
variable {t':Nat}{ch:List Addr}
def Inv.step{g':Array GenState}{d':Drawn}(I:Inv X pins σ H s)
 (w:∀b∈ch,(b∈X.ex\/X.s₀.heap.objs.size<=b)/\b≠X.env.locals/\(∀x c,X.env.cells.lookup x=some c->c≠b)/\∀p∈X.pn++pins,p.1≠b)
 (keep:∀b o,b≠X.env.locals->b∉X.fs->b∉ch->s.heap.get? b=some o->H b=none->h'.get? b=some o)
 (G:∀b o,b≠X.env.locals->b∈X.fs->b∉ch->s.heap.get? b=some o->H b=none->∃B,h'.get? b=some {o with slots:=B}) (free:∀b o,b∉ch->s.heap.get? b=some o->H b=none->H' b=none)
 (there:∀b o,b∉ch->s.heap.get? b=some o->∃j,h'.get? b=some j)
 (tups:∀b xs,H b=some (.tup xs)->H' b=some (.tup xs)) (T:∀b o u,H b=some (.frz o u)->H' b=some (.frz o u)) (U:∀b ps,H b=some (.tbl ps)->∃more,H' b=some (.tbl (ps++more)))
 (K:∀m,s.heap.Ns X.env.locals m->h'.Ns X.env.locals m) (R:Dc X.prog X.w H' h') (L:AllBare g') :
 Inv X pins σ H' {s with heap:=h',gens:=g',drawn:=d',toks:=t'}:=by
 have F:∀b o,X.s₀.heap.get? b=some o->b≠X.env.locals:=λb o e=>CN (FC (Bh e) I.ok.above)
 have A:∀b o,X.s₀.heap.get? b=some o->b∉X.ex->b∉ch:=λb o e a g=>by
  rcases(w b g).1 with z|z;exact a z;exact absurd (FC (Bh e) z) (G6 _)
 have J:∀x c,X.env.cells.lookup x=some c->∀v,s.heap.IsCell c v->h'.IsCell c v:=λx c e v⟨o,h,hd⟩=>by
  have y:c∉ch:=λz=>(w c z).2.2.1 x c e rfl;by_cases C:c∈X.fs;obtain⟨B,q⟩:=G c o (I.cne x c e) C y h (I.freeC x c e);exact⟨_,q,hd⟩;exact⟨o,keep c o (I.cne x c e) C y h (I.freeC x c e),hd⟩
 refine⟨I.ok,I.os,L,⟨λb o e n g a=>?_,λb o e n g a=>?_,λb o e n a=>?_,λb o e a=>?_,λb xs e=>tups b xs (I.base.tups b xs e),λb o xs e=>T b o xs (I.base.frzs b o xs e),λb ps e=>?_⟩,?_,λx c e=>?_,?_,λx c e=>?_,λp D=>?_,R,I.len⟩;exact keep b o (F b o e) g (A b o e a) (I.base.keep b o e n g a) (I.base.free b o e n a);obtain⟨B,f⟩:=I.base.slot b o e n g a;obtain⟨S,t⟩:=G b _ (F b o e) g (A b o e a) f (I.base.free b o e n a);exact⟨S,t⟩;obtain⟨j,f⟩:=I.base.there b o e a;exact free b j (A b o e a) f (I.base.free b o e n a);obtain⟨j,f⟩:=I.base.there b o e a;exact there b j (A b o e a) f;obtain⟨M,f⟩:=I.base.tbls b ps e;obtain⟨N,t⟩:=U b _ f;exact⟨M++N,by rw[t,Array.append_assoc]⟩;obtain⟨m,O,P⟩:=I.loc;refine⟨m,K m O,λi x v f t Q=>?_⟩;obtain⟨u,r,l⟩:=P i x v f t Q;refine⟨u,r,?_⟩;rcases l with l|⟨k,c,e,z⟩;exact .inl l;exact .inr ⟨k,c,e,J x c e _ z⟩;obtain⟨v,z⟩:=I.cell x c e;exact⟨v,J x c e v z⟩;obtain⟨m,⟨o,_,_,h,_⟩,_⟩:=I.loc;exact free _ o (λz=>(w _ z).2.1 rfl) h I.free;obtain⟨v,o,h,hd⟩:=I.cell x c e;exact free c o (λz=>(w c z).2.2.1 x c e rfl) h (I.freeC x c e);obtain⟨e,n,ne,E,d⟩:=I.pin p D;have y:p.1∉ch:=λz=>(w p.1 z).2.2.2 p D rfl;exact⟨keep p.1 p.2 ne E y e n,free p.1 p.2 y e n,ne,E,d⟩
def Inv.un(I:Inv X pins σ H s)(u:Un X.fs [] H H' s.heap h')(i:Dc X.prog X.w H' h'):Inv X pins σ H' {s with heap:=h',toks:=t'}:=by
 obtain⟨m,⟨o,l,p,c,r⟩,_⟩:=id I.loc;obtain⟨q,f⟩:=u.any c I.free (by simp)
 exact I.step (g':=s.gens) (d':=s.drawn) (ch:=[]) (λζ z=>nomatch z) (λb o ζ a ζ e n=>u.keep b o e n a (by simp)) (λb o ζ a ζ e n=>u.slot b o e n a (by simp)) (λb o ζ e n=>u.free b o e n (by simp)) (λb o ζ e=>u.there b o e (by simp)) u.tups u.frzs u.tbls (λt g=>by
  obtain⟨v,j,k,d,h⟩:=g;rw[c] at d;cases d
  exact⟨_,j,k,f,h⟩) i I.bare
def Inv.call{g':Array GenState}{d':Drawn}(I:Inv X pins σ H s)(u:Un (Fb X.stack) ch H H' s.heap h')(q:Dc X.prog X.w H' h')(i:AllBare g')
 (g:∀b∈ch,(b∈X.ex\/X.s₀.heap.objs.size<=b)/\b≠X.env.locals/\(∀x c,X.env.cells.lookup x=some c->c≠b)/\∀p∈X.pn++pins,p.1≠b) :
 Inv X pins σ H' {s with heap:=h',gens:=g',drawn:=d',toks:=t'}:=by
 obtain⟨m,⟨o,w,y,f,r⟩,_⟩:=id I.loc;obtain⟨A,d⟩:=u.any f I.free λz=>(g _ z).2.1 rfl
 exact I.step (ch:=ch) g (λb o d j a e n=>u.keep b o e n (λz=>(BI.mp (I.stkSub b z)).elim d j) a) (λb o ζ ζ a e n=>u.any e n a) (λb o a e n=>u.free b o e n a) (λb o a e=>u.there b o e a) u.tups u.frzs u.tbls (λB k=>by
  obtain⟨C,t,v,h,l⟩:=k;rw[f] at h;cases h
  exact⟨_,t,v,d,l⟩) q i
def Inv.turned{a:Addr}(I:Inv X pins σ H s)(k:∀b o,b≠a->s.heap.get? b=some o->h'.get? b=some o)(h:H a=none)(f:a≠X.env.locals)
 (i:a∈X.ex\/X.s₀.heap.objs.size<=a) (j:∀x c,X.env.cells.lookup x=some c->c≠a) (l:∀p∈X.pn++pins,p.1≠a):Inv X pins σ H {s with heap:=h',toks:=t'}:=by
 have g:∀b u,H b=some u->b≠a:=λb u e z=>by rw[z,h] at e;cases e
 refine I.step (g':=s.gens) (d':=s.drawn) (ch:=[a]) (λb t=>?_) (λb o ζ ζ d e ζ=>k b o (λz=>d (by simp[z])) e) (λb o ζ ζ d e ζ=>⟨o.slots,k b o (λz=>d (by simp[z])) e⟩) (λζ ζ ζ ζ n=>n)
  (λb o d e=>⟨o,k b o (λz=>d (by simp[z])) e⟩) (λζ ζ e=>e) (λζ ζ ζ e=>e) (λb C e=>⟨#[],by rw[e];simp⟩) (λm w=>?_) (λb u e=>?_) I.bare
 have e:b=a:=(by simpa using t);subst e;exact⟨i,f,j,l⟩;obtain⟨o,y,A,B,r⟩:=w;exact⟨o,y,A,k _ o (Ne.symm f) B,r⟩;refine(I.hok b u e).stay (λc v d q=>k c v ?_ q) (λζ q=>q) λζ ζ q=>q;rcases d with z|z;rw[z];exact g b u e;exact g c _ z
def Inv.tok(I:Inv X pins σ H s)(t:Nat):Inv X pins σ H {s with toks:=t}:=I.un (h':=s.heap) (t':=t) Un.refl I.hok
def Inv.kept{t':Nat}(I:Inv X pins σ H s)(k:∀b u,s.heap.get? b=some u->h'.get? b=some u):Inv X pins σ H {s with heap:=h',toks:=t'}:=I.un (Un.kept k) (I.hok.kept k)
def Inv.laid{a:Addr}{o:HO}{t':Nat}(I:Inv X pins σ H s)(k:∀b u,s.heap.get? b=some u->h'.get? b=some u)(c:s.heap.objs.size<=a)(d:AE X.prog X.w (upd H a o) h' a o) :
 Inv X pins σ (upd H a o) {s with heap:=h',toks:=t'}:=I.un (Un.laid k c (I.hok.fresh c)) (I.hok.laid k c d)
def Inv.write{x e:Addr}{o:HO}{t':Nat}(I:Inv X pins σ H s)(a:Ng (H x))(c:e=x\/H e=some (.own x))(k:∀b u,b≠e->s.heap.get? b=some u->h'.get? b=some u)(d:∃u,h'.get? e=some u)
 (f:AE X.prog X.w (upd H x o) h' x o):Inv X pins σ (upd H x o) {s with heap:=h',toks:=t'}:=I.un (Un.write a c k d) (I.hok.write a c k d f)
def Inv.pins_of{a:B'}(I:Inv X pins σ H s)(h:∀p∈a,s.heap.get? p.1=some p.2/\H p.1=none/\p.1≠X.env.locals/\p.1∉X.fs/\∀v,p.2.data≠.cell v):Inv X a σ H s:=
 ⟨I.ok,I.os,I.bare,I.base,I.loc,I.cell,I.free,I.freeC,λp b=>(BR.mp b).elim (λz=>I.pin p (GP _ z)) (h p),I.hok,I.len⟩
variable {i:Nat}{x:Str}
def Ue{N:List Str}(c:N.Nodup){j:Nat}(a:N[i]?=some x)(b:N[j]?=some x):i=j:=by
 obtain⟨f,d⟩:=Bi.mp a;obtain⟨g,e⟩:=Bi.mp b;exact(List.getElem_inj c).mp (d.trans e.symm)
def Uf{ai:Model}{A:Around}{E:I'}{v:V}{u:Value}{Q:Unit->Shared->Prop}(I:Inv X pins σ H s)(U:X.N.Nodup)(D:X.N[i]?=some x)(m:Loc X.env.scope x)(r:RelV v u)
 (h:∀Z,Inv X pins (σ.set i (some v)) H Z->(∃a,Heap.SameBut a s.heap Z.heap/\(a=X.env.locals\/X.env.cells.lookup x=some a))->Q () Z) (hf:X.fn x=true\/X.env.scope.names.lookup x=some .local:=by first|exact .inl rfl|exact .inr rfl|assumption):wpAny ai A (storeName X.env x u) Q E s:=by
 obtain⟨aj,J,W⟩:=id I.loc;have an:(X.env.scope.kind==.class || (X.env.scope.kind==.module && X.env.locals != X.env.globals))=false:=by rw[I.ok.kind];rfl
 have aa:i<σ.length:=by rw[I.len];exact(Bi.mp D).1
 have cne:=I.cne
 have ah:∀{a:Addr}{h':Heap},(∃o,s.heap.get? a=some o/\H a=none)->Heap.SameBut a s.heap h'->Dc X.prog X.w H h':=λ{a h'}ha f b ob e=>by
  obtain⟨_,_,ag⟩:=ha;refine(I.hok b ob e).stay (λc F l q=>(f.2 c ?_).trans q) (λζ q=>q) λζ ζ q=>q;rintro rfl;rcases l with rfl|l;rw[ag] at e;cases e;rw[ag] at l;cases l
 rcases m with w|w;refine wpAny_storeName_local w J (λh' ak f=>?_) an;obtain⟨oL,_,_,al,_⟩:=id J;refine h _ ⟨I.ok,I.os,I.bare,⟨λb o e n B m=>?_,λb o e n B m=>?_,I.base.free,λb o e m=>?_,I.base.tups,I.base.frzs,I.base.tbls⟩,⟨_,ak,λj y K g t L=>?_⟩,λy c e=>?_,I.free,I.freeC,λp M=>?_,ah ⟨oL,al,I.free⟩ f,by simpa using I.len⟩ ⟨_,f,.inl rfl⟩;exact(f.2 b (CN (FC (Bh e) I.ok.above))).trans (I.base.keep b o e n B m);obtain⟨N,g⟩:=I.base.slot b o e n B m;exact⟨N,(f.2 b (CN (FC (Bh e) I.ok.above))).trans g⟩;obtain⟨O,g⟩:=I.base.there b o e m;exact⟨O,(f.2 b (CN (FC (Bh e) I.ok.above))).trans g⟩;by_cases C:j=i;subst C;rw[D] at g;cases g;rw[List.getElem?_set_self aa] at t;cases t;exact⟨u,r,.inl ⟨w,by simp⟩⟩;rw[List.getElem?_set_ne (Ne.symm C)] at t;obtain⟨P,R,q⟩:=W j y K g t L;refine⟨P,R,?_⟩;rcases q with⟨k,e⟩|⟨k,c,e,z⟩;refine .inl ⟨k,?_⟩;have:y≠x:=λe=>C (Ue U g (e▸D));simp[this,e];exact .inr ⟨k,c,e,z.sameBut f (cne y c e)⟩;obtain⟨F,z⟩:=I.cell y c e;exact⟨F,z.sameBut f (cne y c e)⟩;obtain⟨e,n,ne,S,d⟩:=I.pin p M;exact⟨(f.2 p.1 ne).trans e,n,ne,S,d⟩
 have T:X.fn x=true:=by
  rcases hf with z|z;exact z;rw[z] at w;cases w
 obtain⟨c,l⟩:=I.ok.has x (.inl w);obtain⟨F,z⟩:=I.cell x c l;refine wpAny_storeName_cell I.ok.kind w l z (λh' ab f=>?_);obtain⟨Y,ae,ao⟩:=id z;refine h {s with heap:=h'} ⟨I.ok,I.os,I.bare,⟨λb o e n B m=>?_,λb o e n B m=>?_,I.base.free,λb o e m=>?_,I.base.tups,I.base.frzs,I.base.tbls⟩,⟨aj,J.sameBut f (Ne.symm (cne x c l)),λj y K g t L=>?_⟩,λy G e=>?_,I.free,I.freeC,λp M=>?_,ah ⟨Y,ae,I.freeC x c l⟩ f,by simpa using I.len⟩ ⟨c,f,.inr l⟩;exact(f.2 b (CN (FC (Bh e) (I.ok.cab x c T l)))).trans (I.base.keep b o e n B m);obtain⟨N,g⟩:=I.base.slot b o e n B m;exact⟨N,(f.2 b (CN (FC (Bh e) (I.ok.cab x c T l)))).trans g⟩;obtain⟨O,g⟩:=I.base.there b o e m;exact⟨O,(f.2 b (CN (FC (Bh e) (I.ok.cab x c T l)))).trans g⟩;by_cases C:j=i;subst C;rw[D] at g;cases g;rw[List.getElem?_set_self aa] at t;cases t;exact⟨u,r,.inr ⟨.inl w,c,l,ab⟩⟩;rw[List.getElem?_set_ne (Ne.symm C)] at t;obtain⟨P,R,q⟩:=W j y K g t L;refine⟨P,R,?_⟩;rcases q with q|⟨k,G,e,z'⟩;exact .inl q;refine .inr ⟨k,G,e,z'.sameBut f ?_⟩;rintro rfl;exact C (Ue U g (I.ok.inj _ _ _ e l▸D));by_cases af:G=c;subst af;exact⟨_,ab⟩;obtain⟨w2,z2⟩:=I.cell y G e;exact⟨w2,z2.sameBut f af⟩;obtain⟨e,n,ne,S,d⟩:=I.pin p M;refine⟨(f.2 p.1 ?_).trans e,n,ne,S,d⟩;intro q;rw[q,ae] at e;have q':Y=p.2:=BS e;exact d F (by rw[<-q'];exact ao)
def Rr{M:Model}{A:Around}{E:I'}{v:V}{u:Value}{Q:Unit->Shared->Prop}(I:Inv X pins σ H s)(a:X.N.Nodup)(b:X.N[i]?=some x)(c:Loc X.env.scope x)(r:RelV v u)
 (h:∀Z,Inv X pins (σ.set i (some v)) H Z->Q () Z) (d:X.fn x=true\/X.env.scope.names.lookup x=some .local:=by first|exact .inl rfl|exact .inr rfl|assumption):wpAny M A (storeName X.env x u) Q E s:=
 Uf I a b c r (λZ e ζ=>h Z e) d
def Inv.call'{Z:Shared}(I:Inv X pins σ H s)(a:Z.os=s.os)(u:Un (Fb X.stack) ch H H' s.heap Z.heap)(g:Dc X.prog X.w H' Z.heap)(d:AllBare Z.gens)
 (h:∀b∈ch,(b∈X.ex\/X.s₀.heap.objs.size<=b)/\b≠X.env.locals/\(∀x c,X.env.cells.lookup x=some c->c≠b)/\∀p∈X.pn++pins,p.1≠b):Inv X pins σ H' Z:=by
 obtain⟨h',g',d',t',f⟩:=Z;have e:f=s.os:=a;subst e;exact I.call (g':=g') (t':=t') (d':=d') u g d h
end
abbrev XK:=Value->Option Addr->Hp->Prop
abbrev St:=List (Option V)
abbrev VK:=V->Hp->Prop
abbrev TE:=St->Hp->VK->Prop
abbrev TT:=St->Hp->(Bool->Hp->Prop)->Prop
abbrev TA:=St->Hp->(List V->Hp->Prop)->Prop
structure Ends where
 nx:St->Hp->Prop
 rt:VK
 bk:St->Hp->Prop:=λζ ζ=>False
 ct:St->Hp->Prop:=λζ ζ=>False
abbrev TS:=Ends->St->Hp->Prop
def EP (X:Cx) (pins:B') (σ:St) (Q:VK) (u:Value) (Z:Shared):Prop:=∃v H',Inv X pins σ H' Z/\RelV v u/\Q v H'
def TP (X:Cx) (pins:B') (σ:St) (Q:Bool->Hp->Prop) (b:Bool) (Z:Shared):Prop:=∃H',Inv X pins σ H' Z/\Q b H'
def AP (X:Cx) (pins:B') (σ:St) (Q:List V->Hp->Prop) (us:List Value) (Z:Shared):Prop:=∃vs H',Inv X pins σ H' Z/\Ax vs us/\Q vs H'
def SP (X:Cx) (pins:B') (D:Ends) (f:Flow) (Z:Shared):Prop:=
 match f with
 |.next=>∃σ' H',Inv X pins σ' H' Z/\D.nx σ' H'
 |.brk=>∃σ' H',Inv X pins σ' H' Z/\D.bk σ' H'
 |.cont=>∃σ' H',Inv X pins σ' H' Z/\D.ct σ' H'
 |.ret u=>∃v σ' H',Inv X pins σ' H' Z/\RelV v u/\D.rt v H'
def PE (X:Cx) (e:Expr) (t:TE):Prop:=
 ∀(pins:B')(s:Shared)(σ:St)(H:Hp)(Q:VK),Inv X pins σ H s->t σ H Q->wpAny (model X.prog X.w) X.A (eval e X.env) (EP X pins σ Q) X.xe s
def PT (X:Cx) (e:Expr) (t:TT):Prop:=
 ∀(pins:B')(s:Shared)(σ:St)(H:Hp)(Q:Bool->Hp->Prop),Inv X pins σ H s->t σ H Q->wpAny (model X.prog X.w) X.A (isTrue e X.env (eval e X.env)) (TP X pins σ Q) X.xe s
def PW (X:Cx) (e:Expr) (t:TT):Prop:=
 ∀(whole:Sem Value)(pins:B')(s:Shared)(σ:St)(H:Hp)(Q:Bool->Hp->Prop),Inv X pins σ H s->t σ H Q->wpAny (model X.prog X.w) X.A (isTrue e X.env whole) (TP X pins σ Q) X.xe s
variable {X:Cx}{e:Expr}
def PW.pt{t:TT}(h:PW X e t):PT X e t:=h _
def PA (X:Cx) (es:List Expr) (t:TA):Prop:=
 ∀(L:Pos)(pins:B')(s:Shared)(σ:St)(H:Hp)(Q:List V->Hp->Prop),Inv X pins σ H s->t σ H Q->wpAny (model X.prog X.w) X.A (spliced (backTo L (starEach es X.env))) (AP X pins σ Q) X.xe s
def PS (X:Cx) (st:Stmt) (t:TS):Prop:=
 ∀(pins:B')(s:Shared)(σ:St)(H:Hp)(D:Ends),Inv X pins σ H s->t D σ H->wpAny (model X.prog X.w) X.A (exec st X.env) (SP X pins D) X.xe s
def Ge (X:Cx) (st:List Stmt) (t:TS):Prop:=
 ∀(pins:B')(s:Shared)(σ:St)(H:Hp)(D:Ends),Inv X pins σ H s->t D σ H->wpAny (model X.prog X.w) X.A (execs st X.env) (SP X pins D) X.xe s
variable {A:Around}{E:I'}{s:Shared}
def AU{α:Type}{t:Sem α}{Q b:α->Shared->Prop}{M:Model}(h:wpAny M A t Q E s)(c:∀a s,Q a s->b a s):wpAny M A t b E s:=FL h c λζ ζ x=>x
section
variable {X:Cx}
def mV:Option (Option V)->(V->Prop)->Prop|some (some v),q=>q v|_,_=>(λζ=>False) Nat.repr
def mB:V->(Bool->Prop)->Prop|.bl c,q=>0=0/\q c|_,_=>(λζ=>False) Nat.repr
def mI:V->(Int->Prop)->Prop|.int i,q=>q i|_,_=>(λζ=>False) Nat.repr
def IR:V->V->(Int->Int->Prop)->Prop|.int i,.int j,q=>q i j|_,_,_=>(λζ=>False) Nat.repr
def mR:V->(Addr->Prop)->Prop|.ref a,q=>q a|_,_=>(λζ=>False) Nat.repr
def mT:V->(Addr->List V->Prop)->Prop|.ref a,q=>∃xs,q a xs|_,_=>(λζ=>False) Nat.repr
def mX:V->V->(Addr->List V->Int->V->Prop)->Prop|.ref p,.int i,q=>∃xs v,q p xs i v|_,_,_=>(λζ=>False) Nat.repr
def mC:List V->(V->List V->Prop)->Prop|v::r,q=>q v r|_,_=>(λζ=>False) Nat.repr
def mN:List V->Prop->Prop|[],q=>q|_,_=>(λζ=>False) Nat.repr
def mL:List V->(V->Nat->Prop)->Prop|[x],q=>∃n,q x n|_,_=>(λζ=>False) Nat.repr
def mA:V->List V->(Addr->List V->V->Prop)->Prop|.ref l,[y],q=>∃xs,q l xs y|_,_,_=>(λζ=>False) Nat.repr
def mJ:List V->(Int->Prop)->Prop|[.int j],q=>q j|_,_=>(λζ=>False) Nat.repr
def mV.ex{o:Option (Option V)}{q:V->Prop}(h:mV o q):∃v,o=some (some v)/\q v:=by
 unfold mV at h;split at h;exact⟨_,rfl,h⟩;exact False.elim h
variable {x:V}
def mB.ex{q:Bool->Prop}(h:mB x q):∃c,x=.bl c/\q c:=by
 unfold mB at h;split at h;exact⟨_,rfl,h.2⟩;exact False.elim h
def mI.ex{q:Int->Prop}(h:mI x q):∃i,x=.int i/\q i:=by
 unfold mI at h;split at h;exact⟨_,rfl,h⟩;exact False.elim h
def IR.ex{y:V}{q:Int->Int->Prop}(h:IR x y q):∃i j,x=.int i/\y=.int j/\q i j:=by
 unfold IR at h;split at h;exact⟨_,_,rfl,rfl,h⟩;exact False.elim h
def mR.ex{q:Addr->Prop}(h:mR x q):∃a,x=.ref a/\q a:=by
 unfold mR at h;split at h;exact⟨_,rfl,h⟩;exact False.elim h
def mT.ex{q:Addr->List V->Prop}(h:mT x q):∃a xs,x=.ref a/\q a xs:=by
 unfold mT at h;split at h;exact⟨_,h.choose,rfl,h.choose_spec⟩;exact False.elim h
def mX.ex{y:V}{q:Addr->List V->Int->V->Prop}(h:mX x y q):∃p xs i v,x=.ref p/\y=.int i/\q p xs i v:=by
 unfold mX at h;split at h;obtain⟨xs,v,h⟩:=h;exact⟨_,xs,_,v,rfl,rfl,h⟩;exact False.elim h
variable {vs:List V}
def mC.ex{q:V->List V->Prop}(h:mC vs q):∃v r,vs=v::r/\q v r:=by
 unfold mC at h;split at h;exact⟨_,_,rfl,h⟩;exact False.elim h
def mN.ex{q:Prop}(h:mN vs q):vs=[]/\q:=by
 unfold mN at h;split at h;exact⟨rfl,h⟩;exact False.elim h
def mL.ex{q:V->Nat->Prop}(h:mL vs q):∃x n,vs=[x]/\q x n:=by
 unfold mL at h;split at h;exact⟨_,h.choose,rfl,h.choose_spec⟩;exact False.elim h
def mA.ex{q:Addr->List V->V->Prop}(h:mA x vs q):∃l xs y,x=.ref l/\vs=[y]/\q l xs y:=by
 unfold mA at h;split at h;exact⟨_,h.choose,_,rfl,rfl,h.choose_spec⟩;exact False.elim h
def mJ.ex{q:Int->Prop}(h:mJ vs q):∃j,vs=[.int j]/\q j:=by
 unfold mJ at h;split at h;exact⟨_,rfl,h⟩;exact False.elim h
def A0 (i:Nat):TE:=λσ H Q=>mV σ[i]? λv=>Q v H
def tC (v:V):TE:=λζ H Q=>Q v H
variable {L:Pos}
def K7{i:Nat}{x:Str}(g:X.N[i]?=some x)(hv:O5 X.env.scope x)(hd:(x==("__debug__" : Str))=false:=by decide)(o:(x==("__classdict__" : Str))=false:=by decide):PE X (.Name x L) (A0 i):=by
 intro p s σ H Q I h
 replace h:=mV.ex h
 obtain⟨v,e,h⟩:=h;obtain⟨m,j,k⟩:=I.loc;obtain⟨u,r,l⟩:=k i x v g e hv;have b:EP X p σ Q u s:=⟨v,H,I,r,h⟩;rcases l with⟨a,n⟩|⟨a,c,d,f⟩;exact wpAny_Name (wpAny_loadName_local I.ok.kind a j n b) hd;rcases a with a|a;exact wpAny_Name (wpAny_loadName_cell I.ok.kind a d f b) hd;exact wpAny_Name (wpAny_loadName_free I.ok.kind a d f b o) hd
def Ah{i j L}:PE X (.Constant (.int i) j L) (tC (.int i)):=λζ ζ ζ H ζ I h=>wpAny_Constant_int ⟨.int i,H,I.tok _,⟨_,rfl⟩,h⟩
def G7{b j L}:PE X (.Constant (.bool b) j L) (tC (.bl b)):=λζ ζ ζ H ζ I h=>Constant_bool ⟨.bl b,H,I,rfl,h⟩
def FM{j L}:PE X (.Constant .none j L) (tC .non):=λζ ζ ζ H ζ I h=>Constant_none ⟨.non,H,I,rfl,h⟩
def AW{x j L}:PE X (.Constant (.str x) j L) (tC (.str x)):=λζ ζ ζ H ζ I h=>Calls.Constant_str ⟨.str x,H,I.tok _,⟨_,rfl⟩,h⟩
def Gl (X:Cx) (x:Str):Prop:=X.env.kindOf x=some .globalImplicit
def Ug{pins:B'}{σ:St}{x:Str}{u:Value}{Q:I'}(I:Inv X pins σ H s)(a:Gl X x)(b:X.mg x=some u)(h:Q u s)
 (hd:(x==("__debug__" : Str))=false:=by decide):wpAny (model X.prog X.w) X.A (eval (.Name x L) X.env) Q E s:=
 Calls.Name_function_global I.ok.kind a (Calls.loadGlobal_global (by rw[I.ok.glob];exact I.mod.glob.keeps I.bk) b h) hd
def Kl{pins:B'}{σ:St}{x:Str}{u:Value}{Q:I'}(I:Inv X pins σ H s)(a:Gl X x)(b:X.mg x=none)(hv:bootBuiltins x=some u)(h:Q u s)
 (c:x ≠ "__name__" :=by decide) (hd:(x==("__debug__" : Str))=false:=by decide):wpAny (model X.prog X.w) X.A (eval (.Name x L) X.env) Q E s:=by
 obtain⟨f,d,e⟩:=I.mod.blt;exact Calls.Name_function_global I.ok.kind a (Calls.loadGlobal_builtin (by rw[I.ok.glob];exact I.mod.glob.keeps I.bk) b (by rw[I.ok.blt];exact d.keeps I.bk) ((e x c).trans hv) h) hd
def IS{x:Str}{v:V}{u:Value}(a:Gl X x)(b:X.mg x=some u)(r:RelV v u)(hd:(x==("__debug__" : Str))=false:=by decide):PE X (.Name x L) (tC v):=
 λζ ζ ζ H ζ I h=>Ug I a b ⟨v,H,I,r,h⟩ hd
def IT{x:Str}{v:V}{u:Value}(a:Gl X x)(b:X.mg x=none)(hv:bootBuiltins x=some u)(r:RelV v u)(c:x ≠ "__name__" :=by decide)(hd:(x==("__debug__" : Str))=false:=by decide):PE X (.Name x L) (tC v):=
 λζ ζ ζ H ζ I h=>Kl I a b hv ⟨v,H,I,r,h⟩ c hd
variable {a b:Expr} {ta tb:TE} {L:Pos}
def PC (X:Cx) (op:CmpOp) (a b:Expr) (t:TE):Prop:=
 ∀(pins:B')(s:Shared)(σ:St)(H:Hp)(Q:VK),Inv X pins σ H s->t σ H Q ->
  wpAny (model X.prog X.w) X.A (eval a X.env) (λv s₁=>wpAny (model X.prog X.w) X.A (eval b X.env) (λu s₂=>wpAny (model X.prog X.w) X.A (compareOp op v u) (EP X pins σ Q) X.xe s₂) X.xe s₁) X.xe s
variable {op:CmpOp}
def Uh(b:Expr)(h:op≠.In)(a:op≠.NotIn):behindInMarks op b=false:=by
 have c:(op==CmpOp.In)=false:=by cases op<;>first|rfl|exact absurd rfl h
 have d:(op==CmpOp.NotIn)=false:=by cases op<;>first|rfl|exact absurd rfl a
 cases b<;>simp[behindInMarks,c,d]
def Rs (ta:TE):TE:=λσ H Q=>ta σ H λx U=>Q (.bl (decide (x=.non))) U
def Nh (ta:TE):TE:=λσ H Q=>ta σ H λx U=>Q (.bl (!decide (x=.non))) U
def RelV.none_iff{v:Value}(r:RelV x v):(v==Value.none)=decide (x=.non):=by
 cases x with
 |non=>cases r;rfl
 |bl _=>cases r;rfl
 |int _=>obtain⟨t,rfl⟩:=r;rfl
 |str _=>obtain⟨t,rfl⟩:=r;rfl
 |byt _=>obtain⟨t,rfl⟩:=r;rfl
 |flt _=>obtain⟨t,rfl⟩:=r;rfl
 |ref _=>cases r;rfl
 |ty _=>cases r;rfl
def GS{j t}(b:PE X a ta):PC X .Is a (.Constant .none j t) (Rs ta):=by
 intro f s σ H Q I h;refine AU (b f s σ H _ I h) λv g⟨x,U,c,d,e⟩=>?_;exact Constant_none (is_none_gen ⟨.bl _,U,c,by rw[d.none_iff];rfl,e⟩)
def O6{j t}(b:PE X a ta):PC X .IsNot a (.Constant .none j t) (Nh ta):=by
 intro f s σ H Q I h;refine AU (b f s σ H _ I h) λv g⟨x,U,c,d,e⟩=>?_;exact Constant_none (isnot_none_gen ⟨.bl _,U,c,by rw[d.none_iff];rfl,e⟩)
def tB (t:TE):TT:=λσ H Q=>t σ H λx U=>mB x λc=>Q c U
def Hk{t:TE}(h:PC X op a b t)(c:behindInMarks op b=false:=by first|exact Uh _ (by decide) (by decide)|rfl):PE X (.Compare a [op] [b] L) t:=λe s σ H Q I d=>wpAny_Compare1 (h e s σ H Q I d) c
def Gf{t:TE}(h:PC X op a b t)(e:behindInMarks op b=false:=by first|exact Uh _ (by decide) (by decide)|rfl):PT X (.Compare a [op] [b] L) (tB t):=by
 intro l s σ H Q I g;refine wpAny_isTrue_Compare1 (AU (h l s σ H _ I g) λv m e=>AU e λu n i=>AU i λc o⟨x,U,j,k,f⟩=>?_) e
 replace f:=mB.ex f
 obtain⟨d,rfl,q⟩:=f;cases k;exact Gv ⟨U,j,q⟩
def F6{t:TE}(h:PE X e t)(b:∀whole,isTrue e X.env whole=(do let v <-whole;standAt e.pos;holding [v] (truthy v)):=by intro _;rfl):PT X e (tB t):=by
 intro i s σ H Q I c;refine isTrue_plain (AU (h i s σ H _ I c) λv j⟨x,U,f,g,a⟩=>?_) (b _)
 replace a:=mB.ex a
 obtain⟨d,rfl,q⟩:=a;cases g;exact Gv ⟨U,f,q⟩
variable {tA tB':TT} {j:List Expr}
def Ni (t u:TT):TT:=λσ H Q=>t σ H λc U=>if c=true then u σ U Q else Q false U
def Xl (t u:TT):TT:=λσ H Q=>t σ H λc U=>if c=true then Q true U else u σ U Q
def Nj (t:TT):TT:=λσ H Q=>t σ H λc U=>Q (!c) U
def GU(b:PT X a tA):PW X (.BoolOp .And [a] L) tA:=by
 intro f d s σ H Q I h;refine isTrue_and (AU (b d s σ H Q I h) λc g e=>?_)
 cases c with
 |true=>exact isTrue_and_nil e
 |false=>exact e
def Hl(b:PT X a tA):PW X (.BoolOp .Or [a] L) tA:=by
 intro f d s σ H Q I h;refine isTrue_or (AU (b d s σ H Q I h) λc g e=>?_)
 cases c with
 |false=>exact isTrue_or_nil e
 |true=>exact e
def Gx(g:PT X a tA)(i:PW X (.BoolOp .And (b::j) L) tB'):PW X (.BoolOp .And (a::b::j) L) (Ni tA tB'):=by
 intro k f s σ H Q I h;refine isTrue_and (AU (g f s σ H _ I h) λc l⟨U,d,e⟩=>?_)
 cases c with
 |true=>exact i k f l σ U Q d e
 |false=>exact⟨U,d,e⟩
def Hm(g:PT X a tA)(i:PW X (.BoolOp .Or (b::j) L) tB'):PW X (.BoolOp .Or (a::b::j) L) (Xl tA tB'):=by
 intro k f s σ H Q I h;refine isTrue_or (AU (g f s σ H _ I h) λc l⟨U,d,e⟩=>?_)
 cases c with
 |true=>exact⟨U,d,e⟩
 |false=>exact i k f l σ U Q d e
def Km(b:PT X a tA):PT X (.UnaryOp .Not a L) (Nj tA):=by
 intro d s σ H Q I h;exact isTrue_not (b d s σ H (λc U=>Q (!c) U) I h)
def Nk (ta tb:TE):TE:=λσ H Q=>ta σ H λx U=>∃c,x=.bl c/\if c=true then tb σ U Q else Q (.bl false) U
def Nl (ta:TE):TE:=λσ H Q=>ta σ H λx U=>∃c,x=.bl c/\Q (.bl (!c)) U
def Ho{op}{t:TE}(h:PE X a t):PE X (.BoolOp op [a] L) t:=λc s σ H Q I b=>BoolOp_one (h c s σ H Q I b)
def Rt(g:PE X a ta)(i:PE X (.BoolOp .And (b::j) L) tb):PE X (.BoolOp .And (a::b::j) L) (Nk ta tb):=by
 intro f s σ H Q I h;refine BoolOp_and (AU (g f s σ H _ I h) λv k⟨x,U,e,l,d⟩=>?_);obtain⟨c,rfl,d⟩:=d;cases l;refine Gv ?_
 cases c with
 |true=>exact i f k σ U Q e d
 |false=>exact⟨.bl false,U,e,rfl,d⟩
def K8(d:PE X a ta):PE X (.UnaryOp .Not a L) (Nl ta):=by
 intro g s σ H Q I h;refine UnaryOp_ (AU (d g s σ H _ I h) λv i⟨x,U,e,f,b⟩=>?_);obtain⟨c,rfl,b⟩:=b;cases f;exact not_of (Gv ⟨.bl (!c),U,e,rfl,b⟩)
end
def Af (K:Aj) (H:Hp) (a:Addr) (xs:List V):Prop:=
 Rd H a (.lst xs) \/
  ∃(o:Obj)(its:Array Value)(n:Nat),K.lookup a=some o/\o.cls=.type "list" /\ o.dict=none/\o.data=.seq its n/\its.size<=sizeLine/\Ax xs its.toList
def Al (K:Aj) (H:Hp) (a:Addr) (xs:List V):Prop:=
 Rd H a (.tup xs) \/
  ∃(o:Obj)(its:Array Value)(n:Nat),K.lookup a=some o/\o.cls=.type "tuple" /\ o.data=.seq its n/\its.size<=sizeLine/\Ax xs its.toList
def Ru:Value->Option V
 |.none=>some .non
 |.bool b=>some (.bl b)
 |.int i _=>some (.int i)
 |.str x _=>some (.str x)
 |.bytes b _=>some (.byt b)
 |.float b _=>some (.flt b)
 |.ref a=>some (.ref a)
 |.type n=>some (.ty n)
 |_=>none
variable {x:V}
def RelV.abs{u:Value}(r:RelV x u):Ru u=some x:=by
 cases x with
 |non=>cases r;rfl
 |bl _=>cases r;rfl
 |int _=>obtain⟨t,rfl⟩:=r;rfl
 |str _=>obtain⟨t,rfl⟩:=r;rfl
 |byt _=>obtain⟨t,rfl⟩:=r;rfl
 |flt _=>obtain⟨t,rfl⟩:=r;rfl
 |ref _=>cases r;rfl
 |ty _=>cases r;rfl
def RelV.inj{y:V}{u:Value}(r:RelV x u)(q:RelV y u):x=y:=BS (r.abs.symm.trans q.abs)
theorem Ax.inj:∀{xs ys:List V}{a:List Value},Ax xs a->Ax ys a->xs=ys
 |_,_,_,.nil,.nil=>rfl
 |_,_,_,.cons r t,.cons b t'=>by rw[r.inj b,Ax.inj t t']
section
variable {X:Cx} {pins:B'} {σ:St} {H:Hp} {s:Shared} {a:Addr} {xs ys:List V}
def Af.of{K:Aj}(h:H a=some (.lst xs)):Af K H a xs:=.inl (.inl h)
def Al.of{K:Aj}(h:H a=some (.tup xs)):Al K H a xs:=.inl (.inl h)
def Inv.list(I:Inv X pins σ H s)(h:Af X.K H a xs):∃b:List Value,Ax xs b/\PlainL s.heap a b.toArray/\xs.length<=sizeLine:=by
 rcases h with h|⟨o,b,n,c,d,hd,f,g,r⟩;obtain⟨z,b,n,r,e⟩:=h.ok I.hok;exact⟨b,r,⟨_,n,e,rfl,rfl,rfl⟩,z⟩;refine⟨b.toList,r,⟨o,n,I.kIn a o c,d,hd,by simpa using f⟩,?_⟩;have e:=r.length;simp only[Array.length_toList] at e;lia
def Inv.tuple(I:Inv X pins σ H s)(h:Al X.K H a xs):∃b:List Value,Ax xs b/\IsTup s.heap a b.toArray/\xs.length<=sizeLine:=by
 rcases h with h|⟨o,b,n,c,d,f,g,r⟩;obtain⟨z,b,r,p⟩:=h.ok I.hok;exact⟨b,r,p,z⟩;refine⟨b.toList,r,⟨o,I.kIn a o c,d,n,by simpa using f⟩,?_⟩;have e:=r.length;simp only[Array.length_toList] at e;lia
def Inv.list_inj(I:Inv X pins σ H s)(h:Af X.K H a xs)(h':Af X.K H a ys):xs=ys:=by
 obtain⟨i,r,⟨o,n,e,_,_,d⟩,_⟩:=I.list h;obtain⟨j,f,⟨k,l,b,_,_,c⟩,_⟩:=I.list h';rw[e] at b;cases b;rw[d] at c;injection c with g _;have:i=j:=(by simpa using Bq Array.toList g);subst this;exact r.inj f
def Inv.tuple_inj(I:Inv X pins σ H s)(h:Al X.K H a xs)(h':Al X.K H a ys):xs=ys:=by
 obtain⟨i,r,⟨o,e,_,n,d⟩,_⟩:=I.tuple h;obtain⟨j,f,⟨k,b,_,l,c⟩,_⟩:=I.tuple h';rw[e] at b;cases b;rw[d] at c;injection c with g _;have:i=j:=(by simpa using Bq Array.toList g);subst this;exact r.inj f
end
abbrev Cx.wish (X:Cx) (E:I'):Cx:={X with xe:=E}
abbrev Cx.nox (X:Cx):Cx:=X.wish λζ ζ=>False
def Cx.Ok.wish{X:Cx}(ok:X.Ok)(E:I'):(X.wish E).Ok:=
 ⟨ok.mod,ok.kind,ok.glob,ok.blt,ok.above,ok.inj,ok.has,ok.cab,ok.hd,ok.frames,ok.stk,ok.exf,ok.bs,ok.bsz,ok.noex,ok.exfs,ok.funs,ok.frf⟩
def Cx.Ok.unwish(ok:(X.wish E).Ok):X.Ok:=
 ⟨ok.mod,ok.kind,ok.glob,ok.blt,ok.above,ok.inj,ok.has,ok.cab,ok.hd,ok.frames,ok.stk,ok.exf,ok.bs,ok.bsz,ok.noex,ok.exfs,ok.funs,ok.frf⟩
section
variable {X:Cx} {pins:B'} {σ:St} {H:Hp} {s:Shared} {E:I'}
def Inv.wish(I:Inv X pins σ H s)(E:I'):Inv (X.wish E) pins σ H s:=⟨I.ok.wish E,I.os,I.bare,I.base,I.loc,I.cell,I.free,I.freeC,I.pin,I.hok,I.len⟩
def Inv.unwish(I:Inv (X.wish E) pins σ H s):Inv X pins σ H s:=⟨I.ok.unwish,I.os,I.bare,I.base,I.loc,I.cell,I.free,I.freeC,I.pin,I.hok,I.len⟩
def SP.unwish{D:Ends}{f:Flow}{Z:Shared}(h:SP (X.wish E) pins D f Z):SP X pins D f Z:=by
 cases f with
 |next=>obtain⟨σ',a,I,q⟩:=h;exact⟨σ',a,I.unwish,q⟩
 |brk=>obtain⟨σ',a,I,q⟩:=h;exact⟨σ',a,I.unwish,q⟩
 |cont=>obtain⟨σ',a,I,q⟩:=h;exact⟨σ',a,I.unwish,q⟩
 |ret u=>obtain⟨v,σ',a,I,r,q⟩:=h;exact⟨v,σ',a,I.unwish,r,q⟩
def Ge.nox{st:List Stmt}{t:TS}(h:Ge X.nox st t):Ge X st t:=λpins s σ H D I a =>
 FL (h pins s σ H D (I.wish _) a) (λζ ζ q=>q.unwish) λζ ζ z=>False.elim z
end
section
variable {X:Cx} {st:Stmt} {j:List Stmt} {t u:TS} {e:Expr} {te:TE} {L:Pos}
def Nm:TS:=λD σ H=>D.nx σ H
def K9 (t u:TS):TS:=λD σ H=>(λζ=>t {D with nx:=u D} σ H) Nat.repr
def Ba:Ge X [] Nm:=λζ ζ σ H ζ I h=>wpAny_execs_nil ⟨σ,H,I,h⟩
def Ar(b:PS X st t)(c:Ge X j u):Ge X (st::j) (K9 t u):=by
 intro a s σ H D I h;refine wpAny_execs_cons (AU (b a s σ H {D with nx:=u D} I h) λf d q=>?_)
 cases f with
 |next =>
   obtain⟨σ',e,g,q⟩:=q;exact c a d σ' e D g q
 |ret v=>exact q
 |brk=>exact q
 |cont=>exact q
def Aw(a:PS X st t):Ge X [st] t:=by
 intro b s σ H D I h;refine wpAny_execs_cons (AU (a b s σ H D I h) λf c q=>?_)
 cases f with
 |next=>exact wpAny_execs_nil q
 |ret v=>exact q
 |brk=>exact q
 |cont=>exact q
def Inv.quiet{pins:B'}{σ:St}(I:Inv X pins σ H s):interactive X.env=false:=by simp[interactive,I.ok.kind]
def Nn (te:TE):TS:=λD σ H=>te σ H λζ U=>D.nx σ U
def Eo(a:PE X e te)(b:swapsWith e none L.line X.env=pure false:=by rfl):PS X (.Expr e L) (Nn te):=by
 intro f s σ H D I h;exact wpAny_Expr_any (AU (a f s σ H _ I h) λv g⟨x,U,c,i,d⟩=>⟨σ,U,c,d⟩) I.quiet b
def Rv (te:TE):TS:=λD σ H=>te σ H D.rt
def AI(a:PE X e te):PS X (.Return (some e) L) (Rv te):=by
 intro f s σ H D I h;exact wpAny_Return_some (AU (a f s σ H _ I h) λv g⟨x,U,b,c,d⟩=>⟨x,σ,U,b,c,d⟩)
def Rw (c:TT) (t u:TS):TS:=λD σ H=>c σ H λb U=>if b=true then t D σ U else u D σ U
def Bb{c:Expr}{a b:List Stmt}{tc:TT}(j:PT X c tc)(k:Ge X a t)(l:Ge X b u):PS X (.If c a b L) (Rw tc t u):=by
 intro e s σ H D I h;refine wpAny_If (AU (j e s σ H _ I h) λd f⟨U,g,i⟩=>?_)
 cases d with
 |true=>exact k e f σ U D g i
 |false=>exact l e f σ U D g i
def La:TS:=λζ ζ ζ=>False
def Xm:PS X st La:=λζ ζ ζ ζ ζ ζ h=>h.elim
end
abbrev TG:=V->St->Hp->(St->Hp->Prop)->Prop
abbrev Lb:=List V->St->Hp->(St->Hp->Prop)->Prop
def PG (X:Cx) (target:Expr) (t:TG):Prop:=
 ∀(pins:B')(s:Shared)(σ:St)(H:Hp)(v:V)(u:Value)(Q:St->Hp->Prop),Inv X pins σ H s->RelV v u->t v σ H Q ->
  wpAny (model X.prog X.w) X.A (assign target X.env u) (λζ Z=>∃σ' H',Inv X pins σ' H' Z/\Q σ' H') X.xe s
def No (X:Cx) (ts:List Expr) (t:Lb):Prop:=
 ∀(pins:B')(s:Shared)(σ:St)(H:Hp)(vs:List V)(us:List Value)(Q:St->Hp->Prop),Inv X pins σ H s->Ax vs us->t vs σ H Q ->
  wpAny (model X.prog X.w) X.A (assignInOrder ((assignEach ts X.env).map (·.2)) us) (λζ Z=>∃σ' H',Inv X pins σ' H' Z/\Q σ' H') X.xe s
abbrev Lc:=V->V->V->Hp->(Hp->Prop)->Prop
def Ld (X:Cx) (t:Lc):Prop:=
 ∀(pins:B')(s:Shared)(σ:St)(H:Hp)(o i v:V)(ov iv u:Value)(Q:Hp->Prop),Inv X pins σ H s->RelV o ov->RelV i iv->RelV v u->t o i v H Q ->
  wpAny (model X.prog X.w) X.A (setItem ov iv u) (λζ Z=>∃H',Inv X pins σ H' Z/\Q H') X.xe s
abbrev Rx:=V->V->Hp->VK->Prop
def Xn (X:Cx) (op:Operator) (t:Rx):Prop:=
 ∀(pins:B')(s:Shared)(σ:St)(H:Hp)(x y:V)(v u:Value)(Q:VK),Inv X pins σ H s->RelV x v->RelV y u->t x y H Q ->
  wpAny (model X.prog X.w) X.A (inplaceOp op v u) (EP X pins σ Q) X.xe s
section
variable {X:Cx} {L:Pos}
def F7 (i:Nat):TG:=λv σ H Q=>Q (σ.set i (some v)) H
variable {i:Nat}
def Av{x:Str}(a:X.N.Nodup)(b:X.N[i]?=some x:=by rfl)(c:Loc X.env.scope x:=by first|exact .inl rfl|exact .inr rfl)(d:X.fn x=true\/X.env.scope.names.lookup x=some .local:=by first|exact .inl rfl|exact .inr rfl|assumption):PG X (.Name x L) (F7 i):=by
 intro f s σ H v u Q I r h;exact wpAny_assign_Name (Rr I a b c r (λZ e=>⟨_,H,e,h⟩) d)
def GV:Lb:=λvs σ H Q=>mN vs (Q σ H)
def Iw (t:TG) (u:Lb):Lb:=λvs σ H Q=>mC vs λv r=>t v σ H λσ' H'=>u r σ' H' Q
def BO:No X [] GV:=by
 intro c s σ H a b Q I r h
 replace h:=mN.ex h
 obtain⟨e,h⟩:=h;subst e;cases r;exact assignInOrder_nil ⟨σ,H,I,h⟩
def AA{es:List Expr}{t:TG}{u:Lb}(b:PG X e t)(c:No X es u)
 (d:(assignEach (e::es) X.env).map (·.2)=assign e X.env::(assignEach es X.env).map (·.2):=by rfl):No X (e::es) (Iw t u):=by
 intro a s σ H l m Q I r h
 replace h:=mC.ex h
 obtain⟨v,n,f,h⟩:=h;subst f
 cases r with
 |cons r g =>
   rw[d];refine assignInOrder_cons (AU (b a s σ H _ _ _ I r h) λ_ i⟨σ1,U,j,k⟩=>?_);exact c a i σ1 U _ _ Q j g k
def IU (K:Aj) (n:Nat) (t:Lb):TG:=λv σ H Q=>mT v λa xs=>Al K H a xs/\xs.length=n/\t xs σ H Q
def BP{es:List Expr}{k:Nat}{t:Lb}{n:Nat}(g:X.calm=true)(h:No X es t)
 (i:(assignEach es X.env).length=n:=by rfl) (z:(assignEach es X.env).findIdx? (·.1)=none:=by rfl):PG X (.Tuple es k L) (IU X.K n t):=by
 intro f s σ H v u Q I r c
 replace c:=mT.ex c
 obtain⟨a,j,l,m,p,c⟩:=c;subst l;cases r;obtain⟨B,d,q,A⟩:=I.tuple m;refine assign_Tuple_tuple (I.ok.hd g) q (by simp[i,<-p,d.length]) z λw x=>?_;have y:Inv X f σ H {s with heap:=w}:=I.kept (t':=s.toks) λb o e=>x b o (CN (Bh e)) e;exact h f _ σ H j _ Q y (by simpa using d) c
def Ry (C ti:TE) (t:Lc):TG:=λv σ H Q=>C σ H λo U=>ti σ U λi Y=>t o i v Y λH3=>Q σ H3
def Le{o i:Expr}{C d:TE}{t:Lc}(e:PE X o C)(f:PE X i d)(g:Ld X t)
 (j:∀v,assign (.Subscript o i L) X.env v=(do
  let a <-holding [v] (eval o X.env)
  let b <-holding [v,a] (eval i X.env)
  standAt L
  holding [v,a,b] (setItem a b v)
  release [v,a,b] []):=by intro _;rfl):PG X (.Subscript o i L) (Ry C d t):=by
 intro c s σ H v u Q I r h;rw[j];refine Ad (FK (AU (e c s σ H _ I h) λa k⟨x,U,l,m,n⟩=>?_));refine Ad (FK (AU (f c k σ U _ l n) λb p⟨y,Y,q,w,z⟩=>?_));refine Ad (wpAny_standAt (Ad (FK (AU (g c p σ Y x y v a b u _ q m w r z) λ_ E⟨A,B,D⟩=>?_))));exact wpAny_release ⟨σ,A,B,D⟩
def IV (te:TE) (g:TG):TS:=λD σ H=>(λζ=>te σ H λx U=>g x σ U D.nx) Nat.repr
variable {te:TE}
def DJ{a:Expr}{g:TG}(c:PE X e te)(d:PG X a g)(f:swapsWithSole [a] e L.line X.env=pure false:=by rfl)(i:swappedStores [a] e X.env=pure none:=by rfl)
 (j:(assignEach [a] X.env).map (·.2)=[assign a X.env]:=by rfl):PS X (.Assign [a] e L) (IV te g):=by
 intro b s σ H D I h;refine wpAny_Assign_stores (AU (c b s σ H _ I h) λv k⟨x,U,l,m,n⟩=>?_) f i;rw[j];exact AU (d b k σ U x v _ l m n) λζ o q=>q
def AN{x:Str}{t:Pos}(a:X.N.Nodup)(b:PE X e te)(c:X.N[i]?=some x:=by rfl)(d:Loc X.env.scope x:=by first|exact .inl rfl|exact .inr rfl)(f:swapsWith e (some (.Name x t)) L.line X.env=pure false:=by rfl)(g:X.fn x=true\/X.env.scope.names.lookup x=some .local:=by first|exact .inl rfl|exact .inr rfl|assumption) :
 PS X (.Assign [.Name x t] e L) (IV te (F7 i)):=by
 intro n s σ H D I h;refine wpAny_Assign_Name (AU (b n s σ H _ I h) λv o⟨y,U,j,k,l⟩=>?_) f;exact Rr j a c d k (λp m=>⟨_,U,m,l⟩) g
def Np (i:Nat) (te:TE) (ti:Rx):TS:=λD σ H=>∃x,σ[i]?=some (some x)/\te σ H λy U=>ti x y U λz Y=>D.nx (σ.set i (some z)) Y
def Lf{x:Str}{op:Operator}{f:Rx}{t:Pos}(j:X.N.Nodup)(g:X.N[i]?=some x)(b:Loc X.env.scope x)(n:PE X e te)(o:Xn X op f)(p:X.fn x=true\/X.env.scope.names.lookup x=some .local:=by first|exact .inl rfl|exact .inr rfl|assumption) :
 PS X (.AugAssign (.Name x t) op e L) (Np i te f):=by
 intro d s σ H D I h;obtain⟨v,q,h⟩:=h;obtain⟨m,A,B⟩:=I.loc;have S:O5 X.env.scope x:=by rcases b with k|k;exact .inl k;exact .inr (.inl k)
 obtain⟨u,r,l⟩:=B i x v g q S;refine wpAny_AugAssign_Name ?_
 have go:wpAny (model X.prog X.w) X.A (eval e X.env) (λw C=>wpAny (model X.prog X.w) X.A (inplaceOp op u w) (λr E=>wpAny (model X.prog X.w) X.A (storeName X.env x r) (λζ=>SP X d D .next) X.xe E) X.xe C) X.xe s:=by
  refine AU (n d s σ H _ I h) λw F⟨y,U,G,J,K⟩=>?_;refine AU (o d F σ U v y u w _ G r J K) λz V⟨W,Y,M,N,O⟩=>?_;exact Rr M j g b N (λZ P=>⟨_,Y,P,O⟩) p
 rcases l with⟨a,Q⟩|⟨a,c,R,T⟩;exact wpAny_loadName_local I.ok.kind a A Q go;rcases a with a|a;exact wpAny_loadName_cell I.ok.kind a R T go;rcases b with k|k;have:X.env.scope.names.lookup x=some .free:=a;rw[k] at this;cases this;have:X.env.scope.names.lookup x=some .free:=a;rw[k] at this;cases this
end
section
variable {X:Cx} {L:Pos}
def Lg (c:TT) (tb:TS):TS:=λD σ H=>∃W:Nat->St->Hp->Prop,(∃m,W m σ H)/\∀m σ H,W m σ H ->
 c σ H λb U=>if b=true then ∃N:St->Hp->Prop,(∀σ' H',N σ' H'->∃m',m'<m/\W m' σ' H')/\tb {D with nx:=N,ct:=N,bk:=D.nx} σ U else D.nx σ U
def Xo{c:Expr}{body:List Stmt}{tc:TT}{tb:TS}(o:PassesOwn (model X.prog X.w) X.A X.env X.xe)(t:PT X c tc)(u:Ge X body tb):PS X (.While c body [] L) (Lg tc tb):=by
 intro m s σ H D I h;obtain⟨W,⟨w,x⟩,turn⟩:=h;refine wpAny_While (codeAny_whileLoop (λn Z=>∃σ' p,Inv X m σ' p Z/\W n σ' p) ?_ w ⟨σ,H,I,x⟩);rintro n y ⟨σ1,U,z,A⟩;refine wpAny_passesOwn o (AU (t m y σ1 U _ z (turn n σ1 U A)) λb B⟨Y,q,d⟩=>?_)
 cases b with
 |true =>
   obtain⟨N,r,d⟩:=d;rw[Au rfl];refine wpAny_passesOwn o (AU (u m B σ1 Y _ q d) λf C e=>?_)
   cases f with
   |next =>
     obtain⟨σ3,a,g,i⟩:=e;obtain⟨j,k,l⟩:=r σ3 a i;exact⟨j,k,σ3,a,g,l⟩
   |cont =>
     obtain⟨σ3,a,g,i⟩:=e;obtain⟨j,k,l⟩:=r σ3 a i;exact⟨j,k,σ3,a,g,l⟩
   |brk=>exact e
   |ret v=>exact e
 |false =>
   rw[At Df];exact wpAny_execs_nil ⟨σ1,Y,q,d⟩
end
structure It where
 go:Nat->Hp->Prop
 yld:Nat->Hp->V->Hp->Prop
 stop:Nat->Hp->Prop
def Dl (X:Cx) (pins:B') (H:Hp) (b:Addr):Prop:=
 H b=none/\b≠X.env.locals/\b∉X.fs/\(b∈X.ex\/X.s₀.heap.objs.size<=b)/\(∀x c,X.env.cells.lookup x=some c->c≠b)/\∀p∈X.pn++pins,p.1≠b
variable {pins:B'}{σ:St}
def Inv.fpOk{H':Hp}(I:Inv X pins σ H s)(a:s.heap.objs.size<=b)(d:H' b=none):Dl X pins H' b:=by
 refine⟨d,Nat.ne_of_gt (FC I.lt a),I.nofs a,.inr (Fa I.sz a),λx c e z=>?_,λp f z=>?_⟩;obtain⟨v,q⟩:=I.cell x c e;exact absurd (FC q.lt (by rw[z];exact a)) (G6 _);exact absurd (FC (Bh (I.pin p f).1) (by rw[z];exact a)) (G6 _)
structure FN (P:Program) (w:World) (K:Aj) (tg:Expr) (J:It) (fp:List Addr) (it:Addr) (tn:Nat->Heap->Prop):Prop where
 mem:it∈fp
 obj:∀i h,tn i h->∀b∈fp,∃o,h.get? b=some o/\∀v,o.data≠.cell v
 keep:∀i h h',tn i h->(∀b∈fp,∀o,h.get? b=some o->h'.get? b=some o)->tn i h'
 item:∀(X:Cx),X.prog=P->X.w=w->X.K=K->X.calm=true->∀(i:Nat)(pins:B')(s:Shared)(σ:St)(H:Hp)(E:I'),Inv X pins σ H s->(∀b∈fp,Dl X pins H b)->tn i s.heap->J.go i H ->
  wpAny (model P w) X.A (pyNext (.ref it)) (λr s1=>∃u,r=some u /\
   wpAny (model P w) X.A (letOwnedTupleGo tg (.ref it) u) (λζ s2=>∃x H',Inv X pins σ H' s2/\RelV x u/\J.yld i H x H'/\tn (i+1) s2.heap/\∀b∈fp,H' b=none) E s1) E s
 done:∀(X:Cx),X.prog=P->X.w=w->X.K=K->X.calm=true->∀(i:Nat)(pins:B')(s:Shared)(σ:St)(H:Hp)(E:I'),Inv X pins σ H s->(∀b∈fp,Dl X pins H b)->tn i s.heap->J.stop i H ->
  wpAny (model P w) X.A (pyNext (.ref it)) (λr s1=>r=none/\Inv X pins σ H s1) E s
 self:∀(A:Around)(i:Nat)(s:Shared)(Q:I')(E:I'),tn i s.heap->Q (.ref it) s->wpAny (model P w) A (pyIter (.ref it)) Q E s
abbrev TI:=St->Hp->(It->Hp->Prop)->Prop
def Rz (X:Cx) (pins:B') (σ:St) (tg:Expr) (R:It->Hp->Prop) (itv:Value) (s2:Shared):Prop:=
 ∃(it:Addr)(fp:List Addr)(tn:Nat->Heap->Prop)(J:It)(H':Hp),itv=.ref it/\Inv X pins σ H' s2/\FN X.prog X.w X.K tg J fp it tn/\tn 0 s2.heap/\(∀b∈fp,Dl X pins H' b)/\R J H'
def PI (X:Cx) (tg j:Expr) (wi:TI):Prop:=
 ∀(pins:B')(s:Shared)(σ:St)(H:Hp)(R:It->Hp->Prop),Inv X pins σ H s->wi σ H R ->
  wpAny (model X.prog X.w) X.A (eval j X.env) (λv s1=>wpAny (model X.prog X.w) X.A (pyIter v) (Rz X pins σ tg R) X.xe s1) X.xe s
variable {tg:Expr}
def Hq{M:Model}{b:Addr}{u:Value}{o:Obj}{n:String}{vs:Array Value}{Q:Unit->Shared->Prop}(c:s.heap.get? b=some o)(d:o.cls=.type n)(hd:o.data=.fields vs)
 (e:["enumerate", "zip", "dict_itemiterator", "dict_reverseitemiterator", "odict_iterator", "itertools.zip_longest", "itertools.pairwise"].contains n=false) (a:Q () s):wpAny M A (letOwnedTupleGo tg (.ref b) u) Q E s:=by
 unfold letOwnedTupleGo
 cases tg<;>first
  |exact Az a
  |(cases u<;>first
   |exact Az a
   | (refine Ad (wpAny_load c ?_)
      rw[d,hd]
      show wpAny M A (if(["enumerate", "zip", "dict_itemiterator", "dict_reverseitemiterator", "odict_iterator", "itertools.zip_longest", "itertools.pairwise"].contains n && vs[0]?==some (rawInt _))=true then _ else _) Q E s
      rw[At (by intro h;rw[e,Bool.false_and] at h;cases h)]
      exact Az a))
def MN (K:Aj) (a:Addr):It:=
 ⟨λi H=>∃xs x,Af K H a xs/\xs[i]?=some x,λi H x H'=>H'=H/\∀xs,Af K H a xs->xs[i]?=some x,λi H=>∃xs,Af K H a xs/\xs.length<=i⟩
def MO (lo:Int) (n:Nat):It:=⟨λi ζ=>i<n,λi H x H'=>H'=H/\x=.int (lo+i),λi ζ=>n<=i⟩
theorem Xp{K:Aj}(a g:Addr):FN P w K tg (MN K a) [g] g (λi h=>h.IsListIter g a i) where
 mem:=by simp
 obj:=λi h f b j=>by
  have e:b=g:=(by simpa using j);subst e;obtain⟨o,e,c,d⟩:=f;exact⟨o,e,λv z=>by rw[d] at z;cases z⟩
 keep:=λi h l f k=>f.at λo e=>k g (by simp) o e
 item:=by
  intro X q r t L i pins s σ H E I m f y;subst q r t;obtain⟨N,x,n,A⟩:=y;obtain⟨Y,B,p,O⟩:=I.list n;obtain⟨u,Q,R⟩:=B.get A;obtain⟨C,D,S,F,G,J⟩:=m g (by simp);refine wpAny_pyNext_list_item f p.isList (x:=u) (by simpa using Q) λl M T=>?_;have U:Inv X pins σ H {s with heap:=l}:=I.turned (t':=s.toks) (λb o j e=>(T.2 b j).trans e) C D F G J;obtain⟨o,e,c,d⟩:=id M;exact⟨u,rfl,Hq (s:={s with heap:=l}) e c d (by decide) ⟨x,H,U,R,⟨rfl,λZ V=>by rw[I.list_inj V n];exact A⟩,M,λb j=>(m b j).1⟩⟩
 done:=by
  intro X q r t L i pins s σ H E I m f y;subst q r t;obtain⟨N,n,A⟩:=y;obtain⟨Y,B,p,O⟩:=I.list n;obtain⟨C,D,S,F,G,J⟩:=m g (by simp);have hl:=B.length;exact wpAny_pyNext_list_end (I.ok.hd L) f p.isList (by simp;lia) λl W=>⟨rfl,I.turned (t':=s.toks) (λb o j e=>W b o j e) C D F G J⟩
 self:=λζ ζ ζ ζ ζ f h=>wpAny_pyIter_listiter f h
def Xq{K:Aj}(c:Addr)(lo:Int)(n:Nat):FN P w K tg (MO lo n) [c] c (λi h=>IsRangeIter h c (lo+(i:Nat)*1) ((n:Int)-(i:Nat)) 1) where
 mem:=by simp
 obj:=λi h a b d=>by
  have e:b=c:=(by simpa using d);subst e
  exact⟨_,a,λv z=>by
   have D:Data.fields _=Data.cell v:=z
   cases D⟩
 keep:=λi h f a k=>k c (by simp) _ a
 item:=by
  intro X j l m p i pins s σ H E I g a q;subst j l m;obtain⟨r,u,F,x,y,A⟩:=g c (by simp);have W:=Walks.range (prog:=X.prog) (w:=X.w) (I.ok.hd p) c lo 1 n;refine W.item i s _ _ q a λv f B G C Z=>?_;obtain⟨t,rfl⟩:=G;have J:Inv X pins σ H {s with heap:=f,toks:=B}:=I.turned (λb o d e=>Z b o (by simpa using d) e) r u x y A;refine⟨_,rfl,Hq (s:={s with heap:=f,toks:=B}) (n:= "range_iterator") C rfl rfl (by decide) ⟨.int (lo+i),H,J,⟨t,?_⟩,⟨rfl,rfl⟩,C,λb d=>(g b d).1⟩⟩;rw[Int.mul_one]
 done:=by
  intro X j l m p i pins s σ H E I g a q;subst j l m;obtain⟨r,u,F,x,y,A⟩:=g c (by simp);exact wpAny_pyNext_range_end (I.ok.hd p) a (by have:n<=i:=q;lia) λf L=>⟨rfl,I.turned (t':=s.toks) (λb o d e=>L b o d e) r u x y A⟩
 self:=λζ ζ ζ ζ ζ a h=>wpAny_pyIter_rangeiter a h
section
variable {X:Cx} {tg:Expr}
def Nq (K:Aj) (tl:TE):TI:=λσ H R=>tl σ H λx U=>mR x λa=>(∃xs,Af K U a xs)/\R (MN K a) U
def Dg{l:Expr}{g:TE}(i:PE X l g):PI X tg l (Nq X.K g):=by
 intro pins s σ H R I h;refine AU (i pins s σ H _ I h) λv c⟨x,U,d,j,f⟩=>?_
 replace f:=mR.ex f
 obtain⟨a,e,⟨n,k⟩,q⟩:=f;subst e;cases j;obtain⟨u,r,p,t⟩:=d.list k;refine wpAny_pyIter_list p.isList ?_;refine⟨c.heap.objs.size,[c.heap.objs.size],_,_,U,rfl,d.kept (t':=c.toks) λb o e=>Bo _ e,Xp a _,⟨_,Cp _ rfl,rfl,rfl⟩,λb m=>?_,q⟩;have e:b=c.heap.objs.size:=(by simpa using m);subst e;exact d.fpOk (AG _) (d.hok.fresh (AG _))
def Xr{R:It->Hp->Prop}{lo a:Int}{t u v:Tok}{c:Nat}(I:Inv X pins σ H s)(f:-(2 ^ 62)<=lo)(g:lo<2 ^ 62)(h:-(2 ^ 62)<=a)(i:a<2 ^ 62)
 (q:R (MO lo (a-lo).toNat) H):wpAny (model X.prog X.w) X.A (pyIter (.ref s.heap.objs.size)) (Rz X pins σ tg R) E {s with heap:=s.heap.push {cls:=.type "range",data:=.fields #[.int lo t,.int a u,.int 1 v]},toks:=c}:=by
 refine wpAny_pyIter_range (IsRange.new ..) (small_one f g h i) ?_;have d:Inv X pins σ H {s with heap:=s.heap.push {cls:=.type "range",data:=.fields #[.int lo t,.int a u,.int 1 v]},toks:=c}:=I.kept λb o e=>Bo _ e
 refine⟨(s.heap.push {cls:=.type "range",data:=.fields #[.int lo t,.int a u,.int 1 v]}).objs.size,[(s.heap.push {cls:=.type "range",data:=.fields #[.int lo t,.int a u,.int 1 v]}).objs.size],_,_,H,rfl,
  d.kept (t':=c) λb o e=>Bo _ e,Xq _ lo (a-lo).toNat,?_,λb j=>?_,q⟩
 have k:lo+((0:Nat):Int)*1=lo:=(by simp);have l:(((a-lo).toNat:Nat):Int)-((0:Nat):Int)=Builtin.Range.rangeSize lo a 1:=by rw[rangeSize_one];split<;>lia
 show IsRangeIter _ _ (lo+((0:Nat):Int)*1) ((((a-lo).toNat:Nat):Int)-((0:Nat):Int)) 1;rw[k,l];exact Cp _ rfl;have e:b=(s.heap.push {cls:=.type "range",data:=.fields #[.int lo t,.int a u,.int 1 v]}).objs.size:=(by simpa using j);subst e;exact d.fpOk (AG _) (d.hok.fresh (AG _))
def Kn (ta:TA):TI:=λσ H R=>ta σ H λvs U=>mJ vs λj=>-(2 ^ 62)<=j/\j<2 ^ 62/\R (MO 0 j.toNat) U
def Gg{a:Expr}{c:TA}{p L:Pos}(d:Gl X "range")(f:X.mg "range" = none)(g:PA X [a] c)(i:starEach [a] X.env=[(false,eval a X.env)]:=by rfl):PI X tg (.Call (.Name "range" p) [a] [] L) (Kn c):=by
 intro pins s σ H R I h;refine Call_ (Kl I d f boot_range (PyProof.Rows.callWith_type1 (AU (g L pins s σ H _ I h) λo u⟨v,U,k,l,b⟩=>?_) i rfl))
 replace b:=mJ.ex b
 obtain⟨j,e,b,m,q⟩:=b;subst e
 cases l with
 |cons r n =>
   cases n;obtain⟨t,rfl⟩:=r;exact call_range_1 (Xr k (by lia) (by lia) b m (by simpa using q))
def FO (J:It) (g:TG) (tb:TS) (D:Ends) (σ:St) (U:Hp):Prop:=∃W:Nat->Nat->St->Hp->Prop,(∃m,W 0 m σ U)/\∀i m σ H,W i m σ H ->
 (J.stop i H/\D.nx σ H)\/(J.go i H/\∃N:St->Hp->Prop,(∀σ' H',N σ' H'->∃m',m'<m/\W (i+1) m' σ' H')/\∀x H',J.yld i H x H'->g x σ H' λσ2 Y=>tb {D with nx:=N,ct:=N,bk:=D.nx} σ2 Y)
def RA (wi:TI) (g:TG) (tb:TS):TS:=λD σ H=>wi σ H λJ U=>FO J g tb D σ U
def Nr (fp:List Addr) (h:Heap):B':=fp.filterMap λb=>(h.get? b).map λo=>(b,o)
variable {fp:List Addr}
def O7{o:Obj}(a:b∈fp)(e:h.get? b=some o):(b,o)∈Nr fp h:=List.mem_filterMap.mpr ⟨b,a,by rw[e];rfl⟩
def Xs{p:Addr×Obj}(a:p∈Nr fp h):p.1∈fp/\h.get? p.1=some p.2:=by
 obtain⟨b,c,e⟩:=List.mem_filterMap.mp a
 cases q:h.get? b with
 |none=>rw[q] at e;cases e
 |some o =>
   rw[q] at e;have d:(b,o)=p:=BS e;subst d;exact⟨c,q⟩
theorem Inv.pinned(I:Inv X pins σ H s)(f:∀b∈fp,Dl X pins H b)(g:∀b∈fp,∃o,s.heap.get? b=some o/\∀v,o.data≠.cell v):Inv X (pins++Nr fp s.heap) σ H s:=
 I.pins_of λp h=>(BR.mp h).elim (λz=>I.pin p (D6 _ z)) λz=>by
  obtain⟨a,e⟩:=Xs z;obtain⟨i,j,k,_⟩:=f p.1 a;obtain⟨o,c,d⟩:=g p.1 a;rw[e] at c;cases c;exact⟨e,i,j,k,d⟩
theorem Inv.unpinned{a:B'}(I:Inv X (pins++a) σ H s):Inv X pins σ H s:=I.pins_of λp b=>I.pin p (D6 _ (GP _ b))
def Cz{j:Expr}{body:List Stmt}{B:TI}{g:TG}{tb:TS}{L:Pos}(p:PassesOwn (model X.prog X.w) X.A X.env X.xe)(C:X.calm=true)(P:PI X tg j B)(Q:PG X tg g)(a:Ge X body tb)
 (R:∀x,foldedSetIterable j X.env x=pure x:=by intro _;rfl):PS X (.For tg j body [] L) (RA B g tb):=by
 intro pins s σ H af I h;refine wpAny_For (AU (P pins s σ H _ I h) λv s1 S=>AU S λai s2 U=>?_) R;obtain⟨it,fp,D,ag,Y,e,V,T,aa,E,W,⟨m0,w0⟩,turn⟩:=U;subst e;have A:∀{k:Hp},(∀b∈fp,k b=none)->∀b∈fp,Dl X pins k b:=λhn b a=>⟨hn b a,(E b a).2⟩;refine codeAny_forLoop_any (λn Z=>∃i σ' k,Inv X pins σ' k Z/\D i Z.heap/\(∀b∈fp,k b=none)/\W i n σ' k) ?_ m0 ⟨0,σ,Y,V,aa,λb a=>(E b a).1,w0⟩;rintro n F ⟨i,σ3,t,G,M,O,w3⟩;rcases turn i n σ3 t w3 with⟨stop,qn⟩|⟨go,N,hN,step⟩
 . refine wpAny_passesOwn p (AU (T.done X rfl rfl rfl C i pins F σ3 t X.xe G (A O) M stop) λr s4⟨w,I4⟩=>?_)
   subst w;exact wpAny_execs_nil ⟨σ3,t,I4,qn⟩
 . refine wpAny_passesOwn p (AU (T.item X rfl rfl rfl C i pins F σ3 t X.xe G (A O) M go) λr s4⟨u,w,h4⟩=>?_)
   subst w;refine wpAny_passesOwn p (AU h4 λ_ J⟨x,K,I5,r5,y5,z,ab⟩=>?_);have ae:=I5.pinned (A ab) (T.obj _ _ z);refine wpAny_passesOwn p (AU (Q _ J σ3 K x u _ ae r5 (step x K y5)) λ_ s6⟨σ6,H6,I6,q6⟩=>?_);refine wpAny_passesOwn p (AU (a _ s6 σ6 H6 _ I6 q6) λf y l=>?_)
   have again:∀{σ7:St}{c:Hp},Inv X (pins++Nr fp J.heap) σ7 c y->N σ7 c->∃m,m<n/\∃i σ' k,Inv X pins σ' k y/\D i y.heap/\(∀b∈fp,k b=none)/\W i m σ' k:=λ{σ7 c}d q=>by
    obtain⟨m',hm,w7⟩:=hN σ7 c q;refine⟨m',hm,i+1,σ7,c,d.unpinned,T.keep _ _ _ z λb a o e=>(d.pin (b,o) (D6 _ (D6 _ (O7 a e)))).1,λb a=>?_,w7⟩;obtain⟨o,e,ah⟩:=T.obj _ _ z b a;exact(d.pin (b,o) (D6 _ (D6 _ (O7 a e)))).2.1
   cases f with
   |next=>obtain⟨σ7,c,d,q⟩:=l;exact again d q
   |cont=>obtain⟨σ7,c,d,q⟩:=l;exact again d q
   |brk=>obtain⟨σ7,c,d,l⟩:=l;exact⟨σ7,c,d.unpinned,l⟩
   |ret v=>obtain⟨x7,σ7,c,d,r7,l⟩:=l;exact⟨x7,σ7,c,d.unpinned,r7,l⟩
end
variable {g:TG}{tb:TS}{D:Ends}
def Nt{J:It}(n:Nat)(Pv:Nat->St->Hp->Prop)(b:Pv 0 σ H)(go:∀i σ H,Pv i σ H->i<n->J.go i H)(stop:∀σ H,Pv n σ H->J.stop n H)
 (c:∀i v σ H H',Pv i σ H->i<n->J.yld i H v H'->g v σ H' λσ2 Y=>tb {D with nx:=Pv (i+1),ct:=Pv (i+1),bk:=D.nx} σ2 Y) (hd:∀σ H,Pv n σ H->D.nx σ H):FO J g tb D σ H:=by
 unfold FO;refine⟨λi m σ H=>m=n-i/\i<=n/\Pv i σ H,⟨_,rfl,DP _,b⟩,?_⟩;rintro i m σ H ⟨rfl,e,p⟩;by_cases a:i<n;exact .inr ⟨go i σ H p a,Pv (i+1),λσ' H' d=>⟨n-(i+1),by lia,rfl,a,d⟩,λv H' y=>c i v σ H H' p a y⟩
 . obtain rfl:i=n:=by lia
   exact .inl ⟨stop σ H p,hd σ H p⟩
def Fn{K:Aj}{xs:List V}(Pv:Nat->St->Hp->Prop)(d:Pv 0 σ H)(c:∀i σ H,i<=xs.length->Pv i σ H->Af K H a xs)
 (e:∀i x σ H,xs[i]?=some x->Pv i σ H->g x σ H λσ2 Y=>tb {D with nx:=Pv (i+1),ct:=Pv (i+1),bk:=D.nx} σ2 Y) (hd:∀σ H,Pv xs.length σ H->D.nx σ H):FO (MN K a) g tb D σ H:=Nt xs.length Pv d (λi σ H p b=>⟨xs,xs[i],c i σ H (CU b) p,by simp[b]⟩) (λσ H p=>⟨xs,c _ σ H (AG _) p,AG _⟩) (λi v σ H f p b y=>by obtain⟨rfl,y⟩:=y;exact e i v σ _ (y xs (c i σ _ (CU b) p)) p) hd
def Lh{lo:Int}{n:Nat}(Pv:Nat->St->Hp->Prop)(b:Pv 0 σ H)
 (c:∀i σ H,i<n->Pv i σ H->g (.int (lo+i)) σ H λσ2 Y=>tb {D with nx:=Pv (i+1),ct:=Pv (i+1),bk:=D.nx} σ2 Y) (hd:∀σ H,Pv n σ H->D.nx σ H):FO (MO lo n) g tb D σ H:=Nt n Pv b (λi σ H p a=>a) (λσ H p=>AG _) (λi v σ H d p a y=>by obtain⟨rfl,rfl⟩:=y;exact c i σ _ a p) hd
abbrev R2:=V->V->Hp->VK->Prop
def Ee (X:Cx) (f:Value->Value->Sem Value) (r:R2):Prop:=
 ∀(pins:B')(s:Shared)(σ:St)(H:Hp)(x y:V)(v u:Value)(Q:VK),Inv X pins σ H s->RelV x v->RelV y u->r x y H Q ->
  wpAny (model X.prog X.w) X.A (f v u) (EP X pins σ Q) X.xe s
def O8 (X:Cx) (f:Value->Sem Value) (r:V->Hp->VK->Prop):Prop:=
 ∀(pins:B')(s:Shared)(σ:St)(H:Hp)(x:V)(v:Value)(Q:VK),Inv X pins σ H s->RelV x v->r x H Q ->
  wpAny (model X.prog X.w) X.A (f v) (EP X pins σ Q) X.xe s
def Bs (X:Cx) (f:Value) (r:List V->Hp->VK->Prop):Prop:=
 ∀(pins:B')(s:Shared)(σ:St)(H:Hp)(xs:List V)(us:List Value)(Q:VK),Inv X pins σ H s->Ax xs us->r xs H Q ->
  wpAny (model X.prog X.w) X.A (call f us) (EP X pins σ Q) X.xe s
def Ck (r:R2) (ta tb:TE):TE:=λσ H Q=>ta σ H λx U=>tb σ U λy Y=>r x y Y Q
def RB (r:V->Hp->VK->Prop) (ta:TE):TE:=λσ H Q=>ta σ H λx U=>r x U Q
def rI (C:Int->Int->Prop) (g:Int->Int->V):R2:=λx y H Q=>IR x y λi j=>C i j/\Q (g i j) H
def Gy (g:Int->Int->V):R2:=λx y H Q=>IR x y λi j=>Q (g i j) H
def rU (g:Int->V):V->Hp->VK->Prop:=λx H Q=>mI x λi=>Q (g i) H
section
variable {X:Cx} {a b c:Expr} {ta tb tc:TE} {L:Pos}
variable {f:Value->Value->Sem Value}
def Li(d:PE X a ta)(e:PE X b tb){R:V->V->Hp->Prop}(I:Inv X pins σ H s)
 (h:ta σ H λx U=>tb σ U λy Y=>R x y Y) {Q:I'} (g:∀v u c x y Y,Inv X pins σ Y c->RelV x v->RelV y u->R x y Y->wpAny (model X.prog X.w) X.A (f v u) Q X.xe c) :
 wpAny (model X.prog X.w) X.A (eval a X.env) (λv i=>wpAny (model X.prog X.w) X.A (eval b X.env) (λu j=>wpAny (model X.prog X.w) X.A (f v u) Q X.xe j) X.xe i) X.xe s:=by
 refine AU (d pins s σ H _ I h) λv k⟨x,U,l,m,n⟩=>?_;refine AU (e pins k σ U _ l n) λu c⟨y,Y,o,p,q⟩=>?_;exact g v u c x y Y o m p q
def AZ{op:Operator}{r:R2}(c:Ee X (binaryOp op) r)(d:PE X a ta)(e:PE X b tb):PE X (.BinOp a op b L) (Ck r ta tb):=by
 intro pins s σ H Q I h;exact wpAny_BinOp (Li d e I h λv u f x y Y g i j q=>c pins f σ Y x y v u Q g i j q)
def Ko{op:UnaryOp}{r:V->Hp->VK->Prop}(b:O8 X (unaryOp op) r)(c:PE X a ta):PE X (.UnaryOp op a L) (RB r ta):=by
 intro pins s σ H Q I h;exact UnaryOp_ (AU (c pins s σ H _ I h) λv d⟨x,U,e,f,g⟩=>b pins d σ U x v Q e f g)
def RC{C:Int->Int->Prop}{g:Int->Int->Int}
 (e:∀(i j:Int)(t u:Tok)(s:Shared)(Q:I')(E:I'),C i j->Q (.int (g i j) s.toks) {s with toks:=s.toks+1}->wpAny (model X.prog X.w) X.A (f (.int i t) (.int j u)) Q E s) :
 Ee X f (rI C λi j=>.int (g i j)):=by
 intro pins s σ H x y v u Q I a b h
 replace h:=IR.ex h
 obtain⟨i,j,rfl,rfl,c,q⟩:=h;obtain⟨t,rfl⟩:=a;obtain⟨d,rfl⟩:=b;exact e i j t d s _ _ c ⟨.int (g i j),H,I.tok _,⟨_,rfl⟩,q⟩
def Lj{g:Int->Int->Int}
 (d:∀(i j:Int)(t u:Tok)(s:Shared)(Q:I')(E:I'),Q (.int (g i j) s.toks) {s with toks:=s.toks+1}->wpAny (model X.prog X.w) X.A (f (.int i t) (.int j u)) Q E s) :
 Ee X f (Gy λi j=>.int (g i j)):=by
 intro pins s σ H x y v u Q I a b h
 replace h:=IR.ex h
 obtain⟨i,j,rfl,rfl,q⟩:=h;obtain⟨t,rfl⟩:=a;obtain⟨c,rfl⟩:=b;exact d i j t c s _ _ ⟨.int (g i j),H,I.tok _,⟨_,rfl⟩,q⟩
def Nu{g:Int->Int->Bool}
 (d:∀(i j:Int)(t u:Tok)(s:Shared)(Q:I')(E:I'),Q (.bool (g i j)) s->wpAny (model X.prog X.w) X.A (f (.int i t) (.int j u)) Q E s) :
 Ee X f (Gy λi j=>.bl (g i j)):=by
 intro pins s σ H x y v u Q I a b h
 replace h:=IR.ex h
 obtain⟨i,j,rfl,rfl,q⟩:=h;obtain⟨t,rfl⟩:=a;obtain⟨c,rfl⟩:=b;exact d i j t c s _ _ ⟨.bl (g i j),H,I,rfl,q⟩
def RD (i j:Int):Prop:=0<j/\j<1073741824
def Hr (i j:Int):Prop:=(-(2 ^ 64)<i/\i<2 ^ 64)\/(-(2 ^ 64)<j/\j<2 ^ 64)
def Hr.ok{i j:Int}(h:Hr i j):IntMulOk i j:=by
 rcases h with⟨a,b⟩|⟨a,b⟩;exact .of_left (intBits_le_64 a b);exact .of_right (intBits_le_64 a b)
def Kp:Ee X (binaryOp .Add) (Gy λi j=>.int (i+j)):=Lj λζ ζ ζ ζ ζ ζ ζ q=>add_int q
def Ll:Ee X (binaryOp .Sub) (Gy λi j=>.int (i-j)):=Lj λζ ζ ζ ζ ζ ζ ζ q=>sub_int q
def Gz:Ee X (binaryOp .Mult) (rI Hr λi j=>.int (i*j)):=RC λζ ζ ζ ζ ζ ζ ζ a q=>mul_int q a.ok
def Hs:Ee X (binaryOp .FloorDiv) (rI RD λi j=>.int (i/j)):=RC λi j ζ ζ ζ ζ ζ a q=>by
 have b:(0:Int)<j:=a.1;have c:j<1073741824:=a.2;exact floordiv_int (by lia) (by rw[Int.fdiv_eq_ediv_of_nonneg i (by lia)];exact q) (.inl (PyProof.noPylong_small (by lia)))
def CO:Ee X (binaryOp .Mod) (rI (λζ j=>0<j) λi j=>.int (i%j)):=RC λi j ζ ζ ζ ζ ζ a q=>by
 have b:(0:Int)<j:=a;exact mod_int' (by lia) (by rw[Int.fmod_eq_emod_of_nonneg i (by lia)];exact q)
def IW:Ee X (inplaceOp .Add) (Gy λi j=>.int (i+j)):=Lj λζ ζ ζ ζ ζ ζ ζ q=>iadd_int q
def Xu{f:Value->Sem Value}{g:Int->Int}
 (b:∀(i:Int)(t:Tok)(s:Shared)(Q:I')(E:I'),Q (.int (g i) s.toks) {s with toks:=s.toks+1}->wpAny (model X.prog X.w) X.A (f (.int i t)) Q E s) :
 O8 X f (rU λi=>.int (g i)):=by
 intro pins s σ H x v Q I a h
 replace h:=mI.ex h
 obtain⟨i,rfl,q⟩:=h;obtain⟨t,rfl⟩:=a;exact b i t s _ _ ⟨.int (g i),H,I.tok _,⟨_,rfl⟩,q⟩
def Kq:O8 X (unaryOp .USub) (rU λi=>.int (-i)):=Xu λζ ζ ζ ζ ζ q=>neg_int q
end
def Lm:V->V->Bool
 |.non,.non=>true|.non,.int _=>true|.int _,.non=>true|.non,.bl _=>true|.bl _,.non=>true|.non,.str _=>true|.str _,.non=>true
 |.int _,.int _=>true|.bl _,.bl _=>true|.str _,.str _=>true|.byt _,.byt _=>true
 |.int _,.str _=>true|.str _,.int _=>true|.bl _,.str _=>true|.str _,.bl _=>true
 |_,_=>false
def Ui:R2:=λx y H Q=>Lm x y=true/\Q (.bl (decide (x=y))) H
def Uj:R2:=λx y H Q=>Lm x y=true/\Q (.bl (!decide (x=y))) H
def Uk{i j:Int}:decide (V.int i=V.int j)=(i==j):=by
 rw[Bool.eq_iff_iff]
 simp
def Ht{i j:Bool}:decide (V.bl i=V.bl j)=(i==j):=by
 rw[Bool.eq_iff_iff]
 simp
def Ul{i j:Str}:decide (V.str i=V.str j)=(i==j):=by
 rw[Bool.eq_iff_iff]
 simp
def Um{i j:Array UInt8}:decide (V.byt i=V.byt j)=(i.toList==j.toList):=by
 rw[Bool.eq_iff_iff];cases i;cases j
 simp
section
variable {X:Cx} {a b c:Expr} {ta tb tc:TE} {L:Pos}
def Dh{Q:VK}{k a:Bool}(I:Inv X pins σ H s)(q:Q (.bl k) H)(e:k=a):EP X pins σ Q (.bool a) s:=by
 subst e;exact⟨.bl k,H,I,rfl,q⟩
def B8:Ee X (compareOp .Eq) Ui:=by
 intro pins s σ H x y v u Q I d a h;obtain⟨c,q⟩:=h
 cases x with
 |non =>
   cases d
   cases y with
   |non=>cases a;exact PySem.EqNone.eq_none_none (Dh I q (by simp))
   |bl j=>cases a;exact PySem.EqNone.eq_none_bool (Dh I q (by simp))
   |int j=>obtain⟨b,rfl⟩:=a;exact PySem.EqNone.eq_none_int (Dh I q (by simp))
   |str j=>obtain⟨b,rfl⟩:=a;exact PySem.EqNone.eq_none_str (Dh I q (by simp))
   |_=>exact absurd (show false=true from c) Df
 |bl i =>
   cases d
   cases y with
   |non=>cases a;exact PySem.EqNone.eq_bool_none (Dh I q (by simp))
   |bl j=>cases a;exact eq_bool (Dh I q Ht)
   |str j=>obtain⟨b,rfl⟩:=a;exact PySem.EqMixed.eq_bool_str (Dh I q (by simp))
   |_=>exact absurd (show false=true from c) Df
 |int i =>
   obtain⟨t,rfl⟩:=d
   cases y with
   |non=>cases a;exact PySem.EqNone.eq_int_none (Dh I q (by simp))
   |int j=>obtain⟨b,rfl⟩:=a;exact eq_int (Dh I q Uk)
   |str j=>obtain⟨b,rfl⟩:=a;exact PySem.EqMixed.eq_int_str (Dh I q (by simp))
   |_=>exact absurd (show false=true from c) Df
 |str i =>
   obtain⟨t,rfl⟩:=d
   cases y with
   |non=>cases a;exact PySem.EqNone.eq_str_none (Dh I q (by simp))
   |bl j=>cases a;exact PySem.EqMixed.eq_str_bool (Dh I q (by simp))
   |int j=>obtain⟨b,rfl⟩:=a;exact PySem.EqMixed.eq_str_int (Dh I q (by simp))
   |str j=>obtain⟨b,rfl⟩:=a;exact eq_str (Dh I q Ul)
   |_=>exact absurd (show false=true from c) Df
 |byt i =>
   obtain⟨t,rfl⟩:=d
   cases y with
   |byt j=>obtain⟨b,rfl⟩:=a;exact PySem.W.eq_bytes (Dh I q Um)
   |_=>exact absurd (show false=true from c) Df
 |_=>cases y<;>exact absurd (show false=true from c) Df
def Nv:Ee X (compareOp .NotEq) Uj:=by
 intro pins s σ H x y v u Q I d a h;obtain⟨c,q⟩:=h
 cases x with
 |non =>
   cases d
   cases y with
   |non=>cases a;exact PySem.EqNone.ne_none_none (Dh I q (by simp))
   |bl j=>cases a;exact PySem.EqNone.ne_none_bool (Dh I q (by simp))
   |int j=>obtain⟨b,rfl⟩:=a;exact PySem.EqNone.ne_none_int (Dh I q (by simp))
   |str j=>obtain⟨b,rfl⟩:=a;exact PySem.EqNone.ne_none_str (Dh I q (by simp))
   |_=>exact absurd (show false=true from c) Df
 |bl i =>
   cases d
   cases y with
   |non=>cases a;exact PySem.EqNone.ne_bool_none (Dh I q (by simp))
   |bl j=>cases a;exact ne_bool (Dh I q (Bq not Ht))
   |str j=>obtain⟨b,rfl⟩:=a;exact PySem.EqMixed.ne_bool_str (Dh I q (by simp))
   |_=>exact absurd (show false=true from c) Df
 |int i =>
   obtain⟨t,rfl⟩:=d
   cases y with
   |non=>cases a;exact PySem.EqNone.ne_int_none (Dh I q (by simp))
   |int j=>obtain⟨b,rfl⟩:=a;exact ne_int (Dh I q (Bq not Uk))
   |str j=>obtain⟨b,rfl⟩:=a;exact PySem.EqMixed.ne_int_str (Dh I q (by simp))
   |_=>exact absurd (show false=true from c) Df
 |str i =>
   obtain⟨t,rfl⟩:=d
   cases y with
   |non=>cases a;exact PySem.EqNone.ne_str_none (Dh I q (by simp))
   |bl j=>cases a;exact PySem.EqMixed.ne_str_bool (Dh I q (by simp))
   |int j=>obtain⟨b,rfl⟩:=a;exact PySem.EqMixed.ne_str_int (Dh I q (by simp))
   |str j=>obtain⟨b,rfl⟩:=a;exact ne_str (Dh I q (Bq not Ul))
   |_=>exact absurd (show false=true from c) Df
 |byt i =>
   obtain⟨t,rfl⟩:=d
   cases y with
   |byt j=>obtain⟨b,rfl⟩:=a;exact PySem.W.ne_bytes (Dh I q (Bq not Um))
   |_=>exact absurd (show false=true from c) Df
 |_=>cases y<;>exact absurd (show false=true from c) Df
def IX:Ee X (compareOp .Lt) (Gy λi j=>.bl (decide (i<j))):=Nu λζ ζ ζ ζ ζ ζ ζ q=>lt_int q
def Nw:Ee X (compareOp .Gt) (Gy λi j=>.bl (decide (j<i))):=Nu λζ ζ ζ ζ ζ ζ ζ q=>gt_int q
variable {op:CmpOp}
def Bj(b:Expr)(h:op≠.In:=by decide)(a:op≠.NotIn:=by decide):behindInMarks op b=false:=by
 have c:(op==CmpOp.In)=false:=by cases op<;>first|rfl|exact absurd rfl h
 have d:(op==CmpOp.NotIn)=false:=by cases op<;>first|rfl|exact absurd rfl a
 cases b<;>simp[behindInMarks,c,d]
def Ix{r:R2}(c:Ee X (compareOp op) r)(d:PE X a ta)(e:PE X b tb)(f:behindInMarks op b=false):PE X (.Compare a [op] [b] L) (Ck r ta tb):=by
 intro pins s σ H Q I h;exact wpAny_Compare1 (Li d e I h λv u g x y Y i j k q=>c pins g σ Y x y v u Q i j k q) f
def MP (t:TE):TT:=λσ H Q=>t σ H λx H'=>mB x λk=>Q k H'
def Bp{r:R2}(f:Ee X (compareOp op) r)(g:PE X a ta)(i:PE X b tb)(j:behindInMarks op b=false):PT X (.Compare a [op] [b] L) (MP (Ck r ta tb)):=by
 intro pins s σ H Q I h
 refine wpAny_isTrue_Compare1 (AU (g pins s σ H _ I h) λv l⟨x,U,m,n,o⟩=>AU (i pins l σ U _ m o) λu p⟨y,Y,q,t,w⟩ =>
  AU (f pins p σ Y x y v u _ q n t w) λc D⟨z,A,B,C,d⟩=>?_) j
 replace d:=mB.ex d
 obtain⟨k,e,d⟩:=d;subst e;cases C;exact Gv ⟨A,B,d⟩
def Ny:(sizeLine:Nat)<2 ^ 63:=by rw[sizeLine_eq];decide
def Uo:Ee X (binaryOp .Add) (λx y H Q=>∃i j,x=.str i/\y=.str j/\i.length+j.length<=sizeLine/\Q (.str (i++j)) H):=by
 intro pins s σ H x y v u Q I a b h;obtain⟨i,j,rfl,rfl,c,q⟩:=h;obtain⟨t,rfl⟩:=a;obtain⟨d,rfl⟩:=b;exact add_str (λd e=>⟨.str (i++j),H,I.tok _,⟨_,rfl⟩,q⟩) c
def Gh{a:List Value}(r:Ax [x] a):∃u,a=[u]/\RelV x u:=by
 cases r with
 |cons b c=>cases c;exact⟨_,rfl,b⟩
def Kr{y:V}{a:List Value}(r:Ax [x,y] a):∃u b,a=[u,b]/\RelV x u/\RelV y b:=by
 cases r with
 |cons c d =>
   cases d with
   |cons e f=>cases f;exact⟨_,_,rfl,c,e⟩
def O9:Bs X (.type "int") (λxs H Q=>(∃i,xs=[.int i]/\Q (.int i) H)\/∃k,xs=[.bl k]/\Q (.int (if k then 1 else 0)) H):=by
 intro pins s σ H xs b Q I r h;rcases h with⟨i,rfl,q⟩|⟨k,rfl,q⟩;obtain⟨u,rfl,t,rfl⟩:=Gh r;exact call_int_int ⟨.int i,H,I,⟨_,rfl⟩,q⟩;obtain⟨u,rfl,a⟩:=Gh r
 cases a;exact call_int_bool ⟨.int (if k then 1 else 0),H,I.tok _,⟨_,rfl⟩,q⟩
def RE (K:Aj) (x:V) (H:Hp) (n:Nat):Prop:=
 match x with
 |.str y=>y.length<=sizeLine/\n=y.length
 |.byt y=>y.size<=sizeLine/\n=y.size
 |.ref p=>(∃xs,Af K H p xs/\n=xs.length)\/∃xs,Al K H p xs/\n=xs.length
 |_=>False
def GA:Bs X (.builtin "len") (λxs H Q=>mL xs λx n=>RE X.K x H n/\Q (.int n) H):=by
 intro pins s σ H xs l Q I r h
 replace h:=mL.ex h
 obtain⟨x,n,rfl,e,q⟩:=h;obtain⟨u,rfl,b⟩:=Gh r;have m:=Ny;have o:sizeLine=16777216:=sizeLine_eq
 cases x with
 |str y =>
   obtain⟨t,rfl⟩:=b;obtain⟨i,a⟩:y.length<=sizeLine/\n=y.length:=e;subst a;exact len_str (by lia) ⟨.int _,H,I.tok _,⟨_,rfl⟩,q⟩
 |byt y =>
   obtain⟨t,rfl⟩:=b;obtain⟨i,a⟩:y.size<=sizeLine/\n=y.size:=e;subst a;exact PySem.W.len_bytes (by lia) ⟨.int _,H,I.tok _,⟨_,rfl⟩,q⟩
 |ref p =>
   cases b;have a:(∃xs,Af X.K H p xs/\n=xs.length)\/∃xs,Al X.K H p xs/\n=xs.length:=e;rcases a with⟨xs,c,a⟩|⟨xs,c,a⟩;subst a;obtain⟨k,d,f,j⟩:=I.list c;have g:=d.length;exact Calls.call_len_list f.isList (by simp only[CM];lia) ⟨.int xs.length,H,I.tok _,⟨_,by simp only[CM];rw[g]⟩,q⟩;subst a;obtain⟨k,d,f,j⟩:=I.tuple c;have g:=d.length;exact len_tuple f (by simp only[CM];lia) ⟨.int xs.length,H,I.tok _,⟨_,by simp only[CM];rw[g]⟩,q⟩
 |_=>exact(show False from e).elim
end
section
variable {prog:Program} {w:World} {A:Around} {E:I'} {s:Shared} {K:Aj} {x dx C f:Addr} {mA:Str->Option Value} {name:Str} {v:Value}
end
def Ed.some_of{v:V}{o:Option Value}(r:Ed (some v) o):∃u,o=some u/\RelV v u:=by
 cases o with
 |none=>exact(show False from r).elim
 |some u=>exact⟨u,rfl,r⟩
section
variable {P:Program} {w:World} {H H':Hp} {h h':Heap} {a C dx:Addr} {fs fs':List (Str×V)}
end
section
variable {X:Cx} {pins:B'} {σ:St} {H:Hp} {s:Shared} {a C dx:Addr} {fs:List (Str×V)} {f:Str} {v:V} {A:Around} {E:I'}
end
section
variable {X:Cx} {o e d:Expr} {f:Str} {L t j:Pos} {ta J:TE}
end
section
variable {X:Cx} {pins:B'} {σ:St} {H:Hp} {s:Shared} {A:Around} {E:I'} {Q:I'} {c:Value} {b:Bool}
end
structure B1 (k:Nat) (A:Around):Prop where
 hd:A.handled=none
 dp:A.depth+3*k+5<recursionLimit
 un:A.units+16*k+200<cLine
def B1.mono{j k:Nat}(r:B1 k A)(h:j<=k):B1 j A:=⟨r.hd,by have:=r.dp;lia,by have:=r.un;lia⟩
def B1.deeper{k:Nat}{A:Around}(r:B1 (k+1) A)(env:Env):B1 k (A.deeper env):=
 ⟨r.hd,by have:=r.dp;show A.depth+1+3*k+5<_;lia,by have:=r.un;show A.units+3+16*k+200<_;lia⟩
def B1.depth{k:Nat}{A:Around}(r:B1 k A):A.depth<recursionLimit:=by have:=r.dp;lia
def B1.units{k:Nat}{A:Around}(r:B1 k A):A.units+64<cLine:=by have:=r.un;lia
def Fo:TA:=λζ H Q=>Q [] H
def F8 (ta:TE) (tr:TA):TA:=λσ H Q=>ta σ H λx U=>tr σ U λxs Y=>Q (x::xs) Y
section
variable {X:Cx} {e:Expr} {es:List Expr} {te:TE} {t:TA} {L:Pos}
def Ae:PA X [] Fo:=λζ ζ ζ ζ H Q I h=>Calls.spliced_nil ⟨[],H,I,.nil,h⟩
def Ab(a:PE X e te)(b:PA X es t)(c:starEach (e::es) X.env=(false,eval e X.env)::starEach es X.env:=by rfl):PA X (e::es) (F8 te t):=by
 intro L pins s σ H Q I h;rw[c];show wpAny _ _ (spliced ((false,eval e X.env)::backTo L (starEach es X.env))) _ _ s;refine Calls.spliced_cons (AU (a pins s σ H _ I h) λu d⟨x,U,f,g,i⟩=>?_);exact AU (b L pins d σ U _ f i) λn o⟨j,Y,k,l,m⟩=>⟨x::j,Y,k,.cons g l,m⟩
def IY (t:TA):TE:=λσ H Q=>t σ H λxs U=>xs.length<=sizeLine/\∀p,U p=none->Q (.ref p) (upd U p (.tup xs))
def RF (t:TA):TE:=λσ H Q=>t σ H λxs U=>xs.length<=sizeLine/\∀p,U p=none->Q (.ref p) (upd U p (.lst xs))
def AQ{d}(h:PA X es t):PE X (.Tuple es d L) (IY t):=by
 intro pins s σ H Q I f;refine wpAny_Tuple_spliced (AU (h L pins s σ H _ I f) λg a⟨i,U,c,r,z,q⟩=>⟨by rw[<-r.length];exact z,?_⟩);have j:U a.heap.objs.size=none:=c.hok.fresh (AG _);refine⟨.ref a.heap.objs.size,upd U a.heap.objs.size (.tup i),c.laid (t':=a.toks) (λb u e=>Bo _ e) (AG _) ?_,rfl,q _ j⟩;exact⟨z,g,r,⟨_,Cp _ rfl,rfl,_,rfl⟩⟩
def Cg(h:PA X es t):PE X (.List es L) (RF t):=by
 intro pins s σ H Q I d;refine wpAny_List_spliced (AU (h L pins s σ H _ I d) λf a⟨g,U,c,r,z,q⟩=>⟨by rw[<-r.length];exact z,?_⟩);have i:U a.heap.objs.size=none:=c.hok.fresh (AG _);refine⟨.ref a.heap.objs.size,upd U a.heap.objs.size (.lst g),c.laid (t':=a.toks) (λb u e=>Bo _ e) (AG _) ?_,rfl,q _ i⟩;exact⟨z,f,0,r,Cp _ rfl⟩
end
abbrev Sp:=List V->Hp->VK->XK->Prop
abbrev Hu:=List Env->Hp->Shared->XK->Value->Shared->Prop
structure IZ (P:Program) (w:World) (K:Aj) (mg:Str->Option Value) (base:Heap) (A:Around) (outer:List Env) (s:Shared) (H:Hp):Prop where
 frames:A.frames=some outer
 mod:Mod K mg base
 bs:∀b o,base.get? b=some o->s.heap.get? b=some o/\H b=none
 bsz:base.objs.size<=s.heap.objs.size
 funs:s.heap.FunFrames base outer
 frf:∀b∈Fb outer,H b=none
 hok:Dc P w H s.heap
 bare:AllBare s.gens
def CE (outer:List Env) (P:Program) (w:World) (H:Hp) (s:Shared) (Q:VK) (u:Value) (Z:Shared):Prop:=
 ∃v H',Z.os=s.os/\AllBare Z.gens/\Un (Fb outer) [] H H' s.heap Z.heap/\Dc P w H' Z.heap/\RelV v u/\Q v H'
def CR (CX:Hu) (outer:List Env) (P:Program) (w:World) (H:Hp) (s:Shared) (Q:VK) (E:XK) (r:Result) (Z:Shared):Prop:=
 match r with
 |.ok (.ret u)=>CE outer P w H s Q u Z
 |.ok _=>False
 |.error e=>CX outer H s E e Z
structure Ex (P:Program) (w:World) (K:Aj) (mg:Str->Option Value) (base:Heap) (CX:Hu) (k:Nat) (f:Addr) (fd:FuncData) (ps:List Str) (sp:Sp):Prop where
 len:∀vs H Q E,sp vs H Q E->vs.length=ps.length
 run:∀(A:Around)(outer:List Env)(s:Shared)(H:Hp)(args:Args)(us:List Value)(vs:List V)(Q:VK)(E:XK),B1 k A->IZ P w K mg base A outer s H->BindsTo s fd args (ps.zip us)->Ax vs us->sp vs H Q E ->
  codeAny (model P w) A (.call (.ref f) args) (CR CX outer P w H s Q E) s
section
variable {X:Cx} {pins:B'} {σ:St} {H:Hp} {s Z:Shared}
def Inv.env0(I:Inv X pins σ H s):IZ X.prog X.w X.K X.mg X.base X.A X.stack s H:=
 ⟨I.ok.frames,I.ok.mod,I.bs,Fa I.ok.bsz I.sz,I.stack,I.stkFree,I.hok,I.bare⟩
def Inv.after{Q:VK}{u:Value}(I:Inv X pins σ H s)(h:CE X.stack X.prog X.w H s Q u Z):EP X pins σ Q u Z:=by
 obtain⟨v,a,c,j,un,f,r,q⟩:=h;obtain⟨e,g,d,t,i⟩:=Z;obtain rfl:i=s.os:=c;exact⟨v,a,I.call (h':=e) (g':=g) (d':=d) (t':=t) (ch:=[]) un f j (λb z=>absurd z (by simp)),r,q⟩
end
def Pa (sp:Sp) (c:List V) (E:XK) (t:TA):TE:=λσ H Q=>t σ H λvs U=>sp (vs++c) U Q E
def Binds (K:Aj) (fd:FuncData) (ps:List Str) (ds:List Value):Prop:=
 ∀(s:Shared)(us:List Value),K.In s.heap->(us++ds).length=ps.length->BindsTo s fd ⟨us,[]⟩ (ps.zip (us++ds))
variable {ps:List Str}
def Binds.all{K:Aj}{b:FuncData}(h:∀a:List Value,a.length=ps.length->bindArgs b ⟨a,[]⟩=pure (ps.zip a)):Binds K b ps []:=λs a ζ c=>by
 rw[Eb] at c ⊢;exact .of_eq (h a c)
def RG (CX:Hu) (X:Cx) (E:XK):Prop:=∀(pins:B')(σ:St)(H:Hp)(s:Shared)(e:Value)(Z:Shared),Inv X pins σ H s->CX X.stack H s E e Z->X.xe e Z
section
variable {X:Cx} {CX:Hu} {k:Nat} {f C:Addr} {fd:FuncData} {ps:List Str} {sp:Sp} {c:List V} {ds:List Value} {E:XK} {x m:Str} {p L apos:Pos} {e o:Expr} {es:List Expr} {ta:TE} {t:TA}
def Ln{Q:VK}{a:List Value}{vs:List V}(F:Ex X.prog X.w X.K X.mg X.base CX k f fd ps sp)(g:B1 k X.A)(i:Binds X.K fd ps ds)(hd:Ax c ds)(j:RG CX X E)
 (I:Inv X pins σ H s) (r:Ax vs a) (h:sp (vs++c) H Q E):wpAny (model X.prog X.w) X.A (call (.ref f) a) (EP X pins σ Q) X.xe s:=by
 have d:Ax (vs++c) (a++ds):=r.append hd;have l:(a++ds).length=ps.length:=by rw[<-d.length];exact F.len _ _ _ _ h
 refine wpAny_call (codeAny_mono (F.run X.A X.stack s H ⟨a,[]⟩ (a++ds) (vs++c) Q E g I.env0 (i s a I.kIn l) d h) λr Z b=>?_)
 cases r with
 |error e=>exact j pins σ H s e Z I b
 |ok m =>
   cases m with
   |ret u=>exact I.after b
   |next=>exact False.elim b
   |brk=>exact False.elim b
   |cont=>exact False.elim b
def I0(F:Ex X.prog X.w X.K X.mg X.base CX k f fd ps sp)(b:B1 k X.A)(d:Gl X x)(g:X.mg x=some (.ref f))(i:PySem.W.keepIn X.K (.ref f)=true)(j:Binds X.K fd ps ds)(hd:Ax c ds)(l:RG CX X E)
 (m:PA X (e::es) t) (o:(x==("__debug__" : Str))=false:=by decide) (n:starEach (e::es) X.env=(false,eval e X.env)::starEach es X.env:=by rfl) (u:(backTo L (starEach es X.env)).any (·.1)=false:=by rfl) :
 PE X (.Call (.Name x p) (e::es) [] L) (Pa sp c E t):=by
 intro pins s σ H Q I h;refine wpAny_Call_Name_kw (Ug I d g ?_ o);refine PySem.W.callWith_K (h₀:=X.base) I.ok.mod.kin i (AU (m L pins s σ H _ I h) λv w⟨y,U,a,r,q⟩=>⟨a.kIn,?_⟩) n u;exact Ln F b j hd l a r q
end
section
variable {X:Cx} {CX:Hu} {k:Nat} {f C:Addr} {fd:FuncData} {ps ks:List Str} {sp:Sp} {E:XK} {x m:Str} {p L apos kpos:Pos} {e o:Expr} {es:List Expr} {kws:List Keyword} {te ta:TE} {t tk:TA} {nm:Option Str}
variable {g:List Value->List Value->List Value} {gV:List V->List V->List V}
end
structure Ag (N P:List Str) (sc:Scope):Prop where
 kind:sc.kind=.function
 co:sc.isCoroutine=false
 gen:sc.isGenerator=false
 nd:N.Nodup
 pre:N.take P.length=P
 par:∀x∈P,sc.names.lookup x=some .local\/sc.names.lookup x=some .cell
 nofree:∀y∈sc.names,y.2≠.free
theorem Up{kindOf:Str->Option NameKind}{x:Str}:∀{binds:List (Str×Value)}{m:Str->Option Value},(∀v,(x,v)∉binds)->bindL kindOf binds m x=m x
 |[],_,_=>rfl
 |(n,v)::r,m,h=>by
   unfold bindL;rw[Up λw a=>h w (Cw _ a)];split;have:x≠n:=by rintro rfl;exact h v BF
   simp[this];rfl
theorem Uq{kindOf:Str->Option NameKind}{x:Str}:∀{binds:List (Str×Value)}{m:Str->Option Value},(∀v,(x,v)∉binds)->bindC kindOf binds m x=m x
 |[],_,_=>rfl
 |(n,v)::r,m,h=>by
   unfold bindC;rw[Uq λw a=>h w (Cw _ a)];split;rfl;have:x≠n:=by rintro rfl;exact h v BF
   simp[this]
theorem Ur{kindOf:Str->Option NameKind}{x:Str}{v:Value}:∀{P:List Str}{vs:List Value}{i:Nat}{m:Str->Option Value},P.Nodup->P[i]?=some x->vs[i]?=some v->kindOf x=some .local ->
 bindL kindOf (P.zip vs) m x=some v
 |[],_,_,_,_,h,_,_=>by simp at h
 |_::_,[],_,_,_,_,h,_=>by simp at h
 |p::P,w::vs,0,m,c,a,b,d=>by
   simp at a b;subst a;subst b;show bindL kindOf ((p,w)::P.zip vs) m p=_;unfold bindL;rw[Up λv hv=>(F4.mp c).1 (List.of_mem_zip hv).1,Au d]
   simp
 |p::P,w::vs,i+1,m,c,a,b,d=>by
   show bindL kindOf ((p,w)::P.zip vs) m x=_;unfold bindL;exact Ur (i:=i) (F4.mp c).2 (by simpa using a) (by simpa using b) d
theorem Us{kindOf:Str->Option NameKind}{x:Str}{v:Value}:∀{P:List Str}{vs:List Value}{i:Nat}{m:Str->Option Value},P.Nodup->P[i]?=some x->vs[i]?=some v->kindOf x≠some .local ->
 bindC kindOf (P.zip vs) m x=some v
 |[],_,_,_,_,h,_,_=>by simp at h
 |_::_,[],_,_,_,_,h,_=>by simp at h
 |p::P,w::vs,0,m,c,a,b,d=>by
   simp at a b;subst a;subst b;show bindC kindOf ((p,w)::P.zip vs) m p=_;unfold bindC;rw[Uq λv hv=>(F4.mp c).1 (List.of_mem_zip hv).1,At d]
   simp
 |p::P,w::vs,i+1,m,c,a,b,d=>by
   show bindC kindOf ((p,w)::P.zip vs) m x=_;unfold bindC;exact Us (i:=i) (F4.mp c).2 (by simpa using a) (by simpa using b) d
def start (N:List Str) (vs:List V):St:=vs.map some++List.replicate (N.length-vs.length) none
def AD (CX:Hu) (P:Program) (w:World) (K:Aj) (mg:Str->Option Value) (base:Heap) (N:List Str) (qual:Str) (scope:Scope) (f:Addr) (cd:Value) (A:Around) (outer:List Env) (s:Shared) (H:Hp) (E:XK):Cx where
 prog:=P
 w:=w
 K:=K
 mg:=mg
 base:=base
 A:=A.deeper (envOfC qual scope s.heap.objs.size f cd)
 N:=N
 s₀:=s
 H₀:=H
 env:=envOfC qual scope s.heap.objs.size f cd
 outer:=outer
 stack:=envOfC qual scope s.heap.objs.size f cd::outer
 ex:=[]
 calm:=true
 fn:=λζ=>true
 pn:=[]
 xe:=λe Z=>wpAny (model P w) (A.deeper (envOfC qual scope s.heap.objs.size f cd)) (leaving (envOfC qual scope s.heap.objs.size f cd) e) (λζ s''=>CX outer H s E e s'') (λe' s''=>CX outer H s E e' s'') Z
def Ut{sc:Scope}{n:Nat}{x:Str}(h:sc.names.lookup x=some .cell):∃c,(cellsFrom n sc.names []).lookup x=some c:=by
 have q:=PySem.W.cellsFrom_some sc.names n [] (.inl h);exact Option.isSome_iff_exists.mp q
def Xv{CX:Hu}{K:Aj}{C:Str->Option Value}{G:Heap}{N:List Str}{B:Str}{scope:Scope}{f:Addr}{m:Value}{I:List Env}{J:Shared}{E:XK}{D:List Value}{vs:List V}
 (S:Ag N ps scope) (hd:A.handled=none) (g:IZ P w K C G A I s H) (T:vs.length=ps.length) (r:Ax vs D)
 (x:InCallC s s.heap.objs.size (bindL (envOfC B scope s.heap.objs.size f m).kindOf (ps.zip D) λζ=>none) (cellsFrom (s.heap.objs.size+1) scope.names []) (bindC (envOfC B scope s.heap.objs.size f m).kindOf (ps.zip D) λζ=>none) J) :
 Inv (AD CX P w K C G N B scope f m A I s H E) [] (start N vs) H J:=by
 have X:ps.length<=N.length:=by have:=Bq List.length S.pre;rw[Ek] at this;lia
 obtain⟨o,U,rfl,L⟩:=x.done;have F:∀b:Addr,b∉(AD CX P w K C G N B scope f m A I s H E).ex:=λb z=>absurd (show b∈([]:List Addr) from z) (by simp)
 refine⟨⟨g.mod,S.kind,rfl,rfl,AG _,λy z c o d=>?_,λy j=>?_,λy c ζ h=>?_,λζ=>hd,Around.frames_deeper g.frames,.inr ⟨rfl,rfl⟩,λb z=>absurd z (F b),g.bs,g.bsz,λb ζ ζ=>F b,λb z=>absurd z (F b),g.funs,g.frf⟩,
  rfl,g.bare,Un.kept L,⟨_,x.toInCall.ns,λi y v o d W=>?_⟩,λy c h=>⟨_,x.cell y c h⟩,g.hok.fresh (AG _),λy c h=>?_,λp l=>absurd (show p∈([]:B') from l) (by simp),g.hok.kept L,?_⟩
 exact name_of_addr x.apart (Gd o) (Gd d);have j:scope.names.lookup y=some .cell\/scope.names.lookup y=some .free:=j;rcases j with j|j;exact Ut j;exact absurd rfl (S.nofree _ (Gd j));exact CU (x.above y c (Gd h))
 have t:i<vs.length:=by
  unfold start at d;by_cases t:i<vs.length;exact t;rw[E8 (by simpa using t)] at d;rw[List.getElem?_replicate] at d;split at d<;>cases d
 have Q:vs[i]?=some v:=by
  unfold start at d;rw[EQ (by simpa using t),AM] at d
  cases e:vs[i]? with
  |none=>rw[e] at d;cases d
  |some a=>rw[e] at d;cases d;rfl
 obtain⟨u,M,R⟩:=r.get Q
 have l:ps[i]?=some y:=by
  rw[<-S.pre,List.getElem?_take_of_lt (by lia)];exact o
 have O:ps.Nodup:=by rw[<-S.pre];exact S.nd.sublist (List.take_sublist _ _)
 refine⟨u,R,?_⟩;rcases S.par y (Bk l) with k|k;exact .inl ⟨k,Ur O l M k⟩;obtain⟨c,e⟩:=Ut (n:=s.heap.objs.size+1) k;refine .inr ⟨.inl k,c,e,?_⟩;have q:=x.cell y c e;rw[Us O l M (by show scope.names.lookup y≠_;rw[k];decide)] at q;exact q;exact g.hok.fresh (CU (x.above y c (Gd h)));unfold start;show _=N.length;rw[AO,Ak,List.length_replicate];lia
def NA{CX:Hu}{K:Aj}{i:Str->Option Value}{j:Heap}{k:Nat}{f:Addr}{name c:Str}{M:Arguments}{body:List Stmt}{scope:Scope}{p kV F z a ct O:Value}{B R:Option Addr}
 {aa:Array (Option Value)} {N:List Str} {sp:Sp} (T:K.lookup f=some ⟨O,R,.func (PySem.W.fnOf name c M body scope p kV F z B a ct),aa⟩) (ab:PySem.W.codeIn K a c=true) (S:Ag N ps scope)
 (len:∀vs H Q E,sp vs H Q E->vs.length=ps.length)
 (af:∀(A:Around)(g:List Env)(s:Shared)(H:Hp)(vs:List V)(Q:VK)(E:XK),B1 k (A.deeper (envOfC c scope s.heap.objs.size f a))->sp vs H Q E ->
  ∃t,Ge (AD CX P w K i j N c scope f a A g s H E) body t/\t {nx:=λζ H'=>Q .non H',rt:=Q} (start N vs) H) :
 Ex P w K i j CX (k+1) f (PySem.W.fnOf name c M body scope p kV F z B a ct) ps sp:=by
 refine⟨len,λA g s H ai U vs Q E l h W r G=>?_⟩;have X:=len _ _ _ _ G;have C:K.In s.heap:=h.mod.kin.keeps λb o e=>(h.bs b o e).1;have ae:s.heap.NoLimit:=h.mod.nolimit.keeps λb o e=>(h.bs b o e).1
 have ag:∀y∈ps.zip U,scope.names.lookup y.1=some .local\/(scope.names.lookup y.1=some .cell/\((cellsFrom (s.heap.objs.size+1) scope.names []).lookup y.1).isSome=true):=λ⟨n,v⟩Y=>by
  rcases S.par n (List.of_mem_zip Y).1 with q|q;exact .inl q;exact .inr ⟨q,PySem.W.cellsFrom_some _ _ _ (.inl q)⟩
 refine codeAny_call_function l.depth (C _ _ T) rfl S.co S.gen rfl (PySem.W.codeRec_of C ab) (W _ _ _ _ ?_);refine wpAny_newFunctionEnv_cells S.kind ag λah he D x=>?_;subst he;refine⟨ae.keeps x.toInCall.keep,codeAny_func ?_⟩;obtain⟨t,ht,hq⟩:=af A g s H vs Q E (l.deeper _) G;have I:Inv (AD CX P w K i j N c scope f a A g s H E) [] (start N vs) H D:=Xv S l.hd h X r x;refine FL (ht [] D (start N vs) H _ I hq) (λfl Z d=>?_) λe Z d=>d
 have L:∀{σ':St}{H':Hp}{v:V}{u:Value},Inv (AD CX P w K i j N c scope f a A g s H E) [] σ' H' Z->RelV v u->Q v H'->CE g P w H s Q u Z:=
  λ{σ' H' v u}J m q=>⟨v,H',J.os,J.bare,J.base,J.hok,m,q⟩
 cases fl with
 |ret u =>
   obtain⟨v,σ',H',J,m,q⟩:=d;exact L J m q
 |next =>
   obtain⟨σ',H',J,q⟩:=d;exact L (v:=V.non) (u:=Value.none) J rfl q
 |brk =>
   obtain⟨_,_,_,q⟩:=d;exact False.elim q
 |cont =>
   obtain⟨_,_,_,q⟩:=d;exact False.elim q
section
variable {X:Cx} {x:Str} {p L:Pos} {e:Expr} {es:List Expr} {t:TA} {id T:String} {r:List V->Hp->VK->Prop}
def Pb (r:List V->Hp->VK->Prop) (t:TA):TE:=λσ H Q=>t σ H λvs U=>r vs U Q
def CH(a:Bs X (.builtin id) r)(b:X.mg x=none)(c:PA X (e::es) t)(d:Gl X x:=by rfl)(hv:bootBuiltins x=some (.builtin id):=by decide +kernel)(f:x ≠ "__name__" :=by decide)(o:(x==("__debug__" : Str))=false:=by decide)
 (g:starEach (e::es) X.env=(false,eval e X.env)::starEach es X.env:=by rfl) (q:(backTo L (starEach es X.env)).any (·.1)=false:=by rfl):PE X (.Call (.Name x p) (e::es) [] L) (Pb r t):=by
 intro pins s σ H Q I h;refine wpAny_Call_Name_kw (Kl I d b hv ?_ f o);exact PyProof.Rows.callWith_builtin1 (AU (c L pins s σ H _ I h) λi j⟨k,U,l,m,n⟩=>a pins j σ U k i Q l m n) g q
def I7(a:Bs X (.type T) r)(b:X.mg x=none)(c:PA X (e::es) t)(d:Gl X x:=by rfl)(hv:bootBuiltins x=some (.type T):=by decide +kernel)(f:x ≠ "__name__" :=by decide)(o:(x==("__debug__" : Str))=false:=by decide)
 (g:starEach (e::es) X.env=(false,eval e X.env)::starEach es X.env:=by rfl) (q:(backTo L (starEach es X.env)).any (·.1)=false:=by rfl):PE X (.Call (.Name x p) (e::es) [] L) (Pb r t):=by
 intro pins s σ H Q I h;refine wpAny_Call_Name_kw (Kl I d b hv ?_ f o);exact PyProof.Rows.callWith_type1 (AU (c L pins s σ H _ I h) λi j⟨k,U,l,m,n⟩=>a pins j σ U k i Q l m n) g q
end
end L2
namespace HT
open PySem PyProof.Rows
section
open PySem.SeqAt
open PySem.AutoSeq1 (wpAny_loadPart')
open PySem.MeetsSeq PySem.MeetsSeq2 PySem.MeetsSeq3
end
section
variable {prog:Program} {w:World} {A:Around} {E:I'} {s:Shared}
def sIx (n d:Nat):Option Int->Nat
 |none=>d
 |some v=>if v<0 then(v+(n:Int)).toNat else min v.toNat n
def sIx_none(n d:Nat):sIx n d none=d:=rfl
def sIx_nat(n d k:Nat):sIx n d (some (k:Int))=min k n:=by
 show(if(k:Int)<0 then((k:Int)+(n:Int)).toNat else min (k:Int).toNat n)=min k n;rw[At (by lia),Bl]
end
end HT
namespace L2
open PySem PySem.Spec PyProof.Rows
abbrev TO:=St->Hp->(Option Int->Hp->Prop)->Prop
def PO (X:Cx) (e:Option Expr) (t:TO):Prop:=
 ∀(pins:B')(s:Shared)(σ:St)(H:Hp)(Q:Option Int->Hp->Prop),Inv X pins σ H s->t σ H Q ->
  wpAny (model X.prog X.w) X.A (evalPart e X.env) (λu Z=>∃o H',Inv X pins σ H' Z/\IsPart u o/\Q o H') X.xe s
def Ja:TO:=λζ H Q=>Q none H
def NB (t:TE):TO:=λσ H Q=>t σ H λx U=>∃i,x=.int i/\Q (some i) U
def Xw{a:List Int}:∀{b:List Value},Ax (a.map V.int) b->IntsAre b a:=by
 induction a with
 |nil=>intro b r;rw[Nc] at r;cases r;exact .nil
 |cons n a c =>
   intro b r;rw[EX] at r
   cases r with
   |cons d f =>
     obtain⟨t,e⟩:=d;subst e;exact .cons n t (c f)
section
variable {X:Cx} {e:Expr} {te:TE} {lo hi:Option Expr} {tl th:TO} {L J:Pos}
def Jb:PO X none Ja:=by
 intro a s σ H Q I h;rw[evalPart_none];exact Az ⟨none,H,I,.none,h⟩
def RH(h:PE X e te):PO X (some e) (NB te):=by
 intro f s σ H Q I a;rw[evalPart_some];refine AU (h f s σ H _ I a) λu g⟨x,U,b,c,d⟩=>?_;obtain⟨i,rfl,q⟩:=d;obtain⟨t,rfl⟩:=c;exact⟨some i,U,b,.int i t,q⟩
def RI (X:Cx) (r:V->Option Int->Option Int->Hp->VK->Prop):Prop:=
 ∀(pins:B')(s:Shared)(σ:St)(H:Hp)(x:V)(v vl vu:Value)(lo hi:Option Int)(sl:Addr)(Q:VK),Inv X pins σ H s->RelV x v->s.heap.IsSliceOf sl vl vu .none->IsPart vl lo->IsPart vu hi->r x lo hi H Q ->
  ∃T id,typeLookup (.type T) "__getitem__" = pure (some (.builtin id))/\s.TypeIs v T/\wpAny (model X.prog X.w) X.A (getItem v (.ref sl)) (EP X pins σ Q) X.xe s
def Xx (r:V->Option Int->Option Int->Hp->VK->Prop) (te:TE) (tl th:TO):TE:=λσ H Q=>te σ H λx U=>tl σ U λl Y=>th σ Y λu H3=>r x l u H3 Q
def Uu{r:V->Option Int->Option Int->Hp->VK->Prop}(i:RI X r)(j:PE X e te)(k:PO X lo tl)(m:PO X hi th):PE X (.Subscript e (.Slice lo hi none J) L) (Xx r te tl th):=by
 intro c s σ H Q I h;refine Subscript_ (AU (j c s σ H _ I h) λv n⟨x,U,o,p,t⟩=>?_);refine wpAny_Slice (AU (k c n σ U _ o t) λd w⟨l,Y,y,z,A⟩=>AU (m c w σ Y _ y A) λf a⟨u,g,B,C,D⟩=>?_);rw[evalPart_none];refine Az ?_;have E:Inv X c σ g {a with heap:=a.heap.push {cls:=.type "slice",data:=.fields #[d,f,.none]}}:=B.kept (t':=a.toks) λb M q=>Bo _ q;obtain⟨T,id,F,G,K⟩:=i c {a with heap:=a.heap.push {cls:=.type "slice",data:=.fields #[d,f,.none]}} σ g x v d f l u a.heap.objs.size Q E p (Heap.IsSliceOf.new ..) z C D;show wpAny (model X.prog X.w) X.A (subscriptTail e (.Slice lo hi none J) v (.ref a.heap.objs.size)) (EP X c σ Q) X.xe {a with heap:=a.heap.push {cls:=.type "slice",data:=.fields #[d,f,.none]}};exact tail_any (ops:=[.ref a.heap.objs.size,v]) G F K (by with_unfolding_all rfl)
def EY (xs:List V) (lo hi:Option Int):List V:=(xs.drop (HT.sIx xs.length 0 lo)).take (HT.sIx xs.length xs.length hi-HT.sIx xs.length 0 lo)
def Xy(xs:List V)(lo hi:Option Int):(EY xs lo hi).length<=xs.length:=by
 unfold EY;rw[Ek,K0];lia
end
def Hv (n:Nat) (i:Int):Option Nat:=if 0<=i then(if i<n then some i.toNat else none) else if -(n:Int)<=i then some (i+n).toNat else none
def AS {α:Type} (xs:List α) (i:Int):Option α:=(Hv xs.length i).bind λj=>xs[j]?
variable {n:Nat}
def Uv{i:Int}{j:Nat}(h:Hv n i=some j):seqIndex? i n=some j/\j<n/\-(n:Int)<=i/\i<n:=by
 unfold Hv at h;by_cases b:0<=i;rw[Au b] at h;by_cases a:i<n;rw[Au a] at h;have e:i.toNat=j:=BS h;exact⟨by rw[seqIndex_of b a,e],by lia,by lia,a⟩;rw[At a] at h;cases h;rw[At b] at h;by_cases a:-(n:Int)<=i;rw[Au a] at h;have e:(i+n).toNat=j:=BS h;exact⟨by rw[seqIndex_neg (by lia) a,e],by lia,a,by lia⟩;rw[At a] at h;cases h
def RJ{α:Type}{xs:List α}{i:Int}{v:α}(h:AS xs i=some v):∃j,seqIndex? i xs.length=some j/\xs[j]?=some v/\j<xs.length/\-(xs.length:Int)<=i/\i<xs.length:=by
 unfold AS at h
 cases e:Hv xs.length i with
 |none=>rw[e] at h;cases h
 |some j =>
   rw[e] at h;obtain⟨a,b,c,d⟩:=Uv e;exact⟨j,a,h,b,c,d⟩
def A1{α:Type}{xs:List α}{j:Nat}{v:α}(h:xs[j]?=some v):AS xs (j:Int)=some v:=by
 have a:j<xs.length:=(Bi.mp h).1
 have e:Hv xs.length (j:Int)=some j:=by
  unfold Hv;rw[Au (by lia),Au (by lia)];simp
 unfold AS;rw[e];exact h
def Jc (b:Expr):Prop:=∀o i,subscripted b false o i=operate [o,i] (getItem o i)
def Iy (X:Cx) (r:R2):Prop:=
 ∀(d slice:Expr)(pins:B')(s:Shared)(σ:St)(H:Hp)(x y:V)(v u:Value)(Q:VK),Inv X pins σ H s->RelV x v->RelV y u->r x y H Q ->
  subscripted slice false v u=operate [v,u] (getItem v u)->wpAny (model X.prog X.w) X.A (subscriptTail d slice v u) (EP X pins σ Q) X.xe s
def MQ (X:Cx) (id:String) (r:V->List V->Hp->VK->Prop):Prop:=
 ∀(pins:B')(s:Shared)(σ:St)(H:Hp)(x:V)(xs:List V)(v:Value)(us:List Value)(Q:VK),Inv X pins σ H s->RelV x v->Ax xs us->r x xs H Q ->
  wpAny (model X.prog X.w) X.A (call (.builtin id) (v::us)) (EP X pins σ Q) X.xe s
section
variable {X:Cx} {a b:Expr} {ta tb:TE} {L:Pos}
def Iy.or{r a:R2}(h:Iy X r)(h':Iy X a):Iy X (λx y H Q=>r x y H Q\/a x y H Q):=by
 intro d slice f s σ H x y v u Q I b c q e;rcases q with q|q;exact h d slice f s σ H x y v u Q I b c q e;exact h' d slice f s σ H x y v u Q I b c q e
def An{r:R2}(c:Iy X r)(d:PE X a ta)(e:PE X b tb)(f:Jc b:=by exact λζ ζ=>rfl):PE X (.Subscript a b L) (Ck r ta tb):=by
 intro l s σ H Q I h;exact Subscript_ (Li d e I h λv u g x y Y i j k q=>c a b l g σ Y x y v u Q i j k q (f _ _))
def NC (K:Aj):R2:=λx y H Q=>mX x y λp xs i v=>Af K H p xs/\AS xs i=some v/\Q v H
def ND (K:Aj):R2:=λx y H Q=>mX x y λp xs i v=>Al K H p xs/\AS xs i=some v/\Q v H
def NE:R2:=λx y H Q=>∃z i c,x=.str z/\y=.int i/\z.length<=sizeLine/\AS z.cps.toList i=some c/\Q (.str ⟨#[c]⟩) H
def Jd:Iy X (NC X.K):=by
 intro d slice l s σ H x y v u Q I m n h e
 replace h:=mX.ex h
 obtain⟨p,J,i,z,rfl,rfl,o,A,q⟩:=h;cases m;obtain⟨t,rfl⟩:=n;obtain⟨F,r,b,K⟩:=I.list o;obtain⟨j,a,B,L,C,D⟩:=RJ A;obtain⟨w,f,G⟩:=r.get B;have E:=r.length;have M:=Ny;have k:EP X l σ Q w s:=⟨z,H,I,G,q⟩;by_cases g:0<=i
 have c:i.toNat=j:=by
  rw[seqIndex_of g D] at a;exact BS a
 exact item_listR b.isList g (by lia) (by rw[c];simpa using f) k e
 have c:(i+(F.toArray.size:Int)).toNat=j:=by
  rw[seqIndex_neg (by lia) C] at a;rw[CM,<-E];exact BS a
 exact subscriptTail_builtinR (x:=w) b.isList.typeIs slot_list_getitem.lookup
  (wpAny_getItem_list_neg (Q:=λr Z=>r=w/\EP X l σ Q r Z) b.isList (by lia) (by rw[CM]<;>lia) (by lia) (by rw[c];simpa using f) ⟨rfl,k⟩) e
def Lo:Iy X (ND X.K):=by
 intro d slice b s σ H x y v u Q I c e h f
 replace h:=mX.ex h
 obtain⟨p,C,i,z,rfl,rfl,g,k,q⟩:=h;cases c;obtain⟨t,rfl⟩:=e;obtain⟨K,r,a,D⟩:=I.tuple g;obtain⟨j,l,m,E,F,G⟩:=RJ k;obtain⟨w,n,A⟩:=r.get m;have o:=r.length;have J:=Ny;have B:EP X b σ Q w s:=⟨z,H,I,A,q⟩
 exact subscriptTail_builtinR (x:=w) a.typeIs slot_tuple_getitem.lookup
  (getItem_tuple (j:=j) (Q:=λr Z=>r=w/\EP X b σ Q r Z) a (by lia) (by lia) (by rw[CM,<-o];exact l) (by simpa using n) ⟨rfl,B⟩) f
def Lp:Iy X NE:=by
 intro d slice C s σ H x y v u Q I b e h f;obtain⟨z,i,c,rfl,rfl,r,g,q⟩:=h;obtain⟨t,rfl⟩:=b;obtain⟨w,rfl⟩:=e;obtain⟨j,a,k,A,l,m⟩:=RJ g;have n:z.cps.toList.length=z.length:=(by simp[Str.length]);rw[n] at a l m;have B:=Ny
 exact tail_any (typeIs_str s z t) slot_str_getitem.lookup (getItem_str (c:=c) (by
  have o:decide (i < -(2 ^ 63:Int))=false:=En (by lia);have p:decide (i ≥ 2 ^ 63)=false:=En (by lia)
  rw[o,p,Bool.or_false]) (by rw[a];simpa using k) ⟨.str ⟨#[c]⟩,H,I.tok _,⟨_,rfl⟩,q⟩) f
def Ey (K:Aj):R2:=λx y H Q=>NC K x y H Q\/ND K x y H Q\/NE x y H Q
def Ao:Iy X (Ey X.K):=Jd.or (Lo.or Lp)
def Xz(a:List Value)(n j:Nat)(u:Value):Obj.mapSeq (·.setIfInBounds j u) {cls:=.type "list",data:=.seq a.toArray n}={cls:=.type "list",data:=.seq (a.set j u).toArray n}:=by
 simp[Obj.mapSeq]
def Inv.lst{pins:B'}{σ:St}{H:Hp}{s:Shared}{p:Addr}{xs:List V}(I:Inv X pins σ H s)(h:H p=some (.lst xs)) :
 ∃(a:List Value)(n:Nat),Ax xs a/\s.heap.get? p=some {cls:=.type "list",data:=.seq a.toArray n}/\xs.length<=sizeLine:=by
 obtain⟨z,a,n,r,e⟩:=I.hok p _ h;exact⟨a,n,r,e,z⟩
def Inv.lstUpd{pins:B'}{σ:St}{H:Hp}{s:Shared}{p:Addr}{xs ys:List V}{d its':List Value}{a:Nat}{f:Obj->Obj}(I:Inv X pins σ H s)(h:H p=some (.lst xs))
 (g:s.heap.get? p=some {cls:=.type "list",data:=.seq d.toArray n}) (c:f {cls:=.type "list",data:=.seq d.toArray n}={cls:=.type "list",data:=.seq its'.toArray a}) (r:Ax ys its') (hz:ys.length<=sizeLine) (t:Nat) :
 Inv X pins σ (upd H p (.lst ys)) {s with heap:=s.heap.update p f,toks:=t}:=by
 have e:(s.heap.update p f).get? p=some {cls:=.type "list",data:=.seq its'.toArray a}:=by
  rw[Heap.get?_update_self f g (by rw[c]<;>rfl),c]
 refine I.write (x:=p) (e:=p) (by rw[h];trivial) (.inl rfl) (λb u i q=>(Heap.get?_update_other _ _ (Ne.symm i)).trans q) ⟨_,e⟩ ?_;exact⟨hz,its',a,r,e⟩
def NF:V->V->V->Hp->(Hp->Prop)->Prop:=λo i v H Q=>∃p xs k j,o=.ref p/\i=.int k/\H p=some (.lst xs)/\Hv xs.length k=some j/\Q (upd H p (.lst (xs.set j v)))
def XA:Ld X NF:=by
 intro D s σ H o i v E F u Q I x y z h;obtain⟨p,A,k,j,rfl,rfl,e,B,q⟩:=h;cases x;obtain⟨t,rfl⟩:=y;obtain⟨w,n,r,b,C⟩:=I.lst e;obtain⟨a,G,f,g⟩:=Uv B;have c:=r.length;have J:=Ny
 have l:Inv X D σ (upd H p (.lst (A.set j v))) {s with heap:=s.heap.update p (Obj.mapSeq (·.setIfInBounds j u))}:=
  I.lstUpd e b (Xz w n j u) (r.set z j) (by rw[Iq];exact C) s.toks
 by_cases m:0<=k
 have d:k.toNat=j:=by
  rw[seqIndex_of m g] at a;exact BS a
 exact PySem.W.ki_setAt b m (by lia) (by rw[CM,<-c];exact g) (by rw[d];exact⟨_,l,q⟩)
 have d:(k+(w.toArray.size:Int)).toNat=j:=by
  rw[seqIndex_neg (by lia) f] at a;rw[CM,<-c];exact BS a
 exact PySem.W.ki_setBack b (by lia) (by rw[CM,<-c];exact f) (by lia) (by rw[d];exact⟨_,l,q⟩)
def XB(lo a:Option Int)(n:Nat):(sliceBounds lo a none n).1=((HT.sIx n 0 lo:Nat):Int)/\(sliceBounds lo a none n).2.1=((HT.sIx n n a:Nat):Int)/\(sliceBounds lo a none n).2.2=1:=by
 refine⟨?_,?_,rfl⟩
 cases lo with
 |none=>simp[sliceBounds,HT.sIx]
 |some i =>
   simp only[sliceBounds,HT.sIx,Option.getD_none,show(1:Int) > 0 by decide,if_true];by_cases h:i<0;simp only[h,if_true]<;>lia;simp only[h,if_false]<;>lia
 cases a with
 |none=>simp[sliceBounds,HT.sIx]
 |some i =>
   simp only[sliceBounds,HT.sIx,Option.getD_none,show(1:Int) > 0 by decide,if_true];by_cases h:i<0;simp only[h,if_true]<;>lia;simp only[h,if_false]<;>lia
def XC(a:List Value)(lo b:Option Int):slicePick a.toArray lo b none=((a.drop (HT.sIx a.length 0 lo)).take (HT.sIx a.length a.length b-HT.sIx a.length 0 lo)).toArray:=by
 obtain⟨c,d,e⟩:=XB lo b a.toArray.size;unfold slicePick;rw[c,d,e];simp only[sliceRange_one,pick_run,CM]<;>rfl
def RK (K:Aj):V->Option Int->Option Int->Hp->VK->Prop:=λx lo hi H Q=>∃a xs,x=.ref a/\Af K H a xs/\∀p,H p=none->Q (.ref p) (upd H p (.lst (EY xs lo hi)))
def Uw:RI X (RK X.K):=by
 intro z s σ H x v p t d e u Q I g i j k h;obtain⟨a,c,rfl,l,q⟩:=h;cases g;obtain⟨y,r,f,m⟩:=I.list l;have n:=r.length;refine⟨"list",_,slot_list_getitem.lookup,f.isList.typeIs,?_⟩;refine wpAny_getItem_list_slice f.isList i j k .none (by simp) ?_ (by rw[CM]<;>lia);rw[XC,<-n];refine⟨.ref s.heap.objs.size,_,I.laid (t':=s.toks) (o:=.lst (EY c d e)) (λb w q=>Bo _ q) (AG _) ?_,rfl,q _ (I.hok.fresh (AG _))⟩;exact⟨Fa (Xy c d e) m,_,0,(r.drop (HT.sIx c.length 0 d)).take (HT.sIx c.length c.length e-HT.sIx c.length 0 d),Cp _ rfl⟩
def Ux:Bs X (.type "list") (λxs H Q=>∃p ys,xs=[.ref p]/\(Af X.K H p ys\/Al X.K H p ys)/\∀l,H l=none->Q (.ref l) (upd H l (.lst ys))):=by
 intro y s σ H xs A Q I r h;obtain⟨p,ys,rfl,g,q⟩:=h;obtain⟨u,rfl,x⟩:=Gh r;cases x
 have w:∀(c:List Value),Ax ys c->ys.length<=sizeLine->∀(a:Heap)(d:Nat),(∀b v,s.heap.get? b=some v->a.get? b=some v) ->
  a.get? s.heap.objs.size=some {cls:=.type "list",dict:=none,data:=.seq c.toArray d,slots:=#[]}->EP X y σ Q (.ref s.heap.objs.size) {s with heap:=a}:=λc f i a d j e =>
  ⟨.ref s.heap.objs.size,_,I.laid (t':=s.toks) j (AG _) (show AE X.prog X.w _ a _ (.lst ys) from⟨i,c,d,f,e⟩),rfl,q _ (I.hok.fresh (AG _))⟩
 rcases g with g|g;obtain⟨c,f,k,i⟩:=I.list g;have z:=f.length;obtain⟨o,m,t,n,hd⟩:=k.isList;exact call_list_seq p (.inl rfl) m t hd (λa d j e=>w c f i a d j e) (by simp only[CM]<;>lia);obtain⟨c,f,k,i⟩:=I.tuple g;have z:=f.length;obtain⟨o,m,t,n,hd⟩:=k;exact call_list_seq p (.inr rfl) m t hd (λa d j e=>w c f i a d j e) (by simp only[CM]<;>lia)
def Uy (K:Aj) (T:String) (x:V) (H:Hp):Prop:=match x with
 |.str _=>T = "str"
 |.int _=>T = "int"
 |.ref p=>(T = "list" /\ ∃xs,Af K H p xs)\/(T = "tuple" /\ ∃o,K.lookup p=some o/\o.cls=.type "tuple" /\ o.dict=none) \/
  (T = "dict" /\ ((∃kvs,H p=some (.dK kvs))\/∃kvs,H p=some (.dT kvs)))\/(T = "set" /\ ∃S n,H p=some (.set S n))
 |_=>False
def Lq{pins:List (Addr × Obj)}{σ:St}{H:Hp}{s:Shared}{T:String}{x:V}{v:Value}(I:Inv X pins σ H s)(r:RelV x v)(ty:Uy X.K T x H) :
 s.TypeIs v T/\∀a,v=.ref a->∃ob,s.heap.get? a=some ob/\ob.dict=none:=by
 cases x with
 |str z =>
   obtain⟨t,rfl⟩:=r
   cases(show T = "str" from ty)
   exact⟨typeIs_str s z t,λζ e=>nomatch e⟩
 |int i =>
   obtain⟨t,rfl⟩:=r
   cases(show T = "int" from ty)
   exact⟨typeIs_int s i t,λζ e=>nomatch e⟩
 |ref p =>
   cases r;rcases ty with⟨rfl,k,g⟩|⟨rfl,o,b,h,hd⟩|⟨rfl,b⟩|⟨rfl,S,n,b⟩;obtain⟨l,_,f,_⟩:=I.list g;refine⟨f.isList.typeIs,λa e=>?_⟩;cases e;obtain⟨o,n,e,c,hd,_⟩:=f;exact⟨o,e,hd⟩;refine⟨⟨o,I.kIn p o b,h⟩,λa e=>?_⟩;cases e;exact⟨o,I.kIn _ o b,hd⟩
   have z:∃o,s.heap.get? p=some o/\o.ExactDict:=by
    rcases b with⟨j,b⟩|⟨j,b⟩;obtain⟨_,_,_,_,o,_,_,e,ex,_⟩:=I.hok p _ b;exact⟨o,e,ex⟩;obtain⟨_,_,_,_,o,_,_,e,ex,_⟩:=I.hok p _ b;exact⟨o,e,ex⟩
   obtain⟨o,e,ex⟩:=z;refine⟨⟨o,e,ex.1⟩,λa d=>?_⟩;cases d;exact⟨o,e,ex.2.1⟩;obtain⟨o,_,_,_,e,ex,_⟩:=I.hok p _ b;refine⟨⟨o,e,ex.1⟩,λa d=>?_⟩;cases d;exact⟨o,e,ex.2.1⟩
 |_=>exact False.elim ty
def XD (K:Aj) (T:String) (r:V->List V->Hp->VK->Prop) (C:TE) (t:TA):TE:=λσ H Q=>C σ H λx U=>Uy K T x U/\t σ U λxs Y=>r x xs Y Q
variable {o e:Expr} {es:List Expr} {C:TE} {t:TA} {name:Str} {apos cpos:Pos} {T id:String} {r:V->List V->Hp->VK->Prop}
def DQ(d:PlainAttrs T)(B:Slot T name id)(A:typeOf (.builtin id)=pure (.type "method_descriptor"))(f:MQ X id r)(g:PE X o C)(i:PA X (e::es) t)
 (E:attributeBase o name X.env (eval o X.env)=eval o X.env:=by rfl)
 (D:((backTo cpos (starEach (e::es) X.env)).all (λx=>!x.1) && (backToKw cpos (keywordEach [] X.env)).all (λx=>x.1.isSome)
  && decide ((e::es).length+([]:List Keyword).length+(if([]:List Keyword).isEmpty then 0 else 1)<30))=true:=by rfl)
 (F:(apos.endLine==cpos.line)=true:=by rfl) (j:starEach (e::es) X.env=(false,eval e X.env)::starEach es X.env:=by rfl) (G:(backTo cpos (starEach es X.env)).any (·.1)=false:=by rfl) :
 PE X (.Call (.Attribute o name apos) (e::es) [] cpos) (XD X.K T r C t):=by
 intro a s σ H Q I h;refine wpAny_Call_method_late E D F rfl (AU (g a s σ H _ I h) λv k⟨x,U,b,c,ty,l⟩=>?_);obtain⟨m,n⟩:=Lq b c ty;refine⟨T,id,d,B,A,m,n,?_⟩;have hA:=i cpos a k σ U _ b l;rw[j] at hA ⊢;refine Calls.callWith_builtin (by show(false || (backTo cpos (starEach es X.env)).any (·.1))=false;rw[G]<;>rfl) (Calls.evalArgs_plain ?_);exact AU hA λp q⟨u,Y,w,y,z⟩=>f a q σ Y x u v p Q w c y z
end
def Uz (X:Cx) (id:String) (r:V->List V->Hp->VK->Prop):Prop:=
 ∀(pins:B')(s:Shared)(σ:St)(H:Hp)(x:V)(xs:List V)(v:Value)(us:List Value)(Q:VK),Inv X pins σ H s->RelV x v->Ax xs us->r x xs H Q ->
  wpAny (model X.prog X.w) X.A (call (.builtin id) (v::us)) (EP X pins σ Q) X.xe s
theorem Ax.one:∀{x:V}{a:List Value},Ax [x] a->∃u,a=[u]/\RelV x u
 |_,_,.cons r .nil=>⟨_,rfl,r⟩
section
variable {X:Cx} {pins:B'} {σ:St} {H:Hp} {s:Shared} {l b:Addr} {xs ys zs:List V}
def Inv.lset{a its':List Value}{f:Array Value->Array Value}{t':Nat}(I:Inv X pins σ H s)(b:H l=some (.lst xs))
 (e:s.heap.get? l=some {cls:=.type "list",data:=.seq a.toArray n}) (c:f a.toArray=its'.toArray) (hv:Ax ys its') (hz:ys.length<=sizeLine) :
 Inv X pins σ (upd H l (.lst ys)) {s with heap:=s.heap.update l (Obj.mapSeq f),toks:=t'}:=by
 have q:=PySem.IsL.update e f;rw[c] at q;refine I.write (x:=l) (e:=l) (by rw[b];exact trivial) (.inl rfl) (λh u d g=>(Heap.get?_update_other s.heap (Obj.mapSeq f) (Ne.symm d)).trans g) ⟨_,q⟩ ?_;exact⟨hz,its',_,hv,q⟩
def Inv.lnew{a:List Value}{t':Nat}(I:Inv X pins σ H s)(hv:Ax ys a)(hz:ys.length<=sizeLine) :
 Inv X pins σ (upd H s.heap.objs.size (.lst ys)) {s with heap:=s.heap.push {cls:=.type "list",data:=.seq a.toArray},toks:=t'}:=
 I.laid (λζ ζ q=>Bo _ q) (AG _) ⟨hz,a,0,hv,Cp _ rfl⟩
def Inv.fresh(I:Inv X pins σ H s):H s.heap.objs.size=none:=I.hok.fresh (AG _)
def Inv.lstM(I:Inv X pins σ H s)(b:H l=some (.lst xs)):xs.length<=sizeLine/\∃(a:List Value)(n:Nat),Ax xs a/\xs.length=a.length/\s.heap.get? l=some {cls:=.type "list",data:=.seq a.toArray n}:=by
 obtain⟨z,a,n,r,e⟩:=I.hok l _ b;exact⟨z,a,n,r,r.length,e⟩
def XE(h:n<=sizeLine):Builtin.List.listTooLong n=false:=by
 unfold Builtin.List.listTooLong;exact En (by lia)
end
section
variable {X:Cx}
def UA:V->List V->Hp->VK->Prop:=λx vs H Q=>mA x vs λl xs y=>H l=some (.lst xs)/\xs.length<sizeLine/\Q .non (upd H l (.lst (xs++[y])))
theorem UB:Uz X "list.append" UA:=by
 intro o s σ H x g v i Q I c d h
 replace h:=mA.ex h
 obtain⟨l,j,y,rfl,rfl,a,k,q⟩:=h;cases c;obtain⟨u,rfl,f⟩:=d.one;obtain⟨z,b,n,r,m,e⟩:=I.lstM a;refine call_meets F.slot_list_append ⟨_,e,rfl⟩ F.entry_list_append (F.args_list_append_2 _ _) (PySem.list_append l b.toArray n u (by rw[CM];lia)) ⟨e,?_⟩;refine⟨.non,_,I.lset (its':=b++[u]) a e (by simp) (r.append (.cons f .nil)) ?_,rfl,q⟩;rw[AO,Ew];lia
def UC:V->List V->Hp->VK->Prop:=λx vs H Q=>∃l b xs zs,x=.ref l/\vs=[.ref b]/\H l=some (.lst xs)/\H b=some (.lst zs)/\xs.length+zs.length<=sizeLine/\Q .non (upd H l (.lst (xs++zs)))
theorem XF:Uz X "list.extend" UC:=by
 intro G s σ H x t v w Q I f g h;obtain⟨l,b,y,A,rfl,rfl,d,hB,B,q⟩:=h;cases f;obtain⟨u,rfl,i⟩:=g.one;cases i;obtain⟨z,a,n,r,C,e⟩:=I.lstM d;obtain⟨D,c,j,k,E,m⟩:=I.lstM hB;have o:a.toArray.size+c.toArray.size<=sizeLine:=by rw[CM,CM];lia
 have p:¬(!a.toArray.isEmpty && Builtin.List.listTooLong (a.toArray.size+c.toArray.size))=true:=by
  rw[XE o,Bool.and_false];exact Df
 refine call_meets F.slot_list_extend ⟨_,e,rfl⟩ F.entry_list_extend (F.args_list_extend_2 _ _)
  (AutoSeq1.list_extend_list_list_0 l a.toArray n b c.toArray j p (by rw[CM];lia) (by lia)) ⟨e,m,?_⟩
 refine⟨.non,_,I.lset (its':=a++c) d e (by simp) (r.append k) ?_,rfl,q⟩;rw[AO];lia
def RL:R2:=λx y H Q=>∃l b xs zs,x=.ref l/\y=.ref b/\H l=some (.lst xs)/\H b=some (.lst zs)/\xs.length+zs.length<=sizeLine/\∀p,H p=none->Q (.ref p) (upd H p (.lst (xs++zs)))
def Lr:Ee X (binaryOp .Add) RL:=by
 intro C s σ H x y v u Q I d f h;obtain⟨l,b,m,o,rfl,rfl,g,hB,p,q⟩:=h;cases d;cases f;obtain⟨z,a,n,r,t,e⟩:=I.lstM g;obtain⟨w,c,A,i,B,j⟩:=I.lstM hB;refine PySem.P.add_list e j ?_ (by rw[CM,CM];lia);have k:a.toArray++c.toArray=(a++c).toArray:=(by simp);rw[k];exact⟨.ref _,_,I.lnew (t':=s.toks) (r.append i) (by rw[AO];lia),rfl,q _ I.fresh⟩
end
section
variable {prog:Program} {w:World} {A:Around} {E:I'} {s:Shared}
end
section
variable {X:Cx}
end
section
variable {κ:Type} [DecidableEq κ]
def A4 (kvs:List (κ×V)) (k:κ):Option V:=(kvs.find? λkv=>decide (kv.1=k)).map (·.2)
def Ci (kvs:List (κ×V)) (k:κ) (v:V):List (κ×V):=
 if(kvs.any λkv=>decide (kv.1=k))=true then kvs.map (λkv=>if kv.1=k then(kv.1,v) else kv) else kvs++[(k,v)]
def G8{p:κ×V}{r:List (κ×V)}{k:κ}(e:p.1=k):A4 (p::r) k=some p.2:=by simp[A4,MJ,e]
def G9{p:κ×V}{r:List (κ×V)}{k:κ}(e:¬p.1=k):A4 (p::r) k=A4 r k:=by simp[A4,MJ,e]
theorem NG(k:κ):∀a:List (κ×V),(a.any λb=>decide (b.1=k))=(A4 a k).isSome
 |[]=>rfl
 |p::r=>by
   rw[List.any_cons];by_cases e:p.1=k;simp only[G8 e,A5 e,Bool.true_or,Option.isSome_some];rw[G9 e,En e,Bool.false_or];exact NG k r
theorem UD(k j:κ)(y:V):∀c:List (κ×V),A4 (c.map λa=>if a.1=k then(a.1,y) else a) j=(A4 c j).map λx=>if j=k then y else x
 |[]=>rfl
 |p::r=>by
   have b:=UD k j y r;rw[EX];by_cases h:p.1=k;rw[Au h];by_cases e:p.1=j;rw[G8 (p:=(p.1,y)) e,G8 e,Option.map_some,Au (e.symm.trans h)];rw[G9 (p:=(p.1,y)) e,G9 e,b];rw[At h];by_cases e:p.1=j;rw[G8 (p:=p) e,G8 e,Option.map_some,At (λz=>h (e.trans z))];rw[G9 (p:=p) e,G9 e,b]
theorem UE(k j:κ)(y:V):∀b:List (κ×V),A4 b k=none->A4 (b++[(k,y)]) j=if j=k then some y else A4 b j
 |[],_=>by
   by_cases e:k=j;rw[Au e.symm];exact G8 (p:=(k,y)) e;rw[At (λz=>e z.symm)];exact G9 (p:=(k,y)) e
 |p::r,a=>by
   rw[List.cons_append];have c:¬p.1=k:=λz=>by rw[G8 z] at a;cases a
   rw[G9 c] at a;have d:=UE k j y r a;by_cases e:p.1=j;rw[G8 e,G8 e,At (λz=>c (e.trans z))];rw[G9 e,G9 e,d]
def XG(b:List (κ×V))(k j:κ)(y:V):A4 (Ci b k y) j=if j=k then some y else A4 b j:=by
 unfold Ci;by_cases a:(b.any λc=>decide (c.1=k))=true;rw[Au a,UD];rw[NG] at a;by_cases e:j=k;obtain⟨x,d⟩:=Option.isSome_iff_exists.mp a;rw[Au e,e,d,Option.map_some,Au rfl];rw[At e]
 cases A4 b j with
 |none=>rfl
 |some x=>rw[Option.map_some,At e]
 rw[At a];refine UE k j y b ?_;rw[NG] at a
 cases q:A4 b k with
 |none=>rfl
 |some x=>rw[q] at a;exact(a rfl).elim
def UF(a:List (κ×V))(k:κ)(v:V):(Ci a k v).length<=a.length+1:=by
 unfold Ci;split;rw[Ak];lia;rw[AO,Em,GQ];lia
def Ed.isSome_eq{o:Option V}{u:Option Value}(r:Ed o u):o.isSome=u.isSome:=by
 cases o with
 |none=>cases u with
   |none=>rfl
   |some _=>exact(show False from r).elim
 |some _=>cases u with
   |none=>exact(show False from r).elim
   |some _=>rfl
def Ed.getD{o:Option V}{u:Option Value}{d:V}{d':Value}(r:Ed o u)(a:RelV d d'):RelV (o.getD d) (u.getD d'):=by
 cases o with
 |none=>cases u with
   |none=>exact a
   |some _=>exact(show False from r).elim
 |some _=>cases u with
   |none=>exact(show False from r).elim
   |some _=>exact r
def KV.val{f:List (κ×V)}{vs:List (κ×Value)}(r:KV f vs)(k:κ):Ed (A4 f k) (valueAt vs k):=by
 unfold KV at r
 induction r with
 |nil=>exact True.intro
 |@cons p q j a h t g =>
   obtain⟨d,i⟩:=h;by_cases e:p.1=k;have c:q.1=k:=d.symm.trans e;have b:valueAt (q::a) k=some q.2:=(by simp[valueAt,MJ,c]);rw[G8 e,b];exact i;have c:¬q.1=k:=λz=>e (d.trans z);have b:valueAt (q::a) k=valueAt a k:=(by simp[valueAt,MJ,c]);rw[G9 e,b];exact g
end
variable {w:World}{u:Value}
def Pc{P:Program}{k:Br}(r:RelV (kV k) u):(FE P w).is k u=true:=by
 cases k with
 |inl i=>obtain⟨t,e⟩:=(show ∃t,u=Value.int i t from r);subst e;exact Xh P w i t
 |inr x=>obtain⟨t,e⟩:=(show ∃t,u=Value.str x t from r);subst e;exact Xi P w x t
theorem UG{P:Program}{w:World}:∀{ks:List Br}{a:List Value},Ax (ks.map kV) a->ItemsAre (FE P w) ks a
 |[],_,r=>by rw[Nc] at r;cases r;exact .nil
 |k::ks,_,r=>by
   rw[EX] at r
   cases r with
   |cons h t=>exact .cons (Pc h) (UG t)
abbrev KT (H:Hp):List (List Br×V)->List (List Br×Addr×Value)->Prop:=Paired λp q=>p.1=q.1/\H q.2.1=some (.tup (p.1.map kV))/\RelV p.2 q.2.2
variable {H:Hp}{kvs:List (List Br×V)}{xs:List (List Br×Addr×Value)}
def KT.val(r:KT H kvs xs)(k:List Br):Ed (A4 kvs k) ((atKey xs k).map (·.2)):=by
 induction r with
 |nil=>exact True.intro
 |@cons p q i a h t f =>
   obtain⟨d,_,g⟩:=h;by_cases e:p.1=k;have c:q.1=k:=d.symm.trans e;have b:atKey (q::a) k=some q.2:=(by simp[atKey,MJ,c]);rw[G8 e,b];exact g;have c:¬q.1=k:=λz=>e (d.trans z);have b:atKey (q::a) k=atKey a k:=(by simp[atKey,MJ,c]);rw[G9 e,b];exact f
variable {y:V}
def KT.repl(r:KT H kvs xs)(k:List Br)(d:RelV y u) :
 KT H (kvs.map λb=>if b.1=k then(b.1,y) else b) (xs.map (putAt k u)):=by
 induction r with
 |nil=>exact .nil
 |@cons p q i j h t f =>
   rw[EX,EX];refine .cons ?_ f;obtain⟨a,c,g⟩:=h;unfold putAt;by_cases e:p.1=k;rw[Au e,Au (a.symm.trans e)];exact⟨a,c,d⟩;rw[At e,At (λz=>e (a.trans z))];exact⟨a,c,g⟩
def KT.put(r:KT H kvs xs)(k:List Br){b:Addr}(c:H b=some (.tup (k.map kV)))(a:RelV y u) :
 KT H (Ci kvs k y) (storedH xs k b u):=by
 have e:(kvs.any λd=>decide (d.1=k))=(atKey xs k).isSome:=by
  rw[NG,(r.val k).isSome_eq,Option.isSome_map]
 unfold Ci storedH;rw[e];by_cases q:(atKey xs k).isSome=true;rw[Au q,Au q];exact r.repl k a;rw[At q,At q];exact Paired.snoc r ⟨rfl,c,a⟩
def KT.keeps{H':Hp}(r:KT H kvs xs)(a:∀b ys,H b=some (.tup ys)->H' b=some (.tup ys)):KT H' kvs xs:=
 Paired.mapP r λζ ζ z=>⟨z.1,a _ _ z.2.1,z.2.2⟩
section
variable {P:Program} {w:World} {H:Hp} {h:Heap} {a:Addr}
def Hw{u:HO}(ok:Dc P w H h)(e:Rd H a u):AE P w H h a u:=e.ok ok
def NH{kvs:List (Br×V)}(ok:Dc P w H h)(e:Rd H a (.dK kvs)):kvs.length<=sizeLine/\(a==sysModules)=false/\∃vs,KV kvs vs/\h.DictOf (FE P w) a vs:=
 show AE P w H h a (.dK kvs) from Hw ok e
def MR{ks:List Br}(ok:Dc P w H h)(e:H a=some (.tup (ks.map kV))):(tupleKind (FE P w)).is h ks a:=by
 obtain⟨_,f,r,o,b,c,n,d⟩:=(show AE P w H h a (.tup (ks.map kV)) from ok a _ e);exact⟨o,f.toArray,n,b,c,d,by simpa using UG r⟩
def MS(ok:Dc P w H h)(e:Rd H a (.dT kvs)):kvs.length<=sizeLine/\(a==sysModules)=false /\
 ∃xs,KT H kvs xs/\h.DictOfH (tupleKind (FE P w)) a xs:=by
 obtain⟨z,y,xs,r,o,d,f,g,i,j,k,n⟩:=(show AE P w H h a (.dT kvs) from Hw ok e);refine⟨z,y,xs,r,o,d,f,g,i,j,k,λx b=>?_,n⟩
 have all:∀{l:List (List Br × V)}{m:List (List Br × Addr × Value)},KT H l m -> ∀x∈m,(tupleKind (FE P w)).is h x.1 x.2.1:=by
  intro l m q
  induction q with
  |nil=>intro x b;exact nomatch b
  |@cons p q u v c t s =>
    intro x b;rcases BI.mp b with e|b;subst e;exact MR ok (by rw[<-c.1];exact c.2.1);exact s x b
 exact all r x b
def Ks(ok:Dc P w H h)(e:H a=some (.dT kvs)):kvs.length<=sizeLine/\(a==sysModules)=false /\
 ∃xs,KT H kvs xs/\h.DictOfH (tupleKind (FE P w)) a xs:=MS ok (.inl e)
end
def EZ (H:Hp) (a:Addr) (y:V) (r:Option V):Prop:=
 (∃kvs k,Rd H a (.dK kvs)/\y=kV k/\r=A4 kvs k)\/∃kvs k b,Rd H a (.dT kvs)/\y=.ref b/\H b=some (.tup (k.map kV))/\r=A4 kvs k
variable {a:Addr}
def EZ.t{b:Addr}{k:List Br}(e:H a=some (.dT kvs))(c:H b=some (.tup (k.map kV))):EZ H a (.ref b) (A4 kvs k):=.inr ⟨kvs,k,b,.inl e,rfl,c,rfl⟩
section
variable {X:Cx} {pins:B'} {σ:St} {H:Hp} {s:Shared} {a:Addr} {y v:V} {u r:Value} {o:Option V} {A:Around} {E:I'}
def Inv.big(I:Inv X pins σ H s):sysModules<s.heap.objs.size:=by
 have h:mainGlobals<s.heap.objs.size:=(I.mod.glob.keeps I.bk).lt;exact Nat.lt_trans (by decide) h
def XH{Q:I'}(q:A.units+1<cLine)(I:Inv X pins σ H s)(g:EZ H a y (some v))(n:RelV y u)(h:∀c Z,Inv X pins σ H Z->RelV v c->Q c Z) :
 wpAny (model X.prog X.w) A (getItem (.ref a) u) Q E s:=by
 rcases g with⟨kvs,k,e,d,l⟩|⟨kvs,k,b,e,d,r,l⟩;subst d;obtain⟨z,hd,t,j,f⟩:=NH I.hok e;obtain⟨c,i,m⟩:=Ed.some_of (v:=v) (o:=valueAt t k) (by rw[l];exact j.val k);exact wpAny_getItem_of (Pc n) f.mapOf i (h c _ (I.tok _) m);subst d
 cases(show u=Value.ref b from n);obtain⟨z,hd,xs,j,f⟩:=MS I.hok e;obtain⟨c,i,m⟩:=Ed.some_of (v:=v) (o:=(atKey xs k).map (·.2)) (by rw[l];exact j.val k);obtain⟨p,w,x⟩:=ER.mp i;refine wpAny_getItem_heap (tupleKind_room_in1 q) (MR I.hok r) f w ?_;rw[x];exact h c _ (I.tok _) m
def RM{Q:I'}(j:A.units+1<cLine)(I:Inv X pins σ H s)(g:EZ H a y o)(i:RelV y u)(h:∀Z,Inv X pins σ H Z->Q (.bool o.isSome) Z) :
 wpAny (model X.prog X.w) A (compareOp .In u (.ref a)) Q E s:=by
 rcases g with⟨kvs,k,e,c,l⟩|⟨kvs,k,b,e,c,m,l⟩;subst c;obtain⟨z,hd,n,f,d⟩:=NH I.hok e;refine wpAny_in_of (Pc i) hd d.mapOf ?_;rw[<-(f.val k).isSome_eq,<-l];exact h _ (I.tok _);subst c
 cases(show u=Value.ref b from i);obtain⟨z,hd,xs,f,d⟩:=MS I.hok e;refine wpAny_in_heap (tupleKind_room_in1 j) (MR I.hok m) hd d ?_;have q:=(f.val k).isSome_eq;rw[Option.isSome_map] at q;rw[<-q,<-l];exact h _ (I.tok _)
def UH{h':Heap}{t':Nat}{ob:HO}(I:Inv X pins σ H s)(c:Ng (H a))(d:Heap.SameBut a s.heap h')(f:∃q,h'.get? a=some q)(h:AE X.prog X.w (upd H a ob) h' a ob) :
 Inv X pins σ (upd H a ob) {s with heap:=h',toks:=t'}:=
 I.write (x:=a) (e:=a) c (.inl rfl) (λb q g z=>(d.2 b g).trans z) f h
end
section
variable {X:Cx} {pins:B'} {σ:St} {H:Hp} {s:Shared} {a:Addr} {kvs:List (Br×V)} {k:Br} {u:Value} {A:Around} {E:I'}
end
def NI (i:Expr):Prop:=∀ov iv,subscripted i false ov iv=operate [ov,iv] (getItem ov iv)
variable {s:Shared}
def Je{prog:Program}{A:Around}{E:I'}{env:Env}{d slice:Expr}{L:Pos}{T id:String}{Q:I'}
 (j:typeLookup (.type T) "__getitem__" = pure (some (.builtin id))) (k:NI slice)
 (h:wpAny (model prog w) A (eval d env) (λo e=>wpAny (model prog w) A (eval slice env) (λi a=>a.TypeIs o T/\wpAny (model prog w) A (getItem o i) Q E a) E e) E s) :
 wpAny (model prog w) A (eval (.Subscript d slice L) env) Q E s:=by
 refine Subscript_ (FL h (λo e l=>FL l (λi a b=>?_) λζ ζ x=>x) λζ ζ x=>x);obtain⟨f,b⟩:=b;unfold subscriptTail;refine Ad ?_;rw[getitemInPython_of_ne f.not_modules];refine Ad (wpAny_specialOf f j ?_)
 have c:wpAny (model prog w) A (subscripted slice false o i) (λr g=>wpAny (model prog w) A (letTemporaryGo d o r >>= λζ=>pure r) Q E g) E a:=by
  rw[k o i];exact wpAny_operating (FL b (λr g m=>Ad (wpAny_letTemporaryGo (Az m))) λζ ζ x=>x)
 first
  |exact Az (Ad c)
  |exact Ad (Az (Ad c))
  |exact Ad c
def XI{X:Cx}{pins:B'}{σ:St}{o:Option V}(I:Inv X pins σ H s)(g:EZ H a y o):s.TypeIs (.ref a) "dict" :=by
 rcases g with⟨kvs,k,e,_,_⟩|⟨kvs,k,b,e,_,_,_⟩;obtain⟨_,_,d,_,c⟩:=NH I.hok e;exact c.typeIs;obtain⟨_,_,xs,_,c⟩:=MS I.hok e;exact c.typeIs
def NJ (D ty:TE):TE:=λσ H Q=>D σ H λx U=>ty σ U λy Y=>∃a v,x=.ref a/\EZ Y a y (some v)/\Q v Y
section
variable {X:Cx} {o i e d:Expr} {L t j:Pos} {D ty J:TE}
def Jf(d:X.A.units+1<cLine)(e:PE X o D)(f:PE X i ty)(j:NI i):PE X (.Subscript o i L) (NJ D ty):=by
 intro c s σ H Q I h;refine Je PySem.F.slot_dict_getitem.lookup j (AU (e c s σ H _ I h) λu k⟨x,U,l,m,n⟩=>AU (f c k σ U _ l n) λw z⟨y,Y,b,p,a,v,ex,g,q⟩=>?_);subst ex;obtain rfl:u=Value.ref a:=m;exact⟨XI b g,XH d b g p λA B r t=>⟨v,Y,r,t,q⟩⟩
end
def UI{P:Program}(h:Heap)(a:sysModules<h.objs.size):AE P w H (h.push {cls:=.type "dict",data:=.dict #[]}) h.objs.size (.dT []):=
 ⟨DP _,beq_eq_false_iff_ne.mpr (Ne.symm (CN a)),[],.nil,_,#[],0,Cp _ rfl,⟨rfl,rfl,rfl⟩,rfl,rfl,List.nodup_nil⟩
def Ls:TE:=λζ H Q=>∀p,H p=none->Q (.ref p) (upd H p (.dT []))
section
variable {X:Cx} {L:Pos}
def RN:PE X (.Dict [] [] L) Ls:=λb s σ H Q I h =>
 wpAny_Dict_empty ⟨.ref s.heap.objs.size,_,I.laid (a:=s.heap.objs.size) (o:=.dT []) (t':=s.toks) (λζ ζ q=>Bo _ q) (AG _) (UI s.heap I.big),rfl,h _ (I.hok.fresh (AG _))⟩
end
structure M2 (X:Cx) (o:Expr) (m:Str) (apos:Pos) (e f:Expr) (cpos:Pos):Prop where
 base:attributeBase o m X.env (eval o X.env)=eval o X.env
 few:((backTo cpos (starEach [e,f] X.env)).all (λx=>!x.1) && (backToKw cpos (keywordEach [] X.env)).all (λx=>x.1.isSome)
  && decide (([e,f]:List Expr).length+([]:List Keyword).length+(if([]:List Keyword).isEmpty then 0 else 1)<30))=true
 line:(apos.endLine==cpos.line)=true
 trees:backTo cpos (starEach [e,f] X.env)=[(false,eval e X.env),(false,eval f X.env)]
def UJ (H:Hp) (a:Addr):Prop:=(∃kvs,Rd H a (.dK kvs))\/∃kvs,Rd H a (.dT kvs)
def Lu{X:Cx}{pins:B'}{σ:St}(I:Inv X pins σ H s)(d:UJ H a) :
 s.TypeIs (.ref a) "dict" /\ (∀b,Value.ref a=.ref b->∃ob,s.heap.get? b=some ob/\ob.dict=none)/\(a==sysModules)=false:=by
 rcases d with⟨kvs,e⟩|⟨kvs,e⟩;obtain⟨_,hd,h,_,c⟩:=NH I.hok e;refine⟨c.typeIs,λb q=>?_,hd⟩;cases q;obtain⟨ob,_,_,f,g,_⟩:=c;exact⟨ob,f,g.2.1⟩;obtain⟨_,hd,xs,_,c⟩:=MS I.hok e;refine⟨c.typeIs,λb q=>?_,hd⟩;cases q;obtain⟨ob,_,_,f,g,_⟩:=c;exact⟨ob,f,g.2.1⟩
section
variable {X:Cx} {pins:B'} {σ:St} {H:Hp} {s:Shared} {a:Addr} {y d:V} {u r:Value} {o:Option V} {A:Around} {E:I'}
def Lv{Q:I'}(p:A.units+1<cLine)(I:Inv X pins σ H s)(g:EZ H a y o)(j:RelV y u)(m:RelV d r)(h:∀n Z,Inv X pins σ H Z->RelV (o.getD d) n->Q n Z) :
 wpAny (model X.prog X.w) A (call (.builtin "dict.get") [.ref a,u,r]) Q E s:=by
 rcases g with⟨kvs,k,e,f,l⟩|⟨kvs,k,b,e,f,q,l⟩;subst f;obtain⟨z,hd,t,i,c⟩:=NH I.hok e;refine call_meetsIn PySem.F.slot_dict_get c.typeIs PySem.F.entry_dict_get (PySem.F.args_dict_get_3 _ _ _) (meets_dict_get_default (FE X.prog X.w) a (Pc j) hd r) ⟨_,c.mapOf,h _ _ (I.tok _) ?_⟩;rw[l];exact(i.val k).getD m;subst f
 cases(show u=Value.ref b from j);obtain⟨z,hd,xs,i,c⟩:=MS I.hok e;refine call_meetsIn PySem.F.slot_dict_get c.typeIs PySem.F.entry_dict_get (PySem.F.args_dict_get_3 _ _ _) (meetsH_dict_get_default (tupleKind (FE X.prog X.w)) a b hd r) ⟨tupleKind_room_in1 p,k,xs,MR I.hok q,c,h _ _ (I.tok _) ?_⟩;rw[l];exact(i.val k).getD m
end
def Lw (D ty tx:TE):TE:=λσ H Q=>D σ H λx U=>∃a,x=.ref a/\UJ U a/\ty σ U λy Y=>tx σ Y λz H3=>∃o,EZ H3 a y o/\Q (o.getD z) H3
section
variable {X:Cx} {o e f:Expr} {apos cpos:Pos} {D ty tx:TE}
def XJ(i:X.A.units+1<cLine)(j:PE X o D)(k:PE X e ty)(l:PE X f tx)(m:M2 X o "get" apos e f cpos):PE X (.Call (.Attribute o "get" apos) [e,f] [] cpos) (Lw D ty tx):=by
 intro b s σ H Q I h;refine wpAny_Call_method m.base m.few m.line PySem.F.plainAttrs_dict PySem.F.slot_dict_get PySem.F.type_dict_get (AU (j b s σ H _ I h) λu n⟨x,U,c,p,a,ex,d,q⟩=>?_);subst ex;obtain rfl:u=Value.ref a:=p;obtain⟨r,t,_⟩:=Lu c d;refine⟨r,t,?_⟩;rw[m.trees]
 refine Calls.callWith_builtin rfl (Calls.evalArgs_plain (Calls.spliced_cons (AU (k b n σ U _ c q) λL v⟨y,Y,w,A,B⟩ =>
  Calls.spliced_cons (AU (l b v σ Y _ w B) λM N⟨z,C,E,F,O,g,G⟩=>Calls.spliced_nil ?_))))
 exact Lv i E g A F λP R J K=>⟨_,C,J,K,G⟩
end
section
variable {X:Cx} {pins:B'} {σ:St} {H:Hp} {s:Shared} {a:Addr} {kvs:List (Br×V)} {A:Around} {E:I'}
end
section
variable {X:Cx} {pins:B'} {σ:St} {H:Hp} {s:Shared} {a:Addr} {y:V} {u:Value} {A:Around} {E:I'}
end
end L2
namespace Att
open PySem PySem.W PySem.Calls PyProof.Rows
def XM{P:Params}{h:Heap}:∀(c:List Int)(vs:List Value),WellAll P h vs (c.map WData.int)->IntsAre vs c:=by
 intro c
 induction c with
 |nil =>
   intro vs w;rw[Nc] at w;cases w;exact .nil
 |cons n c d =>
   intro vs w;rw[EX] at w
   cases w with
   |cons a b =>
     cases a;exact .cons _ _ (d _ b)
def XN{l:OpenLaw}{n:Nat}(j:l.most=some n){P:Params}{h:Heap}{args:List WData}{g:List Value}
 (i:l.row.toRowW.claim.pre args=true) (v:WellAll P h g args) :
 ∃a vs b,g=[Value.ref a]/\args=[WData.list (b.map WData.int)]/\h.get? a=some {cls:=.type "list",data:=.seq vs.toArray}/\IntsAre vs b/\b.length<=n:=by
 have w:WShape.hasAll [] args [.list .int]=true:=(pre_splitW i).1;have f:l.pre.holds [] {args:=args}=true:=(pre_splitW i).2;obtain⟨d,r,rfl,k,m⟩:=hasAllW_cons w;obtain rfl:=hasAllW_nil m;obtain⟨z,rfl,o⟩:=hasW_list k;obtain⟨b,rfl⟩:=items_int o
 have x:b.length<=n:=by
  unfold OpenLaw.pre at f
  have c:(WTm.not (.lt (.lit (.int (n:Int))) (.len (.arg 0)))).holds [] {args:=[.list (b.map .int)]}=true:=by
   have c:=(holds_andW f).1;rw[j] at c;exact c
  have e:=condW_of c (w_not (w_lt w_lit (w_len_list (w_arg rfl))));rw[Ak] at e;refine Nat.le_of_not_lt λq=>?_;have p:(n:Int)<((b.length:Nat):Int):=(by lia)
  first
   |(rw[A5 p] at e;exact absurd e (by decide))
   |(simp at e;lia)
 cases v with
 |cons s t =>
   cases t
   cases s with
   |list u y=>exact⟨_,_,b,rfl,rfl,u,XM b _ y,x⟩
def XO(l:OpenLaw)(args:List WData):l.row.toRowW.claim.post args (.bool true) args=true:=
 postW_of (r:=l.row.toRowW) (X:=(true==true))
  (show WShape.has [] (.bool true) .bool=true by first|rfl|decide|simp[WShape.has,WShape.arms,WShape.armsAll])
  (show(WTm.eq .res (.lit (.bool true))).value [] {args:=args,res:=some (.bool true),after:=args}=some (.bool (true==true)) from w_eq_bool (w_res rfl) w_lit) rfl
def attach_call{l:OpenLaw}{n:Nat}{q:Program}{loose:List Str}{XP:(Str->Option Value)->Heap->Prop}{YP:World->Heap->Prop}{d:DefRec}
 (s:l.most=some n) (C:d.params.defaults=[])
 (call:∀(w:World)(i b:Shared)(e j:Str->Option Value)(c:Addr)(o:Obj)(k g m:Value)(a:Addr)(vs:List Value)(h:List Int),
  Ground q loose [] XP w i e j b.heap->YP w b.heap ->
  b.heap.get? c=some o->o.data=.func (docDef d.name d.params d.body d.scope k g m)->b.heap.CodeRec g d.name->e d.name=some (.ref c) ->
  b.heap.get? a=some {cls:=.type "list",data:=.seq vs.toArray}->IntsAre vs h->h.length<=n->b.gens=#[] ->
  codeAny (model l.prog w) callerA (.call (.ref c) ⟨[.ref a],[]⟩) (λr Z=>r=.ok (.ret (.bool true))/\OldK b.heap Z.heap/\Z.os=b.os/\AllBare Z.gens) b) :
 WalkO q loose XP YP l.row.toRowW d [] (λf vs=>PySem.call f vs):=by
 intro w i b e j G Y c o k g m t kV u hd D p E v O P L H Q M F N;obtain rfl:t=.none:=Dflts.none p C;obtain rfl:kV=.none:=Dflts.noKw p;obtain⟨a,vs,h,rfl,rfl,I,K,J⟩:=XN s H F;refine enter_call (codeAny_mono (call w i b e j c o k g m a vs h G Y u (fd_plain hd) D E I K J v) λr Z x=>?_);obtain⟨rfl,y,z,A⟩:=x;exact⟨.inl ⟨.bool true,.bool true,[],rfl,λζ=>rfl,.bool true,XO l _,λζ=>⟨List.Pairwise.nil,λζ B=>(nomatch B)⟩⟩,y,z,A⟩
section
variable {prog:Program} {w:World} {A:Around} {E:I'} {s:Shared} {K:Frag}
end
end Att
namespace L2
open PySem PySem.Spec PyProof.Rows
theorem RO:∀{vs:List Value}{a:List Int},IntsAre vs a->Ax (a.map V.int) vs
 |_,_,.nil=>.nil
 |_,_,.cons n t h=>.cons ⟨t,rfl⟩ (RO h)
def Lx (H:Hp):Prop:=∀b,H b=none\/∃o xs,H b=some (.frz o (.lst xs))
variable {P:Program}{w:World}{k:Nat}{a:Addr}{fd:FuncData}{x:Str}
def XQ {K:Aj} {g A:Str->Option Value} {CX:Hu} {B:Addr} {sp:Sp} {c:Shared} {vs:List Value} {i:List Int}
 (G:K.In c.heap) (O:c.heap.Ns mainGlobals g) (f:c.heap.Ns builtinsNs A) (ab:∀x:Str,x ≠ "__name__" -> A x=bootBuiltins x) (ah:c.heap.NoLimit) (U:c.gens=#[])
 (t:c.heap.get? a=some {cls:=.type "list",data:=.seq vs.toArray}) (I:IntsAre vs i) (J:i.length<=sizeLine) (W:B1 k callerA)
 (F:∀E:Heap,K.In E->E.Ns mainGlobals g->Ex P w K g E CX k B fd [x] sp) (al:∀(s:Shared)(u:Value),BindsTo s fd ⟨[u],[]⟩ [(x,u)])
 (ae:∀H:Hp,Lx H->Af K H a (i.map V.int)->sp [.ref a] H (λv ζ=>v=.bl true) λζ ζ ζ=>False)
 (af:∀H e Z,CX [] H c (λζ ζ ζ=>False) e Z->False) :
 codeAny (model P w) callerA (.call (.ref B) ⟨[.ref a],[]⟩) (λr Z=>r=.ok (.ret (.bool true))/\OldK c.heap Z.heap/\Z.os=c.os/\AllBare Z.gens) c:=by
 have L:=RO I;have ai:=I.length
 have S:∀ H:Hp,Lx H->Af K H a (i.map V.int)->Dc P w H c.heap->(∀ b,H b≠none->b=a)->(H a≠none->K.lookup a=none) ->
  codeAny (model P w) callerA (.call (.ref B) ⟨[.ref a],[]⟩) (λr Z=>r=.ok (.ret (.bool true))/\OldK c.heap Z.heap/\Z.os=c.os/\AllBare Z.gens) c:=by
  intro H M X Q hA Y;have T:∀{b:Addr}{o:Obj},c.heap.get? b=some o->H b=none->(Fm c.heap H).get? b=some o:=λe n=>Xk e n
  have ag:∀{b:Addr}{o:Obj}{j:Array DictEntry}{l:Nat},c.heap.get? b=some o->o.data=.dict j l->H b=none:=λ{b o j l}e d=>by
   cases q:H b with
   |none=>rfl
   |some u =>
     have C:b=a:=hA b (by rw[q];simp);subst C;rw[t] at e;cases e;have d':Data.seq vs.toArray _=Data.dict j l:=d;cases d'
  have y:∀{b:Addr}{m:Str->Option Value},c.heap.Ns b m->(Fm c.heap H).Ns b m:=λ{b m}⟨o,j,l,e,d,r⟩=>⟨o,j,l,T e (ag e d),d,r⟩
  have R:K.In (Fm c.heap H):=λb o e=>T (G b o e) (by
   cases q:H b with
   |none=>rfl
   |some u =>
     have C:b=a:=hA b (by rw[q];simp);subst C
     rw[Y (by rw[q];simp)] at e;cases e)
  have hM:Mod K g (Fm c.heap H):=⟨R,y O,⟨A,y f,ab⟩,let ⟨mc,h1,h2⟩:=ah;⟨mc,y h1,h2⟩⟩;have e0:IZ P w K g (Fm c.heap H) callerA [] c H:=⟨rfl,hM,λb o e=>IQ e,Nat.le_of_eq (Xj _ _),trivial,λb f=>absurd (show b∈([]:List Addr) from f) (by simp),Q,.of_eq U⟩;refine codeAny_mono ((F _ R (y O)).run callerA [] c H ⟨[.ref a],[]⟩ [.ref a] [.ref a] _ _ W e0 (al c (.ref a)) (.cons rfl .nil) (ae H M X)) λr Z h=>?_
  cases r with
  |error e=>exact(af H e Z h).elim
  |ok fl =>
    cases fl with
    |next=>exact False.elim h
    |brk=>exact False.elim h
    |cont=>exact False.elim h
    |ret u =>
      obtain⟨v,H',aa,aj,un,ak,r',q⟩:=h;have q':v=.bl true:=q;subst q';obtain rfl:u=Value.bool true:=r';refine⟨rfl,OldK.of_keep λb o e=>?_,aa,aj⟩
      cases q:H b with
      |none=>exact un.keep b o e q (by intro z;exact absurd (show b∈([]:List Addr) from z) (by simp)) (by simp)
      |some u =>
        rcases M b with z|⟨ob,xs,z⟩;rw[q] at z;cases z;have z2:=un.frzs b ob _ z;obtain⟨N,_⟩:=Q b _ z;obtain⟨e2,_⟩:=ak b _ z2;rw[e] at N;cases N;exact e2
 cases D:K.lookup a with
 |some o =>
   have e:=G a o D;rw[t] at e;cases e;refine S (λζ=>none) (λζ=>.inl rfl) (.inr ⟨_,vs.toArray,_,D,rfl,rfl,rfl,by rw[CM,ai];exact J,by simpa using L⟩) (λb u z=>by have p:(none:Option HO)=some u:=z;cases p) (λb z=>absurd rfl z) λz=>absurd rfl z
 |none =>
   refine S (λb=>if b=a then some (.frz {cls:=.type "list",data:=.seq vs.toArray} (.lst (i.map V.int))) else none) (λb=>?_) (.inl (.inr ⟨{cls:=.type "list",data:=.seq vs.toArray},Au rfl⟩)) (λb u z=>?_) (λb z=>?_) λζ=>D
   by_cases f:b=a;exact .inr ⟨_,_,Au f⟩;exact .inl (At f);by_cases f:b=a;have p:=(Au f).symm.trans z;cases p;subst f;exact⟨t,by rw[Ak];exact J,vs,_,L,t⟩;have p:=(At f).symm.trans z;cases p;by_cases f:b=a;exact f;exact absurd (At f) z
variable {n:Nat}
def Jg{l:PySem.W.OpenLaw}{q:Program}{loose:List Str}{XP:(Str->Option Value)->Heap->Prop}{YP:World->Heap->Prop}{d:DefRec}{K:Params->Aj}{CX:World->Hu}{sp:World->Sp}(p:l.most=some n)(E:n<=sizeLine)(I:d.params.defaults=[])(r:B1 k callerA)
 (t:∀(w:World)(h:Heap),YP w h->(K w.params).In h)
 (F:∀(w:World)(b:Str->Option Value)(c:Addr)(h:Heap),(K w.params).In h->h.Ns mainGlobals b->b d.name=some (.ref c) ->
  ∃fd:FuncData,(∀(s:Shared)(u:Value),BindsTo s fd ⟨[u],[]⟩ [(x,u)]) /\
   ∀i:Heap,(K w.params).In i->i.Ns mainGlobals b->Ex l.prog w (K w.params) b i (CX w) k c fd [x] (sp w))
 (J:∀(w:World)(H:Hp)(a:Addr)(g:List Int),g.length<=n->Lx H->Af (K w.params) H a (g.map V.int)->sp w [.ref a] H (λv ζ=>v=.bl true) λζ ζ ζ=>False)
 (L:∀(w:World)(H:Hp)(s:Shared)(e:Value)(Z:Shared),CX w [] H s (λζ ζ ζ=>False) e Z->False) :
 PySem.W.WalkO q loose XP YP l.row.toRowW d [] (λf vs=>PySem.call f vs):=by
 refine Att.attach_call p I λw P y b Q c o R S U a vs g G Y T hd W M N O m z=>?_;have j:=t w _ Y;obtain⟨fd,A,B⟩:=F w b c _ j G.T.g M;exact XQ j G.T.g G.T.b G.T.builtins G.T.nolimit z N O (Fa m E) r B A (λH C D=>J w H a g m C D) λH e Z=>L w H y e Z
abbrev Iz:Hu:=λζ ζ ζ ζ ζ ζ=>False
abbrev E0:XK:=λζ ζ ζ=>False
variable {X:Cx}
def NK:RG Iz X E0:=λζ ζ ζ ζ ζ ζ ζ h=>h.elim
structure Bv (K:Aj) (x qual:Str) (st:Stmt) (f:Addr) (fd:FuncData):Prop where
 ex:∃(oc:Value)(od:Option Addr)(kV doc pm:Value)(an:Option Addr)(cdv ct:Value)(osl:Array (Option Value)),
  fd=PySem.W.fnOf x qual (Kj st) (Iv st) (AR st) .none kV doc pm an cdv ct/\K.lookup f=some ⟨oc,od,.func fd,osl⟩/\PySem.W.codeIn K cdv qual=true
 kp:PySem.W.keepIn K (.ref f)=true
section
variable {P:Program} {w:World} {K:Aj} {mg:Str->Option Value} {base:Heap}
variable {qual:Str}{st:Stmt}{f:Addr}
def Bv.ok{N ps:List Str}{sp:Sp}(F:Bv K x qual st f fd)(S:Ag N ps (AR st))(len:∀vs H Q E,sp vs H Q E->vs.length=ps.length)
 (i:∀(a:Value)(A:Around)(b:List Env)(s:Shared)(H:Hp)(vs:List V)(Q:VK)(E:XK),B1 k (A.deeper (envOfC qual (AR st) s.heap.objs.size f a))->sp vs H Q E ->
  ∃t,Ge (AD Iz P w K mg base N qual (AR st) f a A b s H E).nox (Iv st) t/\t {nx:=λζ H'=>Q .non H',rt:=Q} (start N vs) H):Ex P w K mg base Iz (k+1) f fd ps sp:=by
 obtain⟨j,l,kV,p,m,n,a,o,r,rfl,c,e⟩:=F.ex;refine NA c e S len λA b s H vs Q E d g=>?_;obtain⟨t,h,q⟩:=i a A b s H vs Q E d g;exact⟨t,h.nox,q⟩
def Bv.binds{ps:List Str}(F:Bv K x qual st f fd)
 (h:∀(kV d a:Value)(b:Option Addr)(e ct:Value)(c:List Value),c.length=ps.length->bindArgs (PySem.W.fnOf x qual (Kj st) (Iv st) (AR st) .none kV d a b e ct) ⟨c,[]⟩=pure (ps.zip c)):Binds K fd ps []:=by
 obtain⟨g,i,kV,d,a,b,e,ct,k,rfl,j,l⟩:=F.ex;exact .all (h kV d a b e ct)
def Hx{g:Value}{h b:Option Addr}{i:Array (Option Value)}{kV e d a ct:Value}(l:K.lookup f=some ⟨g,h,.func (PySem.W.fnOf x qual (Kj st) (Iv st) (AR st) .none kV e d b a ct),i⟩)
 (c:PySem.W.codeIn K a qual=true) (k:PySem.W.keepIn K (.ref f)=true):Bv K x qual st f (PySem.W.fnOf x qual (Kj st) (Iv st) (AR st) .none kV e d b a ct):=⟨⟨g,h,kV,e,d,b,a,ct,i,rfl,l,c⟩,k⟩
end
variable {A:Around}
def Pd(a:B1 k A):A.units+1<cLine:=Nat.lt_of_le_of_lt (Nat.add_le_add_left (by decide:1<=64) _) a.units
def BL(h:n<=1000):n<sizeLine:=Nat.lt_of_le_of_lt h (by decide)
section
variable {X:Cx}
def pv(i:Nat){L:Pos}(a:X.N[i]?=some x:=by rfl)(hv:O5 X.env.scope x:=by first|exact Or.inl rfl|exact Or.inr (Or.inl rfl)|exact Or.inr (Or.inr rfl))(hd:(x==("__debug__" : Str))=false:=by decide)
 (b:(x==("__classdict__" : Str))=false:=by decide):PE X (.Name x L) (A0 i):=K7 a hv hd b
end
variable {B:Prop}
def Bm{A:Prop}(h:B):if false=true then A else B:=by
 rw[At Df];exact h
def CP{A:Prop}(h:A):if true=true then A else B:=by
 rw[Au rfl];exact h
def Ap{c A:Prop} [Decidable c](a:c->A)(b:¬c->B):if c then A else B:=by
 by_cases h:c;rw[Au h];exact a h;rw[At h];exact b h
def Ac (H H':Hp):Prop:=∀b o,H b=some o->H' b=some o
def Ac.refl(H:Hp):Ac H H:=λζ ζ h=>h
variable {H U:Hp}
def Ac.trans{Y:Hp}(a:Ac H U)(b:Ac U Y):Ac H Y:=λc o h=>b c o (a c o h)
variable {H':Hp}
def Ac.free(e:Ac H H'){l:Addr}(h:H' l=Option.none):H l=Option.none:=by
 cases q:H l with
 |none=>rfl
 |some o =>
   rw[e l o q] at h;cases h
variable {xs:List V}
def Ac.seq{K:Aj}(e:Ac H H')(h:Af K H a xs):Af K H' a xs:=by
 rcases h with(h|⟨o,h⟩)|h;exact .inl (.inl (e _ _ h));exact .inl (.inr ⟨o,e _ _ h⟩);exact .inr h
section
variable {κ:Type} [DecidableEq κ]
end
inductive Ty where
 |int|bool|str|non|lst|tup|dct
 deriving DecidableEq
def Ty.name:Ty->String
 |.int => "int"|.bool => "bool"|.str => "str"|.non => "NoneType"|.lst => "list"|.tup => "tuple"|.dct => "dict"
inductive Jh (K:Aj) (H:Hp):V->Ty->Prop where
 |int (i:Int):Jh K H (.int i) .int
 |bl (b:Bool):Jh K H (.bl b) .bool
 |str (x:Str):Jh K H (.str x) .str
 |non:Jh K H .non .non
 |lst {a:Addr} {xs:List V} (h:Af K H a xs):Jh K H (.ref a) .lst
 |tup {a:Addr} {xs:List V} (h:Al K H a xs):Jh K H (.ref a) .tup
 |dk {a:Addr} {kvs:List (Br×V)} (h:H a=some (.dK kvs)):Jh K H (.ref a) .dct
def RP:Ty->Ty->Bool
 |.int,.int=>true|.bool,.bool=>true|.bool,.int=>true|.str,.str=>true|.non,.non=>true|.lst,.lst=>true|.tup,.tup=>true|.dct,.dct=>true|_,_=>false
def RQ (K:Aj):List V->Hp->VK->Prop:=λvs H Q=>∃x T T',vs=[x,.ty (Ty.name T)]/\Jh K H x T'/\Q (.bl (RP T' T)) H
def Ji:Bs X (.builtin "isinstance") (RQ X.K):=by
 intro F s σ H g w Q I r h;obtain⟨x,T,z,rfl,ty,q⟩:=h;obtain⟨u,j,rfl,c,p⟩:=Kr r;have k:j=Value.type (Ty.name T):=p;subst k
 cases ty with
 |int i =>
   obtain⟨t,rfl⟩:=c
   cases T with
   |int=>exact IsiPair.int_int ⟨.bl true,H,I,rfl,q⟩
   |bool=>exact IsiPair.int_bool ⟨.bl false,H,I.tok _,rfl,q⟩
   |str=>exact IsiPair.int_str ⟨.bl false,H,I.tok _,rfl,q⟩
   |non=>exact IsiPair.int_NoneType ⟨.bl false,H,I.tok _,rfl,q⟩
   |lst=>exact IsiPair.int_list ⟨.bl false,H,I.tok _,rfl,q⟩
   |tup=>exact IsiPair.int_tuple ⟨.bl false,H,I.tok _,rfl,q⟩
   |dct=>exact IsiPair.int_dict ⟨.bl false,H,I.tok _,rfl,q⟩
 |bl b =>
   obtain rfl:u=Value.bool b:=c
   cases T with
   |int=>exact IsiPair.bool_int ⟨.bl true,H,I,rfl,q⟩
   |bool=>exact IsiPair.bool_bool ⟨.bl true,H,I,rfl,q⟩
   |str=>exact IsiPair.bool_str ⟨.bl false,H,I.tok _,rfl,q⟩
   |non=>exact IsiPair.bool_NoneType ⟨.bl false,H,I.tok _,rfl,q⟩
   |lst=>exact IsiPair.bool_list ⟨.bl false,H,I.tok _,rfl,q⟩
   |tup=>exact IsiPair.bool_tuple ⟨.bl false,H,I.tok _,rfl,q⟩
   |dct=>exact IsiPair.bool_dict ⟨.bl false,H,I.tok _,rfl,q⟩
 |str y =>
   obtain⟨t,rfl⟩:=c
   cases T with
   |int=>exact IsiPair.str_int ⟨.bl false,H,I.tok _,rfl,q⟩
   |bool=>exact IsiPair.str_bool ⟨.bl false,H,I.tok _,rfl,q⟩
   |str=>exact IsiPair.str_str ⟨.bl true,H,I,rfl,q⟩
   |non=>exact IsiPair.str_NoneType ⟨.bl false,H,I.tok _,rfl,q⟩
   |lst=>exact IsiPair.str_list ⟨.bl false,H,I.tok _,rfl,q⟩
   |tup=>exact IsiPair.str_tuple ⟨.bl false,H,I.tok _,rfl,q⟩
   |dct=>exact IsiPair.str_dict ⟨.bl false,H,I.tok _,rfl,q⟩
 |non =>
   obtain rfl:u=Value.none:=c
   cases T with
   |int=>exact IsiPair.NoneType_int ⟨.bl false,H,I.tok _,rfl,q⟩
   |bool=>exact IsiPair.NoneType_bool ⟨.bl false,H,I.tok _,rfl,q⟩
   |str=>exact IsiPair.NoneType_str ⟨.bl false,H,I.tok _,rfl,q⟩
   |non=>exact IsiPair.NoneType_NoneType ⟨.bl true,H,I,rfl,q⟩
   |lst=>exact IsiPair.NoneType_list ⟨.bl false,H,I.tok _,rfl,q⟩
   |tup=>exact IsiPair.NoneType_tuple ⟨.bl false,H,I.tok _,rfl,q⟩
   |dct=>exact IsiPair.NoneType_dict ⟨.bl false,H,I.tok _,rfl,q⟩
 |lst d =>
   obtain rfl:u=Value.ref _:=c;obtain⟨v,l,⟨o,n,e,a,hd,m⟩,f⟩:=I.list d
   cases T with
   |int=>exact IsiPair.list_int e a ⟨.bl false,H,I.tok _,rfl,q⟩
   |bool=>exact IsiPair.list_bool e a ⟨.bl false,H,I.tok _,rfl,q⟩
   |str=>exact IsiPair.list_str e a ⟨.bl false,H,I.tok _,rfl,q⟩
   |non=>exact IsiPair.list_NoneType e a ⟨.bl false,H,I.tok _,rfl,q⟩
   |lst=>exact IsiPair.list_list e a ⟨.bl true,H,I,rfl,q⟩
   |tup=>exact IsiPair.list_tuple e a ⟨.bl false,H,I.tok _,rfl,q⟩
   |dct=>exact IsiPair.list_dict e a ⟨.bl false,H,I.tok _,rfl,q⟩
 |tup d =>
   obtain rfl:u=Value.ref _:=c;obtain⟨v,l,⟨o,e,a,n,m⟩,f⟩:=I.tuple d
   cases T with
   |int=>exact IsiPair.tuple_int e a ⟨.bl false,H,I.tok _,rfl,q⟩
   |bool=>exact IsiPair.tuple_bool e a ⟨.bl false,H,I.tok _,rfl,q⟩
   |str=>exact IsiPair.tuple_str e a ⟨.bl false,H,I.tok _,rfl,q⟩
   |non=>exact IsiPair.tuple_NoneType e a ⟨.bl false,H,I.tok _,rfl,q⟩
   |lst=>exact IsiPair.tuple_list e a ⟨.bl false,H,I.tok _,rfl,q⟩
   |tup=>exact IsiPair.tuple_tuple e a ⟨.bl true,H,I,rfl,q⟩
   |dct=>exact IsiPair.tuple_dict e a ⟨.bl false,H,I.tok _,rfl,q⟩
 |dk d =>
   obtain rfl:u=Value.ref _:=c;obtain⟨f,A,g,E,o,B,C,e,ex,D⟩:=I.hok _ _ d;have a:=ex.1
   cases T with
   |int=>exact IsiPair.dict_int e a ⟨.bl false,H,I.tok _,rfl,q⟩
   |bool=>exact IsiPair.dict_bool e a ⟨.bl false,H,I.tok _,rfl,q⟩
   |str=>exact IsiPair.dict_str e a ⟨.bl false,H,I.tok _,rfl,q⟩
   |non=>exact IsiPair.dict_NoneType e a ⟨.bl false,H,I.tok _,rfl,q⟩
   |lst=>exact IsiPair.dict_list e a ⟨.bl false,H,I.tok _,rfl,q⟩
   |tup=>exact IsiPair.dict_tuple e a ⟨.bl false,H,I.tok _,rfl,q⟩
   |dct=>exact IsiPair.dict_dict e a ⟨.bl true,H,I,rfl,q⟩
def UK{bs:List Bool}{a:List Value}(r:Ax (bs.map V.bl) a):TruthOf P w A (λi v=>a.toArray[i]?=some v) (λi=>bs.getD i false):=by
 intro i v s Q E d f;have c:a[i]?=some v:=(by simpa using d);have g:=r.length;rw[Ak] at g;have k:i<a.length:=(Bi.mp c).1
 have h:(bs.map V.bl)[i]?=some (V.bl (bs.getD i false)):=by
  rw[AM,B6];have:bs[i]?=some bs[i]:=AB (by lia);rw[this];rfl
 obtain⟨u,b,j⟩:=r.get h;rw[c] at b;cases b;have e:v=Value.bool (bs.getD i false):=j;subst e;exact Gv f
def XR{bs:List Bool}:(List.range bs.length).all (λi=>bs.getD i false)=bs.all id:=by
 rw[Bool.eq_iff_iff,List.all_eq_true,List.all_eq_true];constructor;intro h b d;obtain⟨i,a,e⟩:=OT.mp d;have:=h i (List.mem_range.mpr a);rw[B6,AB a] at this;rw[<-e];exact this;intro h i a;have c:=List.mem_range.mp a;rw[B6,AB c];exact h _ (Dk c)
def RS (K:Aj):List V->Hp->VK->Prop:=λvs H Q=>∃(a:Addr)(bs:List Bool),vs=[.ref a]/\Af K H a (bs.map V.bl)/\Q (.bl (bs.all id)) H
def XS(g:X.calm=true):Bs X (.builtin "all") (RS X.K):=by
 intro C s σ H t w Q I r h;obtain⟨a,bs,rfl,j,q⟩:=h;obtain⟨u,rfl,k⟩:=Gh r;obtain rfl:u=Value.ref a:=k;obtain⟨c,d,p,x⟩:=I.list j;have f:=d.length;rw[Ak] at f;have n:a<s.heap.objs.size:=by obtain⟨_,e,_⟩:=p.isList;exact Bh e
 refine call_all_walk (wpAny_pyIter_list p.isList ?_);refine⟨s.heap.objs.size,[s.heap.objs.size,a],[s.heap.objs.size],c.toArray.size,(λi v=>c.toArray[i]?=some v),(λi h=>h.IsListIter s.heap.objs.size a i/\h.IsList a c.toArray),(λi=>bs.getD i false),rfl,Walks.list (A:=X.A.in1) (I.ok.hd g) s.heap.objs.size a (CN n) c.toArray,⟨⟨_,Cp _ rfl,rfl,rfl⟩,p.isList.push _⟩,UK d,λy B l=>?_⟩;refine⟨.bl (bs.all id),H,I.kept λb o e=>l b o (λz=>?_) (Bo _ e),?_,q⟩;have m:b=s.heap.objs.size:=(by simpa using z);exact absurd (Bh e) (by rw[m];exact G6 _);have e:c.toArray.size=bs.length:=(by rw[CM,f]);show Value.bool _=Value.bool _;rw[e,XR]
variable {pins:B'}{σ:St}{s:Shared}
def Inv.track{T:Addr}{o:HO}(I:Inv X pins σ H s)(f:Dl X pins H T)(p:∃ob,s.heap.get? T=some ob)(l:AE X.prog X.w (upd H T o) s.heap T o):Inv X pins σ (upd H T o) s:=by
 obtain⟨d,g,r,h,i,j⟩:=f;refine I.step (g':=s.gens) (t':=s.toks) (d':=s.drawn) (h':=s.heap) (ch:=[T]) (λb a=>?_) (λb ob ζ ζ ζ e ζ=>e) (λb ob ζ ζ ζ e ζ=>⟨ob.slots,e⟩) (λb ob a e n=>?_) (λb ob ζ e=>⟨ob,e⟩) (λb xs e=>?_) (λb ob u e=>?_) (λb t e=>?_) (λm k=>k) (λb u e=>?_) I.bare;have e:b=T:=(by simpa using a);subst e;exact⟨h,g,i,j⟩;rw[AH (by simpa using a)];exact n;rw[AH (AV e d)];exact e;rw[AH (AV e d)];exact e;exact⟨#[],by rw[AH (AV e d),e];simp⟩;by_cases a:b=T;subst a;rw[Aa] at e;cases e;exact l;rw[AH a] at e;exact(I.hok b u e).stay (λc v ζ q=>q) (λc q=>by rw[AH (AV q d)];exact q) λc xs q=>by rw[AH (AV q d)];exact q
def UL (K:Aj) (l1 l2:Addr):It:=
 ⟨λi H=>∃xs ys x y,Af K H l1 xs/\Af K H l2 ys/\xs[i]?=some x/\ys[i]?=some y,
  λi H v H'=>∃T x y,H T=none/\v=.ref T/\H'=upd H T (.tup [x,y])/\(∀xs,Af K H l1 xs->xs[i]?=some x)/\∀ys,Af K H l2 ys->ys[i]?=some y,
  λi H=>∃xs ys,Af K H l1 xs/\Af K H l2 ys/\(xs.length<=i\/ys.length<=i)⟩
def NL (z TI TO i1 i2 l1 l2:Addr) (i:Nat) (h:Heap):Prop:=IsZip h z TI TO .none/\IsPair h TI (.ref i1) (.ref i2)/\(∃a b,IsPair h TO a b)/\h.IsListIter i1 l1 i/\h.IsListIter i2 l2 i
variable {L:Pos}
theorem XT{K:Aj}{es:List Expr}{z TI TO g j l1 l2:Addr}(D:ZipApart z TI TO g j l1 l2) :
 FN P w K (.Tuple es k L) (UL K l1 l2) [z,TI,TO,g,j] z (NL z TI TO g j l1 l2) where
 mem:=by simp
 obj:=λi h C b d=>by
  obtain⟨E,F,⟨a,c,J⟩,⟨o1,e1,c1,d1⟩,⟨o2,e2,c2,d2⟩⟩:=C;simp at d;rcases d with rfl|rfl|rfl|rfl|rfl;exact⟨_,E,λv q=>by cases q⟩;exact⟨_,F,λv q=>by cases q⟩;exact⟨_,J,λv q=>by cases q⟩;exact⟨_,e1,λv q=>by rw[d1] at q;cases q⟩;exact⟨_,e2,λv q=>by rw[d2] at q;cases q⟩
 keep:=λi h h' C Z=>by
  obtain⟨E,F,⟨a,c,J⟩,M,N⟩:=C;exact⟨Z z (by simp) _ E,Z TI (by simp) _ F,⟨a,c,Z TO (by simp) _ J⟩,M.at λo e=>Z g (by simp) o e,N.at λo e=>Z j (by simp) o e⟩
 item:=by
  intro X hP hw hK A i pins s σ H ak I B C hg;subst hP hw hK;obtain⟨xs,ys,x,y,W,Y,hx,hy⟩:=hg;obtain⟨E,F,⟨a,c,J⟩,M,N⟩:=C;obtain⟨az,ae,p1,an⟩:=I.list W;obtain⟨a0,af,aa,ao⟩:=I.list Y;obtain⟨T,aq,ar⟩:=ae.get hx;obtain⟨U,au,av⟩:=af.get hy;refine wpAny_pyNext_zip_item D E F J M N p1.isList aa.isList (x:=T) (y:=U) (by simpa using aq) (by simpa using au) λh' a1 a2 a3 a4 a5 a6 G=>?_;refine⟨_,rfl,wpAny_letOwnedTupleGo_zip (s:={s with heap:=h'}) a1 λS a7 R=>?_⟩;have m:=B z (by simp);have t:=B TO (by simp);have p:=B g (by simp);have r:=B j (by simp);have MM:∀b u,H b=some u->b≠z/\b≠TO/\b≠g/\b≠j:=λb u e=>⟨AV e m.1,AV e t.1,AV e p.1,AV e r.1⟩;have keep:∀b o,b≠z->b≠TO->b≠g->b≠j->s.heap.get? b=some o->S.get? b=some o:=λb o V n2 n3 n4 e=>(R.2 b V).trans (G b o V n2 n3 n4 e);have f:∀{b:Addr},b∉[z,TO,g,j]->b≠z/\b≠TO/\b≠g/\b≠j:=λ{b}d=>by simpa using d
  have I1:Inv X pins σ H {s with heap:=S}:=by
   refine I.step (g':=s.gens) (t':=s.toks) (d':=s.drawn) (h':=S) (ch:=[z,TO,g,j]) (λb d=>?_) (λb l ζ ζ d e ζ=>keep b l (f d).1 (f d).2.1 (f d).2.2.1 (f d).2.2.2 e) (λb l ζ ζ d e ζ=>⟨l.slots,keep b l (f d).1 (f d).2.1 (f d).2.2.1 (f d).2.2.2 e⟩)
    (λζ ζ ζ ζ n=>n) (λb l d e=>⟨l,keep b l (f d).1 (f d).2.1 (f d).2.2.1 (f d).2.2.2 e⟩) (λζ ζ e=>e) (λζ ζ ζ e=>e) (λb ps e=>⟨#[],by rw[e];simp⟩) (λal hm=>?_) (λb u e=>?_) I.bare
   have:b=z\/b=TO\/b=g\/b=j:=(by simpa using d);rcases this with rfl|rfl|rfl|rfl;exact⟨m.2.2.2.1,m.2.1,m.2.2.2.2.1,m.2.2.2.2.2⟩;exact⟨t.2.2.2.1,t.2.1,t.2.2.2.2.1,t.2.2.2.2.2⟩;exact⟨p.2.2.2.1,p.2.1,p.2.2.2.2.1,p.2.2.2.2.2⟩;exact⟨r.2.2.2.1,r.2.1,r.2.2.2.2.1,r.2.2.2.2.2⟩;obtain⟨o,es,ep,ho,ab⟩:=hm;exact⟨o,es,ep,keep _ o (Ne.symm m.2.1) (Ne.symm t.2.1) (Ne.symm p.2.1) (Ne.symm r.2.1) ho,ab⟩;refine(I.hok b u e).stay (λc v A q=>?_) (λζ q=>q) λζ ζ q=>q
   have ag:∃O,H c=some O:=by
    rcases A with rfl|A;exact⟨_,e⟩;exact⟨_,A⟩
   obtain⟨O,Q⟩:=ag;obtain⟨V,n2,n3,n4⟩:=MM c O Q;exact keep c v V n2 n3 n4 q
  have aw:s.heap.objs.size≠z:=Nat.ne_of_gt (Bh E);have ai:H s.heap.objs.size=none:=I.hok.fresh (AG _);have aj:S.get? s.heap.objs.size=some {cls:=.type "tuple",data:=.seq #[T,U]}:=(R.2 _ aw).trans a5
  have I2:Inv X pins σ (upd H s.heap.objs.size (.tup [x,y])) {s with heap:=S}:=by
   refine I1.track (I.fpOk (AG _) ai) ⟨_,aj⟩ ?_;exact⟨by show 2<=sizeLine;decide,[T,U],.cons ar (.cons av .nil),⟨_,aj,rfl,_,rfl⟩⟩
  refine⟨.ref s.heap.objs.size,_,I2,rfl,⟨s.heap.objs.size,x,y,ai,rfl,rfl,λzs ah=>by rw[I.list_inj ah W];exact hx,λzs ah=>by rw[I.list_inj ah Y];exact hy⟩,?_,λb d=>?_⟩;refine⟨a7,R.extBut _ _ D.TIz (G _ _ D.TIz D.TITO D.TIi1 D.TIi2 F),⟨T,U,R.extBut _ _ D.TOz a2⟩,a3.extBut R.extBut D.i1z,a4.extBut R.extBut D.i2z⟩;have ax:=(B b d).1;rw[AH (λq=>?_)];exact ax;have ay:b=z\/b=TI\/b=TO\/b=g\/b=j:=(by simpa using d);obtain⟨o1,e1,_⟩:=M;obtain⟨o2,e2,_⟩:=N
  have lt:b<s.heap.objs.size:=by
   rcases ay with rfl|rfl|rfl|rfl|rfl;exact Bh E;exact Bh F;exact Bh J;exact Bh e1;exact Bh e2
  rw[q] at lt;exact absurd lt (G6 _)
 done:=by
  intro X hP hw hK A i pins s σ H ak I B C hg;subst hP hw hK;obtain⟨xs,ys,W,Y,aA⟩:=hg;obtain⟨E,F,⟨a,c,J⟩,M,N⟩:=C;obtain⟨az,ae,p1,an⟩:=I.list W;obtain⟨a0,af,aa,ao⟩:=I.list Y;have a8:=ae.length;have a9:=af.length;refine wpAny_pyNext_zip_end (I.ok.hd A) D E F J M N p1.isList aa.isList (by simp;lia) λh' G=>⟨rfl,?_⟩;have m:=B z (by simp);have t:=B TO (by simp);have p:=B g (by simp);have r:=B j (by simp);have f:∀{b:Addr},b∉[z,TO,g,j]->b≠z/\b≠TO/\b≠g/\b≠j:=λ{b}d=>by simpa using d
  refine I.step (g':=s.gens) (t':=s.toks) (d':=s.drawn) (h':=h') (ch:=[z,TO,g,j]) (λb d=>?_) (λb l ζ ζ d e ζ=>G b l (f d).1 (f d).2.1 (f d).2.2.1 (f d).2.2.2 e) (λb l ζ ζ d e ζ=>⟨l.slots,G b l (f d).1 (f d).2.1 (f d).2.2.1 (f d).2.2.2 e⟩)
   (λζ ζ ζ ζ n=>n) (λb l d e=>⟨l,G b l (f d).1 (f d).2.1 (f d).2.2.1 (f d).2.2.2 e⟩) (λζ ζ e=>e) (λζ ζ ζ e=>e) (λb ps e=>⟨#[],by rw[e];simp⟩) (λal hm=>?_) (λb u e=>?_) I.bare
  have:b=z\/b=TO\/b=g\/b=j:=(by simpa using d);rcases this with rfl|rfl|rfl|rfl;exact⟨m.2.2.2.1,m.2.1,m.2.2.2.2.1,m.2.2.2.2.2⟩;exact⟨t.2.2.2.1,t.2.1,t.2.2.2.2.1,t.2.2.2.2.2⟩;exact⟨p.2.2.2.1,p.2.1,p.2.2.2.2.1,p.2.2.2.2.2⟩;exact⟨r.2.2.2.1,r.2.1,r.2.2.2.2.1,r.2.2.2.2.2⟩;obtain⟨o,es,ep,ho,ab⟩:=hm;exact⟨o,es,ep,G _ o (Ne.symm m.2.1) (Ne.symm t.2.1) (Ne.symm p.2.1) (Ne.symm r.2.1) ho,ab⟩;refine(I.hok b u e).stay (λc v A q=>?_) (λζ q=>q) λζ ζ q=>q
  have ag:∃O,H c=some O:=by
   rcases A with rfl|A;exact⟨_,e⟩;exact⟨_,A⟩
  obtain⟨O,Q⟩:=ag;exact G c v (AV Q m.1) (AV Q t.1) (AV Q p.1) (AV Q r.1) q
 self:=λζ ζ ζ ζ ζ C h=>wpAny_pyIter_zip C.1 h
def RU (K:Aj) (ta:TA):TI:=λσ H R=>ta σ H λvs U=>∃l1 l2,vs=[.ref l1,.ref l2]/\(∃xs,Af K U l1 xs)/\(∃ys,Af K U l2 ys)/\R (UL K l1 l2) U
def Hy{es:List Expr}{j:Pos}{a b:Expr}{f:TA}{p:Pos}(r:Gl X "zip")(t:X.mg "zip" = none)(v:PA X [a,b] f)(w:starEach [a,b] X.env=[(false,eval a X.env),(false,eval b X.env)]:=by rfl)(n:starEach [b] X.env=[(false,eval b X.env)]:=by rfl) :
 PI X (.Tuple es k j) (.Call (.Name "zip" p) [a,b] [] L) (RU X.K f):=by
 intro pins s σ H R I h;refine Call_ (Kl I r t (u:=.type "zip") (by decide +kernel) (PyProof.Rows.callWith_type1 (AU (v L pins s σ H _ I h) λV c⟨W,U,d,x,y⟩=>?_) (by rw[w,n]) (by rw[n];rfl)));obtain⟨g,i,rfl,⟨xs,G⟩,⟨Y,K⟩,q⟩:=y;obtain⟨z,A,rfl,M,N⟩:=Kr x;obtain rfl:z=Value.ref g:=M;obtain rfl:A=Value.ref i:=N;obtain⟨ag,Z,l,aa⟩:=d.list G;obtain⟨ah,ab,J,ae⟩:=d.list K;have B:g<c.heap.objs.size:=by obtain⟨_,e,_⟩:=l.isList;exact Bh e
 have C:i<c.heap.objs.size:=by obtain⟨_,e,_⟩:=J.isList;exact Bh e
 refine call_zip_2 l.isList J.isList λD m O P Q S af E=>?_;refine wpAny_pyIter_zip (s:={c with heap:=D}) m ?_;refine⟨_,[c.heap.objs.size+4,c.heap.objs.size+2,c.heap.objs.size+3,c.heap.objs.size,c.heap.objs.size+1],_,_,U,rfl,d.kept (t':=c.toks) E,XT (zipApart_new B C),⟨m,O,⟨_,_,P⟩,Q,S⟩,λb F=>?_,q⟩
 have o:c.heap.objs.size<=b:=by
  have T:b=c.heap.objs.size+4\/b=c.heap.objs.size+2\/b=c.heap.objs.size+3\/b=c.heap.objs.size\/b=c.heap.objs.size+1:=(by simpa using F);rcases T with rfl|rfl|rfl|rfl|rfl;exact Nat.le_add_right _ _;exact Nat.le_add_right _ _;exact Nat.le_add_right _ _;exact AG _;exact Nat.le_add_right _ _
 exact d.fpOk o (d.hok.fresh o)
def F9 (env:Env):List (Str×NameKind)->List (Str×Addr)->List (Str×Addr)
 |[],acc=>acc
 |(n,k)::r,acc=>if k==.free then F9 env r ((n,(env.cells.lookup n).getD 0)::acc) else F9 env r acc
theorem RV{env:Env}(f:Str×NameKind->List (Str×Addr)->Sem (ForInStep (List (Str×Addr))))
 (d:∀n k g,f (n,k) g=if(k==NameKind.free)=true then(cellOf env n >>= λa=>pure (.yield ((n,a)::g))) else pure (.yield g)) :
 ∀(names:List (Str×NameKind))(acc:List (Str×Addr)),(∀x∈names,x.2=.free->∃c,env.cells.lookup x.1=some c)->forIn names acc f=pure (F9 env names acc)
 |[],acc,_=>by rw[List.forIn_nil];rfl
 |(n,k)::r,acc,h=>by
   rw[List.forIn_cons,d];unfold F9;by_cases b:(k==NameKind.free)=true;rw[Au b,Au b];obtain⟨c,j⟩:=h (n,k) BF (beq_iff_eq.mp b);have e:cellOf env n=pure c:=by unfold cellOf;rw[j]
   rw[e,j];exact RV f d r _ λx i=>h x (Cw _ i);rw[At b,At b];exact RV f d r _ λx i=>h x (Cw _ i)
variable {scope:Scope}{env:Env}
def UM(h:∀x∈scope.names,x.2=.free->∃c,env.cells.lookup x.1=some c):closureFor scope env=pure (F9 env scope.names []):=by
 simp only[closureFor];rw[RV (env:=env) _ (λn k b=>by cases a:k==NameKind.free<;>simp[a]) scope.names [] h];rfl
theorem Pe{env:Env}:∀{names:List (Str×NameKind)}{acc:List (Str×Addr)}{x:Str}{c:Addr},(x,c)∈F9 env names acc->(x,c)∈acc\/((x,NameKind.free)∈names/\c=(env.cells.lookup x).getD 0)
 |[],_,_,_,h=>.inl h
 |(n,k)::r,acc,x,c,h=>by
   unfold F9 at h;by_cases a:(k==NameKind.free)=true;rw[Au a] at h;rcases Pe h with h|⟨h,e⟩;rcases BI.mp h with h|h;cases h;rw[beq_iff_eq.mp a];exact .inr ⟨BF,rfl⟩;exact .inl h;exact .inr ⟨Cw _ h,e⟩;rw[At a] at h;rcases Pe h with h|⟨h,e⟩;exact .inl h;exact .inr ⟨Cw _ h,e⟩
theorem RW{env:Env}:∀{names:List (Str×NameKind)}{acc:List (Str×Addr)}{p:Str×Addr},p∈acc->p∈F9 env names acc
 |[],_,_,h=>h
 |(n,k)::r,acc,p,h=>by
   unfold F9;by_cases a:(k==NameKind.free)=true;rw[Au a];exact RW (Cw _ h);rw[At a];exact RW h
theorem NM{env:Env}:∀{names:List (Str×NameKind)}{acc:List (Str×Addr)}{x:Str},(x,NameKind.free)∈names->∃c,(x,c)∈F9 env names acc
 |(n,k)::r,acc,x,h=>by
   unfold F9;rcases BI.mp h with h|h;cases h;rw[Au (show(NameKind.free==NameKind.free)=true by rfl)];exact⟨_,RW BF⟩;by_cases a:(k==NameKind.free)=true;rw[Au a];exact NM h;rw[At a];exact NM h
theorem MT{α:Type}:∀{l:List (Str×α)}{x:Str}{c:α},(x,c)∈l->∃a,l.lookup x=some a
 |(n,d)::r,x,c,h=>by
   rw[Ir]
   cases b:x==n with
   |true=>exact⟨d,rfl⟩
   |false =>
     rcases BI.mp h with h|h;cases h;simp at b;exact MT h
theorem Kt:∀(names:List (Str×NameKind))(n:Nat)(acc:List (Str×Addr)),cellsFrom n names acc=cellsFrom n names []++acc
 |[],_,_=>rfl
 |(x,k)::r,n,acc=>by
   unfold cellsFrom;by_cases a:(k==NameKind.cell)=true;rw[Au a,Au a,Kt r (n+1) ((x,n)::acc),Kt r (n+1) [(x,n)],FJ];rfl;rw[At a,At a];exact Kt r n acc
theorem Pf:∀{names:List (Str×NameKind)}{n:Nat}{acc:List (Str×Addr)}{x:Str}{c:Addr},(x,c)∈cellsFrom n names acc->(x,c)∈acc\/(x,NameKind.cell)∈names
 |[],_,_,_,_,h=>.inl h
 |(y,k)::r,n,acc,x,c,h=>by
   unfold cellsFrom at h;by_cases a:(k==NameKind.cell)=true;rw[Au a] at h;rcases Pf h with h|h;rcases BI.mp h with h|h;cases h;rw[beq_iff_eq.mp a];exact .inr BF;exact .inl h;exact .inr (Cw _ h);rw[At a] at h;rcases Pf h with h|h;exact .inl h;exact .inr (Cw _ h)
section
variable {M:Model} {A:Around} {E:I'} {s:Shared}
def XU{a:List (Str×Addr)}{Q:Env->Shared->Prop}
 (b:Q (newEnv scope s.heap.objs.size env.globals (cellsFrom (s.heap.objs.size+1) scope.names a) env.qual none .none (some env) builtinsNs) {s with heap:=pushCells (s.heap.push {cls:=.type "dict",data:=.dict #[]}) scope.names}) :
 wpAny M A (newFunctionEnv scope env.globals a [] env.qual none .none (some env)) Q E s:=by
 simp only[newFunctionEnv,Option.isSome_some,if_true];refine Ad (wpAny_alloc ?_);refine Ad (wpAny_layCells _ (λname d e=>by cases c:d==NameKind.cell<;>simp[c]) _ _ _ _ ?_)
 rw[show({s with heap:=s.heap.push {cls:=.type "dict",data:=.dict #[]}}:Shared).heap.objs.size=s.heap.objs.size+1 from Heap.size_push ..]
 exact Ad (Az (Az b))
end
abbrev E3 (X:Cx) (N:List Str) (scope:Scope) (cs:List (Str×Addr)) (C:Addr) (s:Shared) (H:Hp) (ex:List Addr):Cx where
 prog:=X.prog
 w:=X.w
 K:=X.K
 mg:=X.mg
 base:=X.base
 A:=X.A
 N:=N
 s₀:=s
 H₀:=H
 env:=compEnvC scope cs C X.env
 outer:=X.stack
 stack:=X.stack
 ex:=ex
 fn:=λx=>decide (scope.names.lookup x≠some .free)
 calm:=X.calm
 pn:=[]
 xe:=λζ ζ=>False
structure Am (psc:Scope) (PN:List Str) (scope:Scope) (N:List Str) (k:Nat) (caps:List Nat):Prop where
 kind:scope.kind=.function
 loc:∀x∈scope.names,x.2=.local->scope.names.lookup x.1=some .local
 ndn:(scope.names.map (·.1)).Nodup
 nd:N.Nodup
 len:N.length=k+caps.length
 free:∀x∈scope.names,x.2=.free->psc.names.lookup x.1=some .cell\/psc.names.lookup x.1=some .free
 cap:∀p∈(N.drop k).zip caps,PN[p.2]?=some p.1/\scope.names.lookup p.1=some .free
def FP (k:Nat) (caps:List Nat) (σ:St):St:=List.replicate k none++caps.map λj=>(σ[j]?).getD none
variable {caps:List Nat}{i:Nat}{v:V}
def UN(h:(FP k caps σ)[i]?=some (some v)):∃j,k<=i/\caps[i-k]?=some j/\σ[j]?=some (some v):=by
 unfold FP at h;by_cases b:i<k;rw[EQ (by simpa using b),List.getElem?_replicate,Au b] at h;cases h;rw[E8 (by simpa using b),List.length_replicate,AM] at h
 cases e:caps[i-k]? with
 |none=>rw[e] at h;cases h
 |some j =>
   rw[e] at h;have a:(σ[j]?).getD none=some v:=BS h;refine⟨j,by lia,rfl,?_⟩
   cases q:σ[j]? with
   |none=>rw[q] at a;cases a
   |some o=>rw[q] at a;exact Bq some a
def UO{a:NameKind}(h:(relabel scope env).names.lookup x=some a):∃k,(x,k)∈scope.names/\(a=k\/(k=.free/\a=.cell)):=by
 have e:=Gd h;have f:(x,a)∈scope.names.map (λ(n,k)=>if(k==NameKind.free && env.scope.kind==.function && env.kindOf n==some .cell) then(n,NameKind.cell) else(n,k)):=e;obtain⟨⟨n,k⟩,d,b⟩:=AF.mp f;dsimp only at b
 by_cases c:(k==NameKind.free && env.scope.kind==.function && env.kindOf n==some .cell)=true;rw[Au c] at b;cases b;simp only[Bool.and_eq_true,beq_iff_eq] at c;exact⟨k,d,.inr ⟨c.1.1,rfl⟩⟩;rw[At c] at b;cases b;exact⟨a,d,.inl rfl⟩
theorem UP{f:Str×NameKind->Str×NameKind}(b:∀n k,f (n,k)=(n,k)\/(k=.free/\f (n,k)=(n,NameKind.cell))):∀{names:List (Str×NameKind)}{x:Str},names.lookup x=some .free->(names.map f).lookup x=some .cell\/(names.map f).lookup x=some .free
 |[],_,h=>by simp at h
 |(n,k)::r,x,h=>by
   have d:=@UP f b r x;rw[Ir] at h;rw[EX]
   cases a:x==n with
   |true =>
     rw[a] at h;cases h;rcases b n .free with e|⟨_,e⟩;right;rw[e,Ir,a];left;rw[e,Ir,a]
   |false =>
     rw[a] at h;have c:=d h;rcases b n k with e|⟨_,e⟩;rw[e,Ir,a];exact c;rw[e,Ir,a];exact c
def RX(h:scope.names.lookup x=some .free):(relabel scope env).names.lookup x=some .cell\/(relabel scope env).names.lookup x=some .free:=by
 refine UP (λn k=>?_) h;by_cases a:(k==NameKind.free && env.scope.kind==.function && env.kindOf n==some .cell)=true;right;refine⟨?_,Au a⟩;simp only[Bool.and_eq_true,beq_iff_eq] at a;exact a.1.1;left;exact At a
def Pg{names:List (Str×NameKind)}(h:(names.map (·.1)).Nodup){k d:NameKind}(a:(x,k)∈names)(b:(x,d)∈names):k=d:=by
 induction names with
 |nil=>simp at a
 |cons p r g =>
   rw[EX] at h;obtain⟨e,i⟩:=F4.mp h;rcases BI.mp a with f|a<;>rcases BI.mp b with c|b;rw[<-f] at c;exact(Prod.mk.inj c).2.symm;exact absurd (AF.mpr ⟨_,b,by rw[<-f]⟩) e;exact absurd (AF.mpr ⟨_,a,by rw[<-c]⟩) e;exact g i a b
variable {h1:Heap}{C:Addr}
def Un.but{fs ex:List Addr}{h f:Heap}(u:Un fs ex H H' h h1)(c:Heap.SameBut C h1 f)(g:h.objs.size<=C):Un fs ex H H' h f:=by
 have ne:∀b o,h.get? b=some o->b≠C:=λb o e=>CN (FC (Bh e) g);refine⟨λb o e n d a=>(c.2 b (ne b o e)).trans (u.keep b o e n d a),λb o e n d a=>?_,u.free,λb o e a=>?_,u.tups,u.frzs,u.tbls⟩;obtain⟨i,q⟩:=u.slot b o e n d a;exact⟨i,(c.2 b (ne b o e)).trans q⟩;obtain⟨j,q⟩:=u.there b o e a;exact⟨j,(c.2 b (ne b o e)).trans q⟩
def Dc.but{d:Heap}(x:Dc P w H h1)(g:Heap.SameBut C h1 d)(f:H C=none):Dc P w H d:=λb u e=>by
 refine(x b u e).stay (λc v a q=>(g.2 c ?_).trans q) (λζ q=>q) λζ ζ q=>q;rintro rfl;rcases a with rfl|a;rw[f] at e;cases e;rw[f] at a;cases a
section
variable {X:Cx} {scope:Scope} {N:List Str} {k:Nat} {caps:List Nat} {psc:Scope} {PN:List Str} {pins:B'} {σ:St} {H:Hp} {s:Shared}
abbrev DR (X:Cx) (scope:Scope) (C:Addr):List (Str×Addr):=cellsFrom (C+1) scope.names (F9 X.env scope.names [])
def UQ(I:Inv X pins σ H s)(S:Am X.env.scope X.N scope N k caps){c:Addr}(h:(x,c)∈DR X scope C) :
 (x,c)∈cellsFrom (C+1) scope.names []\/X.env.cells.lookup x=some c:=by
 unfold DR at h;rw[Kt] at h;rcases BR.mp h with h|h;exact .inl h;rcases Pe h with h|⟨h,e⟩;simp at h;obtain⟨b,a⟩:=I.ok.has x (S.free _ h rfl);rw[a] at e;exact .inr (by rw[a];exact Bq some e.symm)
def XV{t:List Addr}(I:Inv X pins σ H s)(S:Am X.env.scope X.N scope N k caps)(B:∀b∈t,Dl X pins H b)(ae:∀b∈t,∃o,s.heap.get? b=some o){D C:Nat}{t':Nat}(g:D=s.heap.objs.size)(J:C=D+1)
 (E:h1=pushCells ((s.heap.push {cls:=.type "list",data:=.seq #[]}).push {cls:=.type "dict",data:=.dict #[]}) scope.names) :
 Inv (E3 X N scope (DR X scope C) C s H t) [] (FP k caps σ) (upd H D (.lst [])) {s with heap:=h1,toks:=t'}:=by
 have Z:(s.heap.push {cls:=.type "list",data:=.seq #[]}).objs.size=C:=(by rw[Heap.size_push,J,g]);have aa:((s.heap.push {cls:=.type "list",data:=.seq #[]}).push {cls:=.type "dict",data:=.dict #[]}).objs.size=C+1:=(by rw[Heap.size_push,Z])
 have G:∀b o,s.heap.get? b=some o->h1.get? b=some o:=λb o e=>by
  rw[E];exact pushCells_keeps _ _ b o (Bo _ (Bo _ e))
 have ak:h1.get? D=some {cls:=.type "list",data:=.seq #[]}:=by
  rw[E,g];exact pushCells_keeps _ _ _ _ (Bo _ (Cp _ rfl))
 have af:h1.Ns C (λζ=>none):=by
  rw[E,<-Z];exact(Heap.Ns.new _ (.type "dict")).keeps (pushCells_keeps _ _)
 have ok:=cellsFrom_ok scope.names ((s.heap.push {cls:=.type "list",data:=.seq #[]}).push {cls:=.type "dict",data:=.dict #[]}) (C+1) [] ⟨λζ ζ d=>(nomatch d),List.Pairwise.nil⟩ (by rw[aa];exact AG _);rw[aa] at ok;have own:∀x c,(x,c)∈cellsFrom (C+1) scope.names []->h1.IsCell c none/\C+1<=c:=λx c h=>by rw[E];exact ok.empty x c h
 have P:∀x c,X.env.cells.lookup x=some c->c<D:=λx c e=>by
  obtain⟨v,q⟩:=I.cell x c e;rw[g];exact q.lt
 have Y:∀b∈t,b<D:=λb f=>by
  obtain⟨o,e⟩:=ae b f;rw[g];exact Bh e
 have ao:H C=none:=I.hok.fresh (by rw[J,g];exact Nat.le_succ _);have split:=λx c(h:(DR X scope C).lookup x=some c)=>UQ (C:=C) I S (Gd h);have T:∀b,b≠D->H b=none->(upd H D (.lst [])) b=none:=λb f e=>by rw[AH f];exact e
 have al:∀x,scope.names.lookup x=some .free->∃c,X.env.cells.lookup x=some c/\(DR X scope C).lookup x=some c:=λx w=>by
  have d:=Gd w;obtain⟨F,K⟩:=NM (env:=X.env) (acc:=[]) d;obtain⟨c,U⟩:=MT (l:=DR X scope C) (x:=x) (c:=F) (by unfold DR;rw[Kt];exact D6 _ K);refine⟨c,?_,U⟩;rcases split x c U with q|q;rcases Pf q with z|z;simp at z;have:=Pg S.ndn d z;cases this;exact q
 have ag:(E3 X N scope (DR X scope C) C s H t).Ok:=by
  refine⟨I.ok.mod,S.kind,I.ok.glob,I.ok.blt,?above,?inj,?has,?cab,I.ok.hd,I.ok.frames,.inl rfl,?exf,λb o e=>I.bs b o e,Fa I.ok.bsz I.sz,?noex,?exfs,I.stack,I.stkFree⟩
  case above =>
   show s.heap.objs.size<=C;rw[J,g];exact Nat.le_succ _
  case inj =>
   intro x y c L M;rcases split x c L with n|n<;>rcases split y c M with r|r;exact name_of_addr ok.apart n r;have h1:@LE.le Nat _ (C+1) c:=(own x c n).2;have a:@LT.lt Nat _ c D:=P y c r;exfalso;lia;have h1:@LE.le Nat _ (C+1) c:=(own y c r).2;have a:@LT.lt Nat _ c D:=P x c n;exfalso;lia;exact I.ok.inj x y c n r
  case has =>
   intro x w;have Q:(relabel scope X.env).names.lookup x=some .cell\/(relabel scope X.env).names.lookup x=some .free:=w
   have p:∃m,(x,m)∈scope.names/\(m=.cell\/m=.free):=by
    rcases Q with q|q;obtain⟨m,h1,a⟩:=UO q;rcases a with a|⟨a,_⟩;exact⟨m,h1,.inl a.symm⟩;exact⟨m,h1,.inr a⟩;obtain⟨m,h1,a⟩:=UO q;rcases a with a|⟨_,a⟩;exact⟨m,h1,.inr a.symm⟩;cases a
   obtain⟨m,d,p|p⟩:=p;subst p
   have q:=PySem.W.cellsFrom_some scope.names (C+1) (F9 X.env scope.names []) (x:=x) (.inl (by
    obtain⟨k2,A⟩:=MT d
    rw[A,Pg S.ndn (Gd A) d]))
   exact Option.isSome_iff_exists.mp q;subst p;obtain⟨F,K⟩:=NM (env:=X.env) (acc:=[]) d;exact MT (c:=F) (by show(x,F)∈DR X scope C;unfold DR;rw[Kt];exact D6 _ K)
  case cab =>
   intro x c w e;have Q:decide (scope.names.lookup x≠some .free)=true:=w;have ah:=Be Q;show s.heap.objs.size<=c;have e':(DR X scope C).lookup x=some c:=e;have d:=Gd e';unfold DR at d;rw[Kt] at d;rcases BR.mp d with z|z;have h1:@LE.le Nat _ (C+1) c:=(own x c z).2;have a:@LE.le Nat _ s.heap.objs.size c:=(by lia);exact a;rcases Pe z with z|⟨z,_⟩;simp at z;obtain⟨k2,A⟩:=MT z;exact absurd (by rw[A,Pg S.ndn (Gd A) z]) ah
  case exf =>
   intro b f;refine⟨?_,λx c e z=>?_⟩;have h1:@LT.lt Nat _ b D:=Y b f;exact CN (show @LT.lt Nat _ b C by lia);rcases split x c e with q|q;have h1:@LE.le Nat _ (C+1) c:=(own x c q).2;have a:@LT.lt Nat _ b D:=Y b f;have V:@Eq Nat c b:=z;lia;exact(B b f).2.2.2.2.1 x c q z
  case noex =>
   intro b o e f;rcases(B b f).2.2.2.1 with q|q;exact I.ok.noex b o e q;exact absurd (FC (Bh e) (Fa I.ok.bsz q)) (G6 _)
  case exfs =>
   intro b f z;have V:b∈Fb X.stack:=z;rcases BI.mp (I.stkSub b V) with q|q;exact(B b f).2.1 q;exact(B b f).2.2.1 q
 refine⟨ag,rfl,I.bare,Un.laid G (by rw[g];exact AG _) (I.hok.fresh (by rw[g];exact AG _)),⟨_,af,?loc⟩,?cell,T _ (show @Ne Nat C D by lia) ao,?freeC,λaq O=>absurd O (by simp),?hok,?len⟩
 case loc =>
  intro i x v L M e3;obtain⟨j,hi,hj,hv⟩:=UN M
  have hz:(x,j)∈(N.drop k).zip caps:=by
   refine List.mem_iff_getElem?.mpr ⟨i-k,?_⟩;rw[List.getElem?_zip_eq_some];refine⟨?_,hj⟩;rw[List.getElem?_drop,show k+(i-k)=i by lia];exact L
  obtain⟨O,R⟩:=S.cap (x,j) hz;have p:=S.free (x,.free) (Gd R) rfl;obtain⟨ar,hn,hl⟩:=I.loc;obtain⟨u,ab,l⟩:=hl j x v O hv (by rcases p with q|q;exact .inr (.inl q);exact .inr (.inr q));refine⟨u,ab,?_⟩;obtain⟨c,ai,aj⟩:=al x R
  have an:s.heap.IsCell c (some u):=by
   rcases l with⟨q,_⟩|⟨_,c',n,r⟩;have W:X.env.scope.names.lookup x=some .local:=q;rcases p with z|z;rw[W] at z;cases z;rw[W] at z;cases z;rw[ai] at n;cases n;exact r
  exact .inr ⟨RX R,c,aj,an.keeps G⟩
 case cell =>
  intro x c e;rcases split x c e with q|q;exact⟨_,(own x c q).1⟩;obtain⟨v,z⟩:=I.cell x c q;exact⟨v,z.keeps G⟩
 case freeC =>
  intro x c e;rcases split x c e with q|q;have h1:@LE.le Nat _ (C+1) c:=(own x c q).2;have a:@LE.le Nat _ s.heap.objs.size c:=(by lia);exact T c (show @Ne Nat c D by lia) (I.hok.fresh a);exact T c (CN (P x c q)) (I.freeC x c q)
 case hok =>
  exact I.hok.laid G (by rw[g];exact AG _) ⟨DP _,[],0,.nil,ak⟩
 case len =>
  show(FP k caps σ).length=N.length;unfold FP;rw[AO,List.length_replicate,Ak,S.len]
def XW{a:List Addr}(I:Inv X pins σ H s)(S:Am X.env.scope X.N scope N k caps){p:B'}{σ':St}{Z:Shared}(P:∀x c,X.env.cells.lookup x=some c->c∉a)(T:s.heap.objs.size<=C)
 (J:Inv (E3 X N scope (DR X scope C) C s H a) p σ' H' Z):Inv (E3 X N scope (DR X scope C) C s H a) p (FP k caps σ) H' Z:=by
 obtain⟨m,t,_⟩:=id J.loc;refine⟨J.ok,J.os,J.bare,J.base,⟨m,t,λi x v w y U=>?_⟩,J.cell,J.free,J.freeC,J.pin,J.hok,?_⟩;obtain⟨j,V,A,B⟩:=UN y
 have D:(x,j)∈(N.drop k).zip caps:=by
  refine List.mem_iff_getElem?.mpr ⟨i-k,?_⟩;rw[List.getElem?_zip_eq_some];refine⟨?_,A⟩;rw[List.getElem?_drop,show k+(i-k)=i by lia];exact w
 obtain⟨E,b⟩:=S.cap (x,j) D;have e:=S.free (x,.free) (Gd b) rfl;obtain⟨W,aa,F⟩:=I.loc;obtain⟨u,r,l⟩:=F j x v E B (by rcases e with q|q;exact .inr (.inl q);exact .inr (.inr q));refine⟨u,r,?_⟩
 have R:∃c,X.env.cells.lookup x=some c/\s.heap.IsCell c (some u):=by
  rcases l with⟨q,_⟩|⟨_,f,G,K⟩;have g:X.env.scope.names.lookup x=some .local:=q;rcases e with z|z;rw[g] at z;cases z;rw[g] at z;cases z;exact⟨f,G,K⟩
 obtain⟨c,d,o,L,hd⟩:=R
 have Q:(DR X scope C).lookup x=some c:=by
  have h:=Gd b;obtain⟨M,O⟩:=NM (env:=X.env) (acc:=[]) h;obtain⟨f,n⟩:=MT (l:=DR X scope C) (x:=x) (c:=M) (by unfold DR;rw[Kt];exact D6 _ O);rcases UQ (C:=C) I S (Gd n) with q|q;rcases Pf q with z|z;simp at z;have:=Pg S.ndn h z;cases this;rw[d] at q;cases q;exact n
 obtain⟨Y,q⟩:=J.base.any L (I.freeC x c d) (P x c d);exact .inr ⟨RX b,c,Q,_,q,hd⟩;show(FP k caps σ).length=N.length;unfold FP;rw[AO,List.length_replicate,Ak,S.len]
end
def PF (X:Cx) (f:List Expr) (t:TT):Prop:=
 ∀(pins:B')(s:Shared)(σ:St)(H:Hp)(Q:Bool->Hp->Prop),Inv X pins σ H s->t σ H Q ->
  wpAny (model X.prog X.w) X.A (forIn f true λc r=>if r=true then do let ok <-isTrue c X.env (eval c X.env);pure (ForInStep.yield ok) else pure (ForInStep.yield r)) (TP X pins σ Q) X.xe s
def Jj:TT:=λζ H Q=>Q true H
def GB:PF X [] Jj:=λζ ζ ζ H ζ I h=>wpAny_tests_nil ⟨H,I,h⟩
def NN{c:Expr}{t:TT}(h:PT X c t):PF X [c] t:=λpins s σ H Q I a=>wpAny_tests_one (h pins s σ H Q I a)
variable {l j:Expr}{f:List Expr}
def XX{prog:Program}{R:Result->Shared->Prop}{target:Expr}{d acc:Value}(I:Nat->Shared->Prop)
 (turn:∀n s,I n s->wpAny (model prog w) A (pyNext d) (λr b=>match r with
  |none=>R (.ok .next) b
  |some v=>wpAny (model prog w) A (letOwnedTupleGo target d v) (λζ b=>wpAny (model prog w) A (assign target env v) (λζ i =>
   wpAny (model prog w) A (forIn f true λc r=>if r=true then do let ok <-isTrue c env (eval c env);pure (ForInStep.yield ok) else pure (ForInStep.yield r)) (λok g =>
    if ok=true then wpAny (model prog w) A (eval l env) (λx k =>
     wpAny (model prog w) A (call (.builtin "list.append") [acc,x]) (λζ o=>∃m,m<n/\I m o) (λζ ζ=>False) k) (λζ ζ=>False) g
    else ∃m,m<n/\I m g) (λζ ζ=>False) i) (λζ ζ=>False) b) (λζ ζ=>False) b) (λζ ζ=>False) s)
 (n:Nat) (h:I n s) :
 codeAny (model prog w) A (.compLoop (.ListComp l [⟨target,j,f,0⟩] scope L) 0 d acc env) R s:=by
 refine codeAny_loop rfl I (λn s q=>?_) n h
 show wpAny _ A ((compTurn (.ListComp l [⟨target,j,f,0⟩] scope L) 0 d acc env).onRaise (λx=>do noteFrame x env;theTreesLotGoes x)) _ _ s
 refine wpAny_noted ?_;rw[compTurn_list];refine Ad (wpAny_standAt (Ad (FL (turn n s q) (λr b e=>?_) λζ ζ a=>a.elim)))
 cases r with
 |none=>exact Az e
 |some v =>
   refine Ad (FL e (λζ b e=>?_) λζ ζ a=>a.elim);refine Ad (FL e (λζ i t=>Ad (FL t (λok g p=>?_) λζ ζ a=>a.elim)) λζ ζ a=>a.elim)
   cases ok with
   |false=>exact Az ⟨rfl,p⟩
   |true =>
     exact Ad (Ad (FL p (λx k u=>Ad (FL u (λζ o y=>Az (Az ⟨rfl,y⟩)) λζ ζ a=>a.elim)) λζ ζ a=>a.elim))
def Ku (J:It) (k:Nat) (caps:List Nat) (g:TG) (tc:TT) (te:TE) (σ:St) (U:Hp) (Q:Addr->Hp->Prop):Prop:=∀D,U D=none->∃W:Nat->Nat->List V->Hp->Prop,(∃m,W 0 m [] (upd U D (.lst [])))/\∀i m ys Y,W i m ys Y ->
 (J.stop i Y/\Q D Y)\/(J.go i Y/\∀x H3,J.yld i Y x H3->g x (FP k caps σ) H3 λσ4 H4=>tc σ4 H4 λb H5 =>
  if b=true then te σ4 H5 λy H6=>H6 D=some (.lst ys)/\ys.length<sizeLine/\∃m',m'<m/\W (i+1) m' (ys++[y]) (upd H6 D (.lst (ys++[y]))) else ∃m',m'<m/\W (i+1) m' ys H5)
def Hz (k:Nat) (caps:List Nat) (wi:TI) (g:TG) (tc:TT) (te:TE):TE:=λσ H Q=>wi σ H λJ U=>Ku J k caps g tc te σ U λD Y=>Q (.ref D) Y
variable {g:TG}{tc:TT}{te:TE}
def NO{J:It}{Q:Addr->Hp->Prop}(n:Nat)(Pv:Addr->Nat->List V->Hp->Prop)(j:∀D,U D=none->Pv D 0 [] (upd U D (.lst [])))
 (go:∀D i ys Y,Pv D i ys Y->i<n->J.go i Y) (stop:∀D ys Y,Pv D n ys Y->J.stop n Y)
 (l:∀D i ys Y x c(R:VK)(h:Hp->Prop),U D=none->i<n->Pv D i ys Y->J.yld i Y x c->(∀y d,d D=some (.lst ys)->ys.length<sizeLine->Pv D (i+1) (ys++[y]) (upd d D (.lst (ys++[y])))->R y d)->(∀a,Pv D (i+1) ys a->h a)->g x (FP k caps σ) c λσ4 o=>tc σ4 o λb a=>if b=true then te σ4 a R else h a)
 (hd:∀D ys Y,U D=none->Pv D n ys Y->Q D Y):Ku J k caps g tc te σ U Q:=by
 intro D f;refine⟨λi m ys Y=>m=n-i/\i<=n/\Pv D i ys Y,⟨n,rfl,DP _,j D f⟩,?_⟩;rintro i m ys Y ⟨rfl,u,p⟩;by_cases e:i<n;exact .inr ⟨go D i ys Y p e,λx c y=>l D i ys Y x c _ _ f e p y (λv d q r s=>⟨q,r,n-(i+1),by lia,rfl,e,s⟩) λa t=>⟨n-(i+1),by lia,rfl,e,t⟩⟩
 . obtain rfl:i=n:=by lia
   exact .inl ⟨stop D ys Y p,hd D ys Y f p⟩
variable {tg:Expr}{N:List Str}
def UR{E:I'}{Q:VK}
 {R:Addr} {d:List Addr} {G:Nat->Heap->Prop} {J:It} {O:Value->Addr->Result->Shared->Prop} (hc:X.calm=true) (S:Am X.env.scope X.N scope N k caps) (I:Inv X pins σ H s)
 (T:FN X.prog X.w X.K tg J d R G) (st:G 0 s.heap) (p:∀b∈d,Dl X pins H b)
 (hg:∀K C s H ex,PG (E3 X N scope K C s H ex) tg g) (ht:∀K C s H ex,PF (E3 X N scope K C s H ex) f tc) (he:∀K C s H ex,PE (E3 X N scope K C s H ex) l te)
 (q:Ku J k caps g tc te σ H λD ak=>Q (.ref D) ak)
 (ao:∀D C H' Z m,C≠X.env.locals->(∀x c,X.env.cells.lookup x=some c->c≠C)->Z.heap.Ns C m->(∀h',Heap.SameBut C Z.heap h'->Inv X pins σ H' {Z with heap:=h'})->H' C=none->s.heap.objs.size<=C->Q (.ref D) H'->O (.ref D) C (.ok .next) Z) :
 wpAny (model X.prog X.w) X.A (newList []) (λacc s₃=>wpAny (model X.prog X.w) X.A (newFunctionEnv scope X.env.globals (F9 X.env scope.names []) [] X.env.qual none .none (some X.env)) (λai s₄ =>
  codeAny (model X.prog X.w) X.A (.compStart (.ListComp l [⟨tg,j,f,0⟩] scope L) 0 (.ref R) acc {ai with scope:=relabel scope X.env}) (O acc ai.locals) s₄) E s₃) E s:=by
 refine wpAny_newObj_type (XU ?_);generalize h:s.heap.objs.size=D;have a1:(s.heap.push {cls:=.type "list",dict:=none,data:=.seq ([]:List Value).toArray}).objs.size=D+1:=(by rw[Heap.size_push,h]);dsimp only;rw[a1];have aa:∀b∈d,∃o,s.heap.get? b=some o:=λb a=>let ⟨o,e,_⟩:=T.obj 0 _ st b a;⟨o,e⟩;have aq:H D=none:=I.hok.fresh (by rw[h];exact AG _);have J0:=XV (t':=s.toks) I S p aa (D:=D) (C:=D+1) h.symm rfl rfl;have ar:∀x c,X.env.cells.lookup x=some c->c∉d:=λx c e a=>(p c a).2.2.2.2.1 x c e rfl
 have ab:∀{F:B'}{H':Hp},(∀b∈d,H' b=none)->F=[]->∀b∈d,Dl (E3 X N scope (DR X scope (D+1)) (D+1) s H d) F H' b:=λ{F H'}U Y b a=>by
  obtain⟨o,e⟩:=aa b a;have au:@LT.lt Nat _ b D:=by rw[<-h];exact Bh e
  subst Y;refine⟨U b a,?_,λz=>?_,.inl a,λx c e=>(J0.ok.exf b a).2 x c e,λa2 Y=>absurd Y (by simp)⟩;show @Ne Nat b (D+1);lia;have z':b∈Fb X.stack:=z;rcases BI.mp (I.stkSub b z') with w|w;exact(p b a).2.1 w;exact(p b a).2.2.1 w
 obtain⟨W,⟨m0,w0⟩,turn⟩:=q D aq;have af:G 0 (pushCells ((s.heap.push {cls:=.type "list",data:=.seq #[]}).push {cls:=.type "dict",data:=.dict #[]}) scope.names):=T.keep 0 _ _ st λb a o e=>pushCells_keeps _ _ b o (Bo _ (Bo _ e))
 have av:∀b∈d,(upd H D (.lst [])) b=none:=λb a=>by
  obtain⟨o,e⟩:=aa b a;have au:@LT.lt Nat _ b D:=by rw[<-h];exact Bh e
  rw[AH (show @Ne Nat b D by lia)];exact(p b a).1
 have aw:∀{H':Hp}{Z:Shared}{σ':St}{F:B'},Inv (E3 X N scope (DR X scope (D+1)) (D+1) s H d) F σ' H' Z->Q (.ref D) H'->O (.ref D) (D+1) (.ok .next) Z:=λ{H' Z σ' F}J q=>by
  obtain⟨m,U,_⟩:=id J.loc;refine ao D (D+1) H' Z m (λz=>?_) (λx c e z=>?_) U (λh' hs=>?_) J.free (by rw[h];exact Nat.le_succ _) q;have h1:@LT.lt Nat _ X.env.locals D:=by rw[<-h];exact I.lt
  have z':@Eq Nat (D+1) X.env.locals:=z;lia;obtain⟨v,y⟩:=I.cell x c e;have h1:@LT.lt Nat _ c D:=by rw[<-h];exact y.lt
  have z':@Eq Nat c (D+1):=z;lia;refine I.call' (ch:=d) J.os (J.base.but hs (by rw[h];exact Nat.le_succ _)) (J.hok.but hs J.free) J.bare λb a=>?_;exact⟨(p b a).2.2.2.1,(p b a).2.1,(p b a).2.2.2.2.1,(p b a).2.2.2.2.2⟩
 have aj:codeAny (model X.prog X.w) X.A (.compLoop (.ListComp l [⟨tg,j,f,0⟩] scope L) 0 (.ref R) (.ref D) (compEnvC scope (DR X scope (D+1)) (D+1) X.env)) (O (.ref D) (D+1))
  {s with heap:=pushCells ((s.heap.push {cls:=.type "list",data:=.seq #[]}).push {cls:=.type "dict",data:=.dict #[]}) scope.names}:=by
  refine XX (λn Z=>∃i r H',Inv (E3 X N scope (DR X scope (D+1)) (D+1) s H d) [] (FP k caps σ) H' Z/\G i Z.heap/\(∀b∈d,H' b=none)/\W i n r H') ?_ m0 ⟨0,[],_,J0,af,av,w0⟩;rintro n s3 ⟨i,r,H3,I3,ag,ah,w3⟩;rcases turn i n r H3 w3 with⟨stop,qn⟩|⟨go,step⟩
  . refine AU (T.done (E3 X N scope (DR X scope (D+1)) (D+1) s H d) rfl rfl rfl hc i [] s3 _ H3 _ I3 (ab ah rfl) ag stop) λal s4⟨hr,I4⟩=>?_
    subst hr;exact aw I4 qn
  refine AU (T.item (E3 X N scope (DR X scope (D+1)) (D+1) s H d) rfl rfl rfl hc i [] s3 _ H3 _ I3 (ab ah rfl) ag go) λal s4⟨an,hr,h4⟩=>?_;subst hr;refine AU h4 λ_ s5⟨x,H5,I5,r5,y5,ae,ax⟩=>?_;have ay:=I5.pinned (ab ax rfl) (T.obj _ _ ae)
  have again:∀{σ7:St}{u:Hp}{A:Shared}{t:Nat}{zs:List V},Inv (E3 X N scope (DR X scope (D+1)) (D+1) s H d) ([]++Nr d s5.heap) σ7 u A->t<n->W (i+1) t zs u ->
   ∃m,m<n/\∃i r H',Inv (E3 X N scope (DR X scope (D+1)) (D+1) s H d) [] (FP k caps σ) H' A/\G i A.heap/\(∀b∈d,H' b=none)/\W i m r H':=λ{σ7 u A t zs}B M w7=>by
   refine⟨t,M,i+1,zs,u,XW I S ar (by rw[h];exact Nat.le_succ _) B.unpinned,T.keep _ _ _ ae λb a o e=>(B.pin (b,o) (D6 _ (D6 _ (O7 a e)))).1,λb a=>?_,w7⟩;obtain⟨o,e,a3⟩:=T.obj _ _ ae b a;exact(B.pin (b,o) (D6 _ (D6 _ (O7 a e)))).2.1
  refine AU (hg _ _ _ _ _ _ s5 _ H5 x an _ ay r5 (step x H5 y5)) λ_ s6⟨σ6,H6,I6,q6⟩=>?_;refine AU (ht _ _ _ _ _ _ s6 σ6 H6 _ I6 q6) λb A⟨u,B,P⟩=>?_
  cases b with
  |false =>
    rw[At Df] at P ⊢;obtain⟨t,M,w7⟩:=P;exact again B M w7
  |true =>
    rw[Au rfl] at P ⊢;refine AU (he _ _ _ _ _ _ A σ6 u _ B P) λy s8⟨yv,H8,I8,r8,az,a0,t,M,w8⟩=>?_;refine AU (UB (X:=E3 X N scope (DR X scope (D+1)) (D+1) s H d) _ s8 σ6 H8 (.ref D) [yv] (.ref D) [y] (λζ H9=>W (i+1) t (r++[yv]) H9) I8 rfl (.cons r8 .nil) ⟨r,az,a0,w8⟩) λ_ s9⟨_,H9,I9,_,w9⟩=>?_;exact again I9 M w9
 exact codeAny_compStart_list aj (T.self _ 0 _ _ _ af aj)
def Ha{b:TI}(c:X.calm=true)(S:Am X.env.scope X.N scope N k caps)(d:PI X tg j b)
 (i:∀a C s H ex,PG (E3 X N scope a C s H ex) tg g) (n:∀a C s H ex,PF (E3 X N scope a C s H ex) f tc) (o:∀a C s H ex,PE (E3 X N scope a C s H ex) l te)
 (p:∀x,foldedSetIterable j X.env x=pure x:=by intro _;rfl):PE X (.ListComp l [⟨tg,j,f,0⟩] scope L) (Hz k caps b g tc te):=by
 intro pins s σ H Q I h;have E:closureFor scope X.env=pure (F9 X.env scope.names []):=UM λx r F=>I.ok.has x.1 (S.free x r F);rw[eval_ListComp];refine wpAny_comprehension_free (use:=none) rfl p E S.kind S.loc (AU (d pins s σ H _ I h) λv M h1=>AU h1 λV O t=>?_);obtain⟨P,R,U,J,Y,e,u,T,G,w,q⟩:=t;subst e;refine UR (Q:=Q) c S u T G w i n o q ?_;intro D C H' Z m _ _ y z _ _ A;exact⟨m,y,λB K=>⟨.ref D,H',z B K,rfl,A⟩⟩
def Ly{B:Pos}{t:Pos}{u:TI}(E:X.N.Nodup)(aa:X.N[i]?=some x)(n:Loc X.env.scope x)
 (F:X.calm=true) (S:Am X.env.scope X.N scope N k caps) (G:PI X tg j u)
 (J:∀c C s H ex,PG (E3 X N scope c C s H ex) tg g) (K:∀c C s H ex,PF (E3 X N scope c C s H ex) f tc) (M:∀c C s H ex,PE (E3 X N scope c C s H ex) l te)
 (ab:swapsWith (.ListComp l [⟨tg,j,f,0⟩] scope L) (some (.Name x t)) B.line X.env=pure true:=by rfl)
 (O:∀x,foldedSetIterable j X.env x=pure x:=by intro _;rfl) (ae:X.fn x=true\/X.env.scope.names.lookup x=some .local:=by first|exact .inl rfl|exact .inr rfl|assumption) :
 PS X (.Assign [.Name x t] (.ListComp l [⟨tg,j,f,0⟩] scope L) B) (IV (Hz k caps u g tc te) (F7 i)):=by
 intro pins s σ H D I h;have af:closureFor scope X.env=pure (F9 X.env scope.names []):=UM λx n ag=>I.ok.has x.1 (S.free x n ag);rw[exec_Assign_Name_used _ _ _ _ ab];refine Ad (wpAny_standAt (Ad ?_))
 show wpAny _ _ (do let _ <-comprehension (.ListComp l [⟨tg,j,f,0⟩] scope L) scope X.env _ (newList []) false (eval j X.env) (some (assign (.Name x t) X.env))) _ _ s
 refine Ad (FL (wpAny_comprehension_free (use:=some (assign (.Name x t) X.env)) (Q:=λζ Z=>SP X pins D .next Z) rfl O af S.kind S.loc
  (AU (G pins s σ H _ I h) λv s1 h1=>AU h1 λav s2 P=>?_)) (λζ Z o=>Az (Az o)) λζ ζ e=>e)
 obtain⟨it,fp,tn,aq,ar,e,r,T,ah,R,q⟩:=P;subst e;refine UR (Q:=λx U=>F7 i x σ U D.nx) F S r T ah R J K M q ?_;intro w C H' Z m y A W Y ai Gi o;have I3:=Y Z.heap (.refl ..);have aj:Inv X pins σ H' Z:=I3;refine wpAny_assign_Name (Uf aj E aa n (show RelV (V.ref w) (.ref w) from rfl) (λak I4⟨a,al,d⟩=>?_) ae)
 have an:C≠a:=by
  rcases d with d|d;rw[d];exact y;exact Ne.symm (A x a d)
 refine⟨m,W.sameBut al an,λh' ao=>?_⟩;refine⟨_,H',?_,o⟩
 exact I4.turned (t':=ak.toks) (λb au hb e=>(ao.2 b hb).trans e) ai y (.inr (Fa r.sz Gi)) A λp hp z=>by
  have:=Bh (r.pin p hp).1;rw[z] at this;exact absurd (FC this Gi) (G6 _)
def BG (P:Program) (w:World) (K:Aj) (mg:Str->Option Value) (base:Heap) (x:Str) (k:Nat) (ps:List Str) (sp:Sp):Prop:=
 ∃f fd,Ex P w K mg base Iz k f fd ps sp/\mg x=some (.ref f)/\PySem.W.keepIn K (.ref f)=true/\Binds K fd ps []
section
variable {X:Cx} {x:Str} {k:Nat} {ps:List Str} {sp:Sp} {e:Expr} {es:List Expr} {t:TA} {p L:Pos}
def A3(C:BG X.prog X.w X.K X.mg X.base x k ps sp)(a:PA X (e::es) t)(b:B1 k X.A:=by exact B1.mono (by assumption) (by decide))(c:Gl X x:=by rfl)(j:(x==("__debug__" : Str))=false:=by decide)
 (d:starEach (e::es) X.env=(false,eval e X.env)::starEach es X.env:=by rfl) (l:(backTo L (starEach es X.env)).any (·.1)=false:=by rfl):PE X (.Call (.Name x p) (e::es) [] L) (Pa sp [] E0 t):=by
 obtain⟨f,fd,F,g,h,i⟩:=C;exact I0 F b c g h i .nil NK a j d l
end
def Jk(n:String)(a:Gl X x)(b:X.mg x=none)(hv:bootBuiltins x=some (.type n))(c:x ≠ "__name__" :=by decide)(hd:(x==("__debug__" : Str))=false:=by decide):PE X (.Name x L) (tC (.ty n)):=IT (v:=.ty n) a b hv rfl c hd
def Lz{t u:TS}{D:Ends}{σ:L2.St}(P:L2.St->Hp->Prop)(a:∀σ' H',P σ' H'->u D σ' H')(b:∀N:L2.St->Hp->Prop,(∀σ' H',P σ' H'->N σ' H')->t {D with nx:=N} σ H):K9 t u D σ H:=b (u D) a
def Ac.upd{H H':Hp}{D:Addr}{o:HO}(h:Ac H H')(a:H D=none):Ac H (upd H' D o):=λb u e=>by
 rw[AH (AV e a)];exact h b u e
def Ac.seqT{K:Aj}(e:Ac H H')(h:Al K H a xs):Al K H' a xs:=by
 rcases h with(h|⟨o,h⟩)|h;exact .inl (.inl (e _ _ h));exact .inl (.inr ⟨o,e _ _ h⟩);exact .inr h
def US{K:Aj}{Q:Addr->Hp->Prop}(f:V->V)(r:xs.length<=sizeLine)(j:Af K U a xs)
 (q:∀(i:Nat)(x:V)(Y:Hp)(D:Addr)(R:VK),xs[i]?=some x->Ac U Y->U D=none->(∀e,Ac Y e->R (f x) e)->g x (FP k caps σ) Y λσ4 l=>te σ4 l R)
 (hd:∀(Y:Hp)(D:Addr),Ac U Y->U D=none->Y D=some (.lst (xs.map f))->Q D Y):Ku (MN K a) k caps g Jj te σ U Q:=by
 refine NO xs.length (λD i b Y=>b=(xs.take i).map f/\Ac U Y/\Y D=some (.lst b)) (λD c=>⟨rfl,(Ac.refl _).upd c,Aa⟩) (λD i b Y p m=>⟨xs,xs[i],p.2.1.seq j,by simp[m]⟩) (λD b Y p=>⟨xs,p.2.1.seq j,AG _⟩) (λD i b Y x e R s c m p y k t=>?_) λD b Y c p=>?_;obtain⟨rfl,y⟩:=y;obtain⟨rfl,d,h⟩:=p;have n:=y xs (d.seq j);refine q i x e D _ n d c λl o=>k _ _ (o _ _ h) (by rw[Ak,Ek];lia) ⟨?_,(d.trans o).upd c,Aa⟩;rw[D7,n,A8];rfl;obtain⟨rfl,d,h⟩:=p;rw[De] at h;exact hd Y D d c h
def Hb (ns:List Int) (k:Int):Int:=(ns[k.toNat]?).getD 0
def RY{u:TS}{D:Ends}(h:u D (σ.set i (some v)) H):K9 (IV (tC v) (F7 i)) u D σ H:=h
def LA{k:Int}(a:0<=k)(h1:k<n):Hv n k=some k.toNat:=by
 unfold Hv;rw[Au a,Au h1]
def XY(xs:List V)(n:Nat):EY xs (some (n:Int)) none=xs.drop n:=by
 unfold EY;rw[HT.sIx_none,HT.sIx_nat];by_cases h:n<=xs.length;rw[Nat.min_eq_left h,List.take_of_length_le (by rw[K0];exact AG _)];rw[Nat.min_eq_right (by lia),List.drop_of_length_le (AG _),List.drop_of_length_le (by lia)]
 simp
def XZ(xs:List V)(a b:Nat)(e:a<=b):EY xs (some (a:Int)) (some (b:Int))=(xs.drop a).take (b-a):=by
 unfold EY;rw[HT.sIx_nat,HT.sIx_nat];by_cases c:a<=xs.length;rw[Nat.min_eq_left c];by_cases d:b<=xs.length;rw[Nat.min_eq_left d];rw[Nat.min_eq_right (show xs.length<=b by lia),List.take_of_length_le (by rw[K0];exact AG _),List.take_of_length_le (by rw[K0];lia)];rw[Nat.min_eq_right (show xs.length<=a by lia),List.drop_of_length_le (AG _),List.drop_of_length_le (show xs.length<=a by lia)]
 simp
def AJ{p:Addr}{o:HO}(h:H p=none):Ac H (upd H p o):=(Ac.refl H).upd h
def Cj{σ:L2.St}{N:L2.St->Hp->Prop}(h:N (σ.set i (some v)) H):F7 i v σ H N:=h
section
variable {X:Cx}
def Fp:MQ X "list.append" UA:=UB
def NP:MQ X "list.extend" UC:=XF
end
section
variable {X:Cx}
def Jl (neg:Bool):R2:=λx y H Q=>∃a o,y=.ref a/\EZ H a x o/\Q (.bl (o.isSome != neg)) H
def X0(b:X.A.units+1<cLine):Ee X (compareOp .In) (Jl false):=by
 intro pins s σ H x y v u Q I c d h;obtain⟨a,o,rfl,g,q⟩:=h;cases d;refine RM b I g c λZ e=>⟨.bl _,H,e,?_,q⟩;cases o<;>rfl
end
theorem UT{f:Str×NameKind->Str×NameKind}(b:∀n k,f (n,k)=(n,k)\/(k=.free/\f (n,k)=(n,NameKind.cell))):∀{names:List (Str×NameKind)}{x:Str},names.lookup x=some .cell->(names.map f).lookup x=some .cell
 |[],_,h=>by simp at h
 |(n,k)::r,x,h=>by
   have c:=@UT f b r x;rw[Ir] at h;rw[EX]
   cases a:x==n with
   |true =>
     rw[a] at h;cases h;rcases b n .cell with e|⟨z,_⟩;rw[e,Ir,a];cases z
   |false =>
     rw[a] at h;rcases b n k with e|⟨_,e⟩;rw[e,Ir,a];exact c h;rw[e,Ir,a];exact c h
def Am.re{c:Scope}{b:List Str}(S:Am c b scope N k caps)(env:Env):Am (relabel c env) b scope N k caps:=
 ⟨S.kind,S.loc,S.ndn,S.nd,S.len,λx d e=>by
  rcases S.free x d e with h|h;left;refine UT (λn k=>?_) h;by_cases a:(k==NameKind.free && env.scope.kind==.function && env.kindOf n==some .cell)=true;right;refine⟨?_,Au a⟩;simp only[Bool.and_eq_true,beq_iff_eq] at a;exact a.1.1;left;exact At a
  exact RX h,S.cap⟩
section
variable {prog:Program} {w:World} {A:Around} {R:Result->Shared->Prop} {It:Addr} {fp r:List Addr} {G:Array GenState->Array GenState->Prop} {n:Nat} {Pn:Nat->Value->Prop} {Sn:Nat->Shared->Prop}
end
section
variable {prog:Program} {w:World} {A:Around} {E:I'} {s:Shared}
end
section
variable {X:Cx}
end
open PySem.SeqAt
inductive Dt where
 |non|bl (b:Bool)|int (i:Int)|str (x:Str)|tup (l:List Dt)|lst (l:List Dt)
mutual
inductive Aq (K:Aj) (H:Hp):V->Dt->Prop where
 | non:Aq K H .non .non
 | bl (b:Bool):Aq K H (.bl b) (.bl b)
 | int (i:Int):Aq K H (.int i) (.int i)
 | str (x:Str):Aq K H (.str x) (.str x)
 | tup {a:Addr} {vs:List V} {ds:List Dt} (h:Al K H a vs) (t:Ai K H vs ds):Aq K H (.ref a) (.tup ds)
 | lst {a:Addr} {vs:List V} {ds:List Dt} (h:Af K H a vs) (t:Ai K H vs ds):Aq K H (.ref a) (.lst ds)
inductive Ai (K:Aj) (H:Hp):List V->List Dt->Prop where
 | nil:Ai K H [] []
 | cons {v:V} {d:Dt} {vs:List V} {ds:List Dt} (h:Aq K H v d) (t:Ai K H vs ds):Ai K H (v :: vs) (d :: ds)
end
mutual
theorem Aq.same {K:Aj}{H H':Hp} (e:Ac H H') {v:V} {d:Dt} (h:Aq K H v d):Aq K H' v d:=by
 cases h with
 | non=>exact .non
 | bl b=>exact .bl b
 | int i=>exact .int i
 | str x=>exact .str x
 | tup h t=>exact .tup (e.seqT h) (Ai.same e t)
 | lst h t=>exact .lst (e.seq h) (Ai.same e t)
theorem Ai.same {K:Aj}{H H':Hp} (e:Ac H H') {vs:List V} {a:List Dt} (h:Ai K H vs a):Ai K H' vs a:=by
 cases h with
 | nil=>exact .nil
 | cons h t=>exact .cons (Aq.same e h) (Ai.same e t)
end
theorem Ai.length{K:Aj}{H:Hp}:∀{vs:List V}{a:List Dt},Ai K H vs a->vs.length=a.length
 |_,_,.nil=>rfl
 |_,_,.cons _ t=>Bq (·+1) t.length
theorem Ai.get{K:Aj}{H:Hp}:∀{vs:List V}{a:List Dt}{i:Nat}{v:V},Ai K H vs a->vs[i]?=some v->∃d,a[i]?=some d/\Aq K H v d
 |_,_,_,_,.nil,e=>by simp at e
 |_,_,0,_,.cons h _,e=>by simp at e;subst e;exact⟨_,rfl,h⟩
 |_,_,i+1,v,.cons _ t,e=>by
   obtain⟨d,h1,b⟩:=Ai.get (i:=i) (v:=v) t (by simpa using e);exact⟨d,by simpa using h1,b⟩
theorem Ai.get'{K:Aj}{H:Hp}:∀{vs:List V}{a:List Dt}{i:Nat}{d:Dt},Ai K H vs a->a[i]?=some d->∃v,vs[i]?=some v/\Aq K H v d
 |_,_,_,_,.nil,e=>by simp at e
 |_,_,0,_,.cons h _,e=>by simp at e;subst e;exact⟨_,rfl,h⟩
 |_,_,i+1,v,.cons _ t,e=>by
   obtain⟨d,h1,b⟩:=Ai.get' (i:=i) (d:=v) t (by simpa using e);exact⟨d,by simpa using h1,b⟩
theorem Ai.append{K:Aj}{H:Hp}:∀{vs a:List V}{b es:List Dt},Ai K H vs b->Ai K H a es->Ai K H (vs++a) (b++es)
 |_,_,_,_,.nil,t=>t
 |_,_,_,_,.cons h r,t=>.cons h (Ai.append r t)
theorem Ai.strs{K:Aj}{H:Hp}:∀(xs:List Str),Ai K H (xs.map V.str) (xs.map Dt.str)
 |[]=>.nil
 |x::xs=>.cons (.str x) (Ai.strs xs)
section
variable {X:Cx} {pins:B'} {σ:St} {H:Hp} {s:Shared}
def Inv.not_both(I:Inv X pins σ H s){ys:List V}(h:Af X.K H a xs)(h':Al X.K H a ys):False:=by
 obtain⟨_,_,⟨o,n,e,c,_⟩,_⟩:=I.list h;obtain⟨_,_,⟨f,b,d,_⟩,_⟩:=I.tuple h';rw[e] at b;cases b;rw[c] at d;exact absurd d (by decide)
mutual
theorem Aq.inj (I:Inv X pins σ H s) {v:V} {d e:Dt} (h:Aq X.K H v d) (h':Aq X.K H v e):d=e:=by
 cases h with
 | non=>cases h';rfl
 | bl _=>cases h';rfl
 | int _=>cases h';rfl
 | str _=>cases h';rfl
 | tup h t=>cases h' with
   | tup h' a =>
     have e:=I.tuple_inj h h';subst e;rw[Ai.inj I t a]
   | lst h' _=>exact(I.not_both h' h).elim
 | lst h t=>cases h' with
   | lst h' a =>
     have e:=I.list_inj h h';subst e;rw[Ai.inj I t a]
   | tup h' _=>exact(I.not_both h h').elim
theorem Ai.inj (I:Inv X pins σ H s) {vs:List V} {a es:List Dt} (h:Ai X.K H vs a) (h':Ai X.K H vs es):a=es:=by
 cases h with
 | nil=>cases h';rfl
 | cons h t=>cases h' with
   | cons h' b=>rw[Aq.inj I h h',Ai.inj I t b]
end
end
def Dt.kd:Dt->Nat
 |.non=>0|.bl _=>1|.int _=>2|.str _=>3|.tup _=>4|.lst _=>5
def Hc (a b:Nat):Bool:=a != b && !(a==1 && b==2) && !(a==2 && b==1)
mutual
inductive Di:Nat->Dt->Dt->Prop where
 | non {n:Nat}:Di n .non .non
 | bl {n:Nat} (a b:Bool):Di n (.bl a) (.bl b)
 | int {n:Nat} (a b:Int):Di n (.int a) (.int b)
 | str {n:Nat} (a b:Str):Di n (.str a) (.str b)
 | tup {n:Nat} {ds es:List Dt} (t:Bw n ds es):Di (n+1) (.tup ds) (.tup es)
 | lst {n:Nat} {ds es:List Dt} (t:Bw n ds es):Di (n+1) (.lst ds) (.lst es)
 | apart {n:Nat} {d e:Dt} (h:Hc d.kd e.kd=true):Di (n+1) d e
inductive Bw:Nat->List Dt->List Dt->Prop where
 | nil {n:Nat} (es:List Dt):Bw n [] es
 | nil' {n:Nat} (ds:List Dt):Bw n ds []
 | cons {n:Nat} {d e:Dt} {ds es:List Dt} (h:Di n d e) (t:Bw n ds es):Bw n (d :: ds) (e :: es)
end
theorem Bw.of{n:Nat}:∀{a es:List Dt},(∀d∈a,∀e∈es,Di n d e)->Bw n a es
 |[],es,_=>.nil es
 |d::a,[],_=>.nil' _
 |d::a,e::es,h=>.cons (h d (by simp) e (by simp)) (Bw.of λx b y c=>h x (by simp[b]) y (by simp[c]))
open Classical in
noncomputable def dec (p:Prop):Bool:=decide p
variable {p:Prop}
def Ep(h:p):dec p=true:=@A5 p (Classical.propDecidable p) h
def Ga(h:¬p):dec p=false:=@En p (Classical.propDecidable p) h
def B7:dec p=true↔p:=⟨λh=>@Be p (Classical.propDecidable p) h,Ep⟩
def Kv{q:Prop}(h:p↔q):dec p=dec q:=by rw[propext h]
def RZ{α:Type} [BEq α] [LawfulBEq α]{a b:α}(h:p↔a=b):(a==b)=dec p:=by
 by_cases e:a=b;subst e;rw[Ep (h.mpr rfl)];exact beq_self_eq_true _;rw[Ga λq=>e (h.mp q)];exact beq_false_of_ne e
variable {ds es:List Dt}
def X1(b:ds.length=es.length)(h:∀i,i<ds.length->ds[i]?=es[i]?):ds=es:=List.ext_getElem? λi=>by
 by_cases a:i<ds.length;exact h i a;rw[G5 (by lia),G5 (by lia)]
section
variable {X:Cx} {pins:B'} {σ:St} {H:Hp} {s:Shared}
def Hd(A:Around):A.in1.units=A.units+1:=rfl
def UU(I:Inv X pins σ H s){vs c:List V}{a b:List Value}(f:Ax vs a)(g:Ax c b)(J:Ai X.K H vs ds)(n:Ai X.K H c es)
 (o:∀(i:Nat)(d e:Dt)(v u:V)(x y:Value),ds[i]?=some d->es[i]?=some e->RelV v x->RelV u y->Aq X.K H v d->Aq X.K H u e->EqAt A s x y (dec (d=e))) :
 ∀j(h1:j<a.toArray.size)(h:j<b.toArray.size),EqAt A s a.toArray[j] b.toArray[j] (dec (ds[j]?=es[j]?)):=by
 intro j h1 h;have C:=f.length;have E:=g.length;have z:j<a.length:=(by simpa using h1);have B:j<b.length:=(by simpa using h);obtain⟨x,k,r⟩:=f.get (i:=j) (x:=vs[j]'(by lia)) (AB (by lia));obtain⟨y,l,t⟩:=g.get (i:=j) (x:=c[j]'(by lia)) (AB (by lia));obtain⟨d,hd,D⟩:=J.get (i:=j) (v:=vs[j]'(by lia)) (AB (by lia));obtain⟨e,m,te⟩:=n.get (i:=j) (v:=c[j]'(by lia)) (AB (by lia))
 have ex:a.toArray[j]=x:=by
  rw[AB z] at k;simpa using k
 have w:b.toArray[j]=y:=by
  rw[AB B] at l;simpa using l
 rw[ex,w,hd,m];have:=o j d e _ _ x y hd m r t D te;rw[Kv (p:=some d=some e) (q:=d=e) (by simp)];exact this
def UV(a:n=ds.length)(b:ds.length=es.length):(List.range n).all (λj=>dec (ds[j]?=es[j]?))=dec (ds=es):=by
 subst a;by_cases h:ds=es;subst h;rw[Ep rfl,List.all_eq_true];exact λi ζ=>Ep rfl;rw[Ga h,Bool.eq_false_iff];intro q;rw[List.all_eq_true] at q;exact h (X1 b λi c=>B7.mp (q i (List.mem_range.mpr c)))
variable {d e:Dt}{u:V}{y:Value}
def X2(I:Inv X pins σ H s){x:Value}(h:Hc d.kd e.kd=true)(D:Aq X.K H v d)(te:Aq X.K H u e)(j:RelV v x)(f:RelV u y)(c:A.units<cLine):EqAt A s x y false/\RcAt A s x y false/\RcNeAt A s x y true:=by
 cases D with
 |non =>
   cases j
   cases te with
   |non=>exact absurd h (by simp[Hc,Dt.kd])
   |bl b =>
     cases f;exact⟨EqAt.none_bool _,RcAt.none_bool _,RcNeAt.none_bool _⟩
   |int b =>
     obtain⟨i,rfl⟩:=f;exact⟨EqAt.none_int _ _,RcAt.none_int _ _,RcNeAt.none_int _ _⟩
   |str b =>
     obtain⟨i,rfl⟩:=f;exact⟨EqAt.none_str _ _,RcAt.none_str _ _,RcNeAt.none_str _ _⟩
   |tup g i =>
     cases f;obtain⟨_,_,J,_⟩:=I.tuple g;exact⟨EqAt.none_tuple J c,RcAt.none_tuple J c,RcNeAt.none_tuple J c⟩
   |lst g i =>
     cases f;obtain⟨_,_,J,_⟩:=I.list g;have J:=J.isList;exact⟨EqAt.none_list J c,RcAt.none_list J c,RcNeAt.none_list J c⟩
 |bl a =>
   cases j
   cases te with
   |non =>
     cases f;exact⟨EqAt.bool_none _,RcAt.bool_none _,RcNeAt.bool_none _⟩
   |bl b=>exact absurd h (by simp[Hc,Dt.kd])
   |int b=>exact absurd h (by simp[Hc,Dt.kd])
   |str b =>
     obtain⟨i,rfl⟩:=f;exact⟨EqAt.bool_str _ _ _,RcAt.bool_str _ _ _,RcNeAt.bool_str _ _ _⟩
   |tup g i =>
     cases f;obtain⟨_,_,J,_⟩:=I.tuple g;exact⟨EqAt.bool_tuple _ J c,RcAt.bool_tuple _ J c,RcNeAt.bool_tuple _ J c⟩
   |lst g i =>
     cases f;obtain⟨_,_,J,_⟩:=I.list g;have J:=J.isList;exact⟨EqAt.bool_list _ J c,RcAt.bool_list _ J c,RcNeAt.bool_list _ J c⟩
 |int a =>
   obtain⟨t,rfl⟩:=j
   cases te with
   |non =>
     cases f;exact⟨EqAt.int_none _ _,RcAt.int_none _ _,RcNeAt.int_none _ _⟩
   |bl b=>exact absurd h (by simp[Hc,Dt.kd])
   |int b=>exact absurd h (by simp[Hc,Dt.kd])
   |str b =>
     obtain⟨i,rfl⟩:=f;exact⟨EqAt.int_str _ _ _ _,RcAt.int_str _ _ _ _,RcNeAt.int_str _ _ _ _⟩
   |tup g i =>
     cases f;obtain⟨_,_,J,_⟩:=I.tuple g;exact⟨EqAt.int_tuple _ _ J c,RcAt.int_tuple _ _ J c,RcNeAt.int_tuple _ _ J c⟩
   |lst g i =>
     cases f;obtain⟨_,_,J,_⟩:=I.list g;have J:=J.isList;exact⟨EqAt.int_list _ _ J c,RcAt.int_list _ _ J c,RcNeAt.int_list _ _ J c⟩
 |str a =>
   obtain⟨t,rfl⟩:=j
   cases te with
   |non =>
     cases f;exact⟨EqAt.str_none _ _,RcAt.str_none _ _,RcNeAt.str_none _ _⟩
   |bl b =>
     cases f;exact⟨EqAt.str_bool _ _ _,RcAt.str_bool _ _ _,RcNeAt.str_bool _ _ _⟩
   |int b =>
     obtain⟨i,rfl⟩:=f;exact⟨EqAt.str_int _ _ _ _,RcAt.str_int _ _ _ _,RcNeAt.str_int _ _ _ _⟩
   |str b=>exact absurd h (by simp[Hc,Dt.kd])
   |tup g i =>
     cases f;obtain⟨_,_,J,_⟩:=I.tuple g;exact⟨EqAt.str_tuple _ _ J c,RcAt.str_tuple _ _ J c,RcNeAt.str_tuple _ _ J c⟩
   |lst g i =>
     cases f;obtain⟨_,_,J,_⟩:=I.list g;have J:=J.isList;exact⟨EqAt.str_list _ _ J c,RcAt.str_list _ _ J c,RcNeAt.str_list _ _ J c⟩
 |tup h1 k =>
   cases j;obtain⟨_,_,p,_⟩:=I.tuple h1
   cases te with
   |non =>
     cases f;exact⟨EqAt.tuple_none p c,RcAt.tuple_none p c,RcNeAt.tuple_none p c⟩
   |bl b =>
     cases f;exact⟨EqAt.tuple_bool _ p c,RcAt.tuple_bool _ p c,RcNeAt.tuple_bool _ p c⟩
   |int b =>
     obtain⟨i,rfl⟩:=f;exact⟨EqAt.tuple_int _ _ p c,RcAt.tuple_int _ _ p c,RcNeAt.tuple_int _ _ p c⟩
   |str b =>
     obtain⟨i,rfl⟩:=f;exact⟨EqAt.tuple_str _ _ p c,RcAt.tuple_str _ _ p c,RcNeAt.tuple_str _ _ p c⟩
   |tup g i=>exact absurd h (by simp[Hc,Dt.kd])
   |lst g i =>
     cases f;obtain⟨_,_,J,_⟩:=I.list g;have J:=J.isList;exact⟨EqAt.tuple_list p J c,RcAt.tuple_list p J c,RcNeAt.tuple_list p J c⟩
 |lst h1 k =>
   cases j;obtain⟨_,_,p,_⟩:=I.list h1;have p:=p.isList
   cases te with
   |non =>
     cases f;exact⟨EqAt.list_none p c,RcAt.list_none p c,RcNeAt.list_none p c⟩
   |bl b =>
     cases f;exact⟨EqAt.list_bool _ p c,RcAt.list_bool _ p c,RcNeAt.list_bool _ p c⟩
   |int b =>
     obtain⟨i,rfl⟩:=f;exact⟨EqAt.list_int _ _ p c,RcAt.list_int _ _ p c,RcNeAt.list_int _ _ p c⟩
   |str b =>
     obtain⟨i,rfl⟩:=f;exact⟨EqAt.list_str _ _ p c,RcAt.list_str _ _ p c,RcNeAt.list_str _ _ p c⟩
   |tup g i =>
     cases f;obtain⟨_,_,J,_⟩:=I.tuple g;exact⟨EqAt.list_tuple p J c,RcAt.list_tuple p J c,RcNeAt.list_tuple p J c⟩
   |lst g i=>exact absurd h (by simp[Hc,Dt.kd])
def UW(I:Inv X pins σ H s){x:Value}(D:Aq X.K H v d)(te:Aq X.K H u e)(b:RelV v x)(i:RelV u y)(h:RcAt A s x y (dec (d=e))):EqAt A s x y (dec (d=e)):=by
 by_cases g:x=y;subst g;have j:=b.inj i;subst j;rw[Ep (Aq.inj I D te)];exact EqAt.same _;intro f w E Q c;unfold eqBool;refine FK ?_;refine wpAny_ite_split (λk=>absurd (eq_of_beq k) g) (λζ=>?_)
 cases D with
 |non=>cases b;exact Ad (h f w E _ (Gv c))
 |bl a=>cases b;exact Ad (h f w E _ (Gv c))
 |int a=>obtain⟨t,rfl⟩:=b;exact Ad (h f w E _ (Gv c))
 |str a=>obtain⟨t,rfl⟩:=b;exact Ad (h f w E _ (Gv c))
 |tup _ _=>cases b;exact Ad (h f w E _ (Gv c))
 |lst _ _=>cases b;exact Ad (h f w E _ (Gv c))
def NQ(h:Hc d.kd e.kd=true):¬d=e:=λz=>by
 subst z;simp[Hc] at h
set_option tactic.hygienic true in
mutual
theorem Ph (I:Inv X pins σ H s) {n:Nat} {d e:Dt} {v u:V} {x y:Value} {A:Around} (c:Di n d e) (D:Aq X.K H v d) (te:Aq X.K H u e) (g:RelV v x) (i:RelV u y) (O:A.units+n<cLine):RcAt A s x y (dec (d=e))/\RcNeAt A s x y (!dec (d=e)):=by
 cases c with
 | non =>
   cases D;cases te;cases g;cases i;rw[Ep rfl];exact⟨RcAt.none_none,RcNeAt.none_none⟩
 | bl a b =>
   cases D;cases te;cases g;cases i;rw[<-RZ (a:=a) (b:=b) (by simp)];exact⟨RcAt.bool_bool a b,RcNeAt.bool_bool a b⟩
 | int a b =>
   cases D;cases te;obtain⟨t,rfl⟩:=g;obtain⟨f,rfl⟩:=i;rw[<-RZ (a:=a) (b:=b) (by simp)];exact⟨RcAt.int_int a t b f,RcNeAt.int_int a t b f⟩
 | str a b =>
   cases D;cases te;obtain⟨t,rfl⟩:=g;obtain⟨f,rfl⟩:=i;rw[<-RZ (a:=a) (b:=b) (by simp)];exact⟨RcAt.str_str a t b f,RcNeAt.str_str a t b f⟩
 | @tup n ds es c =>
   cases D;cases te;rename_i a F h t b G C f;cases g;cases i;obtain⟨l,r,p,_⟩:=I.tuple h;obtain⟨m,o,k,_⟩:=I.tuple C;have J:=r.length;have K:=o.length;have L:=t.length;have M:=f.length;have w:=UU (A:=A.in1) I r o t f (LB I c (by rw[Hd];lia))
   have e:dec (Dt.tup ds=Dt.tup es)=((List.range (min l.toArray.size m.toArray.size)).all (fun j=>dec (ds[j]?=es[j]?)) && l.toArray.size == m.toArray.size):=by
    rw[Kv (p:=Dt.tup ds=Dt.tup es) (q:=ds=es) (by simp)];simp only[CM];by_cases B:ds.length=es.length
    rw[show(l.length == m.length)=true from beq_iff_eq.mpr (by lia),Bool.and_true,UV (by lia) B]
    rw[show(l.length == m.length)=false from beq_false_of_ne (by lia),Bool.and_false,Ga fun z=>B (by rw[z])]
   rw[e];exact⟨RcAt.tuples (A:=A) p k (by lia) w,RcNeAt.tuples (A:=A) p k (by lia) w⟩
 | @lst n ds es c =>
   cases D;cases te;rename_i a F h t b G C f;cases g;cases i;obtain⟨l,r,p,_⟩:=I.list h;obtain⟨m,o,k,_⟩:=I.list C;have J:=r.length;have K:=o.length;have L:=t.length;have M:=f.length;by_cases B:ds.length=es.length;have w:=UU (A:=A.in1) I r o t f (LB I c (by rw[Hd];lia));rw[Kv (p:=Dt.lst ds=Dt.lst es) (q:=ds=es) (by simp),<-UV (n:=l.toArray.size) (by simp only[CM];lia) B];exact⟨RcAt.lists (A:=A) p.isList k.isList (by simp only[CM];lia) (by lia) w,RcNeAt.lists (A:=A) p.isList k.isList (by simp only[CM];lia) (by lia) w⟩
   rw[Ga (show ¬Dt.lst ds=Dt.lst es from fun z=>B (by cases z;rfl))]
   have E:(l.toArray.size != m.toArray.size)=true:=by simp only[CM];rw[bne_iff_ne];lia
   exact⟨RcAt.lists_lengths p.isList k.isList E (by lia),RcNeAt.lists_lengths p.isList k.isList E (by lia)⟩
 | apart h =>
   obtain⟨_,h1,N⟩:=X2 (A:=A) I h D te g i (by lia);rw[Ga (NQ h)];exact⟨h1,N⟩
theorem LB (I:Inv X pins σ H s) {n:Nat} {ds es:List Dt} {A:Around} (c:Bw n ds es) (f:A.units+n<cLine)
 (i:Nat) (d e:Dt) (v u:V) (x y:Value) (h:ds[i]?=some d) (h':es[i]?=some e) (a:RelV v x) (b:RelV u y) (D:Aq X.K H v d) (te:Aq X.K H u e):EqAt A s x y (dec (d=e)):=by
 cases c with
 | nil=>simp at h
 | nil'=>simp at h'
 | cons c t=>cases i with
   | zero =>
     simp at h h';subst h;subst h';have g:=Ph (A:=A) I c D te a b f;exact UW I D te a b g.1
   | succ i=>exact LB I t f i d e v u x y (by simpa using h) (by simpa using h') a b D te
end
def UX(I:Inv X pins σ H s){x:Value}(c:Di n d e)(D:Aq X.K H v d)(te:Aq X.K H u e)(a:RelV v x)(b:RelV u y)(f:A.units+n<cLine):EqAt A s x y (dec (d=e)):=
 UW I D te a b (Ph I c D te a b f).1
end
section
variable {X:Cx}
def R1 (K:Aj):R2:=λx y H Q=>∃n d e,Di n d e/\n<=60/\Aq K H x d/\Aq K H y e/\Q (.bl (dec (d=e))) H
def R3 (K:Aj):R2:=λx y H Q=>∃n d e,Di n d e/\n<=60/\Aq K H x d/\Aq K H y e/\Q (.bl (!dec (d=e))) H
def HA(f:X.A.units+64<cLine):Ee X (compareOp .Eq) (R1 X.K):=by
 intro pins s σ H x y v u Q I a b h;obtain⟨n,d,e,c,g,D,te,q⟩:=h;exact(Ph (A:=X.A) I c D te a b (by lia)).1 _ _ _ _ ⟨.bl _,H,I,rfl,q⟩
def LD(f:X.A.units+64<cLine):Ee X (compareOp .NotEq) (R3 X.K):=by
 intro pins s σ H x y v u Q I a b h;obtain⟨n,d,e,c,g,D,te,q⟩:=h;exact(Ph (A:=X.A) I c D te a b (by lia)).2 _ _ _ _ ⟨.bl _,H,I,rfl,q⟩
def NR (K:Aj):R2:=λx y H Q=>∃n d ds a vs,(∀e∈ds,Di n e d)/\n<=60/\Aq K H x d/\y=.ref a/\Af K H a vs/\Ai K H vs ds/\Q (.bl (dec (d∈ds))) H
def Jm (K:Aj):R2:=λx y H Q=>∃n d ds a vs,(∀e∈ds,Di n e d)/\n<=60/\Aq K H x d/\y=.ref a/\Af K H a vs/\Ai K H vs ds/\Q (.bl (!dec (d∈ds))) H
def R6(I:Inv X pins σ H s){d:Dt}{vs:List V}{b:List Value}{x:Value}(r:Ax vs b)(t:Ai X.K H vs ds)(B:∀e∈ds,Di n e d)(D:Aq X.K H v d)(C:RelV v x)(E:A.units+n<cLine) :
 (∀y,y∈b.toArray->EqAt A s y x (dec (∃u,RelV u y/\Aq X.K H u d)))/\b.toArray.any (λy=>dec (∃u,RelV u y/\Aq X.K H u d))=dec (d∈ds):=by
 have L:=r.length;have lt:=t.length
 have one:∀y,y∈b->∃e∈ds,∃u,RelV u y/\Aq X.K H u e:=λy a=>by
  obtain⟨i,g,e⟩:=OT.mp a;obtain⟨M,w,j⟩:=r.get (i:=i) (x:=vs[i]'(by lia)) (AB (by lia));obtain⟨F,c,te⟩:=t.get (i:=i) (v:=vs[i]'(by lia)) (AB (by lia));rw[AB g,e] at w;cases w;exact⟨F,Bk c,_,j,te⟩
 refine⟨λy a=>?_,?_⟩;obtain⟨e,c,u,f,te⟩:=one y (by simpa using a);have:=UX (A:=A) I (B e c) te D f C E
 rw[Kv (p:=∃u,RelV u y/\Aq X.K H u d) (q:=e=d) ⟨λ⟨G,l,m⟩=>by
  have k:=f.inj l;subst k
  exact Aq.inj I te m,λz=>⟨u,f,by rw[<-z];exact te⟩⟩]
 exact this;by_cases h:d∈ds;rw[Ep h,Array.any_eq_true];obtain⟨i,g,e⟩:=OT.mp h;obtain⟨u,K,te⟩:=t.get' (i:=i) (d:=d) (by rw[AB g,e]);obtain⟨y,a,j⟩:=r.get K;have o:i<b.length:=(Bi.mp a).1;refine⟨i,by simpa using o,?_⟩
 have:b.toArray[i]'(by simpa using o)=y:=by
  rw[AB o] at a;simpa using a
 rw[this];exact Ep ⟨u,j,te⟩;rw[Ga h,Bool.eq_false_iff];intro q;obtain⟨i,g,q⟩:=Array.any_eq_true.mp q;obtain⟨u,f,te⟩:=B7.mp q;obtain⟨e,c,G,l,m⟩:=one (b.toArray[i]) (by simp);have k:=f.inj l;subst k;have J:=Aq.inj I te m;subst J;exact h c
def NS(i:X.A.units+64<cLine):Ee X (compareOp .In) (NR X.K):=by
 intro pins s σ H x y v u Q I b c h;obtain⟨n,d,ds,a,j,e,k,D,rfl,f,t,q⟩:=h;cases c;obtain⟨l,r,p,_⟩:=I.list f;obtain⟨h1,g⟩:=R6 (A:=X.A.in1) I r t e D b (by rw[Hd];lia);exact in_listAt _ p.isList h1 (by rw[g];exact⟨.bl _,H,I,rfl,q⟩)
def X3(i:X.A.units+64<cLine):Ee X (compareOp .NotIn) (Jm X.K):=by
 intro pins s σ H x y v u Q I b c h;obtain⟨n,d,ds,a,j,e,k,D,rfl,f,t,q⟩:=h;cases c;obtain⟨l,r,p,_⟩:=I.list f;obtain⟨h1,g⟩:=R6 (A:=X.A.in1) I r t e D b (by rw[Hd];lia);exact notIn_listAt _ p.isList h1 (by rw[g];exact⟨.bl _,H,I,rfl,q⟩)
end
end L2
namespace Ord
variable {α:Type} [DecidableEq α]
def nodup_sub_length{l m:List α}(h:l.Nodup)(a:∀x∈l,x∈m):l.length<=m.length:=by
 induction l generalizing m with
 |nil=>simp
 |cons x r f =>
   have b:=a x (by simp);have c:=(F4.mp h)
   have:r.length<=(m.erase x).length:=f c.2 (λy d=>by
    have g:=a y (by simp[d]);have ne:y≠x:=λe=>c.1 (e▸d)
    exact(List.mem_erase_of_ne ne).mpr g)
   rw[List.length_erase_of_mem b] at this;have i:0<m.length:=List.length_pos_of_mem b
   simp;lia
end Ord
namespace War
end War
namespace Ord
variable {α:Type} [DecidableEq α]
end Ord
namespace L2
open PySem PySem.Spec PyProof.Rows Ord
abbrev MU (p:Str×Str):Dt:=.tup [.str p.1,.str p.2]
def HB:([]:List V).length+1<=sizeLine:=by decide
def BA:([]:List V).length+1+1<=sizeLine:=by decide
theorem Ai.of_get{K:Aj}{H:Hp}:∀{vs:List V}{a:List Dt},vs.length=a.length->(∀(n:Nat)v d,vs[n]?=some v->a[n]?=some d->Aq K H v d)->Ai K H vs a
 |[],[],_,_=>.nil
 |v::vs,d::a,b,h=>.cons (h 0 v d rfl rfl) (Ai.of_get (by simpa using b) λn x y c e=>h (n+1) x y (by simpa using c) (by simpa using e))
structure Cc (H:Hp) (ts:List Addr) (ps:A'):Prop where
 len:ts.length=ps.length
 at_:∀(n:Nat)t p,ts[n]?=some t->ps[n]?=some p->H t=some (.tup [.str p.1,.str p.2])
variable {H:Hp}
def Cc.nil:Cc H [] []:=⟨rfl,λn t p h=>by simp at h⟩
variable {ts:List Addr}{ps:A'}
def Cc.same{H':Hp}(e:Ac H H')(h:Cc H ts ps):Cc H' ts ps:=⟨h.len,λn t p a b=>e _ _ (h.at_ n t p a b)⟩
def Cc.dts{K:Aj}(h:Cc H ts ps):Ai K H (ts.map V.ref) (ps.map MU):=by
 refine Ai.of_get (by simpa using h.len) λn v d a b=>?_;rw[AM] at a b;obtain⟨t,c,rfl⟩:=ER.mp a;obtain⟨p,e,rfl⟩:=ER.mp b;exact .tup (Al.of (h.at_ n t p c e)) (.cons (.str _) (.cons (.str _) .nil))
def Cc.snoc{t:Addr}{p:Str×Str}(h:Cc H ts ps)(e:H t=some (.tup [.str p.1,.str p.2])):Cc H (ts++[t]) (ps++[p]):=by
 refine⟨by rw[AO,AO,h.len];rfl,λn d f a b=>?_⟩;by_cases c:n<ts.length;rw[EQ c] at a;rw[EQ (by rw[<-h.len];exact c)] at b;exact h.at_ n d f a b
 have g:n=ts.length:=by
  have:=(Bi.mp a).1;rw[AO,Ew] at this;lia
 subst g;rw[E8 (AG _)] at a;rw[E8 (by rw[h.len];exact AG _)] at b;simp at a;simp[h.len] at b;subst a;subst b;exact e
variable {a:Addr}
def LF{K:Aj}{xs:List V}{k:Nat}{e:List Nat}{g:TG}{te:TE}{σ:St}{U:Hp}{Q:Addr->Hp->Prop}(Pv:Addr->Nat->List V->Hp->Prop)
 (f:∀D,U D=none->Pv D 0 [] (upd U D (.lst []))) (b:∀D i ys Y,Pv D i ys Y->Af K Y a xs)
 (h:∀D i x ys Y(R:VK),U D=none->xs[i]?=some x->Pv D i ys Y->(∀y c,c D=some (.lst ys)->ys.length<sizeLine->Pv D (i+1) (ys++[y]) (upd c D (.lst (ys++[y])))->R y c)->g x (FP k e σ) Y λσ4 j=>te σ4 j R)
 (hd:∀D ys Y,U D=none->Pv D xs.length ys Y->Q D Y):Ku (MN K a) k e g Jj te σ U Q:=NO xs.length Pv f (λD i ys Y p d=>⟨xs,xs[i],b D i ys Y p,by simp[d]⟩) (λD ys Y p=>⟨xs,b D _ ys Y p,AG _⟩) (λD i ys Y x m R n l d p y k o=>by obtain⟨rfl,y⟩:=y;exact h D i x ys _ R l (y xs (b D i ys _ p)) p k) hd
def AE.ex{P:Program}{w:World}{h:Heap}{o:HO}(x:AE P w H h a o):∃u,h.get? a=some u:=by
 cases o with
 |lst b=>obtain⟨_,_,_,_,e⟩:=x;exact⟨_,e⟩
 |tup b=>obtain⟨_,_,_,u,e,_⟩:=x;exact⟨u,e⟩
 |dK c=>obtain⟨_,_,_,_,u,_,_,e,_⟩:=x;exact⟨u,e⟩
 |dT c=>obtain⟨_,_,_,_,u,_,_,e,_⟩:=x;exact⟨u,e⟩
 |set S n=>obtain⟨u,_,_,_,e,_⟩:=x;exact⟨u,e⟩
 |ins C d fs=>obtain⟨_,_,_,e,_⟩:=x;exact⟨_,e⟩
 |own y=>exact x
 |xd fs=>obtain⟨_,⟨u,_,_,e,_⟩,_⟩:=x;exact⟨u,e⟩
 |rng lo g=>obtain⟨_,_,_,e⟩:=x;exact⟨_,e⟩
 |frz i u=>obtain⟨e,_⟩:=x;exact⟨_,e⟩
 |tbl ps=>exact⟨_,(show h.get? a=some _ from x)⟩
 |met f y=>exact⟨_,(show h.get? a=some _ from x)⟩
 |ext φ=>exact x.2.1
def Inv.freshN{X:Cx}{pins:B'}{σ:L2.St}{s:Shared}(I:Inv X pins σ H s)(d:∀b u,s.heap.get? b=some u->b≠a):H a=none:=by
 cases e:H a with
 |none=>rfl
 |some o =>
   obtain⟨u,c⟩:=(I.hok a o e).ex;exact absurd rfl (d a u c)
def Inv.laidN{X:Cx}{pins:B'}{σ:L2.St}{s:Shared}{h':Heap}{o:HO}{t':Nat}(I:Inv X pins σ H s)(k:∀b u,s.heap.get? b=some u->h'.get? b=some u)(h:∀b u,s.heap.get? b=some u->b≠a)(i:AE X.prog X.w (upd H a o) h' a o) :
 Inv X pins σ (upd H a o) {s with heap:=h',toks:=t'}:=by
 have d:=I.freshN h;refine I.un ⟨λb u q ζ ζ ζ=>k b u q,λb u q ζ ζ ζ=>⟨u.slots,k b u q⟩,λb u q n ζ=>by rw[AH (h b u q)];exact n,λb u q ζ=>⟨u,k b u q⟩,λb f q=>by rw[AH (AV q d)];exact q,λb u f q=>by rw[AH (AV q d)];exact q,λb ps q=>⟨#[],by rw[AH (AV q d),q];simp⟩⟩ λb u e=>?_;by_cases g:b=a;subst g;rw[Aa] at e;cases e;exact i;rw[AH g] at e;exact(I.hok b u e).stay (λc v ζ q=>k c v q) (λc q=>by rw[AH (AV q d)];exact q) λc f q=>by rw[AH (AV q d)];exact q
section
variable {prog:Program} {w:World} {A:Around} {E:I'} {s:Shared}
end
section
variable {X:Cx}
end
end L2
namespace HT
open PySem PyProof.Rows
section
open PySem.SeqAt
open PySem.AutoSeq1 (wpAny_loadPart')
open PySem.MeetsSeq PySem.MeetsSeq2 PySem.MeetsSeq3
end
section
variable {prog:Program} {w:World} {A:Around} {E:I'} {s:Shared}
end
end HT
namespace L2
open PySem PySem.Spec PyProof.Rows
section
variable {X:Cx}
def X4{ss:List Str}:∀{c:List Value},Ax (ss.map V.str) c->StrsAre c ss:=by
 induction ss with
 |nil=>intro c h;cases h;exact .nil
 |cons x r d =>
   intro c h
   cases h with
   |cons a b =>
     obtain⟨t,rfl⟩:=a;exact .cons _ _ (d b)
end
end L2
namespace L2
end L2
namespace KasM
open PySem PySem.W PyProof.Rows
set_option autoImplicit false
def Tw {α:Type} (lt:Nat->Nat->Bool) (n:Nat):KasT α->(α->Prop)->Prop
 |.ret a,Q=>Q a
 |.ask i j k,Q=>i<n/\j<n/\Tw lt n (k (lt i j)) Q
theorem MV{α β:Type}{lt:Nat->Nat->Bool}{n:Nat}{f:α->KasT β}{Q:β->Prop}:∀(t:KasT α),Tw lt n t (λa=>Tw lt n (f a) Q)->Tw lt n (t.bind f) Q
 |.ret _,h=>h
 |.ask _ _ k,⟨b,c,d⟩=>⟨b,c,MV (k _) d⟩
theorem Tw_mono{α:Type}{lt:Nat->Nat->Bool}{n:Nat}{Q b:α->Prop}(c:∀a,Q a->b a):∀(t:KasT α),Tw lt n t Q->Tw lt n t b
 |.ret a,h=>c a h
 |.ask _ _ k,⟨d,e,f⟩=>⟨d,e,Tw_mono c (k _) f⟩
theorem Tw_wp{α:Type}{lt:Nat->Nat->Bool}{n:Nat}{c:Nat->Nat->(Bool->Shared->Prop)->Shared->Prop}{s:Shared}{Q:α->Shared->Prop}(b:∀i j C,i<n->j<n->C (lt i j) s->c i j C s) :
 ∀(t:KasT α),Tw lt n t (λa=>Q a s)->t.kasWp c Q s
 |.ret _,h=>h
 |.ask _ _ k,⟨d,e,f⟩=>b _ _ _ d e (Tw_wp b (k _) f)
section
variable {O:KeyOrd} {key:Nat->O.α} {n:Nat}
def K (key:Nat->O.α) (p:Array Nat) (i:Nat):O.α:=key (p.getD i 0)
def Asc (key:Nat->O.α) (p:Array Nat) (k:Nat):Prop:=∀i,i+1<k->O.kle (K key p i) (K key p (i+1))
def NT (key:Nat->O.α) (p:Array Nat) (k:Nat):Prop:=∀i,i+1<k->O.kle (K key p (i+1)) (K key p i)
def Pm (n:Nat) (p:Array Nat):Prop:=p.Perm (List.range n).toArray
def Pm.size{p:Array Nat}(h:Pm n p):p.size=n:=by have:=h.size_eq;simpa using this
variable {p:Array Nat}
def Pm.lt(h:Pm n p)(b:0<n)(i:Nat):p.getD i 0<n:=by
 by_cases a:i<p.size;have e:p.getD i 0=p[i]:=(by simp[Array.getD,a]);rw[e];have:p[i]∈p:=Array.getElem_mem a;have c:=h.mem_iff.mp this;simpa using c;have e:p.getD i 0=0:=(by simp[Array.getD,a]);rw[e];exact b
variable {i j:Nat}
def X5(a:j<=p.size)(k:Nat):(kas_rev p i j).getD k 0=if i<=k/\k<j then p.getD (i+j-1-k) 0 else p.getD k 0:=by
 unfold kas_rev;simp only[Array.getD_eq_getD_getElem?];rw[getElem?_mirror_all a];split<;>rfl
variable {k:Nat}
def X6{l:Nat}(a:k<p.size)(b:l<=k)(t:Nat):(bubble p k (k-l)).getD t 0=if t=l then p.getD k 0 else if l<t/\t<=k then p.getD (t-1) 0 else p.getD t 0:=by
 simp only[Array.getD_eq_getD_getElem?];rw[getElem?_bubble a _ (by lia)];rw[show k-(k-l)=l by lia];split;rfl;split<;>rfl
def Pm.rev(h:Pm n p)(i j:Nat):Pm n (kas_rev p i j):=(mirror_perm _ _ _ _).trans h
def Pm.bub(h:Pm n p)(i j:Nat):Pm n (bubble p i j):=(bubble_perm _ _ _).trans h
def UY(a:j<=p.size)(k:Nat):K key (kas_rev p i j) k=if i<=k/\k<j then K key p (i+j-1-k) else K key p k:=by
 unfold K;rw[X5 a];split<;>rfl
def R7(b:j<=p.size)(a:∀k,i<=k->k<j->K key p k=K key p (j-1))(k:Nat):K key (kas_rev p i j) k=K key p k:=by
 rw[UY b];split;rw[a _ (by lia) (by lia),a k (by lia) (by lia)];rfl
def X7{l:Nat}(a:k<p.size)(b:l<=k)(t:Nat):K key (bubble p k (k-l)) t=if t=l then K key p k else if l<t/\t<=k then K key p (t-1) else K key p t:=by
 unfold K;rw[X6 a b];split;rfl;split<;>rfl
theorem Asc.le{p:Array Nat}{k:Nat}(h:Asc key p k){i:Nat}:∀(d:Nat),i+d<k->O.kle (K key p i) (K key p (i+d))
 |0,_=>KeyOrd.kle_refl _
 |d+1,hd=>KeyOrd.kle_trans (h.le d (by lia)) (h (i+d) (by lia))
def Asc.le'(h:Asc key p k)(b:i<=j)(a:j<k):O.kle (K key p i) (K key p j):=by
 have:=h.le (i:=i) (j-i) (by lia)
 rwa [show i+(j-i)=j by lia] at this
abbrev lt (O:KeyOrd) (key:Nat->O.α) (i j:Nat):Bool:=O.blt (key i) (key j)
theorem R8{p:Array Nat}(b:Pm n p)(c:0<n):∀(f a:Nat),1<=a->Tw (lt O key) n (kas_asc p f a) λm=>a<=m/\m<=a+f/\(∀i,a-1<=i->i+1<m->O.kle (K key p i) (K key p (i+1)))/\(m<a+f->O.klt (K key p m) (K key p (m-1)))
 |0,a,_=>⟨AG _,AG _,λi d g=>by lia,λh=>by lia⟩
 | f + 1,a,q=>by
   refine⟨b.lt c _,b.lt c _,?_⟩
   cases j:lt O key (p.getD a 0) (p.getD (a-1) 0) with
   |true =>
     simp only[if_true];exact⟨AG _,by lia,λi d g=>by lia,λζ=>j⟩
   |false =>
     simp only[FD,if_false];refine Tw_mono ?_ _ (R8 b c f (a+1) (by lia));rintro m ⟨d,g,k,l⟩;refine⟨by lia,by lia,λi r o=>?_,λh=>l (by lia)⟩;by_cases e:i=a-1;subst e;rw[show a-1+1=a by lia];exact j;exact k i (by lia) o
theorem Pj(c:0<n):∀(f:Nat)(p:Array Nat)(a q:Nat),Pm n p->a+f<=n->NT key p a->q+1<=a->(∀k,a-(q+1)<=k->k<a->K key p k=K key p (a-1)) ->
 Tw (lt O key) n (kas_desc f p a q) λr=>Pm n r.1/\a<=r.2.1/\r.2.1<=a+f/\NT key r.1 r.2.1/\r.2.2+1<=r.2.1/\(∀k,r.2.1-(r.2.2+1)<=k->k<r.2.1->K key r.1 k=K key r.1 (r.2.1-1))
 |0,p,a,q,b,_,hd,o,d=>⟨b,AG _,AG _,hd,o,d⟩
 | f + 1,p,a,q,b,E,hd,o,d=>by
   have hz:=b.size;refine⟨b.lt c _,b.lt c _,?_⟩
   cases u:lt O key (p.getD a 0) (p.getD (a-1) 0) with
   |true =>
     have t:O.klt (K key p a) (K key p (a-1)):=u
     have z:NT key p (a+1):=λi s=>by
      by_cases e:i+1=a;rw[e];have:i=a-1:=by lia
      rw[this];exact KeyOrd.kle_of_klt t;exact hd i (by lia)
     simp only[if_true];by_cases A:q > 0;rw[Au A];have Z:=R7 (key:=key) (p:=p) (i:=a-(q+1)) (j:=a) (by lia) d;refine Tw_mono ?_ _ (Pj c f _ (a+1) 0 (b.rev _ _) (by lia) (λi s=>by rw[Z,Z];exact z i s) (by lia) (λk v w=>by rw[show k=a+1-1 by lia]));rintro r ⟨g,x,y,h,l,m⟩;exact⟨g,by lia,by lia,h,l,m⟩;rw[At A];refine Tw_mono ?_ _ (Pj c f _ (a+1) 0 b (by lia) z (by lia) (λk v w=>by rw[show k=a+1-1 by lia]));rintro r ⟨g,x,y,h,l,m⟩;exact⟨g,by lia,by lia,h,l,m⟩
   |false =>
     have t:O.kle (K key p (a-1)) (K key p a):=u;simp only[FD,if_false];refine⟨b.lt c _,b.lt c _,?_⟩
     cases D:lt O key (p.getD (a-1) 0) (p.getD a 0) with
     |true =>
       simp only[if_true];exact⟨b,AG _,Nat.le_add_right _ _,hd,o,d⟩
     |false =>
       have B:O.kle (K key p a) (K key p (a-1)):=D;have C:K key p a=K key p (a-1):=KeyOrd.kle_antisymm B t;simp only[FD,if_false];refine Tw_mono ?_ _ (Pj c f _ (a+1) (q+1) b (by lia) (λi s=>?_) (by lia) (λk v w=>?_));rintro r ⟨g,x,y,h,l,m⟩;exact⟨g,by lia,by lia,h,l,m⟩;by_cases e:i+1=a;rw[e];have:i=a-1:=by lia
       rw[this];exact B;exact hd i (by lia);rw[show a+1-1=a by lia];by_cases e:k=a;rw[e];rw[d k (by lia) (by lia),C]
abbrev R9 (key:Nat->O.α) (n:Nat) (r:Nat×Array Nat):Prop:=Pm n r.2/\1<=r.1/\r.1<=n/\Asc key r.2 r.1
def UZ(c:0<n){a:Nat}(b:Pm n p)(d:1<=a)(k:a<=n)(hd:NT key p a):Tw (lt O key) n (kas_tail3 a n p) (R9 key n):=by
 unfold kas_tail3;have l:=b.size;have Z:=UY (key:=key) (p:=p) (i:=0) (j:=a) (by lia);refine MV _ (Tw_mono ?_ _ (R8 (O:=O) (key:=key) (b.rev 0 a) c (n-a) a d));rintro m ⟨o,q,f,_⟩;refine⟨b.rev _ _,by show 1<=m;lia,by show m<=n;lia,λi g=>?_⟩;have h:i+1<m:=g;by_cases e:a-1<=i;exact f i e h;show O.kle (K key (kas_rev p 0 a) i) (K key (kas_rev p 0 a) (i+1));rw[Z,Z,Au (by lia),Au (by lia)];have:=hd (0+a-1-(i+1)) (by lia)
 rwa [show 0+a-1-(i+1)+1=0+a-1-i by lia] at this
def U0(c:0<n){a:Nat}(f:Pm n p)(g:1<=a)(t:a+1<=n)(hd:NT key p (a+1)):Tw (lt O key) n (kas_descPart a n p) (R9 key n):=by
 unfold kas_descPart;refine MV _ (Tw_mono ?_ _ (Pj (O:=O) (key:=key) c (n-(a+1)) p (a+1) 0 f (by lia) hd (by lia) (λk g u=>by rw[show k=a+1-1 by lia])));rintro⟨h,m,q⟩ ⟨b,l,o,d,r,e⟩;dsimp only at b l o d r e ⊢;have v:=b.size;split;have Z:=R7 (key:=key) (p:=h) (i:=m-(q+1)) (j:=m) (by lia) e;exact UZ c (b.rev _ _) (by lia) (by lia) λi s=>by rw[Z,Z];exact d i s
 exact UZ c b (by lia) (by lia) d
def X8(b:0<n)(a:Pm n p):Tw (lt O key) n (kas_count n p) (R9 key n):=by
 unfold kas_count;have w:=a.size;refine MV _ (Tw_mono ?_ _ (R8 (O:=O) (key:=key) a b (n-1) 1 (AG _)));rintro m ⟨c,x,r,s⟩;have d:Asc key p m:=λi f=>r i (by lia) f;by_cases g:(m==n)=true;rw[Au g];exact⟨a,c,by show m<=n;lia,d⟩;rw[At g]
 have y:m<n:=by
  have:m≠n:=λq=>g (by rw[q];exact beq_self_eq_true _);lia
 have l:=s (by lia);by_cases o:m > 1;rw[Au o];refine⟨a.lt b _,a.lt b _,?_⟩
 cases t:lt O key (p.getD 0 0) (p.getD (m-1) 0) with
 |true =>
   simp only[if_true];exact⟨a,c,by show m<=n;lia,d⟩
 |false =>
   have v:O.kle (K key p (m-1)) (K key p 0):=t;simp only[FD,if_false]
   have h:∀k,0<=k->k<m->K key p k=K key p (m-1):=λk ζ u =>
    KeyOrd.kle_antisymm (d.le' (by lia) (by lia)) (KeyOrd.kle_trans v (d.le' (by lia) u))
   have Z:=R7 (key:=key) (p:=p) (i:=0) (j:=m) (by lia) h;refine U0 b (a.rev _ _) c (by lia) λi f=>?_;rw[Z,Z];by_cases e:i+1=m;rw[e,show i=m-1 by lia];exact KeyOrd.kle_of_klt l;rw[h i (by lia) (by lia),h (i+1) (by lia) (by lia)];exact KeyOrd.kle_refl _
 rw[At o];refine U0 b a c (by lia) λi f=>?_;have:m=1:=(by lia);subst this;obtain rfl:i=0:=by lia
 exact KeyOrd.kle_of_klt l
theorem Sa(c:0<n){p:Array Nat}{k:Nat}(d:Pm n p)(g:Asc key p k):∀(f l r:Nat),r-l<=f->l<=r->r<=k->(∀i,i<l->O.kle (K key p i) (K key p k))->(∀i,r<=i->i<k->O.klt (K key p k) (K key p i)) ->
 Tw (lt O key) n (kas_place p k f l r) λm=>m<=k/\(∀i,i<m->O.kle (K key p i) (K key p k))/\(∀i,m<=i->i<k->O.klt (K key p k) (K key p i))
 |0,l,r,t,u,q,h,j=>⟨by lia,h,λi a b=>j i (by lia) b⟩
 | f + 1,l,r,t,u,q,h,j=>by
   unfold kas_place;by_cases e:l ≥ r;rw[Au e];exact⟨by lia,h,λi a b=>j i (by lia) b⟩;rw[At e];refine⟨d.lt c _,d.lt c _,?_⟩
   cases s:lt O key (p.getD k 0) (p.getD ((l+r)/2) 0) with
   |true =>
     have o:O.klt (K key p k) (K key p ((l+r)/2)):=s;simp only[if_true];exact Sa c d g f l ((l+r)/2) (by lia) (by lia) (by lia) h λi a b=>KeyOrd.klt_of_klt_of_kle o (g.le' a b)
   |false =>
     have o:O.kle (K key p ((l+r)/2)) (K key p k):=s;simp only[FD,if_false];exact Sa c d g f ((l+r)/2+1) r (by lia) (by lia) q (λi a=>KeyOrd.kle_trans (g.le' (by lia) (by lia)) o) j
theorem HC (h0:0<n):∀ (f:Nat) (p:Array Nat) (k:Nat),Pm n p->k+f=n->Asc key p k->Tw (lt O key) n (kas_bin f p k) fun p'=>Pm n p'/\Asc key p' n
 | 0, p, k, hp, hk, ha => ⟨hp, by have : k = n := by lia
                                  rw[<-this];exact ha⟩
 |f+1,p,k,hp,hk,ha=>by
   have hz:=hp.size;unfold kas_bin;refine MV _ (Tw_mono ?_ _ (Sa (O:=O) (key:=key) h0 hp ha k 0 k (by lia) (by lia) (AG _) (λi h=>by lia) λi a b=>by lia));rintro l ⟨b1,b2,b3⟩;have Z:=X7 (key:=key) (p:=p) (k:=k) (l:=l) (by lia) b1;refine HC h0 f _ (k+1) (hp.bub _ _) (by lia) λi hi=>?_;rw[Z,Z];by_cases e1:i=l;rw[Au e1,At (by lia)];by_cases e2:i+1<=k;rw[Au (by lia)];exact KeyOrd.kle_of_klt (b3 (i+1-1) (by lia) (by lia));lia;rw[At e1];by_cases e2:i+1=l;rw[Au e2,At (by lia)];exact b2 i (by lia);rw[At e2];by_cases e3:l<i;rw[Au (by lia),Au (by lia)];have:=ha (i-1) (by lia)
   rwa [show i-1+1=i+1-1 by lia] at this
   rw[At (by lia),At (by lia)];exact ha i (by lia)
def sort_ok(h0:0<n):Tw (lt O key) n (kas_sort n) λp=>Pm n p/\Asc key p n:=by
 unfold kas_sort;refine MV _ (Tw_mono ?_ _ (X8 (O:=O) (key:=key) h0 (Array.Perm.refl _)));rintro⟨m,p⟩ ⟨b1,b2,b3,b4⟩;dsimp only at b1 b2 b3 b4 ⊢;split;rw[show max m 1=m by lia];exact HC h0 _ _ _ b1 (by lia) b4
 exact ⟨b1, by have : m = n := by lia
               rw[<-this];exact b4⟩
end
end KasM
namespace L2
open PySem PySem.Spec PyProof.Rows
section
variable {prog:Program} {w:World} {A:Around} {E:I'} {s:Shared}
def X9{O:KeyOrd}{key:Nat->O.α}{κ:SortKind}{a:Addr}{vs:List Value}{n:Nat}{P:PySem.Fin->Shared->Prop}(f:s.heap.get? a=some (seqObj "list" vs.toArray n))(L:vs.length<64)
 (T:2<=vs.length->∀(h':Heap),(∀b o,b≠a->s.heap.get? b=some o->h'.get? b=some o)->∀(Q:SortKind->Shared->Prop),Q κ {s with heap:=h'}->wpAny (model prog w) A (keyKind' vs.toArray) Q (λζ ζ=>False) {s with heap:=h'})
 (N:∀(h':Heap),(∀b o,b≠a->s.heap.get? b=some o->h'.get? b=some o)->∀(i j:Nat)(C:Bool->Shared->Prop),i<vs.length->j<vs.length->C (O.blt (key i) (key j)) {s with heap:=h'}->PySem.W.kas_ask prog w A κ vs i j C {s with heap:=h'})
 (h:∀d:List Nat,d.Perm (List.range vs.length)->(∀i,i+1<d.length->O.kle (key (d.getD i 0)) (key (d.getD (i+1) 0)))->P (.done (.ret .none)) {s with heap:=sortedHeap s.heap a vs (d.map λi=>vs.getD i Value.none).toArray}) :
 wpAny (model prog w) A (Builtin.«list.sort» ⟨[.ref a],[]⟩) P E s:=by
 rw[list_sort_plain];have v:a<s.heap.objs.size:=Bh f;have V:vs.toArray.size=vs.length:=(by simp);refine Ad (listItems_at f rfl ?_);refine Ad (listUpdate_at f rfl ?_ (by rw[CM,sizeLine_eq];lia) (DP _));obtain⟨r,z⟩:∃r,(s.heap.update a (Obj.mapSeq λζ=>#[])).get? a=some (seqObj "list" #[] r):=⟨_,get?_update_seq f (λζ=>#[])⟩;refine Ad (seqEpoch_at z rfl ?_);refine Ad (wpAny_newTuple ?_ (by show vs.length<=_;rw[sizeLine_eq];lia));refine Ad (wpAny_newList ?_ (DP _));refine FK ?_
 have l:(((s.heap.update a (Obj.mapSeq λζ=>#[])).push (seqObj "tuple" vs.toArray 0)).push (seqObj "list" #[] 0)).get? a=some (seqObj "list" #[] r):=by
  rw[Heap.get?_push_ne _ _ _ (by rw[size_push',Heap.size_update];exact CN (Nat.lt_succ_of_lt v)),Heap.get?_push_ne _ _ _ (by rw[Heap.size_update];exact CN v)];exact z
 have keep:∀b o,b≠a->s.heap.get? b=some o->(((s.heap.update a (Obj.mapSeq λζ=>#[])).push (seqObj "tuple" vs.toArray 0)).push (seqObj "list" #[] 0)).get? b=some o:=λb o D q=>by
  refine Bo _ (Bo _ ?_);rw[Heap.get?_update_ne _ _ _ _ D];exact q
 show wpAny (model prog w) A _ P E {s with heap:=((s.heap.update a (Obj.mapSeq λζ=>#[])).push (seqObj "tuple" vs.toArray 0)).push (seqObj "list" #[] 0)};dsimp only;by_cases g:vs.toArray.size<2;rw[Au g,Au g];refine Ad (Az ?_);rw[StateT.run_pure];refine Ad (Az ?_);dsimp only;refine Ad (seqEpoch_at l rfl ?_);refine Ad (listUpdate_at l rfl ?_ (DP _) (by rw[Array.size_map];show(pairsOf vs).size<=_;rw[pairsOf_size,sizeLine_eq];lia));simp only[bne_self_eq_false,FD,if_false];have:=h (List.range vs.length) (List.Perm.refl _) (λi t=>by rw[List.length_range] at t;lia)
 have e:((List.range vs.length).map λi=>vs.getD i Value.none).toArray=(arrOf (SortSt.mk' general' (vs.toArray.zip vs.toArray) #[] 7 none)).map (·.2):=by
  apply Array.toList_inj.mp;show(List.range vs.length).map (λi=>vs.getD i Value.none)=((vs.toArray.zip vs.toArray).map (·.2)).toList;apply List.ext_getElem?;intro k;by_cases y:k<vs.length;simp[y,B6];simp[y]
 rw[e] at this;exact Az this;rw[At g,At g];have B:2<=vs.length:=(by lia);refine Ad (FL (T B _ keep (λκ' Z=>κ'=κ/\Z=_) ⟨rfl,rfl⟩) ?_ λζ ζ x=>x.elim);rintro κ' Z ⟨rfl,rfl⟩
 refine Ad (FL (PySem.W.kat_run (Q:=λm Z=>∃p:Array Nat,arrOf m=p.map (PySem.W.kas_item (vs.toArray.zip vs.toArray))/\failedOf m=none/\KasM.Pm vs.length p/\KasM.Asc key p vs.length/\Z={s with heap:=((s.heap.update a (Obj.mapSeq λζ=>#[])).push (seqObj "tuple" vs.toArray 0)).push (seqObj "list" #[] 0)})
  (G:=λp Z=>KasM.Pm vs.length p/\KasM.Asc key p vs.length/\Z={s with heap:=((s.heap.update a (Obj.mapSeq λζ=>#[])).push (seqObj "tuple" vs.toArray 0)).push (seqObj "list" #[] 0)})
  rfl B L (λF m Z U H I u=>⟨F,H,I,u.1,u.2.1,u.2.2⟩)
  (KasM.Tw_wp (lt:=KasM.lt O key) (n:=vs.length) (N _ keep) _ (KasM.Tw_mono (λp c=>⟨c.1,c.2,rfl⟩) _ (KasM.sort_ok (O:=O) (key:=key) (by lia))))) ?_ λζ ζ e=>e)
 rintro⟨⟨⟩,m⟩ Z ⟨p,M,J,c,R,rfl⟩;dsimp only;have S:=PySem.W.kat_snds (ks:=vs) (vs:=vs) rfl M;rw[S];refine Ad (seqEpoch_at l rfl ?_);refine Ad (listUpdate_at l rfl ?_ (DP _) (by rw[CM,Ak,Array.length_toList,c.size,sizeLine_eq];lia));rw[J];simp only[bne_self_eq_false,FD,if_false];refine Az (h p.toList (by have:=Array.perm_iff_toList_perm.mp c;simpa using this) λi t=>?_);have K:=c.size;have:=R i (by simpa [K] using t);simpa [KasM.K,Array.getD_eq_getD_getElem?,B6] using this
def Sb{O:KeyOrd}{key:Nat->O.α}{κ:SortKind}{l:Addr}{vs:List Value}{Q:I'}(g:s.heap.IsList l vs.toArray)(v:vs.length<64)
 (y:2<=vs.length->∀(h':Heap),(∀b o,s.heap.get? b=some o->h'.get? b=some o)->∀(Q:SortKind->Shared->Prop),Q κ {s with heap:=h'}->wpAny (model prog w) A.in1.in1 (keyKind' vs.toArray) Q (λζ ζ=>False) {s with heap:=h'})
 (x:∀(h':Heap),(∀b o,s.heap.get? b=some o->h'.get? b=some o)->∀(i j:Nat)(C:Bool->Shared->Prop),i<vs.length->j<vs.length->C (O.blt (key i) (key j)) {s with heap:=h'}->PySem.W.kas_ask prog w A.in1.in1 κ vs i j C {s with heap:=h'})
 (h:∀(D:Addr)(h':Heap)(n:Nat)(a:List Nat),(∀b o,s.heap.get? b=some o->h'.get? b=some o)->(∀b o,s.heap.get? b=some o->b≠D)->a.Perm (List.range vs.length)->(∀i,i+1<a.length->O.kle (key (a.getD i 0)) (key (a.getD (i+1) 0))) ->
  h'.get? D=some (seqObj "list" (a.map λi=>vs.getD i Value.none).toArray n)->Q (.ref D) {s with heap:=h'}) :
 wpAny (model prog w) A (call (.builtin "sorted") [.ref l]) Q E s:=by
 refine Calls.call_function_entry kind_sorted plain_sorted entry_sorted (args_sorted1 _) ?_;unfold Builtin.«sorted»;refine Ad (m:=checkCount "sorted" 1 1 _) (Az ?_);refine Ad (collect_list g ?_ (by rw[sizeLine_eq];lia));refine Ad (wpAny_newList ?_ (by rw[sizeLine_eq];lia))
 have d:((s.heap.push (seqObj "list" #[] 0)).update s.heap.objs.size (Obj.mapSeq (·++vs.toArray))).objs.size=s.heap.objs.size+1:=by
  rw[Heap.size_update,size_push']
 have e:(((s.heap.push (seqObj "list" #[] 0)).update s.heap.objs.size (Obj.mapSeq (·++vs.toArray))).push (seqObj "list" vs.toArray 0)).get? (s.heap.objs.size+1)=some (seqObj "list" vs.toArray 0):=by
  rw[<-d];exact Cp _ rfl
 have keep:∀b o,s.heap.get? b=some o->(((s.heap.push (seqObj "list" #[] 0)).update s.heap.objs.size (Obj.mapSeq (·++vs.toArray))).push (seqObj "list" vs.toArray 0)).get? b=some o:=λb o q=>by
  have f:b<s.heap.objs.size:=Bh q;rw[Heap.get?_push_ne _ _ _ (by rw[d];exact CN (Nat.lt_succ_of_lt f)),Heap.get?_update_ne _ _ _ _ (CN f),Heap.get?_push_ne _ _ _ (CN f)];exact q
 have c:∀b o,s.heap.get? b=some o->b≠s.heap.objs.size+1:=λb o q=>CN (Nat.lt_succ_of_lt (Bh q));show wpAny _ _ _ _ _ {s with heap:=((s.heap.push (seqObj "list" #[] 0)).update s.heap.objs.size (Obj.mapSeq (·++vs.toArray))).push (seqObj "list" vs.toArray 0)};rw[d];refine Ad (FK (wpAny_call_entry slot_list_sort ⟨_,e,rfl⟩ entry_list_sort ?body (args_list_sort _)))
 case body =>
  refine X9 (s:={s with heap:=((s.heap.push (seqObj "list" #[] 0)).update s.heap.objs.size (Obj.mapSeq (·++vs.toArray))).push (seqObj "list" vs.toArray 0)}) (key:=key) (κ:=κ) e v
   (λp h' k=>y p h' λb o q=>k b o (c b o q) (keep b o q)) (λh' k=>x h' λb o q=>k b o (c b o q) (keep b o q)) λa r t=>?_
  obtain⟨n,u⟩:=sortedHeap_at (vs:=vs) (out:=(a.map λi=>vs.getD i Value.none).toArray) e;refine⟨_,rfl,Az ⟨_,rfl,h (s.heap.objs.size+1) _ n a (λb o q=>?_) c r t u⟩⟩;show(sortedHeap (((s.heap.push (seqObj "list" #[] 0)).update s.heap.objs.size (Obj.mapSeq (·++vs.toArray))).push (seqObj "list" vs.toArray 0)) (s.heap.objs.size+1) vs _).get? b=some o;rw[sortedHeap_old (c b o q) (Bh (keep b o q))];exact keep b o q
end
@[reducible] def BM (O P:KeyOrd):KeyOrd where
 α:=O.α×P.α
 blt x y:=O.blt x.1 y.1 || (!O.blt y.1 x.1 && P.blt x.2 y.2)
 irrefl x:=by simp[O.irrefl,P.irrefl]
 trans x y z h1 h2:=by
  simp only[Bool.or_eq_true,Bool.and_eq_true,Bool.not_eq_true'] at h1 h2 ⊢;rcases h1 with h1|⟨h1,k1⟩<;>rcases h2 with h2|⟨h2,k2⟩;exact .inl (O.trans _ _ _ h1 h2);exact .inl (KeyOrd.klt_of_klt_of_kle h1 h2);exact .inl (KeyOrd.klt_of_kle_of_klt h1 h2);exact .inr ⟨KeyOrd.kle_trans (O:=O) h1 h2,P.trans _ _ _ k1 k2⟩
 negTrans x y z h:=by
  simp only[Bool.or_eq_true,Bool.and_eq_true,Bool.not_eq_true'] at h ⊢;rcases h with h|⟨h,k⟩;rcases O.negTrans _ y.1 _ h with h|h;exact .inl (.inl h);exact .inr (.inl h)
  cases e1:O.blt x.1 y.1 with
  |true=>exact .inl (.inl rfl)
  |false =>
    cases e2:O.blt y.1 z.1 with
    |true=>exact .inr (.inl rfl)
    |false =>
      have a1:O.kle y.1 x.1:=e1;have a2:O.kle z.1 y.1:=e2;have a3:O.kle x.1 z.1:=h;have b1:O.blt y.1 x.1=false:=KeyOrd.kle_trans (O:=O) a3 a2;have b2:O.blt z.1 y.1=false:=KeyOrd.kle_trans (O:=O) a1 a3;rcases P.negTrans _ y.2 _ k with k|k;exact .inl (.inr ⟨b1,k⟩);exact .inr (.inr ⟨b2,k⟩)
 total x y h1 h2:=by
  simp only[Bool.or_eq_false_iff,Bool.and_eq_false_iff,Bool.not_eq_false'] at h1 h2;have e1:x.1=y.1:=O.total _ _ h1.1 h2.1;have e2:x.2=y.2:=P.total _ _ (by rcases h1.2 with z|z;exact absurd (h2.1.symm.trans z) (by simp);exact z) (by rcases h2.2 with z|z;exact absurd (h1.1.symm.trans z) (by simp);exact z);exact Prod.ext e1 e2
@[reducible] def B2:KeyOrd where
 α:=Str
 blt a b:=decide (a.cps.toList<b.cps.toList)
 irrefl a:=by simpa using List.lt_irrefl a.cps.toList
 trans a b c h1 h2:=by simp only[decide_eq_true_eq] at *;exact List.lt_trans h1 h2
 negTrans a b c h:=by
  simp only[decide_eq_true_eq] at *
  by_cases hab:a.cps.toList<b.cps.toList;exact .inl hab;exact .inr (List.lt_of_le_of_lt (List.not_lt.mp hab) h)
 total a b h1 h2:=by simp only[decide_eq_false_iff_not] at *;exact ext_toList (List.le_antisymm (List.not_lt.mp h2) (List.not_lt.mp h1))
@[reducible] def Jn:KeyOrd where
 α:=Int
 blt a b:=decide (a<b)
 irrefl a:=by simp
 trans a b c h1 h2:=by simp only[decide_eq_true_eq] at *;lia
 negTrans a b c h:=by simp only[decide_eq_true_eq] at *;lia
 total a b h1 h2:=by simp only[decide_eq_false_iff_not] at *;lia
structure IA where
 O:KeyOrd
 val:O.α->V
 dflt:O.α
 T:Value
 tT:(T==T)=true
 tN:(T != Value.type "tuple")=true
 look:∀(M:Model)(h:Heap)(a:O.α)(u:Value),RelV (val a) u->PySem.W.Looks M h (typeOf u) T
 eqB:∀(prog:Program)(w:World)(A:Around)(E:I')(s:Shared)(a b:O.α)(u v:Value)(Q:Bool->Shared->Prop),RelV (val a) u->RelV (val b) v->(∀e:Bool,(e=true↔a=b)->Q e s)->wpAny (model prog w) A (eqBool u v) Q E s
 ltB:∀(prog:Program)(w:World)(A:Around)(E:I')(s:Shared)(a b:O.α)(u v:Value)(Q:Bool->Shared->Prop),RelV (val a) u->RelV (val b) v->Q (O.blt a b) s->wpAny (model prog w) A (oneLt' true u v) Q E s
 ltC:∀(prog:Program)(w:World)(A:Around)(E:I')(s:Shared)(a b:O.α)(u v:Value)(Q:Bool->Shared->Prop),RelV (val a) u->RelV (val b) v->Q (O.blt a b) s->wpAny (model prog w) A (oneLt' false u v) Q E s
@[reducible] def E4:IA where
 O:=B2
 val:=V.str
 dflt:=default
 T:=.type "str"
 tT:=by decide
 tN:=by decide
 look M h a u r:=by obtain⟨t,rfl⟩:=r;exact PySem.W.Looks.of_pure rfl
 eqB prog w A E s a b u v Q r r' h:=by
  obtain⟨t,rfl⟩:=r;obtain⟨t',rfl⟩:=r';exact eqBool_str (h _ (by simp))
 ltB prog w A E s a b u v Q r r' h:=by
  obtain⟨t,rfl⟩:=r;obtain⟨t',rfl⟩:=r';exact oneLt_str h
 ltC prog w A E s a b u v Q r r' h:=by
  obtain⟨t,rfl⟩:=r;obtain⟨t',rfl⟩:=r';exact PySem.W.kat_one _ _ (PySem.P.lt_str h)
@[reducible] def Jo:IA where
 O:=Jn
 val:=V.int
 dflt:=0
 T:=.type "int"
 tT:=by decide
 tN:=by decide
 look M h a u r:=by obtain⟨t,rfl⟩:=r;exact PySem.W.Looks.of_pure rfl
 eqB prog w A E s a b u v Q r r' h:=by
  obtain⟨t,rfl⟩:=r;obtain⟨t',rfl⟩:=r';exact wpAny_eqBool_int (h _ (by simp))
 ltB prog w A E s a b u v Q r r' h:=by
  obtain⟨t,rfl⟩:=r;obtain⟨t',rfl⟩:=r';exact oneLt_int h
 ltC prog w A E s a b u v Q r r' h:=by
  obtain⟨t,rfl⟩:=r;obtain⟨t',rfl⟩:=r';exact PySem.W.kat_one _ _ (PySem.P.lt_int h)
variable {c d:IA}
def Jp(x y:(BM c.O d.O).α)(e:x.1=y.1):(BM c.O d.O).blt x y=d.O.blt x.2 y.2:=by
 show(c.O.blt x.1 y.1 || (!c.O.blt y.1 x.1 && d.O.blt x.2 y.2))=_;rw[e,c.O.irrefl];rfl
def Jq(x y:(BM c.O d.O).α)(e:x.1≠y.1):(BM c.O d.O).blt x y=c.O.blt x.1 y.1:=by
 show(c.O.blt x.1 y.1 || (!c.O.blt y.1 x.1 && d.O.blt x.2 y.2))=_
 cases a:c.O.blt x.1 y.1 with
 |true=>rfl
 |false =>
   cases b:c.O.blt y.1 x.1 with
   |true=>rfl
   |false=>exact absurd (c.O.total _ _ a b) e
section
variable {prog:Program} {w:World} {A:Around} {E:I'} {s:Shared}
def Yb(c d:IA){x y:Addr}{p q:(BM c.O d.O).α}{b f g i:Value}{Q:Bool->Shared->Prop}(r:IsTup s.heap x #[b,f])(t:IsTup s.heap y #[g,i])(j:RelV (c.val p.1) b)(k:RelV (d.val p.2) f)(l:RelV (c.val q.1) g)(o:RelV (d.val q.2) i)
 (h:Q ((BM c.O d.O).blt p q) s):wpAny (model prog w) A (keyLt' (tuples' true) (.ref x) (.ref y)) Q E s:=by
 obtain⟨F,B,_,n,u⟩:=r;obtain⟨G,C,_,m,v⟩:=t;refine PySem.W.kat_lt B u C v (PySem.W.kat_cons (c.eqB _ _ _ _ _ _ _ _ _ _ j l λe a=>?_))
 cases e with
 |false =>
   have D:p.1≠q.1:=λz=>Df (a.mpr z);rw[Jq _ _ D] at h;exact PySem.W.kat_no (c.ltB _ _ _ _ _ _ _ _ _ _ j l h)
 |true =>
   rw[Jp _ _ (a.mp rfl)] at h;refine PySem.W.kat_yes (PySem.W.kat_cons (d.eqB _ _ _ _ _ _ _ _ _ _ k o λe a=>?_))
   cases e with
   |false=>exact PySem.W.kat_no (d.ltC _ _ _ _ _ _ _ _ _ _ k o h)
   |true =>
     refine PySem.W.kat_yes (PySem.W.kat_nil ?_);rw[a.mp rfl,d.O.irrefl] at h;exact h
end
theorem Pk{α:Type}{R:α->α->Prop}(tr:∀a b c,R a b->R b c->R a c):∀(l:List α),(∀i a b,l[i]?=some a->l[i+1]?=some b->R a b)->l.Pairwise R
 |[],_=>.nil
 |[x],_=>by simp
 |x::y::r,h=>by
   have f:=Pk tr (y::r) λi a b j k=>h (i+1) a b (by simpa using j) (by simpa using k);have g:R x y:=h 0 x y rfl rfl;refine List.pairwise_cons.mpr ⟨λz d=>?_,f⟩;rcases BI.mp d with e|d;rw[e];exact g;exact tr _ _ _ g ((List.pairwise_cons.mp f).1 z d)
section
variable {X:Cx}
abbrev Row (c d:IA):Type:=V×(BM c.O d.O).α
def LG (X:Cx) (c d:IA):List V->Hp->VK->Prop:=λvs H Q=>∃(l:Addr)(zs:List (Row c d)),vs=[.ref l]/\Af X.K H l (zs.map (·.1))/\zs.length<64 /\
 (∀z∈zs,∃t,z.1=.ref t/\Al X.K H t [c.val z.2.1,d.val z.2.2])/\∀(D:Addr)(zs':List (Row c d)),zs'.Perm zs->(zs'.map (·.2)).Pairwise (BM c.O d.O).kle->H D=none->Q (.ref D) (upd H D (.lst (zs'.map (·.1))))
def HR (c d:IA) (h:Heap) (z:Row c d) (v:Value):Prop:=∃t u1 u2,z.1=.ref t/\v=.ref t/\IsTup h t #[u1,u2]/\RelV (c.val z.2.1) u1/\RelV (d.val z.2.2) u2
def HR.keeps{c d:IA}{h h':Heap}{z:Row c d}{v:Value}(k:∀b o,h.get? b=some o->h'.get? b=some o)(x:HR c d h z v):HR c d h' z v:=by
 obtain⟨t,a,e,f,g,i,j⟩:=x;exact⟨t,a,e,f,g,i.keeps k,j⟩
def Jr{h:Heap}(zs:List (Row c d))(f:List Value)(g:Paired (HR c d h) zs f):∃fs,PySem.W.KatTups h f fs/\fs.length=zs.length/\∀v∈fs,∃a,RelV (c.val a) v:=by
 induction g with
 |nil=>exact⟨[],.nil,rfl,λζ x=>by cases x⟩
 |cons i r j =>
   obtain⟨t,k,z,A,l,⟨o,m,p,n,q⟩,s,B⟩:=i;obtain⟨fs,u,w,y⟩:=j;subst l;refine⟨k::fs,.cons m p q rfl u,by simp[w],λv b=>?_⟩;rcases BI.mp b with e|b;exact⟨_,e▸s⟩;exact y v b
def NU{α β:Type}{R:α->β->Prop}{xs:List α}{ys:List β}(h:Paired R xs ys):∀(i:Nat)(b:α)(c:β),i<xs.length->R (xs.getD i b) (ys.getD i c):=by
 induction h with
 |nil=>intro i b c h;simp at h
 |cons a r d =>
   intro i b c h
   cases i with
   |zero=>exact a
   |succ i=>simpa using d i b c (by simpa using h)
theorem Pl{α β γ:Type}{R:α->β->Prop}{f:γ->α}{g:γ->β}:∀(l:List γ),(∀x∈l,R (f x) (g x))->Paired R (l.map f) (l.map g)
 |[],_=>.nil
 |x::l,h=>.cons (h x BF) (Pl l λy a=>h y (Cw _ a))
theorem Kw{c d:IA}{pins:B'}{σ:L2.St}{H:Hp}{s:Shared}(I:Inv X pins σ H s):∀(zs:List (Row c d))(f:List Value),Ax (zs.map (·.1)) f->(∀z∈zs,∃t,z.1=.ref t/\Al X.K H t [c.val z.2.1,d.val z.2.2])->Paired (HR c d s.heap) zs f
 |[],f,r,_=>by cases r;exact .nil
 | z :: zs,f,r,h=>by
   cases r with
   |cons a b =>
     obtain⟨t,e,j⟩:=h z BF;obtain⟨n,g,k,_⟩:=I.tuple j
     cases g with
     |cons g i =>
       cases i with
       |cons i l =>
         cases l;dsimp only at a;rw[e] at a;exact .cons ⟨t,_,_,e,a,k,g,i⟩ (Kw I zs _ b λy m=>h y (Cw _ m))
theorem Va(c d:IA):Bs X (.builtin "sorted") (LG X c d):=by
 intro ar s σ H vs us ak I r h;obtain⟨l,b,rfl,Q,aq,R,q⟩:=h;obtain⟨u,rfl,S⟩:=Gh r;obtain rfl:u=Value.ref l:=S;obtain⟨g,U,W,_⟩:=I.list Q;have m:=Kw I b g U R;have N:b.length=g.length:=m.length
 let e:Row c d:=(V.non,(c.dflt,d.dflt))
 refine Sb (O:=BM c.O d.O) (key:=λi=>(b.getD i e).2) (κ:=tuples' true) (vs:=g) (by obtain⟨o,n,w,p,F,A⟩:=W;exact⟨o,w,p,n,A⟩) (by lia) (λB C k Q' Y=>?_) (λC k i j al z hj hC=>?_) λD C n f Z G M ae hg=>?_;have af:Paired (HR c d C) b g:=Paired.mapP m λζ ζ x=>x.keeps k;obtain⟨fs,k1,k2,k3⟩:=Jr _ _ af;refine PySem.W.kat_kind (T:=c.T) k1 (by lia) (λv E=>?_) c.tT (by rw[c.tN];exact Y);obtain⟨a,ha⟩:=k3 v E;exact c.look _ _ a v ha;obtain⟨t,u1,u2,w,p,F,A,a5⟩:=(NU m i e Value.none (by lia)).keeps k;obtain⟨t',ao,v2,b1,b2,b3,b4,b5⟩:=(NU m j e Value.none (by lia)).keeps k;unfold PySem.W.kas_ask;rw[p,b2];exact Yb c d F b3 A a5 b4 b5 hC
 have ag:∀i∈f,i<b.length:=λi z=>by
  have:=M.mem_iff.mp z;rw[N];simpa using this
 have aj:(List.range b.length).map (λi=>b.getD i e)=b:=by
  apply List.ext_getElem?;intro k;by_cases J:k<b.length;simp[J,B6];simp[J]
 have P:(f.map λi=>b.getD i e).Perm b:=by
  have:=M.map (λi=>b.getD i e)
  rwa [<-N,aj] at this
 have E:Ax ((f.map λi=>b.getD i e).map (·.1)) (f.map λi=>g.getD i Value.none):=by
  rw[El];refine Pl f λi z=>?_;obtain⟨t,u1,u2,w,p,_⟩:=NU m i e Value.none (ag i z);show RelV (b.getD i e).1 (g.getD i Value.none);rw[w,p];exact rfl
 have ah:((f.map λi=>b.getD i e).map (·.2)).Pairwise (BM c.O d.O).kle:=by
  refine Pk (λζ ζ ζ=>KeyOrd.kle_trans) _ λi a an K B=>?_;rw[El,AM,ER] at K B;obtain⟨x,e1,rfl⟩:=K;obtain⟨y,L,rfl⟩:=B;obtain⟨ai,_⟩:=Bi.mp L;have:=ae i ai;have aa:f.getD i 0=x:=by rw[B6,e1];rfl
  have ab:f.getD (i+1) 0=y:=by rw[B6,L];rfl
  rw[aa,ab] at this;exact this
 exact⟨.ref D,upd H D (.lst ((f.map λi=>b.getD i e).map (·.1))),I.laidN (t':=s.toks) Z G ⟨by rw[Ak,P.length_eq];exact CU (BL (by lia)),_,n,E,hg⟩,rfl,q D _ P ah (I.freshN G)⟩
end
open Ord
abbrev DS (p:Str×Int):Dt:=.tup [.str p.1,.int p.2]
abbrev CA:Type:=List (Str×Int)×List Str
abbrev HD (s:CA):Dt:=.tup [.lst (s.1.map DS),.lst (s.2.map Dt.str)]
def Dm (K:Aj) (H:Hp) (a:Addr) (gs:List (Str×Int)):Prop:=∃vs,Af K H a vs/\Ai K H vs (gs.map DS)
def HE (K:Aj) (H:Hp) (a:Addr) (ss:List CA):Prop:=∃vs,Af K H a vs/\Ai K H vs (ss.map HD)
def Dm.same{K:Aj}{H H':Hp}{a:Addr}{gs:List (Str×Int)}(e:Ac H H')(h:Dm K H a gs):Dm K H' a gs:=by
 obtain⟨b,c,d⟩:=h;exact⟨b,e.seq c,d.same e⟩
theorem Vb{K:Aj}{H:Hp}:∀{vs:List V}{xs:List Str},Ai K H vs (xs.map Dt.str)->vs=xs.map V.str
 |_,[],.nil=>rfl
 |_,_::_,.cons h t=>by cases h;rw[Vb t];rfl
variable {H:Hp}{v:V}{p:Str×Int}
def Kx{K:Aj}(h:Aq K H v (DS p)):∃t,v=.ref t/\Al K H t [.str p.1,.int p.2]:=by
 cases h with
 | tup h t =>
   cases t with
   |cons a t =>
     cases t with
     |cons b t =>
       cases t;cases a;cases b;exact⟨_,rfl,h⟩
variable {vs:List V}{gs:List (Str×Int)}{i:Nat}
def Ai.goes_get{K:Aj}(h:Ai K H vs (gs.map DS))(hv:vs[i]?=some v):∃p t,gs[i]?=some p/\v=.ref t/\Al K H t [.str p.1,.int p.2]:=by
 obtain⟨d,hd,a⟩:=h.get hv;rw[AM] at hd
 cases e:gs[i]? with
 |none=>rw[e] at hd;cases hd
 |some p =>
   rw[e] at hd;cases hd;obtain⟨t,b,c⟩:=Kx a;exact⟨p,t,rfl,b,c⟩
def NV{K:Aj}{s:CA}(h:Aq K H v (HD s)):∃t g e,v=.ref t/\Al K H t [.ref g,.ref e]/\Dm K H g s.1/\Af K H e (s.2.map V.str):=by
 cases h with
 | tup h t =>
   cases t with
   |cons b t =>
     cases t with
     |cons c t =>
       cases t
       cases b with
       |lst d f =>
         cases c with
         |lst a i =>
           rw[Vb i] at a;exact⟨_,_,_,rfl,h,⟨_,d,f⟩,a⟩
variable {α:Type}
def Ai.len_map{K:Aj}{f:α->Dt}{xs:List α}(h:Ai K H vs (xs.map f)):vs.length=xs.length:=by
 have:=h.length
 rwa [Ak] at this
def Yc{b:List Value}{ss:List Str}(c:StrsAre b ss)(a:2<=b.length):keyKind' b.toArray=pure oneType':=by
 match b,c,a with
 |[],_,a=>simp at a
 |[_],_,a=>simp at a
 |d::e::j,c,_=>exact keyKind_strs c
section
variable {X:Cx}
def LH (X:Cx):List V->Hp->VK->Prop:=λvs H Q=>∃(l:Addr)(ss:List Str),vs=[.ref l]/\Af X.K H l (ss.map V.str)/\ss.length<64/\∀(D:Addr)(r:List Str),r.Perm ss->r.Pairwise B2.kle->H D=none->Q (.ref D) (upd H D (.lst (r.map V.str)))
theorem Yd:Bs X (.builtin "sorted") (LH X):=by
 intro ai s σ H vs us ab I r h;obtain⟨l,a,rfl,F,ah,q⟩:=h;obtain⟨u,rfl,G⟩:=Gh r;obtain rfl:u=Value.ref l:=G;obtain⟨g,m,J,_⟩:=I.list F;have K:=X4 m;have C:a.length=g.length:=by have:=m.length;rwa [Ak] at this
 have p:∀i,i<a.length->∃t,g.getD i Value.none=.str (a.getD i default) t:=λi c=>by
  have:=NU m i V.non Value.none (by rw[Ak];exact c)
  have e:(a.map V.str).getD i V.non=V.str (a.getD i default):=by
   rw[B6,AM,B6,AB c];rfl
  rw[e] at this;exact this
 refine Sb (O:=B2) (key:=λi=>a.getD i default) (κ:=oneType') (vs:=g) J.isList (by lia) (λd v k Q' L=>?_) (λv k i j ae c hj M=>?_) λD v n b Z w B T N=>?_;rw[Yc K d];exact Az L;obtain⟨t,o⟩:=p i (by lia);obtain⟨t',f⟩:=p j (by lia);unfold PySem.W.kas_ask;rw[o,f,keyLt'_oneType];exact oneLt_str M
 have U:∀i∈b,i<a.length:=λi c=>by
  have:=B.mem_iff.mp c;rw[C];simpa using this
 have aa:(List.range a.length).map (λi=>a.getD i default)=a:=by
  apply List.ext_getElem?;intro k;by_cases z:k<a.length;simp[z,B6];simp[z]
 have E:(b.map λi=>a.getD i default).Perm a:=by
  have:=B.map (λi=>a.getD i default)
  rwa [<-C,aa] at this
 have P:Ax ((b.map λi=>a.getD i default).map V.str) (b.map λi=>g.getD i Value.none):=by
  rw[El];exact Pl b λi c=>p i (U i c)
 have W:(b.map λi=>a.getD i default).Pairwise B2.kle:=by
  refine Pk (R:=B2.kle) (λζ ζ ζ h k=>KeyOrd.kle_trans (O:=B2) h k) _ λi af ag A d=>?_;rw[AM,ER] at A d;obtain⟨x,o,rfl⟩:=A;obtain⟨y,f,rfl⟩:=d;obtain⟨Y,_⟩:=Bi.mp f;have:=T i Y;have Q:b.getD i 0=x:=by rw[B6,o];rfl
  have S:b.getD (i+1) 0=y:=by rw[B6,f];rfl
  rw[Q,S] at this;exact this
 exact⟨.ref D,upd H D (.lst ((b.map λi=>a.getD i default).map V.str)),I.laidN (t':=s.toks) Z w ⟨by rw[Ak,E.length_eq];exact CU (BL (by lia)),_,n,P,N⟩,rfl,q D _ E W (I.freshN w)⟩
end
abbrev HF (K:Aj) (H:Hp) (z:Row E4 Jo):Prop:=∃t,z.1=.ref t/\Al K H t [V.str z.2.1,V.int z.2.2]
theorem Sc{K:Aj}{H:Hp}:∀{ts:List Addr}{gs:List (Str×Int)},ts.length=gs.length->(∀(n:Nat)(a:Addr)(p:Str×Int),ts[n]?=some a->gs[n]?=some p->H a=some (.tup [.str p.1,.int p.2])) ->
 ∃zs:List (Row E4 Jo),zs.map (·.1)=ts.map V.ref/\zs.map (·.2)=gs/\∀z∈zs,HF K H z
 |[],[],_,_=>⟨[],rfl,rfl,λz hz=>by cases hz⟩
 |[],_::_,h,_=>by simp at h
 |_::_,[],h,_=>by simp at h
 |a::ts,p::gs,h,k=>by
   obtain⟨zs,b,c,d⟩:=Sc (K:=K) (H:=H) (ts:=ts) (gs:=gs) (by simpa using h) λn a p b c=>k (n+1) a p (by simpa using b) (by simpa using c);refine⟨(V.ref a,p)::zs,by rw[EX,b];rfl,by rw[EX,c],λz hz=>?_⟩;rcases BI.mp hz with e|hz;rw[e];exact⟨a,rfl,Al.of (k 0 a p rfl rfl)⟩;exact d z hz
theorem Sd{K:Aj}{H:Hp}:∀(zs:List (Row E4 Jo)),(∀z∈zs,HF K H z)->Ai K H (zs.map (·.1)) ((zs.map (·.2)).map DS)
 |[],_=>.nil
 |z::zs,h=>by
   obtain⟨t,e,a⟩:=h z BF;refine .cons ?_ (Sd zs λy b=>h y (Cw _ b));show Aq K H z.1 (DS z.2);rw[e];exact .tup a (.cons (.str _) (.cons (.int _) .nil))
structure Bn (K:Aj) (F:Addr->Prop) (H:Hp) (D:Addr) (us:List Addr) (rs:List CA):Prop where
 len:us.length=rs.length
 at_:∀(i:Nat)(u:Addr)(r:CA),us[i]?=some u->rs[i]?=some r->∃G E xs,H u=some (.tup [.ref G,.ref E])/\Dm K H G r.1/\H G=some (.lst xs)/\H E=some (.lst (r.2.map V.str))/\G≠D/\E≠D/\F G/\F E
variable {F:Addr->Prop}{D:Addr}
def Bn.nil{K:Aj}:Bn K F H D [] []:=⟨rfl,λi u r h=>by simp at h⟩
def Bn.same{K:Aj}{F:Addr->Prop}{H H':Hp}{D:Addr}{a:List Addr}{b:List CA}(e:Ac H H')(h:Bn K F H D a b):Bn K F H' D a b:=by
 refine⟨h.len,λi u r c d=>?_⟩;obtain⟨G,E,f,g,j,k,l,m,n,o⟩:=h.at_ i u r c d;exact⟨G,E,f,e _ _ g,j.same e,e _ _ k,e _ _ l,m,n,o⟩
variable {u G E:Addr}{xs:List V}{us:List Addr}{rs:List CA}
def Bn.snoc{K:Aj}{r:CA}(h:Bn K F H D us rs)(d:H u=some (.tup [.ref G,.ref E]))(f:Dm K H G r.1)(g:H G=some (.lst xs))(j:H E=some (.lst (r.2.map V.str)))(k:G≠D)(l:E≠D)(m:F G)(n:F E):Bn K F H D (us++[u]) (rs++[r]):=by
 refine⟨by rw[AO,AO,h.len];rfl,λi v q a b=>?_⟩;rcases Nat.lt_or_ge i us.length with c|p;rw[EQ c] at a;rw[EQ (by rw[<-h.len];exact c)] at b;exact h.at_ i v q a b;have o:i<(us++[u]).length:=(Bi.mp a).1;rw[AO,Ew] at o;have e:i=us.length:=(by lia);subst e;rw[E8 (AG _),Nat.sub_self] at a;rw[E8 (by rw[h.len];exact AG _),h.len,Nat.sub_self] at b;cases a;cases b;exact⟨G,E,xs,d,f,g,j,k,l,m,n⟩
def Gj:([]:List V).length+1+1+1<=sizeLine:=by decide
theorem Bn.dts{K:Aj}{F:Addr->Prop}{H:Hp}{D:Addr}:∀{us:List Addr}{rs:List CA},Bn K F H D us rs->Ai K H (us.map V.ref) (rs.map HD)
 |[],[],_=>.nil
 |[],_::_,h=>by have:=h.len;simp at this
 |_::_,[],h=>by have:=h.len;simp at this
 |u::us,r::rs,h=>by
   obtain⟨G,E,xs,a,⟨g,b,f⟩,j,c,_⟩:=h.at_ 0 u r rfl rfl;refine .cons (.tup (Al.of a) (.cons (.lst b f) (.cons (.lst (Af.of c) (Ai.strs _)) .nil))) ?_;exact Bn.dts (D:=D) ⟨by simpa using h.len,λi v q d e=>h.at_ (i+1) v q (by simpa using d) (by simpa using e)⟩
variable {a:Addr}
def Bn.stts{K:Aj}(e:H a=some (.lst (us.map V.ref)))(h:Bn K F H a us rs):HE K H a rs:=⟨_,Af.of e,h.dts⟩
variable {O:KeyOrd}
def LI{l m:List O.α}(h:l.Perm m)(c:l.Pairwise O.kle)(d:m.Pairwise O.kle):l=m:=
 h.eq_of_pairwise (λa b ζ ζ x y=>KeyOrd.kle_antisymm x y) c d
def Se(p q:Str×Int):Di 2 (DS p) (DS q):=.tup (.cons (.str _ _) (.cons (.int _ _) (.nil _)))
structure GT (H:Hp) (ts:List Addr) (gs:List (Str×Int)):Prop where
 len:ts.length=gs.length
 at_:∀(n:Nat)(t:Addr)(p:Str×Int),ts[n]?=some t->gs[n]?=some p->H t=some (.tup [.str p.1,.int p.2])
def GT.nil:GT H [] []:=⟨rfl,λn t p h=>by simp at h⟩
variable {H':Hp}{ts:List Addr}
def GT.same(e:Ac H H')(h:GT H ts gs):GT H' ts gs:=⟨h.len,λn t p a b=>e _ _ (h.at_ n t p a b)⟩
variable {o:HO}
def GT.updL(b:H a=some (.lst xs))(h:GT H ts gs):GT (upd H a o) ts gs:=⟨h.len,λn t p c d=>by
 have:=h.at_ n t p c d;rw[AH λz=>by rw[z,b] at this;cases this]
 exact this⟩
def GT.snoc{t:Addr}(h:GT H ts gs)(e:H t=some (.tup [.str p.1,.int p.2])):GT H (ts++[t]) (gs++[p]):=by
 refine⟨by rw[AO,AO,h.len];rfl,λn v q a b=>?_⟩;rcases Nat.lt_or_ge n ts.length with c|g;rw[EQ c] at a;rw[EQ (by rw[<-h.len];exact c)] at b;exact h.at_ n v q a b;have f:n<(ts++[t]).length:=(Bi.mp a).1;rw[AO,Ew] at f;have d:n=ts.length:=(by lia);subst d;rw[E8 (AG _),Nat.sub_self] at a;rw[E8 (by rw[h.len];exact AG _),h.len,Nat.sub_self] at b;cases a;cases b;exact e
def GT.dts{K:Aj}(h:GT H ts gs):Ai K H (ts.map V.ref) (gs.map DS):=by
 obtain⟨a,b,c,d⟩:=Sc (K:=K) h.len h.at_;rw[<-b,<-c];exact Sd a d
variable {k n:Nat}{te:TE}{σ:St}
def NW{c:List Nat}{g:TG}{U:Hp}{Q:Addr->Hp->Prop}{lo:Int}(Pv:Addr->Nat->List V->Hp->Prop)
 (d:∀D,U D=none->Pv D 0 [] (upd U D (.lst [])))
 (e:∀(D:Addr)(i:Nat)(ys:List V)(Y:Hp)(R:VK),U D=none->i<n->Pv D i ys Y->(∀y a,a D=some (.lst ys)->ys.length<sizeLine->Pv D (i+1) (ys++[y]) (upd a D (.lst (ys++[y])))->R y a)->g (.int (lo+i)) (FP k c σ) Y λσ4 f=>te σ4 f R)
 (hd:∀D ys Y,U D=none->Pv D n ys Y->Q D Y):Ku (MO lo n) k c g Jj te σ U Q:=NO n Pv d (λD i ys Y p b=>b) (λD ys Y p=>AG _) (λD i ys Y x j R l h b p y k m=>by obtain⟨rfl,rfl⟩:=y;exact e D i ys _ R h b p k) hd
structure Keeps (M:Addr->Prop) (H H':Hp):Prop where
 at_:∀x o,H x=some o->¬M x->H' x=some o
 ls:∀x o,M x->H x=some o->∃xs,o=HO.lst xs
section
variable {K:Aj} {M:Addr->Prop} {H H':Hp}
def Keeps.refl(h:∀x o,M x->H x=some o->∃xs,o=HO.lst xs):Keeps M H H:=⟨λζ ζ e ζ=>e,h⟩
def Keeps.set(k:Keeps M H H')(a:M D):Keeps M H (upd H' D o):=⟨λx u e n=>by
 have b:x≠D:=λz=>n (by rw[z];exact a)
 rw[AH b];exact k.at_ x u e n,k.ls⟩
def Keeps.one(a:H D=some (.lst xs)):Keeps (·=D) H (upd H D o):=
 ⟨λx u e n=>by rw[AH n];exact e,λx u m e=>by rw[m,a] at e;exact⟨xs,(BS e).symm⟩⟩
def Keeps.same{Y:Hp}(k:Keeps M H H')(s:Ac H' Y):Keeps M H Y:=⟨λx o e n=>s _ _ (k.at_ x o e n),k.ls⟩
def Keeps.noT(k:Keeps M H H')(h:H a=some (.tup xs)):¬M a:=λm=>by
 obtain⟨_,e⟩:=k.ls _ _ m h;cases e
def Keeps.tup(k:Keeps M H H'){a:Addr}{xs:List V}(h:H a=some (.tup xs)):H' a=some (.tup xs):=k.at_ _ _ h (k.noT h)
def Keeps.seqT(k:Keeps M H H')(h:Al K H a xs):Al K H' a xs:=by
 rcases h with(h|⟨u,h⟩)|h;exact .inl (.inl (k.tup h));refine .inl (.inr ⟨u,k.at_ _ _ h λm=>?_⟩);obtain⟨_,e⟩:=k.ls _ _ m h;cases e;exact .inr h
theorem Keeps.gos(k:Keeps M H H'):∀{vs:List V}{gs:List (Str×Int)},Ai K H vs (gs.map DS)->Ai K H' vs (gs.map DS)
 |_,[],.nil=>.nil
 |_,p::gs,.cons h t=>by
   obtain⟨a,e,b⟩:=Kx h;subst e;exact .cons (.tup (k.seqT b) (.cons (.str _) (.cons (.int _) .nil))) (Keeps.gos k t)
def Keeps.tups(k:Keeps M H H'){ps:A'}(h:Cc H ts ps):Cc H' ts ps:=⟨h.len,λn t p a b=>k.tup (h.at_ n t p a b)⟩
end
def Vc{K:Aj}{j:List Nat}{g:TG}{tc:TT}{U:Hp}{Q:Addr->Hp->Prop}(Pv:Addr->Nat->List V->Hp->Prop)
 (l:∀D,U D=none->Pv D 0 [] (upd U D (.lst []))) (e:∀D i ys Y,Pv D i ys Y->Af K Y a xs)
 (m:∀D i x ys Y(R:VK)(d:Hp->Prop),U D=none->xs[i]?=some x->Pv D i ys Y->(∀y f,f D=some (.lst ys)->ys.length<sizeLine->Pv D (i+1) (ys++[y]) (upd f D (.lst (ys++[y])))->R y f)->(∀c,Pv D (i+1) ys c->d c)->g x (FP k j σ) Y λσ4 n=>tc σ4 n λb c=>if b=true then te σ4 c R else d c)
 (hd:∀D ys Y,U D=none->Pv D xs.length ys Y->Q D Y):Ku (MN K a) k j g tc te σ U Q:=NO xs.length Pv l (λD i ys Y p h=>⟨xs,xs[i],e D i ys Y p,by simp[h]⟩) (λD ys Y p=>⟨xs,e D _ ys Y p,AG _⟩) (λD i ys Y x r R d o h p y k q=>by obtain⟨rfl,y⟩:=y;exact m D i x ys _ R d o (y xs (e D i ys _ p)) p k q) hd
structure Fq (K:Aj) (F:Addr->Prop) (H:Hp) (t:Addr) (rs:List CA) (n:Int) (ord:A'):Prop where
 ex:∃(a o:Addr)(us:List Addr)(ts:List Addr),H t=some (.tup [.ref a,.int n,.ref o])/\F a/\F o/\a≠o/\H a=some (.lst (us.map V.ref))/\Bn K F H a us rs/\H o=some (.lst (ts.map V.ref))/\Cc H ts ord
def Fq.same{K:Aj}{F:Addr->Prop}{H H':Hp}{t:Addr}{rs:List CA}{n:Int}{ord:A'}(s:Ac H H')(h:Fq K F H t rs n ord):Fq K F H' t rs n ord:=by
 obtain⟨a,o,us,ts,b,c,d,e,f,g,i,j⟩:=h.ex;exact⟨a,o,us,ts,s _ _ b,c,d,e,s _ _ f,g.same s,s _ _ i,j.same s⟩
section
variable {X:Cx}
end
abbrev B3:C'->Dt
 |none=>.non
 |some p=>DS p
def He (K:Aj) (H:Hp) (a:Addr) (as:List (C')):Prop:=∃vs,Af K H a vs/\Ai K H vs (as.map B3)
abbrev Qu:Type:=Int×Int×List Str
abbrev Vd (q:Qu):Dt:=.tup [.int q.1,.int q.2.1,.tup (q.2.2.map Dt.str)]
section
variable {K:Aj} {H H':Hp} {a:Addr}
def He.same{b:List (C')}(e:Ac H H')(h:He K H a b):He K H' a b:=by
 obtain⟨vs,c,d⟩:=h;exact⟨vs,e.seq c,d.same e⟩
def LJ{o:C'}(h:Aq K H v (B3 o)):(o=none/\v=.non)\/∃p t,o=some p/\v=.ref t/\Al K H t [.str p.1,.int p.2]:=by
 cases o with
 |none=>cases h;exact .inl ⟨rfl,rfl⟩
 |some p =>
   obtain⟨t,e,a⟩:=Kx h;exact .inr ⟨p,t,rfl,e,a⟩
def He.get{b:List (C')}(h:He K H a b)(g:k<b.length):∃vs v,Af K H a vs/\vs[k]?=some v/\((b[k]?=some none/\v=.non)\/∃p t,b[k]?=some (some p)/\v=.ref t/\Al K H t [.str p.1,.int p.2]):=by
 obtain⟨vs,j,l⟩:=h;have c:=AB g;obtain⟨v,m,hd⟩:=l.get' (i:=k) (d:=B3 b[k]) (by rw[AM,c];rfl);refine⟨vs,v,j,m,?_⟩;rcases LJ hd with⟨e,f⟩|⟨p,t,e,f,n⟩;exact .inl ⟨by rw[c,e],f⟩;exact .inr ⟨p,t,by rw[c,e],f,n⟩
def Dm.get(h:Dm K H a gs)(b:gs[k]?=some p):∃vs t,Af K H a vs/\vs[k]?=some (.ref t)/\Al K H t [.str p.1,.int p.2]:=by
 obtain⟨vs,c,e⟩:=h;obtain⟨v,f,hd⟩:=e.get' (i:=k) (d:=DS p) (by rw[AM,b];rfl);obtain⟨t,rfl,g⟩:=Kx hd;exact⟨vs,t,c,f,g⟩
end
structure QT (H:Hp) (ts:List Addr) (qs:List Qu):Prop where
 len:ts.length=qs.length
 at_:∀(n:Nat)(t:Addr)(q:Qu),ts[n]?=some t->qs[n]?=some q->∃u,H t=some (.tup [.int q.1,.int q.2.1,.ref u])/\H u=some (.tup (q.2.2.map V.str))
def QT.nil:QT H [] []:=⟨rfl,λn t p h=>by simp at h⟩
variable {qs:List Qu}
def QT.same(e:Ac H H')(h:QT H ts qs):QT H' ts qs:=⟨h.len,λn t p a b=>by
 obtain⟨u,c,d⟩:=h.at_ n t p a b
 exact⟨u,e _ _ c,e _ _ d⟩⟩
variable {M:Addr->Prop}
def QT.keeps(k:Keeps M H H')(h:QT H ts qs):QT H' ts qs:=⟨h.len,λn t p a b=>by
 obtain⟨u,c,d⟩:=h.at_ n t p a b
 exact⟨u,k.tup c,k.tup d⟩⟩
def QT.snoc{t:Addr}{q:Qu}(h:QT H ts qs)(e:H t=some (.tup [.int q.1,.int q.2.1,.ref u]))(d:H u=some (.tup (q.2.2.map V.str))):QT H (ts++[t]) (qs++[q]):=by
 refine⟨by rw[AO,AO,h.len];rfl,λn v f a b=>?_⟩;rcases Nat.lt_or_ge n ts.length with c|j;rw[EQ c] at a;rw[EQ (by rw[<-h.len];exact c)] at b;exact h.at_ n v f a b;have i:n<(ts++[t]).length:=(Bi.mp a).1;rw[AO,Ew] at i;have g:n=ts.length:=(by lia);subst g;rw[E8 (AG _),Nat.sub_self] at a;rw[E8 (by rw[h.len];exact AG _),h.len,Nat.sub_self] at b;cases a;cases b;exact⟨u,e,d⟩
def QT.dts{K:Aj}(h:QT H ts qs):Ai K H (ts.map V.ref) (qs.map Vd):=by
 refine Ai.of_get (by simpa using h.len) λn v d a b=>?_;rw[AM] at a b;obtain⟨t,c,rfl⟩:=ER.mp a;obtain⟨q,e,rfl⟩:=ER.mp b;obtain⟨u,f,g⟩:=h.at_ n t q c e;exact .tup (Al.of f) (.cons (.int _) (.cons (.int _) (.cons (.tup (Al.of g) (Ai.strs _)) .nil)))
def Ef (ths:List (Str×Int)) (as:List (C')) (q:Int):Str×Int:=match as[q.toNat]? with
 |some (some p)=>if p.1=("thing" : Str) then(match ths[p.2.toNat]? with
   |some k=>if k.1=("part" : Str) then("to",k.2) else("no",0)
   |none=>("no",0)) else("no",0)
 |some none=>("open",q)
 |none=>("no",0)
def ES (ths:List (Str×Int)) (as:List (C')) (p:Str×Int):Str×Int:=
 if p.1=("part" : Str) then("to",p.2) else if p.1=("sort" : Str) then Ef ths as p.2 else("no",0)
structure FQ (ths:List (Str×Int)) (as:List (C')):Prop where
 q:∀p∈ths,p.1=("sort" : Str)->0<=p.2/\p.2<as.length
 t:∀p,some p∈as->p.1=("thing" : Str)->0<=p.2/\p.2<ths.length
variable {ths:List (Str×Int)}{as:List (C')}
def Ve(h:as[n]?=some none):Ef ths as (n:Int)=(("open" : Str),(n:Int)):=by
 unfold Ef;rw[Bl,h]
def Vf(h:as[n]?=some (some p))(a:p.1≠("thing" : Str)):Ef ths as (n:Int)=(("no" : Str),0):=by
 unfold Ef;rw[Bl,h];exact At a
variable {m:Nat}
def Vg{k:Str×Int}(h:as[n]?=some (some p))(a:p.1=("thing" : Str))(b:p.2=(m:Int))(c:ths[m]?=some k)(d:k.1=("part" : Str)):Ef ths as (n:Int)=(("to" : Str),k.2):=by
 unfold Ef;rw[Bl,h]
 show(if p.1=("thing" : Str) then _ else _)=_
 rw[Au a,b,Bl,c];exact Au d
def Ye{k:Str×Int}(h:as[n]?=some (some p))(a:p.1=("thing" : Str))(b:p.2=(m:Int))(c:ths[m]?=some k)(d:k.1≠("part" : Str)):Ef ths as (n:Int)=(("no" : Str),0):=by
 unfold Ef;rw[Bl,h]
 show(if p.1=("thing" : Str) then _ else _)=_
 rw[Au a,b,Bl,c];exact At d
variable {x:Str}
def Js{X:Cx}{L:Pos}{e:Expr}{op:Operator}{a:R2}{t:Pos}(b:X.N.Nodup)(c:X.N[i]?=some x)(d:Loc X.env.scope x)(f:PE X e te)(g:Ee X (inplaceOp op) a)(h:X.fn x=true\/X.env.scope.names.lookup x=some .local:=by first|exact .inl rfl|exact .inr rfl|assumption) :
 PS X (.AugAssign (.Name x t) op e L) (Np i te a):=Lf b c d f g h
abbrev Ch:Type:=Str×Str×Int
abbrev Gk (p:Ch):List V:=[.str p.1,.str p.2.1,.int p.2.2]
abbrev DK:Type:=Str×Str×Str×Int
abbrev Fs (p:DK):List V:=[.str p.1,.str p.2.1,.str p.2.2.1,.int p.2.2.2]
abbrev NY (p:Ch):Dt:=.tup [.str p.1,.str p.2.1,.int p.2.2]
abbrev NZ (p:DK):Dt:=.tup [.str p.1,.str p.2.1,.str p.2.2.1,.int p.2.2.2]
section
variable {α:Type} {f:α->List V} {H H':Hp} {ts:List Addr} {rs:List α}
structure RT (f:α->List V) (H:Hp) (ts:List Addr) (rs:List α):Prop where
 len:ts.length=rs.length
 at_:∀(n:Nat)(t:Addr)(r:α),ts[n]?=some t->rs[n]?=some r->H t=some (.tup (f r))
def RT.nil:RT f H [] []:=⟨rfl,λn t p h=>by simp at h⟩
def RT.same(e:Ac H H')(h:RT f H ts rs):RT f H' ts rs:=⟨h.len,λn t p a b=>e _ _ (h.at_ n t p a b)⟩
def RT.keeps(k:Keeps M H H')(h:RT f H ts rs):RT f H' ts rs:=⟨h.len,λn t p a b=>k.tup (h.at_ n t p a b)⟩
def RT.snoc{t:Addr}{r:α}(h:RT f H ts rs)(e:H t=some (.tup (f r))):RT f H (ts++[t]) (rs++[r]):=by
 refine⟨by rw[AO,AO,h.len];rfl,λn v q a b=>?_⟩;rcases Nat.lt_or_ge n ts.length with c|i;rw[EQ c] at a;rw[EQ (by rw[<-h.len];exact c)] at b;exact h.at_ n v q a b;have g:n<(ts++[t]).length:=(Bi.mp a).1;rw[AO,Ew] at g;have d:n=ts.length:=(by lia);subst d;rw[E8 (AG _),Nat.sub_self] at a;rw[E8 (by rw[h.len];exact AG _),h.len,Nat.sub_self] at b;cases a;cases b;exact e
def RT.dts{K:Aj}{g:α->Dt}(c:∀(r:α)(t:Addr),H t=some (.tup (f r))->Aq K H (.ref t) (g r))(h:RT f H ts rs):Ai K H (ts.map V.ref) (rs.map g):=by
 refine Ai.of_get (by simpa using h.len) λn v d a b=>?_;rw[AM] at a b;obtain⟨t,e,rfl⟩:=ER.mp a;obtain⟨q,i,rfl⟩:=ER.mp b;exact c q t (h.at_ n t q e i)
end
def LL{K:Aj}(r:Ch)(t:Addr)(h:H t=some (.tup (Gk r))):Aq K H (.ref t) (NY r):=.tup (Al.of h) (.cons (.str _) (.cons (.str _) (.cons (.int _) .nil)))
def LM{K:Aj}(r:DK)(t:Addr)(h:H t=some (.tup (Fs r))):Aq K H (.ref t) (NZ r):=.tup (Al.of h) (.cons (.str _) (.cons (.str _) (.cons (.str _) (.cons (.int _) .nil))))
abbrev Bf:Type:=List Ch×List DK
abbrev HG (s:Bf):Dt:=.tup [.lst (s.1.map NY),.lst (s.2.map NZ)]
structure Hf (H:Hp) (u G E:Addr) (s:Bf):Prop where
 u:H u=some (.tup [.ref G,.ref E])
 g:∃ts:List Addr,H G=some (.lst (ts.map V.ref))/\RT Gk H ts s.1
 e:∃ts:List Addr,H E=some (.lst (ts.map V.ref))/\RT Fs H ts s.2
def Hf.same{H H':Hp}{u G E:Addr}{s:Bf}(e:Ac H H')(h:Hf H u G E s):Hf H' u G E s:=by
 obtain⟨a,⟨ts,b,c⟩,⟨us,d,f⟩⟩:=h;exact⟨e _ _ a,⟨ts,e _ _ b,c.same e⟩,⟨us,e _ _ d,f.same e⟩⟩
def Hf.keeps{M:Addr->Prop}{H H':Hp}{u G E:Addr}{s:Bf}(k:Keeps M H H')(b:¬M G)(c:¬M E)(h:Hf H u G E s):Hf H' u G E s:=by
 obtain⟨a,⟨ts,d,e⟩,⟨us,f,g⟩⟩:=h;exact⟨k.tup a,⟨ts,k.at_ _ _ d b,e.keeps k⟩,⟨us,k.at_ _ _ f c,g.keeps k⟩⟩
variable {s:Bf}
def Hf.dt{K:Aj}(h:Hf H u G E s):Aq K H (.ref u) (HG s):=by
 obtain⟨a,⟨ts,b,c⟩,⟨us,d,e⟩⟩:=h;exact .tup (Al.of a) (.cons (.lst (Af.of b) (c.dts LL)) (.cons (.lst (Af.of d) (e.dts LM)) .nil))
structure CI (H:Hp) (D:Addr) (us Gs Es:List Addr) (ss:List Bf):Prop where
 top:H D=some (.lst (us.map V.ref))
 lu:us.length=ss.length
 lg:Gs.length=ss.length
 le:Es.length=ss.length
 at_:∀(i:Nat)(u G E:Addr)(s:Bf),us[i]?=some u->Gs[i]?=some G->Es[i]?=some E->ss[i]?=some s->Hf H u G E s
def CI.same{H H':Hp}{D:Addr}{us a b:List Addr}{ss:List Bf}(e:Ac H H')(h:CI H D us a b ss):CI H' D us a b ss:=
 ⟨e _ _ h.top,h.lu,h.lg,h.le,λi u G E s c d f g=>(h.at_ i u G E s c d f g).same e⟩
variable {Gs Es:List Addr}{ss:List Bf}
def CI.get(h:CI H D us Gs Es ss)(a:i<ss.length) :
 ∃u G E,us[i]?=some u/\Gs[i]?=some G/\Es[i]?=some E/\ss[i]?=some ss[i]/\Hf H u G E ss[i]:=by
 have b:us[i]?=some (us[i]'(by rw[h.lu];exact a)):=AB _;have c:Gs[i]?=some (Gs[i]'(by rw[h.lg];exact a)):=AB _;have d:Es[i]?=some (Es[i]'(by rw[h.le];exact a)):=AB _;exact⟨_,_,_,b,c,d,AB a,h.at_ i _ _ _ _ b c d (AB a)⟩
def CI.dts{K:Aj}(h:CI H D us Gs Es ss):Ai K H (us.map V.ref) (ss.map HG):=by
 refine Ai.of_get (by simpa using h.lu) λn v d a b=>?_;rw[AM] at a b;obtain⟨u,g,rfl⟩:=ER.mp a;obtain⟨s,c,rfl⟩:=ER.mp b;have i:n<ss.length:=(Bi.mp c).1;obtain⟨k,G,E,e,l,m,f,j⟩:=h.get i;rw[g] at e;cases e;rw[c] at f;rw[BS f];exact j.dt
def CI.step(h:CI H D us Gs Es ss)(q:(D::(Gs++Es)).Nodup){t:Addr}{p:Ch}(g:i<ss.length)(b:Gs[i]?=some G)(r:H G=some (.lst (ts.map V.ref)))(T:RT Gk H ts ss[i].1)(v:H t=some (.tup (Gk p))) :
 CI (upd H G (.lst (ts.map V.ref++[.ref t]))) D us Gs Es (ss.set i (ss[i].1++[p],ss[i].2)):=by
 have k:Keeps (·=G) H (upd H G (.lst (ts.map V.ref++[.ref t]))):=Keeps.one r;obtain⟨w,I⟩:=F4.mp q;obtain⟨x,ne,J⟩:=List.nodup_append.mp I;have l:G∈Gs:=Bk b;refine⟨k.at_ _ _ h.top λz=>w (z▸GP _ l),by rw[Iq];exact h.lu,by rw[Iq];exact h.lg,by rw[Iq];exact h.le,λj u m E s n c f d=>?_⟩;have o:E≠G:=λz=>J G l E (Bk f) z.symm;by_cases e:i=j;subst e;rw[b] at c;cases c;rw[List.getElem?_set_self g] at d;cases d;obtain⟨a,_,⟨y,A,B⟩⟩:=h.at_ i u G E _ n b f (AB g);exact⟨k.tup a,⟨ts++[t],by rw[Aa,A8];rfl,(T.keeps k).snoc (k.tup v)⟩,⟨y,k.at_ _ _ A o,B.keeps k⟩⟩;rw[List.getElem?_set_ne e] at d
 have K:m≠G:=λz=>by
  subst z;obtain⟨L,C⟩:=Bi.mp c;obtain⟨M,F⟩:=Bi.mp b;exact e ((List.getElem_inj x).mp (F.trans C.symm))
 exact(h.at_ j u m E s n c f d).keeps k K o
def CI.alive(h:CI H D us Gs Es ss):∀x∈Gs++Es,∃xs,H x=some (.lst xs):=λx a=>by
 rcases BR.mp a with a|a;obtain⟨j,b⟩:=List.getElem?_of_mem a;have f:j<ss.length:=by rw[<-h.lg];exact(Bi.mp b).1
 obtain⟨g,i,k,l,c,d,m,⟨_,⟨n,e,_⟩,_⟩⟩:=h.get f;rw[b] at c;cases c;exact⟨_,e⟩;obtain⟨j,b⟩:=List.getElem?_of_mem a;have f:j<ss.length:=by rw[<-h.le];exact(Bi.mp b).1
 obtain⟨g,i,k,l,c,d,m,⟨_,_,⟨n,e,_⟩⟩⟩:=h.get f;rw[b] at d;cases d;exact⟨_,e⟩
def CI.nil(h:H D=some (.lst [])):CI H D [] [] [] []:=⟨h,rfl,rfl,rfl,λi u G E s a=>by simp at a⟩
def CI.snoc(h:CI H D us Gs Es ss)(g:Hf H u G E s)(j:G≠D)(l:E≠D)(f:∀x∈Gs++Es,x≠D) :
 CI (upd H D (.lst (us.map V.ref++[.ref u]))) D (us++[u]) (Gs++[G]) (Es++[E]) (ss++[s]):=by
 have k:Keeps (·=D) H (upd H D (.lst (us.map V.ref++[.ref u]))):=Keeps.one h.top;refine⟨by rw[Aa,A8];rfl,by simp[h.lu],by simp[h.lg],by simp[h.le],λi m n o Z d a b c=>?_⟩;rcases Nat.lt_or_ge i ss.length with e|r;rw[EQ (by rw[h.lu];exact e)] at d;rw[EQ (by rw[h.lg];exact e)] at a;rw[EQ (by rw[h.le];exact e)] at b;rw[EQ e] at c;exact(h.at_ i m n o Z d a b c).keeps k (f _ (GP _ (Bk a))) (f _ (D6 _ (Bk b)));have q:i<(ss++[s]).length:=(Bi.mp c).1;rw[AO,Ew] at q;have p:i=ss.length:=(by lia);subst p;rw[E8 (by rw[h.lu];exact AG _),h.lu,Nat.sub_self] at d;rw[E8 (by rw[h.lg];exact AG _),h.lg,Nat.sub_self] at a;rw[E8 (by rw[h.le];exact AG _),h.le,Nat.sub_self] at b;rw[E8 (AG _),Nat.sub_self] at c;cases d;cases a;cases b;cases c;exact g.keeps k j l
def Yg(a:(D::(Gs++Es)).Nodup)(b:G∉D::(Gs++Es))(c:E∉D::(Gs++Es))(d:G≠E):(D::((Gs++[G])++(Es++[E]))).Nodup:=by
 have p:(D::((Gs++[G])++(Es++[E]))).Perm (G::E::(D::(Gs++Es))):=by
  have e:(D::((Gs++[G])++(Es++[E]))).Perm (E::(D::((Gs++[G])++Es))):=by
   have:(D::((Gs++[G])++(Es++[E])))=(D::((Gs++[G])++Es))++[E]:=(by simp);rw[this];exact List.perm_append_singleton _ _
  have J:(D::((Gs++[G])++Es)).Perm (G::(D::(Gs++Es))):=by
   have:(D::((Gs++[G])++Es))=(D::Gs)++G::Es:=(by simp);rw[this];exact List.perm_middle
  exact(e.trans (J.cons E)).trans (List.Perm.swap _ _ _)
 rw[p.nodup_iff,F4,F4];refine⟨λz=>?_,c,a⟩;rcases BI.mp z with z|z;exact d z;exact b z
def CQ (ths:List (Str×Int)) (as:List (C')) (p:Ch):Str×Int:=
 if p.2.1=("to" : Str) then("to",p.2.2) else match as[p.2.2.toNat]? with
 |some (some w)=>if w.1=("thing" : Str) then(match ths[w.2.toNat]? with
   |some k=>ES ths as k
   |none=>("no",0)) else("no",0)
 |some none=>("open",p.2.2)
 |none=>("no",0)
def Vh{p:Ch}(h:p.2.1=("to" : Str)):CQ ths as p=(("to" : Str),p.2.2):=Au h
def Yh{p:Ch}(h:p.2.1≠("to" : Str))(a:p.2.2=(n:Int))(b:as[n]?=some none):CQ ths as p=(("open" : Str),p.2.2):=by
 unfold CQ;rw[At h,a,Bl,b]
def Yi{p:Ch}{w:Str×Int}(h:p.2.1≠("to" : Str))(a:p.2.2=(n:Int))(b:as[n]?=some (some w))(c:w.1≠("thing" : Str)):CQ ths as p=(("no" : Str),0):=by
 unfold CQ;rw[At h,a,Bl,b];exact At c
def Yj{p:Ch}{w k:Str×Int}(h:p.2.1≠("to" : Str))(a:p.2.2=(n:Int))(b:as[n]?=some (some w))(c:w.1=("thing" : Str))(d:w.2=(m:Int))(e:ths[m]?=some k):CQ ths as p=ES ths as k:=by
 unfold CQ;rw[At h,a,Bl,b]
 show(if w.1=("thing" : Str) then _ else _)=_
 rw[Au c,d,Bl,e]
section
variable {X:Cx}
end
def LN (s q:Int) (p:Str×Int):Prop:=(p.1=("plain" : Str)/\p.2=0)\/(p.1=("part" : Str)/\0<=p.2/\p.2<s)\/(p.1=("sort" : Str)/\0<=p.2/\p.2<q)
def GW (s q:Int) (p:Ch):Prop:=(p.2.1=("to" : Str)/\0<=p.2.2/\p.2.2<s)\/(p.2.1=("by" : Str)/\0<=p.2.2/\p.2.2<q)
def Ft (t q:Int) (p:DK):Prop:=(p.2.2.1=("thing" : Str)/\0<=p.2.2.2/\p.2.2.2<t)\/(p.2.2.1=("by" : Str)/\0<=p.2.2.2/\p.2.2.2<q)
structure FR (H:Hp) (S T R:Addr) (us Gs Es ts qt:List Addr) (ss:List Bf) (gs:List (Str×Int)) (qs:List Qu):Prop where
 sc:CI H S us Gs Es ss
 et:H T=some (.lst (ts.map V.ref))
 tg:GT H ts gs
 er:H R=some (.lst (qt.map V.ref))
 tq:QT H qt qs
def FR.same{H H':Hp}{S T R:Addr}{us Gs Es ts a:List Addr}{ss:List Bf}{gs:List (Str×Int)}{qs:List Qu}(e:Ac H H')(h:FR H S T R us Gs Es ts a ss gs qs):FR H' S T R us Gs Es ts a ss gs qs:=
 ⟨h.sc.same e,e _ _ h.et,h.tg.same e,e _ _ h.er,h.tq.same e⟩
abbrev HH (ss:List Bf) (gs:List (Str×Int)) (qs:List Qu):Dt:=.tup [.lst (ss.map HG),.lst (gs.map DS),.lst (qs.map Vd)]
def FR.dt{K:Aj}{a S T R:Addr}{b:List Addr}(h:FR H S T R us Gs Es ts b ss gs qs)(e:H a=some (.tup [.ref S,.ref T,.ref R])):Aq K H (.ref a) (HH ss gs qs):=
 .tup (Al.of e) (.cons (.lst (Af.of h.sc.top) h.sc.dts) (.cons (.lst (Af.of h.et) h.tg.dts) (.cons (.lst (Af.of h.er) h.tq.dts) .nil)))
def Jt(s r:Bf):Di 4 (HG s) (HG r):=by
 refine .tup (.cons (.lst (Bw.of λd hd e a=>?_)) (.cons (.lst (Bw.of λd hd e a=>?_)) (.nil _)));obtain⟨p,_,rfl⟩:=AF.mp hd;obtain⟨q,_,rfl⟩:=AF.mp a;exact .tup (.cons (.str _ _) (.cons (.str _ _) (.cons (.int _ _) (.nil _))));obtain⟨p,_,rfl⟩:=AF.mp hd;obtain⟨q,_,rfl⟩:=AF.mp a;exact .tup (.cons (.str _ _) (.cons (.str _ _) (.cons (.str _ _) (.cons (.int _ _) (.nil _)))))
def Ju(ss r:List Bf)(gs b:List (Str×Int))(qs c:List Qu):Di 6 (HH ss gs qs) (HH r b c):=by
 refine .tup (.cons (.lst (Bw.of λd hd e a=>?_)) (.cons (.lst (Bw.of λd hd e a=>?_)) (.cons (.lst (Bw.of λd hd e a=>?_)) (.nil _))));obtain⟨p,_,rfl⟩:=AF.mp hd;obtain⟨q,_,rfl⟩:=AF.mp a;exact Jt p q;obtain⟨p,_,rfl⟩:=AF.mp hd;obtain⟨q,_,rfl⟩:=AF.mp a;exact .tup (.cons (.str _ _) (.cons (.int _ _) (.nil _)));obtain⟨p,_,rfl⟩:=AF.mp hd;obtain⟨q,_,rfl⟩:=AF.mp a;refine .tup (.cons (.int _ _) (.cons (.int _ _) (.cons (.tup (Bw.of λd hd e a=>?_)) (.nil _))));obtain⟨p,_,rfl⟩:=AF.mp hd;obtain⟨q,_,rfl⟩:=AF.mp a;exact .str _ _
abbrev Jv (K:Aj):List V->Hp->VK->Prop:=λxs H Q=>∃p ys,xs=[V.ref p]/\(Af K H p ys\/Al K H p ys)/\∀l,H l=none->Q (V.ref l) (upd H l (HO.lst ys))
def CI.tell(h:CI H D us Gs Es ss)(q:(D::(Gs++Es)).Nodup){t:Addr}{p:DK}(g:i<ss.length)(b:Es[i]?=some E)(r:H E=some (.lst (ts.map V.ref)))(T:RT Fs H ts ss[i].2)(v:H t=some (.tup (Fs p))) :
 CI (upd H E (.lst (ts.map V.ref++[.ref t]))) D us Gs Es (ss.set i (ss[i].1,ss[i].2++[p])):=by
 have k:Keeps (·=E) H (upd H E (.lst (ts.map V.ref++[.ref t]))):=Keeps.one r;obtain⟨w,C⟩:=F4.mp q;obtain⟨K,ne,F⟩:=List.nodup_append.mp C;have l:E∈Es:=Bk b;refine⟨k.at_ _ _ h.top λz=>w (z▸D6 _ l),by rw[Iq];exact h.lu,by rw[Iq];exact h.lg,by rw[Iq];exact h.le,λj u G m s n f c d=>?_⟩;have o:G≠E:=λz=>F G (Bk f) E l z;by_cases e:i=j;subst e;rw[b] at c;cases c;rw[List.getElem?_set_self g] at d;cases d;obtain⟨a,⟨I,x,y⟩,_⟩:=h.at_ i u G E _ n f b (AB g);exact⟨k.tup a,⟨I,k.at_ _ _ x o,y.keeps k⟩,⟨ts++[t],by rw[Aa,A8];rfl,(T.keeps k).snoc (k.tup v)⟩⟩;rw[List.getElem?_set_ne e] at d
 have J:m≠E:=λz=>by
  subst z;obtain⟨L,A⟩:=Bi.mp c;obtain⟨M,B⟩:=Bi.mp b;exact e ((List.getElem_inj ne).mp (B.trans A.symm))
 exact(h.at_ j u G m s n f c d).keeps k o J
open PySem.SeqAt
open PySem.AutoSeq1 (wpAny_loadPart')
open PySem.MeetsSeq PySem.MeetsSeq2 PySem.MeetsSeq3
def B9 (A:Around) (s:Shared) (x y:Value) (b:Bool):Prop:=
 ∀(prog:Program)(w:World)(E:I')(Q:I'),Q (.bool b) s->wpAny (model prog w) A (richCompare .Lt x y) Q E s
inductive BJ (A:Around) (s:Shared):List Value->List Value->Bool->Prop where
 |nil:BJ A s [] [] false
 |lt (w:Value) (ws:List Value):BJ A s [] (w::ws) true
 |gt (v:Value) (vs:List Value):BJ A s (v::vs) [] false
 |eq {v w:Value} {vs ws:List Value} {b:Bool} (h:EqAt A s v w true) (t:BJ A s vs ws b):BJ A s (v::vs) (w::ws) b
 |ne {v w:Value} {vs ws:List Value} {b:Bool} (h:EqAt A s v w false) (l:B9 A s v w b):BJ A s (v::vs) (w::ws) b
def Yk(l b:Addr)(f e:Array Value)(n D:Nat)(E L:Option Addr)(F M:Array (Option Value))(c:Bool) :
 Meets (Builtin.«tuple.__lt__» ⟨[.ref l,.ref b],[]⟩)
  (λA R s=>s.heap.get? l=some {cls:=.type "tuple",dict:=E,data:=.seq f n,slots:=F}/\s.heap.get? b=some {cls:=.type "tuple",dict:=L,data:=.seq e D,slots:=M} /\
   BJ A.in1 s f.toList e.toList c/\R (.ok (.ret (.bool c))) s):=
 .of_wp λu w A R s h=>by
  obtain⟨v,g,d,z,B⟩:=s;obtain⟨G,H,i,h⟩:=h;have O:=AutoSeq1.sub_tuple_tuple
  wp_walk using wpAny_loadPart' G,wpAny_loadPart' H,wpAny_forIn_list _ (λj b Z=>b.1=none/\Z=⟨v,g,d,z,B⟩/\∃(vs k:List Value),j=vs.zip k /\
   BJ A.in1 ⟨v,g,d,z,B⟩ vs k c/\vs.length+e.size=k.length+f.size) _
  case turn =>
   rintro⟨y,x⟩ j b Z ⟨q,rfl,vs,k,a,r,m⟩
   cases r with
   |nil=>rw[List.zip_nil_left] at a;cases a
   |lt=>rw[List.zip_nil_left] at a;cases a
   |gt=>rw[List.zip_nil_right] at a;cases a
   |eq o I =>
     rw[List.zip_cons_cons] at a;injection a with t C;injection t with p i;subst p i;simp only[Em] at m;refine Ad (o u w _ _ ?_)
     wp_walk
     exact⟨rfl,rfl,_,_,C,I,by lia⟩
   |ne o J =>
     rw[List.zip_cons_cons] at a;injection a with t C;injection t with p i;subst p i;refine Ad (o u w _ _ ?_);have N:=J u w
     wp_walk using N
     exact⟨_,rfl,by simpa using h⟩
  case fin =>
   rintro⟨P,Q⟩ Z ⟨q,rfl,vs,k,a,r,m⟩;simp only at q;subst q
   have K:c=decide (f.size<e.size):=by
    cases r with
    |nil =>
      simp only[GQ] at m;exact(En (by lia)).symm
    |lt =>
      simp only[GQ,Em] at m;exact(A5 (by lia)).symm
    |gt =>
      simp only[GQ,Em] at m;exact(En (by lia)).symm
    |eq=>rw[List.zip_cons_cons] at a;cases a
    |ne=>rw[List.zip_cons_cons] at a;cases a
   rw[K] at h
   wp_walk
   exact⟨_,rfl,by simpa [Builtin.Tuple.tupleCompareSizes] using h⟩
  case h =>
   exact⟨rfl,rfl,f.toList,e.toList,rfl,i,by simp[Nat.add_comm]⟩
def Yl(l b:Addr)(f e:Array Value)(n C:Nat)(D O:Option Addr)(E P:Array (Option Value))(c:Bool)(k:Nat) :
 ∀i:Nat,f.size-i=k->i<=f.size->i<=e.size->Meets (Builtin.«list.__eq__.loop» ⟨[.ref l,.ref b,rawInt i,rawInt 0],[]⟩)
  (λA R s=>s.heap.get? l=some {cls:=.type "list",dict:=D,data:=.seq f n,slots:=E}/\s.heap.get? b=some {cls:=.type "list",dict:=O,data:=.seq e C,slots:=P} /\
   BJ A.in1 s (f.toList.drop i) (e.toList.drop i) c/\R (.ok (.ret (.bool c))) s):=by
 induction k with
 |zero =>
   intro i F G Q q w A R s h;obtain⟨H,g,d,I,J⟩:=s;obtain⟨j,m,a,h⟩:=h;have u:f.toList.drop i=[]:=by simp;lia
   rw[u] at a
   have v:c=decide (f.size<e.size):=by
    generalize o:e.toList.drop i=r at a;have x:=Bq List.length o;simp only[K0,Array.length_toList] at x
    cases a with
    |nil=>simp only[GQ] at x;exact(En (by lia)).symm
    |lt=>simp only[Em] at x;exact(A5 (by lia)).symm
   wp_walk using wpAny_loadPart' j,wpAny_loadPart' m
   have p:f[((i:Nat):Int).toNat]?=none:=by simp;lia
   rw[p]
   wp_walk using wpAny_loadPart' j,wpAny_loadPart' m
   show R (.ok (.ret (.bool (decide (f.size<e.size))))) _;rw[<-v];exact h
 |succ k K =>
   intro i F G Q q w A R s h;obtain⟨H,g,d,I,J⟩:=s;obtain⟨j,m,a,h⟩:=h;have z:i<f.size:=(by lia);have p:f[((i:Nat):Int).toNat]?=some f[i]:=(by simp[z]);have u:f.toList.drop i=f[i]::f.toList.drop (i+1):=(by simp[Ki,z]);rw[u] at a
   wp_walk using wpAny_loadPart' j,wpAny_loadPart' m
   by_cases B:i<e.size;have t:e[((i:Nat):Int).toNat]?=some e[i]:=(by simp[B]);have o:e.toList.drop i=e[i]::e.toList.drop (i+1):=(by simp[Ki,B]);have L:((i:Int)+1)=((i+1:Nat):Int):=by push_cast;rfl
   rw[o] at a;rw[p,t]
   cases a with
   |eq y M =>
     refine Ad (y q w _ _ ?_)
     wp_walk
     rw[L]
     exact⟨plainId_quiet plain_eq_loop _,codeAny_builtin entry_eq_loop (by
      rw[Around.under_plainId plain_eq_loop _]
      exact K (i+1) (by lia) (by lia) (by lia) q w A R _ ⟨j,m,M,h⟩)⟩
   |ne y N =>
     refine Ad (y q w _ _ ?_);have S:=N q w
     wp_walk using wpAny_loadPart' j,wpAny_loadPart' m
     rw[p,t]
     wp_walk using S
     exact h
   have t:e[((i:Nat):Int).toNat]?=none:=by simp;lia
   have o:e.toList.drop i=[]:=by simp;lia
   rw[o] at a
   have v:c=decide (f.size<e.size):=by
    cases a;exact(En (by lia)).symm
   rw[p,t]
   wp_walk using wpAny_loadPart' j,wpAny_loadPart' m
   show R (.ok (.ret (.bool (decide (f.size<e.size))))) _;rw[<-v];exact h
def Vi(l b:Addr)(f e:Array Value)(n a:Nat)(i o:Option Addr)(j p:Array (Option Value))(c:Bool) :
 Meets (Builtin.«list.__lt__» ⟨[.ref l,.ref b],[]⟩)
  (λA R s=>s.heap.get? l=some {cls:=.type "list",dict:=i,data:=.seq f n,slots:=j}/\s.heap.get? b=some {cls:=.type "list",dict:=o,data:=.seq e a,slots:=p} /\
   BJ A.in1 s f.toList e.toList c/\R (.ok (.ret (.bool c))) s):=by
 intro r w A R s h;obtain⟨t,g,d,u,v⟩:=s;obtain⟨k,m,q,h⟩:=h;have x:=AutoSeq1.sub_list_list
 wp_walk using wpAny_loadPart' k,wpAny_loadPart' m
 exact⟨plainId_quiet plain_eq_loop _,codeAny_builtin entry_eq_loop (by
  rw[Around.under_plainId plain_eq_loop _]
  exact Yl l b f e n a i o j p c _ 0 rfl (DP _) (DP _) r w A R _ ⟨k,m,by simpa using q,h⟩)⟩
section
variable {A:Around} {s:Shared}
variable {l b:Addr}{f e:Array Value}
def B9.tuples{c:Bool}(k:IsTup s.heap l f)(m:IsTup s.heap b e)(o:BJ A.in1 s f.toList e.toList c)(p:A.units<cLine):B9 A s (.ref l) (.ref b) c:=λz w E Q h=>by
 obtain⟨⟨y,q,B,r⟩,a,d,n,hd⟩:=id k;obtain⟨⟨C,u,data2,v⟩,g,i,t,j⟩:=id m;simp only at d hd i j;subst d hd i j
 exact richCompare_meets_room (op:=.Lt) ⟨_,a,rfl⟩ ⟨_,g,rfl⟩ PySem.F.slot_tuple_lt PySem.F.entry_tuple_lt (PySem.F.args_tuple_lt_2 _ _) (Yk l b f e n t q u r v c)
  ⟨a,g,o,show Value.bool c≠Value.notImplemented/\Q (.bool c) s from⟨(λx=>nomatch x),h⟩⟩ p
def B9.lists{c:Bool}(k:s.heap.IsList l f)(m:s.heap.IsList b e)(o:BJ A.in1 s f.toList e.toList c)(p:A.units<cLine):B9 A s (.ref l) (.ref b) c:=λz w E Q h=>by
 obtain⟨⟨y,q,B,r⟩,a,d,n,hd⟩:=id k;obtain⟨⟨C,u,data2,v⟩,g,i,t,j⟩:=id m;simp only at d hd i j;subst d hd i j
 exact richCompare_meets_room (op:=.Lt) ⟨_,a,rfl⟩ ⟨_,g,rfl⟩ PySem.F.slot_list_lt PySem.F.entry_list_lt (PySem.F.args_list_lt_2 _ _) (Vi l b f e n t q u r v c)
  ⟨a,g,o,show Value.bool c≠Value.notImplemented/\Q (.bool c) s from⟨(λx=>nomatch x),h⟩⟩ p
def Vj{prog:Program}{w:World}{E:I'}{c:Bool}{Q:Bool->Shared->Prop}(j:s.heap.IsList l f)(k:s.heap.IsList b e)(m:BJ A.in1 s f.toList e.toList c)(o:A.units<cLine)(h:Q c s) :
 wpAny (model prog w) A (oneLt' true (.ref l) (.ref b)) Q E s:=by
 obtain⟨⟨x,p,y,q⟩,a,d,n,hd⟩:=id j;obtain⟨⟨z,t,data2,u⟩,v,g,r,i⟩:=id k;simp only at d hd g i;subst d hd g i;rw[oneLt'_eq];simp only[if_true];refine Ad (wpAny_cRoomFor o ?_);refine Ad (wpAny_callSpecialIfBound?_slot (T:= "list") ⟨_,a,rfl⟩ PySem.F.slot_list_lt (call_meets PySem.F.slot_list_lt ⟨_,a,rfl⟩ PySem.F.entry_list_lt (PySem.F.args_list_lt_2 _ _) (Vi l b f e n r p t q u c) ⟨a,v,m,?_⟩));exact Gv h
end
def ET (O:KeyOrd):List O.α->List O.α->Bool
 |[],[]=>false
 |[],_::_=>true
 |_::_,[]=>false
 |x::xs,y::ys=>O.blt x y || (!O.blt y x && ET O xs ys)
def Ky(O:KeyOrd)(x y:O.α)(xs ys:List O.α):ET O (x::xs) (y::ys)=(O.blt x y || (!O.blt y x && ET O xs ys)):=rfl
theorem Vk(O:KeyOrd):∀xs,ET O xs xs=false
 |[]=>rfl
 |x::xs=>by rw[Ky,O.irrefl,Vk O xs];rfl
theorem Vl(O:KeyOrd):∀xs ys zs,ET O xs ys=true->ET O ys zs=true->ET O xs zs=true
 |[],[],_,h,_=>by cases h
 |[],_::_,[],_,k=>by cases k
 |[],_::_,_::_,_,_=>rfl
 |_::_,[],_,h,_=>by cases h
 |_::_,_::_,[],_,k=>by cases k
 |x::xs,y::ys,z::zs,a,b=>by
   rw[Ky] at *;simp only[Bool.or_eq_true,Bool.and_eq_true,Bool.not_eq_true'] at a b ⊢
   rcases a with a|⟨a,c⟩<;>rcases b with b|⟨b,d⟩;exact .inl (O.trans _ _ _ a b);exact .inl (KeyOrd.klt_of_klt_of_kle a b);exact .inl (KeyOrd.klt_of_kle_of_klt a b);exact .inr ⟨KeyOrd.kle_trans (O:=O) a b,Vl O xs ys zs c d⟩
theorem Vm(O:KeyOrd):∀xs ys zs,ET O xs zs=true->ET O xs ys=true\/ET O ys zs=true
 |[],[],[],h=>by cases h
 |[],[],_::_,_=>.inr rfl
 |[],_::_,_,_=>.inl rfl
 |_::_,_,[],h=>by cases h
 |_::_,[],_::_,_=>.inr rfl
 | x :: xs,y :: ys,z :: zs,h=>by
   rw[Ky] at *;rw[Ky];simp only[Bool.or_eq_true,Bool.and_eq_true,Bool.not_eq_true'] at h ⊢
   rcases h with h|⟨h,k⟩;rcases O.negTrans _ y _ h with h|h;exact .inl (.inl h);exact .inr (.inl h)
   cases b:O.blt x y with
   |true=>exact .inl (.inl rfl)
   |false =>
     cases c:O.blt y z with
     |true=>exact .inr (.inl rfl)
     |false =>
       have d:O.kle y x:=b;have e:O.kle z y:=c;have a:O.kle x z:=h;have f:O.blt y x=false:=KeyOrd.kle_trans (O:=O) a e;have g:O.blt z y=false:=KeyOrd.kle_trans (O:=O) d a;rcases Vm O xs ys zs k with k|k;exact .inl (.inr ⟨f,k⟩);exact .inr (.inr ⟨g,k⟩)
theorem Vn(O:KeyOrd):∀xs ys,ET O xs ys=false->ET O ys xs=false->xs=ys
 |[],[],_,_=>rfl
 |[],_::_,h,_=>by cases h
 |_::_,[],_,k=>by cases k
 |x::xs,y::ys,a,b=>by
   rw[Ky] at a b;simp only[Bool.or_eq_false_iff,Bool.and_eq_false_iff,Bool.not_eq_false'] at a b;have c:x=y:=O.total _ _ a.1 b.1;have d:xs=ys:=Vn O xs ys (by rcases a.2 with z|z;exact absurd (b.1.symm.trans z) (by simp);exact z) (by rcases b.2 with z|z;exact absurd (a.1.symm.trans z) (by simp);exact z);rw[c,d]
@[reducible] def N0 (O:KeyOrd):KeyOrd where
 α:=List O.α
 blt:=ET O
 irrefl:=Vk O
 trans:=Vl O
 negTrans:=Vm O
 total:=Vn O
def MW{P:KeyOrd}(x y:(BM O P).α)(e:x.1=y.1):(BM O P).blt x y=P.blt x.2 y.2:=by
 show(O.blt x.1 y.1 || (!O.blt y.1 x.1 && P.blt x.2 y.2))=_;rw[e,O.irrefl];rfl
def MX{P:KeyOrd}(x y:(BM O P).α)(e:x.1≠y.1):(BM O P).blt x y=O.blt x.1 y.1:=by
 show(O.blt x.1 y.1 || (!O.blt y.1 x.1 && P.blt x.2 y.2))=_
 cases a:O.blt x.1 y.1 with
 |true=>rfl
 |false =>
   cases b:O.blt y.1 x.1 with
   |true=>rfl
   |false=>exact absurd (O.total _ _ a b) e
def Ym(x:O.α)(xs ys:List O.α):ET O (x::xs) (x::ys)=ET O xs ys:=by
 rw[Ky,O.irrefl];rfl
def Yn{x y:O.α}(xs ys:List O.α)(e:x≠y):ET O (x::xs) (y::ys)=O.blt x y:=by
 rw[Ky]
 cases a:O.blt x y with
 |true=>rfl
 |false =>
   cases b:O.blt y x with
   |true=>rfl
   |false=>exact absurd (O.total _ _ a b) e
mutual
theorem Di.mono {n m:Nat}{d e:Dt} (c:Di n d e) (h:n<=m):Di m d e:=by
 cases c with
 | non=>exact .non
 | bl a b=>exact .bl a b
 | int a b=>exact .int a b
 | str a b=>exact .str a b
 | tup t=>cases m with
   | zero=>exact absurd h (Nat.not_succ_le_zero _)
   | succ m=>exact .tup (Bw.mono t (Nat.le_of_succ_le_succ h))
 | lst t=>cases m with
   | zero=>exact absurd h (Nat.not_succ_le_zero _)
   | succ m=>exact .lst (Bw.mono t (Nat.le_of_succ_le_succ h))
 | apart a=>cases m with
   | zero=>exact absurd h (Nat.not_succ_le_zero _)
   | succ m=>exact .apart a
theorem Bw.mono {n m:Nat}{a es:List Dt} (c:Bw n a es) (h:n<=m):Bw m a es:=by
 cases c with
 | nil=>exact .nil _
 | nil'=>exact .nil' _
 | cons c t=>exact .cons (Di.mono c h) (Bw.mono t h)
end
structure Enc where
 O:KeyOrd
 D:O.α->Dt
 dflt:O.α
 dep:Nat
 cmp:∀a b,Di dep (D a) (D b)
 inj:∀a b,D a=D b->a=b
 lt:∀{X:Cx}{pins:B'}{σ:St}{H:Hp}{s:Shared},Inv X pins σ H s->∀{a b:O.α}{v u:V}{x y:Value}{A:Around},Aq X.K H v (D a)->Aq X.K H u (D b)->RelV v x->RelV u y->A.units+dep<cLine->B9 A s x y (O.blt a b)
section
variable {X:Cx} {pins:B'} {σ:St} {H:Hp} {s:Shared}
def Enc.eq(c:Enc)(I:Inv X pins σ H s){a b:c.O.α}{u:V}{x y:Value}{A:Around}(hv:Aq X.K H v (c.D a))(d:Aq X.K H u (c.D b))(e:RelV v x)(f:RelV u y)(hA:A.units+c.dep<cLine):EqAt A s x y (dec (a=b)):=by
 have:=UX (A:=A) I (c.cmp a b) hv d e f hA
 rwa [Kv (p:=c.D a=c.D b) (q:=a=b) ⟨c.inj a b,λz=>by rw[z]⟩] at this
def Enc.lex(c:Enc)(I:Inv X pins σ H s){a b:c.O.α}{u:V}{x y:Value}{A:Around}{vs ws:List Value}{e f:Bool}(hv:Aq X.K H v (c.D a))(h:Aq X.K H u (c.D b))(i:RelV v x)(j:RelV u y)(hA:A.units+c.dep<cLine)(k:a=b->BJ A s vs ws e/\f=e)(l:a≠b->f=c.O.blt a b):BJ A s (x::vs) (y::ws) f:=by
 have d:=c.eq (A:=A) I hv h i j hA;by_cases g:a=b;rw[Ep g] at d;obtain⟨t,rfl⟩:=k g;exact .eq d t;rw[Ga g] at d;rw[l g];exact .ne d (c.lt I hv h i j hA)
end
@[reducible] def FS:Enc where
 O:=Jn
 D:=Dt.int
 dflt:=(0:Int)
 dep:=0
 cmp a b:=.int a b
 inj a b h:=Dt.int.inj h
 lt {X pins σ H s} I {a b v u x y A} hv hu rx ry _:=by
  cases hv;cases hu;obtain⟨t,rfl⟩:=rx;obtain⟨t',rfl⟩:=ry;exact λprog w E Q h=>(PySem.P.lt_int h:wpAny (model prog w) _ (compareOp .Lt _ _) Q E _)
@[reducible] def Sf:Enc where
 O:=B2
 D:=Dt.str
 dflt:=(default:Str)
 dep:=0
 cmp a b:=.str a b
 inj a b h:=Dt.str.inj h
 lt {X pins σ H s} I {a b v u x y A} hv hu rx ry _:=by
  cases hv;cases hu;obtain⟨t,rfl⟩:=rx;obtain⟨t',rfl⟩:=ry;exact λprog w E Q h=>(PySem.P.lt_str h:wpAny (model prog w) _ (compareOp .Lt _ _) Q E _)
section
variable {X:Cx} {pins:B'} {σ:St} {H:Hp} {s:Shared}
def Enc.lexL(c:Enc)(I:Inv X pins σ H s){A:Around}(hA:A.units+c.dep<cLine):∀{as bs:List c.O.α}{vs us:List V}{xs ys:List Value},Ai X.K H vs (as.map c.D)->Ai X.K H us (bs.map c.D)->Ax vs xs->Ax us ys->BJ A s xs ys (ET c.O as bs):=by
 intro as
 induction as with
 |nil =>
   intro bs vs us xs ys g d i f;cases g;cases i
   cases bs with
   |nil=>cases d;cases f;exact .nil
   |cons b bs=>cases d;cases f;exact .lt _ _
 |cons a as j =>
   intro bs vs us xs ys g d i f
   cases g with
   |cons h t=>cases i with
     |cons r q=>cases bs with
       |nil=>cases d;cases f;exact .gt _ _
       |cons b bs=>cases d with
         |cons k l=>cases f with
           |cons m n=>exact c.lex I h k r m hA (λe=>⟨j t l q n,by subst e;exact Ym a as bs⟩) (λe=>Yn as bs e)
end
theorem Vo(c:Enc):∀{a b:List c.O.α},a.map c.D=b.map c.D->a=b
 |[],[],_=>rfl
 |[],_::_,h=>by cases h
 |_::_,[],h=>by cases h
 |x::a,y::b,h=>by
   rw[EX,EX] at h;injection h with d e;rw[c.inj x y d,Vo c e]
@[reducible] def Ez (c:Enc):Enc where
 O:=N0 c.O
 D l:=Dt.lst (l.map c.D)
 dflt:=([]:List c.O.α)
 dep:=c.dep+1
 cmp a b:=.lst (Bw.of λd hd e he=>by
  obtain⟨x,_,rfl⟩:=AF.mp hd;obtain⟨y,_,rfl⟩:=AF.mp he
  exact c.cmp x y)
 inj a b h:=Vo c (Dt.lst.inj h)
 lt {X pins σ H s} I {a b v u x y A} hv hu rx ry hA:=by
  cases hv with
  |lst h t =>
    cases hu with
    |lst h' t' =>
      cases rx;cases ry;obtain⟨its,r,p,_⟩:=I.list h;obtain⟨its',r',p',_⟩:=I.list h';exact B9.lists p.isList p'.isList (c.lexL (A:=A.in1) I (by rw[Hd];lia) t t' r r') (by lia)
def LO{K:Aj}{d e:Dt}(h:Ai K H vs [d,e]):∃a b,vs=[a,b]/\Aq K H a d/\Aq K H b e:=by
 cases h with
 |cons c t=>cases t with
   |cons f t=>cases t;exact⟨_,_,rfl,c,f⟩
def N1{K:Aj}{d e f:Dt}(h:Ai K H vs [d,e,f]):∃a b c,vs=[a,b,c]/\Aq K H a d/\Aq K H b e/\Aq K H c f:=by
 cases h with
 |cons g t=>obtain⟨a,b,rfl,i,j⟩:=LO t;exact⟨_,_,_,rfl,g,i,j⟩
def HI{x y z:V}{us:List Value}(r:Ax [x,y,z] us):∃u w v,us=[u,w,v]/\RelV x u/\RelV y w/\RelV z v:=by
 cases r with
 |cons c d=>obtain⟨a,b,rfl,e,f⟩:=Kr d;exact⟨_,_,_,rfl,c,e,f⟩
@[reducible] def LP (c d:Enc):Enc where
 O:=BM c.O d.O
 D p:=Dt.tup [c.D p.1,d.D p.2]
 dflt:=(c.dflt,d.dflt)
 dep:=max c.dep d.dep+1
 cmp a b:=.tup (.cons ((c.cmp a.1 b.1).mono (Nat.le_max_left _ _)) (.cons ((d.cmp a.2 b.2).mono (Nat.le_max_right _ _)) (.nil _)))
 inj a b h:=by
  injection h with h;injection h with h1 h2;injection h2 with h2 _;exact Prod.ext (c.inj _ _ h1) (d.inj _ _ h2)
 lt {X pins σ H s} I {a b v u x y A} hv hu rx ry hA:=by
  have m1:=Nat.le_max_left c.dep d.dep;have m2:=Nat.le_max_right c.dep d.dep
  cases hv with
  |tup h t =>
    cases hu with
    |tup h' t' =>
      cases rx;cases ry;obtain⟨its,r,p,_⟩:=I.tuple h;obtain⟨its',r',p',_⟩:=I.tuple h';obtain⟨v1,v2,rfl,t1,t2⟩:=LO t;obtain⟨u1,u2,rfl,s1,s2⟩:=LO t';obtain⟨x1,x2,rfl,r1,r2⟩:=Kr r;obtain⟨y1,y2,rfl,q1,q2⟩:=Kr r';refine B9.tuples p p' (c.lex (A:=A.in1) I t1 s1 r1 q1 (by rw[Hd];lia) (λe=>⟨d.lex (A:=A.in1) I t2 s2 r2 q2 (by rw[Hd];lia) (λe'=>⟨.nil,?_⟩) λe'=>rfl,MW a b e⟩) λe=>MX a b e) (by lia);rw[e',d.O.irrefl]
@[reducible] def Kz (c d e:Enc):Enc where
 O:=BM c.O (BM d.O e.O)
 D p:=Dt.tup [c.D p.1,d.D p.2.1,e.D p.2.2]
 dflt:=(c.dflt,d.dflt,e.dflt)
 dep:=max c.dep (max d.dep e.dep)+1
 cmp a b:=.tup (.cons ((c.cmp a.1 b.1).mono (Nat.le_max_left _ _)) (.cons ((d.cmp a.2.1 b.2.1).mono (by lia)) (.cons ((e.cmp a.2.2 b.2.2).mono (by lia)) (.nil _))))
 inj a b h:=by
  injection h with h;injection h with h1 h2;injection h2 with h2 h3;injection h3 with h3 _;exact Prod.ext (c.inj _ _ h1) (Prod.ext (d.inj _ _ h2) (e.inj _ _ h3))
 lt {X pins σ H s} I {a b v u x y A} hv hu rx ry hA:=by
  have m1:=Nat.le_max_left c.dep (max d.dep e.dep);have m2:=Nat.le_max_right c.dep (max d.dep e.dep);have m3:=Nat.le_max_left d.dep e.dep;have m4:=Nat.le_max_right d.dep e.dep
  cases hv with
  |tup h t =>
    cases hu with
    |tup h' t' =>
      cases rx;cases ry;obtain⟨its,r,p,_⟩:=I.tuple h;obtain⟨its',r',p',_⟩:=I.tuple h';obtain⟨v1,v2,v3,rfl,t1,t2,t3⟩:=N1 t;obtain⟨u1,u2,u3,rfl,s1,s2,s3⟩:=N1 t';obtain⟨x1,x2,x3,rfl,r1,r2,r3⟩:=HI r;obtain⟨y1,y2,y3,rfl,q1,q2,q3⟩:=HI r';refine B9.tuples p p' (c.lex (A:=A.in1) I t1 s1 r1 q1 (by rw[Hd];lia) (λg=>⟨d.lex (A:=A.in1) I t2 s2 r2 q2 (by rw[Hd];lia) (λg'=>⟨e.lex (A:=A.in1) I t3 s3 r3 q3 (by rw[Hd];lia) (λg''=>⟨.nil,?_⟩) λζ=>rfl,MW a.2 b.2 g'⟩) λg'=>MX a.2 b.2 g',MW a b g⟩) λg=>MX a b g) (by lia);rw[g'',e.O.irrefl]
section
variable {X:Cx}
abbrev DL (c:Enc):Type:=V×c.O.α
def Po (X:Cx) (c:Enc):List V->Hp->VK->Prop:=λvs H Q=>∃(l:Addr)(zs:List (DL c)),vs=[.ref l]/\Af X.K H l (zs.map (·.1))/\zs.length<64 /\
 (∀z∈zs,Aq X.K H z.1 (c.D z.2))/\∀(D:Addr)(zs':List (DL c)),zs'.Perm zs->(zs'.map (·.2)).Pairwise c.O.kle->H D=none->Q (.ref D) (upd H D (.lst (zs'.map (·.1))))
theorem Sg(c:Enc)(κ:SortKind)
 (aj:∀(pins:B')(σ:St)(H:Hp)(s:Shared)(zs:List (DL c))(g:List Value)(Q:SortKind->Shared->Prop),Inv X pins σ H s->Ax (zs.map (·.1)) g->(∀z∈zs,Aq X.K H z.1 (c.D z.2))->2<=g.length->Q κ s->wpAny (model X.prog X.w) X.A.in1.in1 (keyKind' g.toArray) Q (λζ ζ=>False) s)
 (ai:∀(pins:B')(σ:St)(H:Hp)(s:Shared)(z m:DL c)(x y:Value)(C:Bool->Shared->Prop),Inv X pins σ H s->Aq X.K H z.1 (c.D z.2)->Aq X.K H m.1 (c.D m.2)->RelV z.1 x->RelV m.1 y->C (c.O.blt z.2 m.2) s->wpAny (model X.prog X.w) X.A.in1.in1 (keyLt' κ x y) C (λζ ζ=>False) s) :
 Bs X (.builtin "sorted") (Po X c):=by
 intro pins s σ H vs us Q I r h;obtain⟨l,zs,rfl,L,an,v,q⟩:=h;obtain⟨u,rfl,M⟩:=Gh r;obtain rfl:u=Value.ref l:=M;obtain⟨g,p,N,_⟩:=I.list L;have J:zs.length=g.length:=by have:=p.length;rwa [Ak] at this
 let b:DL c:=(V.non,c.dflt)
 have t:∀i,i<zs.length->RelV (zs.getD i b).1 (g.getD i Value.none)/\Aq X.K H (zs.getD i b).1 (c.D (zs.getD i b).2):=λi d=>by
  have:=NU p i V.non Value.none (by rw[Ak];exact d)
  have e:(zs.map (·.1)).getD i V.non=(zs.getD i b).1:=by
   rw[B6,AM,B6,AB d];rfl
  rw[e] at this;refine⟨this,v _ ?_⟩;rw[B6,AB d];exact Dk d
 refine Sb (O:=c.O) (key:=λi=>(zs.getD i b).2) (κ:=κ) (vs:=g) N.isList (by lia) (λo w k P R=>?_) (λw k i j C d hj S=>?_) λD w n f Z A G ae T=>?_;exact aj pins σ H _ zs g P (I.kept (t':=s.toks) k) p v o R;obtain⟨U,W⟩:=t i (by lia);obtain⟨Y,b2⟩:=t j (by lia);unfold PySem.W.kas_ask;exact ai pins σ H _ _ _ _ _ C (I.kept (t':=s.toks) k) W b2 U Y S
 have af:∀i∈f,i<zs.length:=λi d=>by
  have:=G.mem_iff.mp d;rw[J];simpa using this
 have ak:(List.range zs.length).map (λi=>zs.getD i b)=zs:=by
  apply List.ext_getElem?;intro k;by_cases B:k<zs.length;simp[B,B6];simp[B]
 have K:(f.map λi=>zs.getD i b).Perm zs:=by
  have:=G.map (λi=>zs.getD i b)
  rwa [<-J,ak] at this
 have hv:Ax ((f.map λi=>zs.getD i b).map (·.1)) (f.map λi=>g.getD i Value.none):=by
  rw[El];exact Pl f λi d=>(t i (af i d)).1
 have ag:((f.map λi=>zs.getD i b).map (·.2)).Pairwise c.O.kle:=by
  refine Pk (λζ ζ ζ=>KeyOrd.kle_trans) _ λi a al E o=>?_;rw[El,AM,ER] at E o;obtain⟨x,e1,rfl⟩:=E;obtain⟨y,F,rfl⟩:=o;obtain⟨ah,_⟩:=Bi.mp F;have:=ae i ah;have aa:f.getD i 0=x:=by rw[B6,e1];rfl
  have ab:f.getD (i+1) 0=y:=by rw[B6,F];rfl
  rw[aa,ab] at this;exact this
 exact⟨.ref D,upd H D (.lst ((f.map λi=>zs.getD i b).map (·.1))),I.laidN (t':=s.toks) Z A ⟨by rw[Ak,K.length_eq];exact CU (BL (by lia)),_,n,hv,T⟩,rfl,q D _ K ag (I.freshN A)⟩
def Sh{pins:B'}{s:Shared}{M:Model}(I:Inv X pins σ H s){a:List Dt}{x:Value}(h:Aq X.K H v (.lst a))(r:RelV v x):PySem.W.Looks M s.heap (typeOf x) (.type "list"):=by
 cases h with
 |lst h t =>
   cases r;obtain⟨d,_,p,_⟩:=I.list h;obtain⟨o,b,c,_⟩:=p.isList;rw[<-c];exact(PySem.W.Looks.ld b).andThen .now
def Vp(c:Enc)(J:X.A.units+64<cLine)(hd:c.dep<=50):Bs X (.builtin "sorted") (Po X (Ez c)):=by
 refine Sg (Ez c) oneType' (λG σ H s f E Q I b g j k=>?_) λG σ H s z l x y C I h a r m n=>?_;refine PySem.W.kas_kind (T:=.type "list") j (λv o=>?_) (by decide) (by decide) k;obtain⟨i,d⟩:=List.getElem?_of_mem o;have K:=(Bi.mp d).1;have q:=b.length;rw[Ak] at q;obtain⟨x,e,w⟩:=b.get (i:=i) (x:=(f[i]'(by lia)).1) (by rw[AM,AB (by lia)];rfl);rw[d] at e;cases e;exact Sh I (g _ (Dk (by lia))) w;rw[keyLt'_oneType];obtain⟨v,as⟩:=z;obtain⟨u,bs⟩:=l
 cases h with
 |lst h t =>
   cases a with
   |lst a A =>
     cases r;cases m;obtain⟨E,B,p,_⟩:=I.list h;obtain⟨L,F,D,_⟩:=I.list a;exact Vj p.isList D.isList (c.lexL I (by show _+1+1+1+_<_;lia) t A B F) (by show _+1+1<_;lia) n
theorem Si(c:Enc){pins:B'}{σ:St}{H:Hp}{s:Shared}(I:Inv X pins σ H s){g:c.O.α->List Dt}:∀{zs:List (V×c.O.α)}{f:List Value}{k:c.O.α->List Dt},Ax (zs.map (·.1)) f->(∀z∈zs,∃b,k z.2=Dt.lst b::g z.2/\Aq X.K H z.1 (.tup (k z.2))) ->
 ∃fs,PySem.W.KatTups s.heap f fs/\fs.length=zs.length/\∀v∈fs,∃(u:V)(b:List Dt),Aq X.K H u (.lst b)/\RelV u v
 |[],_,_,.nil,_=>⟨[],.nil,rfl,λζ x=>by cases x⟩
 | z :: zs,_,k,.cons r i,h=>by
   obtain⟨fs,j,l,m⟩:=Si c I (zs:=zs) i λy p=>h y (Cw _ p);obtain⟨b,e,hd⟩:=h z BF;rw[e] at hd;obtain⟨v,a⟩:=z;dsimp only at r hd
   cases hd with
   | tup q t =>
     cases r;obtain⟨f,A,⟨o,B,C,n,D⟩,_⟩:=I.tuple q
     cases t with
     |cons E G =>
       cases A with
       |cons F J =>
         refine⟨_::fs,.cons B C D rfl j,by simp[l],λw d=>?_⟩;rcases BI.mp d with e|d;exact⟨_,b,E,e▸F⟩;exact m w d
def Sj{A:Around}{s:Shared}{prog:Program}{w:World}{E:I'}{x y:Value}{b:Bool}{Q:Bool->Shared->Prop}(h:B9 A s x y b)(q:Q b s):wpAny (model prog w) A (oneLt' false x y) Q E s:=
 PySem.W.kat_one _ _ (h prog w E _ q)
def HJ(c:Enc){pins:B'}{s:Shared}(I:Inv X pins σ H s){A:Around}{as bs:List c.O.α}{u:V}{x y:Value}{prog:Program}{w:World}{E:I'}{Q:Bool->Shared->Prop}(h:Aq X.K H v ((Ez c).D as))(h':Aq X.K H u ((Ez c).D bs))(r:RelV v x)(a:RelV u y)(hA:A.units+(c.dep+1)<cLine)(q:Q (ET c.O as bs) s):wpAny (model prog w) A (oneLt' true x y) Q E s:=by
 cases h with
 |lst h t =>
   cases h' with
   |lst h' b =>
     cases r;cases a;obtain⟨g,d,p,_⟩:=I.list h;obtain⟨i,f,e,_⟩:=I.list h';exact Vj p.isList e.isList (c.lexL I (by rw[Hd];lia) t b d f) (by lia) q
def Yo (c d:Enc) (hu:X.A.units + 64 < cLine) (h1:c.dep<=50) (h2:d.dep<=50):Bs X (.builtin "sorted") (Po X (LP (Ez c) d)):=by
 refine Sg (LP (Ez c) d) (tuples' true) (λah σ H s zs Z ai I o M hl N=>?_) λah σ H s z O x aj C I h w r y a=>?_;obtain⟨fs,P,k2,Q⟩:=Si (LP (Ez c) d) I (k:=λp=>[(Ez c).D p.1,d.D p.2]) (g:=λp=>[d.D p.2]) o λz aa=>⟨_,rfl,M z aa⟩;have ab:=o.length;rw[Ak] at ab;refine PySem.W.kat_kind (T:=.type "list") P (by lia) (λv R=>?_) (by decide) N;obtain⟨u,ds,S,U⟩:=Q v R;exact Sh I S U;obtain⟨v,p⟩:=z;obtain⟨u,q⟩:=O;dsimp only at h w r y
 change C ((LP (Ez c) d).O.blt p q) s at a
 have j:X.A.in1.in1.units=X.A.units+1+1:=rfl
 cases h with
 | tup V t =>
   cases w with
   | tup ae b =>
     cases r;cases y;obtain⟨Z,e,⟨ox,af,_,n,W⟩,_⟩:=I.tuple V;obtain⟨ak,f,⟨oy,ag,_,m,Y⟩,_⟩:=I.tuple ae
     cases t with
     | cons B t=>cases t with
       | cons D t=>cases t; cases b with
         | cons E b=>cases b with
           | cons F b=>cases b; cases e with
             |cons G e=>cases e with
               |cons J e=>cases e; cases f with
                 |cons K f=>cases f with
                   |cons L f =>
                     cases f;refine PySem.W.kat_lt af W ag Y (PySem.W.kat_cons ((Ez c).eq (A:=X.A.in1.in1) I B E G K (by rw[j];show _+(c.dep+1)<_;lia) _ _ _ _ ?_));by_cases i:p.1=q.1;rw[Ep i]
                     rw[show(LP (Ez c) d).O.blt p q=d.O.blt p.2 q.2 from MW p q i] at a;refine PySem.W.kat_yes (PySem.W.kat_cons (d.eq (A:=X.A.in1.in1) I D F J L (by rw[j];lia) _ _ _ _ ?_))
                     by_cases l:p.2=q.2;rw[Ep l];refine PySem.W.kat_yes (PySem.W.kat_nil ?_);rw[l,d.O.irrefl] at a;exact a;rw[Ga l];exact PySem.W.kat_no (Sj (d.lt I D F J L (by rw[j];lia)) a);rw[Ga i]
                     rw[show(LP (Ez c) d).O.blt p q=ET c.O p.1 q.1 from MX p q i] at a;exact PySem.W.kat_no (HJ c I B E G K (by rw[j];lia) a)
def Yp (c d e:Enc) (hu:X.A.units + 64 < cLine) (h1:c.dep<=50) (h2:d.dep<=50) (h3:e.dep<=50):Bs X (.builtin "sorted") (Po X (Kz (Ez c) d e)):=by
 refine Sg (Kz (Ez c) d e) (tuples' true) (λai σ H s zs aa aj I y S hl U=>?_) λai σ H s z V x ak C I h B r D a=>?_;obtain⟨fs,W,k2,Y⟩:=Si (Kz (Ez c) d e) I (k:=λp=>[(Ez c).D p.1,d.D p.2.1,e.D p.2.2]) (g:=λp=>[d.D p.2.1,e.D p.2.2]) y λz ab=>⟨_,rfl,S z ab⟩;have ae:=y.length;rw[Ak] at ae;refine PySem.W.kat_kind (T:=.type "list") W (by lia) (λv Z=>?_) (by decide) U;obtain⟨u,ds,a1,a2⟩:=Y v Z;exact Sh I a1 a2;obtain⟨v,p⟩:=z;obtain⟨u,q⟩:=V;dsimp only at h B r D
 change C ((Kz (Ez c) d e).O.blt p q) s at a
 have j:X.A.in1.in1.units=X.A.units+1+1:=rfl
 cases h with
 | tup hs t =>
   cases B with
   | tup af b =>
     cases r;cases D;obtain⟨aa,f,⟨ox,ag,_,n,dx⟩,_⟩:=I.tuple hs;obtain⟨al,i,⟨oy,ah,_,m,dy⟩,_⟩:=I.tuple af
     cases t with
     | cons E t=>cases t with
       | cons F t=>cases t with
         | cons G t=>cases t; cases b with
           | cons J b=>cases b with
             | cons K b=>cases b with
               | cons L b=>cases b; cases f with
                 | cons M f=>cases f with
                   | cons N f=>cases f with
                     |cons O f=>cases f; cases i with
                       |cons P i=>cases i with
                         |cons Q i=>cases i with
                           |cons R i =>
                             cases i;refine PySem.W.kat_lt ag dx ah dy (PySem.W.kat_cons ((Ez c).eq (A:=X.A.in1.in1) I E J M P (by rw[j];show _+(c.dep+1)<_;lia) _ _ _ _ ?_));by_cases l:p.1=q.1;rw[Ep l]
                             rw[show(Kz (Ez c) d e).O.blt p q=(BM d.O e.O).blt p.2 q.2 from MW p q l] at a;refine PySem.W.kat_yes (PySem.W.kat_cons (d.eq (A:=X.A.in1.in1) I F K N Q (by rw[j];lia) _ _ _ _ ?_))
                             by_cases o:p.2.1=q.2.1;rw[Ep o]
                             rw[show(BM d.O e.O).blt p.2 q.2=e.O.blt p.2.2 q.2.2 from MW p.2 q.2 o] at a;refine PySem.W.kat_yes (PySem.W.kat_cons (e.eq (A:=X.A.in1.in1) I G L O R (by rw[j];lia) _ _ _ _ ?_))
                             by_cases w:p.2.2=q.2.2;rw[Ep w];refine PySem.W.kat_yes (PySem.W.kat_nil ?_);rw[w,e.O.irrefl] at a;exact a;rw[Ga w];exact PySem.W.kat_no (Sj (e.lt I G L O R (by rw[j];lia)) a);rw[Ga o]
                             rw[show(BM d.O e.O).blt p.2 q.2=d.O.blt p.2.1 q.2.1 from MX p.2 q.2 o] at a;exact PySem.W.kat_no (Sj (d.lt I F K N Q (by rw[j];lia)) a)
                             rw[Ga l]
                             rw[show(Kz (Ez c) d e).O.blt p q=ET c.O p.1 q.1 from MX p q l] at a;exact PySem.W.kat_no (HJ c I E J M P (by rw[j];lia) a)
end
def Do:List (Str×Int)->Str->Option Int
 |[],_=>none
 |(y,n)::r,x=>if y=x then some n else Do r x
def Eg:Option Int->V
 |some n=>.int n
 |none=>.non
theorem HK:∀{gs:List (Str×Int)}{i:Nat}{p:Str×Int}{x:Str},gs[i]?=some p->p.1=x->(∀q∈gs.take i,q.1≠x)->Do gs x=some p.2
 |[],_,_,_,h,_,_=>by simp at h
 |q::r,0,p,x,h,e,_=>by
   simp at h;subst h;obtain⟨y,n⟩:=q;exact Au e
 |q::r,i+1,p,x,h,e,k=>by
   obtain⟨y,n⟩:=q;have a:y≠x:=k (y,n) (by simp);show(if y=x then some n else Do r x)=_;rw[At a];exact HK (i:=i) (by simpa using h) e λq b=>k q (by simp[b])
theorem Vq:∀{gs:List (Str×Int)}{x:Str},(∀q∈gs,q.1≠x)->Do gs x=none
 |[],_,_=>rfl
 |(y,n)::r,x,k=>by
   show(if y=x then some n else Do r x)=_;rw[At (k (y,n) (by simp))];exact Vq λq a=>k q (by simp[a])
theorem Pp:∀{gs:List (Str×Int)}{x:Str}{n:Int},Do gs x=some n->(x,n)∈gs
 |[],_,_,h=>by cases h
 |(y,m)::r,x,n,h=>by
   have h':(if y=x then some m else Do r x)=some n:=h
   by_cases e:y=x;rw[Au e] at h';rw[<-e,<-BS h'];exact BF;rw[At e] at h';exact Cw _ (Pp h')
abbrev As:Type:=Int×Str×Int
abbrev FT (m:As):List V:=[.int m.1,.str m.2.1,.int m.2.2]
abbrev AK:Type:=List As×Int×Int
structure Wd where
 ss:List Bf
 gs:List (Str×Int)
 as:List (C')
 sts:List CA
abbrev Gn:Type:=As×(Str×Int)×Int
def Er (W:Wd) (sc:Int) (go:List (Str×Int)) (p:Ch) (i:Nat):List Gn:=match Do go p.1 with
 |some a=>[((sc,("step" : Str),(i:Int)),CQ W.gs W.as p,a)]
 |none=>[]
def Dd (W:Wd) (sc:Int) (go:List (Str×Int)):List Ch->Nat->List Gn
 |[],_=>[]
 |p::r,i=>Er W sc go p i++Dd W sc go r (i+1)
def AX (W:Wd) (sc:Int):List Ch:=match W.ss[sc.toNat]? with
 |some s=>s.1
 |none=>[]
def BB (W:Wd) (st:Int):List (Str×Int):=match W.sts[st.toNat]? with
 |some s=>s.1
 |none=>[]
def FU (W:Wd) (sc st:Int):List Gn:=Dd W sc (BB W st) (AX W sc) 0
theorem Sk(W:Wd)(sc:Int)(go:List (Str×Int))(p:Ch):∀(l:List Ch)(i:Nat),Dd W sc go (l++[p]) i=Dd W sc go l i++Er W sc go p (i+l.length)
 |[],i=>by simp[Dd]
 |q::l,i=>by
   show Er W sc go q i++Dd W sc go (l++[p]) (i+1)=(Er W sc go q i++Dd W sc go l (i+1))++_;rw[Sk W sc go p l (i+1),FJ,Em,show i+1+l.length=i+(l.length+1) by lia]
variable {W:Wd}{sc:Int}{r:Gn}
def DM{go:List (Str×Int)}{p:Ch}:r∈Er W sc go p i↔∃a,Do go p.1=some a/\r=((sc,("step" : Str),(i:Int)),CQ W.gs W.as p,a):=by
 unfold Er
 cases e:Do go p.1 with
 |none=>simp
 |some a=>simp
theorem BQ{W:Wd}{sc:Int}{go:List (Str×Int)}{r:Gn}:∀{l:List Ch}{i:Nat},r∈Dd W sc go l i↔∃(j:Nat)(p:Ch)(a:Int),l[j]?=some p/\Do go p.1=some a/\r=((sc,("step" : Str),((i+j:Nat):Int)),CQ W.gs W.as p,a)
 |[],i=>by simp[Dd]
 | q :: l,i=>by
   show r∈Er W sc go q i++Dd W sc go l (i+1)↔_;rw[BR,DM,BQ (l:=l) (i:=i+1)];constructor;rintro(⟨a,b,c⟩|⟨j,p,a,b,c,d⟩);exact⟨0,q,a,rfl,b,by rw[c];rfl⟩;exact⟨j+1,p,a,by simpa using b,c,by rw[d,show i+1+j=i+(j+1) by lia]⟩;rintro⟨j,p,a,b,c,d⟩
   cases j with
   |zero =>
     simp at b;subst b;exact .inl ⟨a,c,by rw[d];rfl⟩
   |succ j=>exact .inr ⟨j,p,a,by simpa using b,c,by rw[d,show i+1+j=i+(j+1) by lia]⟩
theorem Vr(W:Wd)(sc:Int)(go:List (Str×Int)):∀(l:List Ch)(i:Nat),(Dd W sc go l i).Pairwise (λr b=>r.1≠b.1)
 |[],i=>List.Pairwise.nil
 |q::l,i=>by
   show(Er W sc go q i++Dd W sc go l (i+1)).Pairwise _;refine List.pairwise_append.mpr ⟨?_,Vr W sc go l (i+1),λr c b d e=>?_⟩;unfold Er;split;exact List.pairwise_singleton _ _;exact List.Pairwise.nil;obtain⟨a,_,rfl⟩:=DM.mp c;obtain⟨j,p,f,_,_,rfl⟩:=BQ.mp d;have:=Bq (λm:As=>m.2.2) e;simp only at this;lia
theorem Jw(W:Wd)(sc:Int)(go:List (Str×Int)):∀(l:List Ch)(i:Nat),(Dd W sc go l i).length<=l.length
 |[],i=>AG _
 |q::l,i=>by
   show(Er W sc go q i++Dd W sc go l (i+1)).length<=_;have a:(Er W sc go q i).length<=1:=by unfold Er;split<;>simp
   have b:=Jw W sc go l (i+1);rw[AO,Em];lia
def Yq{go:List (Str×Int)}{l:List Ch}{b:Gn}(h:r∈Dd W sc go l i)(h':b∈Dd W sc go l i)(e:r.1=b.1):r=b:=by
 obtain⟨j,p,a,f,g,rfl⟩:=BQ.mp h;obtain⟨k,o,q,c,d,rfl⟩:=BQ.mp h';have:=Bq (λm:As=>m.2.2) e;simp only at this;have n:j=k:=(by lia);subst n;rw[f] at c;cases c;rw[g] at d;cases d;rfl
def AY (b:AK):List Int:=b.1.map (·.1)++[b.2.1]
def kid (b:AK) (r:Gn):Option AK:=if r.2.1.1=("to" : Str)/\r.2.1.2∉AY b then some (b.1++[r.1],r.2.1.2,r.2.2) else none
def BU (W:Wd) (b:AK):List AK:=(FU W b.2.1 b.2.2).filterMap (kid b)
variable {b:AK}
set_option tactic.hygienic true in
def Bt{c:AK}:c∈BU W b↔∃r∈FU W b.2.1 b.2.2,r.2.1.1=("to" : Str)/\r.2.1.2∉AY b/\c=(b.1++[r.1],r.2.1.2,r.2.2):=by
 unfold BU kid;rw[List.mem_filterMap];constructor;rintro⟨r,a,e⟩;split at e;rename_i h;exact⟨r,a,h.1,h.2,(BS e).symm⟩;cases e;rintro⟨r,a,d,f,e⟩;exact⟨r,a,by rw[Au ⟨d,f⟩,e]⟩
def Vs(W:Wd)(b:AK):(BU W b).length<=(AX W b.2.1).length:=Fa (List.length_filterMap_le _ _) (Jw _ _ _ _ _)
def Sl(W:Wd)(b:AK):(BU W b).Nodup:=by
 refine List.Pairwise.filterMap (kid b) (λr g f c a h d e=>?_) (Vr W b.2.1 (BB W b.2.2) (AX W b.2.1) 0);unfold kid at a d;split at a;split at d;cases a;cases d;have:=Bq Prod.fst e;simp only at this;have:=(List.append_inj' this rfl).2;exact f (by simpa using this);cases d;cases a
inductive By (W:Wd) (sc st:Int):AK->Prop where
 |root:By W sc st ([],sc,st)
 |kid {b c:AK} (h:By W sc st b) (k:c∈BU W b):By W sc st c
structure Cm (W:Wd):Prop where
 s5:W.ss.length<=100
 st:∀s∈W.ss,s.1.length<=8
 kst:∀s∈W.ss,∀p∈s.1,GW W.ss.length W.as.length p
 kth:∀p∈W.gs,LN W.ss.length W.as.length p
 an:∀p,some p∈W.as->p.1=("thing" : Str)->0<=p.2/\p.2<W.gs.length
 go:∀s∈W.sts,∀p∈s.1,0<=p.2/\p.2<W.sts.length
 few:∀(sc st:Int)(F:List AK),(0<=sc/\sc<W.ss.length)->(0<=st/\st<W.sts.length)->F.Nodup->(∀b∈F,By W sc st b)->F.length<=62
def Cm.net(h:Cm W):FQ W.gs W.as:=⟨λp b e=>by
 rcases h.kth p b with⟨a,_⟩|⟨a,_⟩|⟨_,c⟩;rw[e] at a;exact absurd a (by decide +kernel);rw[e] at a;exact absurd a (by decide +kernel)
 exact c,h.an⟩
def Cm.by_(h:Cm W)(a:s∈W.ss){p:Ch}(b:p∈s.1)(c:p.2.1≠("to" : Str)):0<=p.2.2/\p.2.2<W.as.length:=by
 rcases h.kst s a p b with⟨e,_⟩|⟨_,e⟩;exact absurd e c;exact e
def KA:(("no" : Str),(0:Int)).1≠("to" : Str):=by decide +kernel
def Vt:("open" : Str)≠("to" : Str):=by decide +kernel
def Vu(h:Cm W){k:Str×Int}(c:k∈W.gs)(b:k.1=("part" : Str)):0<=k.2/\k.2<W.ss.length:=by
 rcases h.kth k c with⟨a,_⟩|⟨_,d⟩|⟨a,_⟩;rw[b] at a;exact absurd a (by decide +kernel);exact d;rw[b] at a;exact absurd a (by decide +kernel)
variable {g:Str×Int}
set_option tactic.hygienic true in
def Yr(h:Cm W){q:Int}(e:Ef W.gs W.as q=g)(a:g.1=("to" : Str)):0<=g.2/\g.2<W.ss.length:=by
 unfold Ef at e;split at e;split at e;split at e;rename_i k b;split at e;rename_i c;subst e;exact Vu (k:=k) h (Bk b) c;subst e;exact absurd a KA;subst e;exact absurd a KA;subst e;exact absurd a KA;subst e;exact absurd a Vt;subst e;exact absurd a KA
set_option tactic.hygienic true in
def Sm(h:Cm W)(b:p∈W.gs)(e:ES W.gs W.as p=g)(a:g.1=("to" : Str)):0<=g.2/\g.2<W.ss.length:=by
 unfold ES at e;split at e;rename_i c;subst e;exact Vu (k:=p) h b c;split at e;exact Yr h e a;subst e;exact absurd a KA
set_option tactic.hygienic true in
def Vv(h:Cm W)(c:s∈W.ss){p:Ch}(d:p∈s.1)(e:CQ W.gs W.as p=g)(a:g.1=("to" : Str)):0<=g.2/\g.2<W.ss.length:=by
 unfold CQ at e;split at e;rename_i j;subst e;rcases h.kst s c p d with⟨_,f⟩|⟨b,_⟩;exact f;rw[j] at b;exact absurd b (by decide +kernel);split at e;split at e;split at e;rename_i k i;exact Sm h (Bk i) e a;subst e;exact absurd a KA;subst e;exact absurd a KA;subst e;exact absurd a Vt;subst e;exact absurd a KA
structure Dp (W:Wd) (b:AK):Prop where
 nd:(AY b).Nodup
 rng:∀x∈AY b,0<=x/\x<W.ss.length
 st:0<=b.2.2/\b.2.2<W.sts.length
set_option tactic.hygienic true in
def Ys{p:Ch}(h:p∈AX W sc):∃s∈W.ss,p∈s.1:=by
 unfold AX at h;split at h;rename_i s a;exact⟨s,Bk a,h⟩;cases h
variable {st:Int}
set_option tactic.hygienic true in
def Yt(h:p∈BB W st):∃s∈W.sts,p∈s.1:=by
 unfold BB at h;split at h;rename_i s a;exact⟨s,Bk a,h⟩;cases h
def MY(h:r∈FU W sc st):∃(j:Nat)(p:Ch)(a:Int),(AX W sc)[j]?=some p/\Do (BB W st) p.1=some a/\r=((sc,("step" : Str),(j:Int)),CQ W.gs W.as p,a):=by
 obtain⟨j,p,a,b,c,d⟩:=BQ.mp h;exact⟨j,p,a,b,c,by rw[d,Nat.zero_add]⟩
def Yu(h:r∈FU W b.2.1 b.2.2):AY (b.1++[r.1],r.2.1.2,r.2.2)=AY b++[r.2.1.2]:=by
 obtain⟨j,p,a,_,_,rfl⟩:=MY h;unfold AY
 simp
def Dp.kid(ok:Cm W){c:AK}(h:Dp W b)(k:c∈BU W b):Dp W c:=by
 obtain⟨r,e,g,i,rfl⟩:=Bt.mp k;have f:=Yu e;obtain⟨j,p,a,l,m,rfl⟩:=MY e;obtain⟨s,n,o⟩:=Ys (Bk l);refine⟨?_,?_,?_⟩;rw[f,List.nodup_append]
 exact⟨h.nd,by simp,λx d y q=>by
  rw[A9.mp q]
  exact λz=>i (z▸d)⟩
 rw[f];intro x d;rcases BR.mp d with d|d;exact h.rng x d;rw[A9.mp d];exact Vv ok n o rfl g;obtain⟨t,u,v⟩:=Yt (Pp m);exact ok.go t u _ v
def By.ok{W:Wd}(ok:Cm W){sc st:Int}(d:0<=sc/\sc<W.ss.length)(e:0<=st/\st<W.sts.length){b:AK}(h:By W sc st b):Dp W b:=by
 induction h with
 |root=>exact⟨by simp[AY],λx a=>by simp[AY] at a;rw[a];exact d,e⟩
 |kid _ k c=>exact c.kid ok k
def By.uniq(h:By W sc st b):∀{c:AK},By W sc st c->b.1=c.1->b=c:=by
 induction h with
 |root =>
   intro c a e
   cases a with
   |root=>rfl
   |kid _ k =>
     obtain⟨r,_,_,_,rfl⟩:=Bt.mp k;simp at e
 |@kid o p q k d =>
   intro c a e;obtain⟨r,f,s,t,rfl⟩:=Bt.mp k
   cases a with
   |root=>simp at e
   |@kid u _ m g =>
     obtain⟨v,n,w,x,rfl⟩:=Bt.mp g;simp only at e;obtain⟨i,j⟩:=List.append_inj' e rfl;have l:=d m i;subst l;have:=Yq f n (by simpa using j);subst this;rfl
theorem LQ:∀(n:Nat)(l:List Int),l.Nodup->(∀x∈l,0<=x/\x<(n:Int))->l.length<=n
 |0,[],_,_=>AG _
 |0,x::l,_,h=>by have:=h x BF;lia
 |n+1,l,b,h=>by
   have e:(l.erase (n:Int)).Nodup:=b.erase _
   have c:∀x∈l.erase (n:Int),0<=x/\x<(n:Int):=λx d=>by
    obtain⟨f,a⟩:=(b.mem_erase_iff).mp d;have:=h x a;lia
   have:=LQ n _ e c
   have g:l.length<=(l.erase (n:Int)).length+1:=by
    by_cases a:(n:Int)∈l;rw[List.length_erase_of_mem a];lia;rw[List.erase_of_not_mem a];lia
   lia
set_option tactic.hygienic true in
def Pq(ok:Cm W)(sc:Int):(AX W sc).length<=8:=by
 unfold AX;split;rename_i s a;exact ok.st s (Bk a);exact DP _
structure GX (W:Wd) (sc st:Int) (F:List AK) (p:Nat):Prop where
 root:([],sc,st)∈F
 is:∀b∈F,By W sc st b
 nd:F.Nodup
 done:∀(j:Nat)(b:AK),j<p->F[j]?=some b->∀c∈BU W b,c∈F
 src:∀c∈F,c=([],sc,st)\/∃(j:Nat)(b:AK),j<p/\F[j]?=some b/\c∈BU W b
 le:p<=F.length
def GX.start(W:Wd)(sc st:Int):GX W sc st [([],sc,st)] 0 where
 root:=BF
 is b a:=by rw[A9.mp a];exact .root
 nd:=by simp
 done j b e:=by lia
 src c d:=.inl (A9.mp d)
 le:=DP _
def GX.turn{F:List AK}{p:Nat}(h:GX W sc st F p)(g:F[p]?=some b):GX W sc st (F++BU W b) (p+1):=by
 have x:p<F.length:=(Bi.mp g).1;have y:=Bk g;have q:=h.is b y;have o:∀(j:Nat),j<F.length->(F++BU W b)[j]?=F[j]?:=λj f=>EQ f
 have one:∀(j:Nat)(c:AK),j<p+1->(F++BU W b)[j]?=some c->(j<p/\F[j]?=some c)\/c=b:=λj c f e=>by
  rw[o j (by lia)] at e;by_cases z:j<p;exact .inl ⟨z,e⟩;have:j=p:=(by lia);subst this;rw[g] at e;exact .inr (BS e).symm
 refine⟨GP _ h.root,λc a=>?_,?_,λj c f e d hd=>?_,λc a=>?_,by rw[AO];lia⟩;rcases BR.mp a with a|a;exact h.is c a;exact .kid q a;refine List.nodup_append.mpr ⟨h.nd,Sl W b,λc a d hd e=>?_⟩;subst e;obtain⟨r,C,_,_,l⟩:=Bt.mp hd;rcases h.src c a with m|⟨j,i,f,k,n⟩;rw[m] at l;have:=Bq Prod.fst l;simp at this;obtain⟨D,H,_,_,A⟩:=Bt.mp n
 have s:i.1=b.1:=by
  have:=Bq Prod.fst (A.symm.trans l);simp only at this;exact(List.append_inj' this rfl).1
 have t:=(h.is i (Bk k)).uniq q s;subst t;obtain⟨E,u⟩:=Bi.mp k;obtain⟨G,v⟩:=Bi.mp g;have:=(List.getElem_inj h.nd).mp (u.trans v.symm);lia;rcases one j c f e with⟨B,w⟩|rfl;exact GP _ (h.done j c B w d hd);exact D6 _ hd;rcases BR.mp a with a|a;rcases h.src c a with m|⟨j,i,f,k,n⟩;exact .inl m;exact .inr ⟨j,i,by lia,by rw[o j (by lia)];exact k,n⟩;exact .inr ⟨p,b,by lia,by rw[o p x];exact g,a⟩
def GX.few{W:Wd}(ok:Cm W){sc st:Int}(a:0<=sc/\sc<W.ss.length)(b:0<=st/\st<W.sts.length){F:List AK}{p:Nat}(h:GX W sc st F p):F.length<=62:=ok.few sc st F a b h.nd h.is
abbrev HL:Enc:=Kz FS Sf FS
abbrev Dq:Enc:=Kz (Ez HL) FS FS
structure Dr (W:Wd) (sc st:Int) (bs:List AK):Prop where
 mem:∀b,b∈bs↔By W sc st b
 nd:bs.Nodup
 srt:bs.Pairwise Dq.O.kle
 few:bs.length<=62
def Dr.uniq{l m:List AK}(h:Dr W sc st l)(k:Dr W sc st m):l=m:=
 LI (O:=Dq.O) ((List.perm_ext_iff_of_nodup h.nd k.nd).mpr λb=>(h.mem b).trans (k.mem b).symm) h.srt k.srt
def GX.all(ok:Cm W)(g:0<=sc/\sc<W.ss.length)(i:0<=st/\st<W.sts.length){F l:List AK}(h:GX W sc st F F.length)(a:l.Perm F)(d:l.Pairwise Dq.O.kle):Dr W sc st l:=by
 refine⟨λb=>?_,a.nodup_iff.mpr h.nd,d,by rw[a.length_eq];exact h.few ok g i⟩;rw[a.mem_iff];refine⟨h.is b,λe=>?_⟩
 induction e with
 |root=>exact h.root
 |kid _ k f =>
   obtain⟨j,c⟩:=List.getElem?_of_mem f;exact h.done j _ (Bi.mp c).1 c _ k
def DH (F:Addr->Prop) (H:Hp) (t:Addr) (b:AK):Prop:=∃(l:Addr)(ms:List Addr),H t=some (.tup [.ref l,.int b.2.1,.int b.2.2])/\H l=some (.lst (ms.map V.ref))/\RT FT H ms b.1/\F l
def DH.same{F:Addr->Prop}{H H':Hp}{t:Addr}{b:AK}(e:Ac H H')(h:DH F H t b):DH F H' t b:=by
 obtain⟨l,a,c,d,f,g⟩:=h;exact⟨l,a,e _ _ c,e _ _ d,f.same e,g⟩
def DH.mono{G:Addr->Prop}{t:Addr}(e:∀x,F x->G x)(h:DH F H t b):DH G H t b:=by
 obtain⟨l,a,c,d,f,g⟩:=h;exact⟨l,a,c,d,f,e _ g⟩
def DH.keeps{M F:Addr->Prop}{H H':Hp}{t:Addr}{b:AK}(k:Keeps M H H')(c:∀x,F x->¬M x)(h:DH F H t b):DH F H' t b:=by
 obtain⟨l,d,e,f,g,a⟩:=h;exact⟨l,d,k.tup e,k.at_ _ _ f (c _ a),g.keeps k,a⟩
abbrev IB (m:As):Dt:=.tup [.int m.1,.str m.2.1,.int m.2.2]
def N2{K:Aj}(r:As)(t:Addr)(h:H t=some (.tup (FT r))):Aq K H (.ref t) (IB r):=.tup (Al.of h) (.cons (.int _) (.cons (.str _) (.cons (.int _) .nil)))
def DH.dt{K:Aj}{t:Addr}(h:DH F H t b):Aq K H (.ref t) (Dq.D b):=by
 obtain⟨l,e,a,c,d,f⟩:=h;exact .tup (Al.of a) (.cons (.lst (Af.of c) (d.dts N2)) (.cons (.int _) (.cons (.int _) .nil)))
def KC (H:Hp) (t:Addr) (r:Gn):Prop:=∃m,H t=some (.tup [.ref m,.str r.2.1.1,.int r.2.1.2,.int r.2.2])/\H m=some (.tup (FT r.1))
def KC.same{t:Addr}(e:Ac H H')(h:KC H t r):KC H' t r:=by
 obtain⟨m,a,b⟩:=h;exact⟨m,e _ _ a,e _ _ b⟩
def KC.keeps{t:Addr}(k:Keeps M H H')(h:KC H t r):KC H' t r:=by
 obtain⟨m,a,b⟩:=h;exact⟨m,k.tup a,k.tup b⟩
structure A6 (K:Aj) (H:Hp) (nt A t:Addr) (W:Wd):Prop where
 net:∃(S T R:Addr)(us Gs Es ts qt:List Addr)(qs:List Qu),H nt=some (.tup [.ref S,.ref T,.ref R])/\FR H S T R us Gs Es ts qt W.ss W.gs qs
 ans:He K H A W.as
 tab:∃(a o:Addr)(inn:V),Al K H t [.ref a,inn,.ref o]/\HE K H a W.sts
def A6.same{K:Aj}{H H':Hp}{b A t:Addr}{W:Wd}(e:Ac H H')(h:A6 K H b A t W):A6 K H' b A t W:=by
 obtain⟨S,T,R,us,Gs,Es,ts,c,qs,d,f⟩:=h.net;obtain⟨a,o,k,g,vs,i,j⟩:=h.tab;exact⟨⟨S,T,R,us,Gs,Es,ts,c,qs,e _ _ d,f.same e⟩,h.ans.same e,⟨a,o,k,e.seqT g,vs,e.seq i,j.same e⟩⟩
def DH.mono'{G:Addr->Prop}{t:Addr}(e:∀x o,H x=some o->F x->G x)(h:DH F H t b):DH G H t b:=by
 obtain⟨l,c,d,a,f,g⟩:=h;exact⟨l,c,d,a,f,e _ _ a g⟩
theorem Vw{H:Hp}:∀{ts:List Addr}{ps:A'},Cc H ts ps->∃zs:List (Row E4 E4),zs.map (·.1)=ts.map V.ref/\zs.map (·.2)=ps/\∀z∈zs,∃t,z.1=.ref t/\H t=some (.tup [.str z.2.1,.str z.2.2])
 |[],[],_=>⟨[],rfl,rfl,λz hz=>by cases hz⟩
 |[],_::_,h=>by have:=h.len;simp at this
 |_::_,[],h=>by have:=h.len;simp at this
 |a::ts,p::ps,h=>by
   obtain⟨zs,b,c,d⟩:=Vw (ts:=ts) (ps:=ps) ⟨by simpa using h.len,λn t p f g=>h.at_ (n+1) t p (by simpa using f) (by simpa using g)⟩;refine⟨(V.ref a,p)::zs,by rw[EX,b];rfl,by rw[EX,c],λz hz=>?_⟩;rcases BI.mp hz with e|hz;rw[e];exact⟨a,rfl,h.at_ 0 a p rfl rfl⟩;exact d z hz
theorem Vx{H:Hp}:∀{zs:List (Row E4 E4)},(∀z∈zs,∃t,z.1=.ref t/\H t=some (.tup [.str z.2.1,.str z.2.2]))->∃ts:List Addr,zs.map (·.1)=ts.map V.ref/\Cc H ts (zs.map (·.2))
 |[],_=>⟨[],rfl,Cc.nil⟩
 |z::zs,h=>by
   obtain⟨ts,d,c⟩:=Vx (zs:=zs) λy f=>h y (Cw _ f);obtain⟨t,e,g⟩:=h z BF;refine⟨t::ts,by rw[EX,d,e];rfl,by simp[c.len],λn u p a b=>?_⟩
   cases n with
   |zero=>simp at a b;subst a;subst b;exact g
   |succ n=>exact c.at_ n u p (by simpa using a) (by simpa using b)
def Fq.caseT{K:Aj}{t:Addr}{n:Int}{ord:A'}(h:Fq K F H t rs n ord):∃(a o:Addr)(e:V),Al K H t [.ref a,e,.ref o]/\HE K H a rs:=by
 obtain⟨a,o,us,ts,b,_,_,_,c,d,_⟩:=h.ex;exact⟨a,o,_,Al.of b,d.stts c⟩
def GC{x:Int}{l:List Int}:Dt.int x∈l.map Dt.int↔x∈l:=⟨λh=>by
 obtain⟨y,a,z⟩:=AF.mp h
 rw[<-Dt.int.inj z];exact a,λh=>AF.mpr ⟨x,h,rfl⟩⟩
theorem Pr{K:Aj}{H:Hp}:∀(l:List Int),Ai K H (l.map V.int) (l.map Dt.int)
 |[]=>.nil
 |x::l=>.cons (.int x) (Pr l)
def So(xs:List α)(x:α):AS (xs++[x]) (-1)=some x:=by
 have e:Hv (xs++[x]).length (-1)=some xs.length:=by
  unfold Hv;rw[At (by decide),Au (by rw[AO,Ew];lia),AO,Ew];congr 1;lia
 unfold AS;rw[e];show(xs++[x])[xs.length]?=some x
 simp
abbrev N4 (sts:List CA) (inn:Int) (ord:A'):Dt:=.tup [.lst (sts.map HD),.int inn,.lst (ord.map MU)]
def Jx(s r:CA):Di 4 (HD s) (HD r):=by
 refine .tup (.cons (.lst (Bw.of λd hd e a=>?_)) (.cons (.lst (Bw.of λd hd e a=>?_)) (.nil _)));obtain⟨p,_,rfl⟩:=AF.mp hd;obtain⟨q,_,rfl⟩:=AF.mp a;exact Se p q;obtain⟨p,_,rfl⟩:=AF.mp hd;obtain⟨q,_,rfl⟩:=AF.mp a;exact .str _ _
def Yv(s r:List CA)(m n:Int)(o u:A'):Di 6 (N4 s m o) (N4 r n u):=by
 refine .tup (.cons (.lst (Bw.of λd hd e a=>?_)) (.cons (.int _ _) (.cons (.lst (Bw.of λd hd e a=>?_)) (.nil _))));obtain⟨p,_,rfl⟩:=AF.mp hd;obtain⟨q,_,rfl⟩:=AF.mp a;exact Jx p q;obtain⟨p,_,rfl⟩:=AF.mp hd;obtain⟨q,_,rfl⟩:=AF.mp a;exact .tup (.cons (.str _ _) (.cons (.str _ _) (.nil _)))
def Fq.dt{K:Aj}{t:Addr}{b:List CA}{c:Int}{ord:A'}(h:Fq K F H t b c ord):Aq K H (.ref t) (N4 b c ord):=by
 obtain⟨a,o,us,ts,d,_,_,_,e,f,g,TO⟩:=h.ex;exact .tup (Al.of d) (.cons (.lst (Af.of e) f.dts) (.cons (.int _) (.cons (.lst (Af.of g) TO.dts) .nil)))
def Yw(x y:C'):Di 2 (B3 x) (B3 y):=by
 cases x with
 |none=>cases y with
   |none=>exact .non
   |some q=>exact .apart rfl
 |some p=>cases y with
   |none=>exact .apart rfl
   |some q=>exact Se p q
def Yx(l m:List (C')):Di 3 (Dt.lst (l.map B3)) (Dt.lst (m.map B3)):=.lst (Bw.of λd hd e a=>by
 obtain⟨b,_,rfl⟩:=AF.mp hd;obtain⟨c,_,rfl⟩:=AF.mp a
 exact Yw b c)
abbrev BV:Enc:=Ez HL
def Et (W:Wd) (sc:Int):List DK:=match W.ss[sc.toNat]? with
 |some s=>s.2
 |none=>[]
def FV (W:Wd) (st:Int):List Str:=match W.sts[st.toNat]? with
 |some s=>s.2
 |none=>[]
def FW (W:Wd) (b:AK) (x:Str) (q:DK) (i:Nat):List (List As):=if q.2.1=x/\q.1∈FV W b.2.2 then[b.1++[(b.2.1,("told" : Str),(i:Int))]] else[]
def DI (W:Wd) (b:AK) (x:Str):List DK->Nat->List (List As)
 |[],_=>[]
 |q::r,i=>FW W b x q i++DI W b x r (i+1)
def EA (W:Wd) (x:Str) (bs:List AK):List (List As):=bs.flatMap λb=>DI W b x (Et W b.2.1) 0
theorem Sq(W:Wd)(b:AK)(x:Str)(q:DK):∀(l:List DK)(i:Nat),DI W b x (l++[q]) i=DI W b x l i++FW W b x q (i+l.length)
 |[],i=>by simp[DI]
 |p::l,i=>by
   show FW W b x p i++DI W b x (l++[q]) (i+1)=(FW W b x p i++DI W b x l (i+1))++_;rw[Sq W b x q l (i+1),FJ,Em,show i+1+l.length=i+(l.length+1) by lia]
theorem N5(W:Wd)(b:AK)(x:Str):∀(l:List DK)(i:Nat),(DI W b x l i).length<=l.length
 |[],i=>AG _
 |q::l,i=>by
   show(FW W b x q i++DI W b x l (i+1)).length<=_;have a:(FW W b x q i).length<=1:=by unfold FW;split<;>simp
   have c:=N5 W b x l (i+1);rw[AO,Em];lia
set_option tactic.hygienic true in
theorem Vy{W:Wd}{b:AK}{x:Str}{w:List As}:∀{l:List DK}{i:Nat},w∈DI W b x l i->∃(j:Nat)(q:DK),l[j]?=some q/\q.2.1=x/\q.1∈FV W b.2.2/\w=b.1++[(b.2.1,("told" : Str),((i+j:Nat):Int))]
 |[],i,h=>by cases h
 |q::l,i,h=>by
   rcases BR.mp (show w∈FW W b x q i++DI W b x l (i+1) from h) with h|h
   unfold FW at h;split at h;rename_i a;exact⟨0,q,rfl,a.1,a.2,A9.mp h⟩;cases h;obtain⟨j,c,d,e,f,g⟩:=Vy h;exact⟨j+1,c,by simpa using d,e,f,by rw[g,show i+1+j=i+(j+1) by lia]⟩
def Vz{bs:List AK}{w:List As}(h:w∈EA W x bs):∃b∈bs,∃(j:Nat)(q:DK),(Et W b.2.1)[j]?=some q/\q.2.1=x/\q.1∈FV W b.2.2/\w=b.1++[(b.2.1,("told" : Str),(j:Int))]:=by
 obtain⟨b,a,c⟩:=List.mem_flatMap.mp h;obtain⟨j,q,d,e,f,g⟩:=Vy c;exact⟨b,a,j,q,d,e,f,by rw[g,Nat.zero_add]⟩
theorem VA{α:Type}{f:AK->List α}{k:Nat}:∀(bs:List AK),(∀b,(f b).length<=k)->(bs.flatMap f).length<=bs.length*k
 |[],_=>by simp
 |b::bs,h=>by
   rw[List.flatMap_cons,AO,Em,Nat.succ_mul];have:=h b;have:=VA bs h;lia
structure LR (W:Wd) (x:Str) (bs:List AK) (ws:List (List As)):Prop where
 perm:ws.Perm (EA W x bs)
 srt:ws.Pairwise BV.O.kle
def LR.uniq{bs:List AK}{l m:List (List As)}(h:LR W x bs l)(k:LR W x bs m):l=m:=LI (O:=BV.O) (h.perm.trans k.perm.symm) h.srt k.srt
def BW (F:Addr->Prop) (H:Hp) (l:Addr) (w:List As):Prop:=∃ms:List Addr,H l=some (.lst (ms.map V.ref))/\RT FT H ms w/\F l
def BW.same{F:Addr->Prop}{H H':Hp}{t:Addr}{b:List As}(e:Ac H H')(h:BW F H t b):BW F H' t b:=by
 obtain⟨a,c,d,f⟩:=h;exact⟨a,e _ _ c,d.same e,f⟩
def BW.mono'{G:Addr->Prop}{t:Addr}{b:List As}(e:∀x o,H x=some o->F x->G x)(h:BW F H t b):BW G H t b:=by
 obtain⟨c,a,d,f⟩:=h;exact⟨c,a,d,e _ _ a f⟩
def BW.keeps{M F:Addr->Prop}{H H':Hp}{t:Addr}{b:List As}(k:Keeps M H H')(c:∀x,F x->¬M x)(h:BW F H t b):BW F H' t b:=by
 obtain⟨d,e,f,a⟩:=h;exact⟨d,k.at_ _ _ e (c _ a),f.keeps k,a⟩
def BW.dt{K:Aj}{t:Addr}{b:List As}(h:BW F H t b):Aq K H (.ref t) (BV.D b):=by
 obtain⟨d,a,c,_⟩:=h;exact .lst (Af.of a) (c.dts N2)
theorem VB{K:Aj}{H:Hp}{F:Addr->Prop}:∀{zs:List (Addr×List As)},(∀z∈zs,BW F H z.1 z.2)->Ai K H (zs.map λz=>V.ref z.1) ((zs.map (·.2)).map BV.D)
 |[],_=>.nil
 |z::zs,h=>.cons (h z BF).dt (VB λy a=>h y (Cw _ a))
def Sr{c:Enc}{zs:List (Addr×c.O.α)}{d:List (DL c)}(a:d.Perm (zs.map λz=>((V.ref z.1,z.2):DL c))) :
 ∃ws:List (Addr×c.O.α),d.map (·.1)=(ws.map λz=>V.ref z.1)/\d.map (·.2)=ws.map (·.2)/\(ws.map (·.2)).Perm (zs.map (·.2))/\∀z∈ws,z∈zs:=by
 have:∀{l:List (DL c)},(∀y∈l,y∈zs.map λz=>((V.ref z.1,z.2):DL c))->∃ws:List (Addr×c.O.α),l=ws.map λz=>(V.ref z.1,z.2):=by
  intro l
  induction l with
  |nil=>exact λζ=>⟨[],rfl⟩
  |cons y l f =>
    intro h;obtain⟨ws,rfl⟩:=f λz g=>h z (Cw _ g);obtain⟨z,_,rfl⟩:=AF.mp (h y BF);exact⟨z::ws,rfl⟩
 obtain⟨ws,rfl⟩:=this λy b=>a.mem_iff.mp b;refine⟨ws,by rw[El];rfl,by rw[El];rfl,?_,λz k=>?_⟩;have:=a.map (·.2);rw[El,El] at this;exact this;have:=a.mem_iff.mp (AF.mpr ⟨z,k,rfl⟩);obtain⟨y,b,e⟩:=AF.mp this;injection e with i j;have:y=z:=Prod.ext (V.ref.inj i) j;rw[<-this];exact b
abbrev N6:Enc:=LP (Ez HL) FS
abbrev Ow:Type:=List As×Int
def ow (b:AK) (r:Gn):Option Ow:=if r.2.1.1=("open" : Str) then some (b.1++[r.1],r.2.1.2) else none
def Hg (W:Wd) (bs:List AK):List Ow:=bs.flatMap λb=>(FU W b.2.1 b.2.2).filterMap (ow b)
set_option tactic.hygienic true in
def Yy{bs:List AK}{w:Ow}(h:w∈Hg W bs):∃b∈bs,∃(j:Nat)(p:Ch)(a:Int),(AX W b.2.1)[j]?=some p/\Do (BB W b.2.2) p.1=some a/\(CQ W.gs W.as p).1=("open" : Str)/\w=(b.1++[(b.2.1,("step" : Str),(j:Int))],(CQ W.gs W.as p).2):=by
 obtain⟨b,c,d⟩:=List.mem_flatMap.mp h;obtain⟨r,f,e⟩:=List.mem_filterMap.mp d;obtain⟨j,p,a,g,i,rfl⟩:=MY f;unfold ow at e;split at e;rename_i k;exact⟨b,c,j,p,a,g,i,k,(BS e).symm⟩;cases e
structure MZ (W:Wd) (bs:List AK) (ws:List Ow):Prop where
 perm:ws.Perm (Hg W bs)
 srt:ws.Pairwise N6.O.kle
def MZ.uniq{bs:List AK}{l m:List Ow}(h:MZ W bs l)(k:MZ W bs m):l=m:=LI (O:=N6.O) (h.perm.trans k.perm.symm) h.srt k.srt
def EB (F:Addr->Prop) (H:Hp) (t:Addr) (p:Ow):Prop:=∃(l:Addr)(ms:List Addr),H t=some (.tup [.ref l,.int p.2])/\H l=some (.lst (ms.map V.ref))/\RT FT H ms p.1/\F l
def EB.same{F:Addr->Prop}{H H':Hp}{t:Addr}{b:Ow}(e:Ac H H')(h:EB F H t b):EB F H' t b:=by
 obtain⟨l,a,c,d,f,g⟩:=h;exact⟨l,a,e _ _ c,e _ _ d,f.same e,g⟩
def EB.mono'{G:Addr->Prop}{t:Addr}{b:Ow}(e:∀x o,H x=some o->F x->G x)(h:EB F H t b):EB G H t b:=by
 obtain⟨l,c,d,a,f,g⟩:=h;exact⟨l,c,d,a,f,e _ _ a g⟩
def EB.keeps{M F:Addr->Prop}{H H':Hp}{t:Addr}{b:Ow}(k:Keeps M H H')(c:∀x,F x->¬M x)(h:EB F H t b):EB F H' t b:=by
 obtain⟨l,d,e,f,g,a⟩:=h;exact⟨l,d,k.tup e,k.at_ _ _ f (c _ a),g.keeps k,a⟩
def EB.dt{K:Aj}{t:Addr}{b:Ow}(h:EB F H t b):Aq K H (.ref t) (N6.D b):=by
 obtain⟨l,e,a,c,d,_⟩:=h;exact .tup (Al.of a) (.cons (.lst (Af.of c) (d.dts N2)) (.cons (.int _) .nil))
def Yz{bs:List AK}(h:bs[i]?=some b):Hg W (bs.take (i+1))=Hg W (bs.take i)++(FU W b.2.1 b.2.2).filterMap (ow b):=by
 rw[D7,h];show(bs.take i++[b]).flatMap _=_;rw[List.flatMap_append];simp[Hg]
def LV{β:Type}(f:α->Option β)(l:List α)(x:α):(l++[x]).filterMap f=l.filterMap f++(f x).toList:=by
 rw[List.filterMap_append];cases e:f x<;>simp[e]
def VC(h:r.2.1.1=("open" : Str)):ow b r=some (b.1++[r.1],r.2.1.2):=Au h
def VD(h:r.2.1.1≠("open" : Str)):ow b r=none:=At h
structure BK (W:Wd):Prop where
 tl:∀s∈W.ss,∀p∈s.2,Ft W.gs.length W.as.length p
 fnd:∀(x:Str)(sc st:Int)(bs:List AK),(0<=sc/\sc<W.ss.length)->(0<=st/\st<W.sts.length)->Dr W sc st bs->(EA W x bs).length<=62
 owd:∀(sc st:Int)(bs:List AK),(0<=sc/\sc<W.ss.length)->(0<=st/\st<W.sts.length)->Dr W sc st bs->(Hg W bs).length<=62
def Eu (ss:List Bf) (m:As):Str:=match ss[m.1.toNat]? with
 |some s=>if m.2.1=("step" : Str) then(match s.1[m.2.2.toNat]? with
   |some p=>p.1
   |none=>default) else(match s.2[m.2.2.toNat]? with
   |some p=>p.1
   |none=>default)
 |none=>default
def Eh (ss:List Bf) (m:As):Prop:=∃(n k:Nat)(s:Bf),m.1=(n:Int)/\m.2.2=(k:Int)/\ss[n]?=some s/\((m.2.1=("step" : Str)/\k<s.1.length)\/(m.2.1=("told" : Str)/\k<s.2.length))
def VE{m:As}{p:Ch}(a:m.1=(n:Int))(b:m.2.2=(k:Int))(c:ss[n]?=some s)(d:m.2.1=("step" : Str))(e:s.1[k]?=some p):Eu ss m=p.1:=by
 unfold Eu;rw[a,b,Bl,Bl,c];dsimp only;rw[Au d,e]
def VF{m:As}{p:DK}(a:m.1=(n:Int))(b:m.2.2=(k:Int))(c:ss[n]?=some s)(d:m.2.1≠("step" : Str))(e:s.2[k]?=some p):Eu ss m=p.1:=by
 unfold Eu;rw[a,b,Bl,Bl,c];dsimp only;rw[At d,e]
def Ps:("told" : Str)≠("step" : Str):=by decide +kernel
def YA:("step" : Str)≠("told" : Str):=by decide +kernel
open Classical in
noncomputable def Cv (ss:List Bf) (ord:A'):List As->List As->Bool
 |m::ms,q::qs=>if m=q then Cv ss ord ms qs else dec ((Eu ss m,Eu ss q)∈ord)
 |_,_=>false
def VG(ss:List Bf)(ord:A')(m:As)(a qs:List As):Cv ss ord (m::a) (m::qs)=Cv ss ord a qs:=by
 rw[Cv];exact Au rfl
def VH(ss:List Bf)(ord:A'){m q:As}(a qs:List As)(h:m≠q):Cv ss ord (m::a) (q::qs)=dec ((Eu ss m,Eu ss q)∈ord):=by
 rw[Cv];exact At h
theorem Ss(ss:List Bf)(ord:A'):∀{l m:List As},l=[]\/m=[]->Cv ss ord l m=false
 |[],_,_=>by rw[Cv];intros;simp at *
 |_::_,[],_=>by rw[Cv];intros;simp at *
 |_::_,_::_,h=>by simp at h
theorem Su(ss:List Bf)(ord:A'):∀{l m:List As}{i:Nat},(∀j,j<i->l[j]?=m[j]?)->i<=l.length->i<=m.length->Cv ss ord l m=Cv ss ord (l.drop i) (m.drop i)
 |_,_,0,_,_,_=>rfl
 |[],_,i+1,_,h,_=>by simp at h
 |_::_,[],i+1,_,_,h=>by simp at h
 |x::l,y::m,i+1,h,a,b=>by
   have e:x=y:=(by simpa using h 0 (by lia));subst e;rw[VG,List.drop_succ_cons,List.drop_succ_cons];exact Su ss ord (λj c=>by simpa using h (j+1) (by lia)) (by simpa using a) (by simpa using b)
def VI(ok:Cm W)(u:0<=sc/\sc<W.ss.length)(v:0<=st/\st<W.sts.length)(h:By W sc st b):∀m∈b.1,Eh W.ss m:=by
 induction h with
 |root=>intro m c;cases c
 |@kid d x i k l =>
   obtain⟨r,o,_,_,rfl⟩:=Bt.mp k;intro m c;rcases BR.mp c with c|c;exact l m c;rw[A9.mp c];have q:=i.ok ok u v;have s:=q.rng d.2.1 (by unfold AY;simp);obtain⟨j,p,a,e,_,rfl⟩:=MY o;obtain⟨n,f⟩:=Co s.1;have w:n<W.ss.length:=(by lia);have g:=AB w;have t:AX W d.2.1=W.ss[n].1:=by unfold AX;rw[f,Bl,g]
   rw[t] at e;exact⟨n,j,_,f,rfl,g,.inl ⟨rfl,(Bi.mp e).1⟩⟩
def Pt(ok:Cm W)(h:0<=sc/\sc<W.ss.length)(i:0<=st/\st<W.sts.length){bs:List AK}(hB:Dr W sc st bs){w:List As}(k:w∈EA W x bs):(∀m∈w,Eh W.ss m)/\w.length<=100:=by
 obtain⟨b,l,j,q,d,_,_,rfl⟩:=Vz k;have e:=(hB.mem b).mp l;have c:=e.ok ok h i;have o:=c.rng b.2.1 (by unfold AY;simp);refine⟨λm a=>?_,?_⟩;rcases BR.mp a with a|a;exact VI ok h i e m a;rw[A9.mp a];obtain⟨n,f⟩:=Co o.1;have r:n<W.ss.length:=(by lia);have g:=AB r;have p:Et W b.2.1=W.ss[n].2:=by unfold Et;rw[f,Bl,g]
 rw[p] at d;exact⟨n,j,_,f,rfl,g,.inr ⟨rfl,(Bi.mp d).1⟩⟩;have:=LQ W.ss.length (AY b) c.nd c.rng;rw[show(AY b).length=b.1.length+1 by unfold AY;simp] at this;have:=ok.s5;rw[AO,Ew];lia
def VJ(ok:Cm W)(i:0<=sc/\sc<W.ss.length)(k:0<=st/\st<W.sts.length){bs:List AK}(hB:Dr W sc st bs){w:Ow}(l:w∈Hg W bs):(∀m∈w.1,Eh W.ss m)/\w.1.length<=100:=by
 obtain⟨b,o,j,p,a,e,_,_,rfl⟩:=Yy l;have f:=(hB.mem b).mp o;have d:=f.ok ok i k;have q:=d.rng b.2.1 (by unfold AY;simp);refine⟨λm c=>?_,?_⟩;rcases BR.mp c with c|c;exact VI ok i k f m c;rw[A9.mp c];obtain⟨n,g⟩:=Co q.1;have s:n<W.ss.length:=(by lia);have h:=AB s;have r:AX W b.2.1=W.ss[n].1:=by unfold AX;rw[g,Bl,h]
 rw[r] at e;exact⟨n,j,_,g,rfl,h,.inl ⟨rfl,(Bi.mp e).1⟩⟩;have:=LQ W.ss.length (AY b) d.nd d.rng;rw[show(AY b).length=b.1.length+1 by unfold AY;simp] at this;have:=ok.s5;show(b.1++[(b.2.1,("step" : Str),(j:Int))]).length<=100;rw[AO,Ew];lia
def YB(h:n<=40000):n<sizeLine:=Nat.lt_of_le_of_lt h (by decide)
def GD (ss:List Bf) (w:List As):Prop:=(∀m∈w,Eh ss m)/\w.length<=100
end L2
namespace PySem
section
variable {prog:Program} {w:World} {K:Type} [DecidableEq K] {knd:HeapKind prog w K} {A:Around} {E:I'} {s:Shared}
def YC{d a:Addr}{xs:List (K×Addr×Value)}{k:K}{v:Value}{Q:I'}(l:knd.room A)(i:knd.is s.heap k a)(r:s.heap.DictOfH knd d xs)
 (t:∀p,atKey xs k=some p->Q p.2 {s with toks:=s.toks+knd.draws k})
 (u:atKey xs k=none->∀h',h'.DictOfH knd d (storedH xs k a v)->Heap.SameBut d s.heap h'->Q v {s with heap:=h',toks:=s.toks+knd.draws k})
 (hsz:xs.length<=sizeLine:=by size_fits) :
 wpAny (model prog w) A (dictSetDefault d (.ref a) v) Q E s:=by
 obtain⟨o,D,z,c,B,hd,g,q,h⟩:=r;unfold dictSetDefault
 try with_reducible refine FK ?_
 refine Ad (knd.pyHash l i ?_);refine Ad (wpAny_dictFind_heap (s:={s with toks:=s.toks+knd.draws k}) l i c hd g q h ?_ ?_);intro f;have C:k∉xs.map (·.1):=not_mem_keys_of_get f
 refine Ad (Iu (Ad (wpAny_updateDictKeys (hz:=by have e:=size_of_entries g;lia) (s:={s with toks:=s.toks+knd.draws k}) c hd (Az (u (atKey_none_of_get f) _ ⟨_,_,z+1,Heap.get?_update_self _ c (Obj.isFreed_of_dict (Obj.data_mapDictKeys hd _)),
  B.mapDictKeys _,Obj.data_mapDictKeys hd _,?_,?_,?_⟩ (Heap.SameBut.update ..))))))
 rw[storedH_new (atKey_none_of_get f)];simp[g,entryOfKey];rw[storedH_new (atKey_none_of_get f)];intro x b;rcases BR.mp b with b|b;exact knd.keeps (q x b) c hd (Heap.SameBut.update ..);simp only[A9] at b;subst b;exact knd.keeps i c hd (Heap.SameBut.update ..);rw[storedH_new (atKey_none_of_get f)];rw[A8,List.nodup_append];refine⟨h,by simp,?_⟩;intro x b y m;simp only[EX,Nc,A9] at m;subst m;exact λe=>C (e▸b);intro j p n;refine Ad (wpAny_dictEntries (s:={s with toks:=s.toks+knd.draws k}) c hd ?_);rw[entry_at g j,n];exact Ad (Iu (Az (t p (atKey_of_get h n))))
def YD(d a:Addr)(hd:(d==sysModules)=false)(b:Value) :
 MeetsIn prog w (Builtin.«dict.setdefault» ⟨[.ref d,.ref a,b],[]⟩) (λA R s=>knd.room A.in1/\∃k xs,knd.is s.heap k a/\s.heap.DictOfH knd d xs/\xs.length<=sizeLine /\
  (∀p,atKey xs k=some p->R (.ok (.ret p.2)) {s with toks:=s.toks+knd.draws k}) /\
  (atKey xs k=none->∀h',h'.DictOfH knd d (storedH xs k a b)->Heap.SameBut d s.heap h'->R (.ok (.ret b)) {s with heap:=h',toks:=s.toks+knd.draws k})):=
 .of_wp λA R s l=>by
  obtain⟨e,k,xs,o,c,f,g,h⟩:=l;unfold Builtin.«dict.setdefault»;refine Ad ?_;unfold Builtin.Dict.keyAndDefault;refine Ad (wpAny_notOrdered_dict c.typeIs ?_);show wpAny _ _ (pure (d,Value.ref a,some b)) _ _ s;refine Az ?_;show wpAny _ _ (if(d==sysModules)=true then _ else(dictSetDefault d (.ref a) b >>= _)) _ _ s;rw[At (by rw[hd];exact Df)];exact Ad (YC (hsz:=f) e o c (λp i=>Az ⟨p.2,rfl,g p i⟩) λj h' m n=>Az ⟨b,rfl,h j h' m n⟩)
end
section
variable {prog:Program} {w:World} {A:Around} {E:I'} {s:Shared}
variable {d:Addr}{es:Array DictEntry}{ep:Nat}
theorem YE{o:Obj}{Q:I'}(hd:(d==sysModules)=false)(a:s.heap.get? d=some o)(e:o.ExactDict)(c:o.data=.dict es ep)
 (f:Q (.ref s.heap.objs.size) {s with heap:=s.heap.push {cls:=.type "dict_keyiterator",data:=.fields #[.ref d,.int 0 0,.int es.size 0,.int ep 0]}}) :
 wpAny (model prog w) A (pyIter (.ref d)) Q E s:=by
 have b:s.TypeIs (.ref d) "dict" :=⟨o,a,e.1⟩;refine wpAny_pyIter_slot b F.slot_dict_iter (wpAny_call_entry F.slot_dict_iter b F.entry_dict_iter ?_ (F.args_dict_iter_1 _));unfold Builtin.«dict.__iter__»;refine Ad ?_;unfold Builtin.Dict.dictSlotNone;refine Ad (wpAny_notOrdered_dict b ?_);show wpAny _ _ (pure (Value.ref d)) _ _ s;refine Az ?_;show wpAny _ _ (Builtin.Dict.showsAll d >>= _) _ _ s;unfold Builtin.Dict.showsAll;rw[At (by rw[hd];exact Df)];refine Ad (Az ?_);refine Ad (wpAny_dictEntries a c ?_);refine Ad (wpAny_dictEpoch a c ?_);refine Ad (wpAny_newObj_type (Az ⟨_,rfl, "dict_keyiterator",_,⟨_,Cp _ rfl,rfl⟩,F.slot_dict_keyiterator_next.lookup,?_⟩));simpa [rawInt] using f
theorem YF{a:Addr}{i:Nat}{e:Obj}{Q:Option Value->Shared->Prop}(b:s.heap.IsKeyIter a d i es.size ep)
 (f:s.heap.get? d=some e) (g:e.data=.dict es ep) (l:i<es.size)
 (j:∀h',h'.IsKeyIter a d (i+1) es.size ep->Heap.SameBut a s.heap h'->Q (some es[i].key) {s with heap:=h'}) :
 wpAny (model prog w) A (pyNext (.ref a)) Q E s:=by
 obtain⟨o,c,k,hd⟩:=id b;unfold pyNext
 refine Ad (wpAny_attempt (wpAny_callSpecial?_slot (name:=Str.ofString "__next__") b.typeIs F.slot_dict_keyiterator_next
  (wpAny_call_entry F.slot_dict_keyiterator_next b.typeIs F.entry_dict_keyiterator_next ?_ (F.args_dict_keyiterator_next_1 _))))
 refine Ad (Az ?_);refine Ad ?_;refine Ad ?_
 first|refine Ad (wpAny_typeNameOfWhole_keyiter b.typeIs (Az ?_))|refine Ad (wpAny_typeNameOf_keyiter b.typeIs (Az ?_))
 refine Ad (wpAny_fieldsOf c hd ?_);have m:Builtin.Dict_items.ownsTuple "dict_keyiterator" = false:=(by decide)
 simp only[m,FD,if_false];show wpAny _ _ (if(Value.ref d==Value.none)=true then _ else _) _ _ s;rw[At (show ¬((Value.ref d==Value.none)=true) from Df)];refine Ad (Az ?_);refine Ad (wpAny_dictEntries f g ?_);rw[At (by simp)];refine Ad (Az ?_);refine Ad (wpAny_dictEpoch f g ?_);rw[At (by simp)];refine Az ?_;simp only[show ¬((i:Int)<0) from by lia,if_false,Bl,Array.getElem?_eq_getElem l];refine Ad ?_
 first|refine Ad (wpAny_typeNameOfWhole_keyiter b.typeIs (Az ?_))|refine Ad (wpAny_typeNameOf_keyiter b.typeIs (Az ?_))
 refine Ad (wpAny_isOneOf_keyiter b.typeIs ?_);show wpAny _ _ (setField (.ref a) 1 (rawInt ((i:Int)+1)) >>= _) _ _ s;refine Ad (wpAny_setField c hd (by simp) ?_)
 have h:(s.heap.update a (Obj.mapFields (·.setIfInBounds 1 (rawInt ((i:Int)+1))))).IsKeyIter a d (i+1) es.size ep:=
  ⟨_,Heap.get?_update_self _ c (Obj.isFreed_of_fields (Obj.data_mapFields hd _)),(Obj.cls_mapFields ..).trans k,by rw[Obj.data_mapFields hd];simp[rawInt]⟩
 refine Ad (FK ?_);refine Ad (wpAny_isOneOf_keyiter (s:={s with heap:=s.heap.update a (Obj.mapFields (·.setIfInBounds 1 (rawInt ((i:Int)+1))))}) h.typeIs ?_);show wpAny _ _ (pure es[i].key) _ _ _;exact Az (Az ⟨_,rfl,Az (j _ h (Heap.SameBut.update ..))⟩)
theorem YG{e:Addr}{i:Nat}{f:Obj}{Q:Option Value->Shared->Prop}(k:A.handled=none)(c:s.heap.IsKeyIter e d i es.size ep)
 (h:s.heap.get? d=some f) (j:f.data=.dict es ep) (n:es.size<=i)
 (l:∀h',Heap.ExtBut e s.heap h'->Q none {s with heap:=h'}):wpAny (model prog w) A (pyNext (.ref e)) Q E s:=by
 obtain⟨o,g,q,hd⟩:=id c;unfold pyNext
 refine Ad (wpAny_attempt (wpAny_callSpecial?_slot (name:=Str.ofString "__next__") c.typeIs F.slot_dict_keyiterator_next
  (wpAny_call_entry F.slot_dict_keyiterator_next c.typeIs F.entry_dict_keyiterator_next ?_ (F.args_dict_keyiterator_next_1 _))))
 refine Ad (Az ?_);refine Ad ?_;refine Ad ?_
 first|refine Ad (wpAny_typeNameOfWhole_keyiter c.typeIs (Az ?_))|refine Ad (wpAny_typeNameOf_keyiter c.typeIs (Az ?_))
 refine Ad (wpAny_fieldsOf g hd ?_);have p:Builtin.Dict_items.ownsTuple "dict_keyiterator" = false:=(by decide)
 simp only[p,FD,if_false];show wpAny _ _ (if(Value.ref d==Value.none)=true then _ else _) _ _ s;rw[At (show ¬((Value.ref d==Value.none)=true) from Df)];refine Ad (Az ?_);refine Ad (wpAny_dictEntries h j ?_);rw[At (by simp)];refine Ad (Az ?_);refine Ad (wpAny_dictEpoch h j ?_);rw[At (by simp)];refine Az ?_;simp only[show ¬((i:Int)<0) from by lia,if_false,Bl,Array.getElem?_eq_none n];refine Ad ?_
 first|refine Ad (wpAny_typeNameOfWhole_keyiter c.typeIs (Az ?_))|refine Ad (wpAny_typeNameOf_keyiter c.typeIs (Az ?_))
 show wpAny _ _ (setField (.ref e) 0 .none >>= _) _ _ s;refine Ad (wpAny_setField g hd (by simp) ?_);show wpAny _ _ (newExc (.type "StopIteration") [] >>= _) _ _ _
 refine Ad ?_;simp only[newExc,newTuple];refine Ad (wpAny_newObj_type ?_ (by size_fits));refine Ad (m:=firstArgMember _ _) (wpAny_of_eq (a:=Value.none) (by first|rfl|(simp only[firstArgMember];rfl)) ?_);refine wpAny_newObj_type ?_ (by size_fits);simp only[raiseNew];refine Ad (wpAny_handled ?_);rw[show A.in1.handled=none from k];refine Ad (Az (wpAny_throw ?_))
 refine Ad (wpAny_isInstance (T:= "StopIteration") (b:=true) ⟨_,Cp _ rfl,rfl⟩ isSubtype_stop ?_);exact Az (l _ (((Heap.SameBut.update ..).extBut.push _).push _))
end
end PySem
namespace L2
open PySem PySem.Spec PyProof.Rows
section
variable {X:Cx}
def N7:V->List V->Hp->VK->Prop:=λx vs H Q=>∃a kvs k b d,x=.ref a/\vs=[.ref b,d]/\H a=some (.dT kvs)/\H b=some (.tup (k.map kV))/\kvs.length<sizeLine/\(∀v,A4 kvs k=some v->Q v H)/\(A4 kvs k=none->Q d (upd H a (.dT (Ci kvs k d))))
def YH(A:X.A.units+1<cLine):MQ X "dict.setdefault" N7:=by
 intro Z s σ H x T v U Q I B C h;obtain⟨a,g,k,b,d,rfl,rfl,hd,l,V,D,E⟩:=h;cases B;obtain⟨u,r,rfl,F,m⟩:=Kr C;cases(show u=Value.ref b from F);obtain⟨z,n,o,j,p⟩:=Ks I.hok hd
 have i:o.length<=sizeLine:=by rw[<-Paired.length j];exact z
 have f:=j.val k
 refine call_meetsIn PySem.F.slot_dict_setdefault p.typeIs PySem.F.entry_dict_setdefault (PySem.F.args_dict_setdefault_3 _ _ _) (YD (knd:=tupleKind (FE X.prog X.w)) a b n r)
  ⟨tupleKind_room_in1 A,k,o,MR I.hok l,p,i,λy G=>?_,λJ W S K=>?_⟩
 rw[G] at f
 cases e:A4 g k with
 |none=>rw[e] at f;exact False.elim f
 |some v0 =>
   rw[e] at f;exact⟨v0,H,I.tok _,f,D v0 e⟩
 rw[J] at f
 cases e:A4 g k with
 |some v0=>rw[e] at f;exact False.elim f
 |none =>
   have i:(Ci g k d).length<=sizeLine:=by have:=UF g k d;lia
   obtain⟨q,L,M,t,N,O,P,_,R⟩:=S;refine⟨d,_,UH (ob:=.dT (Ci g k d)) I (by rw[hd];exact True.intro) K ⟨q,t⟩ ⟨i,n,_,(j.put k l m).keeps λc Y w=>?_,q,L,M,t,N,O,P,R⟩,m,E e⟩;rw[AH (Nf w hd (λz=>nomatch z))];exact w
def Pu (H U Y:Hp):Prop:=∀b,Y b=U b\/H b=none/\∃kvs o,U b=some (.dT kvs)/\Y b=some (.frz o (.dT kvs))
def Inv.frz{pins:B'}{s:Shared}{σ:St}{H Y:Hp}(I:Inv X pins σ H s)(h:∀b,Y b=H b\/∃a o,s.heap.get? b=some o/\H b=some (.dT a)/\Y b=some (.frz o (.dT a))):Inv X pins σ Y s:=by
 have same:∀b u,H b=some u->(∀a,u≠.dT a)->Y b=some u:=λb u e n=>by
  rcases h b with z|⟨a,o,_,z,_⟩;rw[z];exact e;rw[e] at z;cases z;exact absurd rfl (n a)
 refine I.step (g':=s.gens) (t':=s.toks) (d':=s.drawn) (h':=s.heap) (ch:=[]) (λb f=>nomatch f) (λb o ζ ζ ζ z ζ=>z) (λb o ζ ζ ζ z ζ=>⟨o.slots,z⟩) (λb o ζ ζ n=>?_) (λb o ζ z=>⟨o,z⟩)
  (λb i z=>same b _ z λζ q=>nomatch q) (λb o u z=>same b _ z λζ q=>nomatch q) (λb l z=>⟨#[],by rw[same b _ z λζ q=>nomatch q];simp⟩) (λm j=>j) (λb u z=>?_) I.bare
 rcases h b with z|⟨a,o,_,z,_⟩;rw[z];exact n;rw[n] at z;cases z;have d:∀{v:HO},H b=some v->AE X.prog X.w Y s.heap b v:=λ{v}e=>(I.hok b v e).stay (λζ ζ ζ q=>q) (λc q=>same c _ q λζ q=>nomatch q) λc i q=>same c _ q λζ q=>nomatch q;rcases h b with y|⟨a,o,g,y,k⟩;rw[y] at z;exact d z;rw[k] at z;cases z;exact⟨g,d y⟩
def Sv (t:TE):TE:=λσ H Q=>t σ H λv U=>∀Y,Pu H U Y->(∀b kvs,H b=none->U b=some (.dT kvs)->∃o,Y b=some (.frz o (.dT kvs)))->Q v Y
set_option tactic.hygienic true in
def HM{e:Expr}{t:TE}(m:PE X e t):PE X e (Sv t):=by
 intro r s σ H Q I h;refine AU (m r s σ H _ I h) λu i⟨x,U,k,n,p⟩=>?_
 classical
 let Y:Hp:=λb=>if H b=none then(match U b,i.heap.get? b with
  |some (.dT a),some o=>some (.frz o (.dT a))
  |z,_=>z) else U b
 have j:∀b,Y b=U b\/H b=none /\ ∃a o,i.heap.get? b=some o/\U b=some (.dT a)/\Y b=some (.frz o (.dT a)):=λb=>by
  by_cases c:H b=none
  have e:Y b=(match U b,i.heap.get? b with
   |some (.dT a),some o=>some (.frz o (.dT a))
   |z,_=>z):=Au c
  by_cases hd:∃a o,U b=some (.dT a)/\i.heap.get? b=some o;obtain⟨a,o,d,f⟩:=hd;rw[d,f] at e;exact .inr ⟨c,a,o,f,d,e⟩;refine .inl ?_;rw[e];split;rename_i a o d f;exact absurd ⟨a,o,d,f⟩ hd;rfl;exact .inl (At c)
 refine⟨x,Y,k.frz λb=>(j b).imp id λ⟨_,z⟩=>z,n,p Y (λb=>(j b).imp id λ⟨c,a,o,_,d,f⟩=>⟨c,a,o,d,f⟩) λb a c z=>?_⟩;rcases j b with y|⟨_,v,o,_,l,q⟩;exfalso
 obtain⟨_,_,_,_,o,w,A,g,_⟩:=(show AE X.prog X.w U i.heap b (.dT a) from k.hok b _ z)
 have e:Y b=some (.frz o (.dT a)):=by
  show(if H b=none then _ else _)=_;rw[Au c,z,g]
 rw[e,z] at y;cases y;rw[z] at l;cases l;exact⟨o,q⟩
def Sw (a:Addr) (o:Obj) (kvs:List (List Br×V)):It:=
 ⟨λi H=>H a=some (.frz o (.dT kvs))/\i<kvs.length,λi H x H'=>H'=H/\∃k v b,kvs[i]?=some (k,v)/\x=.ref b/\H b=some (.tup (k.map kV)),λi H=>H a=some (.frz o (.dT kvs))/\kvs.length<=i⟩
def LW{α β:Type}{F:α->β->Prop}{l:List α}{m:List β}(h:Paired F l m):∀{i:Nat}(a:i<l.length),∃y,m[i]?=some y/\F l[i] y:=by
 induction h with
 |nil=>intro i a;exact absurd a (Nat.not_lt_zero _)
 |cons r t b =>
   intro i a
   cases i with
   |zero=>exact⟨_,rfl,r⟩
   |succ i=>exact b (i:=i) (by simpa using a)
def YI{P:Program}{w:World}{K:Aj}{T:Expr}{a j:Addr}{o:Obj}{p:List (List Br×V)}{es:Array DictEntry}{ep:Nat}(hd:o.data=.dict es ep) :
 FN P w K T (Sw a o p) [j] j (λi h=>h.IsKeyIter j a i es.size ep) where
 mem:=by simp
 obj:=λi h f b l=>by
  have e:b=j:=(by simpa using l);subst e;obtain⟨o,e,c,d⟩:=f;exact⟨o,e,λah z=>by rw[d] at z;cases z⟩
 keep:=λi h r f k=>f.at λo e=>k j (by simp) o e
 item:=by
  intro X u v x O i S s σ H E I t f A;subst u v x;obtain⟨B,C⟩:=A;obtain⟨m,z,y,U,N,W,ab,ae,g,Y,n,D,Z⟩:=(show AE X.prog X.w H s.heap a (.frz o (.dT p)) from I.hok a _ B);rw[m] at g;cases g;rw[hd] at n;cases n;obtain⟨q,hx,e1,e2,e3⟩:=LW N C;have Q:=entry_at (knd:=tupleKind (FE X.prog X.w)) D i;rw[hx] at Q;obtain⟨af,ag⟩:=Array.getElem?_eq_some_iff.mp Q;obtain⟨F,G,aa,J,L,M⟩:=t j (by simp);refine YF f m hd af λr R sb=>?_;have I1:Inv X S σ H {s with heap:=r}:=I.turned (t':=s.toks) (λb o l e=>(sb.2 b l).trans e) F G J L M;obtain⟨oi,e,c,d⟩:=id R;refine⟨_,rfl,Hq (s:={s with heap:=r}) e c d (by decide) ⟨.ref q.2.1,H,I1,?_,⟨rfl,p[i].1,p[i].2,q.2.1,by simp[C],rfl,e2⟩,R,λb l=>(t b l).1⟩⟩;rw[ag];rfl
 done:=by
  intro X u v x O i S s σ H E I t f A;subst u v x;obtain⟨B,C⟩:=A;obtain⟨m,z,y,U,N,W,ab,ae,g,Y,n,D,Z⟩:=(show AE X.prog X.w H s.heap a (.frz o (.dT p)) from I.hok a _ B);rw[m] at g;cases g;rw[hd] at n;cases n;have ai:=size_of_entries D;have hl:=Paired.length N;obtain⟨F,G,aa,J,L,M⟩:=t j (by simp);exact YG (I.ok.hd O) f m hd (by lia) λr eb=>⟨rfl,I.turned (t':=s.toks) (λb o l e=>eb b o l e) F G J L M⟩
 self:=λζ ζ ζ ζ ζ f h=>wpAny_pyIter_keyiter f h
def N8 (tl:TE):TI:=λσ H R=>tl σ H λx U=>∃a kvs,x=.ref a/\Rd U a (.dT kvs)/\∀o,(U a=some (.dT kvs)\/U a=some (.frz o (.dT kvs)))->R (Sw a o kvs) (upd U a (.frz o (.dT kvs)))
def Jy{r l:Expr}{k:TE}(t:PE X l k):PI X r l (N8 k):=by
 intro p s σ H R I h;refine AU (t p s σ H _ I h) λv c⟨x,U,i,u,w⟩=>?_;obtain⟨a,d,e,m,q⟩:=w;subst e;cases u;obtain⟨_,y,C,_,o,D,E,g,A,n,_⟩:=(show AE X.prog X.w U c.heap a (.dT d) from Hw i.hok m)
 have f:U a=some (.dT d)\/U a=some (.frz o (.dT d)):=by
  rcases m with z|⟨B,z⟩;exact .inl z
  have:=(show AE X.prog X.w U c.heap a (.frz B (.dT d)) from i.hok a _ z).1
  rw[g] at this;cases this;exact .inr z
 have j:Inv X p σ (upd U a (.frz o (.dT d))) c:=i.frz λb=>by
  by_cases e:b=a;subst e;rcases f with z|z;exact .inr ⟨d,o,g,z,Aa⟩;exact .inl (Aa.trans z.symm);exact .inl (AH e)
 refine YE y g A n ?_;refine⟨c.heap.objs.size,[c.heap.objs.size],_,_,_,rfl,j.kept (t':=c.toks) λb o e=>Bo _ e,YI n,⟨_,Cp _ rfl,rfl,rfl⟩,λb f=>?_,q o f⟩;have e:b=c.heap.objs.size:=(by simpa using f);subst e;exact j.fpOk (AG _) (j.hok.fresh (AG _))
def YJ{a:Addr}{o:Obj}{c:List (List Br×V)}{g:TG}{tb:TS}{D:Ends}{σ:St}{H:Hp}(Pv:Nat->St->Hp->Prop)(f:Pv 0 σ H)(e:∀i σ H,i<=c.length->Pv i σ H->H a=some (.frz o (.dT c)))
 (h:∀i k v b σ H,c[i]?=some (k,v)->H b=some (.tup (k.map kV))->Pv i σ H->g (.ref b) σ H λσ2 Y=>tb {D with nx:=Pv (i+1),ct:=Pv (i+1),bk:=D.nx} σ2 Y) (hd:∀σ H,Pv c.length σ H->D.nx σ H):FO (Sw a o c) g tb D σ H:=Nt c.length Pv f (λi σ H p d=>⟨e i σ H (CU d) p,d⟩) (λσ H p=>⟨e _ σ H (AG _) p,AG _⟩) (λi x σ H m p d y=>by obtain⟨rfl,k,v,b,j,rfl,l⟩:=y;exact h i k v b σ _ j l p) hd
end
end L2
namespace PySem
section
variable {prog:Program} {w:World} {A:Around} {E:I'} {s:Shared}
theorem YK{a:Addr}{o:Obj}{xs:Array Value}{k:Nat}{Q:Option Value->Shared->Prop}
 (f:s.heap.get? a=some o) (i:o.cls=.type "list") (p:o.data=.seq xs k) (hd:o.dict=none) (hA:A.handled=none)
 (h:∀h' j,(∀b o,s.heap.get? b=some o->h'.get? b=some o)->Q none {s with heap:=h',toks:=j}):wpAny (model prog w) A (getAttr? (.ref a) "keys") Q E s:=by
 obtain⟨c,dct,G,q⟩:=o;simp only at i p hd;subst i p hd;obtain⟨r,g,d,j,t⟩:=s;have l:∀m,(⟨r,g,d,m,t⟩:Shared).TypeIs (.ref a) "list" :=λζ=>⟨_,f,rfl⟩;have v:=sub_AttributeError;have x:=F.slot_list_getattribute.lookup;have y:=F.slot_list_getattribute.bind (.ref a);have z:=am_list_getattr_none;have u:typeLookup (.type "list") "keys" = pure none:=by rw[typeLookup_type,builtinLookup_eq_fast];kernel_rfl
 unfold getAttr? getAttrBy? getAttrBy
 repeat (any_goals (first|assumption|exact l _|((with_reducible show wpAny _ _ (call (Value.builtin "list.__getattribute__") _ _) _ _ _);refine call_meets F.slot_list_getattribute (l _) am_entry_list_getattribute (F.args_list_getattribute_2 _ _) (meets_getattribute_miss_list a xs k q "keys" _ u (by decide) (by size_fits)) ⟨f,hA,λh' m e n=>?_⟩)|wp_step))
 obtain⟨B,C,D⟩:=n.there;show wpAny _ _ (getattributeRaised _ _ _ _ _ _ _) _ _ _;unfold getattributeRaised
 repeat (any_goals (first|assumption|wp_step))
 exact h _ _ n.keeps
namespace F
def args_minD(a v:Value):argsOk "min" ⟨[a],[(Str.ofString "default",v)]⟩:=by unfold argsOk;kernel_rfl
def entry_upd_loop:entryFor table "dict.update.loop" = some Builtin.«dict.update.loop»:=entryFor_of_tree (by kernel_rfl)
def plain_upd_loop:plainId "dict.update.loop" = true:=by decide +kernel
end F
variable {R:Result->Shared->Prop} {I:Addr} {fp r:List Addr} {n:Nat} {P:Nat->Value->Prop} {St:Nat->Heap->Prop}
def Pw:(toString "min" ++ toString ".loop" : String) = "min.loop" :=by decide
theorem Sx(W:Walks prog w A.in1 I fp r n P St)(d:Nat->Nat->Bool)(G:CmpOf prog w A.in1 .Lt P d)(S:Addr)(m:S∉fp)(u:List (Str×Value)) :
 ∀(k j:Nat)(s:Shared)(a:Value)(c:Nat),n=j+1+k->St (j+1) s.heap->P (argBest d j) a->s.heap.get? S=some {cls:=.type "list",data:=.seq #[a,a] c} ->
 (∀v h' p,P (argBest d (n-1)) v->(∀b o,b∉r->b≠S->s.heap.get? b=some o->h'.get? b=some o)->R (.ok (.ret v)) {s with heap:=h',toks:=p}) ->
 codeAny (model prog w) A (.builtin "min.loop" ⟨[.ref I,.none,.ref S],u⟩) R s
 |0,j,s,a,c,H,z,t,l,q=>by
   subst H;refine codeAny_builtin F.entry_min_loop ?_;rw[Around.under_plainId F.plain_min_loop _];show wpAny _ A.in1 (seqItems? (.ref S) >>= _) _ _ s;refine Ad (Gw l rfl ?_);show wpAny _ A.in1 (tryCatch (pyNext (.ref I)) _ >>= _) _ _ s;refine Ad (wpAny_tryCatch (W.done s _ _ z λh' p g=>?_));show wpAny _ A.in1 (updateSeq S (λζ=>#[]) >>= _) _ _ _;refine Ad (wpAny_updateSeq (g S _ (λh=>m (W.sub _ h)) l) rfl (Ad (wpAny_letGo (Az (q a _ p t λb o f i e=>?_)))));exact(Heap.get?_update_other _ _ (Ne.symm i)).trans (g b o f e)
 | k + 1,j,s,a,c,H,z,t,l,q=>by
   refine codeAny_builtin F.entry_min_loop ?_;rw[Around.under_plainId F.plain_min_loop _];show wpAny _ A.in1 (seqItems? (.ref S) >>= _) _ _ s;refine Ad (Gw l rfl ?_);show wpAny _ A.in1 (tryCatch (pyNext (.ref I)) _ >>= _) _ _ s;refine Ad (wpAny_tryCatch (W.item (j+1) s _ _ (by lia) z λv h' p J L g=>?_));have B:=g S _ (λh=>m (W.sub _ h)) l;show wpAny _ A.in1 (tryCatch (holding [v,v] (richCompare .Lt v a >>= _)) _ >>= _) _ _ _;refine Ad (wpAny_tryCatch (FK (Ad (G (j+1) (argBest d j) v a _ _ _ J t (Ad (FK (Gv (Ad (wpAny_letGo (Az ?_))))))))))
   cases K:d (j+1) (argBest d j) with
   |true =>
     simp only[if_true];refine Ad (wpAny_updateSeq B rfl (Ad (wpAny_letGo ?_)));rw[Pw];refine Az ⟨plainId_quiet F.plain_min_loop _,Sx W d G S m u k (j+1) _ v _ (by lia) (W.frame _ _ _ L λb M o e=>?_) (by simp only[argBest,K,if_true];exact J) (Heap.get?_update_self _ B rfl) λx y C D E=>?_⟩;exact(Heap.get?_update_other _ _ (λh:S=b=>m (by rw[h];exact M))).trans e;exact q x y C D λb o f i e=>E b o f i ((Heap.get?_update_other _ _ (Ne.symm i)).trans (g b o f e))
   |false =>
     simp only[FD,if_false];refine Ad (wpAny_letGo ?_);rw[Pw]
     exact Az ⟨plainId_quiet F.plain_min_loop _,Sx W d G S m u k (j+1) _ a c (by lia) L (by simp only[argBest,K,FD,if_false];exact t) B λx y C D E =>
      q x y C D λb o f i e=>E b o f i (g b o f e)⟩
theorem YL{x d:Value}{Q:I'}
 (h:wpAny (model prog w) A.in1 (pyIter x) (λm c=>∃I fp r n P St f,m=.ref I/\Walks prog w A.in1 I fp r n P St/\St 0 c.heap/\(∀b∈fp,b<c.heap.objs.size)/\CmpOf prog w A.in1 .Lt P f /\
  ∀v h' g,(if n=0 then v=d else P (argBest f (n-1)) v)->(∀b o,b∉r->c.heap.get? b=some o->h'.get? b=some o)->Q v {c with heap:=h',toks:=g}) E s) :
 wpAny (model prog w) A (call (.builtin "min") [x] [(Str.ofString "default",d)]) Q E s:=by
 refine wpAny_call (codeAny_call_builtin F.plain_min F.entry_min (wpAny_of_eq (a:=()) (by
  have k:=F.args_minD x d;simp only[checkBuiltinCall,F.kind_min];unfold argsOk at k
  cases R:Manifest.signature? "min" with
  |none=>rfl
  |some U=>rw[R] at k;exact k) ?_))
 show wpAny _ A.in1 (Builtin.Builtins.bindParams "min" ["key", "default"] 0 ⟨[],[(Str.ofString "default",d)]⟩ >>= _) _ _ s
 refine Ad (wpAny_of_eq (show Builtin.Builtins.bindParams "min" ["key", "default"] 0 ⟨[],[(Str.ofString "default",d)]⟩=pure [none,some d] from rfl) ?_)
 refine Ad (Az ?_);refine Ad (FL h (λm c z=>?_) λζ ζ e=>e);obtain⟨I,fp,r,n,P,St,f,rfl,W,H,J,S,p⟩:=z;refine Ad (wpAny_newObj_type ?_);have l:c.heap.objs.size∉fp:=λB=>G6 _ (J _ B);have K:c.heap.objs.size∉r:=λh=>l (W.sub _ h);rw[Pw];have q:(c.heap.push {cls:=.type "list",data:=.seq #[]}).get? c.heap.objs.size=some {cls:=.type "list",data:=.seq #[]}:=Cp _ rfl;have y:=W.frame _ _ (c.heap.push {cls:=.type "list",data:=.seq #[]}) H λb ζ o e=>Bo _ e;refine Az ⟨plainId_quiet F.plain_min_loop _,codeAny_builtin F.entry_min_loop ?_⟩;rw[Around.under_plainId F.plain_min_loop _];show wpAny _ A.in1 (seqItems? (.ref c.heap.objs.size) >>= _) _ _ _;refine Ad (Gw q rfl ?_);show wpAny _ A.in1 (tryCatch (pyNext (.ref I)) _ >>= _) _ _ _
 cases n with
 |zero =>
   refine Ad (wpAny_tryCatch (W.done _ _ _ y λh' g i=>?_));exact Ad (Iu (Az (p d _ g (by rw[Au rfl]) λb o j e=>i b o j (Bo _ e))))
 |succ n =>
   refine Ad (wpAny_tryCatch (W.item 0 _ _ _ (Nat.succ_pos _) y λv h' g C T i=>?_));have u:=i _ _ K q;show wpAny _ A.in1 (updateSeq c.heap.objs.size (λζ=>#[v,v]) >>= _) _ _ _;refine Ad (wpAny_updateSeq u rfl ?_);rw[Pw];refine Az ⟨plainId_quiet F.plain_min_loop _,Sx W f S _ l _ n 0 _ v _ (by lia) (W.frame _ _ _ T λb L o e=>?_) C (Heap.get?_update_self _ u rfl) λD G M N O=>?_⟩;exact(Heap.get?_update_other _ _ (λh:c.heap.objs.size=b=>l (by rw[h];exact L))).trans e;refine p D G M (by rw[At (Nat.succ_ne_zero n)];exact N) λb o j e=>?_;have t:b≠c.heap.objs.size:=CN (Bh e);exact O b o j t ((Heap.get?_update_other _ _ (Ne.symm t)).trans (i b o j (Bo _ e)))
end
end PySem
namespace L2
open PySem PySem.Spec PyProof.Rows
section
variable {X:Cx}
def Px:List Int->V
 |[]=>.non
 |n::ns=>.int (ns.foldl min n)
theorem VL(f:Nat->Int):∀n,f (argBest (λi j=>decide (f i<f j)) n)=((List.range n).map λi=>f (i+1)).foldl min (f 0)
 |0=>rfl
 |n+1=>by
   have a:=VL f n;rw[List.range_succ,A8,OU];show f (if _ then _ else _)=min _ (f (n+1));rw[<-a]
   by_cases h:f (n+1)<f (argBest (λi j=>decide (f i<f j)) n);rw[Au (A5 h)];lia;rw[At (by simpa using h)];lia
def YM(n:Int)(a:List Int):((List.range a.length).map λi=>(n::a).getD (i+1) 0)=a:=by
 apply List.ext_getElem?;intro i;rw[AM];by_cases h:i<a.length;rw[List.getElem?_range h,Option.map_some,B6,List.getElem?_cons_succ,AB h];rfl;rw[G5 (by simpa using h),G5 (by lia)];rfl
def N9 (ta:TA):TE:=λσ H Q=>ta σ H λvs U=>∃p ns,vs=[.ref p]/\U p=some (.lst (ns.map V.int))/\Q (Px ns) U
def Jz{e:Expr}{r:TA}{p L B J:Pos}{j:Nat}(C:X.calm=true)(D:Gl X "min")(E:X.mg "min" = none)(F:PA X [e] r)
 (f:backTo L (starEach [e] X.env)=(false,eval e X.env)::backTo L (starEach [] X.env):=by rfl) (R:(backTo L (starEach [e] X.env)).any (·.1)=false:=by rfl) :
 PE X (.Call (.Name "min" p) [e] [⟨some "default",.Constant .none j B,J⟩] L) (N9 r):=by
 intro T s σ H Q I h;refine wpAny_Call_Name_kw (Kl I D E (u:=.builtin "min") (by decide +kernel) (callWith_kw (AU (F L T s σ H _ I h) λY c⟨Z,U,k,G,K⟩=>kws_cons (Constant_none (kws_nil ?_))) f R))
 obtain⟨l,a,rfl,M,q⟩:=K;obtain⟨u,rfl,N⟩:=Gh G;cases N;obtain⟨z,g,n,w,e⟩:=(show AE X.prog X.w U c.heap l (.lst (a.map V.int)) from k.hok l _ M);have x:=Xw w;have y:c.heap.IsList l g.toArray:=⟨_,e,rfl,n,rfl⟩
 have W:g.length=a.length:=by have:=w.length;rw[Ak] at this;exact this.symm
 refine YL (wpAny_pyIter_list y ⟨_,[c.heap.objs.size,l],[c.heap.objs.size],_,λi v=>g.toArray[i]?=some v,λi h=>h.IsListIter c.heap.objs.size l i/\h.IsList l g.toArray,λi j=>decide (a.getD i 0<a.getD j 0),rfl,Walks.list (A:=X.A.in1) (k.ok.hd C) c.heap.objs.size l (CN (Bh e)) g.toArray,
  ⟨⟨_,Cp _ rfl,rfl,rfl⟩,y.push _⟩,λb f=>?_,CmpOf.ints_lt (λi=>a.getD i 0) (λi v d=>x.int_at i v (by simpa using d)),λv O tk d P=>?_⟩)
 show b<(c.heap.push _).objs.size;rw[Heap.size_push];rcases BI.mp f with rfl|f;exact QM _;rw[A9.mp f];exact Nat.lt_succ_of_lt (Bh e);have S:∀b o,c.heap.get? b=some o->O.get? b=some o:=λb o z=>P b o (by simpa using CN (Bh z)) (Bo _ z);refine⟨Px a,U,k.kept S,?_,q⟩;rw[CM,W] at d
 cases a with
 |nil=>exact d
 |cons m a =>
   rw[Em,At (Nat.succ_ne_zero _),Nat.add_sub_cancel] at d;obtain⟨t,rfl⟩:=x.int_at (argBest (λi j=>decide ((m::a).getD i 0<(m::a).getD j 0)) a.length) v (by rw[<-List.getElem?_toArray];exact d);refine⟨t,?_⟩;rw[VL λi=>(m::a).getD i 0,YM];rfl
def KD (acc:List (List Br×V)) (ps:List (List Br×V)):List (List Br×V):=ps.foldl (λa kv=>Ci a kv.1 kv.2) acc
def Fc (H:Hp) (xs:List V) (ps:List (List Br×V)):Prop:=Paired (λx(p:List Br×V)=>∃t b,x=.ref t/\H t=some (.tup [.ref b,p.2])/\H b=some (.tup (p.1.map kV))) xs ps
def YN{pins:B'}{σ:St}{A:Around}{R:Result->Shared->Prop}{H:Hp}{p l f:Addr}(hu:A.units+1<cLine)(hh:A.in1.handled=none)(k:H p=none)(F:f≠p) :
 ∀(xs:List V)(ps:List (List Br×V))(d:List V)(acc:List (List Br×V))(s:Shared),Fc H xs ps->H l=some (.lst (d++xs))->acc.length+xs.length<=sizeLine->Inv X pins σ (upd H p (.dT acc)) s ->
 s.heap.IsListIter f l d.length->Dl X pins H f->(∀Z,Inv X pins σ (upd H p (.dT (KD acc ps))) Z->R (.ok (.ret .none)) Z)->∀n:Int,
 codeAny (model X.prog X.w) A (.builtin "dict.update.loop" ⟨[.ref p,.ref f,rawInt n,.none],[]⟩) R s:=by
 intro xs ps d acc s hx
 induction hx generalizing d acc s with
 |nil =>
   intro g K I u m v n;have G:upd H p (.dT acc) l=some (.lst (d++[])):=(AH (AV g k)).trans g;obtain⟨w,y,aa,B,C,D⟩:=m;have J:upd H p (.dT acc) f=none:=(AH F).trans w;obtain⟨z,U,c,E,e⟩:=(show AE X.prog X.w _ s.heap l (.lst (d++[])) from I.hok l _ G);have an:=E.length;rw[Eb] at an;refine codeAny_builtin PySem.F.entry_upd_loop ?_;rw[Around.under_plainId PySem.F.plain_upd_loop _];show wpAny _ A.in1 (pyNext (.ref f) >>= _) _ _ s;refine Ad (wpAny_pyNext_list_end hh u ⟨_,e,rfl,c,rfl⟩ (by simp;lia) λj eb=>?_);exact Ad (Az (Az (v _ (I.turned (t':=s.toks) (λb o h e=>eb b o h e) J y B C D))))
 |@cons x q xs ps hq tl ih =>
   intro g K I u m v n;obtain⟨t,b,rfl,L,h⟩:=hq;have G:upd H p (.dT acc) l=some (.lst (d++.ref t::xs)):=(AH (AV g k)).trans g;have af:upd H p (.dT acc) t=some (.tup [.ref b,q.2]):=(AH (AV L k)).trans L;have W:upd H p (.dT acc) b=some (.tup (q.1.map kV)):=(AH (AV h k)).trans h;obtain⟨w,y,aa,B,C,D⟩:=id m;have J:upd H p (.dT acc) f=none:=(AH F).trans w;obtain⟨z,U,c,E,e⟩:=(show AE X.prog X.w _ s.heap l (.lst (d++.ref t::xs)) from I.hok l _ G);obtain⟨ao,ag,ru⟩:=E.get (i:=d.length) (x:=.ref t) (by simp);cases ru;refine codeAny_builtin PySem.F.entry_upd_loop ?_;rw[Around.under_plainId PySem.F.plain_upd_loop _];show wpAny _ A.in1 (pyNext (.ref f) >>= _) _ _ s;refine Ad (wpAny_pyNext_list_item u (⟨_,e,rfl,c,rfl⟩:s.heap.IsList l U.toArray) (x:=.ref t) (by simpa using ag) λj ah sb=>?_);have r:Inv X pins σ (upd H p (.dT acc)) {s with heap:=j}:=I.turned (t':=s.toks) (λb o h e=>(sb.2 b h).trans e) J y B C D;obtain⟨_,ts,rt,ot,M,ct,nt,dt⟩:=(show AE X.prog X.w _ j t (.tup [.ref b,q.2]) from r.hok t _ af);obtain⟨u1,N,rfl,r1,r2⟩:=Kr rt;cases(show u1=Value.ref b from r1);obtain⟨zd,hm,es,Y,dd⟩:=Ks r.hok (Aa (H:=H) (a:=p) (o:=.dT acc))
   have ai:es.length<=sizeLine:=by rw[<-Paired.length Y];exact zd
   have aq:(Ci acc q.1 q.2).length<=acc.length+1:=UF acc q.1 q.2;rw[Em] at K;refine Ad (FK (Ad (wpAny_tryCatch ?_)));show wpAny _ A.in1 (Builtin.Dict.pairItems (.ref t)) _ _ _;unfold Builtin.Dict.pairItems;refine Ad (OV (s:={s with heap:=j}) (T:= "tuple") ⟨ot,M,ct⟩ ?_);rw[Au (by decide)];refine Ad (Gw (s:={s with heap:=j}) M dt (Az ?_));show wpAny _ A.in1 (holding [Value.ref b,N] (dictSet p (.ref b) N)) _ _ _;refine FK (wpAny_dictSet_heap (hsz:=ai) (knd:=tupleKind (FE X.prog X.w)) (tupleKind_room_in1 hu) (MR r.hok W) dd λh2 aj O=>?_);obtain⟨P,ak,al,Q,ab,ae,g4,_,g5⟩:=aj
   have I2:Inv X pins σ (upd H p (.dT (Ci acc q.1 q.2))) {s with heap:=h2,toks:=s.toks+(tupleKind (FE X.prog X.w)).draws q.1}:=by
    have:=UH (t':=s.toks+(tupleKind (FE X.prog X.w)).draws q.1) (ob:=.dT (Ci acc q.1 q.2)) r (by rw[Aa];exact True.intro) O ⟨P,Q⟩ ⟨by lia,hm,_,(Y.put q.1 W r2).keeps λc ys S=>?_,P,ak,al,Q,ab,ae,g4,g5⟩;rw[IP] at this;exact this;rw[AH (Nf S Aa (λz=>nomatch z))];exact S
   refine Az ⟨plainId_quiet PySem.F.plain_upd_loop _,?_⟩;have:=ih (d++[.ref t]) (Ci acc q.1 q.2) _ (by rw[FJ];exact g) (by lia) I2 (by rw[AO];exact ah.at λo e=>(O.2 f F).trans e) m v (n+1);exact this
def JA:List V->Hp->VK->Prop:=λvs H Q=>∃l xs ps,vs=[.ref l]/\H l=some (.lst xs)/\xs.length<sizeLine/\Fc H xs ps/\∀p,H p=none->Q (.ref p) (upd H p (.dT (KD [] ps)))
def YO(k:X.calm=true)(B:X.A.units+2<cLine):Bs X (.type "dict") JA:=by
 intro pins s σ H L M Q I r h;obtain⟨l,m,C,rfl,n,N,D,q⟩:=h;obtain⟨u,rfl,E⟩:=Gh r;cases E;have p:H s.heap.objs.size=none:=I.hok.fresh (AG _);refine callType_codes (Q₁:=λx t=>x=.ref s.heap.objs.size/\t={s with heap:=s.heap.push {cls:=.type "dict",data:=.dict #[]}}) PySem.F.kt_called_dict (PySem.F.kt_typeCall_dict_1 _) PySem.F.entry_dict_init (kt_code_dict_new _ ⟨rfl,rfl⟩) ?_;rintro x t ⟨rfl,rfl⟩;have F:=I.laid (a:=s.heap.objs.size) (o:=.dT []) (t':=s.toks) (h':=s.heap.push {cls:=.type "dict",data:=.dict #[]}) (λζ ζ q=>Bo _ q) (AG _) (UI s.heap I.big)
 obtain⟨z,P,c,O,e⟩:=(show AE X.prog X.w _ s.heap l (.lst m) from I.hok l _ n)
 have f:=Bo {cls:=.type "dict",data:=.dict #[]} e;have v:Shared.TypeIs {s with heap:=s.heap.push {cls:=.type "dict",data:=.dict #[]}} (.ref s.heap.objs.size) "dict" :=⟨_,Cp _ rfl,rfl⟩;refine⟨v,PySem.F.args_dict_init_2 _ _,?_⟩;unfold Builtin.«dict.__init__»;refine Ad ?_;unfold Builtin.Dict.selfAndRest;refine Ad (wpAny_notOrdered_dict v ?_);show wpAny _ _ (pure (s.heap.objs.size,[Value.ref l])) _ _ _;refine Az ?_;show wpAny _ _ (Builtin.Dict.updateFrom "dict.__init__" s.heap.objs.size (.ref l) [] .none) _ _ _;unfold Builtin.Dict.updateFrom;refine Ad (OV (T:= "list") ⟨_,f,rfl⟩ ?_)
 rw[Au (by decide)];refine Ad (YK f rfl rfl rfl (I.ok.hd k) λd g w=>?_);rw[Au (show(none:Option Value).isNone=true from rfl)];have i:=F.kept (t':=g) w;refine Ad (Iu (Ad (wpAny_pyIter_list (s:={s with heap:=d,toks:=g}) ⟨_,w _ _ f,rfl,c,rfl⟩ ?_)))
 have G:=i.kept (t':=g) (h':=d.push {cls:=.type "list_iterator",data:=.fields #[.ref l,.int 0 0]}) λb o e=>Bo _ e;obtain⟨j,J⟩:=i.fpOk (AG d.objs.size) (i.hok.fresh (AG _));have y:d.objs.size≠s.heap.objs.size:=λz=>by rw[z,Aa] at j;cases j
 refine Az ⟨plainId_quiet PySem.F.plain_upd_loop _,YN (A:=X.A.in1) (X:=X) (pins:=pins) (σ:=σ) (l:=l) (H:=H) B (I.ok.hd k) p y m C [] [] _ D n (by rw[GQ];lia) G ⟨_,Cp _ rfl,rfl,rfl⟩ ⟨(AH y).symm.trans j,J⟩ (λZ K=>⟨rfl,.ref _,_,K,rfl,q _ p⟩) 0⟩
end
open Ord
def YQ{bs:List Bool}:(List.range bs.length).any (λi=>bs.getD i false)=bs.any id:=by
 rw[Bool.eq_iff_iff,K1,K1];constructor;rintro⟨i,a,h⟩;have c:=List.mem_range.mp a;rw[B6,AB c] at h;exact⟨_,Dk c,h⟩;rintro⟨b,d,h⟩;obtain⟨i,a,e⟩:=OT.mp d;refine⟨i,List.mem_range.mpr a,?_⟩;rw[B6,AB a,e];exact h
def Sy (K:Aj):List V->Hp->VK->Prop:=λvs H Q=>∃(a:Addr)(bs:List Bool),vs=[.ref a]/\Af K H a (bs.map V.bl)/\Q (.bl (bs.any id)) H
def YR{X:Cx}(g:X.calm=true):Bs X (.builtin "any") (Sy X.K):=by
 intro C s σ H t w Q I r h;obtain⟨a,bs,rfl,j,q⟩:=h;obtain⟨u,rfl,k⟩:=Gh r;obtain rfl:u=Value.ref a:=k;obtain⟨c,d,p,x⟩:=I.list j;have f:=d.length;rw[Ak] at f;have n:a<s.heap.objs.size:=by obtain⟨_,e,_⟩:=p.isList;exact Bh e
 refine call_any_walk (wpAny_pyIter_list p.isList ?_);refine⟨s.heap.objs.size,[s.heap.objs.size,a],[s.heap.objs.size],c.toArray.size,(λi v=>c.toArray[i]?=some v),(λi h=>h.IsListIter s.heap.objs.size a i/\h.IsList a c.toArray),(λi=>bs.getD i false),rfl,Walks.list (A:=X.A.in1) (I.ok.hd g) s.heap.objs.size a (CN n) c.toArray,⟨⟨_,Cp _ rfl,rfl,rfl⟩,p.isList.push _⟩,UK d,λy B l=>?_⟩;refine⟨.bl (bs.any id),H,I.kept λb o e=>l b o (λz=>?_) (Bo _ e),?_,q⟩;have m:b=s.heap.objs.size:=(by simpa using z);exact absurd (Bh e) (by rw[m];exact G6 _);have e:c.toArray.size=bs.length:=(by rw[CM,f]);show Value.bool _=Value.bool _;rw[e,YQ]
section
variable {prog:Program} {w:World} {A:Around} {E:I'} {s:Shared}
end
section
variable {X:Cx}
end
end L2
namespace TreeM
def Sz{β:Type}{P:List β->Prop}(nil:P [])(snoc:∀l x,P l->P (l++[x]))(l:List β):P l:=by
 have:∀l:List β,P l.reverse:=λl=>by
  induction l with
  |nil=>exact nil
  |cons x l a=>rw[List.reverse_cons];exact snoc _ _ a
 rw[<-List.reverse_reverse l];exact this _
variable {α:Type} [DecidableEq α]
abbrev Ws (α:Type):=List (Nat×List α)
def Gm (p:List α) (w:List α):Option α:=if p <+: w then w[p.length]? else none
def keysAt (ws:Ws α) (p:List α):List (α×Nat):=ws.foldl (λks kw=>match Gm p kw.2 with
 |some m=>if m∈ks.map (·.1) then ks else ks++[(m,kw.1)]
 |none=>ks) []
theorem KE(ws:Ws α)(k:Nat)(w p:List α):keysAt (ws++[(k,w)]) p=match Gm p w with
 |some m=>if m∈(keysAt ws p).map (·.1) then keysAt ws p else keysAt ws p++[(m,k)]
 |none=>keysAt ws p:=by
 unfold keysAt;rw[OU];rfl
def JB(p:List α):Gm p p=none:=by
 unfold Gm;rw[Au (List.prefix_refl p)];exact G5 (AG _)
def YS(p:List α)(m:α):Gm p (p++[m])=some m:=by
 unfold Gm;rw[Au (MI p [m]),E8 (AG _),Nat.sub_self];rfl
variable {p:List α}{m:α}
def YT{q:List α}(h:p≠q):Gm p (q++[m])=Gm p q:=by
 unfold Gm;by_cases a:p <+: q;rw[Au a,Au (a.trans (MI q [m]))]
 have l:p.length<q.length:=by
  rcases Nat.lt_or_ge p.length q.length with x|x;exact x;exact absurd (a.eq_of_length_le x) h
 exact EQ l;rw[At a];by_cases b:p <+: q++[m];rw[Au b];rcases List.prefix_concat_iff.mp b with e|e;rw[e];exact G5 (AG _);exact absurd e a;rw[At b]
def YU(ws:Ws α)(k:Nat)(p:List α):keysAt (ws++[(k,[])]) p=keysAt ws p:=by
 rw[KE]
 have:Gm p ([]:List α)=none:=by
  unfold Gm;by_cases a:p <+: [];rw[Au a];rfl;rw[At a]
 rw[this]
variable {ws:Ws α}
def SA{k:Nat}{q:List α}(h:p≠q):keysAt (ws++[(k,q++[m])]) p=keysAt (ws++[(k,q)]) p:=by
 rw[KE,KE,YT h]
def VM(ws:Ws α)(k:Nat)(q:List α)(m:α):keysAt (ws++[(k,q++[m])]) q =
 if m∈(keysAt (ws++[(k,q)]) q).map (·.1) then keysAt (ws++[(k,q)]) q else keysAt (ws++[(k,q)]) q++[(m,k)]:=by
 rw[KE,KE,YS,JB]
def FX{w:List α}:Gm p w=some m↔p++[m] <+: w:=by
 unfold Gm;by_cases a:p <+: w;rw[Au a];obtain⟨t,rfl⟩:=a;rw[E8 (AG _),Nat.sub_self]
 cases t with
 |nil =>
   refine⟨λe=>(nomatch e),λe=>?_⟩;have:=e.length_le;rw[Eb,AO] at this;exact absurd this (by show ¬p.length+1<=p.length;lia)
 |cons x t =>
   refine⟨λe=>?_,λe=>?_⟩;cases e;exact⟨t,by simp⟩;obtain⟨u,e⟩:=e;rw[FJ] at e;have:=List.append_cancel_left e;simp at this;rw[this.1];rfl
 rw[At a];exact⟨λe=>(nomatch e),λe=>absurd ((MI p [m]).trans e) a⟩
def keysAt_mem:m∈(keysAt ws p).map (·.1)↔∃a∈ws,p++[m] <+: a.2:=by
 induction ws using Sz with
 |nil=>exact⟨λh=>(nomatch h),λ⟨_,h,_⟩=>(nomatch h)⟩
 |snoc ws a c =>
   obtain⟨k,w⟩:=a;rw[KE]
   have both:(∃a∈ws++[(k,w)],p++[m] <+: a.2)↔(∃a∈ws,p++[m] <+: a.2)\/p++[m] <+: w:=by
    constructor;rintro⟨x,b,e⟩;rcases BR.mp b with y|y;exact .inl ⟨x,y,e⟩;rw[A9.mp y] at e;exact .inr e;rintro(⟨x,b,e⟩|e);exact⟨x,GP _ b,e⟩;exact⟨_,D6 _ (A9.mpr rfl),e⟩
   rw[both,<-c,<-FX]
   cases b:Gm p w with
   |none=>exact⟨.inl,λz=>z.elim id λe=>(nomatch e)⟩
   |some x =>
     dsimp only;by_cases d:x∈(keysAt ws p).map (·.1);rw[Au d];exact⟨.inl,λz=>z.elim id λe=>by cases e;exact d⟩;rw[At d,A8,BR];refine or_congr Iff.rfl ?_;simp[eq_comm]
def VN{k:Nat}(l:(ws.map (·.1)).Pairwise (· < ·))(h:(m,k)∈keysAt ws p):(∃w,(k,w)∈ws/\p++[m] <+: w)/\∀j w,(j,w)∈ws->p++[m] <+: w->k<=j:=by
 induction ws using Sz with
 |nil=>cases h
 |snoc ws o q =>
   obtain⟨n,v⟩:=o;rw[A8,List.pairwise_append] at l;obtain⟨r,-,s⟩:=l;have z:∀j w,(j,w)∈ws->j<n:=λj w e=>s j (AF.mpr ⟨_,e,rfl⟩) n (A9.mpr rfl);rw[KE] at h
   have i:(m,k)∈keysAt ws p->(∃w,(k,w)∈ws++[(n,v)]/\p++[m] <+: w)/\∀j w,(j,w)∈ws++[(n,v)]->p++[m] <+: w->k<=j:=λt=>by
    obtain⟨⟨w,a,b⟩,c⟩:=q r t;refine⟨⟨w,GP _ a,b⟩,λj u e f=>?_⟩;rcases BR.mp e with y|y;exact c j u y f;cases A9.mp y;exact CU (z _ _ a)
   cases g:Gm p v with
   |none=>rw[g] at h;exact i h
   |some x =>
     rw[g] at h;dsimp only at h;by_cases d:x∈(keysAt ws p).map (·.1);rw[Au d] at h;exact i h;rw[At d] at h;rcases BR.mp h with y|y;exact i y;cases A9.mp y;refine⟨⟨v,D6 _ (A9.mpr rfl),FX.mp g⟩,λj u e f=>?_⟩;rcases BR.mp e with y|y;exact absurd (keysAt_mem.mpr ⟨_,y,f⟩) d;cases A9.mp y;exact AG _
section
variable (bet:α->α->Bool)
def AL:List α->List α->Bool
 |x::s,m::t=>if x=m then AL s t else bet x m
 |_,_=>false
def gat (ws:Ws α):List α->List α->List Nat
 |_,[]=>[]
 |a,m::t=>((keysAt ws a).filter λxk=>bet xk.1 m).map (·.2)++gat ws (a++[m]) t
end
variable {bet:α->α->Bool}
def LX{a b:List α}{x:α}{t:List α}(h:a++[x] <+: b)(c:x≠m):AL bet b (a++m::t)=bet x m:=by
 obtain⟨u,rfl⟩:=h
 induction a with
 |nil=>show(if x=m then _ else bet x m)=_;rw[At c]
 |cons y a d=>show(if y=y then _ else _)=_;rw[Au rfl];exact d
theorem VO{ws:Ws α}(g:(ws.map (·.1)).Pairwise (· < ·))(irr:∀m,bet m m=false):∀(b a:List α)(k:Nat),k∈gat bet ws a b->∃w,(k,w)∈ws/\AL bet w (a++b)=true
 |[],_,_,h=>nomatch h
 |m::t,a,k,h=>by
   rcases BR.mp h with y|y;obtain⟨⟨x,j⟩,z,rfl⟩:=AF.mp y;obtain⟨i,d⟩:=Nb.mp z;obtain⟨⟨w,f,c⟩,-⟩:=VN g i;refine⟨w,f,?_⟩;rw[LX c (λe=>?_)];exact d;rw[e,irr] at d;cases d;obtain⟨w,f,c⟩:=VO g irr t (a++[m]) k y;refine⟨w,f,?_⟩;rw[FJ] at c;exact c
theorem VP:∀{b w:List α},AL bet w b=true->∃a x m t,b=a++m::t/\a++[x] <+: w/\x≠m/\bet x m=true
 |m::t,x::s,h=>by
   by_cases e:x=m;subst e;have h':AL bet s t=true:=(by simpa [AL] using h);obtain⟨a,y,n,u,rfl,c,d,f⟩:=VP h';exact⟨x::a,y,n,u,rfl,List.cons_prefix_cons.mpr ⟨rfl,c⟩,d,f⟩;have h':bet x m=true:=(by simpa [AL,e] using h);exact⟨[],x,m,t,rfl,List.cons_prefix_cons.mpr ⟨rfl,List.nil_prefix⟩,e,h'⟩
 |[],[],h=>nomatch h
 |[],_::_,h=>nomatch h
 |_::_,[],h=>nomatch h
theorem VQ{ws:Ws α}:∀{a b c:List α}{m x:α}{t:List α}{k:Nat},(x,k)∈keysAt ws (c++a)->bet x m=true->b=a++m::t->k∈gat bet ws c b
 |[],b,c,m,x,t,k,d,e,f=>by
   subst f;rw[Eb] at d;exact GP _ (AF.mpr ⟨_,Nb.mpr ⟨d,e⟩,rfl⟩)
 |y::a,b,c,m,x,t,k,d,e,f=>by
   subst f;refine D6 _ (VQ (a:=a) (m:=m) (x:=x) (t:=t) ?_ e rfl);rw[FJ];exact d
def YV(i:(ws.map (·.1)).Pairwise (· < ·)){b w:List α}{j:Nat}(h:(j,w)∈ws)(l:AL bet w b=true):∃k∈gat bet ws [] b,k<=j:=by
 obtain⟨a,x,m,t,e,d,-,n⟩:=VP l;obtain⟨⟨y,k⟩,f,g⟩:=AF.mp (keysAt_mem.mpr ⟨_,h,d⟩);dsimp only at g;subst g;exact⟨k,VQ (a:=a) (c:=[]) f n e,(VN i f).2 j w h d⟩
end TreeM
namespace L2
open PySem PySem.Spec PyProof.Rows Ord TreeM
variable {A:Around}{k:Nat}
def LY(a:B1 k A):A.units+2<cLine:=Nat.lt_of_le_of_lt (Nat.add_le_add_left (by decide:2<=64) _) a.units
abbrev Gb (m:As):List Br:=[.inl m.1,.inr m.2.1,.inl m.2.2]
def YW{a b:As}(h:Gb a=Gb b):a=b:=by
 obtain⟨c,d,e⟩:=a;obtain⟨f,g,i⟩:=b;simp only[Gb,List.cons.injEq,Sum.inl.injEq,Sum.inr.injEq,and_true] at h;rw[h.1,h.2.1,h.2.2]
def DN (ws:Ws As) (c:List As->As->Addr) (p:List As):List (List Br×V):=(keysAt ws p).map λmk=>(Gb mk.1,V.ref (c p mk.1))
theorem VR{c:As->Addr}{m:As}:∀{ks:List (As×Nat)},A4 (ks.map λmk=>(Gb mk.1,V.ref (c mk.1))) (Gb m)=if m∈ks.map (·.1) then some (.ref (c m)) else none
 |[]=>rfl
 | (x,k) :: ks=>by
   rw[EX];by_cases h:x=m;subst h;rw[G8 rfl,Au (by simp)];rw[G9 (λz=>h (YW z)),VR]
   have:(m∈List.map (·.1) ((x,k)::ks))↔m∈ks.map (·.1):=by
    rw[EX,BI];exact⟨λz=>z.elim (λe=>absurd e.symm h) id,.inr⟩
   by_cases a:m∈ks.map (·.1);rw[Au a,Au (this.mpr a)];rw[At a,At (λz=>a (this.mp z))]
variable {ws:Ws As}{c:List As->As->Addr}{p:List As}{m:As}
def Oa:A4 (DN ws c p) (Gb m)=if m∈(keysAt ws p).map (·.1) then some (.ref (c p m)) else none:=VR (c:=c p)
def Ei (ws:Ws As) (p:List As):Prop:=p=[]\/∃kw∈ws,p <+: kw.2
def VS(h:¬Ei ws p):keysAt ws p=[]:=by
 cases e:keysAt ws p with
 |nil=>rfl
 |cons x l =>
   exfalso;obtain⟨a,b,c⟩:=keysAt_mem.mp (show x.1∈(keysAt ws p).map (·.1) by rw[e];simp);exact h (.inr ⟨a,b,(MI p _).trans c⟩)
def Fu:Ei ws (p++[m])↔m∈(keysAt ws p).map (·.1):=by
 rw[keysAt_mem];exact⟨λh=>h.elim (λe=>absurd e (by simp)) id,.inr⟩
structure Bd (φ:Hp->Addr->List (List Br×V)->Prop) (H:Hp) (ws:Ws As) (d:List As->Addr) (c:List As->As->Addr):Prop where
 dct:∀p,Ei ws p->φ H (d p) (DN ws c p)
 tup:∀p m k,(m,k)∈keysAt ws p->H (c p m)=some (.tup [.int (k:Int),.ref (d (p++[m]))])
 inj:∀p q,Ei ws p->Ei ws q->d p=d q->p=q
abbrev dW:Hp->Addr->List (List Br×V)->Prop:=λH a kvs=>H a=some (.dT kvs)
abbrev dF:Hp->Addr->List (List Br×V)->Prop:=λH a kvs=>∃o,H a=some (.frz o (.dT kvs))
variable {H H':Hp}{d:List As->Addr}
def Bd.same(e:Ac H H')(h:Bd dF H ws d c):Bd dF H' ws d c:=
 ⟨λp a=>let ⟨o,x⟩:=h.dct p a;⟨o,e _ _ x⟩,λp m k b=>e _ _ (h.tup p m k b),h.inj⟩
def Bd.sameW(e:Ac H H')(h:Bd dW H ws d c):Bd dW H' ws d c:=
 ⟨λp a=>e _ _ (h.dct p a),λp m k b=>e _ _ (h.tup p m k b),h.inj⟩
variable {n:Nat}{g:List As}
def Py(d:m∈(keysAt (ws++[(n,g)]) g).map (·.1)):Ei (ws++[(n,g++[m])]) p↔Ei (ws++[(n,g)]) p:=by
 constructor;rintro(h|⟨b,c,a⟩);exact .inl h;rcases BR.mp c with y|y;exact .inr ⟨b,GP _ y,a⟩;rw[A9.mp y] at a;rcases List.prefix_concat_iff.mp a with e|e;rw[e];exact Fu.mpr d;exact .inr ⟨_,D6 _ (A9.mpr rfl),e⟩;rintro(h|⟨b,c,a⟩);exact .inl h;rcases BR.mp c with y|y;exact .inr ⟨b,GP _ y,a⟩;rw[A9.mp y] at a;exact .inr ⟨_,D6 _ (A9.mpr rfl),a.trans (MI g [m])⟩
def Bd.stay{φ:Hp->Addr->List (List Br×V)->Prop}(h:Bd φ H (ws++[(n,g)]) d c)(a:m∈(keysAt (ws++[(n,g)]) g).map (·.1)):Bd φ H (ws++[(n,g++[m])]) d c:=by
 have f:∀p,keysAt (ws++[(n,g++[m])]) p=keysAt (ws++[(n,g)]) p:=λp=>by
  by_cases e:p=g;subst e;rw[VM,Au a];exact SA e
 refine⟨λp b=>?_,λp x k i=>h.tup p x k (by rw[<-f];exact i),λp q b j=>h.inj p q ((Py a).mp b) ((Py a).mp j)⟩;have:=h.dct p ((Py a).mp b);unfold DN at this ⊢;rw[f];exact this
variable {v:V}
def YX{a:List (List Br×V)}{k:List Br}(h:A4 a k=none):Ci a k v=a++[(k,v)]:=by
 unfold Ci;rw[At (by rw[NG,h];simp)]
variable {e T:Addr}
def Bd.grow{u:Hp}(h:Bd dW H (ws++[(n,g)]) d c)(j:m∉(keysAt (ws++[(n,g)]) g).map (·.1))
 (G:H e=none) (I:∀p,Ei (ws++[(n,g)]) p->u (d p)=none) (U:u e=none) (s:Ac H H') (J:H' e=some (.dT [])) (C:H' T=some (.tup [.int (n:Int),.ref e])) :
 ∃d' K,Bd dW (upd H' (d g) (.dT (Ci (DN (ws++[(n,g)]) c g) (Gb m) (.ref T)))) (ws++[(n,g++[m])]) d' K/\d' (g++[m])=e/\(∀p,Ei (ws++[(n,g++[m])]) p->u (d' p)=none)/\d' []=d []:=by
 have r:Ei (ws++[(n,g)]) g:=.inr ⟨_,D6 _ (A9.mpr rfl),List.prefix_refl g⟩;have L:A4 (DN (ws++[(n,g)]) c g) (Gb m)=none:=(by rw[Oa,At j])
 have w:∀{p},Ei (ws++[(n,g++[m])]) p->p=g++[m]\/p≠g++[m]/\Ei (ws++[(n,g)]) p:=λ{p}a=>by
  by_cases e:p=g++[m];exact .inl e;refine .inr ⟨e,?_⟩;rcases a with z|⟨M,N,A⟩;exact .inl z;rcases BR.mp N with y|y;exact .inr ⟨M,GP _ y,A⟩;rw[A9.mp y] at A;rcases List.prefix_concat_iff.mp A with z|z;exact absurd z e;exact .inr ⟨_,D6 _ (A9.mpr rfl),z⟩
 have B:∀p,Ei (ws++[(n,g)]) p->d p≠e:=λp a z=>by have this:H (d p)=some _:=h.dct p a;rw[z,G] at this;cases this
 have W:T≠d g:=λz=>by
  have:=s _ _ (h.dct g r);rw[<-z,C] at this;cases this
 have O:¬Ei (ws++[(n,g)]) (g++[m]):=λz=>j (Fu.mp z)
 have P:keysAt (ws++[(n,g++[m])]) (g++[m])=[]:=by
  rw[SA (by simp)];exact VS O
 have D:∀p,p≠g->keysAt (ws++[(n,g++[m])]) p=keysAt (ws++[(n,g)]) p:=λp a=>SA a;have F:keysAt (ws++[(n,g++[m])]) g=keysAt (ws++[(n,g)]) g++[(m,n)]:=(by rw[VM,At j])
 refine⟨λp=>if p=g++[m] then e else d p,λp x=>if p=g/\x=m then T else c p x,⟨λp a=>?_,λp x k o=>?_,λp q a Q X=>?_⟩,Au rfl,λp a=>?_,At (by simp)⟩
 show upd _ _ _ (if p=g++[m] then e else d p)=some _
 rcases w a with z|⟨z,f⟩;subst z;rw[Au rfl,AH (Ne.symm (B g r)),J];unfold DN;rw[P];rfl;rw[At z];by_cases b:p=g;subst b;rw[Aa,YX L];unfold DN;rw[F,A8]
 have:∀l:List (As×Nat),m∉l.map (·.1)->(l.map λmk=>(Gb mk.1,V.ref (c p mk.1)))=l.map λmk=>(Gb mk.1,V.ref (if p=p/\mk.1=m then T else c p mk.1)):=λl R=>List.map_congr_left λmk Y=>by
  rw[At (λz=>R (AF.mpr ⟨mk,Y,z.2⟩))]
 rw[this _ j,EX,Nc];dsimp only;rw[Au ⟨rfl,rfl⟩];rw[AH (λS=>b (h.inj p g f r S))];have:=s _ _ (h.dct p f);unfold DN at this ⊢;rw[D p b,this]
 congr 2
 exact List.map_congr_left λmk ζ=>by
  show _=(Gb mk.1,V.ref (if p=g/\mk.1=m then T else c p mk.1));rw[At (λz=>b z.1)]
 show upd _ _ _ (if p=g/\x=m then T else c p x)=some (.tup [_,.ref (if p++[x]=g++[m] then e else d (p++[x]))])
 by_cases b:p=g;subst b;rw[F] at o;by_cases v:x=m;subst v;rw[Au ⟨rfl,rfl⟩,Au rfl,AH W,C];rcases BR.mp o with y|y;exact absurd (AF.mpr ⟨_,y,rfl⟩) j;cases A9.mp y;rfl;rcases BR.mp o with y|y;rw[At (λz=>v z.2),At (λz=>v (by simpa using z))];have t:=h.tup p x k y;rw[AH (λz=>by have this:H (d p)=some _:=h.dct p r;rw[<-z,t] at this;cases this)];exact s _ _ t;cases A9.mp y;exact absurd rfl v;rw[D p b] at o
 rw[At (λz=>b z.1),At (show ¬(p++[x]=g++[m]) from λz=>b (List.append_inj_left' z rfl))];have t:=h.tup p x k o;rw[AH (λz=>by have this:H (d g)=some _:=h.dct g r;rw[<-z,t] at this;cases this)];exact s _ _ t
 have i:(if p=g++[m] then e else d p)=(if q=g++[m] then e else d q):=X
 rcases w a with z|⟨z,f⟩<;>rcases w Q with y|⟨y,E⟩;rw[z,y];rw[Au z,At y] at i;exact absurd i.symm (B q E);rw[At z,Au y] at i;exact absurd i (B p f);rw[At z,At y] at i;exact h.inj p q f E i
 show u (if p=g++[m] then e else d p)=none
 rcases w a with z|⟨z,f⟩;rw[Au z];exact U;rw[At z];exact I p f
def VT(ws:Ws As)(n:Nat)(p:List As):keysAt (ws++[(n,[])]) p=keysAt ws p:=YU ws n p
def Bd.begin{φ:Hp->Addr->List (List Br×V)->Prop}(h:Bd φ H ws d c):Bd φ H (ws++[(n,[])]) d c:=by
 have i:∀{p},Ei (ws++[(n,[])]) p->Ei ws p:=λ{p}a=>by
  rcases a with z|⟨e,f,b⟩;exact .inl z;rcases BR.mp f with y|y;exact .inr ⟨e,y,b⟩;rw[A9.mp y] at b;exact .inl (List.prefix_nil.mp b)
 refine⟨λp a=>?_,λp m k g=>h.tup p m k (by rw[<-VT];exact g),λp q a j=>h.inj p q (i a) (i j)⟩;have:=h.dct p (i a);unfold DN at this ⊢;rw[VT];exact this
def Bd.frz{H U Y:Hp}{ws:Ws As}{d:List As->Addr}{c:List As->As->Addr}(h:Bd dW U ws d c)(g:∀p,Ei ws p->H (d p)=none)(f:Pu H U Y)(i:∀b a,H b=none->U b=some (.dT a)->∃o,Y b=some (.frz o (.dT a))):Bd dF Y ws d c:=by
 refine⟨λp e=>i _ _ (g p e) (h.dct p e),λp m k j=>?_,h.inj⟩;have t:=h.tup p m k j;rcases f (c p m) with z|⟨_,a,o,z,_⟩;rw[z];exact t;rw[t] at z;cases z
variable {U:Hp}
def Pu.same{Y:Hp}(s:Ac H U)(f:Pu H U Y):Ac H Y:=λb o e=>by
 rcases f b with z|⟨z,_⟩;rw[z];exact s _ _ e;rw[e] at z;cases z
def SD(ws:Ws As)(p:List As):(keysAt ws p).length<=ws.length:=by
 induction ws using Sz with
 |nil=>exact AG _
 |snoc ws a b =>
   obtain⟨k,w⟩:=a;rw[KE,AO];split;split;lia;rw[AO];simp;exact b;lia
abbrev Fv (p:Str×Str):List Br:=[.inr p.1,.inr p.2]
def Fc.tups(e:∀b xs,H b=some (.tup xs)->H' b=some (.tup xs)):∀{xs:List V}{ps:List (List Br×V)},Fc H xs ps->Fc H' xs ps:=λh =>
 Paired.mapP h λ_ _⟨t,b,a,c,d⟩=>⟨t,b,a,e _ _ c,e _ _ d⟩
theorem VU{k:List Br}:∀{ps acc:List (List Br×V)},(A4 (KD acc ps) k).isSome=true↔(A4 acc k).isSome=true\/k∈ps.map (·.1)
 |[],acc=>by simp[KD]
 |p::ps,acc=>by
   show(A4 (KD (Ci acc p.1 p.2) ps) k).isSome=true↔_;rw[VU,XG,EX,BI];by_cases h:k=p.1;rw[Au h];simp[h];rw[At h];simp[h]
def HN (H:Hp) (p:Addr) (ord:A'):Prop:=∃kvs,H p=some (.dT kvs)/\∀a b,(A4 kvs (Fv (a,b))).isSome=dec ((a,b)∈ord)
variable {ord:A'}
def HN.same{p:Addr}(e:Ac H H')(h:HN H p ord):HN H' p ord:=let ⟨k,a,b⟩:=h;⟨k,e _ _ a,b⟩
def YY(a b:Str):(A4 (KD [] (ord.map λp=>(Fv p,V.bl true))) (Fv (a,b))).isSome=dec ((a,b)∈ord):=by
 have:(A4 (KD [] (ord.map λp=>(Fv p,V.bl true))) (Fv (a,b))).isSome=true ↔ (a,b)∈ord:=by
  rw[VU];constructor;rintro(h|h);simp[A4] at h;rw[El] at h;obtain⟨q,c,e⟩:=AF.mp h;obtain⟨d,f⟩:=q;simp at e;rw[<-e.1,<-e.2];exact c;intro h;refine .inr ?_;rw[El];exact AF.mpr ⟨_,h,rfl⟩
 by_cases h:(a,b)∈ord;rw[Ep h];exact this.mpr h;rw[Ga h]
 cases e:(A4 (KD [] (ord.map λp=>(Fv p,V.bl true))) (Fv (a,b))).isSome with
 |false=>rfl
 |true=>exact absurd (this.mp e) h
def A7 (l:List (List As)):Ws As:=l.zipIdx.map λp=>(p.2,p.1)
def YZ(l:List (List As))(w:List As):A7 (l++[w])=A7 l++[(l.length,w)]:=by
 unfold A7;rw[List.zipIdx_append,A8]
 simp
variable {l:List (List As)}{i:Nat}{w:List As}
def Y0(h:l[i]?=some w):A7 (l.take (i+1))=A7 (l.take i)++[(i,w)]:=by
 have a:=(Bi.mp h).1;rw[D7,h];show A7 (l.take i++[w])=_;rw[YZ,Ek,Nat.min_eq_left (CU a)]
def VV(l:List (List As)):((A7 l).map (·.1)).Pairwise (· < ·):=by
 have:(A7 l).map (·.1)=List.range l.length:=by
  unfold A7;rw[El,List.range_eq_range'];exact List.zipIdx_map_snd 0 l
 rw[this];exact List.pairwise_lt_range
def Ds:(k,w)∈A7 l↔l[k]?=some w:=by
 unfold A7;rw[AF];constructor;rintro⟨⟨a,b⟩,h,e⟩;cases e;exact List.mem_zipIdx_iff_getElem?.mp h;intro h;exact⟨(w,k),List.mem_zipIdx_iff_getElem?.mpr h,rfl⟩
noncomputable def Cd (ss:List Bf) (ord:A') (x m:As):Bool:=dec ((Eu ss x,Eu ss m)∈ord)
variable {ss:List Bf}
def Y1(h:∀x,(x,x)∉ord)(m:As):Cd ss ord m m=false:=Ga (h _)
theorem SE(ss:List Bf)(ord:A'):∀(a b:List As),AL (Cd ss ord) a b=Cv ss ord a b
 |x::s,m::t=>by
   show(if x=m then _ else Cd ss ord x m)=_
   by_cases e:x=m;subst e;rw[Au rfl,VG];exact SE ss ord s t;rw[At e,VH ss ord s t e];rfl
 |[],m=>by rw[Ss ss ord (.inl rfl)];rfl
 |_::_,[]=>by rw[Ss ss ord (.inr rfl)];rfl
def JC(h:∀x,(x,x)∉ord):gat (Cd ss ord) (A7 l) [] w=[]↔∀v∈l,Cv ss ord v w=false:=by
 constructor;intro e v b;obtain⟨k,d⟩:=List.mem_iff_getElem?.mp b
 cases a:Cv ss ord v w with
 |false=>rfl
 |true =>
   obtain⟨j,c,_⟩:=YV (VV l) (Ds.mpr d) (by rw[SE];exact a);rw[e] at c;cases c
 intro f
 cases e:gat (Cd ss ord) (A7 l) [] w with
 |nil=>rfl
 |cons k g =>
   exfalso;obtain⟨v,b,a⟩:=VO (VV l) (Y1 h) w [] k (by rw[e];simp);rw[List.nil_append,SE] at a;rw[f v (List.mem_iff_getElem?.mpr ⟨k,Ds.mp b⟩)] at a;cases a
noncomputable def Dj (ss:List Bf) (ord:A') (all l:List (List As)):List (List As):=l.filter λw=>!all.any λv=>Cv ss ord v w
def SG{all:List (List As)}(h:l[i]?=some w):Dj ss ord all (l.take (i+1))=if(all.any λv=>Cv ss ord v w)=true then Dj ss ord all (l.take i) else Dj ss ord all (l.take i)++[w]:=by
 unfold Dj;rw[D7,h,QK];show _++List.filter _ [w]=_;rw[QJ]
 cases all.any λv=>Cv ss ord v w with
 |true=>rw[Au rfl];simp
 |false=>simp
def SI{all:List (List As)}:(Dj ss ord all l).length<=l.length:=QL _ _
def CJ{ks:List Nat}:Px (ks.map λk:Nat=>(k:Int))=.non↔ks=[]:=by
 cases ks with
 |nil=>exact⟨λζ=>rfl,λζ=>rfl⟩
 |cons k ks=>exact⟨λh=>(nomatch h),λh=>(nomatch h)⟩
def Pz(h:∀x,(x,x)∉ord):gat (Cd ss ord) (A7 l) [] w=[]↔(l.any λv=>Cv ss ord v w)=false:=by
 rw[JC h,List.any_eq_false];exact⟨λz v a=>by rw[z v a];simp,λz v a=>by have:=z v a;simpa using this⟩
variable {σ:St}
def SJ{f:List Nat}{g:TG}{tc:TT}{te:TE}{Q:Addr->Hp->Prop}{lo:Int}(Pv:Addr->Nat->List V->Hp->Prop)
 (h:∀D,U D=none->Pv D 0 [] (upd U D (.lst [])))
 (j:∀(D:Addr)(i:Nat)(ys:List V)(Y:Hp)(R:VK)(c:Hp->Prop),U D=none->i<n->Pv D i ys Y->(∀y d,d D=some (.lst ys)->ys.length<sizeLine->Pv D (i+1) (ys++[y]) (upd d D (.lst (ys++[y])))->R y d)->(∀a,Pv D (i+1) ys a->c a)->g (.int (lo+i)) (FP k f σ) Y λσ4 l=>tc σ4 l λb a=>if b=true then te σ4 a R else c a)
 (hd:∀D ys Y,U D=none->Pv D n ys Y->Q D Y):Ku (MO lo n) k f g tc te σ U Q:=NO n Pv h (λD i ys Y p e=>e) (λD ys Y p=>AG _) (λD i ys Y x q R c m e p y k o=>by obtain⟨rfl,rfl⟩:=y;exact j D i ys _ R c m e p k o) hd
section
variable {prog:Program} {w:World} {A:Around} {E:I'} {s:Shared}
theorem PB{j p:Addr}{vs:Array Value}{y:Value}{Q:I'}(c:s.heap.IsTupleIter j p k)(d:s.heap.IsTuple p vs)(e:vs[k]?=some y)
 (q:∀g,g.IsTupleIter j p (k+1)->Heap.SameBut j s.heap g->Q y {s with heap:=g}):wpAny (model prog w) A (Builtin.SmallTypes.nextOf (.ref j)) Q E s:=by
 obtain⟨l,b,f,a⟩:=id c;obtain⟨m,h,_,_,i⟩:=d;unfold Builtin.SmallTypes.nextOf;refine Ad (wpAny_callSpecial?_slot (name:=Str.ofString "__next__") c.typeIs F.slot_tuple_iterator_next (wpAny_call_entry F.slot_tuple_iterator_next c.typeIs F.entry_tuple_iterator_next ?_ (F.args_tuple_iterator_next_1 _)))
 show wpAny _ _ (field (.ref j) 0 >>= _) _ _ s;refine Ad (wpAny_field b a (x:=.ref p) rfl ?_);show wpAny _ _ (if(Value.ref p==Value.none)=true then _ else _) _ _ s;rw[At (show ¬((Value.ref p==Value.none)=true) from Df)];show wpAny _ _ (field (.ref j) 1 >>= _) _ _ s;refine Ad (wpAny_field b a (x:=.int k 0) rfl ?_);show wpAny _ _ (seqItems? (.ref p) >>= _) _ _ s;refine Ad (Gw h i ?_);simp only[Bl,e];refine Ad (wpAny_setField b a (by simp) (Az ⟨y,rfl,Az (q _ ⟨_,Heap.get?_update_self _ b (Obj.isFreed_of_fields (Obj.data_mapFields a _)),(Obj.cls_mapFields ..).trans f,by rw[Obj.data_mapFields a];simp[rawInt]⟩ (Heap.SameBut.update ..))⟩))
theorem SK{j p:Addr}{vs:Array Value}{Q:I'}(e:A.handled=none)(b:s.heap.IsTupleIter j p k)(f:s.heap.IsTuple p vs)(h:vs[k]?=none)
 (q:∀g x,Heap.ExtBut j s.heap g->(∃o,g.get? x=some o/\o.cls=.type "StopIteration")->E (.ref x) {s with heap:=g}):wpAny (model prog w) A (Builtin.SmallTypes.nextOf (.ref j)) Q E s:=by
 obtain⟨n,c,r,d⟩:=id b;obtain⟨t,i,_,_,l⟩:=f;unfold Builtin.SmallTypes.nextOf;refine Ad (wpAny_callSpecial?_slot (name:=Str.ofString "__next__") b.typeIs F.slot_tuple_iterator_next (wpAny_call_entry F.slot_tuple_iterator_next b.typeIs F.entry_tuple_iterator_next ?_ (F.args_tuple_iterator_next_1 _)))
 show wpAny _ _ (field (.ref j) 0 >>= _) _ _ s;refine Ad (wpAny_field c d (x:=.ref p) rfl ?_);show wpAny _ _ (if(Value.ref p==Value.none)=true then _ else _) _ _ s;rw[At (show ¬((Value.ref p==Value.none)=true) from Df)];show wpAny _ _ (field (.ref j) 1 >>= _) _ _ s;refine Ad (wpAny_field c d (x:=.int k 0) rfl ?_);show wpAny _ _ (seqItems? (.ref p) >>= _) _ _ s;refine Ad (Gw i l ?_);simp only[Bl,h];refine Ad (Iu (Ad (wpAny_setField c d (by simp) ?_)))
 show wpAny _ _ (newExc (.type "StopIteration") [] >>= _) _ _ _
 refine Ad ?_;simp only[newExc,newTuple];refine Ad (wpAny_newObj_type (Ad (m:=firstArgMember _ _) (wpAny_of_eq (a:=Value.none) (by first|rfl|(simp only[firstArgMember];rfl)) (wpAny_newObj_type ?_ (by size_fits)))) (by size_fits));simp only[raiseNew];refine Ad (wpAny_handled ?_)
 first|rw[show A.in1.handled=none from e]|rw[e]
 exact Ad (Az (wpAny_throw (q _ _ (((Heap.SameBut.update ..).extBut.push _).push _) ⟨_,Cp _ rfl,rfl⟩)))
end
variable {prog:Program}
def HP{w:World}(c:A.handled=none)(j p:Addr)(d:p≠j)(vs:Array Value):Draws prog w A j [j,p] vs.size (λi v=>vs[i]?=some v) (λi h=>h.IsTupleIter j p i/\h.IsTuple p vs) where
 live _ _ st:=let ⟨o,e,_⟩:=st.1;⟨o,e⟩
 frame _ _ _ st k:=by
  obtain⟨⟨o,f,l⟩,u,m,n⟩:=st;exact⟨⟨o,k j (by simp) _ f,l⟩,u,k p (by simp) _ m,n⟩
 item i s Q E a st q:=PB st.1 st.2 (y:=vs[i]) (by simp[a]) λg r b=>q _ g s.toks (by simp[a]) ⟨r,st.2.extBut b.extBut d⟩ b
 done s Q E st q:=SK c st.1 st.2 (by simp) q
set_option tactic.hygienic true in
def Y2(p:Addr)(vs:Array Value)(n:Nat)(dct:Option Addr)(e:Array (Option Value)) :
 Meets (Builtin.«enumerate.__new__» ⟨[.type "enumerate",.ref p],[]⟩) (λζ R s=>s.heap.get? p=some {cls:=.type "tuple",dict:=dct,data:=.seq vs n,slots:=e}/\R (.ok (.ret (.ref (s.heap.push {cls:=.type "tuple_iterator",data:=.fields #[.ref p,.int 0 0]}).objs.size))) {s with heap:=(s.heap.push {cls:=.type "tuple_iterator",data:=.fields #[.ref p,.int 0 0]}).push {cls:=.type "enumerate",data:=.fields #[.none,.bool false,.ref s.heap.objs.size,rawInt 0,.none,.none]}}):=
 .of_wp λprog w A R s h=>by
  obtain⟨f,g,d,i,j⟩:=s;obtain⟨a,h⟩:=h;have l:=sub_enumerate;have b:Heap.IsTuple (Shared.heap ⟨f,g,d,i,j⟩) p vs:=⟨_,a,rfl,n,rfl⟩
  wp_walk using AutoSeq1.wpAny_loadPart' a
  refine wpAny_stack_any λk=>Az ?_;split;rename_i c _ _ _ _ _;cases(c==Value.type "enumerate")<;>(wp_walk using AutoSeq1.wpAny_loadPart' a,wpAny_pyIter_tuple b;exact⟨_,rfl,h⟩)
  wp_walk using AutoSeq1.wpAny_loadPart' a,wpAny_pyIter_tuple b
  exact⟨_,rfl,h⟩
variable {E Q:I'}{s:Shared}
theorem Y3{w:World}{p:Addr}{vs:Array Value}(i:s.heap.IsTuple p vs)
 (h:∀g,IsEnum g (s.heap.objs.size+1) s.heap.objs.size 0 .none->g.IsTupleIter s.heap.objs.size p 0->g.objs.size=s.heap.objs.size+2->(∀b o,s.heap.get? b=some o->g.get? b=some o)->Q (.ref (s.heap.objs.size+1)) {s with heap:=g}) :
 wpAny (model prog w) A (call (.type "enumerate") [.ref p]) Q E s:=by
 obtain⟨⟨c,dct,dt,j⟩,k,a,n,hd⟩:=i
 replace a:c=.type "tuple" :=a
 replace hd:dt=.seq vs n:=hd
 subst a hd;refine callType_new F.called_enumerate (by decide) (F.typeCall_enumerate_1 _) (F.newCall_enumerate_1 _) (λl=>F.args_object_init_2 l _) F.entry_enumerate_new (Y2 p vs n dct j) ⟨k,?_⟩;have d:(s.heap.push {cls:=.type "tuple_iterator",data:=.fields #[.ref p,.int 0 0]}).objs.size=s.heap.objs.size+1:=Heap.size_push ..;show _/\_;rw[d]
 have f:IsEnum ((s.heap.push {cls:=.type "tuple_iterator",data:=.fields #[.ref p,.int 0 0]}).push {cls:=.type "enumerate",data:=.fields #[.none,.bool false,.ref s.heap.objs.size,rawInt 0,.none,.none]}) (s.heap.objs.size+1) s.heap.objs.size 0 .none:=by
  have e:=Cp (s.heap.push {cls:=.type "tuple_iterator",data:=.fields #[.ref p,.int 0 0]}) (o:={cls:=.type "enumerate",data:=.fields #[.none,.bool false,.ref s.heap.objs.size,rawInt 0,.none,.none]}) rfl
  rwa [d] at e
 exact⟨⟨_,f,rfl⟩,h _ f ⟨_,Bo _ (Cp _ rfl),rfl,rfl⟩ (by rw[Heap.size_push,d]) λb o x=>Bo _ (Bo _ x)⟩
section
variable {X:Cx}
def JD (K:Aj):V->List V->Hp->VK->Prop:=λx vs H Q=>∃(n:Nat)(d:Dt)(ds:List Dt)(a:Addr)(us:List V)(y:V),x=.ref a/\vs=[y]/\Af K H a us/\Ai K H us ds/\Aq K H y d/\(∀e∈ds,Di n e d)/\n<=60/\Q (.int (ds.countP λe=>dec (e=d):Nat)) H
theorem VW{pins:B'}{σ:St}{H:Hp}{s:Shared}(I:Inv X pins σ H s){d:Dt}:∀{vs:List V}{c:List Value}{a:List Dt},Ax vs c->Ai X.K H vs a->c.countP (λy=>dec (∃u,RelV u y/\Aq X.K H u d))=a.countP λe=>dec (e=d)
 |_,_,_,.nil,.nil=>rfl
 |_,_,_,.cons b r,.cons te t=>by
   rw[List.countP_cons,List.countP_cons,VW I r t];congr 1
   have e:dec (∃u,RelV u _/\Aq X.K H u d)=dec (_=d):=Kv ⟨λ⟨i,g,h⟩=>by
    have f:=b.inj g;subst f
    exact Aq.inj I te h,λz=>⟨_,b,z▸te⟩⟩
   rw[e]
theorem Y4(C:X.A.units+64<cLine):MQ X "list.count" (JD X.K):=by
 intro L s σ H x E v G Q I i j h;obtain⟨n,d,k,a,ws,y,rfl,rfl,l,t,D,o,J,q⟩:=h;cases i;obtain⟨u,rfl,w⟩:=Gh j;obtain⟨b,r,p,_⟩:=I.list l;obtain⟨z,K⟩:=R6 (A:=X.A.in1) I r t o D w (by rw[Hd];lia);obtain⟨⟨c,dct,dt,B⟩,g,f,m,hd⟩:=p.isList
 replace f:c=.type "list" :=f
 replace hd:dt=.seq b.toArray m:=hd
 subst f hd;refine call_meets F.slot_list_count ⟨_,g,rfl⟩ F.entry_list_count (F.args_list_count_2 _ _) (PySem.SeqAt.list_countAt a b.toArray m dct B u (λy=>dec (∃u,RelV u y/\Aq X.K H u d))) ⟨g,z,?_⟩;refine⟨.int (k.countP λe=>dec (e=d):Nat),H,I.tok _,?_,q⟩;rw[show b.toArray.toList=b from rfl,VW I r t];exact⟨_,rfl⟩
end
section
variable {prog:Program} {w:World} {A:Around} {E:I'} {s:Shared}
def Y5{z a o i j p q:Addr}{m:Nat}{xs ys:Array Value}{x y u v:Value}(D:ZipApart z a o i j p q)(B:IsZip s.heap z a o .none)(ea:IsPair s.heap a (.ref i) (.ref j))(eo:IsPair s.heap o u v)
 (ei:s.heap.IsTupleIter i p k) (ej:s.heap.IsTupleIter j q m) (tp:s.heap.IsTuple p xs) (tq:s.heap.IsTuple q ys) (hx:xs[k]?=some x) (hy:ys[m]?=some y)
 (ah:∀g,IsZip g z a o (rawInt s.heap.objs.size)->IsPair g o x y->g.IsTupleIter i p (k+1)->g.IsTupleIter j q (m+1)->IsPair g s.heap.objs.size x y->g.objs.size=s.heap.objs.size+1->(∀c d,c≠z->c≠o->c≠i->c≠j->s.heap.get? c=some d->g.get? c=some d)->Q (.ref s.heap.objs.size) {s with heap:=g}) :
 wpAny (model prog w) A (Builtin.«zip.__next__» ⟨[.ref z],[]⟩) (λf t=>∃v,f=.done (.ret v)/\Q v t) E s:=by
 show wpAny _ _ (field (.ref z) 2 >>= _) _ _ _;refine Ad (wpAny_field B rfl (x:=.bool false) rfl ?_);show wpAny _ _ (field (.ref z) 3 >>= _) _ _ _;refine Ad (wpAny_field B rfl (x:=.ref a) rfl (Ad (Gw ea rfl ?_)));show wpAny _ _ (Builtin.SmallTypes.ownedTupleIsFree (.ref z) >>= _) _ _ _;refine Ad ?_;unfold Builtin.SmallTypes.ownedTupleIsFree;refine Ad (wpAny_field B rfl (x:=.none) rfl (Az ?_));simp only[if_true];refine Ad (Iu (Ad (wpAny_field B rfl (x:=.ref o) rfl (Ad (wpAny_setField_rec B (by simp) λaa M h=>?_)))))
 replace M:IsZip aa z a o .ellipsis:=M
 refine Ad ?_;simp only[List.zipIdx_cons,List.zipIdx_nil,List.forIn_cons,List.forIn_nil];refine Ad (Ad (wpAny_onRaise ?_));show wpAny _ _ (Builtin.SmallTypes.nextOf (.ref i) >>= _) _ _ _;refine Ad (PB (ei.extBut h.extBut D.i1z) (tp.extBut h.extBut D.l1z) hx λab i2 l=>Az ?_);have U:IsPair ab o u v:=l.extBut _ _ D.TOi1 (h.extBut _ _ D.TOz eo);refine Ad (Gw U rfl (Ad (wpAny_updateSeq_pair U λae N r=>Ad (wpAny_letGo (Az ?_)))))
 replace N:IsPair ae o x v:=N
 refine Ad (Ad (wpAny_onRaise ?_));show wpAny _ _ (Builtin.SmallTypes.nextOf (.ref j) >>= _) _ _ _;refine Ad (PB (((ej.extBut h.extBut D.i2z).extBut l.extBut D.i12.symm).extBut r.extBut D.TOi2.symm) (((tq.extBut h.extBut D.l2z).extBut l.extBut D.l2i1).extBut r.extBut D.l2TO) hy λg4 j4 C=>Az ?_);have V:IsPair g4 o x v:=C.extBut _ _ D.TOi2 N;refine Ad (Gw V rfl (Ad (wpAny_updateSeq_pair V λb H F=>Ad (wpAny_letGo (Az (Az ?_))))))
 replace H:IsPair b o x y:=H
 refine Ad (Gw H rfl (Ad (wpAny_newTuple ?_)));have sz:b.objs.size=s.heap.objs.size:=(by rw[F.1,C.1,r.1,l.1,h.1]);have W:IsZip b z a o .ellipsis:=F.extBut _ _ D.TOz.symm (C.extBut _ _ D.i2z.symm (r.extBut _ _ D.TOz.symm (l.extBut _ _ D.i1z.symm M)));have k5:∀c d,c≠z->c≠o->c≠i->c≠j->s.heap.get? c=some d->b.get? c=some d:=λc d I J O P e=>F.extBut _ _ J (C.extBut _ _ P (r.extBut _ _ J (l.extBut _ _ O (h.extBut _ _ I e))));have i5:b.IsTupleIter i p (k+1):=((i2.extBut r.extBut D.TOi1.symm).extBut C.extBut D.i12).extBut F.extBut D.TOi1.symm;have j5:b.IsTupleIter j q (m+1):=j4.extBut F.extBut D.TOi2.symm;have X:z<b.objs.size:=Bh W;show wpAny _ _ (Builtin.SmallTypes.ownedTupleHandOut (.ref z) (.ref b.objs.size) >>= _) _ _ _;refine Ad ?_;unfold Builtin.SmallTypes.ownedTupleHandOut;have z6:IsZip (b.push {cls:=.type "tuple",data:=.seq #[x,y]}) z a o .ellipsis:=Bo _ W;refine Ad (wpAny_setField_rec z6 (by simp) λg7 R S=>?_)
 replace R:IsZip g7 z a o (rawInt b.objs.size):=R
 refine wpAny_setField_rec R (by simp) λG K T=>?_
 replace K:IsZip G z a o (rawInt b.objs.size):=K
 have L:∀c d,c≠z->b.get? c=some d->G.get? c=some d:=λc d n e=>T.extBut _ _ n (S.extBut _ _ n (Bo _ e));have Y:IsPair G b.objs.size x y:=T.extBut _ _ (Nat.ne_of_gt X) (S.extBut _ _ (Nat.ne_of_gt X) (Cp _ rfl));have Z:G.objs.size=b.objs.size+1:=(by rw[T.1,S.1,Heap.size_push]);rw[sz] at K Y Z;refine Az ⟨_,rfl,?_⟩;show Q (.ref b.objs.size) _;rw[sz];obtain⟨oi,e1,e2⟩:=i5;obtain⟨oj,af,ag⟩:=j5;exact ah G K (L _ _ D.TOz H) ⟨oi,L _ _ D.i1z e1,e2⟩ ⟨oj,L _ _ D.i2z af,ag⟩ Y Z λc d I J O P e=>L c d I (k5 c d I J O P e)
def Y6{z a o i j p q:Addr}{m:Nat}{xs ys:Array Value}{u v:Value}{Q:PySem.Fin->Shared->Prop}(J:A.handled=none)(D:ZipApart z a o i j p q)(r:IsZip s.heap z a o .none)(U:IsPair s.heap a (.ref i) (.ref j))(V:IsPair s.heap o u v)
 (K:s.heap.IsTupleIter i p k) (W:s.heap.IsTupleIter j q m) (L:s.heap.IsTuple p xs) (X:s.heap.IsTuple q ys) (aa:xs[k]?=none\/ys[m]?=none)
 (T:∀g e,(∀c d,c≠z->c≠o->c≠i->c≠j->s.heap.get? c=some d->g.get? c=some d)->(∃d,g.get? e=some d/\d.cls=.type "StopIteration")->E (.ref e) {s with heap:=g}) :
 wpAny (model prog w) A (Builtin.«zip.__next__» ⟨[.ref z],[]⟩) Q E s:=by
 show wpAny _ _ (field (.ref z) 2 >>= _) _ _ _;refine Ad (wpAny_field r rfl (x:=.bool false) rfl ?_);show wpAny _ _ (field (.ref z) 3 >>= _) _ _ _;refine Ad (wpAny_field r rfl (x:=.ref a) rfl (Ad (Gw U rfl ?_)));show wpAny _ _ (Builtin.SmallTypes.ownedTupleIsFree (.ref z) >>= _) _ _ _;refine Ad ?_;unfold Builtin.SmallTypes.ownedTupleIsFree;refine Ad (wpAny_field r rfl (x:=.none) rfl (Az ?_));simp only[if_true];refine Ad (Iu (Ad (wpAny_field r rfl (x:=.ref o) rfl (Ad (wpAny_setField_rec r (by simp) λY C b=>?_)))))
 replace C:IsZip Y z a o .ellipsis:=C
 refine Ad ?_;simp only[List.zipIdx_cons,List.zipIdx_nil,List.forIn_cons,List.forIn_nil];refine Ad (Ad (wpAny_onRaise ?_));show wpAny _ _ (Builtin.SmallTypes.nextOf (.ref i) >>= _) _ _ _
 cases F:xs[k]? with
 |none =>
   refine Ad (SK J (K.extBut b.extBut D.i1z) (L.extBut b.extBut D.l1z) F λG e f H=>?_);obtain⟨d,l,y⟩:=H;have M:IsZip G z a o .ellipsis:=f _ _ D.i1z.symm C;have ne:e≠z:=λt=>by subst t;rw[M] at l;cases l;simp at y
   exact wpAny_setField_rec M (by simp) λN ζ n=>T N e (λc d B ζ I ζ t=>n.extBut _ _ B (f _ _ I (b.extBut _ _ B t))) ⟨d,n.extBut _ _ ne l,y⟩
 |some x =>
   have Z:ys[m]?=none:=by
    rcases aa with h|h;rw[F] at h;cases h;exact h
   refine Ad (PB (K.extBut b.extBut D.i1z) (L.extBut b.extBut D.l1z) F λG i2 f=>Az ?_);have O:IsPair G o u v:=f.extBut _ _ D.TOi1 (b.extBut _ _ D.TOz V);refine Ad (Gw O rfl (Ad (wpAny_updateSeq_pair O λN o3 n=>Ad (wpAny_letGo (Az ?_)))));refine Ad (Ad (wpAny_onRaise ?_));show wpAny _ _ (Builtin.SmallTypes.nextOf (.ref j) >>= _) _ _ _;refine Ad (SK J (((W.extBut b.extBut D.i2z).extBut f.extBut D.i12.symm).extBut n.extBut D.TOi2.symm) (((X.extBut b.extBut D.l2z).extBut f.extBut D.l2i1).extBut n.extBut D.l2TO) Z λg4 e P H=>?_);obtain⟨d,l,y⟩:=H;have R:IsZip g4 z a o .ellipsis:=P _ _ D.i2z.symm (n.extBut _ _ D.TOz.symm (f.extBut _ _ D.i1z.symm C));have ne:e≠z:=λt=>by subst t;rw[R] at l;cases l;simp at y
   exact wpAny_setField_rec R (by simp) λg5 ζ S=>T g5 e (λc d B n2 I n4 t=>S.extBut _ _ B (P _ _ n4 (n.extBut _ _ n2 (f.extBut _ _ I (b.extBut _ _ B t))))) ⟨d,S.extBut _ _ ne l,y⟩
end
abbrev PD (h:Heap) (p:Addr):Heap:=h.push {cls:=.type "tuple_iterator",data:=.fields #[.ref p,.int 0 0]}
abbrev PH (h:Heap) (p q:Addr):Heap:=(PD h p).push {cls:=.type "tuple_iterator",data:=.fields #[.ref q,.int 0 0]}
abbrev PJ (h:Heap) (p q:Addr):Heap:=(PH h p q).push {cls:=.type "tuple",data:=.seq #[.ref h.objs.size,.ref (PD h p).objs.size]}
abbrev PK (h:Heap) (p q:Addr):Heap:=(PJ h p q).push {cls:=.type "tuple",data:=.seq #[.none,.none]}
abbrev LZ (h:Heap) (p q:Addr):Heap:=(PK h p q).push {cls:=.type "zip",data:=.fields #[.none,.bool false,.bool false,.ref (PH h p q).objs.size,.ref (PJ h p q).objs.size]}
def Y7(p q:Addr)(xs ys:Array Value):Meets (Builtin.«zip.__new__» ⟨[.type "zip",.ref p,.ref q],[]⟩) (λζ R s=>s.heap.IsTuple p xs/\s.heap.IsTuple q ys/\R (.ok (.ret (.ref (PK s.heap p q).objs.size))) {s with heap:=LZ s.heap p q}):=
 .of_wp λprog w A R s h=>by
  obtain⟨a,g,d,b,c⟩:=s;obtain⟨e,f,h⟩:=h;have k:=sub_zip;have i:Heap.IsTuple (Shared.heap ⟨a,g,d,b,c⟩) p xs:=e;have j:Heap.IsTuple (Shared.heap ⟨a.push {cls:=.type "tuple_iterator",data:=.fields #[.ref p,.int 0 0]},g,d,b,c⟩) q ys:=Heap.IsTuple.push f _
  wp_walk using wpAny_pyIter_tuple i,wpAny_pyIter_tuple j
  exact⟨_,rfl,h⟩
theorem Y8{w:World}{p q:Addr}{xs ys:Array Value}(m:s.heap.IsTuple p xs)(n:s.heap.IsTuple q ys)
 (h:∀g,IsZip g (s.heap.objs.size+4) (s.heap.objs.size+2) (s.heap.objs.size+3) .none->IsPair g (s.heap.objs.size+2) (.ref s.heap.objs.size) (.ref (s.heap.objs.size+1))->IsPair g (s.heap.objs.size+3) .none .none->g.IsTupleIter s.heap.objs.size p 0->g.IsTupleIter (s.heap.objs.size+1) q 0->g.objs.size=s.heap.objs.size+5->(∀c o,s.heap.get? c=some o->g.get? c=some o)->Q (.ref (s.heap.objs.size+4)) {s with heap:=g}) :
 wpAny (model prog w) A (call (.type "zip") [.ref p,.ref q]) Q E s:=by
 refine callType_new F.called_zip (by decide) (F.typeCall_zip_2 _ _) (F.newCall_zip_2 _ _) (λu=>F.args_object_init_3 u _ _) F.entry_zip_new (Y7 p q xs ys) ⟨m,n,?_⟩;have a:(PD s.heap p).objs.size=s.heap.objs.size+1:=Heap.size_push ..;have b:(PH s.heap p q).objs.size=s.heap.objs.size+2:=(by rw[Heap.size_push,a]);have d:(PJ s.heap p q).objs.size=s.heap.objs.size+3:=(by rw[Heap.size_push,b]);have f:(PK s.heap p q).objs.size=s.heap.objs.size+4:=(by rw[Heap.size_push,d]);have r:(LZ s.heap p q).objs.size=s.heap.objs.size+5:=(by rw[Heap.size_push,f]);have i:(LZ s.heap p q).get? (PK s.heap p q).objs.size=some _:=Cp _ rfl;have j:(LZ s.heap p q).get? (PJ s.heap p q).objs.size=some _:=Bo _ (Cp _ rfl);have k:(LZ s.heap p q).get? (PH s.heap p q).objs.size=some _:=Bo _ (Bo _ (Cp _ rfl));have l:(LZ s.heap p q).get? (PD s.heap p).objs.size=some _:=Bo _ (Bo _ (Bo _ (Cp _ rfl)));have t:(LZ s.heap p q).get? s.heap.objs.size=some _:=Bo _ (Bo _ (Bo _ (Bo _ (Cp _ rfl))));show _/\_;rw[b,d,f] at i;rw[a,b] at k;rw[d] at j;rw[a] at l;rw[f];exact⟨⟨_,i,rfl⟩,h _ i k j ⟨_,t,rfl,rfl⟩ ⟨_,l,rfl,rfl⟩ r λc o e=>Bo _ (Bo _ (Bo _ (Bo _ (Bo _ e))))⟩
section
variable {X:Cx} {pins:B'} {σ:St} {H:Hp} {s:Shared} {h':Heap} {t':Nat} {fp:List Addr}
def Inv.turnL(I:Inv X pins σ H s)(d:∀b∈fp,Dl X pins H b)(keep:∀b o,b∉fp->s.heap.get? b=some o->h'.get? b=some o):Inv X pins σ H {s with heap:=h',toks:=t'}:=by
 have g:∀b u,H b=some u->b∉fp:=λb u e z=>by rw[(d b z).1] at e;cases e
 refine I.step (g':=s.gens) (d':=s.drawn) (ch:=fp) (λb a=>⟨(d b a).2.2.2.1,(d b a).2.1,(d b a).2.2.2.2⟩) (λb o ζ ζ a e ζ=>keep b o a e) (λb o ζ ζ a e ζ=>⟨o.slots,keep b o a e⟩) (λζ ζ ζ ζ n=>n) (λb o a e=>⟨o,keep b o a e⟩) (λζ ζ e=>e) (λζ ζ ζ e=>e) (λb l e=>⟨#[],by rw[e];simp⟩)
  (λm h=>?_) (λb u e=>(I.hok b u e).stay (λc v f q=>keep c v ?_ q) (λζ q=>q) λζ ζ q=>q) I.bare
 obtain⟨o,i,j,k,r⟩:=h;exact⟨o,i,j,keep _ o (λz=>(d _ z).2.1 rfl) k,r⟩;rcases f with rfl|f;exact g _ _ e;exact g _ _ f
def Inv.turnP{a c:Value}{x y:V}(I:Inv X pins σ H s)(d:∀b∈fp,Dl X pins H b)(keep:∀b o,b∉fp->s.heap.get? b=some o->h'.get? b=some o)(ob:∀b∈fp,∃o,s.heap.get? b=some o/\∀v,o.data≠.cell v)
 (f:h'.get? s.heap.objs.size=some {cls:=.type "tuple",data:=.seq #[a,c]}) (i:RelV x a) (j:RelV y c) :
 Inv X pins σ (upd H s.heap.objs.size (.tup [x,y])) {s with heap:=h',toks:=t'}/\H s.heap.objs.size=none/\∀b∈fp,upd H s.heap.objs.size (.tup [x,y]) b=none:=by
 have h:H s.heap.objs.size=none:=I.hok.fresh (AG _);refine⟨(I.turnL (t':=t') d keep).track (I.fpOk (AG _) h) ⟨_,f⟩ ⟨by show 2<=sizeLine;decide,[a,c],.cons i (.cons j .nil),⟨_,f,rfl,_,rfl⟩⟩,h,λb g=>?_⟩;obtain⟨o,e,_⟩:=ob b g;rw[AH (CN (Bh e))];exact(d b g).1
def Inv.newFp(I:Inv X pins σ H s)(a:∀b∈fp,s.heap.objs.size<=b):∀b∈fp,Dl X pins H b:=λb z=>I.fpOk (a b z) (I.hok.fresh (a b z))
end
structure SM where
 sq:Aj->Hp->Addr->List V->Prop
 ent:Aj->Hp->Addr->List V->Prop
 it:Heap->Addr->Addr->Nat->Prop
 is:Heap->Addr->Array Value->Prop
 obj:∀{h:Heap}{i l:Addr}{n:Nat},it h i l n->∃o,h.get? i=some o/\∀v,o.data≠.cell v
 keep:∀{h h':Heap}{i l:Addr}{n:Nat},it h i l n->(∀o,h.get? i=some o->h'.get? i=some o)->it h' i l n
 get:∀{X:Cx}{pins:B'}{σ:St}{H:Hp}{s:Shared}{l:Addr}{xs:List V},Inv X pins σ H s->sq X.K H l xs->∃its:List Value,Ax xs its/\is s.heap l its.toArray/\l<s.heap.objs.size
 uniq:∀{X:Cx}{pins:B'}{σ:St}{H:Hp}{s:Shared}{l:Addr}{xs ys:List V},Inv X pins σ H s->sq X.K H l xs->sq X.K H l ys->xs=ys
 entS:∀{K:Aj}{H:Hp}{l:Addr}{xs:List V},ent K H l xs->sq K H l xs
 zitem:∀{prog:Program}{w:World}{A:Around}{E:I'}{s:Shared}{z a o i j p q:Addr}{k m:Nat}{xs ys:Array Value}{x y u v:Value}{Q:Option Value->Shared->Prop},ZipApart z a o i j p q->IsZip s.heap z a o .none->IsPair s.heap a (.ref i) (.ref j)->IsPair s.heap o u v->it s.heap i p k->it s.heap j q m->is s.heap p xs->is s.heap q ys->xs[k]?=some x->ys[m]?=some y ->
  (∀g,IsZip g z a o (rawInt s.heap.objs.size)->IsPair g o x y->it g i p (k+1)->it g j q (m+1)->IsPair g s.heap.objs.size x y->g.objs.size=s.heap.objs.size+1->(∀c d,c≠z->c≠o->c≠i->c≠j->s.heap.get? c=some d->g.get? c=some d)->Q (some (.ref s.heap.objs.size)) {s with heap:=g})->wpAny (model prog w) A (pyNext (.ref z)) Q E s
 zend:∀{prog:Program}{w:World}{A:Around}{E:I'}{s:Shared}{z a o i j p q:Addr}{k m:Nat}{xs ys:Array Value}{u v:Value}{Q:Option Value->Shared->Prop},A.handled=none->ZipApart z a o i j p q->IsZip s.heap z a o .none->IsPair s.heap a (.ref i) (.ref j)->IsPair s.heap o u v->it s.heap i p k->it s.heap j q m->is s.heap p xs->is s.heap q ys->xs[k]?=none\/ys[m]?=none ->
  (∀g,(∀c d,c≠z->c≠o->c≠i->c≠j->s.heap.get? c=some d->g.get? c=some d)->Q none {s with heap:=g})->wpAny (model prog w) A (pyNext (.ref z)) Q E s
 zcall:∀{prog:Program}{w:World}{A:Around}{E:I'}{s:Shared}{p q:Addr}{xs ys:Array Value}{Q:I'},is s.heap p xs->is s.heap q ys ->
  (∀g,IsZip g (s.heap.objs.size+4) (s.heap.objs.size+2) (s.heap.objs.size+3) .none->IsPair g (s.heap.objs.size+2) (.ref s.heap.objs.size) (.ref (s.heap.objs.size+1))->IsPair g (s.heap.objs.size+3) .none .none->it g s.heap.objs.size p 0->it g (s.heap.objs.size+1) q 0->g.objs.size=s.heap.objs.size+5->(∀c o,s.heap.get? c=some o->g.get? c=some o)->Q (.ref (s.heap.objs.size+4)) {s with heap:=g})->wpAny (model prog w) A (call (.type "zip") [.ref p,.ref q]) Q E s
 eitem:∀{prog:Program}{w:World}{A:Around}{E:I'}{s:Shared}{e j l:Addr}{i:Nat}{xs:Array Value}{x old:Value}{Q:Option Value->Shared->Prop},A.handled=none->e≠j->e≠l->l≠j->IsEnum s.heap e j i old->it s.heap j l i->is s.heap l xs->xs[i]?=some x ->
  (∀g tk,IsEnumOut g e j ((i:Int)+1) x s.heap.objs.size->it g j l (i+1)->g.get? s.heap.objs.size=some {cls:=.type "tuple",data:=.seq #[.int i tk,x]}->(∀b o,b≠e->b≠j->s.heap.get? b=some o->g.get? b=some o)->Q (some (.ref s.heap.objs.size)) {s with heap:=g,toks:=tk+1})->wpAny (model prog w) A (pyNext (.ref e)) Q E s
 eend:∀{prog:Program}{w:World}{A:Around}{E:I'}{s:Shared}{e j l:Addr}{xs:Array Value}{old:Value}{Q:Option Value->Shared->Prop},A.handled=none->l≠j->IsEnum s.heap e j xs.size old->it s.heap j l xs.size->is s.heap l xs->(∀g,Heap.ExtBut j s.heap g->Q none {s with heap:=g})->wpAny (model prog w) A (pyNext (.ref e)) Q E s
 ecall:∀{X:Cx}{pins:B'}{σ:St}{H:Hp}{s:Shared}{A:Around}{E:I'}{l:Addr}{xs:List V}{Q:I'},Inv X pins σ H s->ent X.K H l xs ->
  (∀g,IsEnum g (s.heap.objs.size+1) s.heap.objs.size 0 .none->it g s.heap.objs.size l 0->g.objs.size=s.heap.objs.size+2->(∀b o,s.heap.get? b=some o->g.get? b=some o)->Q (.ref (s.heap.objs.size+1)) {s with heap:=g})->wpAny (model X.prog X.w) A (call (.type "enumerate") [.ref l]) Q E s
def LK:SM where
 sq:=Af
 ent:=λζ H l xs=>H l=some (.lst xs)
 it:=Heap.IsListIter
 is:=Heap.IsList
 obj:=λ⟨o,e,_,d⟩=>⟨o,e,λv q=>by rw[d] at q;cases q⟩
 keep:=λh k=>h.at k
 get:=λI h=>let ⟨its,r,p,_⟩:=I.list h;⟨its,r,p.isList,let ⟨_,e,_⟩:=p.isList;Bh e⟩
 uniq:=λI h h'=>I.list_inj h h'
 entS:=Af.of
 zitem:=wpAny_pyNext_zip_item
 zend:=wpAny_pyNext_zip_end
 zcall:=call_zip_2
 eitem:=λζ n1 ζ ζ he hi hl hx q=>wpAny_pyNext_enum_item he hi hl hx n1 λg a b c ζ k=>q g _ a b c k
 eend:=λhh ζ he hi hl q=>wpAny_pyNext_enum_end hh he hi hl (by simp) q
 ecall:=λI hq q=>let ⟨_,_,_,_,e⟩:=I.hok _ _ hq;call_enumerate_1 e q
def TK:SM where
 sq:=Al
 ent:=Al
 it:=Heap.IsTupleIter
 is:=Heap.IsTuple
 obj:=λ⟨o,e,_,d⟩=>⟨o,e,λv q=>by rw[d] at q;cases q⟩
 keep:=λ⟨o,e,r⟩k=>⟨o,k o e,r⟩
 get:=λI h=>let ⟨its,r,p,_⟩:=I.tuple h;⟨its,r,p,let ⟨_,e,_⟩:=p;Bh e⟩
 uniq:=λI h h'=>I.tuple_inj h h'
 entS:=id
 zitem:=λ{_ _ _ _ s z _ _ _ _ _ _ _ _ _ _ _ _ _ _ _}D ez ea eo ei ej tp tq hx hy fin=>by
  have tz:s.TypeIs (.ref z) "zip" :=⟨_,ez,rfl⟩;unfold pyNext;exact Ad (wpAny_attempt (wpAny_callSpecial?_slot (name:=Str.ofString "__next__") tz F.slot_zip_next (wpAny_call_entry F.slot_zip_next tz F.entry_zip_next (Y5 D ez ea eo ei ej tp tq hx hy λg a1 a2 a3 a4 a5 a6 a7=>Az (fin g a1 a2 a3 a4 a5 a6 a7)) (F.args_zip_next_1 _))))
 zend:=λ{_ _ _ _ s z _ _ _ _ _ _ _ _ _ _ _ _ _}hh D ez ea eo ei ej tp tq hend fin=>by
  have tz:s.TypeIs (.ref z) "zip" :=⟨_,ez,rfl⟩;unfold pyNext;refine Ad (wpAny_attempt (wpAny_callSpecial?_slot (name:=Str.ofString "__next__") tz F.slot_zip_next (wpAny_call_entry F.slot_zip_next tz F.entry_zip_next (Y6 hh D ez ea eo ei ej tp tq hend λg e hk he=>?_) (F.args_zip_next_1 _))));obtain⟨d,h1,h2⟩:=he;exact Ad (wpAny_isInstance (T:= "StopIteration") (b:=true) ⟨d,h1,h2⟩ isSubtype_stop (Az (fin _ hk)))
 zcall:=Y8
 eitem:=λ{_ _ A _ _ e j l i xs x _ _}hh n1 n2 n3 he hi hl hx q=>by
  refine wpAny_pyNext_enum_itemD (HP (A:=A.in1) hh j l n3 xs) he ⟨hi,hl⟩ (Array.getElem?_eq_some_iff.mp hx).1 n1 (by simp;exact⟨n1,n2⟩) λy g tk hy a b c ζ k=>?_;rw[hx] at hy;cases hy;exact q g tk a b.1 c k
 eend:=λ{_ _ A _ _ _ j l xs _ _}hh n3 he hi hl q=>wpAny_pyNext_enum_endD (HP (A:=A.in1) hh j l n3 xs) he ⟨hi,hl⟩ q
 ecall:=λI hq q=>let ⟨_,_,p,_⟩:=I.tuple hq;Y3 p q
section
variable (k:SM)
def HQ (K:Aj) (f C:Addr):It:=
 ⟨λi H=>∃xs ys x y,k.sq K H f xs/\k.sq K H C ys/\xs[i]?=some x/\ys[i]?=some y,
  λi H v H'=>∃T x y,H T=none/\v=.ref T/\H'=upd H T (.tup [x,y])/\(∀xs,k.sq K H f xs->xs[i]?=some x)/\∀ys,k.sq K H C ys->ys[i]?=some y,
  λi H=>∃xs ys,k.sq K H f xs/\k.sq K H C ys/\(xs.length<=i\/ys.length<=i)⟩
def Ob (z TI TO i1 i2 f C:Addr) (i:Nat) (h:Heap):Prop:=IsZip h z TI TO .none/\IsPair h TI (.ref i1) (.ref i2)/\(∃a b,IsPair h TO a b)/\k.it h i1 f i/\k.it h i2 C i
def L0 (K:Aj) (l:Addr):It:=
 ⟨λi H=>∃xs x,k.sq K H l xs/\xs[i]?=some x,
  λi H v H'=>∃T x,H T=none/\v=.ref T/\H'=upd H T (.tup [.int i,x])/\∀xs,k.sq K H l xs->xs[i]?=some x,
  λi H=>∃xs,k.sq K H l xs/\xs.length=i⟩
def Oc (e it l:Addr) (i:Nat) (h:Heap):Prop:=(∃old,IsEnum h e it i old)/\k.it h it l i
variable {k}
variable {f C:Addr}
def VX{z TI TO d e:Addr}{h:Heap}(st:Ob k z TI TO d e f C i h):∀b∈[z,TI,TO,d,e],∃o,h.get? b=some o/\∀v,o.data≠.cell v:=λb g=>by
 obtain⟨j,n,⟨a,c,p⟩,l,m⟩:=st;simp at g;rcases g with rfl|rfl|rfl|rfl|rfl;exact⟨_,j,λv q=>by cases q⟩;exact⟨_,n,λv q=>by cases q⟩;exact⟨_,p,λv q=>by cases q⟩;exact k.obj l;exact k.obj m
def VY{a l:Addr}{h:Heap}(st:Oc k e a l i h):∀b∈[e,a],∃o,h.get? b=some o/\∀v,o.data≠.cell v:=λb c=>by
 obtain⟨⟨g,d⟩,f⟩:=st;simp at c;rcases c with rfl|rfl;exact⟨_,d,λv q=>by cases q⟩;exact k.obj f
variable {P:Program} {w:World} {K:Aj} {es:List Expr} {Z:Nat} {L:Pos}
def Y9{z TI TO r t:Addr}(D:ZipApart z TI TO r t f C):FN P w K (.Tuple es Z L) (HQ k K f C) [z,TI,TO,r,t] z (Ob k z TI TO r t f C) where
 mem:=by simp
 obj:=λζ ζ g b d=>VX g b d
 keep:=λi h h' g Z=>by
  obtain⟨j,l,⟨a,c,q⟩,n,p⟩:=g;exact⟨Z z (by simp) _ j,Z TI (by simp) _ l,⟨a,c,Z TO (by simp) _ q⟩,k.keep n λo e=>Z r (by simp) o e,k.keep p λo e=>Z t (by simp) o e⟩
 item:=by
  intro X B F G T i ai s σ H E I M g N;subst B F G;obtain⟨xs,ys,x,y,v,A,U,V⟩:=N;have ob:=VX g;obtain⟨j,l,⟨a,c,q⟩,n,p⟩:=g;obtain⟨aj,Q,O,_⟩:=k.get I v;obtain⟨ak,R,J,_⟩:=k.get I A;obtain⟨W,aa,ab⟩:=Q.get U;obtain⟨Y,ae,af⟩:=R.get V;refine k.zitem D j l q n p O J (x:=W) (y:=Y) (by simpa using aa) (by simpa using ae) λh' a1 a2 a3 a4 a5 a6 u=>?_;refine⟨_,rfl,wpAny_letOwnedTupleGo_zip (s:={s with heap:=h'}) a1 λag al m=>?_⟩;obtain⟨I2,ah,fr⟩:=I.turnP (t':=s.toks) (h':=ag) M (λb o d e=>by simp at d;exact(m.2 b d.1).trans (u b o d.1 d.2.2.1 d.2.2.2.1 d.2.2.2.2 e)) ob ((m.2 _ (Nat.ne_of_gt (Bh j))).trans a5) ab af
  exact⟨.ref s.heap.objs.size,_,I2,rfl,⟨s.heap.objs.size,x,y,ah,rfl,rfl,λzs S=>by rw[k.uniq I S v];exact U,λzs S=>by rw[k.uniq I S A];exact V⟩,
   ⟨al,m.extBut _ _ D.TIz (u _ _ D.TIz D.TITO D.TIi1 D.TIi2 l),⟨W,Y,m.extBut _ _ D.TOz a2⟩,k.keep a3 λo e=>m.extBut _ _ D.i1z e,k.keep a4 λo e=>m.extBut _ _ D.i2z e⟩,fr⟩
 done:=by
  intro X B F G T i ai s σ H E I M g N;subst B F G;obtain⟨xs,ys,v,A,aq⟩:=N;obtain⟨j,l,⟨a,c,q⟩,n,p⟩:=g;obtain⟨aj,Q,O,_⟩:=k.get I v;obtain⟨ak,R,J,_⟩:=k.get I A;have an:=Q.length;have ao:=R.length;exact k.zend (I.ok.hd T) D j l q n p O J (by simp;lia) λh' u=>⟨rfl,I.turnL (t':=s.toks) M λb o d e=>by simp at d;exact u b o d.1 d.2.2.1 d.2.2.2.1 d.2.2.2.2 e⟩
 self:=λζ ζ ζ ζ ζ g h=>wpAny_pyIter_zip g.1 h
def Za{g l:Addr}(G:e≠g)(W:e≠l)(J:l≠g):FN P w K (.Tuple es Z L) (L0 k K l) [e,g] e (Oc k e g l) where
 mem:=by simp
 obj:=λζ ζ a b c=>VY a b c
 keep:=λi h h' a Z=>by
  obtain⟨⟨j,d⟩,f⟩:=a;exact⟨⟨j,Z e (by simp) _ d⟩,k.keep f λo x=>Z g (by simp) o x⟩
 item:=by
  intro X n p q r i ag s σ H E I t a u;subst n p q;obtain⟨B,x,m,C⟩:=u;have N:=VY a;obtain⟨⟨j,d⟩,f⟩:=a;obtain⟨M,z,v,_⟩:=k.get I m;obtain⟨D,Y,aa⟩:=z.get C;refine k.eitem (I.ok.hd r) G W J d f v (x:=D) (by simpa using Y) λh' F O Q R S=>?_;refine⟨_,rfl,wpAny_letOwnedTupleGo_enum (s:={s with heap:=h',toks:=F+1}) O λab ah A=>?_⟩;obtain⟨T,ae,U⟩:=I.turnP (t':=F+1) (h':=ab) (x:=.int i) (y:=x) t (λb o c e=>by simp at c;exact(A.2 b c.1).trans (S b o c.1 c.2 e)) N ((A.2 _ (Nat.ne_of_gt (Bh d))).trans R) ⟨_,rfl⟩ aa;exact⟨.ref s.heap.objs.size,_,T,rfl,⟨s.heap.objs.size,x,ae,rfl,rfl,λzs af=>by rw[k.uniq I af m];exact C⟩,⟨⟨D,by simpa using ah⟩,k.keep Q λo e=>A.extBut _ _ (Ne.symm G) e⟩,U⟩
 done:=by
  intro X n p q r i ag s σ H E I t a u;subst n p q;obtain⟨B,m,rfl⟩:=u;obtain⟨⟨j,d⟩,f⟩:=a;obtain⟨M,z,v,_⟩:=k.get I m;rw[show B.length=M.toArray.size by rw[z.length];simp] at d f;exact k.eend (I.ok.hd r) J d f v λh' V=>⟨rfl,I.turnL (t':=s.toks) t λb o c e=>by simp at c;exact V b o c.2 e⟩
 self:=λζ ζ ζ ζ ζ a h=>by
  obtain⟨⟨j,d⟩,_⟩:=a;exact wpAny_pyIter_enum d h
variable (k)
def L1 (K:Aj) (ta:TA):TI:=λσ H R=>ta σ H λvs U=>∃l,vs=[.ref l]/\(∃xs,k.ent K U l xs)/\R (L0 k K l) U
variable {X:Cx}
def Od{j:Pos}{a:Expr}{d:TA}{p:Pos}(i:Gl X "enumerate")(m:X.mg "enumerate" = none)(n:PA X [a] d)(o:starEach [a] X.env=[(false,eval a X.env)]:=by rfl) :
 PI X (.Tuple es Z j) (.Call (.Name "enumerate" p) [a] [] L) (L1 k X.K d):=by
 intro A s σ H R I h;refine Call_ (Kl I i m (u:=.type "enumerate") (by decide +kernel) (PyProof.Rows.callWith_type1 (AU (n L A s σ H _ I h) λB b⟨C,U,c,r,t⟩=>?_) (by rw[o];rfl) (by rfl)));obtain⟨l,rfl,⟨D,e⟩,q⟩:=t;obtain⟨v,rfl,z⟩:=Gh r;obtain rfl:v=Value.ref l:=z;obtain⟨_,_,_,f⟩:=k.get c (k.entS e);refine k.ecall c e λw g x E y=>?_;refine wpAny_pyIter_enum (s:={b with heap:=w}) g ?_;exact⟨_,[b.heap.objs.size+1,b.heap.objs.size],_,_,U,rfl,c.kept (t':=b.toks) y,Za (Nat.succ_ne_self _) (Nat.ne_of_gt (Nat.lt_succ_of_lt f)) (CN f),⟨⟨_,g⟩,x⟩,c.newFp (by simp),q⟩
variable {k}
def VZ{pins:B'}{a:Shared}{c:Expr}{R:It->Hp->Prop}(e:∃es Z L,c=.Tuple es Z L)(b:Inv X pins σ U a)(g:∃xs,k.sq X.K U f xs)(h:∃ys,k.sq X.K U C ys)(q:R (HQ k X.K f C) U) :
 wpAny (model X.prog X.w) X.A (call (.type "zip") [.ref f,.ref C]) (λv i=>wpAny (model X.prog X.w) X.A (pyIter v) (Rz X pins σ c R) E i) E a:=by
 obtain⟨es,Z,L,rfl⟩:=e;obtain⟨xs,p⟩:=g;obtain⟨ys,r⟩:=h;obtain⟨_,_,j,l⟩:=k.get b p;obtain⟨_,_,J,m⟩:=k.get b r;refine k.zcall j J λn d t u w x y o=>?_;refine wpAny_pyIter_zip (s:={a with heap:=n}) d ?_;exact⟨_,[a.heap.objs.size+4,a.heap.objs.size+2,a.heap.objs.size+3,a.heap.objs.size,a.heap.objs.size+1],_,_,U,rfl,b.kept (t':=a.toks) o,Y9 (zipApart_new l m),⟨d,t,⟨_,_,u⟩,w,x⟩,b.newFp (by simp),q⟩
def Oe (K:Aj) (ta:TA):TI:=λσ H R=>ta σ H λvs U=>∃f C,vs=[.ref f,.ref C]/\(((∃xs,Af K U f xs)/\(∃ys,Af K U C ys)/\R (HQ LK K f C) U)\/((∃xs,Al K U f xs)/\(∃ys,Al K U C ys)/\R (HQ TK K f C) U))
def JE{j:Pos}{a b:Expr}{e:TA}{p:Pos}(l:Gl X "zip")(m:X.mg "zip" = none)(n:PA X [a,b] e)(o:starEach [a,b] X.env=[(false,eval a X.env),(false,eval b X.env)]:=by rfl)(i:starEach [b] X.env=[(false,eval b X.env)]:=by rfl) :
 PI X (.Tuple es Z j) (.Call (.Name "zip" p) [a,b] [] L) (Oe X.K e):=by
 intro A s σ H R I h;refine Call_ (Kl I l m (u:=.type "zip") (by decide +kernel) (PyProof.Rows.callWith_type1 (AU (n L A s σ H _ I h) λB D⟨E,U,g,r,t⟩=>?_) (by rw[o,i]) (by rw[i];rfl)));obtain⟨f,C,rfl,v⟩:=t;obtain⟨w,x,rfl,y,z⟩:=Kr r;obtain rfl:w=Value.ref f:=y;obtain rfl:x=Value.ref C:=z;rcases v with⟨c,d,q⟩|⟨c,d,q⟩;exact VZ (k:=LK) ⟨_,_,_,rfl⟩ g c d q;exact VZ (k:=TK) ⟨_,_,_,rfl⟩ g c d q
variable {g:TG} {tb:TS} {D:Ends} {σ:St} {H:Hp}
variable (k)
def PL{xs ys:List V}(Pv:Nat->St->Hp->Prop)(b:Pv 0 σ H)(a:∀i σ H,Pv i σ H->k.sq K H f xs/\k.sq K H C ys)
 (c:∀i x y T σ H,xs[i]?=some x->ys[i]?=some y->H T=none->Pv i σ H->g (.ref T) σ (upd H T (.tup [x,y])) λσ2 Y=>tb {D with nx:=Pv (i+1),ct:=Pv (i+1),bk:=D.nx} σ2 Y) (hd:∀σ H,Pv (min xs.length ys.length) σ H->D.nx σ H):FO (HQ k K f C) g tb D σ H:=by
 refine Nt (min xs.length ys.length) Pv b (λi σ H p d=>?_) (λσ H p=>⟨xs,ys,(a _ σ H p).1,(a _ σ H p).2,by lia⟩) (λi v σ H H' p d y=>?_) hd;have e:i<xs.length:=(by lia);have h:i<ys.length:=(by lia);exact⟨xs,ys,xs[i],ys[i],(a i σ H p).1,(a i σ H p).2,by simp[e],by simp[h]⟩;obtain⟨T,x,j,l,rfl,rfl,m,n⟩:=y;exact c i x j T σ H (m xs (a i σ H p).1) (n ys (a i σ H p).2) l p
def Of{l:Addr}{xs:List V}(Pv:Nat->St->Hp->Prop)(c:Pv 0 σ H)(a:∀i σ H,Pv i σ H->k.sq K H l xs)
 (d:∀i x T σ H,xs[i]?=some x->H T=none->Pv i σ H->g (.ref T) σ (upd H T (.tup [.int i,x])) λσ2 Y=>tb {D with nx:=Pv (i+1),ct:=Pv (i+1),bk:=D.nx} σ2 Y) (hd:∀σ H,Pv xs.length σ H->D.nx σ H):FO (L0 k K l) g tb D σ H:=by
 refine Nt xs.length Pv c (λi σ H p b=>⟨xs,xs[i],a i σ H p,by simp[b]⟩) (λσ H p=>⟨xs,a _ σ H p,rfl⟩) (λi v σ H H' p b y=>?_) hd;obtain⟨T,x,e,rfl,rfl,f⟩:=y;exact d i x T σ H (f xs (a i σ H p)) e p
end
mutual
inductive Bc (F:Addr->Prop) (H:Hp):V->Dt->Prop where
 | non:Bc F H .non .non
 | bl (b:Bool):Bc F H (.bl b) (.bl b)
 | int (i:Int):Bc F H (.int i) (.int i)
 | str (x:Str):Bc F H (.str x) (.str x)
 | tup {a:Addr} {vs:List V} {ds:List Dt} (h:H a=some (.tup vs)) (t:AC F H vs ds):Bc F H (.ref a) (.tup ds)
 | lst {a:Addr} {vs:List V} {ds:List Dt} (h:H a=some (.lst vs)) (f:F a) (t:AC F H vs ds):Bc F H (.ref a) (.lst ds)
inductive AC (F:Addr->Prop) (H:Hp):List V->List Dt->Prop where
 | nil:AC F H [] []
 | cons {v:V} {d:Dt} {vs:List V} {ds:List Dt} (h:Bc F H v d) (t:AC F H vs ds):AC F H (v :: vs) (d :: ds)
end
mutual
theorem Bc.go {F G:Addr->Prop}{H H':Hp} (e:∀ a vs,H a=some (.tup vs)->H' a=some (.tup vs)) (l:∀ a vs,H a=some (.lst vs)->F a->H' a=some (.lst vs)/\G a) {v:V} {d:Dt} (h:Bc F H v d):Bc G H' v d:=by
 cases h with
 | non=>exact .non
 | bl b=>exact .bl b
 | int i=>exact .int i
 | str x=>exact .str x
 | tup h t=>exact .tup (e _ _ h) (AC.go e l t)
 | lst h f t=>exact .lst (l _ _ h f).1 (l _ _ h f).2 (AC.go e l t)
theorem AC.go {F G:Addr->Prop}{H H':Hp} (e:∀ a vs,H a=some (.tup vs)->H' a=some (.tup vs)) (l:∀ a vs,H a=some (.lst vs)->F a->H' a=some (.lst vs)/\G a) {vs:List V} {b:List Dt} (h:AC F H vs b):AC G H' vs b:=by
 cases h with
 | nil=>exact .nil
 | cons h t=>exact .cons (Bc.go e l h) (AC.go e l t)
end
mutual
theorem Bc.dt {K:Aj}{F:Addr->Prop}{H:Hp}{v:V}{d:Dt} (h:Bc F H v d):Aq K H v d:=by
 cases h with
 | non=>exact .non
 | bl b=>exact .bl b
 | int i=>exact .int i
 | str x=>exact .str x
 | tup h t=>exact .tup (Al.of h) (AC.dts t)
 | lst h f t=>exact .lst (Af.of h) (AC.dts t)
theorem AC.dts {K:Aj}{F:Addr->Prop}{H:Hp}{vs:List V}{a:List Dt} (h:AC F H vs a):Ai K H vs a:=by
 cases h with
 | nil=>exact .nil
 | cons h t=>exact .cons (Bc.dt h) (AC.dts t)
end
section
variable {F G M:Addr->Prop} {H H':Hp} {v:V} {d:Dt} {vs us:List V} {ds es:List Dt}
def Bc.same(s:Ac H H')(h:Bc F H v d):Bc F H' v d:=h.go (λζ ζ q=>s _ _ q) λζ ζ q f=>⟨s _ _ q,f⟩
def AC.same(s:Ac H H')(h:AC F H vs ds):AC F H' vs ds:=h.go (λζ ζ q=>s _ _ q) λζ ζ q f=>⟨s _ _ q,f⟩
def Bc.keeps(k:Keeps M H H')(a:∀x,F x->¬M x)(h:Bc F H v d):Bc F H' v d:=h.go (λζ ζ q=>k.tup q) λζ ζ q f=>⟨k.at_ _ _ q (a _ f),f⟩
def AC.keeps(k:Keeps M H H')(a:∀x,F x->¬M x)(h:AC F H vs ds):AC F H' vs ds:=h.go (λζ ζ q=>k.tup q) λζ ζ q f=>⟨k.at_ _ _ q (a _ f),f⟩
def Bc.mono(e:∀x o,H x=some o->F x->G x)(h:Bc F H v d):Bc G H v d:=h.go (λζ ζ q=>q) λζ ζ q f=>⟨q,e _ _ q f⟩
def AC.mono(e:∀x o,H x=some o->F x->G x)(h:AC F H vs ds):AC G H vs ds:=h.go (λζ ζ q=>q) λζ ζ q f=>⟨q,e _ _ q f⟩
theorem AC.length:∀{vs:List V}{ds:List Dt},AC F H vs ds->vs.length=ds.length
 |_,_,.nil=>rfl
 |_,_,.cons _ t=>by rw[Em,Em,AC.length t]
theorem AC.snoc:∀{vs:List V}{ds:List Dt},AC F H vs ds->Bc F H v d->AC F H (vs++[v]) (ds++[d])
 |_,_,.nil,h=>.cons h .nil
 |_,_,.cons a t,h=>.cons a (AC.snoc t h)
theorem AC.get:∀{vs:List V}{ds:List Dt}{i:Nat}{v:V},AC F H vs ds->vs[i]?=some v->∃d,ds[i]?=some d/\Bc F H v d
 |_,_,i,v,.nil,e=>by simp at e
 |_,_,0,v,.cons a t,e=>by simp at e;subst e;exact⟨_,rfl,a⟩
 |_,_,i+1,v,.cons a t,e=>by
   obtain⟨d,b,c⟩:=AC.get (i:=i) t (by simpa using e);exact⟨d,by simpa using b,c⟩
theorem AC.of_all{α:Type}{f:α->V}{g:α->Dt}:∀{l:List α},(∀x∈l,Bc F H (f x) (g x))->AC F H (l.map f) (l.map g)
 |[],_=>.nil
 |x::l,h=>.cons (h x BF) (AC.of_all λy a=>h y (Cw _ a))
end
theorem SN{α:Type}{f:α->List V}{D:α->Dt}{F:Addr->Prop}{H:Hp}(d:∀(r:α)(t:Addr),H t=some (.tup (f r))->Bc F H (.ref t) (D r)):∀{ts:List Addr}{c:List α},RT f H ts c->AC F H (ts.map V.ref) (c.map D)
 |[],[],_=>.nil
 |[],_::_,h=>by have:=h.len;simp at this
 |_::_,[],h=>by have:=h.len;simp at this
 |t::ts,r::c,h=>.cons (d r t (h.at_ 0 t r rfl rfl)) (SN d ⟨by simpa using h.len,λn a b e g=>h.at_ (n+1) a b (by simpa using e) (by simpa using g)⟩)
variable {F:Addr->Prop}
def HU(r:As)(t:Addr)(h:H t=some (.tup (FT r))):Bc F H (.ref t) (IB r):=.tup h (.cons (.int _) (.cons (.str _) (.cons (.int _) .nil)))
def BW.own{t:Addr}(h:BW F H t w):Bc F H (.ref t) (BV.D w):=by
 obtain⟨d,a,b,c⟩:=h;exact .lst a c (SN HU b)
variable {b:AK}
def DH.own{t:Addr}(h:DH F H t b):Bc F H (.ref t) (Dq.D b):=by
 obtain⟨l,f,a,c,d,e⟩:=h;exact .tup a (.cons (.lst c e (SN HU d)) (.cons (.int _) (.cons (.int _) .nil)))
def IC (ss:List Bf) (m:As):DK:=match ss[m.1.toNat]? with
 |some s=>(match s.2[m.2.2.toNat]? with
   |some p=>p
   |none=>default)
 |none=>default
def PM{s:Bf}{p:DK}(a:m.1=(n:Int))(b:m.2.2=(k:Int))(c:ss[n]?=some s)(d:s.2[k]?=some p):IC ss m=p:=by
 unfold IC;rw[a,b,Bl,Bl,c];dsimp only;rw[d]
def CS (ss:List Bf) (w:List As):DK:=match w.getLast? with
 |some m=>IC ss m
 |none=>default
def Cq (ss:List Bf) (w:List As):Prop:=∃(v:List As)(m:As),w=v++[m]/\Eh ss m/\m.2.1=("told" : Str)
def L3(ss:List Bf)(v:List As)(m:As):CS ss (v++[m])=IC ss m:=by
 unfold CS;rw[List.getLast?_concat]
def GF (W:Wd) (w:List As):Option Int:=if(CS W.ss w).2.2.1=("by" : Str)/\W.as[(CS W.ss w).2.2.2.toNat]?=some none then some (CS W.ss w).2.2.2 else none
def FF (W:Wd):List (List As)->Option Ow
 |[]=>none
 |w::ws=>match GF W w with
   |some q=>some (w,q)
   |none=>FF W ws
def BN (W:Wd) (w:List As):Option Int:=if(CS W.ss w).2.2.1=("thing" : Str) then some (CS W.ss w).2.2.2 else match W.as[(CS W.ss w).2.2.2.toNat]? with
 |some (some p)=>if p.1=("thing" : Str) then some p.2 else none
 |_=>none
noncomputable def FG (ss:List Bf) (ord:A') (ws:List (List As)):List Ow->Option Ow
 |[]=>none
 |o::os=>if(ws.any λv=>Cv ss ord v o.1)=true then FG ss ord ws os else some o
abbrev Wt:Type:=Int×List As×Int
abbrev KG:Option Wt->Dt
 |none=>.non
 |some p=>.tup [.int p.1,BV.D p.2.1,.int p.2.2]
noncomputable def Hh (W:Wd) (ord:A') (ws:List (List As)) (os:List Ow):Option Ow:=match FG W.ss ord ws os with
 |some o=>some o
 |none=>FF W (Dj W.ss ord ws ws)
def Ej (W:Wd) (seen:List (List As)) (at_:Int):Str×Int:=if ∀w∈seen,BN W w=none then("none",at_) else match seen with
 |[]=>("none",at_)
 |w::_=>(match BN W w with
   |some n=>if ∀v∈seen,BN W v=some n then("thing",n) else("torn",at_)
   |none=>("torn",at_))
noncomputable def Cr (W:Wd) (ord:A') (ws:List (List As)) (os:List Ow) (at_:Int):C'×Option Wt:=match Hh W ord ws os with
 |some o=>(none,some (at_,o.1,o.2))
 |none=>(some (Ej W (Dj W.ss ord ws ws) at_),none)
variable {W:Wd}{os:List Ow}{at_:Int}{o:Ow}
def SO{ws:List (List As)}(h:Hh W ord ws os=some o):Cr W ord ws os at_=(none,some (at_,o.1,o.2)):=by unfold Cr;rw[h]
def PP{ws:List (List As)}(h:Hh W ord ws os=none):Cr W ord ws os at_=(some (Ej W (Dj W.ss ord ws ws) at_),none):=by unfold Cr;rw[h]
def Zb{ws:List (List As)}(h:Hh W ord ws os=none):FF W (Dj W.ss ord ws ws)=none:=by
 unfold Hh at h
 cases e:FG W.ss ord ws os with
 |some o=>rw[e] at h;cases h
 |none=>rw[e] at h;exact h
def SQ{a:List (List As)}(h:∀w∈a,BN W w=none):Ej W a at_=(("none" : Str),at_):=Au h
def V8{r:List (List As)}(h:¬∀v∈w::r,BN W v=none)(k:¬∀v∈w::r,BN W v=BN W w):Ej W (w::r) at_=(("torn" : Str),at_):=by
 unfold Ej;rw[At h];dsimp only
 cases e:BN W w with
 |none=>rfl
 |some n =>
   rw[e] at k;exact At k
def V9{r:List (List As)}(h:¬∀v∈w::r,BN W v=none)(k:∀v∈w::r,BN W v=BN W w):∃n,BN W w=some n/\Ej W (w::r) at_=(("thing" : Str),n):=by
 cases e:BN W w with
 |none=>exact absurd (λv a=>by rw[k v a,e]) h
 |some n =>
   refine⟨n,rfl,?_⟩;unfold Ej;rw[At h];dsimp only;rw[e];exact Au λv a=>by rw[k v a,e]
def Wa{a b:Option Int}(h:Eg a=Eg b):a=b:=by
 cases a<;>cases b<;>first|rfl|(cases h;rfl)|cases h
def JF{a:Option Int}:Eg a=.non↔a=none:=⟨λh=>Wa (b:=none) h,λh=>by rw[h];rfl⟩
def Zc(a b:Option Int):Lm (Eg a) (Eg b)=true:=by cases a<;>cases b<;>rfl
def FY:(((l.map λw=>Eg (BN W w)).map λv=>decide (v=V.non)).all id=true)↔∀w∈l,BN W w=none:=by
 simp only[List.all_map,List.all_eq_true,Function.comp,id,decide_eq_true_eq,JF]
def HV:(((l.map λw=>Eg (BN W w)).map λv=>!decide (v=Eg (BN W w))).any id=true)↔¬∀v∈l,BN W v=BN W w:=by
 simp only[List.any_map,K1,Function.comp,id,Bool.not_eq_true',decide_eq_false_iff_not];refine⟨λ⟨v,a,b⟩h=>b (by rw[h v a]),λh=>?_⟩;refine Classical.byContradiction λn=>h λv c=>?_;exact Classical.byContradiction λm=>n ⟨v,c,λz=>m (Wa z)⟩
abbrev Lk:Type:=List AK×List (List As)×List (List As)
abbrev KH (l:Lk):Dt:=.tup [.lst (l.1.map Dq.D),.lst (l.2.1.map BV.D),.lst (l.2.2.map BV.D)]
structure EC (W:Wd) (ord:A') (sc st:Int) (x:Str) (l:Lk) (os:List Ow):Prop where
 b:Dr W sc st l.1
 f:LR W x l.1 l.2.1
 s:l.2.2=Dj W.ss ord l.2.1 l.2.1
 o:MZ W l.1 os
abbrev FZ (W:Wd) (n:Int):Str×Int:=match W.gs[n.toNat]? with
 |some p=>ES W.gs W.as p
 |none=>("no",0)
inductive LU (W:Wd) (inn:Int) (ord:A'):Int->Int->List Str->Int->C'->Option Wt->List Lk->List Int->Prop where
 |stop {sc st:Int} {x:Str} {r:List Str} {at_:Int} {l:Lk} {os:List Ow} {a:C'} {w:Option Wt} (h:EC W ord sc st x l os) (e:Cr W ord l.2.1 os at_=(a,w)) (n:(∀k,a≠some (("thing" : Str),k))\/r=[]):LU W inn ord sc st (x::r) at_ a w [l] []
 |opn {sc st:Int} {x y:Str} {r:List Str} {at_:Int} {l:Lk} {os:List Ow} {n q:Int} {w:Option Wt} (h:EC W ord sc st x l os) (e:Cr W ord l.2.1 os at_=(some (("thing" : Str),n),w)) (i:FZ W n=(("open" : Str),q)):LU W inn ord sc st (x::y::r) at_ none (some (at_,[],q)) [l] [n]
 |no {sc st:Int} {x y:Str} {r:List Str} {at_:Int} {l:Lk} {os:List Ow} {n q:Int} {w:Option Wt} (h:EC W ord sc st x l os) (e:Cr W ord l.2.1 os at_=(some (("thing" : Str),n),w)) (i:FZ W n=(("no" : Str),q)):LU W inn ord sc st (x::y::r) at_ (some ("none",at_+1)) none [l] [n]
 |go {sc st:Int} {x y:Str} {r:List Str} {at_:Int} {l:Lk} {os:List Ow} {n q:Int} {w w':Option Wt} {a:C'} {ls:List Lk} {ts:List Int} (h:EC W ord sc st x l os) (e:Cr W ord l.2.1 os at_=(some (("thing" : Str),n),w)) (i:FZ W n=(("to" : Str),q)) (k:LU W inn ord q inn (y::r) (at_+1) a w' ls ts):LU W inn ord sc st (x::y::r) at_ a w' (l::ls) (n::ts)
variable {sc st:Int}{x:Str}
def SR(ok:Cm W)(d:0<=sc/\sc<W.ss.length)(e:0<=st/\st<W.sts.length){bs:List AK}(hB:Dr W sc st bs)(a:w∈EA W x bs):Cq W.ss w:=by
 have c:=(Pt ok d e hB a).1;obtain⟨b,f,j,q,g,_,_,rfl⟩:=Vz a;exact⟨b.1,_,rfl,c _ (by simp),rfl⟩
def Wb{all:List (List As)}(h:w∈Dj ss ord all l):w∈l:=(Nb.mp h).1
def M0(c:BK W)(h:Cq W.ss w):Ft W.gs.length W.as.length (CS W.ss w):=by
 obtain⟨v,m,rfl,⟨n,k,s,d,f,a,g⟩,i⟩:=h;rcases g with⟨e,_⟩|⟨_,b⟩;exact absurd (i.symm.trans e) Ps;rw[L3,PM d f a (AB b)];exact c.tl s (Bk a) _ (Dk b)
def PQ{l:Addr}{v:List As}(h:BW F H l (v++[m])):∃(a:List Addr)(t:Addr),H l=some (.lst (a.map V.ref))/\AS (a.map V.ref) (-1)=some (.ref t)/\H t=some (.tup (FT m)):=by
 obtain⟨a,f,b,_⟩:=h;have g:=b.len;rw[AO,Ew] at g;have d:v.length<a.length:=(by lia);have i:=AB d;refine⟨a,a[v.length],f,?_,b.at_ v.length _ m i (by simp)⟩
 have e:a.map V.ref=(a.take v.length).map V.ref++[V.ref a[v.length]]:=by
  have:a=a.take v.length++[a[v.length]]:=by
   have c:=List.take_append_drop v.length a;rw[Ki d,List.drop_eq_nil_of_le (by lia)] at c;exact c.symm
  conv=>lhs;rw[this]
  rw[A8];rfl
 rw[e];exact So _ _
def SS (F:Addr->Prop) (H:Hp) (v:V):Option Ow->Prop
 |none=>v=.non
 |some o=>∃p l,v=.ref p/\H p=some (.tup [.ref l,.int o.2])/\BW F H l o.1
def EB.way{t:Addr}{p:Ow}(h:EB F H t p):∃l,H t=some (.tup [.ref l,.int p.2])/\BW F H l p.1:=by
 obtain⟨l,a,b,c,d,e⟩:=h;exact⟨l,b,a,c,d,e⟩
variable {α:Type}
def Og{l:List α}{x:α}(h:l[i]?=some x):l.drop i=x::l.drop (i+1):=by
 obtain⟨a,rfl⟩:=Bi.mp h;exact Ki a
def Wc{ws:List (List As)}(h:(ws.any λv=>Cv ss ord v o.1)=false):FG ss ord ws (o::os)=some o:=by
 unfold FG;rw[h,At Df]
def We{ws:List (List As)}(h:(ws.any λv=>Cv ss ord v o.1)=true):FG ss ord ws (o::os)=FG ss ord ws os:=by
 conv=>lhs;unfold FG
 rw[h,Au rfl]
variable {q:Int}
def SU{ws:List (List As)}(h:GF W w=some q):FF W (w::ws)=some (w,q):=by
 unfold FF;rw[h]
def PR{ws:List (List As)}(h:GF W w=none):FF W (w::ws)=FF W ws:=by
 conv=>lhs;unfold FF
 rw[h]
theorem SV{W:Wd}:∀{ws:List (List As)},FF W ws=none->∀w∈ws,GF W w=none
 |[],_,w,h=>by cases h
 | x :: ws,e,w,h=>by
   cases ex:GF W x with
   |some q=>rw[SU ex] at e;cases e
   |none =>
     rw[PR ex] at e;rcases BI.mp h with rfl|h;exact ex;exact SV e w h
def Bc.two{m:Addr}{d e:Dt}(h:Bc F H (.ref m) (.tup [d,e])):∃x y,H m=some (.tup [x,y])/\Bc F H x d/\Bc F H y e:=by
 cases h with
 | tup h t =>
   cases t with
   |cons a t =>
     cases t with
     |cons b t =>
       cases t with
       |nil=>exact⟨_,_,h,a,b⟩
def Bc.ansN(h:Bc F H v (B3 none)):v=.non:=by cases h;rfl
def Bc.ansS{p:Str×Int}(h:Bc F H v (B3 (some p))):∃t,v=.ref t/\H t=some (.tup [.str p.1,.int p.2]):=by
 have c:Bc F H v (.tup [.str p.1,.int p.2]):=h
 cases v with
 |ref m =>
   obtain⟨x,y,e,a,b⟩:=c.two;cases a;cases b;exact⟨m,rfl,e⟩
 |_=>cases c
def M4:("none" : Str)≠("thing" : Str):=by decide +kernel
def SW:("torn" : Str)≠("thing" : Str):=by decide +kernel
set_option tactic.hygienic true in
def Zd{a:List (List As)}{n:Int}(h:Ej W a at_=(("thing" : Str),n)):∃w∈a,BN W w=some n:=by
 unfold Ej at h;split at h;exact absurd (Bq Prod.fst h) M4;split at h;exact absurd (Bq Prod.fst h) M4;rename_i w r _;split at h;rename_i m b;split at h;refine⟨w,BF,?_⟩;have e:m=n:=Bq Prod.snd h;rw[b,e];exact absurd (Bq Prod.fst h) SW;exact absurd (Bq Prod.fst h) SW
set_option tactic.hygienic true in
def Ze(ok:Cm W)(b:BK W)(c:Cq W.ss w){n:Int}(h:BN W w=some n):0<=n/\n<W.gs.length:=by
 have d:=M0 b c;unfold BN at h;split at h;rename_i f;have e:=BS h;rcases d with⟨_,g⟩|⟨a,_⟩;rw[<-e];exact g;rw[f] at a;exact absurd a (by decide +kernel);split at h;rename_i p i;split at h;rename_i j;rw[<-BS h];exact ok.an p (Bk i) j;cases h;cases h
def PU(ok:Cm W)(a:BK W){ws:List (List As)}{n:Int}{w:Option Wt}(b:∀w∈ws,Cq W.ss w)(h:Cr W ord ws os at_=(some (("thing" : Str),n),w)):0<=n/\n<W.gs.length:=by
 unfold Cr at h;split at h;cases Bq Prod.fst h;obtain⟨w,c,d⟩:=Zd (BS (Bq Prod.fst h));exact Ze ok a (b w (Wb c)) d
def Zf(b:List (Str×Int))(a:List (C'))(q:Int):(Ef b a q).1=("to" : Str)\/(Ef b a q).1=("open" : Str)\/(Ef b a q).1=("no" : Str):=by
 unfold Ef;split;split;split;split;exact .inl rfl;exact .inr (.inr rfl);exact .inr (.inr rfl);exact .inr (.inr rfl);exact .inr (.inl rfl);exact .inr (.inr rfl)
def Zg(b:List (Str×Int))(a:List (C'))(p:Str×Int):(ES b a p).1=("to" : Str)\/(ES b a p).1=("open" : Str)\/(ES b a p).1=("no" : Str):=by
 unfold ES;split;exact .inl rfl;split;exact Zf b a p.2;exact .inr (.inr rfl)
structure LC (K:Aj) (F:Addr->Prop) (H:Hp) (nt A t:Addr) (W:Wd) (qs:List Qu) (inn:Int) (ord:A'):Prop where
 net:∃(S T R:Addr)(us Gs Es ts qt:List Addr),H nt=some (.tup [.ref S,.ref T,.ref R])/\FR H S T R us Gs Es ts qt W.ss W.gs qs
 ans:He K H A W.as
 tab:Fq K F H t W.sts inn ord
structure PV (W:Wd) (qs:List Qu) (inn:Int) (ord:A'):Prop where
 ok:Cm W
 sm:BK W
 ol:ord.length<=40
 irr:∀x,(x,x)∉ord
 inn:0<=inn/\inn<W.sts.length
 q:∀q∈qs,(0<=q.1/\q.1<W.ss.length)/\(0<=q.2.1/\q.2.1<W.sts.length)/\1<=q.2.2.length/\q.2.2.length<=8
variable {inn:Int}
def LC.caseH{K:Aj}{a A t:Addr}{d:List Qu}(h:LC K F H a A t W d inn ord):A6 K H a A t W:=by
 obtain⟨⟨S,T,R,e,f,g,i,j,k,l⟩,b,c⟩:=h;exact⟨⟨S,T,R,e,f,g,i,j,d,k,l⟩,b,c.caseT⟩
abbrev PX (l:Lk):Dt:=.lst (l.2.2.map BV.D)
def Bc.look{l:Lk}(h:Bc F H v (KH l)):∃t x y z,v=.ref t/\H t=some (.tup [x,y,z])/\Bc F H z (PX l):=by
 cases h with
 | tup h t =>
   cases t with
   |cons a t =>
     cases t with
     |cons b t =>
       cases t with
       |cons c t =>
         cases t with
         |nil=>exact⟨_,_,_,_,rfl,h,c⟩
def Bc.look'{t:Addr}{x y z:V}{l:Lk}(e:H t=some (.tup [x,y,z]))(h:Bc F H (.ref t) (KH l)):Bc F H z (PX l):=by
 obtain⟨u,a,b,c,f,d,g⟩:=h.look;have:=V.ref.inj f;subst this;rw[e] at d;have i:=HO.tup.inj (BS d);cases i;exact g
variable {a:C'}{ls:List Lk}{ts:List Int}
def HW{p:List Str}{w:Option Wt}(h:LU W inn ord sc st p at_ a w ls ts):ls.length<=p.length:=by
 induction h with
 |stop=>simp
 |opn=>simp
 |no=>simp
 |go _ _ _ _ b=>simpa using b
def Dn:Nat->Dt->Prop
 |0,_=>False
 |_+1,.non=>True
 |_+1,.bl _=>False
 |_+1,.int _=>True
 |_+1,.str _=>True
 |n+1,.tup l=>∀d∈l,Dn n d
 |n+1,.lst l=>∀d∈l,Dn n d
structure Oh (W:Wd):Prop where
 st:∀s∈W.ss,s.1.length<=8
 kst:∀s∈W.ss,∀p∈s.1,GW W.ss.length W.as.length p
 kth:∀p∈W.gs,LN W.ss.length W.as.length p
 an:∀p,some p∈W.as->p.1=("thing" : Str)->0<=p.2/\p.2<W.gs.length
 go:∀s∈W.sts,∀p∈s.1,0<=p.2/\p.2<W.sts.length
theorem Wf{α:Type} [DecidableEq α]:∀{F l:List α},F.Nodup->(∀x∈F,x∈l)->F.length<=l.length
 |[],_,_,_=>DP _
 |x::F,l,c,h=>by
   have a:=h x BF;obtain⟨d,f⟩:=F4.mp c
   have:=Wf (l:=l.erase x) f λy b=>by
    have g:y≠x:=λe=>d (e▸b);exact(List.mem_erase_of_ne g).mpr (h y (Cw _ b))
   rw[List.length_erase_of_mem a] at this;have i:0<l.length:=List.length_pos_of_mem a;rw[Em];lia
theorem SX{α:Type}{f:AK->List α}{k:Nat}:∀(bs:List AK),(∀b∈bs,(f b).length<=k)->(bs.flatMap f).length<=bs.length*k
 |[],_=>by simp
 |b::bs,h=>by
   rw[List.flatMap_cons,AO,Em,Nat.succ_mul];have:=h b BF;have:=SX bs λc a=>h c (Cw _ a);lia
def PY{l m:Lk}{a:List Ow}(h:EC W ord sc st x l os)(k:EC W ord sc st x m a):l=m/\os=a:=by
 have b:=h.b.uniq k.b;have c:=h.f;have d:=h.o;rw[b] at c d;have e:=c.uniq k.f;have f:l.2.2=m.2.2:=(by rw[h.s,k.s,e]);exact⟨Prod.ext b (Prod.ext e f),d.uniq k.o⟩
def LU.inv{r:List Str}{w:Option Wt}(k:LU W inn ord sc st (x::r) at_ a w ls ts):∃l os,EC W ord sc st x l os /\
 (∀b d,Cr W ord l.2.1 os at_=(b,d)->((∀k,b≠some (("thing" : Str),k))\/r=[])->b=a/\d=w/\ls=[l]/\ts=[]) /\
 ∀n d,Cr W ord l.2.1 os at_=(some (("thing" : Str),n),d)->r≠[]->∀s q,FZ W n=(s,q)->(s=("open" : Str)->a=none/\w=some (at_,[],q)/\ls=[l]/\ts=[n])/\(s=("no" : Str)->a=some (("none" : Str),at_+1)/\w=none/\ls=[l]/\ts=[n])/\(s=("to" : Str)->∃p t,LU W inn ord q inn r (at_+1) a w p t/\ls=l::p/\ts=n::t):=by
 have g:("open" : Str)≠("no" : Str):=(by decide +kernel);have j:("open" : Str)≠("to" : Str):=(by decide +kernel);have o:("no" : Str)≠("to" : Str):=(by decide +kernel)
 cases k with
 |stop h e n=>exact⟨_,_,h,λb d c ζ=>(by rw[e] at c;cases c;exact⟨rfl,rfl,rfl,rfl⟩),λm d c u=>(by rw[e] at c;cases c;exact(n.elim (λn=>n _ rfl) u).elim)⟩
 |opn h e i=>exact⟨_,_,h,λb d c n=>(by rw[e] at c;cases c;exact(n.elim (λn=>n _ rfl) nofun).elim),λm d c ζ s q f=>(by rw[e] at c;cases c;rw[i] at f;cases f;exact⟨λζ=>⟨rfl,rfl,rfl,rfl⟩,λz=>absurd z g,λz=>absurd z j⟩)⟩
 |no h e i=>exact⟨_,_,h,λb d c n=>(by rw[e] at c;cases c;exact(n.elim (λn=>n _ rfl) nofun).elim),λm d c ζ s q f=>(by rw[e] at c;cases c;rw[i] at f;cases f;exact⟨λz=>absurd z.symm g,λζ=>⟨rfl,rfl,rfl,rfl⟩,λz=>absurd z o⟩)⟩
 |go h e i k=>exact⟨_,_,h,λb d c n=>(by rw[e] at c;cases c;exact(n.elim (λn=>n _ rfl) nofun).elim),λm d c ζ s q f=>(by rw[e] at c;cases c;rw[i] at f;cases f;exact⟨λz=>absurd z.symm j,λz=>absurd z.symm o,λζ=>⟨_,_,k,rfl,rfl⟩⟩)⟩
def PZ{p:List Str}{w:Option Wt}(h:LU W inn ord sc st p at_ a w ls ts):∀{d:C'}{f:Option Wt}{g:List Lk}{j:List Int},LU W inn ord sc st p at_ d f g j->a=d/\w=f/\ls=g/\ts=j:=by
 induction h with
 |stop h e n =>
   intro d f g j k;obtain⟨l,os,b,c,_⟩:=k.inv;obtain⟨rfl,rfl⟩:=PY h b;obtain⟨rfl,rfl,rfl,rfl⟩:=c _ _ e n;exact⟨rfl,rfl,rfl,rfl⟩
 |opn h e i =>
   intro d f g j k;obtain⟨l,os,b,_,c⟩:=k.inv;obtain⟨rfl,rfl⟩:=PY h b;obtain⟨rfl,rfl,rfl,rfl⟩:=(c _ _ e nofun _ _ i).1 rfl;exact⟨rfl,rfl,rfl,rfl⟩
 |no h e i =>
   intro d f g j k;obtain⟨l,os,b,_,c⟩:=k.inv;obtain⟨rfl,rfl⟩:=PY h b;obtain⟨rfl,rfl,rfl,rfl⟩:=(c _ _ e nofun _ _ i).2.1 rfl;exact⟨rfl,rfl,rfl,rfl⟩
 |go h e i u m =>
   intro d f g j k;obtain⟨l,os,b,_,c⟩:=k.inv;obtain⟨rfl,rfl⟩:=PY h b;obtain⟨_,_,o,rfl,rfl⟩:=(c _ _ e nofun _ _ i).2.2 rfl;obtain⟨q,r,s,t⟩:=m o;exact⟨q,r,by rw[s],by rw[t]⟩
section
variable {ss:List Bf} {ord:A'}
end
section
variable {ths:List (Str×Int)} {as t:List (C')}
end
section
variable {W:Wd} {t:List (C')} {sc st:Int}
end
section
variable {W:Wd} {sc st:Int}
end
section
variable {W:Wd} {t:List (C')} {ord:A'} {sc st:Int}
def L4(ok:Cm W){n:Int}(b:0<=n/\n<W.gs.length)(h:FZ W n=(("to" : Str),q)):0<=q/\q<W.ss.length:=by
 obtain⟨j,c⟩:=Co b.1;have a:j<W.gs.length:=(by lia);have d:FZ W n=ES W.gs W.as W.gs[j]:=by unfold FZ;rw[c,Bl,AB a]
 rw[d] at h;have:=Sm ok (Dk a) rfl (Bq Prod.fst h);rw[Bq Prod.snd h] at this;exact this
def P0(ok:Cm W)(c:0<=sc/\sc<W.ss.length)(d:0<=st/\st<W.sts.length){l:Lk}(a:EC W ord sc st x l os):∀w∈l.2.1,Cq W.ss w:=λw b=>SR ok c d a.b (a.f.perm.mem_iff.mp b)
end
section
variable {ths:List (Str×Int)} {as:List (C')}
end
section
variable {W:Wd} {ord:A'} {sc st:Int}
end
def Go (xs:Array Nat):Prop:=xs.toList.Pairwise (· < ·)
variable {xs:Array Nat}
def Go.lt(h:Go xs){a b:Nat}(e:a<b)(c:b<xs.size):xs.getD a 0<xs.getD b 0:=by
 have d:a<xs.size:=(by lia);have:=(List.pairwise_iff_getElem.mp h) a b (by simpa using d) (by simpa using c) e;rw[Array.getD_eq_getD_getElem?,Array.getD_eq_getD_getElem?,Array.getElem?_eq_getElem d,Array.getElem?_eq_getElem c];simpa using this
def Go.le(h:Go xs){a b:Nat}(d:a<=b)(c:b<xs.size):xs.getD a 0<=xs.getD b 0:=by
 rcases Nat.lt_or_eq_of_le d with e|e;exact CU (h.lt e c);rw[e];exact AG _
def JG{d:Nat}(h:i<xs.size):xs.getD i d=xs.getD i 0:=by
 rw[Array.getD_eq_getD_getElem?,Array.getD_eq_getD_getElem?,Array.getElem?_eq_getElem h];rfl
theorem SY{xs:Array Nat}(e:Go xs)(j:Nat):∀(b lo a:Nat),a<=xs.size->lo<=a->a-lo<=b->(∀i,i<lo->xs.getD i 0<j)->(∀i,a<=i->i<xs.size->j<=xs.getD i 0) ->
 SetTable.below.go xs j b lo a<=xs.size/\(∀i,i<SetTable.below.go xs j b lo a->xs.getD i 0<j)/\∀i,SetTable.below.go xs j b lo a<=i->i<xs.size->j<=xs.getD i 0
 |0,lo,a,f,m,n,g,h=>by
   have:lo=a:=(by lia);subst this;exact⟨f,g,h⟩
 |b+1,lo,a,f,m,n,g,h=>by
   unfold SetTable.below.go;by_cases c:lo<a;rw[Au c];dsimp only;have k:(lo+a)/2<xs.size:=(by lia);rw[JG k];by_cases d:xs.getD ((lo+a)/2) 0<j;rw[Au d];exact SY e j b _ a f (by lia) (by lia) (λi l=>Nat.lt_of_le_of_lt (e.le (by lia) k) d) h;rw[At d];exact SY e j b lo _ (by lia) (by lia) (by lia) g (λi l o=>Fa (Nat.le_of_not_lt d) (e.le l o));rw[At c];have:lo=a:=(by lia);subst this;exact⟨f,g,h⟩
def S0(a:Go xs)(j:Nat):SetTable.below xs j<=xs.size/\(∀i,i<SetTable.below xs j->xs.getD i 0<j)/\∀i,SetTable.below xs j<=i->i<xs.size->j<=xs.getD i 0:=
 SY a j xs.size 0 xs.size (AG _) (DP _) (by lia) (λi h=>by lia) (λi b c=>by lia)
def Zh(a:Go xs):SetTable.below xs 0=0:=by
 obtain⟨_,b,_⟩:=S0 a 0
 cases e:SetTable.below xs 0 with
 |zero=>rfl
 |succ n=>have:=b 0 (by lia);lia
variable {j:Nat}
def Zi(a:Go xs)(h:xs[i]?=some j):SetTable.below xs (j+1)=i+1:=by
 obtain⟨f,b,d⟩:=S0 a (j+1);have e:i<xs.size:=(Array.getElem?_eq_some_iff.mp h).1;have g:xs.getD i 0=j:=by rw[Array.getD_eq_getD_getElem?,h];rfl
 rcases Nat.lt_trichotomy (SetTable.below xs (j+1)) (i+1) with c|c|c;have:=d i (by lia) e;lia;exact c;have k:=b (i+1) c;have l:xs.getD i 0<xs.getD (i+1) 0:=a.lt (QM i) (show i+1<xs.size by lia);lia
def Zj(xs:Array α)(p:Nat)(x:α)(a:p<=xs.size):(SetTable.insertAt xs p x).toList=xs.toList.take p++[x]++xs.toList.drop p:=by
 unfold SetTable.insertAt;simp[Array.toList_extract];exact List.take_of_length_le (by simp)
def Zk(e:Go xs)(n:xs[SetTable.below xs j]?≠some j):Go (SetTable.insertAt xs (SetTable.below xs j) j):=by
 obtain⟨o,f,q⟩:=S0 e j;generalize SetTable.below xs j=p at o f q n;unfold Go;rw[Zj xs p j o]
 have g:∀{i:Nat}(c:i<xs.toList.length),xs.toList[i]=xs.getD i 0:=λ{i}c=>by
  have m:i<xs.size:=(by simpa using c);rw[Array.getD_eq_getD_getElem?,Array.getElem?_eq_getElem m];simp
 refine List.pairwise_append.mpr ⟨List.pairwise_append.mpr ⟨e.sublist (List.take_sublist _ _),List.pairwise_singleton _ _,λa d b h=>?_⟩,e.sublist (List.drop_sublist _ _),λa d b h=>?_⟩;rw[A9.mp h];obtain⟨i,c,rfl⟩:=List.getElem_of_mem d;rw[Ek] at c;rw[List.getElem_take,g (by lia)];exact f i (by lia);obtain⟨i,c,rfl⟩:=List.getElem_of_mem h;rw[K0] at c;rw[List.getElem_drop,g (by lia)];have m:p+i<xs.size:=by simp at c;lia
 have s:j<xs.getD p 0:=by
  have l:p<xs.size:=(by lia);have:=q p (AG _) l;have ne:xs.getD p 0≠j:=λz=>n (by rw[Array.getElem?_eq_getElem l];rw[Array.getD_eq_getD_getElem?,Array.getElem?_eq_getElem l] at z;exact Bq some z);lia
 have t:=e.le (show p<=p+i by lia) m;rcases BR.mp d with d|d;obtain⟨k,r,rfl⟩:=List.getElem_of_mem d;rw[Ek] at r;rw[List.getElem_take,g (by lia)];have:=f k (by lia);lia;rw[A9.mp d];lia
structure GG (led:Bool) (t:SetTable):Prop where
 ris:Go t.place
 dum:t.dummies=#[]
 led:t.led=led
theorem Wg{t:SetTable}{hashAt:Nat->Int}{h:Int}(hd:t.dummies=#[]):∀(a:Nat)(p:SetTable.Probe){j:Nat}{d:Option Nat},p.dummy=none->SetTable.probe.go t hashAt h a p=some (.empty j d)->t.slot j=.empty/\d=none
 |0,p,j,d,_,e=>by cases e
 |a+1,p,j,d,b,e=>by
   unfold SetTable.probe.go at e
   have l:∀q:SetTable.Probe,q.dummy=none->(t.advance q).dummy=none:=λq f=>by
    unfold SetTable.advance;split;exact f;exact f
   cases c:t.slot p.j with
   |empty=>rw[c] at e;cases e;exact⟨c,b⟩
   |dummy =>
     exfalso;have k:SetTable.has t.dummies p.j=false:=by rw[hd];unfold SetTable.has;simp
     unfold SetTable.slot at c;dsimp only at c;rw[k] at c;by_cases g:(t.place[SetTable.below t.place p.j]?==some p.j)=true;rw[Au g] at c;cases c;rw[At g] at c;cases c
   |live i =>
     rw[c] at e;dsimp only at e;split at e;cases e;exact Wg hd a _ (l p b) e
def Zl{t:SetTable}(h:t.slot j=.empty):t.place[SetTable.below t.place j]?≠some j:=λe=>by
 unfold SetTable.slot at h;simp only[e] at h;simp at h
variable {led:Bool}
def P1{t:SetTable}(h:GG led t)(n:Nat):GG led (t.standIn n):=⟨by
 show Go (Array.range n);unfold Go;rw[Array.toList_range]
 exact List.pairwise_lt_range,rfl,h.led⟩
def L5{t:SetTable}(h:GG led t)(a:t.slot j=.empty):GG led (t.put j).1:=by
 refine⟨Zk h.ris (Zl a),?_,h.led⟩;show(if SetTable.has t.dummies j then SetTable.eraseAt t.dummies (SetTable.below t.dummies j) else t.dummies)=#[];rw[h.dum]
 have:SetTable.has #[] j=false:=by unfold SetTable.has;simp
 rw[this];rfl
def Zm {t:SetTable} (h:GG led t) (es:Array (Int × Value)) (k:Int) (x:Value):GG led (layNew t es k x).2.1:=by
 unfold layNew
 cases e:t.freeSlot k with
 |none=>exact P1 h _
 | some r =>
   obtain⟨i,l⟩:=r;dsimp only
   have b:t.slot i=.empty:=by
    unfold SetTable.freeSlot at e
    cases c:t.probe (λζ=>k+1) k (t.probeStart k) with
    |none=>rw[c] at e;cases e
    |some m =>
      rw[c] at e
      cases m with
      |candidate=>cases e
      |empty j d =>
        obtain⟨f,g⟩:=Wg h.dum _ _ rfl c;subst g;cases e;exact f
   have a:=L5 h b;unfold SetTable.orStandIn;split;exact a;exact P1 a _
def JH{e l k:Nat}{plain:Bool}{f:Array Int}{r:SetTable×Array Nat}(h:SetTable.laid e l k led plain f=some r):GG led r.1:=by
 unfold SetTable.laid at h
 cases c:SetTable.layClean e f with
 |none=>rw[c] at h;cases h
 |some owner =>
   rw[c] at h;cases h;refine⟨?_,rfl,rfl⟩;unfold Go;dsimp only
   have:(List.map (λx=>x.1) (List.filterMap (λj=>Option.map (λx=>(j,x)) (owner.getD j none)) (List.range (e+1)))).Pairwise (· < ·):=by
    rw[List.pairwise_map];refine List.Pairwise.filterMap _ (λa b i c g d hd=>?_) (List.pairwise_lt_range (n:=e+1));obtain⟨x,_,rfl⟩:=ER.mp g;obtain⟨y,_,rfl⟩:=ER.mp hd;exact i
   exact this
def Zn{t:SetTable}(h:GG led t)(es:Array (Int×Value))(a:Nat):GG led (relayAll t es a).2.1:=by
 unfold relayAll
 cases c:t.relaid (es.map (·.1)) a with
 |none=>exact P1 h _
 |some r =>
   obtain⟨b,order⟩:=r;dsimp only;split;have:=JH c;rw[h.led] at this;exact this;exact P1 h _
section
variable {prog:Program} {w:World} {α:Type} [DecidableEq α] [BEq α] [LawfulBEq α]
def B4 (knd:KeyKind prog w α) (f:Bool) (hp:Heap) (D:Addr) (M:α->Bool) (n:Nat):Prop:=
 ∃(ob:Obj)(es:Array (Int×Value))(ep:Nat)(tb:SetTable),hp.get? D=some ob/\ob.ExactSet/\ob.data=.set es ep tb/\ElemsOf knd es.toList/\(∀y,M y=true↔∃e∈es.toList,knd.is y e.2=true)/\es.size<scanBound/\tb.fits es.size=true/\es.size=n/\GG f tb
variable {knd:KeyKind prog w α} {f:Bool} {A:Around} {E:I'} {s:Shared} {D:Addr}
variable {M:α->Bool}
def B4.keep{a b:Heap}(x:B4 knd f a D M n)(k:∀ob,a.get? D=some ob->b.get? D=some ob):B4 knd f b D M n:=by
 obtain⟨ob,c,d,e,g,x⟩:=x;exact⟨ob,c,d,e,k _ g,x⟩
def B4.cong{a:Heap}{b:α->Bool}{c:Nat}(x:B4 knd f a D M n)(d:∀y,b y=M y)(e:c=n):B4 knd f a D b c:=by
 obtain⟨g,h,i,j,k,l,m,o,p,q,r,s,t⟩:=x;exact⟨g,h,i,j,k,l,m,o,λy=>by rw[d];exact p y,q,r,by rw[e];exact s,t⟩
variable {tb:SetTable}
def L6(x:GG f tb):GG f {tb with plain:=false}:=⟨x.ris,x.dum,x.led⟩
def Wh{ob:Obj}{es a:Array (Int×Value)}{ep:Nat}{b:SetTable}(i:s.heap.get? D=some ob)(d:ob.ExactSet)(j:ob.data=.set es ep tb)(k:ElemsOf knd a.toList)(l:∀y,M y=true↔∃e∈a.toList,knd.is y e.2=true)(g:a.size<scanBound)(m:b.fits a.size=true)(o:GG f b){Q:Unit->Shared->Prop}
 (q:∀c,Heap.SameBut D s.heap c->(∃h,c.get? D=some h/\h.ExactSet/\h.data=.set a (ep+1) b)->B4 knd f c D M a.size->Q () {s with heap:=c}):wpAny (model prog w) A (storeSet D a b) Q E s:=by
 obtain⟨n,_⟩:=SetOf_store (knd:=knd) i d j k l g m;exact wpAny_storeSet_of i j (q _ (Heap.SameBut.update ..) ⟨_,n,d,rfl⟩ ⟨_,a,ep+1,b,n,d,rfl,k,l,g,m,rfl,o⟩) (fits_of_scanBound g)
def Wi{l:Array (Int×Value)}{m:List (Int×Value)}(p:l.toList.Perm m):l.size=m.length:=by rw[<-Array.length_toList,p.length_eq]
def S1(b:Bool){u:Shared}{Q:Unit->Shared->Prop}(q:Q () u):wpAny (model prog w) A (match b with|true=>rule "set.scan.the-table-gave-way"|false=>pure ()) Q E u:=by
 cases b;exact Az q;exact Iu q
def Wj{ob:Obj}{es c:Array (Int×Value)}{ep:Nat}{d:SetTable}(v:s.heap.get? D=some ob)(x:ob.ExactSet)(z:ob.data=.set es ep tb)(j:ElemsOf knd c.toList)(k:∀y,M y=true↔∃e∈c.toList,knd.is y e.2=true)(l:c.size<scanBound)(B:d.fits c.size=true)(m:GG f d){C:Bool}{Q:Option Bool->Shared->Prop}
 {g:Bool->Sem Unit} (F:∀(b:Bool)(u:Shared)(n:Unit->Shared->Prop),n () u->wpAny (model prog w) A (g b) n E u)
 (q:∀h,Heap.SameBut D s.heap h->B4 knd f h D M c.size->Q (some true) {s with heap:=h}) :
 wpAny (model prog w) A (storeSet D c d >>= λζ=>if(!C && d.tooFull)=true then g (relayAll d c (SetTable.grown c.size)).2.2 >>= λζ=>storeSet D (relayAll d c (SetTable.grown c.size)).1 (relayAll d c (SetTable.grown c.size)).2.1 >>= λζ=>pure (some true) else pure (some true)) Q E s:=by
 refine Ad (Wh v x z j k l B m λh o⟨T,G,H,I⟩J=>?_);split;have i:=relayAll_perm d c (SetTable.grown c.size);have p:=relayAll_fits d c (SetTable.grown c.size);have r:=Zn m c (SetTable.grown c.size);generalize relayAll d c (SetTable.grown c.size)=K at i p r;obtain⟨L,R,S⟩:=K;have t:L.size=c.size:=(Wi i).trans (Array.length_toList ..);refine Ad (F _ _ _ (Ad ?_));refine Wh (s:={s with heap:=h}) G H I (j.perm i) (λy=>(k y).trans ⟨λ⟨e,a,b⟩=>⟨e,i.mem_iff.mpr a,b⟩,λ⟨e,a,b⟩=>⟨e,i.mem_iff.mp a,b⟩⟩) (by rw[t];exact l) p r λN O ζ P=>?_;exact Az (q N (o.trans O) (P.cong (λζ=>rfl) t.symm));exact Az (q h o J)
def JI{y:α}{x:Value}{Q:Bool->Shared->Prop}(B:knd.is y x=true)(C:x.scannable=true)(T:B4 knd f s.heap D M n)(aa:n+1<scanBound)
 (q:∀a,Heap.SameBut D s.heap a->B4 knd f a D (λz=>M z || decide (z=y)) (if M y then n else n+1)->Q (!M y) {s with heap:=a}):wpAny (model prog w) A (setAddHashed D x (knd.hash y)) Q E s:=by
 obtain⟨U,d,V,tb,h,F,i,r,t,I,G,J,K⟩:=T;unfold setAddHashed setAddHashedIn;refine FK (Ad (wpAny_setState_of h i G ?_));dsimp only;rw[byScan_of C I r,Au rfl];unfold setAddByScan;refine Ad (Ad (Iu (Ad (wpAny_setScan_of B h i G r ?_))))
 cases fd:List.findIdx? (λe=>knd.is y e.2) d.toList with
 |some j =>
   obtain⟨W,X,_⟩:=List.findIdx?_eq_some_iff_getElem.mp fd;have k:M y=true:=(t y).mpr ⟨_,Dk W,X⟩;dsimp only;refine Az (Az ?_)
   have R:=q s.heap (Heap.SameBut.refl ..) ⟨U,d,V,tb,h,F,i,r,λz=>by
    rw[<-t z,Bool.or_eq_true,decide_eq_true_eq];refine⟨λc=>?_,.inl⟩;rcases c with c|c;exact c;rw[c];exact k,I,G,by rw[k];exact J,K⟩
   rw[k] at R;exact R
 |none =>
   have k:M y=false:=by
    cases c:M y with
    |false=>rfl
    |true =>
      obtain⟨e,Y,Z⟩:=(t y).mp c;have:=List.findIdx?_eq_none_iff.mp fd e Y;rw[Z] at this;cases this
   dsimp only;have g:=layNew_perm tb d (knd.hash y) x;have l:=layNew_fits tb d (knd.hash y) x;have m:=Zm K d (knd.hash y) x;generalize layNew tb d (knd.hash y) x=ly at g l m;obtain⟨v,t1,wd,gv⟩:=ly;dsimp only at g l m;rw[Array.toList_push] at g;have L:v.size=n+1:=by rw[Wi g,AO,Array.length_toList,J];rfl
   have N:ElemsOf knd v.toList:=(r.push B C).perm g;have O:=mem_push_iff B t g;have P:v.size<scanBound:=by rw[L];exact aa
   have S:∀a,Heap.SameBut D s.heap a->B4 knd f a D (λz=>M z || decide (z=y)) v.size->Q true {s with heap:=a}:=λa o p=>by
    have:=q a o;rw[k] at this;exact this (p.cong (λζ=>rfl) L.symm)
   refine Ad (S1 _ ?_);split;rw[hashByValue_scannable 8 C];refine Ad (Az ?_);refine Wj h F i N O P (by split;exact l;exact SetTable.fits_plain_off l) (by split;exact m;exact L6 m) (λb u Q' H=>S1 b H) λa o p=>?_;exact Az (S a o p);refine Ad (Az ?_);rw[Au rfl];exact Wj h F i N O P l m (λb u Q' H=>S1 b H) λa o p=>Az (S a o p)
end
abbrev BX (w:World):Bool:=!(w.params.followText "set-order")
abbrev HX (b:Bool):Obj:={cls:=.type "set",dict:=none,data:=.set #[] 0 (.fresh 0 0 b)}
section
variable {prog:Program} {w:World} {A:Around} {E:I'} {s:Shared}
theorem JJ(x:Value)(q:Q (.ref s.heap.objs.size) {s with heap:=s.heap.push (HX (BX w))}) :
 codeAny (model prog w) A (.call (.builtin "set.__new__") ⟨[.type "set",x],[]⟩) (wants Q E) s:=by
 refine codeAny_of_tree ?_;show wpAny _ A.in1 (checkBuiltinCall "set.__new__" ⟨[.type "set",x],[]⟩ >>= λζ=>again (.builtin "set.__new__" ⟨[.type "set",x],[]⟩)) _ _ s;refine Ad (wpAny_of_eq (F.newCall_set_1 x) (Az ⟨plainId_quiet F.plain_set_new _,codeAny_builtin F.entry_set_new ?_⟩));rw[Around.under_plainId F.plain_set_new _];have a:=sub_set_self;unfold Builtin.«set.__new__» Builtin.Frozenset.newClass
 cases s with
 |mk b g d c os =>
   dsimp only at q ⊢
   wp_walk
   refine wpAny_askSetting (Az ?_);dsimp only;simp only[newObj];exact Ad (wpAny_alloc (Az (Az q)))
end
def B5 (f:Nat->Int) (i:Nat):List Int:=((List.range i).map f).foldl step_dedup []
def Oi(f:Nat->Int)(i:Nat):B5 f (i+1)=step_dedup (B5 f i) (f i):=by
 unfold B5;rw[List.range_succ,A8,OU];rfl
def HY(l:List Int)(x:Int):(step_dedup l x).length=if l.any (·==x) then l.length else l.length+1:=by
 unfold step_dedup;split<;>simp
def HZ(l:List Int)(x y:Int):(step_dedup l x).any (·==y)=(l.any (·==y) || decide (y=x)):=by
 unfold step_dedup;by_cases h:l.any (·==x)=true;rw[Au h];by_cases e:y=x;subst e;rw[h];rfl;rw[En e,Bool.or_false];rw[At h,List.any_append];congr 1;by_cases e:y=x;subst e;simp;rw[En e]
 simp
 exact λz=>e z.symm
theorem Wk(f:Nat->Int):∀i,(B5 f i).length<=i
 |0=>AG _
 |i+1=>by
   have:=Wk f i;rw[Oi,HY];split<;>lia
theorem Wl(f:Nat->Int):∀(i:Nat)(y:Int),(B5 f i).any (·==y)=true↔∃j,j<i/\f j=y
 |0,y=>by
   constructor;intro h;cases h;rintro⟨j,h,_⟩;lia
 |i+1,y=>by
   rw[Oi,HZ,Bool.or_eq_true,Wl f i y,decide_eq_true_iff];constructor;rintro(⟨j,h,e⟩|e);exact⟨j,by lia,e⟩;exact⟨i,by lia,e.symm⟩;rintro⟨j,h,e⟩;by_cases a:j=i;subst a;exact .inr e.symm;exact .inl ⟨j,by lia,e⟩
section
variable {prog:Program} {w:World} {A:Around} {R:Result->Shared->Prop} {It:Addr} {fp r:List Addr} {G:Array GenState->Array GenState->Prop} {n:Nat} {Pn:Nat->Value->Prop} {Sn:Nat->Shared->Prop}
theorem Zo(c:WalksS prog w A.in1 It fp r G n Pn Sn)(D:Addr)(l:D∉fp)(f:Nat->Int)(u:∀i v,Pn i v->∃t,v=.int (f i) t)(Q:n+1<scanBound) :
 ∀(k i:Nat)(s:Shared),n-i=k->i<=n->Sn i s->B4 (intKind prog w) (BX w) s.heap D (λy=>(B5 f i).any (·==y)) (B5 f i).length ->
  (∀Z,Moved (D::r) G s Z->B4 (intKind prog w) (BX w) Z.heap D (λy=>(B5 f n).any (·==y)) (B5 f n).length->R (.ok (.ret .none)) Z) ->
  codeAny (model prog w) A (.builtin "set.update.loop" ⟨[.ref D,.ref It],[]⟩) R s:=by
 have p:D∉r:=λz=>l (c.sub _ z);have sub:∀b∈r,b∈D::r:=λb z=>Cw _ z;intro k
 induction k with
 |zero =>
   intro i s x B st g j;obtain rfl:i=n:=by lia
   refine codeAny_builtin F.entry_set_update_loop ?_;rw[Around.under_plainId F.plain_set_update_loop _];show wpAny _ A.in1 (pyNext (.ref It) >>= _) _ _ s;refine Ad (c.done s _ _ st λa d=>?_);show wpAny _ A.in1 (ret Value.none) _ _ a;refine Az (j a (d.mono sub) ?_);exact g.keep λC e=>d.heap D _ p e
 |succ k E =>
   intro i s x B st g j;have lt:i<n:=(by lia);refine codeAny_builtin F.entry_set_update_loop ?_;rw[Around.under_plainId F.plain_set_update_loop _];show wpAny _ A.in1 (pyNext (.ref It) >>= _) _ _ s;refine Ad (c.item i s _ _ lt st λv a pv J d=>?_);obtain⟨t,rfl⟩:=u i v pv;have K:B4 (intKind prog w) (BX w) a.heap D (λy=>(B5 f i).any (·==y)) (B5 f i).length:=g.keep λC e=>d.heap D _ p e;show wpAny _ A.in1 (holding [Value.int (f i) t] (setAdd D (.int (f i) t)) >>= _) _ _ a;refine Ad (FK ?_);unfold setAdd;refine FK ?_;have q:(intKind prog w).is (f i) (.int (f i) t)=true:=intKind_is _ _ _ _;refine Ad ((intKind prog w).pyHash (k:=f i) q ?_);have P:(B5 f i).length+1<scanBound:=by have:=Wk f i;lia
   refine JI (knd:=intKind prog w) (s:={a with toks:=a.toks+1}) q rfl K P λH m L=>?_
   have M:B4 (intKind prog w) (BX w) H D (λy=>(B5 f (i+1)).any (·==y)) (B5 f (i+1)).length:=
    L.cong (λy=>by rw[Oi,HZ]) (by rw[Oi,HY])
   refine Az ⟨plainId_quiet F.plain_set_update_loop _,E (i+1) _ (by lia) lt (c.frame _ a _ _ J (Nat.le_succ _) λb h o e=>?_) M λI N O=>?_⟩;rw[m.2 b λz:b=D=>l (by rw[<-z];exact h)];exact e;refine j I (Moved.trans c.gtrans ((d.mono sub).then_heap (Nat.le_succ _) λb o h e=>?_) N) O;rw[m.2 b λz:b=D=>h (by rw[z];exact BF)];exact e
end
section
variable {prog:Program} {w:World} {A:Around} {E:I'} {s:Shared}
set_option maxRecDepth 100000 in
set_option maxHeartbeats 3200000 in
theorem Zp {l:Addr} {a:Array Value} {f:Nat->Int} {Q:I'} (K:A.handled=none) (L:s.heap.IsList l a) (M:∀ (i:Nat) (v:Value),a[i]? = some v -> ∃ t,v=.int (f i) t) (d:a.size + 1 < scanBound)
 (h:∀(h':Heap)(g:Nat),B4 (intKind prog w) (BX w) h' s.heap.objs.size (λy=>(B5 f a.size).any (·==y)) (B5 f a.size).length ->
  (∀b o,b<s.heap.objs.size->s.heap.get? b=some o->h'.get? b=some o)->Q (.ref s.heap.objs.size) {s with heap:=h',toks:=g}) :
 wpAny (model prog w) A (call (.type "set") [.ref l]) Q E s:=by
 obtain⟨c,tl,aq⟩:=F.called_set.mro;have aw:=F.called_set.made;have ar:=F.called_set.sub;refine wpAny_call (codeAny_of_tree ?_);show wpAny _ _ (callAny (.type "set") _) _ _ _;refine Az ⟨Code.quiet_builtin _ (by decide +kernel),codeAny_builtin F.entry_type_call ?_⟩;rw[Around.under_plain (weight_type_call_type "set" [.ref l] []) rfl];have h1:=F.called_set.notType;have h2:=F.called_set.canCreate;have aj:=F.typeCall_set_1 (.ref l)
 repeat (any_goals (first|assumption|wp_step))
 refine codeAny_mono (JJ (.ref l) (E:=E) (Q:=λp q=>p=.ref s.heap.objs.size/\q={s with heap:=s.heap.push (HX (BX w))}) ⟨rfl,rfl⟩) λr q k=>?_
 cases r with
 |error e=>exact k
 | ok N =>
   cases N with
   | ret p =>
     obtain⟨rfl,rfl⟩:=k;have u:(s.heap.push (HX (BX w))).get? s.heap.objs.size=some (HX (BX w)):=Cp _ rfl;have O:Shared.TypeIs {s with heap:=s.heap.push (HX (BX w))} (.ref s.heap.objs.size) "set" :=⟨_,u,rfl⟩;have ak:=F.called_set.init.lookup;have al:=F.called_set.init.bind (.ref s.heap.objs.size)
     repeat (any_goals (first|assumption|wp_step))
     refine codeAny_mono (codeAny_call_builtin (R:=wants (λr x=>r=.none/\∃h' g,x={s with heap:=h',toks:=g}/\B4 (intKind prog w) (BX w) h' s.heap.objs.size (λy=>(B5 f a.size).any (·==y)) (B5 f a.size).length /\
      (∀b o,b<s.heap.objs.size->s.heap.get? b=some o->h'.get? b=some o)) E) F.called_set.init.plain F.entry_set_init (check_set_init_1 O ?_)) λP x m=>?_
     . obtain⟨⟨oc,S,an,X⟩,D,G,B,H⟩:=L
       simp only at G H;subst G;subst H;have ai:(s.heap.push (HX (BX w))).get? l=some {cls:=.type "list",dict:=S,data:=.seq a B,slots:=X}:=Bo _ D;have au:=F.sub_list_set;have av:=F.sub_list_frozenset;have ao:(Value.type "list" == Value.type "dict")=false:=(by decide);have I:(s.heap.push (HX (BX w))).IsList l a:=⟨_,ai,rfl,B,rfl⟩;unfold Builtin.«set.__init__» noKeywords Builtin.Frozenset.updateFrom;generalize Y:pyIter=PI
       wp_walk
       subst Y;refine wpAny_pyIter_list I (Ad (wpAny_runValue ?_));have J:l<s.heap.objs.size:=Bh D;have Z:A.in1.in1.in1.handled=none:=(by simp[K])
       have aa:l≠(s.heap.push (HX (BX w))).objs.size:=by
        rw[Heap.size_push];exact CN (Nat.lt_succ_of_lt J)
       have ab:s.heap.objs.size∉[(s.heap.push (HX (BX w))).objs.size,l]:=by
        rw[Heap.size_push];intro z;rcases BI.mp z with z|z;exact absurd z (CN (QM _));exact absurd (A9.mp z) (Nat.ne_of_gt J)
       refine Zo ((Walks.list Z _ l aa a).toS) s.heap.objs.size ab f M d (a.size-0) 0 _ (by lia) (DP _) ⟨⟨_,Cp _ rfl,rfl,rfl⟩,(I.push _)⟩ ?hS0 ?hR
       case hS0 =>
        have T:((s.heap.push (HX (BX w))).push {cls:=.type "list_iterator",data:=.fields #[.ref l,.int 0 0]}).get? s.heap.objs.size=some (HX (BX w)):=Bo _ u;exact⟨_,#[],0,_,T,⟨rfl,rfl,rfl⟩,rfl,(λe U=>by simp at U),(λy=>by simp[B5]),by decide,rfl,rfl,⟨List.Pairwise.nil,rfl,rfl⟩⟩
       case hR =>
        rintro⟨h',V,W,ae,af⟩ j n;obtain rfl:V=s.gens:=j.gens;obtain rfl:W=s.drawn:=j.drawn;obtain rfl:af=s.os:=j.os;show wpAny _ _ _ _ _ _;refine Az ?_;show wpAny _ _ (ret Value.none) _ _ _;refine Az ⟨rfl,h',ae,rfl,n,λb o d e=>?_⟩;refine j.heap b o (λz=>?_) (Bo _ (Bo _ e));rcases BI.mp z with z|z;exact absurd z (CN d);have C:=A9.mp z;rw[Heap.size_push] at C;exact absurd C (CN (Nat.lt_succ_of_lt d))
     . cases P with
       |error e=>exact m
       |ok ag =>
         cases ag with
         |ret r =>
           obtain⟨rfl,h',g,rfl,n,ah⟩:=m
           repeat (any_goals (first|assumption|wp_step))
           exact h _ _ n ah
         |_=>exact m.elim
   |_=>exact k.elim
end
def Zq:entryFor table "set.__iter__" = some Builtin.«frozenset.__iter__»:=entryFor_alias (id':= "frozenset.__iter__") (by kernel_rfl) rfl (by decide +kernel) (by kernel_rfl)
def Bz:Slot "set_iterator" "__next__" "set_iterator.__next__" :=.of (owner:= "set_iterator") (n:= "__next__") (by rw[typeLookup_type,builtinLookup_eq_fast];kernel_rfl) (by decide +kernel) (by decide +kernel) (by decide +kernel) (by first|exact .inl (by decide +kernel)|exact .inr (by decide +kernel)) (by rw[isSubtype_type];kernel_rfl)
def P2:entryFor table "set_iterator.__next__" = some Builtin.«set_iterator.__next__»:=entryFor_of_tree (by kernel_rfl)
def Wm:Manifest.owners.lookup (String.ofList ['r','o','t','a','r','e','t','i','_','t','e','s'].reverse)=some Manifest.sig_set_iterator:=by kernel_rfl
def P4(a:Value):argsOk "set_iterator.__next__" ⟨[a],[]⟩:=by
 unfold argsOk;rw[signature?_of (id:= "set_iterator.__next__") (n:=['_','_','t','x','e','n','_','_']) (o:=['r','o','t','a','r','e','t','i','_','t','e','s']) (by kernel_rfl) Wm];kernel_rfl
abbrev ED (f:Value) (i n ep:Nat) (D:Addr):Obj:={cls:=.type "set_iterator",data:=.fields #[f,rawInt i,.ref D,rawInt n,rawInt ep]}
structure Fd (hp:Heap) (D:Addr) (es:Array (Int×Value)) (ep:Nat) (tb:SetTable):Prop where
 ex:∃ob,hp.get? D=some ob/\ob.ExactSet/\ob.data=.set es ep tb
 fit:tb.fits es.size=true
section
variable {prog:Program} {w:World} {A:Around} {E:I'} {s:Shared} {It D:Addr} {es:Array (Int×Value)} {ep:Nat} {tb:SetTable}
def Fd.entries(x:Fd s.heap D es ep tb){Q:Array (Int×Value)->Shared->Prop}(q:Q es s):wpAny (model prog w) A (setEntries D) Q E s:=by
 obtain⟨b,a,_,c⟩:=x.ex;exact wpAny_setEntries_of a c x.fit q
def Fd.state(x:Fd s.heap D es ep tb){Q:(Array (Int×Value)×Nat×SetTable)->Shared->Prop}(q:Q (es,ep,tb) s):wpAny (model prog w) A (setState D) Q E s:=by
 obtain⟨b,a,_,c⟩:=x.ex;exact wpAny_setState_of a c x.fit q
def Fd.keep{c d:Heap}(x:Fd c D es ep tb)(k:∀ob,c.get? D=some ob->d.get? D=some ob):Fd d D es ep tb:=by
 obtain⟨ob,a,b⟩:=x.ex;exact⟨⟨ob,k _ a,b⟩,x.fit⟩
def Zr{d a:Nat}{v:Value}{Q:Option Value->Shared->Prop}(b:s.heap.get? It=some (ED (rawInt d) i es.size ep D))(h:Fd s.heap D es ep tb)
 (j:∀(B:Around)(k:I')(e:Option (Value×Nat)->Shared->Prop),e (some (v,a)) s->wpAny (model prog w) B (setNext D d i ep) e k s)
 (q:∀c,c.get? It=some (ED (rawInt a) (i+1) es.size ep D)->Heap.SameBut It s.heap c->Q (some v) {s with heap:=c}):wpAny (model prog w) A (pyNext (.ref It)) Q E s:=by
 have f:s.TypeIs (.ref It) "set_iterator" :=⟨_,b,rfl⟩;unfold pyNext;refine Ad (wpAny_attempt (wpAny_callSpecial?_slot (name:=Str.ofString "__next__") f Bz (wpAny_call_entry Bz f P2 ?_ (P4 _))));unfold Builtin.«set_iterator.__next__» slotArgs;simp only[List.isEmpty_nil,Bool.not_true,FD,↓reduceIte,GQ,bne_self_eq_false];refine Ad (Az ?_);refine Ad (wpAny_fieldsOf b rfl ?_);show wpAny _ _ (setEntries D >>= _) _ _ s;refine Ad (h.entries ?_);rw[At (by simp)];refine Ad (j _ _ _ ?_);show wpAny _ _ (setField (Value.ref It) 0 (rawInt a) >>= _) _ _ s;refine Ad (wpAny_setField b rfl (by simp) ?_);have g:(s.heap.update It (Obj.mapFields (·.setIfInBounds 0 (rawInt a)))).get? It=some (ED (rawInt a) i es.size ep D):=Heap.get?_update_self _ b rfl;refine Ad (wpAny_setField g rfl (by simp) ?_);have l:=Heap.get?_update_self (Obj.mapFields (·.setIfInBounds 1 (rawInt ((i:Int)+1)))) g rfl;exact Az ⟨_,rfl,Az (q _ l ((Heap.SameBut.update ..).trans (Heap.SameBut.update ..)))⟩
def Wn{vs:Array Value}{ob:Obj}{Q:Option Value->Shared->Prop}(d:A.handled=none)(f:s.heap.get? It=some ob)(hd:ob.data=.fields vs)(hz:2<vs.size)
 (q:∀c,Heap.ExtBut It s.heap c->Q none {s with heap:=c}):wpAny (model prog w) A.in1 (setField (Value.ref It) 2 Value.none >>= λζ=>newExc (Value.type "StopIteration") [] >>= λe=>raiseNew (α:=Fin) e) (λg Z=>∃v,g=Fin.done (Flow.ret v)/\wpAny (model prog w) A (pure (some v)) Q E Z)
  (λe Z=>wpAny (model prog w) A (isInstance e (Value.type "StopIteration") >>= λb=>if b=true then pure none else throw e) Q E Z) s:=by
 refine Ad (wpAny_setField f hd hz ?_);refine Ad ?_;simp only[newExc,newTuple];refine Ad (wpAny_newObj_type ?_ (by size_fits));refine Ad (m:=firstArgMember _ _) (wpAny_of_eq (a:=Value.none) (by first|rfl|(simp only[firstArgMember];rfl)) ?_);refine wpAny_newObj_type ?_ (by size_fits);simp only[raiseNew];refine Ad (wpAny_handled ?_);rw[show A.in1.handled=none from d];refine Ad (Az (wpAny_throw ?_))
 refine Ad (wpAny_isInstance (T:= "StopIteration") (b:=true) ⟨_,Cp _ rfl,rfl⟩ isSubtype_stop ?_);exact Az (q _ (((Heap.SameBut.update ..).extBut.push _).push _))
def Zs{b:Nat}{Q:Option Value->Shared->Prop}(f:A.handled=none)(a:s.heap.get? It=some (ED (rawInt b) i es.size ep D))(g:Fd s.heap D es ep tb)
 (h:∀(B:Around)(j:I')(c:Option (Value×Nat)->Shared->Prop),c none s->wpAny (model prog w) B (setNext D b i ep) c j s)
 (q:∀d,Heap.ExtBut It s.heap d->Q none {s with heap:=d}):wpAny (model prog w) A (pyNext (.ref It)) Q E s:=by
 have e:s.TypeIs (.ref It) "set_iterator" :=⟨_,a,rfl⟩;unfold pyNext;refine Ad (wpAny_attempt (wpAny_callSpecial?_slot (name:=Str.ofString "__next__") e Bz (wpAny_call_entry Bz e P2 ?_ (P4 _))));unfold Builtin.«set_iterator.__next__» slotArgs;simp only[List.isEmpty_nil,Bool.not_true,FD,↓reduceIte,GQ,bne_self_eq_false];refine Ad (Az ?_);refine Ad (wpAny_fieldsOf a rfl ?_);show wpAny _ _ (setEntries D >>= _) _ _ s;refine Ad (g.entries ?_);rw[At (by simp)];refine Ad (h _ _ _ ?_);exact Wn f a rfl (by simp) q
def Zt{ps:Array Value}{p:Nat}{t:Tok}{v:Value}{hv:Int}{Q:Option Value->Shared->Prop}(b:s.heap.get? It=some (ED (.ref T) i es.size ep D))(c:Fd s.heap D es ep tb)(g:s.heap.IsTuple T ps)(a:ps[i]?=some (.int p t))(hv:es[p]?=some (hv,v))
 (q:∀a,a.get? It=some (ED (.ref T) (i+1) es.size ep D)->Heap.SameBut It s.heap a->Q (some v) {s with heap:=a}):wpAny (model prog w) A (pyNext (.ref It)) Q E s:=by
 have d:s.TypeIs (.ref It) "set_iterator" :=⟨_,b,rfl⟩;obtain⟨h,e,j,k,dt⟩:=g;unfold pyNext;refine Ad (wpAny_attempt (wpAny_callSpecial?_slot (name:=Str.ofString "__next__") d Bz (wpAny_call_entry Bz d P2 ?_ (P4 _))));unfold Builtin.«set_iterator.__next__» slotArgs;simp only[List.isEmpty_nil,Bool.not_true,FD,↓reduceIte,GQ,bne_self_eq_false];refine Ad (Az ?_);refine Ad (wpAny_fieldsOf b rfl ?_);show wpAny _ _ (setEntries D >>= _) _ _ s;refine Ad (c.entries ?_);rw[At (by simp)];show wpAny _ _ (seqItems? (.ref T) >>= _) _ _ s;refine Ad (Gw e dt ?_)
 show wpAny _ _ (match ps[i]? with|some (Value.int place tok)=>_|some val=>_|none=>_) _ _ s
 rw[a];show wpAny _ _ (setNextDrawn D p ep >>= _) _ _ s;refine Ad ?_;unfold setNextDrawn;refine Ad (c.state ?_);dsimp only;rw[At (by simp)];rw[hv];refine Az ?_;show wpAny _ _ (setField (Value.ref It) 1 (rawInt ((i:Int)+1)) >>= _) _ _ s;refine Ad (wpAny_setField b rfl (by simp) ?_);have f:=Heap.get?_update_self (Obj.mapFields (·.setIfInBounds 1 (rawInt ((i:Int)+1)))) b rfl;exact Az ⟨_,rfl,Az (q _ f (Heap.SameBut.update ..))⟩
def Zu{ps:Array Value}{Q:Option Value->Shared->Prop}(d:A.handled=none)(b:s.heap.get? It=some (ED (.ref T) i es.size ep D))(e:Fd s.heap D es ep tb)(h:s.heap.IsTuple T ps)(a:ps[i]?=none)
 (q:∀a,Heap.ExtBut It s.heap a->Q none {s with heap:=a}):wpAny (model prog w) A (pyNext (.ref It)) Q E s:=by
 have c:s.TypeIs (.ref It) "set_iterator" :=⟨_,b,rfl⟩;obtain⟨j,f,k,l,dt⟩:=h;unfold pyNext;refine Ad (wpAny_attempt (wpAny_callSpecial?_slot (name:=Str.ofString "__next__") c Bz (wpAny_call_entry Bz c P2 ?_ (P4 _))));unfold Builtin.«set_iterator.__next__» slotArgs;simp only[List.isEmpty_nil,Bool.not_true,FD,↓reduceIte,GQ,bne_self_eq_false];refine Ad (Az ?_);refine Ad (wpAny_fieldsOf b rfl ?_);show wpAny _ _ (setEntries D >>= _) _ _ s;refine Ad (e.entries ?_);rw[At (by simp)];show wpAny _ _ (seqItems? (.ref T) >>= _) _ _ s;refine Ad (Gw f dt ?_)
 show wpAny _ _ (match ps[i]? with|some (Value.int place tok)=>_|some val=>_|none=>_) _ _ s
 rw[a];show wpAny _ _ (setField (Value.ref It) 0 (rawInt 0) >>= _) _ _ s;refine Ad (wpAny_setField b rfl (by simp) ?_);have g:=Heap.get?_update_self (Obj.mapFields (·.setIfInBounds 0 (rawInt 0))) b rfl;exact Wn d g rfl (by simp) λa ex=>q a ((Heap.SameBut.update ..).extBut.trans ex)
def H0{v:Value}{n:Int}(h:(intKind prog w).is n v=true):∃t,v=.int n t:=by
 have a:Value.isInt n v=true:=h;cases v<;>simp[Value.isInt] at a;subst a;exact⟨_,rfl⟩
theorem S3{α:Type}:∀{l:List α}{i:Nat}(h:i<l.length),(l[i]::l.eraseIdx i).Perm l
 |x::l,0,_=>List.Perm.refl _
 |x::l,i+1,h=>(List.Perm.swap x _ _).trans (List.Perm.cons x (S3 (l:=l) (i:=i) (by simpa using h)))
theorem Wo{α:Type}(nx:Nat->Nat):∀(a k:Nat)(left:List α)(out:Array α),left.length=a->(pickOrder.go nx a k left out).toList.Perm (out.toList++left)
 |0,k,left,out,h=>by
   rw[List.length_eq_zero_iff.mp h];unfold pickOrder.go
   simp
 |a+1,k,left,out,h=>by
   have b:nx k%left.length<left.length:=Nat.mod_lt _ (by lia);unfold pickOrder.go;rw[AB b];dsimp only;refine(Wo nx a (k+1) _ _ (by rw[List.length_eraseIdx,Au b];lia)).trans ?_;rw[Array.toList_push,FJ];refine List.Perm.append_left _ ?_;exact S3 b
def Zv{c:Source}{Q:Nat->Shared->Prop}(a:n≠0)(q:∀i b,i<n->Q i {s with drawn:=b}):wpAny (model prog w) A (choose c n) Q E s:=
 λζ ζ ζ=>⟨a,q _ _ (Nat.mod_lt _ (Nat.pos_of_ne_zero a))⟩
theorem Wp{α:Type}:∀(n:Nat)(xs:List α){A:Around}{E:I'}{s:Shared}{Q:List α->Shared->Prop},xs.length=n->(∀ys b,ys.Perm xs->Q ys {s with drawn:=b})->wpAny (model prog w) A (drawOrder n xs) Q E s
 |0,xs,A,E,s,Q,h,q=>by
   have e:=List.length_eq_zero_iff.mp h;subst e;unfold drawOrder;exact Az (q [] s.drawn (List.Perm.refl _))
 |n+1,[],A,E,s,Q,h,q=>by cases h
 |n+1,x::xs,A,E,s,Q,h,q=>by
   unfold drawOrder;refine Ad (Zv (by simp) λi b a=>?_);rw[AB a];dsimp only;refine Ad (Wp n _ (by rw[List.length_eraseIdx,Au a];lia) λys d c=>?_);exact Az (q _ d ((List.Perm.cons _ c).trans (S3 a)))
end
def Wq:Slot "set_iterator" "__iter__" "set_iterator.__iter__" :=.of (owner:= "set_iterator") (n:= "__iter__") (by rw[typeLookup_type,builtinLookup_eq_fast];kernel_rfl) (by decide +kernel) (by decide +kernel) (by decide +kernel) (by first|exact .inl (by decide +kernel)|exact .inr (by decide +kernel)) (by rw[isSubtype_type];kernel_rfl)
def Zw:entryFor table "set_iterator.__iter__" = some Builtin.«dict_keyiterator.__iter__»:=entryFor_alias (id':= "dict_keyiterator.__iter__") (by kernel_rfl) rfl (by decide +kernel) (by kernel_rfl)
def Zx(a:Value):argsOk "set_iterator.__iter__" ⟨[a],[]⟩:=by
 unfold argsOk;rw[signature?_of (id:= "set_iterator.__iter__") (n:=['_','_','r','e','t','i','_','_']) (o:=['r','o','t','a','r','e','t','i','_','t','e','s']) (by kernel_rfl) Wm];kernel_rfl
section
variable {prog:Program} {w:World} {A:Around} {E:I'} {s:Shared} {It D:Addr} {es:Array (Int×Value)} {ep:Nat} {tb:SetTable}
def Wr{f:Value}(b:s.heap.get? It=some (ED f i n ep D))(q:Q (.ref It) s):wpAny (model prog w) A (pyIter (.ref It)) Q E s:=by
 have a:s.TypeIs (.ref It) "set_iterator" :=⟨_,b,rfl⟩;refine wpAny_pyIter_slot a Wq (wpAny_call_entry Wq a Zw ?_ (Zx _));show wpAny _ _ (ret (.ref It)) _ _ s;exact Az ⟨_,rfl, "set_iterator",_,a,Bz.lookup,q⟩
def L7{b:Addr}(h:b∈[It]):b∈[It,D]:=by rw[A9.mp h];exact BF
def Wu(p:A.handled=none)(r:It≠D)(f:Nat->Nat)(vs:List Value)(H:vs.length=es.size)
 (t:∀(i:Nat)(v:Value)(s:Shared)(B:Around)(d:I')(c:Option (Value×Nat)->Shared->Prop),vs[i]?=some v->Fd s.heap D es ep tb->c (some (v,f (i+1))) s->wpAny (model prog w) B (setNext D (f i) i ep) c d s)
 (u:∀(s:Shared)(B:Around)(d:I')(c:Option (Value×Nat)->Shared->Prop),Fd s.heap D es ep tb->c none s->wpAny (model prog w) B (setNext D (f es.size) es.size ep) c d s) :
 Walks prog w A It [It,D] [It] es.size (λi v=>vs[i]?=some v) (λi h=>h.get? It=some (ED (rawInt (f i)) i es.size ep D)/\Fd h D es ep tb) where
 sub:=λb y=>L7 y
 frame:=λi h I⟨a,b⟩k=>⟨k It BF _ a,b.keep λC e=>k D (by simp) _ e⟩
 item:=λi s Q E J⟨a,b⟩q=>by
  have G:i<vs.length:=(by lia);have m:=AB G;refine Zr (v:=vs[i]) a b (λB d c g=>t i _ s B d c m b g) λj F n=>?_;have:=q vs[i] j s.toks m ⟨F,b.keep λC e=>(n.2 D (Ne.symm r)).trans e⟩ λx o l e=>(n.2 x (λz=>l (by rw[z];exact BF))).trans e;exact this
 done:=λs Q E⟨a,b⟩q=>Zs p a b (λB d c g=>u s B d c b g) λj ex=>q j s.toks λx o l e=>ex x o (λz=>l (by rw[z];exact BF)) e
 self:=λi s Q E⟨a,_⟩q=>Wr a q
def Zy(l:A.handled=none)(m:It≠D)(n:It≠T)(ps:List Nat)(vs:List Value)(G:vs.length=es.size)(hv:∀(i:Nat)(v:Value),vs[i]?=some v->∃(p:Nat)(x:Int),ps[i]?=some p/\es[p]?=some (x,v))(d:ps.length=es.size) :
 Walks prog w A It [It,D,T] [It] es.size (λi v=>vs[i]?=some v) (λi h=>h.get? It=some (ED (.ref T) i es.size ep D)/\Fd h D es ep tb/\h.IsTuple T (ps.map λp:Nat=>rawInt (p:Int)).toArray) where
 sub:=λb r=>by rw[A9.mp r];exact BF
 frame:=λi h H⟨a,b,c⟩k=>⟨k It BF _ a,b.keep λu e=>k D (by simp) _ e,let ⟨o,e,x⟩:=c;⟨o,k T (by simp) _ e,x⟩⟩
 item:=λi s Q E I⟨a,b,c⟩q=>by
  have F:i<vs.length:=(by lia);have j:=AB F;obtain⟨p,x,y,B⟩:=hv i _ j;refine Zt (v:=vs[i]) (hv:=x) (t:=0) a b c (by simp[y,rawInt]) B λd C f=>?_;exact q vs[i] d s.toks j ⟨C,b.keep λu e=>(f.2 D (Ne.symm m)).trans e,let ⟨o,e,x⟩:=c;⟨o,(f.2 T (Ne.symm n)).trans e,x⟩⟩ λx o g e=>(f.2 x (λz=>g (by rw[z];exact BF))).trans e
 done:=λs Q E⟨a,b,c⟩q=>Zu l a b c (by simp[d]) λd ex=>q d s.toks λx o g e=>ex x o (λz=>g (by rw[z];exact BF)) e
 self:=λi s Q E⟨a,_⟩q=>Wr a q
structure Fe (prog:Program) (w:World) (A:Around) (h0 hp:Heap) (D It:Addr) (ks:List Int):Prop where
 walk:∃(fp:List Addr)(St:Nat->Heap->Prop),Walks prog w A It fp [It] ks.length (λi v=>∃t,v=.int (ks.getD i 0) t) St/\St 0 hp/\∀b∈fp,b=D\/h0.objs.size<=b
 keep:∀b o,h0.get? b=some o->hp.get? b=some o
 new:h0.objs.size<=It
def Walks.weaker{a r:List Addr}{P b:Nat->Value->Prop}{St:Nat->Heap->Prop}(W:Walks prog w A It a r n P St)(h:∀i v,P i v->b i v):Walks prog w A It a r n b St where
 sub:=W.sub
 frame:=W.frame
 item:=λi s Q E c st q=>W.item i s Q E c st λv d e pv=>q v d e (h i v pv)
 done:=W.done
 self:=W.self
def S4{M:Int->Bool}{vs:List Value}(s:ElemsOf (intKind prog w) es.toList)(u:∀y,M y=true↔∃e∈es.toList,(intKind prog w).is y e.2=true)(f:vs.Perm (es.toList.map (·.2))):∃ks:List Int,ks.length=vs.length/\(∀(i:Nat)(v:Value),vs[i]?=some v->∃t,v=.int (ks.getD i 0) t)/\∀y,M y=true↔y∈ks:=by
 have z:∀v∈vs,∃n t,v=Value.int n t:=λv g=>by
  obtain⟨e,c,rfl⟩:=AF.mp (f.mem_iff.mp g);obtain⟨⟨k,A,_⟩,_⟩:=s e c;obtain⟨t,j⟩:=H0 A;exact⟨k,t,j⟩
 have B:∀l:List Value,(∀v∈l,∃n t,v=Value.int n t)->∃ks:List Int,ks.length=l.length/\∀(i:Nat)(v:Value),l[i]?=some v->∃t,v=.int (ks.getD i 0) t:=λl=>by
  induction l with
  |nil=>exact λζ=>⟨[],rfl,λi v h=>by cases h⟩
  |cons x l C =>
    intro q;obtain⟨ks,a,b⟩:=C λv g=>q v (Cw _ g);obtain⟨n,t,e⟩:=q x BF;refine⟨n::ks,by simp[a],λi v h=>?_⟩
    cases i with
    |zero=>simp at h;subst h;exact⟨t,e⟩
    |succ i=>simpa using b i v (by simpa using h)
 obtain⟨ks,a,b⟩:=B vs z;refine⟨ks,a,b,λy=>?_⟩;rw[u y];constructor;rintro⟨e,c,m⟩;obtain⟨t,j⟩:=H0 m;have D:e.2∈vs:=f.mem_iff.mpr (AF.mpr ⟨e,c,rfl⟩);obtain⟨i,o,p⟩:=List.getElem_of_mem D;obtain⟨G,d⟩:=b i _ (AB o);rw[p,j] at d;have E:y=ks.getD i 0:=(by injection d);rw[E,B6,AB (show i<ks.length by lia)];exact Dk _;intro m;obtain⟨i,o,p⟩:=List.getElem_of_mem m;have r:i<vs.length:=(by lia);obtain⟨t,d⟩:=b i _ (AB r);obtain⟨e,c,F⟩:=AF.mp (f.mem_iff.mp (Dk r));refine⟨e,c,?_⟩;rw[F,d,B6,AB o];show(intKind prog w).is y (.int ks[i] t)=true;rw[p];exact intKind_is _ _ _ _
def Zz{ks:List Int}:∀{vs:List Value},vs.length=ks.length->(∀(i:Nat)(v:Value),vs[i]?=some v->∃t,v=.int (ks.getD i 0) t)->IntsAre vs ks:=by
 induction ks with
 |nil=>intro vs a _;cases vs with
   |nil=>exact .nil
   |cons _ _=>simp at a
 |cons x r b =>
   intro vs a h
   cases vs with
   |nil=>simp at a
   |cons v vs =>
     obtain⟨t,e⟩:=h 0 v rfl;obtain rfl:v=.int x t:=e;exact .cons _ _ (b (by simpa using a) λi u c=>h (i+1) u (by simpa using c))
def Fe.of{a c:Heap}{d:List Addr}{m:Nat}{vs:List Value}{St:Nat->Heap->Prop}{ks:List Int}(W:Walks prog w A It d [It] m (λi v=>vs[i]?=some v) St)(e:ks.length=m)(f:∀(i:Nat)(v:Value),vs[i]?=some v->∃t,v=.int (ks.getD i 0) t)(st:St 0 c)(lt:∀b∈d,b=D\/a.objs.size<=b)(g:∀b o,a.get? b=some o->c.get? b=some o)(h:a.objs.size<=It):Fe prog w A a c D It ks:=
 ⟨⟨d,St,by rw[e];exact Walks.weaker W f,st,lt⟩,g,h⟩
def S5{f:Value}(b:Fd s.heap D es ep tb)(q:Q (.ref s.heap.objs.size) {s with heap:=s.heap.push (ED f 0 es.size ep D)}) :
 wpAny (model prog w) A (setEpoch D >>= λe=>newFields "set_iterator" [f,rawInt 0,Value.ref D,rawInt ↑es.size,rawInt ↑e] >>= λv=>ret v) (λg Z=>∃v,g=Fin.done (Flow.ret v)/\∃d r,Z.TypeIs v d/\typeLookup (Value.type d) (Str.ofString "__next__")=pure (some r)/\Q v Z) E s:=by
 obtain⟨h,a,_,c⟩:=b.ex;refine Ad (wpAny_setEpoch_of a c b.fit ?_);refine Ad (wpAny_newObj_type (Az ⟨_,rfl, "set_iterator",_,⟨_,Cp _ rfl,rfl⟩,Bz.lookup,?_⟩));exact q
def Wv{nx:Nat->Nat}{a:Nat}{v:Option (Value×Nat)}(d:w.params.followText "set-order" = true)(f:w.params.setOrder D ep=nx)(hv:((pickOrder nx es)[i]?).map (λe=>(e.2,a))=v)(b:Fd s.heap D es ep tb){Q:Option (Value×Nat)->Shared->Prop}(q:Q v s):wpAny (model prog w) A (setNext D a i ep) Q E s:=by
 unfold setNext;refine Ad (b.state ?_);dsimp only;unfold setsByText;refine Ad (Ad (wpAny_askSetting (Az ?_)));have c:(model prog w).w.params.followText "set-order" = true:=d;dsimp only;rw[c,Au rfl];rw[At (by simp)];refine Ad ?_;unfold setWalk setsByText;refine Ad (b.state ?_);dsimp only;refine Ad (Ad (wpAny_askSetting (Az ?_)));dsimp only;rw[c,Au rfl];refine Ad (wpAny_askSetting ?_);refine Az ?_;have g:(model prog w).w.params.setOrder D ep=nx:=f;dsimp only;rw[g,hv];exact Az q
def Ww{a:Nat}{v:Option (Value×Nat)}(c:w.params.followText "set-order" = false)(d:(!tb.plain && decide (es.size > 1))=false)(e:tb.led=true)(hv:(∃h x j,es[SetTable.below tb.place a]?=some (h,x)/\tb.place[SetTable.below tb.place a]?=some j/\v=some (x,j+1))\/(es[SetTable.below tb.place a]?=none/\v=none))(f:Fd s.heap D es ep tb){Q:Option (Value×Nat)->Shared->Prop}(q:Q v s):wpAny (model prog w) A (setNext D a i ep) Q E s:=by
 unfold setNext;refine Ad (f.state ?_);dsimp only;unfold setsByText;refine Ad (Ad (wpAny_askSetting (Az ?_)));have k:(model prog w).w.params.followText "set-order" = false:=c
 dsimp only;rw[k,At Df];refine wpAny_ite_split (λh=>absurd (show(!tb.plain && decide (es.size > 1))=true from h) (by rw[d];exact Df)) (λζ=>?_);refine Ad ?_;show wpAny _ _ (if(!tb.led && !es.isEmpty)=true then _ else _) _ _ _;rw[e];simp only[Bool.not_true,Bool.false_and,FD,↓reduceIte];refine Az ?_
 rcases hv with⟨h,x,j,b,g,rfl⟩|⟨b,rfl⟩;rw[b,g];exact Az q;rw[b];exact Az q
theorem ZA {M:Int->Bool}(J:A.handled=none) (hS:B4 (intKind prog w) (BX w) s.heap D M n)
 (q:∀(It:Addr)(t:Heap)(K:Drawn)(ks:List Int),ks.length=n->(∀y,M y=true↔y∈ks)->Fe prog w A s.heap t D It ks->Q (.ref It) {s with heap:=t,drawn:=K}):wpAny (model prog w) A (pyIter (.ref D)) Q E s:=by
 obtain⟨u,es,ep,tb,L,Y,x3,N,O,x6,x7,P,R⟩:=hS;have l:Fd s.heap D es ep tb:=⟨⟨u,L,Y,x3⟩,x7⟩;have hT:s.TypeIs (.ref D) "set" :=⟨u,L,Y.1⟩;have aa:D<s.heap.objs.size:=Bh L;refine wpAny_pyIter_slot hT F.slot_set_iter (wpAny_call_entry F.slot_set_iter hT Zq ?_ (F.args_set_iter_1 _));unfold Builtin.«frozenset.__iter__» Builtin.Frozenset.slot0 slotArgs;simp only[List.isEmpty_nil,Bool.not_true,FD,↓reduceIte,bind_assoc,GQ,bne_self_eq_false];unfold Builtin.Frozenset.addrOf Builtin.Frozenset.sizeOf;refine Ad (Az ?_);dsimp only;refine Ad (Az ?_);refine Ad (Ad (l.entries (Az ?_)));unfold setDrawn setsByText;refine Ad (Ad (l.state ?_));dsimp only;refine Ad (Ad (wpAny_askSetting (Az ?_)));refine Az ?_;dsimp only;have n0:s.heap.objs.size≠D:=Nat.ne_of_gt aa
 have ab:∀{b:Addr},b∈[s.heap.objs.size,D]->b=D\/s.heap.objs.size<=b:=λ{b}a=>by
  rcases BI.mp a with rfl|a;exact .inr (AG _);exact .inl (A9.mp a)
 cases G:(model prog w).w.params.followText "set-order" with
 |true =>
   simp only[Bool.not_true,Bool.false_and,FD,↓reduceIte];refine Ad (Az ?_);refine S5 l ?_
   have S:((pickOrder (w.params.setOrder D ep) es).toList).Perm es.toList:=by
    have:=Wo (w.params.setOrder D ep) es.size 0 es.toList #[] (by simp);show(pickOrder.go (w.params.setOrder D ep) es.size 0 es.toList #[]).toList.Perm es.toList;simpa using this
   obtain⟨ks,g,z,C⟩:=S4 N O (S.map (·.2));have c:((pickOrder (w.params.setOrder D ep) es).toList.map (·.2)).length=es.size:=by rw[Ak,S.length_eq];simp
   have W:=Wu (prog:=prog) (w:=w) (A:=A) (It:=s.heap.objs.size) (D:=D) (es:=es) (ep:=ep) (tb:=tb) J n0 (λζ=>0) _ c
    (λi v Z B U V j m r=>Wv (nx:=w.params.setOrder D ep) G rfl (by
     rw[AM] at j;obtain⟨e,d,rfl⟩:=ER.mp j
     rw[<-Array.getElem?_toList,d];rfl) m r)
    (λZ B U V m r=>Wv (nx:=w.params.setOrder D ep) G rfl (by
     have hz:(pickOrder (w.params.setOrder D ep) es).toList.length=es.size:=by rw[S.length_eq];simp
     rw[<-Array.getElem?_toList,G5 (by lia)];rfl) m r)
   refine q _ _ s.drawn ks (by rw[g,c,P]) C (Fe.of W (g.trans c) z ⟨Cp _ rfl,l.keep λu e=>Bo _ e⟩ (λb a=>ab a) (λb o e=>Bo _ e) (AG _))
 |false =>
   have ae:tb.led=true:=by
    rw[R.led];unfold BX;have:w.params.followText "set-order" = false:=G;rw[this];rfl
   simp only[Bool.not_false,Bool.true_and]
   cases I:(!tb.plain && decide (es.size > 1)) with
   |true =>
     refine wpAny_ite_split (λζ=>?_) (λh=>absurd (show(!tb.plain && decide (es.size > 1))=true from I) h);refine Ad (Wp es.size _ List.length_range λk K t=>?_)
     have X:k.length=es.size:=by rw[t.length_eq];exact List.length_range
     refine Ad (wpAny_newObj_type ?_ (by show(List.map (λi:Nat=>rawInt (i:Int)) k).toArray.size<=sizeLine;rw[CM,Ak,X];exact fits_of_scanBound x6));have af:Fd (s.heap.push {cls:=.type "tuple",data:=.seq (k.map λi:Nat=>rawInt (i:Int)).toArray}) D es ep tb:=l.keep λu e=>Bo _ e;refine S5 af ?_;have ah:∀p∈k,p<es.size:=λp h=>List.mem_range.mp (t.mem_iff.mp h)
     have vp:(k.map λp=>(es.getD p (0,.none)).2).Perm (es.toList.map (·.2)):=by
      have d:es.toList.map (·.2)=(List.range es.size).map λp=>(es.getD p (0,.none)).2:=by
       refine List.ext_getElem (by simp) λi h1 h2=>?_;simp at h1;simp[h1]
      rw[d];exact t.map _
     obtain⟨ks,g,z,C⟩:=S4 N O vp;have c:(k.map λp=>(es.getD p (0,.none)).2).length=es.size:=(by rw[Ak,X])
     have W:=Zy (prog:=prog) (w:=w) (A:=A) (It:=(s.heap.push {cls:=.type "tuple",data:=.seq (k.map λi:Nat=>rawInt (i:Int)).toArray}).objs.size) (D:=D) (T:=s.heap.objs.size) (es:=es) (ep:=ep) (tb:=tb) J (by rw[Heap.size_push];exact Nat.ne_of_gt (Nat.lt_succ_of_lt aa)) (by rw[Heap.size_push];exact Nat.succ_ne_self _) k _ c (λi v j=>by
      rw[AM] at j;obtain⟨p,d,rfl⟩:=ER.mp j;have ai:=ah p (Bk d);refine⟨p,(es.getD p (0,.none)).1,d,?_⟩
      simp[ai]) X
     refine q _ _ K ks (by rw[g,c,P]) C (Fe.of W (g.trans c) z ⟨Cp _ rfl,af.keep λu e=>Bo _ e,⟨_,Bo _ (Cp _ rfl),rfl,_,rfl⟩⟩ (λb a=>?_) (λb o e=>Bo _ (Bo _ e)) (by rw[Heap.size_push];exact Nat.le_succ _));rcases BI.mp a with rfl|a;rw[Heap.size_push];exact .inr (Nat.le_succ _);rcases BI.mp a with rfl|a;exact .inl rfl;rw[A9.mp a];exact .inr (AG _)
   |false =>
     refine wpAny_ite_split (λh=>absurd (show(!tb.plain && decide (es.size > 1))=true from h) (by rw[I];exact Df)) (λζ=>?_);refine Ad (Az ?_);refine S5 l ?_;obtain⟨ks,g,z,C⟩:=S4 N O (List.Perm.refl _)
     have c:(es.toList.map (·.2)).length=es.size:=by simp
     have f:tb.place.size=es.size:=by
      have:=x7;unfold SetTable.fits at this;simp at this;exact this.1
     have ag:∀i,i<=tb.place.size->SetTable.below tb.place (if i=0 then 0 else tb.place.getD (i-1) 0+1)=i:=λi H=>by
      cases i with
      |zero=>exact Zh R.ris
      |succ i =>
        have aj:i<tb.place.size:=H;simp only[Nat.add_eq_zero_iff,Nat.one_ne_zero,and_false,↓reduceIte,Nat.add_sub_cancel];refine Zi R.ris ?_;rw[Array.getD_eq_getD_getElem?,Array.getElem?_eq_getElem aj];rfl
     have W:=Wu (prog:=prog) (w:=w) (A:=A) (It:=s.heap.objs.size) (D:=D) (es:=es) (ep:=ep) (tb:=tb) J n0 (λi=>if i=0 then 0 else tb.place.getD (i-1) 0+1) _ c
      (λi v Z B U V j m r=>Ww G I ae (.inl (by
       rw[AM] at j;obtain⟨⟨h,x⟩,d,rfl⟩:=ER.mp j;rw[Array.getElem?_toList] at d;have H:i<tb.place.size:=by rw[f];exact(Array.getElem?_eq_some_iff.mp d).1
       have a:=ag i (CU H);refine⟨h,x,tb.place.getD i 0,by rw[a];exact d,?_,by simp⟩
       rw[a,Array.getD_eq_getD_getElem?,Array.getElem?_eq_getElem H];rfl)) m r)
      (λZ B U V m r=>Ww G I ae (.inr ⟨by
       rw[ag es.size (Nat.le_of_eq f.symm)];simp,rfl⟩) m r)
     refine q _ _ s.drawn ks (by rw[g,c,P]) C (Fe.of W (g.trans c) z ⟨Cp _ rfl,l.keep λu e=>Bo _ e⟩ (λb a=>ab a) (λb o e=>Bo _ e) (AG _))
end
section
variable {prog:Program} {w:World} {A:Around} {E:I'} {s:Shared} {D:Addr}
theorem ZB(a:s.TypeIs (.ref D) "set"){Q:Bool->Shared->Prop}(q:∀b,Q b s):wpAny (model prog w) A (Builtin.List.listLengthHint (.ref D)) Q E s:=by
 unfold Builtin.List.listLengthHint;refine Ad (wpAny_specialOf a F.slot_set_len.lookup ?_);generalize AL:("set.__len__" : String)=c
 wp_delta
 rw[show splitId c=some ("set", "__len__") by subst AL;decide +kernel];subst AL;refine Ad (wpAny_isInstance (T:= "set") (b:=true) a (by rw[isSubtype_type];kernel_rfl) (wpAny_ite_split (λh=>absurd h (by decide)) λζ=>?_));refine wpAny_ite_split (λζ=>Ad (OV a (Az (q _)))) λh=>absurd (by decide +kernel) h
theorem JK{M:Int->Bool}{R:Result->Shared->Prop}(N:A.handled=none)(r:B4 (intKind prog w) (BX w) s.heap D M n){S:Addr}(u:S≠D)(res:Value)(x:s.heap.get? S=some {cls:=.type "list",data:=.seq #[]})(O:n<=sizeLine)
 (q:∀h' g P acc c(ks:List Int),(∀b o,b≠S->s.heap.get? b=some o->h'.get? b=some o)->h'.get? S=some {cls:=.type "list",dict:=none,data:=.seq acc c,slots:=#[]}->ItemsOf (λi v=>∃t,v=.int (ks.getD i 0) t) acc ks.length->ks.length=n->(∀y,M y=true↔y∈ks)->R (.ok (.ret res)) {s with heap:=h',drawn:=g,toks:=P}) :
 wpAny (model prog w) A.in1 (Builtin.List.listExtendWith (.ref S) (.ref D) res)
  (λab Z=>match ab with|.done f=>R (.ok f) Z|.again B=>B.quiet=true/\codeAny (model prog w) A B R Z) (λe Z=>R (.error e) Z) s:=by
 have C:s.TypeIs (.ref D) "set" :=by obtain⟨k,_,_,_,a,b,_⟩:=r;exact⟨k,a,b.1⟩
 have ae:S<s.heap.objs.size:=Bh x;unfold Builtin.List.listExtendWith;refine Ad (OV C ?_);rw[At (by simp[Builtin.List.listSameRef,u])];refine Ad (ZA (A:=A.in1) N r λIt l g ks E Q T=>?_);obtain⟨⟨U,St,W,st,af⟩,j,V⟩:=T;have m:=j _ _ x;have G:S∉U:=λz=>(af S z).elim u λy=>absurd ae (Nat.not_lt_of_le y)
 have K:∀(h:Heap)(p:Nat),St 0 h->(∀b o,b≠S->s.heap.get? b=some o->h.get? b=some o)->h.get? S=some {cls:=.type "list",data:=.seq #[] p} ->
  codeAny (model prog w) A (.builtin "list.extend.loop" ⟨[.ref S,.ref It,res],[]⟩) R {s with heap:=h,drawn:=g}:=λh p ag X Y=>by
  refine codeAny_extend_loopS W.toS (by rw[E];exact O) S G res ks.length 0 _ #[] p rfl (DP _) ag Y (ItemsOf.nil _) λZ acc c H e1 ah=>?_;rw[Moved.eq_with H];refine q Z.heap g Z.toks acc c ks (λb o I e=>H.heap b o (λz=>?_) (X b o I e)) e1 ah E Q;rcases BI.mp z with y|y;exact I y;have:=Bh e;rw[A9.mp y] at this;exact absurd this (Nat.not_lt_of_le V)
 have quiet:(Code.builtin "list.extend.loop" ⟨[.ref S,.ref It,res],[]⟩).quiet=true:=plainId_quiet F.plain_extend_loop _;refine Ad (FK (ZB (s:={s with heap:=l,drawn:=g}) (by obtain⟨k,a,b⟩:=C;exact⟨k,j _ _ a,b⟩) λb=>?_));refine wpAny_ite_split (λζ=>?_) λζ=>Az ⟨quiet,K _ 0 st (λb o ζ e=>j b o e) m⟩;refine Ad (Iu (Ad ?_));show wpAny _ _ (updateSeq S (·.push .none) >>= λζ=>updateSeq S (·.pop)) _ _ _;refine Ad (wpAny_updateSeq m rfl ?_);have J:=Heap.get?_update_self (Obj.mapSeq (·.push Value.none)) m rfl;refine wpAny_updateSeq (hz:=by seq_fits) J rfl ?_;have aa:=Heap.get?_update_self (Obj.mapSeq (·.pop)) J rfl;have L:∀b,b≠S->((l.update S (Obj.mapSeq (·.push Value.none))).update S (Obj.mapSeq (·.pop))).get? b=l.get? b:=λb d=>(Heap.get?_update_other _ _ (Ne.symm d)).trans (Heap.get?_update_other _ _ (Ne.symm d));exact Az ⟨quiet,K _ _ (W.frame 0 _ _ st λb d o e=>(L b λz=>G (z▸d)).trans e) (λb o d e=>(L b d).trans (j b o e)) aa⟩
theorem ZC{M:Int->Bool}{Q:List Value->Shared->Prop}(u:A.handled=none)(t:B4 (intKind prog w) (BX w) s.heap D M n)(z:n<=sizeLine)
 (q:∀h' d g acc(ks:List Int),(∀b o,s.heap.get? b=some o->h'.get? b=some o)->IntsAre acc ks->ks.length=n->(∀y,M y=true↔y∈ks)->Q acc {s with heap:=h',drawn:=d,toks:=g}):wpAny (model prog w) A (collect (.ref D)) Q E s:=by
 have H:D<s.heap.objs.size:=by obtain⟨B,_,_,_,a,_⟩:=t;exact Bh a
 unfold collect;refine Ad (wpAny_runValue (codeAny_builtin entry_proto_collect' ?_));rw[Around.under_plainId F.plain_proto_collect _];show wpAny _ A.in1 (newList [] >>= λl=>again (.builtin "list.__iadd__" ⟨[l,.ref D],[]⟩)) _ _ s;refine Ad (wpAny_newObj_type (Az ⟨plainId_quiet F.plain_list_iadd _,codeAny_builtin entry_list_iadd' ?_⟩));rw[Around.under_plainId F.plain_list_iadd _];show wpAny _ A.in1 (Builtin.List.listExtendWith (.ref s.heap.objs.size) (.ref D) (.ref s.heap.objs.size)) _ _ _
 refine FL (JK (A:=A) (s:={s with heap:=s.heap.push {cls:=.type "list",data:=.seq ([]:List Value).toArray}}) (S:=s.heap.objs.size)
  (R:=λr Z=>∃h' d g acc c,∃ks:List Int,r=.ok (.ret (.ref s.heap.objs.size))/\Z={s with heap:=h',drawn:=d,toks:=g}/\(∀b o,s.heap.get? b=some o->h'.get? b=some o)/\h'.get? s.heap.objs.size=some {cls:=.type "list",dict:=none,data:=.seq acc c,slots:=#[]}/\IntsAre acc.toList ks/\ks.length=n/\∀y,M y=true↔y∈ks)
  u (t.keep λB e=>Bo _ e) (Nat.ne_of_gt H) _ (Cp _ rfl) z λh' d g acc c ks j k h m p=>⟨h',d,g,acc,c,ks,rfl,rfl,λb o e=>j b o (CN (Bh e)) (Bo _ e),k,?_,m,p⟩) (λI Z x=>?_) λe Z x=>?_
 exact Zz (by rw[Array.length_toList,h.1]) λi v C=>h.2 i v (by rw[<-Array.getElem?_toList];exact C)
 . cases I with
   |done f =>
     obtain⟨h',d,g,acc,c,ks,e,rfl,j,k,h,m,p⟩:=x;cases e;show wpAny _ A (load s.heap.objs.size >>= _) _ _ _;exact Ad (wpAny_load k (Az (q h' d g acc.toList ks j h m p)))
   |again J =>
     refine⟨x.1,codeAny_mono x.2 λr K y=>?_⟩;obtain⟨h',d,g,acc,c,ks,rfl,rfl,j,k,h,m,p⟩:=y;show wpAny _ A (load s.heap.objs.size >>= _) _ _ _;exact Ad (wpAny_load k (Az (q h' d g acc.toList ks j h m p)))
 obtain⟨_,_,_,_,_,_,G,_⟩:=x;cases G
end
def L8{l:List Int}:∀{m:List Int},l.Nodup->(∀x∈l,x∈m)->m.length<=l.length->m.Nodup:=by
 induction l with
 |nil=>intro m _ _ h;rw[List.length_eq_zero_iff.mp (Nat.le_zero.mp h)];exact List.nodup_nil
 |cons a l g =>
   intro m d f i;obtain⟨j,k⟩:=F4.mp d;have c:=List.perm_cons_erase (f a BF)
   have n:(m.erase a).length<=l.length:=by
    have:=c.length_eq;simp at this i;lia
   have sub:∀x∈l,x∈m.erase a:=λx b=>by
    have:=c.mem_iff.mp (f x (Cw _ b));rcases BI.mp this with e|e;exact absurd (e▸b) j;exact e
   refine c.nodup_iff.mpr (F4.mpr ⟨λo=>?_,g k sub n⟩)
   have:(a::l).length<=(m.erase a).length:=Ord.nodup_sub_length d λx b=>by
    rcases BI.mp b with e|e;rw[e];exact o;exact sub x e
   simp at this;lia
def JL{l:List Int}(h:l.Pairwise (·<=·))(c:l.Nodup):l.Pairwise (· < ·):=(h.and c).imp λ{a b}⟨x,y⟩=>by lia
set_option tactic.hygienic true in
def Oj{l:List Int}{x:Int}(h:l.Nodup):(step_dedup l x).Nodup:=by
 unfold step_dedup;split;exact h;rename_i c;refine List.nodup_append.mpr ⟨h,List.pairwise_singleton _ _,λa d b f e=>c ?_⟩;rw[A9.mp f] at e;rw[K1];exact⟨a,d,by rw[e];simp⟩
theorem Wx(f:Nat->Int):∀i,(B5 f i).Nodup
 |0=>List.nodup_nil
 |i+1=>by rw[Oi];exact Oj (Wx f i)
def L9 (P:Program) (w:World) (a:Addr) (ns:List Int):HO:=.ext λh=>∃ds:List Int,ds.Nodup/\(∀y,y∈ds↔y∈ns)/\B4 (intKind P w) (BX w) h a (λy=>ds.any (·==y)) ds.length
section
variable {prog:Program} {w:World} {A:Around} {E:I'} {s:Shared} {D:Addr}
def ZD{M:Int->Bool}(r:A.handled=none)(t:B4 (intKind prog w) (BX w) s.heap D M n)(C:n<64)
 (q:∀(R:Addr)h' c d k out(ks:List Int),(∀b o,s.heap.get? b=some o->h'.get? b=some o)->(∀b o,s.heap.get? b=some o->b≠R)->h'.get? R=some {cls:=.type "list",data:=.seq out k}->IntsAre out.toList ks->ks.length=n->(∀y,M y=true↔y∈ks)->ks.Pairwise (·<=·)->Q (.ref R) {s with heap:=h',drawn:=c,toks:=d}) :
 wpAny (model prog w) A (call (.builtin "sorted") [.ref D]) Q E s:=by
 refine Calls.call_function_entry kind_sorted plain_sorted entry_sorted (args_sorted1 _) ?_;unfold Builtin.«sorted»;refine Ad (m:=checkCount "sorted" 1 1 _) (Az ?_);refine Ad (ZC (A:=A.in1) r t (CU (BL (by lia))) λf c d a ks g i j u=>?_);have v:a.length<64:=by rw[i.length,j];exact C
 refine Ad (wpAny_newList ?_ (CU (BL (by lia))));have h:(f.push {cls:=.type "list",data:=.seq a.toArray}).get? f.objs.size=some (seqObj "list" a.toArray 0):=Cp _ rfl;refine Ad (FK (wpAny_call_entry slot_list_sort ⟨_,h,rfl⟩ entry_list_sort (list_sort_tree h i v λout F x l z=>⟨_,rfl,?_⟩) (args_list_sort _)));obtain⟨k,B⟩:=sortedHeap_at (vs:=a) (out:=out) h;refine Az ⟨_,rfl,q f.objs.size _ c d k out F (λb o e=>?_) (λb o e=>CN (Bh (g b o e))) B x (by rw[l.length_eq,j]) (λy=>by rw[u,l.mem_iff]) z⟩;have p:=Bh (g b o e);rw[sortedHeap_old (CN p) (by rw[Heap.size_push];exact Nat.lt_succ_of_lt p)];exact Bo _ (g b o e)
end
section
variable {X:Cx} {pins:B'} {σ:L2.St} {H:Hp} {s:Shared}
def Inv.drew(I:Inv X pins σ H s)(a:Drawn):Inv X pins σ H {s with drawn:=a}:=
 I.step (h':=s.heap) (H':=H) (g':=s.gens) (t':=s.toks) (d':=a) (ch:=[]) (λζ z=>nomatch z) (λζ ζ ζ ζ ζ e ζ=>e) (λζ o ζ ζ ζ e ζ=>⟨o.slots,e⟩) (λζ ζ ζ ζ n=>n) (λζ o ζ e=>⟨o,e⟩) (λζ ζ e=>e) (λζ ζ ζ e=>e) (λζ b e=>⟨#[],by rw[e];simp⟩) (λζ h=>h) I.hok I.bare
def Ol (P:Program) (w:World) (K:Aj):List V->Hp->VK->Prop:=λvs H Q=>∃(p:Addr)(ns:List Int),vs=[.ref p]/\Af K H p (ns.map V.int)/\ns.length<=4000/\∀q,H q=none->Q (.ref q) (upd H q (L9 P w q ns))
def ZE{a:List Int}{b:List Value}(r:Ax (a.map V.int) b):∀(i:Nat)(v:Value),b.toArray[i]?=some v->∃t,v=.int (a.getD i 0) t:=λi v f=>by
 have e:b[i]?=some v:=(by simpa using f);have g:=r.length;rw[Ak] at g;have c:i<a.length:=by have:=(Bi.mp e).1;lia
 obtain⟨u,d,h⟩:=r.get (i:=i) (x:=.int a[i]) (by rw[AM,AB c];rfl);rw[e] at d;cases d;rw[B6,AB c];exact h
def Wy(v:X.calm=true):Bs X (.type "set") (Ol X.prog X.w X.K):=by
 intro pins s σ H M N Q I r h;obtain⟨p,c,rfl,w,O,q⟩:=h;obtain⟨u,rfl,z⟩:=Gh r;obtain rfl:u=Value.ref p:=z;obtain⟨g,l,A,_⟩:=I.list w;have m:=l.length;rw[Ak] at m;have t:g.toArray.size=c.length:=(by rw[CM,m]);refine Zp (f:=λi=>c.getD i 0) (I.ok.hd v) A.isList (ZE l) (by rw[t];unfold scanBound;lia) λB C n k=>?_;have Z:∀b u,s.heap.get? b=some u->B.get? b=some u:=λb u e=>k b u (Bh e) e;refine⟨.ref s.heap.objs.size,upd H s.heap.objs.size (L9 X.prog X.w s.heap.objs.size c),I.laid (t':=C) Z (AG _) ?_,rfl,q _ I.fresh⟩;refine⟨⟨_,Wx _ _,λy=>?_,n⟩,?_,λP R⟨D,E,F,G⟩J=>⟨D,E,F,G.keep λK e=>J K e⟩⟩;have:=Wl (λi=>c.getD i 0) g.toArray.size y;rw[K1] at this;have e:(∃x,x∈B5 (λi=>c.getD i 0) g.toArray.size/\(x==y)=true)↔y∈B5 (λi=>c.getD i 0) g.toArray.size:=⟨λ⟨x,a,b⟩=>by rw[<-eq_of_beq b];exact a,λa=>⟨y,a,by simp⟩⟩;rw[<-e,this,t];constructor;rintro⟨j,d,rfl⟩;rw[B6,AB d];exact Dk d;intro L;obtain⟨j,d,e⟩:=List.getElem_of_mem L;exact⟨j,d,by rw[B6,AB d];exact e⟩;obtain⟨o,_,_,_,e,_⟩:=n;exact⟨o,e⟩
def Ma (P:Program) (w:World):List V->Hp->VK->Prop:=λvs H Q=>∃(d:Addr)(ns:List Int),vs=[.ref d]/\H d=some (L9 P w d ns)/\(∀ds:List Int,ds.Nodup->(∀y∈ds,y∈ns)->ds.length<64)/\∀D(ms:List Int),ms.Pairwise (· < ·)->(∀y,y∈ms↔y∈ns)->H D=none->Q (.ref D) (upd H D (.lst (ms.map V.int)))
def Wz(n:X.calm=true):Bs X (.builtin "sorted") (Ma X.prog X.w):=by
 intro pins s σ H J K Q I r h;obtain⟨d,L,rfl,hd,E,q⟩:=h;obtain⟨u,rfl,o⟩:=Gh r;obtain rfl:u=Value.ref d:=o;obtain⟨⟨f,g,i,p⟩,_,_⟩:=I.hok d _ hd;have t:=E f g λy e=>(i y).mp e;refine ZD (I.ok.hd n) p t λR M v w k F c Z j z A l B C=>?_
 have m:∀y,y∈c↔y∈f:=λy=>by
  rw[<-B y,K1];exact⟨λ⟨x,a,b⟩=>by rw[<-eq_of_beq b];exact a,λa=>⟨y,a,by simp⟩⟩
 have D:c.Nodup:=L8 g (λy e=>(m y).mpr e) (Nat.le_of_eq l);have G:(c.map V.int).length<=sizeLine:=by rw[Ak,l];exact CU (BL (by lia))
 exact⟨.ref R,upd H R (.lst (c.map V.int)),(I.drew v).laidN (t':=w) Z j ⟨G,F.toList,k,RO A,by rw[Array.toArray_toList];exact z⟩,rfl,q R c (JL C D) (λy=>(m y).trans (i y)) (I.freshN j)⟩
end
def FH (gs:List (Str×Int)) (n:Int):List Int:=match gs[n.toNat]? with
 |some p=>if p.1=("sort" : Str) then[p.2] else[]
 |none=>[]
def EE (gs:List (Str×Int)) (as:List (C')) (q:Int):List Int:=match as[q.toNat]? with
 |some (some w)=>if w.1=("thing" : Str) then FH gs w.2 else[]
 |_=>[]
def CK (W:Wd) (st:Int) (p:Ch):List Int:=if p.2.1=("by" : Str)/\(Do (BB W st) p.1).isSome=true then p.2.2::EE W.gs W.as p.2.2 else[]
def BC (W:Wd) (b:AK):List Int:=(AX W b.2.1).flatMap (CK W b.2.2)
def EU (ss:List Bf) (w:List As):List Int:=if(CS ss w).2.2.1=("by" : Str) then[(CS ss w).2.2.2] else[]
def FI (W:Wd) (l:Lk):List Int:=l.1.flatMap (BC W)++l.2.1.flatMap (EU W.ss)
def Cs (W:Wd) (ls:List Lk) (ts:List Int):List Int:=ls.flatMap (FI W)++ts.flatMap (FH W.gs)
section
variable {ths:List (Str×Int)} {as t:List (C')}
end
section
variable {W:Wd} {t:List (C')} {ord:A'} {sc st:Int}
end
section
variable {X:Cx}
end
section
variable {W:Wd} {qs:List Qu} {inn:Int} {ord:A'} {n:Nat} {as t:List Ansr} {ts:List Int}
end
def qA (gs:List (Str×Int)):C'->List Int
 |some w=>if w.1=("thing" : Str) then FH gs w.2 else[]
 |none=>[]
def WA{gs:List (Str×Int)}{a:List (C')}{o:C'}(h:a[k]?=some o):EE gs a (k:Int)=qA gs o:=by
 unfold EE;rw[Bl,h];cases o<;>rfl
section
variable {F:Addr->Prop} {H:Hp} {v:V} {d e f:Dt}
def P5{i:Int}(h:Bc F H v (.int i)):v=.int i:=by cases h;rfl
def Mb(h:Bc F H v (.str x)):v=.str x:=by cases h;rfl
def P6(h:Bc F H v (.tup [d,e,f])):∃t x y z,v=.ref t/\H t=some (.tup [x,y,z])/\Bc F H x d/\Bc F H y e/\Bc F H z f:=by
 cases h with
 | tup h t =>
   cases t with
   |cons a t =>
     cases t with
     |cons b t =>
       cases t with
       |cons c t =>
         cases t with
         |nil=>exact⟨_,_,_,_,rfl,h,a,b,c⟩
def S6{b:List Dt}(h:Bc F H v (.lst b)):∃a vs,v=.ref a/\H a=some (.lst vs)/\AC F H vs b:=by
 cases h with
 |lst h f t=>exact⟨_,_,rfl,h,t⟩
def Mc(h:Bc F H v (Dq.D b)):∃t x,v=.ref t/\H t=some (.tup [x,.int b.2.1,.int b.2.2]):=by
 obtain⟨t,x,y,z,c,a,_,d,e⟩:=P6 (show Bc F H v (.tup [BV.D b.1,.int b.2.1,.int b.2.2]) from h);rw[P5 d,P5 e] at a;exact⟨t,x,c,a⟩
def Om(h:Bc F H v (IB m)):∃t,v=.ref t/\H t=some (.tup (FT m)):=by
 obtain⟨t,x,y,z,b,a,c,d,e⟩:=P6 h;rw[P5 c,Mb d,P5 e] at a;exact⟨t,b,a⟩
theorem AC.app_inv:∀{es b:List Dt}{vs:List V},AC F H vs (es++b)->∃xs ys,vs=xs++ys/\AC F H ys b
 |[],_,vs,h=>⟨[],vs,rfl,h⟩
 |_::es,_,_,.cons a t=>by
   obtain⟨xs,ys,e,h⟩:=AC.app_inv (es:=es) t;exact⟨_::xs,ys,by rw[e];rfl,h⟩
def JM(h:Bc F H v (BV.D (w++[m]))):∃a vs t,v=.ref a/\H a=some (.lst vs)/\AS vs (-1)=some (.ref t)/\H t=some (.tup (FT m)):=by
 obtain⟨a,vs,c,d,b⟩:=S6 (show Bc F H v (.lst ((w++[m]).map IB)) from h);rw[A8] at b;obtain⟨xs,g,rfl,e⟩:=b.app_inv
 cases e with
 |cons a t =>
   cases t with
   |nil =>
     obtain⟨t,rfl,f⟩:=Om a;exact⟨_,_,t,c,d,So _ _,f⟩
def P7{f:α->Dt}{l:List α}{vs:List V}(h:AC F H vs (l.map f))(hv:vs[i]?=some v):∃b,l[i]?=some b/\Bc F H v (f b):=by
 obtain⟨d,a,c⟩:=h.get hv;rw[AM] at a;obtain⟨b,e,rfl⟩:=ER.mp a;exact⟨b,e,c⟩
end
def JN(h:n<=9000):n<sizeLine:=Nat.lt_of_le_of_lt h (by decide)
theorem Md{α β:Type}{f:α->List β}{n:Nat}:∀{l:List α},(∀a∈l,(f a).length<=n)->(l.flatMap f).length<=n*l.length
 |[],_=>DP _
 |a::l,h=>by
   have d:=h a BF;have e:=Md λb c=>h b (Cw _ c);rw[List.flatMap_cons,AO,Em,Nat.mul_succ];lia
def Me{β:Type}{f:α->List β}{l:List α}{a:α}(h:l[i]?=some a):(l.take (i+1)).flatMap f=(l.take i).flatMap f++f a:=by
 rw[D7,h];show(l.take i++[a]).flatMap f=_;rw[List.flatMap_append]
 simp
def Mf{β:Type}{f:α->List β}{l:List α}(i:Nat):((l.take i).flatMap f).length<=(l.flatMap f).length:=by
 have:l.flatMap f=(l.take i).flatMap f++(l.drop i).flatMap f:=(by rw[<-List.flatMap_append,List.take_append_drop]);rw[this,AO];lia
def WB(gs:List (Str×Int))(n:Int):(FH gs n).length<=1:=by
 unfold FH;split;split<;>simp
 simp
def Mg(gs:List (Str×Int))(o:C'):(qA gs o).length<=1:=by
 unfold qA;split;split;exact WB _ _
 simp
 simp
def ZF(gs:List (Str×Int))(a:List (C'))(q:Int):(EE gs a q).length<=1:=by
 unfold EE;split;split;exact WB _ _
 simp
 simp
def WC(W:Wd)(st:Int)(p:Ch):(CK W st p).length<=2:=by
 unfold CK;have:=ZF W.gs W.as p.2.2;split;rw[Em];lia
 simp
def S7(ss:List Bf)(w:List As):(EU ss w).length<=1:=by
 unfold EU;split<;>simp
def WD{b:Int}{p:Ch}(a:p∈AX W b):∃s∈W.ss,p∈s.1:=by
 unfold AX at a
 cases e:W.ss[b.toNat]? with
 |none=>rw[e] at a;cases a
 |some s=>rw[e] at a;exact⟨s,Bk e,a⟩
structure JO (W:Wd) (l:Lk):Prop where
 b:l.1.length<=62
 f:l.2.1.length<=62
 bo:∀b∈l.1,Dp W b
 en:∀w∈l.2.1,Cq W.ss w
def P8(ok:Cm W)(d:BK W){l:Lk}(a:0<=sc/\sc<W.ss.length)(c:0<=st/\st<W.sts.length)(h:EC W ord sc st x l os):JO W l:=by
 refine⟨h.b.few,?_,λb e=>((h.b.mem b).mp e).ok ok a c,P0 ok a c h⟩;have f:=h.f.perm.length_eq;have g:=d.fnd x sc st _ a c h.b;lia
def WE(ok:Cm W)(f:BK W)(r:0<=inn/\inn<W.sts.length){p:List Str}{w:Option Wt}(k:LU W inn ord sc st p at_ a w ls ts) :
 0<=sc/\sc<W.ss.length->0<=st/\st<W.sts.length->(∀l∈ls,JO W l)/\(∀n∈ts,0<=n/\n<W.gs.length)/\ts.length<=ls.length:=by
 induction k with
 |stop h e n=>exact λb c=>⟨λl d=>by rw[A9.mp d];exact P8 ok f b c h,(λζ z=>by cases z),DP _⟩
 |opn h e i=>exact λb c=>⟨λl d=>by rw[A9.mp d];exact P8 ok f b c h,λn g=>by rw[A9.mp g];exact PU ok f (P0 ok b c h) e,AG _⟩
 |no h e i=>exact λb c=>⟨λl d=>by rw[A9.mp d];exact P8 ok f b c h,λn g=>by rw[A9.mp g];exact PU ok f (P0 ok b c h) e,AG _⟩
 |go h e i s m =>
   intro b c;have g:=PU ok f (P0 ok b c h) e;obtain⟨o,q,t⟩:=m (L4 ok g i) r;refine⟨λl d=>?_,λn j=>?_,by rw[Em,Em];lia⟩;rcases BI.mp d with rfl|d;exact P8 ok f b c h;exact o l d;rcases BI.mp j with rfl|j;exact g;exact q n j
set_option tactic.hygienic true in
def WF(ok:Cm W){n:Int}(h:q∈FH W.gs n):0<=q/\q<W.as.length:=by
 unfold FH at h
 cases e:W.gs[n.toNat]? with
 |none=>rw[e] at h;cases h
 |some p =>
   rw[e] at h;dsimp only at h;split at h;rename_i a;rw[A9.mp h];exact ok.net.q p (Bk e) a;cases h
set_option tactic.hygienic true in
def WG(ok:Cm W)(f:BK W)(g:∀l∈ls,JO W l)(h:q∈Cs W ls ts):0<=q/\q<W.as.length:=by
 unfold Cs at h;rcases BR.mp h with h|h;obtain⟨l,i,c⟩:=List.mem_flatMap.mp h;unfold FI at c;rcases BR.mp c with c|c;obtain⟨b,_,d⟩:=List.mem_flatMap.mp c;unfold BC at d;obtain⟨p,j,a⟩:=List.mem_flatMap.mp d;obtain⟨s,k,m⟩:=WD j;unfold CK at a;split at a;rename_i o;rcases BI.mp a with rfl|a;exact ok.by_ k m λz=>by rw[o.1] at z;exact absurd z (by decide +kernel)
 unfold EE at a;split at a;split at a;exact WF ok a;cases a;cases a;cases a;obtain⟨w,r,d⟩:=List.mem_flatMap.mp c;unfold EU at d;split at d;rename_i t;rw[A9.mp d];rcases M0 f ((g l i).en w r) with⟨e,_⟩|⟨_,e⟩;rw[t] at e;exact absurd e (by decide +kernel);exact e;cases d;obtain⟨n,_,c⟩:=List.mem_flatMap.mp h;exact WF ok c
def WH:∀{a:List Int},a.Nodup->(∀y∈a,0<=y/\y<(n:Int))->a.length<=n:=λhd h=>LQ n _ hd h
section
variable {K:Aj} {F:Addr->Prop} {H H':Hp} {nt A t:Addr} {W:Wd} {qs:List Qu} {inn:Int} {ord:A'} {as:List Ansr}
variable {H'':Hp} {kvs kvs':List (Br×V)} {ds:List Int} {fs:List (Int×(Str×Int))} {k:Nat} {q:Qu}
end
def AL{G:Prop}(h:∀N:Prop,(G->N)->N):G:=h G λz=>z
def ID{g:TG}{t:TS}{D:Ends}(h:let N:=D.nx;let C:=D.ct;g v σ H λσ2 Y=>t {D with nx:=N,ct:=C} σ2 Y):g v σ H (λσ2 Y=>t D σ2 Y):=h
section
variable {W:Wd} {qs:List Qu} {inn:Int} {ord:A'} {H H':Hp} {kvs kvs':List (Br×V)} {n:Nat} {as:List Ansr} {ts:List Int} {due:List Int} {fs:Fnds} {X:Addr->Prop}
end
section
variable {X:Cx}
end
section
variable {ss r:List Bf} {ord:A'}
end
section
variable {W:Wd} {r:List Bf} {ord:A'} {sc st:Int}
end
structure CT (W:Wd):Prop where
 n1:BB W 1=[]
 to1:∀p∈BB W 0,p.2=1
 l2:W.sts.length=2
 g9:(BB W 0).length<=100
 s8:∀s∈W.ss,s.1.length<=8
 t3:∀s∈W.ss,s.2.length<=3
def WI(h:BB W st=[]):FU W sc st=[]:=by
 refine List.eq_nil_iff_forall_not_mem.mpr λr c=>?_;obtain⟨j,p,a,_,b,_⟩:=MY c;rw[h] at b;cases b
def WJ(h:BB W b.2.2=[]):BU W b=[]:=by unfold BU;rw[WI h];rfl
section
variable {W:Wd} {sc st:Int}
set_option tactic.hygienic true in
def CT.steps8(h:CT W)(sc:Int):(AX W sc).length<=8:=by
 unfold AX;split;rename_i s e;exact h.s8 s (Bk e);exact DP _
set_option tactic.hygienic true in
def CT.tells3(h:CT W)(sc:Int):(Et W sc).length<=3:=by
 unfold Et;split;rename_i s e;exact h.t3 s (Bk e);exact DP _
def CT.after(h:CT W){c:AK}(e:b.2.2=0)(f:c∈BU W b):c.2.2=1:=by
 obtain⟨r,g,_,_,rfl⟩:=Bt.mp f;obtain⟨j,p,a,_,d,rfl⟩:=MY g;rw[e] at d;exact h.to1 _ (Pp d)
def CT.beg(h:CT W)(f:st=0\/st=1)(a:By W sc st b):b=([],sc,st)\/b∈BU W ([],sc,st)/\b.2.2=1:=by
 induction a with
 |root=>exact .inl rfl
 |@kid b c _ k d =>
   right;rcases d with rfl|⟨_,e⟩;rcases f with rfl|rfl;exact⟨k,h.after rfl k⟩;rw[WJ (b:=([],sc,1)) h.n1] at k;cases k;rw[WJ (by rw[e];exact h.n1)] at k;cases k
def S8:(([],sc,st):AK)∉BU W ([],sc,st):=λa=>by
 obtain⟨r,_,_,_,e⟩:=Bt.mp a;have:=Bq (λb:AK=>b.1.length) e;simp at this
def CT.perm(h:CT W)(e:st=0\/st=1){bs:List AK}(c:∀b,b∈bs↔By W sc st b)(d:bs.Nodup):bs.Perm (([],sc,st)::BU W ([],sc,st)):=
 (List.perm_ext_iff_of_nodup d (F4.mpr ⟨S8,Sl _ _⟩)).mpr λb=>(c b).trans ⟨λa=>by
  rcases h.beg e a with rfl|⟨a,_⟩;exact BF
  exact Cw _ a,λa=>by
  rcases BI.mp a with rfl|a;exact .root
  exact .kid .root a⟩
def CT.st01(h:CT W)(a:0<=st/\st<W.sts.length):st=0\/st=1:=by
 have:=h.l2;lia
def CT.few(h:CT W)(e:0<=st/\st<W.sts.length){F:List AK}(c:F.Nodup)(d:∀b∈F,By W sc st b):F.length<=9:=by
 have f:=Fa (Vs W ([],sc,st)) (h.steps8 sc)
 have:=Wf (l:=([],sc,st)::BU W ([],sc,st)) c λb a=>by
  rcases h.beg (h.st01 e) (d b a) with rfl|⟨a,_⟩;exact BF;exact Cw _ a
 rw[Em] at this;lia
theorem WK(h:CT W):∀(l:List AK),(∀b∈l,b.2.2=1)->(l.flatMap λb=>(FU W b.2.1 b.2.2).filterMap (ow b))=[]
 |[],_=>rfl
 |b::l,e=>by
   rw[List.flatMap_cons,WK h l λc a=>e c (Cw _ a),WI (by rw[e b BF];exact h.n1)];rfl
def CT.owed(h:CT W)(c:st=0\/st=1){bs:List AK}(d:∀b,b∈bs↔By W sc st b)(f:bs.Nodup):(Hg W bs).Perm ((FU W sc st).filterMap (ow ([],sc,st))):=by
 refine((h.perm c d f).flatMap_right _).trans ?_;rw[List.flatMap_cons,WK h _ λb a=>?_,Eb];rcases h.beg c (.kid .root a) with rfl|⟨_,e⟩;exact absurd a S8;exact e
def EF (W:Wd) (x:Str) (b:AK):List (List As):=DI W b x (Et W b.2.1) 0
def CT.found(h:CT W)(d:st=0\/st=1){bs:List AK}(a:∀b,b∈bs↔By W sc st b)(c:bs.Nodup)(x:Str):(EA W x bs).Perm (EF W x ([],sc,st)++(BU W ([],sc,st)).flatMap (EF W x)):=
 (h.perm d a c).flatMap_right _
def CT.ok(h:CT W)(o:Oh W)(d:W.ss.length<=100)(e:∀s∈W.ss,∀p∈s.2,Ft W.gs.length W.as.length p):Cm W/\BK W:=by
 refine⟨⟨d,h.s8,o.kst,o.kth,o.an,o.go,λsc st F ζ a f g=>?_⟩,⟨e,λx sc st bs ζ a hB=>?_,λsc st bs ζ a hB=>?_⟩⟩;have:=h.few a f g;lia;have c:=h.few a hB.nd λb i=>(hB.mem b).mp i;have j:(EA W x bs).length<=bs.length*3:=SX _ λb ζ=>Fa (N5 W b x _ 0) (h.tells3 _);lia;rw[(h.owed (h.st01 a) hB.mem hB.nd).length_eq];have c:=List.length_filterMap_le (ow ([],sc,st)) (FU W sc st);have j:=Jw W sc (BB W st) (AX W sc) 0;have k:=h.steps8 sc;unfold FU at c ⊢;lia
def ZG(W:Wd)(sc:Int)(go:List (Str×Int))(b:AK)(v:b.1=[]):∀(l:List Ch)(i:Nat),((Dd W sc go l i).filterMap (ow b)).Pairwise N6.O.kle:=λl i=>by
 have w:∀(l:List Ch)(i:Nat),(Dd W sc go l i).Pairwise λr d=>r.1.1=sc/\d.1.1=sc/\r.1.2.1=("step" : Str)/\d.1.2.1=("step" : Str)/\r.1.2.2<d.1.2.2:=by
  intro l
  induction l with
  |nil=>exact λi=>List.Pairwise.nil
  |cons q l y =>
    intro i;show(Er W sc go q i++Dd W sc go l (i+1)).Pairwise _;refine List.pairwise_append.mpr ⟨?_,y (i+1),λr z d D=>?_⟩;unfold Er;split;exact List.pairwise_singleton _ _;exact List.Pairwise.nil;obtain⟨a,_,rfl⟩:=DM.mp z;obtain⟨j,p,H,_,_,rfl⟩:=BQ.mp D;exact⟨rfl,rfl,rfl,rfl,by show(i:Int)<((i+1+j:Nat):Int);lia⟩
 refine List.Pairwise.filterMap (ow b) (λr d E c h I k=>?_) (w l i);unfold ow at h k;split at h;split at k;cases h;cases k;obtain⟨m,o,s,t,u⟩:=E;rw[v];obtain⟨⟨J,K,e⟩,g,n⟩:=r;obtain⟨⟨L,M,f⟩,N,O⟩:=d;dsimp only at m o s t u;rw[m,o,s,t];refine KeyOrd.kle_of_klt ?_;have F:decide (e<f)=true:=A5 u;have P:decide (f<e)=false:=En (by lia);have A:∀x:Int,decide (x<x)=false:=λx=>En (by lia);have G:=B2.irrefl ("step" : Str)
 have B:HL.O.blt (sc,("step" : Str),e) (sc,("step" : Str),f)=true:=by
  show(decide (sc<sc) || (!decide (sc<sc) && (B2.blt ("step" : Str) ("step" : Str) || (!B2.blt ("step" : Str) ("step" : Str) && decide (e<f)))))=true;rw[A,G,F];rfl
 have C:ET HL.O [(sc,("step" : Str),e)] [(sc,("step" : Str),f)]=true:=by rw[Ky,B];rfl
 show(ET HL.O ([]++[(sc,("step" : Str),e)]) ([]++[(sc,("step" : Str),f)]) || _)=true;rw[List.nil_append,List.nil_append,C];rfl;cases k;cases h
end
def WL (K:Aj):List V->Hp->VK->Prop:=λvs H Q=>∃(l:Addr)(ss:List Str),vs=[.ref l]/\Af K H l (ss.map V.str)/\ss.length<64/\∀(D:Addr)(r:List Str),r.Perm ss->r.Pairwise B2.kle->H D=none->Q (.ref D) (upd H D (.lst (r.map V.str)))
def ZH{X:Cx}:Bs X (.builtin "sorted") (WL X.K):=Yd
def JP(O:KeyOrd)(l:List O.α):∃m:List O.α,m.Perm l/\m.Pairwise O.kle:=by
 refine⟨l.mergeSort λa b=>!O.blt b a,List.mergeSort_perm _ _,?_⟩;refine(List.pairwise_mergeSort (λa b c d f=>?_) (λa b=>?_) l).imp λ{a b}h=>?_;rw[Bool.not_eq_true'] at d f ⊢;exact KeyOrd.kle_trans (O:=O) d f;rw[Bool.or_eq_true,Bool.not_eq_true',Bool.not_eq_true']
 cases e:O.blt b a with
 |false=>exact .inl rfl
 |true =>
   right
   cases g:O.blt a b with
   |false=>rfl
   |true=>have:=O.trans _ _ _ e g;rw[O.irrefl] at this;cases this
 rw[Bool.not_eq_true'] at h;exact h
def CT.begs(h:CT W)(f:0<=st/\st<W.sts.length):∃bs,Dr W sc st bs:=by
 obtain⟨bs,c,g⟩:=JP Dq.O (([],sc,st)::BU W ([],sc,st));have d:(([],sc,st)::BU W ([],sc,st)).Nodup:=F4.mpr ⟨S8,Sl _ _⟩
 have e:∀b,b∈bs↔By W sc st b:=λb=>c.mem_iff.trans ⟨λa=>by
  rcases BI.mp a with rfl|a;exact .root
  exact .kid .root a,λa=>by
  rcases h.beg (h.st01 f) a with rfl|⟨a,_⟩;exact BF
  exact Cw _ a⟩
 refine⟨bs,e,c.nodup_iff.mpr d,g,?_⟩;have:=h.few f (c.nodup_iff.mpr d) λb a=>(e b).mp a;lia
set_option tactic.hygienic true in
def CT.uses(h:CT W){bs:List AK}(hB:Dr W sc 0 bs)(ws d:List (List As))(q:Int):q∈Cs W [(bs,ws,d)] []↔q∈(AX W sc).flatMap (CK W 0)++ws.flatMap (EU W.ss):=by
 have e:Cs W [(bs,ws,d)] []=bs.flatMap (BC W)++ws.flatMap (EU W.ss):=by
  unfold Cs FI
  simp
 rw[e,BR,BR];refine or_congr ⟨λa=>?_,λa=>?_⟩ Iff.rfl;obtain⟨b,f,a⟩:=List.mem_flatMap.mp a;rcases h.beg (.inl rfl) ((hB.mem b).mp f) with rfl|⟨_,g⟩;exact a;unfold BC at a;obtain⟨p,_,c⟩:=List.mem_flatMap.mp a;unfold CK at c;rw[g,h.n1] at c;split at c;rename_i i;cases i.2;cases c;exact List.mem_flatMap.mpr ⟨_,(hB.mem _).mpr .root,a⟩
def CT.uses_len(h:CT W){bs:List AK}{ws a:List (List As)}(g:bs.length<=62)(i:ws.length<=62):(Cs W [(bs,ws,a)] []).length<=4000:=by
 have e:Cs W [(bs,ws,a)] []=bs.flatMap (BC W)++ws.flatMap (EU W.ss):=by
  unfold Cs FI
  simp
 have c:=Md (f:=BC W) (n:=16) (l:=bs) λb ζ=>by
  unfold BC;have c:=Md (f:=CK W b.2.2) (n:=2) (l:=AX W b.2.1) λp ζ=>WC W b.2.2 p;have d:=h.steps8 b.2.1;lia
 have d:=Md (f:=EU W.ss) (n:=1) (l:=ws) λw ζ=>S7 W.ss w;rw[e,AO];lia
set_option tactic.hygienic true in
def JQ{a:List (Str × Int)}{b:List (Option (Str × Int))}{p:Ch}{n:Int}(j:p.2.1=("to" : Str)->p.2.2≠n)(g:∀k∈a,k.1=("part" : Str)->k.2≠n)(h:(CQ a b p).1=("to" : Str)):(CQ a b p).2≠n:=by
 have no:¬("no" : Str)=("to" : Str):=(by decide +kernel);have i:¬("open" : Str)=("to" : Str):=(by decide +kernel)
 have o:∀q,(Ef a b q).1=("to" : Str)->(Ef a b q).2≠n:=λq h=>by
  unfold Ef at h ⊢;split at h;split at h;rename_i f;rw[Au f];split at h;rename_i k d;split at h;rename_i c;rw[Au c];exact g k (Bk d) c;exact absurd h no;exact absurd h no;exact absurd h no;exact absurd h i;exact absurd h no
 have m:∀k∈a,(ES a b k).1=("to" : Str)->(ES a b k).2≠n:=λk c h=>by
  unfold ES at h ⊢;split at h;rename_i e;rw[Au e];exact g k c e;rename_i e;rw[At e];split at h;rename_i l;rw[Au l];exact o _ h;exact absurd h no
 unfold CQ at h ⊢;split at h;rename_i e;rw[Au e];exact j e;rename_i e;rw[At e];split at h;split at h;rename_i f;rw[Au f];split at h;rename_i k d;exact m _ (Bk d) h;exact absurd h no;exact absurd h no;exact absurd h i;exact absurd h no
end L2
abbrev L2.SF (n:List (PySem.Str×PySem.NameKind)):PySem.Scope:={kind:=.function,names:=n,isGenerator:=false,isCoroutine:=false,more:=[]}
def L2.new_at{H:L2.Hp}{a:PySem.Addr}{o:L2.HO}(h:H a=none):∃H':L2.Hp,H'=L2.upd H a o/\L2.Ac H H'/\H' a=some o:=⟨_,rfl,L2.AJ h,L2.Aa⟩
variable {i:Nat}
def L2.getm{α β:Type}{f:α->β}{l:List α}{x:β}(h:(l.map f)[i]?=some x):∃z,l[i]?=some z/\f z=x:=by
 rw[AM] at h;exact ER.mp h
namespace K33
open PySem PySem.Spec PyProof.Rows L2 Ord
local macro_rules | `(tactic| trivial) => `(tactic| exact ⟨rfl, rfl, rfl, by decide +kernel, rfl, by decide +kernel, by decide +kernel⟩)
local macro_rules | `(tactic| trivial) => `(tactic| exact ⟨rfl, by decide +kernel, by decide +kernel, by decide +kernel, rfl, by decide +kernel, by decide +kernel⟩)
local macro_rules | `(tactic| rfl') => `(tactic| try dsimp only[AD,Cx.nox,Cx.wish])
def IE:Ag ["_law_cell", "_law_many", "_law_letters", "_law_long", "_law_at", "_law_some", "_law_k", "_law_name", "_law_j", "_law_sign"] ["_law_cell", "_law_many"] (AR QN):=by trivial
def ZI:Ag ["_law_script", "_law_k"] ["_law_script", "_law_k"] (AR QO):=by trivial
def S9:Ag ["_law_cell", "_law_labels", "_law_leaves", "_law_label_here", "_law_number"] ["_law_cell", "_law_labels", "_law_leaves"] (AR QP):=by trivial
def P9:Ag ["_law_cell", "_law_names_here", "_law_labels", "_law_label_here", "_law_name", "_law_number"] ["_law_cell", "_law_names_here", "_law_labels"] (AR QQ):=by trivial
def Qa:Ag ["_law_number", "_law_many", "_law_some", "_law_k"] ["_law_number", "_law_many"] (AR QR):=by trivial
def Mh:Ag ["_law_cell", "_law_labels", "_law_one", "_law_other", "_law_some", "_law_j", "_law_k"] ["_law_cell", "_law_labels"] (AR QS):=by trivial
def Fw:Ag ["_law_script", "_law_names_here", "_law_labels", "_law_head", "_law_spots", "_law_scopes", "_law_cell", "_law_at", "_law_things", "_law_questions", "_law_some", "_law_answers", "_law_k", "_law_ranks_here", "_law_goes", "_law_ends_here", "_law_table"] ["_law_script"] (AR IK):=by trivial
def CV:Am (AR IK) ["_law_script", "_law_names_here", "_law_labels", "_law_head", "_law_spots", "_law_scopes", "_law_cell", "_law_at", "_law_things", "_law_questions", "_law_some", "_law_answers", "_law_k", "_law_ranks_here", "_law_goes", "_law_ends_here", "_law_table"] (SF [ (".0",.local),("_law_k",.local),("_law_head",.free)]) ["_law_k", "_law_head"] 1 [3]:=by trivial
def CW:Am (AR IK) ["_law_script", "_law_names_here", "_law_labels", "_law_head", "_law_spots", "_law_scopes", "_law_cell", "_law_at", "_law_things", "_law_questions", "_law_some", "_law_answers", "_law_k", "_law_ranks_here", "_law_goes", "_law_ends_here", "_law_table"] (SF [(".0",.local),("_law_k",.local)]) ["_law_k"] 1 []:=by trivial
def CY:Am (AR IK) ["_law_script", "_law_names_here", "_law_labels", "_law_head", "_law_spots", "_law_scopes", "_law_cell", "_law_at", "_law_things", "_law_questions", "_law_some", "_law_answers", "_law_k", "_law_ranks_here", "_law_goes", "_law_ends_here", "_law_table"] (SF [ (".0",.local),("_law_k",.local),("_law_names_here",.free),("_law_spots",.free)]) ["_law_k", "_law_spots", "_law_names_here"] 1 [4,1]:=by trivial
def CZ:Am (AR IK) ["_law_script", "_law_names_here", "_law_labels", "_law_head", "_law_spots", "_law_scopes", "_law_cell", "_law_at", "_law_things", "_law_questions", "_law_some", "_law_answers", "_law_k", "_law_ranks_here", "_law_goes", "_law_ends_here", "_law_table"] (SF [(".0",.local),("_law_k",.local)]) ["_law_k"] 1 []:=by trivial
def C0:Am (AR IK) ["_law_script", "_law_names_here", "_law_labels", "_law_head", "_law_spots", "_law_scopes", "_law_cell", "_law_at", "_law_things", "_law_questions", "_law_some", "_law_answers", "_law_k", "_law_ranks_here", "_law_goes", "_law_ends_here", "_law_table"] (SF [ (".0",.local),("_law_k",.local),("_law_labels",.free),("_law_ranks_here",.free)]) ["_law_k", "_law_labels", "_law_ranks_here"] 1 [2,13]:=by trivial
def C3:Am (AR IK) ["_law_script", "_law_names_here", "_law_labels", "_law_head", "_law_spots", "_law_scopes", "_law_cell", "_law_at", "_law_things", "_law_questions", "_law_some", "_law_answers", "_law_k", "_law_ranks_here", "_law_goes", "_law_ends_here", "_law_table"] (SF [ (".0",.local),("_law_j",.cell),("sorted",.globalImplicit),("range",.globalImplicit),("_law_labels",.free),("_law_ranks_here",.free)]) ["_law_j", "_law_labels", "_law_ranks_here"] 1 [2,13]:=by trivial
def C4:Am ((SF [ (".0",.local),("_law_j",.cell),("sorted",.globalImplicit),("range",.globalImplicit),("_law_labels",.free),("_law_ranks_here",.free)])) ["_law_j", "_law_labels", "_law_ranks_here"] (SF [ (".0",.local),("_law_k",.local),("_law_j",.free),("_law_labels",.free),("_law_ranks_here",.free)]) ["_law_k", "_law_labels", "_law_ranks_here", "_law_j"] 1 [1,2,0]:=by trivial
def Ta:Ag ["_law_net", "_law_table", "_law_scope", "_law_state", "_law_name", "_law_marks", "_law_rows", "_law_ends_here"] ["_law_net", "_law_table", "_law_scope", "_law_state", "_law_name", "_law_marks"] (AR OW):=by trivial
def C5:Am (AR OW) ["_law_net", "_law_table", "_law_scope", "_law_state", "_law_name", "_law_marks", "_law_rows", "_law_ends_here"] (SF [ (".0",.local),("_law_k",.local),("_law_ends_here",.free),("_law_marks",.free),("_law_name",.free),("_law_rows",.free),("_law_scope",.free)]) ["_law_k", "_law_marks", "_law_scope", "_law_name", "_law_ends_here", "_law_rows"] 1 [5,2,4,7,6]:=by trivial
def Mi:Ag ["_law_net", "_law_answers", "_law_step_here", "_law_question", "_law_k", "_law_answer", "_law_kind", "_law_number"] ["_law_net", "_law_answers", "_law_step_here"] (AR QU):=by trivial
def IF:Ag ["_law_net", "_law_table", "_law_answers", "_law_scope", "_law_name", "_law_ways_here", "_law_dues", "_law_goes", "_law_k", "_law_step_here", "_law_mark", "_law_word", "_law_number"] ["_law_net", "_law_table", "_law_answers", "_law_scope", "_law_name"] (AR OX):=by trivial
def Ca:Am (AR OX) ["_law_net", "_law_table", "_law_answers", "_law_scope", "_law_name", "_law_ways_here", "_law_dues", "_law_goes", "_law_k", "_law_step_here", "_law_mark", "_law_word", "_law_number"] (SF [ (".0",.local),("_law_label_here",.local),("_law_state",.local)]) ["_law_label_here", "_law_state"] 2 []:=by trivial
def WM:Ag ["_law_net", "_law_mark", "_law_scope"] ["_law_net", "_law_mark"] (AR QV):=by trivial
def Tb:Ag ["_law_net", "_law_table", "_law_one", "_law_other", "_law_a", "_law_b"] ["_law_net", "_law_table", "_law_one", "_law_other"] (AR QW):=by trivial
def WN:Ag ["_law_net", "_law_table", "_law_ways_here", "_law_way", "_law_one"] ["_law_net", "_law_table", "_law_ways_here", "_law_way"] (AR QX):=by trivial
def Qb:Ag ["table", "state", "label", "goes", "known", "number"] ["table", "state", "label"] (AR QY):=by trivial
def Qc:Ag ["net", "answers", "question", "answer", "kind", "number"] ["net", "answers", "question"] (AR QZ):=by trivial
def Tc:Ag ["net", "answers", "thing", "kind", "number"] ["net", "answers", "thing"] (AR Q0):=by trivial
def Oo:Ag ["net", "answers", "step", "label", "kind", "number", "answer"] ["net", "answers", "step"] (AR Q1):=by trivial
def Mj:Ag ["net", "answers", "table", "scope", "state", "gone", "index", "step", "after", "kind", "number"] ["net", "answers", "table", "scope", "state"] (AR Q2):=by trivial
def IG:Ag ["net", "answers", "table", "beginning", "marks", "last", "then", "come_to", "longer", "mark", "kind", "number", "after"] ["net", "answers", "table", "beginning"] (AR OY):=by trivial
def BE:Am (AR OY) ["net", "answers", "table", "beginning", "marks", "last", "then", "come_to", "longer", "mark", "kind", "number", "after"] (SF [(".0",.local),("mark",.local)]) ["mark"] 1 []:=by trivial
def Qd:Ag ["net", "answers", "table", "scope", "state", "found", "place"] ["net", "answers", "table", "scope", "state"] (AR Q3):=by trivial
def WO:Ag ["table", "state", "label", "ends"] ["table", "state", "label"] (AR Q4):=by trivial
def Mk:Ag ["net", "table", "begun", "name", "ways", "marks", "last", "then", "index", "telling"] ["net", "table", "begun", "name"] (AR Q5):=by trivial
def ZJ:Ag ["table"] ["table"] (AR OZ):=by trivial
def Ce:Am (AR OZ) ["table"] (SF [(".0",.local),("pair",.local)]) ["pair"] 1 []:=by trivial
def Ml:Ag ["ways", "tree", "number", "way", "branch", "mark"] ["ways"] (AR Q6):=by trivial
def M5:Ag ["net", "mark", "scope", "kind", "index", "steps", "tellings"] ["net", "mark"] (AR Q7):=by trivial
def Mm:Ag ["net", "better", "tree", "way", "numbers", "branch", "mark", "label", "beside"] ["net", "better", "tree", "way"] (AR Q8):=by trivial
def Td:Ag ["net", "table", "ways", "better", "tree"] ["net", "table", "ways"] (AR O0):=by trivial
def C6:Am (AR O0) ["net", "table", "ways", "better", "tree"] (SF [ (".0",.local),("way",.local),("first_hider",.globalImplicit),("list",.globalImplicit),("better",.free),("net",.free),("tree",.free)]) ["way", "net", "better", "tree"] 1 [0,3,4]:=by trivial
def WP:Ag ["net", "table", "begun", "name", "found"] ["net", "table", "begun", "name"] (AR Q9):=by trivial
def Op:Ag ["net", "table", "found", "owed", "better", "tree", "way", "question"] ["net", "table", "found", "owed"] (AR Ra):=by trivial
def Oq:Ag ["net", "mark", "scope", "kind", "index", "tellings"] ["net", "mark"] (AR Rb):=by trivial
def M6:Ag ["net", "answers", "seen", "way", "label", "name", "kind", "number"] ["net", "answers", "seen"] (AR Rc):=by trivial
def Mn:Ag ["net", "answers", "way", "label", "name", "kind", "number"] ["net", "answers", "way"] (AR Re):=by trivial
def JR:Ag ["net", "answers", "table", "owed", "look", "at", "begun", "found", "seen", "waiting", "way", "question", "meanings"] ["net", "answers", "table", "owed", "look", "at"] (AR MK):=by trivial
def GH:Am (AR MK) ["net", "answers", "table", "owed", "look", "at", "begun", "found", "seen", "waiting", "way", "question", "meanings"] (SF [ (".0",.local),("way",.local),("meaning",.globalImplicit),("answers",.free),("net",.free)]) ["way", "net", "answers"] 1 [0,1]:=by trivial
def GI:Am (AR MK) ["net", "answers", "table", "owed", "look", "at", "begun", "found", "seen", "waiting", "way", "question", "meanings"] (SF [(".0",.local),("thing",.local)]) ["thing"] 1 []:=by trivial
def GJ:Am (AR MK) ["net", "answers", "table", "owed", "look", "at", "begun", "found", "seen", "waiting", "way", "question", "meanings"] (SF [ (".0",.local),("thing",.local),("meanings",.free)]) ["thing", "meanings"] 1 [12]:=by trivial
def JS:Ag ["net", "answers", "table", "begun", "ways", "marks", "last", "then", "mark", "kind", "number", "after"] ["net", "answers", "table", "begun"] (AR Rf):=by trivial
def Gp:Ag ["net", "answers", "table", "asked", "scope", "state", "path", "looks", "things", "at", "name", "begun", "answer", "wait", "kind", "number"] ["net", "answers", "table", "asked"] (AR Rg):=by trivial
def Ot:Ag ["net", "answers", "table", "question", "answer", "wait", "looks", "things"] ["net", "answers", "table", "question"] (AR Rh):=by trivial
def Tf:Ag ["_law_found", "_law_due", "_law_one", "_law_other"] ["_law_found", "_law_due"] (AR Nd):=by trivial
def WQ:Ag ["_law_answers", "_law_telling_here", "_law_answer"] ["_law_answers", "_law_telling_here"] (AR Ri):=by trivial
def M7:Ag ["_law_net", "_law_table", "_law_answers", "_law_ways_here", "_law_dues", "_law_shown", "_law_way", "_law_question", "_law_meant_here", "_law_one"] ["_law_net", "_law_table", "_law_answers", "_law_ways_here", "_law_dues", "_law_shown"] (AR O1):=by trivial
def Du:Am (AR O1) ["_law_net", "_law_table", "_law_answers", "_law_ways_here", "_law_dues", "_law_shown", "_law_way", "_law_question", "_law_meant_here", "_law_one"] (SF [ (".0",.local),("_law_way",.local),("_law_meant",.globalImplicit),("_law_answers",.free),("_law_net",.free)]) ["_law_way", "_law_answers", "_law_net"] 1 [2,0]:=by trivial
def Ou:Ag ["net", "answers", "table", "question", "answer", "wait", "looks", "things"] ["net", "answers", "table", "question"] (AR O3):=by trivial
def CL:Am (AR O3) ["net", "answers", "table", "question", "answer", "wait", "looks", "things"] (SF [ (".0",.local),("begun",.local),("found",.local),("seen",.local)]) ["begun", "found", "seen"] 3 []:=by trivial
def Tg:Ag ["net", "thing", "kind", "number"] ["net", "thing"] (AR Rj):=by trivial
def ZK:Ag ["net", "answer"] ["net", "answer"] (AR Rk):=by trivial
def KI:Ag ["net", "answers", "table", "begun", "questions", "marks", "last", "then", "label", "kind", "number"] ["net", "answers", "table", "begun"] (AR Rl):=by trivial
def Mo:Ag ["net", "found", "questions", "way", "label", "name", "kind", "number"] ["net", "found"] (AR Rm):=by trivial
def M8:Ag ["net", "answers", "table", "looks", "things", "questions", "begun", "found", "seen", "thing"] ["net", "answers", "table", "looks", "things"] (AR Rn):=by trivial
def Ov:Ag ["net", "answers", "table", "question", "answer", "wait", "looks", "things"] ["net", "answers", "table", "question"] (AR Ro):=by trivial
def JT:Ag ["_law_net", "_law_table", "_law_answers", "_law_scope", "_law_ways_here", "_law_goes", "_law_some", "_law_label_here", "_law_kind", "_law_number", "_law_answer", "_law_way", "_law_telling_here"] ["_law_net", "_law_table", "_law_answers", "_law_scope", "_law_ways_here"] (AR O4):=by trivial
def Cb:Am (AR O4) ["_law_net", "_law_table", "_law_answers", "_law_scope", "_law_ways_here", "_law_goes", "_law_some", "_law_label_here", "_law_kind", "_law_number", "_law_answer", "_law_way", "_law_telling_here"] (SF [ (".0",.local),("_law_label_here",.local),("_law_state",.local)]) ["_law_label_here", "_law_state"] 2 []:=by trivial
def GK:Ag ["_law_script", "_law_net", "_law_table", "_law_answers", "_law_handed", "_law_number", "_law_scope", "_law_state", "_law_path", "_law_ways_here", "_law_dues", "_law_shown", "_law_told", "_law_some"] ["_law_script"] (AR IL):=by trivial
def GN:Am (AR IL) ["_law_script", "_law_net", "_law_table", "_law_answers", "_law_handed", "_law_number", "_law_scope", "_law_state", "_law_path", "_law_ways_here", "_law_dues", "_law_shown", "_law_told", "_law_some"] (SF [ (".0",.local),("_law_way",.local),("_law_hidden",.globalImplicit),("_law_net",.free),("_law_table",.free),("_law_ways_here",.free)]) ["_law_way", "_law_net", "_law_table", "_law_ways_here"] 1 [1,2,9]:=by trivial
structure BH (mg:Str->Option Value):Prop where
 b_all:mg "all" = none
 b_any:mg "any" = none
 b_bool:mg "bool" = none
 b_dict:mg "dict" = none
 b_enumerate:mg "enumerate" = none
 b_int:mg "int" = none
 b_isinstance:mg "isinstance" = none
 b_len:mg "len" = none
 b_list:mg "list" = none
 b_min:mg "min" = none
 b_range:mg "range" = none
 b_set:mg "set" = none
 b_sorted:mg "sorted" = none
 b_str:mg "str" = none
 b_tuple:mg "tuple" = none
 b_zip:mg "zip" = none
 c_MOST_BEGINNINGS:∃t,mg "MOST_BEGINNINGS" = some (.int 200 t)
variable {us:List Value}
def H1(h:us.length=1):∃a,us=[a]:=by
 cases us with
 |nil=>cases h
 |cons a t=>exact⟨a,by rw[List.length_eq_zero_iff.mp (Nat.succ.inj h)]⟩
def H2(h:us.length=2):∃a b,us=[a,b]:=by
 cases us with
 |nil=>cases h
 |cons a t =>
   obtain⟨b,rfl⟩:=H1 (Nat.succ.inj h);exact⟨a,b,rfl⟩
def KJ(h:us.length=3):∃a b c,us=[a,b,c]:=by
 cases us with
 |nil=>cases h
 |cons a t =>
   obtain⟨b,c,rfl⟩:=H2 (Nat.succ.inj h);exact⟨a,b,c,rfl⟩
def KL(h:us.length=4):∃a b c d,us=[a,b,c,d]:=by
 cases us with
 |nil=>cases h
 |cons a t =>
   obtain⟨b,c,d,rfl⟩:=KJ (Nat.succ.inj h);exact⟨a,b,c,d,rfl⟩
def KN(h:us.length=5):∃a b c d e,us=[a,b,c,d,e]:=by
 cases us with
 |nil=>cases h
 |cons a t =>
   obtain⟨b,c,d,e,rfl⟩:=KL (Nat.succ.inj h);exact⟨a,b,c,d,e,rfl⟩
def KO(h:us.length=6):∃a b c d e f,us=[a,b,c,d,e,f]:=by
 cases us with
 |nil=>cases h
 |cons a t =>
   obtain⟨b,c,d,e,f,rfl⟩:=KN (Nat.succ.inj h);exact⟨a,b,c,d,e,f,rfl⟩
open PySem PySem.Spec PyProof.Rows L2 in
def B0{P:Program}{w:World}{K:Aj}{g:Str->Option Value}{l:Heap}{x e:Str}{st:Stmt}{f:Addr}{i:FuncData}{N ps:List Str}{k:Nat}{sp:Sp}(F:Bv K x e st f i)(m:g x=some (.ref f))(S:Ag N ps (AR st))(len:∀vs H Q E,sp vs H Q E->vs.length=ps.length)
  (u:∀(d:Value)(A:Around)(v:List Env)(s:Shared)(H:Hp)(vs:List V)(Q:VK)(E:XK),B1 k (A.deeper (envOfC e (AR st) s.heap.objs.size f d))->sp vs H Q E -> ∃t,Ge (AD Iz P w K g l N e (AR st) f d A v s H E).nox (Iv st) t/\t {nx:=λζ H'=>Q .non H',rt:=Q} (start N vs) H)
  (n:∀(kV r o:Value)(p:Option Addr)(d ct:Value)(us:List Value),us.length=ps.length->bindArgs (PySem.W.fnOf x e (Kj st) (Iv st) (AR st) .none kV r o p d ct) ⟨us,[]⟩=pure (ps.zip us):=by intro _ _ _ _ _ _ us a;first|(obtain⟨_,rfl⟩:=H1 a;rfl)|(obtain⟨_,_,rfl⟩:=H2 a;rfl)|(obtain⟨_,_,_,rfl⟩:=KJ a;rfl)|(obtain⟨_,_,_,_,rfl⟩:=KL a;rfl)|(obtain⟨_,_,_,_,_,rfl⟩:=KN a;rfl)|(obtain⟨_,_,_,_,_,_,rfl⟩:=KO a;rfl)):BG P w K g l x (k+1) ps sp:=⟨f,i,F.ok S len u,m,F.kp,F.binds n⟩
def Ox(h:us.length=7):∃a b c d e f g,us=[a,b,c,d,e,f,g]:=by
 cases us with
 |nil=>cases h
 |cons a t =>
   obtain⟨b,c,d,e,f,g,rfl⟩:=KO (Nat.succ.inj h);exact⟨a,b,c,d,e,f,g,rfl⟩
def WR(h:us.length=8):∃a b c d e f g i,us=[a,b,c,d,e,f,g,i]:=by
 cases us with
 |nil=>cases h
 |cons a t =>
   obtain⟨b,c,d,e,f,g,i,rfl⟩:=Ox (Nat.succ.inj h);exact⟨a,b,c,d,e,f,g,i,rfl⟩
section
set_option maxHeartbeats 4000000
seal L2.PE L2.PA L2.PS L2.Ge L2.PT L2.PW L2.PC L2.PG L2.No L2.PI L2.PF L2.Ld L2.Ee L2.O8 L2.Bs L2.MQ L2.Iy L2.RI L2.PO
variable {P:Program} {w:World} {K:Aj} {mg:Str->Option Value} {base:Heap} {f:Addr} {fd:FuncData}
def WS:(("abcdefghijklmnopqrstuvwxyz" : Str)).cps.toList.length=26:=by decide +kernel
def Qe(w:Str)(c:Nat):(w++(⟨#[c]⟩:Str)).length=w.length+1:=by
 show(w.cps++#[c]).size=w.cps.size+1
 simp
def Mp:∀n,n<26->(("abcdefghijklmnopqrstuvwxyz" : Str)).cps.toList[n]?=some (97+n):=by decide +kernel
def WT(n:Int):AS (("abcdefghijklmnopqrstuvwxyz" : Str)).cps.toList (n%26)=some (97+(n%26).toNat):=by
 have a:=Gu n (by decide:(26:Int)≠0);have c:=Gr n (by decide:(0:Int)<26);obtain⟨k,b⟩:=Co a;rw[b,Bl];exact A1 (Mp k (by lia))
def ZL(w:Str)(c:Nat):(w++(⟨#[c]⟩:Str)).cps.toList=w.cps.toList++[c]:=by
 show(w.cps++#[c]).toList=_
 simp
abbrev GY (n:Int):Str:=⟨#[97+(n%26).toNat]⟩
def Mq (c:Int) (k j:Nat):Int:=c/(64+3*(j:Int))+(j:Int)*(c/64%2)+(k:Int)*(if(j:Int)=c/8%(1+c%8) then 1 else 0)
def EV (c:Int) (k:Nat):Nat->Str
 |0 => ""
 |j+1=>EV c k j++GY (Mq c k j)
def Gc (c:Int) (m:Nat):List Str:=(List.range m).map λk=>EV c k (1+c%8).toNat
def GZ (c:Int) (m:Nat):List Str:=if c/128%3=1/\1+c%8<8 then(Gc c m).set 1 (EV c 0 (1+c%8).toNat++GY (c/384)) else Gc c m
theorem JU(c:Int)(k:Nat):∀j,(EV c k j).length=j
 |0=>show("" : Str).length=0 by decide +kernel
 |j+1=>by
   show(EV c k j++GY (Mq c k j)).length=j+1;rw[Qe,JU c k j]
theorem Th(c:Int)(k:Nat){a:Nat}:∀{j:Nat},a<j->(EV c k j).cps.toList[a]?=some (97+(Mq c k a%26).toNat)
 |0,h=>absurd h (Nat.not_lt_zero _)
 |j+1,h=>by
   show(EV c k j++GY (Mq c k j)).cps.toList[a]?=_;rw[ZL];have b:(EV c k j).cps.toList.length=j:=by rw[Array.length_toList];exact JU c k j
   by_cases d:a<j;rw[EQ (by rw[b];exact d)];exact Th c k d;have e:a=j:=(by lia);subst e;rw[E8 (by rw[b];exact AG _),b,Nat.sub_self];rfl
def Oy(c:Int)(m:Nat):(Gc c m).length=m:=by unfold Gc;rw[Ak,List.length_range]
def Ti(c:Int)(m:Nat):(GZ c m).length=m:=by
 unfold GZ;split;rw[Iq,Oy];exact Oy c m
variable {c:Int}{j:Nat}
def Mr(l:i<26)(m:j<26)(h:EV c i (1+c%8).toNat=EV c j (1+c%8).toNat):i=j:=by
 have g:=Gu (c/8) (show(1+c%8)≠0 by lia);have n:=Gr (c/8) (show 0<1+c%8 by lia);obtain⟨a,k⟩:=Co g;have f:a<(1+c%8).toNat:=(by lia);have e:=Th c i f;rw[h,Th c j f] at e;have d:=BS e;unfold Mq at d;rw[Au k.symm] at d;generalize c/(64+3*(a:Int))+(a:Int)*(c/64%2)=b at d;lia
variable {m:Nat}
def Ia(d:m<=26):(Gc c m).Nodup:=by
 unfold Gc;refine List.pairwise_iff_getElem.mpr λi j a b f e=>?_;rw[Ak,List.length_range] at a b;rw[List.getElem_map,List.getElem_map,List.getElem_range,List.getElem_range] at e;have:=Mr (by lia) (by lia) e;lia
def ZM:∀y∈Gc c m,y.length=(1+c%8).toNat:=λy a=>by
 obtain⟨k,_,rfl⟩:=AF.mp a;exact JU _ _ _
def ZN(a:m<=26):(GZ c m).Nodup:=by
 unfold GZ;split;refine List.pairwise_iff_getElem.mpr λi j f g h e=>?_;rw[Iq,Oy] at f g;have d:∀(k:Nat)(b:k<(Gc c m).length),(Gc c m)[k].length=(1+c%8).toNat:=λk b=>ZM _ (Dk b);rw[List.getElem_set,List.getElem_set] at e;split at e;rw[At (by lia)] at e;have:=Bq Str.length e;rw[Qe,JU,d] at this;lia;split at e;have:=Bq Str.length e;rw[Qe,JU,d] at this;lia;exact absurd e ((List.pairwise_iff_getElem.mp (Ia (c:=c) a)) i j _ _ h);exact Ia a
variable {k:Nat}
def ZO:(EV c k (1+c%8).toNat).length<=8:=by rw[JU];lia
set_option tactic.hygienic true in
def KP:∀x∈GZ c m,x.length<=8:=by
 intro x a;unfold GZ at a
 have b:∀y∈Gc c m,y.length<=8:=λy d=>by
  obtain⟨k,_,rfl⟩:=AF.mp d;exact ZO
 split at a;rename_i e;rcases List.mem_or_eq_of_mem_set a with h|rfl;exact b x h;rw[Qe,JU];lia;exact b x a
inductive Dv (K:Aj) (vs:List V) (H:Hp) (Q:VK):Prop where
 |mk (c:Int) (m:Nat) (h0:vs=[.int c,.int m]) (h1:2<=m) (h2:m<=26) (h3:∀(L:Addr)(H':Hp),H L=none->Ac H H'->H' L=some (.lst ((GZ c m).map V.str))->Q (.ref L) H'):Dv K vs H Q
def ZP (K:Aj):Sp:=λvs H Q ζ=>Dv K vs H Q
abbrev Tj(P w K mg base):=BG P w K mg base "_law_names" 1 ["_law_cell", "_law_many"] (ZP K)
theorem ZQ(B:BH mg)(F:Bv K "_law_names" "_law_names" QN f fd)(M:mg "_law_names" = some (.ref f)):Tj P w K mg base:=by
 refine B0 F M IE (λN H Q E h=>?_) (λae A ag s H N Q E hr h=>?_);obtain⟨c,m,rfl,_⟩:=h;rfl
 . obtain⟨c,m,rfl,m0,m9,q⟩:=h
   refine⟨_,(Ar (AN (i:=2) IE.nd AW)
    (Ar (AN (i:=3) IE.nd (AZ Kp Ah (AZ CO (pv 0) Ah)))
    (Ar (AN (i:=4) IE.nd (AZ CO (AZ Hs (pv 0) Ah) (pv 3)))
    (Ar (AN (i:=5) IE.nd (Cg Ae))
    (Ar (Cz Cu rfl (Gg rfl B.b_range (Ab (pv 1) Ae)) (Av (i:=6) IE.nd) (Ar (AN (i:=7) IE.nd AW)
     (Ar (Cz Cu rfl (Gg rfl B.b_range (Ab (pv 3) Ae)) (Av (i:=8) IE.nd) (Ar (AN (i:=9) IE.nd (AZ Kp (AZ Hs (pv 0) (AZ Kp Ah (AZ Gz Ah (pv 8)))) (AZ Gz (pv 8) (AZ CO (AZ Hs (pv 0) Ah) Ah))))
      (Aw (AN (i:=7) IE.nd (AZ Uo (pv 7) (An Ao (pv 2) (AZ CO (AZ Kp (pv 9) (AZ Gz (pv 6) (I7 O9 B.b_int (Ab (Ix B8 (pv 8) (pv 4) (Bj _)) Ae)))) Ah)))))))
     (Aw (Eo (DQ Ec Fk Fl Fp (pv 5) (Ab (pv 7) Ae)))))))
    (Ar (Bb (PW.pt (Gx (Bp B8 (AZ CO (AZ Hs (pv 0) Ah) Ah) Ah (Bj _)) (GU (Bp IX (pv 3) Ah (Bj _))))) (Aw (DJ (AZ Uo (An Ao (pv 5) Ah) (An Ao (pv 2) (AZ CO (AZ Hs (pv 0) Ah) Ah))) (Le (pv 5) Ah XA))) Ba)
    (Aw (AI (pv 5))))))))),?_⟩
   rfl';refine RY ?_;cbv;refine⟨(by show(0:Int)<8;decide),?_⟩;cbv;have z0:1<=1+c%8/\1+c%8<=8:=(by lia);refine⟨⟨by decide,by decide⟩,(by show 0<1+c%8;lia),?_⟩;cbv;refine⟨by decide,λL t=>?_⟩;obtain⟨aa,T,O,U⟩:=new_at (o:=.lst []) t;rw[<-T];refine⟨by lia,by lia,Lh (lo:=0) (n:=m) (λi σ g=>∃u v a d,σ=[some (.int c),some (.int m),some (.str "abcdefghijklmnopqrstuvwxyz"),some (.int (1+c%8)),some (.int (c/8%(1+c%8))),some (.ref L),u,v,a,d]/\Ac H g/\g L=some (.lst ((Gc c i).map V.str))) ⟨none,none,none,none,rfl,O,U⟩ ?_ ?_⟩;rotate_left
   . refine λσ Y G=>AL λR r=>?_
     obtain⟨u,v,a,d,rfl,p,l⟩:=G;refine r ?_;clear r;cbv;refine Lz (λσ' g=>σ'=[some (.int c),some (.int m),some (.str "abcdefghijklmnopqrstuvwxyz"),some (.int (1+c%8)),some (.int (c/8%(1+c%8))),some (.ref L),u,v,a,d]/\Ac H g/\g L=some (.lst ((GZ c m).map V.str))) ?_ (λab x=>?_)
     case refine_2 =>
      refine⟨⟨by decide,by decide⟩,(by show(0:Int)<3;decide),rfl,rfl,Ap (λy=>?_) (λy=>Bm ?_)⟩;rotate_left;have I:¬c/128%3=1:=λe=>y (A5 (by show V.int (c/128%3)=V.int 1;rw[e]));refine x _ _ ⟨rfl,p,?_⟩;unfold GZ;rw[At λz=>I z.1];exact l;have I:c/128%3=1:=V.int.inj (Be y);refine⟨rfl,Ap (λC=>?_) (λC=>?_)⟩;rotate_left;have J:¬1+c%8<8:=λe=>C (A5 e);refine x _ _ ⟨rfl,p,?_⟩;unfold GZ;rw[At λz=>J z.2];exact l;have J:1+c%8<8:=Be C;have hl:(Gc c m).length=m:=Oy c m
      have W:(Gc c m)[0]?=some (EV c 0 (1+c%8).toNat):=by
       unfold Gc;rw[AM,List.getElem?_range (by lia)];rfl
      have X:AS ((Gc c m).map V.str) 0=some (V.str (EV c 0 (1+c%8).toNat)):=A1 (j:=0) (by rw[AM,W];rfl);refine Or.inl ⟨_,.str (EV c 0 (1+c%8).toNat),Af.of l,X,⟨by decide,by decide⟩,(by show(0:Int)<26;decide),Or.inr (Or.inr ⟨_,_,_,rfl,rfl,by decide +kernel,WT (c/384),EV c 0 (1+c%8).toNat,_,rfl,rfl,?_,L,_,_,1,rfl,rfl,l,?_,?_⟩)⟩;show(EV c 0 (1+c%8).toNat).length+1<=sizeLine;rw[JU];exact CU (BL (by lia));exact LA (k:=1) (by decide) (by rw[Ak];lia);refine x _ _ ⟨rfl,λb o e=>?_,?_⟩;rw[AH (AV e t)];exact p _ _ e;unfold GZ;rw[Aa,Au ⟨I,J⟩,List.map_set]
     rintro σ' D ⟨rfl,S,Z⟩;exact q L D t S Z
   refine λi σ Y hi G=>AL λR r=>?_;obtain⟨u,v,a,d,rfl,p,l⟩:=G;refine r ?_;clear r;refine RY ?_;cbv;refine⟨by lia,by lia,Lh (lo:=0) (n:=(1+c%8).toNat) (λj σ g=>∃(a d:Option V),σ=[some (.int c),some (.int m),some (.str "abcdefghijklmnopqrstuvwxyz"),some (.int (1+c%8)),some (.int (c/8%(1+c%8))),some (.ref L),some (.int (0+(i:Int))),some (.str (EV c i j)),a,d]/\g=Y) ⟨_,_,rfl,rfl⟩ ?_ ?_⟩;rotate_left;rintro σ D ⟨a,d,rfl,rfl⟩;refine⟨Or.inl ⟨rfl,_,Af.of l⟩,_,l,by rw[Ak,Oy];exact BL (by lia),?_⟩;refine⟨_,_,_,_,rfl,λb o e=>?_,?_⟩;rw[AH (AV e t)];exact p _ _ e;rw[Aa];unfold Gc;rw[List.range_succ,A8,A8];rfl;rintro j σ D hj ⟨a,d,rfl,rfl⟩;have af:j<8:=(by lia);refine⟨Or.inl ⟨by lia,by lia⟩,⟨by lia,by lia⟩,⟨by decide,by decide⟩,(by show(0:Int)<2;decide),Or.inl ⟨by lia,by lia⟩,?_⟩;refine⟨rfl,Or.inr ⟨_,rfl,Or.inl ⟨by lia,by lia⟩,(by show(0:Int)<26;decide),Or.inr (Or.inr ⟨_,_,_,rfl,rfl,by decide +kernel,WT _,EV c i j,_,rfl,rfl,?_,?_⟩)⟩⟩;show(EV c i j).length+1<=sizeLine;rw[JU];exact CU (BL (by lia));refine⟨some (.int (0+(j:Int))),some (.int (c/(64+3*(0+(j:Int)))+(0+(j:Int))*(c/64%2))),?_,rfl⟩
   have e:EV c i (j+1)=EV c i j++GY (c/(64+3*(0+(j:Int)))+(0+(j:Int))*(c/64%2)+(0+(i:Int))*(if decide (V.int (0+(j:Int))=V.int (c/8%(1+c%8)))=true then 1 else 0)):=by
    show EV c i j++GY (Mq c i j)=_;unfold Mq;simp only[Int.zero_add,decide_eq_true_eq,V.int.injEq]
   rw[e];rfl
variable {ns:List Int}
def ZR{k:Int}(b:0<=k)(c:k<ns.length):AS (ns.map V.int) k=some (V.int (Hb ns k)):=by
 obtain⟨n,rfl⟩:=Co b;have a:n<ns.length:=(by lia);refine A1 ?_;rw[AM,AB a];show some (V.int ns[n])=some (V.int ((ns[((n:Int)).toNat]?).getD 0));rw[Bl,AB a];rfl
def ZS{k:Int}(a:0<=k)(b:¬k<ns.length):Hb ns k=0:=by
 unfold Hb;rw[G5 (by lia)];rfl
def ZT (K:Aj):Sp:=λvs H Q ζ=>∃a ns k,vs=[.ref a,.int k]/\0<=k/\Af K H a (ns.map V.int)/\Q (.int (Hb ns k)) H
abbrev Oz(P w K mg base):=BG P w K mg base "_law_cell_at" 1 ["_law_script", "_law_k"] (ZT K)
theorem ZU(B:BH mg)(F:Bv K "_law_cell_at" "_law_cell_at" QO f fd)(g:mg "_law_cell_at" = some (.ref f)):Oz P w K mg base:=by
 refine B0 F g ZI (λi H Q E h=>?_) (λl A m s H i Q E j h=>?_);obtain⟨a,ns,k,rfl,_⟩:=h;rfl;obtain⟨a,ns,k,rfl,d,e,q⟩:=h
 refine⟨_,(Ar (Bb (Bp IX (pv 1) (CH GA B.b_len (Ab (pv 0) Ae)) (Bj _)) (Aw (AI (An Ao (pv 0) (pv 1)))) Ba)
  (Aw (AI Ah))),?_⟩
 rfl';refine⟨_,Or.inl ⟨_,e,rfl⟩,rfl,?_⟩;rw[Ak];refine Ap (λb=>?_) (λc=>?_);have b:=Be b;exact Or.inl ⟨_,_,e,ZR d b,q⟩;have c:¬k<(ns.length:Int):=λz=>c (A5 z);show Q (.int 0) H;rw[ZS d c] at q;exact q
def Ms (lv:List Int) (c:Int):Str×Int:=if c*16807%65519%3=0 then("to",lv.getD (c*69621%65497%3).toNat 0) else("by",c*69621%65497%5)
def M9 (ls:List Str) (lv:List Int) (c:Int):Ch:=(ls.getD (c*48271%65521%5).toNat default,Ms lv c)
variable {xs:List Str}
def ZV{i:Int}(b:0<=i)(c:i<xs.length):AS (xs.map V.str) i=some (.str (xs.getD i.toNat default)):=by
 obtain⟨n,rfl⟩:=Co b;have a:n<xs.length:=(by lia);rw[Bl,B6,AB a];exact A1 (by rw[AM,AB a];rfl)
def ZW{xs:List Int}{i:Int}(b:0<=i)(c:i<xs.length):AS (xs.map V.int) i=some (.int (xs.getD i.toNat 0)):=by
 obtain⟨n,rfl⟩:=Co b;have a:n<xs.length:=(by lia);rw[Bl,B6,AB a];exact A1 (by rw[AM,AB a];rfl)
def WU:([]:List V).length+1+1+1<=sizeLine:=by decide
inductive DT (K:Aj) (vs:List V) (H:Hp) (Q:VK):Prop where
 |mk (c:Int) (L V0:Addr) (ls:List Str) (lv:List Int) (h0:vs=[.int c,.ref L,.ref V0]) (h1:Af K H L (ls.map V.str)) (h2:ls.length=5) (h3:Af K H V0 (lv.map V.int)) (h4:lv.length=3) (h5:∀(p:Addr)(H':Hp),H p=none->Ac H H'->H' p=some (.tup (Gk (M9 ls lv c)))->Q (.ref p) H'):DT K vs H Q
def ZX (K:Aj):Sp:=λvs H Q ζ=>DT K vs H Q
abbrev Tk(P w K mg base):=BG P w K mg base "_law_step" 1 ["_law_cell", "_law_labels", "_law_leaves"] (ZX K)
def ZY(B:BH mg)(F:Bv K "_law_step" "_law_step" QP f fd)(m:mg "_law_step" = some (.ref f)):Tk P w K mg base:=by
 refine B0 F m S9 (λn H Q E h=>?_) (λI A J s H n Q E y h=>?_);obtain⟨c,L,o,g,a,rfl,_⟩:=h;rfl;obtain⟨c,L,o,g,a,rfl,r,z,t,C,q⟩:=h;have u:=Gu (c*48271%65521) (by decide:(5:Int)≠0);have D:=Gr (c*48271%65521) (by decide:(0:Int)<5);have v:=Gu (c*69621%65497) (by decide:(3:Int)≠0);have G:=Gr (c*69621%65497) (by decide:(0:Int)<3)
 refine⟨_,(Ar (AN (i:=3) S9.nd (An Ao (pv 1) (AZ CO (AZ CO (AZ Gz (pv 0) Ah) Ah) Ah)))
  (Ar (AN (i:=4) S9.nd (AZ CO (AZ Gz (pv 0) Ah) Ah))
  (Ar (Bb (Bp B8 (AZ CO (AZ CO (AZ Gz (pv 0) Ah) Ah) Ah) Ah (Bj _)) (Aw (AI (AQ (Ab (pv 3) (Ab AW (Ab (An Ao (pv 2) (AZ CO (pv 4) Ah)) Ae)))))) Ba)
  (Aw (AI (AQ (Ab (pv 3) (Ab AW (Ab (AZ CO (pv 4) Ah) Ae))))))))),?_⟩
 rfl';refine⟨Or.inr ⟨by decide,by decide⟩,(by show(0:Int)<65521;decide),(by show(0:Int)<5;decide),Or.inl ⟨_,_,r,ZV u (by lia),?_⟩⟩;refine⟨Or.inr ⟨by decide,by decide⟩,(by show(0:Int)<65497;decide),?_⟩;have l:∀k,Ms a c=k->∀p,H p=none->Q (.ref p) (upd H p (.tup [.str (g.getD (c*48271%65521%5).toNat default),.str k.1,.int k.2])):=λk x p j=>q p _ j (AJ j) (by rw[Aa,<-x];rfl);refine⟨Or.inr ⟨by decide,by decide⟩,(by show(0:Int)<65519;decide),(by show(0:Int)<3;decide),rfl,rfl,Ap (λb=>?_) (λb=>?_)⟩;have d:c*16807%65519%3=0:=V.int.inj (Be b);exact⟨(by show(0:Int)<3;decide),Or.inl ⟨_,_,t,ZW v (by lia),WU,l (("to" : Str),a.getD (c*69621%65497%3).toNat 0) (Au d)⟩⟩;have d:¬c*16807%65519%3=0:=λe=>b (A5 (by show V.int (c*16807%65519%3)=V.int 0;rw[e]));exact⟨(by show(0:Int)<5;decide),WU,l (("by" : Str),c*69621%65497%5) (At d)⟩
def Mt (c:Int):Str×Int:=if c*69621%65497%4=0 then("by",c*69621%65497/4%5) else("thing",c*69621%65497/4%6)
def JV (c:Int):Nat:=if c*16807%65519%4=0 then 1 else 0
def Qf (ns ls:List Str) (c:Int):DK:=(ls.getD (c*48271%65521%5).toNat default,ns.getD (JV c) default,Mt c)
def Mu(ns ls:List Str)(c:Int):Ft ((6:Nat):Int) ((6:Nat):Int) (Qf ns ls c):=by
 unfold Qf Ft Mt;dsimp only;split;exact .inr ⟨rfl,Gu _ (by lia),Int.lt_of_lt_of_le (Gr _ (by lia)) (by decide)⟩;exact .inl ⟨rfl,Gu _ (by lia),Gr _ (by lia)⟩
def Tl{i:Int}(b:0<=i)(c:i<xs.length):AS (xs.map V.str) i=some (.str (xs.getD i.toNat default)):=by
 obtain⟨n,rfl⟩:=Co b;have a:n<xs.length:=(by lia);rw[Bl,B6,AB a];exact A1 (by rw[AM,AB a];rfl)
def Ib:([]:List V).length+1+1+1+1<=sizeLine:=by decide
inductive CB (K:Aj) (vs:List V) (H:Hp) (Q:VK):Prop where
 |mk (c:Int) (L N:Addr) (ls ns:List Str) (h0:vs=[.int c,.ref N,.ref L]) (h1:Af K H L (ls.map V.str)) (h2:ls.length=5) (h3:Af K H N (ns.map V.str)) (h4:ns.length=2) (h5:∀(p:Addr)(H':Hp),H p=none->Ac H H'->H' p=some (.tup (Fs (Qf ns ls c)))->Q (.ref p) H'):CB K vs H Q
def ZZ (K:Aj):Sp:=λvs H Q ζ=>CB K vs H Q
abbrev To(P w K mg base):=BG P w K mg base "_law_telling" 1 ["_law_cell", "_law_names_here", "_law_labels"] (ZZ K)
theorem Z0(B:BH mg)(F:Bv K "_law_telling" "_law_telling" QQ f fd)(l:mg "_law_telling" = some (.ref f)):To P w K mg base:=by
 refine B0 F l P9 (λm H Q E h=>?_) (λD A G s H m Q E v h=>?_);obtain⟨c,L,N,d,ns,rfl,_⟩:=h;rfl;obtain⟨c,L,N,d,ns,rfl,n,x,o,y,q⟩:=h;have r:=Gu (c*48271%65521) (by decide:(5:Int)≠0);have C:=Gr (c*48271%65521) (by decide:(0:Int)<5)
 refine⟨_,(Ar (AN (i:=3) P9.nd (An Ao (pv 2) (AZ CO (AZ CO (AZ Gz (pv 0) Ah) Ah) Ah)))
  (Ar (AN (i:=4) P9.nd (An Ao (pv 1) (I7 O9 B.b_int (Ab (Ix B8 (AZ CO (AZ CO (AZ Gz (pv 0) Ah) Ah) Ah) Ah (Bj _)) Ae))))
  (Ar (AN (i:=5) P9.nd (AZ CO (AZ Gz (pv 0) Ah) Ah))
  (Ar (Bb (Bp B8 (AZ CO (pv 5) Ah) Ah (Bj _)) (Aw (AI (AQ (Ab (pv 3) (Ab (pv 4) (Ab AW (Ab (AZ CO (AZ Hs (pv 5) Ah) Ah) Ae))))))) Ba)
  (Aw (AI (AQ (Ab (pv 3) (Ab (pv 4) (Ab AW (Ab (AZ CO (AZ Hs (pv 5) Ah) Ah) Ae))))))))))),?_⟩
 rfl';refine⟨Or.inr ⟨by decide,by decide⟩,(by show(0:Int)<65521;decide),(by show(0:Int)<5;decide),Or.inl ⟨_,_,n,Tl r (by lia),?_⟩⟩
 have u:AS (ns.map V.str) (if decide (V.int (c*16807%65519%4)=V.int 0)=true then 1 else 0)=some (.str (ns.getD (JV c) default)):=by
  unfold JV;by_cases e:c*16807%65519%4=0;rw[Au (A5 (by rw[e])),Au e];exact Tl (by decide) (by lia);rw[At (λz=>e (V.int.inj (Be z))),At e];exact Tl (by decide) (by lia)
 refine⟨Or.inr ⟨by decide,by decide⟩,(by show(0:Int)<65519;decide),(by show(0:Int)<4;decide),rfl,Or.inr ⟨_,rfl,Or.inl ⟨_,_,o,u,?_⟩⟩⟩;refine⟨Or.inr ⟨by decide,by decide⟩,(by show(0:Int)<65497;decide),?_⟩;have j:∀k,Mt c=k->∀p,H p=none->Q (.ref p) (upd H p (.tup [.str (d.getD (c*48271%65521%5).toNat default),.str (ns.getD (JV c) default),.str k.1,.int k.2])):=λk t p g=>q p _ g (AJ g) (by rw[Aa,<-t];rfl);refine⟨(by show(0:Int)<4;decide),rfl,rfl,Ap (λa=>?_) (λa=>?_)⟩;have b:c*69621%65497%4=0:=V.int.inj (Be a);exact⟨⟨by decide,by decide⟩,(by show(0:Int)<5;decide),Ib,j (("by" : Str),c*69621%65497/4%5) (Au b)⟩;have b:¬c*69621%65497%4=0:=λe=>a (A5 (by show V.int (c*69621%65497%4)=V.int 0;rw[e]));exact⟨⟨by decide,by decide⟩,(by show(0:Int)<6;decide),Ib,j (("thing" : Str),c*69621%65497/4%6) (At b)⟩
def OA (n:Int):Nat->Int
 |0=>n
 |k+1=>OA n k/5
def G3 (n:Int) (m:Nat):List Int:=(List.range m).map λk=>OA n k%5
def Qg(n:Int)(m:Nat):(G3 n m).length=m:=by unfold G3;rw[Ak,List.length_range]
def Z1(n:Int)(m:Nat):G3 n (m+1)=G3 n m++[OA n m%5]:=by unfold G3;rw[List.range_succ,A8];rfl
def Tp(n:Int)(h:k<m):(G3 n m)[k]?=some (OA n k%5):=by unfold G3;rw[AM,List.getElem?_range h];rfl
inductive Dw (K:Aj) (vs:List V) (H:Hp) (Q:VK):Prop where
 |mk (n:Int) (m:Nat) (h0:vs=[.int n,.int m]) (h1:m<=100) (h2:∀(D:Addr)(H':Hp),H D=none->Ac H H'->H' D=some (.lst ((G3 n m).map V.int))->Q (.ref D) H'):Dw K vs H Q
def Z2 (K:Aj):Sp:=λvs H Q ζ=>Dw K vs H Q
abbrev Qh(P w K mg base):=BG P w K mg base "_law_ranks" 1 ["_law_number", "_law_many"] (Z2 K)
theorem Z3(B:BH mg)(F:Bv K "_law_ranks" "_law_ranks" QR f fd)(j:mg "_law_ranks" = some (.ref f)):Qh P w K mg base:=by
 refine B0 F j Qa (λl H Q E h=>?_) (λx A y s H l Q E u h=>?_);obtain⟨n,m,rfl,_⟩:=h;rfl
 . obtain⟨n,m,rfl,j,q⟩:=h
   refine⟨_,(Ar (AN (i:=2) Qa.nd (Cg Ae))
    (Ar (Cz Cu rfl (Gg rfl B.b_range (Ab (pv 1) Ae)) (Av (i:=3) Qa.nd) (Ar (Eo (DQ Ec Fk Fl Fp (pv 2) (Ab (AZ CO (pv 0) Ah) Ae)))
     (Aw (AN (i:=0) Qa.nd (AZ Hs (pv 0) Ah)))))
    (Aw (AI (pv 2))))),?_⟩
   rfl';refine⟨by decide,λD c=>?_⟩;obtain⟨U,r,p,t⟩:=new_at (o:=.lst []) c;rw[<-r];refine⟨by lia,by lia,Lh (lo:=0) (n:=m) (λi σ k=>∃d,σ=[some (.int (OA n i)),some (.int m),some (.ref D),d]/\Ac H k/\k D=some (.lst ((G3 n i).map V.int))) ⟨none,rfl,p,t⟩ ?_ ?_⟩;rotate_left;rintro σ Y ⟨d,rfl,g,a⟩;exact q D Y c g a;rintro i σ Y v ⟨d,rfl,g,a⟩;refine⟨Or.inl ⟨rfl,_,Af.of a⟩,(by show(0:Int)<5;decide),_,a,by rw[Ak,Qg];exact BL (by lia),?_⟩;refine⟨⟨by decide,by decide⟩,?_⟩;refine⟨_,rfl,λb o e=>?_,?_⟩;rw[AH (AV e c)];exact g _ _ e;rw[Aa,Z1,A8];rfl
def EG (ls:List Str) (one oth:List Int) (j k:Nat):A':=if one.getD j 0<one.getD k 0/\oth.getD j 0<oth.getD k 0 then[(ls.getD j default,ls.getD k default)] else[]
def F0 (ls:List Str) (one oth:List Int) (j n:Nat):A':=(List.range n).flatMap (EG ls one oth j)
def E5 (ls:List Str) (one oth:List Int) (n:Nat):A':=(List.range n).flatMap λj=>F0 ls one oth j ls.length
def Qi(ls:List Str)(one a:List Int)(j n:Nat):F0 ls one a j (n+1)=F0 ls one a j n++EG ls one a j n:=by unfold F0;rw[List.range_succ,List.flatMap_append];simp
def WV(ls:List Str)(one a:List Int)(n:Nat):E5 ls one a (n+1)=E5 ls one a n++F0 ls one a n ls.length:=by unfold E5;rw[List.range_succ,List.flatMap_append];simp
def Z4(ls:List Str)(one a:List Int)(j k:Nat):(EG ls one a j k).length<=1:=by unfold EG;split<;>simp
theorem Tq(ls:List Str)(one a:List Int)(j:Nat):∀n,(F0 ls one a j n).length<=n
 |0=>AG _
 |n+1=>by
   rw[Qi,AO];have:=Tq ls one a j n;have:=Z4 ls one a j n;lia
theorem Qj(ls:List Str)(one a:List Int):∀n,(E5 ls one a n).length<=n*ls.length
 |0=>by simp[E5]
 |n+1=>by
   rw[WV,AO,Nat.succ_mul];have:=Qj ls one a n;have:=Tq ls one a n ls.length;lia
def Gq (c:Int) (m:Nat):List Int:=G3 (c*48271%2147483647) m
def F1 (c:Int) (m:Nat):List Int:=if c%2=1 then G3 (c*69621%2147483629) m else Gq c m
def WW(c:Int)(m:Nat):(Gq c m).length=m:=Qg _ _
def JW(c:Int)(m:Nat):(F1 c m).length=m:=by unfold F1;split;exact Qg _ _;exact WW _ _
structure EH (c:Int) (ls:List Str) (ord:A'):Prop where
 perm:ord.Perm (E5 ls (Gq c ls.length) (F1 c ls.length) ls.length)
 srt:ord.Pairwise (BM B2 B2).kle
variable {ls:List Str}{o:A'}
def EH.uniq{u:A'}(h:EH c ls o)(k:EH c ls u):o=u:=LI (O:=BM B2 B2) (h.perm.trans k.perm.symm) h.srt k.srt
def EH.len(h:EH c ls o)(a:ls.length<=6):o.length<=36:=by
 have b:=h.perm.length_eq;have d:=Qj ls (Gq c ls.length) (F1 c ls.length) ls.length;have e:ls.length*ls.length<=6*6:=Nat.mul_le_mul a a;lia
set_option tactic.hygienic true in
def EH.irr(h:EH c ls o)(g:ls.Nodup)(x:Str):(x,x)∉o:=λi=>by
 have l:=h.perm.mem_iff.mp i;obtain⟨j,b,m⟩:=List.mem_flatMap.mp l;obtain⟨k,d,a⟩:=List.mem_flatMap.mp m;rw[List.mem_range] at b d;unfold EG at a;split at a;rename_i p;have e:=A9.mp a;have n:x=ls.getD j default:=Bq Prod.fst e;have f:x=ls.getD k default:=Bq Prod.snd e;rw[n,B6,B6,AB b,AB d] at f
 have:=(List.getElem_inj g).mp (show ls[j]=ls[k] from f)
 subst this;exact absurd p.1 (Int.lt_irrefl _);cases a
variable {x:Str}
set_option tactic.hygienic true in
def Ic{one d:List Int}{y:Str}(h:(x,y)∈E5 ls one d ls.length):∃j k,ls[j]?=some x/\ls[k]?=some y/\one.getD j 0<one.getD k 0/\d.getD j 0<d.getD k 0:=by
 obtain⟨j,b,i⟩:=List.mem_flatMap.mp h;obtain⟨k,c,a⟩:=List.mem_flatMap.mp i;rw[List.mem_range] at b c;unfold EG at a;split at a;rename_i l;have e:=A9.mp a;have f:x=ls.getD j default:=Bq Prod.fst e;have g:y=ls.getD k default:=Bq Prod.snd e;rw[B6,AB b] at f;rw[B6,AB c] at g;refine⟨j,k,?_,?_,l⟩;rw[AB b,f];rfl;rw[AB c,g];rfl;cases a
def Mv{one a:List Int}{y:Str}(b:ls[j]?=some x)(c:ls[k]?=some y)(h:one.getD j 0<one.getD k 0/\a.getD j 0<a.getD k 0):(x,y)∈E5 ls one a ls.length:=by
 refine List.mem_flatMap.mpr ⟨j,List.mem_range.mpr (Bi.mp b).1,List.mem_flatMap.mpr ⟨k,List.mem_range.mpr (Bi.mp c).1,?_⟩⟩;unfold EG;rw[Au h,B6,B6,b,c];exact A9.mpr rfl
def EH.tr(h:EH c ls o)(b:ls.Nodup)(x y z:Str)(d:(x,y)∈o)(e:(y,z)∈o):(x,z)∈o:=by
 obtain⟨j,k,f,a,n,p⟩:=Ic (h.perm.mem_iff.mp d);obtain⟨g,l,i,m,q,r⟩:=Ic (h.perm.mem_iff.mp e);have:k=g:=(List.getElem?_inj (Bi.mp a).1 b).mp (a.trans i.symm);subst this;exact h.perm.mem_iff.mpr (Mv f m ⟨by lia,by lia⟩)
def KQ{xs:List Int}{v:Int}(h:xs[i]?=some v):xs.getD i 0=v:=by rw[B6,h];rfl
def WX{v:Str}(h:xs[i]?=some v):xs.getD i default=v:=by rw[B6,h];rfl
inductive Dx (K:Aj) (vs:List V) (H:Hp) (Q:VK):Prop where
 |mk (c:Int) (l:Addr) (ls:List Str) (h0:vs=[.int c,.ref l]) (h1:Af K H l (ls.map V.str)) (h2:ls.length<=6) (h3:∀(D:Addr)(ts:List Addr)(ord:A')(H':Hp),H D=none->Ac H H'->H' D=some (.lst (ts.map V.ref))->Cc H' ts ord->EH c ls ord->Q (.ref D) H'):Dx K vs H Q
def Z5 (K:Aj):Sp:=λvs H Q ζ=>Dx K vs H Q
abbrev Tr(P w K mg base):=BG P w K mg base "_law_order" 2 ["_law_cell", "_law_labels"] (Z5 K)
theorem Z6(B:BH mg)(ag:Qh P w K mg base)(F:Bv K "_law_order" "_law_order" QS f fd)(hm:mg "_law_order" = some (.ref f)):Tr P w K mg base:=by
 refine B0 F hm Mh (λvs H a0 a3 h=>?_) (λaL aF aO aG H vs a0 a3 hr h=>?_);obtain⟨c,l,ls,rfl,_⟩:=h;rfl
 . obtain⟨c,l,ls,rfl,E,U,a4⟩:=h
   refine⟨_,(Ar (AN (i:=2) Mh.nd (A3 ag (Ab (AZ CO (AZ Gz (pv 0) Ah) Ah) (Ab (CH GA B.b_len (Ab (pv 1) Ae)) Ae))))
    (Ar (AN (i:=3) Mh.nd (I7 Ux B.b_list (Ab (pv 2) Ae)))
    (Ar (Bb (Bp B8 (AZ CO (pv 0) Ah) Ah (Bj _)) (Aw (AN (i:=3) Mh.nd (A3 ag (Ab (AZ CO (AZ Gz (pv 0) Ah) Ah) (Ab (CH GA B.b_len (Ab (pv 1) Ae)) Ae))))) Ba)
    (Ar (AN (i:=4) Mh.nd (Cg Ae))
    (Ar (Cz Cu rfl (Gg rfl B.b_range (Ab (CH GA B.b_len (Ab (pv 1) Ae)) Ae)) (Av (i:=5) Mh.nd) (Aw (Cz Cu rfl (Gg rfl B.b_range (Ab (CH GA B.b_len (Ab (pv 1) Ae)) Ae)) (Av (i:=6) Mh.nd) (Aw (Bb (PW.pt (Gx (Bp IX (An Ao (pv 2) (pv 5)) (An Ao (pv 2) (pv 6)) (Bj _)) (GU (Bp IX (An Ao (pv 3) (pv 5)) (An Ao (pv 3) (pv 6)) (Bj _))))) (Aw (Eo (DQ Ec Fk Fl Fp (pv 4) (Ab (AQ (Ab (An Ao (pv 1) (pv 5)) (Ab (An Ao (pv 1) (pv 6)) Ae))) Ae)))) Ba)))))
    (Aw (AI (CH (Va E4 E4) B.b_sorted (Ab (pv 4) Ae))))))))),?_⟩
   rfl';refine⟨Or.inr ⟨by decide,by decide⟩,(by show(0:Int)<2147483647;decide),_,Or.inl ⟨_,E,rfl⟩,_,_,rfl,by rw[Ak];lia,λy aH a8 s1 G=>?_⟩;rw[Ak] at G;refine Cj ?_;cbv;refine⟨y,_,rfl,Or.inl (Af.of G),λA2 ah=>?_⟩;obtain⟨aI,a9,J,e2⟩:=new_at (o:=.lst ((G3 (c*48271%2147483647) ls.length).map V.int)) ah;rw[<-a9];refine Cj ?_;cbv;have T:=s1.trans J;refine Lz (λσ' b=>∃g,σ'=[some (.int c),some (.ref l),some (.ref y),some (.ref g),none,none,none]/\Ac H b/\b y=some (.lst ((Gq c ls.length).map V.int))/\b g=some (.lst ((F1 c ls.length).map V.int))) ?_ (λaJ hN=>?_);rotate_left;refine⟨(by show(0:Int)<2;decide),rfl,rfl,Ap (λp=>?_) (λp=>?_)⟩;have aa:c%2=1:=V.int.inj (Be p);refine⟨Or.inr ⟨by decide,by decide⟩,(by show(0:Int)<2147483629;decide),_,Or.inl ⟨_,T.seq E,rfl⟩,_,_,rfl,by rw[Ak];lia,λg H3 aM I e3=>?_⟩;rw[Ak] at e3;refine hN _ _ ⟨g,rfl,T.trans I,I _ _ (J _ _ G),?_⟩;unfold F1;rw[Au aa];exact e3;have aa:¬c%2=1:=λe=>p (A5 (by show V.int (c%2)=V.int 1;rw[e]));refine hN _ _ ⟨A2,rfl,T,J _ _ G,?_⟩;unfold F1;rw[At aa];exact e2;rintro σ' H3 ⟨g,rfl,I,ai,aj⟩;clear G e2 s1 J T a8 ah;refine⟨by decide,λD L=>?_⟩;obtain⟨W,aA,X,ak⟩:=new_at (o:=.lst []) L;rw[<-aA];refine Cj ?_;cbv;have ab:=I.trans X;have al:=I.free L;have l1:=WW c ls.length;have l2:=JW c ls.length
   refine⟨_,Or.inl ⟨_,ab.seq E,rfl⟩,by lia,by rw[Ak];lia,Lh (lo:=0) (n:=(ls.map V.str).length) (λj σ b=>∃Y r a,σ=[some (.int c),some (.ref l),some (.ref y),some (.ref g),some (.ref D),Y,r]/\Keeps (·=D) W b/\b D=some (.lst (a.map V.ref))/\Cc b a (E5 ls (Gq c ls.length) (F1 c ls.length) j))
    ⟨none,none,[],rfl,Keeps.refl λx o m e=>by rw[m,ak] at e;exact⟨_,(BS e).symm⟩,ak,Cc.nil⟩ ?_ ?_⟩
   rotate_left;refine λσ Z u=>AL λNz d=>?_;obtain⟨Y,r,a,rfl,M,ae,N⟩:=u;refine d ?_;clear d;rw[Ak] at N;obtain⟨zs,z1,z2,z3⟩:=Vw N
   have lz:zs.length<=36:=by
    have p:=Bq List.length z2;rw[Ak] at p;have O:=Qj ls (Gq c ls.length) (F1 c ls.length) ls.length;have Q:ls.length*ls.length<=6*6:=Nat.mul_le_mul U U;lia
   refine⟨D,zs,rfl,Af.of (by rw[z1];exact ae),by lia,λz hz=>?_,λO2 af hp hw an=>?_⟩;obtain⟨t,a1,a2⟩:=z3 z hz;exact⟨t,a1,Al.of a2⟩;have ao:Ac H Z:=λaK o e=>M.at_ _ _ (ab _ _ e) (AV e al);have s6:=AJ (o:=.lst (af.map (·.1))) an;obtain⟨aB,t1,t2⟩:=Vx (H:=Z) (zs:=af) λz hz=>z3 z (hp.mem_iff.mp hz);refine a4 O2 aB (af.map (·.2)) _ (ao.free an) (ao.trans s6) (by rw[Aa,t1]) (t2.same s6) ⟨?_,hw⟩;rw[<-z2];exact hp.map _;refine λj σ Z R u=>AL λNz d=>?_;obtain⟨Y,r,a,rfl,M,ae,N⟩:=u;refine d ?_;clear d;refine ID ?_;intro Nx Cy;rw[Ak] at R;refine Cj ?_;cbv;have aq:∀{b:Hp},Keeps (·=D) W b->Ac H b:=λk x o e=>k.at_ _ _ (ab _ _ e) (AV e al);have aC:y≠D:=AV ai L;have aD:g≠D:=AV aj L
   refine⟨_,Or.inl ⟨_,(aq M).seq E,rfl⟩,by lia,by rw[Ak];lia,Lh (lo:=0) (n:=(ls.map V.str).length) (λk σ b=>∃r a,σ=[some (.int c),some (.ref l),some (.ref y),some (.ref g),some (.ref D),some (.int (0+(j:Int))),r]/\Keeps (·=D) W b/\b D=some (.lst (a.map V.ref))/\Cc b a (E5 ls (Gq c ls.length) (F1 c ls.length) j++F0 ls (Gq c ls.length) (F1 c ls.length) j k))
    ⟨_,a,rfl,M,ae,by unfold F0;simpa using N⟩ ?_ ?_⟩
   rotate_left;refine λσ H6 u=>AL λNz d=>?_;obtain⟨r,a,rfl,q,C,s⟩:=u;refine d ?_;clear d;rw[Ak] at s;exact⟨_,_,a,rfl,q,C,by rw[WV];exact s⟩;refine λk σ H6 S u=>AL λNz d=>?_;obtain⟨r,a,rfl,q,C,s⟩:=u;refine d ?_;clear d;refine ID ?_;intro Nx Cy;rw[Ak] at S;refine Cj ?_;cbv
   have aN:a.length<=100:=by
    rw[s.len,AO];have O:=Qj ls (Gq c ls.length) (F1 c ls.length) j;have Q:j*ls.length<=6*6:=Nat.mul_le_mul (by lia) U;have h4:=Tq ls (Gq c ls.length) (F1 c ls.length) j k;lia
   have ar:=q.at_ _ _ (X _ _ ai) aC;have au:=q.at_ _ _ (X _ _ aj) aD;have av:∀n,n<ls.length->∃v,(Gq c ls.length)[n]?=some v/\AS ((Gq c ls.length).map V.int) (0+(n:Int))=some (.int v):=λn A=>⟨_,AB (by lia),by rw[Int.zero_add];exact A1 (by rw[AM,AB (by lia)];rfl)⟩;have aw:∀n,n<ls.length->∃v,(F1 c ls.length)[n]?=some v/\AS ((F1 c ls.length).map V.int) (0+(n:Int))=some (.int v):=λn A=>⟨_,AB (by lia),by rw[Int.zero_add];exact A1 (by rw[AM,AB (by lia)];rfl)⟩;have ax:∀n,n<ls.length->∃v,ls[n]?=some v/\AS (ls.map V.str) (0+(n:Int))=some (.str v):=λn A=>⟨_,AB A,by rw[Int.zero_add];exact A1 (by rw[AM,AB A];rfl)⟩;obtain⟨a1,p,a5⟩:=av j R;obtain⟨a2,O,a6⟩:=av k S;obtain⟨b1,Q,a7⟩:=aw j R;obtain⟨b2,h4,g4⟩:=aw k S;obtain⟨x1,h5,g5⟩:=ax j R;obtain⟨x2,h6,g6⟩:=ax k S
   have skip:¬(a1<a2/\b1<b2)->EG ls (Gq c ls.length) (F1 c ls.length) j k=[]:=λA=>by
    unfold EG;rw[KQ p,KQ O,KQ Q,KQ h4,At A]
   refine Or.inl ⟨_,_,Af.of ar,a5,Or.inl ⟨_,_,Af.of ar,a6,rfl,Ap (λc1=>?_) (λc1=>Bm ?_)⟩⟩;rotate_left;refine⟨_,a,rfl,q,C,?_⟩;rw[Qi,skip λz=>c1 (A5 z.1),Eb];exact s;refine Or.inl ⟨_,_,Af.of au,a7,Or.inl ⟨_,_,Af.of au,g4,rfl,Ap (λc2=>?_) (λc2=>?_)⟩⟩;rotate_left;refine⟨_,a,rfl,q,C,?_⟩;rw[Qi,skip λz=>c2 (A5 z.2),Eb];exact s;have ay:=(aq q).seq E;refine⟨Or.inl ⟨rfl,_,Af.of C⟩,Or.inl ⟨_,.str x1,ay,g5,Or.inl ⟨_,.str x2,ay,g6,BA,λt ht=>?_⟩⟩⟩;obtain⟨H7,aE,s7,et⟩:=new_at (o:=.tup [.str x1,.str x2]) ht;rw[<-aE];have az:=s7 _ _ C;have k7:Keeps (·=D) H7 (upd H7 D (.lst (a.map V.ref++[.ref t]))):=Keeps.one az;refine⟨_,az,by rw[Ak];exact BL (by lia),?_⟩;refine⟨_,a++[t],rfl,(q.same s7).set rfl,by rw[Aa,A8];rfl,?_⟩
   have eP:EG ls (Gq c ls.length) (F1 c ls.length) j k=[(x1,x2)]:=by
    unfold EG;rw[KQ p,KQ O,KQ Q,KQ h4,Au ⟨Be c1,Be c2⟩,WX h5,WX h6]
   rw[Qi,eP,<-FJ];exact k7.tups ((s.same s7).snoc et)
def DO (hd:Int) (n:Nat):List Int:=(List.range n).map λk:Nat=>(hd+(k:Int))%5
def Z7(hd:Int)(n:Nat):DO hd (n+1)=DO hd n++[(hd+(n:Int))%5]:=by unfold DO;rw[List.range_succ,A8];rfl
def WY(hd:Int)(n:Nat):(DO hd n).length=n:=by unfold DO;rw[Ak,List.length_range]
abbrev Bx (hd:Int) (k:Nat):Int:=(hd+(k:Int))%5
def Mw(hd:Int)(k:Nat):0<=Bx hd k/\Bx hd k<5:=⟨Gu _ (by lia),Gr _ (by lia)⟩
variable {n:Nat}
def Na{hd:Int}(h:k<n):AS ((DO hd n).map V.int) (k:Int)=some (.int (Bx hd k)):=A1 (by unfold DO;rw[AM,AM,List.getElem?_range h];rfl)
def Hi (hd:Int):List Int:=(DO hd 4).drop 1
def JX(hd:Int):(Hi hd).length=3:=by unfold Hi;rw[K0,WY]
def Ev (c:Int):Nat:=if c%6<3 then 0 else(c%6-2).toNat
def Mx(c:Int):Ev c<4:=by unfold Ev;split<;>lia
abbrev Ct (ss:List Bf) (i:Int):Bf:=ss.getD i.toNat ([],[])
def E6 (c:Int):Nat:=if 0<Ev c then 2 else 3
def hA (ls:List Str) (hd:Int) (ss:List Bf) (c:Int):List Bf:=if c%6<2/\(Ct ss (Bx hd 0)).1.length<8 then ss.set (Bx hd 0).toNat ((Ct ss (Bx hd 0)).1++[M9 ls (Hi hd) (c/6)],(Ct ss (Bx hd 0)).2) else ss
def hB (ls ns:List Str) (hd:Int) (ss:List Bf) (c:Int):List Bf:=if 1<c%6/\(Ct ss (Bx hd (Ev c))).2.length<E6 c then ss.set (Bx hd (Ev c)).toNat ((Ct ss (Bx hd (Ev c))).1,(Ct ss (Bx hd (Ev c))).2++[Qf ns ls (c/6)]) else ss
def JY (ls ns:List Str) (hd:Int) (ss:List Bf) (c:Int):List Bf:=hB ls ns hd (hA ls hd ss c) c
def KR (ls ns:List Str) (hd:Int) (cs:List Int) (i:Nat):List Bf:=(cs.take i).foldl (JY ls ns hd) (List.replicate 5 ([],[]))
def Z8{ns:List Str}{hd:Int}{a:List Int}(h:a[i]?=some c):KR ls ns hd a (i+1)=JY ls ns hd (KR ls ns hd a i) c:=by
 unfold KR;rw[D7,h,OU];rfl
abbrev HS (hd:Int) (s:Bf):Prop:=s.1.length<=8/\s.2.length<=3/\(∀p∈s.1,GW ((5:Nat):Int) ((6:Nat):Int) p/\(p.2.1=("to" : Str)->p.2.2≠Bx hd 0))/\∀p∈s.2,Ft ((6:Nat):Int) ((6:Nat):Int) p
structure Cn (hd:Int) (ss:List Bf):Prop where
 len:ss.length=5
 all:∀s∈ss,HS hd s
def Ie{hd:Int}:HS hd ([],[]):=⟨DP _,DP _,λp a=>(by cases a),λp a=>(by cases a)⟩
variable {ss:List Bf}
def Cn.get{hd:Int}(h:Cn hd ss)(i:Int):HS hd (Ct ss i):=by
 unfold Ct;rw[B6]
 cases e:ss[i.toNat]? with
 |none=>exact Ie
 |some s=>exact h.all s (Bk e)
def Cn.set{hd:Int}{ss:List Bf}(h:Cn hd ss){i:Nat}{s:Bf}(b:HS hd s):Cn hd (ss.set i s):=
 ⟨by rw[Iq];exact h.len,λu a=>by
  rcases List.mem_or_eq_of_mem_set a with a|rfl;exact h.all u a
  exact b⟩
def Qk(hd:Int)(k:Nat)(a:1<=k)(b:k<5):Bx hd k≠Bx hd 0:=by unfold Bx;lia
def My(hd:Int)(h:j<3):(Hi hd).getD j 0=Bx hd (j+1):=by
 unfold Hi;rw[B6,List.getElem?_drop,Nat.add_comm 1 j];unfold DO;rw[AM,List.getElem?_range (by lia)];rfl
def JZ(ls:List Str)(hd c:Int):GW ((5:Nat):Int) ((6:Nat):Int) (M9 ls (Hi hd) c)/\((M9 ls (Hi hd) c).2.1=("to" : Str)->(M9 ls (Hi hd) c).2.2≠Bx hd 0):=by
 unfold M9 GW Ms;dsimp only;have a:=Gu (c*69621%65497) (by decide:(3:Int)≠0);have b:=Gr (c*69621%65497) (by decide:(0:Int)<3);split;rw[My hd (by lia)];exact⟨.inl ⟨rfl,Mw _ _⟩,λζ=>Qk hd _ (by lia) (by lia)⟩;exact⟨.inr ⟨rfl,Gu _ (by lia),Int.lt_of_lt_of_le (Gr _ (by lia)) (by decide)⟩,λe=>absurd e (show ¬("by" : Str)=("to" : Str) by decide +kernel)⟩
set_option tactic.hygienic true in
def KS{hd:Int}(h:Cn hd ss)(c:Int):Cn hd (hA ls hd ss c):=by
 unfold hA;split;rename_i b;have g:=h.get (Bx hd 0);refine h.set ⟨by rw[AO,Ew];exact b.2,g.2.1,λp a=>?_,g.2.2.2⟩;rcases BR.mp a with a|a;exact g.2.2.1 p a;rw[A9.mp a];exact JZ ls hd _;exact h
set_option tactic.hygienic true in
def OB{ns:List Str}{hd:Int}(h:Cn hd ss)(c:Int):Cn hd (hB ls ns hd ss c):=by
 unfold hB;split;rename_i b;have g:=h.get (Bx hd (Ev c));have d:E6 c<=3:=by unfold E6;split<;>lia
 refine h.set ⟨g.1,by rw[AO,Ew];lia,g.2.2.1,λp a=>?_⟩;rcases BR.mp a with a|a;exact g.2.2.2 p a;rw[A9.mp a];exact Mu ns ls _;exact h
def Ts(ls ns:List Str)(hd:Int)(a:List Int)(i:Nat):Cn hd (KR ls ns hd a i):=by
 unfold KR;generalize a.take i=l
 have:∀(l:List Int)(ss:List Bf),Cn hd ss->Cn hd (l.foldl (JY ls ns hd) ss):=by
  intro l
  induction l with
  |nil=>exact λζ h=>h
  |cons c l b=>exact λss h=>b _ (OB (KS h c) c)
 exact this l _ ⟨List.length_replicate,λs d=>by rw[(List.mem_replicate.mp d).2];exact Ie⟩
abbrev Ql (hd:Int):List (Str×Int):=[("part",Bx hd 1),("part",Bx hd 2),("plain",0),("sort",0),("sort",3),("part",Bx hd 3)]
def J1 (n:Int):Nat->Int
 |0=>n
 |k+1=>J1 n k/9
def OC (n:Int):C':=if n%9=0 then none else if n%9=1 then some ("none",0) else if n%9=2 then some ("torn",0) else some ("thing",n%9-3)
def KU (n:Int) (k:Nat):List (C'):=(List.range k).map λj=>OC (J1 n j)
def Z9(n:Int)(k:Nat):KU n (k+1)=KU n k++[OC (J1 n k)]:=by unfold KU;rw[List.range_succ,A8];rfl
def Tt(n:Int)(k:Nat):(KU n k).length=k:=by unfold KU;rw[Ak,List.length_range]
variable {p:Str×Int}
def Mz{n:Int}(h:some p∈KU n k)(e:p.1=("thing" : Str)):0<=p.2/\p.2<((6:Nat):Int):=by
 obtain⟨j,_,a⟩:=AF.mp h;have b:=Gu (J1 n j) (by decide:(9:Int)≠0);have c:=Gr (J1 n j) (by decide:(0:Int)<9);unfold OC at a;split at a;cases a;split at a;cases a;exact absurd e M4;split at a;cases a;exact absurd e SW;cases a;show 0<=J1 n j%9-3/\J1 n j%9-3<((6:Nat):Int);lia
def IH (ls:List Str) (rk:List Int):Nat->List (Str×Int)
 |0=>[]
 |k+1=>IH ls rk k++if 0<rk.getD k 0 then[(ls.getD k default,1)] else[]
def II (ls:List Str) (rk:List Int) (j:Nat):Nat->List Str
 |0=>[]
 |k+1=>II ls rk j k++if 0<rk.getD (5*j+5+k) 0 then[ls.getD k default] else[]
theorem Qm(ls:List Str)(a:List Int):∀k,(IH ls a k).length<=k
 |0=>AG _
 |k+1=>by
   have:=Qm ls a k;rw[IH,AO];split;rw[Ew];lia;rw[GQ];lia
theorem Tu(ls:List Str)(a:List Int)(j:Nat):∀k,(II ls a j k).length<=k
 |0=>AG _
 |k+1=>by
   have:=Tu ls a j k;rw[II,AO];split;rw[Ew];lia;rw[GQ];lia
theorem WZ{ls:List Str}{b:List Int}:∀{k:Nat},∀p∈IH ls b k,p.2=1
 |0,p,a=>by cases a
 |k+1,p,a=>by
   rw[IH] at a;rcases BR.mp a with a|a;exact WZ p a;split at a;rw[A9.mp a];cases a
abbrev Bu (ns:List Int):Int:=Hb ns 2
abbrev F2 (ns:List Int):List Str:=GZ (Hb ns 0) 2
abbrev CC (ns:List Int):List Str:=GZ (Hb ns 1) 5
abbrev Gi (ns:List Int):List Int:=(ns.drop 8).take 52
def EW (ns:List Int):List Int:=G3 (Hb ns 4*864691128455135233%2305843009213693951) 15
abbrev Qn (ns:List Int):Int:=Hb ns 3*48271%2147483647
structure OD (ns:List Int) (ss:List Bf) (gs:List (Str×Int)) (qs:List Qu) (as:List (C')) (sts:List CA) (inn:Int) (ord:A'):Prop where
 ss:ss=KR (CC ns) (F2 ns) (Bu ns) (Gi ns) (Gi ns).length
 gs:gs=Ql (Bu ns)
 qs:qs=List.replicate 6 (Bx (Bu ns) 0,0,[(F2 ns).getD 0 default])
 as:as=KU (Qn ns) 6
 st:∃g e0 e1,sts=[(g,e0),([],e1)]/\g.Perm (IH (CC ns) (EW ns) 5)/\g.Pairwise (BM B2 Jn).kle/\e0.Perm (II (CC ns) (EW ns) 0 5)/\e0.Pairwise B2.kle/\e1.Perm (II (CC ns) (EW ns) 1 5)/\e1.Pairwise B2.kle
 inn:inn=0
 ord:EH (Hb ns 5) (CC ns) ord
def OD.uniq{ns:List Int}{ss r:List Bf}{gs c:List (Str×Int)}{a d:List Qu}{b t:List (C')}{e i:List CA}{f j:Int}{ord l:A'}(h:OD ns ss gs a b e f ord)(k:OD ns r c d t i j l):ss=r/\gs=c/\a=d/\b=t/\e=i/\f=j/\ord=l:=by
 refine⟨h.ss.trans k.ss.symm,h.gs.trans k.gs.symm,h.qs.trans k.qs.symm,h.as.trans k.as.symm,?_,h.inn.trans k.inn.symm,h.ord.uniq k.ord⟩;obtain⟨g,A,B,rfl,m,n,o,p,q,s⟩:=h.st;obtain⟨C,D,E,rfl,u,v,w,x,y,z⟩:=k.st;rw[LI (O:=BM B2 Jn) (m.trans u.symm) n v,LI (O:=B2) (o.trans w.symm) p x,LI (O:=B2) (q.trans y.symm) s z]
def Tv(h:n<xs.length):AS (xs.map V.str) (n:Int)=some (.str (xs.getD n default)):=by
 rw[B6,AB h];exact A1 (by rw[AM,AB h];rfl)
def W0{xs:List Int}(h:n<xs.length):AS (xs.map V.int) (n:Int)=some (.int (xs.getD n 0)):=by
 rw[B6,AB h];exact A1 (by rw[AM,AB h];rfl)
def eF(a b:V):AS [a,b] 0=some a:=A1 (j:=0) rfl
def eH(a b:V):AS [a,b] 1=some b:=A1 (j:=1) rfl
def J2(ns:List Int):(EW ns).length=15:=Qg _ _
inductive DU (K:Aj) (vs:List V) (H:Hp) (Q:VK):Prop where
 |mk (a:Addr) (ns:List Int) (h0:vs=[.ref a]) (h1:Af K H a (ns.map V.int)) (h2:ns.length<=63) (h3:∀(r nt t A S T R:Addr)(us Gs Es ts qt:List Addr)(v1:List V)(ss:List Bf)(gs:List (Str×Int))(qs:List Qu)(as:List (C'))(sts:List CA)(inn:Int)(ord:A')(H':Hp),Ac H H'->H' r=some (.tup [.ref nt,.ref t,.ref A])->H' nt=some (.tup [.ref S,.ref T,.ref R])->FR H' S T R us Gs Es ts qt ss gs qs->H' A=some (.lst v1)->AC (λζ=>False) H' v1 (as.map B3)->Fq K (λζ=>True) H' t sts inn ord->OD ns ss gs qs as sts inn ord->Q (.ref r) H'):DU K vs H Q
def eI (K:Aj):Sp:=λvs H Q ζ=>DU K vs H Q
abbrev Qo(P w K mg base):=BG P w K mg base "_law_made" 3 ["_law_script"] (eI K)
theorem eJ (B:BH mg) (bE:Tj P w K mg base) (ax:Oz P w K mg base) (c6:Tk P w K mg base) (c7:To P w K mg base) (c8:Qh P w K mg base) (c9:Tr P w K mg base) (F:Bv K "_law_made" "_law_made" IK f fd) (hm:mg "_law_made" = some (.ref f)):Qo P w K mg base:=by
 refine B0 F hm Fw (λvs c1 c2 c3 h=>?_) (λeb ah ex dY c1 vs c2 c3 hr h=>?_);obtain⟨a,ns,rfl,_⟩:=h;rfl
 . obtain⟨a,ns,rfl,hS,ew,q⟩:=h
   refine⟨_,(Ar (AN (i:=1) Fw.nd (A3 bE (Ab (A3 ax (Ab (pv 0) (Ab Ah Ae))) (Ab Ah Ae))))
    (Ar (AN (i:=2) Fw.nd (A3 bE (Ab (A3 ax (Ab (pv 0) (Ab Ah Ae))) (Ab Ah Ae))))
    (Ar (AN (i:=3) Fw.nd (A3 ax (Ab (pv 0) (Ab Ah Ae))))
    (Ar (AN (i:=4) Fw.nd (Ha rfl CV (Gg rfl B.b_range (Ab Ah Ae)) (λζ ζ ζ ζ ζ=>(Av (i:=0) CV.nd)) (λζ ζ ζ ζ ζ=>GB) (λζ ζ ζ ζ ζ=>(AZ CO (AZ Kp (pv 1) (pv 0)) Ah))))
    (Ar (Ly (i:=5) Fw.nd rfl (Or.inl rfl) rfl CW (Gg rfl B.b_range (Ab Ah Ae)) (λζ ζ ζ ζ ζ=>(Av (i:=0) CW.nd)) (λζ ζ ζ ζ ζ=>GB) (λζ ζ ζ ζ ζ=>(AQ (Ab (Cg Ae) (Ab (Cg Ae) Ae)))))
    (Ar (Cz Cu rfl (Dg (Uu Uw (pv 0) (RH Ah) (RH Ah))) (Av (i:=6) Fw.nd) (Ar (AN (i:=7) Fw.nd (An Ao (Cg (Ab Ah (Ab Ah (Ab Ah (Ab Ah (Ab Ah (Ab Ah Ae))))))) (AZ CO (pv 6) Ah)))
     (Ar (Bb (PW.pt (Gx (Bp IX (AZ CO (pv 6) Ah) Ah (Bj _)) (GU (Bp IX (CH GA B.b_len (Ab (An Ao (An Ao (pv 5) (An Ao (pv 4) Ah)) Ah) Ae)) Ah (Bj _))))) (Aw (Eo (DQ Ec Fk Fl Fp (An Ao (An Ao (pv 5) (An Ao (pv 4) Ah)) Ah) (Ab (A3 c6 (Ab (AZ Hs (pv 6) Ah) (Ab (pv 2) (Ab (Uu Uw (pv 4) (RH Ah) Jb) Ae)))) Ae)))) Ba)
     (Aw (Bb (PW.pt (Gx (Bp Nw (AZ CO (pv 6) Ah) Ah (Bj _)) (GU (Bp IX (CH GA B.b_len (Ab (An Ao (An Ao (pv 5) (An Ao (pv 4) (pv 7))) Ah) Ae)) (An Ao (Cg (Ab Ah (Ab Ah Ae))) (I7 O9 B.b_int (Ab (Ix Nw (pv 7) Ah (Bj _)) Ae))) (Bj _))))) (Aw (Eo (DQ Ec Fk Fl Fp (An Ao (An Ao (pv 5) (An Ao (pv 4) (pv 7))) Ah) (Ab (A3 c7 (Ab (AZ Hs (pv 6) Ah) (Ab (pv 1) (Ab (pv 2) Ae)))) Ae)))) Ba)))))
    (Ar (AN (i:=8) Fw.nd (Cg (Ab (AQ (Ab AW (Ab (An Ao (pv 4) Ah) Ae))) (Ab (AQ (Ab AW (Ab (An Ao (pv 4) Ah) Ae))) (Ab (AQ (Ab AW (Ab Ah Ae))) (Ab (AQ (Ab AW (Ab Ah Ae))) (Ab (AQ (Ab AW (Ab Ah Ae))) (Ab (AQ (Ab AW (Ab (An Ao (pv 4) Ah) Ae))) Ae))))))))
    (Ar (Ly (i:=9) Fw.nd rfl (Or.inl rfl) (te:=IY (F8 (Ck (Ey K) (A0 1) (tC (.int ((0:Nat):Int)))) (F8 (tC (.int ((0:Nat):Int))) (F8 (IY (F8 (Ck (Ey K) (A0 2) (tC (.int ((0:Nat):Int)))) Fo)) Fo)))) rfl CY (Gg rfl B.b_range (Ab Ah Ae)) (λζ ζ ζ ζ ζ=>(Av (i:=0) CY.nd)) (λζ ζ ζ ζ ζ=>GB) (λζ ζ ζ ζ ζ=>(AQ (Ab (An Ao (pv 1) Ah) (Ab Ah (Ab (AQ (Ab (An Ao (pv 2) Ah) Ae)) Ae))))))
    (Ar (AN (i:=10) Fw.nd (AZ Lr (Cg (Ab FM (Ab (AQ (Ab AW (Ab Ah Ae))) (Ab (AQ (Ab AW (Ab Ah Ae))) Ae)))) (Ha rfl CZ (Gg rfl B.b_range (Ab Ah Ae)) (λζ ζ ζ ζ ζ=>(Av (i:=0) CZ.nd)) (λζ ζ ζ ζ ζ=>GB) (λζ ζ ζ ζ ζ=>(AQ (Ab AW (Ab (pv 0) Ae)))))))
    (Ar (AN (i:=6) Fw.nd (AZ CO (AZ Gz (A3 ax (Ab (pv 0) (Ab Ah Ae))) Ah) Ah))
    (Ar (AN (i:=11) Fw.nd (Cg Ae))
    (Ar (Cz Cu rfl (Gg rfl B.b_range (Ab Ah Ae)) (Av (i:=12) Fw.nd) (Ar (Eo (DQ Ec Fk Fl Fp (pv 11) (Ab (An Ao (pv 10) (AZ CO (pv 6) Ah)) Ae)))
     (Aw (AN (i:=6) Fw.nd (AZ Hs (pv 6) Ah)))))
    (Ar (AN (i:=13) Fw.nd (A3 c8 (Ab (AZ CO (AZ Gz (A3 ax (Ab (pv 0) (Ab Ah Ae))) Ah) Ah) (Ab Ah Ae))))
    (Ar (AN (i:=14) Fw.nd (CH (Va E4 Jo) B.b_sorted (Ab (Ha (te:=IY (F8 (Ck (Ey K) (A0 1) (A0 0)) (F8 (tC (.int ((1:Nat):Int))) Fo))) (tc:=MP (Ck (Gy λi j=>.bl (decide (j<i))) (Ck (Ey K) (A0 2) (A0 0)) (tC (.int ((0:Nat):Int))))) rfl C0 (Gg rfl B.b_range (Ab Ah Ae)) (λζ ζ ζ ζ ζ=>(Av (i:=0) C0.nd)) (λζ ζ ζ ζ ζ=>(NN (Bp Nw (An Ao (pv 2) (pv 0)) Ah (Bj _)))) (λζ ζ ζ ζ ζ=>(AQ (Ab (An Ao (pv 1) (pv 0)) (Ab Ah Ae))))) Ae)))
    (Ar (Ly (i:=15) Fw.nd rfl (Or.inl rfl) (te:=Pb (WL K) (F8 (Hz 1 [1,2,0] (Kn (F8 (tC (.int ((5:Nat):Int))) Fo)) (F7 0) (MP (Ck (Gy λi j=>.bl (decide (j<i))) (Ck (Ey K) (A0 2) (Ck (Gy λi j=>.int (i+j)) (Ck (Gy λi j=>.int (i+j)) (Ck (rI Hr λi j=>.int (i*j)) (tC (.int ((5:Nat):Int))) (A0 3)) (tC (.int ((5:Nat):Int)))) (A0 0))) (tC (.int ((0:Nat):Int))))) (Ck (Ey K) (A0 1) (A0 0))) Fo)) rfl C3 (Gg rfl B.b_range (Ab Ah Ae)) (λζ ζ ζ ζ ζ=>(Av (i:=0) C3.nd)) (λζ ζ ζ ζ ζ=>GB) (λζ ζ ζ ζ ζ=>(CH ZH B.b_sorted (Ab (Ha (te:=Ck (Ey K) (A0 1) (A0 0)) (tc:=MP (Ck (Gy λi j=>.bl (decide (j<i))) (Ck (Ey K) (A0 2) (Ck (Gy λi j=>.int (i+j)) (Ck (Gy λi j=>.int (i+j)) (Ck (rI Hr λi j=>.int (i*j)) (tC (.int ((5:Nat):Int))) (A0 3)) (tC (.int ((5:Nat):Int)))) (A0 0))) (tC (.int ((0:Nat):Int))))) rfl (C4.re _) (Gg rfl B.b_range (Ab Ah Ae)) (λζ ζ ζ ζ ζ=>(Av (i:=0) C4.nd)) (λζ ζ ζ ζ ζ=>(NN (Bp Nw (An Ao (pv 2) (AZ Kp (AZ Kp (AZ Gz Ah (pv 3)) Ah) (pv 0))) Ah (Bj _)))) (λζ ζ ζ ζ ζ=>(An Ao (pv 1) (pv 0)))) Ae))))
    (Ar (AN (i:=16) Fw.nd (AQ (Ab (Cg (Ab (AQ (Ab (pv 14) (Ab (An Ao (pv 15) Ah) Ae))) (Ab (AQ (Ab (Cg Ae) (Ab (An Ao (pv 15) Ah) Ae))) Ae))) (Ab Ah (Ab (A3 c9 (Ab (A3 ax (Ab (pv 0) (Ab Ah Ae))) (Ab (pv 2) Ae))) Ae)))))
    (Aw (AI (AQ (Ab (AQ (Ab (pv 5) (Ab (pv 8) (Ab (pv 9) Ae)))) (Ab (pv 16) (Ab (pv 11) Ae)))))))))))))))))))))),?_⟩
   rfl';refine⟨a,ns,0,rfl,by decide,hS,_,2,rfl,by decide,by decide,λaD dZ hN s1 eN=>?_⟩;refine⟨a,ns,1,rfl,by decide,s1.seq hS,_,5,rfl,by decide,by decide,λau c4 hL s2 eL=>?_⟩;have bF:=s1.trans s2;have bG:=s2 _ _ eN;have lL:(CC ns).length=5:=Ti _ _;have lN:(F2 ns).length=2:=Ti _ _;refine⟨a,ns,2,rfl,by decide,bF.seq hS,?_⟩
   refine⟨by decide,by decide,NW (lo:=0) (n:=4) (λD i d b=>Ac c4 b/\b D=some (.lst d)/\d=(DO (Bu ns) i).map V.int)
    (λD l=>⟨AJ l,Aa,rfl⟩) (λD i d H3 RR l hi s k=>?_) (λSP d H3 ec s=>?_)⟩
   obtain⟨s3,H,rfl⟩:=s;refine⟨(by show(0:Int)<5;decide),?_⟩;refine k _ _ H (by rw[Ak,WY];exact BL (by lia)) ⟨λai o e=>?_,Aa,?_⟩;rw[AH (AV e l)];exact s3 _ _ e;rw[Z7,A8,Int.zero_add];rfl;obtain⟨s3,aS,rfl⟩:=s;have bH:=bF.trans s3
   refine⟨by decide,by decide,NW (lo:=0) (n:=5) (λD i d b=>∃us A C:List Addr,d=us.map V.ref/\Ac H3 b/\CI b D us A C (List.replicate i (([],[]):Bf))/\(D::(A++C)).Nodup/\∀x∈A++C,H3 x=none)
    (λD l=>⟨[],[],[],rfl,AJ l,CI.nil Aa,by simp,λx M=>by simp at M⟩) (λD i d H7 RR l hi s k=>?_) (λaj d H7 ed s=>?_)⟩
   refine AL λU g=>?_;obtain⟨us,A,C,rfl,s7,SC,nd,aT⟩:=s;refine g ?_;clear g;have bI:=SC.lu;rw[List.length_replicate] at bI;refine⟨by decide,λG hG=>?_⟩;obtain⟨H8,aU,v,eG⟩:=new_at (o:=.lst []) hG;rw[<-aU];refine⟨by decide,λL aa=>?_⟩;obtain⟨W,a0,E,aV⟩:=new_at (o:=.lst []) aa;rw[<-a0];refine⟨BA,λu hu=>?_⟩;obtain⟨S,ar,t3,eu⟩:=new_at (o:=.tup [.ref G,.ref L]) hu;rw[<-ar];have bJ:=(v.trans E).trans t3;have Q:=E.trans t3;have ab:=SC.same bJ;have al:=SC.alive
   have nG:G∉D::(A++C):=λy=>by
    rcases BI.mp y with y|y;rw[y,SC.top] at hG;cases hG;obtain⟨xs,e⟩:=al G y;rw[e] at hG;cases hG
   have nE:L∉D::(A++C):=λy=>by
    rcases BI.mp y with y|y;rw[y,v _ _ SC.top] at aa;cases aa;obtain⟨xs,e⟩:=al L y;rw[v _ _ e] at aa;cases aa
   have cA:G≠L:=λy=>by rw[<-y,eG] at aa;cases aa
   have cB:Hf S u G L ([],[]):=⟨eu,⟨[],Q _ _ eG,RT.nil⟩,⟨[],t3 _ _ aV,RT.nil⟩⟩;have ae:=ab.snoc cB (λz=>nG (z▸BF)) (λz=>nE (z▸BF)) (λx M z=>(F4.mp nd).1 (z▸M));refine k _ _ ab.top (by rw[Ak,bI];exact BL (by lia)) ⟨us++[u],A++[G],C++[L],by rw[A8];rfl,λai o e=>?_,?_,Yg nd nG nE cA,λx M=>?_⟩;rw[AH (AV e l)];exact bJ _ _ (s7 _ _ e);rw[List.replicate_succ'];exact ae
   have:x∈A++C\/x=G\/x=L:=by
    simp only[BR,A9] at M ⊢;rcases M with(h|h)|(h|h);exact .inl (.inl h);exact .inr (.inl h);exact .inl (.inr h);exact .inr (.inr h)
   rcases this with h|h|h;exact aT x h;rw[h];exact s7.free hG;rw[h];exact(s7.trans v).free aa;refine AL λU g=>?_;obtain⟨us,A,C,rfl,s4,bK,nd,aT⟩:=s;refine g ?_;clear g;have ef:=s4;cbv;refine⟨_,rfl,_,rfl,a,_,rfl,(bH.trans s4).seq hS,λp0 h0=>?_⟩;have dH:EY (ns.map V.int) (some 8) (some 60)=(Gi ns).map V.int:=(XZ _ 8 60 (by decide)).trans (by rw[<-List.map_drop,<-List.map_take]);rw[dH];obtain⟨H5,cC,s5,bL⟩:=new_at (o:=.lst ((Gi ns).map V.int)) h0;rw[<-cC];have cD:=s4.trans s5;have M3:∀x o,H3 x=some o->x∉A++C:=λx o e y=>by rw[aT x y] at e;cases e
   have bM:=bK.same s5
   have cE:p0∉A++C:=λy=>by
    obtain⟨xs,e⟩:=bK.alive p0 y;rw[e] at h0;cases h0
   have aW:∀{b:Hp},Keeps (λx=>x∈A++C) H5 b->Ac H3 b:=λk x o e=>k.at_ _ _ (cD _ _ e) (M3 x o e)
   refine⟨⟨_,Af.of bL⟩,Fn (xs:=(Gi ns).map V.int) (λi σ b=>∃u6 u7,σ=[some (.ref a),some (.ref aD),some (.ref au),some (.int (Bu ns)),some (.ref SP),some (.ref aj),u6,u7,none,none,none,none,none,none,none,none,none]/\Keeps (λx=>x∈A++C) H5 b/\CI b aj us A C (KR (CC ns) (F2 ns) (Bu ns) (Gi ns) i))
    ⟨none,none,rfl,Keeps.refl λx o m e=>?_,bM⟩ (λi σ b ζ cF=>by obtain⟨_,_,_,k,_⟩:=cF;exact Af.of (k.at_ _ _ bL cE)) ?_ ?_⟩
   obtain⟨xs,e'⟩:=bM.alive x m;rw[e'] at e;exact⟨xs,(BS e).symm⟩
   . rintro i x σ H6 M ⟨u6,u7,rfl,k6,a3⟩
     obtain⟨c,hc,rfl⟩:=getm M;have aX:=Ts (CC ns) (F2 ns) (Bu ns) (Gi ns) i;rw[Z8 hc];generalize KR (CC ns) (F2 ns) (Bu ns) (Gi ns) i=ss at a3 aX;refine⟨(by show 6<=sizeLine;decide),λea hl=>?_⟩;obtain⟨H8,aU,v,el⟩:=new_at (o:=.lst [.int 0,.int 0,.int 0,.int 1,.int 2,.int 3]) hl;rw[<-aU];have m0:=Gu c (by decide:(6:Int)≠0);have m1:=Gr c (by decide:(0:Int)<6)
     have dI:AS [V.int 0,.int 0,.int 0,.int 1,.int 2,.int 3] (c%6)=some (.int (Ev c)):=by
      unfold Ev;rcases(show c%6=0\/c%6=1\/c%6=2\/c%6=3\/c%6=4\/c%6=5 by lia) with e|e|e|e|e|e<;>rw[e];exact A1 (j:=0) rfl;exact A1 (j:=1) rfl;exact A1 (j:=2) rfl;exact A1 (j:=3) rfl;exact A1 (j:=4) rfl;exact A1 (j:=5) rfl
     refine⟨(by show(0:Int)<6;decide),Or.inl ⟨_,.int (Ev c),Af.of el,dI,?_⟩⟩;have k8:=k6.same v;have ab:=a3.same v;have bN:=aW k8;have b9:=bN _ _ aS;have eg:=aX.len;have r0:=Mw (Bu ns) 0;obtain⟨n,hn⟩:=Co r0.1;have aY:n<ss.length:=(by lia);have cu:Ct ss (Bx (Bu ns) 0)=ss[n]:=by unfold Ct;rw[hn,Bl,B6,AB aY];rfl
     refine Cj ?_;dsimp only;refine Lz (λσ' b=>σ'=[some (.ref a),some (.ref aD),some (.ref au),some (.int (Bu ns)),some (.ref SP),some (.ref aj),some (.int c),some (.int (Ev c)),none,none,none,none,none,none,none,none,none]/\Keeps (λx=>x∈A++C) H5 b/\CI b aj us A C (hA (CC ns) (Bu ns) ss c)) ?_ (λNX aZ=>?_);rotate_left
     . refine AL λU g=>?_
       obtain⟨u,G,L,aP,aQ,aR,g4,⟨c0,⟨tG,X,b2⟩,_⟩⟩:=ab.get aY;refine g ?_;clear g;have aC:AS (us.map V.ref) (Bx (Bu ns) 0)=some (.ref u):=by rw[hn];exact A1 (by rw[AM,aP];rfl)
       have ba:(tG.map V.ref).length=(Ct ss (Bx (Bu ns) 0)).1.length:=(by rw[Ak,b2.len,cu]);have no:¬(c%6<2/\(Ct ss (Bx (Bu ns) 0)).1.length<8)->hA (CC ns) (Bu ns) ss c=ss:=λz=>At z;have bO:AS ((DO (Bu ns) 4).map V.int) ((0:Nat):Int)=some (.int (Bx (Bu ns) 0)):=Na (by decide);refine⟨(by show(0:Int)<6;decide),rfl,Ap (λd1=>?_) (λd1=>?_)⟩;rotate_left;refine aZ _ _ ⟨rfl,k8,?_⟩;rw[no λz=>d1 (A5 z.1)];exact ab;have bb:c%6<2:=Be d1;refine Or.inl ⟨_,.int (Bx (Bu ns) 0),Af.of b9,bO,Or.inl ⟨_,.ref u,Af.of ab.top,aC,Or.inr (Or.inl ⟨_,.ref G,Al.of c0,rfl,_,Or.inl ⟨_,Af.of X,rfl⟩,rfl,Ap (λd2=>?_) (λd2=>?_)⟩)⟩⟩;rotate_left;refine aZ _ _ ⟨rfl,k8,?_⟩;rw[no λz=>d2 (A5 (by rw[ba];exact Int.ofNat_lt.mpr z.2))];exact ab
       have bc:(Ct ss (Bx (Bu ns) 0)).1.length<8:=by
        have:=Be d2;rw[ba] at this;exact Int.ofNat_lt.mp this
       refine Or.inl ⟨_,.int (Bx (Bu ns) 0),Af.of b9,bO,Or.inl ⟨_,.ref u,Af.of ab.top,aC,Or.inr (Or.inl ⟨_,.ref G,Al.of c0,rfl,Or.inl ⟨rfl,_,Af.of X⟩,⟨by decide,by decide⟩,_,rfl,SP,_,rfl,Af.of b9,λV0 cG=>?_⟩)⟩⟩;have cH:EY ((DO (Bu ns) 4).map V.int) (some 1) none=(Hi (Bu ns)).map V.int:=(XY _ 1).trans (by unfold Hi;rw[List.map_drop]);rw[cH];obtain⟨W,a0,E,cI⟩:=new_at (o:=.lst ((Hi (Bu ns)).map V.int)) cG;rw[<-a0];refine⟨c/6,au,V0,CC ns,Hi (Bu ns),rfl,Af.of ((bN.trans E) _ _ (s3 _ _ eL)),lL,Af.of cI,JX _,λI S cJ t3 bd=>?_⟩;have Q:=E.trans t3;have a4:=Q _ _ X;have mG:G∈A++C:=GP _ (Bk aQ);refine⟨_,a4,by rw[ba];exact BL (by lia),aZ _ _ ⟨rfl,(k8.same Q).set mG,?_⟩⟩;have:=(ab.same Q).step nd aY aQ a4 (b2.same Q) bd;unfold hA;rw[Au ⟨bb,bc⟩,cu,hn,Bl];exact this
     rintro σ' W ⟨rfl,k9,ae⟩;have bP:=KS (ls:=CC ns) aX c;show _;unfold JY;generalize hA (CC ns) (Bu ns) ss c=sA at ae bP;have be:=aW k9;have cv:=be _ _ aS;have r1:=Mw (Bu ns) (Ev c);obtain⟨n9,bf⟩:=Co r1.1;have eh:=bP.len;have bA:n9<sA.length:=(by lia);have cy:Ct sA (Bx (Bu ns) (Ev c))=sA[n9]:=by unfold Ct;rw[bf,Bl,B6,AB bA];rfl
     refine AL λU g=>?_;obtain⟨u,G,L,aP,aQ,aR,g4,⟨c0,_,⟨tE,X,b2⟩⟩⟩:=ae.get bA;refine g ?_;clear g;have aC:AS (us.map V.ref) (Bx (Bu ns) (Ev c))=some (.ref u):=by rw[bf];exact A1 (by rw[AM,aP];rfl)
     have cw:AS ((DO (Bu ns) 4).map V.int) ((Ev c:Nat):Int)=some (.int (Bx (Bu ns) (Ev c))):=Na (Mx c);have bg:(tE.map V.ref).length=(Ct sA (Bx (Bu ns) (Ev c))).2.length:=(by rw[Ak,b2.len,cy]);have no:¬(1<c%6/\(Ct sA (Bx (Bu ns) (Ev c))).2.length<E6 c)->hB (CC ns) (F2 ns) (Bu ns) sA c=sA:=λz=>At z;refine⟨(by show(0:Int)<6;decide),rfl,Ap (λd1=>?_) (λd1=>?_)⟩;rotate_left;refine⟨_,_,rfl,k9,?_⟩;rw[no λz=>d1 (A5 z.1)];exact ae;have bb:1<c%6:=Be d1;refine Or.inl ⟨_,.int (Bx (Bu ns) (Ev c)),Af.of cv,cw,Or.inl ⟨_,.ref u,Af.of ae.top,aC,Or.inr (Or.inl ⟨_,.ref L,Al.of c0,rfl,_,Or.inl ⟨_,Af.of X,rfl⟩,BA,λl2 cK=>?_⟩)⟩⟩;obtain⟨S,ar,E,cL⟩:=new_at (o:=.lst [.int 3,.int 2]) cK;rw[<-ar]
     have dJ:AS [V.int 3,V.int 2] (if decide ((0:Int)<(Ev c:Nat))=true then 1 else 0)=some (.int (E6 c)):=by
      unfold E6;by_cases h:0<Ev c;rw[Au (A5 (by lia)),Au h];exact eH _ _;rw[At (by rw[En (by lia)];exact Df),At h];exact eF _ _
     refine Or.inr ⟨_,rfl,Or.inl ⟨_,.int (E6 c),Af.of cL,dJ,rfl,Ap (λd2=>?_) (λd2=>?_)⟩⟩;rotate_left;refine⟨_,_,rfl,k9.same E,?_⟩;rw[no λz=>d2 (A5 (by rw[bg];exact Int.ofNat_lt.mpr z.2))];exact ae.same E
     have bc:(Ct sA (Bx (Bu ns) (Ev c))).2.length<E6 c:=by
      have:=Be d2;rw[bg] at this;exact Int.ofNat_lt.mp this
     have l3:E6 c<=3:=by unfold E6;split<;>lia
     refine Or.inl ⟨_,.int (Bx (Bu ns) (Ev c)),Af.of (E _ _ cv),cw,Or.inl ⟨_,.ref u,Af.of (E _ _ ae.top),aC,Or.inr (Or.inl ⟨_,.ref L,Al.of (E _ _ c0),rfl,Or.inl ⟨rfl,_,Af.of (E _ _ X)⟩,⟨by decide,by decide⟩,c/6,au,aD,CC ns,F2 ns,rfl,Af.of ((be.trans E) _ _ (s3 _ _ eL)),lL,Af.of ((be.trans E) _ _ (s3 _ _ bG)),lN,λI bQ cJ t3 bd=>?_⟩)⟩⟩;have Q:=E.trans t3;have a4:=Q _ _ X;have mE:L∈A++C:=D6 _ (Bk aR);refine⟨_,a4,by rw[bg];exact BL (by lia),⟨_,_,rfl,(k9.same Q).set mE,?_⟩⟩;have:=(ae.same Q).tell nd bA aR a4 (b2.same Q) bd;unfold hB;rw[Au ⟨bb,bc⟩,cy,bf,Bl];exact this
   rintro σ H6 ⟨u6,u7,rfl,k6,a3⟩;rw[Ak] at a3;have aE:=aW k6;have aF:=bH.trans aE;have aL:=aE _ _ aS;have cM:=aE _ _ (s3 _ _ bG);have bR:=aE _ _ (s3 _ _ eL);refine Or.inl ⟨_,.int (Bx (Bu ns) 1),Af.of (aL),Na (k:=1) (by decide),BA,λN bh=>?_⟩;obtain⟨T1,cN,y1,aG⟩:=new_at (o:=.tup [.str "part",.int (Bx (Bu ns) 1)]) bh;rw[<-cN];have bi:Ac H6 T1:=y1;refine Or.inl ⟨_,.int (Bx (Bu ns) 2),Af.of ((bi) _ _ aL),Na (k:=2) (by decide),BA,λJ bj=>?_⟩;obtain⟨T2,cO,y2,aH⟩:=new_at (o:=.tup [.str "part",.int (Bx (Bu ns) 2)]) bj;rw[<-cO];have bS:Ac H6 T2:=bi.trans y2;refine⟨BA,λp3 cP=>?_⟩;obtain⟨T3,cQ,y3,bT⟩:=new_at (o:=.tup [.str "plain",.int 0]) cP;rw[<-cQ];have bU:Ac H6 T3:=bS.trans y3;refine⟨BA,λp4 cR=>?_⟩;obtain⟨T4,cS,y4,bV⟩:=new_at (o:=.tup [.str "sort",.int 0]) cR;rw[<-cS];have bW:Ac H6 T4:=bU.trans y4;refine⟨BA,λp5 cT=>?_⟩;obtain⟨T5,cU,y5,bX⟩:=new_at (o:=.tup [.str "sort",.int 3]) cT;rw[<-cU];have bk:Ac H6 T5:=bW.trans y5;refine Or.inl ⟨_,.int (Bx (Bu ns) 3),Af.of ((bk) _ _ aL),Na (k:=3) (by decide),BA,λp6 cV=>?_⟩;obtain⟨T6,cW,y6,bY⟩:=new_at (o:=.tup [.str "part",.int (Bx (Bu ns) 3)]) cV;rw[<-cW];have bZ:Ac H6 T6:=bk.trans y6;refine⟨(by show 6<=sizeLine;decide),λav hT=>?_⟩;have O:=AJ (o:=.lst [.ref N,.ref J,.ref p3,.ref p4,.ref p5,.ref p6]) hT;have eT:(upd T6 av (.lst [.ref N,.ref J,.ref p3,.ref p4,.ref p5,.ref p6])) av=some (.lst ([N,J,p3,p4,p5,p6].map V.ref)):=Aa;generalize upd T6 av (.lst [.ref N,.ref J,.ref p3,.ref p4,.ref p5,.ref p6])=bl at O eT ⊢;have z6:=y6.trans O;have z5:=y5.trans z6;have z4:=y4.trans z5;have z3:=y3.trans z4;have z2:=y2.trans z3;have TG:GT bl [N,J,p3,p4,p5,p6] (Ql (Bu ns)):=(((((GT.nil.snoc (p:=(("part" : Str),Bx (Bu ns) 1)) (z2 _ _ aG)).snoc (p:=(("part" : Str),Bx (Bu ns) 2)) (z3 _ _ aH)).snoc (p:=(("plain" : Str),0)) (z4 _ _ bT)).snoc (p:=(("sort" : Str),0)) (z5 _ _ bV)).snoc (p:=(("sort" : Str),3)) (z6 _ _ bX)).snoc (p:=(("part" : Str),Bx (Bu ns) 3)) (O _ _ bY);have bm:Ac H6 bl:=bZ.trans O;generalize [N,J,p3,p4,p5,p6]=tT at eT TG;clear bi bS bU bW bk bZ z2 z3 z4 z5 z6 y1 y2 y3 y4 y5 y6 O aG aH bT bV bX bY
   refine⟨by decide,by decide,NW (lo:=0) (n:=6) (λD i d b=>∃qt:List Addr,d=qt.map V.ref/\Ac bl b/\b D=some (.lst d)/\QT b qt (List.replicate i (Bx (Bu ns) 0,0,[(F2 ns).getD 0 default])))
    (λD l=>⟨[],rfl,AJ l,Aa,QT.nil⟩) (λD i d H8 RR l hi s k=>?_) (λaN d H8 hR s=>?_)⟩
   obtain⟨qt,rfl,s8,H,TQ⟩:=s;have bD:=TQ.len;rw[List.length_replicate] at bD;have a5:=bm.trans s8;refine Or.inl ⟨_,.int (Bx (Bu ns) 0),Af.of (a5 _ _ aL),Na (k:=0) (by decide),Or.inl ⟨_,.str ((F2 ns).getD 0 default),Af.of (a5 _ _ cM),Tv (n:=0) (by rw[lN];decide),HB,λpu cX=>?_⟩⟩;obtain⟨W,a0,v,cY⟩:=new_at (o:=.tup [.str ((F2 ns).getD 0 default)]) cX;rw[<-a0];refine⟨Gj,λtq cZ=>?_⟩;show RR (.ref tq) (upd W tq (.tup [.int (Bx (Bu ns) 0),.int 0,.ref pu]));obtain⟨S,ar,E,da⟩:=new_at (o:=.tup [.int (Bx (Bu ns) 0),.int 0,.ref pu]) cZ;rw[<-ar];have an:=v.trans E;have ag:=an _ _ H;have Y:Keeps (·=D) S (upd S D (.lst (qt.map V.ref++[.ref tq]))):=Keeps.one ag;refine k _ _ ag (by rw[Ak,bD];exact BL (by lia)) ⟨qt++[tq],by rw[A8];rfl,λai o e=>?_,Aa,?_⟩;rw[AH (AV e l)];exact an _ _ (s8 _ _ e);rw[List.replicate_succ'];exact((TQ.same an).keeps Y).snoc (q:=(Bx (Bu ns) 0,0,[(F2 ns).getD 0 default])) (Y.tup da) (Y.tup (E _ _ cY));obtain⟨qt,rfl,s8,eR,TQ⟩:=s;have a5:=bm.trans s8;refine⟨BA,λN bh=>?_⟩;obtain⟨U1,db,y1,aG⟩:=new_at (o:=.tup [.str "none",.int 0]) bh;rw[<-db];refine⟨BA,λJ bj=>?_⟩;obtain⟨U2,dc,y2,aH⟩:=new_at (o:=.tup [.str "torn",.int 0]) bj;rw[<-dc];refine⟨Gj,λlA dd=>?_⟩;obtain⟨U3,de,y3,df⟩:=new_at (o:=.lst [.non,.ref N,.ref J]) dd;rw[<-de]
   refine⟨by decide,by decide,NW (lo:=0) (n:=6) (λD i d b=>∃I:List Addr,d=I.map V.ref/\I.length=i/\Ac U3 b/\b D=some (.lst d)/\∀(j:Nat)(p:Addr),I[j]?=some p->b p=some (.tup [.str "thing",.int j]))
    (λD l=>⟨[],rfl,rfl,AJ l,Aa,λj p h=>by cases h⟩) (λD i d W RR l hi s k=>?_) (λlB d U4 ei s=>?_)⟩
   refine AL λU g=>?_;obtain⟨I,rfl,a6,s9,H,dK⟩:=s;refine g ?_;clear g;refine⟨BA,λp hp=>?_⟩;have v:=AJ (o:=.tup [.str "thing",.int (0+(i:Int))]) hp;have ep:(upd W p (.tup [.str "thing",.int (0+(i:Int))])) p=some (.tup [.str "thing",.int i]):=(by rw[Aa,Int.zero_add]);generalize upd W p (.tup [.str "thing",.int (0+(i:Int))])=S at v ep ⊢;have ag:=v _ _ H;have Y:Keeps (·=D) S (upd S D (.lst (I.map V.ref++[.ref p]))):=Keeps.one ag;refine k _ _ ag (by rw[Ak,a6];exact BL (by lia)) ⟨I++[p],by rw[A8];rfl,by rw[AO,a6];rfl,λai o e=>?_,Aa,λj p' hj=>?_⟩;rw[AH (AV e l)];exact v _ _ (s9 _ _ e);rcases Nat.lt_or_ge j I.length with bn|dg;rw[EQ bn] at hj;exact Y.tup (v _ _ (dK j p' hj))
   have ao:j=I.length:=by
    have:=(Bi.mp hj).1;rw[AO,Ew] at this;lia
   rw[ao,List.getElem?_concat_length] at hj;cases hj;rw[ao,a6];exact Y.tup ep;refine AL λU g=>?_;obtain⟨I,rfl,a6,y4,dh,dL⟩:=s;refine g ?_;clear g;refine⟨lA,lB,_,_,rfl,rfl,y4 _ _ df,dh,(by rw[Ak,a6];show 3+6<=sizeLine;decide),λLS di=>?_⟩;obtain⟨U5,dj,y5,dk⟩:=new_at (o:=.lst ([.non,.ref N,.ref J]++I.map V.ref)) di;rw[<-dj];have bo:=y3.trans (y4.trans y5);have ca:Ac H8 U5:=y1.trans (y2.trans bo)
   have dM:∀n:Int,∃aw,AS ([V.non,.ref N,.ref J]++I.map V.ref) (n%9)=some aw/\Bc (λζ=>False) U5 aw (B3 (OC n)):=λn=>by
    have m0:=Gu n (by decide:(9:Int)≠0);have m1:=Gr n (by decide:(0:Int)<9);unfold OC;by_cases k0:n%9=0;rw[Au k0,k0];exact⟨.non,A1 (j:=0) rfl,.non⟩;rw[At k0];by_cases k1:n%9=1;rw[Au k1,k1];exact⟨.ref N,A1 (j:=1) rfl,.tup ((y2.trans bo) _ _ aG) (.cons (.str _) (.cons (.int _) .nil))⟩;rw[At k1];by_cases k2:n%9=2;rw[Au k2,k2];exact⟨.ref J,A1 (j:=2) rfl,.tup (bo _ _ aH) (.cons (.str _) (.cons (.int _) .nil))⟩;rw[At k2];obtain⟨j,hj⟩:∃j:Nat,n%9=((3+j:Nat):Int):=⟨(n%9-3).toNat,by lia⟩;have ao:j<I.length:=(by lia);have bp:=AB ao;generalize I[j]=tj at bp;rw[hj];refine⟨.ref tj,A1 ?_,?_⟩;rw[E8 (by show 3<=3+j;lia),show 3+j-[V.non,V.ref N,V.ref J].length=j by show 3+j-3=j;lia,AM,bp];rfl;rw[show(((3+j:Nat):Int)-3)=(j:Int) by lia];exact .tup (y5 _ _ (dL j tj bp)) (.cons (.str _) (.cons (.int _) .nil))
   have dm:=a5.trans ca;have dn:=aF.trans dm;refine⟨a,ns,3,rfl,by decide,dn.seq hS,Or.inr ⟨by decide,by decide⟩,(by show(0:Int)<2147483647;decide),?_⟩;refine⟨by decide,λah hA=>?_⟩;obtain⟨U6,dp,y6,eA⟩:=new_at (o:=.lst []) hA;rw[<-dp];refine⟨by decide,by decide,Lh (lo:=0) (n:=6) (λi σ b=>∃bq af,σ=[some (.ref a),some (.ref aD),some (.ref au),some (.int (Bu ns)),some (.ref SP),some (.ref aj),some (.int (J1 (Qn ns) i)),u7,some (.ref av),some (.ref aN),some (.ref LS),some (.ref ah),bq,none,none,none,none]/\Ac U5 b/\b ah=some (.lst af)/\AC (λζ=>False) b af ((KU (Qn ns) i).map B3)) ⟨none,[],rfl,y6,eA,.nil⟩ ?_ ?_⟩;refine λi σ U7 hi br=>AL λU g=>?_;obtain⟨bq,af,rfl,O,a7,aI⟩:=br;refine g ?_;clear g;refine ID ?_;intro Nx Cy;obtain⟨aw,dq,a8⟩:=dM (J1 (Qn ns) i);have lv:af.length=i:=(by rw[aI.length,Ak,Tt]);refine⟨Or.inl ⟨rfl,_,Af.of a7⟩,(by show(0:Int)<9;decide),Or.inl ⟨_,aw,Af.of (O _ _ dk),dq,_,a7,BL (by lia),?_⟩⟩;have Y:Keeps (·=ah) U7 (upd U7 ah (.lst (af++[aw]))):=Keeps.one a7;refine⟨⟨by decide,by decide⟩,_,af++[aw],rfl,λai o e=>?_,Aa,?_⟩;rw[AH (AV e hA)];exact O _ _ e;rw[Z9,A8];exact(aI.keeps Y λx M=>M.elim).snoc ((a8.same O).keeps Y λx M=>M.elim);refine λσ U7 br=>AL λU g=>?_;obtain⟨bq,af,rfl,O,a7,aI⟩:=br;refine g ?_;clear g;have cb:=ca.trans O;have cc:=a5.trans cb;have dr:=aF.trans cc;refine⟨a,ns,4,rfl,by decide,dr.seq hS,Or.inr ⟨by decide,by decide⟩,(by show(0:Int)<2305843009213693951;decide),_,15,rfl,by decide,λc5 U8 hX y8 eX=>?_⟩;have eX:U8 c5=some (.lst ((EW ns).map V.int)):=eX;have lR:=J2 ns;have cx:=cc.trans y8;have cd:=cx _ _ bR
   refine⟨by decide,by decide,SJ (lo:=0) (n:=5) (λD i d b=>∃tg:List Addr,d=tg.map V.ref/\Ac U8 b/\b D=some (.lst d)/\GT b tg (IH (CC ns) (EW ns) i))
    (λD l=>⟨[],rfl,AJ l,Aa,GT.nil⟩) (λD i d W RR R0 l hi s k k0=>?_) (λG0 d U9 ej s=>?_)⟩
   . obtain⟨tg,rfl,s9,H,ay⟩:=s
     have lG:=Qm (CC ns) (EW ns) i;have a1:AS ((EW ns).map V.int) (0+(i:Int))=some (.int ((EW ns).getD i 0)):=by rw[Int.zero_add];exact W0 (by lia)
     have a2:AS ((CC ns).map V.str) (0+(i:Int))=some (.str ((CC ns).getD i default)):=by rw[Int.zero_add];exact Tv (by rw[lL];lia)
     refine Or.inl ⟨_,_,Af.of (s9 _ _ eX),a1,rfl,Ap (λak=>?_) (λak=>?_)⟩;rotate_left;have d':¬0<(EW ns).getD i 0:=λz=>ak (A5 z);refine k0 _ ⟨tg,rfl,s9,H,?_⟩;rw[IH,At d',Eb];exact ay;have d':0<(EW ns).getD i 0:=Be ak;refine Or.inl ⟨_,_,Af.of (s9 _ _ cd),a2,BA,λp hp=>?_⟩;show RR (.ref p) (upd W p (.tup [.str ((CC ns).getD i default),.int 1]));obtain⟨S,ar,v,ep⟩:=new_at (o:=.tup [.str ((CC ns).getD i default),.int 1]) hp;rw[<-ar];have ag:=v _ _ H;refine k _ _ ag (by rw[Ak,ay.len];exact BL (by lia)) ⟨tg++[p],by rw[A8];rfl,λai o e=>?_,Aa,?_⟩;rw[AH (AV e l)];exact v _ _ (s9 _ _ e);rw[IH,Au d'];exact((ay.same v).snoc (p:=((CC ns).getD i default,1)) ep).updL ag
   obtain⟨tg,rfl,y9,ds,ay⟩:=s;have lG:=Qm (CC ns) (EW ns) 5;obtain⟨zs,z1,z2,z3⟩:=Sc (K:=K) ay.len ay.at_;have ek:zs.length=(IH (CC ns) (EW ns) 5).length:=(by rw[<-z2,Ak]);refine⟨G0,zs,rfl,Af.of (by rw[z1];exact ds),by lia,z3,λG1 T hp hw dt=>?_⟩;have aJ:=AJ (o:=.lst (T.map (·.1))) dt;have aK:(upd U9 G1 (.lst (T.map (·.1)))) G1=some (.lst (T.map (·.1))):=Aa
   have cf:∀z∈T,HF K (upd U9 G1 (.lst (T.map (·.1)))) z:=λz hz=>by
    obtain⟨t,a1,a2⟩:=z3 z (hp.mem_iff.mp hz);exact⟨t,a1,aJ.seqT a2⟩
   generalize upd U9 G1 (.lst (T.map (·.1)))=cg at aJ aK cf ⊢;have gG:Dm K cg G1 (T.map (·.2)):=⟨_,Af.of aK,Sd T cf⟩;have bB:=y9.trans aJ;have dN:=bB _ _ eX;have dO:=bB _ _ cd
   refine⟨by decide,by decide,NW (lo:=0) (n:=2) (λD i d b=>∃(R:List Addr)(ee:List (List Str)),d=R.map V.ref/\R.length=i/\ee.length=i/\Ac cg b/\b D=some (.lst d)/\∀(j:Nat)(e:Addr)(x:List Str),R[j]?=some e->ee[j]?=some x->(e≠D/\b e=some (.lst (x.map V.str)))/\x.Perm (II (CC ns) (EW ns) j 5)/\x.Pairwise B2.kle)
    (λD l=>⟨[],[],rfl,rfl,rfl,AJ l,Aa,λj e x h=>by cases h⟩) (λD i d bQ RR l hi s k=>?_) (λEL d en eo s=>?_)⟩
   . refine AL λU g=>?_
     obtain⟨R,ee,rfl,aq,a9,ch,H,aM⟩:=s;refine g ?_;clear g
     refine⟨by decide,by decide,SJ (lo:=0) (n:=5) (λD2 j d b=>d=(II (CC ns) (EW ns) i j).map V.str/\Ac bQ b/\b D2=some (.lst d))
      (λD2 bs=>⟨rfl,AJ bs,Aa⟩) (λD2 j d du er es bs hj a8 k2 dv=>?_) (λL d du aa a8=>?_)⟩
     . obtain⟨rfl,az,cj⟩:=a8
       have cz:=ch.trans az;have lE:=Tu (CC ns) (EW ns) i j
       have a1:AS ((EW ns).map V.int) (5*(0+(i:Int))+5+(0+(j:Int)))=some (.int ((EW ns).getD (5*i+5+j) 0)):=by
        rw[show(5*(0+(i:Int))+5+(0+(j:Int)))=((5*i+5+j:Nat):Int) by lia];exact W0 (by lia)
       have a2:AS ((CC ns).map V.str) (0+(j:Int))=some (.str ((CC ns).getD j default)):=by rw[Int.zero_add];exact Tv (by rw[lL];lia)
       refine⟨Or.inl ⟨by decide,by decide⟩,Or.inl ⟨_,_,Af.of (cz _ _ dN),a1,rfl,Ap (λak=>?_) (λak=>?_)⟩⟩;rotate_left;have d':¬0<(EW ns).getD (5*i+5+j) 0:=λz=>ak (A5 z);refine dv _ ⟨?_,az,cj⟩;rw[II,At d',Eb];have d':0<(EW ns).getD (5*i+5+j) 0:=Be ak;refine Or.inl ⟨_,_,Af.of (cz _ _ dO),a2,?_⟩;refine k2 _ _ cj (by rw[Ak];exact BL (by lia)) ⟨by rw[II,Au d',A8];rfl,λai o e=>?_,Aa⟩;rw[AH (AV e bs)];exact az _ _ e
     obtain⟨rfl,az,aV⟩:=a8;have lE:=Tu (CC ns) (EW ns) i 5;refine⟨L,II (CC ns) (EW ns) i 5,rfl,Af.of aV,by lia,λE2 ck dw dx bt=>?_⟩;obtain⟨ev,dP,v,dy⟩:=new_at (o:=.lst (ck.map V.str)) bt;rw[<-dP];have an:=az.trans v;have dQ:=an _ _ H;have nE:E2≠D:=λz=>by rw[z,az _ _ H] at bt;cases bt
     refine k _ _ dQ (by rw[Ak,aq];exact BL (by lia)) ⟨R++[E2],ee++[ck],by rw[A8];rfl,by rw[AO,aq];rfl,by rw[AO,a9];rfl,λai o e=>?_,Aa,λj e x h1 h2=>?_⟩;rw[AH (AV e l)];exact an _ _ (ch _ _ e);rcases Nat.lt_or_ge j R.length with bn|dg;rw[EQ bn] at h1;rw[EQ (by lia)] at h2;obtain⟨⟨n1,n2⟩,n3⟩:=aM j e x h1 h2;exact⟨⟨n1,by rw[AH n1];exact an _ _ n2⟩,n3⟩
     have ao:j=R.length:=by
      have:=(Bi.mp h1).1;rw[AO,Ew] at this;lia
     have dR:j=ee.length:=(by lia);rw[ao,List.getElem?_concat_length] at h1;rw[dR,List.getElem?_concat_length] at h2;cases h1;cases h2;refine⟨⟨nE,by rw[AH nE];exact dy⟩,?_⟩;rw[ao,aq];exact⟨dw,dx⟩
   refine AL λU g=>?_;obtain⟨R,ee,rfl,aq,a9,bu,cl,aM⟩:=s;refine g ?_;clear g
   obtain⟨Z,e1,rfl⟩:∃Z e1,R=[Z,e1]:=by
    cases R with
    |nil=>cases aq
    |cons Z r=>cases r with
      |nil=>cases aq
      |cons e1 r=>cases r with
        |nil=>exact⟨Z,e1,rfl⟩
        |cons=>cases aq
   obtain⟨x0,x1,rfl⟩:∃x0 x1,ee=[x0,x1]:=by
    cases ee with
    |nil=>cases a9
    |cons Z r=>cases r with
      |nil=>cases a9
      |cons e1 r=>cases r with
        |nil=>exact⟨Z,e1,rfl⟩
        |cons=>cases a9
   obtain⟨⟨_,b0⟩,X,b2⟩:=aM 0 Z x0 rfl rfl;obtain⟨⟨_,b3⟩,b4,b5⟩:=aM 1 e1 x1 rfl rfl;refine Or.inl ⟨_,.ref Z,Af.of cl,A1 (j:=0) rfl,BA,λaA dS=>?_⟩;obtain⟨V1,dz,q1,dT⟩:=new_at (o:=.tup [.ref G1,.ref Z]) dS;rw[<-dz];refine⟨by decide,λG2 d0=>?_⟩;obtain⟨V2,d3,q2,bv⟩:=new_at (o:=.lst []) d0;rw[<-d3];refine Or.inl ⟨_,.ref e1,Af.of ((q1.trans q2) _ _ cl),A1 (j:=1) rfl,BA,λaB dU=>?_⟩;obtain⟨V3,d4,q3,dV⟩:=new_at (o:=.tup [.ref G2,.ref e1]) dU;rw[<-d4];refine⟨BA,λD l=>?_⟩;have q4:=AJ (o:=.lst [.ref aA,.ref aB]) l;have H:(upd V3 D (.lst [.ref aA,.ref aB])) D=some (.lst ([aA,aB].map V.ref)):=Aa;generalize upd V3 D (.lst [.ref aA,.ref aB])=V4 at q4 H ⊢;have d5:=q3.trans q4;have d6:=q2.trans d5;have d7:=q1.trans d6;have cm:=cx.trans (bB.trans (bu.trans d7));have d8:=aF.trans cm;refine⟨a,ns,5,rfl,by decide,d8.seq hS,_,au,CC ns,rfl,Af.of (cm _ _ bR),by lia,λaO d9 dA V5 hO q5 eO TO dW=>?_⟩;refine⟨Gj,λt ht=>?_⟩;obtain⟨V6,dB,q6,et⟩:=new_at (o:=.tup [.ref D,.int 0,.ref aO]) ht;rw[<-dB];refine⟨Gj,λnt dC=>?_⟩;obtain⟨V7,dD,q7,dE⟩:=new_at (o:=.tup [.ref aj,.ref av,.ref aN]) dC;rw[<-dD];refine⟨Gj,λr hr=>?_⟩;have q8:=AJ (o:=.tup [.ref nt,.ref t,.ref ah]) hr;have cn:=q7.trans q8;have bw:=q6.trans cn;have cp:=q5.trans bw;have cq:=q4.trans cp;have bx:=q3.trans cq;have cs:=q2.trans bx;have bz:=q1.trans cs;have bC:=bu.trans bz;have dX:=aJ.trans bC;have dF:=y9.trans dX;have b1:=y8.trans dF;have b6:=cb.trans b1;have b7:=s8.trans b6;have ct:=bm.trans b7;have dG:D≠aO:=λy=>by rw[<-y,H] at hO;cases hO
   refine q r nt t ah aj av aN us A C tT qt af _ _ _ _ [(T.map (·.2),x0),([],x1)] 0 dA _ (aF.trans ct) Aa (q8 _ _ dE) ⟨a3.same ct,b7 _ _ eT,TG.same b7,b6 _ _ eR,TQ.same b6⟩ (b1 _ _ a7) (aI.same b1) ⟨D,aO,[aA,aB],d9,cn _ _ et,True.intro,True.intro,dG,cp _ _ H,?_,bw _ _ eO,TO.same bw⟩ ⟨rfl,rfl,rfl,rfl,⟨_,_,_,rfl,by rw[<-z2];exact hp.map _,hw,X,b2,b4,b5⟩,rfl,dW⟩;have b8:=q1.trans (q2.trans q3);have nn:∀{x:Addr}{o:HO},V3 x=some o->x≠D:=λe z=>by rw[z,l] at e;cases e
   exact((Bn.nil (F:=λζ=>True)).snoc (r:=(T.map (·.2),x0)) (cs _ _ dT) (gG.same bC) (bC _ _ aK) (bz _ _ b0) (nn ((bu.trans b8) _ _ aK)) (nn (b8 _ _ b0)) True.intro True.intro).snoc (r:=([],x1)) (cq _ _ dV) ⟨[],Af.of (bx _ _ bv),.nil⟩ (bx _ _ bv) (bz _ _ b3) (nn (q3 _ _ bv)) (nn (b8 _ _ b3)) True.intro True.intro
variable {W:Wd}{s:Bf}
def eK(h:W.ss[n]?=some s):Et W (n:Int)=s.2:=by unfold Et;rw[Bl,h]
def J3{s:CA}(h:W.sts[n]?=some s):FV W (n:Int)=s.2:=by unfold FV;rw[Bl,h]
variable {b:AK}{q:DK}
def J4(h:¬(q.2.1=x/\q.1∈FV W b.2.2)):FW W b x q i=[]:=At h
def MA(h:q.2.1=x/\q.1∈FV W b.2.2):FW W b x q i=[b.1++[(b.2.1,("told" : Str),(i:Int))]]:=Au h
inductive DV (K:Aj) (vs:List V) (H:Hp) (Q:VK):Prop where
 |mk (nt A t M:Addr) (x:Str) (W:Wd) (b:AK) (ms:List Addr) (h0:vs=[.ref nt,.ref t,.int b.2.1,.int b.2.2,.str x,.ref M]) (h1:A6 K H nt A t W) (h2:(0<=b.2.1/\b.2.1<W.ss.length)) (h3:(0<=b.2.2/\b.2.2<W.sts.length)) (h4:H M=some (.lst (ms.map V.ref))) (h5:RT FT H ms b.1) (h6:b.1.length<=10) (h7:(∀s∈W.ss,s.2.length<=100)) (h8:∀(D:Addr)(ws:List (Addr×List As))(H':Hp),H D=none->Ac H H'->H' D=some (.lst (ws.map λz=>V.ref z.1))->(∀z∈ws,BW (λl=>H l=none/\l≠D) H' z.1 z.2)->ws.map (·.2)=EF W x b->Q (.ref D) H'):DV K vs H Q
def eQ (K:Aj):Sp:=λvs H Q ζ=>DV K vs H Q
abbrev Tx(P w K mg base):=BG P w K mg base "_law_ends" 1 ["_law_net", "_law_table", "_law_scope", "_law_state", "_law_name", "_law_marks"] (eQ K)
def eU(ab:BH mg)(F:Bv K "_law_ends" "_law_ends" OW f fd)(g:mg "_law_ends" = some (.ref f)):Tx P w K mg base:=by
 refine B0 F g Ta (λvs H az a0 h=>?_) (λaQ ae aU s H vs az a0 hr h=>?_);obtain⟨nt,ae,t,af,x,W,b,e,rfl,_⟩:=h;rfl
 . obtain⟨nt,ae,t,af,x,W,b,e,rfl,hC,a5,a6,a7,e3,a8,aH,q⟩:=h
   obtain⟨a1,aK,aL,us,Gs,Es,ts,qt,qs,eN,N3⟩:=hC.net;obtain⟨a2,o,aR,b1,a3,b2,b3⟩:=hC.tab;obtain⟨n,I⟩:=Co a5.1;obtain⟨k,hk⟩:=Co a6.1;have al:n<W.ss.length:=(by lia);have a9:k<W.sts.length:=(by lia);obtain⟨ag,aM,E1,a4,aO,aP,g4,⟨c0,_,⟨u,S,J⟩⟩⟩:=N3.sc.get al;have an:=AB a9;have eT:Et W b.2.1=W.ss[n].2:=by rw[I];exact eK g4
   have eE:FV W b.2.2=W.sts[k].2:=by rw[hk];exact J3 an
   have aA:AS (us.map V.ref) b.2.1=some (.ref ag):=by rw[I];exact A1 (by rw[AM,a4];rfl)
   have aS:u.length<=100:=by rw[J.len];exact aH _ (Dk al)
   obtain⟨aN,v,aB⟩:=b3.get' (i:=k) (d:=HD W.sts[k]) (by rw[AM,an];rfl);obtain⟨aj,gA,eA,rfl,aI,hg,he⟩:=NV aB;have aJ:AS a3 b.2.2=some (.ref aj):=by rw[hk];exact A1 v
   refine⟨_,(Ar (AN (i:=6) Ta.nd (An Ao (An Ao (An Ao (pv 0) Ah) (pv 2)) Ah))
    (Ar (AN (i:=7) Ta.nd (An Ao (An Ao (An Ao (pv 1) Ah) (pv 3)) Ah))
    (Aw (AI (Ha (tc:=Ni (MP (Ck Ui (Ck (Ey K) (Ck (Ey K) (A0 5) (A0 0)) (tC (.int ((1:Nat):Int)))) (A0 3))) (MP (Ck (NR K) (Ck (Ey K) (Ck (Ey K) (A0 5) (A0 0)) (tC (.int ((0:Nat):Int)))) (A0 4)))) rfl C5 (Gg rfl ab.b_range (Ab (CH GA ab.b_len (Ab (pv 6) Ae)) Ae)) (λζ ζ ζ ζ ζ=>(Av (i:=0) C5.nd)) (λζ ζ ζ ζ ζ=>(NN (PW.pt (Gx (Bp B8 (An Ao (An Ao (pv 5) (pv 0)) Ah) (pv 3) (Bj _)) (GU (Bp (NS hr.units) (An Ao (An Ao (pv 5) (pv 0)) Ah) (pv 4) (by with_unfolding_all rfl))))))) (λζ ζ ζ ζ ζ=>(AZ Lr (pv 1) (Cg (Ab (AQ (Ab (pv 2) (Ab AW (Ab (pv 0) Ae)))) Ae))))))))),?_⟩
   rfl';refine Or.inr (Or.inl ⟨_,.ref a1,Al.of eN,rfl,Or.inl ⟨_,.ref ag,Af.of N3.sc.top,aA,Or.inr (Or.inl ⟨_,.ref E1,Al.of c0,rfl,?_⟩)⟩⟩);refine Or.inr (Or.inl ⟨_,.ref a2,b1,rfl,Or.inl ⟨_,.ref aj,b2,aJ,Or.inr (Or.inl ⟨_,.ref eA,aI,rfl,?_⟩)⟩⟩)
   refine⟨_,Or.inl ⟨_,Af.of S,rfl⟩,(by rw[Ak];lia),(by rw[Ak];lia),SJ (lo:=0) (n:=(((u.map V.ref).length:Nat):Int).toNat) (λD i M T=>∃a:List (Addr×List As),M=a.map (λz=>V.ref z.1)/\Ac H T/\T D=some (.lst M)/\(∀z∈a,BW (λah=>H ah=none/\ah≠D) T z.1 z.2)/\a.map (·.2)=DI W b x ((Et W b.2.1).take i) 0)
    (λD A=>⟨[],rfl,AJ A,Aa,(λz hz=>by cases hz),rfl⟩) (λD j M Y RR R0 A hj v k9 k0=>?_) (λD M Y A v=>?_)⟩
   rotate_left;refine AL λNz G=>?_;obtain⟨a,rfl,c,r,B,g⟩:=v;refine G ?_;clear G;refine q D a _ A c r B ?_;rw[g,List.take_of_length_le];rfl;rw[eT,<-J.len,Ak];lia;refine AL λNz G=>?_;obtain⟨a,rfl,c,r,B,g⟩:=v;refine G ?_;clear G;have ao:j<u.length:=by rw[Ak] at hj;lia
   have Z:=AB ao;generalize u[j]=N at Z;have aC:j<W.ss[n].2.length:=by rw[<-J.len];exact ao
   have U:=AB aC;have aq:=J.at_ j N _ Z U;generalize W.ss[n].2[j]=p at U aq
   have ar:DI W b x ((Et W b.2.1).take (j+1)) 0=DI W b x ((Et W b.2.1).take j) 0++FW W b x p j:=by
    rw[D7,eT,U];show DI W b x (W.ss[n].2.take j++[p]) 0=_;rw[Sq,Ek,Nat.zero_add,Nat.min_eq_left (by lia)]
   have ax:AS (u.map V.ref) (0+(j:Int))=some (.ref N):=by rw[Int.zero_add];exact A1 (by rw[AM,Z];rfl)
   have ay:=Al.of (K:=K) (c _ _ aq);have skip:¬(p.2.1=x/\p.1∈FV W b.2.2)->a.map (·.2)=DI W b x ((Et W b.2.1).take (j+1)) 0:=λI=>by rw[ar,J4 I,Eb,g]
   refine Or.inl ⟨_,.ref N,Af.of (c _ _ S),ax,Or.inr (Or.inl ⟨_,.str p.2.1,ay,rfl,rfl,rfl,Ap (λC=>?_) (λC=>Bm ?_)⟩)⟩;rotate_left;exact k0 _ ⟨a,rfl,c,r,B,skip λh=>C (A5 (by rw[h.1]))⟩;have C:p.2.1=x:=V.str.inj (Be C);refine Or.inl ⟨_,.ref N,Af.of (c _ _ S),ax,Or.inr (Or.inl ⟨_,.str p.1,ay,rfl,2,.str p.1,W.sts[k].2.map Dt.str,eA,_,λd hd=>?_,by decide,.str _,rfl,c.seq he,Ai.strs _,rfl,Ap (λE=>?_) (λE=>?_)⟩)⟩;obtain⟨y,_,rfl⟩:=AF.mp hd;exact .str _ _;rotate_left;refine k0 _ ⟨a,rfl,c,r,B,skip λh=>E (Ep ?_)⟩;exact AF.mpr ⟨_,by rw[<-eE];exact h.2,rfl⟩
   have E:p.1∈FV W b.2.2:=by
    obtain⟨y,l,z⟩:=AF.mp (B7.mp E);rw[eE,<-Dt.str.inj z];exact l
   refine⟨Gj,λm aD=>?_⟩;have s5:=AJ (o:=.tup [.int b.2.1,.str "told",.int (0+(j:Int))]) aD;have ak:(upd Y m (.tup [.int b.2.1,.str "told",.int (0+(j:Int))])) m=some (.tup (FT (b.2.1,("told" : Str),(j:Int)))):=(by rw[Aa,Int.zero_add]);generalize upd Y m (.tup [.int b.2.1,.str "told",.int (0+(j:Int))])=H5 at s5 ak ⊢;refine⟨HB,λM1 aE=>?_⟩;obtain⟨H6,aF,s6,aG⟩:=new_at (o:=.lst [.ref m]) aE;rw[<-aF];have aa:=s5.trans s6;have au:=c.trans aa;have aT:e.length<=10:=by rw[e3.len];exact a8
   refine⟨af,M1,_,_,rfl,rfl,au _ _ a7,aG,by rw[Ak];exact CU (BL (by show e.length+1<=1000;lia)),λL O=>?_⟩;have av:L≠D:=λy=>by rw[y,aa _ _ r] at O;cases O
   have X:=AJ (o:=.lst (e.map V.ref++[.ref m])) O;have eL:(upd H6 L (.lst (e.map V.ref++[.ref m]))) L=some (.lst ((e++[m]).map V.ref)):=by rw[Aa,A8];rfl
   generalize upd H6 L (.lst (e.map V.ref++[.ref m]))=H7 at X eL ⊢;have R:=aa.trans X;have aw:=R _ _ r;have Q:Keeps (·=D) H7 (upd H7 D (.lst (a.map (λz=>V.ref z.1)++[.ref L]))):=Keeps.one aw
   have lw:a.length<=100:=by
    have h8:=Bq List.length g;have h9:=N5 W b x ((Et W b.2.1).take j) 0;rw[Ak] at h8;rw[Ek] at h9;lia
   refine k9 _ _ aw (by rw[Ak];exact BL (by lia)) ⟨a++[(L,b.1++[(b.2.1,("told" : Str),(j:Int))])],by rw[A8];rfl,λy o ai=>?_,Aa,λy l=>?_,?_⟩;rw[AH (AV ai A)];exact R _ _ (c _ _ ai);rcases BR.mp l with l|l;exact((B y l).same R).keeps Q λx hx=>hx.2;rw[A9.mp l];refine⟨e++[m],Q.at_ _ _ eL av,?_,au.free O,av⟩;exact RT.snoc ((e3.same (c.trans R)).keeps Q) (Q.tup ((s6.trans X) _ _ ak));rw[ar,MA ⟨C,E⟩,A8,g];rfl
def Fy (ths:List (Str×Int)) (as:List (C')) (q:Int):Str×Int:=match as[q.toNat]? with
 |some (some w)=>if w.1=("thing" : Str) then(match ths[w.2.toNat]? with
   |some k=>ES ths as k
   |none=>("no",0)) else("no",0)
 |some none=>("open",q)
 |none=>("no",0)
def KW (ths:List (Str×Int)) (as:List (C')) (q:Int):Nat->Str×Int
 |0=>Fy ths as q
 |1=>Ef ths as q
 |_=>("no",0)
variable {ths:List (Str×Int)}{as:List (C')}
def eV(b:i<2)(a:as[n]?=some none):KW ths as (n:Int) i=(("open" : Str),(n:Int)):=by
 rcases(show i=0\/i=1 by lia) with rfl|rfl;show Fy ths as n=_;unfold Fy;rw[Bl,a];exact Ve a
def MB(c:i<2)(a:as[n]?=some (some p))(b:p.1≠("thing" : Str)):KW ths as (n:Int) i=(("no" : Str),0):=by
 rcases(show i=0\/i=1 by lia) with rfl|rfl;show Fy ths as n=_;unfold Fy;rw[Bl,a];exact At b;exact Vf a b
def eY{k:Str×Int}(f:i<2)(a:as[n]?=some (some p))(b:p.1=("thing" : Str))(c:p.2=(m:Int))(d:ths[m]?=some k)(e:k.1=("part" : Str)):KW ths as (n:Int) i=(("to" : Str),k.2):=by
 rcases(show i=0\/i=1 by lia) with rfl|rfl;show Fy ths as n=_;unfold Fy;rw[Bl,a];dsimp only;rw[Au b,c,Bl,d];exact Au e;exact Vg a b c d e
def MC{k:Str×Int}(g:i<2)(a:as[n]?=some (some p))(b:p.1=("thing" : Str))(c:p.2=(m:Int))(d:ths[m]?=some k)(f:k.1≠("part" : Str)):KW ths as (n:Int) i=if k.1=("sort" : Str) then KW ths as k.2 (i+1) else(("no" : Str),0):=by
 rcases(show i=0\/i=1 by lia) with rfl|rfl;show Fy ths as n=_;unfold Fy;rw[Bl,a];dsimp only;rw[Au b,c,Bl,d];exact At f
 have e:Ef ths as (n:Int)=(("no" : Str),0):=by
  unfold Ef;rw[Bl,a];dsimp only;rw[Au b,c,Bl,d];exact At f
 show Ef ths as (n:Int)=_;rw[e];split<;>rfl
inductive DW (K:Aj) (vs:List V) (H:Hp) (Q:VK):Prop where
 |mk (t S T R A st:Addr) (ths:List (Str×Int)) (as:List (C')) (p:Ch) (h0:vs=[.ref t,.ref A,.ref st]) (h1:Al K H t [.ref S,.ref T,.ref R]) (h2:Dm K H T ths) (h3:He K H A as) (h4:FQ ths as) (h5:(∀k∈ths,k.1=("part" : Str)\/k.1=("plain" : Str)\/k.1=("sort" : Str))) (h6:Al K H st (Gk p)) (h7:(p.2.1≠("to" : Str)->0<=p.2.2/\p.2.2<as.length)) (h8:∀(r:Addr)(H':Hp),H r=none->Ac H H'->H' r=some (.tup [.str (CQ ths as p).1,.int (CQ ths as p).2])->Q (.ref r) H'):DW K vs H Q
def eZ (K:Aj):Sp:=λvs H Q ζ=>DW K vs H Q
abbrev Tz(P w K mg base):=BG P w K mg base "_law_goal" 1 ["_law_net", "_law_answers", "_law_step_here"] (eZ K)
theorem e7(B:BH mg)(F:Bv K "_law_goal" "_law_goal" QU f fd)(g:mg "_law_goal" = some (.ref f)):Tz P w K mg base:=by
 refine B0 F g Mi (λN H Q E h=>?_) (λah A ai s H N Q E a h=>?_);obtain⟨t,S,T,R,A,O,ths,as,p,rfl,_⟩:=h;rfl
 . obtain⟨t,S,T,R,A,O,ths,as,p,rfl,hT,hG,hA,ok,kd,I,hp,q⟩:=h
   refine⟨_,(Ar (Bb (Bp B8 (An Ao (pv 2) Ah) AW (Bj _)) (Aw (AI (AQ (Ab AW (Ab (An Ao (pv 2) Ah) Ae))))) Ba)
    (Ar (AN (i:=3) Mi.nd (An Ao (pv 2) Ah))
    (Ar (Cz Cu rfl (Gg rfl B.b_range (Ab Ah Ae)) (Av (i:=4) Mi.nd) (Ar (AN (i:=5) Mi.nd (An Ao (pv 1) (pv 3)))
     (Ar (Bb (Gf (GS (pv 5))) (Aw (AI (AQ (Ab AW (Ab (pv 3) Ae))))) Ba)
     (Ar (Bb (Bp Nv (An Ao (pv 5) Ah) AW (Bj _)) (Aw (AI (AQ (Ab AW (Ab Ah Ae))))) Ba)
     (Ar (DJ (An Ao (An Ao (pv 0) Ah) (An Ao (pv 5) Ah)) (BP (n:=2) rfl (AA (Av (i:=6) Mi.nd) (AA (Av (i:=7) Mi.nd) BO))))
     (Ar (Bb (Bp B8 (pv 6) AW (Bj _)) (Aw (AI (AQ (Ab AW (Ab (pv 7) Ae))))) Ba)
     (Ar (Bb (Bp B8 (pv 6) AW (Bj _)) (Aw (AI (AQ (Ab AW (Ab Ah Ae))))) Ba)
     (Aw (AN (i:=3) Mi.nd (pv 7))))))))))
    (Aw (AI (AQ (Ab AW (Ab Ah Ae)))))))),?_⟩
   rfl';refine Or.inr (Or.inl ⟨_,.str p.2.1,I,rfl,rfl,rfl,Ap (λh=>?_) (λh=>?_)⟩);have b:p.2.1=("to" : Str):=V.str.inj (Be h);refine Or.inr (Or.inl ⟨_,.int p.2.2,I,rfl,BA,λr a=>?_⟩);rw[Vh b] at q;exact q r _ a (AJ a) Aa;have b:p.2.1≠("to" : Str):=λz=>h (A5 (by rw[z]));obtain⟨p0,p1⟩:=hp b;have eg:CQ ths as p=KW ths as p.2.2 0:=At b;rw[eg] at q;refine Or.inr (Or.inl ⟨_,.int p.2.2,I,rfl,by decide,by decide,Lh (lo:=0) (n:=2) (λi σ H'=>∃n x y C D,σ=[some (.ref t),some (.ref A),some (.ref O),some (.int n),x,y,C,D]/\H'=H/\KW ths as p.2.2 0=KW ths as n i/\0<=n/\n<as.length) ⟨_,none,none,none,none,rfl,rfl,rfl,p0,p1⟩ ?_ ?_⟩);rotate_left;refine λσ U L=>AL λNz j=>?_;obtain⟨n,x,y,C,D,rfl,rfl,e,_⟩:=L;refine j ?_;clear j;refine⟨BA,λr a=>?_⟩;rw[e] at q;exact q r _ a (AJ a) Aa;refine λi σ U o L=>AL λNz j=>?_;obtain⟨n0,x,y,C,D,rfl,rfl,e,n1,n2⟩:=L;refine j ?_;clear j;obtain⟨n,rfl⟩:=Co n1;obtain⟨N,v,aa,hv,hc⟩:=hA.get (k:=n) (by lia);refine Or.inl ⟨_,v,aa,A1 hv,?_⟩;rcases hc with⟨c,rfl⟩|⟨d,ta,c,rfl,Z⟩;refine⟨rfl,Ap (λζ=>?_) (λh=>absurd (A5 rfl) h)⟩;refine⟨BA,λr a=>?_⟩;rw[e,eV o c] at q;exact q r _ a (AJ a) Aa;refine⟨rfl,Ap (λh=>absurd (Be h) (by simp)) (λζ=>?_)⟩;refine Or.inr (Or.inl ⟨_,.str d.1,Z,rfl,rfl,rfl,Ap (λh=>?_) (λh=>?_)⟩);have l:d.1≠("thing" : Str):=λz=>by rw[z] at h;exact absurd h (by simp)
   refine⟨BA,λr a=>?_⟩;rw[e,MB o c l] at q;exact q r _ a (AJ a) Aa;have l:d.1=("thing" : Str):=Classical.byContradiction λz=>h (by simp[z]);obtain⟨q0,q1⟩:=ok.t d (Bk c) l;obtain⟨m,g⟩:=Co q0;have u:=AB (show m<ths.length by lia);have M:=Dk (show m<ths.length by lia);generalize ths[m]=k at u M;obtain⟨J,W,ab,ae,af⟩:=hG.get u;have ag:AS J d.2=some (.ref W):=by rw[g];exact A1 ae
   refine Or.inr (Or.inl ⟨_,.ref T,hT,rfl,Or.inr (Or.inl ⟨_,.int d.2,Z,rfl,Or.inl ⟨J,.ref W,ab,ag,_,af,rfl,?_⟩⟩)⟩);refine⟨rfl,rfl,Ap (λh=>?_) (λh=>?_)⟩;have b:k.1=("part" : Str):=V.str.inj (Be h);refine⟨BA,λr a=>?_⟩;rw[e,eY o c l g u b] at q;exact q r _ a (AJ a) Aa;have X:k.1≠("part" : Str):=λz=>h (A5 (by rw[z]));have G:=MC o c l g u X;refine⟨rfl,rfl,Ap (λh=>?_) (λh=>?_)⟩;have b:k.1=("plain" : Str):=V.str.inj (Be h);refine⟨BA,λr a=>?_⟩;rw[e,G,At (by rw[b];decide +kernel)] at q;exact q r _ a (AJ a) Aa;have k2:k.1≠("plain" : Str):=λz=>h (A5 (by rw[z]))
   have Y:k.1=("sort" : Str):=by
    rcases kd k M with z|z|z;exact absurd z X;exact absurd z k2;exact z
   rw[Au Y] at G;obtain⟨z0,z1⟩:=ok.q k M Y;exact⟨_,_,_,_,_,rfl,rfl,e.trans G,z0,z1⟩
def E7 (W:Wd) (h:Int) (x:Str) (i:Nat):List (List As):=EF W x ([],h,0)++((Dd W h (BB W 0) ((AX W h).take i) 0).filterMap (kid ([],h,0))).flatMap (EF W x)
def Fz (W:Wd) (h:Int) (i:Nat):List Ow:=(Dd W h (BB W 0) ((AX W h).take i) 0).filterMap (ow ([],h,0))
def OE(h:W.ss[k]?=some s):AX W (k:Int)=s.1:=by unfold AX;rw[Bl,h]
def OF{s:CA}(h:W.sts[0]?=some s):BB W 0=s.1:=by unfold BB;rw[show(0:Int).toNat=0 from rfl,h]
theorem W1{x:Str}:∀{gs:List (Str×Int)},x∉gs.map (·.1)->Do gs x=none
 |[],_=>rfl
 |p::gs,h=>by
   have a:¬p.1=x:=λe=>h (BI.mpr (.inl e.symm));show(if p.1=x then some p.2 else Do gs x)=none;rw[At a,W1 λz=>h (Cw _ z)]
theorem W2{x:Str}:∀{gs:List (Str×Int)},x∈gs.map (·.1)->∃a,Do gs x=some a
 |[],h=>by cases h
 |p::gs,h=>by
   show ∃a,(if p.1=x then some p.2 else Do gs x)=some a
   by_cases e:p.1=x;exact⟨_,Au e⟩;rw[At e];rcases BI.mp h with z|z;exact absurd z.symm e;exact W2 z
def e8{h:Int}{p:Ch}(a:(AX W h)[i]?=some p):Dd W h (BB W 0) ((AX W h).take (i+1)) 0=Dd W h (BB W 0) ((AX W h).take i) 0++Er W h (BB W 0) p i:=by
 have b:=(Bi.mp a).1;rw[D7,a];show Dd W h (BB W 0) ((AX W h).take i++[p]) 0=_;rw[Sk,Ek,Nat.zero_add,Nat.min_eq_left (by lia)]
def W3(a:CT W)(h:Int)(x:Str)(i:Nat):(E7 W h x i).length<=27:=by
 unfold E7;rw[AO];have c:∀b,(EF W x b).length<=3:=λb=>Fa (N5 W b x _ 0) (a.tells3 _);have e:=c ([],h,0);have g:=SX (f:=EF W x) (k:=3) ((Dd W h (BB W 0) ((AX W h).take i) 0).filterMap (kid ([],h,0))) λb ζ=>c b;have j:=List.length_filterMap_le (kid ([],h,0)) (Dd W h (BB W 0) ((AX W h).take i) 0);have d:=Jw W h (BB W 0) ((AX W h).take i) 0;have l:=a.steps8 h;rw[Ek] at d;lia
def e9(a:CT W)(h:Int)(i:Nat):(Fz W h i).length<=8:=by
 unfold Fz;have c:=List.length_filterMap_le (ow ([],h,0)) (Dd W h (BB W 0) ((AX W h).take i) 0);have b:=Jw W h (BB W 0) ((AX W h).take i) 0;have d:=a.steps8 h;rw[Ek] at b;lia
inductive DX (K:Aj) (vs:List V) (H:Hp) (Q:VK):Prop where
 |mk (nt A t:Addr) (x:Str) (W:Wd) (n:Int) (h0:vs=[.ref nt,.ref t,.ref A,.int n,.str x]) (h1:A6 K H nt A t W) (h2:Cm W) (h3:CT W) (h4:(0<=n/\n<W.ss.length)) (h5:(∀k∈W.gs,k.1=("part" : Str)\/k.1=("plain" : Str)\/k.1=("sort" : Str))) (h6:(∀p∈AX W n,(CQ W.gs W.as p).1=("to" : Str)->(CQ W.gs W.as p).2≠n)) (h7:∀(r D E:Addr)(ws:List (Addr×List As))(os:List (Addr×Ow))(H':Hp),Ac H H'->H' r=some (.tup [.ref D,.ref E])->H' D=some (.lst (ws.map λz=>V.ref z.1))->(∀z∈ws,BW (λζ=>True) H' z.1 z.2)->(ws.map (·.2)).Perm (EF W x ([],n,0)++(BU W ([],n,0)).flatMap (EF W x))->(ws.map (·.2)).Pairwise BV.O.kle->H' E=some (.lst (os.map λz=>V.ref z.1))->(∀z∈os,EB (λζ=>True) H' z.1 z.2)->os.map (·.2)=(FU W n 0).filterMap (ow ([],n,0))->Q (.ref r) H'):DX K vs H Q
def fA (K:Aj):Sp:=λvs H Q ζ=>DX K vs H Q
abbrev Qp(P w K mg base):=BG P w K mg base "_law_ways" 2 ["_law_net", "_law_table", "_law_answers", "_law_scope", "_law_name"] (fA K)
def fB(a9:BH mg)(aI:Tx P w K mg base)(br:Tz P w K mg base)(F:Bv K "_law_ways" "_law_ways" OX f fd)(B:mg "_law_ways" = some (.ref f)):Qp P w K mg base:=by
 refine B0 F B IF (λO aA bj bk av=>?_) (λca A cf s aA O bj bk hr av=>?_);obtain⟨Q,A,t,x,W,n,rfl,_⟩:=av;rfl
 . obtain⟨Q,A,t,x,W,a,rfl,hC,ok,E,aJ,kd,bP,q⟩:=av
   obtain⟨aB,bl,bm,us,Gs,Es,ts,qt,qs,eN,N3⟩:=hC.net;obtain⟨bn,o,cb,b1,bo,b2,b3⟩:=hC.tab;obtain⟨n,hn⟩:=Co aJ.1;have aK:n<W.ss.length:=(by lia);have l2:=E.l2;have bs:0<W.sts.length:=(by lia);obtain⟨aC,aD,E1,bq,bX,bY,g4,⟨c0,⟨tG,c1,c2⟩,_⟩⟩:=N3.sc.get aK;have aL:=AB bs;have eS:AX W a=W.ss[n].1:=by rw[hn];exact OE g4
   have eG:BB W 0=W.sts[0].1:=OF aL;have bt:AS (us.map V.ref) a=some (.ref aC):=by rw[hn];exact A1 (by rw[AM,bq];rfl)
   have mS:=Dk aK;obtain⟨bU,hv,bu⟩:=b3.get' (i:=0) (d:=HD W.sts[0]) (by rw[AM,aL];rfl);obtain⟨aG,gA,eA,rfl,bQ,⟨gv,aM,aw⟩,he⟩:=NV bu;have bR:AS bo ((0:Nat):Int)=some (.ref aG):=A1 hv;have bg:∀s∈W.ss,s.2.length<=100:=λs hs=>Fa (E.t3 s hs) (by decide)
   refine⟨_,(Ar (AN (i:=5) IF.nd (A3 aI (Ab (pv 0) (Ab (pv 1) (Ab (pv 3) (Ab Ah (Ab (pv 4) (Ab (Cg Ae) Ae))))))))
    (Ar (AN (i:=6) IF.nd (Cg Ae))
    (Ar (Ly (i:=7) IF.nd rfl (Or.inl rfl) (g:=IU K 2 (Iw (F7 0) (Iw (F7 1) GV))) rfl Ca (Dg (An Ao (An Ao (An Ao (pv 1) Ah) Ah) Ah)) (λζ ζ ζ ζ ζ=>(BP (n:=2) rfl (AA (Av (i:=0) Ca.nd) (AA (Av (i:=1) Ca.nd) BO)))) (λζ ζ ζ ζ ζ=>GB) (λζ ζ ζ ζ ζ=>(pv 0)))
    (Ar (Cz Cu rfl (Od LK rfl a9.b_enumerate (Ab (An Ao (An Ao (An Ao (pv 0) Ah) (pv 3)) Ah) Ae)) (BP (n:=2) rfl (AA (Av (i:=8) IF.nd) (AA (Av (i:=9) IF.nd) BO))) (Aw (Bb (Bp (NS hr.units) (An Ao (pv 9) Ah) (pv 7) (by with_unfolding_all rfl)) (Ar (AN (i:=10) IF.nd (AQ (Ab (pv 3) (Ab AW (Ab (pv 8) Ae)))))
     (Ar (DJ (A3 br (Ab (pv 0) (Ab (pv 2) (Ab (pv 9) Ae)))) (BP (n:=2) rfl (AA (Av (i:=11) IF.nd) (AA (Av (i:=12) IF.nd) BO))))
     (Ar (Bb (Bp B8 (pv 11) AW (Bj _)) (Aw (AN (i:=5) IF.nd (AZ Lr (pv 5) (A3 aI (Ab (pv 0) (Ab (pv 1) (Ab (pv 12) (Ab Ah (Ab (pv 4) (Ab (Cg (Ab (pv 10) Ae)) Ae)))))))))) Ba)
     (Aw (Bb (Bp B8 (pv 11) AW (Bj _)) (Aw (Eo (DQ Ec Fk Fl Fp (pv 6) (Ab (AQ (Ab (Cg (Ab (pv 10) Ae)) (Ab (pv 12) Ae))) Ae)))) Ba))))) Ba)))
    (Aw (AI (AQ (Ab (CH (Vp HL hr.units (by decide)) a9.b_sorted (Ab (pv 5) Ae)) (Ab (pv 6) Ae))))))))),?_⟩
   rfl';refine⟨by decide,λbp hM=>?_⟩;obtain⟨bV,bv,s1,eM⟩:=new_at (o:=.lst []) hM;rw[<-bv];refine⟨Q,A,t,bp,x,W,([],a,0),[],rfl,hC.same s1,aJ,⟨Int.le_refl _,by show(0:Int)<(W.sts.length:Int);lia⟩,eM,RT.nil,DP _,bg,λD0 w0 bW cc s2 ax bw bx=>?_⟩;have aN:=s1.trans s2;refine⟨by decide,λE0 ak=>?_⟩;obtain⟨H3,bz,s3,aO⟩:=new_at (o:=.lst []) ak;rw[<-bz];have L:=aN.trans s3
   refine Or.inr (Or.inl ⟨_,.ref bn,L.seqT b1,rfl,Or.inl ⟨_,.ref aG,L.seq b2,bR,Or.inr (Or.inl ⟨_,.ref gA,L.seqT bQ,rfl,⟨_,L.seq aM⟩,LF (xs:=gv) (λaj i ys h=>Ac H3 h/\h aj=some (.lst ys)/\ys=((W.sts[0].1.take i).map (·.1)).map V.str)
    (λaj hD=>⟨AJ hD,Aa,rfl⟩) (λaj i ys h ay=>by obtain⟨s,_⟩:=ay;exact s.seq (L.seq aM)) (λaj i y ys H4 RR hD H hv k=>?_) (λGL ys H4 aP hv=>?_)⟩)⟩⟩)
   obtain⟨I,eD,rfl⟩:=hv;obtain⟨d,hd,b0⟩:=aw.get H;obtain⟨g,hg,rfl⟩:=getm hd;obtain⟨tg,rfl,sg⟩:=Kx b0;have az:=(Bi.mp hg).1;have T:W.sts[0].1.take (i+1)=W.sts[0].1.take i++[g]:=by rw[D7,hg];rfl
   have aQ:=aw.length;refine⟨_,(L.trans I).seqT sg,rfl,?_⟩;refine k _ _ eD ?_ ⟨λx o e=>?_,Aa,by rw[T,A8,A8];rfl⟩;have:=E.g9;rw[eG] at this;rw[Ak,Ak,Ek];exact BL (by lia);rw[AH (AV e hD)];exact I _ _ e;obtain⟨I,aR,rfl⟩:=hv;have aQ:gv.length=W.sts[0].1.length:=by have:=aw.length;rw[Ak] at this;exact this
   rw[aQ,De] at aR;have ab:=L.trans I;have aS:=I _ _ aO;have b4:D0≠E0:=λz=>by rw[z,ak] at ax;cases ax
   have b5:GL≠E0:=λz=>by rw[z,aO] at aP;cases aP
   have aa:∀{h:Hp},Keeps (·=E0) H4 h->Ac aA h:=λk y o e=>k.at_ _ _ (ab _ _ e) (λz=>by rw[z,aN.free ak] at e;cases e);refine Or.inr (Or.inl ⟨_,.ref aB,Al.of (ab _ _ eN),rfl,Or.inl ⟨_,.ref aC,Af.of (ab _ _ N3.sc.top),bt,Or.inr (Or.inl ⟨_,.ref aD,Al.of (ab _ _ c0),rfl,aD,rfl,⟨_,ab _ _ c1⟩,?_⟩)⟩⟩)
   refine Of LK (xs:=tG.map V.ref) (λi σ h=>∃u8 u9 a0 a2 a3 D r j,σ=[some (.ref Q),some (.ref t),some (.ref A),some (.int a),some (.str x),some (.ref D),some (.ref E0),some (.ref GL),u8,u9,a0,a2,a3]/\Keeps (·=E0) H4 h/\D≠E0/\h D=some (.lst (r.map λz:Addr×List As=>V.ref z.1))/\(∀z∈r,BW (λl=>l≠E0) h z.1 z.2)/\r.map (·.2)=E7 W a x i/\h E0=some (.lst (j.map λz:Addr×Ow=>V.ref z.1))/\(∀z∈j,EB (λl=>l≠E0) h z.1 z.2)/\j.map (·.2)=Fz W a i)
    ⟨none,none,none,none,none,D0,w0,[],rfl,Keeps.refl λx o m e=>by rw[m,aS] at e;exact⟨_,(BS e).symm⟩,b4,(s3.trans I) _ _ ax,λz b=>((bw z b).mono' (λl o e hl z=>by rw[z,ak] at e;cases e)).same (s3.trans I),by rw[bx];unfold E7;rw[Ea];exact(Eb _).symm,aS,λz b=>(by cases b),by unfold Fz;rw[Ea];rfl⟩ (λi σ h ay=>by obtain⟨_,_,_,_,_,_,_,_,_,k,_⟩:=ay;exact Af.of (aa k _ _ c1)) ?_ ?_
   rotate_left;refine λσ H5 ae=>AL λNz G=>?_;obtain⟨u8,u9,a0,a2,a3,D,r,j,rfl,k5,nD,al,hw,B,an,ho,M⟩:=ae;refine G ?_;clear G;rw[Ak,c2.len] at B M;have lw:r.length<=27:=by have:=Bq List.length B;rw[Ak] at this;have:=W3 E a x W.ss[n].1.length;lia
   refine⟨D,r.map λz=>(V.ref z.1,z.2),rfl,?_,by rw[Ak];lia,λy H=>?_,λD2 b6 hp hs b7=>?_⟩;rw[El];exact Af.of al;obtain⟨z,af,rfl⟩:=AF.mp H;exact(hw z af).dt;obtain⟨O,r1,r2,r3,r4⟩:=Sr (c:=BV) hp;have u:=AJ (o:=.lst (b6.map (·.1))) b7;rw[r1] at u ⊢;rw[r2] at hs;have aT:(upd H5 D2 (.lst (O.map λz=>V.ref z.1))) D2=some (.lst (O.map λz=>V.ref z.1)):=Aa;generalize upd H5 D2 (.lst (O.map λz=>V.ref z.1))=H6 at u aT ⊢;refine⟨BA,λaE hr=>?_⟩;have J:=AJ (o:=.tup [.ref D2,.ref E0]) hr;have ao:=u.trans J;refine q aE D2 E0 O j _ ((aa k5).trans ao) Aa (J _ _ aT) (λz af=>((hw z (r4 z af)).mono' λζ ζ ζ ζ=>True.intro).same ao) ?_ hs (ao _ _ an) (λz af=>((ho z af).mono' λζ ζ ζ ζ=>True.intro).same ao) ?_;rw[B] at r3;unfold E7 at r3;rw[<-eS,De] at r3;exact r3;rw[M];unfold Fz;rw[<-eS,De];rfl;refine λi y T' σ H5 H b8 ae=>AL λNz G=>?_;obtain⟨u8,u9,a0,a2,a3,D,r,j,rfl,k5,nD,al,hw,B,an,ho,M⟩:=ae;refine G ?_;clear G;obtain⟨tp,aU,rfl⟩:=getm H;have az:i<W.ss[n].1.length:=by rw[<-c2.len];exact(Bi.mp aU).1
   have hp:=AB az;have a4:=c2.at_ i tp _ aU hp;have mp:=Dk az;generalize W.ss[n].1[i]=p at hp a4 mp;have aV:(AX W a)[i]?=some p:=by rw[eS];exact hp
   obtain⟨H6,b9,u,bA⟩:=new_at (o:=.tup [.int i,.ref tp]) b8;rw[<-b9];have k6:=k5.same u;have bB:=aa k6;have T:=e8 aV;refine⟨_,Al.of bA,rfl,?_⟩;have bS:H6 GL=some (.lst ((W.sts[0].1.map (·.1)).map V.str)):=k6.at_ _ _ aR b5;refine Or.inr (Or.inl ⟨_,.str p.1,Al.of (bB _ _ a4),rfl,2,.str p.1,(W.sts[0].1.map (·.1)).map Dt.str,GL,_,λd hd=>?_,by decide,.str _,rfl,Af.of bS,Ai.strs _,rfl,Ap (λh2=>?_) (λh2=>?_)⟩);obtain⟨y,_,rfl⟩:=AF.mp hd;exact .str _ _;rotate_left;have bC:Do (BB W 0) p.1=none:=W1 λz=>h2 (Ep (AF.mpr ⟨_,by rw[<-eG];exact z,rfl⟩));have R:Er W a (BB W 0) p i=[]:=by unfold Er;rw[bC]
   refine⟨_,_,_,_,_,D,r,j,rfl,k6,nD,u _ _ al,λz b=>(hw z b).same u,?_,u _ _ an,λz b=>(ho z b).same u,?_⟩;rw[B];unfold E7;rw[T,R,Eb];rw[M];unfold Fz;rw[T,R,Eb]
   have bD:p.1∈(BB W 0).map (·.1):=by
    obtain⟨y,H,z⟩:=AF.mp (B7.mp h2);rw[eG,<-Dt.str.inj z];exact H
   obtain⟨a1,aW⟩:=W2 bD;have bE:a1=1:=E.to1 _ (Pp aW);subst bE;have R:Er W a (BB W 0) p i=[((a,("step" : Str),(i:Int)),CQ W.gs W.as p,1)]:=by unfold Er;rw[aW]
   refine⟨Gj,λm bF=>?_⟩;have J:=AJ (o:=.tup [.int a,.str "step",.int i]) bF;have aH:(upd H6 m (.tup [.int a,.str "step",.int i])) m=some (.tup (FT (a,("step" : Str),(i:Int)))):=Aa;generalize upd H6 m (.tup [.int a,.str "step",.int i])=H7 at J aH ⊢;have k7:=k6.same J;have ag:=aa k7;refine⟨Q,aB,bl,bm,A,tp,W.gs,W.as,p,rfl,Al.of (ag _ _ eN),⟨_,Af.of (ag _ _ N3.et),(N3.tg.same ag).dts⟩,hC.ans.same ag,ok.net,kd,Al.of (ag _ _ a4),ok.by_ mS mp,λaE S hr s8 er=>?_⟩;refine⟨_,Al.of er,rfl,?_⟩;generalize eg:CQ W.gs W.as p=g at er R;have k8:=k7.same s8;have a5:S E0=some (.lst (j.map λz:Addr×Ow=>V.ref z.1)):=s8 _ _ (J _ _ (u _ _ an));have a6:=u.trans (J.trans s8);have bh:=a6 _ _ al;have aX:=s8 _ _ aH;have aY:∀z∈r,BW (λl=>l≠E0) S z.1 z.2:=λz b=>(hw z b).same a6;have bG:∀z∈j,EB (λl=>l≠E0) S z.1 z.2:=λz b=>(ho z b).same a6;have lw:r.length<=27:=by have:=Bq List.length B;rw[Ak] at this;have:=W3 E a x i;lia
   have bZ:j.length<=8:=by have:=Bq List.length M;rw[Ak] at this;have:=e9 E a i;lia
   have eW:E7 W a x (i+1)=E7 W a x i++([((a,("step" : Str),(i:Int)),g,(1:Int))].filterMap (kid ([],a,0))).flatMap (EF W x):=by
    unfold E7;rw[T,R,List.filterMap_append,List.flatMap_append,FJ]
   have eO:Fz W a (i+1)=Fz W a i++[((a,("step" : Str),(i:Int)),g,(1:Int))].filterMap (ow ([],a,0)):=by
    unfold Fz;rw[T,R,List.filterMap_append]
   have bH:p∈AX W a:=Bk aV;dsimp only[Iw,GV,F7,mC,mN];refine Lz (λσ' h=>∃(U:Addr)(X:List (Addr×List As)),σ'=[some (.ref Q),some (.ref t),some (.ref A),some (.int a),some (.str x),some (.ref U),some (.ref E0),some (.ref GL),some (.int i),some (.ref tp),some (.ref m),some (.str g.1),some (.int g.2)]/\Ac S h/\U≠E0/\h U=some (.lst (X.map λz:Addr×List As=>V.ref z.1))/\(∀z∈X,BW (λl=>l≠E0) h z.1 z.2)/\X.map (·.2)=E7 W a x (i+1)) ?_ (λNX aZ=>?_);rotate_left
   . refine⟨rfl,rfl,Ap (λN=>?_) (λN=>?_)⟩
     rotate_left;have n1:¬g.1=("to" : Str):=λe=>N (A5 (by rw[e]));refine aZ _ _ ⟨D,r,rfl,Ac.refl _,nD,bh,aY,?_⟩;have:kid ([],a,0) ((a,("step" : Str),(i:Int)),g,(1:Int))=none:=At λz=>n1 z.1;rw[eW,B,K2,this];exact(Eb _).symm;have t1:g.1=("to" : Str):=V.str.inj (Be N);have r1:=Vv ok mS mp eg t1;have r2:g.2≠a:=by have:=bP p bH;rw[eg] at this;exact this t1
     refine⟨HB,λv ah=>?_⟩;have C:=AJ (o:=.lst [.ref m]) ah;have ai:(upd S v (.lst [.ref m])) v=some (.lst ([m].map V.ref)):=Aa;generalize upd S v (.lst [.ref m])=H9 at C ai ⊢;have bI:=aa (k8.same C);refine⟨Q,A,t,v,x,W,([(a,("step" : Str),(i:Int))],g.2,1),[m],rfl,hC.same bI,r1,⟨Int.zero_le_ofNat 1,by show(1:Int)<(W.sts.length:Int);lia⟩,ai,RT.snoc RT.nil (C _ _ aX),(by show 1<=10;decide),bg,λD9 w9 bJ cd aq bK bL ba=>?_⟩;have au:=C.trans aq
     have l9:w9.length<=3:=by
      have h1:=Bq List.length ba;rw[Ak] at h1;rw[h1];exact Fa (N5 W _ x _ 0) (E.tells3 _)
     refine⟨D,D9,_,_,rfl,rfl,au _ _ bh,bK,by rw[Ak,Ak];exact CU (BL (by lia)),λDn a7=>?_⟩;have Y:=AJ (o:=.lst (r.map (λz=>V.ref z.1)++w9.map λz=>V.ref z.1)) a7;refine aZ _ _ ⟨Dn,r++w9,rfl,au.trans Y,?_,by rw[Aa,A8],λz b=>?_,?_⟩;intro z;rw[z,au _ _ a5] at a7;cases a7;rcases BR.mp b with b|b;exact(aY z b).same (au.trans Y);exact((bL z b).mono' (λl o e hl y=>by rw[y,C _ _ a5] at hl;cases hl.1)).same Y;have:kid ([],a,0) ((a,("step" : Str),(i:Int)),g,(1:Int))=some ([(a,("step" : Str),(i:Int))],g.2,1):=Au ⟨t1,λz=>r2 (A9.mp z)⟩;rw[eW,K2,this,A8,B,ba];show _=_++(EF W x _++[]);rw[Eb]
   refine λσ' H9 ae=>AL λNz G=>?_;obtain⟨U,X,rfl,C,a8,bb,bc,bd⟩:=ae;refine G ?_;clear G;have k9:=k8.same C;have ar:=C _ _ a5;have be:∀z∈j,EB (λl=>l≠E0) H9 z.1 z.2:=λz b=>(bG z b).same C;refine⟨rfl,rfl,Ap (λN=>?_) (λN=>?_)⟩;rotate_left;have n1:¬g.1=("open" : Str):=λe=>N (A5 (by rw[e]));refine⟨_,_,_,_,_,U,X,j,rfl,k9,a8,bb,bc,bd,ar,be,?_⟩;rw[eO,M,K2,VD n1];exact(Eb _).symm;have t1:g.1=("open" : Str):=V.str.inj (Be N);refine⟨Or.inl ⟨rfl,_,Af.of ar⟩,HB,λv ah=>?_⟩;have aq:=AJ (o:=.lst [.ref m]) ah;have ai:(upd H9 v (.lst [.ref m])) v=some (.lst ([m].map V.ref)):=Aa;generalize upd H9 v (.lst [.ref m])=bJ at aq ai ⊢;refine⟨BA,λaF bM=>?_⟩;obtain⟨bf,bT,Y,bN⟩:=new_at (o:=.tup [.ref v,.int g.2]) bM;rw[<-bT];have Z:=aq.trans Y;have bi:=Z _ _ ar;have bO:=k9.same Z;have kE:Keeps (·=E0) bf (upd bf E0 (.lst (j.map (λz=>V.ref z.1)++[.ref aF]))):=Keeps.one bi;have nM:v≠E0:=λz=>by rw[z,ar] at ah;cases ah
   refine⟨_,bi,by rw[Ak];exact BL (by lia),⟨_,_,_,_,_,U,X,j++[(aF,([(a,("step" : Str),(i:Int))],g.2))],rfl,bO.set rfl,a8,by rw[AH a8];exact Z _ _ bb,λz b=>((bc z b).same Z).keeps kE λx hx=>hx,bd,by rw[Aa,A8];rfl,λz b=>?_,?_⟩⟩;rcases BR.mp b with b|b;exact((be z b).same Z).keeps kE λx hx=>hx;rw[A9.mp b];refine⟨v,[m],kE.tup bN,kE.at_ _ _ (Y _ _ ai) nM,?_,nM⟩;exact RT.snoc RT.nil (kE.tup (Z _ _ (C _ _ aX)));rw[eO,M.symm,K2,VC t1,A8];rfl
inductive Dy (K:Aj) (vs:List V) (H:Hp) (Q:VK):Prop where
 |mk (nt S T R mk:Addr) (us Gs Es:List Addr) (ss:List Bf) (m:As) (h0:vs=[.ref nt,.ref mk]) (h1:Al K H nt [.ref S,.ref T,.ref R]) (h2:CI H S us Gs Es ss) (h3:Al K H mk (FT m)) (h4:Eh ss m) (h5:Q (.str (Eu ss m)) H):Dy K vs H Q
def fC (K:Aj):Sp:=λvs H Q ζ=>Dy K vs H Q
abbrev TC(P w K mg base):=BG P w K mg base "_law_label" 1 ["_law_net", "_law_mark"] (fC K)
theorem fD(B:BH mg)(F:Bv K "_law_label" "_law_label" QV f fd)(b:mg "_law_label" = some (.ref f)):TC P w K mg base:=by
 refine B0 F b WM (λD H Q E h=>?_) (λah ae ai s H D Q E hr h=>?_);obtain⟨I,S,T,R,mk,us,J,L,ss,m,rfl,_⟩:=h;rfl;obtain⟨I,S,T,R,mk,us,J,L,ss,m,rfl,M,y,b,⟨n,k,Z,t,g,j,N⟩,q⟩:=h;have aa:n<ss.length:=(Bi.mp j).1;obtain⟨u,G,O,U,af,ag,A,⟨C,⟨l,W,o⟩,⟨p,X,r⟩⟩⟩:=y.get aa;rw[j] at A;have Y:=BS A;rw[<-Y] at o r;have ab:AS (us.map V.ref) m.1=some (.ref u):=by rw[t];exact A1 (by rw[AM,U];rfl)
 refine⟨_,(Ar (AN (i:=2) WM.nd (An Ao (An Ao (pv 0) Ah) (An Ao (pv 1) Ah)))
  (Aw (AI (An Ao (An Ao (An Ao (pv 2) (I7 O9 B.b_int (Ab (Ix B8 (An Ao (pv 1) Ah) AW (Bj _)) Ae))) (An Ao (pv 1) Ah)) Ah)))),?_⟩
 rfl';refine(Or.inr (Or.inl ⟨_,.ref S,M,rfl,Or.inr (Or.inl ⟨_,.int m.1,b,rfl,Or.inl ⟨_,.ref u,Af.of y.top,ab,?_⟩⟩)⟩));refine(Or.inr (Or.inl ⟨_,.str m.2.1,b,rfl,rfl,Or.inr ⟨_,rfl,?_⟩⟩));rcases N with⟨c,a⟩|⟨c,a⟩;have d:=AB a;rw[VE t g j c d] at q;have e:l[k]?=some (l[k]'(by rw[o.len];exact a)):=AB _;have v:=o.at_ _ _ _ e d;have x:AS (l.map V.ref) m.2.2=some (.ref (l[k]'(by rw[o.len];exact a))):=by rw[g];exact A1 (by rw[AM,e];rfl)
 rw[En (show ¬V.str m.2.1=V.str "told" from λz=>YA (c.symm.trans (V.str.inj z)))]
 exact Or.inr (Or.inl ⟨_,.ref G,Al.of C,rfl,Or.inr (Or.inl ⟨_,.int m.2.2,b,rfl,Or.inl ⟨_,_,Af.of W,x,Or.inr (Or.inl ⟨_,.str Z.1[k].1,Al.of v,rfl,q⟩)⟩⟩)⟩);have d:=AB a;rw[VF t g j (λz=>Ps (c.symm.trans z)) d] at q;have e:p[k]?=some (p[k]'(by rw[r.len];exact a)):=AB _;have v:=r.at_ _ _ _ e d;have x:AS (p.map V.ref) m.2.2=some (.ref (p[k]'(by rw[r.len];exact a))):=by rw[g];exact A1 (by rw[AM,e];rfl)
 rw[A5 (show V.str m.2.1=V.str "told" by rw[c])];exact Or.inr (Or.inl ⟨_,.ref O,Al.of C,rfl,Or.inr (Or.inl ⟨_,.int m.2.2,b,rfl,Or.inl ⟨_,_,Af.of X,x,Or.inr (Or.inl ⟨_,.str Z.2[k].1,Al.of v,rfl,q⟩)⟩⟩)⟩)
def J5(a b:As):Di 2 (IB a) (IB b):=.tup (.cons (.int _ _) (.cons (.str _ _) (.cons (.int _ _) (.nil _))))
def fE{a b:As}(h:IB a=IB b):a=b:=HL.inj a b h
variable {ord:A'}
def MD{a b:Str}:dec (MU (a,b)∈ord.map MU)=dec ((a,b)∈ord):=Kv ⟨λh=>by
 obtain⟨⟨x,y⟩,f,e⟩:=AF.mp h;injection e with e;injection e with d c;injection c with c _;have d:x=a:=Dt.str.inj d;have c:y=b:=Dt.str.inj c;rw[<-d,<-c]
 exact f,λh=>AF.mpr ⟨_,h,rfl⟩⟩
inductive Dz (K:Aj) (vs:List V) (H:Hp) (Q:VK):Prop where
 |mk (nt S T R t a b:Addr) (us Gs Es:List Addr) (ss:List Bf) (F G1 G2:Addr->Prop) (sts:List CA) (inn:Int) (ord:A') (w1 w2:List As) (h0:vs=[.ref nt,.ref t,.ref a,.ref b]) (h1:H nt=some (.tup [.ref S,.ref T,.ref R])) (h2:CI H S us Gs Es ss) (h3:Fq K F H t sts inn ord) (h4:BW G1 H a w1) (h5:BW G2 H b w2) (h6:GD ss w1) (h7:GD ss w2) (h8:∀H',Ac H H'->Q (.bl (Cv ss ord w1 w2)) H'):Dz K vs H Q
def fF (K:Aj):Sp:=λvs H Q ζ=>Dz K vs H Q
abbrev TD(P w K mg base):=BG P w K mg base "_law_hides" 2 ["_law_net", "_law_table", "_law_one", "_law_other"] (fF K)
def fG(ag:BH mg)(ab:TC P w K mg base)(F:Bv K "_law_hides" "_law_hides" QW f fd)(hm:mg "_law_hides" = some (.ref f)):TD P w K mg base:=by
 refine B0 F hm Tb (λvs H ah ai h=>?_) (λa1 ay a4 s H vs ah ai J h=>?_);obtain⟨k,S,T,R,t,a,b,us,r,u,ss,F,G1,G2,aj,ak,ord,c,d,rfl,_⟩:=h;rfl
 . obtain⟨k,S,T,R,t,a,b,us,r,u,ss,F,G1,G2,aj,ak,ord,c,d,rfl,L,SC,TB,⟨ma,M,v,_⟩,⟨mb,N,y,_⟩,al,an,q⟩:=h
   obtain⟨ta,o,a2,a3,et,_,_,_,_,_,eo,TO⟩:=TB.ex
   refine⟨_,(Ar (Cz Cu rfl (Hy rfl ag.b_zip (Ab (pv 2) (Ab (pv 3) Ae))) (BP (n:=2) rfl (AA (Av (i:=4) Tb.nd) (AA (Av (i:=5) Tb.nd) BO))) (Aw (Bb (Bp (LD J.units) (pv 4) (pv 5) (Bj _)) (Aw (AI (Ix (NS J.units) (AQ (Ab (A3 ab (Ab (pv 0) (Ab (pv 4) Ae))) (Ab (A3 ab (Ab (pv 0) (Ab (pv 5) Ae))) Ae))) (An Ao (pv 1) Ah) (by with_unfolding_all rfl)))) Ba)))
    (Aw (AI G7))),?_⟩
   rfl';refine⟨a,b,rfl,⟨_,Af.of M⟩,⟨_,Af.of N⟩,PL LK (xs:=ma.map V.ref) (ys:=mb.map V.ref) (λi σ O=>∃A B:Option V,σ=[some (.ref k),some (.ref t),some (.ref a),some (.ref b),A,B]/\Ac H O/\∀j,j<i->c[j]?=d[j]?) ⟨none,none,rfl,Ac.refl _,λj hj=>by lia⟩ (λi σ O ao=>by obtain⟨_,_,_,s,_⟩:=ao;exact⟨Af.of (s _ _ M),Af.of (s _ _ N)⟩) ?_ ?_⟩;rotate_left;rintro σ Y ⟨A,B,rfl,C,g⟩;rw[Ak,Ak,v.len,y.len] at g
   rw[Su ss ord g (by lia) (by lia),Ss ss ord (by
    rcases Nat.le_total c.length d.length with h|h;exact .inl (List.drop_eq_nil_of_le (by lia))
    exact .inr (List.drop_eq_nil_of_le (by lia)))] at q
   exact q Y C;rintro i x az T' σ Y Q U aq ⟨A,B,rfl,C,g⟩;rw[AM] at Q U;obtain⟨D,ae,rfl⟩:=ER.mp Q;obtain⟨E,af,rfl⟩:=ER.mp U;have G:i<c.length:=by rw[<-v.len];exact(Bi.mp ae).1
   have I:i<d.length:=by rw[<-y.len];exact(Bi.mp af).1
   have W:=AB G;have X:=AB I;have Z:=v.at_ i D _ ae W;have aa:=y.at_ i E _ af X;have o1:=al.1 _ (Dk G);have o2:=an.1 _ (Dk I);obtain⟨H3,ar,s3,au⟩:=new_at (o:=.tup [.ref D,.ref E]) aq;rw[<-ar];have e:=C.trans s3;refine⟨_,Al.of au,rfl,?_⟩;refine⟨2,IB c[i],IB d[i],J5 _ _,by decide,N2 _ _ (e _ _ Z),N2 _ _ (e _ _ aa),rfl,?_⟩;by_cases l:c[i]=d[i];rw[Ep (by rw[l])];refine Bm ⟨_,_,rfl,e,λj hj=>?_⟩;by_cases av:j<i;exact g j av;have:j=i:=(by lia);subst this;rw[W,X,l];rw[Ga (λz=>l (fE z))];refine CP ?_
   have hd:Cv ss ord c d=dec ((Eu ss c[i],Eu ss d[i])∈ord):=by
    rw[Su ss ord g (by lia) (by lia),Ki G,Ki I];exact VH ss ord _ _ l
   refine⟨k,S,T,R,D,us,r,u,ss,c[i],rfl,Al.of (e _ _ L),SC.same e,Al.of (e _ _ Z),o1,k,S,T,R,E,us,r,u,ss,d[i],rfl,Al.of (e _ _ L),SC.same e,Al.of (e _ _ aa),o2,BA,λp hp=>?_⟩;obtain⟨H4,aw,s4,ep⟩:=new_at (o:=.tup [.str (Eu ss c[i]),.str (Eu ss d[i])]) hp;rw[<-aw];have m:=e.trans s4;refine(Or.inr (Or.inl ⟨_,.ref o,Al.of (m _ _ et),rfl,2,MU (Eu ss c[i],Eu ss d[i]),ord.map MU,o,_,λa0 ax=>?_,by decide,.tup (Al.of ep) (.cons (.str _) (.cons (.str _) .nil)),rfl,Af.of (m _ _ eo),(TO.same m).dts,?_⟩));obtain⟨z,_,rfl⟩:=AF.mp ax;exact .tup (.cons (.str _ _) (.cons (.str _ _) (.nil _)));rw[MD,<-hd];exact q H4 m
inductive C7 (K:Aj) (vs:List V) (H:Hp) (Q:VK):Prop where
 |mk (nt S T R t D l:Addr) (us Gs Es:List Addr) (ss:List Bf) (F G1 G2:Addr->Prop) (sts:List CA) (inn:Int) (ord:A') (zs:List (Addr×List As)) (w:List As) (h0:vs=[.ref nt,.ref t,.ref D,.ref l]) (h1:H nt=some (.tup [.ref S,.ref T,.ref R])) (h2:CI H S us Gs Es ss) (h3:Fq K F H t sts inn ord) (h4:H D=some (.lst (zs.map λz=>V.ref z.1))) (h5:(∀z∈zs,BW G1 H z.1 z.2)) (h6:(∀z∈zs,GD ss z.2)) (h7:BW G2 H l w) (h8:GD ss w) (h9:∀H',Ac H H'->Q (.bl ((zs.map (·.2)).any λv=>Cv ss ord v w)) H'):C7 K vs H Q
def W4 (K:Aj):Sp:=λvs H Q ζ=>C7 K vs H Q
abbrev OG(P w K mg base):=BG P w K mg base "_law_hidden" 3 ["_law_net", "_law_table", "_law_ways_here", "_law_way"] (W4 K)
def fH(B:BH mg)(Y:TD P w K mg base)(F:Bv K "_law_hidden" "_law_hidden" QX f fd)(G:mg "_law_hidden" = some (.ref f)):OG P w K mg base:=by
 refine B0 F G WN (λI H Q E h=>?_) (λae aa af s H I Q E hr h=>?_);obtain⟨e,S,T,R,t,D,l,us,k,m,ss,F,n,o,A,C,ord,b,w,rfl,_⟩:=h;rfl
 . obtain⟨e,S,T,R,t,D,l,us,k,m,ss,F,n,o,A,C,ord,b,w,rfl,J,SC,L,p,M,N,O,W,q⟩:=h
   refine⟨_,(Ar (Cz Cu rfl (Dg (pv 2)) (Av (i:=4) WN.nd) (Aw (Bb (F6 (A3 Y (Ab (pv 0) (Ab (pv 1) (Ab (pv 4) (Ab (pv 3) Ae)))))) (Aw (AI G7)) Ba)))
    (Aw (AI G7))),?_⟩
   rfl';refine⟨⟨_,Af.of p⟩,Fn (xs:=b.map λz=>V.ref z.1) (λi σ r=>∃g,σ=[some (.ref e),some (.ref t),some (.ref D),some (.ref l),g]/\Ac H r/\(((b.take i).map (·.2)).any λv=>Cv ss ord v w)=false) ⟨none,rfl,Ac.refl _,rfl⟩ (λi σ r ζ Z=>by obtain⟨_,_,s,_⟩:=Z;exact Af.of (s _ _ p)) ?_ ?_⟩;rotate_left;rintro σ U ⟨g,rfl,a,d⟩;rw[Ak,De] at d;have:=q _ a;rw[d] at this;exact this;rintro i x σ U X ⟨g,rfl,a,d⟩;obtain⟨z,u,rfl⟩:=getm X;have j:=Bk u;refine⟨e,S,T,R,t,z.1,l,us,k,m,ss,F,n,o,A,C,ord,z.2,w,rfl,a _ _ J,SC.same a,L.same a,(M z j).same a,O.same a,N z j,W,λab y=>⟨rfl,Ap (λc=>?_) (λc=>?_)⟩⟩;have:=q _ (a.trans y)
   rw[show((b.map (·.2)).any λv=>Cv ss ord v w)=true from K1.mpr ⟨z.2,AF.mpr ⟨z,j,rfl⟩,c⟩] at this;exact this
   refine⟨_,rfl,a.trans y,?_⟩;rw[D7,u,A8,List.any_append,d];simpa using c
inductive DA (K:Aj) (vs:List V) (H:Hp) (Q:VK):Prop where
 |mk (t a o:Addr) (inn:V) (ss:List CA) (n:Int) (k:Nat) (s:CA) (x:Str) (h0:vs=[.ref t,.int n,.str x]) (h1:n=k) (h2:Al K H t [.ref a,inn,.ref o]) (h3:HE K H a ss) (h4:ss[k]?=some s) (h5:Q (Eg (Do s.1 x)) H):DA K vs H Q
def fI (K:Aj):Sp:=λvs H Q ζ=>DA K vs H Q
abbrev Qq(P w K mg base):=BG P w K mg base "next_state" 1 ["table", "state", "label"] (fI K)
theorem fJ(B:BH mg)(F:Bv K "next_state" "next_state" QY f fd)(D:mg "next_state" = some (.ref f)):Qq P w K mg base:=by
 refine B0 F D Qb (λl H Q E h=>?_) (λae A af s H l Q E hr h=>?_);obtain⟨t,a,o,T,ss,n,k,s,x,rfl,_⟩:=h;rfl;obtain⟨t,a,o,T,ss,n,k,s,x,rfl,rfl,G,⟨l,I,J⟩,L,q⟩:=h;obtain⟨aa,M,U⟩:=J.get' (i:=k) (d:=HD s) (by rw[AM,L];rfl);obtain⟨N,g,e,rfl,W,⟨O,u,C⟩,he⟩:=NV U;have X:=C.len_map
 refine⟨_,(Ar (AN (i:=3) Qb.nd (An Ao (An Ao (An Ao (pv 0) Ah) (pv 1)) Ah))
  (Ar (Cz Cu rfl (Dg (pv 3)) (BP (n:=2) rfl (AA (Av (i:=4) Qb.nd) (AA (Av (i:=5) Qb.nd) BO))) (Aw (Bb (Bp B8 (pv 4) (pv 2) (Bj _)) (Aw (AI (pv 5))) Ba)))
  (Aw (AI FM)))),?_⟩
 rfl';refine Or.inr (Or.inl ⟨_,.ref a,G,rfl,?_⟩);refine Or.inl ⟨l,.ref N,I,A1 M,?_⟩;refine Or.inr (Or.inl ⟨_,.ref g,W,rfl,?_⟩);refine⟨⟨_,u⟩,Fn (xs:=O) (λi σ v=>∃m r,σ=[some (.ref t),some (.int k),some (.str x),some (.ref g),m,r]/\v=H/\∀q∈s.1.take i,q.1≠x) ⟨none,none,rfl,rfl,λq b=>by simp at b⟩ (λi σ v ζ Z=>by obtain⟨_,_,_,e,_⟩:=Z;exact by rw[e];exact u) ?_ ?_⟩;rintro i ab σ Y R ⟨m,r,rfl,rfl,j⟩;obtain⟨p,t',y,rfl,S⟩:=C.goes_get R;refine⟨_,S,rfl,?_⟩;refine⟨rfl,rfl,?_⟩;refine Ap (λc=>?_) (λc=>?_);have c:p.1=x:=V.str.inj (Be c);rw[HK y c j] at q;exact q;have c:p.1≠x:=λz=>c (A5 (by rw[z]));refine⟨_,_,rfl,rfl,λq b=>?_⟩;rw[D7,y] at b;rcases BR.mp b with b|b;exact j q b;rw[A9.mp b];exact c;rintro σ Y ⟨m,r,rfl,rfl,j⟩;rw[X,De] at j;rw[Vq j] at q;exact q
inductive Cf (K:Aj) (vs:List V) (H:Hp) (Q:VK):Prop where
 |mk (t S T R A:Addr) (ths:List (Str×Int)) (as:List (C')) (n:Int) (k:Nat) (h0:vs=[.ref t,.ref A,.int n]) (h1:n=k) (h2:k<as.length) (h3:Al K H t [.ref S,.ref T,.ref R]) (h4:Dm K H T ths) (h5:He K H A as) (h6:FQ ths as) (h7:∀(r:Addr)(H':Hp),H r=none->Ac H H'->H' r=some (.tup [.str (Ef ths as n).1,.int (Ef ths as n).2])->Q (.ref r) H'):Cf K vs H Q
def fK (K:Aj):Sp:=λvs H Q ζ=>Cf K vs H Q
abbrev TF(P w K mg base):=BG P w K mg base "inside_of_sort" 1 ["net", "answers", "question"] (fK K)
def fL(B:BH mg)(F:Bv K "inside_of_sort" "inside_of_sort" QZ f fd)(c:mg "inside_of_sort" = some (.ref f)):TF P w K mg base:=by
 refine B0 F c Qc (λe H Q E h=>?_) (λY A Z s H e Q E a h=>?_);obtain⟨t,S,T,R,A,ths,as,n,k,rfl,_⟩:=h;rfl;obtain⟨t,S,T,R,A,ths,as,n,k,rfl,rfl,u,x,y,hA,ok,q⟩:=h;obtain⟨e,v,I,C,D⟩:=hA.get u
 refine⟨_,(Ar (AN (i:=3) Qc.nd (An Ao (pv 1) (pv 2)))
  (Ar (Bb (Gf (GS (pv 3))) (Aw (AI (AQ (Ab AW (Ab (pv 2) Ae))))) Ba)
  (Ar (Bb (Bp B8 (An Ao (pv 3) Ah) AW (Bj _)) (Ar (DJ (An Ao (An Ao (pv 0) Ah) (An Ao (pv 3) Ah)) (BP (n:=2) rfl (AA (Av (i:=4) Qc.nd) (AA (Av (i:=5) Qc.nd) BO))))
   (Aw (Bb (Bp B8 (pv 4) AW (Bj _)) (Aw (AI (AQ (Ab AW (Ab (pv 5) Ae))))) Ba))) Ba)
  (Aw (AI (AQ (Ab AW (Ab Ah Ae)))))))),?_⟩
 rfl';refine Or.inl ⟨e,v,I,A1 C,?_⟩;rcases D with⟨b,rfl⟩|⟨p,W,b,rfl,o⟩;refine⟨rfl,Ap (λζ=>?_) (λh=>absurd (A5 rfl) h)⟩;refine⟨BA,λr a=>?_⟩;rw[Ve b] at q;exact q r _ a (AJ a) Aa;refine⟨rfl,Ap (λh=>absurd (Be h) (by simp)) (λζ=>?_)⟩;refine Or.inr (Or.inl ⟨_,.str p.1,o,rfl,rfl,rfl,Ap (λh=>?_) (λh=>?_)⟩);have d:p.1=("thing" : Str):=V.str.inj (Be h);obtain⟨G,X⟩:=ok.t p (Bk b) d;obtain⟨m,c⟩:=Co G;have L:m<ths.length:=(by lia);have g:=AB L;obtain⟨J,l,M,N,O⟩:=y.get g;have U:AS J p.2=some (.ref l):=by rw[c];exact A1 N
 refine Or.inr (Or.inl ⟨_,.ref T,x,rfl,Or.inr (Or.inl ⟨_,.int p.2,o,rfl,Or.inl ⟨J,.ref l,M,U,?_⟩⟩)⟩);refine⟨_,O,rfl,?_⟩;refine⟨rfl,rfl,Ap (λh=>?_) (λh=>?_)⟩;have j:ths[m].1=("part" : Str):=V.str.inj (Be h);refine⟨BA,λr a=>?_⟩;rw[Vg b d c g j] at q;exact q r _ a (AJ a) Aa;have j:ths[m].1≠("part" : Str):=λz=>h (A5 (by rw[z]));refine⟨BA,λr a=>?_⟩;rw[Ye b d c g j] at q;exact q r _ a (AJ a) Aa;have d:p.1≠("thing" : Str):=λz=>h (A5 (by rw[z]));refine⟨BA,λr a=>?_⟩;rw[Vf b d] at q;exact q r _ a (AJ a) Aa
inductive F3 (K:Aj) (vs:List V) (H:Hp) (Q:VK):Prop where
 |mk (t S T R A:Addr) (ths:List (Str×Int)) (as:List (C')) (n:Int) (k:Nat) (p:Str×Int) (h0:vs=[.ref t,.ref A,.int n]) (h1:n=k) (h2:ths[k]?=some p) (h3:Al K H t [.ref S,.ref T,.ref R]) (h4:Dm K H T ths) (h5:He K H A as) (h6:FQ ths as) (h7:∀(r:Addr)(H':Hp),H r=none->Ac H H'->H' r=some (.tup [.str (ES ths as p).1,.int (ES ths as p).2])->Q (.ref r) H'):F3 K vs H Q
def fM (K:Aj):Sp:=λvs H Q ζ=>F3 K vs H Q
abbrev Qr(P w K mg base):=BG P w K mg base "inside" 2 ["net", "answers", "thing"] (fM K)
def fN(B:BH mg)(v:TF P w K mg base)(F:Bv K "inside" "inside" Q0 f fd)(d:mg "inside" = some (.ref f)):Qr P w K mg base:=by
 refine B0 F d Tc (λl H Q E h=>?_) (λG A I s H l Q E a h=>?_);obtain⟨t,S,T,R,A,ths,as,n,k,p,rfl,_⟩:=h;rfl;obtain⟨t,S,T,R,A,ths,as,n,k,p,rfl,rfl,e,g,j,hA,ok,q⟩:=h;obtain⟨J,o,x,y,C⟩:=j.get e
 refine⟨_,(Ar (DJ (An Ao (An Ao (pv 0) Ah) (pv 2)) (BP (n:=2) rfl (AA (Av (i:=3) Tc.nd) (AA (Av (i:=4) Tc.nd) BO))))
  (Ar (Bb (Bp B8 (pv 3) AW (Bj _)) (Aw (AI (AQ (Ab AW (Ab (pv 4) Ae))))) Ba)
  (Ar (Bb (Bp B8 (pv 3) AW (Bj _)) (Aw (AI (A3 v (Ab (pv 0) (Ab (pv 1) (Ab (pv 4) Ae)))))) Ba)
  (Aw (AI (AQ (Ab AW (Ab Ah Ae)))))))),?_⟩
 rfl';refine Or.inr (Or.inl ⟨_,.ref T,g,rfl,Or.inl ⟨J,.ref o,x,A1 y,?_⟩⟩);refine⟨_,C,rfl,?_⟩;refine⟨rfl,rfl,Ap (λh=>?_) (λh=>?_)⟩;have b:p.1=("part" : Str):=V.str.inj (Be h);refine⟨BA,λr a=>?_⟩
 rw[show ES ths as p=(("to" : Str),p.2) from Au b] at q
 exact q r _ a (AJ a) Aa;have b:p.1≠("part" : Str):=λz=>h (A5 (by rw[z]));refine⟨rfl,rfl,Ap (λh=>?_) (λh=>?_)⟩;have c:p.1=("sort" : Str):=V.str.inj (Be h)
 obtain⟨u,D⟩:=ok.q p (Bk e) c;obtain⟨m,d⟩:=Co u;rw[show ES ths as p=Ef ths as p.2 from(At b).trans (Au c)] at q;exact⟨t,S,T,R,A,ths,as,p.2,m,rfl,d,by lia,g,j,hA,ok,q⟩
 have c:p.1≠("sort" : Str):=λz=>h (A5 (by rw[z]));refine⟨BA,λr a=>?_⟩
 rw[show ES ths as p=(("no" : Str),0) from(At b).trans (At c)] at q
 exact q r _ a (AJ a) Aa
inductive Ig (K:Aj) (vs:List V) (H:Hp) (Q:VK):Prop where
 |mk (t S T R A st:Addr) (ths:List (Str×Int)) (as:List (C')) (p:Ch) (h0:vs=[.ref t,.ref A,.ref st]) (h1:Al K H t [.ref S,.ref T,.ref R]) (h2:Dm K H T ths) (h3:He K H A as) (h4:FQ ths as) (h5:Al K H st (Gk p)) (h6:(p.2.1≠("to" : Str)->0<=p.2.2/\p.2.2<as.length)) (h7:∀(r:Addr)(H':Hp),H r=none->Ac H H'->H' r=some (.tup [.str (CQ ths as p).1,.int (CQ ths as p).2])->Q (.ref r) H'):Ig K vs H Q
def J6 (K:Aj):Sp:=λvs H Q ζ=>Ig K vs H Q
abbrev TH(P w K mg base):=BG P w K mg base "goal" 3 ["net", "answers", "step"] (J6 K)
def fO(B:BH mg)(M:Qr P w K mg base)(F:Bv K "goal" "goal" Q1 f fd)(e:mg "goal" = some (.ref f)):TH P w K mg base:=by
 refine B0 F e Oo (λg H Q E h=>?_) (λZ A aa s H g Q E a h=>?_);obtain⟨t,S,T,R,A,x,ths,as,p,rfl,_⟩:=h;rfl;obtain⟨t,S,T,R,A,x,ths,as,p,rfl,y,C,hA,ok,N,D,q⟩:=h
 refine⟨_,(Ar (DJ (pv 2) (BP (n:=3) rfl (AA (Av (i:=3) Oo.nd) (AA (Av (i:=4) Oo.nd) (AA (Av (i:=5) Oo.nd) BO)))))
  (Ar (Bb (Bp B8 (pv 4) AW (Bj _)) (Aw (AI (AQ (Ab AW (Ab (pv 5) Ae))))) Ba)
  (Ar (AN (i:=6) Oo.nd (An Ao (pv 1) (pv 5)))
  (Ar (Bb (Gf (GS (pv 6))) (Aw (AI (AQ (Ab AW (Ab (pv 5) Ae))))) Ba)
  (Ar (Bb (Bp B8 (An Ao (pv 6) Ah) AW (Bj _)) (Aw (AI (A3 M (Ab (pv 0) (Ab (pv 1) (Ab (An Ao (pv 6) Ah) Ae)))))) Ba)
  (Aw (AI (AQ (Ab AW (Ab Ah Ae)))))))))),?_⟩
 rfl';refine⟨_,N,rfl,?_⟩;refine⟨rfl,rfl,Ap (λh=>?_) (λh=>?_)⟩;have b:p.2.1=("to" : Str):=V.str.inj (Be h);refine⟨BA,λr a=>?_⟩;rw[Vh b] at q;exact q r _ a (AJ a) Aa;have b:p.2.1≠("to" : Str):=λz=>h (A5 (by rw[z]));obtain⟨G,W⟩:=D b;obtain⟨n,j⟩:=Co G;obtain⟨g,v,O,I,J⟩:=hA.get (k:=n) (by lia);have U:AS g p.2.2=some v:=by rw[j];exact A1 I
 refine Or.inl ⟨g,v,O,U,?_⟩;rcases J with⟨d,rfl⟩|⟨c,X,d,rfl,o⟩;refine⟨rfl,Ap (λζ=>?_) (λh=>absurd (A5 rfl) h)⟩;refine⟨BA,λr a=>?_⟩;rw[Yh b j d] at q;exact q r _ a (AJ a) Aa;refine⟨rfl,Ap (λh=>absurd (Be h) (by simp)) (λζ=>?_)⟩;refine Or.inr (Or.inl ⟨_,.str c.1,o,rfl,rfl,rfl,Ap (λh=>?_) (λh=>?_)⟩);have l:c.1=("thing" : Str):=V.str.inj (Be h);obtain⟨L,Y⟩:=ok.t c (Bk d) l;obtain⟨m,e⟩:=Co L;have u:=AB (show m<ths.length by lia);rw[Yj b j d l e u] at q;exact Or.inr (Or.inl ⟨_,.int c.2,o,rfl,t,S,T,R,A,ths,as,c.2,m,_,rfl,e,u,y,C,hA,ok,q⟩);have l:c.1≠("thing" : Str):=λz=>h (A5 (by rw[z]));refine⟨BA,λr a=>?_⟩;rw[Yi b j d l] at q;exact q r _ a (AJ a) Aa
def J7:([]:List V).length+1+1+1+1<=sizeLine:=by decide
def fP{s:CA}(h:W.sts[k]?=some s):BB W (k:Int)=s.1:=by unfold BB;rw[Bl,h]
def fQ(h:W.ss[k]?=some s):AX W (k:Int)=s.1:=by unfold AX;rw[Bl,h]
def fR{sc:Int}{go:List (Str×Int)}{p:Ch}{a:Int}(h:Do go p.1=some a):Er W sc go p i=[((sc,("step" : Str),(i:Int)),CQ W.gs W.as p,a)]:=by unfold Er;rw[h]
def fS{sc:Int}{go:List (Str×Int)}{p:Ch}(h:Do go p.1=none):Er W sc go p i=[]:=by unfold Er;rw[h]
inductive DB (K:Aj) (vs:List V) (H:Hp) (Q:VK):Prop where
 |mk (nt A t:Addr) (W:Wd) (sc st:Int) (h0:vs=[.ref nt,.ref A,.ref t,.int sc,.int st]) (h1:A6 K H nt A t W) (h2:Cm W) (h3:(0<=sc/\sc<W.ss.length)) (h4:(0<=st/\st<W.sts.length)) (h5:∀(D:Addr)(zs:List (Addr×Gn))(H':Hp),H D=none->Ac H H'->H' D=some (.lst (zs.map λz=>V.ref z.1))->(∀z∈zs,KC H' z.1 z.2)->zs.map (·.2)=FU W sc st->Q (.ref D) H'):DB K vs H Q
def fT (K:Aj):Sp:=λvs H Q ζ=>DB K vs H Q
abbrev Qs(P w K mg base):=BG P w K mg base "steps_gone" 4 ["net", "answers", "table", "scope", "state"] (fT K)
def fU(ao:BH mg)(a2:Qq P w K mg base)(a3:TH P w K mg base)(F:Bv K "steps_gone" "steps_gone" Q2 f fd)(d:mg "steps_gone" = some (.ref f)):Qs P w K mg base:=by
 refine B0 F d Mj (λvs aa aq ar h=>?_) (λaO A aQ s aa vs aq ar hr h=>?_);obtain⟨E,A,t,W,sc,az,rfl,_⟩:=h;rfl
 . obtain⟨E,A,t,W,sc,az,rfl,G,ok,a4,a5,q⟩:=h
   obtain⟨ab,au,av,us,Gs,Es,ts,qt,qs,eN,B⟩:=G.net;obtain⟨aw,o,a6,b1,ax,b2,b3⟩:=G.tab;obtain⟨n,hn⟩:=Co a4.1;obtain⟨k,hk⟩:=Co a5.1;subst hn hk;have T:n<W.ss.length:=(by lia);have a7:k<W.sts.length:=(by lia);obtain⟨ae,ag,E1,a0,aM,aN,g4,⟨c0,⟨tG,c1,H⟩,_⟩⟩:=B.sc.get T;have ai:=AB a7;have l:=fQ g4;have eG:=fP ai;have a8:AS (us.map V.ref) (n:Int)=some (.ref ae):=A1 (by rw[AM,a0];rfl);have aP:=ok.st _ (Dk T)
   refine⟨_,(Ar (AN (i:=5) Mj.nd (Cg Ae))
    (Ar (Cz Cu rfl (Od LK rfl ao.b_enumerate (Ab (An Ao (An Ao (An Ao (pv 0) Ah) (pv 3)) Ah) Ae)) (BP (n:=2) rfl (AA (Av (i:=6) Mj.nd) (AA (Av (i:=7) Mj.nd) BO))) (Ar (AN (i:=8) Mj.nd (A3 a2 (Ab (pv 2) (Ab (pv 4) (Ab (An Ao (pv 7) Ah) Ae)))))
     (Aw (Bb (Gf (O6 (pv 8))) (Ar (DJ (A3 a3 (Ab (pv 0) (Ab (pv 1) (Ab (pv 7) Ae)))) (BP (n:=2) rfl (AA (Av (i:=9) Mj.nd) (AA (Av (i:=10) Mj.nd) BO))))
      (Aw (Eo (DQ Ec Fk Fl Fp (pv 5) (Ab (AQ (Ab (AQ (Ab (pv 3) (Ab AW (Ab (pv 6) Ae)))) (Ab (pv 9) (Ab (pv 10) (Ab (pv 8) Ae))))) Ae))))) Ba))))
    (Aw (AI (pv 5))))),?_⟩
   rfl';refine⟨by decide,λD I=>?_⟩;obtain⟨aK,a9,r,aA⟩:=new_at (o:=.lst []) I;rw[<-a9];refine Or.inr (Or.inl ⟨_,.ref ab,Al.of (r _ _ eN),rfl,Or.inl ⟨_,.ref ae,Af.of (r _ _ B.sc.top),a8,Or.inr (Or.inl ⟨_,.ref ag,Al.of (r _ _ c0),rfl,ag,rfl,⟨_,r _ _ c1⟩,?_⟩)⟩⟩)
   refine Of LK (xs:=tG.map V.ref) (λi σ C=>∃J L M N U c,σ=[some (.ref E),some (.ref A),some (.ref t),some (.int n),some (.int k),some (.ref D),J,L,M,N,U]/\Ac aa C/\C D=some (.lst (c.map λz:Addr×Gn=>V.ref z.1))/\(∀z∈c,KC C z.1 z.2)/\c.map (·.2)=Dd W n (BB W k) ((AX W n).take i) 0)
    ⟨none,none,none,none,none,[],rfl,r,aA,λz g=>by simp at g,by rw[Ea];rfl⟩ (λi σ C aB=>by obtain⟨_,_,_,_,_,_,_,s,_⟩:=aB;exact Af.of (s _ _ c1)) ?_ ?_
   rotate_left;refine λσ ah X=>AL λNz v=>?_;obtain⟨J,L,M,N,U,c,rfl,O,y,g,d⟩:=X;refine v ?_;clear v;refine q D c ah I O y g ?_;rw[d,Ak,H.len,l,De];unfold FU;rw[l];refine λi x T' σ ah hx aC X=>AL λNz v=>?_;obtain⟨J,L,M,N,U,c,rfl,O,y,g,d⟩:=X;refine v ?_;clear v;obtain⟨Q,aj,rfl⟩:=getm hx;have ak:i<W.ss[n].1.length:=by rw[<-H.len];exact(Bi.mp aj).1
   have R:=AB ak;have Y:=H.at_ i Q _ aj R;have mp:=Dk ak;generalize W.ss[n].1[i]=p at R Y mp;obtain⟨H3,aD,j,aE⟩:=new_at (o:=.tup [.int i,.ref Q]) aC;rw[<-aD];have a:=O.trans j
   have al:Dd W n (BB W k) ((AX W n).take (i+1)) 0=Dd W n (BB W k) ((AX W n).take i) 0++Er W n (BB W k) p i:=by
    rw[D7,l,R];show Dd W n (BB W k) (W.ss[n].1.take i++[p]) 0=_;rw[Sk,Ek,Nat.zero_add,Nat.min_eq_left (by lia)]
   refine⟨_,Al.of aE,rfl,?_⟩;refine Or.inr (Or.inl ⟨_,.str p.1,Al.of (a _ _ Y),rfl,t,aw,o,a6,W.sts,k,k,_,p.1,rfl,rfl,a.seqT b1,⟨ax,a.seq b2,b3.same a⟩,ai,?_⟩);rw[<-eG]
   cases eg:Do (BB W k) p.1 with
   |none =>
     refine⟨rfl,Ap (λh=>absurd h (by simp[Eg])) (λζ=>?_)⟩;refine⟨_,_,_,_,_,c,rfl,a,j _ _ y,λz h=>(g z h).same j,?_⟩;rw[al,fS eg,Eb,d]
   |some af =>
     refine⟨rfl,Ap (λζ=>?_) (λh=>absurd (by simp[Eg]) h)⟩;refine⟨E,ab,au,av,A,Q,W.gs,W.as,p,rfl,Al.of (a _ _ eN),⟨_,Af.of (a _ _ B.et),(B.tg.same a).dts⟩,G.ans.same a,ok.net,Al.of (a _ _ Y),λe=>ok.by_ (Dk T) mp e,λaL H4 hr s4 er=>?_⟩;refine⟨_,Al.of er,rfl,?_⟩;have aF:=s4 _ _ (j _ _ y);refine⟨Or.inl ⟨rfl,_,Af.of aF⟩,Gj,λm aG=>?_⟩;obtain⟨H5,aH,s5,a1⟩:=new_at (o:=.tup [.int n,.str "step",.int i]) aG;rw[<-aH];refine⟨J7,λz aI=>?_⟩;obtain⟨H6,aJ,s6,ez⟩:=new_at (o:=.tup [.ref m,.str (CQ W.gs W.as p).1,.int (CQ W.gs W.as p).2,Eg (some af)]) aI;rw[<-aJ];have Z:=(s4.trans s5).trans s6;have an:=Z _ _ (j _ _ y);have S:Keeps (·=D) H6 (upd H6 D (.lst (c.map (λz=>V.ref z.1)++[.ref z]))):=Keeps.one an
     have lz:c.length<=8:=by
      have e1:=Bq List.length d;have e2:=Jw W n (BB W k) ((AX W n).take i) 0;rw[Ek,l] at e2;rw[Ak] at e1;rw[l] at e1;lia
     refine⟨_,an,by rw[Ak];exact BL (by lia),?_⟩;refine⟨_,_,_,_,_,c++[(z,(((n:Int),("step" : Str),(i:Int)),CQ W.gs W.as p,af))],rfl,λb o e=>?_,by rw[Aa,A8];rfl,λay u=>?_,?_⟩;rw[AH (AV e I)];exact Z _ _ (a _ _ e);rcases BR.mp u with u|u;exact((g ay u).same (j.trans Z)).keeps S;rw[A9.mp u];exact⟨m,S.tup ez,S.tup (s6 _ _ a1)⟩;rw[al,fR eg,A8,d];rfl
def fV{r:Gn}(a:r.2.1.1=("to" : Str))(c:r.2.1.2∉AY b):kid b r=some (b.1++[r.1],r.2.1.2,r.2.2):=Au ⟨a,c⟩
def fW{r:Gn}(h:¬(r.2.1.1=("to" : Str)/\r.2.1.2∉AY b)):kid b r=none:=At h
def J8{α β:Type}(f:α->Option β)(l:List α)(x:α):(l++[x]).filterMap f=l.filterMap f++(f x).toList:=by
 rw[List.filterMap_append];cases e:f x<;>simp[e]
def fX(b:AK):(AY b).length=b.1.length+1:=by unfold AY;simp
inductive BY (K:Aj) (vs:List V) (H:Hp) (Q:VK):Prop where
 |mk (nt A t bt:Addr) (W:Wd) (b:AK) (h0:vs=[.ref nt,.ref A,.ref t,.ref bt]) (h1:A6 K H nt A t W) (h2:Cm W) (h3:Dp W b) (h4:(∃F,DH F H bt b)) (h5:∀(D:Addr)(zs:List (Addr×AK))(H':Hp),H D=none->Ac H H'->H' D=some (.lst (zs.map λz=>V.ref z.1))->(∀z∈zs,DH (λl=>H l=none/\l≠D) H' z.1 z.2)->zs.map (·.2)=BU W b->Q (.ref D) H'):BY K vs H Q
def fY (K:Aj):Sp:=λvs H Q ζ=>BY K vs H Q
abbrev TJ(P w K mg base):=BG P w K mg base "longer_by_a_step" 5 ["net", "answers", "table", "beginning"] (fY K)
def fZ(B:BH mg)(a2:Qs P w K mg base)(F:Bv K "longer_by_a_step" "longer_by_a_step" OY f fd)(d:mg "longer_by_a_step" = some (.ref f)):TJ P w K mg base:=by
 refine B0 F d IG (λvs H ay az h=>?_) (λaK A aO s H vs ay az hr h=>?_);obtain⟨nt,A,t,bt,W,b,rfl,_⟩:=h;rfl
 . obtain⟨nt,A,t,bt,W,b,rfl,hC,ok,X,⟨F,l,g,G,r,j,_⟩,q⟩:=h
   have aL:g.length<=100:=by
    have:=LQ W.ss.length (AY b) X.nd X.rng;rw[fX] at this;have:=ok.s5;rw[j.len];lia
   have a3:=X.rng b.2.1 (by unfold AY;simp)
   refine⟨_,(Ar (DJ (pv 3) (BP (n:=3) rfl (AA (Av (i:=4) IG.nd) (AA (Av (i:=5) IG.nd) (AA (Av (i:=6) IG.nd) BO)))))
    (Ar (AN (i:=7) IG.nd (AZ Lr (Ha (te:=Ck (Ey K) (A0 0) (tC (.int ((0:Nat):Int)))) rfl BE (Dg (pv 4)) (λζ ζ ζ ζ ζ=>(Av (i:=0) BE.nd)) (λζ ζ ζ ζ ζ=>GB) (λζ ζ ζ ζ ζ=>(An Ao (pv 0) Ah))) (Cg (Ab (pv 5) Ae))))
    (Ar (AN (i:=8) IG.nd (Cg Ae))
    (Ar (Cz Cu rfl (Dg (A3 a2 (Ab (pv 0) (Ab (pv 1) (Ab (pv 2) (Ab (pv 5) (Ab (pv 6) Ae))))))) (BP (n:=4) rfl (AA (Av (i:=9) IG.nd) (AA (Av (i:=10) IG.nd) (AA (Av (i:=11) IG.nd) (AA (Av (i:=12) IG.nd) BO))))) (Aw (Bb (PW.pt (Gx (Bp B8 (pv 10) AW (Bj _)) (GU (Bp (X3 hr.units) (pv 11) (pv 7) (by with_unfolding_all rfl))))) (Aw (Eo (DQ Ec Fk Fl Fp (pv 8) (Ab (AQ (Ab (AZ Lr (pv 4) (Cg (Ab (pv 9) Ae))) (Ab (pv 11) (Ab (pv 12) Ae)))) Ae)))) Ba)))
    (Aw (AI (pv 8))))))),?_⟩
   rfl';refine⟨_,Al.of G,rfl,?_⟩
   refine⟨⟨_,Af.of r⟩,LF (xs:=g.map V.ref) (λD i M p=>Ac H p/\p D=some (.lst M)/\M=(b.1.take i).map λm=>V.int m.1)
    (λD u=>⟨AJ u,Aa,by rw[Ea];rfl⟩) (λD i M p ag=>by obtain⟨s,_⟩:=ag;exact Af.of (s _ _ r)) (λD i x M af RR u N hv k=>?_) (λa0 M aH aM hv=>?_)⟩
   obtain⟨O,eD,rfl⟩:=hv;obtain⟨tm,aq,rfl⟩:=getm N;have a4:i<b.1.length:=by rw[<-j.len];exact(Bi.mp aq).1
   have d:=AB a4;have a5:=j.at_ i tm _ aq d;have aa:b.1.take (i+1)=b.1.take i++[b.1[i]]:=by rw[D7,d];rfl
   have a6:=j.len;refine Or.inr (Or.inl ⟨_,.int b.1[i].1,Al.of (O _ _ a5),rfl,?_⟩);refine k _ _ eD (by rw[Ak,Ek];exact BL (by lia)) ⟨λx o e=>?_,Aa,by rw[aa,A8];rfl⟩;rw[AH (AV e u)];exact O _ _ e;obtain⟨s1,eC,rfl⟩:=hv;rw[Ak,j.len,De] at eC;refine⟨HB,λC2 a7=>?_⟩;obtain⟨af,a8,O,a9⟩:=new_at (o:=.lst [.int b.2.1]) a7;rw[<-a8];have a6:=j.len;refine⟨a0,C2,_,_,rfl,rfl,O _ _ eC,a9,?_,λB hB=>?_⟩;rw[Ak];exact CU (BL (by show b.1.length+1<=1000;lia));have s3:=AJ (o:=.lst ((b.1.map λm=>V.int m.1)++[.int b.2.1])) hB
   have Y:(upd af B (.lst ((b.1.map λm=>V.int m.1)++[.int b.2.1]))) B=some (.lst ((AY b).map V.int)):=by
    rw[Aa];unfold AY
    simp
   generalize upd af B (.lst ((b.1.map λm=>V.int m.1)++[.int b.2.1]))=H3 at s3 Y ⊢;have ar:=(s1.trans O).trans s3;refine⟨by decide,λD u=>?_⟩;have ab:H D=none:=ar.free u;obtain⟨H4,aA,s4,ah⟩:=new_at (o:=.lst []) u;rw[<-aA];have au:=ar.trans s4;refine⟨nt,A,t,W,b.2.1,b.2.2,rfl,hC.same au,ok,a3,X.st,λaI v H5 hG Z eG aB av=>⟨⟨_,Af.of eG⟩,?_⟩⟩;have ae:=au.trans Z
   have aN:v.length<=8:=by
    have G:=Bq List.length av;have r:=Jw W b.2.1 (BB W b.2.2) (AX W b.2.1) 0;have j:=Pq ok b.2.1;rw[Ak] at G;unfold FU at G;lia
   refine Fn (xs:=v.map λz=>V.ref z.1) (λi σ p=>∃u9 ai aj ak a,σ=[some (.ref nt),some (.ref A),some (.ref t),some (.ref bt),some (.ref l),some (.int b.2.1),some (.int b.2.2),some (.ref B),some (.ref D),u9,ai,aj,ak]/\Keeps (·=D) H5 p/\p D=some (.lst (a.map λz:Addr×AK=>V.ref z.1))/\(∀z∈a,DH (λl=>H l=none/\l≠D) p z.1 z.2)/\a.map (·.2)=((v.map (·.2)).take i).filterMap (kid b))
    ⟨none,none,none,none,[],rfl,Keeps.refl λx o m e=>by rw[m,Z _ _ ah] at e;exact⟨_,(BS e).symm⟩,Z _ _ ah,λz C=>by simp at C,by rw[Ea];rfl⟩ (λi σ p ζ ag=>by obtain⟨_,_,_,_,_,_,k,_⟩:=ag;exact Af.of (k.at_ _ _ eG λz=>by rw[z,ah] at hG;cases hG)) ?_ ?_
   rotate_left;refine λσ H6 J=>AL λNz T=>?_;obtain⟨u9,ai,aj,ak,a,rfl,c,E,C,d⟩:=J;refine T ?_;clear T;refine q D a H6 ab (λx o e=>?_) E C ?_;exact c.at_ _ _ (ae _ _ e) (AV e ab);rw[d,Ak,<-Ak (f:=(·.2)),De,av];rfl;refine λi x σ H6 N J=>AL λNz T=>?_;obtain⟨u9,ai,aj,ak,a,rfl,c,E,C,d⟩:=J;refine T ?_;clear T;refine ID ?_;intro Nx Cy;obtain⟨z,J,rfl⟩:=getm N;obtain⟨m,al,an⟩:=aB z (Bk J);have al:=c.tup al;have an:=c.tup an
   have aa:((v.map (·.2)).take (i+1)).filterMap (kid b)=((v.map (·.2)).take i).filterMap (kid b)++(kid b z.2).toList:=by
    rw[D7,AM,J];exact J8 _ _ _
   have lz:a.length<=8:=by
    have G:=Bq List.length d;have r:=List.length_filterMap_le (kid b) ((v.map (·.2)).take i);rw[Ek,Ak] at r;rw[Ak] at G;lia
   refine⟨_,Al.of al,rfl,?_⟩
   have skip:¬(z.2.2.1.1=("to" : Str)/\z.2.2.1.2∉AY b)->a.map (·.2)=((v.map (·.2)).take (i+1)).filterMap (kid b):=λhn=>by
    rw[aa,fW hn,d];simp
   have aC:=c.at_ _ _ ((s4.trans Z) _ _ Y) (λz=>by rw[z,u] at Y;cases Y);refine⟨rfl,rfl,Ap (λQ=>?_) (λQ=>Bm ?_)⟩;rotate_left;exact⟨_,_,_,_,a,rfl,c,E,C,skip λh=>Q (A5 (by rw[h.1]))⟩;have Q:z.2.2.1.1=("to" : Str):=V.str.inj (Be Q);refine⟨2,.int z.2.2.1.2,(AY b).map Dt.int,B,_,λaJ hd=>?_,by decide,.int _,rfl,Af.of aC,Pr _,rfl,Ap (λI=>?_) (λI=>?_)⟩;obtain⟨y,_,rfl⟩:=AF.mp hd;exact .int _ _;rotate_left;refine⟨_,_,_,_,a,rfl,c,E,C,skip λh=>I ?_⟩;rw[Ga λz=>h.2 (GC.mp z)];rfl
   have I:z.2.2.1.2∉AY b:=λz=>by
    rw[Ep (GC.mpr z)] at I;cases I
   have aD:=c.at_ _ _ (ae _ _ r) (AV r ab);refine⟨Or.inl ⟨rfl,_,Af.of E⟩,HB,λa1 hM=>?_⟩;obtain⟨H7,aE,s7,eM⟩:=new_at (o:=.lst [.ref m]) hM;rw[<-aE];refine⟨l,a1,_,_,rfl,rfl,s7 _ _ aD,eM,by rw[Ak];exact CU (BL (by show g.length+1<=1000;lia)),λL hL=>?_⟩
   have aF:H L=none:=by
    have h6:=s7.free hL
    cases e:H L with
    |none=>rfl
    |some o=>rw[c.at_ _ _ (ae _ _ e) (AV e ab)] at h6;cases h6
   have aw:L≠D:=λy=>by rw[y,s7 _ _ E] at hL;cases hL
   have s8:=AJ (o:=.lst (g.map V.ref++[.ref m])) hL;have eL:(upd H7 L (.lst (g.map V.ref++[.ref m]))) L=some (.lst ((g++[m]).map V.ref)):=by rw[Aa,A8];rfl
   generalize upd H7 L (.lst (g.map V.ref++[.ref m]))=H8 at s8 eL ⊢;refine⟨Gj,λao hr=>?_⟩;obtain⟨H9,aG,s9,er⟩:=new_at (o:=.tup [.ref L,.int z.2.2.1.2,.int z.2.2.2]) hr;rw[<-aG];have U:=(s7.trans s8).trans s9;have ax:=U _ _ E;have R:Keeps (·=D) H9 (upd H9 D (.lst (a.map (λz=>V.ref z.1)++[.ref ao]))):=Keeps.one ax;refine⟨_,ax,by rw[Ak];exact BL (by lia),?_⟩;refine⟨_,_,_,_,a++[(ao,(b.1++[z.2.1],z.2.2.1.2,z.2.2.2))],rfl,⟨λx o e n=>?_,c.ls⟩,by rw[Aa,A8];rfl,λy S=>?_,?_⟩;rw[AH n];exact U _ _ (c.at_ x o e n);rcases BR.mp S with S|S;exact((C y S).same U).keeps R λx N=>N.2;rw[A9.mp S];refine⟨L,g++[m],R.tup er,R.at_ _ _ (s9 _ _ eL) aw,?_,aF,aw⟩;refine RT.snoc ?_ (R.tup ((U) _ _ an));exact((j.same ae).keeps c |>.same U).keeps R;rw[aa,fV Q I,A8,d];rfl
inductive DC (K:Aj) (vs:List V) (H:Hp) (Q:VK):Prop where
 |mk (nt A t:Addr) (W:Wd) (sc st:Int) (h0:vs=[.ref nt,.ref A,.ref t,.int sc,.int st]) (h1:A6 K H nt A t W) (h2:Cm W) (h3:(0<=sc/\sc<W.ss.length)) (h4:(0<=st/\st<W.sts.length)) (h5:∀(D:Addr)(zs:List (Addr×AK))(H':Hp),H D=none->Ac H H'->H' D=some (.lst (zs.map λz=>V.ref z.1))->(∀z∈zs,DH (λl=>H l=none/\l≠D) H' z.1 z.2)->Dr W sc st (zs.map (·.2))->Q (.ref D) H'):DC K vs H Q
def f0 (K:Aj):Sp:=λvs H Q ζ=>DC K vs H Q
abbrev TL(P w K mg base):=BG P w K mg base "beginnings" 6 ["net", "answers", "table", "scope", "state"] (f0 K)
theorem f5(B:BH mg)(ao:TJ P w K mg base)(F:Bv K "beginnings" "beginnings" Q3 f fd)(hm:mg "beginnings" = some (.ref f)):TL P w K mg base:=by
 refine B0 F hm Qd (λvs H al an h=>?_) (λaB A aD s H vs al an Y h=>?_);obtain⟨L,A,t,W,g,j,rfl,_⟩:=h;rfl
 . obtain⟨L,A,t,W,g,j,rfl,hC,ok,Q,R,q⟩:=h
   refine⟨_,(Ar (AN (i:=5) Qd.nd (Cg (Ab (AQ (Ab (Cg Ae) (Ab (pv 3) (Ab (pv 4) Ae)))) Ae)))
    (Ar (AN (i:=6) Qd.nd Ah)
    (Ar (Xo Cu (Bp IX (pv 6) (CH GA B.b_len (Ab (pv 5) Ae)) (Bj _)) (Ar (Eo (DQ Ec PySem.F.slot_list_extend PySem.F.type_list_extend NP (pv 5) (Ab (A3 ao (Ab (pv 0) (Ab (pv 1) (Ab (pv 2) (Ab (An Ao (pv 5) (pv 6)) Ae))))) Ae)))
     (Ar (Bb (Bp Nw (CH GA B.b_len (Ab (pv 5) Ae)) (IS (v:=.int 200) rfl (Classical.choose_spec B.c_MOST_BEGINNINGS) ⟨_,rfl⟩) (Bj _)) (Aw Xm) Ba)
     (Aw (Js (i:=6) Qd.nd rfl (Or.inl rfl) Ah IW)))))
    (Aw (AI (CH (Yp HL FS FS Y.units (by decide) (by decide) (by decide)) B.b_sorted (Ab (pv 5) Ae))))))),?_⟩
   rfl';refine⟨by decide,λl hl=>?_⟩;obtain⟨a7,aq,s1,el⟩:=new_at (o:=.lst []) hl;rw[<-aq];refine⟨Gj,λaf Y=>?_⟩;obtain⟨a8,ar,Z,er⟩:=new_at (o:=.tup [.ref l,.int g,.int j]) Y;rw[<-ar];refine⟨HB,λD hD=>?_⟩;have ag:=s1.trans Z;have au:H D=none:=ag.free hD;have av:l≠D:=AV (Z _ _ el) hD;obtain⟨H3,aw,s3,ax⟩:=new_at (o:=.lst [.ref af]) hD;rw[<-aw];have ay:=ag.trans s3;refine Cj ?_;cbv;refine RY ?_;cbv;refine Lz (λσ' d=>∃(u6:V)(a:List (Addr×AK)),σ'=[some (.ref L),some (.ref A),some (.ref t),some (.int g),some (.int j),some (.ref D),some u6]/\Ac H d/\d D=some (.lst (a.map λz=>V.ref z.1))/\(∀z∈a,DH (λl=>H l=none/\l≠D) d z.1 z.2)/\GX W g j (a.map λz:Addr×AK=>z.2) (a.map λz:Addr×AK=>z.2).length) ?_ (λa9 hN=>?_);refine λσ' H4 S=>AL λNz C=>?_;obtain⟨u6,a,rfl,I,E,k,hB⟩:=S;refine C ?_;clear C;have hf:=hB.few ok Q R;rw[Ak] at hf;refine⟨D,a.map λz=>(V.ref z.1,z.2),rfl,?_,by rw[Ak];lia,λy M=>?_,λD2 G hp hs U=>?_⟩;rw[El];exact Af.of E;obtain⟨z,T,rfl⟩:=AF.mp M;exact(k z T).dt;have n:=AJ (o:=.lst (G.map (·.1))) U
   obtain⟨c,rfl⟩:∃c:List (Addr×AK),G=c.map λz=>(V.ref z.1,z.2):=by
    have:∀{l:List (DL Dq)},(∀y∈l,y∈a.map λz=>((V.ref z.1,z.2):DL Dq))->∃c:List (Addr×AK),l=c.map λz=>(V.ref z.1,z.2):=by
     intro l
     induction l with
     |nil=>exact λζ=>⟨[],rfl⟩
     |cons y l ih =>
       intro h;obtain⟨c,rfl⟩:=ih λz k=>h z (Cw _ k);obtain⟨z,_,rfl⟩:=AF.mp (h y BF);exact⟨z::c,rfl⟩
    exact this λy M=>hp.mem_iff.mp M
   have N:(c.map λz=>((V.ref z.1,z.2):DL Dq)).map (·.2)=c.map (·.2):=by rw[El];rfl
   have O:(c.map λz=>((V.ref z.1,z.2):DL Dq)).map (·.1)=c.map λz=>V.ref z.1:=by rw[El];rfl
   have az:(c.map (·.2)).Perm (a.map (·.2)):=by
    have:=hp.map (·.2)
    rwa [N,El] at this
   rw[N] at hs;rw[O] at n ⊢
   have nm:∀z∈c,z∈a:=λz T=>by
    have:=hp.mem_iff.mp (AF.mpr ⟨z,T,rfl⟩);obtain⟨y,M,e⟩:=AF.mp this;injection e with O N;have:y=z:=Prod.ext (V.ref.inj O) N;rw[<-this];exact M
   refine q D2 c _ (I.free U) (I.trans n) Aa (λz T=>?_) (hB.all ok Q R az hs);refine((k z (nm z T)).mono' ?_).same n;intro x o ex r;exact⟨r.1,λy=>by rw[y,U] at ex;cases ex⟩;refine⟨λm σ d=>∃(p:Nat)(a:List (Addr×AK)),σ=[some (.ref L),some (.ref A),some (.ref t),some (.int g),some (.int j),some (.ref D),some (.int p)]/\Ac H d/\d D=some (.lst (a.map λz=>V.ref z.1))/\(∀z∈a,DH (λl=>H l=none/\l≠D) d z.1 z.2)/\GX W g j (a.map λz:Addr×AK=>z.2) p/\m=62-p,⟨_,0,[(af,([],g,j))],rfl,ay,ax,λz k=>?_,GX.start W g j,rfl⟩,?_⟩;rw[A9.mp k];exact⟨l,[],s3 _ _ er,(Z.trans s3) _ _ el,RT.nil,hl,av⟩;refine λm σ H4 S=>AL λNz C=>?_;obtain⟨p,a,rfl,I,E,k,hB,aA⟩:=S;refine C ?_;clear C;have hf:=hB.few ok Q R;have a0:=hB.le;rw[Ak] at hf a0;refine⟨_,Or.inl ⟨_,Af.of E,rfl⟩,rfl,?_⟩;by_cases ah:p<a.length;rotate_left;have ep:p=a.length:=(by lia);rw[En (by rw[Ak];lia)];refine Bm (hN _ _ ⟨_,a,rfl,I,E,k,?_⟩);rw[Ak,<-ep];exact hB;rw[A5 (by rw[Ak];lia)];refine CP ?_;have ai:=AB ah;have aj:(a.map (·.2))[p]?=some a[p].2:=by rw[AM,ai];rfl
   have aa:=hB.turn aj;have ib:=(hB.is _ (Bk aj)).ok ok Q R;refine⟨λσ' d=>∃(G:List (Addr×AK)),σ'=[some (.ref L),some (.ref A),some (.ref t),some (.int g),some (.int j),some (.ref D),some (.int ((p+1:Nat):Int))]/\Ac H d/\d D=some (.lst (G.map λz=>V.ref z.1))/\(∀z∈G,DH (λl=>H l=none/\l≠D) d z.1 z.2)/\GX W g j (G.map λz:Addr×AK=>z.2) (p+1),?_,?_⟩;refine λσ' d S=>AL λNz C=>?_;obtain⟨G,rfl,n,X,a1,a2⟩:=S;refine C ?_;clear C;exact⟨_,by lia,p+1,G,rfl,n,X,a1,a2,rfl⟩;have a3:AS (a.map λz=>V.ref z.1) (p:Int)=some (.ref a[p].1):=A1 (by rw[AM,ai];rfl);refine⟨Or.inl ⟨rfl,_,Af.of E⟩,Or.inl ⟨_,.ref a[p].1,Af.of E,a3,L,A,t,a[p].1,W,a[p].2,rfl,hC.same I,ok,ib,⟨_,k _ (Dk ah)⟩,λD2 u J U n a4 a5 ab=>?_⟩⟩
   have aC:u.length<=8:=by
    have O:=Bq List.length ab;have N:=Vs W a[p].2;have e3:=Pq ok a[p].2.2.1;rw[Ak] at O;lia
   have X:=n _ _ E;have k5:Keeps (·=D) J (upd J D (.lst (a.map (λz=>V.ref z.1)++u.map λz=>V.ref z.1))):=Keeps.one X;refine⟨D,D2,_,_,rfl,rfl,X,a4,by rw[Ak,Ak];exact CU (BL (by lia)),?_⟩;have a6:=aa.few ok Q R;rw[<-ab,<-A8,Ak] at a6;rw[<-ab,<-A8] at aa;have ae:(upd J D (.lst (a.map (λz=>V.ref z.1)++u.map λz=>V.ref z.1))) D=some (.lst ((a++u).map λz=>V.ref z.1)):=(by rw[Aa,A8])
   have sn:Ac H (upd J D (.lst (a.map (λz=>V.ref z.1)++u.map λz=>V.ref z.1))):=λb o e=>by
    rw[AH (AV e au)];exact n _ _ (I _ _ e)
   have ak:∀z∈a++u,DH (λl=>H l=none/\l≠D) (upd J D (.lst (a.map (λz=>V.ref z.1)++u.map λz=>V.ref z.1))) z.1 z.2:=λz h=>by
    rcases BR.mp h with h|h;exact((k z h).same n).keeps k5 λx r=>r.2;refine((a5 z h).mono λx r=>⟨I.free r.1,?_⟩).keeps k5 λx r=>r.2;intro y;rw[y,E] at r;cases r.1
   generalize upd J D (.lst (a.map (λz=>V.ref z.1)++u.map λz=>V.ref z.1))=H6 at ae sn ak ⊢;refine⟨_,Or.inl ⟨_,Af.of ae,rfl⟩,rfl,?_⟩;rw[En (by rw[Ak];lia)];refine Bm ?_;refine⟨_,rfl,a++u,?_,sn,ae,ak,aa⟩
   simp
inductive Ff (K:Aj) (vs:List V) (H:Hp) (Q:VK):Prop where
 |mk (t a o:Addr) (inn:V) (ss:List CA) (n:Int) (k:Nat) (s:CA) (x:Str) (h0:vs=[.ref t,.int n,.str x]) (h1:n=k) (h2:Al K H t [.ref a,inn,.ref o]) (h3:HE K H a ss) (h4:ss[k]?=some s) (h5:Q (.bl (dec (x∈s.2))) H):Ff K vs H Q
def f6 (K:Aj):Sp:=λvs H Q ζ=>Ff K vs H Q
abbrev TM(P w K mg base):=BG P w K mg base "has_end" 1 ["table", "state", "label"] (f6 K)
def f7(B:BH mg)(F:Bv K "has_end" "has_end" Q4 f fd)(c:mg "has_end" = some (.ref f)):TM P w K mg base:=by
 refine B0 F c WO (λb H Q E h=>?_) (λO A R s H b Q E j h=>?_);obtain⟨t,a,o,J,ss,n,k,s,x,rfl,_⟩:=h;rfl;obtain⟨t,a,o,J,ss,n,k,s,x,rfl,rfl,l,⟨b,m,p⟩,r,q⟩:=h;obtain⟨v,u,L⟩:=p.get' (i:=k) (d:=HD s) (by rw[AM,r];rfl);obtain⟨C,g,e,rfl,M,N,D⟩:=NV L
 refine⟨_,(Ar (AN (i:=3) WO.nd (An Ao (An Ao (An Ao (pv 0) Ah) (pv 1)) Ah))
  (Aw (AI (Ix (NS j.units) (pv 2) (pv 3) (by with_unfolding_all rfl))))),?_⟩
 rfl';refine Or.inr (Or.inl ⟨_,.ref a,l,rfl,?_⟩);refine Or.inl ⟨b,.ref C,m,A1 u,?_⟩;refine Or.inr (Or.inl ⟨_,.ref e,M,rfl,?_⟩);refine⟨2,.str x,s.2.map Dt.str,e,_,λd hd=>?_,by decide,.str x,rfl,D,Ai.strs _,?_⟩;obtain⟨y,_,rfl⟩:=AF.mp hd;exact .str _ _
 have G:dec (Dt.str x∈s.2.map Dt.str)=dec (x∈s.2):=Kv ⟨λh=>by
  obtain⟨y,I,z⟩:=AF.mp h
  rw[<-Dt.str.inj z];exact I,λh=>AF.mpr ⟨x,h,rfl⟩⟩
 rw[G];exact q
def J9{s:CA}(h:W.sts[k]?=some s):FV W (k:Int)=s.2:=by unfold FV;rw[Bl,h]
def f8(h:W.ss[k]?=some s):Et W (k:Int)=s.2:=by unfold Et;rw[Bl,h]
def ME(a:q.2.1=x)(c:q.1∈FV W b.2.2):FW W b x q i=[b.1++[(b.2.1,("told" : Str),(i:Int))]]:=Au ⟨a,c⟩
def Ka(h:¬(q.2.1=x/\q.1∈FV W b.2.2)):FW W b x q i=[]:=At h
def W5{bs:List AK}(h:bs[i]?=some b):EA W x (bs.take (i+1))=EA W x (bs.take i)++DI W b x (Et W b.2.1) 0:=by
 rw[D7,h];show(bs.take i++[b]).flatMap _=_;rw[List.flatMap_append];simp[EA]
def OH{bs:List AK}(i:Nat):(EA W x (bs.take i)).length<=(EA W x bs).length:=by
 have:EA W x bs=EA W x (bs.take i)++EA W x (bs.drop i):=by
  unfold EA;rw[<-List.flatMap_append,List.take_append_drop]
 rw[this,AO];lia
theorem W6(W:Wd)(b:AK)(x:Str):∀(l:List DK)(j i:Nat),(DI W b x (l.take j) i).length<=(DI W b x l i).length
 |[],j,i=>by rw[List.take_nil];exact AG _
 |q::l,0,i=>DP _
 |q::l,j+1,i=>by
   show(FW W b x q i++DI W b x (l.take j) (i+1)).length<=(FW W b x q i++DI W b x l (i+1)).length;rw[AO,AO];have:=W6 W b x l j (i+1);lia
inductive CD (K:Aj) (vs:List V) (H:Hp) (Q:VK):Prop where
 |mk (nt A t D:Addr) (x:Str) (F:Addr->Prop) (W:Wd) (zs:List (Addr×AK)) (h0:vs=[.ref nt,.ref t,.ref D,.str x]) (h1:A6 K H nt A t W) (h2:Cm W) (h3:H D=some (.lst (zs.map λz=>V.ref z.1))) (h4:(∀z∈zs,DH F H z.1 z.2)) (h5:(∀z∈zs,Dp W z.2)) (h6:(EA W x (zs.map (·.2))).length<=62) (h7:∀(D2:Addr)(ws:List (Addr×List As))(H':Hp),H D2=none->Ac H H'->H' D2=some (.lst (ws.map λz=>V.ref z.1))->(∀z∈ws,BW (λl=>H l=none/\l≠D2) H' z.1 z.2)->LR W x (zs.map (·.2)) (ws.map (·.2))->Q (.ref D2) H'):CD K vs H Q
def f9 (K:Aj):Sp:=λvs H Q ζ=>CD K vs H Q
abbrev TN(P w K mg base):=BG P w K mg base "found_behind" 2 ["net", "table", "begun", "name"] (f9 K)
def gB(an:BH mg)(aE:TM P w K mg base)(F:Bv K "found_behind" "found_behind" Q5 f fd)(u:mg "found_behind" = some (.ref f)):TN P w K mg base:=by
 refine B0 F u Mk (λvs H a3 a4 h=>?_) (λbd ao bh s H vs a3 a4 hr h=>?_);obtain⟨nt,ao,t,D,x,F,W,v,rfl,_⟩:=h;rfl
 . obtain⟨nt,ao,t,D,x,F,W,v,rfl,hC,ok,eD,hz,aF,be,q⟩:=h
   obtain⟨a5,aY,aZ,us,Gs,Es,ts,qt,qs,eN,N3⟩:=hC.net;obtain⟨a6,o,aG,b1,a7,b2,b3⟩:=hC.tab
   refine⟨_,(Ar (AN (i:=4) Mk.nd (Cg Ae))
    (Ar (Cz Cu rfl (Dg (pv 2)) (BP (n:=3) rfl (AA (Av (i:=5) Mk.nd) (AA (Av (i:=6) Mk.nd) (AA (Av (i:=7) Mk.nd) BO)))) (Aw (Cz Cu rfl (Od LK rfl an.b_enumerate (Ab (An Ao (An Ao (An Ao (pv 0) Ah) (pv 6)) Ah) Ae)) (BP (n:=2) rfl (AA (Av (i:=8) Mk.nd) (AA (Av (i:=9) Mk.nd) BO))) (Aw (Bb (PW.pt (Gx (Bp B8 (An Ao (pv 9) Ah) (pv 3) (Bj _)) (GU (F6 (A3 aE (Ab (pv 1) (Ab (pv 7) (Ab (An Ao (pv 9) Ah) Ae)))))))) (Aw (Eo (DQ Ec Fk Fl Fp (pv 4) (Ab (AZ Lr (pv 5) (Cg (Ab (AQ (Ab (pv 6) (Ab AW (Ab (pv 8) Ae)))) Ae))) Ae)))) Ba)))))
    (Aw (AI (CH (Vp HL hr.units (by decide)) an.b_sorted (Ab (pv 4) Ae)))))),?_⟩
   rfl';refine⟨by decide,λP hP=>?_⟩;obtain⟨U,aH,s1,ar⟩:=new_at (o:=.lst []) hP;rw[<-aH];have bf:D≠P:=AV eD hP;have O:∀{d:Hp},Keeps (·=P) U d->Ac H d:=λk x o e=>k.at_ _ _ (s1 _ _ e) (AV e hP)
   refine⟨⟨_,Af.of (s1 _ _ eD)⟩,Fn (xs:=v.map λz=>V.ref z.1) (λi σ d=>∃u5 u6 u7 A B a,σ=[some (.ref nt),some (.ref t),some (.ref D),some (.str x),some (.ref P),u5,u6,u7,A,B]/\Keeps (·=P) U d/\d P=some (.lst (a.map λz:Addr×List As=>V.ref z.1))/\(∀z∈a,BW (λl=>H l=none/\l≠P) d z.1 z.2)/\a.map (·.2)=EA W x ((v.map (·.2)).take i))
    ⟨none,none,none,none,none,[],rfl,Keeps.refl λx o m e=>by rw[m,ar] at e;exact⟨_,(BS e).symm⟩,ar,λz hz=>by simp at hz,by rw[Ea];rfl⟩ (λi σ d ζ af=>by obtain⟨_,_,_,_,_,_,_,k,_⟩:=af;exact Af.of (O k _ _ eD)) ?_ ?_⟩
   rotate_left;refine λσ a8 E=>AL λJ b=>?_;obtain⟨u5,u6,u7,A,B,a,rfl,S,ag,T,u⟩:=E;refine b ?_;clear b;rw[Ak,<-Ak (f:=(·.2)),De] at u;have lw:a.length<=62:=by have:=Bq List.length u;rw[Ak] at this;lia
   refine⟨P,a.map λz=>(V.ref z.1,z.2),rfl,?_,by rw[Ak];lia,λy g=>?_,λD2 aI M hs ah=>?_⟩;rw[El];exact Af.of ag;obtain⟨z,ai,rfl⟩:=AF.mp g;exact(T z ai).dt;obtain⟨vs,r1,r2,r3,r4⟩:=Sr (c:=BV) M;have s3:=AJ (o:=.lst (aI.map (·.1))) ah;rw[r1] at s3 ⊢;rw[r2] at hs;have r:=O S;refine q D2 vs _ (r.free ah) (r.trans s3) Aa (λz ai=>?_) ⟨by rw[<-u];exact r3,hs⟩;refine((T z (r4 z ai)).mono' ?_).same s3;intro x o ex hx;exact⟨hx.1,λy=>by rw[y,ah] at ex;cases ex⟩;refine λi y σ a8 g E=>AL λJ b=>?_;obtain⟨u5,u6,u7,A,B,a,rfl,S,ag,T,u⟩:=E;refine b ?_;clear b;obtain⟨z,au,rfl⟩:=getm g;have mz:=Bk au;have aa:=aF z mz;have r:=O S;refine AL λJ b=>?_;obtain⟨l,C,aA,aB,e3,_⟩:=hz z mz;refine b ?_;clear b;have e1:=r _ _ aA;have aJ:=aa.rng z.2.2.1 (by unfold AY;simp);have aK:=aa.st;obtain⟨n,X⟩:=Co aJ.1;obtain⟨k,hk⟩:=Co aK.1;have aL:n<W.ss.length:=(by lia);have aM:k<W.sts.length:=(by lia);refine AL λJ b=>?_;obtain⟨aq,ba,E1,aC,bb,bc,g4,⟨c0,_,⟨tE,c1,c2⟩⟩⟩:=N3.sc.get aL;refine b ?_;clear b;have av:=AB aM;have eT:Et W z.2.2.1=W.ss[n].2:=by rw[X];exact f8 g4
   have eE:FV W z.2.2.2=W.sts[k].2:=by rw[hk];exact J9 av
   have aN:AS (us.map V.ref) z.2.2.1=some (.ref aq):=by rw[X];exact A1 (by rw[AM,aC];rfl)
   have aw:(v.map (·.2))[i]?=some z.2:=by rw[AM,au];rfl
   have bg:C.length<=100:=by
    have:=LQ W.ss.length (AY z.2) aa.nd aa.rng;rw[show(AY z.2).length=z.2.1.length+1 by unfold AY;simp] at this;have:=ok.s5;rw[e3.len];lia
   have aO:=OH (W:=W) (x:=x) (bs:=v.map (·.2)) (i+1);rw[W5 aw,AO] at aO;refine⟨_,Al.of e1,rfl,?_⟩;refine Or.inr (Or.inl ⟨_,.ref a5,Al.of (r _ _ eN),rfl,Or.inl ⟨_,.ref aq,Af.of (r _ _ N3.sc.top),aN,Or.inr (Or.inl ⟨_,.ref E1,Al.of (r _ _ c0),rfl,E1,rfl,⟨_,r _ _ c1⟩,?_⟩)⟩⟩)
   refine Of LK (xs:=tE.map V.ref) (λj σ d=>∃A B a,σ=[some (.ref nt),some (.ref t),some (.ref D),some (.str x),some (.ref P),some (.ref l),some (.int z.2.2.1),some (.int z.2.2.2),A,B]/\Keeps (·=P) U d/\d P=some (.lst (a.map λz:Addr×List As=>V.ref z.1))/\(∀z∈a,BW (λl=>H l=none/\l≠P) d z.1 z.2)/\a.map (·.2)=EA W x ((v.map (·.2)).take i)++DI W z.2 x ((Et W z.2.2.1).take j) 0)
    ⟨_,_,a,rfl,S,ag,T,by rw[u,Ea];simp[DI]⟩ (λj σ d af=>by obtain⟨_,_,_,_,k,_⟩:=af;exact Af.of (O k _ _ c1)) ?_ ?_
   rotate_left;refine λσ H3 E=>AL λJ b=>?_;obtain⟨A,B,a,rfl,Y,aj,ak,Q⟩:=E;refine b ?_;clear b;refine⟨_,_,_,_,_,a,rfl,Y,aj,ak,?_⟩;rw[W5 aw,Q,Ak,c2.len,eT,De];refine λj y T' σ H3 g aP E=>AL λJ b=>?_;obtain⟨A,B,a,rfl,Y,aj,ak,Q⟩:=E;refine b ?_;clear b;obtain⟨tp,ax,rfl⟩:=getm g;have aQ:j<W.ss[n].2.length:=by rw[<-c2.len];exact(Bi.mp ax).1
   have M:=AB aQ;have ay:=c2.at_ j tp _ ax M;generalize W.ss[n].2[j]=p at M ay;obtain⟨H4,aR,Z,aS⟩:=new_at (o:=.tup [.int j,.ref tp]) aP;rw[<-aR];have aT:=O Y;have G:=aT.trans Z;have k4:Keeps (·=P) U H4:=Y.same Z;have R:=Z _ _ aj;have al:∀z∈a,BW (λl=>H l=none/\l≠P) H4 z.1 z.2:=λz h=>(ak z h).same Z;have a2:=Al.of (K:=K) (G _ _ ay)
   have az:DI W z.2 x ((Et W z.2.2.1).take (j+1)) 0=DI W z.2 x ((Et W z.2.2.1).take j) 0++FW W z.2 x p j:=by
    rw[D7,eT,M];show DI W z.2 x (W.ss[n].2.take j++[p]) 0=_;rw[Sq,Ek,Nat.zero_add,Nat.min_eq_left (by lia)]
   have skip:¬(p.2.1=x/\p.1∈FV W z.2.2.2)->a.map (·.2)=EA W x ((v.map (·.2)).take i)++DI W z.2 x ((Et W z.2.2.1).take (j+1)) 0:=λX=>by
    rw[az,Ka X,Eb,Q]
   have lw:a.length<100:=by
    have:=Bq List.length Q;rw[Ak,AO] at this;have I:=W6 W z.2 x (Et W z.2.2.1) j 0;lia
   refine⟨_,Al.of aS,rfl,?_⟩;refine Or.inr (Or.inl ⟨_,.str p.2.1,a2,rfl,rfl,rfl,Ap (λI=>?_) (λI=>Bm ?_)⟩);rotate_left;exact⟨_,_,a,rfl,k4,R,al,skip λh=>I (A5 (by rw[h.1]))⟩;have I:p.2.1=x:=V.str.inj (Be I);refine Or.inr (Or.inl ⟨_,.str p.1,a2,rfl,t,a6,o,aG,W.sts,z.2.2.2,k,_,p.1,rfl,hk,G.seqT b1,⟨a7,G.seq b2,b3.same G⟩,av,rfl,Ap (λN=>?_) (λN=>?_)⟩);rotate_left;exact⟨_,_,a,rfl,k4,R,al,skip λh=>N (Ep (by rw[<-eE];exact h.2))⟩;have N:p.1∈FV W z.2.2.2:=by rw[eE];exact B7.mp N
   refine⟨Or.inl ⟨rfl,_,Af.of R⟩,Gj,λm aU=>?_⟩;obtain⟨H5,aV,s5,aD⟩:=new_at (o:=.tup [.int z.2.2.1,.str "told",.int j]) aU;rw[<-aV];refine⟨HB,λa9 hM=>?_⟩;obtain⟨H6,aW,s6,eM⟩:=new_at (o:=.lst [.ref m]) hM;rw[<-aW];have ab:=s5.trans s6;refine⟨l,a9,_,_,rfl,rfl,ab _ _ (G _ _ aB),eM,by rw[Ak];exact CU (BL (by show C.length+1<=1000;lia)),λL hL=>?_⟩;have aX:H L=none:=(G.trans ab).free hL;have a0:L≠P:=λy=>by rw[y,ab _ _ R] at hL;cases hL
   have s7:=AJ (o:=.lst (C.map V.ref++[.ref m])) hL;have eL:(upd H6 L (.lst (C.map V.ref++[.ref m]))) L=some (.lst ((C++[m]).map V.ref)):=by rw[Aa,A8];rfl
   generalize upd H6 L (.lst (C.map V.ref++[.ref m]))=H7 at s7 eL ⊢;have ae:=ab.trans s7;have a1:=ae _ _ R;have k7:Keeps (·=P) H7 (upd H7 P (.lst (a.map (λz=>V.ref z.1)++[.ref L]))):=Keeps.one a1;refine⟨_,a1,by rw[Ak];exact BL (by lia),?_⟩;refine⟨_,_,a++[(L,z.2.1++[(z.2.2.1,("told" : Str),(j:Int))])],rfl,(k4.same ae).set rfl,by rw[Aa,A8];rfl,λy g=>?_,?_⟩;rcases BR.mp g with g|g;exact((al y g).same ae).keeps k7 λx hx=>hx.2;rw[A9.mp g];refine⟨C++[m],k7.at_ _ _ eL a0,?_,aX,a0⟩;exact RT.snoc ((e3.same (G.trans ae)).keeps k7) (k7.tup ((s6.trans s7) _ _ aD));rw[az,ME I N,A8,Q,FJ];rfl
inductive CF (K:Aj) (vs:List V) (H:Hp) (Q:VK):Prop where
 |mk (t:Addr) (F:Addr->Prop) (sts:List CA) (inn:Int) (ord:A') (h0:vs=[.ref t]) (h1:Fq K F H t sts inn ord) (h2:ord.length<=40) (h3:∀(p:Addr)(H':Hp),H p=none->Ac H H'->HN H' p ord->Q (.ref p) H'):CF K vs H Q
def gC (K:Aj):Sp:=λvs H Q ζ=>CF K vs H Q
abbrev Qt(P w K mg base):=BG P w K mg base "better_pairs" 1 ["table"] (gC K)
theorem gD(B:BH mg)(F:Bv K "better_pairs" "better_pairs" OZ f fd)(I:mg "better_pairs" = some (.ref f)):Qt P w K mg base:=by
 refine B0 F I ZJ (λJ H Q E h=>?_) (λaj af al s H J Q E L h=>?_);obtain⟨t,F,U,W,ord,rfl,_⟩:=h;rfl;obtain⟨t,F,U,W,ord,rfl,M,ai,q⟩:=h;obtain⟨ta,o,ak,X,N,_,_,_,_,_,v,TO⟩:=M.ex;refine⟨_,(Aw (AI (I7 (YO rfl (LY L)) B.b_dict (Ab (Ha rfl Ce (Dg (An Ao (pv 0) Ah)) (λζ ζ ζ ζ ζ=>(Av (i:=0) Ce.nd)) (λζ ζ ζ ζ ζ=>GB) (λζ ζ ζ ζ ζ=>(AQ (Ab (pv 0) (Ab G7 Ae))))) Ae)))),?_⟩;rfl'
 refine Or.inr (Or.inl ⟨_,.ref o,Al.of N,rfl,⟨_,Af.of v⟩,LF (xs:=X.map V.ref) (λP i a g=>Ac H g/\g P=some (.lst a)/\a.length=i/\Fc g a ((ord.take i).map λp=>(Fv p,V.bl true)))
  (λP j=>⟨AJ j,Aa,rfl,.nil⟩) (λP i a g Z=>by obtain⟨s,_⟩:=Z;exact Af.of (s _ _ v)) (λP i ag a Y RR j O n k=>?_) (λP a Y j n=>?_)⟩)
 obtain⟨c,r,d,m⟩:=n;obtain⟨x,C,rfl⟩:=getm O;have aa:i<ord.length:=by rw[<-TO.len];exact(Bi.mp C).1
 have D:=AB aa;have ab:=c _ _ (TO.at_ i _ _ C D);refine⟨BA,λT R=>?_⟩;obtain⟨y,ae,l,S⟩:=new_at (o:=.tup [.ref x,.bl true]) R;rw[<-ae];have G:=l _ _ r
 have u:∀b xs,y b=some (.tup xs)->(upd y P (.lst (a++[.ref T]))) b=some (.tup xs):=λb xs e=>by
  rw[AH (Nf e G (λz=>nomatch z))];exact e
 refine k _ _ G (by rw[d];exact BL (by lia)) ⟨λb ah e=>?_,Aa,by rw[AO,d];rfl,?_⟩;rw[AH (AV e j)];exact l _ _ (c _ _ e);rw[D7,D,A8];exact Paired.snoc ((m.tups λb xs e=>l _ _ e).tups u) ⟨T,x,rfl,u _ _ S,u _ _ (l _ _ ab)⟩;obtain⟨c,r,d,m⟩:=n;rw[Ak,TO.len,De] at m;rw[Ak,TO.len] at d;refine⟨P,a,_,rfl,r,by rw[d];exact BL (by lia),m,λp A=>?_⟩;exact q p _ (c.free A) (c.trans (AJ A)) ⟨_,Aa,YY⟩
inductive Fg (K:Aj) (vs:List V) (H:Hp) (Q:VK):Prop where
 |mk (D:Addr) (F:Addr->Prop) (zs:List (Addr×List As)) (h0:vs=[.ref D]) (h1:H D=some (.lst (zs.map λz=>V.ref z.1))) (h2:(∀z∈zs,BW F H z.1 z.2)) (h3:zs.length<=100) (h4:∀(d:List As->Addr)(c:List As->As->Addr)(H':Hp),Ac H H'->Bd dW H' (A7 (zs.map (·.2))) d c->(∀p,Ei (A7 (zs.map (·.2))) p->H (d p)=none)->Q (.ref (d [])) H'):Fg K vs H Q
def gE (K:Aj):Sp:=λvs H Q ζ=>Fg K vs H Q
abbrev Qv(P w K mg base):=BG P w K mg base "tree_of" 1 ["ways"] (gE K)
def gF(ao:BH mg)(F:Bv K "tree_of" "tree_of" Q6 f fd)(l:mg "tree_of" = some (.ref f)):Qv P w K mg base:=by
 refine B0 F l Ml (λvs H aq ar h=>?_) (λaC a8 aF s H vs aq ar hr h=>?_);obtain⟨D,F,a,rfl,_⟩:=h;rfl
 . obtain⟨D,F,a,rfl,eD,hz,lz,q⟩:=h
   refine⟨_,(Ar (AN (i:=1) Ml.nd RN)
    (Ar (Cz Cu rfl (Od LK rfl ao.b_enumerate (Ab (pv 0) Ae)) (BP (n:=2) rfl (AA (Av (i:=2) Ml.nd) (AA (Av (i:=3) Ml.nd) BO))) (Ar (AN (i:=4) Ml.nd (pv 1))
     (Aw (Cz Cu rfl (Dg (pv 3)) (Av (i:=5) Ml.nd) (Aw (AN (i:=4) Ml.nd (An Ao (DQ PySem.F.plainAttrs_dict PySem.F.slot_dict_setdefault PySem.F.type_dict_setdefault (YH (Pd hr)) (pv 4) (Ab (pv 5) (Ab (AQ (Ab (pv 2) (Ab RN Ae))) Ae))) Ah)))))))
    (Aw (AI (pv 1))))),?_⟩
   rfl';refine λt ht=>?_;obtain⟨au,aw,s1,et⟩:=new_at (o:=.dT []) ht;rw[<-aw]
   refine⟨D,rfl,⟨_,s1 _ _ eD⟩,Of LK (xs:=a.map λz=>V.ref z.1) (λi σ A=>∃(W X Y B:Option V)(d:List As->Addr)(c:List As->As->Addr),σ=[some (.ref D),some (.ref t),W,X,Y,B]/\Ac H A/\d []=t/\Bd dW A (A7 ((a.map (·.2)).take i)) d c/\∀p,Ei (A7 ((a.map (·.2)).take i)) p->H (d p)=none)
    ⟨none,none,none,none,λζ=>t,λζ ζ=>t,rfl,s1,rfl,?_,λp v=>ht⟩ (λi σ A aa=>by obtain⟨_,_,_,_,_,_,_,s,_⟩:=aa;exact Af.of (s _ _ eD)) ?_ ?_⟩
   have nil:∀p,Ei (A7 ((a.map (·.2)).take 0)) p->p=[]:=λp v=>by
    rcases v with h|⟨kw,h,_⟩;exact h;rw[Ea] at h;cases h
   refine⟨λp v=>?_,λp m k l=>?_,λp p' v ax ζ=>(nil p v).trans (nil p' ax).symm⟩;show au t=some (.dT (DN _ _ p));rw[et,Ea];rfl;rw[Ea] at l;cases l;rotate_left;refine λσ ag I=>AL λO r=>?_;obtain⟨W,X,Y,B,d,c,rfl,Z,rfl,Q,R⟩:=I;refine r ?_;clear r;rw[Ak,<-Ak (f:=(·.2)),De] at Q R;exact q d c ag Z Q R;refine λi y a9 σ ag hy hT I=>AL λO r=>?_;obtain⟨W,X,Y,B,d,c,rfl,Z,hd,Q,R⟩:=I;refine r ?_;clear r;refine ID ?_;intro Nx Cy;obtain⟨z,ab,rfl⟩:=getm hy;have mz:=Bk ab;have aD:=(Bi.mp ab).1;have ay:(a.map (·.2))[i]?=some z.2:=by rw[AM,ab];rfl
   obtain⟨H3,az,s3,eT⟩:=new_at (o:=.tup [.int (i:Int),.ref z.1]) hT;rw[<-az];have aj:=Z.trans s3;obtain⟨ms,ah,f3,_⟩:=(hz z mz).same aj;refine⟨_,Al.of eT,rfl,?_⟩
   refine⟨⟨_,Af.of ah⟩,Fn (xs:=ms.map V.ref) (λj σ A=>∃(B:Option V)(d:List As->Addr)(c:List As->As->Addr),σ=[some (.ref D),some (.ref t),some (.int (i:Int)),some (.ref z.1),some (.ref (d (z.2.take j))),B]/\Ac H A/\RT FT A ms z.2/\A z.1=some (.lst (ms.map V.ref))/\d []=t/\Bd dW A (A7 ((a.map (·.2)).take i)++[(i,z.2.take j)]) d c/\∀p,Ei (A7 ((a.map (·.2)).take i)++[(i,z.2.take j)]) p->H (d p)=none)
    ⟨B,d,c,by rw[Ea,hd];rfl,aj,f3,ah,hd,by rw[Ea];exact(Q.sameW s3).begin,λp v=>R p ?_⟩ (λj σ A ζ aa=>by obtain⟨_,_,_,_,_,_,e,_⟩:=aa;exact Af.of e) ?_ ?_⟩
   rw[Ea] at v;rcases v with h|⟨kw,h1,L⟩;exact .inl h;rcases BR.mp h1 with y|y;exact .inr ⟨kw,y,L⟩;rw[A9.mp y] at L;exact .inl (List.prefix_nil.mp L);rotate_left;refine λσ H4 I=>AL λO r=>?_;obtain⟨B,d,c,rfl,M,_,_,T,C,J⟩:=I;refine r ?_;clear r;rw[Ak,f3.len,De,<-Y0 ay] at C J;exact⟨_,_,_,_,d,c,rfl,M,T,C,J⟩;refine λj y σ H4 hy I=>AL λO r=>?_;obtain⟨B,d,c,rfl,M,S,e4,T,C,J⟩:=I;refine r ?_;clear r;refine ID ?_;intro Nx Cy;obtain⟨mk,ak,rfl⟩:=getm hy;have hj:j<z.2.length:=by rw[<-f3.len];exact(Bi.mp ak).1
   have ae:=AB hj;have ai:=S.at_ j _ _ ak ae;have E:z.2.take (j+1)=z.2.take j++[z.2[j]]:=by rw[D7,ae];rfl
   generalize z.2[j]=m at ae ai E;generalize hg:z.2.take j=g at C J E ⊢;have al:Ei (A7 ((a.map (·.2)).take i)++[(i,g)]) g:=.inr ⟨_,D6 _ (A9.mpr rfl),List.prefix_refl g⟩;have eB:=C.dct g al;have aB:=SD (A7 ((a.map (·.2)).take i)++[(i,g)]) g
   have aE:(A7 ((a.map (·.2)).take i)++[(i,g)]).length<=101:=by
    unfold A7;rw[AO,Ak,List.length_zipIdx,Ek,Ak,Ew];lia
   have lr:(DN (A7 ((a.map (·.2)).take i)++[(i,g)]) c g).length<sizeLine:=by unfold DN;rw[Ak];exact BL (by lia)
   refine⟨Or.inr (Or.inr (Or.inl ⟨rfl,Or.inr ⟨_,eB⟩⟩)),λe he=>?_⟩;have s5:=AJ (o:=.dT []) he;have ee:(upd H4 e (.dT [])) e=some (.dT []):=Aa;have an:=he;generalize upd H4 e (.dT [])=H5 at s5 ee ⊢;refine⟨BA,λT5 a0=>?_⟩;obtain⟨H6,a1,s6,U⟩:=new_at (o:=.tup [.int (i:Int),.ref e]) a0;rw[<-a1];have u:=s5.trans s6;refine⟨d g,_,Gb m,mk,.ref T5,rfl,rfl,u _ _ eB,u _ _ ai,lr,λaA G=>?_,λG=>?_⟩;rw[Oa] at G;by_cases l:m∈(TreeM.keysAt (A7 ((a.map (·.2)).take i)++[(i,g)]) g).map (·.1);rw[Au l] at G;cases G;obtain⟨⟨m',k⟩,hk,rfl⟩:=AF.mp l;have a2:=C.tup g m' k hk;refine Or.inr (Or.inl ⟨_,.ref (d (g++[m'])),Al.of (u _ _ a2),rfl,?_⟩);refine⟨some (.ref mk),d,c,by rw[E];rfl,M.trans u,S.same u,u _ _ e4,T,by rw[E];exact(C.sameW u).stay l,λp v=>J p ((Py l).mp (by rw[E] at v;exact v))⟩;rw[At l] at G;cases G;have l:m∉(TreeM.keysAt (A7 ((a.map (·.2)).take i)++[(i,g)]) g).map (·.1):=λl=>by rw[Oa,Au l] at G;cases G
   refine AL λO r=>?_;obtain⟨d',c',T7,a3,a4,a5⟩:=C.grow l an J (M.free an) u (s6 _ _ ee) U;refine r ?_;clear r;have a6:∀{b o},H b=some o->b≠d g:=λ{b o}N z=>by rw[z,J g al] at N;cases N
   have s7:Ac H (upd H6 (d g) (.dT (Ci (DN (A7 ((a.map (·.2)).take i)++[(i,g)]) c g) (Gb m) (.ref T5)))):=λb o N=>by
    rw[AH (a6 N)];exact u _ _ (M _ _ N)
   have af:=u _ _ eB;have a7:T5≠d g:=λy=>by rw[y,af] at U;cases U
   refine Or.inr (Or.inl ⟨_,.ref e,Al.of (by rw[AH a7];exact U),rfl,?_⟩);refine⟨some (.ref mk),d',c',by rw[E,a3];rfl,s7,⟨S.len,λn av b h1 L=>?_⟩,?_,a5.trans T,by rw[E];exact T7,by rw[E];exact a4⟩;have x:=u _ _ (S.at_ n av b h1 L);rw[AH (Nf x af (λz=>nomatch z))];exact x;have x:=u _ _ e4;rw[AH (Nf x af (λz=>nomatch z))];exact x
inductive EI (K:Aj) (vs:List V) (H:Hp) (Q:VK):Prop where
 |mk (nt S T R mk:Addr) (us Gs Es:List Addr) (ss:List Bf) (m:As) (h0:vs=[.ref nt,.ref mk]) (h1:Al K H nt [.ref S,.ref T,.ref R]) (h2:CI H S us Gs Es ss) (h3:Al K H mk (FT m)) (h4:Eh ss m) (h5:Q (.str (Eu ss m)) H):EI K vs H Q
def gH (K:Aj):Sp:=λvs H Q ζ=>EI K vs H Q
abbrev TR(P w K mg base):=BG P w K mg base "label_at" 1 ["net", "mark"] (gH K)
def gI(aa:BH mg)(F:Bv K "label_at" "label_at" Q7 f fd)(t:mg "label_at" = some (.ref f)):TR P w K mg base:=by
 refine B0 F t M5 (λD H Q E h=>?_) (λah ab ai s H D Q E hr h=>?_);obtain⟨G,S,T,R,mk,us,I,J,ss,m,rfl,_⟩:=h;rfl;obtain⟨G,S,T,R,mk,us,I,J,ss,m,rfl,L,A,t,⟨n,k,Z,v,g,j,B⟩,q⟩:=h;have X:n<ss.length:=(Bi.mp j).1;obtain⟨u,ae,E1,M,af,ag,C,⟨N,⟨l,O,o⟩,⟨p,U,r⟩⟩⟩:=A.get X;rw[j] at C;have W:=BS C;rw[<-W] at o r;have Y:AS (us.map V.ref) m.1=some (.ref u):=by rw[v];exact A1 (by rw[AM,M];rfl)
 refine⟨_,(Ar (DJ (pv 1) (BP (n:=3) rfl (AA (Av (i:=2) M5.nd) (AA (Av (i:=3) M5.nd) (AA (Av (i:=4) M5.nd) BO)))))
  (Ar (DJ (An Ao (An Ao (pv 0) Ah) (pv 2)) (BP (n:=2) rfl (AA (Av (i:=5) M5.nd) (AA (Av (i:=6) M5.nd) BO))))
  (Ar (Bb (Bp B8 (pv 3) AW (Bj _)) (Aw (AI (An Ao (An Ao (pv 5) (pv 4)) Ah))) Ba)
  (Aw (AI (An Ao (An Ao (pv 6) (pv 4)) Ah)))))),?_⟩
 rfl';refine⟨_,t,rfl,?_⟩;refine Or.inr (Or.inl ⟨_,.ref S,L,rfl,Or.inl ⟨_,.ref u,Af.of A.top,Y,?_⟩⟩);refine⟨_,Al.of N,rfl,?_⟩;refine⟨rfl,rfl,Ap (λh=>?_) (λh=>?_)⟩;have b:m.2.1=("step" : Str):=V.str.inj (Be h);rcases B with⟨_,a⟩|⟨e,_⟩;have c:=AB a;rw[VE v g j b c] at q;have d:l[k]?=some (l[k]'(by rw[o.len];exact a)):=AB _;have x:=o.at_ _ _ _ d c;have y:AS (l.map V.ref) m.2.2=some (.ref (l[k]'(by rw[o.len];exact a))):=by rw[g];exact A1 (by rw[AM,d];rfl)
 exact Or.inl ⟨_,_,Af.of O,y,Or.inr (Or.inl ⟨_,.str Z.1[k].1,Al.of x,rfl,q⟩)⟩;exact absurd (e.symm.trans b) Ps;have b:m.2.1≠("step" : Str):=λz=>h (A5 (by rw[z]));rcases B with⟨e,_⟩|⟨_,a⟩;exact absurd e b;have c:=AB a;rw[VF v g j b c] at q;have d:p[k]?=some (p[k]'(by rw[r.len];exact a)):=AB _;have x:=r.at_ _ _ _ d c;have y:AS (p.map V.ref) m.2.2=some (.ref (p[k]'(by rw[r.len];exact a))):=by rw[g];exact A1 (by rw[AM,d];rfl)
 exact Or.inl ⟨_,_,Af.of U,y,Or.inr (Or.inl ⟨_,.str Z.2[k].1,Al.of x,rfl,q⟩)⟩
def W7{bet:As->As->Bool}{ws:TreeM.Ws As}{a:List As}{m:As}{t:List As}:TreeM.gat bet ws a (m::t)=((TreeM.keysAt ws a).filter λb=>bet b.1 m).map (·.2)++TreeM.gat bet ws (a++[m]) t:=rfl
theorem W8{bet:As->As->Bool}{ws:TreeM.Ws As}:∀{b a:List As},(TreeM.gat bet ws a b).length<=b.length*ws.length
 |[],_=>DP _
 |m::t,a=>by
   rw[W7,AO,Ak,Em];have d:=QL (λc:As×Nat=>bet c.1 m) (TreeM.keysAt ws a);have e:=SD ws a;have f:=W8 (bet:=bet) (ws:=ws) (b:=t) (a:=a++[m]);rw[Nat.add_mul,Nat.one_mul];lia
inductive C8 (K:Aj) (vs:List V) (H:Hp) (Q:VK):Prop where
 |mk (nt S T R bp l:Addr) (us Gs Es:List Addr) (ss:List Bf) (ord:A') (ws:TreeM.Ws As) (d:List As->Addr) (c:List As->As->Addr) (F:Addr->Prop) (w:List As) (h0:vs=[.ref nt,.ref bp,.ref (d []),.ref l]) (h1:H nt=some (.tup [.ref S,.ref T,.ref R])) (h2:CI H S us Gs Es ss) (h3:HN H bp ord) (h4:Bd dF H ws d c) (h5:ws.length<=100) (h6:(∀kw∈ws,∀m∈kw.2,Eh ss m)) (h7:BW F H l w) (h8:GD ss w) (h9:∀H',Ac H H'->Q (Px ((TreeM.gat (Cd ss ord) ws [] w).map λk:Nat=>(k:Int))) H'):C8 K vs H Q
def gJ (K:Aj):Sp:=λvs H Q ζ=>C8 K vs H Q
abbrev Qw(P w K mg base):=BG P w K mg base "first_hider" 2 ["net", "better", "tree", "way"] (gJ K)
def gK(a3:BH mg)(aq:TR P w K mg base)(F:Bv K "first_hider" "first_hider" Q8 f fd)(B:mg "first_hider" = some (.ref f)):Qw P w K mg base:=by
 refine B0 F B Mm (λvs H a4 a5 h=>?_) (λaP aL aT s H vs a4 a5 hr h=>?_);obtain⟨L,S,T,aa,O,l,us,Gs,Es,ss,ord,ws,d,c,F,w,rfl,_⟩:=h;rfl
 . obtain⟨L,S,T,aa,O,l,us,Gs,Es,ss,ord,ws,d,c,F,w,rfl,eN,SC,BD,TT,a7,a8,⟨ms,el,rl,_⟩,ok,q⟩:=h
   obtain⟨kb,eb,hb⟩:=BD
   refine⟨_,(Ar (AN (i:=4) Mm.nd (Cg Ae))
    (Ar (AN (i:=5) Mm.nd (pv 2))
    (Ar (Cz Cu rfl (Dg (pv 3)) (Av (i:=6) Mm.nd) (Ar (AN (i:=7) Mm.nd (A3 aq (Ab (pv 0) (Ab (pv 6) Ae))))
     (Ar (Cz Cu rfl (Jy (pv 5)) (Av (i:=8) Mm.nd) (Aw (Bb (Bp (X0 (Pd hr)) (AQ (Ab (A3 aq (Ab (pv 0) (Ab (pv 8) Ae))) (Ab (pv 7) Ae))) (pv 1) (by with_unfolding_all rfl)) (Aw (Eo (DQ Ec Fk Fl Fp (pv 4) (Ab (An Ao (Jf (Pd hr) (pv 5) (pv 8) (λζ ζ=>rfl)) Ah) Ae)))) Ba)))
     (Aw (AN (i:=5) Mm.nd (An Ao (XJ (Pd hr) (pv 5) (pv 6) (AQ (Ab Ah (Ab RN Ae))) ⟨rfl,rfl,rfl,rfl⟩) Ah))))))
    (Aw (AI (Jz rfl (by rfl) a3.b_min (Ab (pv 4) Ae))))))),?_⟩
   rfl';refine⟨by decide,λN X=>?_⟩;obtain⟨aM,a9,s1,aA⟩:=new_at (o:=.lst []) X;rw[<-a9];refine Cj ?_;cbv;refine Cj ?_;cbv
   refine⟨⟨_,Af.of (s1 _ _ el)⟩,Fn (xs:=ms.map V.ref) (λj σ n=>∃(a:Addr)(u6 u7 C:Option V)(ns:List Nat),σ=[some (.ref L),some (.ref O),some (.ref (d [])),some (.ref l),some (.ref N),some (.ref a),u6,u7,C]/\Ac H n/\n N=some (.lst ((ns.map λk:Nat=>(k:Int)).map V.int))/\ns++TreeM.gat (Cd ss ord) ws (w.take j) (w.drop j)=TreeM.gat (Cd ss ord) ws [] w/\a≠N/\((Ei ws (w.take j)/\a=d (w.take j))\/(¬Ei ws (w.take j)/\H a=none/\Rd n a (.dT []))))
    ⟨d [],none,none,none,[],rfl,s1,aA,rfl,?_,.inl ⟨.inl rfl,rfl⟩⟩ (λj σ n ζ af=>by obtain⟨_,_,_,_,_,_,s,_⟩:=af;exact Af.of (s _ _ el)) ?_ ?_⟩
   obtain⟨o,x⟩:=TT.dct [] (.inl rfl);exact AV x X;rotate_left;refine λσ Y ag=>AL λNz R=>?_;obtain⟨a,u6,u7,C,ns,rfl,A,ah,u,_⟩:=ag;refine R ?_;clear R;rw[Ak,rl.len,List.drop_length] at u;have u:ns=_:=(Eb ns).symm.trans u;subst u;exact⟨N,_,rfl,ah,q Y A⟩;refine λj aN σ Y hy ag=>AL λNz R=>?_;obtain⟨a,u6,u7,C,ns,rfl,A,ah,u,ar,ai⟩:=ag;refine R ?_;clear R;refine ID ?_;intro Nx Cy;obtain⟨mk,au,rfl⟩:=getm hy;have hj:j<w.length:=by rw[<-rl.len];exact(Bi.mp au).1
   have aj:=AB hj;have ae:=rl.at_ j _ _ au aj;have av:=ok.1 _ (Dk hj);have D:w.take (j+1)=w.take j++[w[j]]:=by rw[D7,aj];rfl
   have dk:w.drop j=w[j]::w.drop (j+1):=Ki hj;rw[dk,W7] at u;generalize w[j]=m at aj ae D av u;generalize aQ:w.take j=g at D u ai ⊢;refine⟨L,S,T,aa,mk,us,Gs,Es,ss,m,rfl,Al.of (A _ _ eN),SC.same A,Al.of (A _ _ ae),av,?_⟩;refine Cj ?_;cbv
   have aB:Rd Y a (.dT (DN ws c g)):=by
    rcases ai with⟨v,r⟩|⟨v,_,r⟩;obtain⟨o,x⟩:=TT.dct g v;rw[r];exact .inr ⟨o,A _ _ x⟩;unfold DN;rw[VS v];exact r
   refine Lz (λσ' n=>∃(C:Option V),σ'=[some (.ref L),some (.ref O),some (.ref (d [])),some (.ref l),some (.ref N),some (.ref a),some (.ref mk),some (.str (Eu ss m)),C]/\Ac H n/\n N=some (.lst (((ns++((TreeM.keysAt ws g).filter λE=>Cd ss ord E.1 m).map (·.2)).map λk:Nat=>(k:Int)).map V.int))/\Rd n a (.dT (DN ws c g))) ?_ (λN' aC=>?_)
   case refine_2 =>
    refine⟨a,_,rfl,aB,λo G=>?_⟩
    have Q:Ac H (upd Y a (.frz o (.dT (DN ws c g)))):=λb a6 e=>by
     by_cases aw:b=a;subst aw;rw[Aa];rcases ai with⟨v,r⟩|⟨_,r,_⟩;obtain⟨o',x⟩:=TT.dct g v;rw[<-r] at x;have x2:=A _ _ x;rcases G with G|G;rw[x2] at G;cases G;rw[x2] at G;cases G;rw[x] at e;exact e;rw[e] at r;cases r;rw[AH aw];exact A _ _ e
    have M:(upd Y a (.frz o (.dT (DN ws c g)))) N=_:=(AH (Ne.symm ar)).trans ah;have ax:(upd Y a (.frz o (.dT (DN ws c g)))) a=some (.frz o (.dT (DN ws c g))):=Aa;generalize upd Y a (.frz o (.dT (DN ws c g)))=H3 at Q M ax ⊢
    refine YJ (λi σ n=>∃(C:Option V),σ=[some (.ref L),some (.ref O),some (.ref (d [])),some (.ref l),some (.ref N),some (.ref a),some (.ref mk),some (.str (Eu ss m)),C]/\Ac H n/\n N=some (.lst (((ns++(((TreeM.keysAt ws g).take i).filter λE=>Cd ss ord E.1 m).map (·.2)).map λk:Nat=>(k:Int)).map V.int))/\n a=some (.frz o (.dT (DN ws c g))))
     ⟨_,rfl,Q,by rw[Ea];show H3 N=some (.lst (((ns++[]).map _).map _));rw[Eb];exact M,ax⟩ (λi σ n ζ af=>by obtain⟨_,_,_,_,e⟩:=af;exact e) ?_ ?_
    rotate_left;rintro σ H4 ⟨ak,rfl,I,J,U⟩;unfold DN at J;rw[Ak,De] at J;exact aC _ _ ⟨ak,rfl,I,J,.inr ⟨o,U⟩⟩;rintro i k aO b σ H4 hi ay ⟨ak,rfl,I,J,U⟩;unfold DN at hi;rw[AM] at hi;obtain⟨⟨x,ab⟩,hx,e⟩:=ER.mp hi;have e1:=Bq Prod.fst e;have e2:=Bq Prod.snd e;dsimp only at e1 e2;subst e1 e2;have mx:=Bk hx;have al:x∈(TreeM.keysAt ws g).map (·.1):=AF.mpr ⟨_,mx,rfl⟩
    have aD:Eh ss x:=by
     obtain⟨kw,v,r⟩:=TreeM.keysAt_mem.mp al;exact a8 kw v x (r.subset (by simp))
    have aE:=TT.tup g x ab mx
    have aR:Ei ws g:=by
     obtain⟨kw,v,r⟩:=TreeM.keysAt_mem.mp al;exact .inr ⟨kw,v,(MI g _).trans r⟩
    have az:(TreeM.keysAt ws g).take (i+1)=(TreeM.keysAt ws g).take i++[(x,ab)]:=by rw[D7,hx];rfl
    refine⟨L,S,T,aa,b,us,Gs,Es,ss,x,rfl,Al.of (I _ _ eN),SC.same I,Al.of ay,aD,?_⟩;refine⟨BA,λp hp=>?_⟩;obtain⟨H5,an,t,ep⟩:=new_at (o:=.tup [.str (Eu ss x),.str (Eu ss m)]) hp;rw[<-an];have y:=I.trans t;refine⟨O,_,rfl,EZ.t (k:=Fv (Eu ss x,Eu ss m)) (y _ _ eb) ep,rfl,?_⟩;rw[hb];refine Ap (λh=>?_) (λh=>?_);have ao:Cd ss ord x m=true:=(by simpa [Cd] using h);refine⟨Or.inl ⟨rfl,_,Af.of (t _ _ J)⟩,a,.ref (c g x),rfl,?_,Or.inr (Or.inl ⟨_,.int (ab:Int),Al.of (y _ _ aE),rfl,_,t _ _ J,?_,?_⟩)⟩;refine .inr ⟨_,Gb x,b,.inr ⟨o,t _ _ U⟩,rfl,t _ _ ay,?_⟩;rw[Oa,Au al];rw[Ak,Ak,AO,Ak];have v:=QL (λE:As×Nat=>Cd ss ord E.1 m) ((TreeM.keysAt ws g).take i);have r:=SD ws g;have h3:(((TreeM.keysAt ws g).take i)).length<=(TreeM.keysAt ws g).length:=by rw[Ek];lia
    have h4:=Bq List.length u;have h5:=W8 (bet:=Cd ss ord) (ws:=ws) (b:=w) (a:=[]);have h6:w.length*ws.length<=100*100:=Nat.mul_le_mul ok.2 a7;rw[AO] at h4;exact YB (by lia);refine⟨_,rfl,λb' a6 e=>?_,?_,?_⟩;rw[AH (AV e X)];exact y _ _ e;rw[Aa,az,QK,QJ,Au ao]
    simp
    rw[AH ar];exact t _ _ U;have ao:¬Cd ss ord x m=true:=(by simpa [Cd] using h);refine⟨_,rfl,y,?_,t _ _ U⟩;rw[az,QK,QJ,At ao];simpa using t _ _ J
   rintro σ' H3 ⟨ak,rfl,Q,M,a2⟩;have aS:((DN ws c g).map (·.1)).length=(DN ws c g).length:=Ak _;refine⟨a,rfl,.inr ⟨_,a2⟩,λe Z=>?_⟩;obtain⟨H4,aF,I,ee⟩:=new_at (o:=.dT []) Z;rw[<-aF];refine⟨BA,λT5 aG=>?_⟩;obtain⟨H5,an,t,aH⟩:=new_at (o:=.tup [.int 0,.ref e]) aG;rw[<-an];have W:=I.trans t;have y:=Q.trans W;have aK:Rd H5 a (.dT (DN ws c g)):=a2.elim (λz=>.inl (W _ _ z)) λ⟨o,z⟩=>.inr ⟨o,W _ _ z⟩;have aI:e≠N:=λz=>by rw[z,M] at Z;cases Z
   refine⟨_,.inr ⟨_,Gb m,mk,aK,rfl,y _ _ ae,rfl⟩,?_⟩;rw[Oa];have a0:(ns++((TreeM.keysAt ws g).filter λE=>Cd ss ord E.1 m).map (·.2))++TreeM.gat (Cd ss ord) ws (g++[m]) (w.drop (j+1))=TreeM.gat (Cd ss ord) ws [] w:=by rw[FJ];exact u
   by_cases B:m∈(TreeM.keysAt ws g).map (·.1);rw[Au B];obtain⟨⟨m',k⟩,hk,rfl⟩:=AF.mp B;have aJ:=TT.tup g m' k hk;have a1:=Fu.mpr B;refine Or.inr (Or.inl ⟨_,.ref (d (g++[m'])),Al.of (y _ _ aJ),rfl,?_⟩);refine⟨_,_,_,_,_,rfl,y,W _ _ M,by rw[D];exact a0,?_,.inl ⟨by rw[D];exact a1,by rw[D]⟩⟩;obtain⟨o,x⟩:=TT.dct _ a1;exact AV x X;rw[At B];refine Or.inr (Or.inl ⟨_,.ref e,Al.of aH,rfl,?_⟩);exact⟨_,_,_,_,_,rfl,y,W _ _ M,by rw[D];exact a0,aI,.inr ⟨λz=>B (Fu.mp (by rw[D] at z;exact z)),Q.free Z,.inl (t _ _ ee)⟩⟩
inductive DY (K:Aj) (vs:List V) (H:Hp) (Q:VK):Prop where
 |mk (nt S T R t D:Addr) (us Gs Es:List Addr) (ss:List Bf) (F G:Addr->Prop) (sts:List CA) (inn:Int) (ord:A') (zs:List (Addr×List As)) (h0:vs=[.ref nt,.ref t,.ref D]) (h1:H nt=some (.tup [.ref S,.ref T,.ref R])) (h2:CI H S us Gs Es ss) (h3:Fq K F H t sts inn ord) (h4:ord.length<=40) (h5:(∀x,(x,x)∉ord)) (h6:H D=some (.lst (zs.map λz=>V.ref z.1))) (h7:(∀z∈zs,BW G H z.1 z.2)) (h8:(∀z∈zs,GD ss z.2)) (h9:zs.length<=100) (h10:∀(P:Addr)(ys:List (Addr×List As))(H':Hp),H P=none->Ac H H'->H' P=some (.lst (ys.map λz=>V.ref z.1))->(∀z∈ys,BW (λl=>H l=none/\l≠P) H' z.1 z.2)->ys.map (·.2)=Dj ss ord (zs.map (·.2)) (zs.map (·.2))->Q (.ref P) H'):DY K vs H Q
def gL (K:Aj):Sp:=λvs H Q ζ=>DY K vs H Q
abbrev TU(P w K mg base):=BG P w K mg base "seen_ways" 3 ["net", "table", "ways"] (gL K)
def gM(ao:BH mg)(ax:Qt P w K mg base)(ay:Qv P w K mg base)(az:Qw P w K mg base)(F:Bv K "seen_ways" "seen_ways" O0 f fd)(J:mg "seen_ways" = some (.ref f)):TU P w K mg base:=by
 refine B0 F J Td (λa H aq ar h=>?_) (λa9 a6 aC s H a aq ar hr h=>?_);obtain⟨nt,S,T,aa,t,ab,us,Gs,Es,ss,F,G,af,ag,ord,d,rfl,_⟩:=h;rfl;obtain⟨nt,S,T,aa,t,ab,us,Gs,Es,ss,F,G,af,ag,ord,d,rfl,eN,SC,TB,av,irr,L,n,ah,lz,q⟩:=h
 refine⟨_,(Ar (AN (i:=3) Td.nd (A3 ax (Ab (pv 1) Ae)))
  (Ar (AN (i:=4) Td.nd (HM (A3 ay (Ab (pv 2) Ae))))
  (Aw (AI (Ha (te:=Pb (Jv K) (F8 (A0 0) Fo)) rfl C6 (Dg (pv 2)) (λζ ζ ζ ζ ζ=>(Av (i:=0) C6.nd)) (λζ ζ ζ ζ ζ=>(NN (Gf (GS (A3 az (Ab (pv 1) (Ab (pv 2) (Ab (pv 3) (Ab (pv 0) Ae))))))))) (λζ ζ ζ ζ ζ=>(I7 Ux ao.b_list (Ab (pv 0) Ae)))))))),?_⟩
 rfl';refine⟨t,F,af,ag,ord,rfl,TB,av,λbp a7 aA M BD=>?_⟩;refine⟨ab,G,d,rfl,M _ _ L,λz h=>(n z h).same M,lz,λau c a8 s2 T2 ai H3 p f4=>?_⟩;have s3:=p.same s2;have T3:=T2.frz ai p f4;have a0:=BD.same s3;clear T2 ai p f4 s2 BD;have j:=M.trans s3;have lw:(A7 (d.map (·.2))).length<=100:=by unfold A7;rw[Ak,List.length_zipIdx,Ak];exact lz
 have a1:∀kw∈A7 (d.map (·.2)),∀m∈kw.2,Eh ss m:=λkw a2 m J=>by
  obtain⟨z,h1,h2⟩:=AF.mp (Bk (Ds.mp a2));exact(ah z h1).1 m (by rw[h2];exact J)
 refine⟨⟨_,Af.of (j _ _ L)⟩,Vc (xs:=d.map λz=>V.ref z.1) (λP i r B=>∃a:List (Addr×List As),r=(a.map λz=>V.ref z.1)/\Ac H3 B/\B P=some (.lst r)/\(∀z∈a,BW (λl=>H l=none/\l≠P) B z.1 z.2)/\a.map (·.2)=Dj ss ord (d.map (·.2)) ((d.map (·.2)).take i)/\a.length<=i)
  (λP u=>⟨[],rfl,AJ u,Aa,λz n=>by simp at n,by rw[Ea];rfl,AG _⟩) (λP i r B a3=>by obtain⟨_,_,s,_⟩:=a3;exact Af.of (s _ _ (j _ _ L))) (λP i ae r H4 RR R0 u hy N k k0=>?_) (λP r H4 u N=>?_)⟩
 refine AL λNz y=>?_;obtain⟨a,rfl,g,O,I,A,lv⟩:=N;refine y ?_;clear y;obtain⟨z,U,rfl⟩:=getm hy;have aB:i<d.length:=(Bi.mp U).1;have Q:=Bk U;have aj:(d.map (·.2))[i]?=some z.2:=by rw[AM,U];rfl
 have W:=j.trans g;refine⟨nt,S,T,aa,bp,z.1,us,Gs,Es,ss,ord,_,au,c,G,z.2,rfl,W _ _ eN,SC.same W,a0.same g,T3.same g,lw,a1,(n z Q).same W,ah z Q,λH5 C=>?_⟩;have X:=g.trans C;have ak:=j.trans X;have Y:=C _ _ O;refine⟨rfl,Ap (λh=>?_) (λh=>?_)⟩;have Z:=(Pz irr).mp (CJ.mp (Be h));obtain⟨ms,aw,p,_⟩:=(n z Q).same ak;refine⟨z.1,_,rfl,Or.inl (Af.of aw),λl D=>?_⟩;obtain⟨H6,a4,E,el⟩:=new_at (o:=.lst (ms.map V.ref)) D;rw[<-a4];have al:=E _ _ Y;have an:l≠P:=λae=>by rw[ae,Y] at D;cases D
 have R:Keeps (·=P) H6 (upd H6 P (.lst (a.map (λz=>V.ref z.1)++[.ref l]))):=Keeps.one al;refine k _ _ al (by rw[Ak];exact BL (by lia)) ⟨a++[(l,z.2)],by rw[A8];rfl,λb o e=>?_,Aa,λw a5=>?_,?_,by rw[AO,Ew];lia⟩;rw[AH (AV e u)];exact E _ _ (X _ _ e);rcases BR.mp a5 with h|h;exact((I w h).same (C.trans E)).keeps R λx hx=>hx.2;rw[A9.mp h];exact⟨ms,R.at_ _ _ el an,(p.same E).keeps R,ak.free D,an⟩;rw[SG aj,At (by rw[Z];exact Df),A8,A];rfl
 have Z:((d.map (·.2)).any λv=>Cv ss ord v z.2)=true:=by
  cases e:(d.map (·.2)).any λv=>Cv ss ord v z.2 with
  |true=>rfl
  |false=>exact absurd (A5 (CJ.mpr ((Pz irr).mpr e))) h
 exact k0 _ ⟨a,rfl,X,Y,λw hw=>(I w hw).same C,by rw[SG aj,Au Z];exact A,by lia⟩;refine AL λNz y=>?_;obtain⟨a,rfl,g,O,I,A,lv⟩:=N;refine y ?_;clear y;rw[Ak,<-Ak (f:=(·.2)),De] at A;exact q P a H4 ((j).free u) (j.trans g) O I A
inductive EJ (K:Aj) (vs:List V) (H:Hp) (Q:VK):Prop where
 |mk (nt A t D:Addr) (x:Str) (F G:Addr->Prop) (W:Wd) (inn:Int) (ord:A') (sc st:Int) (zs:List (Addr×AK)) (h0:vs=[.ref nt,.ref t,.ref D,.str x]) (h1:A6 K H nt A t W) (h2:Fq K F H t W.sts inn ord) (h3:Cm W) (h4:BK W) (h5:ord.length<=40) (h6:(∀x,(x,x)∉ord)) (h7:(0<=sc/\sc<W.ss.length)) (h8:(0<=st/\st<W.sts.length)) (h9:H D=some (.lst (zs.map λz=>V.ref z.1))) (h10:(∀z∈zs,DH G H z.1 z.2)) (h11:Dr W sc st (zs.map (·.2))) (h12:∀(r D2 P:Addr)(ws ys:List (Addr×List As))(H':Hp),Ac H H'->H' r=some (.tup [.ref D,.ref D2,.ref P])->H D2=none->H' D2=some (.lst (ws.map λz=>V.ref z.1))->(∀z∈ws,BW (λl=>H l=none) H' z.1 z.2)->LR W x (zs.map (·.2)) (ws.map (·.2))->H P=none->H' P=some (.lst (ys.map λz=>V.ref z.1))->(∀z∈ys,BW (λl=>H l=none) H' z.1 z.2)->ys.map (·.2)=Dj W.ss ord (ws.map (·.2)) (ws.map (·.2))->Q (.ref r) H'):EJ K vs H Q
def gN (K:Aj):Sp:=λvs H Q ζ=>EJ K vs H Q
abbrev TV(P w K mg base):=BG P w K mg base "look_for" 4 ["net", "table", "begun", "name"] (gN K)
def gO(ai:BH mg)(aa:TN P w K mg base)(ab:TU P w K mg base)(F:Bv K "look_for" "look_for" Q9 f fd)(L:mg "look_for" = some (.ref f)):TV P w K mg base:=by
 refine B0 F L WP (λM H Q E h=>?_) (λal A an s H M Q E v h=>?_);obtain⟨g,A,t,D,x,F,G,W,I,ord,j,k,l,rfl,_⟩:=h;rfl;obtain⟨g,A,t,D,x,F,G,W,I,ord,j,k,l,rfl,y,N,ok,B,O,irr,d,e,U,V,hB,q⟩:=h;obtain⟨S,T,R,us,X,Y,ts,qt,qs,Z,N3⟩:=y.net
 refine⟨_,(Ar (AN (i:=4) WP.nd (A3 aa (Ab (pv 0) (Ab (pv 1) (Ab (pv 2) (Ab (pv 3) Ae))))))
  (Aw (AI (AQ (Ab (pv 2) (Ab (pv 4) (Ab (A3 ab (Ab (pv 0) (Ab (pv 1) (Ab (pv 4) Ae)))) Ae))))))),?_⟩
 rfl';refine⟨g,A,t,D,x,G,W,l,rfl,y,ok,U,V,λz ae=>((hB.mem _).mp (AF.mpr ⟨z,ae,rfl⟩)).ok ok d e,B.fnd x j k _ d e hB,λm c aj af a J C n=>?_⟩;have ag:∀z∈c,z.2∈EA W x (l.map (·.2)):=λz h=>n.perm.mem_iff.mp (AF.mpr ⟨z,h,rfl⟩)
 have lw:c.length<=100:=by
  have h1:=n.perm.length_eq;have h2:=B.fnd x j k _ d e hB;rw[Ak] at h1;lia
 refine⟨g,S,T,R,t,m,us,X,Y,W.ss,F,_,W.sts,I,ord,c,rfl,a _ _ Z,N3.sc.same a,N.same a,O,irr,J,C,λz h=>Pt ok d e hB (ag z h),lw,λP ys ak hP p eP hy ah=>?_⟩;refine⟨Gj,λr v=>?_⟩;have b:=AJ (o:=.tup [.ref D,.ref m,.ref P]) v;refine q r m P c ys _ ((a.trans p).trans b) Aa af (b _ _ (p _ _ J)) (λz h=>(((C z h).mono' λζ ζ ζ u=>u.1).same p).same b) n (a.free hP) (b _ _ eP) (λz h=>((hy z h).mono' λx o ζ u=>a.free u.1).same b) ah
inductive DD (K:Aj) (vs:List V) (H:Hp) (Q:VK):Prop where
 |mk (nt S T R t D O:Addr) (us Gs Es:List Addr) (ss:List Bf) (F G:Addr->Prop) (sts:List CA) (inn:Int) (ord:A') (ws:List (Addr×List As)) (os:List (Addr×Ow)) (h0:vs=[.ref nt,.ref t,.ref D,.ref O]) (h1:H nt=some (.tup [.ref S,.ref T,.ref R])) (h2:CI H S us Gs Es ss) (h3:Fq K F H t sts inn ord) (h4:ord.length<=40) (h5:(∀x,(x,x)∉ord)) (h6:H D=some (.lst (ws.map λz=>V.ref z.1))) (h7:(∀z∈ws,BW G H z.1 z.2)) (h8:(∀z∈ws,GD ss z.2)) (h9:ws.length<=100) (h10:H O=some (.lst (os.map λz=>V.ref z.1))) (h11:(∀z∈os,EB G H z.1 z.2)) (h12:(∀z∈os,GD ss z.2.1)) (h13:∀(v:V)(H':Hp),Ac H H'->SS G H' v (FG ss ord (ws.map (·.2)) (os.map (·.2)))->Q v H'):DD K vs H Q
def gP (K:Aj):Sp:=λvs H Q ζ=>DD K vs H Q
abbrev TW(P w K mg base):=BG P w K mg base "first_owed" 3 ["net", "table", "found", "owed"] (gP K)
def gQ(az:BH mg)(an:Qt P w K mg base)(ao:Qv P w K mg base)(aq:Qw P w K mg base)(F:Bv K "first_owed" "first_owed" Ra f fd)(r:mg "first_owed" = some (.ref f)):TW P w K mg base:=by
 refine B0 F r Op (λvs ai aj ak h=>?_) (λa3 a0 a5 s ai vs aj ak hr h=>?_);obtain⟨u,S,T,R,t,D,O,us,I,J,ss,F,G,aa,ab,ord,a,j,rfl,_⟩:=h;rfl
 . obtain⟨u,S,T,R,t,D,O,us,I,J,ss,F,G,aa,ab,ord,a,j,rfl,eN,SC,TB,al,irr,eD,hw,ar,ae,L,ho,au,q⟩:=h
   refine⟨_,(Ar (AN (i:=4) Op.nd (A3 an (Ab (pv 1) Ae)))
    (Ar (AN (i:=5) Op.nd (HM (A3 ao (Ab (pv 2) Ae))))
    (Ar (Cz Cu rfl (Dg (pv 3)) (BP (n:=2) rfl (AA (Av (i:=6) Op.nd) (AA (Av (i:=7) Op.nd) BO))) (Aw (Bb (Gf (GS (A3 aq (Ab (pv 0) (Ab (pv 4) (Ab (pv 5) (Ab (pv 6) Ae))))))) (Aw (AI (AQ (Ab (pv 6) (Ab (pv 7) Ae))))) Ba)))
    (Aw (AI FM))))),?_⟩
   rfl';refine⟨t,F,aa,ab,ord,rfl,TB,al,λM a1 a4 y N=>?_⟩;refine⟨D,G,a,rfl,y _ _ eD,λz h=>(hw z h).same y,ae,λd c a2 Q U af H3 A W=>?_⟩;have X:=A.same Q;have T3:=U.frz af A W;have av:=N.same X;clear U af A W Q N;have k:=y.trans X;have lw:(A7 (a.map (·.2))).length<=100:=by unfold A7;rw[Ak,List.length_zipIdx,Ak];exact ae
   have aw:∀Y∈A7 (a.map (·.2)),∀m∈Y.2,Eh ss m:=λY ax m r=>by
    obtain⟨z,h1,h2⟩:=AF.mp (Bk (Ds.mp ax));exact(ar z h1).1 m (by rw[h2];exact r)
   refine⟨⟨_,Af.of (k _ _ L)⟩,Fn (xs:=j.map λz=>V.ref z.1) (λi σ Z=>∃B C,σ=[some (.ref u),some (.ref t),some (.ref D),some (.ref O),some (.ref M),some (.ref (d [])),B,C]/\Ac H3 Z/\FG ss ord (a.map (·.2)) (j.map (·.2))=FG ss ord (a.map (·.2)) ((j.map (·.2)).drop i))
    ⟨none,none,rfl,λζ ζ e=>e,rfl⟩ (λi σ Z ζ ay=>by obtain⟨_,_,_,s,_⟩:=ay;exact Af.of (s _ _ (k _ _ L))) ?_ ?_⟩
   rotate_left;rintro σ H4 ⟨B,C,rfl,b,g⟩;rw[Ak,<-Ak (f:=(·.2)),List.drop_length] at g;refine q _ _ (k.trans b) ?_;rw[g];rfl;rintro i x σ H4 hx ⟨B,C,rfl,b,g⟩;obtain⟨z,ag,rfl⟩:=getm hx;have mz:=Bk ag;have E:=k.trans b;obtain⟨l,e1,wl⟩:=((ho z mz).same E).way;have hd:=Og (l:=j.map (·.2)) (i:=i) (x:=z.2) (by rw[AM,ag];rfl);rw[hd] at g;refine⟨_,Al.of e1,rfl,?_⟩;refine⟨u,S,T,R,M,l,us,I,J,ss,ord,_,d,c,G,z.2.1,rfl,E _ _ eN,SC.same E,av.same b,T3.same b,lw,aw,wl,au z mz,λH5 s5=>?_⟩;have ah:=b.trans s5;refine⟨rfl,Ap (λh=>?_) (λh=>?_)⟩;have H:=(Pz irr).mp (CJ.mp (Be h));refine⟨BA,λp hp=>?_⟩;have s6:=AJ (o:=.tup [.ref l,.int z.2.2]) hp;refine q _ _ ((k.trans ah).trans s6) ?_;rw[g,Wc H];exact⟨p,l,rfl,Aa,(wl.same s5).same s6⟩
   have H:((a.map (·.2)).any λv=>Cv ss ord v z.2.1)=true:=by
    cases e:(a.map (·.2)).any λv=>Cv ss ord v z.2.1 with
    |true=>rfl
    |false=>exact absurd (A5 (CJ.mpr ((Pz irr).mpr e))) h
   exact⟨_,_,rfl,ah,by rw[g,We H]⟩
inductive DE (K:Aj) (vs:List V) (H:Hp) (Q:VK):Prop where
 |mk (nt S T R mk:Addr) (us Gs Es:List Addr) (ss:List Bf) (m:As) (h0:vs=[.ref nt,.ref mk]) (h1:Al K H nt [.ref S,.ref T,.ref R]) (h2:CI H S us Gs Es ss) (h3:Al K H mk (FT m)) (h4:Eh ss m) (h5:m.2.1=("told" : Str)) (h6:∀t,H t=some (.tup (Fs (IC ss m)))->Q (.ref t) H):DE K vs H Q
def gR (K:Aj):Sp:=λvs H Q ζ=>DE K vs H Q
abbrev OI(P w K mg base):=BG P w K mg base "telling_at" 1 ["net", "mark"] (gR K)
def gS(B:BH mg)(F:Bv K "telling_at" "telling_at" Rb f fd)(c:mg "telling_at" = some (.ref f)):OI P w K mg base:=by
 refine B0 F c Oq (λv H Q E h=>?_) (λaf A ag s H v Q E hr h=>?_);obtain⟨x,S,T,R,mk,us,y,z,ss,m,rfl,_⟩:=h;rfl;obtain⟨x,S,T,R,mk,us,y,z,ss,m,rfl,C,j,c,⟨n,k,Z,l,o,d,D⟩,X,q⟩:=h;have U:n<ss.length:=(Bi.mp d).1;obtain⟨u,aa,G,I,ab,ae,p,⟨J,⟨tG,b1,L⟩,⟨a,M,b⟩⟩⟩:=j.get U;rw[d] at p;have N:=BS p;rw[<-N] at L b;have W:AS (us.map V.ref) m.1=some (.ref u):=by rw[l];exact A1 (by rw[AM,I];rfl)
 refine⟨_,(Ar (DJ (pv 1) (BP (n:=3) rfl (AA (Av (i:=2) Oq.nd) (AA (Av (i:=3) Oq.nd) (AA (Av (i:=4) Oq.nd) BO)))))
  (Ar (AN (i:=5) Oq.nd (An Ao (An Ao (An Ao (pv 0) Ah) (pv 2)) Ah))
  (Aw (AI (An Ao (pv 5) (pv 4)))))),?_⟩
 rfl';refine⟨_,c,rfl,?_⟩;refine Or.inr (Or.inl ⟨_,.ref S,C,rfl,Or.inl ⟨_,.ref u,Af.of j.top,W,Or.inr (Or.inl ⟨_,.ref G,Al.of J,rfl,?_⟩)⟩⟩);rcases D with⟨e,_⟩|⟨_,g⟩;exact absurd (X.symm.trans e) Ps;have r:=AB g;rw[PM l o d r] at q;have t:a[k]?=some (a[k]'(by rw[b.len];exact g)):=AB _;have O:=b.at_ _ _ _ t r;have Y:AS (a.map V.ref) m.2.2=some (.ref (a[k]'(by rw[b.len];exact g))):=by rw[o];exact A1 (by rw[AM,t];rfl)
 exact Or.inl ⟨_,_,Af.of M,Y,q _ O⟩
inductive DF (K:Aj) (vs:List V) (H:Hp) (Q:VK):Prop where
 |mk (nt A t P:Addr) (G:Addr->Prop) (W:Wd) (ys:List (Addr×List As)) (h0:vs=[.ref nt,.ref A,.ref P]) (h1:A6 K H nt A t W) (h2:BK W) (h3:H P=some (.lst (ys.map λz=>V.ref z.1))) (h4:(∀z∈ys,BW G H z.1 z.2)) (h5:(∀z∈ys,Cq W.ss z.2)) (h6:∀(v:V)(H':Hp),Ac H H'->SS G H' v (FF W (ys.map (·.2)))->Q v H'):DF K vs H Q
def gT (K:Aj):Sp:=λvs H Q ζ=>DF K vs H Q
abbrev TX(P w K mg base):=BG P w K mg base "first_open" 2 ["net", "answers", "seen"] (gT K)
def gU(an:BH mg)(aj:OI P w K mg base)(F:Bv K "first_open" "first_open" Rc f fd)(hm:mg "first_open" = some (.ref f)):TX P w K mg base:=by
 refine B0 F hm M6 (λvs H Q aa h=>?_) (λao A ar s H vs Q aa hr h=>?_);obtain⟨g,A,t,P,ab,W,c,rfl,_⟩:=h;rfl
 . obtain⟨g,A,t,P,ab,W,c,rfl,I,sm,J,hy,R,q⟩:=h
   obtain⟨ae,af,ag,us,Gs,Es,ts,qt,qs,eN,N3⟩:=I.net
   refine⟨_,(Ar (Cz Cu rfl (Dg (pv 2)) (Av (i:=3) M6.nd) (Ar (DJ (A3 aj (Ab (pv 0) (Ab (An Ao (pv 3) (Ko Kq Ah)) Ae))) (BP (n:=4) rfl (AA (Av (i:=4) M6.nd) (AA (Av (i:=5) M6.nd) (AA (Av (i:=6) M6.nd) (AA (Av (i:=7) M6.nd) BO))))))
    (Aw (Bb (PW.pt (Gx (Bp B8 (pv 6) AW (Bj _)) (GU (Gf (GS (An Ao (pv 1) (pv 7))))))) (Aw (AI (AQ (Ab (pv 3) (Ab (pv 7) Ae))))) Ba))))
    (Aw (AI FM))),?_⟩
   try dsimp only[AD,Cx.nox,Cx.wish]
   refine⟨⟨_,Af.of J⟩,Fn (xs:=c.map λz=>V.ref z.1) (λi σ L=>∃j r u v y,σ=[some (.ref g),some (.ref A),some (.ref P),j,r,u,v,y]/\Ac H L/\FF W (c.map (·.2))=FF W ((c.map (·.2)).drop i))
    ⟨none,none,none,none,none,rfl,λζ ζ e=>e,rfl⟩ (λi σ L ζ ak=>by obtain⟨_,_,_,_,_,_,s,_⟩:=ak;exact Af.of (s _ _ J)) ?_ ?_⟩
   rotate_left;refine λσ H4 E=>AL λNz d=>?_;obtain⟨j,r,u,v,y,rfl,a,b⟩:=E;refine d ?_;clear d;rw[Ak,<-Ak (f:=(·.2)),List.drop_length] at b;refine q _ _ a ?_;rw[b];rfl;refine λi x σ H4 hx E=>AL λNz d=>?_;obtain⟨j,r,u,v,y,rfl,a,b⟩:=E;refine d ?_;clear d;obtain⟨z,S,rfl⟩:=getm hx;have B:=Bk S;have hd:=Og (l:=c.map (·.2)) (i:=i) (x:=z.2) (by rw[AM,S];rfl);rw[hd] at b;have tk:=M0 sm (R z B);have M:=(hy z B).same a;obtain⟨vv,m,N,mo,ai⟩:=R z B;have T:=M;rw[N] at T;obtain⟨ms,mk,l1,l2,l3⟩:=PQ T;refine Or.inl ⟨_,.ref mk,Af.of l1,l2,g,ae,af,ag,mk,us,Gs,Es,W.ss,m,rfl,Al.of (a _ _ eN),N3.sc.same a,Al.of l3,mo,ai,λtp U=>?_⟩;have et:IC W.ss m=CS W.ss z.2:=(by rw[N,L3]);rw[et] at U;refine⟨_,Al.of U,rfl,?_⟩;refine⟨rfl,rfl,Ap (λh=>?_) (λh=>?_)⟩;rotate_left;have hn:(CS W.ss z.2).2.2.1≠("by" : Str):=λe=>h (A5 (by rw[e]));refine Bm ?_;refine⟨_,_,_,_,_,rfl,a,?_⟩;rw[b,PR (At λe=>hn e.1)];have X:(CS W.ss z.2).2.2.1=("by" : Str):=V.str.inj (Be h);rcases tk with⟨e,_⟩|⟨_,k0,k1⟩;rw[X] at e;exact absurd e (by decide +kernel);obtain⟨k,C⟩:=Co k0;have al:k<W.as.length:=(by lia);obtain⟨G,ah,Y,hv,hc⟩:=(I.ans.same a).get al;have Z:AS G (CS W.ss z.2).2.2.2=some ah:=by rw[C];exact A1 hv
   rcases hc with⟨D,rfl⟩|⟨p,ta,D,rfl,aq⟩;refine Or.inl ⟨G,_,Y,Z,rfl,Ap (λζ=>?_) (λh=>absurd (A5 rfl) h)⟩;refine⟨BA,λp hp=>?_⟩;have O:=AJ (o:=.tup [.ref z.1,.int (CS W.ss z.2).2.2.2]) hp;refine q _ _ (a.trans O) ?_;rw[b,SU (q:=(CS W.ss z.2).2.2.2) (Au ⟨X,by rw[C,Bl];exact D⟩)];exact⟨p,z.1,rfl,Aa,M.same O⟩;refine Or.inl ⟨G,_,Y,Z,rfl,Ap (λh=>absurd (Be h) (by simp)) (λζ=>?_)⟩;refine⟨_,_,_,_,_,rfl,a,?_⟩;rw[b,PR (At λe=>by have:=e.2;rw[C,Bl,D] at this;cases this)]
inductive Fh (K:Aj) (vs:List V) (H:Hp) (Q:VK):Prop where
 |mk (nt A t l:Addr) (G:Addr->Prop) (W:Wd) (w:List As) (h0:vs=[.ref nt,.ref A,.ref l]) (h1:A6 K H nt A t W) (h2:BK W) (h3:BW G H l w) (h4:Cq W.ss w) (h5:GF W w=none) (h6:Q (Eg (BN W w)) H):Fh K vs H Q
def gW (K:Aj):Sp:=λvs H Q ζ=>Fh K vs H Q
abbrev TY(P w K mg base):=BG P w K mg base "meaning" 2 ["net", "answers", "way"] (gW K)
def gX(ai:BH mg)(aa:OI P w K mg base)(F:Bv K "meaning" "meaning" Re f fd)(C:mg "meaning" = some (.ref f)):TY P w K mg base:=by
 refine B0 F C Mn (λD H Q E h=>?_) (λaj A ak s H D Q E hr h=>?_);obtain⟨g,A,t,l,G,W,w,rfl,_⟩:=h;rfl;obtain⟨g,A,t,l,G,W,w,rfl,j,I,o,r,d,q⟩:=h;obtain⟨S,T,R,us,J,L,ts,qt,qs,M,N⟩:=j.net;have O:=M0 I r;obtain⟨vv,m,u,U,X⟩:=r;have Y:IC W.ss m=CS W.ss w:=(by rw[u,L3]);rw[u] at o;obtain⟨ms,mk,Z,l2,l3⟩:=PQ o
 refine⟨_,(Ar (DJ (A3 aa (Ab (pv 0) (Ab (An Ao (pv 2) (Ko Kq Ah)) Ae))) (BP (n:=4) rfl (AA (Av (i:=3) Mn.nd) (AA (Av (i:=4) Mn.nd) (AA (Av (i:=5) Mn.nd) (AA (Av (i:=6) Mn.nd) BO))))))
  (Ar (Bb (Bp B8 (pv 5) AW (Bj _)) (Aw (AI (pv 6))) Ba)
  (Ar (DJ (An Ao (pv 1) (pv 6)) (BP (n:=2) rfl (AA (Av (i:=5) Mn.nd) (AA (Av (i:=6) Mn.nd) BO))))
  (Ar (Bb (Bp B8 (pv 5) AW (Bj _)) (Aw (AI (pv 6))) Ba)
  (Aw (AI FM)))))),?_⟩
 rfl';refine Or.inl ⟨_,.ref mk,Af.of Z,l2,g,S,T,R,mk,us,J,L,W.ss,m,rfl,Al.of M,N.sc,Al.of l3,U,X,λtp z=>?_⟩;rw[Y] at z;refine⟨_,Al.of z,rfl,?_⟩;refine⟨rfl,rfl,Ap (λh=>?_) (λh=>?_)⟩;have ht:(CS W.ss w).2.2.1=("thing" : Str):=V.str.inj (Be h)
 rw[show BN W w=some (CS W.ss w).2.2.2 from Au ht] at q;exact q
 have x:(CS W.ss w).2.2.1≠("thing" : Str):=λe=>h (A5 (by rw[e]));rcases O with⟨e,_⟩|⟨ab,k0,k1⟩;exact absurd e x;obtain⟨k,a⟩:=Co k0;have ae:k<W.as.length:=(by lia);obtain⟨B,v,af,hv,hc⟩:=j.ans.get ae;have ag:AS B (CS W.ss w).2.2.2=some v:=by rw[a];exact A1 hv
 rcases hc with⟨b,rfl⟩|⟨p,ta,b,rfl,ah⟩;unfold GF at d;rw[Au ⟨ab,by rw[a,Bl];exact b⟩] at d;cases d
 have y:BN W w=if p.1=("thing" : Str) then some p.2 else none:=by
  unfold BN;rw[At x,a,Bl,b]
 refine Or.inl ⟨B,_,af,ag,?_⟩;refine⟨_,ah,rfl,?_⟩;refine⟨rfl,rfl,Ap (λh=>?_) (λh=>?_)⟩;have c:p.1=("thing" : Str):=V.str.inj (Be h);rw[y,Au c] at q;exact q;have c:p.1≠("thing" : Str):=λe=>h (A5 (by rw[e]));rw[y,At c] at q;exact q
inductive KX (K:Aj) (vs:List V) (H:Hp) (Q:VK):Prop where
 |mk (nt A t O r D D2 P:Addr) (F G:Addr->Prop) (W:Wd) (inn:Int) (ord:A') (ws ys:List (Addr×List As)) (os:List (Addr×Ow)) (at_:Int) (h0:vs=[.ref nt,.ref A,.ref t,.ref O,.ref r,.int at_]) (h1:A6 K H nt A t W) (h2:Fq K F H t W.sts inn ord) (h3:BK W) (h4:ord.length<=40) (h5:(∀x,(x,x)∉ord)) (h6:H r=some (.tup [.ref D,.ref D2,.ref P])) (h7:H D2=some (.lst (ws.map λz=>V.ref z.1))) (h8:(∀z∈ws,BW G H z.1 z.2)) (h9:(∀z∈ws,GD W.ss z.2)) (h10:ws.length<=100) (h11:(∀z∈ws,Cq W.ss z.2)) (h12:H P=some (.lst (ys.map λz=>V.ref z.1))) (h13:(∀z∈ys,BW G H z.1 z.2)) (h14:ys.map (·.2)=Dj W.ss ord (ws.map (·.2)) (ws.map (·.2))) (h15:H O=some (.lst (os.map λz=>V.ref z.1))) (h16:(∀z∈os,EB G H z.1 z.2)) (h17:(∀z∈os,GD W.ss z.2.1)) (h18:∀(v:Addr)(a:C')(w:Option Wt)(H':Hp),Ac H H'->Cr W ord (ws.map (·.2)) (os.map (·.2)) at_=(a,w)->Bc G H' (.ref v) (.tup [B3 a,KG w])->Q (.ref v) H'):KX K vs H Q
def MF (K:Aj):Sp:=λvs H Q ζ=>KX K vs H Q
abbrev Ih(P w K mg base):=BG P w K mg base "met" 4 ["net", "answers", "table", "owed", "look", "at"] (MF K)
def gY(ai:BH mg)(a3:TW P w K mg base)(a4:TX P w K mg base)(a5:TY P w K mg base)(F:Bv K "met" "met" MK f fd)(hm:mg "met" = some (.ref f)):Ih P w K mg base:=by
 refine B0 F hm JR (λr aj aw ax h=>?_) (λaL A aN s aj r aw ax hr h=>?_);obtain⟨S,A,t,af,ak,al,D2,P,F,G,W,ao,ord,a,u,T,at_,rfl,_⟩:=h;rfl
 . obtain⟨S,A,t,af,ak,al,D2,P,F,G,W,ao,ord,a,u,T,at_,rfl,hC,TB,sm,a1,irr,er,a6,hw,a7,lw,a8,eP,hy,O,eO,ho,a9,q⟩:=h
   obtain⟨ay,az,a0,us,Gs,Es,ts,qt,qs,eN,N3⟩:=hC.net
   have aq:∀z∈u,Cq W.ss z.2:=λz h=>by
    have g:z.2∈u.map (·.2):=AF.mpr ⟨z,h,rfl⟩;rw[O] at g;obtain⟨aa,x,h3⟩:=AF.mp (Wb g);rw[<-h3];exact a8 aa x
   have ly:u.length<=100:=by
    have g:=Bq List.length O;have x:=SI (ss:=W.ss) (ord:=ord) (all:=a.map (·.2)) (l:=a.map (·.2));rw[Ak] at g x;lia
   refine⟨_,(Ar (DJ (pv 4) (BP (n:=3) rfl (AA (Av (i:=6) JR.nd) (AA (Av (i:=7) JR.nd) (AA (Av (i:=8) JR.nd) BO)))))
    (Ar (AN (i:=9) JR.nd (A3 a3 (Ab (pv 0) (Ab (pv 2) (Ab (pv 7) (Ab (pv 3) Ae))))))
    (Ar (Bb (Gf (GS (pv 9))) (Aw (AN (i:=9) JR.nd (A3 a4 (Ab (pv 0) (Ab (pv 1) (Ab (pv 8) Ae)))))) Ba)
    (Ar (Bb (Gf (O6 (pv 9))) (Ar (DJ (pv 9) (BP (n:=2) rfl (AA (Av (i:=10) JR.nd) (AA (Av (i:=11) JR.nd) BO))))
     (Aw (AI (AQ (Ab FM (Ab (AQ (Ab (pv 5) (Ab (pv 10) (Ab (pv 11) Ae)))) Ae)))))) Ba)
    (Ar (AN (i:=12) JR.nd (Ha rfl GH (Dg (pv 8)) (λζ ζ ζ ζ ζ=>(Av (i:=0) GH.nd)) (λζ ζ ζ ζ ζ=>GB) (λζ ζ ζ ζ ζ=>(A3 a5 (Ab (pv 1) (Ab (pv 2) (Ab (pv 0) Ae)))))))
    (Ar (Bb (F6 (CH (XS rfl) ai.b_all (Ab (Ha rfl GI (Dg (pv 12)) (λζ ζ ζ ζ ζ=>(Av (i:=0) GI.nd)) (λζ ζ ζ ζ ζ=>GB) (λζ ζ ζ ζ ζ=>(Hk (GS (pv 0))))) Ae))) (Aw (AI (AQ (Ab (AQ (Ab AW (Ab (pv 5) Ae))) (Ab FM Ae))))) Ba)
    (Ar (Bb (F6 (CH (YR rfl) ai.b_any (Ab (Ha (te:=Ck Uj (A0 0) (Ck (Ey K) (A0 1) (tC (.int ((0:Nat):Int))))) rfl GJ (Dg (pv 12)) (λζ ζ ζ ζ ζ=>(Av (i:=0) GJ.nd)) (λζ ζ ζ ζ ζ=>GB) (λζ ζ ζ ζ ζ=>(Ix Nv (pv 0) (An Ao (pv 1) Ah) (Bj _)))) Ae))) (Aw (AI (AQ (Ab (AQ (Ab AW (Ab (pv 5) Ae))) (Ab FM Ae))))) Ba)
    (Aw (AI (AQ (Ab (AQ (Ab AW (Ab (An Ao (pv 12) Ah) Ae))) (Ab FM Ae)))))))))))),?_⟩
   rfl';refine⟨_,Al.of er,rfl,?_⟩;refine⟨S,ay,az,a0,t,D2,af,us,Gs,Es,W.ss,F,G,W.sts,ao,ord,a,T,rfl,eN,N3.sc,TB,a1,irr,a6,hw,a7,lw,eO,ho,a9,λa2 aJ U ab=>?_⟩;refine Cj ?_;cbv;refine Lz (λσ' I=>∃v,σ'=[some (.ref S),some (.ref A),some (.ref t),some (.ref af),some (.ref ak),some (.int at_),some (.ref al),some (.ref D2),some (.ref P),some v,none,none,none]/\Ac aj I/\SS G I v (Hh W ord (a.map (·.2)) (T.map (·.2)))) ?_ (λaK hN=>?_);rotate_left
   cases e:FG W.ss ord (a.map (·.2)) (T.map (·.2)) with
   |none =>
     rw[e] at ab;obtain rfl:a2=.non:=ab;refine⟨rfl,Ap (λζ=>?_) (λh=>absurd (A5 rfl) h)⟩;refine⟨S,A,t,P,G,W,u,rfl,hC.same U,sm,U _ _ eP,λz h=>(hy z h).same U,aq,λv2 an y ar=>?_⟩;refine hN _ _ ⟨v2,rfl,U.trans y,?_⟩;unfold Hh;rw[e];rw[O] at ar;exact ar
   |some o =>
     rw[e] at ab;obtain⟨p,l,rfl,g,x⟩:=ab;refine⟨rfl,Ap (λh=>absurd (Be h) (by simp)) (λζ=>?_)⟩;refine hN _ _ ⟨_,rfl,U,?_⟩;unfold Hh;rw[e];exact⟨p,l,rfl,g,x⟩
   rintro σ' an ⟨v,rfl,y,m⟩
   cases e:Hh W ord (a.map (·.2)) (T.map (·.2)) with
   |some o =>
     rw[e] at m;obtain⟨p,l,rfl,g,x⟩:=m;refine⟨rfl,Ap (λζ=>?_) (λh=>absurd rfl h)⟩;refine⟨_,Al.of g,rfl,?_⟩;refine⟨Gj,λJ E=>?_⟩;obtain⟨H3,aA,B,e3⟩:=new_at (o:=.tup [.int at_,.ref l,.int o.2]) E;rw[<-aA];refine⟨BA,λC H=>?_⟩;have c:=AJ (o:=.tup [.non,.ref J]) H;exact q C _ _ _ ((y.trans B).trans c) (SO e) (.tup Aa (.cons .non (.cons (.tup (c _ _ e3) (.cons (.int _) (.cons ((x.same B).same c).own (.cons (.int _) .nil)))) .nil)))
   |none =>
     rw[e] at m;obtain rfl:v=.non:=m;refine⟨rfl,Ap (λh=>absurd h (by decide)) (λζ=>?_)⟩;have aB:=SV (Zb e)
     refine⟨⟨_,Af.of (y _ _ eP)⟩,LF (xs:=u.map λz=>V.ref z.1) (λM i r I=>Ac an I/\I M=some (.lst r)/\r=((u.map (·.2)).take i).map λw=>Eg (BN W w))
      (λM hM=>⟨AJ hM,Aa,by rw[Ea];rfl⟩) (λM i r I aC=>by obtain⟨s,_⟩:=aC;exact Af.of (s _ _ (y _ _ eP))) (λM i aa r H3 RR hM aD m k=>?_) (λM r H3 hM m=>?_)⟩
     obtain⟨B,L,rfl⟩:=m;obtain⟨z,au,rfl⟩:=getm aD;have mz:=Bk au;have Q:=y.trans B;have mo:z.2∈Dj W.ss ord (a.map (·.2)) (a.map (·.2)):=by rw[<-O];exact AF.mpr ⟨z,mz,rfl⟩
     refine⟨S,A,t,z.1,G,W,z.2,rfl,hC.same Q,sm,(hy z mz).same Q,aq z mz,aB _ mo,?_⟩;refine k _ _ L ?_ ⟨λb o e=>?_,Aa,?_⟩;rw[Ak,Ek,Ak];exact BL (by lia);rw[AH (AV e hM)];exact B _ _ e;rw[D7,AM,au,A8];rfl
     obtain⟨B,L,rfl⟩:=m;rw[Ak,<-Ak (f:=(·.2)),De,O] at L;generalize ag:Dj W.ss ord (a.map (·.2)) (a.map (·.2))=d at *
     have ls:d.length<=100:=by rw[<-O,Ak];exact ly
     have Q:=y.trans B;refine Cj ?_;cbv;refine⟨⟨_,Af.of L⟩,US (xs:=d.map λw=>Eg (BN W w)) (λv=>V.bl (decide (v=V.non))) (by rw[Ak];exact CU (BL (by lia))) (Af.of L) (λj aa H4 D4 R4 aM c aE k4=>(k4 _ (Ac.refl _))) (λH4 D4 c aE e4=>?_)⟩;refine⟨D4,(d.map λw=>Eg (BN W w)).map λv=>decide (v=V.non),rfl,Af.of (by rw[e4,El (f:=λv=>decide (v=V.non))];rfl),rfl,Ap (λh=>?_) (λh=>?_)⟩;refine⟨BA,λJ E=>?_⟩;obtain⟨H5,aF,D,e5⟩:=new_at (o:=.tup [.str "none",.int at_]) E;rw[<-aF];refine⟨BA,λC H=>?_⟩;have N:=AJ (o:=.tup [.ref J,.non]) H;refine q C (some ("none",at_)) none _ (((Q.trans c).trans D).trans N) ?_ (.tup Aa (.cons (.tup (N _ _ e5) (.cons (.str _) (.cons (.int _) .nil))) (.cons .non .nil)));rw[PP e,ag,SQ (FY.mp h)];have X:¬∀w∈d,BN W w=none:=λz=>h (FY.mpr z)
     cases R:d with
     |nil=>rw[R] at X;exact absurd (λw hw=>by cases hw) X
     |cons Y r0 =>
       have ae:=c _ _ L;have h0:AS (d.map λw=>Eg (BN W w)) ((0:Nat):Int)=some (Eg (BN W Y)):=A1 (by rw[R];rfl);refine⟨⟨_,Af.of ae⟩,US (xs:=d.map λw=>Eg (BN W w)) (λv=>V.bl (!decide (v=Eg (BN W Y)))) (by rw[Ak];exact CU (BL (by lia))) (Af.of ae) (λj aa H5 D5 R5 aG D aH k5=>?_) (λH5 D5 D aH e5=>?_)⟩;obtain⟨w,_,rfl⟩:=getm aG;exact Or.inl ⟨_,_,Af.of (D _ _ ae),h0,Zc _ _,k5 _ (Ac.refl _)⟩;refine⟨D5,(d.map λw=>Eg (BN W w)).map λv=>!decide (v=Eg (BN W Y)),rfl,Af.of (by rw[e5,El (f:=λv=>!decide (v=Eg (BN W Y)))];rfl),rfl,Ap (λh5=>?_) (λh5=>?_)⟩;refine⟨BA,λJ E=>?_⟩;obtain⟨H6,ah,N,e6⟩:=new_at (o:=.tup [.str "torn",.int at_]) E;rw[<-ah];refine⟨BA,λC H=>?_⟩;have Z:=AJ (o:=.tup [.ref J,.non]) H;refine q C (some ("torn",at_)) none _ ((((Q.trans c).trans D).trans N).trans Z) ?_ (.tup Aa (.cons (.tup (Z _ _ e6) (.cons (.str _) (.cons (.int _) .nil))) (.cons .non .nil)));have h6:=HV.mp h5;rw[R] at X h6;rw[PP e,ag,R,V8 X h6];have h6:∀v∈d,BN W v=BN W Y:=Classical.byContradiction λz=>h5 (HV.mpr z);have av:=X;rw[R] at av h6;obtain⟨n,en,ea⟩:=V9 (at_:=at_) av h6;have aI:=D _ _ ae;rw[en] at h0;refine Or.inl ⟨_,.int n,Af.of aI,h0,BA,λJ E=>?_⟩;obtain⟨H6,ah,N,e6⟩:=new_at (o:=.tup [.str "thing",.int n]) E;rw[<-ah];refine⟨BA,λC H=>?_⟩;have Z:=AJ (o:=.tup [.ref J,.non]) H;refine q C (some ("thing",n)) none _ ((((Q.trans c).trans D).trans N).trans Z) ?_ (.tup Aa (.cons (.tup (Z _ _ e6) (.cons (.str _) (.cons (.int _) .nil))) (.cons .non .nil)));rw[PP e,ag,R,ea]
inductive C9 (K:Aj) (vs:List V) (H:Hp) (Q:VK):Prop where
 |mk (nt A t D:Addr) (F:Addr->Prop) (W:Wd) (zs:List (Addr×AK)) (h0:vs=[.ref nt,.ref A,.ref t,.ref D]) (h1:A6 K H nt A t W) (h2:Cm W) (h3:H D=some (.lst (zs.map λz=>V.ref z.1))) (h4:(∀z∈zs,DH F H z.1 z.2)) (h5:(∀z∈zs,Dp W z.2)) (h6:zs.length<=62) (h7:(Hg W (zs.map (·.2))).length<=62) (h8:∀(D2:Addr)(ws:List (Addr×Ow))(H':Hp),H D2=none->Ac H H'->H' D2=some (.lst (ws.map λz=>V.ref z.1))->(∀z∈ws,EB (λl=>H l=none/\l≠D2) H' z.1 z.2)->MZ W (zs.map (·.2)) (ws.map (·.2))->Q (.ref D2) H'):C9 K vs H Q
def gZ (K:Aj):Sp:=λvs H Q ζ=>C9 K vs H Q
abbrev TZ(P w K mg base):=BG P w K mg base "owed_behind" 5 ["net", "answers", "table", "begun"] (gZ K)
def g0(a1:BH mg)(a7:Qs P w K mg base)(F:Bv K "owed_behind" "owed_behind" Rf f fd)(D:mg "owed_behind" = some (.ref f)):TZ P w K mg base:=by
 refine B0 F D JS (λa H a2 a3 h=>?_) (λaL A aU s H a a2 a3 hr h=>?_);obtain⟨Z,A,t,af,F,W,E,rfl,_⟩:=h;rfl
 . obtain⟨Z,A,t,af,F,W,E,rfl,hC,ok,eD,hz,a8,aM,aN,q⟩:=h
   refine⟨_,(Ar (AN (i:=4) JS.nd (Cg Ae))
    (Ar (Cz Cu rfl (Dg (pv 3)) (BP (n:=3) rfl (AA (Av (i:=5) JS.nd) (AA (Av (i:=6) JS.nd) (AA (Av (i:=7) JS.nd) BO)))) (Aw (Cz Cu rfl (Dg (A3 a7 (Ab (pv 0) (Ab (pv 1) (Ab (pv 2) (Ab (pv 6) (Ab (pv 7) Ae))))))) (BP (n:=4) rfl (AA (Av (i:=8) JS.nd) (AA (Av (i:=9) JS.nd) (AA (Av (i:=10) JS.nd) (AA (Av (i:=11) JS.nd) BO))))) (Aw (Bb (Bp B8 (pv 9) AW (Bj _)) (Aw (Eo (DQ Ec Fk Fl Fp (pv 4) (Ab (AQ (Ab (AZ Lr (pv 5) (Cg (Ab (pv 8) Ae))) (Ab (pv 10) Ae))) Ae)))) Ba)))))
    (Aw (AI (CH (Yo HL FS hr.units (by decide) (by decide)) a1.b_sorted (Ab (pv 4) Ae)))))),?_⟩
   rfl';refine⟨by decide,λP hP=>?_⟩;obtain⟨aq,a9,s1,aw⟩:=new_at (o:=.lst []) hP;rw[<-a9];have ag:∀{p:Hp},Keeps (·=P) aq p->Ac H p:=λk x o e=>k.at_ _ _ (s1 _ _ e) (AV e hP)
   refine⟨⟨_,Af.of (s1 _ _ eD)⟩,Fn (xs:=E.map λz=>V.ref z.1) (λi σ p=>∃u5 u6 u7 J M N O v,σ=[some (.ref Z),some (.ref A),some (.ref t),some (.ref af),some (.ref P),u5,u6,u7,J,M,N,O]/\Keeps (·=P) aq p/\p P=some (.lst (v.map λz:Addr×Ow=>V.ref z.1))/\(∀z∈v,EB (λl=>H l=none/\l≠P) p z.1 z.2)/\v.map (·.2)=Hg W ((E.map (·.2)).take i))
    ⟨none,none,none,none,none,none,none,[],rfl,Keeps.refl λx o m e=>by rw[m,aw] at e;exact⟨_,(BS e).symm⟩,aw,λz hz=>by simp at hz,by rw[Ea];rfl⟩ (λi σ p ζ ah=>by obtain⟨_,_,_,_,_,_,_,_,_,k,_⟩:=ah;exact Af.of (ag k _ _ eD)) ?_ ?_⟩
   rotate_left;refine λσ ar Q=>AL λNz d=>?_;obtain⟨u5,u6,u7,J,M,N,O,v,rfl,T,X,hw,D⟩:=Q;refine d ?_;clear d;rw[Ak,<-Ak (f:=(·.2)),De] at D;have lw:v.length<=62:=by have:=Bq List.length D;rw[Ak] at this;lia
   refine⟨P,v.map λz=>(V.ref z.1,z.2),rfl,?_,by rw[Ak];lia,λy u=>?_,λD2 aA hp hs ai=>?_⟩;rw[El];exact Af.of X;obtain⟨z,aj,rfl⟩:=AF.mp u;exact(hw z aj).dt;obtain⟨a,r1,r2,r3,r4⟩:=Sr (c:=N6) hp;have r:=AJ (o:=.lst (aA.map (·.1))) ai;rw[r1] at r ⊢;rw[r2] at hs;have I:=ag T;refine q D2 a _ (I.free ai) (I.trans r) Aa (λz aj=>?_) ⟨by rw[<-D];exact r3,hs⟩;refine((hw z (r4 z aj)).mono' ?_).same r;intro x o ex hx;exact⟨hx.1,λy=>by rw[y,ai] at ex;cases ex⟩;refine λi y σ ar u Q=>AL λNz d=>?_;obtain⟨u5,u6,u7,J,M,N,O,v,rfl,T,X,hw,D⟩:=Q;refine d ?_;clear d;obtain⟨z,ak,rfl⟩:=getm u;have aO:i<E.length:=(Bi.mp ak).1;have mz:=Bk ak;have aa:=a8 z mz;have I:=ag T;refine AL λNz d=>?_;obtain⟨l,B,a6,av,e3,_⟩:=hz z mz;refine d ?_;clear d;have e1:=I _ _ a6;have aB:=aa.rng z.2.2.1 (by unfold AY;simp);have aC:(E.map (·.2))[i]?=some z.2:=by rw[AM,ak];rfl
   have aP:B.length<=100:=by
    have:=LQ W.ss.length (AY z.2) aa.nd aa.rng;rw[show(AY z.2).length=z.2.1.length+1 by unfold AY;simp] at this;have:=ok.s5;rw[e3.len];lia
   have aD:v.length<=8*i:=by
    have G:=Bq List.length D;rw[Ak] at G;have h2:=VA (f:=λb=>(FU W b.2.1 b.2.2).filterMap (ow b)) (k:=8) ((E.map (·.2)).take i) λb=>Fa (List.length_filterMap_le _ _) (Fa (Jw W b.2.1 (BB W b.2.2) (AX W b.2.1) 0) (Pq ok b.2.1));rw[Ek,Ak] at h2;unfold Hg at G;have h3:min i E.length=i:=(by lia);rw[h3] at h2;lia
   refine⟨_,Al.of e1,rfl,?_⟩;refine⟨Z,A,t,W,z.2.2.1,z.2.2.2,rfl,hC.same I,ok,aB,aa.st,λa4 R H3 hG r eG aE ax=>⟨⟨_,Af.of eG⟩,?_⟩⟩;have aF:a4≠P:=λy=>by rw[y,X] at hG;cases hG
   have aQ:R.length<=8:=by
    have e1:=Bq List.length ax;have e2:=Jw W z.2.2.1 (BB W z.2.2.2) (AX W z.2.2.1) 0;have e3:=Pq ok z.2.2.1;rw[Ak] at e1;unfold FU at e1;lia
   refine Fn (xs:=R.map λz=>V.ref z.1) (λj σ p=>∃J M N O a,σ=[some (.ref Z),some (.ref A),some (.ref t),some (.ref af),some (.ref P),some (.ref l),some (.int z.2.2.1),some (.int z.2.2.2),J,M,N,O]/\Keeps (·=P) H3 p/\p P=some (.lst (a.map λz:Addr×Ow=>V.ref z.1))/\(∀z∈a,EB (λl=>H l=none/\l≠P) p z.1 z.2)/\a.map (·.2)=Hg W ((E.map (·.2)).take i)++((R.map (·.2)).take j).filterMap (ow z.2)/\a.length<=8*i+j)
    ⟨_,_,_,_,v,rfl,Keeps.refl λx o m e=>by rw[m,r _ _ X] at e;exact⟨_,(BS e).symm⟩,r _ _ X,λz h=>(hw z h).same r,by rw[D,Ea];simp,aD⟩ (λj σ p ζ ah=>by obtain⟨_,_,_,_,_,_,k,_⟩:=ah;exact Af.of (k.at_ _ _ eG aF)) ?_ ?_
   rotate_left;refine λσ H4 Q=>AL λNz d=>?_;obtain⟨J,M,N,O,a,rfl,C,S,ab,ae,_⟩:=Q;refine d ?_;clear d;refine⟨_,_,_,_,_,_,_,a,rfl,⟨λx o e n=>C.at_ _ _ (r _ _ (T.at_ x o e n)) n,T.ls⟩,S,ab,?_⟩;rw[Yz aC,ae,Ak,<-Ak (f:=(·.2)),De,ax];refine λj y σ H4 u Q=>AL λNz d=>?_;obtain⟨J,M,N,O,a,rfl,C,S,ab,ae,aR⟩:=Q;refine d ?_;clear d;obtain⟨g,al,rfl⟩:=getm u;have aS:j<R.length:=(Bi.mp al).1;obtain⟨m,an,ao⟩:=aE g (Bk al);have an:=C.tup an;have ao:=C.tup ao
   have ay:((R.map (·.2)).take (j+1)).filterMap (ow z.2)=((R.map (·.2)).take j).filterMap (ow z.2)++(ow z.2 g.2).toList:=by
    rw[D7,AM,al];exact LV _ _ _
   refine⟨_,Al.of an,rfl,?_⟩;refine⟨rfl,rfl,Ap (λG=>?_) (λG=>?_)⟩;rotate_left;refine⟨_,_,_,_,a,rfl,C,S,ab,?_,by lia⟩;rw[ay,VD (λe=>G (A5 (by rw[e]))),ae];simp;have G:g.2.2.1.1=("open" : Str):=V.str.inj (Be G);have aT:Ac ar H3:=r;have aG:H4 l=some (.lst (B.map V.ref)):=C.at_ _ _ (r _ _ (I _ _ av)) (AV av hP);have aH:RT FT H4 B z.2.1:=(e3.same (I.trans r)).keeps C;refine⟨Or.inl ⟨rfl,_,Af.of S⟩,HB,λa5 hM=>?_⟩;obtain⟨H5,aI,s5,eM⟩:=new_at (o:=.lst [.ref m]) hM;rw[<-aI];refine⟨l,a5,_,_,rfl,rfl,s5 _ _ aG,eM,by rw[Ak];exact CU (BL (by show B.length+1<=1000;lia)),λL hL=>?_⟩
   have aJ:H L=none:=by
    have h4:=s5.free hL
    cases e:H L with
    |none=>rfl
    |some o=>rw[C.at_ _ _ (r _ _ (I _ _ e)) (AV e hP)] at h4;cases h4
   have az:L≠P:=λy=>by rw[y,s5 _ _ S] at hL;cases hL
   have s6:=AJ (o:=.lst (B.map V.ref++[.ref m])) hL;have eL:(upd H5 L (.lst (B.map V.ref++[.ref m]))) L=some (.lst ((B++[m]).map V.ref)):=by rw[Aa,A8];rfl
   generalize upd H5 L (.lst (B.map V.ref++[.ref m]))=H6 at s6 eL ⊢;refine⟨BA,λau hr=>?_⟩;obtain⟨H7,aK,s7,er⟩:=new_at (o:=.tup [.ref L,.int g.2.2.1.2]) hr;rw[<-aK];have Y:=(s5.trans s6).trans s7;have a0:=Y _ _ S;have U:Keeps (·=P) H7 (upd H7 P (.lst (a.map (λz=>V.ref z.1)++[.ref au]))):=Keeps.one a0;refine⟨_,a0,by rw[Ak];exact BL (by lia),?_⟩;refine⟨_,_,_,_,a++[(au,(z.2.1++[g.2.1],g.2.2.1.2))],rfl,(C.same Y).set rfl,by rw[Aa,A8];rfl,λy u=>?_,?_,by rw[AO,Ew];lia⟩;rcases BR.mp u with u|u;exact((ab y u).same Y).keeps U λx hx=>hx.2;rw[A9.mp u];refine⟨L,B++[m],U.tup er,U.at_ _ _ (s7 _ _ eL) az,?_,aJ,az⟩;exact RT.snoc ((aH.same Y).keeps U) (U.tup (Y _ _ ao));rw[ay,VC G,A8,ae,FJ];rfl
def both{A G:Prop}(k:A->G)(a:A):G:=k a
def OJ:([]:List V).length+1+1+1+1<=sizeLine:=by decide
inductive Fi (K:Aj) (vs:List V) (H:Hp) (Q:VK):Prop where
 |mk (nt A t ask u:Addr) (F:Addr->Prop) (W:Wd) (inn:Int) (ord:A') (q:Qu) (h0:vs=[.ref nt,.ref A,.ref t,.ref ask]) (h1:A6 K H nt A t W) (h2:Fq K F H t W.sts inn ord) (h3:Cm W) (h4:BK W) (h5:ord.length<=40) (h6:(∀x,(x,x)∉ord)) (h7:(0<=inn/\inn<W.sts.length)) (h8:H ask=some (.tup [.int q.1,.int q.2.1,.ref u])) (h9:H u=some (.tup (q.2.2.map V.str))) (h10:(0<=q.1/\q.1<W.ss.length)) (h11:(0<=q.2.1/\q.2.1<W.sts.length)) (h12:1<=q.2.2.length) (h13:q.2.2.length<=8) (h14:∀(r L T:Addr)(av wv:V)(lv:List V)(a:C')(w:Option Wt)(ls:List Lk)(ts:List Int)(H':Hp),Ac H H'->H' r=some (.tup [av,wv,.ref L,.ref T])->H L=none->H' L=some (.lst lv)->H' T=some (.lst (ts.map V.int))->Bc (λx=>H x=none) H' av (B3 a)->Bc (λx=>H x=none) H' wv (KG w)->AC (λx=>H x=none/\x≠L) H' lv (ls.map KH)->LU W inn ord q.1 q.2.1 q.2.2 0 a w ls ts->Q (.ref r) H'):Fi K vs H Q
def g8 (K:Aj):Sp:=λvs H Q ζ=>Fi K vs H Q
abbrev OK(P w K mg base):=BG P w K mg base "look_up" 7 ["net", "answers", "table", "asked"] (g8 K)
def hE(aN:BH mg)(b7:TL P w K mg base)(b8:TV P w K mg base)(b9:Ih P w K mg base)(bA:TZ P w K mg base)(bB:Qr P w K mg base)(F:Bv K "look_up" "look_up" Rg f fd)(hm:mg "look_up" = some (.ref f)):OK P w K mg base:=by
 refine B0 F hm Gp (λvs H aO bw h=>?_) (λcl A cx s H vs aO bw hr h=>?_);obtain⟨S,A,t,aR,ay,F,W,X,ord,q,rfl,_⟩:=h;rfl
 . obtain⟨S,A,t,aR,ay,F,W,X,ord,q,rfl,Z,TB,ok,sm,aQ,irr,bZ,eq,eu,bC,bD,cm,cn,qk⟩:=h
   obtain⟨bx,Tn,bz,us,Gs,Es,cp,qt,qs,eN,N3⟩:=Z.net
   refine⟨_,(Ar (DJ (pv 3) (BP (n:=3) rfl (AA (Av (i:=4) Gp.nd) (AA (Av (i:=5) Gp.nd) (AA (Av (i:=6) Gp.nd) BO)))))
    (Ar (AN (i:=7) Gp.nd (Cg Ae))
    (Ar (AN (i:=8) Gp.nd (Cg Ae))
    (Aw (Cz Cu rfl (Od TK rfl aN.b_enumerate (Ab (pv 6) Ae)) (BP (n:=2) rfl (AA (Av (i:=9) Gp.nd) (AA (Av (i:=10) Gp.nd) BO))) (Ar (AN (i:=11) Gp.nd (A3 b7 (Ab (pv 0) (Ab (pv 1) (Ab (pv 2) (Ab (pv 4) (Ab (pv 5) Ae)))))))
     (Ar (Eo (DQ Ec Fk Fl Fp (pv 7) (Ab (A3 b8 (Ab (pv 0) (Ab (pv 2) (Ab (pv 11) (Ab (pv 10) Ae))))) Ae)))
     (Ar (DJ (A3 b9 (Ab (pv 0) (Ab (pv 1) (Ab (pv 2) (Ab (A3 bA (Ab (pv 0) (Ab (pv 1) (Ab (pv 2) (Ab (pv 11) Ae))))) (Ab (An Ao (pv 7) (Ko Kq Ah)) (Ab (pv 9) Ae))))))) (BP (n:=2) rfl (AA (Av (i:=12) Gp.nd) (AA (Av (i:=13) Gp.nd) BO))))
     (Ar (Bb (PW.pt (Hm (Gf (GS (pv 12))) (Hm (Bp Nv (An Ao (pv 12) Ah) AW (Bj _)) (Hl (Bp B8 (pv 9) (AZ Ll (CH GA aN.b_len (Ab (pv 6) Ae)) Ah) (Bj _)))))) (Aw (AI (AQ (Ab (pv 12) (Ab (pv 13) (Ab (pv 7) (Ab (pv 8) Ae))))))) Ba)
     (Ar (Eo (DQ Ec Fk Fl Fp (pv 8) (Ab (An Ao (pv 12) Ah) Ae)))
     (Ar (DJ (A3 bB (Ab (pv 0) (Ab (pv 1) (Ab (An Ao (pv 12) Ah) Ae)))) (BP (n:=2) rfl (AA (Av (i:=14) Gp.nd) (AA (Av (i:=15) Gp.nd) BO))))
     (Ar (Bb (Bp B8 (pv 14) AW (Bj _)) (Aw (AI (AQ (Ab FM (Ab (AQ (Ab (pv 9) (Ab (Cg Ae) (Ab (pv 15) Ae)))) (Ab (pv 7) (Ab (pv 8) Ae))))))) Ba)
     (Ar (Bb (Bp B8 (pv 14) AW (Bj _)) (Aw (AI (AQ (Ab (AQ (Ab AW (Ab (AZ Kp (pv 9) Ah) Ae))) (Ab FM (Ab (pv 7) (Ab (pv 8) Ae))))))) Ba)
     (Ar (AN (i:=4) Gp.nd (pv 15))
     (Aw (AN (i:=5) Gp.nd (An Ao (pv 2) Ah))))))))))))))))),?_⟩
   rfl';refine⟨_,Al.of eq,rfl,?_⟩;refine⟨by decide,λL hL=>?_⟩;obtain⟨aP,bE,s1,a0⟩:=new_at (o:=.lst []) hL;rw[<-bE];refine Cj ?_;cbv;refine⟨by decide,λT hT=>?_⟩;have s2:=AJ (o:=.lst []) hT;have aS:(upd aP T (.lst [])) T=some (.lst []):=Aa;have aT:=s2 _ _ a0;generalize upd aP T (.lst [])=cj at s2 aS aT ⊢;have aU:L≠T:=λz=>by rw[z,hT] at a0;cases a0
   have bF:H T=none:=s1.free hT;refine Cj ?_;cbv
   refine⟨ay,rfl,⟨_,Al.of ((s1.trans s2) _ _ eu)⟩,Of TK (xs:=q.2.2.map V.str) (λi σ H'=>∃(B C:Int)(u9 aV aW aX aY aZ ba:Option V)(d:List V)(ls:List Lk)(l:List Int),σ=[some (.ref S),some (.ref A),some (.ref t),some (.ref aR),some (.int B),some (.int C),some (.ref ay),some (.ref L),some (.ref T),u9,aV,aW,aX,aY,aZ,ba]/\Ac H H'/\H' L=some (.lst d)/\H' T=some (.lst (l.map V.int))/\AC (λx=>H x=none/\x≠L/\x≠T) H' d (ls.map KH)/\d.length=i/\l.length=i/\i<q.2.2.length/\(0<=B/\B<W.ss.length)/\(0<=C/\C<W.sts.length)/\∀a w ai aj,LU W X ord B C (q.2.2.drop i) i a w ai aj->LU W X ord q.1 q.2.1 q.2.2 0 a w (ls++ai) (l++aj))
    ⟨_,_,none,none,none,none,none,none,none,[],[],[],rfl,s1.trans s2,aT,aS,.nil,rfl,rfl,by lia,bC,bD,λa w ai aj z=>z⟩ (λi σ H' bG=>by obtain⟨_,_,_,_,_,_,_,_,_,_,_,_,_,s,_⟩:=bG;exact Al.of (s _ _ eu)) ?_ ?_⟩
   rotate_left;refine λσ H' a1=>AL λNz N=>?_;obtain⟨_,_,_,_,_,_,_,_,_,_,_,_,_,_,_,_,_,_,_,hi,_⟩:=a1;refine N ?_;clear N;rw[Ak] at hi;exact absurd hi (G6 _);refine λi xv Te σ H3 hx bH a1=>AL λNz N=>?_;obtain⟨B,C,u9,aV,aW,aX,aY,aZ,ba,d,ls,l,rfl,s3,bI,bJ,bK,bL,bM,hi,O,Q,aw⟩:=a1;refine N ?_;clear N;refine ID ?_;intro Nx Cy;obtain⟨x,bN,rfl⟩:=getm hx;have ae:=Og bN;obtain⟨H4,bO,s4,bP⟩:=new_at (o:=.tup [.int i,.str x]) bH;rw[<-bO];have ak:=s3.trans s4;have al:=s4 _ _ bI;have a2:=s4 _ _ bJ;refine⟨_,Al.of bP,rfl,?_⟩;refine⟨S,A,t,W,B,C,rfl,Z.same ak,ok,O,Q,λah g H5 hD s5 eD hz hB=>?_⟩;refine Cj ?_;cbv;have Y:=ak.trans s5;have R:=s5 _ _ al;have af:=s5 _ _ a2;have Fb:∀{Hn:Hp}{x:Addr},Ac H Hn->Hn L=some (.lst d)->Hn T=some (.lst (l.map V.int))->Hn x=none->H x=none/\x≠L/\x≠T:=λ{Hn x}s U e2 h=>⟨s.free h,λz=>(by rw[z,U] at h;cases h),λz=>(by rw[z,e2] at h;cases h)⟩;refine⟨Or.inl ⟨rfl,_,Af.of R⟩,S,A,t,ah,x,F,_,W,X,ord,B,C,g,rfl,Z.same Y,TB.same Y,ok,sm,aQ,irr,O,Q,eD,hz,hB,λr D2 P e u H6 s6 er a3 bb hw hF hP eP c bc=>?_⟩;have bQ:=Y.trans s6;have bd:=s6 _ _ R;have bR:=s6 _ _ af;have v:Keeps (·=L) H6 (upd H6 L (.lst (d++[.ref r]))):=Keeps.one bd;have an:Ac H (upd H6 L (.lst (d++[.ref r]))):=λb o ab=>by rw[AH (AV ab hL)];exact bQ _ _ ab
   have a4:(upd H6 L (.lst (d++[.ref r]))) L=some (.lst (d++[.ref r])):=Aa;refine⟨_,bd,BL (by lia),?_⟩;generalize upd H6 L (.lst (d++[.ref r]))=J at v an a4 ⊢;have nD:ah≠L:=λz=>by rw[z,al] at hD;cases hD
   have bS:D2≠L:=λz=>by rw[z,R] at a3;cases a3
   have nP:P≠L:=λz=>by rw[z,R] at hP;cases hP
   have be:=v.at_ _ _ bR (Ne.symm aU);have a5:=v.tup er;have a6:=v.at_ _ _ (s6 _ _ eD) nD;have aI:=v.at_ _ _ bb bS;have a7:=v.at_ _ _ eP nP;have a8:∀z∈g,DH (λx=>H x=none/\x≠L/\x≠T) J z.1 z.2:=λz h=>(((hz z h).mono' λy o ζ c=>Fb ak al a2 c.1).same s6).keeps v λy c=>c.2.1;have a9:∀z∈e,BW (λx=>H x=none/\x≠L/\x≠T) J z.1 z.2:=λz h=>((hw z h).mono' λy o ζ c=>Fb Y R af c).keeps v λy c=>c.2.1;have aA:∀z∈u,BW (λx=>H x=none/\x≠L/\x≠T) J z.1 z.2:=λz h=>((c z h).mono' λy o ζ c=>Fb Y R af c).keeps v λy c=>c.2.1;have br:AC (λx=>H x=none/\x≠L/\x≠T) J d (ls.map KH):=(((bK.same s4).same s5).same s6).keeps v λy c=>c.2.1;have cq:=hB;have bf:=hB.few;rw[Ak] at bf;refine⟨S,A,t,ah,_,W,g,rfl,Z.same an,ok,a6,a8,λz bT=>((hB.mem _).mp (AF.mpr ⟨z,bT,rfl⟩)).ok ok O Q,bf,sm.owd B C _ O Q hB,λb0 az H8 hO D eO ho bg=>?_⟩;have aB:=an.trans D;have bh:=D _ _ a4;have bU:=D _ _ be;have bi:∀z∈e,z.2∈EA W x (g.map (·.2)):=λz h=>hF.perm.mem_iff.mp (AF.mpr ⟨z,h,rfl⟩)
   have lw:e.length<=100:=by
    have h1:=hF.perm.length_eq;have h2:=sm.fnd x B C _ O Q hB;rw[Ak] at h1;lia
   have bj:∀z∈e,Cq W.ss z.2:=λz h=>SR ok O Q hB (bi z h);have ca:∀{x:Addr},J x=none->H x=none/\x≠L/\x≠T:=λ{x}h=>⟨an.free h,λz=>(by rw[z,a4] at h;cases h),λz=>(by rw[z,be] at h;cases h)⟩;refine Or.inl ⟨_,.ref r,Af.of bh,So _ _,S,A,t,b0,r,ah,D2,P,F,(λx=>H x=none/\x≠L/\x≠T),W,X,ord,e,u,az,(i:Int),rfl,Z.same aB,TB.same aB,sm,aQ,irr,D _ _ a5,D _ _ aI,λz h=>(a9 z h).same D,λz h=>Pt ok O Q hB (bi z h),lw,bj,D _ _ a7,λz h=>(aA z h).same D,bc,eO,λz h=>(ho z h).mono' λy o ζ c=>ca c.1,λz h=>VJ ok O Q hB (bg.perm.mem_iff.mp (AF.mpr ⟨z,h,rfl⟩)),λm a w E s9 bs hm=>?_⟩;have aC:=aB.trans s9;have bk:=s9 _ _ bh;have ao:=s9 _ _ bU;obtain⟨av,wv,b1,ha,bV⟩:=hm.two;have LK:EC W ord B C x (g.map (·.2),e.map (·.2),u.map (·.2)) (az.map (·.2)):=⟨hB,hF,bc,bg⟩
   have bl:Bc (λx=>H x=none/\x≠L/\x≠T) E (.ref r) (KH (g.map (·.2),e.map (·.2),u.map (·.2))):=by
    have b2:=Fb ak al a2 hD;have b3:=Fb Y R af a3;have b4:=Fb Y R af hP
    have b5:AC (λx=>H x=none/\x≠L/\x≠T) J (g.map λz=>V.ref z.1) ((g.map (·.2)).map Dq.D):=by
     rw[El];exact AC.of_all λz h=>(a8 z h).own
    have b6:AC (λx=>H x=none/\x≠L/\x≠T) J (e.map λz=>V.ref z.1) ((e.map (·.2)).map BV.D):=by
     rw[El];exact AC.of_all λz h=>(a9 z h).own
    have f3:AC (λx=>H x=none/\x≠L/\x≠T) J (u.map λz=>V.ref z.1) ((u.map (·.2)).map BV.D):=by
     rw[El];exact AC.of_all λz h=>(aA z h).own
    exact((Bc.tup a5 (.cons (.lst a6 b2 b5) (.cons (.lst aI b3 b6) (.cons (.lst a7 b4 f3) .nil)))).same D).same s9
   have bt:AC (λx=>H x=none/\x≠L/\x≠T) E (d++[.ref r]) ((ls++[(g.map (·.2),e.map (·.2),u.map (·.2))]).map KH):=by
    rw[A8];exact((br.same D).same s9).snoc bl
   clear a9 aA a8 br bl hw c hz ho eD bb eP er a6 aI a7 a5 v;refine⟨_,Al.of b1,rfl,?_⟩
   have aq:((∀k,a≠some (("thing" : Str),k))\/q.2.2.drop (i+1)=[])->∀M,E M=none->aO (.ref M) (upd E M (.tup [av,wv,.ref L,.ref T])):=λcf M bW=>by
    have j:=AJ (o:=.tup [av,wv,.ref L,.ref T]) bW;refine qk M L T av wv (d++[.ref r]) a w _ l _ (aC.trans j) Aa hL (j _ _ bk) (j _ _ ao) ((ha.mono λζ ζ ζ h=>h.1).same j) ((bV.mono λζ ζ ζ h=>h.1).same j) ((bt.mono λζ ζ ζ h=>⟨h.1,h.2.1⟩).same j) ?_;have:=aw a w [(g.map (·.2),e.map (·.2),u.map (·.2))] [] (by rw[ae];exact .stop LK bs cf);rw[Eb] at this;exact this
   cases a with
   |none =>
     obtain rfl:=ha.ansN;exact⟨rfl,Ap (λζ=>CP ⟨OJ,aq (.inl λk z=>(by cases z))⟩) (λh=>absurd (A5 rfl) h)⟩
   |some p =>
     obtain⟨pa,rfl,aD⟩:=ha.ansS;refine⟨rfl,Ap (λh=>absurd (Be h) (by simp)) (λζ=>?_)⟩;refine Or.inr (Or.inl ⟨_,.str p.1,Al.of aD,rfl,rfl,rfl,Ap (λh=>?_) (λh=>?_)⟩);refine CP ⟨OJ,aq (.inl λk z=>?_)⟩;have:p.1=("thing" : Str):=Bq Prod.fst (BS z);rw[this] at h;simp at h
     have hp:p.1=("thing" : Str):=Classical.byContradiction λz=>h (by
      have:decide (V.str p.1=V.str "thing")=false:=En λy=>z (V.str.inj y)
      rw[this];rfl)
     have ax:Cr W ord (e.map (·.2)) (az.map (·.2)) i=(some (("thing" : Str),p.2),w):=(by rw[bs,<-hp]);refine⟨_,Or.inr ⟨_,Al.of (aC _ _ eu),rfl⟩,rfl,rfl,Ap (λh2=>?_) (λh2=>?_)⟩;have e2:(i:Int)=((q.2.2.map V.str).length:Nat)-1:=V.int.inj (Be h2);rw[Ak] at e2;exact⟨OJ,aq (.inr (List.drop_eq_nil_of_le (by lia)))⟩
     have bm:i+1<q.2.2.length:=by
      refine Classical.byContradiction λz=>h2 (A5 ?_);rw[Ak];congr 1;lia
     clear aq;have rng:=PU ok sm (λck hv=>by obtain⟨z,h1,rfl⟩:=AF.mp hv;exact bj z h1) ax;obtain⟨n,hn⟩:=Co rng.1;have bn:n<W.gs.length:=(by lia);have hg:=AB bn;have ar:Keeps (·=T) E (upd E T (.lst (l.map V.int++[.int p.2]))):=Keeps.one ao;have j:Ac H (upd E T (.lst (l.map V.int++[.int p.2]))):=λb o ab=>by rw[AH (AV ab bF)];exact aC _ _ ab
     have bu:(upd E T (.lst (l.map V.int++[.int p.2]))) T=some (.lst ((l++[p.2]).map V.int)):=by rw[Aa,A8];rfl
     refine⟨Or.inl ⟨rfl,_,Af.of ao⟩,Or.inr (Or.inl ⟨_,.int p.2,Al.of aD,rfl,_,ao,by rw[Ak];exact BL (by lia),?_⟩)⟩;generalize upd E T (.lst (l.map V.int++[.int p.2]))=cs at ar j bu ⊢;have cb:=ar.at_ _ _ bk aU;have cg:=ar.tup aD;have ch:=bt.keeps ar λy c=>c.2.2;have cc:=Z.same j;refine Or.inr (Or.inl ⟨_,.int p.2,Al.of cg,rfl,S,bx,Tn,bz,A,W.gs,W.as,p.2,n,W.gs[n],rfl,hn,hg,Al.of (j _ _ eN),⟨_,Af.of (j _ _ N3.et),(N3.tg.same j).dts⟩,cc.ans,ok.net,λb ct hb au eb=>?_⟩);have ag:=j.trans au;have aJ:=au _ _ cb;have aK:=au _ _ bu;have aM:=ch.same au
     have ei:FZ W p.2=ES W.gs W.as W.gs[n]:=by
      show(match W.gs[p.2.toNat]? with|some p=>ES W.gs W.as p|none=>("no",0))=_
      rw[hn,Bl,hg]
     obtain⟨y2,M,bv⟩:∃y2 M,q.2.2.drop (i+1)=y2::M:=⟨_,_,Ki bm⟩;rw[bv] at ae;refine⟨_,Al.of eb,rfl,?_⟩;generalize bo:ES W.gs W.as W.gs[n]=G at *;refine⟨rfl,rfl,Ap (λh3=>?_) (λh3=>?_)⟩
     have e3:G.1=("open" : Str):=V.str.inj (Be h3);refine⟨by decide,λe0 bp=>?_⟩;obtain⟨bX,aL,aE,bY⟩:=new_at (o:=.lst []) bp;rw[<-aL];refine⟨Gj,λU aF=>?_⟩;obtain⟨cu,cd,bq,aG⟩:=new_at (o:=.tup [.int i,.ref e0,.int G.2]) aF;rw[<-cd];refine⟨OJ,λr3 aH=>?_⟩;have aa:=AJ (o:=.tup [.non,.ref U,.ref L,.ref T]) aH;have I:=(aE.trans bq).trans aa;refine qk r3 L T .non (.ref U) (d++[.ref r]) none (some ((i:Int),[],G.2)) _ _ _ (ag.trans I) Aa hL (I _ _ aJ) (I _ _ aK) .non (.tup (aa _ _ aG) (.cons (.int _) (.cons (.lst ((bq.trans aa) _ _ bY) (ag.free bp) .nil) (.cons (.int _) .nil)))) ((aM.mono λζ ζ ζ h=>⟨h.1,h.2.1⟩).same I) ?_;exact aw none (some ((i:Int),[],G.2)) [(g.map (·.2),e.map (·.2),u.map (·.2))] [p.2] (by rw[ae];exact .opn LK ax (ei.trans (Prod.ext e3 rfl)));have e3:G.1≠("open" : Str):=λz=>h3 (A5 (by rw[z]));refine⟨rfl,rfl,Ap (λh4=>?_) (λh4=>?_)⟩;have e4:G.1=("no" : Str):=V.str.inj (Be h4);refine⟨BA,λU aF=>?_⟩;obtain⟨bX,aL,aE,aG⟩:=new_at (o:=.tup [.str "none",.int ((i:Int)+1)]) aF;rw[<-aL];refine⟨OJ,λr3 aH=>?_⟩;have aa:=AJ (o:=.tup [.ref U,.non,.ref L,.ref T]) aH;have I:=aE.trans aa;refine qk r3 L T (.ref U) .non (d++[.ref r]) (some (("none" : Str),(i:Int)+1)) none _ _ _ (ag.trans I) Aa hL (I _ _ aJ) (I _ _ aK) (.tup (aa _ _ aG) (.cons (.str _) (.cons (.int _) .nil))) .non ((aM.mono λζ ζ ζ h=>⟨h.1,h.2.1⟩).same I) ?_;exact aw (some (("none" : Str),(i:Int)+1)) none [(g.map (·.2),e.map (·.2),u.map (·.2))] [p.2] (by rw[ae];exact .no LK ax (ei.trans (Prod.ext e4 rfl)));have e4:G.1≠("no" : Str):=λz=>h4 (A5 (by rw[z]))
     have e5:G.1=("to" : Str):=by
      have:=Zg W.gs W.as W.gs[n];rw[bo] at this;rcases this with h|h|h;exact h;exact absurd h e3;exact absurd h e4
     have rg:=Sm ok (Dk bn) bo e5;refine AL λNz N=>?_;obtain⟨ta,o,cv,cw,et,_⟩:=TB.ex;refine N ?_;clear N;refine Cj ?_;cbv;refine Or.inr (Or.inl ⟨_,.int X,Al.of (ag _ _ et),rfl,?_⟩);refine⟨G.2,X,_,_,_,_,_,_,_,d++[.ref r],ls++[(g.map (·.2),e.map (·.2),u.map (·.2))],l++[p.2],rfl,ag,aJ,aK,aM,by simp[bL],by simp[bM],bm,rg,bZ,λa w ai aj z=>?_⟩;rw[FJ,FJ];refine aw a w _ _ ?_;rw[ae];rw[bv] at z;exact .go LK ax (ei.trans (Prod.ext e5 rfl)) z
inductive Ii (K:Aj) (vs:List V) (H:Hp) (Q:VK):Prop where
 |mk (nt A t:Addr) (F:Addr->Prop) (W:Wd) (qs:List Qu) (inn:Int) (ord:A') (n:Int) (k:Nat) (q:Qu) (h0:vs=[.ref nt,.ref A,.ref t,.int n]) (h1:n=k) (h2:qs[k]?=some q) (h3:LC K F H nt A t W qs inn ord) (h4:PV W qs inn ord) (h5:∀(v:V)(a:C')(w:Option Wt)(ls:List Lk)(ts:List Int)(H':Hp),Ac H H'->Bc (λx=>H x=none) H' v (.tup [B3 a,KG w])->LU W inn ord q.1 q.2.1 q.2.2 0 a w ls ts->Q v H'):Ii K vs H Q
def Kb (K:Aj):Sp:=λvs H Q ζ=>Ii K vs H Q
abbrev Qx(P w K mg base):=BG P w K mg base "find" 8 ["net", "answers", "table", "question"] (Kb K)
def hH(af:BH mg)(Y:OK P w K mg base)(F:Bv K "find" "find" Rh f fd)(x:mg "find" = some (.ref f)):Qx P w K mg base:=by
 refine B0 F x Ot (λy H Q E h=>?_) (λak A an s H y Q E hr h=>?_);obtain⟨j,A,t,F,W,l,r,ord,n,k,q,rfl,_⟩:=h;rfl;obtain⟨j,A,t,F,W,l,r,ord,n,k,q,rfl,rfl,c,d,ok,z⟩:=h;obtain⟨ag,T,R,us,Gs,Es,m,b,B,e⟩:=d.net;have Z:k<l.length:=(Bi.mp c).1;have aa:k<b.length:=by rw[e.tq.len];exact Z
 have v:=AB aa;obtain⟨u,eq,C⟩:=e.tq.at_ k _ q v c;have ab:AS (b.map V.ref) (k:Int)=some (.ref b[k]):=A1 (by rw[AM,v];rfl);obtain⟨D,G,I,J⟩:=ok.q q (Bk c)
 refine⟨_,(Ar (DJ (A3 Y (Ab (pv 0) (Ab (pv 1) (Ab (pv 2) (Ab (An Ao (An Ao (pv 0) Ah) (pv 3)) Ae))))) (BP (n:=4) rfl (AA (Av (i:=4) Ot.nd) (AA (Av (i:=5) Ot.nd) (AA (Av (i:=6) Ot.nd) (AA (Av (i:=7) Ot.nd) BO))))))
  (Aw (AI (AQ (Ab (pv 4) (Ab (pv 5) Ae)))))),?_⟩
 rfl';refine Or.inr (Or.inl ⟨_,.ref R,Al.of B,rfl,Or.inl ⟨_,.ref b[k],Af.of e.er,ab,j,A,t,b[k],u,F,W,r,ord,q,rfl,d.caseH,d.tab,ok.ok,ok.sm,ok.ol,ok.irr,ok.inn,eq,C,D,G,I,J,λah ai T L M lv a w ls m aj N O hL eL eT S U al ae=>?_⟩⟩);refine⟨_,Al.of O,rfl,?_⟩;refine⟨BA,λp X=>?_⟩;have g:=AJ (o:=.tup [L,M]) X;exact z _ a w ls m _ (N.trans g) (.tup Aa (.cons (S.same g) (.cons (U.same g) .nil))) ae
variable {H:Hp}{v:V}
def W9{b:List Dt}(h:Aq K H v (.lst b)):∃a vs,v=.ref a/\Af K H a vs/\Ai K H vs b:=by cases h with|lst h t=>exact⟨_,_,rfl,h,t⟩
def Xa{b:List Dt}(h:Aq K H v (.tup b)):∃a vs,v=.ref a/\Al K H a vs/\Ai K H vs b:=by cases h with|tup h t=>exact⟨_,_,rfl,h,t⟩
def OL:Dt->Ty
 |.non=>.non
 |.bl _=>.bool
 |.int _=>.int
 |.str _=>.str
 |.tup _=>.tup
 |.lst _=>.lst
variable {d:Dt}
def Qy(h:Aq K H v d):Jh K H v (OL d):=by
 cases h with
 |non=>exact .non
 |bl b=>exact .bl b
 |int i=>exact .int i
 |str x=>exact .str x
 |tup h t=>exact .tup h
 |lst h t=>exact .lst h
def Kc(h:Aq K H v d):v=.non↔d=.non:=by
 cases h<;>simp
def Qz (K:Aj) (n:Nat):Sp:=λvs H Q ζ=>∃(x y:V)(d e:Dt),vs=[x,y]/\Aq K H x d/\Aq K H y e/\Dn n d/\Dn n e/\∀(b:Bool)(H':Hp),Ac H H'->(b=true↔d=e)->Q (.bl b) H'
abbrev hI (K:Aj):Sp:=Qz K 8
theorem hJ(B:BH mg)(n:Nat)(aj:BG P w K mg base "_law_same" (0+n) ["_law_found", "_law_due"] (Qz K n))(F:Bv K "_law_same" "_law_same" Nd f fd):Ex P w K mg base Iz (0+n+1) f fd ["_law_found", "_law_due"] (Qz K (n+1)):=by
 refine F.ok Tf (λvs H ag ah h=>?_) (λal ak an s H vs ag ah hr h=>?_);obtain⟨x,y,d,af,rfl,_⟩:=h;rfl;obtain⟨x,y,d,af,rfl,g,G,hd,W,q⟩:=h
 refine⟨_,(Ar (Bb (Gf (GS (pv 1))) (Aw (AI (Hk (GS (pv 0))))) Ba)
  (Ar (Bb (F6 (CH Ji B.b_isinstance (Ab (pv 1) (Ab (Jk "str" rfl B.b_str (by decide +kernel)) Ae)))) (Aw (AI (Rt (CH Ji B.b_isinstance (Ab (pv 0) (Ab (Jk "str" rfl B.b_str (by decide +kernel)) Ae))) (Ho (Ix B8 (pv 0) (pv 1) (Bj _)))))) Ba)
  (Ar (Bb (F6 (CH Ji B.b_isinstance (Ab (pv 1) (Ab (Jk "int" rfl B.b_int (by decide +kernel)) Ae)))) (Aw (AI (Rt (CH Ji B.b_isinstance (Ab (pv 0) (Ab (Jk "int" rfl B.b_int (by decide +kernel)) Ae))) (Rt (K8 (CH Ji B.b_isinstance (Ab (pv 0) (Ab (Jk "bool" rfl B.b_bool (by decide +kernel)) Ae)))) (Ho (Ix B8 (pv 0) (pv 1) (Bj _))))))) Ba)
  (Ar (Bb (PW.pt (Gx (F6 (CH Ji B.b_isinstance (Ab (pv 1) (Ab (Jk "list" rfl B.b_list (by decide +kernel)) Ae)))) (GU (Km (F6 (CH Ji B.b_isinstance (Ab (pv 0) (Ab (Jk "list" rfl B.b_list (by decide +kernel)) Ae)))))))) (Aw (AI G7)) Ba)
  (Ar (Bb (PW.pt (Gx (F6 (CH Ji B.b_isinstance (Ab (pv 1) (Ab (Jk "tuple" rfl B.b_tuple (by decide +kernel)) Ae)))) (GU (Km (F6 (CH Ji B.b_isinstance (Ab (pv 0) (Ab (Jk "tuple" rfl B.b_tuple (by decide +kernel)) Ae)))))))) (Aw (AI G7)) Ba)
  (Ar (Bb (Bp Nv (CH GA B.b_len (Ab (pv 0) Ae)) (CH GA B.b_len (Ab (pv 1) Ae)) (Bj _)) (Aw (AI G7)) Ba)
  (Ar (Cz Cu rfl (JE rfl B.b_zip (Ab (pv 0) (Ab (pv 1) Ae))) (BP (n:=2) rfl (AA (Av (i:=2) Tf.nd) (AA (Av (i:=3) Tf.nd) BO))) (Aw (Bb (Km (F6 (A3 aj (Ab (pv 2) (Ab (pv 3) Ae)) (hr.mono (by lia))))) (Aw (AI G7)) Ba)))
  (Aw (AI G7))))))))),?_⟩
 try dsimp only[AD,Cx.nox,Cx.wish]
 cases af with
 |non =>
   cases G;refine⟨rfl,Ap (λζ=>?_) (λh=>absurd (A5 rfl) h)⟩;exact q _ _ (Ac.refl _) ((decide_eq_true_iff).trans (Kc g))
 |bl b=>exact False.elim W
 |int s =>
   cases G;refine⟨rfl,Ap (λh=>absurd (Be h) (by simp)) (λζ=>?_)⟩;refine⟨_,.str,.int,rfl,.int s,rfl,Bm ?_⟩;refine⟨_,.int,.int,rfl,.int s,rfl,CP ?_⟩;refine⟨_,.int,OL d,rfl,Qy g,_,rfl,?_⟩
   cases d with
   |bl _=>exact False.elim hd
   |int Z =>
     cases g;refine CP ⟨_,.bool,.int,rfl,.int _,_,rfl,_,rfl,CP ⟨rfl,?_⟩⟩;refine q _ _ (Ac.refl _) ⟨λz=>?_,λz=>?_⟩;rw[V.int.inj (Be z)];cases z;exact A5 rfl
   |_=>exact Bm (q false _ (Ac.refl _) ⟨λz=>(by cases z),λz=>(by cases z)⟩)
 |str s =>
   cases G;refine⟨rfl,Ap (λh=>absurd (Be h) (by simp)) (λζ=>?_)⟩;refine⟨_,.str,.str,rfl,.str s,rfl,CP ?_⟩;refine⟨_,.str,OL d,rfl,Qy g,_,rfl,?_⟩
   cases d with
   |bl _=>exact False.elim hd
   |str Z =>
     cases g;refine CP ⟨rfl,?_⟩;refine q _ _ (Ac.refl _) ⟨λz=>?_,λz=>?_⟩;rw[V.str.inj (Be z)];cases z;exact A5 rfl
   |_=>exact Bm (q false _ (Ac.refl _) ⟨λz=>(by cases z),λz=>(by cases z)⟩)
 | lst k =>
   obtain⟨b,X,rfl,e,I⟩:=W9 G;have p:=I.length;refine⟨rfl,Ap (λh=>absurd (Be h) (by simp)) (λζ=>?_)⟩;refine⟨_,.str,.lst,rfl,.lst e,rfl,Bm ?_⟩;refine⟨_,.int,.lst,rfl,.lst e,rfl,Bm ?_⟩;refine⟨_,.lst,.lst,rfl,.lst e,rfl,CP ⟨_,.lst,OL d,rfl,Qy g,rfl,?_⟩⟩
   cases d with
   |lst r =>
     obtain⟨a,us,rfl,t,J⟩:=W9 g;have u:=J.length;refine Bm ⟨_,.tup,.lst,rfl,.lst e,rfl,Bm (Bm ?_)⟩;refine⟨_,Or.inl ⟨_,t,rfl⟩,_,Or.inl ⟨_,e,rfl⟩,rfl,rfl,Ap (λh=>?_) (λh=>?_)⟩;refine q false _ (Ac.refl _) ⟨λz=>(by cases z),λz=>?_⟩;cases z;rw[u,p] at h;simp at h
     have Y:r.length=k.length:=by
      rw[u,p] at h;simp at h;lia
     refine⟨a,b,rfl,Or.inl ⟨⟨_,t⟩,⟨_,e⟩,PL LK (xs:=us) (ys:=X) (λi σ L=>∃v A,σ=[some (.ref a),some (.ref b),v,A]/\Ac H L/\∀j:Nat,j<i->r[j]?=k[j]?) ⟨none,none,rfl,Ac.refl _,λj M=>absurd M (Nat.not_lt_zero _)⟩ (λi σ L aa=>by obtain⟨_,_,_,s,_⟩:=aa;exact⟨s.seq t,s.seq e⟩) ?_ ?_⟩⟩;rintro i x y T σ U ab ae hT ⟨v,A,rfl,C,D⟩;obtain⟨N,l,t1⟩:=J.get ab;obtain⟨O,E,t2⟩:=I.get ae;have Q:=AJ (o:=.tup [x,y]) hT;refine⟨_,Al.of Aa,rfl,?_⟩;generalize upd U T (.tup [x,y])=ai at Q ⊢;have m:=C.trans Q;refine⟨x,y,N,O,rfl,t1.same m,t2.same m,hd N (Bk l),W O (Bk E),λbb H3 R S=>⟨rfl,?_⟩⟩
     cases bb with
     |false =>
       refine CP (q false _ (m.trans R) ⟨λz=>(by cases z),λz=>?_⟩);have e1:r=k:=by cases z;rfl
       rw[e1,E] at l;have:=S.mpr (BS l).symm;cases this
     |true =>
       refine Bm ⟨_,_,rfl,m.trans R,λj M=>?_⟩;by_cases c:j=i;rw[c,l,E,S.mp rfl];exact D j (by lia)
     rintro σ U ⟨v,A,rfl,C,D⟩;refine q true _ C ⟨λζ=>?_,λζ=>rfl⟩;congr 1;refine List.ext_getElem? λj=>?_;by_cases c:j<k.length
     exact D j (by simp only[p,u,Y,Nat.min_self] at *;lia)
     rw[G5 (by lia),G5 (by lia)]
   |bl _=>exact False.elim hd
   |_=>exact CP (q false _ (Ac.refl _) ⟨λz=>(by cases z),λz=>(by cases z)⟩)
 | tup k =>
   obtain⟨b,X,rfl,e,I⟩:=Xa G;have p:=I.length;refine⟨rfl,Ap (λh=>absurd (Be h) (by simp)) (λζ=>?_)⟩;refine⟨_,.str,.tup,rfl,.tup e,rfl,Bm ?_⟩;refine⟨_,.int,.tup,rfl,.tup e,rfl,Bm ?_⟩;refine⟨_,.lst,.tup,rfl,.tup e,rfl,Bm (Bm ?_)⟩;refine⟨_,.tup,.tup,rfl,.tup e,rfl,CP ⟨_,.tup,OL d,rfl,Qy g,rfl,?_⟩⟩
   cases d with
   |tup r =>
     obtain⟨a,us,rfl,t,J⟩:=Xa g;have u:=J.length;refine Bm ?_;refine⟨_,Or.inr ⟨_,t,rfl⟩,_,Or.inr ⟨_,e,rfl⟩,rfl,rfl,Ap (λh=>?_) (λh=>?_)⟩;refine q false _ (Ac.refl _) ⟨λz=>(by cases z),λz=>?_⟩;cases z;rw[u,p] at h;simp at h
     have Y:r.length=k.length:=by
      rw[u,p] at h;simp at h;lia
     refine⟨a,b,rfl,Or.inr ⟨⟨_,t⟩,⟨_,e⟩,PL TK (xs:=us) (ys:=X) (λi σ L=>∃v A,σ=[some (.ref a),some (.ref b),v,A]/\Ac H L/\∀j:Nat,j<i->r[j]?=k[j]?) ⟨none,none,rfl,Ac.refl _,λj M=>absurd M (Nat.not_lt_zero _)⟩ (λi σ L aa=>by obtain⟨_,_,_,s,_⟩:=aa;exact⟨s.seqT t,s.seqT e⟩) ?_ ?_⟩⟩;rintro i x y T σ U ab ae hT ⟨v,A,rfl,C,D⟩;obtain⟨N,l,t1⟩:=J.get ab;obtain⟨O,E,t2⟩:=I.get ae;have Q:=AJ (o:=.tup [x,y]) hT;refine⟨_,Al.of Aa,rfl,?_⟩;generalize upd U T (.tup [x,y])=ai at Q ⊢;have m:=C.trans Q;refine⟨x,y,N,O,rfl,t1.same m,t2.same m,hd N (Bk l),W O (Bk E),λbb H3 R S=>⟨rfl,?_⟩⟩
     cases bb with
     |false =>
       refine CP (q false _ (m.trans R) ⟨λz=>(by cases z),λz=>?_⟩);have e1:r=k:=by cases z;rfl
       rw[e1,E] at l;have:=S.mpr (BS l).symm;cases this
     |true =>
       refine Bm ⟨_,_,rfl,m.trans R,λj M=>?_⟩;by_cases c:j=i;rw[c,l,E,S.mp rfl];exact D j (by lia)
     rintro σ U ⟨v,A,rfl,C,D⟩;refine q true _ C ⟨λζ=>?_,λζ=>rfl⟩;congr 1;refine List.ext_getElem? λj=>?_;by_cases c:j<k.length
     exact D j (by simp only[p,u,Y,Nat.min_self] at *;lia)
     rw[G5 (by lia),G5 (by lia)]
   |bl _=>exact False.elim hd
   |_=>exact CP (q false _ (Ac.refl _) ⟨λz=>(by cases z),λz=>(by cases z)⟩)
def hQ(B:BH mg)(F:Bv K "_law_same" "_law_same" Nd f fd)(a:mg "_law_same" = some (.ref f))(n:Nat):BG P w K mg base "_law_same" (0+n) ["_law_found", "_law_due"] (Qz K n):=by
 have b:Binds K fd ["_law_found", "_law_due"] []:=F.binds λζ ζ ζ ζ ζ ζ us c=>(by obtain⟨g,i,rfl⟩:=H2 c;rfl)
 induction n with
 |zero=>exact⟨f,fd,⟨λd H Q E h=>(by obtain⟨_,_,_,_,_,_,_,h,_⟩:=h;exact False.elim h),λA k s H j us d Q E ζ ζ ζ ζ h=>(by obtain⟨_,_,_,_,_,_,_,h,_⟩:=h;exact False.elim h)⟩,a,F.kp,b⟩
 |succ n e=>exact⟨f,fd,hJ B n e F,a,F.kp,b⟩
abbrev QA(P w K mg base):=BG P w K mg base "_law_same" 8 ["_law_found", "_law_due"] (hI K)
def hU(B:BH mg)(F:Bv K "_law_same" "_law_same" Nd f fd)(a:mg "_law_same" = some (.ref f)):QA P w K mg base:=
 hQ B F a 8
def G4 (as:List (C')) (p:DK):Str×Int:=if p.2.2.1=("thing" : Str) then("thing",p.2.2.2) else match as[p.2.2.2.toNat]? with
 |some (some a)=>if a.1=("thing" : Str) then a else("none",0)
 |some none=>("open",p.2.2.2)
 |none=>("none",0)
def hV(p:DK):AS (Fs p) ((2:Nat):Int)=some (.str p.2.2.1):=A1 (j:=2) rfl
def T8(p:DK):AS (Fs p) ((3:Nat):Int)=some (.int p.2.2.2):=A1 (j:=3) rfl
inductive DG (K:Aj) (vs:List V) (H:Hp) (Q:VK):Prop where
 |mk (A tp:Addr) (as:List (C')) (th:Nat) (p:DK) (h0:vs=[.ref A,.ref tp]) (h1:He K H A as) (h2:Al K H tp (Fs p)) (h3:Ft th as.length p) (h4:∀(t:Addr)(H':Hp),Ac H H'->Al K H' t [.str (G4 as p).1,.int (G4 as p).2]->Q (.ref t) H'):DG K vs H Q
def Xb (K:Aj):Sp:=λvs H Q ζ=>DG K vs H Q
abbrev T9(P w K mg base):=BG P w K mg base "_law_meant" 1 ["_law_answers", "_law_telling_here"] (Xb K)
def hW(B:BH mg)(F:Bv K "_law_meant" "_law_meant" Ri f fd)(y:mg "_law_meant" = some (.ref f)):T9 P w K mg base:=by
 refine B0 F y WQ (λz H Q E h=>?_) (λU A W s H z Q E S h=>?_);obtain⟨A,C,as,D,p,rfl,_⟩:=h;rfl;obtain⟨A,C,as,D,p,rfl,hA,j,G,q⟩:=h
 refine⟨_,(Ar (Bb (Bp B8 (An Ao (pv 1) Ah) AW (Bj _)) (Aw (AI (AQ (Ab AW (Ab (An Ao (pv 1) Ah) Ae))))) Ba)
  (Ar (AN (i:=2) WQ.nd (An Ao (pv 0) (An Ao (pv 1) Ah)))
  (Ar (Bb (Gf (GS (pv 2))) (Aw (AI (AQ (Ab AW (Ab (An Ao (pv 1) Ah) Ae))))) Ba)
  (Ar (Bb (Bp B8 (An Ao (pv 2) Ah) AW (Bj _)) (Aw (AI (pv 2))) Ba)
  (Aw (AI (AQ (Ab AW (Ab Ah Ae))))))))),?_⟩
 rfl';refine(Or.inr (Or.inl ⟨_,.str p.2.2.1,j,hV p,rfl,rfl,Ap (λm=>?_) (λm=>?_)⟩));have b:p.2.2.1=("thing" : Str):=V.str.inj (Be m);refine(Or.inr (Or.inl ⟨_,.int p.2.2.2,j,T8 p,BA,λt c=>?_⟩));have d:=AJ (o:=.tup [.str "thing",.int p.2.2.2]) c;refine q t _ d (Al.of ?_);unfold G4;rw[Au b];exact Aa;have b:¬p.2.2.1=("thing" : Str):=λe=>m (A5 (by rw[e]));rcases G with⟨e,_⟩|⟨_,I,T⟩;exact absurd e b;obtain⟨k,g⟩:=Co I;have N:k<as.length:=(by lia);obtain⟨u,v,O,J,L⟩:=hA.get N;have R:AS u p.2.2.2=some v:=by rw[g];exact A1 J
 refine(Or.inr (Or.inl ⟨_,.int p.2.2.2,j,T8 p,Or.inl ⟨u,v,O,R,?_⟩⟩));rcases L with⟨l,rfl⟩|⟨a,M,l,rfl,x⟩;refine⟨rfl,Ap (λζ=>?_) (λh=>absurd (A5 rfl) h)⟩;refine(Or.inr (Or.inl ⟨_,.int p.2.2.2,j,T8 p,BA,λt c=>?_⟩));have d:=AJ (o:=.tup [.str "open",.int p.2.2.2]) c;refine q t _ d (Al.of ?_);unfold G4;rw[At b,g,Bl,l];rw[<-g];exact Aa;refine⟨rfl,Ap (λh=>absurd (Be h) (by simp)) (λζ=>?_)⟩;refine(Or.inr (Or.inl ⟨_,.str a.1,x,rfl,rfl,rfl,Ap (λn=>?_) (λn=>?_)⟩));have r:a.1=("thing" : Str):=V.str.inj (Be n);refine q M _ (Ac.refl _) ?_;unfold G4;rw[At b,g,Bl,l];dsimp only;rw[Au r];exact x;have r:¬a.1=("thing" : Str):=λe=>n (A5 (by rw[e]));refine⟨BA,λt c=>?_⟩;have d:=AJ (o:=.tup [.str "none",.int 0]) c;refine q t _ d (Al.of ?_);unfold G4;rw[At b,g,Bl,l];dsimp only;rw[At r];exact Aa
def Xc:("thing" : Str)≠("by" : Str):=by decide +kernel
def Xd:("thing" : Str)≠("open" : Str):=by decide +kernel
def hZ:("none" : Str)≠("open" : Str):=by decide +kernel
def OM:Option Int->Str×Int
 |some n=>("thing",n)
 |none=>("none",0)
def iA{a b:Option Int}(h:OM a=OM b):a=b:=by
 cases a with
 |none =>
   cases b with
   |none=>rfl
   |some n=>exact absurd (Bq Prod.fst h) M4
 |some m =>
   cases b with
   |none=>exact absurd (Bq Prod.fst h).symm M4
   |some n=>exact Bq some (Bq Prod.snd h)
def iB{w:List As}{p:DK}{th:Int}(e:CS W.ss w=p)(f:Ft th W.as.length p):((G4 W.as p).1=("open" : Str)/\GF W w=some (G4 W.as p).2)\/(¬(G4 W.as p).1=("open" : Str)/\GF W w=none/\G4 W.as p=OM (BN W w)):=by
 unfold GF BN G4;rw[e];rcases f with⟨b,_⟩|⟨b,h,i⟩;right;rw[Au b,At (λz=>Xc (b.symm.trans z.1)),Au b];exact⟨Xd,rfl,rfl⟩;have d:¬p.2.2.1=("thing" : Str):=λz=>Xc (z.symm.trans b);rw[At d,At d]
 cases g:W.as[p.2.2.2.toNat]? with
 |none=>rw[List.getElem?_eq_none_iff] at g;lia
 |some o =>
   cases o with
   |none =>
     left;rw[Au ⟨b,rfl⟩];exact⟨rfl,rfl⟩
   |some a =>
     right;rw[At (λz=>by cases z.2)];dsimp only;by_cases c:a.1=("thing" : Str);rw[Au c,Au c];exact⟨λz=>Xd (c.symm.trans z),rfl,Prod.ext c rfl⟩;rw[At c,At c];exact⟨hZ,rfl,rfl⟩
def Bg (W:Wd) (w:List As):Str×Int:=G4 W.as (CS W.ss w)
def QB(a:BK W){w:List As}(h:Cq W.ss w):((Bg W w).1=("open" : Str)/\GF W w=some (Bg W w).2)\/(¬(Bg W w).1=("open" : Str)/\GF W w=none/\Bg W w=OM (BN W w)):=iB (th:=W.gs.length) rfl (M0 a h)
variable {ws:List (List As)}{os:List Ow}
def iC{o:Ow}(h:FG W.ss ord ws os=some o):Cr W ord ws os 0=(none,some (0,o.1,o.2)):=SO (by unfold Hh;rw[h])
def iD{o:Ow}(h:FG W.ss ord ws os=none)(k:FF W (Dj W.ss ord ws ws)=some o):Cr W ord ws os 0=(none,some (0,o.1,o.2)):=SO (by unfold Hh;rw[h];exact k)
def QC(h:FG W.ss ord ws os=none)(k:FF W (Dj W.ss ord ws ws)=none)(e:Ej W (Dj W.ss ord ws ws) 0=p):Cr W ord ws os 0=(some p,none):=by rw[PP (by unfold Hh;rw[h];exact k),e]
def Kd(g:BK W){w:List As}{r:List (List As)}(i:∀v∈w::r,Cq W.ss v)(j:FF W (w::r)=none):Ej W (w::r) 0=if ∀v∈w::r,Bg W v=Bg W w then Bg W w else(("torn" : Str),0):=by
 have b:∀v∈w::r,Bg W v=OM (BN W v):=λv a=>by
  rcases QB g (i v a) with⟨_,d⟩|⟨_,_,k⟩;rw[SV j v a] at d;cases d;exact k
 have f:(∀v∈w::r,Bg W v=Bg W w)↔∀v∈w::r,BN W v=BN W w:=by
  constructor;intro h v a;have:=h v a;rw[b v a,b w BF] at this;exact iA this;intro h v a;rw[b v a,b w BF,h v a]
 by_cases c:∀v∈w::r,BN W v=none;rw[SQ c,Au (f.mpr λv a=>(c v a).trans (c _ BF).symm),b w BF,c w BF];rfl;by_cases e:∀v∈w::r,BN W v=BN W w;obtain⟨n,l,d⟩:=V9 (at_:=0) c e;rw[Au (f.mpr e),b w BF,l,d];rfl;rw[At (λz=>e (f.mp z)),V8 c e]
def iE{q:Str×Int}(h:DS p=DS q):p=q:=by
 have e:[Dt.str p.1,Dt.int p.2]=[Dt.str q.1,Dt.int q.2]:=Dt.tup.inj h;exact Prod.ext (Dt.str.inj (List.cons.inj e).1) (Dt.int.inj (List.cons.inj (List.cons.inj e).2).1)
def MG{t:Addr}(h:Al K H t [.str p.1,.int p.2]):Aq K H (.ref t) (DS p):=.tup h (.cons (.str _) (.cons (.int _) .nil))
def EK{l:List Dt}:(decide (((l.countP λe=>dec (e=d):Nat):Int)<(l.length:Nat)))=false↔∀e∈l,e=d:=by
 have c:=List.countP_le_length (p:=λe=>dec (e=d)) (l:=l);rw[decide_eq_false_iff_not];constructor;intro h e a;have b:l.countP (λe=>dec (e=d))=l.length:=(by lia);exact B7.mp (List.countP_eq_length.mp b e a);intro h;have b:l.countP (λe=>dec (e=d))=l.length:=List.countP_eq_length.mpr λe a=>Ep (h e a);lia
def Xe:([]:List V).length+1+1+1<=sizeLine:=by decide
def QD:∀{K:Aj}{H:Hp}{vs:List V}{c:List Dt}{v:V}{d:Dt},Ai K H vs c->Aq K H v d->Ai K H (vs++[v]) (c++[d]):=λa b=>Ai.append a (.cons b .nil)
def Ke:([]:List V).length+1+1<=sizeLine:=by decide
inductive EM (K:Aj) (vs:List V) (H:Hp) (Q:VK):Prop where
 |mk (nt A t D E SH:Addr) (F G1 G2:Addr->Prop) (W:Wd) (inn:Int) (ord:A') (zs sub:List (Addr×List As)) (os:List (Addr×Ow)) (h0:vs=[.ref nt,.ref t,.ref A,.ref D,.ref E,.ref SH]) (h1:A6 K H nt A t W) (h2:Fq K F H t W.sts inn ord) (h3:BK W) (h4:H D=some (.lst (zs.map λz=>V.ref z.1))) (h5:(∀z∈zs,BW G1 H z.1 z.2)) (h6:(∀z∈zs,GD W.ss z.2)) (h7:(∀z∈zs,Cq W.ss z.2)) (h8:zs.length<=62) (h9:H E=some (.lst (os.map λz=>V.ref z.1))) (h10:(∀z∈os,EB G2 H z.1 z.2)) (h11:(∀z∈os,GD W.ss z.2.1)) (h12:H SH=some (.lst (sub.map λz=>V.ref z.1))) (h13:sub.map (·.2)=Dj W.ss ord (zs.map (·.2)) (zs.map (·.2))) (h14:(∀z∈sub,z∈zs)) (h15:∀(r:Addr)(a:C')(w:Option Wt)(H':Hp),Ac H H'->Cr W ord (zs.map (·.2)) (os.map (·.2)) 0=(a,w)->Aq K H' (.ref r) (.tup [B3 a,KG w])->Q (.ref r) H'):EM K vs H Q
def iF (K:Aj):Sp:=λvs H Q ζ=>EM K vs H Q
abbrev QE(P w K mg base):=BG P w K mg base "_law_end" 4 ["_law_net", "_law_table", "_law_answers", "_law_ways_here", "_law_dues", "_law_shown"] (iF K)
def iG(a3:BH mg)(aS:OG P w K mg base)(aT:T9 P w K mg base)(F:Bv K "_law_end" "_law_end" O1 f fd)(hm:mg "_law_end" = some (.ref f)):QE P w K mg base:=by
 refine B0 F hm M7 (λvs H aK aL ao=>?_) (λbq ab bt s H vs aK aL g ao=>?_);obtain⟨nt,ab,t,ak,E',SH,F,G1,G2,W,a7,ord,h,sub,os,rfl,_⟩:=ao;rfl;obtain⟨nt,ab,t,ak,E',SH,F',G1,G2,W,a7,ord,h,sub,os,rfl,hC,TB,sm,eD,hz,oz,ez,lz,eE,ho,oo,aU,M,hm,q⟩:=ao;obtain⟨⟨a4,aM,aN,us,Gs,Es,ts,qt,qs,eN,N3⟩,hA,_⟩:=hC
 refine⟨_,(Ar (Cz Cu rfl (Dg (pv 4)) (BP (n:=2) rfl (AA (Av (i:=6) M7.nd) (AA (Av (i:=7) M7.nd) BO))) (Aw (Bb (Km (F6 (A3 aS (Ab (pv 0) (Ab (pv 1) (Ab (pv 3) (Ab (pv 6) Ae))))))) (Aw (AI (AQ (Ab FM (Ab (AQ (Ab Ah (Ab (pv 6) (Ab (pv 7) Ae)))) Ae))))) Ba)))
  (Ar (Ly (i:=8) M7.nd rfl (Or.inl rfl) (te:=Pa (Xb K) [] E0 (F8 (A0 1) (F8 (Ck (Ey K) (Ck (Ey K) (Ck (Ey K) (Ck (Ey K) (A0 2) (tC (.int ((0:Nat):Int)))) (Ck (Ey K) (Ck (Ey K) (A0 0) (RB (rU λi=>.int (-i)) (tC (.int ((1:Nat):Int))))) (tC (.int ((0:Nat):Int))))) (tC (.int ((1:Nat):Int)))) (Ck (Ey K) (Ck (Ey K) (A0 0) (RB (rU λi=>.int (-i)) (tC (.int ((1:Nat):Int))))) (tC (.int ((2:Nat):Int))))) Fo))) rfl Du (Dg (pv 5)) (λζ ζ ζ ζ ζ=>(Av (i:=0) Du.nd)) (λζ ζ ζ ζ ζ=>GB) (λζ ζ ζ ζ ζ=>(A3 aT (Ab (pv 1) (Ab (An Ao (An Ao (An Ao (An Ao (pv 2) Ah) (An Ao (An Ao (pv 0) (Ko Kq Ah)) Ah)) Ah) (An Ao (An Ao (pv 0) (Ko Kq Ah)) Ah)) Ae)))))
  (Ar (Cz Cu rfl (Hy rfl a3.b_zip (Ab (pv 5) (Ab (pv 8) Ae))) (BP (n:=2) rfl (AA (Av (i:=6) M7.nd) (AA (Av (i:=9) M7.nd) BO))) (Aw (Bb (Bp B8 (An Ao (pv 9) Ah) AW (Bj _)) (Aw (AI (AQ (Ab FM (Ab (AQ (Ab Ah (Ab (pv 6) (Ab (An Ao (pv 9) Ah) Ae)))) Ae))))) Ba)))
  (Ar (Bb (Bp (HA g.units) (pv 8) (Cg Ae) (Bj _)) (Aw (AI (AQ (Ab (AQ (Ab AW (Ab Ah Ae))) (Ab FM Ae))))) Ba)
  (Ar (Bb (Bp IX (DQ Ec PySem.F.slot_list_count PySem.F.type_list_count (Y4 g.units) (pv 8) (Ab (An Ao (pv 8) Ah) Ae)) (CH GA a3.b_len (Ab (pv 8) Ae)) (Bj _)) (Aw (AI (AQ (Ab (AQ (Ab AW (Ab Ah Ae))) (Ab FM Ae))))) Ba)
  (Ar (Bb (Bp B8 (An Ao (An Ao (pv 8) Ah) Ah) AW (Bj _)) (Aw (AI (AQ (Ab (AQ (Ab AW (Ab Ah Ae))) (Ab FM Ae))))) Ba)
  (Aw (AI (AQ (Ab (An Ao (pv 8) Ah) (Ab FM Ae))))))))))),?_⟩
 rfl';refine⟨⟨_,Af.of eE⟩,Fn (xs:=os.map λz=>V.ref z.1) (λi σ C=>∃u5 u6,σ=[some (.ref nt),some (.ref t),some (.ref ab),some (.ref ak),some (.ref E'),some (.ref SH),u5,u6,none,none]/\Ac H C/\FG W.ss ord (h.map (·.2)) (os.map (·.2))=FG W.ss ord (h.map (·.2)) ((os.map (·.2)).drop i)) ⟨none,none,rfl,Ac.refl _,rfl⟩ (λi σ C ζ ae=>by obtain⟨_,_,_,s,_⟩:=ae;exact Af.of (s _ _ eE)) ?_ ?_⟩;rintro i al σ a5 N ⟨u5,u6,rfl,A,m⟩;obtain⟨z,a8,rfl⟩:=getm N;have D:=Bk a8;obtain⟨l,U,hl⟩:=(ho z D).way;rw[Og (x:=z.2) (by rw[AM,a8];rfl)] at m;refine⟨_,Al.of (A _ _ U),rfl,?_⟩;cbv;refine⟨nt,a4,aM,aN,t,ak,l,us,Gs,Es,W.ss,F',G1,G2,W.sts,a7,ord,h,z.2.1,rfl,A _ _ eN,N3.sc.same A,TB.same A,A _ _ eD,(λal N=>(hz al N).same A),oz,hl.same A,oo z D,λbn s2=>⟨rfl,Ap (λc=>?_) (λc=>?_)⟩⟩
 have c':((h.map (·.2)).any λv=>Cv W.ss ord v z.2.1)=false:=by
  rw[Bool.not_eq_true'] at c;exact c
 have af:=A.trans s2;refine⟨Xe,λp u=>?_⟩;obtain⟨H3,aV,J,I⟩:=new_at (o:=.tup [.int 0,.ref l,.int z.2.2]) u;rw[<-aV];refine⟨Ke,λr g=>?_⟩;have a:=AJ (o:=.tup [.non,.ref p]) g;exact q r _ _ _ ((af.trans J).trans a) (iC (m.trans (Wc c'))) (.tup (Al.of Aa) (.cons .non (.cons (.tup (Al.of (a _ _ I)) (.cons (.int _) (.cons (hl.same ((af.trans J).trans a)).dt (.cons (.int _) .nil)))) .nil)))
 have c':((h.map (·.2)).any λv=>Cv W.ss ord v z.2.1)=true:=by
  cases e:((h.map (·.2)).any λv=>Cv W.ss ord v z.2.1) with
  |true=>rfl
  |false=>rw[e] at c;exact absurd rfl c
 exact⟨_,_,rfl,A.trans s2,m.trans (We c')⟩;rintro σ a5 ⟨u5,u6,rfl,A,m⟩
 have ag:FG W.ss ord (h.map (·.2)) (os.map (·.2))=none:=by
  rw[Ak] at m;rw[m,List.drop_eq_nil_of_le (by rw[Ak];exact AG _)];rfl
 clear m;have af:=A;have ay:=A _ _ aU
 have bs:sub.length<=62:=by
  have O:=Bq List.length M;have h2:=SI (ss:=W.ss) (ord:=ord) (all:=h.map (·.2)) (l:=h.map (·.2));rw[Ak] at O;rw[Ak] at h2;lia
 refine⟨⟨_,Af.of ay⟩,LF (xs:=sub.map λz=>V.ref z.1) (λX i ys C=>Ac a5 C/\C X=some (.lst ys)/\Ai K C ys (((sub.take i).map λz=>Bg W z.2).map DS)/\ys.length=i)
  (λX ar=>⟨AJ ar,Aa,.nil,rfl⟩) (λX i ys C ae=>by obtain⟨s,_⟩:=ae;exact Af.of (s _ _ ay)) (λX j al ys H3 RR ar N Q k=>?_) (λaq ys H3 hM Q=>?_)⟩
 obtain⟨J,aW,ah,Y⟩:=Q;obtain⟨z,R,rfl⟩:=getm N;have D:=hm z (Bk R);have br:j<sub.length:=(Bi.mp R).1;have G:=af.trans J;obtain⟨bo,Z,ev,aX,aP⟩:=ez z D;have hw:=(hz z D).same G;rw[ev] at hw;obtain⟨ms,tm,U,a9,aA⟩:=PQ hw;refine AL λNz ai=>?_;obtain⟨n1,k1,aO,aB,aC,au,aY⟩:=aX;refine ai ?_;clear ai;have bj:n1<W.ss.length:=(Bi.mp au).1;refine AL λNz ai=>?_;obtain⟨u',G',E9,aQ,bp,f3,f4,⟨a1,_,⟨tE,d1,d2⟩⟩⟩:=N3.sc.get bj;refine ai ?_;clear ai;rw[au] at f4;have es:=BS f4;rw[<-es] at d2;have bk:AS (us.map V.ref) Z.1=some (.ref u'):=by rw[aB];exact A1 (by rw[AM,aQ];rfl)
 have az:k1<aO.2.length:=by
  rcases aY with⟨e,_⟩|⟨_,e⟩;exact absurd (aP.symm.trans e) (by decide +kernel);exact e
 have u:=AB az;have et:tE[k1]?=some (tE[k1]'(by rw[d2.len];exact az)):=AB _;generalize tE[k1]'(by rw[d2.len];exact az)=tp at et;have aD:=d2.at_ _ _ _ et u;rw[<-PM aB aC au u] at aD;have bl:AS (tE.map V.ref) Z.2.2=some (.ref tp):=by rw[aC];exact A1 (by rw[AM,et];rfl)
 refine Or.inr (Or.inl ⟨_,.ref a4,Al.of (G _ _ eN),rfl,Or.inl ⟨_,.ref tm,Af.of U,a9,Or.inr (Or.inl ⟨_,.int Z.1,Al.of aA,rfl,Or.inl ⟨_,.ref u',Af.of (G _ _ N3.sc.top),bk,Or.inr (Or.inl ⟨_,.ref E9,Al.of (G _ _ a1),rfl,Or.inl ⟨_,.ref tm,Af.of U,a9,Or.inr (Or.inl ⟨_,.int Z.2.2,Al.of aA,rfl,Or.inl ⟨_,.ref tp,Af.of (G _ _ d1),bl,?_⟩⟩)⟩⟩)⟩⟩)⟩⟩);refine⟨ab,tp,W.as,W.gs.length,IC W.ss Z,rfl,hA.same G,Al.of (G _ _ aD),?_,λtg H4 a aZ=>?_⟩;have:=M0 sm (ez z D);rw[ev,L3] at this;exact this;have aE:=a _ _ aW;have kD:Keeps (·=X) H4 (upd H4 X (.lst (ys++[.ref tg]))):=Keeps.one aE;refine k _ _ aE (by rw[Y];exact BL (by lia)) ⟨λb o e=>?_,Aa,?_,by rw[AO,Y];rfl⟩;rw[AH (AV e ar)];exact a _ _ (J _ _ e);rw[D7,R,A8,A8];refine Ai.append (kD.gos (ah.same a)) (.cons (MG ?_) .nil);have aR:Bg W z.2=G4 W.as (IC W.ss Z):=by unfold Bg;rw[ev,L3]
 show Al K _ tg [.str (Bg W z.2).1,.int (Bg W z.2).2];rw[aR];exact kD.seqT aZ;obtain⟨J,eM,ah,Y⟩:=Q;rw[Ak] at Y;rw[Ak,De] at ah;have G:=af.trans J;have aH:=J _ _ ay;cbv;have ba:(sub.map (·.2)).length=sub.length:=Ak _;refine⟨SH,aq,rfl,⟨_,Af.of aH⟩,⟨_,Af.of eM⟩,PL LK (xs:=sub.map λz=>V.ref z.1) (ys:=ys) (λi σ C=>∃u5 u9,σ=[some (.ref nt),some (.ref t),some (.ref ab),some (.ref ak),some (.ref E'),some (.ref SH),u5,u6,some (.ref aq),u9]/\Ac H3 C/\FF W (sub.map (·.2))=FF W ((sub.map (·.2)).drop i)) ⟨_,none,rfl,Ac.refl _,rfl⟩ (λi σ C ae=>by obtain⟨_,_,_,s,_⟩:=ae;exact⟨Af.of (s _ _ aH),Af.of (s _ _ eM)⟩) ?_ ?_⟩;rintro i x al T' σ H4 hx N bb ⟨bc,u9,rfl,a,m⟩;obtain⟨z,R,rfl⟩:=getm hx;have D:=hm z (Bk R);obtain⟨d,hd,bd⟩:=ah.get N;rw[AM,AM,R] at hd;have be:DS (Bg W z.2)=d:=BS hd;subst be;obtain⟨tg,rfl,a6⟩:=Kx (bd.same a);rw[Og (x:=z.2) (by rw[AM,R];rfl)] at m;obtain⟨H5,av,L,eT⟩:=new_at (o:=.tup [.ref z.1,.ref tg]) bb;rw[<-av];refine⟨_,Al.of eT,rfl,?_⟩;refine(Or.inr (Or.inl ⟨_,.str (Bg W z.2).1,L.seqT a6,rfl,rfl,rfl,Ap (λc=>?_) (λc=>?_)⟩));have e1:(Bg W z.2).1=("open" : Str):=V.str.inj (Be c);refine(Or.inr (Or.inl ⟨_,.int (Bg W z.2).2,L.seqT a6,rfl,Xe,λp u=>?_⟩));obtain⟨H6,S,E,I⟩:=new_at (o:=.tup [.int 0,.ref z.1,.int (Bg W z.2).2]) u;rw[<-S];refine⟨Ke,λr g=>?_⟩;have B:=AJ (o:=.tup [.non,.ref p]) g;have aF:=((G.trans (a.trans L)).trans E).trans B
 have ho:GF W z.2=some (Bg W z.2).2:=by
  rcases QB sm (ez z D) with⟨_,h2⟩|⟨O,_⟩;exact h2;exact absurd e1 O
 refine q r _ _ _ aF (iD ag (o:=(z.2,(Bg W z.2).2)) ?_) (.tup (Al.of Aa) (.cons .non (.cons (.tup (Al.of (B _ _ I)) (.cons (.int _) (.cons ((hz z D).same aF).dt (.cons (.int _) .nil)))) .nil)));rw[<-M,m];exact SU ho;have e1:¬(Bg W z.2).1=("open" : Str):=λe=>c (A5 (by rw[e]))
 have ho:GF W z.2=none:=by
  rcases QB sm (ez z D) with⟨O,_⟩|⟨_,h2,_⟩;exact absurd O e1;exact h2
 exact⟨_,_,rfl,a.trans L,m.trans (PR ho)⟩;rintro σ H4 ⟨bc,u9,rfl,a,m⟩;rw[Ak,Y,Nat.min_self,List.drop_eq_nil_of_le (by rw[ba];exact AG _)] at m;have aa:FF W (Dj W.ss ord (h.map (·.2)) (h.map (·.2)))=none:=by rw[<-M,m];rfl
 have bf:=a _ _ eM;have bm:=ah.same a;have bg:=G.trans a;refine⟨DP _,λl hl=>?_⟩;obtain⟨H5,av,L,U⟩:=new_at (o:=.lst []) hl;rw[<-av];have an:=bg.trans L;have T:=L _ _ bf;have a0:=bm.same L;refine⟨1,.lst ((sub.map λz:Addr×List As=>Bg W z.2).map DS),.lst [],.lst (.nil' _),by decide,.lst (Af.of T) a0,.lst (Af.of U) .nil,rfl,Ap (λc=>?_) (λc=>?_)⟩;have e1:(sub.map λz:Addr×List As=>Bg W z.2).map DS=[]:=Dt.lst.inj (B7.mp c);have e2:sub=[]:=List.map_eq_nil_iff.mp (List.map_eq_nil_iff.mp e1);refine⟨Ke,λp u=>?_⟩;obtain⟨H6,S,E,I⟩:=new_at (o:=.tup [.str "none",.int 0]) u;rw[<-S];refine⟨Ke,λr g=>?_⟩;have B:=AJ (o:=.tup [.ref p,.non]) g;refine q r _ _ _ (an.trans (E.trans B)) (QC (p:=(("none" : Str),0)) ag aa ?_) (.tup (Al.of Aa) (.cons (.tup (Al.of (B _ _ I)) (.cons (.str _) (.cons (.int _) .nil))) (.cons .non .nil)));rw[<-M,e2];exact SQ λw hw=>by cases hw
 cases sub with
 |nil=>exact absurd (Ep rfl) c
 |cons y r0 =>
   have aG:∀v∈((y::r0).map (·.2)),Cq W.ss v:=λv Q=>by
    obtain⟨z,aj,rfl⟩:=AF.mp Q;exact ez z (hm z aj)
   have aI:=Kd sm (w:=y.2) (r:=r0.map λz:Addr×List As=>z.2) aG (by rw[<-M] at aa;exact aa);obtain⟨y0,bh,aw⟩:=a0.get' (i:=0) (d:=DS (Bg W y.2)) rfl;obtain⟨t0,rfl,bi⟩:=Kx aw;have ax:AS ys ((0:Nat):Int)=some (.ref t0):=A1 bh;refine⟨Or.inl ⟨rfl,_,Af.of T⟩,Or.inl ⟨_,.ref t0,Af.of T,ax,2,DS (Bg W y.2),_,aq,ys,.ref t0,rfl,rfl,Af.of T,a0,aw,λe he=>?_,by decide,_,Or.inl ⟨_,Af.of T,rfl⟩,rfl,?_⟩⟩;obtain⟨p,_,rfl⟩:=AF.mp he;exact Se p _;have ll:ys.length=(((y::r0).map λz:Addr×List As=>Bg W z.2).map DS).length:=by rw[Ak,Ak];exact Y
   rw[ll];refine Ap (λc2=>?_) (λc2=>?_);refine⟨Ke,λp u=>?_⟩;obtain⟨H6,S,E,I⟩:=new_at (o:=.tup [.str "torn",.int 0]) u;rw[<-S];refine⟨Ke,λr g=>?_⟩;have B:=AJ (o:=.tup [.ref p,.non]) g;refine q r _ _ _ (an.trans (E.trans B)) (QC (p:=(("torn" : Str),0)) ag aa ?_) (.tup (Al.of Aa) (.cons (.tup (Al.of (B _ _ I)) (.cons (.str _) (.cons (.int _) .nil))) (.cons .non .nil)));rw[<-M];refine aI.trans (At λa2=>?_)
   have:=EK.mpr (show ∀e∈((y::r0).map λz:Addr×List As=>Bg W z.2).map DS,e=DS (Bg W y.2) from λe he=>by
    obtain⟨p,u,rfl⟩:=AF.mp he;obtain⟨z,aj,rfl⟩:=AF.mp u
    rw[a2 z.2 (AF.mpr ⟨z,aj,rfl⟩)])
   rw[this] at c2;cases c2
   have aJ:Ej W (Dj W.ss ord (h.map (·.2)) (h.map (·.2))) 0=Bg W y.2:=by
    rw[<-M];refine aI.trans (Au λv Q=>?_);obtain⟨z,aj,rfl⟩:=AF.mp (show v∈(y::r0).map (λz:Addr×List As=>z.2) from Q);have a2:=EK.mp (Bool.eq_false_iff.mpr c2);exact iE (a2 _ (AF.mpr ⟨_,AF.mpr ⟨z,aj,rfl⟩,rfl⟩))
   refine(Or.inl ⟨_,.ref t0,Af.of T,ax,Or.inr (Or.inl ⟨_,.str (Bg W y.2).1,bi,rfl,rfl,rfl,Ap (λc3=>?_) (λc3=>?_)⟩)⟩);have e3:(Bg W y.2).1=("none" : Str):=V.str.inj (Be c3);refine⟨Ke,λp u=>?_⟩;obtain⟨H6,S,E,I⟩:=new_at (o:=.tup [.str "none",.int 0]) u;rw[<-S];refine⟨Ke,λr g=>?_⟩;have B:=AJ (o:=.tup [.ref p,.non]) g;refine q r _ _ _ (an.trans (E.trans B)) (QC (p:=(("none" : Str),0)) ag aa ?_) (.tup (Al.of Aa) (.cons (.tup (Al.of (B _ _ I)) (.cons (.str _) (.cons (.int _) .nil))) (.cons .non .nil)));rw[aJ];rcases QB sm (aG y.2 BF) with⟨O,_⟩|⟨_,_,h3⟩;exact absurd (O.symm.trans e3) (by decide +kernel);rw[h3] at e3 ⊢
   cases e4:BN W y.2 with
   |none=>rfl
   |some k=>rw[e4] at e3;exact absurd e3.symm M4
   refine(Or.inl ⟨_,.ref t0,Af.of T,ax,Ke,λr g=>?_⟩);have E:=AJ (o:=.tup [.ref t0,.non]) g;exact q r _ _ _ (an.trans E) (QC ag aa aJ) (.tup (Al.of Aa) (.cons (aw.same E) (.cons .non .nil)))
inductive GO (K:Aj) (vs:List V) (H:Hp) (Q:VK):Prop where
 |mk (nt A t:Addr) (F:Addr->Prop) (W:Wd) (qs:List Qu) (inn:Int) (ord:A') (n:Int) (k:Nat) (q:Qu) (h0:vs=[.ref nt,.ref A,.ref t,.int n]) (h1:n=k) (h2:qs[k]?=some q) (h3:LC K F H nt A t W qs inn ord) (h4:PV W qs inn ord) (h5:∀(D:Addr)(lv:List V)(a:C')(w:Option Wt)(ls:List Lk)(ts:List Int)(H':Hp),H D=none->Ac H H'->H' D=some (.lst lv)->AC (λx=>H x=none/\x≠D) H' lv (ls.map PX)->LU W inn ord q.1 q.2.1 q.2.2 0 a w ls ts->Q (.ref D) H'):GO K vs H Q
def iH (K:Aj):Sp:=λvs H Q ζ=>GO K vs H Q
abbrev QF(P w K mg base):=BG P w K mg base "trail" 8 ["net", "answers", "table", "question"] (iH K)
def iI(a0:BH mg)(aq:OK P w K mg base)(F:Bv K "trail" "trail" O3 f fd)(hm:mg "trail" = some (.ref f)):QF P w K mg base:=by
 refine B0 F hm Ou (λvs H ab ae h=>?_) (λa5 A a7 s H vs ab ae hr h=>?_);obtain⟨J,A,t,F,W,L,S,ord,n,k,q,rfl,_⟩:=h;rfl;obtain⟨J,A,t,F,W,L,S,ord,n,k,q,rfl,rfl,v,y,ok,qk⟩:=h;obtain⟨a1,af,ag,us,Gs,Es,M,j,eN,z⟩:=y.net;have ar:k<L.length:=(Bi.mp v).1;have au:k<j.length:=by rw[z.tq.len];exact ar
 have T:=AB au;obtain⟨ah,eq,eu⟩:=z.tq.at_ k _ q T v;have aw:AS (j.map V.ref) (k:Int)=some (.ref j[k]):=A1 (by rw[AM,T];rfl);obtain⟨al,an,ao,g4⟩:=ok.q q (Bk v)
 refine⟨_,(Ar (DJ (A3 aq (Ab (pv 0) (Ab (pv 1) (Ab (pv 2) (Ab (An Ao (An Ao (pv 0) Ah) (pv 3)) Ae))))) (BP (n:=4) rfl (AA (Av (i:=4) Ou.nd) (AA (Av (i:=5) Ou.nd) (AA (Av (i:=6) Ou.nd) (AA (Av (i:=7) Ou.nd) BO))))))
  (Aw (AI (Ha (g:=IU K 3 (Iw (F7 0) (Iw (F7 1) (Iw (F7 2) GV)))) rfl CL (Dg (pv 6)) (λζ ζ ζ ζ ζ=>(BP (n:=3) rfl (AA (Av (i:=0) CL.nd) (AA (Av (i:=1) CL.nd) (AA (Av (i:=2) CL.nd) BO))))) (λζ ζ ζ ζ ζ=>GB) (λζ ζ ζ ζ ζ=>(pv 2)))))),?_⟩
 rfl';refine(Or.inr (Or.inl ⟨_,.ref ag,Al.of eN,rfl,Or.inl ⟨_,.ref j[k],Af.of z.er,aw,J,A,t,j[k],ah,F,W,S,ord,q,rfl,y.caseH,y.tab,ok.ok,ok.sm,ok.ol,ok.irr,ok.inn,eq,eu,al,an,ao,g4,λa2 ai af av wv m aj w ls M ak N er hL O eT ha hw I U=>?_⟩⟩));refine⟨_,Al.of er,rfl,?_⟩
 have ll:m.length<=sizeLine:=by
  have h1:=I.length;rw[Ak] at h1;have h2:=HW U;exact CU (BL (by lia))
 refine⟨⟨_,Af.of O⟩,LF (xs:=m) (λD i a p=>Ac ak p/\p D=some (.lst a)/\AC (λx=>H x=none/\x≠D) p a ((ls.take i).map PX)/\a.length=i)
  (λD c=>⟨AJ c,Aa,.nil,rfl⟩) (λD i a p ax=>by obtain⟨s,_⟩:=ax;exact Af.of (s _ _ O)) (λD i a3 a Y RR c Q B k=>?_) (λD a Y c B=>?_)⟩
 obtain⟨l,r,u,C⟩:=B;have ay:i<m.length:=(Bi.mp Q).1;obtain⟨d,hd,X⟩:=I.get Q;obtain⟨a4,az,rfl⟩:=getm hd;refine AL λNz Z=>?_;obtain⟨tl,x1,x2,x3,rfl,aa,a6⟩:=(X.same l).look;refine Z ?_;clear Z;refine⟨_,Al.of aa,rfl,?_⟩;have R:Keeps (·=D) Y (upd Y D (.lst (a++[x3]))):=Keeps.one r;refine k _ _ r ?_ ⟨λb o e=>?_,Aa,?_,by rw[AO,C];rfl⟩;rw[C];exact FC ay ll;rw[AH (AV e c)];exact l _ _ e;rw[D7,az,A8];refine(u.keeps R λx E=>E.2).snoc ?_;refine(((Bc.mono (F:=λx=>H x=none/\x≠ai) (G:=λx=>H x=none/\x≠D) (λb o e h=>⟨h.1,AV e c⟩) X).same l).look' aa).keeps R λx E=>E.2;obtain⟨l,r,u,C⟩:=B;have e1:ls.length=m.length:=by have:=I.length;rw[Ak] at this;lia
 rw[<-e1,De] at u;exact qk D a aj w ls M Y (N.free c) (N.trans l) r u U
inductive Fj (K:Aj) (vs:List V) (H:Hp) (Q:VK):Prop where
 |mk (nt A t:Addr) (W:Wd) (n:Int) (h0:vs=[.ref nt,.int n]) (h1:A6 K H nt A t W) (h2:(0<=n/\n<W.gs.length)) (h3:∀(D:Addr)(H':Hp),H D=none->Ac H H'->H' D=some (.lst ((FH W.gs n).map V.int))->Q (.ref D) H'):Fj K vs H Q
def iJ (K:Aj):Sp:=λvs H Q ζ=>Fj K vs H Q
abbrev QG(P w K mg base):=BG P w K mg base "of_sort" 1 ["net", "thing"] (iJ K)
def iK(B:BH mg)(F:Bv K "of_sort" "of_sort" Rj f fd)(b:mg "of_sort" = some (.ref f)):QG P w K mg base:=by
 refine B0 F b Tg (λr H Q E h=>?_) (λM A N s H r Q E C h=>?_);obtain⟨u,A,t,W,n,rfl,_⟩:=h;rfl;obtain⟨u,A,t,W,n,rfl,v,x,q⟩:=h;obtain⟨S,T,R,us,G,I,c,J,L,y,d⟩:=v.net;obtain⟨m,b⟩:=Co x.1;have j:m<W.gs.length:=(by lia);have o:m<c.length:=by rw[d.tg.len];exact j
 have k:W.gs[n.toNat]?=some W.gs[m]:=by rw[b,Bl];exact AB j
 have g:=d.tg.at_ m _ _ (AB o) (AB j);have l:AS (c.map V.ref) n=some (.ref c[m]):=by rw[b];exact A1 (by rw[AM,AB o];rfl)
 generalize W.gs[m]=p at k g;generalize c[m]=z at l g
 have eq:FH W.gs n=if p.1=("sort" : Str) then[p.2] else[]:=by unfold FH;rw[k]
 refine⟨_,(Ar (DJ (An Ao (An Ao (pv 0) Ah) (pv 1)) (BP (n:=2) rfl (AA (Av (i:=2) Tg.nd) (AA (Av (i:=3) Tg.nd) BO))))
  (Ar (Bb (Bp B8 (pv 2) AW (Bj _)) (Aw (AI (Cg (Ab (pv 3) Ae)))) Ba)
  (Aw (AI (Cg Ae))))),?_⟩
 rfl';refine Or.inr (Or.inl ⟨_,.ref T,Al.of y,rfl,Or.inl ⟨_,.ref z,Af.of d.et,l,?_⟩⟩);refine⟨_,Al.of g,rfl,?_⟩;refine⟨rfl,rfl,Ap (λh=>?_) (λh=>?_)⟩;have e:p.1=("sort" : Str):=V.str.inj (Be h);refine⟨HB,λD a=>q D _ a (AJ a) ?_⟩;rw[Aa,eq,Au e];rfl;have e:p.1≠("sort" : Str):=λe=>h (A5 (by rw[e]));refine⟨by decide,λD a=>q D _ a (AJ a) ?_⟩;rw[Aa,eq,At e];rfl
inductive DZ (K:Aj) (vs:List V) (H:Hp) (Q:VK):Prop where
 |mk (nt A t:Addr) (W:Wd) (v:V) (o:C') (h0:vs=[.ref nt,v]) (h1:A6 K H nt A t W) (h2:((o=none/\v=.non)\/∃p ta,o=some p/\v=.ref ta/\Al K H ta [.str p.1,.int p.2])) (h3:(∀p,o=some p->p.1=("thing" : Str)->0<=p.2/\p.2<W.gs.length)) (h4:∀(D:Addr)(H':Hp),H D=none->Ac H H'->H' D=some (.lst ((qA W.gs o).map V.int))->Q (.ref D) H'):DZ K vs H Q
def iL (K:Aj):Sp:=λvs H Q ζ=>DZ K vs H Q
abbrev Ua(P w K mg base):=BG P w K mg base "of_answer" 2 ["net", "answer"] (iL K)
def iM(B:BH mg)(n:QG P w K mg base)(F:Bv K "of_answer" "of_answer" Rk f fd)(i:mg "of_answer" = some (.ref f)):Ua P w K mg base:=by
 refine B0 F i ZK (λj H Q E h=>?_) (λC A G s H j Q E u h=>?_);obtain⟨b,A,t,W,v,o,rfl,_⟩:=h;rfl;obtain⟨b,A,t,W,v,o,rfl,k,l,r,q⟩:=h;have d:qA W.gs o=[]->∀D,H D=none->Q (.ref D) (upd H D (.lst [])):=λe D a=>q D _ a (AJ a) (by rw[Aa,e];rfl)
 refine⟨_,(Ar (Bb (PW.pt (Hm (Gf (GS (pv 1))) (Hl (Bp Nv (An Ao (pv 1) Ah) AW (Bj _))))) (Aw (AI (Cg Ae))) Ba)
  (Aw (AI (A3 n (Ab (pv 0) (Ab (An Ao (pv 1) Ah) Ae)))))),?_⟩
 rfl';rcases l with⟨rfl,rfl⟩|⟨p,x,rfl,rfl,g⟩;exact⟨rfl,Ap (λζ=>CP ⟨by decide,d rfl⟩) (λh=>absurd (A5 rfl) h)⟩;refine⟨rfl,Ap (λh=>absurd (Be h) (by simp)) (λζ=>?_)⟩;refine Or.inr (Or.inl ⟨_,.str p.1,g,rfl,rfl,rfl,Ap (λh=>?_) (λh=>?_)⟩);refine⟨by decide,d ?_⟩;refine At λe=>?_;rw[e] at h;simp at h
 have c:p.1=("thing" : Str):=Classical.byContradiction λz=>h (by
  have:decide (V.str p.1=V.str "thing")=false:=En λy=>z (V.str.inj y)
  rw[this];rfl)
 refine Or.inr (Or.inl ⟨_,.int p.2,g,rfl,b,A,t,W,p.2,rfl,k,r p rfl c,λD m a s e=>q D m a s ?_⟩);rw[e]
 show some (HO.lst ((FH W.gs p.2).map V.int))=some (HO.lst ((if p.1=("thing" : Str) then FH W.gs p.2 else[]).map V.int))
 rw[Au c]
def iN(h:W.ss[k]?=some s):AX W (k:Int)=s.1:=by unfold AX;rw[Bl,h]
def Kf{s:CA}(h:W.sts[k]?=some s):BB W (k:Int)=s.1:=by unfold BB;rw[Bl,h]
inductive EN (K:Aj) (vs:List V) (H:Hp) (Q:VK):Prop where
 |mk (nt A t:Addr) (W:Wd) (v:V) (F:Addr->Prop) (bs:List AK) (h0:vs=[.ref nt,.ref A,.ref t,v]) (h1:A6 K H nt A t W) (h2:Cm W) (h3:Bc F H v (.lst (bs.map Dq.D))) (h4:(∀b∈bs,Dp W b)) (h5:(bs.flatMap (BC W)).length<=4000) (h6:∀(D:Addr)(H':Hp),H D=none->Ac H H'->H' D=some (.lst ((bs.flatMap (BC W)).map V.int))->Q (.ref D) H'):EN K vs H Q
def iO (K:Aj):Sp:=λvs H Q ζ=>EN K vs H Q
abbrev Ub(P w K mg base):=BG P w K mg base "of_steps" 3 ["net", "answers", "table", "begun"] (iO K)
def iP(aR:BH mg)(a8:Qq P w K mg base)(a9:Ua P w K mg base)(F:Bv K "of_steps" "of_steps" Rl f fd)(C:mg "of_steps" = some (.ref f)):Ub P w K mg base:=by
 refine B0 F C KI (λvs H a0 a1 h=>?_) (λaX A ba s H vs a0 a1 hr h=>?_);obtain⟨J,A,t,W,v,F,bs,rfl,_⟩:=h;rfl
 . obtain⟨J,A,t,W,v,F,bs,rfl,L,ok,hv,aA,hl,q⟩:=h
   obtain⟨a2,aS,aT,us,Gs,Es,ts,qt,qs,eN,N3⟩:=L.net;obtain⟨a3,o,aB,b1,a4,b2,b3⟩:=L.tab;obtain⟨P,bv,rfl,eP,hb⟩:=S6 hv
   refine⟨_,(Ar (AN (i:=4) KI.nd (Cg Ae))
    (Ar (Cz Cu rfl (Dg (pv 3)) (BP (n:=3) rfl (AA (Av (i:=5) KI.nd) (AA (Av (i:=6) KI.nd) (AA (Av (i:=7) KI.nd) BO)))) (Aw (Cz Cu rfl (Dg (An Ao (An Ao (An Ao (pv 0) Ah) (pv 6)) Ah)) (BP (n:=3) rfl (AA (Av (i:=8) KI.nd) (AA (Av (i:=9) KI.nd) (AA (Av (i:=10) KI.nd) BO)))) (Aw (Bb (PW.pt (Gx (Bp B8 (pv 9) AW (Bj _)) (GU (Gf (O6 (A3 a8 (Ab (pv 2) (Ab (pv 7) (Ab (pv 8) Ae))))))))) (Ar (Eo (DQ Ec Fk Fl Fp (pv 4) (Ab (pv 10) Ae)))
          (Aw (Eo (DQ Ec PySem.F.slot_list_extend PySem.F.type_list_extend NP (pv 4) (Ab (A3 a9 (Ab (pv 0) (Ab (An Ao (pv 1) (pv 10)) Ae))) Ae))))) Ba)))))
    (Aw (AI (pv 4))))),?_⟩
   rfl';refine⟨by decide,λD M=>?_⟩;obtain⟨aU,aC,s1,aD⟩:=new_at (o:=.lst []) M;rw[<-aC]
   refine⟨⟨_,Af.of (s1 _ _ eP)⟩,Fn (xs:=bv) (λi σ g=>∃S T U r u y,σ=[some (.ref J),some (.ref A),some (.ref t),some (.ref P),some (.ref D),S,T,U,r,u,y]/\Ac H g/\g D=some (.lst (((bs.take i).flatMap (BC W)).map V.int)))
    ⟨none,none,none,none,none,none,rfl,s1,by rw[aD,Ea];rfl⟩ (λi σ g ζ aa=>by obtain⟨_,_,_,_,_,_,_,s,_⟩:=aa;exact Af.of (s _ _ eP)) ?_ ?_⟩
   rotate_left;refine λσ a5 z=>AL λN a=>?_;obtain⟨S,T,U,r,u,y,rfl,d,O⟩:=z;refine a ?_;clear a;rw[hb.length,Ak,De] at O;exact q D _ M d O;refine λi x σ a5 hx z=>AL λN a=>?_;obtain⟨S,T,U,r,u,y,rfl,d,O⟩:=z;refine a ?_;clear a;refine ID ?_;intro Nx Cy;obtain⟨b,ak,aE⟩:=P7 (hb.same d) hx;have al:=aA b (Bk ak);obtain⟨tb,x0,rfl,aF⟩:=Mc aE;have aG:=al.rng b.2.1 (by unfold AY;simp);have aH:=al.st;obtain⟨n,hn⟩:=Co aG.1;obtain⟨k,hk⟩:=Co aH.1;have an:n<W.ss.length:=(by lia);have aI:k<W.sts.length:=(by lia);refine AL λN a=>?_;obtain⟨ah,a6,E1,a7,aV,aW,g4,⟨c0,⟨tG,c1,X⟩,_⟩⟩:=N3.sc.get an;refine a ?_;clear a;have ao:=AB aI;have Y:AX W b.2.1=W.ss[n].1:=by rw[hn];exact iN g4
   have eG:BB W b.2.2=W.sts[k].1:=by rw[hk];exact Kf ao
   have aJ:AS (us.map V.ref) b.2.1=some (.ref ah):=by rw[hn];exact A1 (by rw[AM,a7];rfl)
   have aq:=Me (f:=BC W) ak;have aP:=Mf (f:=BC W) (l:=bs) (i+1);rw[aq,AO] at aP;refine⟨_,Al.of aF,rfl,?_⟩;refine Or.inr (Or.inl ⟨_,.ref a2,Al.of (d _ _ eN),rfl,Or.inl ⟨_,.ref ah,Af.of (d _ _ N3.sc.top),aJ,Or.inr (Or.inl ⟨_,.ref a6,Al.of (d _ _ c0),rfl,⟨_,Af.of (d _ _ c1)⟩,?_⟩)⟩⟩)
   refine Fn (xs:=tG.map V.ref) (λj σ g=>∃r u y,σ=[some (.ref J),some (.ref A),some (.ref t),some (.ref P),some (.ref D),some x0,some (.int b.2.1),some (.int b.2.2),r,u,y]/\Ac H g/\g D=some (.lst (((bs.take i).flatMap (BC W)++((AX W b.2.1).take j).flatMap (CK W b.2.2)).map V.int)))
    ⟨_,_,_,rfl,d,by rw[O,Ea];simp⟩ (λj σ g ζ aa=>by obtain⟨_,_,_,_,s,_⟩:=aa;exact Af.of (s _ _ c1)) ?_ ?_
   rotate_left;refine λσ E z=>AL λN a=>?_;obtain⟨r,u,y,rfl,c,I⟩:=z;refine a ?_;clear a;refine⟨_,_,_,_,_,_,rfl,c,?_⟩;rw[I,aq,Ak,X.len,Y,De,<-Y];rfl;refine λj ai σ E hy z=>AL λN a=>?_;obtain⟨r,u,y,rfl,c,I⟩:=z;refine a ?_;clear a;refine ID ?_;intro Nx Cy;obtain⟨tp,ar,rfl⟩:=getm hy;have au:j<W.ss[n].1.length:=by rw[<-X.len];exact(Bi.mp ar).1
   have Z:=AB au;have aw:=X.at_ j tp _ ar Z;have mp:=Dk au;generalize W.ss[n].1[j]=p at Z aw mp;have ab:=Me (f:=CK W b.2.2) (show(AX W b.2.1)[j]?=some p by rw[Y];exact Z);have ae:=Mf (f:=CK W b.2.2) (l:=AX W b.2.1) (j+1);rw[ab,AO] at ae;have aY:(BC W b).length=((AX W b.2.1).flatMap (CK W b.2.2)).length:=rfl
   have skip:¬(p.2.1=("by" : Str)/\(Do (BB W b.2.2) p.1).isSome=true)->E D=some (.lst (((bs.take i).flatMap (BC W)++((AX W b.2.1).take (j+1)).flatMap (CK W b.2.2)).map V.int)):=λaK=>by
    have:CK W b.2.2 p=[]:=At aK;rw[I,ab,this,Eb]
   refine⟨_,Al.of (c _ _ aw),rfl,?_⟩;refine⟨rfl,rfl,Ap (λB=>?_) (λB=>Bm ?_)⟩;rotate_left;exact⟨_,_,_,rfl,c,skip λh=>B (A5 (by rw[h.1]))⟩;have B:p.2.1=("by" : Str):=V.str.inj (Be B);refine⟨t,a3,o,aB,W.sts,b.2.2,k,_,p.1,rfl,hk,c.seqT b1,⟨a4,c.seq b2,b3.same c⟩,ao,?_⟩;rw[<-eG]
   cases eg:Do (BB W b.2.2) p.1 with
   |none =>
     refine⟨rfl,Ap (λh=>absurd h (by simp[Eg])) (λζ=>?_)⟩;exact⟨_,_,_,rfl,c,skip λh=>by rw[eg] at h;cases h.2⟩
   |some af =>
     refine⟨rfl,Ap (λζ=>?_) (λh=>absurd (by simp[Eg]) h)⟩;have ax:CK W b.2.2 p=p.2.2::EE W.gs W.as p.2.2:=Au ⟨B,by rw[eg];rfl⟩;have aL:=ok.by_ (Dk an) mp λaj=>by rw[B] at aj;exact absurd aj (by decide +kernel)
     obtain⟨m,C⟩:=Co aL.1;have Q:m<W.as.length:=(by lia);have ay:=WA (gs:=W.gs) (AB Q);rw[ax,Em] at ae;have R:Ac H (upd E D (.lst (((bs.take i).flatMap (BC W)++((AX W b.2.1).take j).flatMap (CK W b.2.2)).map V.int++[.int p.2.2]))):=λai o e=>by rw[AH (AV e M)];exact c _ _ e
     have ag:(upd E D (.lst (((bs.take i).flatMap (BC W)++((AX W b.2.1).take j).flatMap (CK W b.2.2)).map V.int++[.int p.2.2]))) D=some (.lst (((bs.take i).flatMap (BC W)++((AX W b.2.1).take j).flatMap (CK W b.2.2)).map V.int++[.int p.2.2])):=Aa;refine⟨Or.inl ⟨rfl,_,Af.of I⟩,_,I,by rw[Ak,AO];exact JN (by lia),?_⟩;generalize upd E D (.lst (((bs.take i).flatMap (BC W)++((AX W b.2.1).take j).flatMap (CK W b.2.2)).map V.int++[.int p.2.2]))=H4 at R ag ⊢;obtain⟨az,av,aM,aN,hc⟩:=(L.same R).ans.get Q;have aQ:AS az p.2.2=some av:=by rw[C];exact A1 aN
     refine⟨Or.inl ⟨rfl,_,Af.of ag⟩,Or.inl ⟨az,av,aM,aQ,J,A,t,W,av,W.as[m],rfl,L.same R,?_,λpp e G=>ok.net.t pp (by rw[<-e];exact Dk Q) G,λD2 H5 aZ s5 aO=>?_⟩⟩;rw[AB Q] at hc;rcases hc with⟨e1,G⟩|⟨pp,ta,e1,G,e3⟩;exact .inl ⟨BS e1,G⟩;exact .inr ⟨pp,ta,BS e1,G,e3⟩;refine⟨D,D2,_,_,rfl,rfl,s5 _ _ ag,aO,?_,?_⟩;have:=Mg W.gs W.as[m];rw[C,ay] at ae;rw[AO,Ak,Ak,AO,Ew];exact CU (JN (by lia));refine⟨_,_,_,rfl,λai o e=>?_,?_⟩;rw[AH (AV e M)];exact s5 _ _ (R _ _ e);rw[Aa,ab,ax,C,ay]
     simp
inductive Db (K:Aj) (vs:List V) (H:Hp) (Q:VK):Prop where
 |mk (nt A t:Addr) (W:Wd) (v:V) (F:Addr->Prop) (ws:List (List As)) (h0:vs=[.ref nt,v]) (h1:A6 K H nt A t W) (h2:Bc F H v (.lst (ws.map BV.D))) (h3:(∀w∈ws,Cq W.ss w)) (h4:(ws.flatMap (EU W.ss)).length<=4000) (h5:∀(D:Addr)(H':Hp),H D=none->Ac H H'->H' D=some (.lst ((ws.flatMap (EU W.ss)).map V.int))->Q (.ref D) H'):Db K vs H Q
def iQ (K:Aj):Sp:=λvs H Q ζ=>Db K vs H Q
abbrev Uc(P w K mg base):=BG P w K mg base "of_tellings" 2 ["net", "found"] (iQ K)
def iR(ah:BH mg)(ab:OI P w K mg base)(F:Bv K "of_tellings" "of_tellings" Rm f fd)(Z:mg "of_tellings" = some (.ref f)):Uc P w K mg base:=by
 refine B0 F Z Mo (λvs H Q E h=>?_) (λaj A al s H vs Q E hr h=>?_);obtain⟨g,A,t,W,v,F,ws,rfl,_⟩:=h;rfl
 . obtain⟨g,A,t,W,v,F,ws,rfl,hC,hv,he,hl,q⟩:=h
   obtain⟨S,T,R,us,Gs,Es,ts,qt,qs,eN,N3⟩:=hC.net;obtain⟨P,wv,rfl,G,I⟩:=S6 hv
   refine⟨_,(Ar (AN (i:=2) Mo.nd (Cg Ae))
    (Ar (Cz Cu rfl (Dg (pv 1)) (Av (i:=3) Mo.nd) (Ar (DJ (A3 ab (Ab (pv 0) (Ab (An Ao (pv 3) (Ko Kq Ah)) Ae))) (BP (n:=4) rfl (AA (Av (i:=4) Mo.nd) (AA (Av (i:=5) Mo.nd) (AA (Av (i:=6) Mo.nd) (AA (Av (i:=7) Mo.nd) BO))))))
     (Aw (Bb (Bp B8 (pv 6) AW (Bj _)) (Aw (Eo (DQ Ec Fk Fl Fp (pv 2) (Ab (pv 7) Ae)))) Ba))))
    (Aw (AI (pv 2))))),?_⟩
   rfl';refine⟨by decide,λD j=>?_⟩;obtain⟨ai,ae,J,af⟩:=new_at (o:=.lst []) j;rw[<-ae]
   refine⟨⟨_,Af.of (J _ _ G)⟩,Fn (xs:=wv) (λi σ k=>∃p r u y z,σ=[some (.ref g),some (.ref P),some (.ref D),p,r,u,y,z]/\Ac H k/\k D=some (.lst (((ws.take i).flatMap (EU W.ss)).map V.int)))
    ⟨none,none,none,none,none,rfl,J,by rw[af,Ea];rfl⟩ (λi σ k ζ ag=>by obtain⟨_,_,_,_,_,_,s,_⟩:=ag;exact Af.of (s _ _ G)) ?_ ?_⟩
   rotate_left;refine λσ Y C=>AL λL a=>?_;obtain⟨p,r,u,y,z,rfl,c,d⟩:=C;refine a ?_;clear a;rw[I.length,Ak,De] at d;exact q D _ j c d;refine λi x σ Y hx C=>AL λL a=>?_;obtain⟨p,r,u,y,z,rfl,c,d⟩:=C;refine a ?_;clear a;obtain⟨w,M,N⟩:=P7 (I.same c) hx;have ew:=he w (Bk M);obtain⟨vv,m,O,mo,aa⟩:=ew;rw[O] at N;refine AL λL a=>?_;obtain⟨l,ms,mk,rfl,l1,l2,l3⟩:=JM N;refine a ?_;clear a;have et:IC W.ss m=CS W.ss w:=(by rw[O,L3]);have ak:=Mf (f:=EU W.ss) (l:=ws) i;have U:=Me (f:=EU W.ss) M;refine Or.inl ⟨_,.ref mk,Af.of l1,l2,g,S,T,R,mk,us,Gs,Es,W.ss,m,rfl,Al.of (c _ _ eN),N3.sc.same c,Al.of l3,mo,aa,λtp X=>?_⟩;rw[et] at X;refine⟨_,Al.of X,rfl,?_⟩;refine⟨rfl,rfl,Ap (λh=>?_) (λh=>?_)⟩;have B:(CS W.ss w).2.2.1=("by" : Str):=V.str.inj (Be h);refine⟨Or.inl ⟨rfl,_,Af.of d⟩,_,d,by rw[Ak];exact JN (by lia),?_⟩;refine⟨_,_,_,_,_,rfl,λb o e=>?_,?_⟩;rw[AH (AV e j)];exact c _ _ e;rw[Aa,U,A8];unfold EU;rw[Au B];rfl;have B:(CS W.ss w).2.2.1≠("by" : Str):=λe=>h (A5 (by rw[e]));refine⟨_,_,_,_,_,rfl,c,?_⟩;rw[d,U];have:EU W.ss w=[]:=At B;rw[this,Eb]
inductive CG (K:Aj) (vs:List V) (H:Hp) (Q:VK):Prop where
 |mk (nt A t L T:Addr) (F:Addr->Prop) (W:Wd) (lv:List V) (ls:List Lk) (ts:List Int) (h0:vs=[.ref nt,.ref A,.ref t,.ref L,.ref T]) (h1:A6 K H nt A t W) (h2:Cm W) (h3:H L=some (.lst lv)) (h4:AC F H lv (ls.map KH)) (h5:(∀l∈ls,JO W l)) (h6:H T=some (.lst (ts.map V.int))) (h7:(∀n∈ts,0<=n/\n<W.gs.length)) (h8:(Cs W ls ts).length<=4000) (h9:(∀q∈Cs W ls ts,0<=q/\q<((40:Nat):Int))) (h10:∀(D:Addr)(us:List Int)(H':Hp),H D=none->Ac H H'->H' D=some (.lst (us.map V.int))->(∀q,q∈us↔q∈Cs W ls ts)->us.Pairwise (· < ·)->Q (.ref D) H'):CG K vs H Q
def iS (K:Aj):Sp:=λvs H Q ζ=>CG K vs H Q
abbrev Ud(P w K mg base):=BG P w K mg base "questions_of" 4 ["net", "answers", "table", "looks", "things"] (iS K)
theorem iT(B:BH mg)(ao:Ub P w K mg base)(aq:Uc P w K mg base)(ar:QG P w K mg base)(F:Bv K "questions_of" "questions_of" Rn f fd)(O:mg "questions_of" = some (.ref f)):Ud P w K mg base:=by
 refine B0 F O M8 (λvs H ai aj h=>?_) (λa5 A a9 s H vs ai aj hr h=>?_);obtain⟨k,A,t,L,T,F,W,lv,ls,m,rfl,_⟩:=h;rfl;obtain⟨k,A,t,L,T,F,W,lv,ls,m,rfl,Q,ok,eL,S,au,eT,av,N,aw,q⟩:=h;have a6:(ls.flatMap (FI W)).length<=4000:=by unfold Cs at N;rw[AO] at N;lia
 refine⟨_,(Ar (AN (i:=5) M8.nd (Cg Ae))
  (Ar (Cz Cu rfl (Dg (pv 3)) (BP (n:=3) rfl (AA (Av (i:=6) M8.nd) (AA (Av (i:=7) M8.nd) (AA (Av (i:=8) M8.nd) BO)))) (Ar (Eo (DQ Ec PySem.F.slot_list_extend PySem.F.type_list_extend NP (pv 5) (Ab (A3 ao (Ab (pv 0) (Ab (pv 1) (Ab (pv 2) (Ab (pv 6) Ae))))) Ae)))
   (Aw (Eo (DQ Ec PySem.F.slot_list_extend PySem.F.type_list_extend NP (pv 5) (Ab (A3 aq (Ab (pv 0) (Ab (pv 7) Ae))) Ae))))))
  (Ar (Cz Cu rfl (Dg (pv 4)) (Av (i:=9) M8.nd) (Aw (Eo (DQ Ec PySem.F.slot_list_extend PySem.F.type_list_extend NP (pv 5) (Ab (A3 ar (Ab (pv 0) (Ab (pv 9) Ae))) Ae)))))
  (Aw (AI (CH (Wz rfl) B.b_sorted (Ab (I7 (Wy rfl) B.b_set (Ab (pv 5) Ae)) Ae))))))),?_⟩
 rfl';refine⟨by decide,λD hD=>?_⟩;obtain⟨a4,ax,s1,ay⟩:=new_at (o:=.lst []) hD;rw[<-ax];have R:∀{a:Hp}{zs:List V},Ac H a->Ac H (upd a D (.lst zs)):=λs b o e=>by rw[AH (AV e hD)];exact s _ _ e
 refine⟨⟨_,Af.of (s1 _ _ eL)⟩,Fn (xs:=lv) (λi σ a=>∃E G I p,σ=[some (.ref k),some (.ref A),some (.ref t),some (.ref L),some (.ref T),some (.ref D),E,G,I,p]/\Ac H a/\a D=some (.lst (((ls.take i).flatMap (FI W)).map V.int)))
  ⟨none,none,none,none,rfl,s1,by rw[ay,Ea];rfl⟩ (λi σ a ζ U=>by obtain⟨_,_,_,_,_,s,_⟩:=U;exact Af.of (s _ _ eL)) ?_ ?_⟩
 refine λi x σ ak J X=>AL λNz d=>?_;obtain⟨E,G,I,p,rfl,r,v⟩:=X;refine d ?_;clear d;obtain⟨l,Y,az⟩:=P7 (S.same r) J;have ab:=au l (Bk Y);refine AL λNz d=>?_;obtain⟨al,x1,x2,x3,rfl,er,h1,h2,_⟩:=P6 az;refine d ?_;clear d;have z:=Me (f:=FI W) Y;have Z:=Mf (f:=FI W) (l:=ls) (i+1);rw[z,AO] at Z;have hq:(FI W l).length=(l.1.flatMap (BC W)).length+(l.2.1.flatMap (EU W.ss)).length:=by unfold FI;rw[AO]
 refine⟨_,Al.of er,rfl,?_⟩;refine⟨Or.inl ⟨rfl,_,Af.of v⟩,k,A,t,W,x1,F,l.1,rfl,Q.same r,ok,h1,ab.bo,by lia,λy u M c j=>?_⟩;refine⟨D,y,_,_,rfl,rfl,c _ _ v,j,by rw[Ak,Ak];exact CU (JN (by lia)),?_⟩;have g:=R (zs:=((ls.take i).flatMap (FI W)).map V.int++(l.1.flatMap (BC W)).map V.int) (r.trans c);have C:(upd u D (.lst (((ls.take i).flatMap (FI W)).map V.int++(l.1.flatMap (BC W)).map V.int))) D=some (.lst (((ls.take i).flatMap (FI W)).map V.int++(l.1.flatMap (BC W)).map V.int)):=Aa
 have ae:Bc F (upd u D (.lst (((ls.take i).flatMap (FI W)).map V.int++(l.1.flatMap (BC W)).map V.int))) x2 (.lst (l.2.1.map BV.D)):=by
  obtain⟨r',y1,y2,y3,e',af,_,a0,_⟩:=P6 ((P7 (S.same g) J).elim λl' h=>by
   have:l'=l:=BS (h.1.symm.trans Y)
   rw[this] at h;exact h.2)
  have:al=r':=V.ref.inj e';subst this;have a1:=(Keeps.one (H:=u) (o:=.lst (((ls.take i).flatMap (FI W)).map V.int++(l.1.flatMap (BC W)).map V.int)) (c _ _ v)).tup (c _ _ er);rw[a1] at af;have e2:=HO.tup.inj (BS af);cases e2;exact a0
 generalize upd u D (.lst (((ls.take i).flatMap (FI W)).map V.int++(l.1.flatMap (BC W)).map V.int))=H4 at g C ae ⊢;refine⟨Or.inl ⟨rfl,_,Af.of C⟩,k,A,t,W,x2,F,l.2.1,rfl,Q.same g,ae,ab.en,by lia,λD3 H5 a7 s5 a2=>?_⟩;refine⟨D,D3,_,_,rfl,rfl,s5 _ _ C,a2,by rw[AO,Ak,Ak,Ak];exact CU (JN (by lia)),?_⟩;refine⟨_,_,_,_,rfl,R (g.trans s5),?_⟩;rw[Aa,z];unfold FI;rw[A8,A8,FJ];refine λσ ak X=>AL λNz d=>?_;obtain⟨E,G,I,p,rfl,r,v⟩:=X;refine d ?_;clear d;rw[S.length,Ak,De] at v
 refine⟨⟨_,Af.of (r _ _ eT)⟩,Fn (xs:=m.map V.int) (λi σ a=>∃p,σ=[some (.ref k),some (.ref A),some (.ref t),some (.ref L),some (.ref T),some (.ref D),E,G,I,p]/\Ac H a/\a D=some (.lst ((ls.flatMap (FI W)++(m.take i).flatMap (FH W.gs)).map V.int)))
  ⟨_,rfl,r,by rw[v,Ea];simp⟩ (λi σ a ζ U=>by obtain⟨_,_,s,_⟩:=U;exact Af.of (s _ _ eT)) ?_ ?_⟩
 rintro i x σ u J ⟨p,rfl,c,j⟩;obtain⟨n,ag,rfl⟩:=getm J;have z:=Me (f:=FH W.gs) ag;have Z:=Mf (f:=FH W.gs) (l:=m) (i+1);rw[z,AO] at Z;have ah:=N;unfold Cs at ah;rw[AO] at ah;refine⟨Or.inl ⟨rfl,_,Af.of j⟩,k,A,t,W,n,rfl,Q.same c,av n (Bk ag),λy H4 M g C=>?_⟩;refine⟨D,y,_,_,rfl,rfl,g _ _ j,C,by rw[Ak,Ak,AO];exact CU (JN (by lia)),?_⟩;refine⟨_,rfl,R (c.trans g),?_⟩;rw[Aa,z]
 simp
 rintro σ u ⟨a8,rfl,c,j⟩;rw[Ak,De] at j;refine⟨D,Cs W ls m,rfl,Af.of j,N,λan hz=>?_⟩;refine⟨an,Cs W ls m,rfl,Aa,λds hd hs=>?_,λy ms a3 O M=>?_⟩;have:=WH hd λaa hy=>aw aa (hs aa hy);lia;exact q y ms _ (c.free ((AJ hz).free M)) ((c.trans (AJ hz)).trans (AJ M)) Aa O a3
inductive Ij (K:Aj) (vs:List V) (H:Hp) (Q:VK):Prop where
 |mk (nt A t:Addr) (F:Addr->Prop) (W:Wd) (qs:List Qu) (inn:Int) (ord:A') (n:Int) (k:Nat) (q:Qu) (h0:vs=[.ref nt,.ref A,.ref t,.int n]) (h1:n=k) (h2:qs[k]?=some q) (h3:LC K F H nt A t W qs inn ord) (h4:PV W qs inn ord) (h5:(∀(a:C')(w:Option Wt)(ls:List Lk)(ts:List Int),LU W inn ord q.1 q.2.1 q.2.2 0 a w ls ts->(Cs W ls ts).length<=4000)) (h6:W.as.length<=40) (h7:∀(D:Addr)(us:List Int)(a:C')(w:Option Wt)(ls:List Lk)(ts:List Int)(H':Hp),H D=none->Ac H H'->LU W inn ord q.1 q.2.1 q.2.2 0 a w ls ts->H' D=some (.lst (us.map V.int))->(∀q,q∈us↔q∈Cs W ls ts)->us.Pairwise (· < ·)->Q (.ref D) H'):Ij K vs H Q
def Kg (K:Aj):Sp:=λvs H Q ζ=>Ij K vs H Q
abbrev QH(P w K mg base):=BG P w K mg base "used" 8 ["net", "answers", "table", "question"] (Kg K)
def iU(ai:BH mg)(aa:OK P w K mg base)(ab:Ud P w K mg base)(F:Bv K "used" "used" Ro f fd)(e:mg "used" = some (.ref f)):QH P w K mg base:=by
 refine B0 F e Ov (λB H Q E h=>?_) (λaq A au s H B Q E hr h=>?_);obtain⟨g,A,t,F,W,p,x,ord,n,k,q,rfl,_⟩:=h;rfl;obtain⟨g,A,t,F,W,p,x,ord,n,k,q,rfl,rfl,j,c,ok,C,hA,G⟩:=h;obtain⟨aj,T,R,us,Gs,Es,l,b,I,m⟩:=c.net;have ae:k<p.length:=(Bi.mp j).1;have af:k<b.length:=by rw[m.tq.len];exact ae
 have y:=AB af;obtain⟨u,eq,J⟩:=m.tq.at_ k _ q y j;have ag:AS (b.map V.ref) (k:Int)=some (.ref b[k]):=A1 (by rw[AM,y];rfl);obtain⟨r,v,M,N⟩:=ok.q q (Bk j)
 refine⟨_,(Ar (DJ (A3 aa (Ab (pv 0) (Ab (pv 1) (Ab (pv 2) (Ab (An Ao (An Ao (pv 0) Ah) (pv 3)) Ae))))) (BP (n:=4) rfl (AA (Av (i:=4) Ov.nd) (AA (Av (i:=5) Ov.nd) (AA (Av (i:=6) Ov.nd) (AA (Av (i:=7) Ov.nd) BO))))))
  (Aw (AI (A3 ab (Ab (pv 0) (Ab (pv 1) (Ab (pv 2) (Ab (pv 6) (Ab (pv 7) Ae))))))))),?_⟩
 rfl';refine Or.inr (Or.inl ⟨_,.ref R,Al.of I,rfl,Or.inl ⟨_,.ref b[k],Af.of m.er,ag,g,A,t,b[k],u,F,W,x,ord,q,rfl,c.caseH,c.tab,ok.ok,ok.sm,ok.ol,ok.irr,ok.inn,eq,J,r,v,M,N,λak L T av wv O a w ls l al o S hL U X ha hw ah d=>?_⟩⟩);refine⟨_,Al.of S,rfl,?_⟩;obtain⟨z,Y,ar⟩:=WE ok.ok ok.sm ok.inn d r v;have l8:=HW d;refine⟨g,A,t,L,T,_,W,O,ls,l,rfl,c.caseH.same o,ok.ok,U,ah,z,X,Y,C _ _ _ _ d,λan Z=>?_,λD us ao hD s2 eD e hp=>G D us a w ls l _ (o.free hD) (o.trans s2) d eD e hp⟩;have:=WG ok.ok ok.sm z Z;lia
abbrev EO (W:Wd) (n:Int) (ws:List (List As)):List Int:=(AX W n).flatMap (CK W 0)++ws.flatMap (EU W.ss)
def ON(h:W.ss[k]?=some s):AX W (k:Int)=s.1:=by unfold AX;rw[Bl,h]
def OO{s:CA}(h:W.sts[0]?=some s):BB W 0=s.1:=by unfold BB;rw[show(0:Int).toNat=0 from rfl,h]
theorem FA{x:Str}:∀{gs:List (Str×Int)},(Do gs x).isSome=true↔x∈gs.map (·.1)
 |[]=>⟨(λh=>by cases h),(λh=>by cases h)⟩
 |p::gs=>by
   show(if p.1=x then some p.2 else Do gs x).isSome=true↔x∈p.1::gs.map (·.1)
   by_cases e:p.1=x;rw[Au e,e];exact⟨λζ=>BF,λζ=>rfl⟩;rw[At e,FA];exact⟨Cw _,λz=>(BI.mp z).elim (λy=>absurd y.symm e) id⟩
inductive D1 (K:Aj) (vs:List V) (H:Hp) (Q:VK):Prop where
 |mk (nt A t P:Addr) (W:Wd) (n:Int) (G1:Addr->Prop) (zs:List (Addr×List As)) (h0:vs=[.ref nt,.ref t,.ref A,.int n,.ref P]) (h1:A6 K H nt A t W) (h2:Cm W) (h3:CT W) (h4:(0<=n/\n<W.ss.length)) (h5:H P=some (.lst (zs.map λz=>V.ref z.1))) (h6:(∀z∈zs,BW G1 H z.1 z.2)) (h7:(∀z∈zs,Cq W.ss z.2)) (h8:zs.length<=62) (h9:(∀q∈EO W n (zs.map (·.2)),0<=q/\q<((40:Nat):Int))) (h10:∀(D:Addr)(us:List Int)(H':Hp),Ac H H'->H' D=some (.lst (us.map V.int))->us.Pairwise (· < ·)->(∀q,q∈us↔q∈EO W n (zs.map (·.2)))->Q (.ref D) H'):D1 K vs H Q
def iV (K:Aj):Sp:=λvs H Q ζ=>D1 K vs H Q
abbrev QI(P w K mg base):=BG P w K mg base "_law_used" 1 ["_law_net", "_law_table", "_law_answers", "_law_scope", "_law_ways_here"] (iV K)
def iW(ax:BH mg)(F:Bv K "_law_used" "_law_used" O4 f fd)(O:mg "_law_used" = some (.ref f)):QI P w K mg base:=by
 refine B0 F O JT (λvs H aR aS h=>?_) (λbB ae bG s H vs aR aS hr h=>?_);obtain⟨nt,ae,t,P,W,n,G1,C,rfl,_⟩:=h;rfl
 . obtain⟨nt,ae,t,P,W,b,G1,C,rfl,hC,ok,hb,aY,eP,hz,ez,lz,rg,q⟩:=h
   obtain⟨ay,ai,b6,us,Gs,Es,ts,qt,qs,eN,Q⟩:=hC.net;obtain⟨a,o,bC,b1,aT,b2,b3⟩:=hC.tab;obtain⟨n,hn⟩:=Co aY.1;have a3:n<W.ss.length:=(by lia);have l2:=hb.l2;have aZ:0<W.sts.length:=(by lia);obtain⟨az,aU,E1,aV,b7,b8,g4,⟨c0,⟨tG,c1,c2⟩,_⟩⟩:=Q.sc.get a3;have a4:=AB aZ;have eS:AX W b=W.ss[n].1:=by rw[hn];exact ON g4
   have eG:BB W 0=W.sts[0].1:=OO a4;have ba:AS (us.map V.ref) b=some (.ref az):=by rw[hn];exact A1 (by rw[AM,aV];rfl)
   have mS:=Dk a3;obtain⟨v,X,bb⟩:=b3.get' (i:=0) (d:=HD W.sts[0]) (by rw[AM,a4];rfl);obtain⟨a2,gA,eA,rfl,bv,⟨gv,a5,a6⟩,he⟩:=NV bb;have bw:AS aT ((0:Nat):Int)=some (.ref a2):=A1 X
   have bD:((AX W b).flatMap (CK W 0)).length<=16:=by
    have L:=Md (f:=CK W 0) (n:=2) (l:=AX W b) λp ζ=>WC W 0 p;have h2:=hb.steps8 b;lia
   refine⟨_,(Ar (Ly (i:=5) JT.nd rfl (Or.inl rfl) (g:=IU K 2 (Iw (F7 0) (Iw (F7 1) GV))) rfl Cb (Dg (An Ao (An Ao (An Ao (pv 1) Ah) Ah) Ah)) (λζ ζ ζ ζ ζ=>(BP (n:=2) rfl (AA (Av (i:=0) Cb.nd) (AA (Av (i:=1) Cb.nd) BO)))) (λζ ζ ζ ζ ζ=>GB) (λζ ζ ζ ζ ζ=>(pv 0)))
    (Ar (AN (i:=6) JT.nd (Cg Ae))
    (Ar (Cz Cu rfl (Dg (An Ao (An Ao (An Ao (pv 0) Ah) (pv 3)) Ah)) (BP (n:=3) rfl (AA (Av (i:=7) JT.nd) (AA (Av (i:=8) JT.nd) (AA (Av (i:=9) JT.nd) BO)))) (Aw (Bb (PW.pt (Gx (Bp (NS hr.units) (pv 7) (pv 5) (by with_unfolding_all rfl)) (GU (Bp B8 (pv 8) AW (Bj _))))) (Ar (Eo (DQ Ec Fk Fl Fp (pv 6) (Ab (pv 9) Ae)))
     (Ar (AN (i:=10) JT.nd (An Ao (pv 2) (pv 9)))
     (Aw (Bb (PW.pt (Gx (Gf (O6 (pv 10))) (Gx (Bp B8 (An Ao (pv 10) Ah) AW (Bj _)) (GU (Bp B8 (An Ao (An Ao (An Ao (pv 0) Ah) (An Ao (pv 10) Ah)) Ah) AW (Bj _)))))) (Aw (Eo (DQ Ec Fk Fl Fp (pv 6) (Ab (An Ao (An Ao (An Ao (pv 0) Ah) (An Ao (pv 10) Ah)) Ah) Ae)))) Ba)))) Ba)))
    (Ar (Cz Cu rfl (Dg (pv 4)) (Av (i:=11) JT.nd) (Ar (AN (i:=12) JT.nd (An Ao (An Ao (An Ao (An Ao (pv 0) Ah) (An Ao (An Ao (pv 11) (Ko Kq Ah)) Ah)) Ah) (An Ao (An Ao (pv 11) (Ko Kq Ah)) Ah)))
     (Aw (Bb (Bp B8 (An Ao (pv 12) Ah) AW (Bj _)) (Aw (Eo (DQ Ec Fk Fl Fp (pv 6) (Ab (An Ao (pv 12) Ah) Ae)))) Ba))))
    (Aw (AI (CH (Wz rfl) ax.b_sorted (Ab (I7 (Wy rfl) ax.b_set (Ab (pv 6) Ae)) Ae)))))))),?_⟩
   try dsimp only[AD,Cx.nox,Cx.wish]
   refine Or.inr (Or.inl ⟨_,.ref a,b1,rfl,Or.inl ⟨_,.ref a2,b2,bw,Or.inr (Or.inl ⟨_,.ref gA,bv,rfl,⟨_,a5⟩,LF (xs:=gv) (λD i Y c=>Ac H c/\c D=some (.lst Y)/\Y=((W.sts[0].1.take i).map (·.1)).map V.str)
    (λD I=>⟨AJ I,Aa,rfl⟩) (λD i Y c aa=>by obtain⟨s,_⟩:=aa;exact s.seq a5) (λD i y Y Z RR I E X k=>?_) (λGL Y Z bE X=>?_)⟩)⟩⟩)
   obtain⟨s4,eD,rfl⟩:=X;obtain⟨d,hd,bc⟩:=a6.get E;obtain⟨g,hg,rfl⟩:=getm hd;obtain⟨tg,rfl,sg⟩:=Kx bc;have bd:W.sts[0].1.take (i+1)=W.sts[0].1.take i++[g]:=by rw[D7,hg];rfl
   refine⟨_,s4.seqT sg,rfl,?_⟩;refine k _ _ eD ?_ ⟨λx o e=>?_,Aa,by rw[bd,A8,A8];rfl⟩;have:=hb.g9;rw[eG] at this;rw[Ak,Ak,Ek];exact BL (by lia);rw[AH (AV e I)];exact s4 _ _ e;obtain⟨s4,a7,rfl⟩:=X;have be:gv.length=W.sts[0].1.length:=by have:=a6.length;rw[Ak] at this;exact this
   rw[be,De] at a7;refine⟨by decide,λD I=>?_⟩;obtain⟨H5,bf,s5,bg⟩:=new_at (o:=.lst []) I;rw[<-bf];have af:=s4.trans s5;have N:∀{c:Hp},Ac Z c->Ac H c:=λs=>s4.trans s;refine Or.inr (Or.inl ⟨_,.ref ay,Al.of (af _ _ eN),rfl,Or.inl ⟨_,.ref az,Af.of (af _ _ Q.sc.top),ba,Or.inr (Or.inl ⟨_,.ref aU,Al.of (af _ _ c0),rfl,⟨_,Af.of (af _ _ c1)⟩,?_⟩)⟩⟩)
   refine Fn (xs:=tG.map V.ref) (λj σ c=>∃u7 u8 u9 ag,σ=[some (.ref nt),some (.ref t),some (.ref ae),some (.int b),some (.ref P),some (.ref GL),some (.ref D),u7,u8,u9,ag,none,none]/\Ac Z c/\c D=some (.lst ((((AX W b).take j).flatMap (CK W 0)).map V.int)))
    ⟨none,none,none,none,rfl,s5,by rw[bg,Ea];rfl⟩ (λj σ c ζ aa=>by obtain⟨_,_,_,_,_,s,_⟩:=aa;exact Af.of (N s _ _ c1)) ?_ ?_
   . refine λj y σ H6 E aj=>AL λNz B=>?_
     obtain⟨u7,u8,u9,ag,rfl,J,U⟩:=aj;refine B ?_;clear B;obtain⟨tp,a8,rfl⟩:=getm E;have a9:j<W.ss[n].1.length:=by rw[<-c2.len];exact(Bi.mp a8).1
     have R:=AB a9;have aA:=c2.at_ j tp _ a8 R;have mp:=Dk a9;generalize W.ss[n].1[j]=p at R aA mp;have ak:=N J;have al:=Me (f:=CK W 0) (show(AX W b)[j]?=some p by rw[eS];exact R);have aB:=Mf (f:=CK W 0) (l:=AX W b) (j+1);rw[al,AO] at aB
     have skip:¬(p.2.1=("by" : Str)/\(Do (BB W 0) p.1).isSome=true)->H6 D=some (.lst ((((AX W b).take (j+1)).flatMap (CK W 0)).map V.int)):=λbh=>by
      have:CK W 0 p=[]:=At bh;rw[U,al,this,Eb]
     refine⟨_,Al.of (ak _ _ aA),rfl,?_⟩;refine⟨2,.str p.1,(W.sts[0].1.map (·.1)).map Dt.str,GL,_,(λd hd=>by obtain⟨y,_,rfl⟩:=AF.mp hd;exact .str _ _),by decide,.str _,rfl,Af.of (J _ _ a7),Ai.strs _,rfl,Ap (λh2=>?_) (λh2=>Bm ?_)⟩;rotate_left;refine⟨_,_,_,_,rfl,J,skip λh=>h2 (Ep (AF.mpr ⟨_,?_,rfl⟩))⟩;rw[<-eG];exact FA.mp h.2
     have b5:(Do (BB W 0) p.1).isSome=true:=by
      obtain⟨y,E,z⟩:=AF.mp (B7.mp h2);rw[FA,eG,<-Dt.str.inj z];exact E
     refine⟨rfl,rfl,Ap (λL=>?_) (λL=>?_)⟩;rotate_left;exact⟨_,_,_,_,rfl,J,skip λh=>L (A5 (by rw[h.1]))⟩;have L:p.2.1=("by" : Str):=V.str.inj (Be L);have aC:CK W 0 p=p.2.2::EE W.gs W.as p.2.2:=Au ⟨L,b5⟩;have bi:=ok.by_ mS mp λz=>by rw[L] at z;exact absurd z (by decide +kernel)
     obtain⟨m,O⟩:=Co bi.1;have ah:m<W.as.length:=(by lia);have bj:=WA (gs:=W.gs) (AB ah);rw[aC,Em] at aB;have bF:=Mf (f:=CK W 0) (l:=AX W b) j;refine⟨Or.inl ⟨rfl,_,Af.of U⟩,_,U,by rw[Ak];exact JN (by lia),?_⟩;have A:Ac Z (upd H6 D (.lst ((((AX W b).take j).flatMap (CK W 0)).map V.int++[.int p.2.2]))):=λy o e=>by rw[AH (AV e I)];exact J _ _ e
     have u:(upd H6 D (.lst ((((AX W b).take j).flatMap (CK W 0)).map V.int++[.int p.2.2]))) D=some (.lst ((((AX W b).take j).flatMap (CK W 0)).map V.int++[.int p.2.2])):=Aa;generalize upd H6 D (.lst ((((AX W b).take j).flatMap (CK W 0)).map V.int++[.int p.2.2]))=H7 at A u ⊢;have r:=N A;obtain⟨aD,av,bk,bl,hc⟩:=(hC.same r).ans.get ah;have bx:AS aD p.2.2=some av:=by rw[O];exact A1 bl
     have lst:∀S:List Int,EE W.gs W.as p.2.2=S->∀(c:Hp),c D=some (.lst ((((AX W b).take j).flatMap (CK W 0)).map V.int++[.int p.2.2]++S.map V.int))->c D=some (.lst ((((AX W b).take (j+1)).flatMap (CK W 0)).map V.int)):=λS e c h=>by
      rw[h,al,aC,e]
      simp
     have ab:EE W.gs W.as p.2.2=qA W.gs W.as[m]:=by rw[O];exact bj
     rw[AB ah] at hc;refine Or.inl ⟨aD,av,bk,bx,?_⟩;rcases hc with⟨e1,rfl⟩|⟨G,ta,e1,rfl,an⟩;rw[BS e1] at ab;refine⟨rfl,Ap (λh=>absurd h (by simp)) (λζ=>Bm ?_)⟩;exact⟨_,_,_,_,rfl,A,lst [] ab _ (by rw[u];simp)⟩;rw[BS e1] at ab;refine⟨rfl,Ap (λζ=>?_) (λh=>absurd (by simp) h)⟩;refine Or.inr (Or.inl ⟨_,.str G.1,an,rfl,rfl,rfl,Ap (λh=>?_) (λh=>Bm ?_)⟩);rotate_left;have e:G.1≠("thing" : Str):=λe=>h (A5 (by rw[e]));exact⟨_,_,_,_,rfl,A,lst [] (ab.trans (At e)) _ (by rw[u];simp)⟩;have e:G.1=("thing" : Str):=V.str.inj (Be h);have aE:EE W.gs W.as p.2.2=FH W.gs G.2:=ab.trans (Au e);obtain⟨q0,q1⟩:=ok.net.t G (by rw[<-BS e1];exact Dk ah) e;obtain⟨k,hk⟩:=Co q0;have ao:=AB (show k<W.gs.length by lia);generalize W.gs[k]=T at ao;have bm:Dm K H ai W.gs:=⟨_,Af.of Q.et,Q.tg.dts⟩;obtain⟨bn,th,aF,bo,aG⟩:=bm.get ao;have aP:AS bn G.2=some (.ref th):=by rw[hk];exact A1 bo
     have aH:FH W.gs G.2=if T.1=("sort" : Str) then[T.2] else[]:=by unfold FH;rw[hk,Bl,ao]
     refine Or.inr (Or.inl ⟨_,.ref ai,Al.of (r _ _ eN),rfl,Or.inr (Or.inl ⟨_,.int G.2,an,rfl,Or.inl ⟨_,.ref th,r.seq aF,aP,Or.inr (Or.inl ⟨_,.str T.1,r.seqT aG,rfl,rfl,rfl,Ap (λh=>?_) (λh=>?_)⟩)⟩⟩)⟩);rotate_left;have M:T.1≠("sort" : Str):=λe=>h (A5 (by rw[e]));exact⟨_,_,_,_,rfl,A,lst [] (aE.trans (aH.trans (At M))) _ (by rw[u];simp)⟩;have M:T.1=("sort" : Str):=V.str.inj (Be h);refine⟨Or.inl ⟨rfl,_,Af.of u⟩,Or.inr (Or.inl ⟨_,.ref ai,Al.of (r _ _ eN),rfl,Or.inr (Or.inl ⟨_,.int G.2,an,rfl,Or.inl ⟨_,.ref th,r.seq aF,aP,Or.inr (Or.inl ⟨_,.int T.2,r.seqT aG,rfl,_,u,?_,?_⟩)⟩⟩)⟩)⟩;rw[AO,Ak,Ew];exact JN (by lia);exact⟨_,_,_,_,rfl,λy o e=>by rw[AH (AV e I)];exact A _ _ e,lst _ (aE.trans (aH.trans (Au M))) _ Aa⟩
   refine λσ H6 aj=>AL λNz B=>?_;obtain⟨u7,u8,u9,ag,rfl,J,U⟩:=aj;refine B ?_;clear B;rw[Ak,c2.len,<-eS,De] at U;have ak:=N J
   refine⟨⟨_,Af.of (ak _ _ eP)⟩,Fn (xs:=C.map λz=>V.ref z.1) (λi σ c=>∃aq ar,σ=[some (.ref nt),some (.ref t),some (.ref ae),some (.int b),some (.ref P),some (.ref GL),some (.ref D),u7,u8,u9,ag,aq,ar]/\Ac Z c/\c D=some (.lst ((EO W b ((C.map (·.2)).take i)).map V.int)))
    ⟨none,none,rfl,J,by rw[U,Ea];unfold EO;simp⟩ (λi σ c ζ aa=>by obtain⟨_,_,_,s,_⟩:=aa;exact Af.of (N s _ _ eP)) ?_ ?_⟩
   . rintro i y σ H7 E ⟨aq,ar,rfl,A,u⟩
     obtain⟨z,aI,rfl⟩:=getm E;have mz:=Bk aI;have r:=N A;refine AL λNz B=>?_;obtain⟨b9,m0,ev,⟨n1,k1,a0,aJ,aK,au,bp⟩,aW⟩:=ez z mz;refine B ?_;clear B;have hw:=(hz z mz).same r;rw[ev] at hw;obtain⟨S,tm,el,aL,aM⟩:=PQ hw;have aN:=Me (f:=EU W.ss) (l:=C.map (·.2)) (i:=i) (a:=z.2) (by rw[AM,aI];rfl);have bq:=Md (f:=EU W.ss) (n:=1) (l:=(C.map (·.2)).take i) λw ζ=>S7 W.ss w;rw[Ek,Ak] at bq;have bz:n1<W.ss.length:=(Bi.mp au).1;refine AL λNz B=>?_;obtain⟨u',G',E',aX,bA,f3,f4,⟨a1,_,⟨tE,d1,d2⟩⟩⟩:=Q.sc.get bz;refine B ?_;clear B;rw[au] at f4;have es:=BS f4;rw[<-es] at d2;have b0:AS (us.map V.ref) m0.1=some (.ref u'):=by rw[aJ];exact A1 (by rw[AM,aX];rfl)
     have aw:k1<a0.2.length:=by
      rcases bp with⟨e,_⟩|⟨_,e⟩;exact absurd (aW.symm.trans e) (by decide +kernel);exact e
     have R:=AB aw;have et:tE[k1]?=some (tE[k1]'(by rw[d2.len];exact aw)):=AB _;generalize tE[k1]'(by rw[d2.len];exact aw)=tp at et;have aO:=d2.at_ _ _ _ et R;have br:CS W.ss z.2=a0.2[k1]:=by rw[ev,L3];exact PM aJ aK au R
     rw[<-br] at aO;have b4:AS (tE.map V.ref) m0.2.2=some (.ref tp):=by rw[aK];exact A1 (by rw[AM,et];rfl)
     have aQ:=Al.of (K:=K) (r _ _ aO);refine Or.inr (Or.inl ⟨_,.ref ay,Al.of (r _ _ eN),rfl,Or.inl ⟨_,.ref tm,Af.of el,aL,Or.inr (Or.inl ⟨_,.int m0.1,Al.of aM,rfl,Or.inl ⟨_,.ref u',Af.of (r _ _ Q.sc.top),b0,Or.inr (Or.inl ⟨_,.ref E',Al.of (r _ _ a1),rfl,Or.inl ⟨_,.ref tm,Af.of el,aL,Or.inr (Or.inl ⟨_,.int m0.2.2,Al.of aM,rfl,Or.inl ⟨_,.ref tp,Af.of (r _ _ d1),b4,?_⟩⟩)⟩⟩)⟩⟩)⟩⟩);refine Or.inr (Or.inl ⟨_,.str (CS W.ss z.2).2.2.1,aQ,rfl,rfl,rfl,Ap (λh=>?_) (λh=>?_)⟩);rotate_left;have M:(CS W.ss z.2).2.2.1≠("by" : Str):=λe=>h (A5 (by rw[e]));refine⟨_,_,rfl,A,?_⟩;have:EU W.ss z.2=[]:=At M;rw[u];unfold EO;rw[aN,this,Eb];have M:(CS W.ss z.2).2.2.1=("by" : Str):=V.str.inj (Be h);refine⟨Or.inl ⟨rfl,_,Af.of u⟩,Or.inr (Or.inl ⟨_,.int (CS W.ss z.2).2.2.2,aQ,rfl,_,u,?_,?_⟩)⟩;rw[Ak];unfold EO;rw[AO];exact JN (by lia);refine⟨_,_,rfl,λy o e=>by rw[AH (AV e I)];exact A _ _ e,?_⟩;have:EU W.ss z.2=[(CS W.ss z.2).2.2.2]:=Au M;rw[Aa];unfold EO;rw[aN,this,<-FJ,A8 (l₂:=[_])];rfl
   rintro σ H7 ⟨aq,ar,rfl,A,u⟩;rw[Ak,show C.length=(C.map λz:Addr×List As=>z.2).length from(Ak _).symm,De] at u;have bs:=Md (f:=EU W.ss) (n:=1) (l:=C.map (·.2)) λw ζ=>S7 W.ss w;rw[Ak] at bs;have r:=N A;refine⟨D,EO W b (C.map (·.2)),rfl,Af.of u,(by unfold EO;rw[AO];lia),λz hz=>?_⟩;refine⟨z,EO W b (C.map (·.2)),rfl,Aa,λds hd hs=>?_,λD2 S bt O bu=>?_⟩
   have:=WH hd λy E=>rg y (hs y E);lia;exact q D2 S _ ((r.trans (AJ hz)).trans (AJ bu)) Aa bt O
theorem Ik:∀{l m:List Int},l.Pairwise (· < ·)->m.Pairwise (· < ·)->(∀y,y∈l ↔ y∈m)->l=m
 |[],[],_,_,_=>rfl
 |[],b::m,_,_,h=>by have:=(h b).mpr BF;cases this
 |a::l,[],_,_,h=>by have:=(h a).mp BF;cases this
 |a::l,b::m,p,q,h=>by
   obtain⟨c,J⟩:=List.pairwise_cons.mp p;obtain⟨d,f⟩:=List.pairwise_cons.mp q
   have e:a=b:=by
    rcases BI.mp ((h a).mp BF) with z|z;exact z;rcases BI.mp ((h b).mpr BF) with y|y;exact y.symm;have g:=d a z;have i:=c b y;lia
   subst e;rw[Ik J f λy=>⟨λz=>?_,λz=>?_⟩];rcases BI.mp ((h y).mp (Cw _ z)) with e|e;have:=c y z;lia;exact e;rcases BI.mp ((h y).mpr (Cw _ z)) with e|e;have:=d y z;lia;exact e
theorem MH(n:Nat):∀a:C',Dn (n+2) (B3 a)
 |none=>True.intro
 |some p=>λd hd=>by
   rcases BI.mp hd with rfl|hd;exact True.intro;rw[A9.mp hd];exact True.intro
def Il(n:Nat)(w:List As):Dn (n+3) (BV.D w):=λd hd=>by
 obtain⟨m,_,rfl⟩:=AF.mp hd;intro e a;rcases BI.mp a with rfl|a;exact True.intro;rcases BI.mp a with rfl|a;exact True.intro;rw[A9.mp a];exact True.intro
theorem Kh(n:Nat):∀w:Option Wt,Dn (n+4) (KG w)
 |none=>True.intro
 |some p=>λd hd=>by
   rcases BI.mp hd with rfl|hd;exact True.intro;rcases BI.mp hd with rfl|hd;exact Il n p.2.1;rw[A9.mp hd];exact True.intro
def Im(a:C')(w:Option Wt):Dn 8 (.tup [B3 a,KG w]):=λd hd=>by
 rcases BI.mp hd with rfl|hd;exact MH 5 a;rw[A9.mp hd];exact Kh 3 w
def KY(ws:List (List As)):Dn 8 (.lst [.lst (ws.map BV.D)]):=λd hd=>by
 rw[A9.mp hd]
 exact λd hd=>by
  obtain⟨v,_,rfl⟩:=AF.mp hd;exact Il 3 v
def Io(ws:List Int):Dn 8 (.lst (ws.map Dt.int)):=λd hd=>by
 obtain⟨o,_,rfl⟩:=AF.mp hd;exact True.intro
def OP{gs:List (Str×Int)}{f:List Qu}{l:List CA}{t:Int}(h:OD ns ss gs f as l t ord):CT ⟨ss,gs,as,l⟩/\PV ⟨ss,gs,as,l⟩ f t ord:=by
 have c:=Ts (CC ns) (F2 ns) (Bu ns) (Gi ns) (Gi ns).length;rw[<-h.ss] at c;obtain⟨g,i,j,rfl,m,J,_⟩:=h.st;have k:as.length=6:=(by rw[h.as,Tt]);have n:gs.length=6:=by rw[h.gs];rfl
 have ls:=c.len;have o:∀p∈g,p.2=1:=λp a=>WZ p (m.mem_iff.mp a)
 have r:CT ⟨ss,gs,as,[(g,i),([],j)]⟩:=⟨rfl,o,rfl,by
  show g.length<=100;rw[m.length_eq]
  exact Fa (Qm _ _ 5) (by decide),λs b=>(c.all s b).1,λs b=>(c.all s b).2.1⟩
 have u:Oh ⟨ss,gs,as,[(g,i),([],j)]⟩:=by
  refine⟨λs b=>(c.all s b).1,λs b p a=>?_,λp a=>?_,λp a e=>?_,λs b p a=>?_⟩;show GW ss.length as.length p;rw[ls,k];exact((c.all s b).2.2.1 p a).1;show LN ss.length as.length p;rw[ls,k];have a:p∈gs:=a;rw[h.gs] at a;simp only[Ql,BI,List.not_mem_nil,or_false] at a;rcases a with rfl|rfl|rfl|rfl|rfl|rfl;exact .inr (.inl ⟨rfl,Mw _ _⟩);exact .inr (.inl ⟨rfl,Mw _ _⟩);exact .inl ⟨rfl,rfl⟩;exact .inr (.inr ⟨rfl,by decide,by decide⟩);exact .inr (.inr ⟨rfl,by decide,by decide⟩);exact .inr (.inl ⟨rfl,Mw _ _⟩);show 0<=p.2/\p.2<(gs.length:Int);rw[n];have a:some p∈as:=a;rw[h.as] at a;exact Mz a e;have b:s=(g,i)\/s=([],j):=(by simpa using b);rcases b with rfl|rfl;rw[o p a];exact⟨by decide,by show(1:Int)<2;decide⟩;cases a
 obtain⟨ok,v⟩:=r.ok u (by show ss.length<=100;lia) (λs b p a=>by
  show Ft gs.length as.length p
  rw[n,k];exact(c.all s b).2.2.2 p a)
 refine⟨r,ok,v,?_,h.ord.irr (ZN (by decide)),?_,λq d=>?_⟩;have:=h.ord.len (by rw[Ti];decide);lia;rw[h.inn];exact⟨by decide,by show(0:Int)<2;decide⟩;have d:q∈f:=d;rw[h.qs] at d;rw[(List.mem_replicate.mp d).2];show(0<=Bx (Bu ns) 0/\Bx (Bu ns) 0<(ss.length:Int))/\_;rw[ls];exact⟨Mw _ _,⟨by show(0:Int)<=0;decide,by show(0:Int)<2;decide⟩,(by show 1<=1;decide),(by show 1<=8;decide)⟩
inductive KZ (K:Aj) (vs:List V) (H:Hp) (Q:VK):Prop where
 |mk (a:Addr) (ns:List Int) (h0:vs=[.ref a]) (h1:Af K H a (ns.map V.int)) (h2:ns.length<=63) (h3:∀H',Q (.bl true) H'):KZ K vs H Q
def OQ (K:Aj):Sp:=λvs H Q ζ=>KZ K vs H Q
theorem Ip(cg:BH mg)(be:Qo P w K mg base)(bn:Oz P w K mg base)(bP:Qp P w K mg base)(bo:OG P w K mg base)(bQ:Qx P w K mg base)(ay:QA P w K mg base)(bR:QE P w K mg base)(bS:QF P w K mg base)(bT:QH P w K mg base)(bU:QI P w K mg base)(F:Bv K "law" "law" IL f fd):Ex P w K mg base Iz 9 f fd ["_law_script"] (OQ K):=by
 refine F.ok GK (λvs H bl E av=>?_) (λcj A cC s H vs bl E hr av=>?_);obtain⟨a,ns,rfl,_⟩:=av;rfl;obtain⟨a,ns,rfl,hS,bf,kq⟩:=av
 refine⟨_,(Ar (DJ (A3 be (Ab (pv 0) Ae)) (BP (n:=3) rfl (AA (Av (i:=1) GK.nd) (AA (Av (i:=2) GK.nd) (AA (Av (i:=3) GK.nd) BO)))))
  (Ar (AN (i:=4) GK.nd (A3 be (Ab (pv 0) Ae)))
  (Ar (AN (i:=5) GK.nd (AZ CO (A3 bn (Ab (pv 0) (Ab Ah Ae))) Ah))
  (Ar (DJ (An Ao (An Ao (pv 1) Ah) (pv 5)) (BP (n:=3) rfl (AA (Av (i:=6) GK.nd) (AA (Av (i:=7) GK.nd) (AA (Av (i:=8) GK.nd) BO)))))
  (Ar (DJ (A3 bP (Ab (pv 1) (Ab (pv 2) (Ab (pv 3) (Ab (pv 6) (Ab (An Ao (pv 8) Ah) Ae)))))) (BP (n:=2) rfl (AA (Av (i:=9) GK.nd) (AA (Av (i:=10) GK.nd) BO))))
  (Ar (Ly (i:=11) GK.nd rfl (Or.inl rfl) (te:=A0 0) (tc:=Nj (tB (Pa (W4 K) [] E0 (F8 (A0 1) (F8 (A0 2) (F8 (A0 3) (F8 (A0 0) Fo))))))) rfl GN (Dg (pv 9)) (λζ ζ ζ ζ ζ=>(Av (i:=0) GN.nd)) (λζ ζ ζ ζ ζ=>(NN (Km (F6 (A3 bo (Ab (pv 1) (Ab (pv 2) (Ab (pv 3) (Ab (pv 0) Ae))))))))) (λζ ζ ζ ζ ζ=>(pv 0)))
  (Ar (AN (i:=12) GK.nd (A3 bQ (Ab (An Ao (pv 4) Ah) (Ab (An Ao (pv 4) Ah) (Ab (An Ao (pv 4) Ah) (Ab (pv 5) Ae))))))
  (Ar (Bb (Km (F6 (A3 ay (Ab (pv 12) (Ab (A3 bR (Ab (pv 1) (Ab (pv 2) (Ab (pv 3) (Ab (pv 9) (Ab (pv 10) (Ab (pv 11) Ae))))))) Ae))))) (Aw (AI G7)) Ba)
  (Ar (Bb (Km (F6 (A3 ay (Ab (A3 bS (Ab (An Ao (pv 4) Ah) (Ab (An Ao (pv 4) Ah) (Ab (An Ao (pv 4) Ah) (Ab (pv 5) Ae))))) (Ab (Cg (Ab (pv 11) Ae)) Ae))))) (Aw (AI G7)) Ba)
  (Ar (AN (i:=13) GK.nd (A3 bT (Ab (An Ao (pv 4) Ah) (Ab (An Ao (pv 4) Ah) (Ab (An Ao (pv 4) Ah) (Ab (pv 5) Ae))))))
  (Ar (Bb (Km (F6 (A3 ay (Ab (pv 13) (Ab (A3 bU (Ab (pv 1) (Ab (pv 2) (Ab (pv 3) (Ab (pv 6) (Ab (pv 9) Ae)))))) Ae))))) (Aw (AI G7)) Ba)
  (Aw (AI (Ix (HA hr.units) (pv 4) (AQ (Ab (pv 1) (Ab (pv 2) (Ab (pv 3) Ae)))) (Bj _))))))))))))))),?_⟩
 rfl';refine⟨a,ns,rfl,hS,bf,λch r t A aw aG ax us Gs Es ts qt bm ss O L as ai B ord aH s1 er eN T eA hv TB Q=>?_⟩;refine⟨_,Al.of er,rfl,?_⟩;refine⟨a,ns,rfl,s1.seq hS,bf,λr2 Y U X S2 T2 R2 bp bq br bt bu v2 ck cl cm cn c6 c7 c8 aI m ar aJ aK aL aM aN bv=>?_⟩;refine AL λNz J=>?_;obtain⟨d1,d2,d3,d4,d5,d6,d7⟩:=Q.uniq bv;refine J ?_;clear J;subst d1 d2 d3 d4 d5 d6 d7;have bw:=s1.trans m;obtain⟨R,g⟩:=OP Q;have la:as.length=6:=(by rw[Q.as,Tt]);have cp:L.length=6:=(by rw[Q.qs,List.length_replicate]);refine⟨a,ns,6,rfl,by decide,bw.seq hS,(by show(0:Int)<6;decide),?_⟩;dsimp only[IR];obtain⟨k,aO⟩:=Co (Gu (Hb ns 6) (by decide:(6:Int)≠0));have ab:=Gr (Hb ns 6) (by decide:(0:Int)<6);rw[aO] at ab ⊢;have M:k<L.length:=(by lia);clear aO ab;obtain⟨q,eq⟩:∃q:Qu,q=(Bx (Bu ns) 0,0,[(F2 ns).getD 0 default]):=⟨_,rfl⟩;have aj:L[k]?=some q:=by rw[Q.qs,eq,List.getElem?_replicate,Au (by rw[Q.qs,List.length_replicate] at M;exact M)]
 have az:qt[k]?=some (qt[k]'(by rw[T.tq.len];exact M)):=AB _;generalize qt[k]'(by rw[T.tq.len];exact M)=tq at az;obtain⟨pu,bx,bz⟩:=T.tq.at_ _ _ _ az aj;have b0:AS (qt.map V.ref) (k:Int)=some (.ref tq):=A1 (by rw[AM,az];rfl);refine Or.inr (Or.inl ⟨_,.ref ax,Al.of (m _ _ eN),rfl,Or.inl ⟨_,.ref tq,Af.of (m _ _ T.er),b0,_,Al.of (m _ _ bx),rfl,?_⟩⟩);obtain⟨S,a0,_⟩:=g.q q (Bk aj);have ae:q.2.2=[(F2 ns).getD 0 default]:=(by rw[eq]);have ak:q.2.1=0:=(by rw[eq]);obtain⟨x,hx⟩:∃x,x=(F2 ns).getD 0 default:=⟨_,rfl⟩;rw[<-hx] at ae
 have kd:∀k∈O,k.1=("part" : Str)\/k.1=("plain" : Str)\/k.1=("sort" : Str):=λk M=>by
  rcases g.ok.kth k M with⟨e,_⟩|⟨e,_⟩|⟨e,_⟩;exact .inr (.inl e);exact .inl e;exact .inr (.inr e)
 have aD:∀p∈AX ⟨ss,O,as,ai⟩ q.1,(CQ O as p).1=("to" : Str)->(CQ O as p).2≠q.1:=λp hp=>by
  obtain⟨s,u,hp⟩:=WD hp;have u:s∈ss:=u;rw[Q.ss] at u;have b1:=((Ts (CC ns) (F2 ns) (Bu ns) (Gi ns) (Gi ns).length).all s u).2.2.1 p hp;have e1:q.1=Bx (Bu ns) 0:=(by rw[eq]);rw[e1];refine JQ b1.2 λk M ab=>?_;rw[Q.gs] at M;simp only[Ql,BI,List.not_mem_nil,or_false] at M;rcases M with rfl|rfl|rfl|rfl|rfl|rfl;exact Qk _ 1 (by decide) (by decide);exact Qk _ 2 (by decide) (by decide);exact absurd ab (show ¬("plain" : Str)=("part" : Str) by decide +kernel);exact absurd ab (show ¬("sort" : Str)=("part" : Str) by decide +kernel);exact absurd ab (show ¬("sort" : Str)=("part" : Str) by decide +kernel);exact Qk _ 3 (by decide) (by decide)
 have b2:AS (q.2.2.map V.str) ((0:Nat):Int)=some (.str x):=by rw[ae];exact A1 rfl
 refine AL λNz J=>?_;obtain⟨W,N⟩:∃W:Wd,W=⟨ss,O,as,ai⟩:=⟨_,rfl⟩;refine J ?_;clear J
 have C1:∀{C:Hp},Ac aI C->LC K (λζ=>True) C r A t W L B ord:=λ{C}s=>by
  rw[N];exact⟨⟨aw,aG,ax,us,Gs,Es,ts,qt,(m.trans s) _ _ eN,T.same (m.trans s)⟩,⟨bm,Af.of ((m.trans s) _ _ eA),(hv.same (m.trans s)).dts⟩,TB.same (m.trans s)⟩
 have C2:∀{C:Hp},Ac aI C->LC K (λζ=>True) C Y X U W L B ord:=λ{C}s=>by
  rw[N];exact⟨⟨S2,T2,R2,bp,bq,br,bt,bu,s _ _ aJ,aK.same s⟩,⟨v2,Af.of (s _ _ aL),(aM.same s).dts⟩,aN.same s⟩
 have lW:W.as.length=6:=by rw[N];exact la
 have aP:W.ss=ss:=(by rw[N]);have aQ:W.sts=ai:=(by rw[N]);have aR:W.gs=O:=(by rw[N]);have b3:W.as=as:=(by rw[N]);rw[<-N] at R g aD;rw[<-aR,<-b3] at aD;rw[<-aR] at kd;rw[<-aP] at S;rw[<-aQ] at a0;clear N;refine Or.inr (Or.inl ⟨_,.str x,Al.of (m _ _ bz),b2,r,A,t,x,W,q.1,rfl,(C1 (Ac.refl _)).caseH,g.ok,R,S,kd,aD,λr3 D E d os H3 s3 b4 eD h b5 b6 eE ho aS=>?_⟩);refine⟨_,Al.of b4,rfl,?_⟩;dsimp only[Iw,GV,F7,mC,mN];generalize G:List.set _ 10 _=σ;obtain rfl:σ=[some (.ref a),some (.ref r),some (.ref t),some (.ref A),some (.ref r2),some (.int k),some (.int q.1),some (.int q.2.1),some (.ref pu),some (.ref D),some (.ref E),none,none,none]:=G.symm;clear G;have af:(0:Int)<=0/\(0:Int)<W.sts.length:=⟨Int.le_refl _,by rw[ak] at a0;exact a0.2⟩;obtain⟨bs,hB⟩:=R.begs (sc:=q.1) af;have hF:LR W x bs (d.map (·.2)):=⟨b5.trans (R.found (.inl rfl) hB.mem hB.nd x).symm,b6⟩;have hO:MZ W bs (os.map (·.2)):=⟨by rw[aS];exact(R.owed (.inl rfl) hB.mem hB.nd).symm,by rw[aS];exact ZG W q.1 _ _ rfl _ 0⟩;have b7:EC W ord q.1 0 x (bs,d.map (·.2),Dj W.ss ord (d.map (·.2)) (d.map (·.2))) (os.map (·.2)):=⟨hB,hF,rfl,hO⟩;have aT:∀z∈d,z.2∈EA W x bs:=λz h=>hF.perm.mem_iff.mp (AF.mpr ⟨z,h,rfl⟩);have oz:∀z∈d,GD W.ss z.2:=λz h=>Pt g.ok S af hB (aT z h);have ez:∀z∈d,Cq W.ss z.2:=λz h=>SR g.ok S af hB (aT z h);have oo:∀z∈os,GD W.ss z.2.1:=λz h=>VJ g.ok S af hB (hO.perm.mem_iff.mp (AF.mpr ⟨z,h,rfl⟩))
 have lz:d.length<=62:=by
  have h1:=g.sm.fnd x q.1 0 bs S af hB;have h2:=hF.perm.length_eq;rw[Ak] at h2;lia
 have b8:CI aH aw us Gs Es W.ss:=by rw[aP];exact T.sc
 have aU:Fq K (λζ=>True) aH t W.sts B ord:=by rw[aQ];exact TB
 have b9:=m.trans s3
 refine⟨⟨_,Af.of eD⟩,Vc (xs:=d.map λz=>V.ref z.1) (λD' i ys C=>∃sub:List (Addr×List As),ys=sub.map (λz=>V.ref z.1)/\sub.map (·.2)=Dj W.ss ord (d.map (·.2)) ((d.map (·.2)).take i)/\(∀z∈sub,z∈d)/\Ac H3 C/\C D'=some (.lst ys))
  (λD' a1=>⟨[],rfl,rfl,(λz h=>by cases h),AJ a1,Aa⟩) (λD' i ys C bA=>by obtain⟨_,_,_,_,s,_⟩:=bA;exact Af.of (s _ _ eD)) (λD' j y ys H4 RR R0 a1 I hv k9 k0=>?_) (λSH ys H4 cq hv=>?_)⟩
 refine AL λNz J=>?_;obtain⟨sub,rfl,u,hm,ag,aV⟩:=hv;refine J ?_;clear J;obtain⟨z,aW,rfl⟩:=getm I;have mz:=Bk aW;have ah:=b9.trans ag;have aq:=SG (ss:=W.ss) (ord:=ord) (all:=d.map (·.2)) (l:=d.map (·.2)) (i:=j) (w:=z.2) (by rw[AM,aW];rfl);refine⟨r,aw,aG,ax,t,D,z.1,us,Gs,Es,W.ss,λζ=>True,λζ=>True,λζ=>True,W.sts,B,ord,d,z.2,rfl,ah _ _ eN,b8.same ah,aU.same ah,ag _ _ eD,(λy I=>(h y I).same ag),oz,(h z mz).same ag,oz z mz,λH5 au=>⟨rfl,Ap (λc=>?_) (λc=>?_)⟩⟩;have c':((d.map (·.2)).any λv=>Cv W.ss ord v z.2)=false:=by rw[Bool.not_eq_true'] at c;exact c
 rw[c',At Df] at aq;have bB:=au _ _ aV;refine k9 _ _ bB ?_ ⟨sub++[z],by rw[A8];rfl,by rw[A8,u,aq];rfl,λy I=>?_,λb o e=>?_,Aa⟩;have h1:=Bq List.length u;have h2:=SI (ss:=W.ss) (ord:=ord) (all:=d.map (·.2)) (l:=(d.map (·.2)).take j);rw[Ak] at h1;rw[Ek,Ak] at h2;rw[Ak];exact BL (by lia);rcases BR.mp I with I|I;exact hm y I;rw[A9.mp I];exact mz;rw[AH (AV e a1)];exact au _ _ (ag _ _ e)
 have c':((d.map (·.2)).any λv=>Cv W.ss ord v z.2)=true:=by
  cases e:((d.map (·.2)).any λv=>Cv W.ss ord v z.2) with
  |true=>rfl
  |false=>rw[e] at c;exact absurd rfl c
 rw[c',Au rfl] at aq;exact k0 _ ⟨sub,rfl,by rw[u,aq],hm,ag.trans au,au _ _ aV⟩
 refine AL λNz J=>?_;obtain⟨sub,rfl,u,hm,s4,aX⟩:=hv;refine J ?_;clear J;rw[Ak,show d.length=(d.map (·.2)).length from(Ak _).symm,De] at u;refine Cj ?_;generalize G:List.set _ 11 _=σ;obtain rfl:σ=[some (.ref a),some (.ref r),some (.ref t),some (.ref A),some (.ref r2),some (.int k),some (.int q.1),some (.int q.2.1),some (.ref pu),some (.ref D),some (.ref E),some (.ref SH),none,none]:=G.symm;clear G;have a2:=s3.trans s4;have a3:=a2 _ _ ar;refine Or.inr (Or.inl ⟨_,.ref Y,Al.of a3,rfl,Or.inr (Or.inl ⟨_,.ref X,Al.of a3,rfl,Or.inr (Or.inl ⟨_,.ref U,Al.of a3,rfl,Y,X,U,λζ=>True,W,L,B,ord,(k:Int),k,q,rfl,rfl,aj,C2 a2,g,λv a5 w5 cs ct H5 s5 bC bg=>?_⟩)⟩)⟩);refine Cj ?_;generalize G:List.set _ 12 _=σ;obtain rfl:σ=[some (.ref a),some (.ref r),some (.ref t),some (.ref A),some (.ref r2),some (.int k),some (.int q.1),some (.int q.2.1),some (.ref pu),some (.ref D),some (.ref E),some (.ref SH),some v,none]:=G.symm;clear G;rw[ak,ae] at bg;have a4:=a2.trans s5;have al:=s4.trans s5;refine⟨r,A,t,D,E,SH,λζ=>True,λζ=>True,λζ=>True,W,B,ord,d,sub,os,rfl,(C1 a4).caseH,aU.same (m.trans a4),g.sm,al _ _ eD,(λz Z=>(h z Z).same al),oz,ez,lz,al _ _ eE,(λz Z=>(ho z Z).same al),oo,s5 _ _ aX,u,hm,λr6 a6 w6 H6 s6 bV bD=>?_⟩;have an:LU W B ord q.1 0 [x] 0 a6 w6 [(bs,d.map (·.2),Dj W.ss ord (d.map (·.2)) (d.map (·.2)))] []:=.stop b7 bV (.inr rfl);obtain⟨ea,ew,_,_⟩:=PZ an bg;subst ea ew;refine⟨_,_,.tup [B3 a6,KG w6],.tup [B3 a6,KG w6],rfl,(bC.same s6).dt,bD,Im _ _,Im _ _,λb H7 s7 bE=>?_⟩;rw[bE.mpr rfl];refine⟨rfl,Bm ?_⟩;have a7:=s6.trans s7;have a9:=a4.trans a7;have aA:=a9 _ _ ar;refine Or.inr (Or.inl ⟨_,.ref Y,Al.of aA,rfl,Or.inr (Or.inl ⟨_,.ref X,Al.of aA,rfl,Or.inr (Or.inl ⟨_,.ref U,Al.of aA,rfl,Y,X,U,λζ=>True,W,L,B,ord,(k:Int),k,q,rfl,rfl,aj,C2 a9,g,λD8 lv a8 w8 cu cv H8 cw s8 bF bG bh=>?_⟩)⟩)⟩);rw[ak,ae] at bh;obtain⟨_,_,aB,_⟩:=PZ an bh;subst aB;refine⟨HB,λl9 bH=>?_⟩;obtain⟨H9,bI,s9,bJ⟩:=new_at (o:=.lst [.ref SH]) bH;rw[<-bI];have aC:=s8.trans s9;have aY:=al.trans (a7.trans aC)
 have bK:Aq K H9 (.ref SH) (.lst ((Dj W.ss ord (d.map (·.2)) (d.map (·.2))).map BV.D)):=by
  rw[<-u];exact .lst (Af.of ((s5.trans (a7.trans aC)) _ _ aX)) (VB (F:=λζ=>True) λz Z=>(h z (hm z Z)).same aY)
 refine⟨_,_,.lst [.lst ((Dj W.ss ord (d.map (·.2)) (d.map (·.2))).map BV.D)],.lst [.lst ((Dj W.ss ord (d.map (·.2)) (d.map (·.2))).map BV.D)],rfl,.lst (Af.of (s9 _ _ bF)) (bG.dts.same s9),.lst (Af.of bJ) (.cons bK .nil),KY _,KY _,λb cx aZ bW=>?_⟩;rw[bW.mpr rfl];refine⟨rfl,Bm ?_⟩;have aE:=a9.trans (aC.trans aZ);have aF:=aE _ _ ar
 have cc:∀(a:C')(w:Option Wt)(ls:List Lk)(ts:List Int),LU W B ord q.1 q.2.1 q.2.2 0 a w ls ts->(Cs W ls ts).length<=4000:=λa' w' cy cz h'=>by
  rw[ak,ae] at h';obtain⟨_,_,e1,e2⟩:=PZ an h';subst e1 e2;exact R.uses_len hB.few (by rw[Ak];exact lz)
 refine Or.inr (Or.inl ⟨_,.ref Y,Al.of aF,rfl,Or.inr (Or.inl ⟨_,.ref X,Al.of aF,rfl,Or.inr (Or.inl ⟨_,.ref U,Al.of aF,rfl,Y,X,U,λζ=>True,W,L,B,ord,(k:Int),k,q,rfl,rfl,aj,C2 aE,g,cc,by lia,λbL ba c0 c1 c9 cA c2 cB bb bk bX bY cd=>?_⟩)⟩)⟩);refine Cj ?_;generalize G:List.set _ 13 _=σ;obtain rfl:σ=[some (.ref a),some (.ref r),some (.ref t),some (.ref A),some (.ref r2),some (.int k),some (.int q.1),some (.int q.2.1),some (.ref pu),some (.ref D),some (.ref E),some (.ref SH),some v,some (.ref bL)]:=G.symm;clear G;rw[ak,ae] at bk;obtain⟨_,_,aB,bM⟩:=PZ an bk;subst aB bM;have bi:=aE.trans bb;have bj:=(aY.trans aZ).trans bb;have bc:=λy=>R.uses hB (d.map (·.2)) (Dj W.ss ord (d.map (·.2)) (d.map (·.2))) y
 have rg:∀y∈EO W q.1 (d.map (·.2)),0<=y/\y<((40:Nat):Int):=λy I=>by
  have h1:=WG g.ok g.sm (WE g.ok g.sm g.inn an S af).1 ((bc y).mpr I);lia
 refine⟨r,A,t,D,W,q.1,λζ=>True,d,rfl,(C1 bi).caseH,g.ok,R,S,bj _ _ eD,(λz Z=>(h z Z).same bj),ez,lz,rg,λc3 c4 c5 ah bZ cf ca=>?_⟩;obtain rfl:=Ik cd cf λy=>(bY y).trans ((bc y).trans (ca y).symm);refine⟨_,_,.lst (ba.map Dt.int),.lst (ba.map Dt.int),rfl,.lst (Af.of (ah _ _ bX)) (Pr _),.lst (Af.of bZ) (Pr _),Io _,Io _,λb bd bN cb=>?_⟩;rw[cb.mpr rfl];refine⟨rfl,Bm ?_⟩;refine⟨Gj,λp hp=>?_⟩;have bO:=AJ (o:=.tup [.ref r,.ref t,.ref A]) hp;have aa:=bi.trans (ah.trans (bN.trans bO));have ao:=m.trans aa;have x1:Aq K (upd bd p (.tup [.ref r,.ref t,.ref A])) (.ref p) (.tup [HH ss O L,N4 ai B ord,.lst (as.map B3)]):=.tup (Al.of Aa) (.cons ((T.same ao).dt (ao _ _ eN)) (.cons (TB.same ao).dt (.cons (.lst (Af.of (ao _ _ eA)) (hv.same ao).dts) .nil)));have x2:Aq K (upd bd p (.tup [.ref r,.ref t,.ref A])) (.ref r2) (.tup [HH ss O L,N4 ai B ord,.lst (as.map B3)]):=.tup (Al.of (aa _ _ ar)) (.cons ((aK.same aa).dt (aa _ _ aJ)) (.cons (aN.same aa).dt (.cons (.lst (Af.of (aa _ _ aL)) (aM.same aa).dts) .nil)));refine⟨7,_,_,.tup (.cons (Ju _ _ _ _ _ _) (.cons (Yv _ _ _ _ _ _) (.cons ((Yx as as).mono (by decide)) (.nil _)))),by decide,x2,x1,?_⟩;rw[Ep rfl];exact kq _
abbrev OR(P w K mg base):=BG P w K mg base "law" 9 ["_law_script"] (OQ K)
def OS(B:BH mg)(g:Qo P w K mg base)(c:Oz P w K mg base)(h:Qp P w K mg base)(d:OG P w K mg base)(i:Qx P w K mg base)(e:QA P w K mg base)(j:QE P w K mg base)(k:QF P w K mg base)(l:QH P w K mg base)(m:QI P w K mg base)(F:Bv K "law" "law" IL f fd)(a:mg "law" = some (.ref f)):OR P w K mg base:=
 ⟨f,fd,Ip B g c h d i e j k l m F,a,F.kp,F.binds λζ ζ ζ ζ ζ ζ us b=>(by obtain⟨n,rfl⟩:=H1 b;rfl)⟩
end
abbrev Fin (K:Aj) (mg:Str->Option Value) (x:Str) (st:Stmt):Prop:=∃f fd,Bv K x x st f fd/\mg x=some (.ref f)
def BZ{K:Aj}{h:Heap}{b:Str->Option Value}(X:K.In h)(G:h.Ns mainGlobals b){x:Str}{st:Stmt}(q:Fx K x st):Fin K b x st:=by
 obtain⟨f,d,e,g,m,kV,n,i,o,j,a,l,c,k⟩:=q;exact⟨f,_,Hx l c k,PySem.W.mg_of X G a⟩
def all_mk{l:PySem.W.OpenLaw}{w:World}{K:Aj}{h:Heap}{a:Str->Option Value}{f:Addr}(X:K.In h)(G:h.Ns mainGlobals a)(V:a "law" = some (.ref f))(q:Kk K)
 : ∃g:FuncData,(∀(s:Shared)(v:Value),BindsTo s g ⟨[v],[]⟩ [("_law_script",v)])/\∀b:Heap,K.In b->b.Ns mainGlobals a->Ex l.prog w K a b Iz 9 f g ["_law_script"] (OQ K):=by
 obtain⟨ca,cb,cc,bu,cd,bv,bw,bx,bz,b0,W,Y,Z,aa⟩:=q.q47;have e:=V.symm.trans (PySem.W.mg_of X G W);cases e;have B:BH a:=⟨F5 X G q.z_all,F5 X G q.z_any,F5 X G q.z_bool,F5 X G q.z_dict,F5 X G q.z_enumerate,F5 X G q.z_int,F5 X G q.z_isinstance,F5 X G q.z_len,F5 X G q.z_list,F5 X G q.z_min,F5 X G q.z_range,F5 X G q.z_set,F5 X G q.z_sorted,F5 X G q.z_str,F5 X G q.z_tuple,F5 X G q.z_zip,q.y_MOST_BEGINNINGS.imp λζ y=>PySem.W.mg_of X G y⟩;obtain⟨_,_,x,z⟩:=BZ X G q.q0;obtain⟨_,_,A,C⟩:=BZ X G q.q1;obtain⟨_,_,D,E⟩:=BZ X G q.q2;obtain⟨_,_,F,H⟩:=BZ X G q.q3;obtain⟨_,_,I,J⟩:=BZ X G q.q4;obtain⟨_,_,L,M⟩:=BZ X G q.q5;obtain⟨_,_,N,O⟩:=BZ X G q.q6;obtain⟨_,_,P,Q⟩:=BZ X G q.q7;obtain⟨_,_,R,S⟩:=BZ X G q.q8;obtain⟨_,_,T,U⟩:=BZ X G q.q9;obtain⟨_,_,ab,ae⟩:=BZ X G q.q10;obtain⟨_,_,af,ag⟩:=BZ X G q.q11;obtain⟨_,_,ah,ai⟩:=BZ X G q.q12;obtain⟨_,_,aj,ak⟩:=BZ X G q.q13;obtain⟨_,_,al,an⟩:=BZ X G q.q14;obtain⟨_,_,ao,aq⟩:=BZ X G q.q15;obtain⟨_,_,ar,au⟩:=BZ X G q.q16;obtain⟨_,_,av,aw⟩:=BZ X G q.q17;obtain⟨_,_,ax,ay⟩:=BZ X G q.q18;obtain⟨_,_,az,a0⟩:=BZ X G q.q19;obtain⟨_,_,a1,a2⟩:=BZ X G q.q20;obtain⟨_,_,a3,a4⟩:=BZ X G q.q21;obtain⟨_,_,a5,a6⟩:=BZ X G q.q22;obtain⟨_,_,a7,a8⟩:=BZ X G q.q23;obtain⟨_,_,a9,aA⟩:=BZ X G q.q24;obtain⟨_,_,aB,aC⟩:=BZ X G q.q25;obtain⟨_,_,aD,aE⟩:=BZ X G q.q26;obtain⟨_,_,aF,aG⟩:=BZ X G q.q27;obtain⟨_,_,aH,aI⟩:=BZ X G q.q28;obtain⟨_,_,aJ,aK⟩:=BZ X G q.q29;obtain⟨_,_,aL,aM⟩:=BZ X G q.q30;obtain⟨_,_,aN,aO⟩:=BZ X G q.q31;obtain⟨_,_,aP,aQ⟩:=BZ X G q.q32;obtain⟨_,_,aR,aS⟩:=BZ X G q.q33;obtain⟨_,_,aT,aU⟩:=BZ X G q.q34;obtain⟨_,_,aV,aW⟩:=BZ X G q.q35;obtain⟨_,_,aX,aY⟩:=BZ X G q.q36;obtain⟨_,_,aZ,ba⟩:=BZ X G q.q37;obtain⟨_,_,bb,bc⟩:=BZ X G q.q38;obtain⟨_,_,bd,be⟩:=BZ X G q.q39;obtain⟨_,_,bf,bg⟩:=BZ X G q.q40;obtain⟨_,_,bh,bi⟩:=BZ X G q.q41;obtain⟨_,_,bj,bk⟩:=BZ X G q.q42;obtain⟨_,_,bl,bm⟩:=BZ X G q.q43;obtain⟨_,_,bn,bo⟩:=BZ X G q.q44;obtain⟨_,_,bp,bq⟩:=BZ X G q.q45;obtain⟨_,_,br,bs⟩:=BZ X G q.q46;have bt:=Hx (st:=IL) Y Z aa;refine⟨PySem.W.fnOf "law" "law" (Kj IL) (Iv IL) (AR IL) .none bv bw bx bu bz b0,λs v=>.of_eq rfl,λb ζ ζ=>?_⟩;have b1:Tj l.prog w K a b:=ZQ B x z;have i:Oz l.prog w K a b:=ZU B A C;have b2:Tk l.prog w K a b:=ZY B D E;have b3:To l.prog w K a b:=Z0 B F H;have j:Qh l.prog w K a b:=Z3 B I J;have b4:Tr l.prog w K a b:=Z6 B j L M;have b5:Qo l.prog w K a b:=eJ B b1 i b2 b3 j b4 N O;have b6:Tx l.prog w K a b:=eU B P Q;have b7:Tz l.prog w K a b:=e7 B R S;have b8:Qp l.prog w K a b:=fB B b6 b7 T U;have b9:TC l.prog w K a b:=fD B ab ae;have bA:TD l.prog w K a b:=fG B b9 af ag;have k:OG l.prog w K a b:=fH B bA ah ai;have m:Qq l.prog w K a b:=fJ B aj ak;have bB:TF l.prog w K a b:=fL B al an;have n:Qr l.prog w K a b:=fN B bB ao aq;have bC:TH l.prog w K a b:=fO B n ar au;have o:Qs l.prog w K a b:=fU B m bC av aw;have bD:TJ l.prog w K a b:=fZ B o ax ay;have bE:TL l.prog w K a b:=f5 B bD az a0;have bF:TM l.prog w K a b:=f7 B a1 a2;have bG:TN l.prog w K a b:=gB B bF a3 a4;have p:Qt l.prog w K a b:=gD B a5 a6;have r:Qv l.prog w K a b:=gF B a7 a8;have bH:TR l.prog w K a b:=gI B a9 aA;have t:Qw l.prog w K a b:=gK B bH aB aC;have bI:TU l.prog w K a b:=gM B p r t aD aE;have bJ:TV l.prog w K a b:=gO B bG bI aF aG;have bK:TW l.prog w K a b:=gQ B p r t aH aI;have c:OI l.prog w K a b:=gS B aJ aK;have bL:TX l.prog w K a b:=gU B c aL aM;have bM:TY l.prog w K a b:=gX B c aN aO;have bN:Ih l.prog w K a b:=gY B bK bL bM aP aQ;have bO:TZ l.prog w K a b:=g0 B o aR aS;have d:OK l.prog w K a b:=hE B bE bJ bN bO n aT aU;have bP:Qx l.prog w K a b:=hH B d aV aW;have bQ:QA l.prog w K a b:=hU B aX aY;have bR:T9 l.prog w K a b:=hW B aZ ba;have bS:QE l.prog w K a b:=iG B k bR bb bc;have bT:QF l.prog w K a b:=iI B d bd be;have u:QG l.prog w K a b:=iK B bf bg;have bU:Ua l.prog w K a b:=iM B u bh bi;have bV:Ub l.prog w K a b:=iP B m bU bj bk;have bW:Uc l.prog w K a b:=iR B c bl bm;have bX:Ud l.prog w K a b:=iT B bV bW u bn bo;have bY:QH l.prog w K a b:=iU B d bX bp bq;have bZ:QI l.prog w K a b:=iW B br bs;exact Ip B b5 i b8 k bP bQ bS bT bY bZ bt
def walk{l:PySem.W.OpenLaw}{q:Program}{loose:List Str}{XP:(Str->Option Value)->Heap->Prop}{YP:World->Heap->Prop}{d:DefRec}{K:Params->Aj}(i:l.most=some 63)(r:d.params.defaults=[])
 (j:∀(w:World)(h:Heap),YP w h->(K w.params).In h)
 (F:∀(w:World)(b:Str->Option Value)(e:Addr)(h:Heap),(K w.params).In h->h.Ns mainGlobals b->b d.name=some (.ref e) ->
  ∃g:FuncData,(∀(s:Shared)(u:Value),BindsTo s g ⟨[u],[]⟩ [("_law_script",u)])/\∀c:Heap,(K w.params).In c->c.Ns mainGlobals b->Ex l.prog w (K w.params) b c Iz 9 e g ["_law_script"] (OQ (K w.params))) :
 PySem.W.WalkO q loose XP YP l.row.toRowW d [] (λf vs=>PySem.call f vs):=
 L2.Jg (n:=63) (k:=9) (x:= "_law_script") (CX:=λζ=>Iz) (sp:=λw=>OQ (K w.params)) i (by decide) r ⟨rfl,by decide,by decide⟩ j F (λζ ζ a m o ζ p=>⟨a,m,rfl,p,o,λζ=>rfl⟩) λζ ζ ζ ζ ζ z=>z
end K33
open PySem PySem.W PyProof.Rows in
theorem PySem.Challenge.cw_namepaths_k33_owed_ways_holds : PySem.Challenge.rw_namepaths_k33_owed_ways.Holds :=
 K33.hd λK q YP d h1 h2 hY=>K33.walk (l:=PySem.Challenge.rw_namepaths_k33_owed_ways) rfl h1 hY λw mg fa h X G hm=>K33.all_mk X G (h2▸hm) (q w)
