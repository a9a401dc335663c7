import PyProof.Rows.All
import Wide.All
import OpenK.AllK
import Wide.FinOn
import Lean
import PyProof.EqAt
import PyProof.EqKinds
import PyProof.TupleCall
import PySem.Challenge.RW_namepaths_k37_nothing_else_matters
set_option Elab.async false
set_option linter.all false
set_option maxRecDepth 100000
set_option compiler.extract_closed false
set_option maxHeartbeats 1000000
noncomputable section
local macro_rules|`(def $n $s:optDeclSig $v:declVal)=>`(noncomputable def $n $s:optDeclSig $v:declVal)
abbrev Ai:=PySem.W.Frag
def Aj:=@List.length_map
def AC:=@List.getElem?_eq_getElem
def AQ:=@List.length_append
def Bh:=@List.map_append
def Bf:=@List.getElem?_eq_some_iff
def BB:=@List.mem_append
def A6:=@List.getElem?_map
def Bi:=@List.mem_of_getElem?
def Bd:=@List.mem_map
def AR:=@List.mem_singleton
def Cw:=@List.size_toArray
def A3:=@List.mem_cons_self
def BO:=@List.mem_cons
def De:=@List.mem_append_right
def E3:=@List.map_cons
def Ce:=@List.mem_cons_of_mem
def BC:=@List.getD_eq_getElem?_getD
def Ek:=@List.take_succ
def DW:=@List.take_length
def E4:=@List.getElem?_append_left
def Ec:=@List.length_singleton
def Ed:=@List.getElem_mem
def E5:=@List.length_take
def Ep:=@List.map_map
def Fn:=@List.getElem?_append_right
def EM:=@List.take_zero
def E7:=@List.mem_append_left
def Er:=@List.length_cons
def Gr:=@List.nodup_cons
def FL:=@List.length_set
def Ge:=@List.append_assoc
def Kg:=@List.length_drop
def OW:=@List.mem_iff_getElem
def FM:=@List.append_nil
def Mu:=@List.lookup_cons
def Gu:=@List.getElem?_eq_none
def Nc:=@List.mem_filter
def Mv:=@List.drop_eq_getElem_cons
def Mw:=@List.filter_cons
def GK:=@List.length_nil
def Nd:=@List.map_nil
def Mx:=@List.prefix_append
def Kh:=@List.any_eq_true
def My:=@List.find?_cons
def Nf:=@List.filter_append
def Ki:=@List.foldl_append
def OX:=@List.length_filter_le
def F6:=@Option.map_eq_some_iff
def AG:=@Nat.le_refl
def Hc:=@Nat.lt_irrefl
def C9:=@Nat.le_of_lt
def CO:=@Nat.ne_of_lt
def QJ:=@Nat.lt_succ_self
def Df:=@Nat.zero_le
def DX:=@Int.emod_lt_of_pos
def DK:=@Int.emod_nonneg
def DL:=@Int.eq_ofNat_of_zero_le
def BK:=@Int.toNat_natCast
def A7:=@decide_eq_true
def El:=@decide_eq_false
def Bc:=@of_decide_eq_true
def DE:=@PySem.F.plainAttrs_list
def Et:=@PySem.F.slot_list_append
def Eu:=@PySem.F.type_list_append
def C3:=@Bool.false_ne_true
def B2:=@Option.some.inj
def Al:=@if_neg
def An:=@if_pos
def FC:=@Nat.lt_of_lt_of_le
def DY:=@Nat.le_trans
def FD:=@Bool.false_eq_true
def QL:=@List.filterMap_cons
def BR:=@congrArg
open PySem PySem.Spec PyProof.Rows in
def Ad:=@wpAny_bind
open PySem PySem.Spec PyProof.Rows in
def AB:=@wpAny_pure
open PySem PySem.Spec PyProof.Rows in
def FN:=@wpAny_holding
open PySem PySem.Spec PyProof.Rows in
def F7:=@wpAny_truthy_bool
open PySem PySem.Spec PyProof.Rows in
def Bg:=@Heap.get?_push_of_some
open PySem PySem.Spec PyProof.Rows in
def Bt:=@Heap.lt_size
open PySem PySem.Spec PyProof.Rows in
def Ci:=@Heap.get?_push_size
open PySem PySem.Spec PyProof.Rows in
def Cz:=@PassesOwn.never
open PySem PySem.Spec PyProof.Rows in
def FO:=@PySem.W.mg_none_of
open PySem PySem.Spec PyProof.Rows in
def Gf:=@PySem.mem_of_lookup
open PySem PySem.Spec PyProof.Rows in
def OY:=@wpAny_typeOf
open PySem PySem.Spec PyProof.Rows in
def FP:=@wpAny_mono
open PySem PySem.Spec PyProof.Rows in
def Gv:=@wpAny_seqItems
open PySem PySem.Spec PyProof.Rows in
def Im:=@wpAny_rule
noncomputable section
noncomputable def PySem.W.Fast.tw3798560397366091159:PySem.Program:=PySem.Challenge.pw_namepaths_k37_nothing_else_matters
theorem PySem.W.Fast.te3798560397366091159:PySem.Challenge.pw_namepaths_k37_nothing_else_matters=PySem.W.Fast.tw3798560397366091159:=rfl
namespace L2
open PySem PySem.Spec PyProof.Rows
noncomputable def Kj (s:Stmt):Arguments:=match s with
 |.FunctionDef _ a _ _ _ _ _ _ _ _=>a
 |_=>{posonlyargs:=[],args:=[],vararg:=none,kwonlyargs:=[],kw_defaults:=[],kwarg:=none,defaults:=[]}
noncomputable def Io (s:Stmt):List Stmt:=match s with
 |.FunctionDef _ _ b _ _ _ _ _ _ _=>b
 |_=>[]
noncomputable def AX (s:Stmt):Scope:=match s with
 |.FunctionDef _ _ _ _ _ _ sc _ _ _=>sc
 |_=>{kind:=.function,names:=[],isGenerator:=false,isCoroutine:=false}
section
open PySem.W PySem.W.Fast
noncomputable def GL (p:Program) (w:World) (N:Nat):Option Shared:=((tw10274390034422433532 tw14364793385576792824 (opening p) w N (PySem.start (opening p)).1 (PySem.start (opening p)).2).bind (tw14289696077712309145 p)).bind λs₀ =>
 match s₀.heap.isNs mainGlobals && s₀.gens.size==0 with
 |true=>(tw14082659384304107361 tw14364793385576792824 p w s₀.heap.objs.size (s₀.heap.nsMap mainGlobals "__annotations__") N s₀ (topStub p)).bind λs₁=>match staticsOk (tw5923862056798008813 p.main.body) s₀.heap s₁.heap && namesBound p s₁.heap && gensDone s₁ && laidKept s₀.heap s₁.heap with
   |true=>some s₁
   |false=>none
 |false=>none
def IF{p q:Program}{loose:List Str}{Xt:Shared->Bool}{α:Type}{Yf:Shared->α}{Ya:World->α}{N:Nat}
 (A:∀w:World,Option.map (λs=>tw4187177175401517315 q loose (tw5923862056798008813 p.main.body) Xt true s) (GL p w N)=some (openGood q loose))
 (B:∀w:World,Option.map Yf (GL p w N)=some (Ya w)):LeftO p q loose Xt Yf Ya N:=by
 intro w;have a:=A w;have b:=B w
 have h:Option.map (λs=>(tw4187177175401517315 q loose (tw5923862056798008813 p.main.body) Xt true s,Yf s)) (GL p w N)=some (openGood q loose,Ya w):=by
  cases e:GL p w N with
  |none=>rw[e] at a;cases a
  |some s =>
    rw[e] at a b;simp only[Option.map_some] at a b ⊢;rw[B2 a,B2 b]
 unfold GL at h;rw[<-te14082659384304107361,<-te10274390034422433532,<-te14364793385576792824,<-te4187177175401517315,<-te5923862056798008813,<-te14289696077712309145] at h;exact h
end
end L2
namespace K37
open PySem PySem.Spec PyProof.Rows PySem.W L2
noncomputable def top (i:Nat):Stmt:=PySem.Challenge.pw_namepaths_k37_nothing_else_matters.main.body.getD i (.Pass ⟨0,0,0,0⟩)
abbrev QM:Stmt:=top 46
abbrev QN:Stmt:=top 45
abbrev QO:Stmt:=top 47
abbrev QP:Stmt:=top 48
abbrev QQ:Stmt:=top 49
abbrev QR:Stmt:=top 50
abbrev QS:Stmt:=top 51
abbrev QU:Stmt:=top 52
abbrev QV:Stmt:=top 53
abbrev OZ:Stmt:=top 54
abbrev Ng:Stmt:=top 55
abbrev QW:Stmt:=top 56
abbrev QX:Stmt:=top 11
abbrev QY:Stmt:=top 3
abbrev QZ:Stmt:=top 1
abbrev Q0:Stmt:=top 2
abbrev Q1:Stmt:=top 19
abbrev O0:Stmt:=top 18
abbrev Q2:Stmt:=top 15
abbrev Q3:Stmt:=top 12
abbrev Q4:Stmt:=top 16
abbrev O1:Stmt:=top 22
abbrev Q6:Stmt:=top 23
abbrev Q7:Stmt:=top 8
abbrev Q8:Stmt:=top 24
abbrev O3:Stmt:=top 21
abbrev Q9:Stmt:=top 27
abbrev Ra:Stmt:=top 29
abbrev Rb:Stmt:=top 9
abbrev Rc:Stmt:=top 30
abbrev Re:Stmt:=top 31
abbrev Mz:Stmt:=top 28
abbrev Rf:Stmt:=top 17
abbrev Rg:Stmt:=top 26
abbrev Rh:Stmt:=top 42
abbrev O4:Stmt:=top 43
abbrev Ri:Stmt:=top 35
abbrev Rj:Stmt:=top 33
abbrev Rk:Stmt:=top 40
abbrev Rl:Stmt:=top 39
abbrev Rm:Stmt:=top 37
abbrev Rn:Stmt:=top 38
abbrev Ro:Stmt:=top 36
abbrev Rp:Stmt:=top 34
abbrev Rq:Stmt:=top 58
abbrev MA:Stmt:=top 59
abbrev Rr:Stmt:=top 60
abbrev Nh:Stmt:=top 57
abbrev Kk:Stmt:=top 61
noncomputable def own:Stmt->Bool
 |.Assign [.Name x _] _ _=>x != "__name__"
 |_=>true
noncomputable def view:Program:={PySem.Challenge.pw_namepaths_k37_nothing_else_matters with main:={PySem.Challenge.pw_namepaths_k37_nothing_else_matters.main with body:=PySem.Challenge.pw_namepaths_k37_nothing_else_matters.main.body.filter own}}
noncomputable abbrev Fx (K:Frag) (x:Str) (st:Stmt):Prop:=∃(f:Addr)(oc:Value)(od an:Option Addr)(osl:Array (Option Value))(kV doc pm cdv ct:Value),nsIn K mainGlobals x=some (some (.ref f))/\K.lookup f=some ⟨oc,od,.func (fnOf x x (Kj st) (Io st) (AX st) .none kV doc pm an cdv ct),osl⟩/\codeIn K cdv x=true/\keepIn K (.ref f)=true
def Av{K:Frag}{x:Str}{st:Stmt}{f:Addr}{d:Value}{e g:Option Addr}{i:Array (Option Value)}{kV j h b ct:Value}(a:nsIn K mainGlobals x=some (some (.ref f)))(l:K.lookup f=some ⟨d,e,.func (fnOf x x (Kj st) (Io st) (AX st) .none kV j h g b ct),i⟩)(c:codeIn K b x=true)(k:keepIn K (.ref f)=true):Fx K x st:=⟨f,d,e,g,i,kV,j,h,b,ct,a,l,c,k⟩
def Rs{K:Frag}{x:Str}{v:Int}{t:Tok}(h:nsIn K mainGlobals x=some (some (.int v t))):∃t,nsIn K mainGlobals x=some (some (.int v t)):=⟨t,h⟩
structure Kl (K:Frag):Prop where
 q0:Fx K "_law_names" QM
 q1:Fx K "_law_cell_at" QN
 q2:Fx K "_law_ranks" QO
 q3:Fx K "_law_order" QP
 q4:Fx K "_law_table" QQ
 q5:Fx K "_law_question" QR
 q6:Fx K "_law_thing" QS
 q7:Fx K "_law_step" QU
 q8:Fx K "_law_telling" QV
 q9:Fx K "_law_scopes" OZ
 q10:Fx K "_law_made" Ng
 q11:Fx K "_law_answers" QW
 q12:Fx K "next_state" QX
 q13:Fx K "inside_of_sort" QY
 q14:Fx K "inside" QZ
 q15:Fx K "goal" Q0
 q16:Fx K "steps_gone" Q1
 q17:Fx K "longer_by_a_step" O0
 q18:Fx K "beginnings" Q2
 q19:Fx K "has_end" Q3
 q20:Fx K "found_behind" Q4
 q21:Fx K "better_pairs" O1
 q22:Fx K "tree_of" Q6
 q23:Fx K "label_at" Q7
 q24:Fx K "first_hider" Q8
 q25:Fx K "seen_ways" O3
 q26:Fx K "look_for" Q9
 q27:Fx K "first_owed" Ra
 q28:Fx K "telling_at" Rb
 q29:Fx K "first_open" Rc
 q30:Fx K "meaning" Re
 q31:Fx K "met" Mz
 q32:Fx K "owed_behind" Rf
 q33:Fx K "look_up" Rg
 q34:Fx K "find" Rh
 q35:Fx K "trail" O4
 q36:Fx K "scopes_of" Ri
 q37:Fx K "walked" Rj
 q38:Fx K "of_sort" Rk
 q39:Fx K "of_answer" Rl
 q40:Fx K "of_steps" Rm
 q41:Fx K "of_tellings" Rn
 q42:Fx K "questions_of" Ro
 q43:Fx K "used" Rp
 q44:Fx K "_law_asked" Rq
 q45:Fx K "_law_turned" MA
 q46:Fx K "_law_other" Rr
 q47:Fx K "_law_same" Nh
 q48:Fx K "law" Kk
 z_all:nsIn K mainGlobals "all" = some none
 z_any:nsIn K mainGlobals "any" = some none
 z_bool:nsIn K mainGlobals "bool" = some none
 z_dict:nsIn K mainGlobals "dict" = some none
 z_enumerate:nsIn K mainGlobals "enumerate" = some none
 z_int:nsIn K mainGlobals "int" = some none
 z_isinstance:nsIn K mainGlobals "isinstance" = some none
 z_len:nsIn K mainGlobals "len" = some none
 z_list:nsIn K mainGlobals "list" = some none
 z_min:nsIn K mainGlobals "min" = some none
 z_range:nsIn K mainGlobals "range" = some none
 z_reversed:nsIn K mainGlobals "reversed" = some none
 z_set:nsIn K mainGlobals "set" = some none
 z_sorted:nsIn K mainGlobals "sorted" = some none
 z_str:nsIn K mainGlobals "str" = some none
 z_tuple:nsIn K mainGlobals "tuple" = some none
 z_zip:nsIn K mainGlobals "zip" = some none
 y_MOST_BEGINNINGS:∃t,nsIn K mainGlobals "MOST_BEGINNINGS" = some (some (.int 200 t))
theorem Hd(w:World):Option.map (λs=>Fast.tw4187177175401517315 view [] (Fast.tw5923862056798008813 PySem.Challenge.pw_namepaths_k37_nothing_else_matters.main.body) (λs=>xlAt view [] s && recOk [] s) true s) (GL PySem.Challenge.pw_namepaths_k37_nothing_else_matters w 40000)=some (openGood view []):=by kernel_rfl
end K37
abbrev A' := List (PySem.Str × PySem.Str)
abbrev B' := List (PySem.Addr × PySem.Obj)
abbrev C' := Option (PySem.Str × Int)
abbrev D' := PySem.Value → PySem.Shared → Prop
local macro_rules | `(tactic| lia) => `(tactic| omega)
local macro_rules | `(tactic| cbv) => `(tactic| try dsimp only)
set_option tactic.hygienic false
section
open PySem PySem.W PyProof.Rows
local macro_rules | `(tactic| o_head $H:term) => `(tactic| refine holds_open (q := K37.view) (loose := []) (Xt := fun s => xlAt K37.view [] s && recOk [] s) (XP := XL K37.view []) (Yf := Hook.obs $H) (Ya := Hook.val $H) (YP := Hook.says $H) (N := 40000) ?hl (Hook.of $H) (Hook.keeps $H) (fun s e => xl_of s (Bool.and_eq_true_iff.mp e).1) XL.keeps (by rfl) (by rfl) (by rfl) (fun s e => recFacts_of (Bool.and_eq_true_iff.mp e).2) (by rfl) (by first | assumption | decide +kernel) (by decide +kernel) ⟨rfl, rfl, rfl, rfl, rfl, by decide +kernel⟩ ?hw ?hc)
set_option maxHeartbeats 0 in
theorem K37.hd(a:∀K:Params->Frag,(∀w:World,K37.Kl (K w.params))->∀(YP:World->Heap->Prop)(d:DefRec),d.params.defaults=[]->d.name = "law" -> (∀(w:World)(h:Heap),YP w h->(K w.params).In h)->WalkO K37.view [] (XL K37.view []) YP PySem.Challenge.rw_namepaths_k37_nothing_else_matters.row.toRowW d [] (λf vs=>PySem.call f vs)):PySem.Challenge.rw_namepaths_k37_nothing_else_matters.Holds:=by
 w_on;o_law;k_head
 case hl =>
  refine L2.IF K37.Hd λw=>?_
  kernel_rfl
 case hw=>w_witness2
 k_fill
 refine a _ (λw=>?fx) _ _ rfl rfl (λw h Y=>PySem.W.kIn_of Y)
 case fx =>
  refine' ⟨K37.Av ?a0 ?l0 ?c0 ?k0,K37.Av ?a1 ?l1 ?c1 ?k1,K37.Av ?a2 ?l2 ?c2 ?k2,K37.Av ?a3 ?l3 ?c3 ?k3,K37.Av ?a4 ?l4 ?c4 ?k4,K37.Av ?a5 ?l5 ?c5 ?k5,K37.Av ?a6 ?l6 ?c6 ?k6,K37.Av ?a7 ?l7 ?c7 ?k7,K37.Av ?a8 ?l8 ?c8 ?k8,K37.Av ?a9 ?l9 ?c9 ?k9,K37.Av ?a10 ?l10 ?c10 ?k10,K37.Av ?a11 ?l11 ?c11 ?k11,K37.Av ?a12 ?l12 ?c12 ?k12,K37.Av ?a13 ?l13 ?c13 ?k13,K37.Av ?a14 ?l14 ?c14 ?k14,K37.Av ?a15 ?l15 ?c15 ?k15,K37.Av ?a16 ?l16 ?c16 ?k16,K37.Av ?a17 ?l17 ?c17 ?k17,K37.Av ?a18 ?l18 ?c18 ?k18,K37.Av ?a19 ?l19 ?c19 ?k19,K37.Av ?a20 ?l20 ?c20 ?k20,K37.Av ?a21 ?l21 ?c21 ?k21,K37.Av ?a22 ?l22 ?c22 ?k22,K37.Av ?a23 ?l23 ?c23 ?k23,K37.Av ?a24 ?l24 ?c24 ?k24,K37.Av ?a25 ?l25 ?c25 ?k25,K37.Av ?a26 ?l26 ?c26 ?k26,K37.Av ?a27 ?l27 ?c27 ?k27,K37.Av ?a28 ?l28 ?c28 ?k28,K37.Av ?a29 ?l29 ?c29 ?k29,K37.Av ?a30 ?l30 ?c30 ?k30,K37.Av ?a31 ?l31 ?c31 ?k31,K37.Av ?a32 ?l32 ?c32 ?k32,K37.Av ?a33 ?l33 ?c33 ?k33,K37.Av ?a34 ?l34 ?c34 ?k34,K37.Av ?a35 ?l35 ?c35 ?k35,K37.Av ?a36 ?l36 ?c36 ?k36,K37.Av ?a37 ?l37 ?c37 ?k37,K37.Av ?a38 ?l38 ?c38 ?k38,K37.Av ?a39 ?l39 ?c39 ?k39,K37.Av ?a40 ?l40 ?c40 ?k40,K37.Av ?a41 ?l41 ?c41 ?k41,K37.Av ?a42 ?l42 ?c42 ?k42,K37.Av ?a43 ?l43 ?c43 ?k43,K37.Av ?a44 ?l44 ?c44 ?k44,K37.Av ?a45 ?l45 ?c45 ?k45,K37.Av ?a46 ?l46 ?c46 ?k46,K37.Av ?a47 ?l47 ?c47 ?k47,K37.Av ?a48 ?l48 ?c48 ?k48,?z_all,?z_any,?z_bool,?z_dict,?z_enumerate,?z_int,?z_isinstance,?z_len,?z_list,?z_min,?z_range,?z_reversed,?z_set,?z_sorted,?z_str,?z_tuple,?z_zip,K37.Rs ?y_MOST_BEGINNINGS⟩
  case a0|l0|c0|k0|a1|l1|c1|k1|a2|l2|c2|k2|a3|l3|c3|k3|a4|l4|c4|k4|a5|l5|c5|k5|a6|l6|c6|k6|a7|l7|c7|k7|a8|l8|c8|k8|a9|l9|c9|k9|a10|l10|c10|k10|a11|l11|c11|k11|a12|l12|c12|k12|a13|l13|c13|k13|a14|l14|c14|k14|a15|l15|c15|k15|a16|l16|c16|k16|a17|l17|c17|k17|a18|l18|c18|k18|a19|l19|c19|k19|a20|l20|c20|k20|a21|l21|c21|k21|a22|l22|c22|k22|a23|l23|c23|k23|a24|l24|c24|k24|a25|l25|c25|k25|a26|l26|c26|k26|a27|l27|c27|k27|a28|l28|c28|k28|a29|l29|c29|k29|a30|l30|c30|k30|a31|l31|c31|k31|a32|l32|c32|k32|a33|l33|c33|k33|a34|l34|c34|k34|a35|l35|c35|k35|a36|l36|c36|k36|a37|l37|c37|k37|a38|l38|c38|k38|a39|l39|c39|k39|a40|l40|c40|k40|a41|l41|c41|k41|a42|l42|c42|k42|a43|l43|c43|k43|a44|l44|c44|k44|a45|l45|c45|k45|a46|l46|c46|k46|a47|l47|c47|k47|a48|l48|c48|k48|z_all|z_any|z_bool|z_dict|z_enumerate|z_int|z_isinstance|z_len|z_list|z_min|z_range|z_reversed|z_set|z_sorted|z_str|z_tuple|z_zip|y_MOST_BEGINNINGS=>k_is
end
set_option Elab.async false
set_option linter.all false
set_option maxRecDepth 100000
namespace L2
open PySem PySem.Spec PyProof.Rows
abbrev Bp:=Sum Int Str
def MB:Bp->Value->Bool
 |.inl k,v=>Value.isInt k v
 |.inr x,v=>Value.isStrOf x v
def Rt (w:World):Bp->Int
 |.inl k=>hashInt k
 |.inr x=>hashStr w x
theorem IG:∀{k:Bp}{v:Value},MB k v=true->(∃i t,k=Sum.inl i/\v=Value.int i t)\/(∃x t,k=Sum.inr x/\v=Value.str x t)
 |.inl i,v,h=>by
   obtain⟨t,e⟩:=Value.isInt_shape (k:=i) (v:=v) h;exact .inl ⟨i,t,rfl,e⟩
 |.inr x,v,h=>by
   obtain⟨t,e⟩:=Value.isStrOf_shape (x:=x) (v:=v) h;exact .inr ⟨x,t,rfl,e⟩
def Xf(i:Int)(t:Tok):MB (.inl i) (.int i t)=true:=by simp[MB,Value.isInt]
def Xg(x:Str)(t:Tok):MB (.inr x) (.str x t)=true:=by simp[MB,Value.isStrOf]
def K1(a b:Int):decide ((Sum.inl a:Bp)=Sum.inl b)=(a==b):=by
 by_cases e:a=b;subst e;simp;have h:¬(Sum.inl a:Bp)=Sum.inl b:=λq=>e (Sum.inl.inj q);rw[El h];exact(beq_eq_false_iff_ne.mpr e).symm
def K2(a b:Str):decide ((Sum.inr a:Bp)=Sum.inr b)=decide (a=b):=by
 by_cases e:a=b;subst e;simp;have h:¬(Sum.inr a:Bp)=Sum.inr b:=λq=>e (Sum.inr.inj q);rw[El h,El e]
def K3(a:Int)(b:Str):decide ((Sum.inl a:Bp)=Sum.inr b)=false:=El (λq=>nomatch q)
def K4(a:Str)(b:Int):decide ((Sum.inr a:Bp)=Sum.inl b)=false:=El (λq=>nomatch q)
def FE (prog:Program) (w:World):PySem.KeyKind prog w Bp where
 is:=MB
 hash:=Rt w
 inj:=λv a b ha hb=>by
  rcases IG ha with⟨i,t,rfl,rfl⟩|⟨x,t,rfl,rfl⟩;rcases IG hb with⟨j,u,rfl,e⟩|⟨y,u,rfl,e⟩;injection e with e1 _;rw[e1];exact nomatch e;rcases IG hb with⟨j,u,rfl,e⟩|⟨y,u,rfl,e⟩;exact nomatch e;injection e with e1 _;rw[e1]
 byValue:=λk v h=>by
  rcases IG h with⟨i,t,rfl,rfl⟩|⟨x,t,rfl,rfl⟩<;>rfl
 pyHash:=λhv h=>by
  rcases IG hv with⟨i,t,rfl,rfl⟩|⟨x,t,rfl,rfl⟩;exact wpAny_pyHash_int h;exact wpAny_pyHash_str h
 eqBool:=λhu hv h=>by
  rcases IG hu with⟨i,t,rfl,rfl⟩|⟨x,t,rfl,rfl⟩;rcases IG hv with⟨j,u,rfl,rfl⟩|⟨y,u,rfl,rfl⟩;rw[K1] at h;exact wpAny_eqBool_int h;rw[K3] at h;exact SeqAt.EqAt.int_str i t y u _ _ _ _ h;rcases IG hv with⟨j,u,rfl,rfl⟩|⟨y,u,rfl,rfl⟩;rw[K4] at h;exact SeqAt.EqAt.str_int x t j u _ _ _ _ h;rw[K2] at h;exact wpAny_eqBool_str h
 «strs»:=λk x t v h=>by
  rcases IG h with⟨i,u,rfl,e⟩|⟨y,u,rfl,e⟩;exact nomatch e;injection e with e1 _;subst e1;cases v<;>rfl
def Xh(prog:Program)(w:World)(i:Int)(t:Tok):(FE prog w).is (.inl i) (.int i t)=true:=Xf i t
def Xi(prog:Program)(w:World)(x:Str)(t:Tok):(FE prog w).is (.inr x) (.str x t)=true:=Xg x t
inductive V where
 |non|bl (b:Bool)|int (i:Int)|str (x:Str)|byt (b:Array UInt8)|flt (b:UInt64)|ref (a:Addr)|ty (n:String)
 deriving DecidableEq
def RelV:V->Value->Prop
 |.non,u=>u=Value.none
 |.bl b,u=>u=Value.bool b
 |.int i,u=>∃t,u=Value.int i t
 |.str x,u=>∃t,u=Value.str x t
 |.byt b,u=>∃t,u=Value.bytes b t
 |.flt b,u=>∃t,u=Value.float b t
 |.ref a,u=>u=Value.ref a
 |.ty n,u=>u=Value.type n
abbrev Ax:List V->List Value->Prop:=Paired RelV
def Ax.length{xs:List V}{a:List Value}(r:Ax xs a):xs.length=a.length:=Paired.length r
theorem Ax.get:∀{xs:List V}{a:List Value}{i:Nat}{x:V},Ax xs a->xs[i]?=some x->∃u,a[i]?=some u/\RelV x u
 |_,_,_,_,.nil,e=>by simp at e
 |_,_,0,_,.cons r _,e=>by simp at e;subst e;exact⟨_,rfl,r⟩
 |_,_,i+1,x,.cons _ t,e=>by
   obtain⟨u,b,c⟩:=Ax.get (i:=i) (x:=x) t (by simpa using e);exact⟨u,by simpa using b,c⟩
theorem Ax.set{x:V}{u:Value}(r:RelV x u):∀{xs:List V}{a:List Value}(i:Nat),Ax xs a->Ax (xs.set i x) (a.set i u)
 |_,_,_,.nil=>.nil
 |_,_,0,.cons _ t=>.cons r t
 |_,_,i+1,.cons q t=>.cons q (Ax.set r i t)
theorem Ax.append:∀{xs ys:List V}{a ws:List Value},Ax xs a->Ax ys ws->Ax (xs++ys) (a++ws)
 |_,_,_,_,.nil,s=>s
 |_,_,_,_,.cons r t,s=>.cons r (Ax.append t s)
theorem Ax.take:∀{xs:List V}{a:List Value}(n:Nat),Ax xs a->Ax (xs.take n) (a.take n)
 |_,_,0,_=>.nil
 |_,_,_+1,.nil=>.nil
 |_,_,n+1,.cons r t=>.cons r (Ax.take n t)
theorem Ax.drop:∀{xs:List V}{a:List Value}(n:Nat),Ax xs a->Ax (xs.drop n) (a.drop n)
 |_,_,0,r=>r
 |_,_,_+1,.nil=>.nil
 |_,_,n+1,.cons _ t=>Ax.drop n t
def Ee:Option V->Option Value->Prop
 |some v,some u=>RelV v u
 |none,none=>True
 |_,_=>False
def KV {κ:Type}:List (κ×V)->List (κ×Value)->Prop:=Paired λ(p:κ×V)(q:κ×Value)=>p.1=q.1/\RelV p.2 q.2
def kV:Bp->V
 |.inl i=>.int i
 |.inr x=>.str x
inductive HO where
 |lst (xs:List V)
 |tup (xs:List V)
 |dK (kvs:List (Bp×V))|dT (kvs:List (List Bp×V))
 |set (S:Int->Bool) (n:Nat)
 |ins (C dx:Addr) (fs:List (Str×V))
 |own (x:Addr)
 |xd (fs:List (Str×V))
 |met (f x:Addr)
 |rng (lo hi:Int)
 |frz (o:Obj) (u:HO)
 |tbl (ps:Array Value)
 |ext (φ:Heap->Prop)
abbrev Hp:=Addr->Option HO
def upd (H:Hp) (a:Addr) (o:HO):Hp:=λb=>if b=a then some o else H b
variable {H:Hp}{a:Addr}{o:HO}
def Aa:upd H a o a=some o:=by unfold upd;rw[An rfl]
variable {b:Addr}
def AH(h:b≠a):upd H a o b=H b:=by unfold upd;rw[Al h]
variable {u:HO}
def IH:upd (upd H a o) a u=upd H a u:=by
 funext b;unfold upd;split<;>rfl
def Ni(h:H a=some o)(h':H b=some u)(d:o≠u):a≠b:=by
 intro e;subst e;rw[h] at h';exact d (B2 h')
def AW(h:H a=some o)(h':H b=none):a≠b:=by
 intro e;subst e;rw[h] at h';cases h'
section
variable (P:Program) (w:World)
def AF (H:Hp) (h:Heap) (a:Addr):HO->Prop
 |.lst xs=>xs.length<=sizeLine/\∃(its:List Value)(n:Nat),Ax xs its/\h.get? a=some {cls:=.type "list",data:=.seq its.toArray n}
 |.tup xs=>xs.length<=sizeLine/\∃its:List Value,Ax xs its/\IsTup h a its.toArray
 |.dK kvs=>kvs.length<=sizeLine/\(a==sysModules)=false/\∃vs,KV kvs vs/\h.DictOf (FE P w) a vs
 |.dT kvs=>kvs.length<=sizeLine/\(a==sysModules)=false/\∃xs:List (List Bp×Addr×Value),
  Paired (λ(p:List Bp×V)(q:List Bp×Addr×Value)=>p.1=q.1/\H q.2.1=some (.tup (p.1.map kV))/\RelV p.2 q.2.2) kvs xs /\
  ∃o es ep,h.get? a=some o/\o.ExactDict/\o.data=.dict es ep/\es.toList=xs.map (entryOfKey (tupleKind (FE P w)))/\(xs.map (·.1)).Nodup
 |.set S n=>h.SetOf (intKind P w) a S n
 |.ins C dx fs=>H dx=some (.own a)/\fs.length<=1000/\dx≠a/\h.get? a=some (PySem.W.instObj C dx) /\
  ∃mA,h.Ns1 dx mA/\(∀f,Ee (fs.lookup f) (mA f))/\PySem.Within mA (fs.map (·.1))
 |.own _=>∃o,h.get? a=some o
 |.xd fs=>∃mA,h.Ns1 a mA/\∀f,Ee (fs.lookup f) (mA f)
 |.rng lo hi=>∃t u v,h.get? a=some {cls:=.type "range",data:=.fields #[.int lo t,.int hi u,.int 1 v]}
 |.frz o u=>h.get? a=some o/\AF H h a u
 |.tbl ps=>h.get? a=some {cls:=.none,data:=.fields ps}
 |.met f x=>h.get? a=some (PySem.W.methodObj (.ref f) (.ref x))
 |.ext φ=>φ h/\(∃o,h.get? a=some o)/\∀h1 h2:Heap,φ h1->(∀o,h1.get? a=some o->h2.get? a=some o)->φ h2
def C4 (H:Hp) (h:Heap):Prop:=∀a o,H a=some o->AF P w H h a o
end
section
variable {P:Program} {w:World} {H H':Hp} {h h':Heap} {a:Addr} {o:HO}
def AF.lt(x:AF P w H h a o):a<h.objs.size:=by
 cases o with
 |lst b=>obtain⟨_,_,_,_,e⟩:=x;exact Bt e
 |tup b=>obtain⟨_,_,_,p⟩:=x;exact p.lt
 |dK c=>obtain⟨_,_,_,_,o,_,_,e,_⟩:=x;exact Bt e
 |dT c=>obtain⟨_,_,_,_,o,_,_,e,_⟩:=x;exact Bt e
 |set S n=>obtain⟨o,_,_,_,e,_⟩:=x;exact Bt e
 |ins C d fs=>obtain⟨_,_,_,e,_⟩:=x;exact Bt e
 |own y=>obtain⟨_,e⟩:=x;exact Bt e
 |xd fs=>obtain⟨_,⟨_,_,_,e,_⟩,_⟩:=x;exact Bt e
 |rng lo g=>obtain⟨_,_,_,e⟩:=x;exact Bt e
 |frz i u=>obtain⟨e,_⟩:=x;exact Bt e
 |tbl j=>exact Bt (show h.get? a=some _ from x)
 |met f y=>exact Bt (show h.get? a=some _ from x)
 |ext φ=>obtain⟨_,⟨_,e⟩,_⟩:=x;exact Bt e
theorem Paired.mapP{α β:Type}{F G:α->β->Prop}:∀{c:List α}{d:List β},Paired F c d->(∀a b,F a b->G a b)->Paired G c d
 |_,_,.nil,_=>.nil
 |_,_,.cons r t,f=>.cons (f _ _ r) (Paired.mapP t f)
def AF.stay(x:AF P w H h a o)(k:∀b u,(b=a\/H b=some (.own a))->h.get? b=some u->h'.get? b=some u)
 (B:∀b,H b=some (.own a)->H' b=some (.own a)) (D:∀b xs,H b=some (.tup xs)->H' b=some (.tup xs)):AF P w H' h' a o:=by
 induction o with
 |lst xs=>obtain⟨z,m,n,r,e⟩:=x;exact⟨z,m,n,r,k _ _ (.inl rfl) e⟩
 |tup xs=>obtain⟨z,m,r,g,e,c⟩:=x;exact⟨z,m,r,g,k _ _ (.inl rfl) e,c⟩
 |dK I=>obtain⟨z,y,E,r,g,i,j,e,c⟩:=x;exact⟨z,y,E,r,g,i,j,k _ _ (.inl rfl) e,c⟩
 |dT I =>
   obtain⟨z,y,xs,r,g,i,j,e,c⟩:=x;exact⟨z,y,xs,Paired.mapP r λp q z=>⟨z.1,D _ _ z.2.1,z.2.2⟩,g,i,j,k _ _ (.inl rfl) e,c⟩
 |set S n=>obtain⟨g,i,j,t,e,c⟩:=x;exact⟨g,i,j,t,k _ _ (.inl rfl) e,c⟩
 |ins C J fs =>
   obtain⟨d,z,ne,e,mA,⟨l,i,j,F,c⟩,r⟩:=x;exact⟨B _ d,z,ne,k _ _ (.inl rfl) e,mA,⟨l,i,j,k _ _ (.inr d) F,c⟩,r⟩
 |own y=>obtain⟨g,e⟩:=x;exact⟨g,k _ _ (.inl rfl) e⟩
 |xd fs=>obtain⟨mA,⟨l,i,j,e,c⟩,r⟩:=x;exact⟨mA,⟨l,i,j,k _ _ (.inl rfl) e,c⟩,r⟩
 |rng lo K=>obtain⟨t,u,v,e⟩:=x;exact⟨t,u,v,k _ _ (.inl rfl) e⟩
 |frz g u G=>obtain⟨e,q⟩:=x;exact⟨k _ _ (.inl rfl) e,G q⟩
 |tbl s =>
   have e:h.get? a=some {cls:=.none,data:=.fields s}:=x;show h'.get? a=some {cls:=.none,data:=.fields s};exact k a _ (.inl rfl) e
 |met f y =>
   have e:h.get? a=some (PySem.W.methodObj (.ref f) (.ref y)):=x;show h'.get? a=some (PySem.W.methodObj (.ref f) (.ref y));exact k a _ (.inl rfl) e
 |ext φ=>obtain⟨p,⟨o,e⟩,A⟩:=x;exact⟨A _ _ p λo q=>k _ _ (.inl rfl) q,⟨o,k _ _ (.inl rfl) e⟩,A⟩
def C4.lt(x:C4 P w H h)(e:H a=some o):a<h.objs.size:=(x a o e).lt
def C4.fresh(x:C4 P w H h)(e:h.objs.size<=a):H a=none:=by
 cases q:H a with
 |none=>rfl
 |some u=>exact absurd (FC (x.lt q) e) (Hc _)
def C4.kept(x:C4 P w H h)(k:∀b u,h.get? b=some u->h'.get? b=some u):C4 P w H h':=λa o e =>
 (x a o e).stay (λb u ζ q=>k b u q) (λζ q=>q) λζ ζ q=>q
def C4.laid(x:C4 P w H h)(k:∀b u,h.get? b=some u->h'.get? b=some u)(g:h.objs.size<=a)(i:AF P w (upd H a o) h' a o):C4 P w (upd H a o) h':=λb u e=>by
 have d:=x.fresh g;by_cases f:b=a;subst f;rw[Aa] at e;cases e;exact i;rw[AH f] at e;exact(x b u e).stay (λc v ζ q=>k c v q) (λc q=>by rw[AH (AW q d)];exact q) λc j q=>by rw[AH (AW q d)];exact q
end
def Rd (H:Hp) (a:Addr) (u:HO):Prop:=H a=some u\/∃o,H a=some (.frz o u)
variable {P:Program}{w:World}{h:Heap}
def Rd.ok(r:Rd H a u)(x:C4 P w H h):AF P w H h a u:=by
 rcases r with r|⟨o,r⟩;exact x a u r;obtain⟨_,q⟩:=x a _ r;exact q
def Nj:Option HO->Prop
 |some (.lst _)=>True
 |some (.dK _)=>True
 |some (.dT _)=>True
 |some (.set _ _)=>True
 |some (.ins _ _ _)=>True
 |some (.ext _)=>True
 |_=>False
section
variable {P:Program} {w:World} {H:Hp} {h h':Heap} {x e:Addr} {o':HO}
def C4.write(ok:C4 P w H h)(a:Nj (H x))(j:e=x\/H e=some (.own x))(k:∀b u,b≠e->h.get? b=some u->h'.get? b=some u)(o:∃u,h'.get? e=some u)
 (p:AF P w (upd H x o') h' x o'):C4 P w (upd H x o') h':=λb u q=>by
 have m:∀c y,H c=some (.own y)->c≠x:=λc y r z=>by subst z;rw[r] at a;exact a
 have s:∀c d,H c=some (.tup d)->c≠x:=λc d r z=>by subst z;rw[r] at a;exact a
 by_cases f:b=x;subst f;rw[Aa] at q;cases q;exact p;rw[AH f] at q;by_cases i:b=e
 have l:H b=some (.own x):=by
  rcases j with z|z;exact absurd (i.trans z) f;rw[i];exact z
 rw[q] at l;cases l;obtain⟨v,n⟩:=o;exact⟨v,by rw[i];exact n⟩;refine(ok b u q).stay (λc v g r=>k c v ?_ r) (λc r=>by rw[AH (m c b r)];exact r) λc d r=>by rw[AH (s c d r)];exact r
 rcases g with rfl|g;exact i;rintro rfl;rcases j with z|z;exact m c b g z;rw[g] at z;cases z;exact f rfl
end
structure Un (fs ex:List Addr) (H H':Hp) (h h':Heap):Prop where
 keep:∀b o,h.get? b=some o->H b=none->b∉fs->b∉ex->h'.get? b=some o
 slot:∀b o,h.get? b=some o->H b=none->b∈fs->b∉ex->∃sl,h'.get? b=some {o with slots:=sl}
 free:∀b o,h.get? b=some o->H b=none->b∉ex->H' b=none
 there:∀b o,h.get? b=some o->b∉ex->∃o',h'.get? b=some o'
 tups:∀b xs,H b=some (.tup xs)->H' b=some (.tup xs)
 frzs:∀b o u,H b=some (.frz o u)->H' b=some (.frz o u)
 tbls:∀b ps,H b=some (.tbl ps)->∃more,H' b=some (.tbl (ps++more))
section
variable {fs fs' ex ex':List Addr} {H U Y:Hp} {h h1 h2 h':Heap} {a x e:Addr} {o:HO}
def Un.any(u:Un fs ex H U h h1){ob:Obj}(q:h.get? b=some ob)(n:H b=none)(a:b∉ex):∃d,h1.get? b=some {ob with slots:=d}:=by
 by_cases c:b∈fs;exact u.slot b ob q n c a;exact⟨ob.slots,u.keep b ob q n c a⟩
def Un.kept(k:∀b u,h.get? b=some u->h'.get? b=some u):Un fs ex H H h h':=
 ⟨λb a q ζ ζ ζ=>k b a q,λb a q ζ ζ ζ=>⟨a.slots,k b a q⟩,λζ ζ ζ n ζ=>n,λb a q ζ=>⟨a,k b a q⟩,λζ ζ q=>q,λζ ζ ζ q=>q,λζ c q=>⟨#[],by rw[q];simp⟩⟩
def Un.refl:Un fs ex H H h h:=Un.kept λζ ζ q=>q
def Un.laid(k:∀b u,h.get? b=some u->h'.get? b=some u)(d:h.objs.size<=a)(c:H a=none):Un fs ex H (upd H a o) h h' where
 keep:=λb u q ζ ζ ζ=>k b u q
 slot:=λb u q ζ ζ ζ=>⟨u.slots,k b u q⟩
 free:=λb u q n ζ=>by rw[AH (CO (FC (Bt q) d))];exact n
 there:=λb u q ζ=>⟨u,k b u q⟩
 tups:=λb e q=>by rw[AH (AW q c)];exact q
 frzs:=λb u e q=>by rw[AH (AW q c)];exact q
 tbls:=λb f q=>⟨#[],by rw[AH (AW q c),q];simp⟩
def Un.write(a:Nj (H x))(i:e=x\/H e=some (.own x))(k:∀b u,b≠e->h.get? b=some u->h'.get? b=some u)(m:∃u,h'.get? e=some u):Un fs ex H (upd H x o) h h':=by
 have d:∀b,H b=none->b≠x:=λb n z=>by subst z;rw[n] at a;exact a
 have f:∀b,H b=none->b≠e:=λb n z=>by
  subst z;rcases i with r|r;exact d b n r;rw[n] at r;cases r
 have c:∀b u,H b=some u->¬Nj (some u)->b≠x:=λb u q j z=>by subst z;rw[q] at a;exact j a
 refine⟨λb u q n ζ ζ=>k b u (f b n) q,λb u q n ζ ζ=>⟨u.slots,k b u (f b n) q⟩,λb u q n ζ=>by rw[AH (d b n)];exact n,λb u q ζ=>?_,
  λb l q=>by rw[AH (c b _ q λz=>z)];exact q,λb u l q=>by rw[AH (c b _ q λz=>z)];exact q,λb p q=>⟨#[],by rw[AH (c b _ q λz=>z),q];simp⟩⟩
 by_cases g:b=e;subst g;exact m;exact⟨u,k b u g q⟩
end
def O5 (h:Heap) (H:Hp):List Addr:=(List.range h.objs.size).filter λa=>(H a).isSome
def Fo (h:Heap) (H:Hp):Heap:=PySem.W.hideAll h (O5 h H)
def Xj(h:Heap)(H:Hp):(Fo h H).objs.size=h.objs.size:=PySem.W.hideAll_size _ _
def Xk{o:Obj}(e:h.get? b=some o)(n:H b=none):(Fo h H).get? b=some o:=
 PySem.W.hideAll_get _ e λa=>by
  have q:(H b).isSome=true:=(Nc.mp a).2;rw[n] at q;simp at q
def II{o:Obj}(e:(Fo h H).get? b=some o):h.get? b=some o/\H b=none:=by
 have a:h.get? b=some o:=PySem.W.of_hideAll (O5 h H) e;refine⟨a,?_⟩
 cases q:H b with
 |none=>rfl
 |some x =>
   have c:b∈O5 h H:=Nc.mpr ⟨List.mem_range.mpr (Bt a),by simp[q]⟩;have z:(Fo h H).get? b=none:=PySem.W.hideAll_none (O5 h H) c;rw[z] at e;cases e
structure Mod (K:Ai) (mg:Str->Option Value) (base:Heap):Prop where
 kin:K.In base
 glob:base.Ns mainGlobals mg
 blt:∃mb,base.Ns builtinsNs mb/\∀x:Str,x ≠ "__name__" -> mb x=bootBuiltins x
 nolimit:base.NoLimit
structure Cx where
 prog:Program
 w:World
 K:Ai
 mg:Str->Option Value
 base:Heap
 A:Around
 N:List Str
 s₀:Shared
 H₀:Hp
 env:Env
 outer:List Env
 stack:List Env
 ex:List Addr
 fn:Str->Bool
 calm:Bool
 pn:B'
 xe:Value->Shared->Prop
def E8 (l:List Env):List Addr:=l.filterMap (·.frame)
abbrev Cx.fs (X:Cx):List Addr:=E8 X.outer
def O6 (sc:Scope) (x:Str):Prop:=sc.names.lookup x=some .local\/sc.names.lookup x=some .cell\/sc.names.lookup x=some .free
def Loc (sc:Scope) (x:Str):Prop:=sc.names.lookup x=some .local\/sc.names.lookup x=some .cell
def Look (env:Env) (h:Heap) (m:Str->Option Value) (x:Str) (u:Value):Prop:=
 (env.kindOf x=some .local/\m x=some u)\/((env.kindOf x=some .cell\/env.kindOf x=some .free)/\∃c,env.cells.lookup x=some c/\h.IsCell c (some u))
structure Cx.Ok (X:Cx):Prop where
 mod:Mod X.K X.mg X.base
 kind:X.env.scope.kind=.function
 glob:X.env.globals=mainGlobals
 blt:X.env.builtins=builtinsNs
 above:X.s₀.heap.objs.size<=X.env.locals
 inj:∀x y c,X.env.cells.lookup x=some c->X.env.cells.lookup y=some c->x=y
 has:∀x,(X.env.kindOf x=some .cell\/X.env.kindOf x=some .free)->∃c,X.env.cells.lookup x=some c
 cab:∀x c,X.fn x=true->X.env.cells.lookup x=some c->X.s₀.heap.objs.size<=c
 hd:X.calm=true->X.A.handled=none
 frames:X.A.frames=some X.stack
 stk:X.stack=X.outer\/(X.stack=X.env::X.outer/\X.env.frame=some X.env.locals)
 exf:∀b∈X.ex,b≠X.env.locals/\∀x c,X.env.cells.lookup x=some c->c≠b
 bs:∀b o,X.base.get? b=some o->X.s₀.heap.get? b=some o/\X.H₀ b=none
 bsz:X.base.objs.size<=X.s₀.heap.objs.size
 noex:∀b o,X.base.get? b=some o->b∉X.ex
 exfs:∀b∈X.ex,b∉X.fs
 funs:X.s₀.heap.FunFrames X.base X.outer
 frf:∀b∈X.fs,X.H₀ b=none
structure Inv (X:Cx) (pins:B') (σ:List (Option V)) (H:Hp) (s:Shared):Prop where
 ok:X.Ok
 os:s.os=X.s₀.os
 bare:AllBare s.gens
 base:Un X.fs X.ex X.H₀ H X.s₀.heap s.heap
 loc:∃m,s.heap.Ns X.env.locals m/\∀(i:Nat)(x:Str)(v:V),X.N[i]?=some x->σ[i]?=some (some v)->O6 X.env.scope x->∃u,RelV v u/\Look X.env s.heap m x u
 cell:∀x c,X.env.cells.lookup x=some c->∃v,s.heap.IsCell c v
 free:H X.env.locals=none
 freeC:∀x c,X.env.cells.lookup x=some c->H c=none
 pin:∀p∈X.pn++pins,s.heap.get? p.1=some p.2/\H p.1=none/\p.1≠X.env.locals/\p.1∉X.fs/\∀v,p.2.data≠.cell v
 hok:C4 X.prog X.w H s.heap
 len:σ.length=X.N.length
section
variable {X:Cx} {pins:B'} {σ:List (Option V)} {H H':Hp} {s:Shared} {h':Heap}
def Cx.Ok.nofr(ok:X.Ok){o:Obj}(e:X.base.get? b=some o):b∉X.fs:=λa=>by
 have:=(ok.funs.mem a).1;rw[e] at this;cases this
def Inv.bs(I:Inv X pins σ H s):∀b o,X.base.get? b=some o->s.heap.get? b=some o/\H b=none:=λb o e =>
 ⟨I.base.keep b o (I.ok.bs b o e).1 (I.ok.bs b o e).2 (I.ok.nofr e) (I.ok.noex b o e),I.base.free b o (I.ok.bs b o e).1 (I.ok.bs b o e).2 (I.ok.noex b o e)⟩
def Inv.bk(I:Inv X pins σ H s):∀b o,X.base.get? b=some o->s.heap.get? b=some o:=λb o e=>(I.bs b o e).1
def Inv.mod(I:Inv X pins σ H s):Mod X.K X.mg X.base:=I.ok.mod
def Inv.kIn(I:Inv X pins σ H s):X.K.In s.heap:=I.ok.mod.kin.keeps I.bk
def Inv.lt(I:Inv X pins σ H s):X.env.locals<s.heap.objs.size:=let ⟨_,a,_⟩:=I.loc;a.lt
def Inv.sz(I:Inv X pins σ H s):X.s₀.heap.objs.size<=s.heap.objs.size:=DY I.ok.above (C9 I.lt)
def Inv.nofs(I:Inv X pins σ H s)(h:s.heap.objs.size<=a):a∉X.fs:=λb=>by
 obtain⟨_,o,c,_⟩:=I.ok.funs.mem b;exact absurd (FC (Bt c) (DY I.sz h)) (Hc _)
def Inv.cne(I:Inv X pins σ H s):∀x c,X.env.cells.lookup x=some c->c≠X.env.locals:=λx c e z=>by
 obtain⟨v,o,a,hd⟩:=I.cell x c e;obtain⟨m,⟨f,g,h,b,d,_⟩,_⟩:=I.loc;rw[z,b] at a;cases a;rw[d] at hd;cases hd
def Inv.funs(I:Inv X pins σ H s):s.heap.FunFrames X.base X.outer:=by
 have all:∀(l:List Env),(∀b∈E8 l,b∈X.fs)->X.s₀.heap.FunFrames X.base l->s.heap.FunFrames X.base l:=by
  intro l
  induction l with
  |nil=>intro _ _;trivial
  |cons p r g =>
    intro f h;obtain⟨i,⟨L,o,a,j,k,hd⟩,m⟩:=h;have c:L∈X.fs:=f L (by unfold E8;rw[QL,a];exact A3);obtain⟨n,e⟩:=I.base.slot L o k (I.ok.frf L c) c λz=>I.ok.exfs L z c;exact⟨i,⟨L,_,a,j,e,hd⟩,g (λb d=>f b (by unfold E8;rw[QL,a];exact Ce _ d)) m⟩
 exact all X.outer (λζ d=>d) I.ok.funs
def Inv.stack(I:Inv X pins σ H s):s.heap.FunFrames X.base X.stack:=by
 rcases I.ok.stk with e|⟨e,a⟩;rw[e];exact I.funs;rw[e];obtain⟨m,b,_⟩:=I.loc;refine .cons (by rw[I.ok.kind];decide) a b ?_ I.funs;exact Heap.get?_none_of_le (DY I.ok.bsz I.ok.above)
def Inv.stkSub(I:Inv X pins σ H s):∀b∈E8 X.stack,b∈X.env.locals::X.fs:=λb a=>by
 rcases I.ok.stk with e|⟨e,c⟩;rw[e] at a;exact Ce _ a;rw[e] at a;unfold E8 at a;rw[QL,c] at a;exact a
def Inv.stkFree(I:Inv X pins σ H s):∀b∈E8 X.stack,H b=none:=λb a=>by
 rcases BO.mp (I.stkSub b a) with e|a;rw[e];exact I.free;obtain⟨_,o,c,_⟩:=I.ok.funs.mem a;exact I.base.free b o c (I.ok.frf b a) λz=>I.ok.exfs b z a
variable {t':Nat}{ch:List Addr}
def Inv.step{g':Array GenState}{d':Drawn}(I:Inv X pins σ H s)
 (w:∀b∈ch,(b∈X.ex\/X.s₀.heap.objs.size<=b)/\b≠X.env.locals/\(∀x c,X.env.cells.lookup x=some c->c≠b)/\∀p∈X.pn++pins,p.1≠b)
 (keep:∀b o,b≠X.env.locals->b∉X.fs->b∉ch->s.heap.get? b=some o->H b=none->h'.get? b=some o)
 (G:∀b o,b≠X.env.locals->b∈X.fs->b∉ch->s.heap.get? b=some o->H b=none->∃B,h'.get? b=some {o with slots:=B}) (free:∀b o,b∉ch->s.heap.get? b=some o->H b=none->H' b=none)
 (there:∀b o,b∉ch->s.heap.get? b=some o->∃j,h'.get? b=some j)
 (tups:∀b xs,H b=some (.tup xs)->H' b=some (.tup xs)) (S:∀b o u,H b=some (.frz o u)->H' b=some (.frz o u)) (T:∀b ps,H b=some (.tbl ps)->∃more,H' b=some (.tbl (ps++more)))
 (ns:∀m,s.heap.Ns X.env.locals m->h'.Ns X.env.locals m) (Q:C4 X.prog X.w H' h') (K:AllBare g') :
 Inv X pins σ H' {s with heap:=h',gens:=g',drawn:=d',toks:=t'}:=by
 have F:∀b o,X.s₀.heap.get? b=some o->b≠X.env.locals:=λb o e=>CO (FC (Bt e) I.ok.above)
 have A:∀b o,X.s₀.heap.get? b=some o->b∉X.ex->b∉ch:=λb o e a g=>by
  rcases(w b g).1 with z|z;exact a z;exact absurd (FC (Bt e) z) (Hc _)
 have J:∀x c,X.env.cells.lookup x=some c->∀v,s.heap.IsCell c v->h'.IsCell c v:=λx c e v⟨o,h,hd⟩=>by
  have y:c∉ch:=λz=>(w c z).2.2.1 x c e rfl;by_cases C:c∈X.fs;obtain⟨B,q⟩:=G c o (I.cne x c e) C y h (I.freeC x c e);exact⟨_,q,hd⟩;exact⟨o,keep c o (I.cne x c e) C y h (I.freeC x c e),hd⟩
 refine⟨I.ok,I.os,K,⟨λb o e n g a=>?_,λb o e n g a=>?_,λb o e n a=>?_,λb o e a=>?_,λb xs e=>tups b xs (I.base.tups b xs e),λb o xs e=>S b o xs (I.base.frzs b o xs e),λb ps e=>?_⟩,?_,λx c e=>?_,?_,λx c e=>?_,λp D=>?_,Q,I.len⟩;exact keep b o (F b o e) g (A b o e a) (I.base.keep b o e n g a) (I.base.free b o e n a);obtain⟨B,f⟩:=I.base.slot b o e n g a;obtain⟨R,t⟩:=G b _ (F b o e) g (A b o e a) f (I.base.free b o e n a);exact⟨R,t⟩;obtain⟨j,f⟩:=I.base.there b o e a;exact free b j (A b o e a) f (I.base.free b o e n a);obtain⟨j,f⟩:=I.base.there b o e a;exact there b j (A b o e a) f;obtain⟨L,f⟩:=I.base.tbls b ps e;obtain⟨M,t⟩:=T b _ f;exact⟨L++M,by rw[t,Array.append_assoc]⟩;obtain⟨m,N,O⟩:=I.loc;refine⟨m,ns m N,λi x v f t P=>?_⟩;obtain⟨u,r,l⟩:=O i x v f t P;refine⟨u,r,?_⟩;rcases l with l|⟨k,c,e,z⟩;exact .inl l;exact .inr ⟨k,c,e,J x c e _ z⟩;obtain⟨v,z⟩:=I.cell x c e;exact⟨v,J x c e v z⟩;obtain⟨m,⟨o,_,_,h,_⟩,_⟩:=I.loc;exact free _ o (λz=>(w _ z).2.1 rfl) h I.free;obtain⟨v,o,h,hd⟩:=I.cell x c e;exact free c o (λz=>(w c z).2.2.1 x c e rfl) h (I.freeC x c e);obtain⟨e,n,ne,E,d⟩:=I.pin p D;have y:p.1∉ch:=λz=>(w p.1 z).2.2.2 p D rfl;exact⟨keep p.1 p.2 ne E y e n,free p.1 p.2 y e n,ne,E,d⟩
def Inv.un(I:Inv X pins σ H s)(u:Un X.fs [] H H' s.heap h')(i:C4 X.prog X.w H' h'):Inv X pins σ H' {s with heap:=h',toks:=t'}:=by
 obtain⟨m,⟨o,l,p,c,r⟩,_⟩:=id I.loc;obtain⟨q,f⟩:=u.any c I.free (by simp)
 exact I.step (g':=s.gens) (d':=s.drawn) (ch:=[]) (λζ z=>nomatch z) (λb o ζ a ζ e n=>u.keep b o e n a (by simp)) (λb o ζ a ζ e n=>u.slot b o e n a (by simp)) (λb o ζ e n=>u.free b o e n (by simp)) (λb o ζ e=>u.there b o e (by simp)) u.tups u.frzs u.tbls (λt g=>by
  obtain⟨v,j,k,d,h⟩:=g;rw[c] at d;cases d
  exact⟨_,j,k,f,h⟩) i I.bare
def Inv.call{g':Array GenState}{d':Drawn}(I:Inv X pins σ H s)(u:Un (E8 X.stack) ch H H' s.heap h')(q:C4 X.prog X.w H' h')(i:AllBare g')
 (g:∀b∈ch,(b∈X.ex\/X.s₀.heap.objs.size<=b)/\b≠X.env.locals/\(∀x c,X.env.cells.lookup x=some c->c≠b)/\∀p∈X.pn++pins,p.1≠b) :
 Inv X pins σ H' {s with heap:=h',gens:=g',drawn:=d',toks:=t'}:=by
 obtain⟨m,⟨o,w,y,f,r⟩,_⟩:=id I.loc;obtain⟨A,d⟩:=u.any f I.free λz=>(g _ z).2.1 rfl
 exact I.step (ch:=ch) g (λb o d j a e n=>u.keep b o e n (λz=>(BO.mp (I.stkSub b z)).elim d j) a) (λb o ζ ζ a e n=>u.any e n a) (λb o a e n=>u.free b o e n a) (λb o a e=>u.there b o e a) u.tups u.frzs u.tbls (λB k=>by
  obtain⟨C,t,v,h,l⟩:=k;rw[f] at h;cases h
  exact⟨_,t,v,d,l⟩) q i
def Inv.turned{a:Addr}(I:Inv X pins σ H s)(k:∀b o,b≠a->s.heap.get? b=some o->h'.get? b=some o)(h:H a=none)(f:a≠X.env.locals)
 (i:a∈X.ex\/X.s₀.heap.objs.size<=a) (j:∀x c,X.env.cells.lookup x=some c->c≠a) (l:∀p∈X.pn++pins,p.1≠a):Inv X pins σ H {s with heap:=h',toks:=t'}:=by
 have g:∀b u,H b=some u->b≠a:=λb u e z=>by rw[z,h] at e;cases e
 refine I.step (g':=s.gens) (d':=s.drawn) (ch:=[a]) (λb t=>?_) (λb o ζ ζ d e ζ=>k b o (λz=>d (by simp[z])) e) (λb o ζ ζ d e ζ=>⟨o.slots,k b o (λz=>d (by simp[z])) e⟩) (λζ ζ ζ ζ n=>n)
  (λb o d e=>⟨o,k b o (λz=>d (by simp[z])) e⟩) (λζ ζ e=>e) (λζ ζ ζ e=>e) (λb C e=>⟨#[],by rw[e];simp⟩) (λm w=>?_) (λb u e=>?_) I.bare
 have e:b=a:=(by simpa using t);subst e;exact⟨i,f,j,l⟩;obtain⟨o,y,A,B,r⟩:=w;exact⟨o,y,A,k _ o (Ne.symm f) B,r⟩;refine(I.hok b u e).stay (λc v d q=>k c v ?_ q) (λζ q=>q) λζ ζ q=>q;rcases d with z|z;rw[z];exact g b u e;exact g c _ z
def Inv.tok(I:Inv X pins σ H s)(t:Nat):Inv X pins σ H {s with toks:=t}:=I.un (h':=s.heap) (t':=t) Un.refl I.hok
def Inv.kept{t':Nat}(I:Inv X pins σ H s)(k:∀b u,s.heap.get? b=some u->h'.get? b=some u):Inv X pins σ H {s with heap:=h',toks:=t'}:=I.un (Un.kept k) (I.hok.kept k)
def Inv.laid{a:Addr}{o:HO}{t':Nat}(I:Inv X pins σ H s)(k:∀b u,s.heap.get? b=some u->h'.get? b=some u)(c:s.heap.objs.size<=a)(d:AF X.prog X.w (upd H a o) h' a o) :
 Inv X pins σ (upd H a o) {s with heap:=h',toks:=t'}:=I.un (Un.laid k c (I.hok.fresh c)) (I.hok.laid k c d)
def Inv.write{x e:Addr}{o:HO}{t':Nat}(I:Inv X pins σ H s)(a:Nj (H x))(c:e=x\/H e=some (.own x))(k:∀b u,b≠e->s.heap.get? b=some u->h'.get? b=some u)(d:∃u,h'.get? e=some u)
 (f:AF X.prog X.w (upd H x o) h' x o):Inv X pins σ (upd H x o) {s with heap:=h',toks:=t'}:=I.un (Un.write a c k d) (I.hok.write a c k d f)
def Inv.pins_of{a:B'}(I:Inv X pins σ H s)(h:∀p∈a,s.heap.get? p.1=some p.2/\H p.1=none/\p.1≠X.env.locals/\p.1∉X.fs/\∀v,p.2.data≠.cell v):Inv X a σ H s:=
 ⟨I.ok,I.os,I.bare,I.base,I.loc,I.cell,I.free,I.freeC,λp b=>(BB.mp b).elim (λz=>I.pin p (E7 _ z)) (h p),I.hok,I.len⟩
variable {i:Nat}{x:Str}
def Uq{N:List Str}(c:N.Nodup){j:Nat}(a:N[i]?=some x)(b:N[j]?=some x):i=j:=by
 obtain⟨f,d⟩:=Bf.mp a;obtain⟨g,e⟩:=Bf.mp b;exact(List.getElem_inj c).mp (d.trans e.symm)
def Ur{ai:Model}{A:Around}{E:D'}{v:V}{u:Value}{Q:Unit->Shared->Prop}(I:Inv X pins σ H s)(U:X.N.Nodup)(D:X.N[i]?=some x)(m:Loc X.env.scope x)(r:RelV v u)
 (h:∀Z,Inv X pins (σ.set i (some v)) H Z->(∃a,Heap.SameBut a s.heap Z.heap/\(a=X.env.locals\/X.env.cells.lookup x=some a))->Q () Z) (hf:X.fn x=true\/X.env.scope.names.lookup x=some .local:=by first|exact .inl rfl|exact .inr rfl|assumption):wpAny ai A (storeName X.env x u) Q E s:=by
 obtain⟨aj,J,W⟩:=id I.loc;have an:(X.env.scope.kind==.class || (X.env.scope.kind==.module && X.env.locals != X.env.globals))=false:=by rw[I.ok.kind];rfl
 have aa:i<σ.length:=by rw[I.len];exact(Bf.mp D).1
 have cne:=I.cne
 have ah:∀{a:Addr}{h':Heap},(∃o,s.heap.get? a=some o/\H a=none)->Heap.SameBut a s.heap h'->C4 X.prog X.w H h':=λ{a h'}ha f b ob e=>by
  obtain⟨_,_,ag⟩:=ha;refine(I.hok b ob e).stay (λc F l q=>(f.2 c ?_).trans q) (λζ q=>q) λζ ζ q=>q;rintro rfl;rcases l with rfl|l;rw[ag] at e;cases e;rw[ag] at l;cases l
 rcases m with w|w;refine wpAny_storeName_local w J (λh' ak f=>?_) an;obtain⟨oL,_,_,al,_⟩:=id J;refine h _ ⟨I.ok,I.os,I.bare,⟨λb o e n B m=>?_,λb o e n B m=>?_,I.base.free,λb o e m=>?_,I.base.tups,I.base.frzs,I.base.tbls⟩,⟨_,ak,λj y K g t L=>?_⟩,λy c e=>?_,I.free,I.freeC,λp M=>?_,ah ⟨oL,al,I.free⟩ f,by simpa using I.len⟩ ⟨_,f,.inl rfl⟩;exact(f.2 b (CO (FC (Bt e) I.ok.above))).trans (I.base.keep b o e n B m);obtain⟨N,g⟩:=I.base.slot b o e n B m;exact⟨N,(f.2 b (CO (FC (Bt e) I.ok.above))).trans g⟩;obtain⟨O,g⟩:=I.base.there b o e m;exact⟨O,(f.2 b (CO (FC (Bt e) I.ok.above))).trans g⟩;by_cases C:j=i;subst C;rw[D] at g;cases g;rw[List.getElem?_set_self aa] at t;cases t;exact⟨u,r,.inl ⟨w,by simp⟩⟩;rw[List.getElem?_set_ne (Ne.symm C)] at t;obtain⟨P,R,q⟩:=W j y K g t L;refine⟨P,R,?_⟩;rcases q with⟨k,e⟩|⟨k,c,e,z⟩;refine .inl ⟨k,?_⟩;have:y≠x:=λe=>C (Uq U g (e▸D));simp[this,e];exact .inr ⟨k,c,e,z.sameBut f (cne y c e)⟩;obtain⟨F,z⟩:=I.cell y c e;exact⟨F,z.sameBut f (cne y c e)⟩;obtain⟨e,n,ne,S,d⟩:=I.pin p M;exact⟨(f.2 p.1 ne).trans e,n,ne,S,d⟩
 have T:X.fn x=true:=by
  rcases hf with z|z;exact z;rw[z] at w;cases w
 obtain⟨c,l⟩:=I.ok.has x (.inl w);obtain⟨F,z⟩:=I.cell x c l;refine wpAny_storeName_cell I.ok.kind w l z (λh' ab f=>?_);obtain⟨Y,ae,ao⟩:=id z;refine h {s with heap:=h'} ⟨I.ok,I.os,I.bare,⟨λb o e n B m=>?_,λb o e n B m=>?_,I.base.free,λb o e m=>?_,I.base.tups,I.base.frzs,I.base.tbls⟩,⟨aj,J.sameBut f (Ne.symm (cne x c l)),λj y K g t L=>?_⟩,λy G e=>?_,I.free,I.freeC,λp M=>?_,ah ⟨Y,ae,I.freeC x c l⟩ f,by simpa using I.len⟩ ⟨c,f,.inr l⟩;exact(f.2 b (CO (FC (Bt e) (I.ok.cab x c T l)))).trans (I.base.keep b o e n B m);obtain⟨N,g⟩:=I.base.slot b o e n B m;exact⟨N,(f.2 b (CO (FC (Bt e) (I.ok.cab x c T l)))).trans g⟩;obtain⟨O,g⟩:=I.base.there b o e m;exact⟨O,(f.2 b (CO (FC (Bt e) (I.ok.cab x c T l)))).trans g⟩;by_cases C:j=i;subst C;rw[D] at g;cases g;rw[List.getElem?_set_self aa] at t;cases t;exact⟨u,r,.inr ⟨.inl w,c,l,ab⟩⟩;rw[List.getElem?_set_ne (Ne.symm C)] at t;obtain⟨P,R,q⟩:=W j y K g t L;refine⟨P,R,?_⟩;rcases q with q|⟨k,G,e,z'⟩;exact .inl q;refine .inr ⟨k,G,e,z'.sameBut f ?_⟩;rintro rfl;exact C (Uq U g (I.ok.inj _ _ _ e l▸D));by_cases af:G=c;subst af;exact⟨_,ab⟩;obtain⟨w2,z2⟩:=I.cell y G e;exact⟨w2,z2.sameBut f af⟩;obtain⟨e,n,ne,S,d⟩:=I.pin p M;refine⟨(f.2 p.1 ?_).trans e,n,ne,S,d⟩;intro q;rw[q,ae] at e;have q':Y=p.2:=B2 e;exact d F (by rw[<-q'];exact ao)
def Ru{M:Model}{A:Around}{E:D'}{v:V}{u:Value}{Q:Unit->Shared->Prop}(I:Inv X pins σ H s)(a:X.N.Nodup)(b:X.N[i]?=some x)(c:Loc X.env.scope x)(r:RelV v u)
 (h:∀Z,Inv X pins (σ.set i (some v)) H Z->Q () Z) (d:X.fn x=true\/X.env.scope.names.lookup x=some .local:=by first|exact .inl rfl|exact .inr rfl|assumption):wpAny M A (storeName X.env x u) Q E s:=
 Ur I a b c r (λZ e ζ=>h Z e) d
def Inv.call'{Z:Shared}(I:Inv X pins σ H s)(a:Z.os=s.os)(u:Un (E8 X.stack) ch H H' s.heap Z.heap)(g:C4 X.prog X.w H' Z.heap)(d:AllBare Z.gens)
 (h:∀b∈ch,(b∈X.ex\/X.s₀.heap.objs.size<=b)/\b≠X.env.locals/\(∀x c,X.env.cells.lookup x=some c->c≠b)/\∀p∈X.pn++pins,p.1≠b):Inv X pins σ H' Z:=by
 obtain⟨h',g',d',t',f⟩:=Z;have e:f=s.os:=a;subst e;exact I.call (g':=g') (t':=t') (d':=d') u g d h
end
abbrev XK:=Value->Option Addr->Hp->Prop
abbrev St:=List (Option V)
abbrev VK:=V->Hp->Prop
abbrev TE:=St->Hp->VK->Prop
abbrev TT:=St->Hp->(Bool->Hp->Prop)->Prop
abbrev TA:=St->Hp->(List V->Hp->Prop)->Prop
structure Ends where
 nx:St->Hp->Prop
 rt:VK
 bk:St->Hp->Prop:=λζ ζ=>False
 ct:St->Hp->Prop:=λζ ζ=>False
abbrev TS:=Ends->St->Hp->Prop
def EP (X:Cx) (pins:B') (σ:St) (Q:VK) (u:Value) (Z:Shared):Prop:=∃v H',Inv X pins σ H' Z/\RelV v u/\Q v H'
def TP (X:Cx) (pins:B') (σ:St) (Q:Bool->Hp->Prop) (b:Bool) (Z:Shared):Prop:=∃H',Inv X pins σ H' Z/\Q b H'
def AP (X:Cx) (pins:B') (σ:St) (Q:List V->Hp->Prop) (us:List Value) (Z:Shared):Prop:=∃vs H',Inv X pins σ H' Z/\Ax vs us/\Q vs H'
def SP (X:Cx) (pins:B') (D:Ends) (f:Flow) (Z:Shared):Prop:=
 match f with
 |.next=>∃σ' H',Inv X pins σ' H' Z/\D.nx σ' H'
 |.brk=>∃σ' H',Inv X pins σ' H' Z/\D.bk σ' H'
 |.cont=>∃σ' H',Inv X pins σ' H' Z/\D.ct σ' H'
 |.ret u=>∃v σ' H',Inv X pins σ' H' Z/\RelV v u/\D.rt v H'
def PE (X:Cx) (e:Expr) (t:TE):Prop:=
 ∀(pins:B')(s:Shared)(σ:St)(H:Hp)(Q:VK),Inv X pins σ H s->t σ H Q->wpAny (model X.prog X.w) X.A (eval e X.env) (EP X pins σ Q) X.xe s
def PT (X:Cx) (e:Expr) (t:TT):Prop:=
 ∀(pins:B')(s:Shared)(σ:St)(H:Hp)(Q:Bool->Hp->Prop),Inv X pins σ H s->t σ H Q->wpAny (model X.prog X.w) X.A (isTrue e X.env (eval e X.env)) (TP X pins σ Q) X.xe s
def PW (X:Cx) (e:Expr) (t:TT):Prop:=
 ∀(whole:Sem Value)(pins:B')(s:Shared)(σ:St)(H:Hp)(Q:Bool->Hp->Prop),Inv X pins σ H s->t σ H Q->wpAny (model X.prog X.w) X.A (isTrue e X.env whole) (TP X pins σ Q) X.xe s
variable {X:Cx}{e:Expr}
def PW.pt{t:TT}(h:PW X e t):PT X e t:=h _
def PA (X:Cx) (es:List Expr) (t:TA):Prop:=
 ∀(L:Pos)(pins:B')(s:Shared)(σ:St)(H:Hp)(Q:List V->Hp->Prop),Inv X pins σ H s->t σ H Q->wpAny (model X.prog X.w) X.A (spliced (backTo L (starEach es X.env))) (AP X pins σ Q) X.xe s
def PS (X:Cx) (st:Stmt) (t:TS):Prop:=
 ∀(pins:B')(s:Shared)(σ:St)(H:Hp)(D:Ends),Inv X pins σ H s->t D σ H->wpAny (model X.prog X.w) X.A (exec st X.env) (SP X pins D) X.xe s
def Gg (X:Cx) (st:List Stmt) (t:TS):Prop:=
 ∀(pins:B')(s:Shared)(σ:St)(H:Hp)(D:Ends),Inv X pins σ H s->t D σ H->wpAny (model X.prog X.w) X.A (execs st X.env) (SP X pins D) X.xe s
variable {A:Around}{E:D'}{s:Shared}
def AO{α:Type}{t:Sem α}{Q b:α->Shared->Prop}{M:Model}(h:wpAny M A t Q E s)(c:∀a s,Q a s->b a s):wpAny M A t b E s:=FP h c λζ ζ x=>x
section
variable {X:Cx}
def mV:Option (Option V)->(V->Prop)->Prop|some (some v),q=>q v|_,_=>(λζ=>False) Nat.repr
def mB:V->(Bool->Prop)->Prop|.bl c,q=>0=0/\q c|_,_=>(λζ=>False) Nat.repr
def mI:V->(Int->Prop)->Prop|.int i,q=>q i|_,_=>(λζ=>False) Nat.repr
def Gw:V->V->(Int->Int->Prop)->Prop|.int i,.int j,q=>q i j|_,_,_=>(λζ=>False) Nat.repr
def mR:V->(Addr->Prop)->Prop|.ref a,q=>q a|_,_=>(λζ=>False) Nat.repr
def mT:V->(Addr->List V->Prop)->Prop|.ref a,q=>∃xs,q a xs|_,_=>(λζ=>False) Nat.repr
def mX:V->V->(Addr->List V->Int->V->Prop)->Prop|.ref p,.int i,q=>∃xs v,q p xs i v|_,_,_=>(λζ=>False) Nat.repr
def mC:List V->(V->List V->Prop)->Prop|v::r,q=>q v r|_,_=>(λζ=>False) Nat.repr
def mN:List V->Prop->Prop|[],q=>q|_,_=>(λζ=>False) Nat.repr
def mL:List V->(V->Nat->Prop)->Prop|[x],q=>∃n,q x n|_,_=>(λζ=>False) Nat.repr
def mA:V->List V->(Addr->List V->V->Prop)->Prop|.ref l,[y],q=>∃xs,q l xs y|_,_,_=>(λζ=>False) Nat.repr
def mJ:List V->(Int->Prop)->Prop|[.int j],q=>q j|_,_=>(λζ=>False) Nat.repr
def mV.ex{o:Option (Option V)}{q:V->Prop}(h:mV o q):∃v,o=some (some v)/\q v:=by
 unfold mV at h;split at h;exact⟨_,rfl,h⟩;exact False.elim h
variable {x:V}
def mB.ex{q:Bool->Prop}(h:mB x q):∃c,x=.bl c/\q c:=by
 unfold mB at h;split at h;exact⟨_,rfl,h.2⟩;exact False.elim h
def mI.ex{q:Int->Prop}(h:mI x q):∃i,x=.int i/\q i:=by
 unfold mI at h;split at h;exact⟨_,rfl,h⟩;exact False.elim h
def Gw.ex{y:V}{q:Int->Int->Prop}(h:Gw x y q):∃i j,x=.int i/\y=.int j/\q i j:=by
 unfold Gw at h;split at h;exact⟨_,_,rfl,rfl,h⟩;exact False.elim h
def mR.ex{q:Addr->Prop}(h:mR x q):∃a,x=.ref a/\q a:=by
 unfold mR at h;split at h;exact⟨_,rfl,h⟩;exact False.elim h
def mT.ex{q:Addr->List V->Prop}(h:mT x q):∃a xs,x=.ref a/\q a xs:=by
 unfold mT at h;split at h;exact⟨_,h.choose,rfl,h.choose_spec⟩;exact False.elim h
def mX.ex{y:V}{q:Addr->List V->Int->V->Prop}(h:mX x y q):∃p xs i v,x=.ref p/\y=.int i/\q p xs i v:=by
 unfold mX at h;split at h;obtain⟨xs,v,h⟩:=h;exact⟨_,xs,_,v,rfl,rfl,h⟩;exact False.elim h
variable {vs:List V}
def mC.ex{q:V->List V->Prop}(h:mC vs q):∃v r,vs=v::r/\q v r:=by
 unfold mC at h;split at h;exact⟨_,_,rfl,h⟩;exact False.elim h
def mN.ex{q:Prop}(h:mN vs q):vs=[]/\q:=by
 unfold mN at h;split at h;exact⟨rfl,h⟩;exact False.elim h
def mL.ex{q:V->Nat->Prop}(h:mL vs q):∃x n,vs=[x]/\q x n:=by
 unfold mL at h;split at h;exact⟨_,h.choose,rfl,h.choose_spec⟩;exact False.elim h
def mA.ex{q:Addr->List V->V->Prop}(h:mA x vs q):∃l xs y,x=.ref l/\vs=[y]/\q l xs y:=by
 unfold mA at h;split at h;exact⟨_,h.choose,_,rfl,rfl,h.choose_spec⟩;exact False.elim h
def mJ.ex{q:Int->Prop}(h:mJ vs q):∃j,vs=[.int j]/\q j:=by
 unfold mJ at h;split at h;exact⟨_,rfl,h⟩;exact False.elim h
def Cr (i:Nat):TE:=λσ H Q=>mV σ[i]? λv=>Q v H
def tC (v:V):TE:=λζ H Q=>Q v H
variable {L:Pos}
def K5{i:Nat}{x:Str}(g:X.N[i]?=some x)(hv:O6 X.env.scope x)(hd:(x==("__debug__" : Str))=false:=by decide)(o:(x==("__classdict__" : Str))=false:=by decide):PE X (.Name x L) (Cr i):=by
 intro p s σ H Q I h
 replace h:=mV.ex h
 obtain⟨v,e,h⟩:=h;obtain⟨m,j,k⟩:=I.loc;obtain⟨u,r,l⟩:=k i x v g e hv;have b:EP X p σ Q u s:=⟨v,H,I,r,h⟩;rcases l with⟨a,n⟩|⟨a,c,d,f⟩;exact wpAny_Name (wpAny_loadName_local I.ok.kind a j n b) hd;rcases a with a|a;exact wpAny_Name (wpAny_loadName_cell I.ok.kind a d f b) hd;exact wpAny_Name (wpAny_loadName_free I.ok.kind a d f b o) hd
def Ah{i j L}:PE X (.Constant (.int i) j L) (tC (.int i)):=λζ ζ ζ H ζ I h=>wpAny_Constant_int ⟨.int i,H,I.tok _,⟨_,rfl⟩,h⟩
def Km{b j L}:PE X (.Constant (.bool b) j L) (tC (.bl b)):=λζ ζ ζ H ζ I h=>Constant_bool ⟨.bl b,H,I,rfl,h⟩
def GN{j L}:PE X (.Constant .none j L) (tC .non):=λζ ζ ζ H ζ I h=>Constant_none ⟨.non,H,I,rfl,h⟩
def BE{x j L}:PE X (.Constant (.str x) j L) (tC (.str x)):=λζ ζ ζ H ζ I h=>Calls.Constant_str ⟨.str x,H,I.tok _,⟨_,rfl⟩,h⟩
def Gl (X:Cx) (x:Str):Prop:=X.env.kindOf x=some .globalImplicit
def Us{pins:B'}{σ:St}{x:Str}{u:Value}{Q:D'}(I:Inv X pins σ H s)(a:Gl X x)(b:X.mg x=some u)(h:Q u s)
 (hd:(x==("__debug__" : Str))=false:=by decide):wpAny (model X.prog X.w) X.A (eval (.Name x L) X.env) Q E s:=
 Calls.Name_function_global I.ok.kind a (Calls.loadGlobal_global (by rw[I.ok.glob];exact I.mod.glob.keeps I.bk) b h) hd
def IJ{pins:B'}{σ:St}{x:Str}{u:Value}{Q:D'}(I:Inv X pins σ H s)(a:Gl X x)(b:X.mg x=none)(hv:bootBuiltins x=some u)(h:Q u s)
 (c:x ≠ "__name__" :=by decide) (hd:(x==("__debug__" : Str))=false:=by decide):wpAny (model X.prog X.w) X.A (eval (.Name x L) X.env) Q E s:=by
 obtain⟨f,d,e⟩:=I.mod.blt;exact Calls.Name_function_global I.ok.kind a (Calls.loadGlobal_builtin (by rw[I.ok.glob];exact I.mod.glob.keeps I.bk) b (by rw[I.ok.blt];exact d.keeps I.bk) ((e x c).trans hv) h) hd
def IK{x:Str}{v:V}{u:Value}(a:Gl X x)(b:X.mg x=some u)(r:RelV v u)(hd:(x==("__debug__" : Str))=false:=by decide):PE X (.Name x L) (tC v):=
 λζ ζ ζ H ζ I h=>Us I a b ⟨v,H,I,r,h⟩ hd
def IL{x:Str}{v:V}{u:Value}(a:Gl X x)(b:X.mg x=none)(hv:bootBuiltins x=some u)(r:RelV v u)(c:x ≠ "__name__" :=by decide)(hd:(x==("__debug__" : Str))=false:=by decide):PE X (.Name x L) (tC v):=
 λζ ζ ζ H ζ I h=>IJ I a b hv ⟨v,H,I,r,h⟩ c hd
variable {a b:Expr} {ta tb:TE} {L:Pos}
def PC (X:Cx) (op:CmpOp) (a b:Expr) (t:TE):Prop:=
 ∀(pins:B')(s:Shared)(σ:St)(H:Hp)(Q:VK),Inv X pins σ H s->t σ H Q ->
  wpAny (model X.prog X.w) X.A (eval a X.env) (λv s₁=>wpAny (model X.prog X.w) X.A (eval b X.env) (λu s₂=>wpAny (model X.prog X.w) X.A (compareOp op v u) (EP X pins σ Q) X.xe s₂) X.xe s₁) X.xe s
variable {op:CmpOp}
def Ut(b:Expr)(h:op≠.In)(a:op≠.NotIn):behindInMarks op b=false:=by
 have c:(op==CmpOp.In)=false:=by cases op<;>first|rfl|exact absurd rfl h
 have d:(op==CmpOp.NotIn)=false:=by cases op<;>first|rfl|exact absurd rfl a
 cases b<;>simp[behindInMarks,c,d]
def Rv (ta:TE):TE:=λσ H Q=>ta σ H λx U=>Q (.bl (decide (x=.non))) U
def Nk (ta:TE):TE:=λσ H Q=>ta σ H λx U=>Q (.bl (!decide (x=.non))) U
def RelV.none_iff{v:Value}(r:RelV x v):(v==Value.none)=decide (x=.non):=by
 cases x with
 |non=>cases r;rfl
 |bl _=>cases r;rfl
 |int _=>obtain⟨t,rfl⟩:=r;rfl
 |str _=>obtain⟨t,rfl⟩:=r;rfl
 |byt _=>obtain⟨t,rfl⟩:=r;rfl
 |flt _=>obtain⟨t,rfl⟩:=r;rfl
 |ref _=>cases r;rfl
 |ty _=>cases r;rfl
def He{j t}(b:PE X a ta):PC X .Is a (.Constant .none j t) (Rv ta):=by
 intro f s σ H Q I h;refine AO (b f s σ H _ I h) λv g⟨x,U,c,d,e⟩=>?_;exact Constant_none (is_none_gen ⟨.bl _,U,c,by rw[d.none_iff];rfl,e⟩)
def Rw{j t}(b:PE X a ta):PC X .IsNot a (.Constant .none j t) (Nk ta):=by
 intro f s σ H Q I h;refine AO (b f s σ H _ I h) λv g⟨x,U,c,d,e⟩=>?_;exact Constant_none (isnot_none_gen ⟨.bl _,U,c,by rw[d.none_iff];rfl,e⟩)
def tB (t:TE):TT:=λσ H Q=>t σ H λx U=>mB x λc=>Q c U
def Hf{t:TE}(h:PC X op a b t)(c:behindInMarks op b=false:=by first|exact Ut _ (by decide) (by decide)|rfl):PE X (.Compare a [op] [b] L) t:=λe s σ H Q I d=>wpAny_Compare1 (h e s σ H Q I d) c
def GY{t:TE}(h:PC X op a b t)(e:behindInMarks op b=false:=by first|exact Ut _ (by decide) (by decide)|rfl):PT X (.Compare a [op] [b] L) (tB t):=by
 intro l s σ H Q I g;refine wpAny_isTrue_Compare1 (AO (h l s σ H _ I g) λv m e=>AO e λu n i=>AO i λc o⟨x,U,j,k,f⟩=>?_) e
 replace f:=mB.ex f
 obtain⟨d,rfl,q⟩:=f;cases k;exact F7 ⟨U,j,q⟩
def GZ{t:TE}(h:PE X e t)(b:∀whole,isTrue e X.env whole=(do let v <-whole;standAt e.pos;holding [v] (truthy v)):=by intro _;rfl):PT X e (tB t):=by
 intro i s σ H Q I c;refine isTrue_plain (AO (h i s σ H _ I c) λv j⟨x,U,f,g,a⟩=>?_) (b _)
 replace a:=mB.ex a
 obtain⟨d,rfl,q⟩:=a;cases g;exact F7 ⟨U,f,q⟩
variable {g tB':TT} {j:List Expr}
def Rx (t u:TT):TT:=λσ H Q=>t σ H λc U=>if c=true then u σ U Q else Q false U
def Xl (t u:TT):TT:=λσ H Q=>t σ H λc U=>if c=true then Q true U else u σ U Q
def Ry (t:TT):TT:=λσ H Q=>t σ H λc U=>Q (!c) U
def G1(b:PT X a g):PW X (.BoolOp .And [a] L) g:=by
 intro f d s σ H Q I h;refine isTrue_and (AO (b d s σ H Q I h) λc i e=>?_)
 cases c with
 |true=>exact isTrue_and_nil e
 |false=>exact e
def Rz(b:PT X a g):PW X (.BoolOp .Or [a] L) g:=by
 intro f d s σ H Q I h;refine isTrue_or (AO (b d s σ H Q I h) λc i e=>?_)
 cases c with
 |false=>exact isTrue_or_nil e
 |true=>exact e
def G2(i:PT X a g)(k:PW X (.BoolOp .And (b::j) L) tB'):PW X (.BoolOp .And (a::b::j) L) (Rx g tB'):=by
 intro l f s σ H Q I h;refine isTrue_and (AO (i f s σ H _ I h) λc m⟨U,d,e⟩=>?_)
 cases c with
 |true=>exact k l f m σ U Q d e
 |false=>exact⟨U,d,e⟩
def O7(i:PT X a g)(k:PW X (.BoolOp .Or (b::j) L) tB'):PW X (.BoolOp .Or (a::b::j) L) (Xl g tB'):=by
 intro l f s σ H Q I h;refine isTrue_or (AO (i f s σ H _ I h) λc m⟨U,d,e⟩=>?_)
 cases c with
 |true=>exact⟨U,d,e⟩
 |false=>exact k l f m σ U Q d e
def Nl(b:PT X a g):PT X (.UnaryOp .Not a L) (Ry g):=by
 intro d s σ H Q I h;exact isTrue_not (b d s σ H (λc U=>Q (!c) U) I h)
def Nm (ta tb:TE):TE:=λσ H Q=>ta σ H λx U=>∃c,x=.bl c/\if c=true then tb σ U Q else Q (.bl false) U
def Nn (ta:TE):TE:=λσ H Q=>ta σ H λx U=>∃c,x=.bl c/\Q (.bl (!c)) U
def Hg{op}{t:TE}(h:PE X a t):PE X (.BoolOp op [a] L) t:=λc s σ H Q I b=>BoolOp_one (h c s σ H Q I b)
def RA(g:PE X a ta)(i:PE X (.BoolOp .And (b::j) L) tb):PE X (.BoolOp .And (a::b::j) L) (Nm ta tb):=by
 intro f s σ H Q I h;refine BoolOp_and (AO (g f s σ H _ I h) λv k⟨x,U,e,l,d⟩=>?_);obtain⟨c,rfl,d⟩:=d;cases l;refine F7 ?_
 cases c with
 |true=>exact i f k σ U Q e d
 |false=>exact⟨.bl false,U,e,rfl,d⟩
def K6(d:PE X a ta):PE X (.UnaryOp .Not a L) (Nn ta):=by
 intro g s σ H Q I h;refine UnaryOp_ (AO (d g s σ H _ I h) λv i⟨x,U,e,f,b⟩=>?_);obtain⟨c,rfl,b⟩:=b;cases f;exact not_of (F7 ⟨.bl (!c),U,e,rfl,b⟩)
end
def Ag (K:Ai) (H:Hp) (a:Addr) (xs:List V):Prop:=
 Rd H a (.lst xs) \/
  ∃(o:Obj)(its:Array Value)(n:Nat),K.lookup a=some o/\o.cls=.type "list" /\ o.dict=none/\o.data=.seq its n/\its.size<=sizeLine/\Ax xs its.toList
def Ao (K:Ai) (H:Hp) (a:Addr) (xs:List V):Prop:=
 Rd H a (.tup xs) \/
  ∃(o:Obj)(its:Array Value)(n:Nat),K.lookup a=some o/\o.cls=.type "tuple" /\ o.data=.seq its n/\its.size<=sizeLine/\Ax xs its.toList
def RB:Value->Option V
 |.none=>some .non
 |.bool b=>some (.bl b)
 |.int i _=>some (.int i)
 |.str x _=>some (.str x)
 |.bytes b _=>some (.byt b)
 |.float b _=>some (.flt b)
 |.ref a=>some (.ref a)
 |.type n=>some (.ty n)
 |_=>none
variable {x:V}
def RelV.abs{u:Value}(r:RelV x u):RB u=some x:=by
 cases x with
 |non=>cases r;rfl
 |bl _=>cases r;rfl
 |int _=>obtain⟨t,rfl⟩:=r;rfl
 |str _=>obtain⟨t,rfl⟩:=r;rfl
 |byt _=>obtain⟨t,rfl⟩:=r;rfl
 |flt _=>obtain⟨t,rfl⟩:=r;rfl
 |ref _=>cases r;rfl
 |ty _=>cases r;rfl
def RelV.inj{y:V}{u:Value}(r:RelV x u)(q:RelV y u):x=y:=B2 (r.abs.symm.trans q.abs)
theorem Ax.inj:∀{xs ys:List V}{a:List Value},Ax xs a->Ax ys a->xs=ys
 |_,_,_,.nil,.nil=>rfl
 |_,_,_,.cons r t,.cons b t'=>by rw[r.inj b,Ax.inj t t']
section
variable {X:Cx} {pins:B'} {σ:St} {H:Hp} {s:Shared} {a:Addr} {xs ys:List V}
def Ag.of{K:Ai}(h:H a=some (.lst xs)):Ag K H a xs:=.inl (.inl h)
def Ao.of{K:Ai}(h:H a=some (.tup xs)):Ao K H a xs:=.inl (.inl h)
def Inv.list(I:Inv X pins σ H s)(h:Ag X.K H a xs):∃b:List Value,Ax xs b/\PlainL s.heap a b.toArray/\xs.length<=sizeLine:=by
 rcases h with h|⟨o,b,n,c,d,hd,f,g,r⟩;obtain⟨z,b,n,r,e⟩:=h.ok I.hok;exact⟨b,r,⟨_,n,e,rfl,rfl,rfl⟩,z⟩;refine⟨b.toList,r,⟨o,n,I.kIn a o c,d,hd,by simpa using f⟩,?_⟩;have e:=r.length;simp only[Array.length_toList] at e;lia
def Inv.tuple(I:Inv X pins σ H s)(h:Ao X.K H a xs):∃b:List Value,Ax xs b/\IsTup s.heap a b.toArray/\xs.length<=sizeLine:=by
 rcases h with h|⟨o,b,n,c,d,f,g,r⟩;obtain⟨z,b,r,p⟩:=h.ok I.hok;exact⟨b,r,p,z⟩;refine⟨b.toList,r,⟨o,I.kIn a o c,d,n,by simpa using f⟩,?_⟩;have e:=r.length;simp only[Array.length_toList] at e;lia
def Inv.list_inj(I:Inv X pins σ H s)(h:Ag X.K H a xs)(h':Ag X.K H a ys):xs=ys:=by
 obtain⟨i,r,⟨o,n,e,_,_,d⟩,_⟩:=I.list h;obtain⟨j,f,⟨k,l,b,_,_,c⟩,_⟩:=I.list h';rw[e] at b;cases b;rw[d] at c;injection c with g _;have:i=j:=(by simpa using BR Array.toList g);subst this;exact r.inj f
def Inv.tuple_inj(I:Inv X pins σ H s)(h:Ao X.K H a xs)(h':Ao X.K H a ys):xs=ys:=by
 obtain⟨i,r,⟨o,e,_,n,d⟩,_⟩:=I.tuple h;obtain⟨j,f,⟨k,b,_,l,c⟩,_⟩:=I.tuple h';rw[e] at b;cases b;rw[d] at c;injection c with g _;have:i=j:=(by simpa using BR Array.toList g);subst this;exact r.inj f
end
abbrev Cx.wish (X:Cx) (E:D'):Cx:={X with xe:=E}
abbrev Cx.nox (X:Cx):Cx:=X.wish λζ ζ=>False
def Cx.Ok.wish{X:Cx}(ok:X.Ok)(E:D'):(X.wish E).Ok:=
 ⟨ok.mod,ok.kind,ok.glob,ok.blt,ok.above,ok.inj,ok.has,ok.cab,ok.hd,ok.frames,ok.stk,ok.exf,ok.bs,ok.bsz,ok.noex,ok.exfs,ok.funs,ok.frf⟩
def Cx.Ok.unwish(ok:(X.wish E).Ok):X.Ok:=
 ⟨ok.mod,ok.kind,ok.glob,ok.blt,ok.above,ok.inj,ok.has,ok.cab,ok.hd,ok.frames,ok.stk,ok.exf,ok.bs,ok.bsz,ok.noex,ok.exfs,ok.funs,ok.frf⟩
section
variable {X:Cx} {pins:B'} {σ:St} {H:Hp} {s:Shared} {E:D'}
def Inv.wish(I:Inv X pins σ H s)(E:D'):Inv (X.wish E) pins σ H s:=⟨I.ok.wish E,I.os,I.bare,I.base,I.loc,I.cell,I.free,I.freeC,I.pin,I.hok,I.len⟩
def Inv.unwish(I:Inv (X.wish E) pins σ H s):Inv X pins σ H s:=⟨I.ok.unwish,I.os,I.bare,I.base,I.loc,I.cell,I.free,I.freeC,I.pin,I.hok,I.len⟩
def SP.unwish{D:Ends}{f:Flow}{Z:Shared}(h:SP (X.wish E) pins D f Z):SP X pins D f Z:=by
 cases f with
 |next=>obtain⟨σ',a,I,q⟩:=h;exact⟨σ',a,I.unwish,q⟩
 |brk=>obtain⟨σ',a,I,q⟩:=h;exact⟨σ',a,I.unwish,q⟩
 |cont=>obtain⟨σ',a,I,q⟩:=h;exact⟨σ',a,I.unwish,q⟩
 |ret u=>obtain⟨v,σ',a,I,r,q⟩:=h;exact⟨v,σ',a,I.unwish,r,q⟩
def Gg.nox{st:List Stmt}{t:TS}(h:Gg X.nox st t):Gg X st t:=λpins s σ H D I a =>
 FP (h pins s σ H D (I.wish _) a) (λζ ζ q=>q.unwish) λζ ζ z=>False.elim z
end
section
variable {X:Cx} {st:Stmt} {j:List Stmt} {t u:TS} {e:Expr} {te:TE} {L:Pos}
def No:TS:=λD σ H=>D.nx σ H
def K7 (t u:TS):TS:=λD σ H=>(λζ=>t {D with nx:=u D} σ H) Nat.repr
def Bl:Gg X [] No:=λζ ζ σ H ζ I h=>wpAny_execs_nil ⟨σ,H,I,h⟩
def Ak(b:PS X st t)(c:Gg X j u):Gg X (st::j) (K7 t u):=by
 intro a s σ H D I h;refine wpAny_execs_cons (AO (b a s σ H {D with nx:=u D} I h) λf d q=>?_)
 cases f with
 |next =>
   obtain⟨σ',e,g,q⟩:=q;exact c a d σ' e D g q
 |ret v=>exact q
 |brk=>exact q
 |cont=>exact q
def Aw(a:PS X st t):Gg X [st] t:=by
 intro b s σ H D I h;refine wpAny_execs_cons (AO (a b s σ H D I h) λf c q=>?_)
 cases f with
 |next=>exact wpAny_execs_nil q
 |ret v=>exact q
 |brk=>exact q
 |cont=>exact q
def Inv.quiet{pins:B'}{σ:St}(I:Inv X pins σ H s):interactive X.env=false:=by simp[interactive,I.ok.kind]
def Np (te:TE):TS:=λD σ H=>te σ H λζ U=>D.nx σ U
def DF(a:PE X e te)(b:swapsWith e none L.line X.env=pure false:=by rfl):PS X (.Expr e L) (Np te):=by
 intro f s σ H D I h;exact wpAny_Expr_any (AO (a f s σ H _ I h) λv g⟨x,U,c,i,d⟩=>⟨σ,U,c,d⟩) I.quiet b
def RC (te:TE):TS:=λD σ H=>te σ H D.rt
def AN(a:PE X e te):PS X (.Return (some e) L) (RC te):=by
 intro f s σ H D I h;exact wpAny_Return_some (AO (a f s σ H _ I h) λv g⟨x,U,b,c,d⟩=>⟨x,σ,U,b,c,d⟩)
def RD (c:TT) (t u:TS):TS:=λD σ H=>c σ H λb U=>if b=true then t D σ U else u D σ U
def Bm{c:Expr}{a b:List Stmt}{l:TT}(j:PT X c l)(k:Gg X a t)(m:Gg X b u):PS X (.If c a b L) (RD l t u):=by
 intro e s σ H D I h;refine wpAny_If (AO (j e s σ H _ I h) λd f⟨U,g,i⟩=>?_)
 cases d with
 |true=>exact k e f σ U D g i
 |false=>exact m e f σ U D g i
def K8:TS:=λζ ζ ζ=>False
def Xm:PS X st K8:=λζ ζ ζ ζ ζ ζ h=>h.elim
end
abbrev TG:=V->St->Hp->(St->Hp->Prop)->Prop
abbrev K9:=List V->St->Hp->(St->Hp->Prop)->Prop
def PG (X:Cx) (target:Expr) (t:TG):Prop:=
 ∀(pins:B')(s:Shared)(σ:St)(H:Hp)(v:V)(u:Value)(Q:St->Hp->Prop),Inv X pins σ H s->RelV v u->t v σ H Q ->
  wpAny (model X.prog X.w) X.A (assign target X.env u) (λζ Z=>∃σ' H',Inv X pins σ' H' Z/\Q σ' H') X.xe s
def Nq (X:Cx) (ts:List Expr) (t:K9):Prop:=
 ∀(pins:B')(s:Shared)(σ:St)(H:Hp)(vs:List V)(us:List Value)(Q:St->Hp->Prop),Inv X pins σ H s->Ax vs us->t vs σ H Q ->
  wpAny (model X.prog X.w) X.A (assignInOrder ((assignEach ts X.env).map (·.2)) us) (λζ Z=>∃σ' H',Inv X pins σ' H' Z/\Q σ' H') X.xe s
abbrev La:=V->V->V->Hp->(Hp->Prop)->Prop
def Lb (X:Cx) (t:La):Prop:=
 ∀(pins:B')(s:Shared)(σ:St)(H:Hp)(o i v:V)(ov iv u:Value)(Q:Hp->Prop),Inv X pins σ H s->RelV o ov->RelV i iv->RelV v u->t o i v H Q ->
  wpAny (model X.prog X.w) X.A (setItem ov iv u) (λζ Z=>∃H',Inv X pins σ H' Z/\Q H') X.xe s
abbrev RE:=V->V->Hp->VK->Prop
def Xn (X:Cx) (op:Operator) (t:RE):Prop:=
 ∀(pins:B')(s:Shared)(σ:St)(H:Hp)(x y:V)(v u:Value)(Q:VK),Inv X pins σ H s->RelV x v->RelV y u->t x y H Q ->
  wpAny (model X.prog X.w) X.A (inplaceOp op v u) (EP X pins σ Q) X.xe s
section
variable {X:Cx} {L:Pos}
def IM (i:Nat):TG:=λv σ H Q=>Q (σ.set i (some v)) H
variable {i:Nat}
def Ay{x:Str}(a:X.N.Nodup)(b:X.N[i]?=some x:=by rfl)(c:Loc X.env.scope x:=by first|exact .inl rfl|exact .inr rfl)(d:X.fn x=true\/X.env.scope.names.lookup x=some .local:=by first|exact .inl rfl|exact .inr rfl|assumption):PG X (.Name x L) (IM i):=by
 intro f s σ H v u Q I r h;exact wpAny_assign_Name (Ru I a b c r (λZ e=>⟨_,H,e,h⟩) d)
def Nr:K9:=λvs σ H Q=>mN vs (Q σ H)
def O8 (t:TG) (u:K9):K9:=λvs σ H Q=>mC vs λv r=>t v σ H λσ' H'=>u r σ' H' Q
def B5:Nq X [] Nr:=by
 intro c s σ H a b Q I r h
 replace h:=mN.ex h
 obtain⟨e,h⟩:=h;subst e;cases r;exact assignInOrder_nil ⟨σ,H,I,h⟩
def AD{es:List Expr}{t:TG}{u:K9}(b:PG X e t)(c:Nq X es u)
 (d:(assignEach (e::es) X.env).map (·.2)=assign e X.env::(assignEach es X.env).map (·.2):=by rfl):Nq X (e::es) (O8 t u):=by
 intro a s σ H l m Q I r h
 replace h:=mC.ex h
 obtain⟨v,n,f,h⟩:=h;subst f
 cases r with
 |cons r g =>
   rw[d];refine assignInOrder_cons (AO (b a s σ H _ _ _ I r h) λ_ i⟨σ1,U,j,k⟩=>?_);exact c a i σ1 U _ _ Q j g k
def Nt (K:Ai) (n:Nat) (t:K9):TG:=λv σ H Q=>mT v λa xs=>Ao K H a xs/\xs.length=n/\t xs σ H Q
def B6{es:List Expr}{k:Nat}{t:K9}{n:Nat}(g:X.calm=true)(h:Nq X es t)
 (i:(assignEach es X.env).length=n:=by rfl) (z:(assignEach es X.env).findIdx? (·.1)=none:=by rfl):PG X (.Tuple es k L) (Nt X.K n t):=by
 intro f s σ H v u Q I r c
 replace c:=mT.ex c
 obtain⟨a,j,l,m,p,c⟩:=c;subst l;cases r;obtain⟨B,d,q,A⟩:=I.tuple m;refine assign_Tuple_tuple (I.ok.hd g) q (by simp[i,<-p,d.length]) z λw x=>?_;have y:Inv X f σ H {s with heap:=w}:=I.kept (t':=s.toks) λb o e=>x b o (CO (Bt e)) e;exact h f _ σ H j _ Q y (by simpa using d) c
def RF (to ti:TE) (t:La):TG:=λv σ H Q=>to σ H λo U=>ti σ U λi Y=>t o i v Y λH3=>Q σ H3
def RG{o i:Expr}{d e:TE}{t:La}(f:PE X o d)(g:PE X i e)(j:Lb X t)
 (k:∀v,assign (.Subscript o i L) X.env v=(do
  let a <-holding [v] (eval o X.env)
  let b <-holding [v,a] (eval i X.env)
  standAt L
  holding [v,a,b] (setItem a b v)
  release [v,a,b] []):=by intro _;rfl):PG X (.Subscript o i L) (RF d e t):=by
 intro c s σ H v u Q I r h;rw[k];refine Ad (FN (AO (f c s σ H _ I h) λa l⟨x,U,m,n,p⟩=>?_));refine Ad (FN (AO (g c l σ U _ m p) λb q⟨y,Y,w,z,A⟩=>?_));refine Ad (wpAny_standAt (Ad (FN (AO (j c q σ Y x y v a b u _ w n z r A) λ_ E⟨B,C,D⟩=>?_))));exact wpAny_release ⟨σ,B,C,D⟩
def IP (te:TE) (g:TG):TS:=λD σ H=>(λζ=>te σ H λx U=>g x σ U D.nx) Nat.repr
variable {te:TE}
def DM{a:Expr}{g:TG}(c:PE X e te)(d:PG X a g)(f:swapsWithSole [a] e L.line X.env=pure false:=by rfl)(i:swappedStores [a] e X.env=pure none:=by rfl)
 (j:(assignEach [a] X.env).map (·.2)=[assign a X.env]:=by rfl):PS X (.Assign [a] e L) (IP te g):=by
 intro b s σ H D I h;refine wpAny_Assign_stores (AO (c b s σ H _ I h) λv k⟨x,U,l,m,n⟩=>?_) f i;rw[j];exact AO (d b k σ U x v _ l m n) λζ o q=>q
def AI{x:Str}{t:Pos}(a:X.N.Nodup)(b:PE X e te)(c:X.N[i]?=some x:=by rfl)(d:Loc X.env.scope x:=by first|exact .inl rfl|exact .inr rfl)(f:swapsWith e (some (.Name x t)) L.line X.env=pure false:=by rfl)(g:X.fn x=true\/X.env.scope.names.lookup x=some .local:=by first|exact .inl rfl|exact .inr rfl|assumption) :
 PS X (.Assign [.Name x t] e L) (IP te (IM i)):=by
 intro n s σ H D I h;refine wpAny_Assign_Name (AO (b n s σ H _ I h) λv o⟨y,U,j,k,l⟩=>?_) f;exact Ru j a c d k (λp m=>⟨_,U,m,l⟩) g
def Nu (i:Nat) (te:TE) (ti:RE):TS:=λD σ H=>∃x,σ[i]?=some (some x)/\te σ H λy U=>ti x y U λz Y=>D.nx (σ.set i (some z)) Y
def Lc{x:Str}{op:Operator}{f:RE}{t:Pos}(j:X.N.Nodup)(g:X.N[i]?=some x)(b:Loc X.env.scope x)(n:PE X e te)(o:Xn X op f)(p:X.fn x=true\/X.env.scope.names.lookup x=some .local:=by first|exact .inl rfl|exact .inr rfl|assumption) :
 PS X (.AugAssign (.Name x t) op e L) (Nu i te f):=by
 intro d s σ H D I h;obtain⟨v,q,h⟩:=h;obtain⟨m,A,B⟩:=I.loc;have S:O6 X.env.scope x:=by rcases b with k|k;exact .inl k;exact .inr (.inl k)
 obtain⟨u,r,l⟩:=B i x v g q S;refine wpAny_AugAssign_Name ?_
 have go:wpAny (model X.prog X.w) X.A (eval e X.env) (λw C=>wpAny (model X.prog X.w) X.A (inplaceOp op u w) (λr E=>wpAny (model X.prog X.w) X.A (storeName X.env x r) (λζ=>SP X d D .next) X.xe E) X.xe C) X.xe s:=by
  refine AO (n d s σ H _ I h) λw F⟨y,U,G,J,K⟩=>?_;refine AO (o d F σ U v y u w _ G r J K) λz V⟨W,Y,M,N,O⟩=>?_;exact Ru M j g b N (λZ P=>⟨_,Y,P,O⟩) p
 rcases l with⟨a,Q⟩|⟨a,c,R,T⟩;exact wpAny_loadName_local I.ok.kind a A Q go;rcases a with a|a;exact wpAny_loadName_cell I.ok.kind a R T go;rcases b with k|k;have:X.env.scope.names.lookup x=some .free:=a;rw[k] at this;cases this;have:X.env.scope.names.lookup x=some .free:=a;rw[k] at this;cases this
end
section
variable {X:Cx} {L:Pos}
def Ld (c:TT) (tb:TS):TS:=λD σ H=>∃W:Nat->St->Hp->Prop,(∃m,W m σ H)/\∀m σ H,W m σ H ->
 c σ H λb U=>if b=true then ∃N:St->Hp->Prop,(∀σ' H',N σ' H'->∃m',m'<m/\W m' σ' H')/\tb {D with nx:=N,ct:=N,bk:=D.nx} σ U else D.nx σ U
def Xo{c:Expr}{body:List Stmt}{l:TT}{tb:TS}(p:PassesOwn (model X.prog X.w) X.A X.env X.xe)(u:PT X c l)(w:Gg X body tb):PS X (.While c body [] L) (Ld l tb):=by
 intro o s σ H D I h;obtain⟨W,⟨x,y⟩,turn⟩:=h;refine wpAny_While (codeAny_whileLoop (λn Z=>∃σ' q,Inv X o σ' q Z/\W n σ' q) ?_ x ⟨σ,H,I,y⟩);rintro n z ⟨σ1,U,A,B⟩;refine wpAny_passesOwn p (AO (u o z σ1 U _ A (turn n σ1 U B)) λb C⟨Y,r,d⟩=>?_)
 cases b with
 |true =>
   obtain⟨N,t,d⟩:=d;rw[An rfl];refine wpAny_passesOwn p (AO (w o C σ1 Y _ r d) λf E e=>?_)
   cases f with
   |next =>
     obtain⟨σ3,a,g,i⟩:=e;obtain⟨j,k,m⟩:=t σ3 a i;exact⟨j,k,σ3,a,g,m⟩
   |cont =>
     obtain⟨σ3,a,g,i⟩:=e;obtain⟨j,k,m⟩:=t σ3 a i;exact⟨j,k,σ3,a,g,m⟩
   |brk=>exact e
   |ret v=>exact e
 |false =>
   rw[Al C3];exact wpAny_execs_nil ⟨σ1,Y,r,d⟩
end
structure It where
 go:Nat->Hp->Prop
 yld:Nat->Hp->V->Hp->Prop
 stop:Nat->Hp->Prop
def Dg (X:Cx) (pins:B') (H:Hp) (b:Addr):Prop:=
 H b=none/\b≠X.env.locals/\b∉X.fs/\(b∈X.ex\/X.s₀.heap.objs.size<=b)/\(∀x c,X.env.cells.lookup x=some c->c≠b)/\∀p∈X.pn++pins,p.1≠b
variable {pins:B'}{σ:St}
def Inv.fpOk{H':Hp}(I:Inv X pins σ H s)(a:s.heap.objs.size<=b)(d:H' b=none):Dg X pins H' b:=by
 refine⟨d,Nat.ne_of_gt (FC I.lt a),I.nofs a,.inr (DY I.sz a),λx c e z=>?_,λp f z=>?_⟩;obtain⟨v,q⟩:=I.cell x c e;exact absurd (FC q.lt (by rw[z];exact a)) (Hc _);exact absurd (FC (Bt (I.pin p f).1) (by rw[z];exact a)) (Hc _)
structure FQ (P:Program) (w:World) (K:Ai) (tg:Expr) (J:It) (fp:List Addr) (it:Addr) (tn:Nat->Heap->Prop):Prop where
 mem:it∈fp
 obj:∀i h,tn i h->∀b∈fp,∃o,h.get? b=some o/\∀v,o.data≠.cell v
 keep:∀i h h',tn i h->(∀b∈fp,∀o,h.get? b=some o->h'.get? b=some o)->tn i h'
 item:∀(X:Cx),X.prog=P->X.w=w->X.K=K->X.calm=true->∀(i:Nat)(pins:B')(s:Shared)(σ:St)(H:Hp)(E:D'),Inv X pins σ H s->(∀b∈fp,Dg X pins H b)->tn i s.heap->J.go i H ->
  wpAny (model P w) X.A (pyNext (.ref it)) (λr s1=>∃u,r=some u /\
   wpAny (model P w) X.A (letOwnedTupleGo tg (.ref it) u) (λζ s2=>∃x H',Inv X pins σ H' s2/\RelV x u/\J.yld i H x H'/\tn (i+1) s2.heap/\∀b∈fp,H' b=none) E s1) E s
 done:∀(X:Cx),X.prog=P->X.w=w->X.K=K->X.calm=true->∀(i:Nat)(pins:B')(s:Shared)(σ:St)(H:Hp)(E:D'),Inv X pins σ H s->(∀b∈fp,Dg X pins H b)->tn i s.heap->J.stop i H ->
  wpAny (model P w) X.A (pyNext (.ref it)) (λr s1=>r=none/\Inv X pins σ H s1) E s
 self:∀(A:Around)(i:Nat)(s:Shared)(Q:D')(E:D'),tn i s.heap->Q (.ref it) s->wpAny (model P w) A (pyIter (.ref it)) Q E s
abbrev TI:=St->Hp->(It->Hp->Prop)->Prop
def RH (X:Cx) (pins:B') (σ:St) (tg:Expr) (R:It->Hp->Prop) (itv:Value) (s2:Shared):Prop:=
 ∃(it:Addr)(fp:List Addr)(tn:Nat->Heap->Prop)(J:It)(H':Hp),itv=.ref it/\Inv X pins σ H' s2/\FQ X.prog X.w X.K tg J fp it tn/\tn 0 s2.heap/\(∀b∈fp,Dg X pins H' b)/\R J H'
def PI (X:Cx) (tg j:Expr) (wi:TI):Prop:=
 ∀(pins:B')(s:Shared)(σ:St)(H:Hp)(R:It->Hp->Prop),Inv X pins σ H s->wi σ H R ->
  wpAny (model X.prog X.w) X.A (eval j X.env) (λv s1=>wpAny (model X.prog X.w) X.A (pyIter v) (RH X pins σ tg R) X.xe s1) X.xe s
variable {tg:Expr}
def O9{M:Model}{b:Addr}{u:Value}{o:Obj}{n:String}{vs:Array Value}{Q:Unit->Shared->Prop}(c:s.heap.get? b=some o)(d:o.cls=.type n)(hd:o.data=.fields vs)
 (e:["enumerate", "zip", "dict_itemiterator", "dict_reverseitemiterator", "odict_iterator", "itertools.zip_longest", "itertools.pairwise"].contains n=false) (a:Q () s):wpAny M A (letOwnedTupleGo tg (.ref b) u) Q E s:=by
 unfold letOwnedTupleGo
 cases tg<;>first
  |exact AB a
  |(cases u<;>first
   |exact AB a
   | (refine Ad (wpAny_load c ?_)
      rw[d,hd]
      show wpAny M A (if(["enumerate", "zip", "dict_itemiterator", "dict_reverseitemiterator", "odict_iterator", "itertools.zip_longest", "itertools.pairwise"].contains n && vs[0]?==some (rawInt _))=true then _ else _) Q E s
      rw[Al (by intro h;rw[e,Bool.false_and] at h;cases h)]
      exact AB a))
def MC (K:Ai) (a:Addr):It:=
 ⟨λi H=>∃xs x,Ag K H a xs/\xs[i]?=some x,λi H x H'=>H'=H/\∀xs,Ag K H a xs->xs[i]?=some x,λi H=>∃xs,Ag K H a xs/\xs.length<=i⟩
def MD (lo:Int) (n:Nat):It:=⟨λi ζ=>i<n,λi H x H'=>H'=H/\x=.int (lo+i),λi ζ=>n<=i⟩
theorem Xp{K:Ai}(a g:Addr):FQ P w K tg (MC K a) [g] g (λi h=>h.IsListIter g a i) where
 mem:=by simp
 obj:=λi h f b j=>by
  have e:b=g:=(by simpa using j);subst e;obtain⟨o,e,c,d⟩:=f;exact⟨o,e,λv z=>by rw[d] at z;cases z⟩
 keep:=λi h l f k=>f.at λo e=>k g (by simp) o e
 item:=by
  intro X q r t L i pins s σ H E I m f y;subst q r t;obtain⟨N,x,n,A⟩:=y;obtain⟨Y,B,p,O⟩:=I.list n;obtain⟨u,Q,R⟩:=B.get A;obtain⟨C,D,S,F,G,J⟩:=m g (by simp);refine wpAny_pyNext_list_item f p.isList (x:=u) (by simpa using Q) λl M T=>?_;have U:Inv X pins σ H {s with heap:=l}:=I.turned (t':=s.toks) (λb o j e=>(T.2 b j).trans e) C D F G J;obtain⟨o,e,c,d⟩:=id M;exact⟨u,rfl,O9 (s:={s with heap:=l}) e c d (by decide) ⟨x,H,U,R,⟨rfl,λZ V=>by rw[I.list_inj V n];exact A⟩,M,λb j=>(m b j).1⟩⟩
 done:=by
  intro X q r t L i pins s σ H E I m f y;subst q r t;obtain⟨N,n,A⟩:=y;obtain⟨Y,B,p,O⟩:=I.list n;obtain⟨C,D,S,F,G,J⟩:=m g (by simp);have hl:=B.length;exact wpAny_pyNext_list_end (I.ok.hd L) f p.isList (by simp;lia) λl W=>⟨rfl,I.turned (t':=s.toks) (λb o j e=>W b o j e) C D F G J⟩
 self:=λζ ζ ζ ζ ζ f h=>wpAny_pyIter_listiter f h
def Xq{K:Ai}(c:Addr)(lo:Int)(n:Nat):FQ P w K tg (MD lo n) [c] c (λi h=>IsRangeIter h c (lo+(i:Nat)*1) ((n:Int)-(i:Nat)) 1) where
 mem:=by simp
 obj:=λi h a b d=>by
  have e:b=c:=(by simpa using d);subst e
  exact⟨_,a,λv z=>by
   have D:Data.fields _=Data.cell v:=z
   cases D⟩
 keep:=λi h f a k=>k c (by simp) _ a
 item:=by
  intro X j l m p i pins s σ H E I g a q;subst j l m;obtain⟨r,u,F,x,y,A⟩:=g c (by simp);have W:=Walks.range (prog:=X.prog) (w:=X.w) (I.ok.hd p) c lo 1 n;refine W.item i s _ _ q a λv f B G C Z=>?_;obtain⟨t,rfl⟩:=G;have J:Inv X pins σ H {s with heap:=f,toks:=B}:=I.turned (λb o d e=>Z b o (by simpa using d) e) r u x y A;refine⟨_,rfl,O9 (s:={s with heap:=f,toks:=B}) (n:= "range_iterator") C rfl rfl (by decide) ⟨.int (lo+i),H,J,⟨t,?_⟩,⟨rfl,rfl⟩,C,λb d=>(g b d).1⟩⟩;rw[Int.mul_one]
 done:=by
  intro X j l m p i pins s σ H E I g a q;subst j l m;obtain⟨r,u,F,x,y,A⟩:=g c (by simp);exact wpAny_pyNext_range_end (I.ok.hd p) a (by have:n<=i:=q;lia) λf L=>⟨rfl,I.turned (t':=s.toks) (λb o d e=>L b o d e) r u x y A⟩
 self:=λζ ζ ζ ζ ζ a h=>wpAny_pyIter_rangeiter a h
section
variable {X:Cx} {tg:Expr}
def Nv (K:Ai) (tl:TE):TI:=λσ H R=>tl σ H λx U=>mR x λa=>(∃xs,Ag K U a xs)/\R (MC K a) U
def Dh{l:Expr}{g:TE}(i:PE X l g):PI X tg l (Nv X.K g):=by
 intro pins s σ H R I h;refine AO (i pins s σ H _ I h) λv c⟨x,U,d,j,f⟩=>?_
 replace f:=mR.ex f
 obtain⟨a,e,⟨n,k⟩,q⟩:=f;subst e;cases j;obtain⟨u,r,p,t⟩:=d.list k;refine wpAny_pyIter_list p.isList ?_;refine⟨c.heap.objs.size,[c.heap.objs.size],_,_,U,rfl,d.kept (t':=c.toks) λb o e=>Bg _ e,Xp a _,⟨_,Ci _ rfl,rfl,rfl⟩,λb m=>?_,q⟩;have e:b=c.heap.objs.size:=(by simpa using m);subst e;exact d.fpOk (AG _) (d.hok.fresh (AG _))
def Uu{R:It->Hp->Prop}{lo a:Int}{t u v:Tok}{c:Nat}(I:Inv X pins σ H s)(f:-(2 ^ 62)<=lo)(g:lo<2 ^ 62)(h:-(2 ^ 62)<=a)(i:a<2 ^ 62)
 (q:R (MD lo (a-lo).toNat) H):wpAny (model X.prog X.w) X.A (pyIter (.ref s.heap.objs.size)) (RH X pins σ tg R) E {s with heap:=s.heap.push {cls:=.type "range",data:=.fields #[.int lo t,.int a u,.int 1 v]},toks:=c}:=by
 refine wpAny_pyIter_range (IsRange.new ..) (small_one f g h i) ?_;have d:Inv X pins σ H {s with heap:=s.heap.push {cls:=.type "range",data:=.fields #[.int lo t,.int a u,.int 1 v]},toks:=c}:=I.kept λb o e=>Bg _ e
 refine⟨(s.heap.push {cls:=.type "range",data:=.fields #[.int lo t,.int a u,.int 1 v]}).objs.size,[(s.heap.push {cls:=.type "range",data:=.fields #[.int lo t,.int a u,.int 1 v]}).objs.size],_,_,H,rfl,
  d.kept (t':=c) λb o e=>Bg _ e,Xq _ lo (a-lo).toNat,?_,λb j=>?_,q⟩
 have k:lo+((0:Nat):Int)*1=lo:=(by simp);have l:(((a-lo).toNat:Nat):Int)-((0:Nat):Int)=Builtin.Range.rangeSize lo a 1:=by rw[rangeSize_one];split<;>lia
 show IsRangeIter _ _ (lo+((0:Nat):Int)*1) ((((a-lo).toNat:Nat):Int)-((0:Nat):Int)) 1;rw[k,l];exact Ci _ rfl;have e:b=(s.heap.push {cls:=.type "range",data:=.fields #[.int lo t,.int a u,.int 1 v]}).objs.size:=(by simpa using j);subst e;exact d.fpOk (AG _) (d.hok.fresh (AG _))
def Nw (ta:TA):TI:=λσ H R=>ta σ H λvs U=>mJ vs λj=>-(2 ^ 62)<=j/\j<2 ^ 62/\R (MD 0 j.toNat) U
def Ny (ta:TA):TI:=λσ H R=>ta σ H λvs U=>∃i j:Int,vs=[.int i,.int j]/\(-(2 ^ 62)<=i/\i<2 ^ 62/\-(2 ^ 62)<=j/\j<2 ^ 62)/\R (MD i (j-i).toNat) U
variable {L:Pos}
def IQ{a:Expr}{c:TA}{p:Pos}(d:Gl X "range")(f:X.mg "range" = none)(g:PA X [a] c)(i:starEach [a] X.env=[(false,eval a X.env)]:=by rfl):PI X tg (.Call (.Name "range" p) [a] [] L) (Nw c):=by
 intro pins s σ H R I h;refine Call_ (IJ I d f boot_range (PyProof.Rows.callWith_type1 (AO (g L pins s σ H _ I h) λo u⟨v,U,k,l,b⟩=>?_) i rfl))
 replace b:=mJ.ex b
 obtain⟨j,e,b,m,q⟩:=b;subst e
 cases l with
 |cons r n =>
   cases n;obtain⟨t,rfl⟩:=r;exact call_range_1 (Uu k (by lia) (by lia) b m (by simpa using q))
def Xr{a b:Expr}{f:TA}{p:Pos}(k:Gl X "range")(l:X.mg "range" = none)(m:PA X [a,b] f)(n:starEach [a,b] X.env=[(false,eval a X.env),(false,eval b X.env)]:=by rfl)(g:starEach [b] X.env=[(false,eval b X.env)]:=by rfl) :
 PI X tg (.Call (.Name "range" p) [a,b] [] L) (Ny f):=by
 intro pins s σ H R I h;refine Call_ (IJ I k l boot_range (PyProof.Rows.callWith_type1 (AO (m L pins s σ H _ I h) λz A⟨B,U,o,u,c⟩=>?_) (by rw[n,g]) (by rw[g];rfl)));obtain⟨i,j,e,⟨c,v,w,x⟩,q⟩:=c;subst e
 cases u with
 |cons r d =>
   cases d with
   |cons y d =>
     cases d;obtain⟨t,rfl⟩:=r;obtain⟨C,rfl⟩:=y;exact call_range_2 (Uu o c v w x q)
def FR (J:It) (g:TG) (tb:TS) (D:Ends) (σ:St) (U:Hp):Prop:=∃W:Nat->Nat->St->Hp->Prop,(∃m,W 0 m σ U)/\∀i m σ H,W i m σ H ->
 (J.stop i H/\D.nx σ H)\/(J.go i H/\∃N:St->Hp->Prop,(∀σ' H',N σ' H'->∃m',m'<m/\W (i+1) m' σ' H')/\∀x H',J.yld i H x H'->g x σ H' λσ2 Y=>tb {D with nx:=N,ct:=N,bk:=D.nx} σ2 Y)
def RI (wi:TI) (g:TG) (tb:TS):TS:=λD σ H=>wi σ H λJ U=>FR J g tb D σ U
def NA (fp:List Addr) (h:Heap):B':=fp.filterMap λb=>(h.get? b).map λo=>(b,o)
variable {fp:List Addr}
def Pa{o:Obj}(a:b∈fp)(e:h.get? b=some o):(b,o)∈NA fp h:=List.mem_filterMap.mpr ⟨b,a,by rw[e];rfl⟩
def Xs{p:Addr×Obj}(a:p∈NA fp h):p.1∈fp/\h.get? p.1=some p.2:=by
 obtain⟨b,c,e⟩:=List.mem_filterMap.mp a
 cases q:h.get? b with
 |none=>rw[q] at e;cases e
 |some o =>
   rw[q] at e;have d:(b,o)=p:=B2 e;subst d;exact⟨c,q⟩
theorem Inv.pinned(I:Inv X pins σ H s)(f:∀b∈fp,Dg X pins H b)(g:∀b∈fp,∃o,s.heap.get? b=some o/\∀v,o.data≠.cell v):Inv X (pins++NA fp s.heap) σ H s:=
 I.pins_of λp h=>(BB.mp h).elim (λz=>I.pin p (De _ z)) λz=>by
  obtain⟨a,e⟩:=Xs z;obtain⟨i,j,k,_⟩:=f p.1 a;obtain⟨o,c,d⟩:=g p.1 a;rw[e] at c;cases c;exact⟨e,i,j,k,d⟩
theorem Inv.unpinned{a:B'}(I:Inv X (pins++a) σ H s):Inv X pins σ H s:=I.pins_of λp b=>I.pin p (De _ (E7 _ b))
def CJ{j:Expr}{body:List Stmt}{B:TI}{g:TG}{tb:TS}(p:PassesOwn (model X.prog X.w) X.A X.env X.xe)(C:X.calm=true)(P:PI X tg j B)(Q:PG X tg g)(a:Gg X body tb)
 (R:∀x,foldedSetIterable j X.env x=pure x:=by intro _;rfl):PS X (.For tg j body [] L) (RI B g tb):=by
 intro pins s σ H af I h;refine wpAny_For (AO (P pins s σ H _ I h) λv s1 S=>AO S λai s2 U=>?_) R;obtain⟨it,fp,D,ag,Y,e,V,T,aa,E,W,⟨m0,w0⟩,turn⟩:=U;subst e;have A:∀{k:Hp},(∀b∈fp,k b=none)->∀b∈fp,Dg X pins k b:=λhn b a=>⟨hn b a,(E b a).2⟩;refine codeAny_forLoop_any (λn Z=>∃i σ' k,Inv X pins σ' k Z/\D i Z.heap/\(∀b∈fp,k b=none)/\W i n σ' k) ?_ m0 ⟨0,σ,Y,V,aa,λb a=>(E b a).1,w0⟩;rintro n F ⟨i,σ3,t,G,M,O,w3⟩;rcases turn i n σ3 t w3 with⟨stop,qn⟩|⟨go,N,hN,step⟩
 . refine wpAny_passesOwn p (AO (T.done X rfl rfl rfl C i pins F σ3 t X.xe G (A O) M stop) λr s4⟨w,I4⟩=>?_)
   subst w;exact wpAny_execs_nil ⟨σ3,t,I4,qn⟩
 . refine wpAny_passesOwn p (AO (T.item X rfl rfl rfl C i pins F σ3 t X.xe G (A O) M go) λr s4⟨u,w,h4⟩=>?_)
   subst w;refine wpAny_passesOwn p (AO h4 λ_ J⟨x,K,I5,r5,y5,z,ab⟩=>?_);have ae:=I5.pinned (A ab) (T.obj _ _ z);refine wpAny_passesOwn p (AO (Q _ J σ3 K x u _ ae r5 (step x K y5)) λ_ s6⟨σ6,H6,I6,q6⟩=>?_);refine wpAny_passesOwn p (AO (a _ s6 σ6 H6 _ I6 q6) λf y l=>?_)
   have again:∀{σ7:St}{c:Hp},Inv X (pins++NA fp J.heap) σ7 c y->N σ7 c->∃m,m<n/\∃i σ' k,Inv X pins σ' k y/\D i y.heap/\(∀b∈fp,k b=none)/\W i m σ' k:=λ{σ7 c}d q=>by
    obtain⟨m',hm,w7⟩:=hN σ7 c q;refine⟨m',hm,i+1,σ7,c,d.unpinned,T.keep _ _ _ z λb a o e=>(d.pin (b,o) (De _ (De _ (Pa a e)))).1,λb a=>?_,w7⟩;obtain⟨o,e,ah⟩:=T.obj _ _ z b a;exact(d.pin (b,o) (De _ (De _ (Pa a e)))).2.1
   cases f with
   |next=>obtain⟨σ7,c,d,q⟩:=l;exact again d q
   |cont=>obtain⟨σ7,c,d,q⟩:=l;exact again d q
   |brk=>obtain⟨σ7,c,d,l⟩:=l;exact⟨σ7,c,d.unpinned,l⟩
   |ret v=>obtain⟨x7,σ7,c,d,r7,l⟩:=l;exact⟨x7,σ7,c,d.unpinned,r7,l⟩
end
variable {g:TG}{tb:TS}{D:Ends}
def NB{J:It}(n:Nat)(Pv:Nat->St->Hp->Prop)(b:Pv 0 σ H)(go:∀i σ H,Pv i σ H->i<n->J.go i H)(stop:∀σ H,Pv n σ H->J.stop n H)
 (c:∀i v σ H H',Pv i σ H->i<n->J.yld i H v H'->g v σ H' λσ2 Y=>tb {D with nx:=Pv (i+1),ct:=Pv (i+1),bk:=D.nx} σ2 Y) (hd:∀σ H,Pv n σ H->D.nx σ H):FR J g tb D σ H:=by
 unfold FR;refine⟨λi m σ H=>m=n-i/\i<=n/\Pv i σ H,⟨_,rfl,Df _,b⟩,?_⟩;rintro i m σ H ⟨rfl,e,p⟩;by_cases a:i<n;exact .inr ⟨go i σ H p a,Pv (i+1),λσ' H' d=>⟨n-(i+1),by lia,rfl,a,d⟩,λv H' y=>c i v σ H H' p a y⟩
 . obtain rfl:i=n:=by lia
   exact .inl ⟨stop σ H p,hd σ H p⟩
def Fa{K:Ai}{xs:List V}(Pv:Nat->St->Hp->Prop)(d:Pv 0 σ H)(c:∀i σ H,i<=xs.length->Pv i σ H->Ag K H a xs)
 (e:∀i x σ H,xs[i]?=some x->Pv i σ H->g x σ H λσ2 Y=>tb {D with nx:=Pv (i+1),ct:=Pv (i+1),bk:=D.nx} σ2 Y) (hd:∀σ H,Pv xs.length σ H->D.nx σ H):FR (MC K a) g tb D σ H:=NB xs.length Pv d (λi σ H p b=>⟨xs,xs[i],c i σ H (C9 b) p,by simp[b]⟩) (λσ H p=>⟨xs,c _ σ H (AG _) p,AG _⟩) (λi v σ H f p b y=>by obtain⟨rfl,y⟩:=y;exact e i v σ _ (y xs (c i σ _ (C9 b) p)) p) hd
def Kn{lo:Int}{n:Nat}(Pv:Nat->St->Hp->Prop)(b:Pv 0 σ H)
 (c:∀i σ H,i<n->Pv i σ H->g (.int (lo+i)) σ H λσ2 Y=>tb {D with nx:=Pv (i+1),ct:=Pv (i+1),bk:=D.nx} σ2 Y) (hd:∀σ H,Pv n σ H->D.nx σ H):FR (MD lo n) g tb D σ H:=NB n Pv b (λi σ H p a=>a) (λσ H p=>AG _) (λi v σ H d p a y=>by obtain⟨rfl,rfl⟩:=y;exact c i σ _ a p) hd
abbrev R2:=V->V->Hp->VK->Prop
def DG (X:Cx) (f:Value->Value->Sem Value) (r:R2):Prop:=
 ∀(pins:B')(s:Shared)(σ:St)(H:Hp)(x y:V)(v u:Value)(Q:VK),Inv X pins σ H s->RelV x v->RelV y u->r x y H Q ->
  wpAny (model X.prog X.w) X.A (f v u) (EP X pins σ Q) X.xe s
def Pb (X:Cx) (f:Value->Sem Value) (r:V->Hp->VK->Prop):Prop:=
 ∀(pins:B')(s:Shared)(σ:St)(H:Hp)(x:V)(v:Value)(Q:VK),Inv X pins σ H s->RelV x v->r x H Q ->
  wpAny (model X.prog X.w) X.A (f v) (EP X pins σ Q) X.xe s
def Bn (X:Cx) (f:Value) (r:List V->Hp->VK->Prop):Prop:=
 ∀(pins:B')(s:Shared)(σ:St)(H:Hp)(xs:List V)(us:List Value)(Q:VK),Inv X pins σ H s->Ax xs us->r xs H Q ->
  wpAny (model X.prog X.w) X.A (call f us) (EP X pins σ Q) X.xe s
def Fp (r:R2) (ta tb:TE):TE:=λσ H Q=>ta σ H λx U=>tb σ U λy Y=>r x y Y Q
def Xu (r:V->Hp->VK->Prop) (ta:TE):TE:=λσ H Q=>ta σ H λx U=>r x U Q
def rI (C:Int->Int->Prop) (g:Int->Int->V):R2:=λx y H Q=>Gw x y λi j=>C i j/\Q (g i j) H
def Hh (g:Int->Int->V):R2:=λx y H Q=>Gw x y λi j=>Q (g i j) H
def rU (g:Int->V):V->Hp->VK->Prop:=λx H Q=>mI x λi=>Q (g i) H
section
variable {X:Cx} {a b c:Expr} {ta tb l:TE} {L:Pos}
variable {f:Value->Value->Sem Value}
def Le(d:PE X a ta)(e:PE X b tb){R:V->V->Hp->Prop}(I:Inv X pins σ H s)
 (h:ta σ H λx U=>tb σ U λy Y=>R x y Y) {Q:D'} (g:∀v u c x y Y,Inv X pins σ Y c->RelV x v->RelV y u->R x y Y->wpAny (model X.prog X.w) X.A (f v u) Q X.xe c) :
 wpAny (model X.prog X.w) X.A (eval a X.env) (λv i=>wpAny (model X.prog X.w) X.A (eval b X.env) (λu j=>wpAny (model X.prog X.w) X.A (f v u) Q X.xe j) X.xe i) X.xe s:=by
 refine AO (d pins s σ H _ I h) λv k⟨x,U,l,m,n⟩=>?_;refine AO (e pins k σ U _ l n) λu c⟨y,Y,o,p,q⟩=>?_;exact g v u c x y Y o m p q
def Au{op:Operator}{r:R2}(c:DG X (binaryOp op) r)(d:PE X a ta)(e:PE X b tb):PE X (.BinOp a op b L) (Fp r ta tb):=by
 intro pins s σ H Q I h;exact wpAny_BinOp (Le d e I h λv u f x y Y g i j q=>c pins f σ Y x y v u Q g i j q)
def Pc{op:UnaryOp}{r:V->Hp->VK->Prop}(b:Pb X (unaryOp op) r)(c:PE X a ta):PE X (.UnaryOp op a L) (Xu r ta):=by
 intro pins s σ H Q I h;exact UnaryOp_ (AO (c pins s σ H _ I h) λv d⟨x,U,e,f,g⟩=>b pins d σ U x v Q e f g)
def NC{C:Int->Int->Prop}{g:Int->Int->Int}
 (e:∀(i j:Int)(t u:Tok)(s:Shared)(Q:D')(E:D'),C i j->Q (.int (g i j) s.toks) {s with toks:=s.toks+1}->wpAny (model X.prog X.w) X.A (f (.int i t) (.int j u)) Q E s) :
 DG X f (rI C λi j=>.int (g i j)):=by
 intro pins s σ H x y v u Q I a b h
 replace h:=Gw.ex h
 obtain⟨i,j,rfl,rfl,c,q⟩:=h;obtain⟨t,rfl⟩:=a;obtain⟨d,rfl⟩:=b;exact e i j t d s _ _ c ⟨.int (g i j),H,I.tok _,⟨_,rfl⟩,q⟩
def IR{g:Int->Int->Int}
 (d:∀(i j:Int)(t u:Tok)(s:Shared)(Q:D')(E:D'),Q (.int (g i j) s.toks) {s with toks:=s.toks+1}->wpAny (model X.prog X.w) X.A (f (.int i t) (.int j u)) Q E s) :
 DG X f (Hh λi j=>.int (g i j)):=by
 intro pins s σ H x y v u Q I a b h
 replace h:=Gw.ex h
 obtain⟨i,j,rfl,rfl,q⟩:=h;obtain⟨t,rfl⟩:=a;obtain⟨c,rfl⟩:=b;exact d i j t c s _ _ ⟨.int (g i j),H,I.tok _,⟨_,rfl⟩,q⟩
def ND{g:Int->Int->Bool}
 (d:∀(i j:Int)(t u:Tok)(s:Shared)(Q:D')(E:D'),Q (.bool (g i j)) s->wpAny (model X.prog X.w) X.A (f (.int i t) (.int j u)) Q E s) :
 DG X f (Hh λi j=>.bl (g i j)):=by
 intro pins s σ H x y v u Q I a b h
 replace h:=Gw.ex h
 obtain⟨i,j,rfl,rfl,q⟩:=h;obtain⟨t,rfl⟩:=a;obtain⟨c,rfl⟩:=b;exact d i j t c s _ _ ⟨.bl (g i j),H,I,rfl,q⟩
def RJ (i j:Int):Prop:=0<j/\j<1073741824
def RK (i j:Int):Prop:=0<=j/\j<=1000000/\i.natAbs<2 ^ 64
def Lf (i j:Int):Prop:=(-(2 ^ 64)<i/\i<2 ^ 64)\/(-(2 ^ 64)<j/\j<2 ^ 64)
def Lf.ok{i j:Int}(h:Lf i j):IntMulOk i j:=by
 rcases h with⟨a,b⟩|⟨a,b⟩;exact .of_left (intBits_le_64 a b);exact .of_right (intBits_le_64 a b)
def Xv(k:Nat):(0:Int)<=2 ^ k:=by
 rw[two_pow_cast];exact Int.natCast_nonneg _
def Gx:DG X (binaryOp .Add) (Hh λi j=>.int (i+j)):=IR λζ ζ ζ ζ ζ ζ ζ q=>add_int q
def NE:DG X (binaryOp .Sub) (Hh λi j=>.int (i-j)):=IR λζ ζ ζ ζ ζ ζ ζ q=>sub_int q
def Em:DG X (binaryOp .Mult) (rI Lf λi j=>.int (i*j)):=NC λζ ζ ζ ζ ζ ζ ζ a q=>mul_int q a.ok
def En:DG X (binaryOp .FloorDiv) (rI RJ λi j=>.int (i/j)):=NC λi j ζ ζ ζ ζ ζ a q=>by
 have b:(0:Int)<j:=a.1;have c:j<1073741824:=a.2;exact floordiv_int (by lia) (by rw[Int.fdiv_eq_ediv_of_nonneg i (by lia)];exact q) (.inl (PyProof.noPylong_small (by lia)))
def AZ:DG X (binaryOp .Mod) (rI (λζ j=>0<j) λi j=>.int (i%j)):=NC λi j ζ ζ ζ ζ ζ a q=>by
 have b:(0:Int)<j:=a;exact mod_int' (by lia) (by rw[Int.fmod_eq_emod_of_nonneg i (by lia)];exact q)
def Lg:DG X (binaryOp .LShift) (rI RK λi j=>.int (i*2 ^ j.toNat)):=NC λζ ζ ζ ζ ζ ζ ζ a q=>lshift_int_small a.1 a.2.1 a.2.2 q
def Hi:DG X (binaryOp .RShift) (rI (λζ j=>0<=j) λi j=>.int (i/2 ^ j.toNat)):=NC λi j ζ ζ ζ ζ ζ a q =>
 rshift_int a (by rw[Int.fdiv_eq_ediv_of_nonneg i (Xv _)];exact q)
def NF:DG X (binaryOp .BitOr) (Hh λi j=>.int (Builtin.bitOr i j)):=IR λζ ζ ζ ζ ζ ζ ζ q=>or_int q
def IS:DG X (inplaceOp .Add) (Hh λi j=>.int (i+j)):=IR λζ ζ ζ ζ ζ ζ ζ q=>iadd_int q
def Xw{f:Value->Sem Value}{g:Int->Int}
 (b:∀(i:Int)(t:Tok)(s:Shared)(Q:D')(E:D'),Q (.int (g i) s.toks) {s with toks:=s.toks+1}->wpAny (model X.prog X.w) X.A (f (.int i t)) Q E s) :
 Pb X f (rU λi=>.int (g i)):=by
 intro pins s σ H x v Q I a h
 replace h:=mI.ex h
 obtain⟨i,rfl,q⟩:=h;obtain⟨t,rfl⟩:=a;exact b i t s _ _ ⟨.int (g i),H,I.tok _,⟨_,rfl⟩,q⟩
def Pd:Pb X (unaryOp .USub) (rU λi=>.int (-i)):=Xw λζ ζ ζ ζ ζ q=>neg_int q
end
def Lh:V->V->Bool
 |.non,.non=>true|.non,.int _=>true|.int _,.non=>true|.non,.bl _=>true|.bl _,.non=>true|.non,.str _=>true|.str _,.non=>true
 |.int _,.int _=>true|.bl _,.bl _=>true|.str _,.str _=>true|.byt _,.byt _=>true
 |.int _,.str _=>true|.str _,.int _=>true|.bl _,.str _=>true|.str _,.bl _=>true
 |_,_=>false
def Xx:R2:=λx y H Q=>Lh x y=true/\Q (.bl (decide (x=y))) H
def Uv:R2:=λx y H Q=>Lh x y=true/\Q (.bl (!decide (x=y))) H
def Uw{i j:Int}:decide (V.int i=V.int j)=(i==j):=by
 rw[Bool.eq_iff_iff]
 simp
def Hj{i j:Bool}:decide (V.bl i=V.bl j)=(i==j):=by
 rw[Bool.eq_iff_iff]
 simp
def Ux{i j:Str}:decide (V.str i=V.str j)=(i==j):=by
 rw[Bool.eq_iff_iff]
 simp
def Uy{i j:Array UInt8}:decide (V.byt i=V.byt j)=(i.toList==j.toList):=by
 rw[Bool.eq_iff_iff];cases i;cases j
 simp
section
variable {X:Cx} {a b c:Expr} {ta tb l:TE} {L:Pos}
def Db{Q:VK}{k a:Bool}(I:Inv X pins σ H s)(q:Q (.bl k) H)(e:k=a):EP X pins σ Q (.bool a) s:=by
 subst e;exact⟨.bl k,H,I,rfl,q⟩
def Cf:DG X (compareOp .Eq) Xx:=by
 intro pins s σ H x y v u Q I d a h;obtain⟨c,q⟩:=h
 cases x with
 |non =>
   cases d
   cases y with
   |non=>cases a;exact PySem.EqNone.eq_none_none (Db I q (by simp))
   |bl j=>cases a;exact PySem.EqNone.eq_none_bool (Db I q (by simp))
   |int j=>obtain⟨b,rfl⟩:=a;exact PySem.EqNone.eq_none_int (Db I q (by simp))
   |str j=>obtain⟨b,rfl⟩:=a;exact PySem.EqNone.eq_none_str (Db I q (by simp))
   |_=>exact absurd (show false=true from c) C3
 |bl i =>
   cases d
   cases y with
   |non=>cases a;exact PySem.EqNone.eq_bool_none (Db I q (by simp))
   |bl j=>cases a;exact eq_bool (Db I q Hj)
   |str j=>obtain⟨b,rfl⟩:=a;exact PySem.EqMixed.eq_bool_str (Db I q (by simp))
   |_=>exact absurd (show false=true from c) C3
 |int i =>
   obtain⟨t,rfl⟩:=d
   cases y with
   |non=>cases a;exact PySem.EqNone.eq_int_none (Db I q (by simp))
   |int j=>obtain⟨b,rfl⟩:=a;exact eq_int (Db I q Uw)
   |str j=>obtain⟨b,rfl⟩:=a;exact PySem.EqMixed.eq_int_str (Db I q (by simp))
   |_=>exact absurd (show false=true from c) C3
 |str i =>
   obtain⟨t,rfl⟩:=d
   cases y with
   |non=>cases a;exact PySem.EqNone.eq_str_none (Db I q (by simp))
   |bl j=>cases a;exact PySem.EqMixed.eq_str_bool (Db I q (by simp))
   |int j=>obtain⟨b,rfl⟩:=a;exact PySem.EqMixed.eq_str_int (Db I q (by simp))
   |str j=>obtain⟨b,rfl⟩:=a;exact eq_str (Db I q Ux)
   |_=>exact absurd (show false=true from c) C3
 |byt i =>
   obtain⟨t,rfl⟩:=d
   cases y with
   |byt j=>obtain⟨b,rfl⟩:=a;exact PySem.W.eq_bytes (Db I q Uy)
   |_=>exact absurd (show false=true from c) C3
 |_=>cases y<;>exact absurd (show false=true from c) C3
def NG:DG X (compareOp .NotEq) Uv:=by
 intro pins s σ H x y v u Q I d a h;obtain⟨c,q⟩:=h
 cases x with
 |non =>
   cases d
   cases y with
   |non=>cases a;exact PySem.EqNone.ne_none_none (Db I q (by simp))
   |bl j=>cases a;exact PySem.EqNone.ne_none_bool (Db I q (by simp))
   |int j=>obtain⟨b,rfl⟩:=a;exact PySem.EqNone.ne_none_int (Db I q (by simp))
   |str j=>obtain⟨b,rfl⟩:=a;exact PySem.EqNone.ne_none_str (Db I q (by simp))
   |_=>exact absurd (show false=true from c) C3
 |bl i =>
   cases d
   cases y with
   |non=>cases a;exact PySem.EqNone.ne_bool_none (Db I q (by simp))
   |bl j=>cases a;exact ne_bool (Db I q (BR not Hj))
   |str j=>obtain⟨b,rfl⟩:=a;exact PySem.EqMixed.ne_bool_str (Db I q (by simp))
   |_=>exact absurd (show false=true from c) C3
 |int i =>
   obtain⟨t,rfl⟩:=d
   cases y with
   |non=>cases a;exact PySem.EqNone.ne_int_none (Db I q (by simp))
   |int j=>obtain⟨b,rfl⟩:=a;exact ne_int (Db I q (BR not Uw))
   |str j=>obtain⟨b,rfl⟩:=a;exact PySem.EqMixed.ne_int_str (Db I q (by simp))
   |_=>exact absurd (show false=true from c) C3
 |str i =>
   obtain⟨t,rfl⟩:=d
   cases y with
   |non=>cases a;exact PySem.EqNone.ne_str_none (Db I q (by simp))
   |bl j=>cases a;exact PySem.EqMixed.ne_str_bool (Db I q (by simp))
   |int j=>obtain⟨b,rfl⟩:=a;exact PySem.EqMixed.ne_str_int (Db I q (by simp))
   |str j=>obtain⟨b,rfl⟩:=a;exact ne_str (Db I q (BR not Ux))
   |_=>exact absurd (show false=true from c) C3
 |byt i =>
   obtain⟨t,rfl⟩:=d
   cases y with
   |byt j=>obtain⟨b,rfl⟩:=a;exact PySem.W.ne_bytes (Db I q (BR not Uy))
   |_=>exact absurd (show false=true from c) C3
 |_=>cases y<;>exact absurd (show false=true from c) C3
def GO:DG X (compareOp .Lt) (Hh λi j=>.bl (decide (i<j))):=ND λζ ζ ζ ζ ζ ζ ζ q=>lt_int q
def Hk:DG X (compareOp .Gt) (Hh λi j=>.bl (decide (j<i))):=ND λζ ζ ζ ζ ζ ζ ζ q=>gt_int q
variable {op:CmpOp}
def Bu(b:Expr)(h:op≠.In:=by decide)(a:op≠.NotIn:=by decide):behindInMarks op b=false:=by
 have c:(op==CmpOp.In)=false:=by cases op<;>first|rfl|exact absurd rfl h
 have d:(op==CmpOp.NotIn)=false:=by cases op<;>first|rfl|exact absurd rfl a
 cases b<;>simp[behindInMarks,c,d]
variable {r:R2}
def ME(c:DG X (compareOp op) r)(d:PE X a ta)(e:PE X b tb)(f:behindInMarks op b=false):PE X (.Compare a [op] [b] L) (Fp r ta tb):=by
 intro pins s σ H Q I h;exact wpAny_Compare1 (Le d e I h λv u g x y Y i j k q=>c pins g σ Y x y v u Q i j k q) f
def Ko (t:TE):TT:=λσ H Q=>t σ H λx H'=>mB x λk=>Q k H'
def Bv(f:DG X (compareOp op) r)(g:PE X a ta)(i:PE X b tb)(j:behindInMarks op b=false):PT X (.Compare a [op] [b] L) (Ko (Fp r ta tb)):=by
 intro pins s σ H Q I h
 refine wpAny_isTrue_Compare1 (AO (g pins s σ H _ I h) λv l⟨x,U,m,n,o⟩=>AO (i pins l σ U _ m o) λu p⟨y,Y,q,t,w⟩ =>
  AO (f pins p σ Y x y v u _ q n t w) λc D⟨z,A,B,C,d⟩=>?_) j
 replace d:=mB.ex d
 obtain⟨k,e,d⟩:=d;subst e;cases C;exact F7 ⟨A,B,d⟩
def Li (r r':R2) (ta tb l:TE):TE:=λσ H Q=>ta σ H λx U=>tb σ U λy Y=>r x y Y λz H3=>∃k,z=.bl k /\
 (if k=true then l σ H3 λw' H4=>r' y w' H4 Q else Q (.bl false) H3)
def Xy{i:CmpOp}{j:R2}(p:DG X (compareOp op) r)(aa:DG X (compareOp i) j)(q:PE X a ta)(t:PE X b tb)(w:PE X c l)
 (z:lastMarks [op,i] [b,c]=false:=by with_unfolding_all rfl):PT X (.Compare a [op,i] [b,c] L) (Ko (Li r j ta tb l)):=by
 intro pins s σ H Q I h
 refine isTrue_chain (AO (q pins s σ H _ I h) λv A⟨x,U,B,C,D⟩=>test_link (AO (t pins A σ U _ B D) λu E⟨y,Y,F,m,G⟩ =>
  AO (p pins E σ Y x y v u _ F C m G) λab J⟨ae,g,n,K,k,e,o⟩=>?_)) z
 subst e;cases K;refine F7 ?_
 cases k with
 |false =>
   have d:mB (.bl false) (λk=>Q k g):=o
   replace d:=mB.ex d
   obtain⟨k',M,N⟩:=d;cases M;exact ite_ff ⟨g,n,N⟩
 |true =>
   refine ite_tt (test_last (AO (w pins J σ g _ n o) λO P⟨R,S,T,V,d⟩=>AO (aa pins P σ S y R u O _ T m V d) λd' s5⟨z2,W,Z,r5,f⟩=>?_))
   replace f:=mB.ex f
   obtain⟨k2,e2,f⟩:=f;subst e2;cases r5;exact F7 ⟨W,Z,f⟩
def NH:(sizeLine:Nat)<2 ^ 63:=by rw[sizeLine_eq];decide
def Uz:DG X (binaryOp .Add) (λx y H Q=>∃i j,x=.str i/\y=.str j/\i.length+j.length<=sizeLine/\Q (.str (i++j)) H):=by
 intro pins s σ H x y v u Q I a b h;obtain⟨i,j,rfl,rfl,c,q⟩:=h;obtain⟨t,rfl⟩:=a;obtain⟨d,rfl⟩:=b;exact add_str (λd e=>⟨.str (i++j),H,I.tok _,⟨_,rfl⟩,q⟩) c
def F8{a:List Value}(r:Ax [x] a):∃u,a=[u]/\RelV x u:=by
 cases r with
 |cons b c=>cases c;exact⟨_,rfl,b⟩
def Kp{y:V}{a:List Value}(r:Ax [x,y] a):∃u b,a=[u,b]/\RelV x u/\RelV y b:=by
 cases r with
 |cons c d =>
   cases d with
   |cons e f=>cases f;exact⟨_,_,rfl,c,e⟩
def UA(b:X.calm=true):Bn X (.builtin "min") (λxs H Q=>∃i j,xs=[.int i,.int j]/\Q (.int (if j<i then j else i)) H):=by
 intro pins s σ H xs c Q I r h;obtain⟨i,j,rfl,q⟩:=h;obtain⟨u,d,rfl,⟨t,rfl⟩,⟨e,rfl⟩⟩:=Kp r;refine min_two_ints (I.ok.hd b) λf g k=>⟨_,H,I.kept k,?_,q⟩;by_cases a:j<i;rw[An a,An a];exact⟨_,rfl⟩;rw[Al a,Al a];exact⟨_,rfl⟩
def UB:Bn X (.type "int") (λxs H Q=>(∃i,xs=[.int i]/\Q (.int i) H)\/∃k,xs=[.bl k]/\Q (.int (if k then 1 else 0)) H):=by
 intro pins s σ H xs b Q I r h;rcases h with⟨i,rfl,q⟩|⟨k,rfl,q⟩;obtain⟨u,rfl,t,rfl⟩:=F8 r;exact call_int_int ⟨.int i,H,I,⟨_,rfl⟩,q⟩;obtain⟨u,rfl,a⟩:=F8 r
 cases a;exact call_int_bool ⟨.int (if k then 1 else 0),H,I.tok _,⟨_,rfl⟩,q⟩
def IT (K:Ai) (x:V) (H:Hp) (n:Nat):Prop:=
 match x with
 |.str y=>y.length<=sizeLine/\n=y.length
 |.byt y=>y.size<=sizeLine/\n=y.size
 |.ref p=>(∃xs,Ag K H p xs/\n=xs.length)\/∃xs,Ao K H p xs/\n=xs.length
 |_=>False
def Di:Bn X (.builtin "len") (λxs H Q=>mL xs λx n=>IT X.K x H n/\Q (.int n) H):=by
 intro pins s σ H xs l Q I r h
 replace h:=mL.ex h
 obtain⟨x,n,rfl,e,q⟩:=h;obtain⟨u,rfl,b⟩:=F8 r;have m:=NH;have o:sizeLine=16777216:=sizeLine_eq
 cases x with
 |str y =>
   obtain⟨t,rfl⟩:=b;obtain⟨i,a⟩:y.length<=sizeLine/\n=y.length:=e;subst a;exact len_str (by lia) ⟨.int _,H,I.tok _,⟨_,rfl⟩,q⟩
 |byt y =>
   obtain⟨t,rfl⟩:=b;obtain⟨i,a⟩:y.size<=sizeLine/\n=y.size:=e;subst a;exact PySem.W.len_bytes (by lia) ⟨.int _,H,I.tok _,⟨_,rfl⟩,q⟩
 |ref p =>
   cases b;have a:(∃xs,Ag X.K H p xs/\n=xs.length)\/∃xs,Ao X.K H p xs/\n=xs.length:=e;rcases a with⟨xs,c,a⟩|⟨xs,c,a⟩;subst a;obtain⟨k,d,f,j⟩:=I.list c;have g:=d.length;exact Calls.call_len_list f.isList (by simp only[Cw];lia) ⟨.int xs.length,H,I.tok _,⟨_,by simp only[Cw];rw[g]⟩,q⟩;subst a;obtain⟨k,d,f,j⟩:=I.tuple c;have g:=d.length;exact len_tuple f (by simp only[Cw];lia) ⟨.int xs.length,H,I.tok _,⟨_,by simp only[Cw];rw[g]⟩,q⟩
 |_=>exact(show False from e).elim
end
section
variable {prog:Program} {w:World} {A:Around} {E:D'} {s:Shared} {K:Ai} {x dx C f:Addr} {mA:Str->Option Value} {name:Str} {v:Value}
end
def Ee.some_of{v:V}{o:Option Value}(r:Ee (some v) o):∃u,o=some u/\RelV v u:=by
 cases o with
 |none=>exact(show False from r).elim
 |some u=>exact⟨u,rfl,r⟩
section
variable {P:Program} {w:World} {H H':Hp} {h h':Heap} {a C dx:Addr} {fs fs':List (Str×V)}
end
section
variable {X:Cx} {pins:B'} {σ:St} {H:Hp} {s:Shared} {a C dx:Addr} {fs:List (Str×V)} {f:Str} {v:V} {A:Around} {E:D'}
end
section
variable {X:Cx} {o e d:Expr} {f:Str} {L t r:Pos} {ta tv:TE}
end
section
variable {X:Cx} {pins:B'} {σ:St} {H:Hp} {s:Shared} {A:Around} {E:D'} {Q:D'} {c:Value} {b:Bool}
end
structure BY (k:Nat) (A:Around):Prop where
 hd:A.handled=none
 dp:A.depth+3*k+5<recursionLimit
 un:A.units+16*k+200<cLine
def BY.mono{j k:Nat}(r:BY k A)(h:j<=k):BY j A:=⟨r.hd,by have:=r.dp;lia,by have:=r.un;lia⟩
def BY.deeper{k:Nat}{A:Around}(r:BY (k+1) A)(env:Env):BY k (A.deeper env):=
 ⟨r.hd,by have:=r.dp;show A.depth+1+3*k+5<_;lia,by have:=r.un;show A.units+3+16*k+200<_;lia⟩
def BY.depth{k:Nat}{A:Around}(r:BY k A):A.depth<recursionLimit:=by have:=r.dp;lia
def BY.units{k:Nat}{A:Around}(r:BY k A):A.units+64<cLine:=by have:=r.un;lia
def FS:TA:=λζ H Q=>Q [] H
def F9 (ta:TE) (tr:TA):TA:=λσ H Q=>ta σ H λx U=>tr σ U λxs Y=>Q (x::xs) Y
section
variable {X:Cx} {e:Expr} {es:List Expr} {te:TE} {t:TA} {L:Pos}
def Ae:PA X [] FS:=λζ ζ ζ ζ H Q I h=>Calls.spliced_nil ⟨[],H,I,.nil,h⟩
def Ab(a:PE X e te)(b:PA X es t)(c:starEach (e::es) X.env=(false,eval e X.env)::starEach es X.env:=by rfl):PA X (e::es) (F9 te t):=by
 intro L pins s σ H Q I h;rw[c];show wpAny _ _ (spliced ((false,eval e X.env)::backTo L (starEach es X.env))) _ _ s;refine Calls.spliced_cons (AO (a pins s σ H _ I h) λu d⟨x,U,f,g,i⟩=>?_);exact AO (b L pins d σ U _ f i) λn o⟨j,Y,k,l,m⟩=>⟨x::j,Y,k,.cons g l,m⟩
def IU (t:TA):TE:=λσ H Q=>t σ H λxs U=>xs.length<=sizeLine/\∀p,U p=none->Q (.ref p) (upd U p (.tup xs))
def RL (t:TA):TE:=λσ H Q=>t σ H λxs U=>xs.length<=sizeLine/\∀p,U p=none->Q (.ref p) (upd U p (.lst xs))
def Ba{d}(h:PA X es t):PE X (.Tuple es d L) (IU t):=by
 intro pins s σ H Q I f;refine wpAny_Tuple_spliced (AO (h L pins s σ H _ I f) λg a⟨i,U,c,r,z,q⟩=>⟨by rw[<-r.length];exact z,?_⟩);have j:U a.heap.objs.size=none:=c.hok.fresh (AG _);refine⟨.ref a.heap.objs.size,upd U a.heap.objs.size (.tup i),c.laid (t':=a.toks) (λb u e=>Bg _ e) (AG _) ?_,rfl,q _ j⟩;exact⟨z,g,r,⟨_,Ci _ rfl,rfl,_,rfl⟩⟩
def Cj(h:PA X es t):PE X (.List es L) (RL t):=by
 intro pins s σ H Q I d;refine wpAny_List_spliced (AO (h L pins s σ H _ I d) λf a⟨g,U,c,r,z,q⟩=>⟨by rw[<-r.length];exact z,?_⟩);have i:U a.heap.objs.size=none:=c.hok.fresh (AG _);refine⟨.ref a.heap.objs.size,upd U a.heap.objs.size (.lst g),c.laid (t':=a.toks) (λb u e=>Bg _ e) (AG _) ?_,rfl,q _ i⟩;exact⟨z,f,0,r,Ci _ rfl⟩
end
abbrev Sp:=List V->Hp->VK->XK->Prop
abbrev Hl:=List Env->Hp->Shared->XK->Value->Shared->Prop
structure IV (P:Program) (w:World) (K:Ai) (mg:Str->Option Value) (base:Heap) (A:Around) (outer:List Env) (s:Shared) (H:Hp):Prop where
 frames:A.frames=some outer
 mod:Mod K mg base
 bs:∀b o,base.get? b=some o->s.heap.get? b=some o/\H b=none
 bsz:base.objs.size<=s.heap.objs.size
 funs:s.heap.FunFrames base outer
 frf:∀b∈E8 outer,H b=none
 hok:C4 P w H s.heap
 bare:AllBare s.gens
def CE (outer:List Env) (P:Program) (w:World) (H:Hp) (s:Shared) (Q:VK) (u:Value) (Z:Shared):Prop:=
 ∃v H',Z.os=s.os/\AllBare Z.gens/\Un (E8 outer) [] H H' s.heap Z.heap/\C4 P w H' Z.heap/\RelV v u/\Q v H'
def CR (CX:Hl) (outer:List Env) (P:Program) (w:World) (H:Hp) (s:Shared) (Q:VK) (E:XK) (r:Result) (Z:Shared):Prop:=
 match r with
 |.ok (.ret u)=>CE outer P w H s Q u Z
 |.ok _=>False
 |.error e=>CX outer H s E e Z
structure Ev (P:Program) (w:World) (K:Ai) (mg:Str->Option Value) (base:Heap) (CX:Hl) (k:Nat) (f:Addr) (fd:FuncData) (ps:List Str) (sp:Sp):Prop where
 len:∀vs H Q E,sp vs H Q E->vs.length=ps.length
 run:∀(A:Around)(outer:List Env)(s:Shared)(H:Hp)(args:Args)(us:List Value)(vs:List V)(Q:VK)(E:XK),BY k A->IV P w K mg base A outer s H->BindsTo s fd args (ps.zip us)->Ax vs us->sp vs H Q E ->
  codeAny (model P w) A (.call (.ref f) args) (CR CX outer P w H s Q E) s
section
variable {X:Cx} {pins:B'} {σ:St} {H:Hp} {s Z:Shared}
def Inv.env0(I:Inv X pins σ H s):IV X.prog X.w X.K X.mg X.base X.A X.stack s H:=
 ⟨I.ok.frames,I.ok.mod,I.bs,DY I.ok.bsz I.sz,I.stack,I.stkFree,I.hok,I.bare⟩
def Inv.after{Q:VK}{u:Value}(I:Inv X pins σ H s)(h:CE X.stack X.prog X.w H s Q u Z):EP X pins σ Q u Z:=by
 obtain⟨v,a,c,j,un,f,r,q⟩:=h;obtain⟨e,g,d,t,i⟩:=Z;obtain rfl:i=s.os:=c;exact⟨v,a,I.call (h':=e) (g':=g) (d':=d) (t':=t) (ch:=[]) un f j (λb z=>absurd z (by simp)),r,q⟩
end
def Kq (sp:Sp) (c:List V) (E:XK) (t:TA):TE:=λσ H Q=>t σ H λvs U=>sp (vs++c) U Q E
def Binds (K:Ai) (fd:FuncData) (ps:List Str) (ds:List Value):Prop:=
 ∀(s:Shared)(us:List Value),K.In s.heap->(us++ds).length=ps.length->BindsTo s fd ⟨us,[]⟩ (ps.zip (us++ds))
variable {ps:List Str}
def Binds.all{K:Ai}{b:FuncData}(h:∀a:List Value,a.length=ps.length->bindArgs b ⟨a,[]⟩=pure (ps.zip a)):Binds K b ps []:=λs a ζ c=>by
 rw[FM] at c ⊢;exact .of_eq (h a c)
def RM (CX:Hl) (X:Cx) (E:XK):Prop:=∀(pins:B')(σ:St)(H:Hp)(s:Shared)(e:Value)(Z:Shared),Inv X pins σ H s->CX X.stack H s E e Z->X.xe e Z
section
variable {X:Cx} {CX:Hl} {k:Nat} {f C:Addr} {fd:FuncData} {ps:List Str} {sp:Sp} {c:List V} {ds:List Value} {E:XK} {x m:Str} {p L apos:Pos} {e o:Expr} {es:List Expr} {ta:TE} {t:TA}
def Lj{Q:VK}{a:List Value}{vs:List V}(F:Ev X.prog X.w X.K X.mg X.base CX k f fd ps sp)(g:BY k X.A)(i:Binds X.K fd ps ds)(hd:Ax c ds)(j:RM CX X E)
 (I:Inv X pins σ H s) (r:Ax vs a) (h:sp (vs++c) H Q E):wpAny (model X.prog X.w) X.A (call (.ref f) a) (EP X pins σ Q) X.xe s:=by
 have d:Ax (vs++c) (a++ds):=r.append hd;have l:(a++ds).length=ps.length:=by rw[<-d.length];exact F.len _ _ _ _ h
 refine wpAny_call (codeAny_mono (F.run X.A X.stack s H ⟨a,[]⟩ (a++ds) (vs++c) Q E g I.env0 (i s a I.kIn l) d h) λr Z b=>?_)
 cases r with
 |error e=>exact j pins σ H s e Z I b
 |ok m =>
   cases m with
   |ret u=>exact I.after b
   |next=>exact False.elim b
   |brk=>exact False.elim b
   |cont=>exact False.elim b
def IW(F:Ev X.prog X.w X.K X.mg X.base CX k f fd ps sp)(b:BY k X.A)(d:Gl X x)(g:X.mg x=some (.ref f))(i:PySem.W.keepIn X.K (.ref f)=true)(j:Binds X.K fd ps ds)(hd:Ax c ds)(l:RM CX X E)
 (m:PA X (e::es) t) (o:(x==("__debug__" : Str))=false:=by decide) (n:starEach (e::es) X.env=(false,eval e X.env)::starEach es X.env:=by rfl) (u:(backTo L (starEach es X.env)).any (·.1)=false:=by rfl) :
 PE X (.Call (.Name x p) (e::es) [] L) (Kq sp c E t):=by
 intro pins s σ H Q I h;refine wpAny_Call_Name_kw (Us I d g ?_ o);refine PySem.W.callWith_K (h₀:=X.base) I.ok.mod.kin i (AO (m L pins s σ H _ I h) λv w⟨y,U,a,r,q⟩=>⟨a.kIn,?_⟩) n u;exact Lj F b j hd l a r q
end
section
variable {X:Cx} {CX:Hl} {k:Nat} {f C:Addr} {fd:FuncData} {ps ks:List Str} {sp:Sp} {E:XK} {x m:Str} {p L apos kpos:Pos} {e o:Expr} {es:List Expr} {kws:List Keyword} {te ta:TE} {t tk:TA} {nm:Option Str}
variable {g:List Value->List Value->List Value} {gV:List V->List V->List V}
end
structure Af (N P:List Str) (sc:Scope):Prop where
 kind:sc.kind=.function
 co:sc.isCoroutine=false
 gen:sc.isGenerator=false
 nd:N.Nodup
 pre:N.take P.length=P
 par:∀x∈P,sc.names.lookup x=some .local\/sc.names.lookup x=some .cell
 nofree:∀y∈sc.names,y.2≠.free
theorem UC{kindOf:Str->Option NameKind}{x:Str}:∀{binds:List (Str×Value)}{m:Str->Option Value},(∀v,(x,v)∉binds)->bindL kindOf binds m x=m x
 |[],_,_=>rfl
 |(n,v)::r,m,h=>by
   unfold bindL;rw[UC λw a=>h w (Ce _ a)];split;have:x≠n:=by rintro rfl;exact h v A3
   simp[this];rfl
theorem UD{kindOf:Str->Option NameKind}{x:Str}:∀{binds:List (Str×Value)}{m:Str->Option Value},(∀v,(x,v)∉binds)->bindC kindOf binds m x=m x
 |[],_,_=>rfl
 |(n,v)::r,m,h=>by
   unfold bindC;rw[UD λw a=>h w (Ce _ a)];split;rfl;have:x≠n:=by rintro rfl;exact h v A3
   simp[this]
theorem UE{kindOf:Str->Option NameKind}{x:Str}{v:Value}:∀{P:List Str}{vs:List Value}{i:Nat}{m:Str->Option Value},P.Nodup->P[i]?=some x->vs[i]?=some v->kindOf x=some .local ->
 bindL kindOf (P.zip vs) m x=some v
 |[],_,_,_,_,h,_,_=>by simp at h
 |_::_,[],_,_,_,_,h,_=>by simp at h
 |p::P,w::vs,0,m,c,a,b,d=>by
   simp at a b;subst a;subst b;show bindL kindOf ((p,w)::P.zip vs) m p=_;unfold bindL;rw[UC λv hv=>(Gr.mp c).1 (List.of_mem_zip hv).1,An d]
   simp
 |p::P,w::vs,i+1,m,c,a,b,d=>by
   show bindL kindOf ((p,w)::P.zip vs) m x=_;unfold bindL;exact UE (i:=i) (Gr.mp c).2 (by simpa using a) (by simpa using b) d
theorem UF{kindOf:Str->Option NameKind}{x:Str}{v:Value}:∀{P:List Str}{vs:List Value}{i:Nat}{m:Str->Option Value},P.Nodup->P[i]?=some x->vs[i]?=some v->kindOf x≠some .local ->
 bindC kindOf (P.zip vs) m x=some v
 |[],_,_,_,_,h,_,_=>by simp at h
 |_::_,[],_,_,_,_,h,_=>by simp at h
 |p::P,w::vs,0,m,c,a,b,d=>by
   simp at a b;subst a;subst b;show bindC kindOf ((p,w)::P.zip vs) m p=_;unfold bindC;rw[UD λv hv=>(Gr.mp c).1 (List.of_mem_zip hv).1,Al d]
   simp
 |p::P,w::vs,i+1,m,c,a,b,d=>by
   show bindC kindOf ((p,w)::P.zip vs) m x=_;unfold bindC;exact UF (i:=i) (Gr.mp c).2 (by simpa using a) (by simpa using b) d
def start (N:List Str) (vs:List V):St:=vs.map some++List.replicate (N.length-vs.length) none
def AE (CX:Hl) (P:Program) (w:World) (K:Ai) (mg:Str->Option Value) (base:Heap) (N:List Str) (qual:Str) (scope:Scope) (f:Addr) (cd:Value) (A:Around) (outer:List Env) (s:Shared) (H:Hp) (E:XK):Cx where
 prog:=P
 w:=w
 K:=K
 mg:=mg
 base:=base
 A:=A.deeper (envOfC qual scope s.heap.objs.size f cd)
 N:=N
 s₀:=s
 H₀:=H
 env:=envOfC qual scope s.heap.objs.size f cd
 outer:=outer
 stack:=envOfC qual scope s.heap.objs.size f cd::outer
 ex:=[]
 calm:=true
 fn:=λζ=>true
 pn:=[]
 xe:=λe Z=>wpAny (model P w) (A.deeper (envOfC qual scope s.heap.objs.size f cd)) (leaving (envOfC qual scope s.heap.objs.size f cd) e) (λζ s''=>CX outer H s E e s'') (λe' s''=>CX outer H s E e' s'') Z
def UG{a:Scope}{n:Nat}{x:Str}(h:a.names.lookup x=some .cell):∃c,(cellsFrom n a.names []).lookup x=some c:=by
 have q:=PySem.W.cellsFrom_some a.names n [] (.inl h);exact Option.isSome_iff_exists.mp q
def Xz{CX:Hl}{K:Ai}{C:Str->Option Value}{G:Heap}{N:List Str}{B:Str}{scope:Scope}{f:Addr}{m:Value}{I:List Env}{J:Shared}{E:XK}{D:List Value}{vs:List V}
 (S:Af N ps scope) (hd:A.handled=none) (g:IV P w K C G A I s H) (T:vs.length=ps.length) (r:Ax vs D)
 (x:InCallC s s.heap.objs.size (bindL (envOfC B scope s.heap.objs.size f m).kindOf (ps.zip D) λζ=>none) (cellsFrom (s.heap.objs.size+1) scope.names []) (bindC (envOfC B scope s.heap.objs.size f m).kindOf (ps.zip D) λζ=>none) J) :
 Inv (AE CX P w K C G N B scope f m A I s H E) [] (start N vs) H J:=by
 have X:ps.length<=N.length:=by have:=BR List.length S.pre;rw[E5] at this;lia
 obtain⟨o,U,rfl,L⟩:=x.done;have F:∀b:Addr,b∉(AE CX P w K C G N B scope f m A I s H E).ex:=λb z=>absurd (show b∈([]:List Addr) from z) (by simp)
 refine⟨⟨g.mod,S.kind,rfl,rfl,AG _,λy z c o d=>?_,λy j=>?_,λy c ζ h=>?_,λζ=>hd,Around.frames_deeper g.frames,.inr ⟨rfl,rfl⟩,λb z=>absurd z (F b),g.bs,g.bsz,λb ζ ζ=>F b,λb z=>absurd z (F b),g.funs,g.frf⟩,
  rfl,g.bare,Un.kept L,⟨_,x.toInCall.ns,λi y v o d W=>?_⟩,λy c h=>⟨_,x.cell y c h⟩,g.hok.fresh (AG _),λy c h=>?_,λp l=>absurd (show p∈([]:B') from l) (by simp),g.hok.kept L,?_⟩
 exact name_of_addr x.apart (Gf o) (Gf d);have j:scope.names.lookup y=some .cell\/scope.names.lookup y=some .free:=j;rcases j with j|j;exact UG j;exact absurd rfl (S.nofree _ (Gf j));exact C9 (x.above y c (Gf h))
 have t:i<vs.length:=by
  unfold start at d;by_cases t:i<vs.length;exact t;rw[Fn (by simpa using t)] at d;rw[List.getElem?_replicate] at d;split at d<;>cases d
 have Q:vs[i]?=some v:=by
  unfold start at d;rw[E4 (by simpa using t),A6] at d
  cases e:vs[i]? with
  |none=>rw[e] at d;cases d
  |some a=>rw[e] at d;cases d;rfl
 obtain⟨u,M,R⟩:=r.get Q
 have l:ps[i]?=some y:=by
  rw[<-S.pre,List.getElem?_take_of_lt (by lia)];exact o
 have O:ps.Nodup:=by rw[<-S.pre];exact S.nd.sublist (List.take_sublist _ _)
 refine⟨u,R,?_⟩;rcases S.par y (Bi l) with k|k;exact .inl ⟨k,UE O l M k⟩;obtain⟨c,e⟩:=UG (n:=s.heap.objs.size+1) k;refine .inr ⟨.inl k,c,e,?_⟩;have q:=x.cell y c e;rw[UF O l M (by show scope.names.lookup y≠_;rw[k];decide)] at q;exact q;exact g.hok.fresh (C9 (x.above y c (Gf h)));unfold start;show _=N.length;rw[AQ,Aj,List.length_replicate];lia
def NI{CX:Hl}{K:Ai}{i:Str->Option Value}{j:Heap}{k:Nat}{f:Addr}{name c:Str}{M:Arguments}{body:List Stmt}{scope:Scope}{p kV F z a ct O:Value}{B R:Option Addr}
 {aa:Array (Option Value)} {N:List Str} {sp:Sp} (T:K.lookup f=some ⟨O,R,.func (PySem.W.fnOf name c M body scope p kV F z B a ct),aa⟩) (ab:PySem.W.codeIn K a c=true) (S:Af N ps scope)
 (len:∀vs H Q E,sp vs H Q E->vs.length=ps.length)
 (af:∀(A:Around)(g:List Env)(s:Shared)(H:Hp)(vs:List V)(Q:VK)(E:XK),BY k (A.deeper (envOfC c scope s.heap.objs.size f a))->sp vs H Q E ->
  ∃t,Gg (AE CX P w K i j N c scope f a A g s H E) body t/\t {nx:=λζ H'=>Q .non H',rt:=Q} (start N vs) H) :
 Ev P w K i j CX (k+1) f (PySem.W.fnOf name c M body scope p kV F z B a ct) ps sp:=by
 refine⟨len,λA g s H ai U vs Q E l h W r G=>?_⟩;have X:=len _ _ _ _ G;have C:K.In s.heap:=h.mod.kin.keeps λb o e=>(h.bs b o e).1;have ae:s.heap.NoLimit:=h.mod.nolimit.keeps λb o e=>(h.bs b o e).1
 have ag:∀y∈ps.zip U,scope.names.lookup y.1=some .local\/(scope.names.lookup y.1=some .cell/\((cellsFrom (s.heap.objs.size+1) scope.names []).lookup y.1).isSome=true):=λ⟨n,v⟩Y=>by
  rcases S.par n (List.of_mem_zip Y).1 with q|q;exact .inl q;exact .inr ⟨q,PySem.W.cellsFrom_some _ _ _ (.inl q)⟩
 refine codeAny_call_function l.depth (C _ _ T) rfl S.co S.gen rfl (PySem.W.codeRec_of C ab) (W _ _ _ _ ?_);refine wpAny_newFunctionEnv_cells S.kind ag λah he D x=>?_;subst he;refine⟨ae.keeps x.toInCall.keep,codeAny_func ?_⟩;obtain⟨t,ht,hq⟩:=af A g s H vs Q E (l.deeper _) G;have I:Inv (AE CX P w K i j N c scope f a A g s H E) [] (start N vs) H D:=Xz S l.hd h X r x;refine FP (ht [] D (start N vs) H _ I hq) (λfl Z d=>?_) λe Z d=>d
 have L:∀{σ':St}{H':Hp}{v:V}{u:Value},Inv (AE CX P w K i j N c scope f a A g s H E) [] σ' H' Z->RelV v u->Q v H'->CE g P w H s Q u Z:=
  λ{σ' H' v u}J m q=>⟨v,H',J.os,J.bare,J.base,J.hok,m,q⟩
 cases fl with
 |ret u =>
   obtain⟨v,σ',H',J,m,q⟩:=d;exact L J m q
 |next =>
   obtain⟨σ',H',J,q⟩:=d;exact L (v:=V.non) (u:=Value.none) J rfl q
 |brk =>
   obtain⟨_,_,_,q⟩:=d;exact False.elim q
 |cont =>
   obtain⟨_,_,_,q⟩:=d;exact False.elim q
section
variable {X:Cx} {x:Str} {p L:Pos} {e:Expr} {es:List Expr} {t:TA} {id T:String} {r:List V->Hp->VK->Prop}
def MF (r:List V->Hp->VK->Prop) (t:TA):TE:=λσ H Q=>t σ H λvs U=>r vs U Q
def BH(a:Bn X (.builtin id) r)(b:X.mg x=none)(c:PA X (e::es) t)(d:Gl X x:=by rfl)(hv:bootBuiltins x=some (.builtin id):=by decide +kernel)(f:x ≠ "__name__" :=by decide)(o:(x==("__debug__" : Str))=false:=by decide)
 (g:starEach (e::es) X.env=(false,eval e X.env)::starEach es X.env:=by rfl) (q:(backTo L (starEach es X.env)).any (·.1)=false:=by rfl):PE X (.Call (.Name x p) (e::es) [] L) (MF r t):=by
 intro pins s σ H Q I h;refine wpAny_Call_Name_kw (IJ I d b hv ?_ f o);exact PyProof.Rows.callWith_builtin1 (AO (c L pins s σ H _ I h) λi j⟨k,U,l,m,n⟩=>a pins j σ U k i Q l m n) g q
def Gy(a:Bn X (.type T) r)(b:X.mg x=none)(c:PA X (e::es) t)(d:Gl X x:=by rfl)(hv:bootBuiltins x=some (.type T):=by decide +kernel)(f:x ≠ "__name__" :=by decide)(o:(x==("__debug__" : Str))=false:=by decide)
 (g:starEach (e::es) X.env=(false,eval e X.env)::starEach es X.env:=by rfl) (q:(backTo L (starEach es X.env)).any (·.1)=false:=by rfl):PE X (.Call (.Name x p) (e::es) [] L) (MF r t):=by
 intro pins s σ H Q I h;refine wpAny_Call_Name_kw (IJ I d b hv ?_ f o);exact PyProof.Rows.callWith_type1 (AO (c L pins s σ H _ I h) λi j⟨k,U,l,m,n⟩=>a pins j σ U k i Q l m n) g q
end
end L2
namespace HT
open PySem PyProof.Rows
section
open PySem.SeqAt
open PySem.AutoSeq1 (wpAny_loadPart')
open PySem.MeetsSeq PySem.MeetsSeq2 PySem.MeetsSeq3
end
section
variable {prog:Program} {w:World} {A:Around} {E:D'} {s:Shared}
def sIx (n d:Nat):Option Int->Nat
 |none=>d
 |some v=>if v<0 then(v+(n:Int)).toNat else min v.toNat n
def sIx_none(n d:Nat):sIx n d none=d:=rfl
def sIx_nat(n d k:Nat):sIx n d (some (k:Int))=min k n:=by
 show(if(k:Int)<0 then((k:Int)+(n:Int)).toNat else min (k:Int).toNat n)=min k n;rw[Al (by lia),BK]
end
end HT
namespace L2
open PySem PySem.Spec PyProof.Rows
abbrev TO:=St->Hp->(Option Int->Hp->Prop)->Prop
def PO (X:Cx) (e:Option Expr) (t:TO):Prop:=
 ∀(pins:B')(s:Shared)(σ:St)(H:Hp)(Q:Option Int->Hp->Prop),Inv X pins σ H s->t σ H Q ->
  wpAny (model X.prog X.w) X.A (evalPart e X.env) (λu Z=>∃o H',Inv X pins σ H' Z/\IsPart u o/\Q o H') X.xe s
def IX:TO:=λζ H Q=>Q none H
def NJ (t:TE):TO:=λσ H Q=>t σ H λx U=>∃i,x=.int i/\Q (some i) U
def XA{ns:List Int}:∀{a:List Value},Ax (ns.map V.int) a->IntsAre a ns:=by
 induction ns with
 |nil=>intro a r;rw[Nd] at r;cases r;exact .nil
 |cons n ns b =>
   intro a r;rw[E3] at r
   cases r with
   |cons c d =>
     obtain⟨t,e⟩:=c;subst e;exact .cons n t (b d)
section
variable {X:Cx} {e:Expr} {te:TE} {lo hi:Option Expr} {tl d:TO} {L J:Pos}
def IY:PO X none IX:=by
 intro a s σ H Q I h;rw[evalPart_none];exact AB ⟨none,H,I,.none,h⟩
def RN(h:PE X e te):PO X (some e) (NJ te):=by
 intro f s σ H Q I a;rw[evalPart_some];refine AO (h f s σ H _ I a) λu g⟨x,U,b,c,d⟩=>?_;obtain⟨i,rfl,q⟩:=d;obtain⟨t,rfl⟩:=c;exact⟨some i,U,b,.int i t,q⟩
def RO (X:Cx) (r:V->Option Int->Option Int->Hp->VK->Prop):Prop:=
 ∀(pins:B')(s:Shared)(σ:St)(H:Hp)(x:V)(v vl vu:Value)(lo hi:Option Int)(sl:Addr)(Q:VK),Inv X pins σ H s->RelV x v->s.heap.IsSliceOf sl vl vu .none->IsPart vl lo->IsPart vu hi->r x lo hi H Q ->
  ∃T id,typeLookup (.type T) "__getitem__" = pure (some (.builtin id))/\s.TypeIs v T/\wpAny (model X.prog X.w) X.A (getItem v (.ref sl)) (EP X pins σ Q) X.xe s
def XB (r:V->Option Int->Option Int->Hp->VK->Prop) (te:TE) (tl d:TO):TE:=λσ H Q=>te σ H λx U=>tl σ U λl Y=>d σ Y λu H3=>r x l u H3 Q
def UH{r:V->Option Int->Option Int->Hp->VK->Prop}(j:RO X r)(k:PE X e te)(m:PO X lo tl)(n:PO X hi d):PE X (.Subscript e (.Slice lo hi none J) L) (XB r te tl d):=by
 intro c s σ H Q I h;refine Subscript_ (AO (k c s σ H _ I h) λv o⟨x,U,p,t,w⟩=>?_);refine wpAny_Slice (AO (m c o σ U _ p w) λf y⟨l,Y,z,A,B⟩=>AO (n c y σ Y _ z B) λg a⟨u,i,C,D,E⟩=>?_);rw[evalPart_none];refine AB ?_;have F:Inv X c σ i {a with heap:=a.heap.push {cls:=.type "slice",data:=.fields #[f,g,.none]}}:=C.kept (t':=a.toks) λb N q=>Bg _ q;obtain⟨T,id,G,K,M⟩:=j c {a with heap:=a.heap.push {cls:=.type "slice",data:=.fields #[f,g,.none]}} σ i x v f g l u a.heap.objs.size Q F t (Heap.IsSliceOf.new ..) A D E;show wpAny (model X.prog X.w) X.A (subscriptTail e (.Slice lo hi none J) v (.ref a.heap.objs.size)) (EP X c σ Q) X.xe {a with heap:=a.heap.push {cls:=.type "slice",data:=.fields #[f,g,.none]}};exact tail_any (ops:=[.ref a.heap.objs.size,v]) K G M (by with_unfolding_all rfl)
def EN (xs:List V) (lo hi:Option Int):List V:=(xs.drop (HT.sIx xs.length 0 lo)).take (HT.sIx xs.length xs.length hi-HT.sIx xs.length 0 lo)
def XC(xs:List V)(lo hi:Option Int):(EN xs lo hi).length<=xs.length:=by
 unfold EN;rw[E5,Kg];lia
end
def Gz (n:Nat) (i:Int):Option Nat:=if 0<=i then(if i<n then some i.toNat else none) else if -(n:Int)<=i then some (i+n).toNat else none
def Bj {α:Type} (xs:List α) (i:Int):Option α:=(Gz xs.length i).bind λj=>xs[j]?
variable {n:Nat}
def UI{i:Int}{j:Nat}(h:Gz n i=some j):seqIndex? i n=some j/\j<n/\-(n:Int)<=i/\i<n:=by
 unfold Gz at h;by_cases b:0<=i;rw[An b] at h;by_cases a:i<n;rw[An a] at h;have e:i.toNat=j:=B2 h;exact⟨by rw[seqIndex_of b a,e],by lia,by lia,a⟩;rw[Al a] at h;cases h;rw[Al b] at h;by_cases a:-(n:Int)<=i;rw[An a] at h;have e:(i+n).toNat=j:=B2 h;exact⟨by rw[seqIndex_neg (by lia) a,e],by lia,a,by lia⟩;rw[Al a] at h;cases h
def RP{α:Type}{xs:List α}{i:Int}{v:α}(h:Bj xs i=some v):∃j,seqIndex? i xs.length=some j/\xs[j]?=some v/\j<xs.length/\-(xs.length:Int)<=i/\i<xs.length:=by
 unfold Bj at h
 cases e:Gz xs.length i with
 |none=>rw[e] at h;cases h
 |some j =>
   rw[e] at h;obtain⟨a,b,c,d⟩:=UI e;exact⟨j,a,h,b,c,d⟩
def BF{α:Type}{xs:List α}{j:Nat}{v:α}(h:xs[j]?=some v):Bj xs (j:Int)=some v:=by
 have a:j<xs.length:=(Bf.mp h).1
 have e:Gz xs.length (j:Int)=some j:=by
  unfold Gz;rw[An (by lia),An (by lia)];simp
 unfold Bj;rw[e];exact h
def IZ (b:Expr):Prop:=∀o i,subscripted b false o i=operate [o,i] (getItem o i)
def Ip (X:Cx) (r:R2):Prop:=
 ∀(d slice:Expr)(pins:B')(s:Shared)(σ:St)(H:Hp)(x y:V)(v u:Value)(Q:VK),Inv X pins σ H s->RelV x v->RelV y u->r x y H Q ->
  subscripted slice false v u=operate [v,u] (getItem v u)->wpAny (model X.prog X.w) X.A (subscriptTail d slice v u) (EP X pins σ Q) X.xe s
def NK (X:Cx) (id:String) (r:V->List V->Hp->VK->Prop):Prop:=
 ∀(pins:B')(s:Shared)(σ:St)(H:Hp)(x:V)(xs:List V)(v:Value)(us:List Value)(Q:VK),Inv X pins σ H s->RelV x v->Ax xs us->r x xs H Q ->
  wpAny (model X.prog X.w) X.A (call (.builtin id) (v::us)) (EP X pins σ Q) X.xe s
section
variable {X:Cx} {a b:Expr} {ta tb:TE} {L:Pos}
def Ip.or{r a:R2}(h:Ip X r)(h':Ip X a):Ip X (λx y H Q=>r x y H Q\/a x y H Q):=by
 intro d slice f s σ H x y v u Q I b c q e;rcases q with q|q;exact h d slice f s σ H x y v u Q I b c q e;exact h' d slice f s σ H x y v u Q I b c q e
def As{r:R2}(c:Ip X r)(d:PE X a ta)(e:PE X b tb)(f:IZ b:=by exact λζ ζ=>rfl):PE X (.Subscript a b L) (Fp r ta tb):=by
 intro l s σ H Q I h;exact Subscript_ (Le d e I h λv u g x y Y i j k q=>c a b l g σ Y x y v u Q i j k q (f _ _))
def NL (K:Ai):R2:=λx y H Q=>mX x y λp xs i v=>Ag K H p xs/\Bj xs i=some v/\Q v H
def NM (K:Ai):R2:=λx y H Q=>mX x y λp xs i v=>Ao K H p xs/\Bj xs i=some v/\Q v H
def NN:R2:=λx y H Q=>∃z i c,x=.str z/\y=.int i/\z.length<=sizeLine/\Bj z.cps.toList i=some c/\Q (.str ⟨#[c]⟩) H
def I0:Ip X (NL X.K):=by
 intro d slice l s σ H x y v u Q I m n h e
 replace h:=mX.ex h
 obtain⟨p,J,i,z,rfl,rfl,o,A,q⟩:=h;cases m;obtain⟨t,rfl⟩:=n;obtain⟨F,r,b,K⟩:=I.list o;obtain⟨j,a,B,L,C,D⟩:=RP A;obtain⟨w,f,G⟩:=r.get B;have E:=r.length;have M:=NH;have k:EP X l σ Q w s:=⟨z,H,I,G,q⟩;by_cases g:0<=i
 have c:i.toNat=j:=by
  rw[seqIndex_of g D] at a;exact B2 a
 exact item_listR b.isList g (by lia) (by rw[c];simpa using f) k e
 have c:(i+(F.toArray.size:Int)).toNat=j:=by
  rw[seqIndex_neg (by lia) C] at a;rw[Cw,<-E];exact B2 a
 exact subscriptTail_builtinR (x:=w) b.isList.typeIs slot_list_getitem.lookup
  (wpAny_getItem_list_neg (Q:=λr Z=>r=w/\EP X l σ Q r Z) b.isList (by lia) (by rw[Cw]<;>lia) (by lia) (by rw[c];simpa using f) ⟨rfl,k⟩) e
def Ll:Ip X (NM X.K):=by
 intro d slice b s σ H x y v u Q I c e h f
 replace h:=mX.ex h
 obtain⟨p,C,i,z,rfl,rfl,g,k,q⟩:=h;cases c;obtain⟨t,rfl⟩:=e;obtain⟨K,r,a,D⟩:=I.tuple g;obtain⟨j,l,m,E,F,G⟩:=RP k;obtain⟨w,n,A⟩:=r.get m;have o:=r.length;have J:=NH;have B:EP X b σ Q w s:=⟨z,H,I,A,q⟩
 exact subscriptTail_builtinR (x:=w) a.typeIs slot_tuple_getitem.lookup
  (getItem_tuple (j:=j) (Q:=λr Z=>r=w/\EP X b σ Q r Z) a (by lia) (by lia) (by rw[Cw,<-o];exact l) (by simpa using n) ⟨rfl,B⟩) f
def Lm:Ip X NN:=by
 intro d slice C s σ H x y v u Q I b e h f;obtain⟨z,i,c,rfl,rfl,r,g,q⟩:=h;obtain⟨t,rfl⟩:=b;obtain⟨w,rfl⟩:=e;obtain⟨j,a,k,A,l,m⟩:=RP g;have n:z.cps.toList.length=z.length:=(by simp[Str.length]);rw[n] at a l m;have B:=NH
 exact tail_any (typeIs_str s z t) slot_str_getitem.lookup (getItem_str (c:=c) (by
  have o:decide (i < -(2 ^ 63:Int))=false:=El (by lia);have p:decide (i ≥ 2 ^ 63)=false:=El (by lia)
  rw[o,p,Bool.or_false]) (by rw[a];simpa using k) ⟨.str ⟨#[c]⟩,H,I.tok _,⟨_,rfl⟩,q⟩) f
def Hm (K:Ai):R2:=λx y H Q=>NL K x y H Q\/NM K x y H Q\/NN x y H Q
def At:Ip X (Hm X.K):=I0.or (Ll.or Lm)
def XD(a:List Value)(n j:Nat)(u:Value):Obj.mapSeq (·.setIfInBounds j u) {cls:=.type "list",data:=.seq a.toArray n}={cls:=.type "list",data:=.seq (a.set j u).toArray n}:=by
 simp[Obj.mapSeq]
def Inv.lst{pins:B'}{σ:St}{H:Hp}{s:Shared}{p:Addr}{xs:List V}(I:Inv X pins σ H s)(h:H p=some (.lst xs)) :
 ∃(a:List Value)(n:Nat),Ax xs a/\s.heap.get? p=some {cls:=.type "list",data:=.seq a.toArray n}/\xs.length<=sizeLine:=by
 obtain⟨z,a,n,r,e⟩:=I.hok p _ h;exact⟨a,n,r,e,z⟩
def Inv.lstUpd{pins:B'}{σ:St}{H:Hp}{s:Shared}{p:Addr}{xs ys:List V}{d its':List Value}{a:Nat}{f:Obj->Obj}(I:Inv X pins σ H s)(h:H p=some (.lst xs))
 (g:s.heap.get? p=some {cls:=.type "list",data:=.seq d.toArray n}) (c:f {cls:=.type "list",data:=.seq d.toArray n}={cls:=.type "list",data:=.seq its'.toArray a}) (r:Ax ys its') (hz:ys.length<=sizeLine) (t:Nat) :
 Inv X pins σ (upd H p (.lst ys)) {s with heap:=s.heap.update p f,toks:=t}:=by
 have e:(s.heap.update p f).get? p=some {cls:=.type "list",data:=.seq its'.toArray a}:=by
  rw[Heap.get?_update_self f g (by rw[c]<;>rfl),c]
 refine I.write (x:=p) (e:=p) (by rw[h];trivial) (.inl rfl) (λb u i q=>(Heap.get?_update_other _ _ (Ne.symm i)).trans q) ⟨_,e⟩ ?_;exact⟨hz,its',a,r,e⟩
def Kr:V->V->V->Hp->(Hp->Prop)->Prop:=λo i v H Q=>∃p xs k j,o=.ref p/\i=.int k/\H p=some (.lst xs)/\Gz xs.length k=some j/\Q (upd H p (.lst (xs.set j v)))
def RS:Lb X Kr:=by
 intro D s σ H o i v E F u Q I x y z h;obtain⟨p,A,k,j,rfl,rfl,e,B,q⟩:=h;cases x;obtain⟨t,rfl⟩:=y;obtain⟨w,n,r,b,C⟩:=I.lst e;obtain⟨a,G,f,g⟩:=UI B;have c:=r.length;have J:=NH
 have l:Inv X D σ (upd H p (.lst (A.set j v))) {s with heap:=s.heap.update p (Obj.mapSeq (·.setIfInBounds j u))}:=
  I.lstUpd e b (XD w n j u) (r.set z j) (by rw[FL];exact C) s.toks
 by_cases m:0<=k
 have d:k.toNat=j:=by
  rw[seqIndex_of m g] at a;exact B2 a
 exact PySem.W.ki_setAt b m (by lia) (by rw[Cw,<-c];exact g) (by rw[d];exact⟨_,l,q⟩)
 have d:(k+(w.toArray.size:Int)).toNat=j:=by
  rw[seqIndex_neg (by lia) f] at a;rw[Cw,<-c];exact B2 a
 exact PySem.W.ki_setBack b (by lia) (by rw[Cw,<-c];exact f) (by lia) (by rw[d];exact⟨_,l,q⟩)
def XE(lo a:Option Int)(n:Nat):(sliceBounds lo a none n).1=((HT.sIx n 0 lo:Nat):Int)/\(sliceBounds lo a none n).2.1=((HT.sIx n n a:Nat):Int)/\(sliceBounds lo a none n).2.2=1:=by
 refine⟨?_,?_,rfl⟩
 cases lo with
 |none=>simp[sliceBounds,HT.sIx]
 |some i =>
   simp only[sliceBounds,HT.sIx,Option.getD_none,show(1:Int) > 0 by decide,if_true];by_cases h:i<0;simp only[h,if_true]<;>lia;simp only[h,if_false]<;>lia
 cases a with
 |none=>simp[sliceBounds,HT.sIx]
 |some i =>
   simp only[sliceBounds,HT.sIx,Option.getD_none,show(1:Int) > 0 by decide,if_true];by_cases h:i<0;simp only[h,if_true]<;>lia;simp only[h,if_false]<;>lia
def XF(a:List Value)(lo b:Option Int):slicePick a.toArray lo b none=((a.drop (HT.sIx a.length 0 lo)).take (HT.sIx a.length a.length b-HT.sIx a.length 0 lo)).toArray:=by
 obtain⟨c,d,e⟩:=XE lo b a.toArray.size;unfold slicePick;rw[c,d,e];simp only[sliceRange_one,pick_run,Cw]<;>rfl
def RU (K:Ai):V->Option Int->Option Int->Hp->VK->Prop:=λx lo hi H Q=>∃a xs,x=.ref a/\Ag K H a xs/\∀p,H p=none->Q (.ref p) (upd H p (.lst (EN xs lo hi)))
def UJ:RO X (RU X.K):=by
 intro z s σ H x v p t d e u Q I g i j k h;obtain⟨a,c,rfl,l,q⟩:=h;cases g;obtain⟨y,r,f,m⟩:=I.list l;have n:=r.length;refine⟨"list",_,slot_list_getitem.lookup,f.isList.typeIs,?_⟩;refine wpAny_getItem_list_slice f.isList i j k .none (by simp) ?_ (by rw[Cw]<;>lia);rw[XF,<-n];refine⟨.ref s.heap.objs.size,_,I.laid (t':=s.toks) (o:=.lst (EN c d e)) (λb w q=>Bg _ q) (AG _) ?_,rfl,q _ (I.hok.fresh (AG _))⟩;exact⟨DY (XC c d e) m,_,0,(r.drop (HT.sIx c.length 0 d)).take (HT.sIx c.length c.length e-HT.sIx c.length 0 d),Ci _ rfl⟩
def I7:Bn X (.type "list") (λxs H Q=>∃p ys,xs=[.ref p]/\(Ag X.K H p ys\/Ao X.K H p ys)/\∀l,H l=none->Q (.ref l) (upd H l (.lst ys))):=by
 intro y s σ H xs A Q I r h;obtain⟨p,ys,rfl,g,q⟩:=h;obtain⟨u,rfl,x⟩:=F8 r;cases x
 have w:∀(c:List Value),Ax ys c->ys.length<=sizeLine->∀(a:Heap)(d:Nat),(∀b v,s.heap.get? b=some v->a.get? b=some v) ->
  a.get? s.heap.objs.size=some {cls:=.type "list",dict:=none,data:=.seq c.toArray d,slots:=#[]}->EP X y σ Q (.ref s.heap.objs.size) {s with heap:=a}:=λc f i a d j e =>
  ⟨.ref s.heap.objs.size,_,I.laid (t':=s.toks) j (AG _) (show AF X.prog X.w _ a _ (.lst ys) from⟨i,c,d,f,e⟩),rfl,q _ (I.hok.fresh (AG _))⟩
 rcases g with g|g;obtain⟨c,f,k,i⟩:=I.list g;have z:=f.length;obtain⟨o,m,t,n,hd⟩:=k.isList;exact call_list_seq p (.inl rfl) m t hd (λa d j e=>w c f i a d j e) (by simp only[Cw]<;>lia);obtain⟨c,f,k,i⟩:=I.tuple g;have z:=f.length;obtain⟨o,m,t,n,hd⟩:=k;exact call_list_seq p (.inr rfl) m t hd (λa d j e=>w c f i a d j e) (by simp only[Cw]<;>lia)
def XG:Bn X (.type "tuple") (λxs H Q=>∃p ys,xs=[.ref p]/\((Ag X.K H p ys/\∀l,H l=none->Q (.ref l) (upd H l (.tup ys)))\/(Ao X.K H p ys/\Q (.ref p) H))):=by
 intro k s σ H xs v Q I r h;obtain⟨p,ys,rfl,h⟩:=h;obtain⟨u,rfl,m⟩:=F8 r;cases m;rcases h with⟨c,q⟩|⟨c,q⟩;obtain⟨g,d,f,i⟩:=I.list c;have w:=d.length;refine call_tuple_list f.isList (λa n=>?_) (by simp only[Cw]<;>lia);have j:Inv X k σ H {s with heap:=a}:=I.kept (t':=s.toks) n
 have t:Inv X k σ (upd H a.objs.size (.tup ys)) {s with heap:=a.push {cls:=.type "tuple",data:=.seq g.toArray}}:=
  j.laid (t':=s.toks) (λb o e=>Bg _ e) (AG _) (show AF X.prog X.w _ _ _ (.tup ys) from⟨i,g,d,IsTup.new _ _⟩)
 exact⟨.ref a.objs.size,_,t,rfl,q _ (j.hok.fresh (AG _))⟩;obtain⟨g,d,f,i⟩:=I.tuple c;exact call_tuple_same f ⟨.ref p,H,I,rfl,q⟩
def UK (K:Ai) (T:String) (x:V) (H:Hp):Prop:=match x with
 |.str _=>T = "str"
 |.int _=>T = "int"
 |.ref p=>(T = "list" /\ ∃xs,Ag K H p xs)\/(T = "tuple" /\ ∃o,K.lookup p=some o/\o.cls=.type "tuple" /\ o.dict=none) \/
  (T = "dict" /\ ((∃kvs,H p=some (.dK kvs))\/∃kvs,H p=some (.dT kvs)))\/(T = "set" /\ ∃S n,H p=some (.set S n))
 |_=>False
def Ln{pins:List (Addr × Obj)}{σ:St}{H:Hp}{s:Shared}{T:String}{x:V}{v:Value}(I:Inv X pins σ H s)(r:RelV x v)(ty:UK X.K T x H) :
 s.TypeIs v T/\∀a,v=.ref a->∃ob,s.heap.get? a=some ob/\ob.dict=none:=by
 cases x with
 |str z =>
   obtain⟨t,rfl⟩:=r
   cases(show T = "str" from ty)
   exact⟨typeIs_str s z t,λζ e=>nomatch e⟩
 |int i =>
   obtain⟨t,rfl⟩:=r
   cases(show T = "int" from ty)
   exact⟨typeIs_int s i t,λζ e=>nomatch e⟩
 |ref p =>
   cases r;rcases ty with⟨rfl,k,g⟩|⟨rfl,o,b,h,hd⟩|⟨rfl,b⟩|⟨rfl,S,n,b⟩;obtain⟨l,_,f,_⟩:=I.list g;refine⟨f.isList.typeIs,λa e=>?_⟩;cases e;obtain⟨o,n,e,c,hd,_⟩:=f;exact⟨o,e,hd⟩;refine⟨⟨o,I.kIn p o b,h⟩,λa e=>?_⟩;cases e;exact⟨o,I.kIn _ o b,hd⟩
   have z:∃o,s.heap.get? p=some o/\o.ExactDict:=by
    rcases b with⟨j,b⟩|⟨j,b⟩;obtain⟨_,_,_,_,o,_,_,e,ex,_⟩:=I.hok p _ b;exact⟨o,e,ex⟩;obtain⟨_,_,_,_,o,_,_,e,ex,_⟩:=I.hok p _ b;exact⟨o,e,ex⟩
   obtain⟨o,e,ex⟩:=z;refine⟨⟨o,e,ex.1⟩,λa d=>?_⟩;cases d;exact⟨o,e,ex.2.1⟩;obtain⟨o,_,_,_,e,ex,_⟩:=I.hok p _ b;refine⟨⟨o,e,ex.1⟩,λa d=>?_⟩;cases d;exact⟨o,e,ex.2.1⟩
 |_=>exact False.elim ty
def XH (K:Ai) (T:String) (r:V->List V->Hp->VK->Prop) (to:TE) (t:TA):TE:=λσ H Q=>to σ H λx U=>UK K T x U/\t σ U λxs Y=>r x xs Y Q
variable {o e:Expr} {es:List Expr} {to:TE} {t:TA} {name:Str} {apos cpos:Pos} {T id:String} {r:V->List V->Hp->VK->Prop}
def Dj(f:PlainAttrs T)(C:Slot T name id)(B:typeOf (.builtin id)=pure (.type "method_descriptor"))(g:NK X id r)(i:PE X o to)(j:PA X (e::es) t)
 (E:attributeBase o name X.env (eval o X.env)=eval o X.env:=by rfl)
 (D:((backTo cpos (starEach (e::es) X.env)).all (λx=>!x.1) && (backToKw cpos (keywordEach [] X.env)).all (λx=>x.1.isSome)
  && decide ((e::es).length+([]:List Keyword).length+(if([]:List Keyword).isEmpty then 0 else 1)<30))=true:=by rfl)
 (F:(apos.endLine==cpos.line)=true:=by rfl) (k:starEach (e::es) X.env=(false,eval e X.env)::starEach es X.env:=by rfl) (G:(backTo cpos (starEach es X.env)).any (·.1)=false:=by rfl) :
 PE X (.Call (.Attribute o name apos) (e::es) [] cpos) (XH X.K T r to t):=by
 intro a s σ H Q I h;refine wpAny_Call_method_late E D F rfl (AO (i a s σ H _ I h) λv l⟨x,U,b,c,ty,m⟩=>?_);obtain⟨n,p⟩:=Ln b c ty;refine⟨T,id,f,C,B,n,p,?_⟩;have d:=j cpos a l σ U _ b m;rw[k] at d ⊢;refine Calls.callWith_builtin (by show(false || (backTo cpos (starEach es X.env)).any (·.1))=false;rw[G]<;>rfl) (Calls.evalArgs_plain ?_);exact AO d λq u⟨w,Y,y,z,A⟩=>g a u σ Y x w v q Q y c z A
end
def UL (X:Cx) (id:String) (r:V->List V->Hp->VK->Prop):Prop:=
 ∀(pins:B')(s:Shared)(σ:St)(H:Hp)(x:V)(xs:List V)(v:Value)(us:List Value)(Q:VK),Inv X pins σ H s->RelV x v->Ax xs us->r x xs H Q ->
  wpAny (model X.prog X.w) X.A (call (.builtin id) (v::us)) (EP X pins σ Q) X.xe s
theorem Ax.one:∀{x:V}{a:List Value},Ax [x] a->∃u,a=[u]/\RelV x u
 |_,_,.cons r .nil=>⟨_,rfl,r⟩
section
variable {X:Cx} {pins:B'} {σ:St} {H:Hp} {s:Shared} {l b:Addr} {xs ys zs:List V}
def Inv.lset{a its':List Value}{f:Array Value->Array Value}{t':Nat}(I:Inv X pins σ H s)(b:H l=some (.lst xs))
 (e:s.heap.get? l=some {cls:=.type "list",data:=.seq a.toArray n}) (c:f a.toArray=its'.toArray) (hv:Ax ys its') (hz:ys.length<=sizeLine) :
 Inv X pins σ (upd H l (.lst ys)) {s with heap:=s.heap.update l (Obj.mapSeq f),toks:=t'}:=by
 have q:=PySem.IsL.update e f;rw[c] at q;refine I.write (x:=l) (e:=l) (by rw[b];exact trivial) (.inl rfl) (λh u d g=>(Heap.get?_update_other s.heap (Obj.mapSeq f) (Ne.symm d)).trans g) ⟨_,q⟩ ?_;exact⟨hz,its',_,hv,q⟩
def Inv.lnew{a:List Value}{t':Nat}(I:Inv X pins σ H s)(hv:Ax ys a)(hz:ys.length<=sizeLine) :
 Inv X pins σ (upd H s.heap.objs.size (.lst ys)) {s with heap:=s.heap.push {cls:=.type "list",data:=.seq a.toArray},toks:=t'}:=
 I.laid (λζ ζ q=>Bg _ q) (AG _) ⟨hz,a,0,hv,Ci _ rfl⟩
def Inv.fresh(I:Inv X pins σ H s):H s.heap.objs.size=none:=I.hok.fresh (AG _)
def Inv.lstM(I:Inv X pins σ H s)(b:H l=some (.lst xs)):xs.length<=sizeLine/\∃(a:List Value)(n:Nat),Ax xs a/\xs.length=a.length/\s.heap.get? l=some {cls:=.type "list",data:=.seq a.toArray n}:=by
 obtain⟨z,a,n,r,e⟩:=I.hok l _ b;exact⟨z,a,n,r,r.length,e⟩
def XI(h:n<=sizeLine):Builtin.List.listTooLong n=false:=by
 unfold Builtin.List.listTooLong;exact El (by lia)
end
section
variable {X:Cx}
def UM:V->List V->Hp->VK->Prop:=λx vs H Q=>mA x vs λl xs y=>H l=some (.lst xs)/\xs.length<sizeLine/\Q .non (upd H l (.lst (xs++[y])))
theorem UN:UL X "list.append" UM:=by
 intro o s σ H x g v i Q I c d h
 replace h:=mA.ex h
 obtain⟨l,j,y,rfl,rfl,a,k,q⟩:=h;cases c;obtain⟨u,rfl,f⟩:=d.one;obtain⟨z,b,n,r,m,e⟩:=I.lstM a;refine call_meets F.slot_list_append ⟨_,e,rfl⟩ F.entry_list_append (F.args_list_append_2 _ _) (PySem.list_append l b.toArray n u (by rw[Cw];lia)) ⟨e,?_⟩;refine⟨.non,_,I.lset (its':=b++[u]) a e (by simp) (r.append (.cons f .nil)) ?_,rfl,q⟩;rw[AQ,Ec];lia
def UO:V->List V->Hp->VK->Prop:=λx vs H Q=>∃l b xs zs,x=.ref l/\vs=[.ref b]/\H l=some (.lst xs)/\H b=some (.lst zs)/\xs.length+zs.length<=sizeLine/\Q .non (upd H l (.lst (xs++zs)))
theorem XJ:UL X "list.extend" UO:=by
 intro J s σ H x w v y Q I f g h;obtain⟨l,b,A,B,rfl,rfl,d,i,C,q⟩:=h;cases f;obtain⟨u,rfl,j⟩:=g.one;cases j;obtain⟨z,a,n,r,D,e⟩:=I.lstM d;obtain⟨E,c,k,m,G,o⟩:=I.lstM i;have p:a.toArray.size+c.toArray.size<=sizeLine:=by rw[Cw,Cw];lia
 have t:¬(!a.toArray.isEmpty && Builtin.List.listTooLong (a.toArray.size+c.toArray.size))=true:=by
  rw[XI p,Bool.and_false];exact C3
 refine call_meets F.slot_list_extend ⟨_,e,rfl⟩ F.entry_list_extend (F.args_list_extend_2 _ _)
  (AutoSeq1.list_extend_list_list_0 l a.toArray n b c.toArray k t (by rw[Cw];lia) (by lia)) ⟨e,o,?_⟩
 refine⟨.non,_,I.lset (its':=a++c) d e (by simp) (r.append m) ?_,rfl,q⟩;rw[AQ];lia
def RV:R2:=λx y H Q=>∃l b xs zs,x=.ref l/\y=.ref b/\H l=some (.lst xs)/\H b=some (.lst zs)/\xs.length+zs.length<=sizeLine/\∀p,H p=none->Q (.ref p) (upd H p (.lst (xs++zs)))
def Pe:DG X (binaryOp .Add) RV:=by
 intro D s σ H x y v u Q I d f h;obtain⟨l,b,o,p,rfl,rfl,g,i,t,q⟩:=h;cases d;cases f;obtain⟨z,a,n,r,w,e⟩:=I.lstM g;obtain⟨A,c,B,j,C,k⟩:=I.lstM i;refine PySem.P.add_list e k ?_ (by rw[Cw,Cw];lia);have m:a.toArray++c.toArray=(a++c).toArray:=(by simp);rw[m];exact⟨.ref _,_,I.lnew (t':=s.toks) (r.append j) (by rw[AQ];lia),rfl,q _ I.fresh⟩
end
section
variable {prog:Program} {w:World} {A:Around} {E:D'} {s:Shared}
end
section
variable {X:Cx}
end
section
variable {κ:Type} [DecidableEq κ]
def A0 (kvs:List (κ×V)) (k:κ):Option V:=(kvs.find? λkv=>decide (kv.1=k)).map (·.2)
def Cg (kvs:List (κ×V)) (k:κ) (v:V):List (κ×V):=
 if(kvs.any λkv=>decide (kv.1=k))=true then kvs.map (λkv=>if kv.1=k then(kv.1,v) else kv) else kvs++[(k,v)]
def G3{p:κ×V}{r:List (κ×V)}{k:κ}(e:p.1=k):A0 (p::r) k=some p.2:=by simp[A0,My,e]
def G4{p:κ×V}{r:List (κ×V)}{k:κ}(e:¬p.1=k):A0 (p::r) k=A0 r k:=by simp[A0,My,e]
theorem NO(k:κ):∀a:List (κ×V),(a.any λb=>decide (b.1=k))=(A0 a k).isSome
 |[]=>rfl
 |p::r=>by
   rw[List.any_cons];by_cases e:p.1=k;simp only[G3 e,A7 e,Bool.true_or,Option.isSome_some];rw[G4 e,El e,Bool.false_or];exact NO k r
theorem UP(k j:κ)(y:V):∀c:List (κ×V),A0 (c.map λa=>if a.1=k then(a.1,y) else a) j=(A0 c j).map λx=>if j=k then y else x
 |[]=>rfl
 |p::r=>by
   have b:=UP k j y r;rw[E3];by_cases h:p.1=k;rw[An h];by_cases e:p.1=j;rw[G3 (p:=(p.1,y)) e,G3 e,Option.map_some,An (e.symm.trans h)];rw[G4 (p:=(p.1,y)) e,G4 e,b];rw[Al h];by_cases e:p.1=j;rw[G3 (p:=p) e,G3 e,Option.map_some,Al (λz=>h (e.trans z))];rw[G4 (p:=p) e,G4 e,b]
theorem UQ(k j:κ)(y:V):∀b:List (κ×V),A0 b k=none->A0 (b++[(k,y)]) j=if j=k then some y else A0 b j
 |[],_=>by
   by_cases e:k=j;rw[An e.symm];exact G3 (p:=(k,y)) e;rw[Al (λz=>e z.symm)];exact G4 (p:=(k,y)) e
 |p::r,a=>by
   rw[List.cons_append];have c:¬p.1=k:=λz=>by rw[G3 z] at a;cases a
   rw[G4 c] at a;have d:=UQ k j y r a;by_cases e:p.1=j;rw[G3 e,G3 e,Al (λz=>c (e.trans z))];rw[G4 e,G4 e,d]
def XM(b:List (κ×V))(k j:κ)(y:V):A0 (Cg b k y) j=if j=k then some y else A0 b j:=by
 unfold Cg;by_cases a:(b.any λc=>decide (c.1=k))=true;rw[An a,UP];rw[NO] at a;by_cases e:j=k;obtain⟨x,d⟩:=Option.isSome_iff_exists.mp a;rw[An e,e,d,Option.map_some,An rfl];rw[Al e]
 cases A0 b j with
 |none=>rfl
 |some x=>rw[Option.map_some,Al e]
 rw[Al a];refine UQ k j y b ?_;rw[NO] at a
 cases q:A0 b k with
 |none=>rfl
 |some x=>rw[q] at a;exact(a rfl).elim
def UR(a:List (κ×V))(k:κ)(v:V):(Cg a k v).length<=a.length+1:=by
 unfold Cg;split;rw[Aj];lia;rw[AQ,Er,GK];lia
def Ee.isSome_eq{o:Option V}{u:Option Value}(r:Ee o u):o.isSome=u.isSome:=by
 cases o with
 |none=>cases u with
   |none=>rfl
   |some _=>exact(show False from r).elim
 |some _=>cases u with
   |none=>exact(show False from r).elim
   |some _=>rfl
def Ee.getD{o:Option V}{u:Option Value}{d:V}{d':Value}(r:Ee o u)(a:RelV d d'):RelV (o.getD d) (u.getD d'):=by
 cases o with
 |none=>cases u with
   |none=>exact a
   |some _=>exact(show False from r).elim
 |some _=>cases u with
   |none=>exact(show False from r).elim
   |some _=>exact r
def KV.val{f:List (κ×V)}{vs:List (κ×Value)}(r:KV f vs)(k:κ):Ee (A0 f k) (valueAt vs k):=by
 unfold KV at r
 induction r with
 |nil=>exact True.intro
 |@cons p q j a h t g =>
   obtain⟨d,i⟩:=h;by_cases e:p.1=k;have c:q.1=k:=d.symm.trans e;have b:valueAt (q::a) k=some q.2:=(by simp[valueAt,My,c]);rw[G3 e,b];exact i;have c:¬q.1=k:=λz=>e (d.trans z);have b:valueAt (q::a) k=valueAt a k:=(by simp[valueAt,My,c]);rw[G4 e,b];exact g
end
variable {w:World}{u:Value}
def Pf{P:Program}{k:Bp}(r:RelV (kV k) u):(FE P w).is k u=true:=by
 cases k with
 |inl i=>obtain⟨t,e⟩:=(show ∃t,u=Value.int i t from r);subst e;exact Xh P w i t
 |inr x=>obtain⟨t,e⟩:=(show ∃t,u=Value.str x t from r);subst e;exact Xi P w x t
theorem US{P:Program}{w:World}:∀{ks:List Bp}{a:List Value},Ax (ks.map kV) a->ItemsAre (FE P w) ks a
 |[],_,r=>by rw[Nd] at r;cases r;exact .nil
 |k::ks,_,r=>by
   rw[E3] at r
   cases r with
   |cons h t=>exact .cons (Pf h) (US t)
abbrev KT (H:Hp):List (List Bp×V)->List (List Bp×Addr×Value)->Prop:=Paired λp q=>p.1=q.1/\H q.2.1=some (.tup (p.1.map kV))/\RelV p.2 q.2.2
variable {H:Hp}{kvs:List (List Bp×V)}{xs:List (List Bp×Addr×Value)}
def KT.val(r:KT H kvs xs)(k:List Bp):Ee (A0 kvs k) ((atKey xs k).map (·.2)):=by
 induction r with
 |nil=>exact True.intro
 |@cons p q i a h t f =>
   obtain⟨d,_,g⟩:=h;by_cases e:p.1=k;have c:q.1=k:=d.symm.trans e;have b:atKey (q::a) k=some q.2:=(by simp[atKey,My,c]);rw[G3 e,b];exact g;have c:¬q.1=k:=λz=>e (d.trans z);have b:atKey (q::a) k=atKey a k:=(by simp[atKey,My,c]);rw[G4 e,b];exact f
variable {y:V}
def KT.repl(r:KT H kvs xs)(k:List Bp)(d:RelV y u) :
 KT H (kvs.map λb=>if b.1=k then(b.1,y) else b) (xs.map (putAt k u)):=by
 induction r with
 |nil=>exact .nil
 |@cons p q i j h t f =>
   rw[E3,E3];refine .cons ?_ f;obtain⟨a,c,g⟩:=h;unfold putAt;by_cases e:p.1=k;rw[An e,An (a.symm.trans e)];exact⟨a,c,d⟩;rw[Al e,Al (λz=>e (a.trans z))];exact⟨a,c,g⟩
def KT.put(r:KT H kvs xs)(k:List Bp){b:Addr}(c:H b=some (.tup (k.map kV)))(a:RelV y u) :
 KT H (Cg kvs k y) (storedH xs k b u):=by
 have e:(kvs.any λd=>decide (d.1=k))=(atKey xs k).isSome:=by
  rw[NO,(r.val k).isSome_eq,Option.isSome_map]
 unfold Cg storedH;rw[e];by_cases q:(atKey xs k).isSome=true;rw[An q,An q];exact r.repl k a;rw[Al q,Al q];exact Paired.snoc r ⟨rfl,c,a⟩
def KT.keeps{H':Hp}(r:KT H kvs xs)(a:∀b ys,H b=some (.tup ys)->H' b=some (.tup ys)):KT H' kvs xs:=
 Paired.mapP r λζ ζ z=>⟨z.1,a _ _ z.2.1,z.2.2⟩
section
variable {P:Program} {w:World} {H:Hp} {h:Heap} {a:Addr}
def Ho{u:HO}(ok:C4 P w H h)(e:Rd H a u):AF P w H h a u:=e.ok ok
def NP{kvs:List (Bp×V)}(ok:C4 P w H h)(e:Rd H a (.dK kvs)):kvs.length<=sizeLine/\(a==sysModules)=false/\∃vs,KV kvs vs/\h.DictOf (FE P w) a vs:=
 show AF P w H h a (.dK kvs) from Ho ok e
def MG{ks:List Bp}(ok:C4 P w H h)(e:H a=some (.tup (ks.map kV))):(tupleKind (FE P w)).is h ks a:=by
 obtain⟨_,f,r,o,b,c,n,d⟩:=(show AF P w H h a (.tup (ks.map kV)) from ok a _ e);exact⟨o,f.toArray,n,b,c,d,by simpa using US r⟩
def MH(ok:C4 P w H h)(e:Rd H a (.dT kvs)):kvs.length<=sizeLine/\(a==sysModules)=false /\
 ∃xs,KT H kvs xs/\h.DictOfH (tupleKind (FE P w)) a xs:=by
 obtain⟨z,y,xs,r,o,d,f,g,i,j,k,n⟩:=(show AF P w H h a (.dT kvs) from Ho ok e);refine⟨z,y,xs,r,o,d,f,g,i,j,k,λx b=>?_,n⟩
 have all:∀{l:List (List Bp × V)}{m:List (List Bp × Addr × Value)},KT H l m -> ∀x∈m,(tupleKind (FE P w)).is h x.1 x.2.1:=by
  intro l m q
  induction q with
  |nil=>intro x b;exact nomatch b
  |@cons p q u v c t s =>
    intro x b;rcases BO.mp b with e|b;subst e;exact MG ok (by rw[<-c.1];exact c.2.1);exact s x b
 exact all r x b
def Ks(ok:C4 P w H h)(e:H a=some (.dT kvs)):kvs.length<=sizeLine/\(a==sysModules)=false /\
 ∃xs,KT H kvs xs/\h.DictOfH (tupleKind (FE P w)) a xs:=MH ok (.inl e)
end
def EO (H:Hp) (a:Addr) (y:V) (r:Option V):Prop:=
 (∃kvs k,Rd H a (.dK kvs)/\y=kV k/\r=A0 kvs k)\/∃kvs k b,Rd H a (.dT kvs)/\y=.ref b/\H b=some (.tup (k.map kV))/\r=A0 kvs k
variable {a:Addr}
def EO.t{b:Addr}{k:List Bp}(e:H a=some (.dT kvs))(c:H b=some (.tup (k.map kV))):EO H a (.ref b) (A0 kvs k):=.inr ⟨kvs,k,b,.inl e,rfl,c,rfl⟩
section
variable {X:Cx} {pins:B'} {σ:St} {H:Hp} {s:Shared} {a:Addr} {y v:V} {u r:Value} {o:Option V} {A:Around} {E:D'}
def Inv.big(I:Inv X pins σ H s):sysModules<s.heap.objs.size:=by
 have h:mainGlobals<s.heap.objs.size:=(I.mod.glob.keeps I.bk).lt;exact Nat.lt_trans (by decide) h
def XN{Q:D'}(q:A.units+1<cLine)(I:Inv X pins σ H s)(g:EO H a y (some v))(n:RelV y u)(h:∀c Z,Inv X pins σ H Z->RelV v c->Q c Z) :
 wpAny (model X.prog X.w) A (getItem (.ref a) u) Q E s:=by
 rcases g with⟨kvs,k,e,d,l⟩|⟨kvs,k,b,e,d,r,l⟩;subst d;obtain⟨z,hd,t,j,f⟩:=NP I.hok e;obtain⟨c,i,m⟩:=Ee.some_of (v:=v) (o:=valueAt t k) (by rw[l];exact j.val k);exact wpAny_getItem_of (Pf n) f.mapOf i (h c _ (I.tok _) m);subst d
 cases(show u=Value.ref b from n);obtain⟨z,hd,xs,j,f⟩:=MH I.hok e;obtain⟨c,i,m⟩:=Ee.some_of (v:=v) (o:=(atKey xs k).map (·.2)) (by rw[l];exact j.val k);obtain⟨p,w,x⟩:=F6.mp i;refine wpAny_getItem_heap (tupleKind_room_in1 q) (MG I.hok r) f w ?_;rw[x];exact h c _ (I.tok _) m
def RW{Q:D'}(j:A.units+1<cLine)(I:Inv X pins σ H s)(g:EO H a y o)(i:RelV y u)(h:∀Z,Inv X pins σ H Z->Q (.bool o.isSome) Z) :
 wpAny (model X.prog X.w) A (compareOp .In u (.ref a)) Q E s:=by
 rcases g with⟨kvs,k,e,c,l⟩|⟨kvs,k,b,e,c,m,l⟩;subst c;obtain⟨z,hd,n,f,d⟩:=NP I.hok e;refine wpAny_in_of (Pf i) hd d.mapOf ?_;rw[<-(f.val k).isSome_eq,<-l];exact h _ (I.tok _);subst c
 cases(show u=Value.ref b from i);obtain⟨z,hd,xs,f,d⟩:=MH I.hok e;refine wpAny_in_heap (tupleKind_room_in1 j) (MG I.hok m) hd d ?_;have q:=(f.val k).isSome_eq;rw[Option.isSome_map] at q;rw[<-q,<-l];exact h _ (I.tok _)
def UT{h':Heap}{t':Nat}{ob:HO}(I:Inv X pins σ H s)(c:Nj (H a))(d:Heap.SameBut a s.heap h')(f:∃q,h'.get? a=some q)(h:AF X.prog X.w (upd H a ob) h' a ob) :
 Inv X pins σ (upd H a ob) {s with heap:=h',toks:=t'}:=
 I.write (x:=a) (e:=a) c (.inl rfl) (λb q g z=>(d.2 b g).trans z) f h
end
section
variable {X:Cx} {pins:B'} {σ:St} {H:Hp} {s:Shared} {a:Addr} {kvs:List (Bp×V)} {k:Bp} {u:Value} {A:Around} {E:D'}
end
def NQ (i:Expr):Prop:=∀ov iv,subscripted i false ov iv=operate [ov,iv] (getItem ov iv)
variable {s:Shared}
def Ja{prog:Program}{A:Around}{E:D'}{env:Env}{d slice:Expr}{L:Pos}{T id:String}{Q:D'}
 (j:typeLookup (.type T) "__getitem__" = pure (some (.builtin id))) (k:NQ slice)
 (h:wpAny (model prog w) A (eval d env) (λo e=>wpAny (model prog w) A (eval slice env) (λi a=>a.TypeIs o T/\wpAny (model prog w) A (getItem o i) Q E a) E e) E s) :
 wpAny (model prog w) A (eval (.Subscript d slice L) env) Q E s:=by
 refine Subscript_ (FP h (λo e l=>FP l (λi a b=>?_) λζ ζ x=>x) λζ ζ x=>x);obtain⟨f,b⟩:=b;unfold subscriptTail;refine Ad ?_;rw[getitemInPython_of_ne f.not_modules];refine Ad (wpAny_specialOf f j ?_)
 have c:wpAny (model prog w) A (subscripted slice false o i) (λr g=>wpAny (model prog w) A (letTemporaryGo d o r >>= λζ=>pure r) Q E g) E a:=by
  rw[k o i];exact wpAny_operating (FP b (λr g m=>Ad (wpAny_letTemporaryGo (AB m))) λζ ζ x=>x)
 first
  |exact AB (Ad c)
  |exact Ad (AB (Ad c))
  |exact Ad c
def XO{X:Cx}{pins:B'}{σ:St}{o:Option V}(I:Inv X pins σ H s)(g:EO H a y o):s.TypeIs (.ref a) "dict" :=by
 rcases g with⟨kvs,k,e,_,_⟩|⟨kvs,k,b,e,_,_,_⟩;obtain⟨_,_,d,_,c⟩:=NP I.hok e;exact c.typeIs;obtain⟨_,_,xs,_,c⟩:=MH I.hok e;exact c.typeIs
def NR (l ty:TE):TE:=λσ H Q=>l σ H λx U=>ty σ U λy Y=>∃a v,x=.ref a/\EO Y a y (some v)/\Q v Y
section
variable {X:Cx} {o i e d:Expr} {L t r:Pos} {l ty tv:TE}
def Jb(d:X.A.units+1<cLine)(e:PE X o l)(f:PE X i ty)(j:NQ i):PE X (.Subscript o i L) (NR l ty):=by
 intro c s σ H Q I h;refine Ja PySem.F.slot_dict_getitem.lookup j (AO (e c s σ H _ I h) λu k⟨x,U,m,n,p⟩=>AO (f c k σ U _ m p) λz A⟨y,Y,b,q,a,v,ex,g,r⟩=>?_);subst ex;obtain rfl:u=Value.ref a:=n;exact⟨XO b g,XN d b g q λB C t w=>⟨v,Y,t,w,r⟩⟩
end
def UU{P:Program}(h:Heap)(a:sysModules<h.objs.size):AF P w H (h.push {cls:=.type "dict",data:=.dict #[]}) h.objs.size (.dT []):=
 ⟨Df _,beq_eq_false_iff_ne.mpr (Ne.symm (CO a)),[],.nil,_,#[],0,Ci _ rfl,⟨rfl,rfl,rfl⟩,rfl,rfl,List.nodup_nil⟩
def Lo:TE:=λζ H Q=>∀p,H p=none->Q (.ref p) (upd H p (.dT []))
section
variable {X:Cx} {L:Pos}
def RX:PE X (.Dict [] [] L) Lo:=λb s σ H Q I h =>
 wpAny_Dict_empty ⟨.ref s.heap.objs.size,_,I.laid (a:=s.heap.objs.size) (o:=.dT []) (t':=s.toks) (λζ ζ q=>Bg _ q) (AG _) (UU s.heap I.big),rfl,h _ (I.hok.fresh (AG _))⟩
end
structure M2 (X:Cx) (o:Expr) (m:Str) (apos:Pos) (e f:Expr) (cpos:Pos):Prop where
 base:attributeBase o m X.env (eval o X.env)=eval o X.env
 few:((backTo cpos (starEach [e,f] X.env)).all (λx=>!x.1) && (backToKw cpos (keywordEach [] X.env)).all (λx=>x.1.isSome)
  && decide (([e,f]:List Expr).length+([]:List Keyword).length+(if([]:List Keyword).isEmpty then 0 else 1)<30))=true
 line:(apos.endLine==cpos.line)=true
 trees:backTo cpos (starEach [e,f] X.env)=[(false,eval e X.env),(false,eval f X.env)]
def UV (H:Hp) (a:Addr):Prop:=(∃kvs,Rd H a (.dK kvs))\/∃kvs,Rd H a (.dT kvs)
def Lp{X:Cx}{pins:B'}{σ:St}(I:Inv X pins σ H s)(d:UV H a) :
 s.TypeIs (.ref a) "dict" /\ (∀b,Value.ref a=.ref b->∃ob,s.heap.get? b=some ob/\ob.dict=none)/\(a==sysModules)=false:=by
 rcases d with⟨kvs,e⟩|⟨kvs,e⟩;obtain⟨_,hd,h,_,c⟩:=NP I.hok e;refine⟨c.typeIs,λb q=>?_,hd⟩;cases q;obtain⟨ob,_,_,f,g,_⟩:=c;exact⟨ob,f,g.2.1⟩;obtain⟨_,hd,xs,_,c⟩:=MH I.hok e;refine⟨c.typeIs,λb q=>?_,hd⟩;cases q;obtain⟨ob,_,_,f,g,_⟩:=c;exact⟨ob,f,g.2.1⟩
section
variable {X:Cx} {pins:B'} {σ:St} {H:Hp} {s:Shared} {a:Addr} {y d:V} {u r:Value} {o:Option V} {A:Around} {E:D'}
def Lq{Q:D'}(p:A.units+1<cLine)(I:Inv X pins σ H s)(g:EO H a y o)(j:RelV y u)(m:RelV d r)(h:∀n Z,Inv X pins σ H Z->RelV (o.getD d) n->Q n Z) :
 wpAny (model X.prog X.w) A (call (.builtin "dict.get") [.ref a,u,r]) Q E s:=by
 rcases g with⟨kvs,k,e,f,l⟩|⟨kvs,k,b,e,f,q,l⟩;subst f;obtain⟨z,hd,t,i,c⟩:=NP I.hok e;refine call_meetsIn PySem.F.slot_dict_get c.typeIs PySem.F.entry_dict_get (PySem.F.args_dict_get_3 _ _ _) (meets_dict_get_default (FE X.prog X.w) a (Pf j) hd r) ⟨_,c.mapOf,h _ _ (I.tok _) ?_⟩;rw[l];exact(i.val k).getD m;subst f
 cases(show u=Value.ref b from j);obtain⟨z,hd,xs,i,c⟩:=MH I.hok e;refine call_meetsIn PySem.F.slot_dict_get c.typeIs PySem.F.entry_dict_get (PySem.F.args_dict_get_3 _ _ _) (meetsH_dict_get_default (tupleKind (FE X.prog X.w)) a b hd r) ⟨tupleKind_room_in1 p,k,xs,MG I.hok q,c,h _ _ (I.tok _) ?_⟩;rw[l];exact(i.val k).getD m
end
def Lr (l ty tx:TE):TE:=λσ H Q=>l σ H λx U=>∃a,x=.ref a/\UV U a/\ty σ U λy Y=>tx σ Y λz H3=>∃o,EO H3 a y o/\Q (o.getD z) H3
section
variable {X:Cx} {o e f:Expr} {apos cpos:Pos} {l ty tx:TE}
def XQ(i:X.A.units+1<cLine)(j:PE X o l)(k:PE X e ty)(n:PE X f tx)(m:M2 X o "get" apos e f cpos):PE X (.Call (.Attribute o "get" apos) [e,f] [] cpos) (Lr l ty tx):=by
 intro b s σ H Q I h;refine wpAny_Call_method m.base m.few m.line PySem.F.plainAttrs_dict PySem.F.slot_dict_get PySem.F.type_dict_get (AO (j b s σ H _ I h) λu p⟨x,U,c,q,a,ex,d,r⟩=>?_);subst ex;obtain rfl:u=Value.ref a:=q;obtain⟨t,v,_⟩:=Lp c d;refine⟨t,v,?_⟩;rw[m.trees]
 refine Calls.callWith_builtin rfl (Calls.evalArgs_plain (Calls.spliced_cons (AO (k b p σ U _ c r) λL w⟨y,Y,A,B,C⟩ =>
  Calls.spliced_cons (AO (n b w σ Y _ A C) λM N⟨z,D,E,F,O,g,G⟩=>Calls.spliced_nil ?_))))
 exact Lq i E g B F λP R J K=>⟨_,D,J,K,G⟩
end
section
variable {X:Cx} {pins:B'} {σ:St} {H:Hp} {s:Shared} {a:Addr} {kvs:List (Bp×V)} {A:Around} {E:D'}
end
section
variable {X:Cx} {pins:B'} {σ:St} {H:Hp} {s:Shared} {a:Addr} {y:V} {u:Value} {A:Around} {E:D'}
end
end L2
namespace Att
open PySem PySem.W PySem.Calls PyProof.Rows
def XR{P:Params}{h:Heap}:∀(ns:List Int)(vs:List Value),WellAll P h vs (ns.map WData.int)->IntsAre vs ns:=by
 intro ns
 induction ns with
 |nil =>
   intro vs w;rw[Nd] at w;cases w;exact .nil
 |cons n ns c =>
   intro vs w;rw[E3] at w
   cases w with
   |cons a b =>
     cases a;exact .cons _ _ (c _ b)
def XS{l:OpenLaw}{n:Nat}(i:l.most=some n){P:Params}{h:Heap}{args:List WData}{f:List Value}
 (g:l.row.toRowW.claim.pre args=true) (u:WellAll P h f args) :
 ∃a vs ns,f=[Value.ref a]/\args=[WData.list (ns.map WData.int)]/\h.get? a=some {cls:=.type "list",data:=.seq vs.toArray}/\IntsAre vs ns/\ns.length<=n:=by
 have v:WShape.hasAll [] args [.list .int]=true:=(pre_splitW g).1;have e:l.pre.holds [] {args:=args}=true:=(pre_splitW g).2;obtain⟨d,r,rfl,j,k⟩:=hasAllW_cons v;obtain rfl:=hasAllW_nil k;obtain⟨y,rfl,m⟩:=hasW_list j;obtain⟨ns,rfl⟩:=items_int m
 have w:ns.length<=n:=by
  unfold OpenLaw.pre at e
  have b:(WTm.not (.lt (.lit (.int (n:Int))) (.len (.arg 0)))).holds [] {args:=[.list (ns.map .int)]}=true:=by
   have b:=(holds_andW e).1;rw[i] at b;exact b
  have c:=condW_of b (w_not (w_lt w_lit (w_len_list (w_arg rfl))));rw[Aj] at c;refine Nat.le_of_not_lt λq=>?_;have o:(n:Int)<((ns.length:Nat):Int):=(by lia)
  first
   |(rw[A7 o] at c;exact absurd c (by decide))
   |(simp at c;lia)
 cases u with
 |cons p s =>
   cases s
   cases p with
   |list t x=>exact⟨_,_,ns,rfl,rfl,t,XR ns _ x,w⟩
def XT(l:OpenLaw)(args:List WData):l.row.toRowW.claim.post args (.bool true) args=true:=
 postW_of (r:=l.row.toRowW) (X:=(true==true))
  (show WShape.has [] (.bool true) .bool=true by first|rfl|decide|simp[WShape.has,WShape.arms,WShape.armsAll])
  (show(WTm.eq .res (.lit (.bool true))).value [] {args:=args,res:=some (.bool true),after:=args}=some (.bool (true==true)) from w_eq_bool (w_res rfl) w_lit) rfl
def attach_call{l:OpenLaw}{n:Nat}{q:Program}{loose:List Str}{XP:(Str->Option Value)->Heap->Prop}{YP:World->Heap->Prop}{d:DefRec}
 (p:l.most=some n) (B:d.params.defaults=[])
 (call:∀(w:World)(h b:Shared)(e i:Str->Option Value)(c:Addr)(o:Obj)(j g k:Value)(a:Addr)(vs:List Value)(ns:List Int),
  Ground q loose [] XP w h e i b.heap->YP w b.heap ->
  b.heap.get? c=some o->o.data=.func (docDef d.name d.params d.body d.scope j g k)->b.heap.CodeRec g d.name->e d.name=some (.ref c) ->
  b.heap.get? a=some {cls:=.type "list",data:=.seq vs.toArray}->IntsAre vs ns->ns.length<=n->b.gens=#[] ->
  codeAny (model l.prog w) callerA (.call (.ref c) ⟨[.ref a],[]⟩) (λr Z=>r=.ok (.ret (.bool true))/\OldK b.heap Z.heap/\Z.os=b.os/\AllBare Z.gens) b) :
 WalkO q loose XP YP l.row.toRowW d [] (λf vs=>PySem.call f vs):=by
 intro w h b e i G Y c o j g k s kV t hd C m D u N O K F P L E M;obtain rfl:s=.none:=Dflts.none m B;obtain rfl:kV=.none:=Dflts.noKw m;obtain⟨a,vs,ns,rfl,rfl,H,J,I⟩:=XS p F E;refine enter_call (codeAny_mono (call w h b e i c o j g k a vs ns G Y t (fd_plain hd) C D H J I u) λr Z v=>?_);obtain⟨rfl,x,y,z⟩:=v;exact⟨.inl ⟨.bool true,.bool true,[],rfl,λζ=>rfl,.bool true,XT l _,λζ=>⟨List.Pairwise.nil,λζ A=>(nomatch A)⟩⟩,x,y,z⟩
section
variable {prog:Program} {w:World} {A:Around} {E:D'} {s:Shared} {K:Frag}
end
end Att
namespace L2
open PySem PySem.Spec PyProof.Rows
theorem RY:∀{vs:List Value}{ns:List Int},IntsAre vs ns->Ax (ns.map V.int) vs
 |_,_,.nil=>.nil
 |_,_,.cons n t h=>.cons ⟨t,rfl⟩ (RY h)
def Ls (H:Hp):Prop:=∀b,H b=none\/∃o xs,H b=some (.frz o (.lst xs))
variable {P:Program}{w:World}{k:Nat}{a:Addr}{fd:FuncData}{x:Str}
def XU {K:Ai} {g y:Str->Option Value} {CX:Hl} {A:Addr} {sp:Sp} {c:Shared} {vs:List Value} {ns:List Int}
 (E:K.In c.heap) (O:c.heap.Ns mainGlobals g) (f:c.heap.Ns builtinsNs y) (ab:∀x:Str,x ≠ "__name__" -> y x=bootBuiltins x) (ah:c.heap.NoLimit) (U:c.gens=#[])
 (p:c.heap.get? a=some {cls:=.type "list",data:=.seq vs.toArray}) (G:IntsAre vs ns) (I:ns.length<=sizeLine) (W:BY k callerA)
 (F:∀D:Heap,K.In D->D.Ns mainGlobals g->Ev P w K g D CX k A fd [x] sp) (al:∀(s:Shared)(u:Value),BindsTo s fd ⟨[u],[]⟩ [(x,u)])
 (ae:∀H:Hp,Ls H->Ag K H a (ns.map V.int)->sp [.ref a] H (λv ζ=>v=.bl true) λζ ζ ζ=>False)
 (af:∀H e Z,CX [] H c (λζ ζ ζ=>False) e Z->False) :
 codeAny (model P w) callerA (.call (.ref A) ⟨[.ref a],[]⟩) (λr Z=>r=.ok (.ret (.bool true))/\OldK c.heap Z.heap/\Z.os=c.os/\AllBare Z.gens) c:=by
 have J:=RY G;have ai:=G.length
 have S:∀ H:Hp,Ls H->Ag K H a (ns.map V.int)->C4 P w H c.heap->(∀ b,H b≠none->b=a)->(H a≠none->K.lookup a=none) ->
  codeAny (model P w) callerA (.call (.ref A) ⟨[.ref a],[]⟩) (λr Z=>r=.ok (.ret (.bool true))/\OldK c.heap Z.heap/\Z.os=c.os/\AllBare Z.gens) c:=by
  intro H L X Q M Y;have T:∀{b:Addr}{o:Obj},c.heap.get? b=some o->H b=none->(Fo c.heap H).get? b=some o:=λe n=>Xk e n
  have ag:∀{b:Addr}{o:Obj}{i:Array DictEntry}{j:Nat},c.heap.get? b=some o->o.data=.dict i j->H b=none:=λ{b o i j}e d=>by
   cases q:H b with
   |none=>rfl
   |some u =>
     have B:b=a:=M b (by rw[q];simp);subst B;rw[p] at e;cases e;have d':Data.seq vs.toArray _=Data.dict i j:=d;cases d'
  have t:∀{b:Addr}{m:Str->Option Value},c.heap.Ns b m->(Fo c.heap H).Ns b m:=λ{b m}⟨o,i,j,e,d,r⟩=>⟨o,i,j,T e (ag e d),d,r⟩
  have R:K.In (Fo c.heap H):=λb o e=>T (E b o e) (by
   cases q:H b with
   |none=>rfl
   |some u =>
     have B:b=a:=M b (by rw[q];simp);subst B
     rw[Y (by rw[q];simp)] at e;cases e)
  have hM:Mod K g (Fo c.heap H):=⟨R,t O,⟨y,t f,ab⟩,let ⟨mc,h1,h2⟩:=ah;⟨mc,t h1,h2⟩⟩;have e0:IV P w K g (Fo c.heap H) callerA [] c H:=⟨rfl,hM,λb o e=>II e,Nat.le_of_eq (Xj _ _),trivial,λb f=>absurd (show b∈([]:List Addr) from f) (by simp),Q,.of_eq U⟩;refine codeAny_mono ((F _ R (t O)).run callerA [] c H ⟨[.ref a],[]⟩ [.ref a] [.ref a] _ _ W e0 (al c (.ref a)) (.cons rfl .nil) (ae H L X)) λr Z h=>?_
  cases r with
  |error e=>exact(af H e Z h).elim
  |ok fl =>
    cases fl with
    |next=>exact False.elim h
    |brk=>exact False.elim h
    |cont=>exact False.elim h
    |ret u =>
      obtain⟨v,H',aa,aj,un,ak,r',q⟩:=h;have q':v=.bl true:=q;subst q';obtain rfl:u=Value.bool true:=r';refine⟨rfl,OldK.of_keep λb o e=>?_,aa,aj⟩
      cases q:H b with
      |none=>exact un.keep b o e q (by intro z;exact absurd (show b∈([]:List Addr) from z) (by simp)) (by simp)
      |some u =>
        rcases L b with z|⟨ob,xs,z⟩;rw[q] at z;cases z;have z2:=un.frzs b ob _ z;obtain⟨N,_⟩:=Q b _ z;obtain⟨e2,_⟩:=ak b _ z2;rw[e] at N;cases N;exact e2
 cases C:K.lookup a with
 |some o =>
   have e:=E a o C;rw[p] at e;cases e;refine S (λζ=>none) (λζ=>.inl rfl) (.inr ⟨_,vs.toArray,_,C,rfl,rfl,rfl,by rw[Cw,ai];exact I,by simpa using J⟩) (λb u z=>by have l:(none:Option HO)=some u:=z;cases l) (λb z=>absurd rfl z) λz=>absurd rfl z
 |none =>
   refine S (λb=>if b=a then some (.frz {cls:=.type "list",data:=.seq vs.toArray} (.lst (ns.map V.int))) else none) (λb=>?_) (.inl (.inr ⟨{cls:=.type "list",data:=.seq vs.toArray},An rfl⟩)) (λb u z=>?_) (λb z=>?_) λζ=>C
   by_cases f:b=a;exact .inr ⟨_,_,An f⟩;exact .inl (Al f);by_cases f:b=a;have l:=(An f).symm.trans z;cases l;subst f;exact⟨p,by rw[Aj];exact I,vs,_,J,p⟩;have l:=(Al f).symm.trans z;cases l;by_cases f:b=a;exact f;exact absurd (Al f) z
variable {n:Nat}
def Jc{l:PySem.W.OpenLaw}{q:Program}{loose:List Str}{XP:(Str->Option Value)->Heap->Prop}{YP:World->Heap->Prop}{d:DefRec}{K:Params->Ai}{CX:World->Hl}{sp:World->Sp}(m:l.most=some n)(D:n<=sizeLine)(E:d.params.defaults=[])(p:BY k callerA)
 (r:∀(w:World)(h:Heap),YP w h->(K w.params).In h)
 (F:∀(w:World)(b:Str->Option Value)(c:Addr)(h:Heap),(K w.params).In h->h.Ns mainGlobals b->b d.name=some (.ref c) ->
  ∃fd:FuncData,(∀(s:Shared)(u:Value),BindsTo s fd ⟨[u],[]⟩ [(x,u)]) /\
   ∀g:Heap,(K w.params).In g->g.Ns mainGlobals b->Ev l.prog w (K w.params) b g (CX w) k c fd [x] (sp w))
 (I:∀(w:World)(H:Hp)(a:Addr)(ns:List Int),ns.length<=n->Ls H->Ag (K w.params) H a (ns.map V.int)->sp w [.ref a] H (λv ζ=>v=.bl true) λζ ζ ζ=>False)
 (J:∀(w:World)(H:Hp)(s:Shared)(e:Value)(Z:Shared),CX w [] H s (λζ ζ ζ=>False) e Z->False) :
 PySem.W.WalkO q loose XP YP l.row.toRowW d [] (λf vs=>PySem.call f vs):=by
 refine Att.attach_call m E λw O t b P c o Q R T a vs ns G Y S hd U L M N j y=>?_;have i:=r w _ Y;obtain⟨fd,z,A⟩:=F w b c _ i G.T.g L;exact XU i G.T.g G.T.b G.T.builtins G.T.nolimit y M N (DY j D) p A z (λH B C=>I w H a ns j B C) λH e Z=>J w H t e Z
abbrev Iq:Hl:=λζ ζ ζ ζ ζ ζ=>False
abbrev E0:XK:=λζ ζ ζ=>False
variable {X:Cx}
def NS:RM Iq X E0:=λζ ζ ζ ζ ζ ζ ζ h=>h.elim
structure Bq (K:Ai) (x qual:Str) (st:Stmt) (f:Addr) (fd:FuncData):Prop where
 ex:∃(oc:Value)(od:Option Addr)(kV doc pm:Value)(an:Option Addr)(cdv ct:Value)(osl:Array (Option Value)),
  fd=PySem.W.fnOf x qual (Kj st) (Io st) (AX st) .none kV doc pm an cdv ct/\K.lookup f=some ⟨oc,od,.func fd,osl⟩/\PySem.W.codeIn K cdv qual=true
 kp:PySem.W.keepIn K (.ref f)=true
section
variable {P:Program} {w:World} {K:Ai} {mg:Str->Option Value} {base:Heap}
variable {qual:Str}{st:Stmt}{f:Addr}
def Bq.ok{N ps:List Str}{sp:Sp}(F:Bq K x qual st f fd)(S:Af N ps (AX st))(len:∀vs H Q E,sp vs H Q E->vs.length=ps.length)
 (i:∀(a:Value)(A:Around)(b:List Env)(s:Shared)(H:Hp)(vs:List V)(Q:VK)(E:XK),BY k (A.deeper (envOfC qual (AX st) s.heap.objs.size f a))->sp vs H Q E ->
  ∃t,Gg (AE Iq P w K mg base N qual (AX st) f a A b s H E).nox (Io st) t/\t {nx:=λζ H'=>Q .non H',rt:=Q} (start N vs) H):Ev P w K mg base Iq (k+1) f fd ps sp:=by
 obtain⟨j,l,kV,p,m,n,a,o,r,rfl,c,e⟩:=F.ex;refine NI c e S len λA b s H vs Q E d g=>?_;obtain⟨t,h,q⟩:=i a A b s H vs Q E d g;exact⟨t,h.nox,q⟩
def Bq.binds{ps:List Str}(F:Bq K x qual st f fd)
 (h:∀(kV d a:Value)(b:Option Addr)(e ct:Value)(c:List Value),c.length=ps.length->bindArgs (PySem.W.fnOf x qual (Kj st) (Io st) (AX st) .none kV d a b e ct) ⟨c,[]⟩=pure (ps.zip c)):Binds K fd ps []:=by
 obtain⟨g,i,kV,d,a,b,e,ct,k,rfl,j,l⟩:=F.ex;exact .all (h kV d a b e ct)
def Hq{g:Value}{h b:Option Addr}{i:Array (Option Value)}{kV e d a ct:Value}(l:K.lookup f=some ⟨g,h,.func (PySem.W.fnOf x qual (Kj st) (Io st) (AX st) .none kV e d b a ct),i⟩)
 (c:PySem.W.codeIn K a qual=true) (k:PySem.W.keepIn K (.ref f)=true):Bq K x qual st f (PySem.W.fnOf x qual (Kj st) (Io st) (AX st) .none kV e d b a ct):=⟨⟨g,h,kV,e,d,b,a,ct,i,rfl,l,c⟩,k⟩
end
variable {A:Around}
def Pg(a:BY k A):A.units+1<cLine:=Nat.lt_of_le_of_lt (Nat.add_le_add_left (by decide:1<=64) _) a.units
def BP(h:n<=1000):n<sizeLine:=Nat.lt_of_le_of_lt h (by decide)
section
variable {X:Cx}
def pv(i:Nat){L:Pos}(a:X.N[i]?=some x:=by rfl)(hv:O6 X.env.scope x:=by first|exact Or.inl rfl|exact Or.inr (Or.inl rfl)|exact Or.inr (Or.inr rfl))(hd:(x==("__debug__" : Str))=false:=by decide)
 (b:(x==("__classdict__" : Str))=false:=by decide):PE X (.Name x L) (Cr i):=K5 a hv hd b
end
variable {B:Prop}
def Bw{A:Prop}(h:B):if false=true then A else B:=by
 rw[Al C3];exact h
def C5{A:Prop}(h:A):if true=true then A else B:=by
 rw[An rfl];exact h
def Ap{c A:Prop} [Decidable c](a:c->A)(b:¬c->B):if c then A else B:=by
 by_cases h:c;rw[An h];exact a h;rw[Al h];exact b h
def Ac (H H':Hp):Prop:=∀b o,H b=some o->H' b=some o
def Ac.refl(H:Hp):Ac H H:=λζ ζ h=>h
variable {H U:Hp}
def Ac.trans{Y:Hp}(a:Ac H U)(b:Ac U Y):Ac H Y:=λc o h=>b c o (a c o h)
variable {H':Hp}
def Ac.free(e:Ac H H'){l:Addr}(h:H' l=Option.none):H l=Option.none:=by
 cases q:H l with
 |none=>rfl
 |some o =>
   rw[e l o q] at h;cases h
variable {xs:List V}
def Ac.seq{K:Ai}(e:Ac H H')(h:Ag K H a xs):Ag K H' a xs:=by
 rcases h with(h|⟨o,h⟩)|h;exact .inl (.inl (e _ _ h));exact .inl (.inr ⟨o,e _ _ h⟩);exact .inr h
section
variable {κ:Type} [DecidableEq κ]
end
inductive Ty where
 |int|bool|str|non|lst|tup|dct
 deriving DecidableEq
def Ty.name:Ty->String
 |.int => "int"|.bool => "bool"|.str => "str"|.non => "NoneType"|.lst => "list"|.tup => "tuple"|.dct => "dict"
inductive Jd (K:Ai) (H:Hp):V->Ty->Prop where
 |int (i:Int):Jd K H (.int i) .int
 |bl (b:Bool):Jd K H (.bl b) .bool
 |str (x:Str):Jd K H (.str x) .str
 |non:Jd K H .non .non
 |lst {a:Addr} {xs:List V} (h:Ag K H a xs):Jd K H (.ref a) .lst
 |tup {a:Addr} {xs:List V} (h:Ao K H a xs):Jd K H (.ref a) .tup
 |dk {a:Addr} {kvs:List (Bp×V)} (h:H a=some (.dK kvs)):Jd K H (.ref a) .dct
def RZ:Ty->Ty->Bool
 |.int,.int=>true|.bool,.bool=>true|.bool,.int=>true|.str,.str=>true|.non,.non=>true|.lst,.lst=>true|.tup,.tup=>true|.dct,.dct=>true|_,_=>false
def R1 (K:Ai):List V->Hp->VK->Prop:=λvs H Q=>∃x T T',vs=[x,.ty (Ty.name T)]/\Jd K H x T'/\Q (.bl (RZ T' T)) H
def Ir:Bn X (.builtin "isinstance") (R1 X.K):=by
 intro F s σ H g w Q I r h;obtain⟨x,T,z,rfl,ty,q⟩:=h;obtain⟨u,j,rfl,c,p⟩:=Kp r;have k:j=Value.type (Ty.name T):=p;subst k
 cases ty with
 |int i =>
   obtain⟨t,rfl⟩:=c
   cases T with
   |int=>exact IsiPair.int_int ⟨.bl true,H,I,rfl,q⟩
   |bool=>exact IsiPair.int_bool ⟨.bl false,H,I.tok _,rfl,q⟩
   |str=>exact IsiPair.int_str ⟨.bl false,H,I.tok _,rfl,q⟩
   |non=>exact IsiPair.int_NoneType ⟨.bl false,H,I.tok _,rfl,q⟩
   |lst=>exact IsiPair.int_list ⟨.bl false,H,I.tok _,rfl,q⟩
   |tup=>exact IsiPair.int_tuple ⟨.bl false,H,I.tok _,rfl,q⟩
   |dct=>exact IsiPair.int_dict ⟨.bl false,H,I.tok _,rfl,q⟩
 |bl b =>
   obtain rfl:u=Value.bool b:=c
   cases T with
   |int=>exact IsiPair.bool_int ⟨.bl true,H,I,rfl,q⟩
   |bool=>exact IsiPair.bool_bool ⟨.bl true,H,I,rfl,q⟩
   |str=>exact IsiPair.bool_str ⟨.bl false,H,I.tok _,rfl,q⟩
   |non=>exact IsiPair.bool_NoneType ⟨.bl false,H,I.tok _,rfl,q⟩
   |lst=>exact IsiPair.bool_list ⟨.bl false,H,I.tok _,rfl,q⟩
   |tup=>exact IsiPair.bool_tuple ⟨.bl false,H,I.tok _,rfl,q⟩
   |dct=>exact IsiPair.bool_dict ⟨.bl false,H,I.tok _,rfl,q⟩
 |str y =>
   obtain⟨t,rfl⟩:=c
   cases T with
   |int=>exact IsiPair.str_int ⟨.bl false,H,I.tok _,rfl,q⟩
   |bool=>exact IsiPair.str_bool ⟨.bl false,H,I.tok _,rfl,q⟩
   |str=>exact IsiPair.str_str ⟨.bl true,H,I,rfl,q⟩
   |non=>exact IsiPair.str_NoneType ⟨.bl false,H,I.tok _,rfl,q⟩
   |lst=>exact IsiPair.str_list ⟨.bl false,H,I.tok _,rfl,q⟩
   |tup=>exact IsiPair.str_tuple ⟨.bl false,H,I.tok _,rfl,q⟩
   |dct=>exact IsiPair.str_dict ⟨.bl false,H,I.tok _,rfl,q⟩
 |non =>
   obtain rfl:u=Value.none:=c
   cases T with
   |int=>exact IsiPair.NoneType_int ⟨.bl false,H,I.tok _,rfl,q⟩
   |bool=>exact IsiPair.NoneType_bool ⟨.bl false,H,I.tok _,rfl,q⟩
   |str=>exact IsiPair.NoneType_str ⟨.bl false,H,I.tok _,rfl,q⟩
   |non=>exact IsiPair.NoneType_NoneType ⟨.bl true,H,I,rfl,q⟩
   |lst=>exact IsiPair.NoneType_list ⟨.bl false,H,I.tok _,rfl,q⟩
   |tup=>exact IsiPair.NoneType_tuple ⟨.bl false,H,I.tok _,rfl,q⟩
   |dct=>exact IsiPair.NoneType_dict ⟨.bl false,H,I.tok _,rfl,q⟩
 |lst d =>
   obtain rfl:u=Value.ref _:=c;obtain⟨v,l,⟨o,n,e,a,hd,m⟩,f⟩:=I.list d
   cases T with
   |int=>exact IsiPair.list_int e a ⟨.bl false,H,I.tok _,rfl,q⟩
   |bool=>exact IsiPair.list_bool e a ⟨.bl false,H,I.tok _,rfl,q⟩
   |str=>exact IsiPair.list_str e a ⟨.bl false,H,I.tok _,rfl,q⟩
   |non=>exact IsiPair.list_NoneType e a ⟨.bl false,H,I.tok _,rfl,q⟩
   |lst=>exact IsiPair.list_list e a ⟨.bl true,H,I,rfl,q⟩
   |tup=>exact IsiPair.list_tuple e a ⟨.bl false,H,I.tok _,rfl,q⟩
   |dct=>exact IsiPair.list_dict e a ⟨.bl false,H,I.tok _,rfl,q⟩
 |tup d =>
   obtain rfl:u=Value.ref _:=c;obtain⟨v,l,⟨o,e,a,n,m⟩,f⟩:=I.tuple d
   cases T with
   |int=>exact IsiPair.tuple_int e a ⟨.bl false,H,I.tok _,rfl,q⟩
   |bool=>exact IsiPair.tuple_bool e a ⟨.bl false,H,I.tok _,rfl,q⟩
   |str=>exact IsiPair.tuple_str e a ⟨.bl false,H,I.tok _,rfl,q⟩
   |non=>exact IsiPair.tuple_NoneType e a ⟨.bl false,H,I.tok _,rfl,q⟩
   |lst=>exact IsiPair.tuple_list e a ⟨.bl false,H,I.tok _,rfl,q⟩
   |tup=>exact IsiPair.tuple_tuple e a ⟨.bl true,H,I,rfl,q⟩
   |dct=>exact IsiPair.tuple_dict e a ⟨.bl false,H,I.tok _,rfl,q⟩
 |dk d =>
   obtain rfl:u=Value.ref _:=c;obtain⟨f,A,g,E,o,B,C,e,ex,D⟩:=I.hok _ _ d;have a:=ex.1
   cases T with
   |int=>exact IsiPair.dict_int e a ⟨.bl false,H,I.tok _,rfl,q⟩
   |bool=>exact IsiPair.dict_bool e a ⟨.bl false,H,I.tok _,rfl,q⟩
   |str=>exact IsiPair.dict_str e a ⟨.bl false,H,I.tok _,rfl,q⟩
   |non=>exact IsiPair.dict_NoneType e a ⟨.bl false,H,I.tok _,rfl,q⟩
   |lst=>exact IsiPair.dict_list e a ⟨.bl false,H,I.tok _,rfl,q⟩
   |tup=>exact IsiPair.dict_tuple e a ⟨.bl false,H,I.tok _,rfl,q⟩
   |dct=>exact IsiPair.dict_dict e a ⟨.bl true,H,I,rfl,q⟩
def UW{bs:List Bool}{a:List Value}(r:Ax (bs.map V.bl) a):TruthOf P w A (λi v=>a.toArray[i]?=some v) (λi=>bs.getD i false):=by
 intro i v s Q E d f;have c:a[i]?=some v:=(by simpa using d);have g:=r.length;rw[Aj] at g;have k:i<a.length:=(Bf.mp c).1
 have h:(bs.map V.bl)[i]?=some (V.bl (bs.getD i false)):=by
  rw[A6,BC];have:bs[i]?=some bs[i]:=AC (by lia);rw[this];rfl
 obtain⟨u,b,j⟩:=r.get h;rw[c] at b;cases b;have e:v=Value.bool (bs.getD i false):=j;subst e;exact F7 f
def XV{bs:List Bool}:(List.range bs.length).all (λi=>bs.getD i false)=bs.all id:=by
 rw[Bool.eq_iff_iff,List.all_eq_true,List.all_eq_true];constructor;intro h b d;obtain⟨i,a,e⟩:=OW.mp d;have:=h i (List.mem_range.mpr a);rw[BC,AC a] at this;rw[<-e];exact this;intro h i a;have c:=List.mem_range.mp a;rw[BC,AC c];exact h _ (Ed c)
def R3 (K:Ai):List V->Hp->VK->Prop:=λvs H Q=>∃(a:Addr)(bs:List Bool),vs=[.ref a]/\Ag K H a (bs.map V.bl)/\Q (.bl (bs.all id)) H
def XW(g:X.calm=true):Bn X (.builtin "all") (R3 X.K):=by
 intro C s σ H t w Q I r h;obtain⟨a,bs,rfl,j,q⟩:=h;obtain⟨u,rfl,k⟩:=F8 r;obtain rfl:u=Value.ref a:=k;obtain⟨c,d,p,x⟩:=I.list j;have f:=d.length;rw[Aj] at f;have n:a<s.heap.objs.size:=by obtain⟨_,e,_⟩:=p.isList;exact Bt e
 refine call_all_walk (wpAny_pyIter_list p.isList ?_);refine⟨s.heap.objs.size,[s.heap.objs.size,a],[s.heap.objs.size],c.toArray.size,(λi v=>c.toArray[i]?=some v),(λi h=>h.IsListIter s.heap.objs.size a i/\h.IsList a c.toArray),(λi=>bs.getD i false),rfl,Walks.list (A:=X.A.in1) (I.ok.hd g) s.heap.objs.size a (CO n) c.toArray,⟨⟨_,Ci _ rfl,rfl,rfl⟩,p.isList.push _⟩,UW d,λy B l=>?_⟩;refine⟨.bl (bs.all id),H,I.kept λb o e=>l b o (λz=>?_) (Bg _ e),?_,q⟩;have m:b=s.heap.objs.size:=(by simpa using z);exact absurd (Bt e) (by rw[m];exact Hc _);have e:c.toArray.size=bs.length:=(by rw[Cw,f]);show Value.bool _=Value.bool _;rw[e,XV]
variable {pins:B'}{σ:St}{s:Shared}
def Inv.track{T:Addr}{o:HO}(I:Inv X pins σ H s)(f:Dg X pins H T)(p:∃ob,s.heap.get? T=some ob)(l:AF X.prog X.w (upd H T o) s.heap T o):Inv X pins σ (upd H T o) s:=by
 obtain⟨d,g,r,h,i,j⟩:=f;refine I.step (g':=s.gens) (t':=s.toks) (d':=s.drawn) (h':=s.heap) (ch:=[T]) (λb a=>?_) (λb ob ζ ζ ζ e ζ=>e) (λb ob ζ ζ ζ e ζ=>⟨ob.slots,e⟩) (λb ob a e n=>?_) (λb ob ζ e=>⟨ob,e⟩) (λb xs e=>?_) (λb ob u e=>?_) (λb t e=>?_) (λm k=>k) (λb u e=>?_) I.bare;have e:b=T:=(by simpa using a);subst e;exact⟨h,g,i,j⟩;rw[AH (by simpa using a)];exact n;rw[AH (AW e d)];exact e;rw[AH (AW e d)];exact e;exact⟨#[],by rw[AH (AW e d),e];simp⟩;by_cases a:b=T;subst a;rw[Aa] at e;cases e;exact l;rw[AH a] at e;exact(I.hok b u e).stay (λc v ζ q=>q) (λc q=>by rw[AH (AW q d)];exact q) λc xs q=>by rw[AH (AW q d)];exact q
def Ga (env:Env):List (Str×NameKind)->List (Str×Addr)->List (Str×Addr)
 |[],acc=>acc
 |(n,k)::r,acc=>if k==.free then Ga env r ((n,(env.cells.lookup n).getD 0)::acc) else Ga env r acc
theorem R6{env:Env}(f:Str×NameKind->List (Str×Addr)->Sem (ForInStep (List (Str×Addr))))
 (d:∀n k g,f (n,k) g=if(k==NameKind.free)=true then(cellOf env n >>= λa=>pure (.yield ((n,a)::g))) else pure (.yield g)) :
 ∀(names:List (Str×NameKind))(acc:List (Str×Addr)),(∀x∈names,x.2=.free->∃c,env.cells.lookup x.1=some c)->forIn names acc f=pure (Ga env names acc)
 |[],acc,_=>by rw[List.forIn_nil];rfl
 |(n,k)::r,acc,h=>by
   rw[List.forIn_cons,d];unfold Ga;by_cases b:(k==NameKind.free)=true;rw[An b,An b];obtain⟨c,j⟩:=h (n,k) A3 (beq_iff_eq.mp b);have e:cellOf env n=pure c:=by unfold cellOf;rw[j]
   rw[e,j];exact R6 f d r _ λx i=>h x (Ce _ i);rw[Al b,Al b];exact R6 f d r _ λx i=>h x (Ce _ i)
variable {scope:Scope}{env:Env}
def UX(h:∀x∈scope.names,x.2=.free->∃c,env.cells.lookup x.1=some c):closureFor scope env=pure (Ga env scope.names []):=by
 simp only[closureFor];rw[R6 (env:=env) _ (λn k b=>by cases a:k==NameKind.free<;>simp[a]) scope.names [] h];rfl
theorem Ph{env:Env}:∀{names:List (Str×NameKind)}{acc:List (Str×Addr)}{x:Str}{c:Addr},(x,c)∈Ga env names acc->(x,c)∈acc\/((x,NameKind.free)∈names/\c=(env.cells.lookup x).getD 0)
 |[],_,_,_,h=>.inl h
 |(n,k)::r,acc,x,c,h=>by
   unfold Ga at h;by_cases a:(k==NameKind.free)=true;rw[An a] at h;rcases Ph h with h|⟨h,e⟩;rcases BO.mp h with h|h;cases h;rw[beq_iff_eq.mp a];exact .inr ⟨A3,rfl⟩;exact .inl h;exact .inr ⟨Ce _ h,e⟩;rw[Al a] at h;rcases Ph h with h|⟨h,e⟩;exact .inl h;exact .inr ⟨Ce _ h,e⟩
theorem R7{env:Env}:∀{names:List (Str×NameKind)}{acc:List (Str×Addr)}{p:Str×Addr},p∈acc->p∈Ga env names acc
 |[],_,_,h=>h
 |(n,k)::r,acc,p,h=>by
   unfold Ga;by_cases a:(k==NameKind.free)=true;rw[An a];exact R7 (Ce _ h);rw[Al a];exact R7 h
theorem NT{env:Env}:∀{names:List (Str×NameKind)}{acc:List (Str×Addr)}{x:Str},(x,NameKind.free)∈names->∃c,(x,c)∈Ga env names acc
 |(n,k)::r,acc,x,h=>by
   unfold Ga;rcases BO.mp h with h|h;cases h;rw[An (show(NameKind.free==NameKind.free)=true by rfl)];exact⟨_,R7 A3⟩;by_cases a:(k==NameKind.free)=true;rw[An a];exact NT h;rw[Al a];exact NT h
theorem MI{α:Type}:∀{l:List (Str×α)}{x:Str}{c:α},(x,c)∈l->∃a,l.lookup x=some a
 |(n,d)::r,x,c,h=>by
   rw[Mu]
   cases b:x==n with
   |true=>exact⟨d,rfl⟩
   |false =>
     rcases BO.mp h with h|h;cases h;simp at b;exact MI h
theorem Kt:∀(names:List (Str×NameKind))(n:Nat)(acc:List (Str×Addr)),cellsFrom n names acc=cellsFrom n names []++acc
 |[],_,_=>rfl
 |(x,k)::r,n,acc=>by
   unfold cellsFrom;by_cases a:(k==NameKind.cell)=true;rw[An a,An a,Kt r (n+1) ((x,n)::acc),Kt r (n+1) [(x,n)],Ge];rfl;rw[Al a,Al a];exact Kt r n acc
theorem Pj:∀{names:List (Str×NameKind)}{n:Nat}{acc:List (Str×Addr)}{x:Str}{c:Addr},(x,c)∈cellsFrom n names acc->(x,c)∈acc\/(x,NameKind.cell)∈names
 |[],_,_,_,_,h=>.inl h
 |(y,k)::r,n,acc,x,c,h=>by
   unfold cellsFrom at h;by_cases a:(k==NameKind.cell)=true;rw[An a] at h;rcases Pj h with h|h;rcases BO.mp h with h|h;cases h;rw[beq_iff_eq.mp a];exact .inr A3;exact .inl h;exact .inr (Ce _ h);rw[Al a] at h;rcases Pj h with h|h;exact .inl h;exact .inr (Ce _ h)
section
variable {M:Model} {A:Around} {E:D'} {s:Shared}
def XX{a:List (Str×Addr)}{Q:Env->Shared->Prop}
 (b:Q (newEnv scope s.heap.objs.size env.globals (cellsFrom (s.heap.objs.size+1) scope.names a) env.qual none .none (some env) builtinsNs) {s with heap:=pushCells (s.heap.push {cls:=.type "dict",data:=.dict #[]}) scope.names}) :
 wpAny M A (newFunctionEnv scope env.globals a [] env.qual none .none (some env)) Q E s:=by
 simp only[newFunctionEnv,Option.isSome_some,if_true];refine Ad (wpAny_alloc ?_);refine Ad (wpAny_layCells _ (λname d e=>by cases c:d==NameKind.cell<;>simp[c]) _ _ _ _ ?_)
 rw[show({s with heap:=s.heap.push {cls:=.type "dict",data:=.dict #[]}}:Shared).heap.objs.size=s.heap.objs.size+1 from Heap.size_push ..]
 exact Ad (AB (AB b))
end
abbrev EQ (X:Cx) (N:List Str) (scope:Scope) (cs:List (Str×Addr)) (C:Addr) (s:Shared) (H:Hp) (ex:List Addr):Cx where
 prog:=X.prog
 w:=X.w
 K:=X.K
 mg:=X.mg
 base:=X.base
 A:=X.A
 N:=N
 s₀:=s
 H₀:=H
 env:=compEnvC scope cs C X.env
 outer:=X.stack
 stack:=X.stack
 ex:=ex
 fn:=λx=>decide (scope.names.lookup x≠some .free)
 calm:=X.calm
 pn:=[]
 xe:=λζ ζ=>False
structure AA (psc:Scope) (PN:List Str) (scope:Scope) (N:List Str) (k:Nat) (caps:List Nat):Prop where
 kind:scope.kind=.function
 loc:∀x∈scope.names,x.2=.local->scope.names.lookup x.1=some .local
 ndn:(scope.names.map (·.1)).Nodup
 nd:N.Nodup
 len:N.length=k+caps.length
 free:∀x∈scope.names,x.2=.free->psc.names.lookup x.1=some .cell\/psc.names.lookup x.1=some .free
 cap:∀p∈(N.drop k).zip caps,PN[p.2]?=some p.1/\scope.names.lookup p.1=some .free
def FT (k:Nat) (caps:List Nat) (σ:St):St:=List.replicate k none++caps.map λj=>(σ[j]?).getD none
variable {caps:List Nat}{i:Nat}{v:V}
def UY(h:(FT k caps σ)[i]?=some (some v)):∃j,k<=i/\caps[i-k]?=some j/\σ[j]?=some (some v):=by
 unfold FT at h;by_cases b:i<k;rw[E4 (by simpa using b),List.getElem?_replicate,An b] at h;cases h;rw[Fn (by simpa using b),List.length_replicate,A6] at h
 cases e:caps[i-k]? with
 |none=>rw[e] at h;cases h
 |some j =>
   rw[e] at h;have a:(σ[j]?).getD none=some v:=B2 h;refine⟨j,by lia,rfl,?_⟩
   cases q:σ[j]? with
   |none=>rw[q] at a;cases a
   |some o=>rw[q] at a;exact BR some a
def UZ{a:NameKind}(h:(relabel scope env).names.lookup x=some a):∃k,(x,k)∈scope.names/\(a=k\/(k=.free/\a=.cell)):=by
 have e:=Gf h;have f:(x,a)∈scope.names.map (λ(n,k)=>if(k==NameKind.free && env.scope.kind==.function && env.kindOf n==some .cell) then(n,NameKind.cell) else(n,k)):=e;obtain⟨⟨n,k⟩,d,b⟩:=Bd.mp f;dsimp only at b
 by_cases c:(k==NameKind.free && env.scope.kind==.function && env.kindOf n==some .cell)=true;rw[An c] at b;cases b;simp only[Bool.and_eq_true,beq_iff_eq] at c;exact⟨k,d,.inr ⟨c.1.1,rfl⟩⟩;rw[Al c] at b;cases b;exact⟨a,d,.inl rfl⟩
theorem U0{f:Str×NameKind->Str×NameKind}(b:∀n k,f (n,k)=(n,k)\/(k=.free/\f (n,k)=(n,NameKind.cell))):∀{names:List (Str×NameKind)}{x:Str},names.lookup x=some .free->(names.map f).lookup x=some .cell\/(names.map f).lookup x=some .free
 |[],_,h=>by simp at h
 |(n,k)::r,x,h=>by
   have d:=@U0 f b r x;rw[Mu] at h;rw[E3]
   cases a:x==n with
   |true =>
     rw[a] at h;cases h;rcases b n .free with e|⟨_,e⟩;right;rw[e,Mu,a];left;rw[e,Mu,a]
   |false =>
     rw[a] at h;have c:=d h;rcases b n k with e|⟨_,e⟩;rw[e,Mu,a];exact c;rw[e,Mu,a];exact c
def U1(h:scope.names.lookup x=some .free):(relabel scope env).names.lookup x=some .cell\/(relabel scope env).names.lookup x=some .free:=by
 refine U0 (λn k=>?_) h;by_cases a:(k==NameKind.free && env.scope.kind==.function && env.kindOf n==some .cell)=true;right;refine⟨?_,An a⟩;simp only[Bool.and_eq_true,beq_iff_eq] at a;exact a.1.1;left;exact Al a
def Pk{names:List (Str×NameKind)}(h:(names.map (·.1)).Nodup){k d:NameKind}(a:(x,k)∈names)(b:(x,d)∈names):k=d:=by
 induction names with
 |nil=>simp at a
 |cons p r g =>
   rw[E3] at h;obtain⟨e,i⟩:=Gr.mp h;rcases BO.mp a with f|a<;>rcases BO.mp b with c|b;rw[<-f] at c;exact(Prod.mk.inj c).2.symm;exact absurd (Bd.mpr ⟨_,b,by rw[<-f]⟩) e;exact absurd (Bd.mpr ⟨_,a,by rw[<-c]⟩) e;exact g i a b
variable {h1:Heap}{C:Addr}
def Un.but{fs ex:List Addr}{h f:Heap}(u:Un fs ex H H' h h1)(c:Heap.SameBut C h1 f)(g:h.objs.size<=C):Un fs ex H H' h f:=by
 have ne:∀b o,h.get? b=some o->b≠C:=λb o e=>CO (FC (Bt e) g);refine⟨λb o e n d a=>(c.2 b (ne b o e)).trans (u.keep b o e n d a),λb o e n d a=>?_,u.free,λb o e a=>?_,u.tups,u.frzs,u.tbls⟩;obtain⟨i,q⟩:=u.slot b o e n d a;exact⟨i,(c.2 b (ne b o e)).trans q⟩;obtain⟨j,q⟩:=u.there b o e a;exact⟨j,(c.2 b (ne b o e)).trans q⟩
def C4.but{d:Heap}(x:C4 P w H h1)(g:Heap.SameBut C h1 d)(f:H C=none):C4 P w H d:=λb u e=>by
 refine(x b u e).stay (λc v a q=>(g.2 c ?_).trans q) (λζ q=>q) λζ ζ q=>q;rintro rfl;rcases a with rfl|a;rw[f] at e;cases e;rw[f] at a;cases a
section
variable {X:Cx} {scope:Scope} {N:List Str} {k:Nat} {caps:List Nat} {psc:Scope} {PN:List Str} {pins:B'} {σ:St} {H:Hp} {s:Shared}
abbrev DZ (X:Cx) (scope:Scope) (C:Addr):List (Str×Addr):=cellsFrom (C+1) scope.names (Ga X.env scope.names [])
def U2(I:Inv X pins σ H s)(S:AA X.env.scope X.N scope N k caps){c:Addr}(h:(x,c)∈DZ X scope C) :
 (x,c)∈cellsFrom (C+1) scope.names []\/X.env.cells.lookup x=some c:=by
 unfold DZ at h;rw[Kt] at h;rcases BB.mp h with h|h;exact .inl h;rcases Ph h with h|⟨h,e⟩;simp at h;obtain⟨b,a⟩:=I.ok.has x (S.free _ h rfl);rw[a] at e;exact .inr (by rw[a];exact BR some e.symm)
def XY{t:List Addr}(I:Inv X pins σ H s)(S:AA X.env.scope X.N scope N k caps)(B:∀b∈t,Dg X pins H b)(ae:∀b∈t,∃o,s.heap.get? b=some o){D C:Nat}{t':Nat}(g:D=s.heap.objs.size)(J:C=D+1)
 (E:h1=pushCells ((s.heap.push {cls:=.type "list",data:=.seq #[]}).push {cls:=.type "dict",data:=.dict #[]}) scope.names) :
 Inv (EQ X N scope (DZ X scope C) C s H t) [] (FT k caps σ) (upd H D (.lst [])) {s with heap:=h1,toks:=t'}:=by
 have Z:(s.heap.push {cls:=.type "list",data:=.seq #[]}).objs.size=C:=(by rw[Heap.size_push,J,g]);have aa:((s.heap.push {cls:=.type "list",data:=.seq #[]}).push {cls:=.type "dict",data:=.dict #[]}).objs.size=C+1:=(by rw[Heap.size_push,Z])
 have G:∀b o,s.heap.get? b=some o->h1.get? b=some o:=λb o e=>by
  rw[E];exact pushCells_keeps _ _ b o (Bg _ (Bg _ e))
 have ak:h1.get? D=some {cls:=.type "list",data:=.seq #[]}:=by
  rw[E,g];exact pushCells_keeps _ _ _ _ (Bg _ (Ci _ rfl))
 have af:h1.Ns C (λζ=>none):=by
  rw[E,<-Z];exact(Heap.Ns.new _ (.type "dict")).keeps (pushCells_keeps _ _)
 have ok:=cellsFrom_ok scope.names ((s.heap.push {cls:=.type "list",data:=.seq #[]}).push {cls:=.type "dict",data:=.dict #[]}) (C+1) [] ⟨λζ ζ d=>(nomatch d),List.Pairwise.nil⟩ (by rw[aa];exact AG _);rw[aa] at ok;have own:∀x c,(x,c)∈cellsFrom (C+1) scope.names []->h1.IsCell c none/\C+1<=c:=λx c h=>by rw[E];exact ok.empty x c h
 have P:∀x c,X.env.cells.lookup x=some c->c<D:=λx c e=>by
  obtain⟨v,q⟩:=I.cell x c e;rw[g];exact q.lt
 have Y:∀b∈t,b<D:=λb f=>by
  obtain⟨o,e⟩:=ae b f;rw[g];exact Bt e
 have ao:H C=none:=I.hok.fresh (by rw[J,g];exact Nat.le_succ _);have split:=λx c(h:(DZ X scope C).lookup x=some c)=>U2 (C:=C) I S (Gf h);have T:∀b,b≠D->H b=none->(upd H D (.lst [])) b=none:=λb f e=>by rw[AH f];exact e
 have al:∀x,scope.names.lookup x=some .free->∃c,X.env.cells.lookup x=some c/\(DZ X scope C).lookup x=some c:=λx w=>by
  have d:=Gf w;obtain⟨F,K⟩:=NT (env:=X.env) (acc:=[]) d;obtain⟨c,U⟩:=MI (l:=DZ X scope C) (x:=x) (c:=F) (by unfold DZ;rw[Kt];exact De _ K);refine⟨c,?_,U⟩;rcases split x c U with q|q;rcases Pj q with z|z;simp at z;have:=Pk S.ndn d z;cases this;exact q
 have ag:(EQ X N scope (DZ X scope C) C s H t).Ok:=by
  refine⟨I.ok.mod,S.kind,I.ok.glob,I.ok.blt,?above,?inj,?has,?cab,I.ok.hd,I.ok.frames,.inl rfl,?exf,λb o e=>I.bs b o e,DY I.ok.bsz I.sz,?noex,?exfs,I.stack,I.stkFree⟩
  case above =>
   show s.heap.objs.size<=C;rw[J,g];exact Nat.le_succ _
  case inj =>
   intro x y c L M;rcases split x c L with n|n<;>rcases split y c M with r|r;exact name_of_addr ok.apart n r;have h1:@LE.le Nat _ (C+1) c:=(own x c n).2;have a:@LT.lt Nat _ c D:=P y c r;exfalso;lia;have h1:@LE.le Nat _ (C+1) c:=(own y c r).2;have a:@LT.lt Nat _ c D:=P x c n;exfalso;lia;exact I.ok.inj x y c n r
  case has =>
   intro x w;have Q:(relabel scope X.env).names.lookup x=some .cell\/(relabel scope X.env).names.lookup x=some .free:=w
   have p:∃m,(x,m)∈scope.names/\(m=.cell\/m=.free):=by
    rcases Q with q|q;obtain⟨m,h1,a⟩:=UZ q;rcases a with a|⟨a,_⟩;exact⟨m,h1,.inl a.symm⟩;exact⟨m,h1,.inr a⟩;obtain⟨m,h1,a⟩:=UZ q;rcases a with a|⟨_,a⟩;exact⟨m,h1,.inr a.symm⟩;cases a
   obtain⟨m,d,p|p⟩:=p;subst p
   have q:=PySem.W.cellsFrom_some scope.names (C+1) (Ga X.env scope.names []) (x:=x) (.inl (by
    obtain⟨k2,A⟩:=MI d
    rw[A,Pk S.ndn (Gf A) d]))
   exact Option.isSome_iff_exists.mp q;subst p;obtain⟨F,K⟩:=NT (env:=X.env) (acc:=[]) d;exact MI (c:=F) (by show(x,F)∈DZ X scope C;unfold DZ;rw[Kt];exact De _ K)
  case cab =>
   intro x c w e;have Q:decide (scope.names.lookup x≠some .free)=true:=w;have ah:=Bc Q;show s.heap.objs.size<=c;have e':(DZ X scope C).lookup x=some c:=e;have d:=Gf e';unfold DZ at d;rw[Kt] at d;rcases BB.mp d with z|z;have h1:@LE.le Nat _ (C+1) c:=(own x c z).2;have a:@LE.le Nat _ s.heap.objs.size c:=(by lia);exact a;rcases Ph z with z|⟨z,_⟩;simp at z;obtain⟨k2,A⟩:=MI z;exact absurd (by rw[A,Pk S.ndn (Gf A) z]) ah
  case exf =>
   intro b f;refine⟨?_,λx c e z=>?_⟩;have h1:@LT.lt Nat _ b D:=Y b f;exact CO (show @LT.lt Nat _ b C by lia);rcases split x c e with q|q;have h1:@LE.le Nat _ (C+1) c:=(own x c q).2;have a:@LT.lt Nat _ b D:=Y b f;have V:@Eq Nat c b:=z;lia;exact(B b f).2.2.2.2.1 x c q z
  case noex =>
   intro b o e f;rcases(B b f).2.2.2.1 with q|q;exact I.ok.noex b o e q;exact absurd (FC (Bt e) (DY I.ok.bsz q)) (Hc _)
  case exfs =>
   intro b f z;have V:b∈E8 X.stack:=z;rcases BO.mp (I.stkSub b V) with q|q;exact(B b f).2.1 q;exact(B b f).2.2.1 q
 refine⟨ag,rfl,I.bare,Un.laid G (by rw[g];exact AG _) (I.hok.fresh (by rw[g];exact AG _)),⟨_,af,?loc⟩,?cell,T _ (show @Ne Nat C D by lia) ao,?freeC,λaq O=>absurd O (by simp),?hok,?len⟩
 case loc =>
  intro i x v L M e3;obtain⟨j,hi,hj,hv⟩:=UY M
  have hz:(x,j)∈(N.drop k).zip caps:=by
   refine List.mem_iff_getElem?.mpr ⟨i-k,?_⟩;rw[List.getElem?_zip_eq_some];refine⟨?_,hj⟩;rw[List.getElem?_drop,show k+(i-k)=i by lia];exact L
  obtain⟨O,R⟩:=S.cap (x,j) hz;have p:=S.free (x,.free) (Gf R) rfl;obtain⟨ar,hn,hl⟩:=I.loc;obtain⟨u,ab,l⟩:=hl j x v O hv (by rcases p with q|q;exact .inr (.inl q);exact .inr (.inr q));refine⟨u,ab,?_⟩;obtain⟨c,ai,aj⟩:=al x R
  have an:s.heap.IsCell c (some u):=by
   rcases l with⟨q,_⟩|⟨_,c',n,r⟩;have W:X.env.scope.names.lookup x=some .local:=q;rcases p with z|z;rw[W] at z;cases z;rw[W] at z;cases z;rw[ai] at n;cases n;exact r
  exact .inr ⟨U1 R,c,aj,an.keeps G⟩
 case cell =>
  intro x c e;rcases split x c e with q|q;exact⟨_,(own x c q).1⟩;obtain⟨v,z⟩:=I.cell x c q;exact⟨v,z.keeps G⟩
 case freeC =>
  intro x c e;rcases split x c e with q|q;have h1:@LE.le Nat _ (C+1) c:=(own x c q).2;have a:@LE.le Nat _ s.heap.objs.size c:=(by lia);exact T c (show @Ne Nat c D by lia) (I.hok.fresh a);exact T c (CO (P x c q)) (I.freeC x c q)
 case hok =>
  exact I.hok.laid G (by rw[g];exact AG _) ⟨Df _,[],0,.nil,ak⟩
 case len =>
  show(FT k caps σ).length=N.length;unfold FT;rw[AQ,List.length_replicate,Aj,S.len]
def XZ{a:List Addr}(I:Inv X pins σ H s)(S:AA X.env.scope X.N scope N k caps){p:B'}{σ':St}{Z:Shared}(P:∀x c,X.env.cells.lookup x=some c->c∉a)(T:s.heap.objs.size<=C)
 (J:Inv (EQ X N scope (DZ X scope C) C s H a) p σ' H' Z):Inv (EQ X N scope (DZ X scope C) C s H a) p (FT k caps σ) H' Z:=by
 obtain⟨m,t,_⟩:=id J.loc;refine⟨J.ok,J.os,J.bare,J.base,⟨m,t,λi x v w y U=>?_⟩,J.cell,J.free,J.freeC,J.pin,J.hok,?_⟩;obtain⟨j,V,A,B⟩:=UY y
 have D:(x,j)∈(N.drop k).zip caps:=by
  refine List.mem_iff_getElem?.mpr ⟨i-k,?_⟩;rw[List.getElem?_zip_eq_some];refine⟨?_,A⟩;rw[List.getElem?_drop,show k+(i-k)=i by lia];exact w
 obtain⟨E,b⟩:=S.cap (x,j) D;have e:=S.free (x,.free) (Gf b) rfl;obtain⟨W,aa,F⟩:=I.loc;obtain⟨u,r,l⟩:=F j x v E B (by rcases e with q|q;exact .inr (.inl q);exact .inr (.inr q));refine⟨u,r,?_⟩
 have R:∃c,X.env.cells.lookup x=some c/\s.heap.IsCell c (some u):=by
  rcases l with⟨q,_⟩|⟨_,f,G,K⟩;have g:X.env.scope.names.lookup x=some .local:=q;rcases e with z|z;rw[g] at z;cases z;rw[g] at z;cases z;exact⟨f,G,K⟩
 obtain⟨c,d,o,L,hd⟩:=R
 have Q:(DZ X scope C).lookup x=some c:=by
  have h:=Gf b;obtain⟨M,O⟩:=NT (env:=X.env) (acc:=[]) h;obtain⟨f,n⟩:=MI (l:=DZ X scope C) (x:=x) (c:=M) (by unfold DZ;rw[Kt];exact De _ O);rcases U2 (C:=C) I S (Gf n) with q|q;rcases Pj q with z|z;simp at z;have:=Pk S.ndn h z;cases this;rw[d] at q;cases q;exact n
 obtain⟨Y,q⟩:=J.base.any L (I.freeC x c d) (P x c d);exact .inr ⟨U1 b,c,Q,_,q,hd⟩;show(FT k caps σ).length=N.length;unfold FT;rw[AQ,List.length_replicate,Aj,S.len]
end
def PF (X:Cx) (f:List Expr) (t:TT):Prop:=
 ∀(pins:B')(s:Shared)(σ:St)(H:Hp)(Q:Bool->Hp->Prop),Inv X pins σ H s->t σ H Q ->
  wpAny (model X.prog X.w) X.A (forIn f true λc r=>if r=true then do let ok <-isTrue c X.env (eval c X.env);pure (ForInStep.yield ok) else pure (ForInStep.yield r)) (TP X pins σ Q) X.xe s
def Hr:TT:=λζ H Q=>Q true H
def Hs:PF X [] Hr:=λζ ζ ζ H ζ I h=>wpAny_tests_nil ⟨H,I,h⟩
def Ht{c:Expr}{t:TT}(h:PT X c t):PF X [c] t:=λpins s σ H Q I a=>wpAny_tests_one (h pins s σ H Q I a)
variable {F j:Expr}{f:List Expr}{L:Pos}
def X0{prog:Program}{R:Result->Shared->Prop}{target:Expr}{d acc:Value}(I:Nat->Shared->Prop)
 (turn:∀n s,I n s->wpAny (model prog w) A (pyNext d) (λr b=>match r with
  |none=>R (.ok .next) b
  |some v=>wpAny (model prog w) A (letOwnedTupleGo target d v) (λζ b=>wpAny (model prog w) A (assign target env v) (λζ i =>
   wpAny (model prog w) A (forIn f true λc r=>if r=true then do let ok <-isTrue c env (eval c env);pure (ForInStep.yield ok) else pure (ForInStep.yield r)) (λok g =>
    if ok=true then wpAny (model prog w) A (eval F env) (λx k =>
     wpAny (model prog w) A (call (.builtin "list.append") [acc,x]) (λζ l=>∃m,m<n/\I m l) (λζ ζ=>False) k) (λζ ζ=>False) g
    else ∃m,m<n/\I m g) (λζ ζ=>False) i) (λζ ζ=>False) b) (λζ ζ=>False) b) (λζ ζ=>False) s)
 (n:Nat) (h:I n s) :
 codeAny (model prog w) A (.compLoop (.ListComp F [⟨target,j,f,0⟩] scope L) 0 d acc env) R s:=by
 refine codeAny_loop rfl I (λn s p=>?_) n h
 show wpAny _ A ((compTurn (.ListComp F [⟨target,j,f,0⟩] scope L) 0 d acc env).onRaise (λx=>do noteFrame x env;theTreesLotGoes x)) _ _ s
 refine wpAny_noted ?_;rw[compTurn_list];refine Ad (wpAny_standAt (Ad (FP (turn n s p) (λr b e=>?_) λζ ζ a=>a.elim)))
 cases r with
 |none=>exact AB e
 |some v =>
   refine Ad (FP e (λζ b e=>?_) λζ ζ a=>a.elim);refine Ad (FP e (λζ i q=>Ad (FP q (λok g o=>?_) λζ ζ a=>a.elim)) λζ ζ a=>a.elim)
   cases ok with
   |false=>exact AB ⟨rfl,o⟩
   |true =>
     exact Ad (Ad (FP o (λx k t=>Ad (FP t (λζ l u=>AB (AB ⟨rfl,u⟩)) λζ ζ a=>a.elim)) λζ ζ a=>a.elim))
def Ku (J:It) (k:Nat) (caps:List Nat) (g:TG) (l:TT) (te:TE) (σ:St) (U:Hp) (Q:Addr->Hp->Prop):Prop:=∀D,U D=none->∃W:Nat->Nat->List V->Hp->Prop,(∃m,W 0 m [] (upd U D (.lst [])))/\∀i m ys Y,W i m ys Y ->
 (J.stop i Y/\Q D Y)\/(J.go i Y/\∀x H3,J.yld i Y x H3->g x (FT k caps σ) H3 λσ4 H4=>l σ4 H4 λb H5 =>
  if b=true then te σ4 H5 λy H6=>H6 D=some (.lst ys)/\ys.length<sizeLine/\∃m',m'<m/\W (i+1) m' (ys++[y]) (upd H6 D (.lst (ys++[y]))) else ∃m',m'<m/\W (i+1) m' ys H5)
def Kv (k:Nat) (caps:List Nat) (wi:TI) (g:TG) (l:TT) (te:TE):TE:=λσ H Q=>wi σ H λJ U=>Ku J k caps g l te σ U λD Y=>Q (.ref D) Y
variable {g:TG}{l:TT}{te:TE}
def NU{J:It}{Q:Addr->Hp->Prop}(n:Nat)(Pv:Addr->Nat->List V->Hp->Prop)(j:∀D,U D=none->Pv D 0 [] (upd U D (.lst [])))
 (go:∀D i ys Y,Pv D i ys Y->i<n->J.go i Y) (stop:∀D ys Y,Pv D n ys Y->J.stop n Y)
 (o:∀D i ys Y x c(R:VK)(h:Hp->Prop),U D=none->i<n->Pv D i ys Y->J.yld i Y x c->(∀y d,d D=some (.lst ys)->ys.length<sizeLine->Pv D (i+1) (ys++[y]) (upd d D (.lst (ys++[y])))->R y d)->(∀a,Pv D (i+1) ys a->h a)->g x (FT k caps σ) c λσ4 q=>l σ4 q λb a=>if b=true then te σ4 a R else h a)
 (hd:∀D ys Y,U D=none->Pv D n ys Y->Q D Y):Ku J k caps g l te σ U Q:=by
 intro D f;refine⟨λi m ys Y=>m=n-i/\i<=n/\Pv D i ys Y,⟨n,rfl,Df _,j D f⟩,?_⟩;rintro i m ys Y ⟨rfl,w,p⟩;by_cases e:i<n;exact .inr ⟨go D i ys Y p e,λx c y=>o D i ys Y x c _ _ f e p y (λv d r s t=>⟨r,s,n-(i+1),by lia,rfl,e,t⟩) λa u=>⟨n-(i+1),by lia,rfl,e,u⟩⟩
 . obtain rfl:i=n:=by lia
   exact .inl ⟨stop D ys Y p,hd D ys Y f p⟩
variable {tg:Expr}{N:List Str}
def U3{E:D'}{Q:VK}
 {U:Addr} {d:List Addr} {K:Nat->Heap->Prop} {J:It} {P:Value->Addr->Result->Shared->Prop} (hc:X.calm=true) (S:AA X.env.scope X.N scope N k caps) (I:Inv X pins σ H s)
 (T:FQ X.prog X.w X.K tg J d U K) (st:K 0 s.heap) (p:∀b∈d,Dg X pins H b)
 (hg:∀M C s H ex,PG (EQ X N scope M C s H ex) tg g) (ht:∀M C s H ex,PF (EQ X N scope M C s H ex) f l) (he:∀M C s H ex,PE (EQ X N scope M C s H ex) F te)
 (q:Ku J k caps g l te σ H λD ak=>Q (.ref D) ak)
 (ao:∀D C H' Z m,C≠X.env.locals->(∀x c,X.env.cells.lookup x=some c->c≠C)->Z.heap.Ns C m->(∀h',Heap.SameBut C Z.heap h'->Inv X pins σ H' {Z with heap:=h'})->H' C=none->s.heap.objs.size<=C->Q (.ref D) H'->P (.ref D) C (.ok .next) Z) :
 wpAny (model X.prog X.w) X.A (newList []) (λacc s₃=>wpAny (model X.prog X.w) X.A (newFunctionEnv scope X.env.globals (Ga X.env scope.names []) [] X.env.qual none .none (some X.env)) (λai s₄ =>
  codeAny (model X.prog X.w) X.A (.compStart (.ListComp F [⟨tg,j,f,0⟩] scope L) 0 (.ref U) acc {ai with scope:=relabel scope X.env}) (P acc ai.locals) s₄) E s₃) E s:=by
 refine wpAny_newObj_type (XX ?_);generalize h:s.heap.objs.size=D;have a1:(s.heap.push {cls:=.type "list",dict:=none,data:=.seq ([]:List Value).toArray}).objs.size=D+1:=(by rw[Heap.size_push,h]);dsimp only;rw[a1];have aa:∀b∈d,∃o,s.heap.get? b=some o:=λb a=>let ⟨o,e,_⟩:=T.obj 0 _ st b a;⟨o,e⟩;have aq:H D=none:=I.hok.fresh (by rw[h];exact AG _);have J0:=XY (t':=s.toks) I S p aa (D:=D) (C:=D+1) h.symm rfl rfl;have ar:∀x c,X.env.cells.lookup x=some c->c∉d:=λx c e a=>(p c a).2.2.2.2.1 x c e rfl
 have ab:∀{G:B'}{H':Hp},(∀b∈d,H' b=none)->G=[]->∀b∈d,Dg (EQ X N scope (DZ X scope (D+1)) (D+1) s H d) G H' b:=λ{G H'}Y hp b a=>by
  obtain⟨o,e⟩:=aa b a;have au:@LT.lt Nat _ b D:=by rw[<-h];exact Bt e
  subst hp;refine⟨Y b a,?_,λz=>?_,.inl a,λx c e=>(J0.ok.exf b a).2 x c e,λa2 hp=>absurd hp (by simp)⟩;show @Ne Nat b (D+1);lia;have z':b∈E8 X.stack:=z;rcases BO.mp (I.stkSub b z') with w|w;exact(p b a).2.1 w;exact(p b a).2.2.1 w
 obtain⟨W,⟨m0,w0⟩,turn⟩:=q D aq;have af:K 0 (pushCells ((s.heap.push {cls:=.type "list",data:=.seq #[]}).push {cls:=.type "dict",data:=.dict #[]}) scope.names):=T.keep 0 _ _ st λb a o e=>pushCells_keeps _ _ b o (Bg _ (Bg _ e))
 have av:∀b∈d,(upd H D (.lst [])) b=none:=λb a=>by
  obtain⟨o,e⟩:=aa b a;have au:@LT.lt Nat _ b D:=by rw[<-h];exact Bt e
  rw[AH (show @Ne Nat b D by lia)];exact(p b a).1
 have aw:∀{H':Hp}{Z:Shared}{σ':St}{G:B'},Inv (EQ X N scope (DZ X scope (D+1)) (D+1) s H d) G σ' H' Z->Q (.ref D) H'->P (.ref D) (D+1) (.ok .next) Z:=λ{H' Z σ' G}J q=>by
  obtain⟨m,Y,_⟩:=id J.loc;refine ao D (D+1) H' Z m (λz=>?_) (λx c e z=>?_) Y (λh' hs=>?_) J.free (by rw[h];exact Nat.le_succ _) q;have h1:@LT.lt Nat _ X.env.locals D:=by rw[<-h];exact I.lt
  have z':@Eq Nat (D+1) X.env.locals:=z;lia;obtain⟨v,y⟩:=I.cell x c e;have h1:@LT.lt Nat _ c D:=by rw[<-h];exact y.lt
  have z':@Eq Nat c (D+1):=z;lia;refine I.call' (ch:=d) J.os (J.base.but hs (by rw[h];exact Nat.le_succ _)) (J.hok.but hs J.free) J.bare λb a=>?_;exact⟨(p b a).2.2.2.1,(p b a).2.1,(p b a).2.2.2.2.1,(p b a).2.2.2.2.2⟩
 have aj:codeAny (model X.prog X.w) X.A (.compLoop (.ListComp F [⟨tg,j,f,0⟩] scope L) 0 (.ref U) (.ref D) (compEnvC scope (DZ X scope (D+1)) (D+1) X.env)) (P (.ref D) (D+1))
  {s with heap:=pushCells ((s.heap.push {cls:=.type "list",data:=.seq #[]}).push {cls:=.type "dict",data:=.dict #[]}) scope.names}:=by
  refine X0 (λn Z=>∃i r H',Inv (EQ X N scope (DZ X scope (D+1)) (D+1) s H d) [] (FT k caps σ) H' Z/\K i Z.heap/\(∀b∈d,H' b=none)/\W i n r H') ?_ m0 ⟨0,[],_,J0,af,av,w0⟩;rintro n s3 ⟨i,r,H3,I3,ag,ah,w3⟩;rcases turn i n r H3 w3 with⟨stop,qn⟩|⟨go,step⟩
  . refine AO (T.done (EQ X N scope (DZ X scope (D+1)) (D+1) s H d) rfl rfl rfl hc i [] s3 _ H3 _ I3 (ab ah rfl) ag stop) λal s4⟨hr,I4⟩=>?_
    subst hr;exact aw I4 qn
  refine AO (T.item (EQ X N scope (DZ X scope (D+1)) (D+1) s H d) rfl rfl rfl hc i [] s3 _ H3 _ I3 (ab ah rfl) ag go) λal s4⟨an,hr,h4⟩=>?_;subst hr;refine AO h4 λ_ s5⟨x,H5,I5,r5,y5,ae,ax⟩=>?_;have ay:=I5.pinned (ab ax rfl) (T.obj _ _ ae)
  have again:∀{σ7:St}{u:Hp}{A:Shared}{t:Nat}{zs:List V},Inv (EQ X N scope (DZ X scope (D+1)) (D+1) s H d) ([]++NA d s5.heap) σ7 u A->t<n->W (i+1) t zs u ->
   ∃m,m<n/\∃i r H',Inv (EQ X N scope (DZ X scope (D+1)) (D+1) s H d) [] (FT k caps σ) H' A/\K i A.heap/\(∀b∈d,H' b=none)/\W i m r H':=λ{σ7 u A t zs}B O w7=>by
   refine⟨t,O,i+1,zs,u,XZ I S ar (by rw[h];exact Nat.le_succ _) B.unpinned,T.keep _ _ _ ae λb a o e=>(B.pin (b,o) (De _ (De _ (Pa a e)))).1,λb a=>?_,w7⟩;obtain⟨o,e,a3⟩:=T.obj _ _ ae b a;exact(B.pin (b,o) (De _ (De _ (Pa a e)))).2.1
  refine AO (hg _ _ _ _ _ _ s5 _ H5 x an _ ay r5 (step x H5 y5)) λ_ s6⟨σ6,H6,I6,q6⟩=>?_;refine AO (ht _ _ _ _ _ _ s6 σ6 H6 _ I6 q6) λb A⟨u,B,R⟩=>?_
  cases b with
  |false =>
    rw[Al C3] at R ⊢;obtain⟨t,O,w7⟩:=R;exact again B O w7
  |true =>
    rw[An rfl] at R ⊢;refine AO (he _ _ _ _ _ _ A σ6 u _ B R) λy s8⟨yv,H8,I8,r8,az,a0,t,O,w8⟩=>?_;refine AO (UN (X:=EQ X N scope (DZ X scope (D+1)) (D+1) s H d) _ s8 σ6 H8 (.ref D) [yv] (.ref D) [y] (λζ H9=>W (i+1) t (r++[yv]) H9) I8 rfl (.cons r8 .nil) ⟨r,az,a0,w8⟩) λ_ s9⟨_,H9,I9,_,w9⟩=>?_;exact again I9 O w9
 exact codeAny_compStart_list aj (T.self _ 0 _ _ _ af aj)
def Je{b:TI}(c:X.calm=true)(S:AA X.env.scope X.N scope N k caps)(d:PI X tg j b)
 (i:∀a C s H ex,PG (EQ X N scope a C s H ex) tg g) (n:∀a C s H ex,PF (EQ X N scope a C s H ex) f l) (o:∀a C s H ex,PE (EQ X N scope a C s H ex) F te)
 (p:∀x,foldedSetIterable j X.env x=pure x:=by intro _;rfl):PE X (.ListComp F [⟨tg,j,f,0⟩] scope L) (Kv k caps b g l te):=by
 intro pins s σ H Q I h;have E:closureFor scope X.env=pure (Ga X.env scope.names []):=UX λx r G=>I.ok.has x.1 (S.free x r G);rw[eval_ListComp];refine wpAny_comprehension_free (use:=none) rfl p E S.kind S.loc (AO (d pins s σ H _ I h) λv O h1=>AO h1 λW P t=>?_);obtain⟨R,U,V,J,Y,e,u,T,K,w,q⟩:=t;subst e;refine U3 (Q:=Q) c S u T K w i n o q ?_;intro D C H' Z m _ _ y z _ _ A;exact⟨m,y,λB M=>⟨.ref D,H',z B M,rfl,A⟩⟩
def Pl{E:Pos}{t:Pos}{u:TI}(G:X.N.Nodup)(aa:X.N[i]?=some x)(n:Loc X.env.scope x)
 (J:X.calm=true) (S:AA X.env.scope X.N scope N k caps) (K:PI X tg j u)
 (M:∀c C s H ex,PG (EQ X N scope c C s H ex) tg g) (O:∀c C s H ex,PF (EQ X N scope c C s H ex) f l) (P:∀c C s H ex,PE (EQ X N scope c C s H ex) F te)
 (ab:swapsWith (.ListComp F [⟨tg,j,f,0⟩] scope L) (some (.Name x t)) E.line X.env=pure true:=by rfl)
 (R:∀x,foldedSetIterable j X.env x=pure x:=by intro _;rfl) (ae:X.fn x=true\/X.env.scope.names.lookup x=some .local:=by first|exact .inl rfl|exact .inr rfl|assumption) :
 PS X (.Assign [.Name x t] (.ListComp F [⟨tg,j,f,0⟩] scope L) E) (IP (Kv k caps u g l te) (IM i)):=by
 intro pins s σ H D I h;have af:closureFor scope X.env=pure (Ga X.env scope.names []):=UX λx n ag=>I.ok.has x.1 (S.free x n ag);rw[exec_Assign_Name_used _ _ _ _ ab];refine Ad (wpAny_standAt (Ad ?_))
 show wpAny _ _ (do let _ <-comprehension (.ListComp F [⟨tg,j,f,0⟩] scope L) scope X.env _ (newList []) false (eval j X.env) (some (assign (.Name x t) X.env))) _ _ s
 refine Ad (FP (wpAny_comprehension_free (use:=some (assign (.Name x t) X.env)) (Q:=λζ Z=>SP X pins D .next Z) rfl R af S.kind S.loc
  (AO (K pins s σ H _ I h) λv s1 h1=>AO h1 λav s2 W=>?_)) (λζ Z o=>AB (AB o)) λζ ζ e=>e)
 obtain⟨it,fp,tn,aq,ar,e,r,T,ah,Y,q⟩:=W;subst e;refine U3 (Q:=λx U=>IM i x σ U D.nx) J S r T ah Y M O P q ?_;intro w C H' Z m y A hn hI ai B o;have I3:=hI Z.heap (.refl ..);have aj:Inv X pins σ H' Z:=I3;refine wpAny_assign_Name (Ur aj G aa n (show RelV (V.ref w) (.ref w) from rfl) (λak I4⟨a,al,d⟩=>?_) ae)
 have an:C≠a:=by
  rcases d with d|d;rw[d];exact y;exact Ne.symm (A x a d)
 refine⟨m,hn.sameBut al an,λh' ao=>?_⟩;refine⟨_,H',?_,o⟩
 exact I4.turned (t':=ak.toks) (λb au hb e=>(ao.2 b hb).trans e) ai y (.inr (DY r.sz B)) A λp hp z=>by
  have:=Bt (r.pin p hp).1;rw[z] at this;exact absurd (FC this B) (Hc _)
def By (P:Program) (w:World) (K:Ai) (mg:Str->Option Value) (base:Heap) (x:Str) (k:Nat) (ps:List Str) (sp:Sp):Prop:=
 ∃f fd,Ev P w K mg base Iq k f fd ps sp/\mg x=some (.ref f)/\PySem.W.keepIn K (.ref f)=true/\Binds K fd ps []
section
variable {X:Cx} {x:Str} {k:Nat} {ps:List Str} {sp:Sp} {e:Expr} {es:List Expr} {t:TA} {p L:Pos}
def A1(C:By X.prog X.w X.K X.mg X.base x k ps sp)(a:PA X (e::es) t)(b:BY k X.A:=by exact BY.mono (by assumption) (by decide))(c:Gl X x:=by rfl)(j:(x==("__debug__" : Str))=false:=by decide)
 (d:starEach (e::es) X.env=(false,eval e X.env)::starEach es X.env:=by rfl) (l:(backTo L (starEach es X.env)).any (·.1)=false:=by rfl):PE X (.Call (.Name x p) (e::es) [] L) (Kq sp [] E0 t):=by
 obtain⟨f,fd,F,g,h,i⟩:=C;exact IW F b c g h i .nil NS a j d l
end
def Iu(n:String)(a:Gl X x)(b:X.mg x=none)(hv:bootBuiltins x=some (.type n))(c:x ≠ "__name__" :=by decide)(hd:(x==("__debug__" : Str))=false:=by decide):PE X (.Name x L) (tC (.ty n)):=IL (v:=.ty n) a b hv rfl c hd
def Hu{t u:TS}{D:Ends}{σ:L2.St}(P:L2.St->Hp->Prop)(a:∀σ' H',P σ' H'->u D σ' H')(b:∀N:L2.St->Hp->Prop,(∀σ' H',P σ' H'->N σ' H')->t {D with nx:=N} σ H):K7 t u D σ H:=b (u D) a
def Ac.upd{H H':Hp}{D:Addr}{o:HO}(h:Ac H H')(a:H D=none):Ac H (upd H' D o):=λb u e=>by
 rw[AH (AW e a)];exact h b u e
def Ac.seqT{K:Ai}(e:Ac H H')(h:Ao K H a xs):Ao K H' a xs:=by
 rcases h with(h|⟨o,h⟩)|h;exact .inl (.inl (e _ _ h));exact .inl (.inr ⟨o,e _ _ h⟩);exact .inr h
def U4{K:Ai}{Q:Addr->Hp->Prop}(f:V->V)(r:xs.length<=sizeLine)(j:Ag K U a xs)
 (q:∀(i:Nat)(x:V)(Y:Hp)(D:Addr)(R:VK),xs[i]?=some x->Ac U Y->U D=none->(∀e,Ac Y e->R (f x) e)->g x (FT k caps σ) Y λσ4 l=>te σ4 l R)
 (hd:∀(Y:Hp)(D:Addr),Ac U Y->U D=none->Y D=some (.lst (xs.map f))->Q D Y):Ku (MC K a) k caps g Hr te σ U Q:=by
 refine NU xs.length (λD i b Y=>b=(xs.take i).map f/\Ac U Y/\Y D=some (.lst b)) (λD c=>⟨rfl,(Ac.refl _).upd c,Aa⟩) (λD i b Y p m=>⟨xs,xs[i],p.2.1.seq j,by simp[m]⟩) (λD b Y p=>⟨xs,p.2.1.seq j,AG _⟩) (λD i b Y x e R s c m p y k t=>?_) λD b Y c p=>?_;obtain⟨rfl,y⟩:=y;obtain⟨rfl,d,h⟩:=p;have n:=y xs (d.seq j);refine q i x e D _ n d c λl o=>k _ _ (o _ _ h) (by rw[Aj,E5];lia) ⟨?_,(d.trans o).upd c,Aa⟩;rw[Ek,n,Bh];rfl;obtain⟨rfl,d,h⟩:=p;rw[DW] at h;exact hd Y D d c h
def Dk (ns:List Int) (k:Int):Int:=(ns[k.toNat]?).getD 0
def R8{u:TS}{D:Ends}(h:u D (σ.set i (some v)) H):K7 (IP (tC v) (IM i)) u D σ H:=h
def Lu{k:Int}(a:0<=k)(h1:k<n):Gz n k=some k.toNat:=by
 unfold Gz;rw[An a,An h1]
def X1(xs:List V)(n:Nat):EN xs (some (n:Int)) none=xs.drop n:=by
 unfold EN;rw[HT.sIx_none,HT.sIx_nat];by_cases h:n<=xs.length;rw[Nat.min_eq_left h,List.take_of_length_le (by rw[Kg];exact AG _)];rw[Nat.min_eq_right (by lia),List.drop_of_length_le (AG _),List.drop_of_length_le (by lia)]
 simp
def X2(xs:List V)(a b:Nat)(e:a<=b):EN xs (some (a:Int)) (some (b:Int))=(xs.drop a).take (b-a):=by
 unfold EN;rw[HT.sIx_nat,HT.sIx_nat];by_cases c:a<=xs.length;rw[Nat.min_eq_left c];by_cases d:b<=xs.length;rw[Nat.min_eq_left d];rw[Nat.min_eq_right (show xs.length<=b by lia),List.take_of_length_le (by rw[Kg];exact AG _),List.take_of_length_le (by rw[Kg];lia)];rw[Nat.min_eq_right (show xs.length<=a by lia),List.drop_of_length_le (AG _),List.drop_of_length_le (show xs.length<=a by lia)]
 simp
def A8{p:Addr}{o:HO}(h:H p=none):Ac H (upd H p o):=(Ac.refl H).upd h
def AU{σ:L2.St}{N:L2.St->Hp->Prop}(h:N (σ.set i (some v)) H):IM i v σ H N:=h
section
variable {X:Cx}
def Ew:NK X "list.append" UM:=UN
def NV:NK X "list.extend" UO:=XJ
end
section
variable {X:Cx}
def Jf (neg:Bool):R2:=λx y H Q=>∃a o,y=.ref a/\EO H a x o/\Q (.bl (o.isSome != neg)) H
def X3(b:X.A.units+1<cLine):DG X (compareOp .In) (Jf false):=by
 intro pins s σ H x y v u Q I c d h;obtain⟨a,o,rfl,g,q⟩:=h;cases d;refine RW b I g c λZ e=>⟨.bl _,H,e,?_,q⟩;cases o<;>rfl
end
section
variable {prog:Program} {w:World} {A:Around} {R:Result->Shared->Prop} {It:Addr} {fp r:List Addr} {G:Array GenState->Array GenState->Prop} {n:Nat} {Pn:Nat->Value->Prop} {Sn:Nat->Shared->Prop}
end
section
variable {prog:Program} {w:World} {A:Around} {E:D'} {s:Shared}
end
section
variable {X:Cx}
end
open PySem.SeqAt
inductive Dt where
 |non|bl (b:Bool)|int (i:Int)|str (x:Str)|tup (l:List Dt)|lst (l:List Dt)
mutual
inductive Aq (K:Ai) (H:Hp):V->Dt->Prop where
 | non:Aq K H .non .non
 | bl (b:Bool):Aq K H (.bl b) (.bl b)
 | int (i:Int):Aq K H (.int i) (.int i)
 | str (x:Str):Aq K H (.str x) (.str x)
 | tup {a:Addr} {vs:List V} {ds:List Dt} (h:Ao K H a vs) (t:Am K H vs ds):Aq K H (.ref a) (.tup ds)
 | lst {a:Addr} {vs:List V} {ds:List Dt} (h:Ag K H a vs) (t:Am K H vs ds):Aq K H (.ref a) (.lst ds)
inductive Am (K:Ai) (H:Hp):List V->List Dt->Prop where
 | nil:Am K H [] []
 | cons {v:V} {d:Dt} {vs:List V} {ds:List Dt} (h:Aq K H v d) (t:Am K H vs ds):Am K H (v :: vs) (d :: ds)
end
mutual
theorem Aq.same {K:Ai}{H H':Hp} (e:Ac H H') {v:V} {d:Dt} (h:Aq K H v d):Aq K H' v d:=by
 cases h with
 | non=>exact .non
 | bl b=>exact .bl b
 | int i=>exact .int i
 | str x=>exact .str x
 | tup h t=>exact .tup (e.seqT h) (Am.same e t)
 | lst h t=>exact .lst (e.seq h) (Am.same e t)
theorem Am.same {K:Ai}{H H':Hp} (e:Ac H H') {vs:List V} {a:List Dt} (h:Am K H vs a):Am K H' vs a:=by
 cases h with
 | nil=>exact .nil
 | cons h t=>exact .cons (Aq.same e h) (Am.same e t)
end
theorem Am.length{K:Ai}{H:Hp}:∀{vs:List V}{a:List Dt},Am K H vs a->vs.length=a.length
 |_,_,.nil=>rfl
 |_,_,.cons _ t=>BR (·+1) t.length
theorem Am.get{K:Ai}{H:Hp}:∀{vs:List V}{a:List Dt}{i:Nat}{v:V},Am K H vs a->vs[i]?=some v->∃d,a[i]?=some d/\Aq K H v d
 |_,_,_,_,.nil,e=>by simp at e
 |_,_,0,_,.cons h _,e=>by simp at e;subst e;exact⟨_,rfl,h⟩
 |_,_,i+1,v,.cons _ t,e=>by
   obtain⟨d,h1,b⟩:=Am.get (i:=i) (v:=v) t (by simpa using e);exact⟨d,by simpa using h1,b⟩
theorem Am.get'{K:Ai}{H:Hp}:∀{vs:List V}{a:List Dt}{i:Nat}{d:Dt},Am K H vs a->a[i]?=some d->∃v,vs[i]?=some v/\Aq K H v d
 |_,_,_,_,.nil,e=>by simp at e
 |_,_,0,_,.cons h _,e=>by simp at e;subst e;exact⟨_,rfl,h⟩
 |_,_,i+1,v,.cons _ t,e=>by
   obtain⟨d,h1,b⟩:=Am.get' (i:=i) (d:=v) t (by simpa using e);exact⟨d,by simpa using h1,b⟩
theorem Am.strs{K:Ai}{H:Hp}:∀(xs:List Str),Am K H (xs.map V.str) (xs.map Dt.str)
 |[]=>.nil
 |x::xs=>.cons (.str x) (Am.strs xs)
section
variable {X:Cx} {pins:B'} {σ:St} {H:Hp} {s:Shared}
def Inv.not_both(I:Inv X pins σ H s){ys:List V}(h:Ag X.K H a xs)(h':Ao X.K H a ys):False:=by
 obtain⟨_,_,⟨o,n,e,c,_⟩,_⟩:=I.list h;obtain⟨_,_,⟨f,b,d,_⟩,_⟩:=I.tuple h';rw[e] at b;cases b;rw[c] at d;exact absurd d (by decide)
mutual
theorem Aq.inj (I:Inv X pins σ H s) {v:V} {d e:Dt} (h:Aq X.K H v d) (h':Aq X.K H v e):d=e:=by
 cases h with
 | non=>cases h';rfl
 | bl _=>cases h';rfl
 | int _=>cases h';rfl
 | str _=>cases h';rfl
 | tup h t=>cases h' with
   | tup h' a =>
     have e:=I.tuple_inj h h';subst e;rw[Am.inj I t a]
   | lst h' _=>exact(I.not_both h' h).elim
 | lst h t=>cases h' with
   | lst h' a =>
     have e:=I.list_inj h h';subst e;rw[Am.inj I t a]
   | tup h' _=>exact(I.not_both h h').elim
theorem Am.inj (I:Inv X pins σ H s) {vs:List V} {a es:List Dt} (h:Am X.K H vs a) (h':Am X.K H vs es):a=es:=by
 cases h with
 | nil=>cases h';rfl
 | cons h t=>cases h' with
   | cons h' b=>rw[Aq.inj I h h',Am.inj I t b]
end
end
def Dt.kd:Dt->Nat
 |.non=>0|.bl _=>1|.int _=>2|.str _=>3|.tup _=>4|.lst _=>5
def G5 (a b:Nat):Bool:=a != b && !(a==1 && b==2) && !(a==2 && b==1)
mutual
inductive Fq:Nat->Dt->Dt->Prop where
 | non {n:Nat}:Fq n .non .non
 | bl {n:Nat} (a b:Bool):Fq n (.bl a) (.bl b)
 | int {n:Nat} (a b:Int):Fq n (.int a) (.int b)
 | str {n:Nat} (a b:Str):Fq n (.str a) (.str b)
 | tup {n:Nat} {ds es:List Dt} (t:CA n ds es):Fq (n+1) (.tup ds) (.tup es)
 | lst {n:Nat} {ds es:List Dt} (t:CA n ds es):Fq (n+1) (.lst ds) (.lst es)
 | apart {n:Nat} {d e:Dt} (h:G5 d.kd e.kd=true):Fq (n+1) d e
inductive CA:Nat->List Dt->List Dt->Prop where
 | nil {n:Nat} (es:List Dt):CA n [] es
 | nil' {n:Nat} (ds:List Dt):CA n ds []
 | cons {n:Nat} {d e:Dt} {ds es:List Dt} (h:Fq n d e) (t:CA n ds es):CA n (d :: ds) (e :: es)
end
theorem CA.of{n:Nat}:∀{a es:List Dt},(∀d∈a,∀e∈es,Fq n d e)->CA n a es
 |[],es,_=>.nil es
 |d::a,[],_=>.nil' _
 |d::a,e::es,h=>.cons (h d (by simp) e (by simp)) (CA.of λx b y c=>h x (by simp[b]) y (by simp[c]))
open Classical in
noncomputable def dec (p:Prop):Bool:=decide p
variable {p:Prop}
def FF(h:p):dec p=true:=@A7 p (Classical.propDecidable p) h
def Gh(h:¬p):dec p=false:=@El p (Classical.propDecidable p) h
def Fs:dec p=true↔p:=⟨λh=>@Bc p (Classical.propDecidable p) h,FF⟩
def MJ{q:Prop}(h:p↔q):dec p=dec q:=by rw[propext h]
def R9{α:Type} [BEq α] [LawfulBEq α]{a b:α}(h:p↔a=b):(a==b)=dec p:=by
 by_cases e:a=b;subst e;rw[FF (h.mpr rfl)];exact beq_self_eq_true _;rw[Gh λq=>e (h.mp q)];exact beq_false_of_ne e
variable {ds es:List Dt}
def X4(b:ds.length=es.length)(h:∀i,i<ds.length->ds[i]?=es[i]?):ds=es:=List.ext_getElem? λi=>by
 by_cases a:i<ds.length;exact h i a;rw[Gu (by lia),Gu (by lia)]
section
variable {X:Cx} {pins:B'} {σ:St} {H:Hp} {s:Shared}
def Hv(A:Around):A.in1.units=A.units+1:=rfl
def U5(I:Inv X pins σ H s){vs c:List V}{a b:List Value}(f:Ax vs a)(g:Ax c b)(o:Am X.K H vs ds)(r:Am X.K H c es)
 (t:∀(i:Nat)(d e:Dt)(v u:V)(x y:Value),ds[i]?=some d->es[i]?=some e->RelV v x->RelV u y->Aq X.K H v d->Aq X.K H u e->EqAt A s x y (dec (d=e))) :
 ∀j(h1:j<a.toArray.size)(h:j<b.toArray.size),EqAt A s a.toArray[j] b.toArray[j] (dec (ds[j]?=es[j]?)):=by
 intro j h1 h;have E:=f.length;have F:=g.length;have C:j<a.length:=(by simpa using h1);have D:j<b.length:=(by simpa using h);obtain⟨x,k,w⟩:=f.get (i:=j) (x:=vs[j]'(by lia)) (AC (by lia));obtain⟨y,m,z⟩:=g.get (i:=j) (x:=c[j]'(by lia)) (AC (by lia));obtain⟨d,hd,l⟩:=o.get (i:=j) (v:=vs[j]'(by lia)) (AC (by lia));obtain⟨e,n,te⟩:=r.get (i:=j) (v:=c[j]'(by lia)) (AC (by lia))
 have ex:a.toArray[j]=x:=by
  rw[AC C] at k;simpa using k
 have B:b.toArray[j]=y:=by
  rw[AC D] at m;simpa using m
 rw[ex,B,hd,n];have:=t j d e _ _ x y hd n w z l te;rw[MJ (p:=some d=some e) (q:=d=e) (by simp)];exact this
def U6(a:n=ds.length)(b:ds.length=es.length):(List.range n).all (λj=>dec (ds[j]?=es[j]?))=dec (ds=es):=by
 subst a;by_cases h:ds=es;subst h;rw[FF rfl,List.all_eq_true];exact λi ζ=>FF rfl;rw[Gh h,Bool.eq_false_iff];intro q;rw[List.all_eq_true] at q;exact h (X4 b λi c=>Fs.mp (q i (List.mem_range.mpr c)))
variable {d e:Dt}{u:V}{y:Value}
def X5(I:Inv X pins σ H s){x:Value}(h:G5 d.kd e.kd=true)(l:Aq X.K H v d)(te:Aq X.K H u e)(j:RelV v x)(f:RelV u y)(c:A.units<cLine):EqAt A s x y false/\RcAt A s x y false/\RcNeAt A s x y true:=by
 cases l with
 |non =>
   cases j
   cases te with
   |non=>exact absurd h (by simp[G5,Dt.kd])
   |bl b =>
     cases f;exact⟨EqAt.none_bool _,RcAt.none_bool _,RcNeAt.none_bool _⟩
   |int b =>
     obtain⟨i,rfl⟩:=f;exact⟨EqAt.none_int _ _,RcAt.none_int _ _,RcNeAt.none_int _ _⟩
   |str b =>
     obtain⟨i,rfl⟩:=f;exact⟨EqAt.none_str _ _,RcAt.none_str _ _,RcNeAt.none_str _ _⟩
   |tup g i =>
     cases f;obtain⟨_,_,J,_⟩:=I.tuple g;exact⟨EqAt.none_tuple J c,RcAt.none_tuple J c,RcNeAt.none_tuple J c⟩
   |lst g i =>
     cases f;obtain⟨_,_,J,_⟩:=I.list g;have J:=J.isList;exact⟨EqAt.none_list J c,RcAt.none_list J c,RcNeAt.none_list J c⟩
 |bl a =>
   cases j
   cases te with
   |non =>
     cases f;exact⟨EqAt.bool_none _,RcAt.bool_none _,RcNeAt.bool_none _⟩
   |bl b=>exact absurd h (by simp[G5,Dt.kd])
   |int b=>exact absurd h (by simp[G5,Dt.kd])
   |str b =>
     obtain⟨i,rfl⟩:=f;exact⟨EqAt.bool_str _ _ _,RcAt.bool_str _ _ _,RcNeAt.bool_str _ _ _⟩
   |tup g i =>
     cases f;obtain⟨_,_,J,_⟩:=I.tuple g;exact⟨EqAt.bool_tuple _ J c,RcAt.bool_tuple _ J c,RcNeAt.bool_tuple _ J c⟩
   |lst g i =>
     cases f;obtain⟨_,_,J,_⟩:=I.list g;have J:=J.isList;exact⟨EqAt.bool_list _ J c,RcAt.bool_list _ J c,RcNeAt.bool_list _ J c⟩
 |int a =>
   obtain⟨t,rfl⟩:=j
   cases te with
   |non =>
     cases f;exact⟨EqAt.int_none _ _,RcAt.int_none _ _,RcNeAt.int_none _ _⟩
   |bl b=>exact absurd h (by simp[G5,Dt.kd])
   |int b=>exact absurd h (by simp[G5,Dt.kd])
   |str b =>
     obtain⟨i,rfl⟩:=f;exact⟨EqAt.int_str _ _ _ _,RcAt.int_str _ _ _ _,RcNeAt.int_str _ _ _ _⟩
   |tup g i =>
     cases f;obtain⟨_,_,J,_⟩:=I.tuple g;exact⟨EqAt.int_tuple _ _ J c,RcAt.int_tuple _ _ J c,RcNeAt.int_tuple _ _ J c⟩
   |lst g i =>
     cases f;obtain⟨_,_,J,_⟩:=I.list g;have J:=J.isList;exact⟨EqAt.int_list _ _ J c,RcAt.int_list _ _ J c,RcNeAt.int_list _ _ J c⟩
 |str a =>
   obtain⟨t,rfl⟩:=j
   cases te with
   |non =>
     cases f;exact⟨EqAt.str_none _ _,RcAt.str_none _ _,RcNeAt.str_none _ _⟩
   |bl b =>
     cases f;exact⟨EqAt.str_bool _ _ _,RcAt.str_bool _ _ _,RcNeAt.str_bool _ _ _⟩
   |int b =>
     obtain⟨i,rfl⟩:=f;exact⟨EqAt.str_int _ _ _ _,RcAt.str_int _ _ _ _,RcNeAt.str_int _ _ _ _⟩
   |str b=>exact absurd h (by simp[G5,Dt.kd])
   |tup g i =>
     cases f;obtain⟨_,_,J,_⟩:=I.tuple g;exact⟨EqAt.str_tuple _ _ J c,RcAt.str_tuple _ _ J c,RcNeAt.str_tuple _ _ J c⟩
   |lst g i =>
     cases f;obtain⟨_,_,J,_⟩:=I.list g;have J:=J.isList;exact⟨EqAt.str_list _ _ J c,RcAt.str_list _ _ J c,RcNeAt.str_list _ _ J c⟩
 |tup h1 k =>
   cases j;obtain⟨_,_,p,_⟩:=I.tuple h1
   cases te with
   |non =>
     cases f;exact⟨EqAt.tuple_none p c,RcAt.tuple_none p c,RcNeAt.tuple_none p c⟩
   |bl b =>
     cases f;exact⟨EqAt.tuple_bool _ p c,RcAt.tuple_bool _ p c,RcNeAt.tuple_bool _ p c⟩
   |int b =>
     obtain⟨i,rfl⟩:=f;exact⟨EqAt.tuple_int _ _ p c,RcAt.tuple_int _ _ p c,RcNeAt.tuple_int _ _ p c⟩
   |str b =>
     obtain⟨i,rfl⟩:=f;exact⟨EqAt.tuple_str _ _ p c,RcAt.tuple_str _ _ p c,RcNeAt.tuple_str _ _ p c⟩
   |tup g i=>exact absurd h (by simp[G5,Dt.kd])
   |lst g i =>
     cases f;obtain⟨_,_,J,_⟩:=I.list g;have J:=J.isList;exact⟨EqAt.tuple_list p J c,RcAt.tuple_list p J c,RcNeAt.tuple_list p J c⟩
 |lst h1 k =>
   cases j;obtain⟨_,_,p,_⟩:=I.list h1;have p:=p.isList
   cases te with
   |non =>
     cases f;exact⟨EqAt.list_none p c,RcAt.list_none p c,RcNeAt.list_none p c⟩
   |bl b =>
     cases f;exact⟨EqAt.list_bool _ p c,RcAt.list_bool _ p c,RcNeAt.list_bool _ p c⟩
   |int b =>
     obtain⟨i,rfl⟩:=f;exact⟨EqAt.list_int _ _ p c,RcAt.list_int _ _ p c,RcNeAt.list_int _ _ p c⟩
   |str b =>
     obtain⟨i,rfl⟩:=f;exact⟨EqAt.list_str _ _ p c,RcAt.list_str _ _ p c,RcNeAt.list_str _ _ p c⟩
   |tup g i =>
     cases f;obtain⟨_,_,J,_⟩:=I.tuple g;exact⟨EqAt.list_tuple p J c,RcAt.list_tuple p J c,RcNeAt.list_tuple p J c⟩
   |lst g i=>exact absurd h (by simp[G5,Dt.kd])
def U7(I:Inv X pins σ H s){x:Value}(l:Aq X.K H v d)(te:Aq X.K H u e)(b:RelV v x)(i:RelV u y)(h:RcAt A s x y (dec (d=e))):EqAt A s x y (dec (d=e)):=by
 by_cases g:x=y;subst g;have j:=b.inj i;subst j;rw[FF (Aq.inj I l te)];exact EqAt.same _;intro f w E Q c;unfold eqBool;refine FN ?_;refine wpAny_ite_split (λk=>absurd (eq_of_beq k) g) (λζ=>?_)
 cases l with
 |non=>cases b;exact Ad (h f w E _ (F7 c))
 |bl a=>cases b;exact Ad (h f w E _ (F7 c))
 |int a=>obtain⟨t,rfl⟩:=b;exact Ad (h f w E _ (F7 c))
 |str a=>obtain⟨t,rfl⟩:=b;exact Ad (h f w E _ (F7 c))
 |tup _ _=>cases b;exact Ad (h f w E _ (F7 c))
 |lst _ _=>cases b;exact Ad (h f w E _ (F7 c))
def NW(h:G5 d.kd e.kd=true):¬d=e:=λz=>by
 subst z;simp[G5] at h
set_option tactic.hygienic true in
mutual
theorem U8 (I:Inv X pins σ H s) {n:Nat} {d e:Dt} {v u:V} {x y:Value} {A:Around} (c:Fq n d e) (l:Aq X.K H v d) (te:Aq X.K H u e) (g:RelV v x) (i:RelV u y) (O:A.units+n<cLine):RcAt A s x y (dec (d=e))/\RcNeAt A s x y (!dec (d=e)):=by
 cases c with
 | non =>
   cases l;cases te;cases g;cases i;rw[FF rfl];exact⟨RcAt.none_none,RcNeAt.none_none⟩
 | bl a b =>
   cases l;cases te;cases g;cases i;rw[<-R9 (a:=a) (b:=b) (by simp)];exact⟨RcAt.bool_bool a b,RcNeAt.bool_bool a b⟩
 | int a b =>
   cases l;cases te;obtain⟨t,rfl⟩:=g;obtain⟨f,rfl⟩:=i;rw[<-R9 (a:=a) (b:=b) (by simp)];exact⟨RcAt.int_int a t b f,RcNeAt.int_int a t b f⟩
 | str a b =>
   cases l;cases te;obtain⟨t,rfl⟩:=g;obtain⟨f,rfl⟩:=i;rw[<-R9 (a:=a) (b:=b) (by simp)];exact⟨RcAt.str_str a t b f,RcNeAt.str_str a t b f⟩
 | @tup n ds es c =>
   cases l;cases te;rename_i a F h t b G D f;cases g;cases i;obtain⟨m,r,p,_⟩:=I.tuple h;obtain⟨o,w,k,_⟩:=I.tuple D;have J:=r.length;have K:=w.length;have L:=t.length;have M:=f.length;have B:=U5 (A:=A.in1) I r w t f (Lv I c (by rw[Hv];lia))
   have e:dec (Dt.tup ds=Dt.tup es)=((List.range (min m.toArray.size o.toArray.size)).all (fun j=>dec (ds[j]?=es[j]?)) && m.toArray.size == o.toArray.size):=by
    rw[MJ (p:=Dt.tup ds=Dt.tup es) (q:=ds=es) (by simp)];simp only[Cw];by_cases C:ds.length=es.length
    rw[show(m.length == o.length)=true from beq_iff_eq.mpr (by lia),Bool.and_true,U6 (by lia) C]
    rw[show(m.length == o.length)=false from beq_false_of_ne (by lia),Bool.and_false,Gh fun z=>C (by rw[z])]
   rw[e];exact⟨RcAt.tuples (A:=A) p k (by lia) B,RcNeAt.tuples (A:=A) p k (by lia) B⟩
 | @lst n ds es c =>
   cases l;cases te;rename_i a F h t b G D f;cases g;cases i;obtain⟨m,r,p,_⟩:=I.list h;obtain⟨o,w,k,_⟩:=I.list D;have J:=r.length;have K:=w.length;have L:=t.length;have M:=f.length;by_cases C:ds.length=es.length;have B:=U5 (A:=A.in1) I r w t f (Lv I c (by rw[Hv];lia));rw[MJ (p:=Dt.lst ds=Dt.lst es) (q:=ds=es) (by simp),<-U6 (n:=m.toArray.size) (by simp only[Cw];lia) C];exact⟨RcAt.lists (A:=A) p.isList k.isList (by simp only[Cw];lia) (by lia) B,RcNeAt.lists (A:=A) p.isList k.isList (by simp only[Cw];lia) (by lia) B⟩
   rw[Gh (show ¬Dt.lst ds=Dt.lst es from fun z=>C (by cases z;rfl))]
   have E:(m.toArray.size != o.toArray.size)=true:=by simp only[Cw];rw[bne_iff_ne];lia
   exact⟨RcAt.lists_lengths p.isList k.isList E (by lia),RcNeAt.lists_lengths p.isList k.isList E (by lia)⟩
 | apart h =>
   obtain⟨_,h1,N⟩:=X5 (A:=A) I h l te g i (by lia);rw[Gh (NW h)];exact⟨h1,N⟩
theorem Lv (I:Inv X pins σ H s) {n:Nat} {ds es:List Dt} {A:Around} (c:CA n ds es) (f:A.units+n<cLine)
 (i:Nat) (d e:Dt) (v u:V) (x y:Value) (h:ds[i]?=some d) (h':es[i]?=some e) (a:RelV v x) (b:RelV u y) (l:Aq X.K H v d) (te:Aq X.K H u e):EqAt A s x y (dec (d=e)):=by
 cases c with
 | nil=>simp at h
 | nil'=>simp at h'
 | cons c t=>cases i with
   | zero =>
     simp at h h';subst h;subst h';have g:=U8 (A:=A) I c l te a b f;exact U7 I l te a b g.1
   | succ i=>exact Lv I t f i d e v u x y (by simpa using h) (by simpa using h') a b l te
end
def U9(I:Inv X pins σ H s){x:Value}(c:Fq n d e)(l:Aq X.K H v d)(te:Aq X.K H u e)(a:RelV v x)(b:RelV u y)(f:A.units+n<cLine):EqAt A s x y (dec (d=e)):=
 U7 I l te a b (U8 I c l te a b f).1
end
section
variable {X:Cx}
def Sa (K:Ai):R2:=λx y H Q=>∃n d ds a vs,(∀e∈ds,Fq n e d)/\n<=60/\Aq K H x d/\y=.ref a/\Ag K H a vs/\Am K H vs ds/\Q (.bl (dec (d∈ds))) H
def Jg (K:Ai):R2:=λx y H Q=>∃n d ds a vs,(∀e∈ds,Fq n e d)/\n<=60/\Aq K H x d/\y=.ref a/\Ag K H a vs/\Am K H vs ds/\Q (.bl (!dec (d∈ds))) H
def Va(I:Inv X pins σ H s){d:Dt}{vs:List V}{b:List Value}{x:Value}(r:Ax vs b)(t:Am X.K H vs ds)(C:∀e∈ds,Fq n e d)(l:Aq X.K H v d)(D:RelV v x)(E:A.units+n<cLine) :
 (∀y,y∈b.toArray->EqAt A s y x (dec (∃u,RelV u y/\Aq X.K H u d)))/\b.toArray.any (λy=>dec (∃u,RelV u y/\Aq X.K H u d))=dec (d∈ds):=by
 have L:=r.length;have lt:=t.length
 have one:∀y,y∈b->∃e∈ds,∃u,RelV u y/\Aq X.K H u e:=λy a=>by
  obtain⟨i,g,e⟩:=OW.mp a;obtain⟨M,B,j⟩:=r.get (i:=i) (x:=vs[i]'(by lia)) (AC (by lia));obtain⟨F,c,te⟩:=t.get (i:=i) (v:=vs[i]'(by lia)) (AC (by lia));rw[AC g,e] at B;cases B;exact⟨F,Bi c,_,j,te⟩
 refine⟨λy a=>?_,?_⟩;obtain⟨e,c,u,f,te⟩:=one y (by simpa using a);have:=U9 (A:=A) I (C e c) te l f D E
 rw[MJ (p:=∃u,RelV u y/\Aq X.K H u d) (q:=e=d) ⟨λ⟨G,m,o⟩=>by
  have k:=f.inj m;subst k
  exact Aq.inj I te o,λz=>⟨u,f,by rw[<-z];exact te⟩⟩]
 exact this;by_cases h:d∈ds;rw[FF h,Array.any_eq_true];obtain⟨i,g,e⟩:=OW.mp h;obtain⟨u,K,te⟩:=t.get' (i:=i) (d:=d) (by rw[AC g,e]);obtain⟨y,a,j⟩:=r.get K;have w:i<b.length:=(Bf.mp a).1;refine⟨i,by simpa using w,?_⟩
 have:b.toArray[i]'(by simpa using w)=y:=by
  rw[AC w] at a;simpa using a
 rw[this];exact FF ⟨u,j,te⟩;rw[Gh h,Bool.eq_false_iff];intro q;obtain⟨i,g,q⟩:=Array.any_eq_true.mp q;obtain⟨u,f,te⟩:=Fs.mp q;obtain⟨e,c,G,m,o⟩:=one (b.toArray[i]) (by simp);have k:=f.inj m;subst k;have J:=Aq.inj I te o;subst J;exact h c
def Lw(i:X.A.units+64<cLine):DG X (compareOp .In) (Sa X.K):=by
 intro pins s σ H x y v u Q I b c h;obtain⟨n,d,ds,a,j,e,k,l,rfl,f,t,q⟩:=h;cases c;obtain⟨m,r,p,_⟩:=I.list f;obtain⟨h1,g⟩:=Va (A:=X.A.in1) I r t e l b (by rw[Hv];lia);exact in_listAt _ p.isList h1 (by rw[g];exact⟨.bl _,H,I,rfl,q⟩)
def Vb(i:X.A.units+64<cLine):DG X (compareOp .NotIn) (Jg X.K):=by
 intro pins s σ H x y v u Q I b c h;obtain⟨n,d,ds,a,j,e,k,l,rfl,f,t,q⟩:=h;cases c;obtain⟨m,r,p,_⟩:=I.list f;obtain⟨h1,g⟩:=Va (A:=X.A.in1) I r t e l b (by rw[Hv];lia);exact notIn_listAt _ p.isList h1 (by rw[g];exact⟨.bl _,H,I,rfl,q⟩)
end
end L2
namespace Ord
variable {α:Type} [DecidableEq α]
def nodup_sub_length{l m:List α}(h:l.Nodup)(a:∀x∈l,x∈m):l.length<=m.length:=by
 induction l generalizing m with
 |nil=>simp
 |cons x r f =>
   have b:=a x (by simp);have c:=(Gr.mp h)
   have:r.length<=(m.erase x).length:=f c.2 (λy d=>by
    have g:=a y (by simp[d]);have ne:y≠x:=λe=>c.1 (e▸d)
    exact(List.mem_erase_of_ne ne).mpr g)
   rw[List.length_erase_of_mem b] at this;have i:0<m.length:=List.length_pos_of_mem b
   simp;lia
end Ord
namespace War
end War
namespace Ord
variable {α:Type} [DecidableEq α]
end Ord
namespace L2
open PySem PySem.Spec PyProof.Rows Ord
def Jh{α:Type}{xs:List α}{v:α}(h:xs[xs.length-1]?=some v):Bj xs (-1)=some v:=by
 have a:xs.length-1<xs.length:=(Bf.mp h).1;unfold Bj Gz;rw[Al (by decide),An (by lia)];show xs[(-1+(xs.length:Int)).toNat]?=some v;rw[show(-1+(xs.length:Int)).toNat=xs.length-1 by lia];exact h
def Ji:([]:List V).length+1<=sizeLine:=by decide
def BS:([]:List V).length+1+1<=sizeLine:=by decide
theorem Am.of_get{K:Ai}{H:Hp}:∀{vs:List V}{a:List Dt},vs.length=a.length->(∀(n:Nat)v d,vs[n]?=some v->a[n]?=some d->Aq K H v d)->Am K H vs a
 |[],[],_,_=>.nil
 |v::vs,d::a,b,h=>.cons (h 0 v d rfl rfl) (Am.of_get (by simpa using b) λn x y c e=>h (n+1) x y (by simpa using c) (by simpa using e))
structure Cs (H:Hp) (ts:List Addr) (ps:A'):Prop where
 len:ts.length=ps.length
 at_:∀(n:Nat)t p,ts[n]?=some t->ps[n]?=some p->H t=some (.tup [.str p.1,.str p.2])
variable {H:Hp}
def Cs.nil:Cs H [] []:=⟨rfl,λn t p h=>by simp at h⟩
def Cs.same{H':Hp}{ts:List Addr}{ps:A'}(e:Ac H H')(h:Cs H ts ps):Cs H' ts ps:=⟨h.len,λn t p a b=>e _ _ (h.at_ n t p a b)⟩
def Cs.snoc{t:Addr}{ts:List Addr}{ps:A'}{p:Str×Str}(h:Cs H ts ps)(e:H t=some (.tup [.str p.1,.str p.2])):Cs H (ts++[t]) (ps++[p]):=by
 refine⟨by rw[AQ,AQ,h.len];rfl,λn d f a b=>?_⟩;by_cases c:n<ts.length;rw[E4 c] at a;rw[E4 (by rw[<-h.len];exact c)] at b;exact h.at_ n d f a b
 have g:n=ts.length:=by
  have:=(Bf.mp a).1;rw[AQ,Ec] at this;lia
 subst g;rw[Fn (AG _)] at a;rw[Fn (by rw[h.len];exact AG _)] at b;simp at a;simp[h.len] at b;subst a;subst b;exact e
variable {a:Addr}
def NY{K:Ai}{xs:List V}{k:Nat}{e:List Nat}{g:TG}{te:TE}{σ:St}{U:Hp}{Q:Addr->Hp->Prop}(Pv:Addr->Nat->List V->Hp->Prop)
 (f:∀D,U D=none->Pv D 0 [] (upd U D (.lst []))) (b:∀D i ys Y,Pv D i ys Y->Ag K Y a xs)
 (h:∀D i x ys Y(R:VK),U D=none->xs[i]?=some x->Pv D i ys Y->(∀y c,c D=some (.lst ys)->ys.length<sizeLine->Pv D (i+1) (ys++[y]) (upd c D (.lst (ys++[y])))->R y c)->g x (FT k e σ) Y λσ4 j=>te σ4 j R)
 (hd:∀D ys Y,U D=none->Pv D xs.length ys Y->Q D Y):Ku (MC K a) k e g Hr te σ U Q:=NU xs.length Pv f (λD i ys Y p d=>⟨xs,xs[i],b D i ys Y p,by simp[d]⟩) (λD ys Y p=>⟨xs,b D _ ys Y p,AG _⟩) (λD i ys Y x m R n l d p y k o=>by obtain⟨rfl,y⟩:=y;exact h D i x ys _ R l (y xs (b D i ys _ p)) p k) hd
def AF.ex{P:Program}{w:World}{h:Heap}{o:HO}(x:AF P w H h a o):∃u,h.get? a=some u:=by
 cases o with
 |lst b=>obtain⟨_,_,_,_,e⟩:=x;exact⟨_,e⟩
 |tup b=>obtain⟨_,_,_,u,e,_⟩:=x;exact⟨u,e⟩
 |dK c=>obtain⟨_,_,_,_,u,_,_,e,_⟩:=x;exact⟨u,e⟩
 |dT c=>obtain⟨_,_,_,_,u,_,_,e,_⟩:=x;exact⟨u,e⟩
 |set S n=>obtain⟨u,_,_,_,e,_⟩:=x;exact⟨u,e⟩
 |ins C d fs=>obtain⟨_,_,_,e,_⟩:=x;exact⟨_,e⟩
 |own y=>exact x
 |xd fs=>obtain⟨_,⟨u,_,_,e,_⟩,_⟩:=x;exact⟨u,e⟩
 |rng lo g=>obtain⟨_,_,_,e⟩:=x;exact⟨_,e⟩
 |frz i u=>obtain⟨e,_⟩:=x;exact⟨_,e⟩
 |tbl j=>exact⟨_,(show h.get? a=some _ from x)⟩
 |met f y=>exact⟨_,(show h.get? a=some _ from x)⟩
 |ext φ=>exact x.2.1
def Inv.freshN{X:Cx}{pins:B'}{σ:L2.St}{s:Shared}(I:Inv X pins σ H s)(d:∀b u,s.heap.get? b=some u->b≠a):H a=none:=by
 cases e:H a with
 |none=>rfl
 |some o =>
   obtain⟨u,c⟩:=(I.hok a o e).ex;exact absurd rfl (d a u c)
def Inv.laidN{X:Cx}{pins:B'}{σ:L2.St}{s:Shared}{h':Heap}{o:HO}{t':Nat}(I:Inv X pins σ H s)(k:∀b u,s.heap.get? b=some u->h'.get? b=some u)(h:∀b u,s.heap.get? b=some u->b≠a)(i:AF X.prog X.w (upd H a o) h' a o) :
 Inv X pins σ (upd H a o) {s with heap:=h',toks:=t'}:=by
 have d:=I.freshN h;refine I.un ⟨λb u q ζ ζ ζ=>k b u q,λb u q ζ ζ ζ=>⟨u.slots,k b u q⟩,λb u q n ζ=>by rw[AH (h b u q)];exact n,λb u q ζ=>⟨u,k b u q⟩,λb f q=>by rw[AH (AW q d)];exact q,λb u f q=>by rw[AH (AW q d)];exact q,λb j q=>⟨#[],by rw[AH (AW q d),q];simp⟩⟩ λb u e=>?_;by_cases g:b=a;subst g;rw[Aa] at e;cases e;exact i;rw[AH g] at e;exact(I.hok b u e).stay (λc v ζ q=>k c v q) (λc q=>by rw[AH (AW q d)];exact q) λc f q=>by rw[AH (AW q d)];exact q
section
variable {prog:Program} {w:World} {A:Around} {E:D'} {s:Shared}
end
section
variable {X:Cx}
end
end L2
namespace HT
open PySem PyProof.Rows
section
open PySem.SeqAt
open PySem.AutoSeq1 (wpAny_loadPart')
open PySem.MeetsSeq PySem.MeetsSeq2 PySem.MeetsSeq3
end
section
variable {prog:Program} {w:World} {A:Around} {E:D'} {s:Shared}
end
end HT
namespace L2
open PySem PySem.Spec PyProof.Rows
section
variable {X:Cx}
def X6{ss:List Str}:∀{c:List Value},Ax (ss.map V.str) c->StrsAre c ss:=by
 induction ss with
 |nil=>intro c h;cases h;exact .nil
 |cons x r d =>
   intro c h
   cases h with
   |cons a b =>
     obtain⟨t,rfl⟩:=a;exact .cons _ _ (d b)
end
end L2
namespace L2
end L2
namespace KasM
open PySem PySem.W PyProof.Rows
set_option autoImplicit false
def Tw {α:Type} (lt:Nat->Nat->Bool) (n:Nat):KasT α->(α->Prop)->Prop
 |.ret a,Q=>Q a
 |.ask i j k,Q=>i<n/\j<n/\Tw lt n (k (lt i j)) Q
theorem MK{α β:Type}{lt:Nat->Nat->Bool}{n:Nat}{f:α->KasT β}{Q:β->Prop}:∀(t:KasT α),Tw lt n t (λa=>Tw lt n (f a) Q)->Tw lt n (t.bind f) Q
 |.ret _,h=>h
 |.ask _ _ k,⟨b,c,d⟩=>⟨b,c,MK (k _) d⟩
theorem Tw_mono{α:Type}{lt:Nat->Nat->Bool}{n:Nat}{Q b:α->Prop}(c:∀a,Q a->b a):∀(t:KasT α),Tw lt n t Q->Tw lt n t b
 |.ret a,h=>c a h
 |.ask _ _ k,⟨d,e,f⟩=>⟨d,e,Tw_mono c (k _) f⟩
theorem Tw_wp{α:Type}{lt:Nat->Nat->Bool}{n:Nat}{c:Nat->Nat->(Bool->Shared->Prop)->Shared->Prop}{s:Shared}{Q:α->Shared->Prop}(b:∀i j C,i<n->j<n->C (lt i j) s->c i j C s) :
 ∀(t:KasT α),Tw lt n t (λa=>Q a s)->t.kasWp c Q s
 |.ret _,h=>h
 |.ask _ _ k,⟨d,e,f⟩=>b _ _ _ d e (Tw_wp b (k _) f)
section
variable {O:KeyOrd} {key:Nat->O.α} {n:Nat}
def K (key:Nat->O.α) (p:Array Nat) (i:Nat):O.α:=key (p.getD i 0)
def Asc (key:Nat->O.α) (p:Array Nat) (k:Nat):Prop:=∀i,i+1<k->O.kle (K key p i) (K key p (i+1))
def NZ (key:Nat->O.α) (p:Array Nat) (k:Nat):Prop:=∀i,i+1<k->O.kle (K key p (i+1)) (K key p i)
def Pm (n:Nat) (p:Array Nat):Prop:=p.Perm (List.range n).toArray
def Pm.size{p:Array Nat}(h:Pm n p):p.size=n:=by have:=h.size_eq;simpa using this
variable {p:Array Nat}
def Pm.lt(h:Pm n p)(b:0<n)(i:Nat):p.getD i 0<n:=by
 by_cases a:i<p.size;have e:p.getD i 0=p[i]:=(by simp[Array.getD,a]);rw[e];have:p[i]∈p:=Array.getElem_mem a;have c:=h.mem_iff.mp this;simpa using c;have e:p.getD i 0=0:=(by simp[Array.getD,a]);rw[e];exact b
variable {i j:Nat}
def X7(a:j<=p.size)(k:Nat):(kas_rev p i j).getD k 0=if i<=k/\k<j then p.getD (i+j-1-k) 0 else p.getD k 0:=by
 unfold kas_rev;simp only[Array.getD_eq_getD_getElem?];rw[getElem?_mirror_all a];split<;>rfl
variable {k:Nat}
def X8{l:Nat}(a:k<p.size)(b:l<=k)(t:Nat):(bubble p k (k-l)).getD t 0=if t=l then p.getD k 0 else if l<t/\t<=k then p.getD (t-1) 0 else p.getD t 0:=by
 simp only[Array.getD_eq_getD_getElem?];rw[getElem?_bubble a _ (by lia)];rw[show k-(k-l)=l by lia];split;rfl;split<;>rfl
def Pm.rev(h:Pm n p)(i j:Nat):Pm n (kas_rev p i j):=(mirror_perm _ _ _ _).trans h
def Pm.bub(h:Pm n p)(i j:Nat):Pm n (bubble p i j):=(bubble_perm _ _ _).trans h
def Vc(a:j<=p.size)(k:Nat):K key (kas_rev p i j) k=if i<=k/\k<j then K key p (i+j-1-k) else K key p k:=by
 unfold K;rw[X7 a];split<;>rfl
def Sb(b:j<=p.size)(a:∀k,i<=k->k<j->K key p k=K key p (j-1))(k:Nat):K key (kas_rev p i j) k=K key p k:=by
 rw[Vc b];split;rw[a _ (by lia) (by lia),a k (by lia) (by lia)];rfl
def X9{l:Nat}(a:k<p.size)(b:l<=k)(t:Nat):K key (bubble p k (k-l)) t=if t=l then K key p k else if l<t/\t<=k then K key p (t-1) else K key p t:=by
 unfold K;rw[X8 a b];split;rfl;split<;>rfl
theorem Asc.le{p:Array Nat}{k:Nat}(h:Asc key p k){i:Nat}:∀(d:Nat),i+d<k->O.kle (K key p i) (K key p (i+d))
 |0,_=>KeyOrd.kle_refl _
 |d+1,hd=>KeyOrd.kle_trans (h.le d (by lia)) (h (i+d) (by lia))
def Asc.le'(h:Asc key p k)(b:i<=j)(a:j<k):O.kle (K key p i) (K key p j):=by
 have:=h.le (i:=i) (j-i) (by lia)
 rwa [show i+(j-i)=j by lia] at this
abbrev lt (O:KeyOrd) (key:Nat->O.α) (i j:Nat):Bool:=O.blt (key i) (key j)
theorem Sc{p:Array Nat}(b:Pm n p)(c:0<n):∀(f a:Nat),1<=a->Tw (lt O key) n (kas_asc p f a) λm=>a<=m/\m<=a+f/\(∀i,a-1<=i->i+1<m->O.kle (K key p i) (K key p (i+1)))/\(m<a+f->O.klt (K key p m) (K key p (m-1)))
 |0,a,_=>⟨AG _,AG _,λi d g=>by lia,λh=>by lia⟩
 | f + 1,a,q=>by
   refine⟨b.lt c _,b.lt c _,?_⟩
   cases j:lt O key (p.getD a 0) (p.getD (a-1) 0) with
   |true =>
     simp only[if_true];exact⟨AG _,by lia,λi d g=>by lia,λζ=>j⟩
   |false =>
     simp only[FD,if_false];refine Tw_mono ?_ _ (Sc b c f (a+1) (by lia));rintro m ⟨d,g,k,l⟩;refine⟨by lia,by lia,λi r o=>?_,λh=>l (by lia)⟩;by_cases e:i=a-1;subst e;rw[show a-1+1=a by lia];exact j;exact k i (by lia) o
theorem Po(c:0<n):∀(f:Nat)(p:Array Nat)(a q:Nat),Pm n p->a+f<=n->NZ key p a->q+1<=a->(∀k,a-(q+1)<=k->k<a->K key p k=K key p (a-1)) ->
 Tw (lt O key) n (kas_desc f p a q) λr=>Pm n r.1/\a<=r.2.1/\r.2.1<=a+f/\NZ key r.1 r.2.1/\r.2.2+1<=r.2.1/\(∀k,r.2.1-(r.2.2+1)<=k->k<r.2.1->K key r.1 k=K key r.1 (r.2.1-1))
 |0,p,a,q,b,_,hd,o,d=>⟨b,AG _,AG _,hd,o,d⟩
 | f + 1,p,a,q,b,E,hd,o,d=>by
   have hz:=b.size;refine⟨b.lt c _,b.lt c _,?_⟩
   cases u:lt O key (p.getD a 0) (p.getD (a-1) 0) with
   |true =>
     have t:O.klt (K key p a) (K key p (a-1)):=u
     have z:NZ key p (a+1):=λi s=>by
      by_cases e:i+1=a;rw[e];have:i=a-1:=by lia
      rw[this];exact KeyOrd.kle_of_klt t;exact hd i (by lia)
     simp only[if_true];by_cases A:q > 0;rw[An A];have Z:=Sb (key:=key) (p:=p) (i:=a-(q+1)) (j:=a) (by lia) d;refine Tw_mono ?_ _ (Po c f _ (a+1) 0 (b.rev _ _) (by lia) (λi s=>by rw[Z,Z];exact z i s) (by lia) (λk v w=>by rw[show k=a+1-1 by lia]));rintro r ⟨g,x,y,h,l,m⟩;exact⟨g,by lia,by lia,h,l,m⟩;rw[Al A];refine Tw_mono ?_ _ (Po c f _ (a+1) 0 b (by lia) z (by lia) (λk v w=>by rw[show k=a+1-1 by lia]));rintro r ⟨g,x,y,h,l,m⟩;exact⟨g,by lia,by lia,h,l,m⟩
   |false =>
     have t:O.kle (K key p (a-1)) (K key p a):=u;simp only[FD,if_false];refine⟨b.lt c _,b.lt c _,?_⟩
     cases D:lt O key (p.getD (a-1) 0) (p.getD a 0) with
     |true =>
       simp only[if_true];exact⟨b,AG _,Nat.le_add_right _ _,hd,o,d⟩
     |false =>
       have B:O.kle (K key p a) (K key p (a-1)):=D;have C:K key p a=K key p (a-1):=KeyOrd.kle_antisymm B t;simp only[FD,if_false];refine Tw_mono ?_ _ (Po c f _ (a+1) (q+1) b (by lia) (λi s=>?_) (by lia) (λk v w=>?_));rintro r ⟨g,x,y,h,l,m⟩;exact⟨g,by lia,by lia,h,l,m⟩;by_cases e:i+1=a;rw[e];have:i=a-1:=by lia
       rw[this];exact B;exact hd i (by lia);rw[show a+1-1=a by lia];by_cases e:k=a;rw[e];rw[d k (by lia) (by lia),C]
abbrev Sd (key:Nat->O.α) (n:Nat) (r:Nat×Array Nat):Prop:=Pm n r.2/\1<=r.1/\r.1<=n/\Asc key r.2 r.1
def Vd(c:0<n){a:Nat}(b:Pm n p)(d:1<=a)(k:a<=n)(hd:NZ key p a):Tw (lt O key) n (kas_tail3 a n p) (Sd key n):=by
 unfold kas_tail3;have l:=b.size;have Z:=Vc (key:=key) (p:=p) (i:=0) (j:=a) (by lia);refine MK _ (Tw_mono ?_ _ (Sc (O:=O) (key:=key) (b.rev 0 a) c (n-a) a d));rintro m ⟨o,q,f,_⟩;refine⟨b.rev _ _,by show 1<=m;lia,by show m<=n;lia,λi g=>?_⟩;have h:i+1<m:=g;by_cases e:a-1<=i;exact f i e h;show O.kle (K key (kas_rev p 0 a) i) (K key (kas_rev p 0 a) (i+1));rw[Z,Z,An (by lia),An (by lia)];have:=hd (0+a-1-(i+1)) (by lia)
 rwa [show 0+a-1-(i+1)+1=0+a-1-i by lia] at this
def Ve(c:0<n){a:Nat}(f:Pm n p)(g:1<=a)(t:a+1<=n)(hd:NZ key p (a+1)):Tw (lt O key) n (kas_descPart a n p) (Sd key n):=by
 unfold kas_descPart;refine MK _ (Tw_mono ?_ _ (Po (O:=O) (key:=key) c (n-(a+1)) p (a+1) 0 f (by lia) hd (by lia) (λk g u=>by rw[show k=a+1-1 by lia])));rintro⟨h,m,q⟩ ⟨b,l,o,d,r,e⟩;dsimp only at b l o d r e ⊢;have v:=b.size;split;have Z:=Sb (key:=key) (p:=h) (i:=m-(q+1)) (j:=m) (by lia) e;exact Vd c (b.rev _ _) (by lia) (by lia) λi s=>by rw[Z,Z];exact d i s
 exact Vd c b (by lia) (by lia) d
def Yb(b:0<n)(a:Pm n p):Tw (lt O key) n (kas_count n p) (Sd key n):=by
 unfold kas_count;have w:=a.size;refine MK _ (Tw_mono ?_ _ (Sc (O:=O) (key:=key) a b (n-1) 1 (AG _)));rintro m ⟨c,x,r,s⟩;have d:Asc key p m:=λi f=>r i (by lia) f;by_cases g:(m==n)=true;rw[An g];exact⟨a,c,by show m<=n;lia,d⟩;rw[Al g]
 have y:m<n:=by
  have:m≠n:=λq=>g (by rw[q];exact beq_self_eq_true _);lia
 have l:=s (by lia);by_cases o:m > 1;rw[An o];refine⟨a.lt b _,a.lt b _,?_⟩
 cases t:lt O key (p.getD 0 0) (p.getD (m-1) 0) with
 |true =>
   simp only[if_true];exact⟨a,c,by show m<=n;lia,d⟩
 |false =>
   have v:O.kle (K key p (m-1)) (K key p 0):=t;simp only[FD,if_false]
   have h:∀k,0<=k->k<m->K key p k=K key p (m-1):=λk ζ u =>
    KeyOrd.kle_antisymm (d.le' (by lia) (by lia)) (KeyOrd.kle_trans v (d.le' (by lia) u))
   have Z:=Sb (key:=key) (p:=p) (i:=0) (j:=m) (by lia) h;refine Ve b (a.rev _ _) c (by lia) λi f=>?_;rw[Z,Z];by_cases e:i+1=m;rw[e,show i=m-1 by lia];exact KeyOrd.kle_of_klt l;rw[h i (by lia) (by lia),h (i+1) (by lia) (by lia)];exact KeyOrd.kle_refl _
 rw[Al o];refine Ve b a c (by lia) λi f=>?_;have:m=1:=(by lia);subst this;obtain rfl:i=0:=by lia
 exact KeyOrd.kle_of_klt l
theorem Se(c:0<n){p:Array Nat}{k:Nat}(d:Pm n p)(g:Asc key p k):∀(f l r:Nat),r-l<=f->l<=r->r<=k->(∀i,i<l->O.kle (K key p i) (K key p k))->(∀i,r<=i->i<k->O.klt (K key p k) (K key p i)) ->
 Tw (lt O key) n (kas_place p k f l r) λm=>m<=k/\(∀i,i<m->O.kle (K key p i) (K key p k))/\(∀i,m<=i->i<k->O.klt (K key p k) (K key p i))
 |0,l,r,t,u,q,h,j=>⟨by lia,h,λi a b=>j i (by lia) b⟩
 | f + 1,l,r,t,u,q,h,j=>by
   unfold kas_place;by_cases e:l ≥ r;rw[An e];exact⟨by lia,h,λi a b=>j i (by lia) b⟩;rw[Al e];refine⟨d.lt c _,d.lt c _,?_⟩
   cases s:lt O key (p.getD k 0) (p.getD ((l+r)/2) 0) with
   |true =>
     have o:O.klt (K key p k) (K key p ((l+r)/2)):=s;simp only[if_true];exact Se c d g f l ((l+r)/2) (by lia) (by lia) (by lia) h λi a b=>KeyOrd.klt_of_klt_of_kle o (g.le' a b)
   |false =>
     have o:O.kle (K key p ((l+r)/2)) (K key p k):=s;simp only[FD,if_false];exact Se c d g f ((l+r)/2+1) r (by lia) (by lia) q (λi a=>KeyOrd.kle_trans (g.le' (by lia) (by lia)) o) j
theorem Hw (h0:0<n):∀ (f:Nat) (p:Array Nat) (k:Nat),Pm n p->k+f=n->Asc key p k->Tw (lt O key) n (kas_bin f p k) fun p'=>Pm n p'/\Asc key p' n
 | 0, p, k, hp, hk, ha => ⟨hp, by have : k = n := by lia
                                  rw[<-this];exact ha⟩
 |f+1,p,k,hp,hk,ha=>by
   have hz:=hp.size;unfold kas_bin;refine MK _ (Tw_mono ?_ _ (Se (O:=O) (key:=key) h0 hp ha k 0 k (by lia) (by lia) (AG _) (λi h=>by lia) λi a b=>by lia));rintro l ⟨b1,b2,b3⟩;have Z:=X9 (key:=key) (p:=p) (k:=k) (l:=l) (by lia) b1;refine Hw h0 f _ (k+1) (hp.bub _ _) (by lia) λi hi=>?_;rw[Z,Z];by_cases e1:i=l;rw[An e1,Al (by lia)];by_cases e2:i+1<=k;rw[An (by lia)];exact KeyOrd.kle_of_klt (b3 (i+1-1) (by lia) (by lia));lia;rw[Al e1];by_cases e2:i+1=l;rw[An e2,Al (by lia)];exact b2 i (by lia);rw[Al e2];by_cases e3:l<i;rw[An (by lia),An (by lia)];have:=ha (i-1) (by lia)
   rwa [show i-1+1=i+1-1 by lia] at this
   rw[Al (by lia),Al (by lia)];exact ha i (by lia)
def sort_ok(h0:0<n):Tw (lt O key) n (kas_sort n) λp=>Pm n p/\Asc key p n:=by
 unfold kas_sort;refine MK _ (Tw_mono ?_ _ (Yb (O:=O) (key:=key) h0 (Array.Perm.refl _)));rintro⟨m,p⟩ ⟨b1,b2,b3,b4⟩;dsimp only at b1 b2 b3 b4 ⊢;split;rw[show max m 1=m by lia];exact Hw h0 _ _ _ b1 (by lia) b4
 exact ⟨b1, by have : m = n := by lia
               rw[<-this];exact b4⟩
end
end KasM
namespace L2
open PySem PySem.Spec PyProof.Rows
section
variable {prog:Program} {w:World} {A:Around} {E:D'} {s:Shared}
def Yc{O:KeyOrd}{key:Nat->O.α}{κ:SortKind}{a:Addr}{vs:List Value}{n:Nat}{P:PySem.Fin->Shared->Prop}(f:s.heap.get? a=some (seqObj "list" vs.toArray n))(L:vs.length<64)
 (T:2<=vs.length->∀(h':Heap),(∀b o,b≠a->s.heap.get? b=some o->h'.get? b=some o)->∀(Q:SortKind->Shared->Prop),Q κ {s with heap:=h'}->wpAny (model prog w) A (keyKind' vs.toArray) Q (λζ ζ=>False) {s with heap:=h'})
 (N:∀(h':Heap),(∀b o,b≠a->s.heap.get? b=some o->h'.get? b=some o)->∀(i j:Nat)(C:Bool->Shared->Prop),i<vs.length->j<vs.length->C (O.blt (key i) (key j)) {s with heap:=h'}->PySem.W.kas_ask prog w A κ vs i j C {s with heap:=h'})
 (h:∀d:List Nat,d.Perm (List.range vs.length)->(∀i,i+1<d.length->O.kle (key (d.getD i 0)) (key (d.getD (i+1) 0)))->P (.done (.ret .none)) {s with heap:=sortedHeap s.heap a vs (d.map λi=>vs.getD i Value.none).toArray}) :
 wpAny (model prog w) A (Builtin.«list.sort» ⟨[.ref a],[]⟩) P E s:=by
 rw[list_sort_plain];have v:a<s.heap.objs.size:=Bt f;have V:vs.toArray.size=vs.length:=(by simp);refine Ad (listItems_at f rfl ?_);refine Ad (listUpdate_at f rfl ?_ (by rw[Cw,sizeLine_eq];lia) (Df _));obtain⟨r,z⟩:∃r,(s.heap.update a (Obj.mapSeq λζ=>#[])).get? a=some (seqObj "list" #[] r):=⟨_,get?_update_seq f (λζ=>#[])⟩;refine Ad (seqEpoch_at z rfl ?_);refine Ad (wpAny_newTuple ?_ (by show vs.length<=_;rw[sizeLine_eq];lia));refine Ad (wpAny_newList ?_ (Df _));refine FN ?_
 have l:(((s.heap.update a (Obj.mapSeq λζ=>#[])).push (seqObj "tuple" vs.toArray 0)).push (seqObj "list" #[] 0)).get? a=some (seqObj "list" #[] r):=by
  rw[Heap.get?_push_ne _ _ _ (by rw[size_push',Heap.size_update];exact CO (Nat.lt_succ_of_lt v)),Heap.get?_push_ne _ _ _ (by rw[Heap.size_update];exact CO v)];exact z
 have keep:∀b o,b≠a->s.heap.get? b=some o->(((s.heap.update a (Obj.mapSeq λζ=>#[])).push (seqObj "tuple" vs.toArray 0)).push (seqObj "list" #[] 0)).get? b=some o:=λb o D q=>by
  refine Bg _ (Bg _ ?_);rw[Heap.get?_update_ne _ _ _ _ D];exact q
 show wpAny (model prog w) A _ P E {s with heap:=((s.heap.update a (Obj.mapSeq λζ=>#[])).push (seqObj "tuple" vs.toArray 0)).push (seqObj "list" #[] 0)};dsimp only;by_cases g:vs.toArray.size<2;rw[An g,An g];refine Ad (AB ?_);rw[StateT.run_pure];refine Ad (AB ?_);dsimp only;refine Ad (seqEpoch_at l rfl ?_);refine Ad (listUpdate_at l rfl ?_ (Df _) (by rw[Array.size_map];show(pairsOf vs).size<=_;rw[pairsOf_size,sizeLine_eq];lia));simp only[bne_self_eq_false,FD,if_false];have:=h (List.range vs.length) (List.Perm.refl _) (λi t=>by rw[List.length_range] at t;lia)
 have e:((List.range vs.length).map λi=>vs.getD i Value.none).toArray=(arrOf (SortSt.mk' general' (vs.toArray.zip vs.toArray) #[] 7 none)).map (·.2):=by
  apply Array.toList_inj.mp;show(List.range vs.length).map (λi=>vs.getD i Value.none)=((vs.toArray.zip vs.toArray).map (·.2)).toList;apply List.ext_getElem?;intro k;by_cases y:k<vs.length;simp[y,BC];simp[y]
 rw[e] at this;exact AB this;rw[Al g,Al g];have B:2<=vs.length:=(by lia);refine Ad (FP (T B _ keep (λκ' Z=>κ'=κ/\Z=_) ⟨rfl,rfl⟩) ?_ λζ ζ x=>x.elim);rintro κ' Z ⟨rfl,rfl⟩
 refine Ad (FP (PySem.W.kat_run (Q:=λm Z=>∃p:Array Nat,arrOf m=p.map (PySem.W.kas_item (vs.toArray.zip vs.toArray))/\failedOf m=none/\KasM.Pm vs.length p/\KasM.Asc key p vs.length/\Z={s with heap:=((s.heap.update a (Obj.mapSeq λζ=>#[])).push (seqObj "tuple" vs.toArray 0)).push (seqObj "list" #[] 0)})
  (G:=λp Z=>KasM.Pm vs.length p/\KasM.Asc key p vs.length/\Z={s with heap:=((s.heap.update a (Obj.mapSeq λζ=>#[])).push (seqObj "tuple" vs.toArray 0)).push (seqObj "list" #[] 0)})
  rfl B L (λF m Z U H I u=>⟨F,H,I,u.1,u.2.1,u.2.2⟩)
  (KasM.Tw_wp (lt:=KasM.lt O key) (n:=vs.length) (N _ keep) _ (KasM.Tw_mono (λp c=>⟨c.1,c.2,rfl⟩) _ (KasM.sort_ok (O:=O) (key:=key) (by lia))))) ?_ λζ ζ e=>e)
 rintro⟨⟨⟩,m⟩ Z ⟨p,M,J,c,R,rfl⟩;dsimp only;have S:=PySem.W.kat_snds (ks:=vs) (vs:=vs) rfl M;rw[S];refine Ad (seqEpoch_at l rfl ?_);refine Ad (listUpdate_at l rfl ?_ (Df _) (by rw[Cw,Aj,Array.length_toList,c.size,sizeLine_eq];lia));rw[J];simp only[bne_self_eq_false,FD,if_false];refine AB (h p.toList (by have:=Array.perm_iff_toList_perm.mp c;simpa using this) λi t=>?_);have K:=c.size;have:=R i (by simpa [K] using t);simpa [KasM.K,Array.getD_eq_getD_getElem?,BC] using this
def Sf{O:KeyOrd}{key:Nat->O.α}{κ:SortKind}{l:Addr}{vs:List Value}{Q:D'}(g:s.heap.IsList l vs.toArray)(v:vs.length<64)
 (y:2<=vs.length->∀(h':Heap),(∀b o,s.heap.get? b=some o->h'.get? b=some o)->∀(Q:SortKind->Shared->Prop),Q κ {s with heap:=h'}->wpAny (model prog w) A.in1.in1 (keyKind' vs.toArray) Q (λζ ζ=>False) {s with heap:=h'})
 (x:∀(h':Heap),(∀b o,s.heap.get? b=some o->h'.get? b=some o)->∀(i j:Nat)(C:Bool->Shared->Prop),i<vs.length->j<vs.length->C (O.blt (key i) (key j)) {s with heap:=h'}->PySem.W.kas_ask prog w A.in1.in1 κ vs i j C {s with heap:=h'})
 (h:∀(D:Addr)(h':Heap)(n:Nat)(a:List Nat),(∀b o,s.heap.get? b=some o->h'.get? b=some o)->(∀b o,s.heap.get? b=some o->b≠D)->a.Perm (List.range vs.length)->(∀i,i+1<a.length->O.kle (key (a.getD i 0)) (key (a.getD (i+1) 0))) ->
  h'.get? D=some (seqObj "list" (a.map λi=>vs.getD i Value.none).toArray n)->Q (.ref D) {s with heap:=h'}) :
 wpAny (model prog w) A (call (.builtin "sorted") [.ref l]) Q E s:=by
 refine Calls.call_function_entry kind_sorted plain_sorted entry_sorted (args_sorted1 _) ?_;unfold Builtin.«sorted»;refine Ad (m:=checkCount "sorted" 1 1 _) (AB ?_);refine Ad (collect_list g ?_ (by rw[sizeLine_eq];lia));refine Ad (wpAny_newList ?_ (by rw[sizeLine_eq];lia))
 have d:((s.heap.push (seqObj "list" #[] 0)).update s.heap.objs.size (Obj.mapSeq (·++vs.toArray))).objs.size=s.heap.objs.size+1:=by
  rw[Heap.size_update,size_push']
 have e:(((s.heap.push (seqObj "list" #[] 0)).update s.heap.objs.size (Obj.mapSeq (·++vs.toArray))).push (seqObj "list" vs.toArray 0)).get? (s.heap.objs.size+1)=some (seqObj "list" vs.toArray 0):=by
  rw[<-d];exact Ci _ rfl
 have keep:∀b o,s.heap.get? b=some o->(((s.heap.push (seqObj "list" #[] 0)).update s.heap.objs.size (Obj.mapSeq (·++vs.toArray))).push (seqObj "list" vs.toArray 0)).get? b=some o:=λb o q=>by
  have f:b<s.heap.objs.size:=Bt q;rw[Heap.get?_push_ne _ _ _ (by rw[d];exact CO (Nat.lt_succ_of_lt f)),Heap.get?_update_ne _ _ _ _ (CO f),Heap.get?_push_ne _ _ _ (CO f)];exact q
 have c:∀b o,s.heap.get? b=some o->b≠s.heap.objs.size+1:=λb o q=>CO (Nat.lt_succ_of_lt (Bt q));show wpAny _ _ _ _ _ {s with heap:=((s.heap.push (seqObj "list" #[] 0)).update s.heap.objs.size (Obj.mapSeq (·++vs.toArray))).push (seqObj "list" vs.toArray 0)};rw[d];refine Ad (FN (wpAny_call_entry slot_list_sort ⟨_,e,rfl⟩ entry_list_sort ?body (args_list_sort _)))
 case body =>
  refine Yc (s:={s with heap:=((s.heap.push (seqObj "list" #[] 0)).update s.heap.objs.size (Obj.mapSeq (·++vs.toArray))).push (seqObj "list" vs.toArray 0)}) (key:=key) (κ:=κ) e v
   (λp h' k=>y p h' λb o q=>k b o (c b o q) (keep b o q)) (λh' k=>x h' λb o q=>k b o (c b o q) (keep b o q)) λa r t=>?_
  obtain⟨n,u⟩:=sortedHeap_at (vs:=vs) (out:=(a.map λi=>vs.getD i Value.none).toArray) e;refine⟨_,rfl,AB ⟨_,rfl,h (s.heap.objs.size+1) _ n a (λb o q=>?_) c r t u⟩⟩;show(sortedHeap (((s.heap.push (seqObj "list" #[] 0)).update s.heap.objs.size (Obj.mapSeq (·++vs.toArray))).push (seqObj "list" vs.toArray 0)) (s.heap.objs.size+1) vs _).get? b=some o;rw[sortedHeap_old (c b o q) (Bt (keep b o q))];exact keep b o q
end
@[reducible] def BL (O P:KeyOrd):KeyOrd where
 α:=O.α×P.α
 blt x y:=O.blt x.1 y.1 || (!O.blt y.1 x.1 && P.blt x.2 y.2)
 irrefl x:=by simp[O.irrefl,P.irrefl]
 trans x y z h1 h2:=by
  simp only[Bool.or_eq_true,Bool.and_eq_true,Bool.not_eq_true'] at h1 h2 ⊢;rcases h1 with h1|⟨h1,k1⟩<;>rcases h2 with h2|⟨h2,k2⟩;exact .inl (O.trans _ _ _ h1 h2);exact .inl (KeyOrd.klt_of_klt_of_kle h1 h2);exact .inl (KeyOrd.klt_of_kle_of_klt h1 h2);exact .inr ⟨KeyOrd.kle_trans (O:=O) h1 h2,P.trans _ _ _ k1 k2⟩
 negTrans x y z h:=by
  simp only[Bool.or_eq_true,Bool.and_eq_true,Bool.not_eq_true'] at h ⊢;rcases h with h|⟨h,k⟩;rcases O.negTrans _ y.1 _ h with h|h;exact .inl (.inl h);exact .inr (.inl h)
  cases e1:O.blt x.1 y.1 with
  |true=>exact .inl (.inl rfl)
  |false =>
    cases e2:O.blt y.1 z.1 with
    |true=>exact .inr (.inl rfl)
    |false =>
      have a1:O.kle y.1 x.1:=e1;have a2:O.kle z.1 y.1:=e2;have a3:O.kle x.1 z.1:=h;have b1:O.blt y.1 x.1=false:=KeyOrd.kle_trans (O:=O) a3 a2;have b2:O.blt z.1 y.1=false:=KeyOrd.kle_trans (O:=O) a1 a3;rcases P.negTrans _ y.2 _ k with k|k;exact .inl (.inr ⟨b1,k⟩);exact .inr (.inr ⟨b2,k⟩)
 total x y h1 h2:=by
  simp only[Bool.or_eq_false_iff,Bool.and_eq_false_iff,Bool.not_eq_false'] at h1 h2;have e1:x.1=y.1:=O.total _ _ h1.1 h2.1;have e2:x.2=y.2:=P.total _ _ (by rcases h1.2 with z|z;exact absurd (h2.1.symm.trans z) (by simp);exact z) (by rcases h2.2 with z|z;exact absurd (h1.1.symm.trans z) (by simp);exact z);exact Prod.ext e1 e2
@[reducible] def C6:KeyOrd where
 α:=Str
 blt a b:=decide (a.cps.toList<b.cps.toList)
 irrefl a:=by simpa using List.lt_irrefl a.cps.toList
 trans a b c h1 h2:=by simp only[decide_eq_true_eq] at *;exact List.lt_trans h1 h2
 negTrans a b c h:=by
  simp only[decide_eq_true_eq] at *
  by_cases hab:a.cps.toList<b.cps.toList;exact .inl hab;exact .inr (List.lt_of_le_of_lt (List.not_lt.mp hab) h)
 total a b h1 h2:=by simp only[decide_eq_false_iff_not] at *;exact ext_toList (List.le_antisymm (List.not_lt.mp h2) (List.not_lt.mp h1))
@[reducible] def Jj:KeyOrd where
 α:=Int
 blt a b:=decide (a<b)
 irrefl a:=by simp
 trans a b c h1 h2:=by simp only[decide_eq_true_eq] at *;lia
 negTrans a b c h:=by simp only[decide_eq_true_eq] at *;lia
 total a b h1 h2:=by simp only[decide_eq_false_iff_not] at *;lia
structure Iv where
 O:KeyOrd
 val:O.α->V
 dflt:O.α
 T:Value
 tT:(T==T)=true
 tN:(T != Value.type "tuple")=true
 look:∀(M:Model)(h:Heap)(a:O.α)(u:Value),RelV (val a) u->PySem.W.Looks M h (typeOf u) T
 eqB:∀(prog:Program)(w:World)(A:Around)(E:D')(s:Shared)(a b:O.α)(u v:Value)(Q:Bool->Shared->Prop),RelV (val a) u->RelV (val b) v->(∀e:Bool,(e=true↔a=b)->Q e s)->wpAny (model prog w) A (eqBool u v) Q E s
 ltB:∀(prog:Program)(w:World)(A:Around)(E:D')(s:Shared)(a b:O.α)(u v:Value)(Q:Bool->Shared->Prop),RelV (val a) u->RelV (val b) v->Q (O.blt a b) s->wpAny (model prog w) A (oneLt' true u v) Q E s
 ltC:∀(prog:Program)(w:World)(A:Around)(E:D')(s:Shared)(a b:O.α)(u v:Value)(Q:Bool->Shared->Prop),RelV (val a) u->RelV (val b) v->Q (O.blt a b) s->wpAny (model prog w) A (oneLt' false u v) Q E s
@[reducible] def ER:Iv where
 O:=C6
 val:=V.str
 dflt:=default
 T:=.type "str"
 tT:=by decide
 tN:=by decide
 look M h a u r:=by obtain⟨t,rfl⟩:=r;exact PySem.W.Looks.of_pure rfl
 eqB prog w A E s a b u v Q r r' h:=by
  obtain⟨t,rfl⟩:=r;obtain⟨t',rfl⟩:=r';exact eqBool_str (h _ (by simp))
 ltB prog w A E s a b u v Q r r' h:=by
  obtain⟨t,rfl⟩:=r;obtain⟨t',rfl⟩:=r';exact oneLt_str h
 ltC prog w A E s a b u v Q r r' h:=by
  obtain⟨t,rfl⟩:=r;obtain⟨t',rfl⟩:=r';exact PySem.W.kat_one _ _ (PySem.P.lt_str h)
@[reducible] def Jk:Iv where
 O:=Jj
 val:=V.int
 dflt:=0
 T:=.type "int"
 tT:=by decide
 tN:=by decide
 look M h a u r:=by obtain⟨t,rfl⟩:=r;exact PySem.W.Looks.of_pure rfl
 eqB prog w A E s a b u v Q r r' h:=by
  obtain⟨t,rfl⟩:=r;obtain⟨t',rfl⟩:=r';exact wpAny_eqBool_int (h _ (by simp))
 ltB prog w A E s a b u v Q r r' h:=by
  obtain⟨t,rfl⟩:=r;obtain⟨t',rfl⟩:=r';exact oneLt_int h
 ltC prog w A E s a b u v Q r r' h:=by
  obtain⟨t,rfl⟩:=r;obtain⟨t',rfl⟩:=r';exact PySem.W.kat_one _ _ (PySem.P.lt_int h)
variable {c d:Iv}
def Jl(x y:(BL c.O d.O).α)(e:x.1=y.1):(BL c.O d.O).blt x y=d.O.blt x.2 y.2:=by
 show(c.O.blt x.1 y.1 || (!c.O.blt y.1 x.1 && d.O.blt x.2 y.2))=_;rw[e,c.O.irrefl];rfl
def Jm(x y:(BL c.O d.O).α)(e:x.1≠y.1):(BL c.O d.O).blt x y=c.O.blt x.1 y.1:=by
 show(c.O.blt x.1 y.1 || (!c.O.blt y.1 x.1 && d.O.blt x.2 y.2))=_
 cases a:c.O.blt x.1 y.1 with
 |true=>rfl
 |false =>
   cases b:c.O.blt y.1 x.1 with
   |true=>rfl
   |false=>exact absurd (c.O.total _ _ a b) e
section
variable {prog:Program} {w:World} {A:Around} {E:D'} {s:Shared}
def Yd(c d:Iv){x y:Addr}{p q:(BL c.O d.O).α}{b f g i:Value}{Q:Bool->Shared->Prop}(r:IsTup s.heap x #[b,f])(t:IsTup s.heap y #[g,i])(j:RelV (c.val p.1) b)(k:RelV (d.val p.2) f)(l:RelV (c.val q.1) g)(o:RelV (d.val q.2) i)
 (h:Q ((BL c.O d.O).blt p q) s):wpAny (model prog w) A (keyLt' (tuples' true) (.ref x) (.ref y)) Q E s:=by
 obtain⟨F,B,_,n,u⟩:=r;obtain⟨G,C,_,m,v⟩:=t;refine PySem.W.kat_lt B u C v (PySem.W.kat_cons (c.eqB _ _ _ _ _ _ _ _ _ _ j l λe a=>?_))
 cases e with
 |false =>
   have D:p.1≠q.1:=λz=>C3 (a.mpr z);rw[Jm _ _ D] at h;exact PySem.W.kat_no (c.ltB _ _ _ _ _ _ _ _ _ _ j l h)
 |true =>
   rw[Jl _ _ (a.mp rfl)] at h;refine PySem.W.kat_yes (PySem.W.kat_cons (d.eqB _ _ _ _ _ _ _ _ _ _ k o λe a=>?_))
   cases e with
   |false=>exact PySem.W.kat_no (d.ltC _ _ _ _ _ _ _ _ _ _ k o h)
   |true =>
     refine PySem.W.kat_yes (PySem.W.kat_nil ?_);rw[a.mp rfl,d.O.irrefl] at h;exact h
end
theorem Pp{α:Type}{R:α->α->Prop}(tr:∀a b c,R a b->R b c->R a c):∀(l:List α),(∀i a b,l[i]?=some a->l[i+1]?=some b->R a b)->l.Pairwise R
 |[],_=>.nil
 |[x],_=>by simp
 |x::y::r,h=>by
   have f:=Pp tr (y::r) λi a b j k=>h (i+1) a b (by simpa using j) (by simpa using k);have g:R x y:=h 0 x y rfl rfl;refine List.pairwise_cons.mpr ⟨λz d=>?_,f⟩;rcases BO.mp d with e|d;rw[e];exact g;exact tr _ _ _ g ((List.pairwise_cons.mp f).1 z d)
section
variable {X:Cx}
abbrev Row (c d:Iv):Type:=V×(BL c.O d.O).α
def Lx (X:Cx) (c d:Iv):List V->Hp->VK->Prop:=λvs H Q=>∃(l:Addr)(zs:List (Row c d)),vs=[.ref l]/\Ag X.K H l (zs.map (·.1))/\zs.length<64 /\
 (∀z∈zs,∃t,z.1=.ref t/\Ao X.K H t [c.val z.2.1,d.val z.2.2])/\∀(D:Addr)(zs':List (Row c d)),zs'.Perm zs->(zs'.map (·.2)).Pairwise (BL c.O d.O).kle->H D=none->Q (.ref D) (upd H D (.lst (zs'.map (·.1))))
def HR (c d:Iv) (h:Heap) (z:Row c d) (v:Value):Prop:=∃t u1 u2,z.1=.ref t/\v=.ref t/\IsTup h t #[u1,u2]/\RelV (c.val z.2.1) u1/\RelV (d.val z.2.2) u2
def HR.keeps{c d:Iv}{h h':Heap}{z:Row c d}{v:Value}(k:∀b o,h.get? b=some o->h'.get? b=some o)(x:HR c d h z v):HR c d h' z v:=by
 obtain⟨t,a,e,f,g,i,j⟩:=x;exact⟨t,a,e,f,g,i.keeps k,j⟩
def Jn{h:Heap}(zs:List (Row c d))(f:List Value)(g:Paired (HR c d h) zs f):∃fs,PySem.W.KatTups h f fs/\fs.length=zs.length/\∀v∈fs,∃a,RelV (c.val a) v:=by
 induction g with
 |nil=>exact⟨[],.nil,rfl,λζ x=>by cases x⟩
 |cons i r j =>
   obtain⟨t,k,z,A,l,⟨o,m,p,n,q⟩,s,B⟩:=i;obtain⟨fs,u,w,y⟩:=j;subst l;refine⟨k::fs,.cons m p q rfl u,by simp[w],λv b=>?_⟩;rcases BO.mp b with e|b;exact⟨_,e▸s⟩;exact y v b
def N0{α β:Type}{R:α->β->Prop}{xs:List α}{ys:List β}(h:Paired R xs ys):∀(i:Nat)(b:α)(c:β),i<xs.length->R (xs.getD i b) (ys.getD i c):=by
 induction h with
 |nil=>intro i b c h;simp at h
 |cons a r d =>
   intro i b c h
   cases i with
   |zero=>exact a
   |succ i=>simpa using d i b c (by simpa using h)
theorem Pq{α β γ:Type}{R:α->β->Prop}{f:γ->α}{g:γ->β}:∀(l:List γ),(∀x∈l,R (f x) (g x))->Paired R (l.map f) (l.map g)
 |[],_=>.nil
 |x::l,h=>.cons (h x A3) (Pq l λy a=>h y (Ce _ a))
theorem Kw{c d:Iv}{pins:B'}{σ:L2.St}{H:Hp}{s:Shared}(I:Inv X pins σ H s):∀(zs:List (Row c d))(f:List Value),Ax (zs.map (·.1)) f->(∀z∈zs,∃t,z.1=.ref t/\Ao X.K H t [c.val z.2.1,d.val z.2.2])->Paired (HR c d s.heap) zs f
 |[],f,r,_=>by cases r;exact .nil
 | z :: zs,f,r,h=>by
   cases r with
   |cons a b =>
     obtain⟨t,e,j⟩:=h z A3;obtain⟨n,g,k,_⟩:=I.tuple j
     cases g with
     |cons g i =>
       cases i with
       |cons i l =>
         cases l;dsimp only at a;rw[e] at a;exact .cons ⟨t,_,_,e,a,k,g,i⟩ (Kw I zs _ b λy m=>h y (Ce _ m))
theorem Vf(c d:Iv):Bn X (.builtin "sorted") (Lx X c d):=by
 intro ar s σ H vs us ak I r h;obtain⟨l,b,rfl,Q,aq,R,q⟩:=h;obtain⟨u,rfl,S⟩:=F8 r;obtain rfl:u=Value.ref l:=S;obtain⟨g,U,W,_⟩:=I.list Q;have m:=Kw I b g U R;have N:b.length=g.length:=m.length
 let e:Row c d:=(V.non,(c.dflt,d.dflt))
 refine Sf (O:=BL c.O d.O) (key:=λi=>(b.getD i e).2) (κ:=tuples' true) (vs:=g) (by obtain⟨o,n,w,p,F,A⟩:=W;exact⟨o,w,p,n,A⟩) (by lia) (λB C k Q' Y=>?_) (λC k i j al z hj hC=>?_) λD C n f Z G M ae hg=>?_;have af:Paired (HR c d C) b g:=Paired.mapP m λζ ζ x=>x.keeps k;obtain⟨fs,k1,k2,k3⟩:=Jn _ _ af;refine PySem.W.kat_kind (T:=c.T) k1 (by lia) (λv E=>?_) c.tT (by rw[c.tN];exact Y);obtain⟨a,ha⟩:=k3 v E;exact c.look _ _ a v ha;obtain⟨t,u1,u2,w,p,F,A,a5⟩:=(N0 m i e Value.none (by lia)).keeps k;obtain⟨t',ao,v2,b1,b2,b3,b4,b5⟩:=(N0 m j e Value.none (by lia)).keeps k;unfold PySem.W.kas_ask;rw[p,b2];exact Yd c d F b3 A a5 b4 b5 hC
 have ag:∀i∈f,i<b.length:=λi z=>by
  have:=M.mem_iff.mp z;rw[N];simpa using this
 have aj:(List.range b.length).map (λi=>b.getD i e)=b:=by
  apply List.ext_getElem?;intro k;by_cases J:k<b.length;simp[J,BC];simp[J]
 have P:(f.map λi=>b.getD i e).Perm b:=by
  have:=M.map (λi=>b.getD i e)
  rwa [<-N,aj] at this
 have E:Ax ((f.map λi=>b.getD i e).map (·.1)) (f.map λi=>g.getD i Value.none):=by
  rw[Ep];refine Pq f λi z=>?_;obtain⟨t,u1,u2,w,p,_⟩:=N0 m i e Value.none (ag i z);show RelV (b.getD i e).1 (g.getD i Value.none);rw[w,p];exact rfl
 have ah:((f.map λi=>b.getD i e).map (·.2)).Pairwise (BL c.O d.O).kle:=by
  refine Pp (λζ ζ ζ=>KeyOrd.kle_trans) _ λi a an K B=>?_;rw[Ep,A6,F6] at K B;obtain⟨x,e1,rfl⟩:=K;obtain⟨y,L,rfl⟩:=B;obtain⟨ai,_⟩:=Bf.mp L;have:=ae i ai;have aa:f.getD i 0=x:=by rw[BC,e1];rfl
  have ab:f.getD (i+1) 0=y:=by rw[BC,L];rfl
  rw[aa,ab] at this;exact this
 exact⟨.ref D,upd H D (.lst ((f.map λi=>b.getD i e).map (·.1))),I.laidN (t':=s.toks) Z G ⟨by rw[Aj,P.length_eq];exact C9 (BP (by lia)),_,n,E,hg⟩,rfl,q D _ P ah (I.freshN G)⟩
end
open Ord
abbrev Hx (p:Str×Int):Dt:=.tup [.str p.1,.int p.2]
abbrev CK:Type:=List (Str×Int)×List Str
abbrev N1 (s:CK):Dt:=.tup [.lst (s.1.map Hx),.lst (s.2.map Dt.str)]
def C7 (K:Ai) (H:Hp) (a:Addr) (gs:List (Str×Int)):Prop:=∃vs,Ag K H a vs/\Am K H vs (gs.map Hx)
def Hy (K:Ai) (H:Hp) (a:Addr) (ss:List CK):Prop:=∃vs,Ag K H a vs/\Am K H vs (ss.map N1)
def C7.same{K:Ai}{H H':Hp}{a:Addr}{gs:List (Str×Int)}(e:Ac H H')(h:C7 K H a gs):C7 K H' a gs:=by
 obtain⟨b,c,d⟩:=h;exact⟨b,e.seq c,d.same e⟩
theorem Vg{K:Ai}{H:Hp}:∀{vs:List V}{xs:List Str},Am K H vs (xs.map Dt.str)->vs=xs.map V.str
 |_,[],.nil=>rfl
 |_,_::_,.cons h t=>by cases h;rw[Vg t];rfl
variable {H:Hp}{v:V}{p:Str×Int}
def Pr{K:Ai}(h:Aq K H v (Hx p)):∃t,v=.ref t/\Ao K H t [.str p.1,.int p.2]:=by
 cases h with
 | tup h t =>
   cases t with
   |cons a t =>
     cases t with
     |cons b t =>
       cases t;cases a;cases b;exact⟨_,rfl,h⟩
variable {vs:List V}{gs:List (Str×Int)}{i:Nat}
def Am.goes_get{K:Ai}(h:Am K H vs (gs.map Hx))(hv:vs[i]?=some v):∃p t,gs[i]?=some p/\v=.ref t/\Ao K H t [.str p.1,.int p.2]:=by
 obtain⟨d,hd,a⟩:=h.get hv;rw[A6] at hd
 cases e:gs[i]? with
 |none=>rw[e] at hd;cases hd
 |some p =>
   rw[e] at hd;cases hd;obtain⟨t,b,c⟩:=Pr a;exact⟨p,t,rfl,b,c⟩
def Kx{K:Ai}{s:CK}(h:Aq K H v (N1 s)):∃t g e,v=.ref t/\Ao K H t [.ref g,.ref e]/\C7 K H g s.1/\Ag K H e (s.2.map V.str):=by
 cases h with
 | tup h t =>
   cases t with
   |cons b t =>
     cases t with
     |cons c t =>
       cases t
       cases b with
       |lst d f =>
         cases c with
         |lst a i =>
           rw[Vg i] at a;exact⟨_,_,_,rfl,h,⟨_,d,f⟩,a⟩
variable {α:Type}
def Am.len_map{K:Ai}{f:α->Dt}{xs:List α}(h:Am K H vs (xs.map f)):vs.length=xs.length:=by
 have:=h.length
 rwa [Aj] at this
def Ye{b:List Value}{ss:List Str}(c:StrsAre b ss)(a:2<=b.length):keyKind' b.toArray=pure oneType':=by
 match b,c,a with
 |[],_,a=>simp at a
 |[_],_,a=>simp at a
 |d::e::j,c,_=>exact keyKind_strs c
section
variable {X:Cx}
def Ly (X:Cx):List V->Hp->VK->Prop:=λvs H Q=>∃(l:Addr)(ss:List Str),vs=[.ref l]/\Ag X.K H l (ss.map V.str)/\ss.length<64/\∀(D:Addr)(u:List Str),u.Perm ss->u.Pairwise C6.kle->H D=none->Q (.ref D) (upd H D (.lst (u.map V.str)))
theorem Yg:Bn X (.builtin "sorted") (Ly X):=by
 intro ai s σ H vs us ab I r h;obtain⟨l,a,rfl,F,ah,q⟩:=h;obtain⟨u,rfl,G⟩:=F8 r;obtain rfl:u=Value.ref l:=G;obtain⟨g,m,J,_⟩:=I.list F;have K:=X6 m;have C:a.length=g.length:=by have:=m.length;rwa [Aj] at this
 have p:∀i,i<a.length->∃t,g.getD i Value.none=.str (a.getD i default) t:=λi c=>by
  have:=N0 m i V.non Value.none (by rw[Aj];exact c)
  have e:(a.map V.str).getD i V.non=V.str (a.getD i default):=by
   rw[BC,A6,BC,AC c];rfl
  rw[e] at this;exact this
 refine Sf (O:=C6) (key:=λi=>a.getD i default) (κ:=oneType') (vs:=g) J.isList (by lia) (λd v k Q' L=>?_) (λv k i j ae c hj M=>?_) λD v n b Z w B T N=>?_;rw[Ye K d];exact AB L;obtain⟨t,o⟩:=p i (by lia);obtain⟨t',f⟩:=p j (by lia);unfold PySem.W.kas_ask;rw[o,f,keyLt'_oneType];exact oneLt_str M
 have U:∀i∈b,i<a.length:=λi c=>by
  have:=B.mem_iff.mp c;rw[C];simpa using this
 have aa:(List.range a.length).map (λi=>a.getD i default)=a:=by
  apply List.ext_getElem?;intro k;by_cases z:k<a.length;simp[z,BC];simp[z]
 have E:(b.map λi=>a.getD i default).Perm a:=by
  have:=B.map (λi=>a.getD i default)
  rwa [<-C,aa] at this
 have P:Ax ((b.map λi=>a.getD i default).map V.str) (b.map λi=>g.getD i Value.none):=by
  rw[Ep];exact Pq b λi c=>p i (U i c)
 have W:(b.map λi=>a.getD i default).Pairwise C6.kle:=by
  refine Pp (R:=C6.kle) (λζ ζ ζ h k=>KeyOrd.kle_trans (O:=C6) h k) _ λi af ag A d=>?_;rw[A6,F6] at A d;obtain⟨x,o,rfl⟩:=A;obtain⟨y,f,rfl⟩:=d;obtain⟨Y,_⟩:=Bf.mp f;have:=T i Y;have Q:b.getD i 0=x:=by rw[BC,o];rfl
  have S:b.getD (i+1) 0=y:=by rw[BC,f];rfl
  rw[Q,S] at this;exact this
 exact⟨.ref D,upd H D (.lst ((b.map λi=>a.getD i default).map V.str)),I.laidN (t':=s.toks) Z w ⟨by rw[Aj,E.length_eq];exact C9 (BP (by lia)),_,n,P,N⟩,rfl,q D _ E W (I.freshN w)⟩
end
abbrev Ps (K:Ai) (H:Hp) (z:Row ER Jk):Prop:=∃t,z.1=.ref t/\Ao K H t [V.str z.2.1,V.int z.2.2]
theorem Sg{K:Ai}{H:Hp}:∀{ts:List Addr}{gs:List (Str×Int)},ts.length=gs.length->(∀(n:Nat)(a:Addr)(p:Str×Int),ts[n]?=some a->gs[n]?=some p->H a=some (.tup [.str p.1,.int p.2])) ->
 ∃zs:List (Row ER Jk),zs.map (·.1)=ts.map V.ref/\zs.map (·.2)=gs/\∀z∈zs,Ps K H z
 |[],[],_,_=>⟨[],rfl,rfl,λz hz=>by cases hz⟩
 |[],_::_,h,_=>by simp at h
 |_::_,[],h,_=>by simp at h
 |a::ts,p::gs,h,k=>by
   obtain⟨zs,b,c,d⟩:=Sg (K:=K) (H:=H) (ts:=ts) (gs:=gs) (by simpa using h) λn a p b c=>k (n+1) a p (by simpa using b) (by simpa using c);refine⟨(V.ref a,p)::zs,by rw[E3,b];rfl,by rw[E3,c],λz hz=>?_⟩;rcases BO.mp hz with e|hz;rw[e];exact⟨a,rfl,Ao.of (k 0 a p rfl rfl)⟩;exact d z hz
theorem Sh{K:Ai}{H:Hp}:∀(zs:List (Row ER Jk)),(∀z∈zs,Ps K H z)->Am K H (zs.map (·.1)) ((zs.map (·.2)).map Hx)
 |[],_=>.nil
 |z::zs,h=>by
   obtain⟨t,e,a⟩:=h z A3;refine .cons ?_ (Sh zs λy b=>h y (Ce _ b));show Aq K H z.1 (Hx z.2);rw[e];exact .tup a (.cons (.str _) (.cons (.int _) .nil))
variable {a D:Addr}{o:HO}{xs:List V}
def Ag.updN{K:Ai}(b:a≠D)(h:Ag K H a xs):Ag K (upd H D o) a xs:=by
 rcases h with(h|⟨u,h⟩)|h;exact .inl (.inl (by rw[AH b];exact h));exact .inl (.inr ⟨u,by rw[AH b];exact h⟩);exact .inr h
def Ao.updL{K:Ai}{ys:List V}(b:H D=some (.lst ys))(h:Ao K H a xs):Ao K (upd H D o) a xs:=by
 rcases h with(h|⟨u,h⟩)|h;exact .inl (.inl (by rw[AH λz=>by rw[z,b] at h;cases h];exact h));exact .inl (.inr ⟨u,by rw[AH λz=>by rw[z,b] at h;cases h];exact h⟩);exact .inr h
theorem Vh{K:Ai}{H:Hp}{D:Addr}{o:HO}{ys:List V}(b:H D=some (.lst ys)):∀{vs:List V}{gs:List (Str×Int)},Am K H vs (gs.map Hx)->Am K (upd H D o) vs (gs.map Hx)
 |_,[],.nil=>.nil
 |_,p::gs,.cons h t=>by
   obtain⟨a,e,c⟩:=Pr h;subst e;exact .cons (.tup (c.updL b) (.cons (.str _) (.cons (.int _) .nil))) (Vh b t)
def C7.updL{K:Ai}{ys:List V}(b:H D=some (.lst ys))(c:a≠D)(h:C7 K H a gs):C7 K (upd H D o) a gs:=by
 obtain⟨vs,d,e⟩:=h;exact⟨vs,d.updN c,Vh b e⟩
structure AV (K:Ai) (F:Addr->Prop) (H:Hp) (D:Addr) (us:List Addr) (rs:List CK):Prop where
 len:us.length=rs.length
 at_:∀(i:Nat)(u:Addr)(r:CK),us[i]?=some u->rs[i]?=some r->∃G E xs,H u=some (.tup [.ref G,.ref E])/\C7 K H G r.1/\H G=some (.lst xs)/\H E=some (.lst (r.2.map V.str))/\G≠D/\E≠D/\F G/\F E
variable {F:Addr->Prop}
def AV.nil{K:Ai}:AV K F H D [] []:=⟨rfl,λi u r h=>by simp at h⟩
def AV.same{K:Ai}{F:Addr->Prop}{H H':Hp}{D:Addr}{a:List Addr}{b:List CK}(e:Ac H H')(h:AV K F H D a b):AV K F H' D a b:=by
 refine⟨h.len,λi u r c d=>?_⟩;obtain⟨G,E,xs,f,g,j,k,l,m,n⟩:=h.at_ i u r c d;exact⟨G,E,xs,e _ _ f,g.same e,e _ _ j,e _ _ k,l,m,n⟩
def AV.updL{K:Ai}{F:Addr->Prop}{H:Hp}{D:Addr}{o:HO}{ys:List V}{c:List Addr}{d:List CK}(e:H D=some (.lst ys))(h:AV K F H D c d):AV K F (upd H D o) D c d:=by
 refine⟨h.len,λi u r g j=>?_⟩;obtain⟨G,E,xs,a,k,l,m,b,f,n⟩:=h.at_ i u r g j;exact⟨G,E,xs,by rw[AH λz=>by rw[z,e] at a;cases a];exact a,k.updL e b,by rw[AH b];exact l,by rw[AH f];exact m,b,f,n⟩
variable {u G E:Addr}{us:List Addr}{rs:List CK}
def AV.snoc{K:Ai}{r:CK}(h:AV K F H D us rs)(d:H u=some (.tup [.ref G,.ref E]))(f:C7 K H G r.1)(g:H G=some (.lst xs))(j:H E=some (.lst (r.2.map V.str)))(k:G≠D)(l:E≠D)(m:F G)(n:F E):AV K F H D (us++[u]) (rs++[r]):=by
 refine⟨by rw[AQ,AQ,h.len];rfl,λi v q a b=>?_⟩;rcases Nat.lt_or_ge i us.length with c|p;rw[E4 c] at a;rw[E4 (by rw[<-h.len];exact c)] at b;exact h.at_ i v q a b;have o:i<(us++[u]).length:=(Bf.mp a).1;rw[AQ,Ec] at o;have e:i=us.length:=(by lia);subst e;rw[Fn (AG _),Nat.sub_self] at a;rw[Fn (by rw[h.len];exact AG _),h.len,Nat.sub_self] at b;cases a;cases b;exact⟨G,E,xs,d,f,g,j,k,l,m,n⟩
def G7:([]:List V).length+1+1+1<=sizeLine:=by decide
theorem AV.dts{K:Ai}{F:Addr->Prop}{H:Hp}{D:Addr}:∀{us:List Addr}{rs:List CK},AV K F H D us rs->Am K H (us.map V.ref) (rs.map N1)
 |[],[],_=>.nil
 |[],_::_,h=>by have:=h.len;simp at this
 |_::_,[],h=>by have:=h.len;simp at this
 |u::us,r::rs,h=>by
   obtain⟨G,E,xs,a,⟨g,b,f⟩,j,c,_⟩:=h.at_ 0 u r rfl rfl;refine .cons (.tup (Ao.of a) (.cons (.lst b f) (.cons (.lst (Ag.of c) (Am.strs _)) .nil))) ?_;exact AV.dts (D:=D) ⟨by simpa using h.len,λi v q d e=>h.at_ (i+1) v q (by simpa using d) (by simpa using e)⟩
def AV.stts{K:Ai}(e:H a=some (.lst (us.map V.ref)))(h:AV K F H a us rs):Hy K H a rs:=⟨_,Ag.of e,h.dts⟩
variable {O:KeyOrd}
def ML{l m:List O.α}(h:l.Perm m)(c:l.Pairwise O.kle)(d:m.Pairwise O.kle):l=m:=
 h.eq_of_pairwise (λa b ζ ζ x y=>KeyOrd.kle_antisymm x y) c d
structure GT (H:Hp) (ts:List Addr) (gs:List (Str×Int)):Prop where
 len:ts.length=gs.length
 at_:∀(n:Nat)(t:Addr)(p:Str×Int),ts[n]?=some t->gs[n]?=some p->H t=some (.tup [.str p.1,.int p.2])
def GT.nil:GT H [] []:=⟨rfl,λn t p h=>by simp at h⟩
variable {H':Hp}{ts:List Addr}
def GT.same(e:Ac H H')(h:GT H ts gs):GT H' ts gs:=⟨h.len,λn t p a b=>e _ _ (h.at_ n t p a b)⟩
def GT.updL(b:H a=some (.lst xs))(h:GT H ts gs):GT (upd H a o) ts gs:=⟨h.len,λn t p c d=>by
 have:=h.at_ n t p c d;rw[AH λz=>by rw[z,b] at this;cases this]
 exact this⟩
def GT.snoc{t:Addr}(h:GT H ts gs)(e:H t=some (.tup [.str p.1,.int p.2])):GT H (ts++[t]) (gs++[p]):=by
 refine⟨by rw[AQ,AQ,h.len];rfl,λn v q a b=>?_⟩;rcases Nat.lt_or_ge n ts.length with c|g;rw[E4 c] at a;rw[E4 (by rw[<-h.len];exact c)] at b;exact h.at_ n v q a b;have f:n<(ts++[t]).length:=(Bf.mp a).1;rw[AQ,Ec] at f;have d:n=ts.length:=(by lia);subst d;rw[Fn (AG _),Nat.sub_self] at a;rw[Fn (by rw[h.len];exact AG _),h.len,Nat.sub_self] at b;cases a;cases b;exact e
def GT.dts{K:Ai}(h:GT H ts gs):Am K H (ts.map V.ref) (gs.map Hx):=by
 obtain⟨a,b,c,d⟩:=Sg (K:=K) h.len h.at_;rw[<-b,<-c];exact Sh a d
variable {k n:Nat}{te:TE}{σ:St}
def Vi{c:List Nat}{g:TG}{U:Hp}{Q:Addr->Hp->Prop}{lo:Int}(Pv:Addr->Nat->List V->Hp->Prop)
 (d:∀D,U D=none->Pv D 0 [] (upd U D (.lst [])))
 (e:∀(D:Addr)(i:Nat)(ys:List V)(Y:Hp)(R:VK),U D=none->i<n->Pv D i ys Y->(∀y a,a D=some (.lst ys)->ys.length<sizeLine->Pv D (i+1) (ys++[y]) (upd a D (.lst (ys++[y])))->R y a)->g (.int (lo+i)) (FT k c σ) Y λσ4 f=>te σ4 f R)
 (hd:∀D ys Y,U D=none->Pv D n ys Y->Q D Y):Ku (MD lo n) k c g Hr te σ U Q:=NU n Pv d (λD i ys Y p b=>b) (λD ys Y p=>AG _) (λD i ys Y x j R l h b p y k m=>by obtain⟨rfl,rfl⟩:=y;exact e D i ys _ R h b p k) hd
structure Keeps (M:Addr->Prop) (H H':Hp):Prop where
 at_:∀x o,H x=some o->¬M x->H' x=some o
 ls:∀x o,M x->H x=some o->∃xs,o=HO.lst xs
section
variable {K:Ai} {M:Addr->Prop} {H H':Hp}
def Keeps.refl(h:∀x o,M x->H x=some o->∃xs,o=HO.lst xs):Keeps M H H:=⟨λζ ζ e ζ=>e,h⟩
def Keeps.set(k:Keeps M H H')(a:M D):Keeps M H (upd H' D o):=⟨λx u e n=>by
 have b:x≠D:=λz=>n (by rw[z];exact a)
 rw[AH b];exact k.at_ x u e n,k.ls⟩
def Keeps.one(a:H D=some (.lst xs)):Keeps (·=D) H (upd H D o):=
 ⟨λx u e n=>by rw[AH n];exact e,λx u m e=>by rw[m,a] at e;exact⟨xs,(B2 e).symm⟩⟩
def Keeps.same{Y:Hp}(k:Keeps M H H')(s:Ac H' Y):Keeps M H Y:=⟨λx o e n=>s _ _ (k.at_ x o e n),k.ls⟩
def Keeps.noT(k:Keeps M H H')(h:H a=some (.tup xs)):¬M a:=λm=>by
 obtain⟨_,e⟩:=k.ls _ _ m h;cases e
def Keeps.tup(k:Keeps M H H'){a:Addr}{xs:List V}(h:H a=some (.tup xs)):H' a=some (.tup xs):=k.at_ _ _ h (k.noT h)
def Keeps.tups(k:Keeps M H H'){ps:A'}(h:Cs H ts ps):Cs H' ts ps:=⟨h.len,λn t p a b=>k.tup (h.at_ n t p a b)⟩
end
def Vj{K:Ai}{j:List Nat}{g:TG}{l:TT}{U:Hp}{Q:Addr->Hp->Prop}(Pv:Addr->Nat->List V->Hp->Prop)
 (m:∀D,U D=none->Pv D 0 [] (upd U D (.lst []))) (e:∀D i ys Y,Pv D i ys Y->Ag K Y a xs)
 (n:∀D i x ys Y(R:VK)(d:Hp->Prop),U D=none->xs[i]?=some x->Pv D i ys Y->(∀y f,f D=some (.lst ys)->ys.length<sizeLine->Pv D (i+1) (ys++[y]) (upd f D (.lst (ys++[y])))->R y f)->(∀c,Pv D (i+1) ys c->d c)->g x (FT k j σ) Y λσ4 o=>l σ4 o λb c=>if b=true then te σ4 c R else d c)
 (hd:∀D ys Y,U D=none->Pv D xs.length ys Y->Q D Y):Ku (MC K a) k j g l te σ U Q:=NU xs.length Pv m (λD i ys Y p h=>⟨xs,xs[i],e D i ys Y p,by simp[h]⟩) (λD ys Y p=>⟨xs,e D _ ys Y p,AG _⟩) (λD i ys Y x s R d q h p y k r=>by obtain⟨rfl,y⟩:=y;exact n D i x ys _ R d q (y xs (e D i ys _ p)) p k r) hd
structure GA (K:Ai) (F:Addr->Prop) (H:Hp) (t:Addr) (rs:List CK) (n:Int) (ord:A'):Prop where
 ex:∃(a o:Addr)(us:List Addr)(ts:List Addr),H t=some (.tup [.ref a,.int n,.ref o])/\F a/\F o/\a≠o/\H a=some (.lst (us.map V.ref))/\AV K F H a us rs/\H o=some (.lst (ts.map V.ref))/\Cs H ts ord
def GA.same{K:Ai}{F:Addr->Prop}{H H':Hp}{t:Addr}{rs:List CK}{n:Int}{ord:A'}(s:Ac H H')(h:GA K F H t rs n ord):GA K F H' t rs n ord:=by
 obtain⟨a,o,us,ts,b,c,d,e,f,g,i,j⟩:=h.ex;exact⟨a,o,us,ts,s _ _ b,c,d,e,s _ _ f,g.same s,s _ _ i,j.same s⟩
section
variable {X:Cx}
end
abbrev B7:C'->Dt
 |none=>.non
 |some p=>Hx p
def Iw (K:Ai) (H:Hp) (a:Addr) (as:List (C')):Prop:=∃vs,Ag K H a vs/\Am K H vs (as.map B7)
abbrev Qu:Type:=Int×Int×List Str
section
variable {K:Ai} {H H':Hp} {a:Addr}
def Iw.same{b:List (C')}(e:Ac H H')(h:Iw K H a b):Iw K H' a b:=by
 obtain⟨vs,c,d⟩:=h;exact⟨vs,e.seq c,d.same e⟩
def Lz{o:C'}(h:Aq K H v (B7 o)):(o=none/\v=.non)\/∃p t,o=some p/\v=.ref t/\Ao K H t [.str p.1,.int p.2]:=by
 cases o with
 |none=>cases h;exact .inl ⟨rfl,rfl⟩
 |some p =>
   obtain⟨t,e,a⟩:=Pr h;exact .inr ⟨p,t,rfl,e,a⟩
def Iw.get{b:List (C')}(h:Iw K H a b)(g:k<b.length):∃vs v,Ag K H a vs/\vs[k]?=some v/\((b[k]?=some none/\v=.non)\/∃p t,b[k]?=some (some p)/\v=.ref t/\Ao K H t [.str p.1,.int p.2]):=by
 obtain⟨vs,j,l⟩:=h;have c:=AC g;obtain⟨v,m,hd⟩:=l.get' (i:=k) (d:=B7 b[k]) (by rw[A6,c];rfl);refine⟨vs,v,j,m,?_⟩;rcases Lz hd with⟨e,f⟩|⟨p,t,e,f,n⟩;exact .inl ⟨by rw[c,e],f⟩;exact .inr ⟨p,t,by rw[c,e],f,n⟩
def C7.get(h:C7 K H a gs)(b:gs[k]?=some p):∃vs t,Ag K H a vs/\vs[k]?=some (.ref t)/\Ao K H t [.str p.1,.int p.2]:=by
 obtain⟨vs,c,e⟩:=h;obtain⟨v,f,hd⟩:=e.get' (i:=k) (d:=Hx p) (by rw[A6,b];rfl);obtain⟨t,rfl,g⟩:=Pr hd;exact⟨vs,t,c,f,g⟩
end
structure QT (H:Hp) (ts:List Addr) (qs:List Qu):Prop where
 len:ts.length=qs.length
 at_:∀(n:Nat)(t:Addr)(q:Qu),ts[n]?=some t->qs[n]?=some q->∃u,H t=some (.tup [.int q.1,.int q.2.1,.ref u])/\H u=some (.tup (q.2.2.map V.str))
def QT.nil:QT H [] []:=⟨rfl,λn t p h=>by simp at h⟩
variable {qs:List Qu}
def QT.same(e:Ac H H')(h:QT H ts qs):QT H' ts qs:=⟨h.len,λn t p a b=>by
 obtain⟨u,c,d⟩:=h.at_ n t p a b
 exact⟨u,e _ _ c,e _ _ d⟩⟩
variable {M:Addr->Prop}
def QT.keeps(k:Keeps M H H')(h:QT H ts qs):QT H' ts qs:=⟨h.len,λn t p a b=>by
 obtain⟨u,c,d⟩:=h.at_ n t p a b
 exact⟨u,k.tup c,k.tup d⟩⟩
def GT.keeps(k:Keeps M H H')(h:GT H ts gs):GT H' ts gs:=⟨h.len,λn t p a b=>k.tup (h.at_ n t p a b)⟩
def QT.snoc{t:Addr}{q:Qu}(h:QT H ts qs)(e:H t=some (.tup [.int q.1,.int q.2.1,.ref u]))(d:H u=some (.tup (q.2.2.map V.str))):QT H (ts++[t]) (qs++[q]):=by
 refine⟨by rw[AQ,AQ,h.len];rfl,λn v f a b=>?_⟩;rcases Nat.lt_or_ge n ts.length with c|j;rw[E4 c] at a;rw[E4 (by rw[<-h.len];exact c)] at b;exact h.at_ n v f a b;have i:n<(ts++[t]).length:=(Bf.mp a).1;rw[AQ,Ec] at i;have g:n=ts.length:=(by lia);subst g;rw[Fn (AG _),Nat.sub_self] at a;rw[Fn (by rw[h.len];exact AG _),h.len,Nat.sub_self] at b;cases a;cases b;exact⟨u,e,d⟩
def ES (ths:List (Str×Int)) (as:List (C')) (q:Int):Str×Int:=match as[q.toNat]? with
 |some (some p)=>if p.1=("thing" : Str) then(match ths[p.2.toNat]? with
   |some k=>if k.1=("part" : Str) then("to",k.2) else("no",0)
   |none=>("no",0)) else("no",0)
 |some none=>("open",q)
 |none=>("no",0)
def Eo (ths:List (Str×Int)) (as:List (C')) (p:Str×Int):Str×Int:=
 if p.1=("part" : Str) then("to",p.2) else if p.1=("sort" : Str) then ES ths as p.2 else("no",0)
structure GB (ths:List (Str×Int)) (as:List (C')):Prop where
 q:∀p∈ths,p.1=("sort" : Str)->0<=p.2/\p.2<as.length
 t:∀p,some p∈as->p.1=("thing" : Str)->0<=p.2/\p.2<ths.length
variable {ths:List (Str×Int)}{as:List (C')}
def Yh(h:as[n]?=some none):ES ths as (n:Int)=(("open" : Str),(n:Int)):=by
 unfold ES;rw[BK,h]
def Yi(h:as[n]?=some (some p))(a:p.1≠("thing" : Str)):ES ths as (n:Int)=(("no" : Str),0):=by
 unfold ES;rw[BK,h];exact Al a
variable {m:Nat}
def Yj{k:Str×Int}(h:as[n]?=some (some p))(a:p.1=("thing" : Str))(b:p.2=(m:Int))(c:ths[m]?=some k)(d:k.1=("part" : Str)):ES ths as (n:Int)=(("to" : Str),k.2):=by
 unfold ES;rw[BK,h]
 show(if p.1=("thing" : Str) then _ else _)=_
 rw[An a,b,BK,c];exact An d
def Yk{k:Str×Int}(h:as[n]?=some (some p))(a:p.1=("thing" : Str))(b:p.2=(m:Int))(c:ths[m]?=some k)(d:k.1≠("part" : Str)):ES ths as (n:Int)=(("no" : Str),0):=by
 unfold ES;rw[BK,h]
 show(if p.1=("thing" : Str) then _ else _)=_
 rw[An a,b,BK,c];exact Al d
variable {x:Str}
def Jo{X:Cx}{L:Pos}{e:Expr}{op:Operator}{a:R2}{t:Pos}(b:X.N.Nodup)(c:X.N[i]?=some x)(d:Loc X.env.scope x)(f:PE X e te)(g:DG X (inplaceOp op) a)(h:X.fn x=true\/X.env.scope.names.lookup x=some .local:=by first|exact .inl rfl|exact .inr rfl|assumption) :
 PS X (.AugAssign (.Name x t) op e L) (Nu i te a):=Lc b c d f g h
abbrev Ck:Type:=Str×Str×Int
abbrev ET (p:Ck):List V:=[.str p.1,.str p.2.1,.int p.2.2]
abbrev Ef:Type:=Str×Str×Str×Int
abbrev Ct (p:Ef):List V:=[.str p.1,.str p.2.1,.str p.2.2.1,.int p.2.2.2]
section
variable {α:Type} {f:α->List V} {H H':Hp} {ts:List Addr} {rs:List α}
structure RT (f:α->List V) (H:Hp) (ts:List Addr) (rs:List α):Prop where
 len:ts.length=rs.length
 at_:∀(n:Nat)(t:Addr)(r:α),ts[n]?=some t->rs[n]?=some r->H t=some (.tup (f r))
def RT.nil:RT f H [] []:=⟨rfl,λn t p h=>by simp at h⟩
def RT.same(e:Ac H H')(h:RT f H ts rs):RT f H' ts rs:=⟨h.len,λn t p a b=>e _ _ (h.at_ n t p a b)⟩
def RT.keeps(k:Keeps M H H')(h:RT f H ts rs):RT f H' ts rs:=⟨h.len,λn t p a b=>k.tup (h.at_ n t p a b)⟩
def RT.snoc{t:Addr}{r:α}(h:RT f H ts rs)(e:H t=some (.tup (f r))):RT f H (ts++[t]) (rs++[r]):=by
 refine⟨by rw[AQ,AQ,h.len];rfl,λn v q a b=>?_⟩;rcases Nat.lt_or_ge n ts.length with c|i;rw[E4 c] at a;rw[E4 (by rw[<-h.len];exact c)] at b;exact h.at_ n v q a b;have g:n<(ts++[t]).length:=(Bf.mp a).1;rw[AQ,Ec] at g;have d:n=ts.length:=(by lia);subst d;rw[Fn (AG _),Nat.sub_self] at a;rw[Fn (by rw[h.len];exact AG _),h.len,Nat.sub_self] at b;cases a;cases b;exact e
def RT.dts{K:Ai}{g:α->Dt}(c:∀(r:α)(t:Addr),H t=some (.tup (f r))->Aq K H (.ref t) (g r))(h:RT f H ts rs):Am K H (ts.map V.ref) (rs.map g):=by
 refine Am.of_get (by simpa using h.len) λn v d a b=>?_;rw[A6] at a b;obtain⟨t,e,rfl⟩:=F6.mp a;obtain⟨q,i,rfl⟩:=F6.mp b;exact c q t (h.at_ n t q e i)
end
abbrev AY:Type:=List Ck×List Ef
structure G8 (H:Hp) (u G E:Addr) (s:AY):Prop where
 u:H u=some (.tup [.ref G,.ref E])
 g:∃ts:List Addr,H G=some (.lst (ts.map V.ref))/\RT ET H ts s.1
 e:∃ts:List Addr,H E=some (.lst (ts.map V.ref))/\RT Ct H ts s.2
def G8.same{H H':Hp}{u G E:Addr}{s:AY}(e:Ac H H')(h:G8 H u G E s):G8 H' u G E s:=by
 obtain⟨a,⟨ts,b,c⟩,⟨us,d,f⟩⟩:=h;exact⟨e _ _ a,⟨ts,e _ _ b,c.same e⟩,⟨us,e _ _ d,f.same e⟩⟩
def G8.keeps{M:Addr->Prop}{H H':Hp}{u G E:Addr}{s:AY}(k:Keeps M H H')(b:¬M G)(c:¬M E)(h:G8 H u G E s):G8 H' u G E s:=by
 obtain⟨a,⟨ts,d,e⟩,⟨us,f,g⟩⟩:=h;exact⟨k.tup a,⟨ts,k.at_ _ _ d b,e.keeps k⟩,⟨us,k.at_ _ _ f c,g.keeps k⟩⟩
structure C8 (H:Hp) (D:Addr) (us Gs Es:List Addr) (ss:List AY):Prop where
 top:H D=some (.lst (us.map V.ref))
 lu:us.length=ss.length
 lg:Gs.length=ss.length
 le:Es.length=ss.length
 at_:∀(i:Nat)(u G E:Addr)(s:AY),us[i]?=some u->Gs[i]?=some G->Es[i]?=some E->ss[i]?=some s->G8 H u G E s
def C8.same{H H':Hp}{D:Addr}{us a b:List Addr}{ss:List AY}(e:Ac H H')(h:C8 H D us a b ss):C8 H' D us a b ss:=
 ⟨e _ _ h.top,h.lu,h.lg,h.le,λi u G E s c d f g=>(h.at_ i u G E s c d f g).same e⟩
variable {Gs Es:List Addr}{ss:List AY}
def C8.get(h:C8 H D us Gs Es ss)(a:i<ss.length) :
 ∃u G E,us[i]?=some u/\Gs[i]?=some G/\Es[i]?=some E/\ss[i]?=some ss[i]/\G8 H u G E ss[i]:=by
 have b:us[i]?=some (us[i]'(by rw[h.lu];exact a)):=AC _;have c:Gs[i]?=some (Gs[i]'(by rw[h.lg];exact a)):=AC _;have d:Es[i]?=some (Es[i]'(by rw[h.le];exact a)):=AC _;exact⟨_,_,_,b,c,d,AC a,h.at_ i _ _ _ _ b c d (AC a)⟩
def C8.step(h:C8 H D us Gs Es ss)(q:(D::(Gs++Es)).Nodup){t:Addr}{p:Ck}(g:i<ss.length)(b:Gs[i]?=some G)(r:H G=some (.lst (ts.map V.ref)))(T:RT ET H ts ss[i].1)(v:H t=some (.tup (ET p))) :
 C8 (upd H G (.lst (ts.map V.ref++[.ref t]))) D us Gs Es (ss.set i (ss[i].1++[p],ss[i].2)):=by
 have k:Keeps (·=G) H (upd H G (.lst (ts.map V.ref++[.ref t]))):=Keeps.one r;obtain⟨w,I⟩:=Gr.mp q;obtain⟨x,ne,J⟩:=List.nodup_append.mp I;have l:G∈Gs:=Bi b;refine⟨k.at_ _ _ h.top λz=>w (z▸E7 _ l),by rw[FL];exact h.lu,by rw[FL];exact h.lg,by rw[FL];exact h.le,λj u m E s n c f d=>?_⟩;have o:E≠G:=λz=>J G l E (Bi f) z.symm;by_cases e:i=j;subst e;rw[b] at c;cases c;rw[List.getElem?_set_self g] at d;cases d;obtain⟨a,_,⟨y,A,B⟩⟩:=h.at_ i u G E _ n b f (AC g);exact⟨k.tup a,⟨ts++[t],by rw[Aa,Bh];rfl,(T.keeps k).snoc (k.tup v)⟩,⟨y,k.at_ _ _ A o,B.keeps k⟩⟩;rw[List.getElem?_set_ne e] at d
 have K:m≠G:=λz=>by
  subst z;obtain⟨L,C⟩:=Bf.mp c;obtain⟨M,F⟩:=Bf.mp b;exact e ((List.getElem_inj x).mp (F.trans C.symm))
 exact(h.at_ j u m E s n c f d).keeps k K o
def C8.alive(h:C8 H D us Gs Es ss):∀x∈Gs++Es,∃xs,H x=some (.lst xs):=λx a=>by
 rcases BB.mp a with a|a;obtain⟨j,b⟩:=List.getElem?_of_mem a;have f:j<ss.length:=by rw[<-h.lg];exact(Bf.mp b).1
 obtain⟨g,i,k,l,c,d,m,⟨_,⟨n,e,_⟩,_⟩⟩:=h.get f;rw[b] at c;cases c;exact⟨_,e⟩;obtain⟨j,b⟩:=List.getElem?_of_mem a;have f:j<ss.length:=by rw[<-h.le];exact(Bf.mp b).1
 obtain⟨g,i,k,l,c,d,m,⟨_,_,⟨n,e,_⟩⟩⟩:=h.get f;rw[b] at d;cases d;exact⟨_,e⟩
def C8.nil(h:H D=some (.lst [])):C8 H D [] [] [] []:=⟨h,rfl,rfl,rfl,λi u G E s a=>by simp at a⟩
variable {s:AY}
def C8.snoc(h:C8 H D us Gs Es ss)(g:G8 H u G E s)(j:G≠D)(l:E≠D)(f:∀x∈Gs++Es,x≠D) :
 C8 (upd H D (.lst (us.map V.ref++[.ref u]))) D (us++[u]) (Gs++[G]) (Es++[E]) (ss++[s]):=by
 have k:Keeps (·=D) H (upd H D (.lst (us.map V.ref++[.ref u]))):=Keeps.one h.top;refine⟨by rw[Aa,Bh];rfl,by simp[h.lu],by simp[h.lg],by simp[h.le],λi m n o Z d a b c=>?_⟩;rcases Nat.lt_or_ge i ss.length with e|r;rw[E4 (by rw[h.lu];exact e)] at d;rw[E4 (by rw[h.lg];exact e)] at a;rw[E4 (by rw[h.le];exact e)] at b;rw[E4 e] at c;exact(h.at_ i m n o Z d a b c).keeps k (f _ (E7 _ (Bi a))) (f _ (De _ (Bi b)));have q:i<(ss++[s]).length:=(Bf.mp c).1;rw[AQ,Ec] at q;have p:i=ss.length:=(by lia);subst p;rw[Fn (by rw[h.lu];exact AG _),h.lu,Nat.sub_self] at d;rw[Fn (by rw[h.lg];exact AG _),h.lg,Nat.sub_self] at a;rw[Fn (by rw[h.le];exact AG _),h.le,Nat.sub_self] at b;rw[Fn (AG _),Nat.sub_self] at c;cases d;cases a;cases b;cases c;exact g.keeps k j l
def Yl(a:(D::(Gs++Es)).Nodup)(b:G∉D::(Gs++Es))(c:E∉D::(Gs++Es))(d:G≠E):(D::((Gs++[G])++(Es++[E]))).Nodup:=by
 have p:(D::((Gs++[G])++(Es++[E]))).Perm (G::E::(D::(Gs++Es))):=by
  have e:(D::((Gs++[G])++(Es++[E]))).Perm (E::(D::((Gs++[G])++Es))):=by
   have:(D::((Gs++[G])++(Es++[E])))=(D::((Gs++[G])++Es))++[E]:=(by simp);rw[this];exact List.perm_append_singleton _ _
  have J:(D::((Gs++[G])++Es)).Perm (G::(D::(Gs++Es))):=by
   have:(D::((Gs++[G])++Es))=(D::Gs)++G::Es:=(by simp);rw[this];exact List.perm_middle
  exact(e.trans (J.cons E)).trans (List.Perm.swap _ _ _)
 rw[p.nodup_iff,Gr,Gr];refine⟨λz=>?_,c,a⟩;rcases BO.mp z with z|z;exact d z;exact b z
def DH (ths:List (Str×Int)) (as:List (C')) (p:Ck):Str×Int:=
 if p.2.1=("to" : Str) then("to",p.2.2) else match as[p.2.2.toNat]? with
 |some (some w)=>if w.1=("thing" : Str) then(match ths[w.2.toNat]? with
   |some k=>Eo ths as k
   |none=>("no",0)) else("no",0)
 |some none=>("open",p.2.2)
 |none=>("no",0)
def Ym{p:Ck}(h:p.2.1=("to" : Str)):DH ths as p=(("to" : Str),p.2.2):=An h
def Yn{p:Ck}(h:p.2.1≠("to" : Str))(a:p.2.2=(n:Int))(b:as[n]?=some none):DH ths as p=(("open" : Str),p.2.2):=by
 unfold DH;rw[Al h,a,BK,b]
def Yo{p:Ck}{w:Str×Int}(h:p.2.1≠("to" : Str))(a:p.2.2=(n:Int))(b:as[n]?=some (some w))(c:w.1≠("thing" : Str)):DH ths as p=(("no" : Str),0):=by
 unfold DH;rw[Al h,a,BK,b];exact Al c
def Yp{p:Ck}{w k:Str×Int}(h:p.2.1≠("to" : Str))(a:p.2.2=(n:Int))(b:as[n]?=some (some w))(c:w.1=("thing" : Str))(d:w.2=(m:Int))(e:ths[m]?=some k):DH ths as p=Eo ths as k:=by
 unfold DH;rw[Al h,a,BK,b]
 show(if w.1=("thing" : Str) then _ else _)=_
 rw[An c,d,BK,e]
section
variable {X:Cx}
end
def Ft (s q:Int) (p:Str×Int):Prop:=(p.1=("plain" : Str)/\p.2=0)\/(p.1=("part" : Str)/\0<=p.2/\p.2<s)\/(p.1=("sort" : Str)/\0<=p.2/\p.2<q)
def Ex (s q:Int) (p:Ck):Prop:=(p.2.1=("to" : Str)/\0<=p.2.2/\p.2.2<s)\/(p.2.1=("by" : Str)/\0<=p.2.2/\p.2.2<q)
def Ey (t q:Int) (p:Ef):Prop:=(p.2.2.1=("thing" : Str)/\0<=p.2.2.2/\p.2.2.2<t)\/(p.2.2.1=("by" : Str)/\0<=p.2.2.2/\p.2.2.2<q)
structure Fu (H:Hp) (S T R:Addr) (us Gs Es ts qt:List Addr) (ss:List AY) (gs:List (Str×Int)) (qs:List Qu):Prop where
 sc:C8 H S us Gs Es ss
 et:H T=some (.lst (ts.map V.ref))
 tg:GT H ts gs
 er:H R=some (.lst (qt.map V.ref))
 tq:QT H qt qs
def Fu.same{H H':Hp}{S T R:Addr}{us Gs Es ts a:List Addr}{ss:List AY}{gs:List (Str×Int)}{qs:List Qu}(e:Ac H H')(h:Fu H S T R us Gs Es ts a ss gs qs):Fu H' S T R us Gs Es ts a ss gs qs:=
 ⟨h.sc.same e,e _ _ h.et,h.tg.same e,e _ _ h.er,h.tq.same e⟩
abbrev Jp (K:Ai):List V->Hp->VK->Prop:=λxs H Q=>∃p ys,xs=[V.ref p]/\(Ag K H p ys\/Ao K H p ys)/\∀l,H l=none->Q (V.ref l) (upd H l (HO.lst ys))
def C8.tell(h:C8 H D us Gs Es ss)(q:(D::(Gs++Es)).Nodup){t:Addr}{p:Ef}(g:i<ss.length)(b:Es[i]?=some E)(r:H E=some (.lst (ts.map V.ref)))(T:RT Ct H ts ss[i].2)(v:H t=some (.tup (Ct p))) :
 C8 (upd H E (.lst (ts.map V.ref++[.ref t]))) D us Gs Es (ss.set i (ss[i].1,ss[i].2++[p])):=by
 have k:Keeps (·=E) H (upd H E (.lst (ts.map V.ref++[.ref t]))):=Keeps.one r;obtain⟨w,C⟩:=Gr.mp q;obtain⟨K,ne,F⟩:=List.nodup_append.mp C;have l:E∈Es:=Bi b;refine⟨k.at_ _ _ h.top λz=>w (z▸De _ l),by rw[FL];exact h.lu,by rw[FL];exact h.lg,by rw[FL];exact h.le,λj u G m s n f c d=>?_⟩;have o:G≠E:=λz=>F G (Bi f) E l z;by_cases e:i=j;subst e;rw[b] at c;cases c;rw[List.getElem?_set_self g] at d;cases d;obtain⟨a,⟨I,x,y⟩,_⟩:=h.at_ i u G E _ n f b (AC g);exact⟨k.tup a,⟨I,k.at_ _ _ x o,y.keeps k⟩,⟨ts++[t],by rw[Aa,Bh];rfl,(T.keeps k).snoc (k.tup v)⟩⟩;rw[List.getElem?_set_ne e] at d
 have J:m≠E:=λz=>by
  subst z;obtain⟨L,A⟩:=Bf.mp c;obtain⟨M,B⟩:=Bf.mp b;exact e ((List.getElem_inj ne).mp (B.trans A.symm))
 exact(h.at_ j u G m s n f c d).keeps k o J
open PySem.SeqAt
open PySem.AutoSeq1 (wpAny_loadPart')
open PySem.MeetsSeq PySem.MeetsSeq2 PySem.MeetsSeq3
def B3 (A:Around) (s:Shared) (x y:Value) (b:Bool):Prop:=
 ∀(prog:Program)(w:World)(E:D')(Q:D'),Q (.bool b) s->wpAny (model prog w) A (richCompare .Lt x y) Q E s
inductive BI (A:Around) (s:Shared):List Value->List Value->Bool->Prop where
 |nil:BI A s [] [] false
 |lt (w:Value) (ws:List Value):BI A s [] (w::ws) true
 |gt (v:Value) (vs:List Value):BI A s (v::vs) [] false
 |eq {v w:Value} {vs ws:List Value} {b:Bool} (h:EqAt A s v w true) (t:BI A s vs ws b):BI A s (v::vs) (w::ws) b
 |ne {v w:Value} {vs ws:List Value} {b:Bool} (h:EqAt A s v w false) (l:B3 A s v w b):BI A s (v::vs) (w::ws) b
def Yq(l b:Addr)(f e:Array Value)(n D:Nat)(E L:Option Addr)(F M:Array (Option Value))(c:Bool) :
 Meets (Builtin.«tuple.__lt__» ⟨[.ref l,.ref b],[]⟩)
  (λA R s=>s.heap.get? l=some {cls:=.type "tuple",dict:=E,data:=.seq f n,slots:=F}/\s.heap.get? b=some {cls:=.type "tuple",dict:=L,data:=.seq e D,slots:=M} /\
   BI A.in1 s f.toList e.toList c/\R (.ok (.ret (.bool c))) s):=
 .of_wp λu w A R s h=>by
  obtain⟨v,g,d,z,B⟩:=s;obtain⟨G,H,i,h⟩:=h;have O:=AutoSeq1.sub_tuple_tuple
  wp_walk using wpAny_loadPart' G,wpAny_loadPart' H,wpAny_forIn_list _ (λj b Z=>b.1=none/\Z=⟨v,g,d,z,B⟩/\∃(vs k:List Value),j=vs.zip k /\
   BI A.in1 ⟨v,g,d,z,B⟩ vs k c/\vs.length+e.size=k.length+f.size) _
  case turn =>
   rintro⟨y,x⟩ j b Z ⟨q,rfl,vs,k,a,r,m⟩
   cases r with
   |nil=>rw[List.zip_nil_left] at a;cases a
   |lt=>rw[List.zip_nil_left] at a;cases a
   |gt=>rw[List.zip_nil_right] at a;cases a
   |eq o I =>
     rw[List.zip_cons_cons] at a;injection a with t C;injection t with p i;subst p i;simp only[Er] at m;refine Ad (o u w _ _ ?_)
     wp_walk
     exact⟨rfl,rfl,_,_,C,I,by lia⟩
   |ne o J =>
     rw[List.zip_cons_cons] at a;injection a with t C;injection t with p i;subst p i;refine Ad (o u w _ _ ?_);have N:=J u w
     wp_walk using N
     exact⟨_,rfl,by simpa using h⟩
  case fin =>
   rintro⟨P,Q⟩ Z ⟨q,rfl,vs,k,a,r,m⟩;simp only at q;subst q
   have K:c=decide (f.size<e.size):=by
    cases r with
    |nil =>
      simp only[GK] at m;exact(El (by lia)).symm
    |lt =>
      simp only[GK,Er] at m;exact(A7 (by lia)).symm
    |gt =>
      simp only[GK,Er] at m;exact(El (by lia)).symm
    |eq=>rw[List.zip_cons_cons] at a;cases a
    |ne=>rw[List.zip_cons_cons] at a;cases a
   rw[K] at h
   wp_walk
   exact⟨_,rfl,by simpa [Builtin.Tuple.tupleCompareSizes] using h⟩
  case h =>
   exact⟨rfl,rfl,f.toList,e.toList,rfl,i,by simp[Nat.add_comm]⟩
def Yr(l b:Addr)(f e:Array Value)(n C:Nat)(D O:Option Addr)(E P:Array (Option Value))(c:Bool)(k:Nat) :
 ∀i:Nat,f.size-i=k->i<=f.size->i<=e.size->Meets (Builtin.«list.__eq__.loop» ⟨[.ref l,.ref b,rawInt i,rawInt 0],[]⟩)
  (λA R s=>s.heap.get? l=some {cls:=.type "list",dict:=D,data:=.seq f n,slots:=E}/\s.heap.get? b=some {cls:=.type "list",dict:=O,data:=.seq e C,slots:=P} /\
   BI A.in1 s (f.toList.drop i) (e.toList.drop i) c/\R (.ok (.ret (.bool c))) s):=by
 induction k with
 |zero =>
   intro i F G Q q w A R s h;obtain⟨H,g,d,I,J⟩:=s;obtain⟨j,m,a,h⟩:=h;have u:f.toList.drop i=[]:=by simp;lia
   rw[u] at a
   have v:c=decide (f.size<e.size):=by
    generalize o:e.toList.drop i=r at a;have x:=BR List.length o;simp only[Kg,Array.length_toList] at x
    cases a with
    |nil=>simp only[GK] at x;exact(El (by lia)).symm
    |lt=>simp only[Er] at x;exact(A7 (by lia)).symm
   wp_walk using wpAny_loadPart' j,wpAny_loadPart' m
   have p:f[((i:Nat):Int).toNat]?=none:=by simp;lia
   rw[p]
   wp_walk using wpAny_loadPart' j,wpAny_loadPart' m
   show R (.ok (.ret (.bool (decide (f.size<e.size))))) _;rw[<-v];exact h
 |succ k K =>
   intro i F G Q q w A R s h;obtain⟨H,g,d,I,J⟩:=s;obtain⟨j,m,a,h⟩:=h;have z:i<f.size:=(by lia);have p:f[((i:Nat):Int).toNat]?=some f[i]:=(by simp[z]);have u:f.toList.drop i=f[i]::f.toList.drop (i+1):=(by simp[Mv,z]);rw[u] at a
   wp_walk using wpAny_loadPart' j,wpAny_loadPart' m
   by_cases B:i<e.size;have t:e[((i:Nat):Int).toNat]?=some e[i]:=(by simp[B]);have o:e.toList.drop i=e[i]::e.toList.drop (i+1):=(by simp[Mv,B]);have L:((i:Int)+1)=((i+1:Nat):Int):=by push_cast;rfl
   rw[o] at a;rw[p,t]
   cases a with
   |eq y M =>
     refine Ad (y q w _ _ ?_)
     wp_walk
     rw[L]
     exact⟨plainId_quiet plain_eq_loop _,codeAny_builtin entry_eq_loop (by
      rw[Around.under_plainId plain_eq_loop _]
      exact K (i+1) (by lia) (by lia) (by lia) q w A R _ ⟨j,m,M,h⟩)⟩
   |ne y N =>
     refine Ad (y q w _ _ ?_);have S:=N q w
     wp_walk using wpAny_loadPart' j,wpAny_loadPart' m
     rw[p,t]
     wp_walk using S
     exact h
   have t:e[((i:Nat):Int).toNat]?=none:=by simp;lia
   have o:e.toList.drop i=[]:=by simp;lia
   rw[o] at a
   have v:c=decide (f.size<e.size):=by
    cases a;exact(El (by lia)).symm
   rw[p,t]
   wp_walk using wpAny_loadPart' j,wpAny_loadPart' m
   show R (.ok (.ret (.bool (decide (f.size<e.size))))) _;rw[<-v];exact h
def Vk(l b:Addr)(f e:Array Value)(n a:Nat)(i o:Option Addr)(j p:Array (Option Value))(c:Bool) :
 Meets (Builtin.«list.__lt__» ⟨[.ref l,.ref b],[]⟩)
  (λA R s=>s.heap.get? l=some {cls:=.type "list",dict:=i,data:=.seq f n,slots:=j}/\s.heap.get? b=some {cls:=.type "list",dict:=o,data:=.seq e a,slots:=p} /\
   BI A.in1 s f.toList e.toList c/\R (.ok (.ret (.bool c))) s):=by
 intro r w A R s h;obtain⟨t,g,d,u,v⟩:=s;obtain⟨k,m,q,h⟩:=h;have x:=AutoSeq1.sub_list_list
 wp_walk using wpAny_loadPart' k,wpAny_loadPart' m
 exact⟨plainId_quiet plain_eq_loop _,codeAny_builtin entry_eq_loop (by
  rw[Around.under_plainId plain_eq_loop _]
  exact Yr l b f e n a i o j p c _ 0 rfl (Df _) (Df _) r w A R _ ⟨k,m,by simpa using q,h⟩)⟩
section
variable {A:Around} {s:Shared}
variable {l b:Addr}{f e:Array Value}
def B3.tuples{c:Bool}(k:IsTup s.heap l f)(m:IsTup s.heap b e)(o:BI A.in1 s f.toList e.toList c)(p:A.units<cLine):B3 A s (.ref l) (.ref b) c:=λz w E Q h=>by
 obtain⟨⟨y,q,B,r⟩,a,d,n,hd⟩:=id k;obtain⟨⟨C,u,data2,v⟩,g,i,t,j⟩:=id m;simp only at d hd i j;subst d hd i j
 exact richCompare_meets_room (op:=.Lt) ⟨_,a,rfl⟩ ⟨_,g,rfl⟩ PySem.F.slot_tuple_lt PySem.F.entry_tuple_lt (PySem.F.args_tuple_lt_2 _ _) (Yq l b f e n t q u r v c)
  ⟨a,g,o,show Value.bool c≠Value.notImplemented/\Q (.bool c) s from⟨(λx=>nomatch x),h⟩⟩ p
def B3.lists{c:Bool}(k:s.heap.IsList l f)(m:s.heap.IsList b e)(o:BI A.in1 s f.toList e.toList c)(p:A.units<cLine):B3 A s (.ref l) (.ref b) c:=λz w E Q h=>by
 obtain⟨⟨y,q,B,r⟩,a,d,n,hd⟩:=id k;obtain⟨⟨C,u,data2,v⟩,g,i,t,j⟩:=id m;simp only at d hd i j;subst d hd i j
 exact richCompare_meets_room (op:=.Lt) ⟨_,a,rfl⟩ ⟨_,g,rfl⟩ PySem.F.slot_list_lt PySem.F.entry_list_lt (PySem.F.args_list_lt_2 _ _) (Vk l b f e n t q u r v c)
  ⟨a,g,o,show Value.bool c≠Value.notImplemented/\Q (.bool c) s from⟨(λx=>nomatch x),h⟩⟩ p
def Vl{prog:Program}{w:World}{E:D'}{c:Bool}{Q:Bool->Shared->Prop}(j:s.heap.IsList l f)(k:s.heap.IsList b e)(m:BI A.in1 s f.toList e.toList c)(o:A.units<cLine)(h:Q c s) :
 wpAny (model prog w) A (oneLt' true (.ref l) (.ref b)) Q E s:=by
 obtain⟨⟨x,p,y,q⟩,a,d,n,hd⟩:=id j;obtain⟨⟨z,t,data2,u⟩,v,g,r,i⟩:=id k;simp only at d hd g i;subst d hd g i;rw[oneLt'_eq];simp only[if_true];refine Ad (wpAny_cRoomFor o ?_);refine Ad (wpAny_callSpecialIfBound?_slot (T:= "list") ⟨_,a,rfl⟩ PySem.F.slot_list_lt (call_meets PySem.F.slot_list_lt ⟨_,a,rfl⟩ PySem.F.entry_list_lt (PySem.F.args_list_lt_2 _ _) (Vk l b f e n r p t q u c) ⟨a,v,m,?_⟩));exact F7 h
end
def Fb (O:KeyOrd):List O.α->List O.α->Bool
 |[],[]=>false
 |[],_::_=>true
 |_::_,[]=>false
 |x::xs,y::ys=>O.blt x y || (!O.blt y x && Fb O xs ys)
def LA(O:KeyOrd)(x y:O.α)(xs ys:List O.α):Fb O (x::xs) (y::ys)=(O.blt x y || (!O.blt y x && Fb O xs ys)):=rfl
theorem Vm(O:KeyOrd):∀xs,Fb O xs xs=false
 |[]=>rfl
 |x::xs=>by rw[LA,O.irrefl,Vm O xs];rfl
theorem Vn(O:KeyOrd):∀xs ys zs,Fb O xs ys=true->Fb O ys zs=true->Fb O xs zs=true
 |[],[],_,h,_=>by cases h
 |[],_::_,[],_,k=>by cases k
 |[],_::_,_::_,_,_=>rfl
 |_::_,[],_,h,_=>by cases h
 |_::_,_::_,[],_,k=>by cases k
 |x::xs,y::ys,z::zs,a,b=>by
   rw[LA] at *;simp only[Bool.or_eq_true,Bool.and_eq_true,Bool.not_eq_true'] at a b ⊢
   rcases a with a|⟨a,c⟩<;>rcases b with b|⟨b,d⟩;exact .inl (O.trans _ _ _ a b);exact .inl (KeyOrd.klt_of_klt_of_kle a b);exact .inl (KeyOrd.klt_of_kle_of_klt a b);exact .inr ⟨KeyOrd.kle_trans (O:=O) a b,Vn O xs ys zs c d⟩
theorem Vo(O:KeyOrd):∀xs ys zs,Fb O xs zs=true->Fb O xs ys=true\/Fb O ys zs=true
 |[],[],[],h=>by cases h
 |[],[],_::_,_=>.inr rfl
 |[],_::_,_,_=>.inl rfl
 |_::_,_,[],h=>by cases h
 |_::_,[],_::_,_=>.inr rfl
 | x :: xs,y :: ys,z :: zs,h=>by
   rw[LA] at *;rw[LA];simp only[Bool.or_eq_true,Bool.and_eq_true,Bool.not_eq_true'] at h ⊢
   rcases h with h|⟨h,k⟩;rcases O.negTrans _ y _ h with h|h;exact .inl (.inl h);exact .inr (.inl h)
   cases b:O.blt x y with
   |true=>exact .inl (.inl rfl)
   |false =>
     cases c:O.blt y z with
     |true=>exact .inr (.inl rfl)
     |false =>
       have d:O.kle y x:=b;have e:O.kle z y:=c;have a:O.kle x z:=h;have f:O.blt y x=false:=KeyOrd.kle_trans (O:=O) a e;have g:O.blt z y=false:=KeyOrd.kle_trans (O:=O) d a;rcases Vo O xs ys zs k with k|k;exact .inl (.inr ⟨f,k⟩);exact .inr (.inr ⟨g,k⟩)
theorem Vp(O:KeyOrd):∀xs ys,Fb O xs ys=false->Fb O ys xs=false->xs=ys
 |[],[],_,_=>rfl
 |[],_::_,h,_=>by cases h
 |_::_,[],_,k=>by cases k
 |x::xs,y::ys,a,b=>by
   rw[LA] at a b;simp only[Bool.or_eq_false_iff,Bool.and_eq_false_iff,Bool.not_eq_false'] at a b;have c:x=y:=O.total _ _ a.1 b.1;have d:xs=ys:=Vp O xs ys (by rcases a.2 with z|z;exact absurd (b.1.symm.trans z) (by simp);exact z) (by rcases b.2 with z|z;exact absurd (a.1.symm.trans z) (by simp);exact z);rw[c,d]
@[reducible] def N2 (O:KeyOrd):KeyOrd where
 α:=List O.α
 blt:=Fb O
 irrefl:=Vm O
 trans:=Vn O
 negTrans:=Vo O
 total:=Vp O
def MM{P:KeyOrd}(x y:(BL O P).α)(e:x.1=y.1):(BL O P).blt x y=P.blt x.2 y.2:=by
 show(O.blt x.1 y.1 || (!O.blt y.1 x.1 && P.blt x.2 y.2))=_;rw[e,O.irrefl];rfl
def MN{P:KeyOrd}(x y:(BL O P).α)(e:x.1≠y.1):(BL O P).blt x y=O.blt x.1 y.1:=by
 show(O.blt x.1 y.1 || (!O.blt y.1 x.1 && P.blt x.2 y.2))=_
 cases a:O.blt x.1 y.1 with
 |true=>rfl
 |false =>
   cases b:O.blt y.1 x.1 with
   |true=>rfl
   |false=>exact absurd (O.total _ _ a b) e
def Ys(x:O.α)(xs ys:List O.α):Fb O (x::xs) (x::ys)=Fb O xs ys:=by
 rw[LA,O.irrefl];rfl
def Yt{x y:O.α}(xs ys:List O.α)(e:x≠y):Fb O (x::xs) (y::ys)=O.blt x y:=by
 rw[LA]
 cases a:O.blt x y with
 |true=>rfl
 |false =>
   cases b:O.blt y x with
   |true=>rfl
   |false=>exact absurd (O.total _ _ a b) e
mutual
theorem Fq.mono {n m:Nat}{d e:Dt} (c:Fq n d e) (h:n<=m):Fq m d e:=by
 cases c with
 | non=>exact .non
 | bl a b=>exact .bl a b
 | int a b=>exact .int a b
 | str a b=>exact .str a b
 | tup t=>cases m with
   | zero=>exact absurd h (Nat.not_succ_le_zero _)
   | succ m=>exact .tup (CA.mono t (Nat.le_of_succ_le_succ h))
 | lst t=>cases m with
   | zero=>exact absurd h (Nat.not_succ_le_zero _)
   | succ m=>exact .lst (CA.mono t (Nat.le_of_succ_le_succ h))
 | apart a=>cases m with
   | zero=>exact absurd h (Nat.not_succ_le_zero _)
   | succ m=>exact .apart a
theorem CA.mono {n m:Nat}{a es:List Dt} (c:CA n a es) (h:n<=m):CA m a es:=by
 cases c with
 | nil=>exact .nil _
 | nil'=>exact .nil' _
 | cons c t=>exact .cons (Fq.mono c h) (CA.mono t h)
end
structure Enc where
 O:KeyOrd
 D:O.α->Dt
 dflt:O.α
 dep:Nat
 cmp:∀a b,Fq dep (D a) (D b)
 inj:∀a b,D a=D b->a=b
 lt:∀{X:Cx}{pins:B'}{σ:St}{H:Hp}{s:Shared},Inv X pins σ H s->∀{a b:O.α}{v u:V}{x y:Value}{A:Around},Aq X.K H v (D a)->Aq X.K H u (D b)->RelV v x->RelV u y->A.units+dep<cLine->B3 A s x y (O.blt a b)
section
variable {X:Cx} {pins:B'} {σ:St} {H:Hp} {s:Shared}
def Enc.eq(c:Enc)(I:Inv X pins σ H s){a b:c.O.α}{u:V}{x y:Value}{A:Around}(hv:Aq X.K H v (c.D a))(d:Aq X.K H u (c.D b))(e:RelV v x)(f:RelV u y)(g:A.units+c.dep<cLine):EqAt A s x y (dec (a=b)):=by
 have:=U9 (A:=A) I (c.cmp a b) hv d e f g
 rwa [MJ (p:=c.D a=c.D b) (q:=a=b) ⟨c.inj a b,λz=>by rw[z]⟩] at this
def Enc.lex(c:Enc)(I:Inv X pins σ H s){a b:c.O.α}{u:V}{x y:Value}{A:Around}{vs ws:List Value}{e f:Bool}(hv:Aq X.K H v (c.D a))(h:Aq X.K H u (c.D b))(i:RelV v x)(j:RelV u y)(k:A.units+c.dep<cLine)(l:a=b->BI A s vs ws e/\f=e)(m:a≠b->f=c.O.blt a b):BI A s (x::vs) (y::ws) f:=by
 have d:=c.eq (A:=A) I hv h i j k;by_cases g:a=b;rw[FF g] at d;obtain⟨t,rfl⟩:=l g;exact .eq d t;rw[Gh g] at d;rw[m g];exact .ne d (c.lt I hv h i j k)
end
@[reducible] def FU:Enc where
 O:=Jj
 D:=Dt.int
 dflt:=(0:Int)
 dep:=0
 cmp a b:=.int a b
 inj a b h:=Dt.int.inj h
 lt {X pins σ H s} I {a b v u x y A} hv hu rx ry _:=by
  cases hv;cases hu;obtain⟨t,rfl⟩:=rx;obtain⟨t',rfl⟩:=ry;exact λprog w E Q h=>(PySem.P.lt_int h:wpAny (model prog w) _ (compareOp .Lt _ _) Q E _)
@[reducible] def Si:Enc where
 O:=C6
 D:=Dt.str
 dflt:=(default:Str)
 dep:=0
 cmp a b:=.str a b
 inj a b h:=Dt.str.inj h
 lt {X pins σ H s} I {a b v u x y A} hv hu rx ry _:=by
  cases hv;cases hu;obtain⟨t,rfl⟩:=rx;obtain⟨t',rfl⟩:=ry;exact λprog w E Q h=>(PySem.P.lt_str h:wpAny (model prog w) _ (compareOp .Lt _ _) Q E _)
section
variable {X:Cx} {pins:B'} {σ:St} {H:Hp} {s:Shared}
def Enc.lexL(c:Enc)(I:Inv X pins σ H s){A:Around}(j:A.units+c.dep<cLine):∀{as bs:List c.O.α}{vs us:List V}{xs ys:List Value},Am X.K H vs (as.map c.D)->Am X.K H us (bs.map c.D)->Ax vs xs->Ax us ys->BI A s xs ys (Fb c.O as bs):=by
 intro as
 induction as with
 |nil =>
   intro bs vs us xs ys g d i f;cases g;cases i
   cases bs with
   |nil=>cases d;cases f;exact .nil
   |cons b bs=>cases d;cases f;exact .lt _ _
 |cons a as k =>
   intro bs vs us xs ys g d i f
   cases g with
   |cons h t=>cases i with
     |cons r q=>cases bs with
       |nil=>cases d;cases f;exact .gt _ _
       |cons b bs=>cases d with
         |cons l m=>cases f with
           |cons n o=>exact c.lex I h l r n j (λe=>⟨k t m q o,by subst e;exact Ys a as bs⟩) (λe=>Yt as bs e)
end
theorem Vq(c:Enc):∀{a b:List c.O.α},a.map c.D=b.map c.D->a=b
 |[],[],_=>rfl
 |[],_::_,h=>by cases h
 |_::_,[],h=>by cases h
 |x::a,y::b,h=>by
   rw[E3,E3] at h;injection h with d e;rw[c.inj x y d,Vq c e]
@[reducible] def Ez (c:Enc):Enc where
 O:=N2 c.O
 D l:=Dt.lst (l.map c.D)
 dflt:=([]:List c.O.α)
 dep:=c.dep+1
 cmp a b:=.lst (CA.of λd hd e he=>by
  obtain⟨x,_,rfl⟩:=Bd.mp hd;obtain⟨y,_,rfl⟩:=Bd.mp he
  exact c.cmp x y)
 inj a b h:=Vq c (Dt.lst.inj h)
 lt {X pins σ H s} I {a b v u x y A} hv hu rx ry hA:=by
  cases hv with
  |lst h t =>
    cases hu with
    |lst h' t' =>
      cases rx;cases ry;obtain⟨its,r,p,_⟩:=I.list h;obtain⟨its',r',p',_⟩:=I.list h';exact B3.lists p.isList p'.isList (c.lexL (A:=A.in1) I (by rw[Hv];lia) t t' r r') (by lia)
def LB{K:Ai}{d e:Dt}(h:Am K H vs [d,e]):∃a b,vs=[a,b]/\Aq K H a d/\Aq K H b e:=by
 cases h with
 |cons c t=>cases t with
   |cons f t=>cases t;exact⟨_,_,rfl,c,f⟩
def N4{K:Ai}{d e f:Dt}(h:Am K H vs [d,e,f]):∃a b c,vs=[a,b,c]/\Aq K H a d/\Aq K H b e/\Aq K H c f:=by
 cases h with
 |cons g t=>obtain⟨a,b,rfl,i,j⟩:=LB t;exact⟨_,_,_,rfl,g,i,j⟩
def Hz{x y z:V}{us:List Value}(r:Ax [x,y,z] us):∃u w v,us=[u,w,v]/\RelV x u/\RelV y w/\RelV z v:=by
 cases r with
 |cons c d=>obtain⟨a,b,rfl,e,f⟩:=Kp d;exact⟨_,_,_,rfl,c,e,f⟩
@[reducible] def LD (c d:Enc):Enc where
 O:=BL c.O d.O
 D p:=Dt.tup [c.D p.1,d.D p.2]
 dflt:=(c.dflt,d.dflt)
 dep:=max c.dep d.dep+1
 cmp a b:=.tup (.cons ((c.cmp a.1 b.1).mono (Nat.le_max_left _ _)) (.cons ((d.cmp a.2 b.2).mono (Nat.le_max_right _ _)) (.nil _)))
 inj a b h:=by
  injection h with h;injection h with h1 h2;injection h2 with h2 _;exact Prod.ext (c.inj _ _ h1) (d.inj _ _ h2)
 lt {X pins σ H s} I {a b v u x y A} hv hu rx ry hA:=by
  have m1:=Nat.le_max_left c.dep d.dep;have m2:=Nat.le_max_right c.dep d.dep
  cases hv with
  |tup h t =>
    cases hu with
    |tup h' t' =>
      cases rx;cases ry;obtain⟨its,r,p,_⟩:=I.tuple h;obtain⟨its',r',p',_⟩:=I.tuple h';obtain⟨v1,v2,rfl,t1,t2⟩:=LB t;obtain⟨u1,u2,rfl,s1,s2⟩:=LB t';obtain⟨x1,x2,rfl,r1,r2⟩:=Kp r;obtain⟨y1,y2,rfl,q1,q2⟩:=Kp r';refine B3.tuples p p' (c.lex (A:=A.in1) I t1 s1 r1 q1 (by rw[Hv];lia) (λe=>⟨d.lex (A:=A.in1) I t2 s2 r2 q2 (by rw[Hv];lia) (λe'=>⟨.nil,?_⟩) λe'=>rfl,MM a b e⟩) λe=>MN a b e) (by lia);rw[e',d.O.irrefl]
@[reducible] def Ky (c d e:Enc):Enc where
 O:=BL c.O (BL d.O e.O)
 D p:=Dt.tup [c.D p.1,d.D p.2.1,e.D p.2.2]
 dflt:=(c.dflt,d.dflt,e.dflt)
 dep:=max c.dep (max d.dep e.dep)+1
 cmp a b:=.tup (.cons ((c.cmp a.1 b.1).mono (Nat.le_max_left _ _)) (.cons ((d.cmp a.2.1 b.2.1).mono (by lia)) (.cons ((e.cmp a.2.2 b.2.2).mono (by lia)) (.nil _))))
 inj a b h:=by
  injection h with h;injection h with h1 h2;injection h2 with h2 h3;injection h3 with h3 _;exact Prod.ext (c.inj _ _ h1) (Prod.ext (d.inj _ _ h2) (e.inj _ _ h3))
 lt {X pins σ H s} I {a b v u x y A} hv hu rx ry hA:=by
  have m1:=Nat.le_max_left c.dep (max d.dep e.dep);have m2:=Nat.le_max_right c.dep (max d.dep e.dep);have m3:=Nat.le_max_left d.dep e.dep;have m4:=Nat.le_max_right d.dep e.dep
  cases hv with
  |tup h t =>
    cases hu with
    |tup h' t' =>
      cases rx;cases ry;obtain⟨its,r,p,_⟩:=I.tuple h;obtain⟨its',r',p',_⟩:=I.tuple h';obtain⟨v1,v2,v3,rfl,t1,t2,t3⟩:=N4 t;obtain⟨u1,u2,u3,rfl,s1,s2,s3⟩:=N4 t';obtain⟨x1,x2,x3,rfl,r1,r2,r3⟩:=Hz r;obtain⟨y1,y2,y3,rfl,q1,q2,q3⟩:=Hz r';refine B3.tuples p p' (c.lex (A:=A.in1) I t1 s1 r1 q1 (by rw[Hv];lia) (λg=>⟨d.lex (A:=A.in1) I t2 s2 r2 q2 (by rw[Hv];lia) (λg'=>⟨e.lex (A:=A.in1) I t3 s3 r3 q3 (by rw[Hv];lia) (λg''=>⟨.nil,?_⟩) λζ=>rfl,MM a.2 b.2 g'⟩) λg'=>MN a.2 b.2 g',MM a b g⟩) λg=>MN a b g) (by lia);rw[g'',e.O.irrefl]
section
variable {X:Cx}
abbrev DN (c:Enc):Type:=V×c.O.α
def Pt (X:Cx) (c:Enc):List V->Hp->VK->Prop:=λvs H Q=>∃(l:Addr)(zs:List (DN c)),vs=[.ref l]/\Ag X.K H l (zs.map (·.1))/\zs.length<64 /\
 (∀z∈zs,Aq X.K H z.1 (c.D z.2))/\∀(D:Addr)(zs':List (DN c)),zs'.Perm zs->(zs'.map (·.2)).Pairwise c.O.kle->H D=none->Q (.ref D) (upd H D (.lst (zs'.map (·.1))))
theorem Sj(c:Enc)(κ:SortKind)
 (aj:∀(pins:B')(σ:St)(H:Hp)(s:Shared)(zs:List (DN c))(g:List Value)(Q:SortKind->Shared->Prop),Inv X pins σ H s->Ax (zs.map (·.1)) g->(∀z∈zs,Aq X.K H z.1 (c.D z.2))->2<=g.length->Q κ s->wpAny (model X.prog X.w) X.A.in1.in1 (keyKind' g.toArray) Q (λζ ζ=>False) s)
 (ai:∀(pins:B')(σ:St)(H:Hp)(s:Shared)(z m:DN c)(x y:Value)(C:Bool->Shared->Prop),Inv X pins σ H s->Aq X.K H z.1 (c.D z.2)->Aq X.K H m.1 (c.D m.2)->RelV z.1 x->RelV m.1 y->C (c.O.blt z.2 m.2) s->wpAny (model X.prog X.w) X.A.in1.in1 (keyLt' κ x y) C (λζ ζ=>False) s) :
 Bn X (.builtin "sorted") (Pt X c):=by
 intro pins s σ H vs us Q I r h;obtain⟨l,zs,rfl,L,an,v,q⟩:=h;obtain⟨u,rfl,M⟩:=F8 r;obtain rfl:u=Value.ref l:=M;obtain⟨g,p,N,_⟩:=I.list L;have J:zs.length=g.length:=by have:=p.length;rwa [Aj] at this
 let b:DN c:=(V.non,c.dflt)
 have t:∀i,i<zs.length->RelV (zs.getD i b).1 (g.getD i Value.none)/\Aq X.K H (zs.getD i b).1 (c.D (zs.getD i b).2):=λi d=>by
  have:=N0 p i V.non Value.none (by rw[Aj];exact d)
  have e:(zs.map (·.1)).getD i V.non=(zs.getD i b).1:=by
   rw[BC,A6,BC,AC d];rfl
  rw[e] at this;refine⟨this,v _ ?_⟩;rw[BC,AC d];exact Ed d
 refine Sf (O:=c.O) (key:=λi=>(zs.getD i b).2) (κ:=κ) (vs:=g) N.isList (by lia) (λo w k P R=>?_) (λw k i j C d hj S=>?_) λD w n f Z A G ae T=>?_;exact aj pins σ H _ zs g P (I.kept (t':=s.toks) k) p v o R;obtain⟨U,W⟩:=t i (by lia);obtain⟨Y,b2⟩:=t j (by lia);unfold PySem.W.kas_ask;exact ai pins σ H _ _ _ _ _ C (I.kept (t':=s.toks) k) W b2 U Y S
 have af:∀i∈f,i<zs.length:=λi d=>by
  have:=G.mem_iff.mp d;rw[J];simpa using this
 have ak:(List.range zs.length).map (λi=>zs.getD i b)=zs:=by
  apply List.ext_getElem?;intro k;by_cases B:k<zs.length;simp[B,BC];simp[B]
 have K:(f.map λi=>zs.getD i b).Perm zs:=by
  have:=G.map (λi=>zs.getD i b)
  rwa [<-J,ak] at this
 have hv:Ax ((f.map λi=>zs.getD i b).map (·.1)) (f.map λi=>g.getD i Value.none):=by
  rw[Ep];exact Pq f λi d=>(t i (af i d)).1
 have ag:((f.map λi=>zs.getD i b).map (·.2)).Pairwise c.O.kle:=by
  refine Pp (λζ ζ ζ=>KeyOrd.kle_trans) _ λi a al E o=>?_;rw[Ep,A6,F6] at E o;obtain⟨x,e1,rfl⟩:=E;obtain⟨y,F,rfl⟩:=o;obtain⟨ah,_⟩:=Bf.mp F;have:=ae i ah;have aa:f.getD i 0=x:=by rw[BC,e1];rfl
  have ab:f.getD (i+1) 0=y:=by rw[BC,F];rfl
  rw[aa,ab] at this;exact this
 exact⟨.ref D,upd H D (.lst ((f.map λi=>zs.getD i b).map (·.1))),I.laidN (t':=s.toks) Z A ⟨by rw[Aj,K.length_eq];exact C9 (BP (by lia)),_,n,hv,T⟩,rfl,q D _ K ag (I.freshN A)⟩
def Sk{pins:B'}{s:Shared}{M:Model}(I:Inv X pins σ H s){a:List Dt}{x:Value}(h:Aq X.K H v (.lst a))(r:RelV v x):PySem.W.Looks M s.heap (typeOf x) (.type "list"):=by
 cases h with
 |lst h t =>
   cases r;obtain⟨d,_,p,_⟩:=I.list h;obtain⟨o,b,c,_⟩:=p.isList;rw[<-c];exact(PySem.W.Looks.ld b).andThen .now
def Yu(c:Enc)(J:X.A.units+64<cLine)(hd:c.dep<=50):Bn X (.builtin "sorted") (Pt X (Ez c)):=by
 refine Sj (Ez c) oneType' (λG σ H s f E Q I b g j k=>?_) λG σ H s z l x y C I h a r m n=>?_;refine PySem.W.kas_kind (T:=.type "list") j (λv o=>?_) (by decide) (by decide) k;obtain⟨i,d⟩:=List.getElem?_of_mem o;have K:=(Bf.mp d).1;have q:=b.length;rw[Aj] at q;obtain⟨x,e,w⟩:=b.get (i:=i) (x:=(f[i]'(by lia)).1) (by rw[A6,AC (by lia)];rfl);rw[d] at e;cases e;exact Sk I (g _ (Ed (by lia))) w;rw[keyLt'_oneType];obtain⟨v,as⟩:=z;obtain⟨u,bs⟩:=l
 cases h with
 |lst h t =>
   cases a with
   |lst a A =>
     cases r;cases m;obtain⟨E,B,p,_⟩:=I.list h;obtain⟨L,F,D,_⟩:=I.list a;exact Vl p.isList D.isList (c.lexL I (by show _+1+1+1+_<_;lia) t A B F) (by show _+1+1<_;lia) n
theorem Sl(c:Enc){pins:B'}{σ:St}{H:Hp}{s:Shared}(I:Inv X pins σ H s){g:c.O.α->List Dt}:∀{zs:List (V×c.O.α)}{f:List Value}{k:c.O.α->List Dt},Ax (zs.map (·.1)) f->(∀z∈zs,∃b,k z.2=Dt.lst b::g z.2/\Aq X.K H z.1 (.tup (k z.2))) ->
 ∃fs,PySem.W.KatTups s.heap f fs/\fs.length=zs.length/\∀v∈fs,∃(u:V)(b:List Dt),Aq X.K H u (.lst b)/\RelV u v
 |[],_,_,.nil,_=>⟨[],.nil,rfl,λζ x=>by cases x⟩
 | z :: zs,_,k,.cons r i,h=>by
   obtain⟨fs,j,l,m⟩:=Sl c I (zs:=zs) i λy p=>h y (Ce _ p);obtain⟨b,e,hd⟩:=h z A3;rw[e] at hd;obtain⟨v,a⟩:=z;dsimp only at r hd
   cases hd with
   | tup q t =>
     cases r;obtain⟨f,A,⟨o,B,C,n,D⟩,_⟩:=I.tuple q
     cases t with
     |cons E G =>
       cases A with
       |cons F J =>
         refine⟨_::fs,.cons B C D rfl j,by simp[l],λw d=>?_⟩;rcases BO.mp d with e|d;exact⟨_,b,E,e▸F⟩;exact m w d
def Sm{A:Around}{s:Shared}{prog:Program}{w:World}{E:D'}{x y:Value}{b:Bool}{Q:Bool->Shared->Prop}(h:B3 A s x y b)(q:Q b s):wpAny (model prog w) A (oneLt' false x y) Q E s:=
 PySem.W.kat_one _ _ (h prog w E _ q)
def HA(c:Enc){pins:B'}{s:Shared}(I:Inv X pins σ H s){A:Around}{as bs:List c.O.α}{u:V}{x y:Value}{prog:Program}{w:World}{E:D'}{Q:Bool->Shared->Prop}(h:Aq X.K H v ((Ez c).D as))(h':Aq X.K H u ((Ez c).D bs))(r:RelV v x)(a:RelV u y)(g:A.units+(c.dep+1)<cLine)(q:Q (Fb c.O as bs) s):wpAny (model prog w) A (oneLt' true x y) Q E s:=by
 cases h with
 |lst h t =>
   cases h' with
   |lst h' b =>
     cases r;cases a;obtain⟨i,d,p,_⟩:=I.list h;obtain⟨j,f,e,_⟩:=I.list h';exact Vl p.isList e.isList (c.lexL I (by rw[Hv];lia) t b d f) (by lia) q
def Yv (c d:Enc) (hu:X.A.units + 64 < cLine) (h1:c.dep<=50) (h2:d.dep<=50):Bn X (.builtin "sorted") (Pt X (LD (Ez c) d)):=by
 refine Sj (LD (Ez c) d) (tuples' true) (λah σ H s zs Z ai I o M hl N=>?_) λah σ H s z O x aj C I h w r y a=>?_;obtain⟨fs,P,k2,Q⟩:=Sl (LD (Ez c) d) I (k:=λp=>[(Ez c).D p.1,d.D p.2]) (g:=λp=>[d.D p.2]) o λz aa=>⟨_,rfl,M z aa⟩;have ab:=o.length;rw[Aj] at ab;refine PySem.W.kat_kind (T:=.type "list") P (by lia) (λv R=>?_) (by decide) N;obtain⟨u,ds,S,U⟩:=Q v R;exact Sk I S U;obtain⟨v,p⟩:=z;obtain⟨u,q⟩:=O;dsimp only at h w r y
 change C ((LD (Ez c) d).O.blt p q) s at a
 have j:X.A.in1.in1.units=X.A.units+1+1:=rfl
 cases h with
 | tup V t =>
   cases w with
   | tup ae b =>
     cases r;cases y;obtain⟨Z,e,⟨ox,af,_,n,W⟩,_⟩:=I.tuple V;obtain⟨ak,f,⟨oy,ag,_,m,Y⟩,_⟩:=I.tuple ae
     cases t with
     | cons B t=>cases t with
       | cons D t=>cases t; cases b with
         | cons E b=>cases b with
           | cons F b=>cases b; cases e with
             |cons G e=>cases e with
               |cons J e=>cases e; cases f with
                 |cons K f=>cases f with
                   |cons L f =>
                     cases f;refine PySem.W.kat_lt af W ag Y (PySem.W.kat_cons ((Ez c).eq (A:=X.A.in1.in1) I B E G K (by rw[j];show _+(c.dep+1)<_;lia) _ _ _ _ ?_));by_cases i:p.1=q.1;rw[FF i]
                     rw[show(LD (Ez c) d).O.blt p q=d.O.blt p.2 q.2 from MM p q i] at a;refine PySem.W.kat_yes (PySem.W.kat_cons (d.eq (A:=X.A.in1.in1) I D F J L (by rw[j];lia) _ _ _ _ ?_))
                     by_cases l:p.2=q.2;rw[FF l];refine PySem.W.kat_yes (PySem.W.kat_nil ?_);rw[l,d.O.irrefl] at a;exact a;rw[Gh l];exact PySem.W.kat_no (Sm (d.lt I D F J L (by rw[j];lia)) a);rw[Gh i]
                     rw[show(LD (Ez c) d).O.blt p q=Fb c.O p.1 q.1 from MN p q i] at a;exact PySem.W.kat_no (HA c I B E G K (by rw[j];lia) a)
def Yw (c d e:Enc) (hu:X.A.units + 64 < cLine) (h1:c.dep<=50) (h2:d.dep<=50) (h3:e.dep<=50):Bn X (.builtin "sorted") (Pt X (Ky (Ez c) d e)):=by
 refine Sj (Ky (Ez c) d e) (tuples' true) (λai σ H s zs aa aj I y S hl U=>?_) λai σ H s z V x ak C I h B r D a=>?_;obtain⟨fs,W,k2,Y⟩:=Sl (Ky (Ez c) d e) I (k:=λp=>[(Ez c).D p.1,d.D p.2.1,e.D p.2.2]) (g:=λp=>[d.D p.2.1,e.D p.2.2]) y λz ab=>⟨_,rfl,S z ab⟩;have ae:=y.length;rw[Aj] at ae;refine PySem.W.kat_kind (T:=.type "list") W (by lia) (λv Z=>?_) (by decide) U;obtain⟨u,ds,a1,a2⟩:=Y v Z;exact Sk I a1 a2;obtain⟨v,p⟩:=z;obtain⟨u,q⟩:=V;dsimp only at h B r D
 change C ((Ky (Ez c) d e).O.blt p q) s at a
 have j:X.A.in1.in1.units=X.A.units+1+1:=rfl
 cases h with
 | tup hs t =>
   cases B with
   | tup af b =>
     cases r;cases D;obtain⟨aa,f,⟨ox,ag,_,n,dx⟩,_⟩:=I.tuple hs;obtain⟨al,i,⟨oy,ah,_,m,dy⟩,_⟩:=I.tuple af
     cases t with
     | cons E t=>cases t with
       | cons F t=>cases t with
         | cons G t=>cases t; cases b with
           | cons J b=>cases b with
             | cons K b=>cases b with
               | cons L b=>cases b; cases f with
                 | cons M f=>cases f with
                   | cons N f=>cases f with
                     |cons O f=>cases f; cases i with
                       |cons P i=>cases i with
                         |cons Q i=>cases i with
                           |cons R i =>
                             cases i;refine PySem.W.kat_lt ag dx ah dy (PySem.W.kat_cons ((Ez c).eq (A:=X.A.in1.in1) I E J M P (by rw[j];show _+(c.dep+1)<_;lia) _ _ _ _ ?_));by_cases l:p.1=q.1;rw[FF l]
                             rw[show(Ky (Ez c) d e).O.blt p q=(BL d.O e.O).blt p.2 q.2 from MM p q l] at a;refine PySem.W.kat_yes (PySem.W.kat_cons (d.eq (A:=X.A.in1.in1) I F K N Q (by rw[j];lia) _ _ _ _ ?_))
                             by_cases o:p.2.1=q.2.1;rw[FF o]
                             rw[show(BL d.O e.O).blt p.2 q.2=e.O.blt p.2.2 q.2.2 from MM p.2 q.2 o] at a;refine PySem.W.kat_yes (PySem.W.kat_cons (e.eq (A:=X.A.in1.in1) I G L O R (by rw[j];lia) _ _ _ _ ?_))
                             by_cases w:p.2.2=q.2.2;rw[FF w];refine PySem.W.kat_yes (PySem.W.kat_nil ?_);rw[w,e.O.irrefl] at a;exact a;rw[Gh w];exact PySem.W.kat_no (Sm (e.lt I G L O R (by rw[j];lia)) a);rw[Gh o]
                             rw[show(BL d.O e.O).blt p.2 q.2=d.O.blt p.2.1 q.2.1 from MN p.2 q.2 o] at a;exact PySem.W.kat_no (Sm (d.lt I F K N Q (by rw[j];lia)) a)
                             rw[Gh l]
                             rw[show(Ky (Ez c) d e).O.blt p q=Fb c.O p.1 q.1 from MN p q l] at a;exact PySem.W.kat_no (HA c I E J M P (by rw[j];lia) a)
end
def EA:List (Str×Int)->Str->Option Int
 |[],_=>none
 |(y,n)::r,x=>if y=x then some n else EA r x
def Eg:Option Int->V
 |some n=>.int n
 |none=>.non
theorem HB:∀{gs:List (Str×Int)}{i:Nat}{p:Str×Int}{x:Str},gs[i]?=some p->p.1=x->(∀q∈gs.take i,q.1≠x)->EA gs x=some p.2
 |[],_,_,_,h,_,_=>by simp at h
 |q::r,0,p,x,h,e,_=>by
   simp at h;subst h;obtain⟨y,n⟩:=q;exact An e
 |q::r,i+1,p,x,h,e,k=>by
   obtain⟨y,n⟩:=q;have a:y≠x:=k (y,n) (by simp);show(if y=x then some n else EA r x)=_;rw[Al a];exact HB (i:=i) (by simpa using h) e λq b=>k q (by simp[b])
theorem Vr:∀{gs:List (Str×Int)}{x:Str},(∀q∈gs,q.1≠x)->EA gs x=none
 |[],_,_=>rfl
 |(y,n)::r,x,k=>by
   show(if y=x then some n else EA r x)=_;rw[Al (k (y,n) (by simp))];exact Vr λq a=>k q (by simp[a])
theorem So:∀{gs:List (Str×Int)}{x:Str}{n:Int},EA gs x=some n->(x,n)∈gs
 |[],_,_,h=>by cases h
 |(y,m)::r,x,n,h=>by
   have h':(if y=x then some m else EA r x)=some n:=h
   by_cases e:y=x;rw[An e] at h';rw[<-e,<-B2 h'];exact A3;rw[Al e] at h';exact Ce _ (So h')
abbrev Ar:Type:=Int×Str×Int
abbrev GP (m:Ar):List V:=[.int m.1,.str m.2.1,.int m.2.2]
abbrev AJ:Type:=List Ar×Int×Int
structure Wd where
 ss:List AY
 gs:List (Str×Int)
 as:List (C')
 sts:List CK
abbrev Gn:Type:=Ar×(Str×Int)×Int
def EK (W:Wd) (sc:Int) (go:List (Str×Int)) (p:Ck) (i:Nat):List Gn:=match EA go p.1 with
 |some a=>[((sc,("step" : Str),(i:Int)),DH W.gs W.as p,a)]
 |none=>[]
def Dc (W:Wd) (sc:Int) (go:List (Str×Int)):List Ck->Nat->List Gn
 |[],_=>[]
 |p::r,i=>EK W sc go p i++Dc W sc go r (i+1)
def BM (W:Wd) (sc:Int):List Ck:=match W.ss[sc.toNat]? with
 |some s=>s.1
 |none=>[]
def Dl (W:Wd) (st:Int):List (Str×Int):=match W.sts[st.toNat]? with
 |some s=>s.1
 |none=>[]
def Gi (W:Wd) (sc st:Int):List Gn:=Dc W sc (Dl W st) (BM W sc) 0
theorem Vs(W:Wd)(a:Int)(go:List (Str×Int))(p:Ck):∀(l:List Ck)(i:Nat),Dc W a go (l++[p]) i=Dc W a go l i++EK W a go p (i+l.length)
 |[],i=>by simp[Dc]
 |q::l,i=>by
   show EK W a go q i++Dc W a go (l++[p]) (i+1)=(EK W a go q i++Dc W a go l (i+1))++_;rw[Vs W a go p l (i+1),Ge,Er,show i+1+l.length=i+(l.length+1) by lia]
variable {W:Wd}{sc:Int}{r:Gn}
def Fc{go:List (Str×Int)}{p:Ck}:r∈EK W sc go p i↔∃a,EA go p.1=some a/\r=((sc,("step" : Str),(i:Int)),DH W.gs W.as p,a):=by
 unfold EK
 cases e:EA go p.1 with
 |none=>simp
 |some a=>simp
theorem B8{W:Wd}{sc:Int}{go:List (Str×Int)}{r:Gn}:∀{l:List Ck}{i:Nat},r∈Dc W sc go l i↔∃(j:Nat)(p:Ck)(a:Int),l[j]?=some p/\EA go p.1=some a/\r=((sc,("step" : Str),((i+j:Nat):Int)),DH W.gs W.as p,a)
 |[],i=>by simp[Dc]
 | q :: l,i=>by
   show r∈EK W sc go q i++Dc W sc go l (i+1)↔_;rw[BB,Fc,B8 (l:=l) (i:=i+1)];constructor;rintro(⟨a,b,c⟩|⟨j,p,a,b,c,d⟩);exact⟨0,q,a,rfl,b,by rw[c];rfl⟩;exact⟨j+1,p,a,by simpa using b,c,by rw[d,show i+1+j=i+(j+1) by lia]⟩;rintro⟨j,p,a,b,c,d⟩
   cases j with
   |zero =>
     simp at b;subst b;exact .inl ⟨a,c,by rw[d];rfl⟩
   |succ j=>exact .inr ⟨j,p,a,by simpa using b,c,by rw[d,show i+1+j=i+(j+1) by lia]⟩
theorem Vt(W:Wd)(sc:Int)(go:List (Str×Int)):∀(l:List Ck)(i:Nat),(Dc W sc go l i).Pairwise (λr b=>r.1≠b.1)
 |[],i=>List.Pairwise.nil
 |q::l,i=>by
   show(EK W sc go q i++Dc W sc go l (i+1)).Pairwise _;refine List.pairwise_append.mpr ⟨?_,Vt W sc go l (i+1),λr c b d e=>?_⟩;unfold EK;split;exact List.pairwise_singleton _ _;exact List.Pairwise.nil;obtain⟨a,_,rfl⟩:=Fc.mp c;obtain⟨j,p,f,_,_,rfl⟩:=B8.mp d;have:=BR (λm:Ar=>m.2.2) e;simp only at this;lia
theorem LF(W:Wd)(sc:Int)(go:List (Str×Int)):∀(l:List Ck)(i:Nat),(Dc W sc go l i).length<=l.length
 |[],i=>AG _
 |q::l,i=>by
   show(EK W sc go q i++Dc W sc go l (i+1)).length<=_;have a:(EK W sc go q i).length<=1:=by unfold EK;split<;>simp
   have b:=LF W sc go l (i+1);rw[AQ,Er];lia
def Yx{go:List (Str×Int)}{l:List Ck}{b:Gn}(h:r∈Dc W sc go l i)(h':b∈Dc W sc go l i)(e:r.1=b.1):r=b:=by
 obtain⟨j,p,a,f,g,rfl⟩:=B8.mp h;obtain⟨k,o,q,c,d,rfl⟩:=B8.mp h';have:=BR (λm:Ar=>m.2.2) e;simp only at this;have n:j=k:=(by lia);subst n;rw[f] at c;cases c;rw[g] at d;cases d;rfl
def AM (b:AJ):List Int:=b.1.map (·.1)++[b.2.1]
def kid (b:AJ) (r:Gn):Option AJ:=if r.2.1.1=("to" : Str)/\r.2.1.2∉AM b then some (b.1++[r.1],r.2.1.2,r.2.2) else none
def B4 (W:Wd) (b:AJ):List AJ:=(Gi W b.2.1 b.2.2).filterMap (kid b)
variable {b:AJ}
set_option tactic.hygienic true in
def Be{c:AJ}:c∈B4 W b↔∃r∈Gi W b.2.1 b.2.2,r.2.1.1=("to" : Str)/\r.2.1.2∉AM b/\c=(b.1++[r.1],r.2.1.2,r.2.2):=by
 unfold B4 kid;rw[List.mem_filterMap];constructor;rintro⟨r,a,e⟩;split at e;rename_i h;exact⟨r,a,h.1,h.2,(B2 e).symm⟩;cases e;rintro⟨r,a,d,f,e⟩;exact⟨r,a,by rw[An ⟨d,f⟩,e]⟩
def Vu(W:Wd)(b:AJ):(B4 W b).length<=(BM W b.2.1).length:=DY (List.length_filterMap_le _ _) (LF _ _ _ _ _)
def Jq(W:Wd)(b:AJ):(B4 W b).Nodup:=by
 refine List.Pairwise.filterMap (kid b) (λr g f c a h d e=>?_) (Vt W b.2.1 (Dl W b.2.2) (BM W b.2.1) 0);unfold kid at a d;split at a;split at d;cases a;cases d;have:=BR Prod.fst e;simp only at this;have:=(List.append_inj' this rfl).2;exact f (by simpa using this);cases d;cases a
inductive AS (W:Wd) (sc st:Int):AJ->Prop where
 |root:AS W sc st ([],sc,st)
 |kid {b c:AJ} (h:AS W sc st b) (k:c∈B4 W b):AS W sc st c
structure B9 (W:Wd):Prop where
 s5:W.ss.length<=100
 st:∀s∈W.ss,s.1.length<=8
 kst:∀s∈W.ss,∀p∈s.1,Ex W.ss.length W.as.length p
 kth:∀p∈W.gs,Ft W.ss.length W.as.length p
 an:∀p,some p∈W.as->p.1=("thing" : Str)->0<=p.2/\p.2<W.gs.length
 go:∀s∈W.sts,∀p∈s.1,0<=p.2/\p.2<W.sts.length
 few:∀(sc st:Int)(F:List AJ),(0<=sc/\sc<W.ss.length)->(0<=st/\st<W.sts.length)->F.Nodup->(∀b∈F,AS W sc st b)->F.length<=62
def B9.net(h:B9 W):GB W.gs W.as:=⟨λp b e=>by
 rcases h.kth p b with⟨a,_⟩|⟨a,_⟩|⟨_,c⟩;rw[e] at a;exact absurd a (by decide +kernel);rw[e] at a;exact absurd a (by decide +kernel)
 exact c,h.an⟩
def B9.by_(h:B9 W)(a:s∈W.ss){p:Ck}(b:p∈s.1)(c:p.2.1≠("to" : Str)):0<=p.2.2/\p.2.2<W.as.length:=by
 rcases h.kst s a p b with⟨e,_⟩|⟨_,e⟩;exact absurd e c;exact e
def Gb:(("no" : Str),(0:Int)).1≠("to" : Str):=by decide +kernel
def Pu:("open" : Str)≠("to" : Str):=by decide +kernel
def Vv(h:B9 W){k:Str×Int}(c:k∈W.gs)(b:k.1=("part" : Str)):0<=k.2/\k.2<W.ss.length:=by
 rcases h.kth k c with⟨a,_⟩|⟨_,d⟩|⟨a,_⟩;rw[b] at a;exact absurd a (by decide +kernel);exact d;rw[b] at a;exact absurd a (by decide +kernel)
variable {g:Str×Int}
set_option tactic.hygienic true in
def Yy(h:B9 W){q:Int}(e:ES W.gs W.as q=g)(a:g.1=("to" : Str)):0<=g.2/\g.2<W.ss.length:=by
 unfold ES at e;split at e;split at e;split at e;rename_i k b;split at e;rename_i c;subst e;exact Vv (k:=k) h (Bi b) c;subst e;exact absurd a Gb;subst e;exact absurd a Gb;subst e;exact absurd a Gb;subst e;exact absurd a Pu;subst e;exact absurd a Gb
set_option tactic.hygienic true in
def Sq(h:B9 W)(b:p∈W.gs)(e:Eo W.gs W.as p=g)(a:g.1=("to" : Str)):0<=g.2/\g.2<W.ss.length:=by
 unfold Eo at e;split at e;rename_i c;subst e;exact Vv (k:=p) h b c;split at e;exact Yy h e a;subst e;exact absurd a Gb
set_option tactic.hygienic true in
def Yz(h:B9 W)(c:s∈W.ss){p:Ck}(d:p∈s.1)(e:DH W.gs W.as p=g)(a:g.1=("to" : Str)):0<=g.2/\g.2<W.ss.length:=by
 unfold DH at e;split at e;rename_i j;subst e;rcases h.kst s c p d with⟨_,f⟩|⟨b,_⟩;exact f;rw[j] at b;exact absurd b (by decide +kernel);split at e;split at e;split at e;rename_i k i;exact Sq h (Bi i) e a;subst e;exact absurd a Gb;subst e;exact absurd a Gb;subst e;exact absurd a Pu;subst e;exact absurd a Gb
structure Ca (W:Wd) (b:AJ):Prop where
 nd:(AM b).Nodup
 rng:∀x∈AM b,0<=x/\x<W.ss.length
 st:0<=b.2.2/\b.2.2<W.sts.length
set_option tactic.hygienic true in
def Vw{p:Ck}(h:p∈BM W sc):∃s∈W.ss,p∈s.1:=by
 unfold BM at h;split at h;rename_i s a;exact⟨s,Bi a,h⟩;cases h
variable {st:Int}
set_option tactic.hygienic true in
def Vx(h:p∈Dl W st):∃s∈W.sts,p∈s.1:=by
 unfold Dl at h;split at h;rename_i s a;exact⟨s,Bi a,h⟩;cases h
def MO(h:r∈Gi W sc st):∃(j:Nat)(p:Ck)(a:Int),(BM W sc)[j]?=some p/\EA (Dl W st) p.1=some a/\r=((sc,("step" : Str),(j:Int)),DH W.gs W.as p,a):=by
 obtain⟨j,p,a,b,c,d⟩:=B8.mp h;exact⟨j,p,a,b,c,by rw[d,Nat.zero_add]⟩
def Vy(h:r∈Gi W b.2.1 b.2.2):AM (b.1++[r.1],r.2.1.2,r.2.2)=AM b++[r.2.1.2]:=by
 obtain⟨j,p,a,_,_,rfl⟩:=MO h;unfold AM
 simp
def Ca.kid(ok:B9 W){c:AJ}(h:Ca W b)(k:c∈B4 W b):Ca W c:=by
 obtain⟨r,e,g,i,rfl⟩:=Be.mp k;have f:=Vy e;obtain⟨j,p,a,l,m,rfl⟩:=MO e;obtain⟨s,n,o⟩:=Vw (Bi l);refine⟨?_,?_,?_⟩;rw[f,List.nodup_append]
 exact⟨h.nd,by simp,λx d y q=>by
  rw[AR.mp q]
  exact λz=>i (z▸d)⟩
 rw[f];intro x d;rcases BB.mp d with d|d;exact h.rng x d;rw[AR.mp d];exact Yz ok n o rfl g;obtain⟨t,u,v⟩:=Vx (So m);exact ok.go t u _ v
def AS.ok{W:Wd}(ok:B9 W){sc st:Int}(d:0<=sc/\sc<W.ss.length)(e:0<=st/\st<W.sts.length){b:AJ}(h:AS W sc st b):Ca W b:=by
 induction h with
 |root=>exact⟨by simp[AM],λx a=>by simp[AM] at a;rw[a];exact d,e⟩
 |kid _ k c=>exact c.kid ok k
def AS.uniq(h:AS W sc st b):∀{c:AJ},AS W sc st c->b.1=c.1->b=c:=by
 induction h with
 |root =>
   intro c a e
   cases a with
   |root=>rfl
   |kid _ k =>
     obtain⟨r,_,_,_,rfl⟩:=Be.mp k;simp at e
 |@kid o p q k d =>
   intro c a e;obtain⟨r,f,s,t,rfl⟩:=Be.mp k
   cases a with
   |root=>simp at e
   |@kid u _ m g =>
     obtain⟨v,n,w,x,rfl⟩:=Be.mp g;simp only at e;obtain⟨i,j⟩:=List.append_inj' e rfl;have l:=d m i;subst l;have:=Yx f n (by simpa using j);subst this;rfl
theorem Kz:∀(n:Nat)(l:List Int),l.Nodup->(∀x∈l,0<=x/\x<(n:Int))->l.length<=n
 |0,[],_,_=>AG _
 |0,x::l,_,h=>by have:=h x A3;lia
 |n+1,l,b,h=>by
   have e:(l.erase (n:Int)).Nodup:=b.erase _
   have c:∀x∈l.erase (n:Int),0<=x/\x<(n:Int):=λx d=>by
    obtain⟨f,a⟩:=(b.mem_erase_iff).mp d;have:=h x a;lia
   have:=Kz n _ e c
   have g:l.length<=(l.erase (n:Int)).length+1:=by
    by_cases a:(n:Int)∈l;rw[List.length_erase_of_mem a];lia;rw[List.erase_of_not_mem a];lia
   lia
set_option tactic.hygienic true in
def Pw(ok:B9 W)(sc:Int):(BM W sc).length<=8:=by
 unfold BM;split;rename_i s a;exact ok.st s (Bi a);exact Df _
structure GQ (W:Wd) (sc st:Int) (F:List AJ) (p:Nat):Prop where
 root:([],sc,st)∈F
 is:∀b∈F,AS W sc st b
 nd:F.Nodup
 done:∀(j:Nat)(b:AJ),j<p->F[j]?=some b->∀c∈B4 W b,c∈F
 src:∀c∈F,c=([],sc,st)\/∃(j:Nat)(b:AJ),j<p/\F[j]?=some b/\c∈B4 W b
 le:p<=F.length
def GQ.start(W:Wd)(sc st:Int):GQ W sc st [([],sc,st)] 0 where
 root:=A3
 is b a:=by rw[AR.mp a];exact .root
 nd:=by simp
 done j b e:=by lia
 src c d:=.inl (AR.mp d)
 le:=Df _
def GQ.turn{F:List AJ}{p:Nat}(h:GQ W sc st F p)(g:F[p]?=some b):GQ W sc st (F++B4 W b) (p+1):=by
 have x:p<F.length:=(Bf.mp g).1;have y:=Bi g;have q:=h.is b y;have o:∀(j:Nat),j<F.length->(F++B4 W b)[j]?=F[j]?:=λj f=>E4 f
 have one:∀(j:Nat)(c:AJ),j<p+1->(F++B4 W b)[j]?=some c->(j<p/\F[j]?=some c)\/c=b:=λj c f e=>by
  rw[o j (by lia)] at e;by_cases z:j<p;exact .inl ⟨z,e⟩;have:j=p:=(by lia);subst this;rw[g] at e;exact .inr (B2 e).symm
 refine⟨E7 _ h.root,λc a=>?_,?_,λj c f e d hd=>?_,λc a=>?_,by rw[AQ];lia⟩;rcases BB.mp a with a|a;exact h.is c a;exact .kid q a;refine List.nodup_append.mpr ⟨h.nd,Jq W b,λc a d hd e=>?_⟩;subst e;obtain⟨r,C,_,_,l⟩:=Be.mp hd;rcases h.src c a with m|⟨j,i,f,k,n⟩;rw[m] at l;have:=BR Prod.fst l;simp at this;obtain⟨D,H,_,_,A⟩:=Be.mp n
 have s:i.1=b.1:=by
  have:=BR Prod.fst (A.symm.trans l);simp only at this;exact(List.append_inj' this rfl).1
 have t:=(h.is i (Bi k)).uniq q s;subst t;obtain⟨E,u⟩:=Bf.mp k;obtain⟨G,v⟩:=Bf.mp g;have:=(List.getElem_inj h.nd).mp (u.trans v.symm);lia;rcases one j c f e with⟨B,w⟩|rfl;exact E7 _ (h.done j c B w d hd);exact De _ hd;rcases BB.mp a with a|a;rcases h.src c a with m|⟨j,i,f,k,n⟩;exact .inl m;exact .inr ⟨j,i,by lia,by rw[o j (by lia)];exact k,n⟩;exact .inr ⟨p,b,by lia,by rw[o p x];exact g,a⟩
def GQ.few{W:Wd}(ok:B9 W){sc st:Int}(a:0<=sc/\sc<W.ss.length)(b:0<=st/\st<W.sts.length){F:List AJ}{p:Nat}(h:GQ W sc st F p):F.length<=62:=ok.few sc st F a b h.nd h.is
abbrev MP:Enc:=Ky FU Si FU
abbrev DO:Enc:=Ky (Ez MP) FU FU
structure DP (W:Wd) (sc st:Int) (bs:List AJ):Prop where
 mem:∀b,b∈bs↔AS W sc st b
 nd:bs.Nodup
 srt:bs.Pairwise DO.O.kle
 few:bs.length<=62
def DP.uniq{l m:List AJ}(h:DP W sc st l)(k:DP W sc st m):l=m:=
 ML (O:=DO.O) ((List.perm_ext_iff_of_nodup h.nd k.nd).mpr λb=>(h.mem b).trans (k.mem b).symm) h.srt k.srt
def GQ.all(ok:B9 W)(g:0<=sc/\sc<W.ss.length)(i:0<=st/\st<W.sts.length){F l:List AJ}(h:GQ W sc st F F.length)(a:l.Perm F)(d:l.Pairwise DO.O.kle):DP W sc st l:=by
 refine⟨λb=>?_,a.nodup_iff.mpr h.nd,d,by rw[a.length_eq];exact h.few ok g i⟩;rw[a.mem_iff];refine⟨h.is b,λe=>?_⟩
 induction e with
 |root=>exact h.root
 |kid _ k f =>
   obtain⟨j,c⟩:=List.getElem?_of_mem f;exact h.done j _ (Bf.mp c).1 c _ k
def DI (F:Addr->Prop) (H:Hp) (t:Addr) (b:AJ):Prop:=∃(l:Addr)(ms:List Addr),H t=some (.tup [.ref l,.int b.2.1,.int b.2.2])/\H l=some (.lst (ms.map V.ref))/\RT GP H ms b.1/\F l
def DI.same{F:Addr->Prop}{H H':Hp}{t:Addr}{b:AJ}(e:Ac H H')(h:DI F H t b):DI F H' t b:=by
 obtain⟨l,a,c,d,f,g⟩:=h;exact⟨l,a,e _ _ c,e _ _ d,f.same e,g⟩
def DI.mono{G:Addr->Prop}{t:Addr}(e:∀x,F x->G x)(h:DI F H t b):DI G H t b:=by
 obtain⟨l,a,c,d,f,g⟩:=h;exact⟨l,a,c,d,f,e _ g⟩
def DI.keeps{M F:Addr->Prop}{H H':Hp}{t:Addr}{b:AJ}(k:Keeps M H H')(c:∀x,F x->¬M x)(h:DI F H t b):DI F H' t b:=by
 obtain⟨l,d,e,f,g,a⟩:=h;exact⟨l,d,k.tup e,k.at_ _ _ f (c _ a),g.keeps k,a⟩
abbrev Px (m:Ar):Dt:=.tup [.int m.1,.str m.2.1,.int m.2.2]
def HC{K:Ai}(r:Ar)(t:Addr)(h:H t=some (.tup (GP r))):Aq K H (.ref t) (Px r):=.tup (Ao.of h) (.cons (.int _) (.cons (.str _) (.cons (.int _) .nil)))
def DI.dt{K:Ai}{t:Addr}(h:DI F H t b):Aq K H (.ref t) (DO.D b):=by
 obtain⟨l,e,a,c,d,f⟩:=h;exact .tup (Ao.of a) (.cons (.lst (Ag.of c) (d.dts HC)) (.cons (.int _) (.cons (.int _) .nil)))
def KA (H:Hp) (t:Addr) (r:Gn):Prop:=∃m,H t=some (.tup [.ref m,.str r.2.1.1,.int r.2.1.2,.int r.2.2])/\H m=some (.tup (GP r.1))
def KA.same{t:Addr}(e:Ac H H')(h:KA H t r):KA H' t r:=by
 obtain⟨m,a,b⟩:=h;exact⟨m,e _ _ a,e _ _ b⟩
def KA.keeps{t:Addr}(k:Keeps M H H')(h:KA H t r):KA H' t r:=by
 obtain⟨m,a,b⟩:=h;exact⟨m,k.tup a,k.tup b⟩
structure Br (K:Ai) (H:Hp) (nt A t:Addr) (W:Wd):Prop where
 net:∃(S T R:Addr)(us Gs Es ts qt:List Addr)(qs:List Qu),H nt=some (.tup [.ref S,.ref T,.ref R])/\Fu H S T R us Gs Es ts qt W.ss W.gs qs
 ans:Iw K H A W.as
 tab:∃(a o:Addr)(inn:V),Ao K H t [.ref a,inn,.ref o]/\Hy K H a W.sts
def Br.same{K:Ai}{H H':Hp}{b A t:Addr}{W:Wd}(e:Ac H H')(h:Br K H b A t W):Br K H' b A t W:=by
 obtain⟨S,T,R,us,Gs,Es,ts,c,qs,d,f⟩:=h.net;obtain⟨a,o,k,g,vs,i,j⟩:=h.tab;exact⟨⟨S,T,R,us,Gs,Es,ts,c,qs,e _ _ d,f.same e⟩,h.ans.same e,⟨a,o,k,e.seqT g,vs,e.seq i,j.same e⟩⟩
def DI.mono'{G:Addr->Prop}{t:Addr}(e:∀x o,H x=some o->F x->G x)(h:DI F H t b):DI G H t b:=by
 obtain⟨l,c,d,a,f,g⟩:=h;exact⟨l,c,d,a,f,e _ _ a g⟩
theorem Vz{H:Hp}:∀{ts:List Addr}{ps:A'},Cs H ts ps->∃zs:List (Row ER ER),zs.map (·.1)=ts.map V.ref/\zs.map (·.2)=ps/\∀z∈zs,∃t,z.1=.ref t/\H t=some (.tup [.str z.2.1,.str z.2.2])
 |[],[],_=>⟨[],rfl,rfl,λz hz=>by cases hz⟩
 |[],_::_,h=>by have:=h.len;simp at this
 |_::_,[],h=>by have:=h.len;simp at this
 |a::ts,p::ps,h=>by
   obtain⟨zs,b,c,d⟩:=Vz (ts:=ts) (ps:=ps) ⟨by simpa using h.len,λn t p f g=>h.at_ (n+1) t p (by simpa using f) (by simpa using g)⟩;refine⟨(V.ref a,p)::zs,by rw[E3,b];rfl,by rw[E3,c],λz hz=>?_⟩;rcases BO.mp hz with e|hz;rw[e];exact⟨a,rfl,h.at_ 0 a p rfl rfl⟩;exact d z hz
theorem VA{H:Hp}:∀{zs:List (Row ER ER)},(∀z∈zs,∃t,z.1=.ref t/\H t=some (.tup [.str z.2.1,.str z.2.2]))->∃ts:List Addr,zs.map (·.1)=ts.map V.ref/\Cs H ts (zs.map (·.2))
 |[],_=>⟨[],rfl,Cs.nil⟩
 |z::zs,h=>by
   obtain⟨ts,d,c⟩:=VA (zs:=zs) λy f=>h y (Ce _ f);obtain⟨t,e,g⟩:=h z A3;refine⟨t::ts,by rw[E3,d,e];rfl,by simp[c.len],λn u p a b=>?_⟩
   cases n with
   |zero=>simp at a b;subst a;subst b;exact g
   |succ n=>exact c.at_ n u p (by simpa using a) (by simpa using b)
def GA.caseT{K:Ai}{t:Addr}{n:Int}{ord:A'}(h:GA K F H t rs n ord):∃(a o:Addr)(e:V),Ao K H t [.ref a,e,.ref o]/\Hy K H a rs:=by
 obtain⟨a,o,us,ts,b,_,_,_,c,d,_⟩:=h.ex;exact⟨a,o,_,Ao.of b,d.stts c⟩
def GC{x:Int}{l:List Int}:Dt.int x∈l.map Dt.int↔x∈l:=⟨λh=>by
 obtain⟨y,a,z⟩:=Bd.mp h
 rw[<-Dt.int.inj z];exact a,λh=>Bd.mpr ⟨x,h,rfl⟩⟩
theorem Py{K:Ai}{H:Hp}:∀(l:List Int),Am K H (l.map V.int) (l.map Dt.int)
 |[]=>.nil
 |x::l=>.cons (.int x) (Py l)
def Sr(xs:List α)(x:α):Bj (xs++[x]) (-1)=some x:=by
 have e:Gz (xs++[x]).length (-1)=some xs.length:=by
  unfold Gz;rw[Al (by decide),An (by rw[AQ,Ec];lia),AQ,Ec];congr 1;lia
 unfold Bj;rw[e];show(xs++[x])[xs.length]?=some x
 simp
abbrev CP:Enc:=Ez MP
def FV (W:Wd) (sc:Int):List Ef:=match W.ss[sc.toNat]? with
 |some s=>s.2
 |none=>[]
def Ix (W:Wd) (st:Int):List Str:=match W.sts[st.toNat]? with
 |some s=>s.2
 |none=>[]
def FG (W:Wd) (b:AJ) (x:Str) (q:Ef) (i:Nat):List (List Ar):=if q.2.1=x/\q.1∈Ix W b.2.2 then[b.1++[(b.2.1,("told" : Str),(i:Int))]] else[]
def Dd (W:Wd) (b:AJ) (x:Str):List Ef->Nat->List (List Ar)
 |[],_=>[]
 |q::r,i=>FG W b x q i++Dd W b x r (i+1)
def DQ (W:Wd) (x:Str) (bs:List AJ):List (List Ar):=bs.flatMap λb=>Dd W b x (FV W b.2.1) 0
theorem VB(W:Wd)(b:AJ)(x:Str)(q:Ef):∀(l:List Ef)(i:Nat),Dd W b x (l++[q]) i=Dd W b x l i++FG W b x q (i+l.length)
 |[],i=>by simp[Dd]
 |p::l,i=>by
   show FG W b x p i++Dd W b x (l++[q]) (i+1)=(FG W b x p i++Dd W b x l (i+1))++_;rw[VB W b x q l (i+1),Ge,Er,show i+1+l.length=i+(l.length+1) by lia]
theorem VC(W:Wd)(b:AJ)(x:Str):∀(l:List Ef)(i:Nat),(Dd W b x l i).length<=l.length
 |[],i=>AG _
 |q::l,i=>by
   show(FG W b x q i++Dd W b x l (i+1)).length<=_;have a:(FG W b x q i).length<=1:=by unfold FG;split<;>simp
   have c:=VC W b x l (i+1);rw[AQ,Er];lia
set_option tactic.hygienic true in
theorem VD{W:Wd}{b:AJ}{x:Str}{w:List Ar}:∀{l:List Ef}{i:Nat},w∈Dd W b x l i->∃(j:Nat)(q:Ef),l[j]?=some q/\q.2.1=x/\q.1∈Ix W b.2.2/\w=b.1++[(b.2.1,("told" : Str),((i+j:Nat):Int))]
 |[],i,h=>by cases h
 |q::l,i,h=>by
   rcases BB.mp (show w∈FG W b x q i++Dd W b x l (i+1) from h) with h|h
   unfold FG at h;split at h;rename_i a;exact⟨0,q,rfl,a.1,a.2,AR.mp h⟩;cases h;obtain⟨j,c,d,e,f,g⟩:=VD h;exact⟨j+1,c,by simpa using d,e,f,by rw[g,show i+1+j=i+(j+1) by lia]⟩
def Ss{bs:List AJ}{w:List Ar}(h:w∈DQ W x bs):∃b∈bs,∃(j:Nat)(q:Ef),(FV W b.2.1)[j]?=some q/\q.2.1=x/\q.1∈Ix W b.2.2/\w=b.1++[(b.2.1,("told" : Str),(j:Int))]:=by
 obtain⟨b,a,c⟩:=List.mem_flatMap.mp h;obtain⟨j,q,d,e,f,g⟩:=VD c;exact⟨b,a,j,q,d,e,f,by rw[g,Nat.zero_add]⟩
theorem Su{α:Type}{f:AJ->List α}{k:Nat}:∀(bs:List AJ),(∀b,(f b).length<=k)->(bs.flatMap f).length<=bs.length*k
 |[],_=>by simp
 |b::bs,h=>by
   rw[List.flatMap_cons,AQ,Er,Nat.succ_mul];have:=h b;have:=Su bs h;lia
structure MQ (W:Wd) (x:Str) (bs:List AJ) (ws:List (List Ar)):Prop where
 perm:ws.Perm (DQ W x bs)
 srt:ws.Pairwise CP.O.kle
def MQ.uniq{bs:List AJ}{l m:List (List Ar)}(h:MQ W x bs l)(k:MQ W x bs m):l=m:=ML (O:=CP.O) (h.perm.trans k.perm.symm) h.srt k.srt
def CL (F:Addr->Prop) (H:Hp) (l:Addr) (w:List Ar):Prop:=∃ms:List Addr,H l=some (.lst (ms.map V.ref))/\RT GP H ms w/\F l
def CL.same{F:Addr->Prop}{H H':Hp}{t:Addr}{b:List Ar}(e:Ac H H')(h:CL F H t b):CL F H' t b:=by
 obtain⟨a,c,d,f⟩:=h;exact⟨a,e _ _ c,d.same e,f⟩
def CL.mono'{G:Addr->Prop}{t:Addr}{b:List Ar}(e:∀x o,H x=some o->F x->G x)(h:CL F H t b):CL G H t b:=by
 obtain⟨c,a,d,f⟩:=h;exact⟨c,a,d,e _ _ a f⟩
def CL.keeps{M F:Addr->Prop}{H H':Hp}{t:Addr}{b:List Ar}(k:Keeps M H H')(c:∀x,F x->¬M x)(h:CL F H t b):CL F H' t b:=by
 obtain⟨d,e,f,a⟩:=h;exact⟨d,k.at_ _ _ e (c _ a),f.keeps k,a⟩
def CL.dt{K:Ai}{t:Addr}{b:List Ar}(h:CL F H t b):Aq K H (.ref t) (CP.D b):=by
 obtain⟨d,a,c,_⟩:=h;exact .lst (Ag.of a) (c.dts HC)
def VE{c:Enc}{zs:List (Addr×c.O.α)}{d:List (DN c)}(a:d.Perm (zs.map λz=>((V.ref z.1,z.2):DN c))) :
 ∃ws:List (Addr×c.O.α),d.map (·.1)=(ws.map λz=>V.ref z.1)/\d.map (·.2)=ws.map (·.2)/\(ws.map (·.2)).Perm (zs.map (·.2))/\∀z∈ws,z∈zs:=by
 have:∀{l:List (DN c)},(∀y∈l,y∈zs.map λz=>((V.ref z.1,z.2):DN c))->∃ws:List (Addr×c.O.α),l=ws.map λz=>(V.ref z.1,z.2):=by
  intro l
  induction l with
  |nil=>exact λζ=>⟨[],rfl⟩
  |cons y l f =>
    intro h;obtain⟨ws,rfl⟩:=f λz g=>h z (Ce _ g);obtain⟨z,_,rfl⟩:=Bd.mp (h y A3);exact⟨z::ws,rfl⟩
 obtain⟨ws,rfl⟩:=this λy b=>a.mem_iff.mp b;refine⟨ws,by rw[Ep];rfl,by rw[Ep];rfl,?_,λz k=>?_⟩;have:=a.map (·.2);rw[Ep,Ep] at this;exact this;have:=a.mem_iff.mp (Bd.mpr ⟨z,k,rfl⟩);obtain⟨y,b,e⟩:=Bd.mp this;injection e with i j;have:y=z:=Prod.ext (V.ref.inj i) j;rw[<-this];exact b
abbrev Pz:Enc:=LD (Ez MP) FU
abbrev Ow:Type:=List Ar×Int
def ow (b:AJ) (r:Gn):Option Ow:=if r.2.1.1=("open" : Str) then some (b.1++[r.1],r.2.1.2) else none
def FH (W:Wd) (bs:List AJ):List Ow:=bs.flatMap λb=>(Gi W b.2.1 b.2.2).filterMap (ow b)
set_option tactic.hygienic true in
def VF{bs:List AJ}{w:Ow}(h:w∈FH W bs):∃b∈bs,∃(j:Nat)(p:Ck)(a:Int),(BM W b.2.1)[j]?=some p/\EA (Dl W b.2.2) p.1=some a/\(DH W.gs W.as p).1=("open" : Str)/\w=(b.1++[(b.2.1,("step" : Str),(j:Int))],(DH W.gs W.as p).2):=by
 obtain⟨b,c,d⟩:=List.mem_flatMap.mp h;obtain⟨r,f,e⟩:=List.mem_filterMap.mp d;obtain⟨j,p,a,g,i,rfl⟩:=MO f;unfold ow at e;split at e;rename_i k;exact⟨b,c,j,p,a,g,i,k,(B2 e).symm⟩;cases e
structure N5 (W:Wd) (bs:List AJ) (ws:List Ow):Prop where
 perm:ws.Perm (FH W bs)
 srt:ws.Pairwise Pz.O.kle
def N5.uniq{bs:List AJ}{l m:List Ow}(h:N5 W bs l)(k:N5 W bs m):l=m:=ML (O:=Pz.O) (h.perm.trans k.perm.symm) h.srt k.srt
def FI (F:Addr->Prop) (H:Hp) (t:Addr) (p:Ow):Prop:=∃(l:Addr)(ms:List Addr),H t=some (.tup [.ref l,.int p.2])/\H l=some (.lst (ms.map V.ref))/\RT GP H ms p.1/\F l
def FI.same{F:Addr->Prop}{H H':Hp}{t:Addr}{b:Ow}(e:Ac H H')(h:FI F H t b):FI F H' t b:=by
 obtain⟨l,a,c,d,f,g⟩:=h;exact⟨l,a,e _ _ c,e _ _ d,f.same e,g⟩
def FI.mono'{G:Addr->Prop}{t:Addr}{b:Ow}(e:∀x o,H x=some o->F x->G x)(h:FI F H t b):FI G H t b:=by
 obtain⟨l,c,d,a,f,g⟩:=h;exact⟨l,c,d,a,f,e _ _ a g⟩
def FI.keeps{M F:Addr->Prop}{H H':Hp}{t:Addr}{b:Ow}(k:Keeps M H H')(c:∀x,F x->¬M x)(h:FI F H t b):FI F H' t b:=by
 obtain⟨l,d,e,f,g,a⟩:=h;exact⟨l,d,k.tup e,k.at_ _ _ f (c _ a),g.keeps k,a⟩
def FI.dt{K:Ai}{t:Addr}{b:Ow}(h:FI F H t b):Aq K H (.ref t) (Pz.D b):=by
 obtain⟨l,e,a,c,d,_⟩:=h;exact .tup (Ao.of a) (.cons (.lst (Ag.of c) (d.dts HC)) (.cons (.int _) .nil))
def YA{bs:List AJ}(h:bs[i]?=some b):FH W (bs.take (i+1))=FH W (bs.take i)++(Gi W b.2.1 b.2.2).filterMap (ow b):=by
 rw[Ek,h];show(bs.take i++[b]).flatMap _=_;rw[List.flatMap_append];simp[FH]
def LG{β:Type}(f:α->Option β)(l:List α)(x:α):(l++[x]).filterMap f=l.filterMap f++(f x).toList:=by
 rw[List.filterMap_append];cases e:f x<;>simp[e]
def Jr(h:r.2.1.1=("open" : Str)):ow b r=some (b.1++[r.1],r.2.1.2):=An h
def Js(h:r.2.1.1≠("open" : Str)):ow b r=none:=Al h
structure BJ (W:Wd):Prop where
 tl:∀s∈W.ss,∀p∈s.2,Ey W.gs.length W.as.length p
 fnd:∀(x:Str)(sc st:Int)(bs:List AJ),(0<=sc/\sc<W.ss.length)->(0<=st/\st<W.sts.length)->DP W sc st bs->(DQ W x bs).length<=62
 owd:∀(sc st:Int)(bs:List AJ),(0<=sc/\sc<W.ss.length)->(0<=st/\st<W.sts.length)->DP W sc st bs->(FH W bs).length<=62
def Fd (ss:List AY) (m:Ar):Str:=match ss[m.1.toNat]? with
 |some s=>if m.2.1=("step" : Str) then(match s.1[m.2.2.toNat]? with
   |some p=>p.1
   |none=>default) else(match s.2[m.2.2.toNat]? with
   |some p=>p.1
   |none=>default)
 |none=>default
def EB (ss:List AY) (m:Ar):Prop:=∃(n k:Nat)(s:AY),m.1=(n:Int)/\m.2.2=(k:Int)/\ss[n]?=some s/\((m.2.1=("step" : Str)/\k<s.1.length)\/(m.2.1=("told" : Str)/\k<s.2.length))
def YB{m:Ar}{p:Ck}(a:m.1=(n:Int))(b:m.2.2=(k:Int))(c:ss[n]?=some s)(d:m.2.1=("step" : Str))(e:s.1[k]?=some p):Fd ss m=p.1:=by
 unfold Fd;rw[a,b,BK,BK,c];dsimp only;rw[An d,e]
def YC{m:Ar}{p:Ef}(a:m.1=(n:Int))(b:m.2.2=(k:Int))(c:ss[n]?=some s)(d:m.2.1≠("step" : Str))(e:s.2[k]?=some p):Fd ss m=p.1:=by
 unfold Fd;rw[a,b,BK,BK,c];dsimp only;rw[Al d,e]
def Sv:("told" : Str)≠("step" : Str):=by decide +kernel
open Classical in
noncomputable def DR (ss:List AY) (ord:A'):List Ar->List Ar->Bool
 |m::ms,q::qs=>if m=q then DR ss ord ms qs else dec ((Fd ss m,Fd ss q)∈ord)
 |_,_=>false
def Sw(ss:List AY)(ord:A')(m:Ar)(a qs:List Ar):DR ss ord (m::a) (m::qs)=DR ss ord a qs:=by
 rw[DR];exact An rfl
def Sx(ss:List AY)(ord:A'){m q:Ar}(a qs:List Ar)(h:m≠q):DR ss ord (m::a) (q::qs)=dec ((Fd ss m,Fd ss q)∈ord):=by
 rw[DR];exact Al h
theorem MR(ss:List AY)(ord:A'):∀{l m:List Ar},l=[]\/m=[]->DR ss ord l m=false
 |[],_,_=>by rw[DR];intros;simp at *
 |_::_,[],_=>by rw[DR];intros;simp at *
 |_::_,_::_,h=>by simp at h
def VG(ok:B9 W)(u:0<=sc/\sc<W.ss.length)(v:0<=st/\st<W.sts.length)(h:AS W sc st b):∀m∈b.1,EB W.ss m:=by
 induction h with
 |root=>intro m c;cases c
 |@kid d x i k l =>
   obtain⟨r,o,_,_,rfl⟩:=Be.mp k;intro m c;rcases BB.mp c with c|c;exact l m c;rw[AR.mp c];have q:=i.ok ok u v;have s:=q.rng d.2.1 (by unfold AM;simp);obtain⟨j,p,a,e,_,rfl⟩:=MO o;obtain⟨n,f⟩:=DL s.1;have w:n<W.ss.length:=(by lia);have g:=AC w;have t:BM W d.2.1=W.ss[n].1:=by unfold BM;rw[f,BK,g]
   rw[t] at e;exact⟨n,j,_,f,rfl,g,.inl ⟨rfl,(Bf.mp e).1⟩⟩
def Sy(ok:B9 W)(h:0<=sc/\sc<W.ss.length)(i:0<=st/\st<W.sts.length){bs:List AJ}(k:DP W sc st bs){w:List Ar}(l:w∈DQ W x bs):(∀m∈w,EB W.ss m)/\w.length<=100:=by
 obtain⟨b,o,j,q,d,_,_,rfl⟩:=Ss l;have e:=(k.mem b).mp o;have c:=e.ok ok h i;have p:=c.rng b.2.1 (by unfold AM;simp);refine⟨λm a=>?_,?_⟩;rcases BB.mp a with a|a;exact VG ok h i e m a;rw[AR.mp a];obtain⟨n,f⟩:=DL p.1;have s:n<W.ss.length:=(by lia);have g:=AC s;have r:FV W b.2.1=W.ss[n].2:=by unfold FV;rw[f,BK,g]
 rw[r] at d;exact⟨n,j,_,f,rfl,g,.inr ⟨rfl,(Bf.mp d).1⟩⟩;have:=Kz W.ss.length (AM b) c.nd c.rng;rw[show(AM b).length=b.1.length+1 by unfold AM;simp] at this;have:=ok.s5;rw[AQ,Ec];lia
def YD(ok:B9 W)(i:0<=sc/\sc<W.ss.length)(k:0<=st/\st<W.sts.length){bs:List AJ}(l:DP W sc st bs){w:Ow}(o:w∈FH W bs):(∀m∈w.1,EB W.ss m)/\w.1.length<=100:=by
 obtain⟨b,q,j,p,a,e,_,_,rfl⟩:=VF o;have f:=(l.mem b).mp q;have d:=f.ok ok i k;have r:=d.rng b.2.1 (by unfold AM;simp);refine⟨λm c=>?_,?_⟩;rcases BB.mp c with c|c;exact VG ok i k f m c;rw[AR.mp c];obtain⟨n,g⟩:=DL r.1;have t:n<W.ss.length:=(by lia);have h:=AC t;have s:BM W b.2.1=W.ss[n].1:=by unfold BM;rw[g,BK,h]
 rw[s] at e;exact⟨n,j,_,g,rfl,h,.inl ⟨rfl,(Bf.mp e).1⟩⟩;have:=Kz W.ss.length (AM b) d.nd d.rng;rw[show(AM b).length=b.1.length+1 by unfold AM;simp] at this;have:=ok.s5;show(b.1++[(b.2.1,("step" : Str),(j:Int))]).length<=100;rw[AQ,Ec];lia
def YE(h:n<=40000):n<sizeLine:=Nat.lt_of_le_of_lt h (by decide)
def MS (ss:List AY) (w:List Ar):Prop:=(∀m∈w,EB ss m)/\w.length<=100
end L2
namespace PySem
section
variable {prog:Program} {w:World} {K:Type} [DecidableEq K] {knd:HeapKind prog w K} {A:Around} {E:D'} {s:Shared}
def YF{d a:Addr}{xs:List (K×Addr×Value)}{k:K}{v:Value}{Q:D'}(l:knd.room A)(i:knd.is s.heap k a)(r:s.heap.DictOfH knd d xs)
 (t:∀p,atKey xs k=some p->Q p.2 {s with toks:=s.toks+knd.draws k})
 (u:atKey xs k=none->∀h',h'.DictOfH knd d (storedH xs k a v)->Heap.SameBut d s.heap h'->Q v {s with heap:=h',toks:=s.toks+knd.draws k})
 (hsz:xs.length<=sizeLine:=by size_fits) :
 wpAny (model prog w) A (dictSetDefault d (.ref a) v) Q E s:=by
 obtain⟨o,D,z,c,B,hd,g,q,h⟩:=r;unfold dictSetDefault
 try with_reducible refine FN ?_
 refine Ad (knd.pyHash l i ?_);refine Ad (wpAny_dictFind_heap (s:={s with toks:=s.toks+knd.draws k}) l i c hd g q h ?_ ?_);intro f;have C:k∉xs.map (·.1):=not_mem_keys_of_get f
 refine Ad (Im (Ad (wpAny_updateDictKeys (hz:=by have e:=size_of_entries g;lia) (s:={s with toks:=s.toks+knd.draws k}) c hd (AB (u (atKey_none_of_get f) _ ⟨_,_,z+1,Heap.get?_update_self _ c (Obj.isFreed_of_dict (Obj.data_mapDictKeys hd _)),
  B.mapDictKeys _,Obj.data_mapDictKeys hd _,?_,?_,?_⟩ (Heap.SameBut.update ..))))))
 rw[storedH_new (atKey_none_of_get f)];simp[g,entryOfKey];rw[storedH_new (atKey_none_of_get f)];intro x b;rcases BB.mp b with b|b;exact knd.keeps (q x b) c hd (Heap.SameBut.update ..);simp only[AR] at b;subst b;exact knd.keeps i c hd (Heap.SameBut.update ..);rw[storedH_new (atKey_none_of_get f)];rw[Bh,List.nodup_append];refine⟨h,by simp,?_⟩;intro x b y m;simp only[E3,Nd,AR] at m;subst m;exact λe=>C (e▸b);intro j p n;refine Ad (wpAny_dictEntries (s:={s with toks:=s.toks+knd.draws k}) c hd ?_);rw[entry_at g j,n];exact Ad (Im (AB (t p (atKey_of_get h n))))
def YG(d a:Addr)(hd:(d==sysModules)=false)(b:Value) :
 MeetsIn prog w (Builtin.«dict.setdefault» ⟨[.ref d,.ref a,b],[]⟩) (λA R s=>knd.room A.in1/\∃k xs,knd.is s.heap k a/\s.heap.DictOfH knd d xs/\xs.length<=sizeLine /\
  (∀p,atKey xs k=some p->R (.ok (.ret p.2)) {s with toks:=s.toks+knd.draws k}) /\
  (atKey xs k=none->∀h',h'.DictOfH knd d (storedH xs k a b)->Heap.SameBut d s.heap h'->R (.ok (.ret b)) {s with heap:=h',toks:=s.toks+knd.draws k})):=
 .of_wp λA R s l=>by
  obtain⟨e,k,xs,o,c,f,g,h⟩:=l;unfold Builtin.«dict.setdefault»;refine Ad ?_;unfold Builtin.Dict.keyAndDefault;refine Ad (wpAny_notOrdered_dict c.typeIs ?_);show wpAny _ _ (pure (d,Value.ref a,some b)) _ _ s;refine AB ?_;show wpAny _ _ (if(d==sysModules)=true then _ else(dictSetDefault d (.ref a) b >>= _)) _ _ s;rw[Al (by rw[hd];exact C3)];exact Ad (YF (hsz:=f) e o c (λp i=>AB ⟨p.2,rfl,g p i⟩) λj h' m n=>AB ⟨b,rfl,h j h' m n⟩)
end
section
variable {prog:Program} {w:World} {A:Around} {E:D'} {s:Shared}
variable {d:Addr}{es:Array DictEntry}{ep:Nat}
theorem YH{o:Obj}{Q:D'}(hd:(d==sysModules)=false)(a:s.heap.get? d=some o)(e:o.ExactDict)(c:o.data=.dict es ep)
 (f:Q (.ref s.heap.objs.size) {s with heap:=s.heap.push {cls:=.type "dict_keyiterator",data:=.fields #[.ref d,.int 0 0,.int es.size 0,.int ep 0]}}) :
 wpAny (model prog w) A (pyIter (.ref d)) Q E s:=by
 have b:s.TypeIs (.ref d) "dict" :=⟨o,a,e.1⟩;refine wpAny_pyIter_slot b F.slot_dict_iter (wpAny_call_entry F.slot_dict_iter b F.entry_dict_iter ?_ (F.args_dict_iter_1 _));unfold Builtin.«dict.__iter__»;refine Ad ?_;unfold Builtin.Dict.dictSlotNone;refine Ad (wpAny_notOrdered_dict b ?_);show wpAny _ _ (pure (Value.ref d)) _ _ s;refine AB ?_;show wpAny _ _ (Builtin.Dict.showsAll d >>= _) _ _ s;unfold Builtin.Dict.showsAll;rw[Al (by rw[hd];exact C3)];refine Ad (AB ?_);refine Ad (wpAny_dictEntries a c ?_);refine Ad (wpAny_dictEpoch a c ?_);refine Ad (wpAny_newObj_type (AB ⟨_,rfl, "dict_keyiterator",_,⟨_,Ci _ rfl,rfl⟩,F.slot_dict_keyiterator_next.lookup,?_⟩));simpa [rawInt] using f
theorem YI{a:Addr}{i:Nat}{e:Obj}{Q:Option Value->Shared->Prop}(b:s.heap.IsKeyIter a d i es.size ep)
 (f:s.heap.get? d=some e) (g:e.data=.dict es ep) (l:i<es.size)
 (j:∀h',h'.IsKeyIter a d (i+1) es.size ep->Heap.SameBut a s.heap h'->Q (some es[i].key) {s with heap:=h'}) :
 wpAny (model prog w) A (pyNext (.ref a)) Q E s:=by
 obtain⟨o,c,k,hd⟩:=id b;unfold pyNext
 refine Ad (wpAny_attempt (wpAny_callSpecial?_slot (name:=Str.ofString "__next__") b.typeIs F.slot_dict_keyiterator_next
  (wpAny_call_entry F.slot_dict_keyiterator_next b.typeIs F.entry_dict_keyiterator_next ?_ (F.args_dict_keyiterator_next_1 _))))
 refine Ad (AB ?_);refine Ad ?_;refine Ad ?_
 first|refine Ad (wpAny_typeNameOfWhole_keyiter b.typeIs (AB ?_))|refine Ad (wpAny_typeNameOf_keyiter b.typeIs (AB ?_))
 refine Ad (wpAny_fieldsOf c hd ?_);have m:Builtin.Dict_items.ownsTuple "dict_keyiterator" = false:=(by decide)
 simp only[m,FD,if_false];show wpAny _ _ (if(Value.ref d==Value.none)=true then _ else _) _ _ s;rw[Al (show ¬((Value.ref d==Value.none)=true) from C3)];refine Ad (AB ?_);refine Ad (wpAny_dictEntries f g ?_);rw[Al (by simp)];refine Ad (AB ?_);refine Ad (wpAny_dictEpoch f g ?_);rw[Al (by simp)];refine AB ?_;simp only[show ¬((i:Int)<0) from by lia,if_false,BK,Array.getElem?_eq_getElem l];refine Ad ?_
 first|refine Ad (wpAny_typeNameOfWhole_keyiter b.typeIs (AB ?_))|refine Ad (wpAny_typeNameOf_keyiter b.typeIs (AB ?_))
 refine Ad (wpAny_isOneOf_keyiter b.typeIs ?_);show wpAny _ _ (setField (.ref a) 1 (rawInt ((i:Int)+1)) >>= _) _ _ s;refine Ad (wpAny_setField c hd (by simp) ?_)
 have h:(s.heap.update a (Obj.mapFields (·.setIfInBounds 1 (rawInt ((i:Int)+1))))).IsKeyIter a d (i+1) es.size ep:=
  ⟨_,Heap.get?_update_self _ c (Obj.isFreed_of_fields (Obj.data_mapFields hd _)),(Obj.cls_mapFields ..).trans k,by rw[Obj.data_mapFields hd];simp[rawInt]⟩
 refine Ad (FN ?_);refine Ad (wpAny_isOneOf_keyiter (s:={s with heap:=s.heap.update a (Obj.mapFields (·.setIfInBounds 1 (rawInt ((i:Int)+1))))}) h.typeIs ?_);show wpAny _ _ (pure es[i].key) _ _ _;exact AB (AB ⟨_,rfl,AB (j _ h (Heap.SameBut.update ..))⟩)
theorem YJ{e:Addr}{i:Nat}{f:Obj}{Q:Option Value->Shared->Prop}(k:A.handled=none)(c:s.heap.IsKeyIter e d i es.size ep)
 (h:s.heap.get? d=some f) (j:f.data=.dict es ep) (n:es.size<=i)
 (l:∀h',Heap.ExtBut e s.heap h'->Q none {s with heap:=h'}):wpAny (model prog w) A (pyNext (.ref e)) Q E s:=by
 obtain⟨o,g,q,hd⟩:=id c;unfold pyNext
 refine Ad (wpAny_attempt (wpAny_callSpecial?_slot (name:=Str.ofString "__next__") c.typeIs F.slot_dict_keyiterator_next
  (wpAny_call_entry F.slot_dict_keyiterator_next c.typeIs F.entry_dict_keyiterator_next ?_ (F.args_dict_keyiterator_next_1 _))))
 refine Ad (AB ?_);refine Ad ?_;refine Ad ?_
 first|refine Ad (wpAny_typeNameOfWhole_keyiter c.typeIs (AB ?_))|refine Ad (wpAny_typeNameOf_keyiter c.typeIs (AB ?_))
 refine Ad (wpAny_fieldsOf g hd ?_);have p:Builtin.Dict_items.ownsTuple "dict_keyiterator" = false:=(by decide)
 simp only[p,FD,if_false];show wpAny _ _ (if(Value.ref d==Value.none)=true then _ else _) _ _ s;rw[Al (show ¬((Value.ref d==Value.none)=true) from C3)];refine Ad (AB ?_);refine Ad (wpAny_dictEntries h j ?_);rw[Al (by simp)];refine Ad (AB ?_);refine Ad (wpAny_dictEpoch h j ?_);rw[Al (by simp)];refine AB ?_;simp only[show ¬((i:Int)<0) from by lia,if_false,BK,Array.getElem?_eq_none n];refine Ad ?_
 first|refine Ad (wpAny_typeNameOfWhole_keyiter c.typeIs (AB ?_))|refine Ad (wpAny_typeNameOf_keyiter c.typeIs (AB ?_))
 show wpAny _ _ (setField (.ref e) 0 .none >>= _) _ _ s;refine Ad (wpAny_setField g hd (by simp) ?_);show wpAny _ _ (newExc (.type "StopIteration") [] >>= _) _ _ _
 refine Ad ?_;simp only[newExc,newTuple];refine Ad (wpAny_newObj_type ?_ (by size_fits));refine Ad (m:=firstArgMember _ _) (wpAny_of_eq (a:=Value.none) (by first|rfl|(simp only[firstArgMember];rfl)) ?_);refine wpAny_newObj_type ?_ (by size_fits);simp only[raiseNew];refine Ad (wpAny_handled ?_);rw[show A.in1.handled=none from k];refine Ad (AB (wpAny_throw ?_))
 refine Ad (wpAny_isInstance (T:= "StopIteration") (b:=true) ⟨_,Ci _ rfl,rfl⟩ isSubtype_stop ?_);exact AB (l _ (((Heap.SameBut.update ..).extBut.push _).push _))
end
end PySem
namespace L2
open PySem PySem.Spec PyProof.Rows
section
variable {X:Cx}
def N6:V->List V->Hp->VK->Prop:=λx vs H Q=>∃a kvs k b d,x=.ref a/\vs=[.ref b,d]/\H a=some (.dT kvs)/\H b=some (.tup (k.map kV))/\kvs.length<sizeLine/\(∀v,A0 kvs k=some v->Q v H)/\(A0 kvs k=none->Q d (upd H a (.dT (Cg kvs k d))))
def YK(A:X.A.units+1<cLine):NK X "dict.setdefault" N6:=by
 intro Z s σ H x T v U Q I B C h;obtain⟨a,g,k,b,d,rfl,rfl,hd,l,V,D,E⟩:=h;cases B;obtain⟨u,r,rfl,F,m⟩:=Kp C;cases(show u=Value.ref b from F);obtain⟨z,n,o,j,p⟩:=Ks I.hok hd
 have i:o.length<=sizeLine:=by rw[<-Paired.length j];exact z
 have f:=j.val k
 refine call_meetsIn PySem.F.slot_dict_setdefault p.typeIs PySem.F.entry_dict_setdefault (PySem.F.args_dict_setdefault_3 _ _ _) (YG (knd:=tupleKind (FE X.prog X.w)) a b n r)
  ⟨tupleKind_room_in1 A,k,o,MG I.hok l,p,i,λy G=>?_,λJ W S K=>?_⟩
 rw[G] at f
 cases e:A0 g k with
 |none=>rw[e] at f;exact False.elim f
 |some v0 =>
   rw[e] at f;exact⟨v0,H,I.tok _,f,D v0 e⟩
 rw[J] at f
 cases e:A0 g k with
 |some v0=>rw[e] at f;exact False.elim f
 |none =>
   have i:(Cg g k d).length<=sizeLine:=by have:=UR g k d;lia
   obtain⟨q,L,M,t,N,O,P,_,R⟩:=S;refine⟨d,_,UT (ob:=.dT (Cg g k d)) I (by rw[hd];exact True.intro) K ⟨q,t⟩ ⟨i,n,_,(j.put k l m).keeps λc Y w=>?_,q,L,M,t,N,O,P,R⟩,m,E e⟩;rw[AH (Ni w hd (λz=>nomatch z))];exact w
def PB (H U Y:Hp):Prop:=∀b,Y b=U b\/H b=none/\∃kvs o,U b=some (.dT kvs)/\Y b=some (.frz o (.dT kvs))
def Inv.frz{pins:B'}{s:Shared}{σ:St}{H Y:Hp}(I:Inv X pins σ H s)(h:∀b,Y b=H b\/∃a o,s.heap.get? b=some o/\H b=some (.dT a)/\Y b=some (.frz o (.dT a))):Inv X pins σ Y s:=by
 have same:∀b u,H b=some u->(∀a,u≠.dT a)->Y b=some u:=λb u e n=>by
  rcases h b with z|⟨a,o,_,z,_⟩;rw[z];exact e;rw[e] at z;cases z;exact absurd rfl (n a)
 refine I.step (g':=s.gens) (t':=s.toks) (d':=s.drawn) (h':=s.heap) (ch:=[]) (λb f=>nomatch f) (λb o ζ ζ ζ z ζ=>z) (λb o ζ ζ ζ z ζ=>⟨o.slots,z⟩) (λb o ζ ζ n=>?_) (λb o ζ z=>⟨o,z⟩)
  (λb i z=>same b _ z λζ q=>nomatch q) (λb o u z=>same b _ z λζ q=>nomatch q) (λb l z=>⟨#[],by rw[same b _ z λζ q=>nomatch q];simp⟩) (λm j=>j) (λb u z=>?_) I.bare
 rcases h b with z|⟨a,o,_,z,_⟩;rw[z];exact n;rw[n] at z;cases z;have d:∀{v:HO},H b=some v->AF X.prog X.w Y s.heap b v:=λ{v}e=>(I.hok b v e).stay (λζ ζ ζ q=>q) (λc q=>same c _ q λζ q=>nomatch q) λc i q=>same c _ q λζ q=>nomatch q;rcases h b with y|⟨a,o,g,y,k⟩;rw[y] at z;exact d z;rw[k] at z;cases z;exact⟨g,d y⟩
def Sz (t:TE):TE:=λσ H Q=>t σ H λv U=>∀Y,PB H U Y->(∀b kvs,H b=none->U b=some (.dT kvs)->∃o,Y b=some (.frz o (.dT kvs)))->Q v Y
set_option tactic.hygienic true in
def HD{e:Expr}{t:TE}(m:PE X e t):PE X e (Sz t):=by
 intro r s σ H Q I h;refine AO (m r s σ H _ I h) λu i⟨x,U,k,n,p⟩=>?_
 classical
 let Y:Hp:=λb=>if H b=none then(match U b,i.heap.get? b with
  |some (.dT a),some o=>some (.frz o (.dT a))
  |z,_=>z) else U b
 have j:∀b,Y b=U b\/H b=none /\ ∃a o,i.heap.get? b=some o/\U b=some (.dT a)/\Y b=some (.frz o (.dT a)):=λb=>by
  by_cases c:H b=none
  have e:Y b=(match U b,i.heap.get? b with
   |some (.dT a),some o=>some (.frz o (.dT a))
   |z,_=>z):=An c
  by_cases hd:∃a o,U b=some (.dT a)/\i.heap.get? b=some o;obtain⟨a,o,d,f⟩:=hd;rw[d,f] at e;exact .inr ⟨c,a,o,f,d,e⟩;refine .inl ?_;rw[e];split;rename_i a o d f;exact absurd ⟨a,o,d,f⟩ hd;rfl;exact .inl (Al c)
 refine⟨x,Y,k.frz λb=>(j b).imp id λ⟨_,z⟩=>z,n,p Y (λb=>(j b).imp id λ⟨c,a,o,_,d,f⟩=>⟨c,a,o,d,f⟩) λb a c z=>?_⟩;rcases j b with y|⟨_,v,o,_,l,q⟩;exfalso
 obtain⟨_,_,_,_,o,w,A,g,_⟩:=(show AF X.prog X.w U i.heap b (.dT a) from k.hok b _ z)
 have e:Y b=some (.frz o (.dT a)):=by
  show(if H b=none then _ else _)=_;rw[An c,z,g]
 rw[e,z] at y;cases y;rw[z] at l;cases l;exact⟨o,q⟩
def SA (a:Addr) (o:Obj) (kvs:List (List Bp×V)):It:=
 ⟨λi H=>H a=some (.frz o (.dT kvs))/\i<kvs.length,λi H x H'=>H'=H/\∃k v b,kvs[i]?=some (k,v)/\x=.ref b/\H b=some (.tup (k.map kV)),λi H=>H a=some (.frz o (.dT kvs))/\kvs.length<=i⟩
def LH{α β:Type}{F:α->β->Prop}{l:List α}{m:List β}(h:Paired F l m):∀{i:Nat}(a:i<l.length),∃y,m[i]?=some y/\F l[i] y:=by
 induction h with
 |nil=>intro i a;exact absurd a (Nat.not_lt_zero _)
 |cons r t b =>
   intro i a
   cases i with
   |zero=>exact⟨_,rfl,r⟩
   |succ i=>exact b (i:=i) (by simpa using a)
def YL{P:Program}{w:World}{K:Ai}{T:Expr}{a j:Addr}{o:Obj}{p:List (List Bp×V)}{es:Array DictEntry}{ep:Nat}(hd:o.data=.dict es ep) :
 FQ P w K T (SA a o p) [j] j (λi h=>h.IsKeyIter j a i es.size ep) where
 mem:=by simp
 obj:=λi h f b l=>by
  have e:b=j:=(by simpa using l);subst e;obtain⟨o,e,c,d⟩:=f;exact⟨o,e,λah z=>by rw[d] at z;cases z⟩
 keep:=λi h r f k=>f.at λo e=>k j (by simp) o e
 item:=by
  intro X u v x O i S s σ H E I t f A;subst u v x;obtain⟨B,C⟩:=A;obtain⟨m,z,y,U,N,W,ab,ae,g,Y,n,D,Z⟩:=(show AF X.prog X.w H s.heap a (.frz o (.dT p)) from I.hok a _ B);rw[m] at g;cases g;rw[hd] at n;cases n;obtain⟨q,hx,e1,e2,e3⟩:=LH N C;have Q:=entry_at (knd:=tupleKind (FE X.prog X.w)) D i;rw[hx] at Q;obtain⟨af,ag⟩:=Array.getElem?_eq_some_iff.mp Q;obtain⟨F,G,aa,J,L,M⟩:=t j (by simp);refine YI f m hd af λr R sb=>?_;have I1:Inv X S σ H {s with heap:=r}:=I.turned (t':=s.toks) (λb o l e=>(sb.2 b l).trans e) F G J L M;obtain⟨oi,e,c,d⟩:=id R;refine⟨_,rfl,O9 (s:={s with heap:=r}) e c d (by decide) ⟨.ref q.2.1,H,I1,?_,⟨rfl,p[i].1,p[i].2,q.2.1,by simp[C],rfl,e2⟩,R,λb l=>(t b l).1⟩⟩;rw[ag];rfl
 done:=by
  intro X u v x O i S s σ H E I t f A;subst u v x;obtain⟨B,C⟩:=A;obtain⟨m,z,y,U,N,W,ab,ae,g,Y,n,D,Z⟩:=(show AF X.prog X.w H s.heap a (.frz o (.dT p)) from I.hok a _ B);rw[m] at g;cases g;rw[hd] at n;cases n;have ai:=size_of_entries D;have hl:=Paired.length N;obtain⟨F,G,aa,J,L,M⟩:=t j (by simp);exact YJ (I.ok.hd O) f m hd (by lia) λr eb=>⟨rfl,I.turned (t':=s.toks) (λb o l e=>eb b o l e) F G J L M⟩
 self:=λζ ζ ζ ζ ζ f h=>wpAny_pyIter_keyiter f h
def N7 (tl:TE):TI:=λσ H R=>tl σ H λx U=>∃a kvs,x=.ref a/\Rd U a (.dT kvs)/\∀o,(U a=some (.dT kvs)\/U a=some (.frz o (.dT kvs)))->R (SA a o kvs) (upd U a (.frz o (.dT kvs)))
def Jt{r l:Expr}{k:TE}(t:PE X l k):PI X r l (N7 k):=by
 intro p s σ H R I h;refine AO (t p s σ H _ I h) λv c⟨x,U,i,u,w⟩=>?_;obtain⟨a,d,e,m,q⟩:=w;subst e;cases u;obtain⟨_,y,C,_,o,D,E,g,A,n,_⟩:=(show AF X.prog X.w U c.heap a (.dT d) from Ho i.hok m)
 have f:U a=some (.dT d)\/U a=some (.frz o (.dT d)):=by
  rcases m with z|⟨B,z⟩;exact .inl z
  have:=(show AF X.prog X.w U c.heap a (.frz B (.dT d)) from i.hok a _ z).1
  rw[g] at this;cases this;exact .inr z
 have j:Inv X p σ (upd U a (.frz o (.dT d))) c:=i.frz λb=>by
  by_cases e:b=a;subst e;rcases f with z|z;exact .inr ⟨d,o,g,z,Aa⟩;exact .inl (Aa.trans z.symm);exact .inl (AH e)
 refine YH y g A n ?_;refine⟨c.heap.objs.size,[c.heap.objs.size],_,_,_,rfl,j.kept (t':=c.toks) λb o e=>Bg _ e,YL n,⟨_,Ci _ rfl,rfl,rfl⟩,λb f=>?_,q o f⟩;have e:b=c.heap.objs.size:=(by simpa using f);subst e;exact j.fpOk (AG _) (j.hok.fresh (AG _))
def YM{a:Addr}{o:Obj}{c:List (List Bp×V)}{g:TG}{tb:TS}{D:Ends}{σ:St}{H:Hp}(Pv:Nat->St->Hp->Prop)(f:Pv 0 σ H)(e:∀i σ H,i<=c.length->Pv i σ H->H a=some (.frz o (.dT c)))
 (h:∀i k v b σ H,c[i]?=some (k,v)->H b=some (.tup (k.map kV))->Pv i σ H->g (.ref b) σ H λσ2 Y=>tb {D with nx:=Pv (i+1),ct:=Pv (i+1),bk:=D.nx} σ2 Y) (hd:∀σ H,Pv c.length σ H->D.nx σ H):FR (SA a o c) g tb D σ H:=NB c.length Pv f (λi σ H p d=>⟨e i σ H (C9 d) p,d⟩) (λσ H p=>⟨e _ σ H (AG _) p,AG _⟩) (λi x σ H m p d y=>by obtain⟨rfl,k,v,b,j,rfl,l⟩:=y;exact h i k v b σ _ j l p) hd
end
end L2
namespace PySem
section
variable {prog:Program} {w:World} {A:Around} {E:D'} {s:Shared}
theorem YN{a:Addr}{o:Obj}{xs:Array Value}{k:Nat}{Q:Option Value->Shared->Prop}
 (f:s.heap.get? a=some o) (i:o.cls=.type "list") (p:o.data=.seq xs k) (hd:o.dict=none) (q:A.handled=none)
 (h:∀h' j,(∀b o,s.heap.get? b=some o->h'.get? b=some o)->Q none {s with heap:=h',toks:=j}):wpAny (model prog w) A (getAttr? (.ref a) "keys") Q E s:=by
 obtain⟨c,dct,H,r⟩:=o;simp only at i p hd;subst i p hd;obtain⟨t,g,d,j,u⟩:=s;have l:∀m,(⟨t,g,d,m,u⟩:Shared).TypeIs (.ref a) "list" :=λζ=>⟨_,f,rfl⟩;have x:=sub_AttributeError;have y:=F.slot_list_getattribute.lookup;have z:=F.slot_list_getattribute.bind (.ref a);have B:=am_list_getattr_none;have v:typeLookup (.type "list") "keys" = pure none:=by rw[typeLookup_type,builtinLookup_eq_fast];kernel_rfl
 unfold getAttr? getAttrBy? getAttrBy
 repeat (any_goals (first|assumption|exact l _|((with_reducible show wpAny _ _ (call (Value.builtin "list.__getattribute__") _ _) _ _ _);refine call_meets F.slot_list_getattribute (l _) am_entry_list_getattribute (F.args_list_getattribute_2 _ _) (meets_getattribute_miss_list a xs k r "keys" _ v (by decide) (by size_fits)) ⟨f,q,λh' m e n=>?_⟩)|wp_step))
 obtain⟨C,D,G⟩:=n.there;show wpAny _ _ (getattributeRaised _ _ _ _ _ _ _) _ _ _;unfold getattributeRaised
 repeat (any_goals (first|assumption|wp_step))
 exact h _ _ n.keeps
namespace F
def args_minD(a v:Value):argsOk "min" ⟨[a],[(Str.ofString "default",v)]⟩:=by unfold argsOk;kernel_rfl
def entry_upd_loop:entryFor table "dict.update.loop" = some Builtin.«dict.update.loop»:=entryFor_of_tree (by kernel_rfl)
def plain_upd_loop:plainId "dict.update.loop" = true:=by decide +kernel
end F
variable {R:Result->Shared->Prop} {I:Addr} {fp r:List Addr} {n:Nat} {P:Nat->Value->Prop} {St:Nat->Heap->Prop}
def PD:(toString "min" ++ toString ".loop" : String) = "min.loop" :=by decide
theorem SD(W:Walks prog w A.in1 I fp r n P St)(d:Nat->Nat->Bool)(G:CmpOf prog w A.in1 .Lt P d)(S:Addr)(m:S∉fp)(u:List (Str×Value)) :
 ∀(k j:Nat)(s:Shared)(a:Value)(c:Nat),n=j+1+k->St (j+1) s.heap->P (argBest d j) a->s.heap.get? S=some {cls:=.type "list",data:=.seq #[a,a] c} ->
 (∀v h' p,P (argBest d (n-1)) v->(∀b o,b∉r->b≠S->s.heap.get? b=some o->h'.get? b=some o)->R (.ok (.ret v)) {s with heap:=h',toks:=p}) ->
 codeAny (model prog w) A (.builtin "min.loop" ⟨[.ref I,.none,.ref S],u⟩) R s
 |0,j,s,a,c,H,z,t,l,q=>by
   subst H;refine codeAny_builtin F.entry_min_loop ?_;rw[Around.under_plainId F.plain_min_loop _];show wpAny _ A.in1 (seqItems? (.ref S) >>= _) _ _ s;refine Ad (Gv l rfl ?_);show wpAny _ A.in1 (tryCatch (pyNext (.ref I)) _ >>= _) _ _ s;refine Ad (wpAny_tryCatch (W.done s _ _ z λh' p g=>?_));show wpAny _ A.in1 (updateSeq S (λζ=>#[]) >>= _) _ _ _;refine Ad (wpAny_updateSeq (g S _ (λh=>m (W.sub _ h)) l) rfl (Ad (wpAny_letGo (AB (q a _ p t λb o f i e=>?_)))));exact(Heap.get?_update_other _ _ (Ne.symm i)).trans (g b o f e)
 | k + 1,j,s,a,c,H,z,t,l,q=>by
   refine codeAny_builtin F.entry_min_loop ?_;rw[Around.under_plainId F.plain_min_loop _];show wpAny _ A.in1 (seqItems? (.ref S) >>= _) _ _ s;refine Ad (Gv l rfl ?_);show wpAny _ A.in1 (tryCatch (pyNext (.ref I)) _ >>= _) _ _ s;refine Ad (wpAny_tryCatch (W.item (j+1) s _ _ (by lia) z λv h' p J L g=>?_));have B:=g S _ (λh=>m (W.sub _ h)) l;show wpAny _ A.in1 (tryCatch (holding [v,v] (richCompare .Lt v a >>= _)) _ >>= _) _ _ _;refine Ad (wpAny_tryCatch (FN (Ad (G (j+1) (argBest d j) v a _ _ _ J t (Ad (FN (F7 (Ad (wpAny_letGo (AB ?_))))))))))
   cases K:d (j+1) (argBest d j) with
   |true =>
     simp only[if_true];refine Ad (wpAny_updateSeq B rfl (Ad (wpAny_letGo ?_)));rw[PD];refine AB ⟨plainId_quiet F.plain_min_loop _,SD W d G S m u k (j+1) _ v _ (by lia) (W.frame _ _ _ L λb M o e=>?_) (by simp only[argBest,K,if_true];exact J) (Heap.get?_update_self _ B rfl) λx y C D E=>?_⟩;exact(Heap.get?_update_other _ _ (λh:S=b=>m (by rw[h];exact M))).trans e;exact q x y C D λb o f i e=>E b o f i ((Heap.get?_update_other _ _ (Ne.symm i)).trans (g b o f e))
   |false =>
     simp only[FD,if_false];refine Ad (wpAny_letGo ?_);rw[PD]
     exact AB ⟨plainId_quiet F.plain_min_loop _,SD W d G S m u k (j+1) _ a c (by lia) L (by simp only[argBest,K,FD,if_false];exact t) B λx y C D E =>
      q x y C D λb o f i e=>E b o f i (g b o f e)⟩
theorem YO{x d:Value}{Q:D'}
 (h:wpAny (model prog w) A.in1 (pyIter x) (λm c=>∃I fp r n P St f,m=.ref I/\Walks prog w A.in1 I fp r n P St/\St 0 c.heap/\(∀b∈fp,b<c.heap.objs.size)/\CmpOf prog w A.in1 .Lt P f /\
  ∀v h' g,(if n=0 then v=d else P (argBest f (n-1)) v)->(∀b o,b∉r->c.heap.get? b=some o->h'.get? b=some o)->Q v {c with heap:=h',toks:=g}) E s) :
 wpAny (model prog w) A (call (.builtin "min") [x] [(Str.ofString "default",d)]) Q E s:=by
 refine wpAny_call (codeAny_call_builtin F.plain_min F.entry_min (wpAny_of_eq (a:=()) (by
  have k:=F.args_minD x d;simp only[checkBuiltinCall,F.kind_min];unfold argsOk at k
  cases R:Manifest.signature? "min" with
  |none=>rfl
  |some U=>rw[R] at k;exact k) ?_))
 show wpAny _ A.in1 (Builtin.Builtins.bindParams "min" ["key", "default"] 0 ⟨[],[(Str.ofString "default",d)]⟩ >>= _) _ _ s
 refine Ad (wpAny_of_eq (show Builtin.Builtins.bindParams "min" ["key", "default"] 0 ⟨[],[(Str.ofString "default",d)]⟩=pure [none,some d] from rfl) ?_)
 refine Ad (AB ?_);refine Ad (FP h (λm c z=>?_) λζ ζ e=>e);obtain⟨I,fp,r,n,P,St,f,rfl,W,H,J,S,p⟩:=z;refine Ad (wpAny_newObj_type ?_);have l:c.heap.objs.size∉fp:=λB=>Hc _ (J _ B);have K:c.heap.objs.size∉r:=λh=>l (W.sub _ h);rw[PD];have q:(c.heap.push {cls:=.type "list",data:=.seq #[]}).get? c.heap.objs.size=some {cls:=.type "list",data:=.seq #[]}:=Ci _ rfl;have y:=W.frame _ _ (c.heap.push {cls:=.type "list",data:=.seq #[]}) H λb ζ o e=>Bg _ e;refine AB ⟨plainId_quiet F.plain_min_loop _,codeAny_builtin F.entry_min_loop ?_⟩;rw[Around.under_plainId F.plain_min_loop _];show wpAny _ A.in1 (seqItems? (.ref c.heap.objs.size) >>= _) _ _ _;refine Ad (Gv q rfl ?_);show wpAny _ A.in1 (tryCatch (pyNext (.ref I)) _ >>= _) _ _ _
 cases n with
 |zero =>
   refine Ad (wpAny_tryCatch (W.done _ _ _ y λh' g i=>?_));exact Ad (Im (AB (p d _ g (by rw[An rfl]) λb o j e=>i b o j (Bg _ e))))
 |succ n =>
   refine Ad (wpAny_tryCatch (W.item 0 _ _ _ (Nat.succ_pos _) y λv h' g C T i=>?_));have u:=i _ _ K q;show wpAny _ A.in1 (updateSeq c.heap.objs.size (λζ=>#[v,v]) >>= _) _ _ _;refine Ad (wpAny_updateSeq u rfl ?_);rw[PD];refine AB ⟨plainId_quiet F.plain_min_loop _,SD W f S _ l _ n 0 _ v _ (by lia) (W.frame _ _ _ T λb L o e=>?_) C (Heap.get?_update_self _ u rfl) λD G M N O=>?_⟩;exact(Heap.get?_update_other _ _ (λh:c.heap.objs.size=b=>l (by rw[h];exact L))).trans e;refine p D G M (by rw[Al (Nat.succ_ne_zero n)];exact N) λb o j e=>?_;have t:b≠c.heap.objs.size:=CO (Bt e);exact O b o j t ((Heap.get?_update_other _ _ (Ne.symm t)).trans (i b o j (Bg _ e)))
end
end PySem
namespace L2
open PySem PySem.Spec PyProof.Rows
section
variable {X:Cx}
def PH:List Int->V
 |[]=>.non
 |n::ns=>.int (ns.foldl min n)
theorem VH(f:Nat->Int):∀n,f (argBest (λi j=>decide (f i<f j)) n)=((List.range n).map λi=>f (i+1)).foldl min (f 0)
 |0=>rfl
 |n+1=>by
   have a:=VH f n;rw[List.range_succ,Bh,Ki];show f (if _ then _ else _)=min _ (f (n+1));rw[<-a]
   by_cases h:f (n+1)<f (argBest (λi j=>decide (f i<f j)) n);rw[An (A7 h)];lia;rw[Al (by simpa using h)];lia
def YQ(n:Int)(ns:List Int):((List.range ns.length).map λi=>(n::ns).getD (i+1) 0)=ns:=by
 apply List.ext_getElem?;intro i;rw[A6];by_cases h:i<ns.length;rw[List.getElem?_range h,Option.map_some,BC,List.getElem?_cons_succ,AC h];rfl;rw[Gu (by simpa using h),Gu (by lia)];rfl
def N8 (ta:TA):TE:=λσ H Q=>ta σ H λvs U=>∃p ns,vs=[.ref p]/\U p=some (.lst (ns.map V.int))/\Q (PH ns) U
def Ju{e:Expr}{r:TA}{p L B J:Pos}{j:Nat}(C:X.calm=true)(D:Gl X "min")(E:X.mg "min" = none)(F:PA X [e] r)
 (f:backTo L (starEach [e] X.env)=(false,eval e X.env)::backTo L (starEach [] X.env):=by rfl) (R:(backTo L (starEach [e] X.env)).any (·.1)=false:=by rfl) :
 PE X (.Call (.Name "min" p) [e] [⟨some "default",.Constant .none j B,J⟩] L) (N8 r):=by
 intro T s σ H Q I h;refine wpAny_Call_Name_kw (IJ I D E (u:=.builtin "min") (by decide +kernel) (callWith_kw (AO (F L T s σ H _ I h) λY c⟨Z,U,k,G,K⟩=>kws_cons (Constant_none (kws_nil ?_))) f R))
 obtain⟨l,a,rfl,M,q⟩:=K;obtain⟨u,rfl,N⟩:=F8 G;cases N;obtain⟨z,g,n,w,e⟩:=(show AF X.prog X.w U c.heap l (.lst (a.map V.int)) from k.hok l _ M);have x:=XA w;have y:c.heap.IsList l g.toArray:=⟨_,e,rfl,n,rfl⟩
 have W:g.length=a.length:=by have:=w.length;rw[Aj] at this;exact this.symm
 refine YO (wpAny_pyIter_list y ⟨_,[c.heap.objs.size,l],[c.heap.objs.size],_,λi v=>g.toArray[i]?=some v,λi h=>h.IsListIter c.heap.objs.size l i/\h.IsList l g.toArray,λi j=>decide (a.getD i 0<a.getD j 0),rfl,Walks.list (A:=X.A.in1) (k.ok.hd C) c.heap.objs.size l (CO (Bt e)) g.toArray,
  ⟨⟨_,Ci _ rfl,rfl,rfl⟩,y.push _⟩,λb f=>?_,CmpOf.ints_lt (λi=>a.getD i 0) (λi v d=>x.int_at i v (by simpa using d)),λv O tk d P=>?_⟩)
 show b<(c.heap.push _).objs.size;rw[Heap.size_push];rcases BO.mp f with rfl|f;exact QJ _;rw[AR.mp f];exact Nat.lt_succ_of_lt (Bt e);have S:∀b o,c.heap.get? b=some o->O.get? b=some o:=λb o z=>P b o (by simpa using CO (Bt z)) (Bg _ z);refine⟨PH a,U,k.kept S,?_,q⟩;rw[Cw,W] at d
 cases a with
 |nil=>exact d
 |cons m a =>
   rw[Er,Al (Nat.succ_ne_zero _),Nat.add_sub_cancel] at d;obtain⟨t,rfl⟩:=x.int_at (argBest (λi j=>decide ((m::a).getD i 0<(m::a).getD j 0)) a.length) v (by rw[<-List.getElem?_toArray];exact d);refine⟨t,?_⟩;rw[VH λi=>(m::a).getD i 0,YQ];rfl
def KC (acc:List (List Bp×V)) (ps:List (List Bp×V)):List (List Bp×V):=ps.foldl (λa kv=>Cg a kv.1 kv.2) acc
def Fe (H:Hp) (xs:List V) (ps:List (List Bp×V)):Prop:=Paired (λx(p:List Bp×V)=>∃t b,x=.ref t/\H t=some (.tup [.ref b,p.2])/\H b=some (.tup (p.1.map kV))) xs ps
def YR{pins:B'}{σ:St}{A:Around}{R:Result->Shared->Prop}{H:Hp}{p l f:Addr}(hu:A.units+1<cLine)(hh:A.in1.handled=none)(k:H p=none)(F:f≠p) :
 ∀(xs:List V)(ps:List (List Bp×V))(d:List V)(acc:List (List Bp×V))(s:Shared),Fe H xs ps->H l=some (.lst (d++xs))->acc.length+xs.length<=sizeLine->Inv X pins σ (upd H p (.dT acc)) s ->
 s.heap.IsListIter f l d.length->Dg X pins H f->(∀Z,Inv X pins σ (upd H p (.dT (KC acc ps))) Z->R (.ok (.ret .none)) Z)->∀n:Int,
 codeAny (model X.prog X.w) A (.builtin "dict.update.loop" ⟨[.ref p,.ref f,rawInt n,.none],[]⟩) R s:=by
 intro xs ps d acc s hx
 induction hx generalizing d acc s with
 |nil =>
   intro g K I u m v n;have G:upd H p (.dT acc) l=some (.lst (d++[])):=(AH (AW g k)).trans g;obtain⟨w,y,aa,B,C,D⟩:=m;have J:upd H p (.dT acc) f=none:=(AH F).trans w;obtain⟨z,U,c,E,e⟩:=(show AF X.prog X.w _ s.heap l (.lst (d++[])) from I.hok l _ G);have an:=E.length;rw[FM] at an;refine codeAny_builtin PySem.F.entry_upd_loop ?_;rw[Around.under_plainId PySem.F.plain_upd_loop _];show wpAny _ A.in1 (pyNext (.ref f) >>= _) _ _ s;refine Ad (wpAny_pyNext_list_end hh u ⟨_,e,rfl,c,rfl⟩ (by simp;lia) λj eb=>?_);exact Ad (AB (AB (v _ (I.turned (t':=s.toks) (λb o h e=>eb b o h e) J y B C D))))
 |@cons x q xs ps hq tl ih =>
   intro g K I u m v n;obtain⟨t,b,rfl,L,h⟩:=hq;have G:upd H p (.dT acc) l=some (.lst (d++.ref t::xs)):=(AH (AW g k)).trans g;have af:upd H p (.dT acc) t=some (.tup [.ref b,q.2]):=(AH (AW L k)).trans L;have W:upd H p (.dT acc) b=some (.tup (q.1.map kV)):=(AH (AW h k)).trans h;obtain⟨w,y,aa,B,C,D⟩:=id m;have J:upd H p (.dT acc) f=none:=(AH F).trans w;obtain⟨z,U,c,E,e⟩:=(show AF X.prog X.w _ s.heap l (.lst (d++.ref t::xs)) from I.hok l _ G);obtain⟨ao,ag,ru⟩:=E.get (i:=d.length) (x:=.ref t) (by simp);cases ru;refine codeAny_builtin PySem.F.entry_upd_loop ?_;rw[Around.under_plainId PySem.F.plain_upd_loop _];show wpAny _ A.in1 (pyNext (.ref f) >>= _) _ _ s;refine Ad (wpAny_pyNext_list_item u (⟨_,e,rfl,c,rfl⟩:s.heap.IsList l U.toArray) (x:=.ref t) (by simpa using ag) λj ah sb=>?_);have r:Inv X pins σ (upd H p (.dT acc)) {s with heap:=j}:=I.turned (t':=s.toks) (λb o h e=>(sb.2 b h).trans e) J y B C D;obtain⟨_,ts,rt,ot,M,ct,nt,dt⟩:=(show AF X.prog X.w _ j t (.tup [.ref b,q.2]) from r.hok t _ af);obtain⟨u1,N,rfl,r1,r2⟩:=Kp rt;cases(show u1=Value.ref b from r1);obtain⟨zd,hm,es,Y,dd⟩:=Ks r.hok (Aa (H:=H) (a:=p) (o:=.dT acc))
   have ai:es.length<=sizeLine:=by rw[<-Paired.length Y];exact zd
   have aq:(Cg acc q.1 q.2).length<=acc.length+1:=UR acc q.1 q.2;rw[Er] at K;refine Ad (FN (Ad (wpAny_tryCatch ?_)));show wpAny _ A.in1 (Builtin.Dict.pairItems (.ref t)) _ _ _;unfold Builtin.Dict.pairItems;refine Ad (OY (s:={s with heap:=j}) (T:= "tuple") ⟨ot,M,ct⟩ ?_);rw[An (by decide)];refine Ad (Gv (s:={s with heap:=j}) M dt (AB ?_));show wpAny _ A.in1 (holding [Value.ref b,N] (dictSet p (.ref b) N)) _ _ _;refine FN (wpAny_dictSet_heap (hsz:=ai) (knd:=tupleKind (FE X.prog X.w)) (tupleKind_room_in1 hu) (MG r.hok W) dd λh2 aj O=>?_);obtain⟨P,ak,al,Q,ab,ae,g4,_,g5⟩:=aj
   have I2:Inv X pins σ (upd H p (.dT (Cg acc q.1 q.2))) {s with heap:=h2,toks:=s.toks+(tupleKind (FE X.prog X.w)).draws q.1}:=by
    have:=UT (t':=s.toks+(tupleKind (FE X.prog X.w)).draws q.1) (ob:=.dT (Cg acc q.1 q.2)) r (by rw[Aa];exact True.intro) O ⟨P,Q⟩ ⟨by lia,hm,_,(Y.put q.1 W r2).keeps λc ys S=>?_,P,ak,al,Q,ab,ae,g4,g5⟩;rw[IH] at this;exact this;rw[AH (Ni S Aa (λz=>nomatch z))];exact S
   refine AB ⟨plainId_quiet PySem.F.plain_upd_loop _,?_⟩;have:=ih (d++[.ref t]) (Cg acc q.1 q.2) _ (by rw[Ge];exact g) (by lia) I2 (by rw[AQ];exact ah.at λo e=>(O.2 f F).trans e) m v (n+1);exact this
def Jv:List V->Hp->VK->Prop:=λvs H Q=>∃l xs ps,vs=[.ref l]/\H l=some (.lst xs)/\xs.length<sizeLine/\Fe H xs ps/\∀p,H p=none->Q (.ref p) (upd H p (.dT (KC [] ps)))
def YS(k:X.calm=true)(B:X.A.units+2<cLine):Bn X (.type "dict") Jv:=by
 intro pins s σ H L M Q I r h;obtain⟨l,m,C,rfl,n,N,D,q⟩:=h;obtain⟨u,rfl,E⟩:=F8 r;cases E;have p:H s.heap.objs.size=none:=I.hok.fresh (AG _);refine callType_codes (Q₁:=λx t=>x=.ref s.heap.objs.size/\t={s with heap:=s.heap.push {cls:=.type "dict",data:=.dict #[]}}) PySem.F.kt_called_dict (PySem.F.kt_typeCall_dict_1 _) PySem.F.entry_dict_init (kt_code_dict_new _ ⟨rfl,rfl⟩) ?_;rintro x t ⟨rfl,rfl⟩;have F:=I.laid (a:=s.heap.objs.size) (o:=.dT []) (t':=s.toks) (h':=s.heap.push {cls:=.type "dict",data:=.dict #[]}) (λζ ζ q=>Bg _ q) (AG _) (UU s.heap I.big)
 obtain⟨z,P,c,O,e⟩:=(show AF X.prog X.w _ s.heap l (.lst m) from I.hok l _ n)
 have f:=Bg {cls:=.type "dict",data:=.dict #[]} e;have v:Shared.TypeIs {s with heap:=s.heap.push {cls:=.type "dict",data:=.dict #[]}} (.ref s.heap.objs.size) "dict" :=⟨_,Ci _ rfl,rfl⟩;refine⟨v,PySem.F.args_dict_init_2 _ _,?_⟩;unfold Builtin.«dict.__init__»;refine Ad ?_;unfold Builtin.Dict.selfAndRest;refine Ad (wpAny_notOrdered_dict v ?_);show wpAny _ _ (pure (s.heap.objs.size,[Value.ref l])) _ _ _;refine AB ?_;show wpAny _ _ (Builtin.Dict.updateFrom "dict.__init__" s.heap.objs.size (.ref l) [] .none) _ _ _;unfold Builtin.Dict.updateFrom;refine Ad (OY (T:= "list") ⟨_,f,rfl⟩ ?_)
 rw[An (by decide)];refine Ad (YN f rfl rfl rfl (I.ok.hd k) λd g w=>?_);rw[An (show(none:Option Value).isNone=true from rfl)];have i:=F.kept (t':=g) w;refine Ad (Im (Ad (wpAny_pyIter_list (s:={s with heap:=d,toks:=g}) ⟨_,w _ _ f,rfl,c,rfl⟩ ?_)))
 have G:=i.kept (t':=g) (h':=d.push {cls:=.type "list_iterator",data:=.fields #[.ref l,.int 0 0]}) λb o e=>Bg _ e;obtain⟨j,J⟩:=i.fpOk (AG d.objs.size) (i.hok.fresh (AG _));have y:d.objs.size≠s.heap.objs.size:=λz=>by rw[z,Aa] at j;cases j
 refine AB ⟨plainId_quiet PySem.F.plain_upd_loop _,YR (A:=X.A.in1) (X:=X) (pins:=pins) (σ:=σ) (l:=l) (H:=H) B (I.ok.hd k) p y m C [] [] _ D n (by rw[GK];lia) G ⟨_,Ci _ rfl,rfl,rfl⟩ ⟨(AH y).symm.trans j,J⟩ (λZ K=>⟨rfl,.ref _,_,K,rfl,q _ p⟩) 0⟩
end
open Ord
def YT{bs:List Bool}:(List.range bs.length).any (λi=>bs.getD i false)=bs.any id:=by
 rw[Bool.eq_iff_iff,Kh,Kh];constructor;rintro⟨i,a,h⟩;have c:=List.mem_range.mp a;rw[BC,AC c] at h;exact⟨_,Ed c,h⟩;rintro⟨b,d,h⟩;obtain⟨i,a,e⟩:=OW.mp d;refine⟨i,List.mem_range.mpr a,?_⟩;rw[BC,AC a,e];exact h
def SE (K:Ai):List V->Hp->VK->Prop:=λvs H Q=>∃(a:Addr)(bs:List Bool),vs=[.ref a]/\Ag K H a (bs.map V.bl)/\Q (.bl (bs.any id)) H
def YU{X:Cx}(g:X.calm=true):Bn X (.builtin "any") (SE X.K):=by
 intro C s σ H t w Q I r h;obtain⟨a,bs,rfl,j,q⟩:=h;obtain⟨u,rfl,k⟩:=F8 r;obtain rfl:u=Value.ref a:=k;obtain⟨c,d,p,x⟩:=I.list j;have f:=d.length;rw[Aj] at f;have n:a<s.heap.objs.size:=by obtain⟨_,e,_⟩:=p.isList;exact Bt e
 refine call_any_walk (wpAny_pyIter_list p.isList ?_);refine⟨s.heap.objs.size,[s.heap.objs.size,a],[s.heap.objs.size],c.toArray.size,(λi v=>c.toArray[i]?=some v),(λi h=>h.IsListIter s.heap.objs.size a i/\h.IsList a c.toArray),(λi=>bs.getD i false),rfl,Walks.list (A:=X.A.in1) (I.ok.hd g) s.heap.objs.size a (CO n) c.toArray,⟨⟨_,Ci _ rfl,rfl,rfl⟩,p.isList.push _⟩,UW d,λy B l=>?_⟩;refine⟨.bl (bs.any id),H,I.kept λb o e=>l b o (λz=>?_) (Bg _ e),?_,q⟩;have m:b=s.heap.objs.size:=(by simpa using z);exact absurd (Bt e) (by rw[m];exact Hc _);have e:c.toArray.size=bs.length:=(by rw[Cw,f]);show Value.bool _=Value.bool _;rw[e,YT]
section
variable {prog:Program} {w:World} {A:Around} {E:D'} {s:Shared}
end
section
variable {X:Cx}
end
end L2
namespace TreeM
def SG{β:Type}{P:List β->Prop}(nil:P [])(snoc:∀l x,P l->P (l++[x]))(l:List β):P l:=by
 have:∀l:List β,P l.reverse:=λl=>by
  induction l with
  |nil=>exact nil
  |cons x l a=>rw[List.reverse_cons];exact snoc _ _ a
 rw[<-List.reverse_reverse l];exact this _
variable {α:Type} [DecidableEq α]
abbrev Ws (α:Type):=List (Nat×List α)
def Gj (p:List α) (w:List α):Option α:=if p <+: w then w[p.length]? else none
def keysAt (ws:Ws α) (p:List α):List (α×Nat):=ws.foldl (λks kw=>match Gj p kw.2 with
 |some m=>if m∈ks.map (·.1) then ks else ks++[(m,kw.1)]
 |none=>ks) []
theorem KD(ws:Ws α)(k:Nat)(w p:List α):keysAt (ws++[(k,w)]) p=match Gj p w with
 |some m=>if m∈(keysAt ws p).map (·.1) then keysAt ws p else keysAt ws p++[(m,k)]
 |none=>keysAt ws p:=by
 unfold keysAt;rw[Ki];rfl
def Jw(p:List α):Gj p p=none:=by
 unfold Gj;rw[An (List.prefix_refl p)];exact Gu (AG _)
def YV(p:List α)(m:α):Gj p (p++[m])=some m:=by
 unfold Gj;rw[An (Mx p [m]),Fn (AG _),Nat.sub_self];rfl
variable {p:List α}{m:α}
def YW{q:List α}(h:p≠q):Gj p (q++[m])=Gj p q:=by
 unfold Gj;by_cases a:p <+: q;rw[An a,An (a.trans (Mx q [m]))]
 have l:p.length<q.length:=by
  rcases Nat.lt_or_ge p.length q.length with x|x;exact x;exact absurd (a.eq_of_length_le x) h
 exact E4 l;rw[Al a];by_cases b:p <+: q++[m];rw[An b];rcases List.prefix_concat_iff.mp b with e|e;rw[e];exact Gu (AG _);exact absurd e a;rw[Al b]
def YX(ws:Ws α)(k:Nat)(p:List α):keysAt (ws++[(k,[])]) p=keysAt ws p:=by
 rw[KD]
 have:Gj p ([]:List α)=none:=by
  unfold Gj;by_cases a:p <+: [];rw[An a];rfl;rw[Al a]
 rw[this]
variable {ws:Ws α}
def SH{k:Nat}{q:List α}(h:p≠q):keysAt (ws++[(k,q++[m])]) p=keysAt (ws++[(k,q)]) p:=by
 rw[KD,KD,YW h]
def VI(ws:Ws α)(k:Nat)(q:List α)(m:α):keysAt (ws++[(k,q++[m])]) q =
 if m∈(keysAt (ws++[(k,q)]) q).map (·.1) then keysAt (ws++[(k,q)]) q else keysAt (ws++[(k,q)]) q++[(m,k)]:=by
 rw[KD,KD,YV,Jw]
def FW{w:List α}:Gj p w=some m↔p++[m] <+: w:=by
 unfold Gj;by_cases a:p <+: w;rw[An a];obtain⟨t,rfl⟩:=a;rw[Fn (AG _),Nat.sub_self]
 cases t with
 |nil =>
   refine⟨λe=>(nomatch e),λe=>?_⟩;have:=e.length_le;rw[FM,AQ] at this;exact absurd this (by show ¬p.length+1<=p.length;lia)
 |cons x t =>
   refine⟨λe=>?_,λe=>?_⟩;cases e;exact⟨t,by simp⟩;obtain⟨u,e⟩:=e;rw[Ge] at e;have:=List.append_cancel_left e;simp at this;rw[this.1];rfl
 rw[Al a];exact⟨λe=>(nomatch e),λe=>absurd ((Mx p [m]).trans e) a⟩
def keysAt_mem:m∈(keysAt ws p).map (·.1)↔∃a∈ws,p++[m] <+: a.2:=by
 induction ws using SG with
 |nil=>exact⟨λh=>(nomatch h),λ⟨_,h,_⟩=>(nomatch h)⟩
 |snoc ws a c =>
   obtain⟨k,w⟩:=a;rw[KD]
   have both:(∃a∈ws++[(k,w)],p++[m] <+: a.2)↔(∃a∈ws,p++[m] <+: a.2)\/p++[m] <+: w:=by
    constructor;rintro⟨x,b,e⟩;rcases BB.mp b with y|y;exact .inl ⟨x,y,e⟩;rw[AR.mp y] at e;exact .inr e;rintro(⟨x,b,e⟩|e);exact⟨x,E7 _ b,e⟩;exact⟨_,De _ (AR.mpr rfl),e⟩
   rw[both,<-c,<-FW]
   cases b:Gj p w with
   |none=>exact⟨.inl,λz=>z.elim id λe=>(nomatch e)⟩
   |some x =>
     dsimp only;by_cases d:x∈(keysAt ws p).map (·.1);rw[An d];exact⟨.inl,λz=>z.elim id λe=>by cases e;exact d⟩;rw[Al d,Bh,BB];refine or_congr Iff.rfl ?_;simp[eq_comm]
def VJ{k:Nat}(l:(ws.map (·.1)).Pairwise (· < ·))(h:(m,k)∈keysAt ws p):(∃w,(k,w)∈ws/\p++[m] <+: w)/\∀j w,(j,w)∈ws->p++[m] <+: w->k<=j:=by
 induction ws using SG with
 |nil=>cases h
 |snoc ws o q =>
   obtain⟨n,v⟩:=o;rw[Bh,List.pairwise_append] at l;obtain⟨r,-,s⟩:=l;have z:∀j w,(j,w)∈ws->j<n:=λj w e=>s j (Bd.mpr ⟨_,e,rfl⟩) n (AR.mpr rfl);rw[KD] at h
   have i:(m,k)∈keysAt ws p->(∃w,(k,w)∈ws++[(n,v)]/\p++[m] <+: w)/\∀j w,(j,w)∈ws++[(n,v)]->p++[m] <+: w->k<=j:=λt=>by
    obtain⟨⟨w,a,b⟩,c⟩:=q r t;refine⟨⟨w,E7 _ a,b⟩,λj u e f=>?_⟩;rcases BB.mp e with y|y;exact c j u y f;cases AR.mp y;exact C9 (z _ _ a)
   cases g:Gj p v with
   |none=>rw[g] at h;exact i h
   |some x =>
     rw[g] at h;dsimp only at h;by_cases d:x∈(keysAt ws p).map (·.1);rw[An d] at h;exact i h;rw[Al d] at h;rcases BB.mp h with y|y;exact i y;cases AR.mp y;refine⟨⟨v,De _ (AR.mpr rfl),FW.mp g⟩,λj u e f=>?_⟩;rcases BB.mp e with y|y;exact absurd (keysAt_mem.mpr ⟨_,y,f⟩) d;cases AR.mp y;exact AG _
section
variable (bet:α->α->Bool)
def AL:List α->List α->Bool
 |x::s,m::t=>if x=m then AL s t else bet x m
 |_,_=>false
def gat (ws:Ws α):List α->List α->List Nat
 |_,[]=>[]
 |a,m::t=>((keysAt ws a).filter λxk=>bet xk.1 m).map (·.2)++gat ws (a++[m]) t
end
variable {bet:α->α->Bool}
def LI{a b:List α}{x:α}{t:List α}(h:a++[x] <+: b)(c:x≠m):AL bet b (a++m::t)=bet x m:=by
 obtain⟨u,rfl⟩:=h
 induction a with
 |nil=>show(if x=m then _ else bet x m)=_;rw[Al c]
 |cons y a d=>show(if y=y then _ else _)=_;rw[An rfl];exact d
theorem VL{ws:Ws α}(g:(ws.map (·.1)).Pairwise (· < ·))(irr:∀m,bet m m=false):∀(b a:List α)(k:Nat),k∈gat bet ws a b->∃w,(k,w)∈ws/\AL bet w (a++b)=true
 |[],_,_,h=>nomatch h
 |m::t,a,k,h=>by
   rcases BB.mp h with y|y;obtain⟨⟨x,j⟩,z,rfl⟩:=Bd.mp y;obtain⟨i,d⟩:=Nc.mp z;obtain⟨⟨w,f,c⟩,-⟩:=VJ g i;refine⟨w,f,?_⟩;rw[LI c (λe=>?_)];exact d;rw[e,irr] at d;cases d;obtain⟨w,f,c⟩:=VL g irr t (a++[m]) k y;refine⟨w,f,?_⟩;rw[Ge] at c;exact c
theorem VM:∀{b w:List α},AL bet w b=true->∃a x m t,b=a++m::t/\a++[x] <+: w/\x≠m/\bet x m=true
 |m::t,x::s,h=>by
   by_cases e:x=m;subst e;have h':AL bet s t=true:=(by simpa [AL] using h);obtain⟨a,y,n,u,rfl,c,d,f⟩:=VM h';exact⟨x::a,y,n,u,rfl,List.cons_prefix_cons.mpr ⟨rfl,c⟩,d,f⟩;have h':bet x m=true:=(by simpa [AL,e] using h);exact⟨[],x,m,t,rfl,List.cons_prefix_cons.mpr ⟨rfl,List.nil_prefix⟩,e,h'⟩
 |[],[],h=>nomatch h
 |[],_::_,h=>nomatch h
 |_::_,[],h=>nomatch h
theorem VN{ws:Ws α}:∀{a b c:List α}{m x:α}{t:List α}{k:Nat},(x,k)∈keysAt ws (c++a)->bet x m=true->b=a++m::t->k∈gat bet ws c b
 |[],b,c,m,x,t,k,d,e,f=>by
   subst f;rw[FM] at d;exact E7 _ (Bd.mpr ⟨_,Nc.mpr ⟨d,e⟩,rfl⟩)
 |y::a,b,c,m,x,t,k,d,e,f=>by
   subst f;refine De _ (VN (a:=a) (m:=m) (x:=x) (t:=t) ?_ e rfl);rw[Ge];exact d
def YY(i:(ws.map (·.1)).Pairwise (· < ·)){b w:List α}{j:Nat}(h:(j,w)∈ws)(l:AL bet w b=true):∃k∈gat bet ws [] b,k<=j:=by
 obtain⟨a,x,m,t,e,d,-,n⟩:=VM l;obtain⟨⟨y,k⟩,f,g⟩:=Bd.mp (keysAt_mem.mpr ⟨_,h,d⟩);dsimp only at g;subst g;exact⟨k,VN (a:=a) (c:=[]) f n e,(VJ i f).2 j w h d⟩
end TreeM
namespace L2
open PySem PySem.Spec PyProof.Rows Ord TreeM
variable {A:Around}{k:Nat}
def LJ(a:BY k A):A.units+2<cLine:=Nat.lt_of_le_of_lt (Nat.add_le_add_left (by decide:2<=64) _) a.units
abbrev Gc (m:Ar):List Bp:=[.inl m.1,.inr m.2.1,.inl m.2.2]
def YZ{a b:Ar}(h:Gc a=Gc b):a=b:=by
 obtain⟨c,d,e⟩:=a;obtain⟨f,g,i⟩:=b;simp only[Gc,List.cons.injEq,Sum.inl.injEq,Sum.inr.injEq,and_true] at h;rw[h.1,h.2.1,h.2.2]
def DS (ws:Ws Ar) (c:List Ar->Ar->Addr) (p:List Ar):List (List Bp×V):=(keysAt ws p).map λmk=>(Gc mk.1,V.ref (c p mk.1))
theorem VO{c:Ar->Addr}{m:Ar}:∀{ks:List (Ar×Nat)},A0 (ks.map λmk=>(Gc mk.1,V.ref (c mk.1))) (Gc m)=if m∈ks.map (·.1) then some (.ref (c m)) else none
 |[]=>rfl
 | (x,k) :: ks=>by
   rw[E3];by_cases h:x=m;subst h;rw[G3 rfl,An (by simp)];rw[G4 (λz=>h (YZ z)),VO]
   have:(m∈List.map (·.1) ((x,k)::ks))↔m∈ks.map (·.1):=by
    rw[E3,BO];exact⟨λz=>z.elim (λe=>absurd e.symm h) id,.inr⟩
   by_cases a:m∈ks.map (·.1);rw[An a,An (this.mpr a)];rw[Al a,Al (λz=>a (this.mp z))]
variable {ws:Ws Ar}{c:List Ar->Ar->Addr}{p:List Ar}{m:Ar}
def N9:A0 (DS ws c p) (Gc m)=if m∈(keysAt ws p).map (·.1) then some (.ref (c p m)) else none:=VO (c:=c p)
def Eh (ws:Ws Ar) (p:List Ar):Prop:=p=[]\/∃kw∈ws,p <+: kw.2
def VP(h:¬Eh ws p):keysAt ws p=[]:=by
 cases e:keysAt ws p with
 |nil=>rfl
 |cons x l =>
   exfalso;obtain⟨a,b,c⟩:=keysAt_mem.mp (show x.1∈(keysAt ws p).map (·.1) by rw[e];simp);exact h (.inr ⟨a,b,(Mx p _).trans c⟩)
def Fv:Eh ws (p++[m])↔m∈(keysAt ws p).map (·.1):=by
 rw[keysAt_mem];exact⟨λh=>h.elim (λe=>absurd e (by simp)) id,.inr⟩
structure Bb (φ:Hp->Addr->List (List Bp×V)->Prop) (H:Hp) (ws:Ws Ar) (d:List Ar->Addr) (c:List Ar->Ar->Addr):Prop where
 dct:∀p,Eh ws p->φ H (d p) (DS ws c p)
 tup:∀p m k,(m,k)∈keysAt ws p->H (c p m)=some (.tup [.int (k:Int),.ref (d (p++[m]))])
 inj:∀p q,Eh ws p->Eh ws q->d p=d q->p=q
abbrev dW:Hp->Addr->List (List Bp×V)->Prop:=λH a kvs=>H a=some (.dT kvs)
abbrev dF:Hp->Addr->List (List Bp×V)->Prop:=λH a kvs=>∃o,H a=some (.frz o (.dT kvs))
variable {H H':Hp}{d:List Ar->Addr}
def Bb.same(e:Ac H H')(h:Bb dF H ws d c):Bb dF H' ws d c:=
 ⟨λp a=>let ⟨o,x⟩:=h.dct p a;⟨o,e _ _ x⟩,λp m k b=>e _ _ (h.tup p m k b),h.inj⟩
def Bb.sameW(e:Ac H H')(h:Bb dW H ws d c):Bb dW H' ws d c:=
 ⟨λp a=>e _ _ (h.dct p a),λp m k b=>e _ _ (h.tup p m k b),h.inj⟩
variable {n:Nat}{g:List Ar}
def PJ(d:m∈(keysAt (ws++[(n,g)]) g).map (·.1)):Eh (ws++[(n,g++[m])]) p↔Eh (ws++[(n,g)]) p:=by
 constructor;rintro(h|⟨b,c,a⟩);exact .inl h;rcases BB.mp c with y|y;exact .inr ⟨b,E7 _ y,a⟩;rw[AR.mp y] at a;rcases List.prefix_concat_iff.mp a with e|e;rw[e];exact Fv.mpr d;exact .inr ⟨_,De _ (AR.mpr rfl),e⟩;rintro(h|⟨b,c,a⟩);exact .inl h;rcases BB.mp c with y|y;exact .inr ⟨b,E7 _ y,a⟩;rw[AR.mp y] at a;exact .inr ⟨_,De _ (AR.mpr rfl),a.trans (Mx g [m])⟩
def Bb.stay{φ:Hp->Addr->List (List Bp×V)->Prop}(h:Bb φ H (ws++[(n,g)]) d c)(a:m∈(keysAt (ws++[(n,g)]) g).map (·.1)):Bb φ H (ws++[(n,g++[m])]) d c:=by
 have f:∀p,keysAt (ws++[(n,g++[m])]) p=keysAt (ws++[(n,g)]) p:=λp=>by
  by_cases e:p=g;subst e;rw[VI,An a];exact SH e
 refine⟨λp b=>?_,λp x k i=>h.tup p x k (by rw[<-f];exact i),λp q b j=>h.inj p q ((PJ a).mp b) ((PJ a).mp j)⟩;have:=h.dct p ((PJ a).mp b);unfold DS at this ⊢;rw[f];exact this
variable {v:V}
def Y0{a:List (List Bp×V)}{k:List Bp}(h:A0 a k=none):Cg a k v=a++[(k,v)]:=by
 unfold Cg;rw[Al (by rw[NO,h];simp)]
variable {e T:Addr}
def Bb.grow{u:Hp}(h:Bb dW H (ws++[(n,g)]) d c)(j:m∉(keysAt (ws++[(n,g)]) g).map (·.1))
 (G:H e=none) (I:∀p,Eh (ws++[(n,g)]) p->u (d p)=none) (U:u e=none) (s:Ac H H') (J:H' e=some (.dT [])) (C:H' T=some (.tup [.int (n:Int),.ref e])) :
 ∃d' K,Bb dW (upd H' (d g) (.dT (Cg (DS (ws++[(n,g)]) c g) (Gc m) (.ref T)))) (ws++[(n,g++[m])]) d' K/\d' (g++[m])=e/\(∀p,Eh (ws++[(n,g++[m])]) p->u (d' p)=none)/\d' []=d []:=by
 have r:Eh (ws++[(n,g)]) g:=.inr ⟨_,De _ (AR.mpr rfl),List.prefix_refl g⟩;have L:A0 (DS (ws++[(n,g)]) c g) (Gc m)=none:=(by rw[N9,Al j])
 have w:∀{p},Eh (ws++[(n,g++[m])]) p->p=g++[m]\/p≠g++[m]/\Eh (ws++[(n,g)]) p:=λ{p}a=>by
  by_cases e:p=g++[m];exact .inl e;refine .inr ⟨e,?_⟩;rcases a with z|⟨M,N,A⟩;exact .inl z;rcases BB.mp N with y|y;exact .inr ⟨M,E7 _ y,A⟩;rw[AR.mp y] at A;rcases List.prefix_concat_iff.mp A with z|z;exact absurd z e;exact .inr ⟨_,De _ (AR.mpr rfl),z⟩
 have B:∀p,Eh (ws++[(n,g)]) p->d p≠e:=λp a z=>by have this:H (d p)=some _:=h.dct p a;rw[z,G] at this;cases this
 have W:T≠d g:=λz=>by
  have:=s _ _ (h.dct g r);rw[<-z,C] at this;cases this
 have O:¬Eh (ws++[(n,g)]) (g++[m]):=λz=>j (Fv.mp z)
 have P:keysAt (ws++[(n,g++[m])]) (g++[m])=[]:=by
  rw[SH (by simp)];exact VP O
 have D:∀p,p≠g->keysAt (ws++[(n,g++[m])]) p=keysAt (ws++[(n,g)]) p:=λp a=>SH a;have F:keysAt (ws++[(n,g++[m])]) g=keysAt (ws++[(n,g)]) g++[(m,n)]:=(by rw[VI,Al j])
 refine⟨λp=>if p=g++[m] then e else d p,λp x=>if p=g/\x=m then T else c p x,⟨λp a=>?_,λp x k o=>?_,λp q a Q X=>?_⟩,An rfl,λp a=>?_,Al (by simp)⟩
 show upd _ _ _ (if p=g++[m] then e else d p)=some _
 rcases w a with z|⟨z,f⟩;subst z;rw[An rfl,AH (Ne.symm (B g r)),J];unfold DS;rw[P];rfl;rw[Al z];by_cases b:p=g;subst b;rw[Aa,Y0 L];unfold DS;rw[F,Bh]
 have:∀l:List (Ar×Nat),m∉l.map (·.1)->(l.map λmk=>(Gc mk.1,V.ref (c p mk.1)))=l.map λmk=>(Gc mk.1,V.ref (if p=p/\mk.1=m then T else c p mk.1)):=λl R=>List.map_congr_left λmk Y=>by
  rw[Al (λz=>R (Bd.mpr ⟨mk,Y,z.2⟩))]
 rw[this _ j,E3,Nd];dsimp only;rw[An ⟨rfl,rfl⟩];rw[AH (λS=>b (h.inj p g f r S))];have:=s _ _ (h.dct p f);unfold DS at this ⊢;rw[D p b,this]
 congr 2
 exact List.map_congr_left λmk ζ=>by
  show _=(Gc mk.1,V.ref (if p=g/\mk.1=m then T else c p mk.1));rw[Al (λz=>b z.1)]
 show upd _ _ _ (if p=g/\x=m then T else c p x)=some (.tup [_,.ref (if p++[x]=g++[m] then e else d (p++[x]))])
 by_cases b:p=g;subst b;rw[F] at o;by_cases v:x=m;subst v;rw[An ⟨rfl,rfl⟩,An rfl,AH W,C];rcases BB.mp o with y|y;exact absurd (Bd.mpr ⟨_,y,rfl⟩) j;cases AR.mp y;rfl;rcases BB.mp o with y|y;rw[Al (λz=>v z.2),Al (λz=>v (by simpa using z))];have t:=h.tup p x k y;rw[AH (λz=>by have this:H (d p)=some _:=h.dct p r;rw[<-z,t] at this;cases this)];exact s _ _ t;cases AR.mp y;exact absurd rfl v;rw[D p b] at o
 rw[Al (λz=>b z.1),Al (show ¬(p++[x]=g++[m]) from λz=>b (List.append_inj_left' z rfl))];have t:=h.tup p x k o;rw[AH (λz=>by have this:H (d g)=some _:=h.dct g r;rw[<-z,t] at this;cases this)];exact s _ _ t
 have i:(if p=g++[m] then e else d p)=(if q=g++[m] then e else d q):=X
 rcases w a with z|⟨z,f⟩<;>rcases w Q with y|⟨y,E⟩;rw[z,y];rw[An z,Al y] at i;exact absurd i.symm (B q E);rw[Al z,An y] at i;exact absurd i (B p f);rw[Al z,Al y] at i;exact h.inj p q f E i
 show u (if p=g++[m] then e else d p)=none
 rcases w a with z|⟨z,f⟩;rw[An z];exact U;rw[Al z];exact I p f
def VQ(ws:Ws Ar)(n:Nat)(p:List Ar):keysAt (ws++[(n,[])]) p=keysAt ws p:=YX ws n p
def Bb.begin{φ:Hp->Addr->List (List Bp×V)->Prop}(h:Bb φ H ws d c):Bb φ H (ws++[(n,[])]) d c:=by
 have i:∀{p},Eh (ws++[(n,[])]) p->Eh ws p:=λ{p}a=>by
  rcases a with z|⟨e,f,b⟩;exact .inl z;rcases BB.mp f with y|y;exact .inr ⟨e,y,b⟩;rw[AR.mp y] at b;exact .inl (List.prefix_nil.mp b)
 refine⟨λp a=>?_,λp m k g=>h.tup p m k (by rw[<-VQ];exact g),λp q a j=>h.inj p q (i a) (i j)⟩;have:=h.dct p (i a);unfold DS at this ⊢;rw[VQ];exact this
def Bb.frz{H U Y:Hp}{ws:Ws Ar}{d:List Ar->Addr}{c:List Ar->Ar->Addr}(h:Bb dW U ws d c)(g:∀p,Eh ws p->H (d p)=none)(f:PB H U Y)(i:∀b a,H b=none->U b=some (.dT a)->∃o,Y b=some (.frz o (.dT a))):Bb dF Y ws d c:=by
 refine⟨λp e=>i _ _ (g p e) (h.dct p e),λp m k j=>?_,h.inj⟩;have t:=h.tup p m k j;rcases f (c p m) with z|⟨_,a,o,z,_⟩;rw[z];exact t;rw[t] at z;cases z
variable {U:Hp}
def PB.same{Y:Hp}(s:Ac H U)(f:PB H U Y):Ac H Y:=λb o e=>by
 rcases f b with z|⟨z,_⟩;rw[z];exact s _ _ e;rw[e] at z;cases z
def SI(ws:Ws Ar)(p:List Ar):(keysAt ws p).length<=ws.length:=by
 induction ws using SG with
 |nil=>exact AG _
 |snoc ws a b =>
   obtain⟨k,w⟩:=a;rw[KD,AQ];split;split;lia;rw[AQ];simp;exact b;lia
abbrev Fw (p:Str×Str):List Bp:=[.inr p.1,.inr p.2]
def Fe.tups(e:∀b xs,H b=some (.tup xs)->H' b=some (.tup xs)):∀{xs:List V}{ps:List (List Bp×V)},Fe H xs ps->Fe H' xs ps:=λh =>
 Paired.mapP h λ_ _⟨t,b,a,c,d⟩=>⟨t,b,a,e _ _ c,e _ _ d⟩
theorem VR{k:List Bp}:∀{ps acc:List (List Bp×V)},(A0 (KC acc ps) k).isSome=true↔(A0 acc k).isSome=true\/k∈ps.map (·.1)
 |[],acc=>by simp[KC]
 |p::ps,acc=>by
   show(A0 (KC (Cg acc p.1 p.2) ps) k).isSome=true↔_;rw[VR,XM,E3,BO];by_cases h:k=p.1;rw[An h];simp[h];rw[Al h];simp[h]
def HE (H:Hp) (p:Addr) (ord:A'):Prop:=∃kvs,H p=some (.dT kvs)/\∀a b,(A0 kvs (Fw (a,b))).isSome=dec ((a,b)∈ord)
variable {ord:A'}
def HE.same{p:Addr}(e:Ac H H')(h:HE H p ord):HE H' p ord:=let ⟨k,a,b⟩:=h;⟨k,e _ _ a,b⟩
def Y1(a b:Str):(A0 (KC [] (ord.map λp=>(Fw p,V.bl true))) (Fw (a,b))).isSome=dec ((a,b)∈ord):=by
 have:(A0 (KC [] (ord.map λp=>(Fw p,V.bl true))) (Fw (a,b))).isSome=true ↔ (a,b)∈ord:=by
  rw[VR];constructor;rintro(h|h);simp[A0] at h;rw[Ep] at h;obtain⟨q,c,e⟩:=Bd.mp h;obtain⟨d,f⟩:=q;simp at e;rw[<-e.1,<-e.2];exact c;intro h;refine .inr ?_;rw[Ep];exact Bd.mpr ⟨_,h,rfl⟩
 by_cases h:(a,b)∈ord;rw[FF h];exact this.mpr h;rw[Gh h]
 cases e:(A0 (KC [] (ord.map λp=>(Fw p,V.bl true))) (Fw (a,b))).isSome with
 |false=>rfl
 |true=>exact absurd (this.mp e) h
def A4 (l:List (List Ar)):Ws Ar:=l.zipIdx.map λp=>(p.2,p.1)
def Y2(l:List (List Ar))(w:List Ar):A4 (l++[w])=A4 l++[(l.length,w)]:=by
 unfold A4;rw[List.zipIdx_append,Bh]
 simp
variable {l:List (List Ar)}{i:Nat}{w:List Ar}
def Y3(h:l[i]?=some w):A4 (l.take (i+1))=A4 (l.take i)++[(i,w)]:=by
 have a:=(Bf.mp h).1;rw[Ek,h];show A4 (l.take i++[w])=_;rw[Y2,E5,Nat.min_eq_left (C9 a)]
def VS(l:List (List Ar)):((A4 l).map (·.1)).Pairwise (· < ·):=by
 have:(A4 l).map (·.1)=List.range l.length:=by
  unfold A4;rw[Ep,List.range_eq_range'];exact List.zipIdx_map_snd 0 l
 rw[this];exact List.pairwise_lt_range
def Dm:(k,w)∈A4 l↔l[k]?=some w:=by
 unfold A4;rw[Bd];constructor;rintro⟨⟨a,b⟩,h,e⟩;cases e;exact List.mem_zipIdx_iff_getElem?.mp h;intro h;exact⟨(w,k),List.mem_zipIdx_iff_getElem?.mpr h,rfl⟩
noncomputable def Cb (ss:List AY) (ord:A') (x m:Ar):Bool:=dec ((Fd ss x,Fd ss m)∈ord)
variable {ss:List AY}
def Y4(h:∀x,(x,x)∉ord)(m:Ar):Cb ss ord m m=false:=Gh (h _)
theorem SJ(ss:List AY)(ord:A'):∀(a b:List Ar),AL (Cb ss ord) a b=DR ss ord a b
 |x::s,m::t=>by
   show(if x=m then _ else Cb ss ord x m)=_
   by_cases e:x=m;subst e;rw[An rfl,Sw];exact SJ ss ord s t;rw[Al e,Sx ss ord s t e];rfl
 |[],m=>by rw[MR ss ord (.inl rfl)];rfl
 |_::_,[]=>by rw[MR ss ord (.inr rfl)];rfl
def Jx(h:∀x,(x,x)∉ord):gat (Cb ss ord) (A4 l) [] w=[]↔∀v∈l,DR ss ord v w=false:=by
 constructor;intro e v b;obtain⟨k,d⟩:=List.mem_iff_getElem?.mp b
 cases a:DR ss ord v w with
 |false=>rfl
 |true =>
   obtain⟨j,c,_⟩:=YY (VS l) (Dm.mpr d) (by rw[SJ];exact a);rw[e] at c;cases c
 intro f
 cases e:gat (Cb ss ord) (A4 l) [] w with
 |nil=>rfl
 |cons k g =>
   exfalso;obtain⟨v,b,a⟩:=VL (VS l) (Y4 h) w [] k (by rw[e];simp);rw[List.nil_append,SJ] at a;rw[f v (List.mem_iff_getElem?.mpr ⟨k,Dm.mp b⟩)] at a;cases a
noncomputable def DT (ss:List AY) (ord:A') (all l:List (List Ar)):List (List Ar):=l.filter λw=>!all.any λv=>DR ss ord v w
def VT{all:List (List Ar)}(h:l[i]?=some w):DT ss ord all (l.take (i+1))=if(all.any λv=>DR ss ord v w)=true then DT ss ord all (l.take i) else DT ss ord all (l.take i)++[w]:=by
 unfold DT;rw[Ek,h,Nf];show _++List.filter _ [w]=_;rw[Mw]
 cases all.any λv=>DR ss ord v w with
 |true=>rw[An rfl];simp
 |false=>simp
def Y5{all:List (List Ar)}:(DT ss ord all l).length<=l.length:=OX _ _
def CM{ks:List Nat}:PH (ks.map λk:Nat=>(k:Int))=.non↔ks=[]:=by
 cases ks with
 |nil=>exact⟨λζ=>rfl,λζ=>rfl⟩
 |cons k ks=>exact⟨λh=>(nomatch h),λh=>(nomatch h)⟩
def PK(h:∀x,(x,x)∉ord):gat (Cb ss ord) (A4 l) [] w=[]↔(l.any λv=>DR ss ord v w)=false:=by
 rw[Jx h,List.any_eq_false];exact⟨λz v a=>by rw[z v a];simp,λz v a=>by have:=z v a;simpa using this⟩
section
variable {prog:Program} {w:World} {A:Around} {E:D'} {s:Shared}
theorem PL{j p:Addr}{vs:Array Value}{y:Value}{Q:D'}(c:s.heap.IsTupleIter j p k)(d:s.heap.IsTuple p vs)(e:vs[k]?=some y)
 (q:∀g,g.IsTupleIter j p (k+1)->Heap.SameBut j s.heap g->Q y {s with heap:=g}):wpAny (model prog w) A (Builtin.SmallTypes.nextOf (.ref j)) Q E s:=by
 obtain⟨l,b,f,a⟩:=id c;obtain⟨m,h,_,_,i⟩:=d;unfold Builtin.SmallTypes.nextOf;refine Ad (wpAny_callSpecial?_slot (name:=Str.ofString "__next__") c.typeIs F.slot_tuple_iterator_next (wpAny_call_entry F.slot_tuple_iterator_next c.typeIs F.entry_tuple_iterator_next ?_ (F.args_tuple_iterator_next_1 _)))
 show wpAny _ _ (field (.ref j) 0 >>= _) _ _ s;refine Ad (wpAny_field b a (x:=.ref p) rfl ?_);show wpAny _ _ (if(Value.ref p==Value.none)=true then _ else _) _ _ s;rw[Al (show ¬((Value.ref p==Value.none)=true) from C3)];show wpAny _ _ (field (.ref j) 1 >>= _) _ _ s;refine Ad (wpAny_field b a (x:=.int k 0) rfl ?_);show wpAny _ _ (seqItems? (.ref p) >>= _) _ _ s;refine Ad (Gv h i ?_);simp only[BK,e];refine Ad (wpAny_setField b a (by simp) (AB ⟨y,rfl,AB (q _ ⟨_,Heap.get?_update_self _ b (Obj.isFreed_of_fields (Obj.data_mapFields a _)),(Obj.cls_mapFields ..).trans f,by rw[Obj.data_mapFields a];simp[rawInt]⟩ (Heap.SameBut.update ..))⟩))
theorem SK{j p:Addr}{vs:Array Value}{Q:D'}(e:A.handled=none)(b:s.heap.IsTupleIter j p k)(f:s.heap.IsTuple p vs)(h:vs[k]?=none)
 (q:∀g x,Heap.ExtBut j s.heap g->(∃o,g.get? x=some o/\o.cls=.type "StopIteration")->E (.ref x) {s with heap:=g}):wpAny (model prog w) A (Builtin.SmallTypes.nextOf (.ref j)) Q E s:=by
 obtain⟨n,c,r,d⟩:=id b;obtain⟨t,i,_,_,l⟩:=f;unfold Builtin.SmallTypes.nextOf;refine Ad (wpAny_callSpecial?_slot (name:=Str.ofString "__next__") b.typeIs F.slot_tuple_iterator_next (wpAny_call_entry F.slot_tuple_iterator_next b.typeIs F.entry_tuple_iterator_next ?_ (F.args_tuple_iterator_next_1 _)))
 show wpAny _ _ (field (.ref j) 0 >>= _) _ _ s;refine Ad (wpAny_field c d (x:=.ref p) rfl ?_);show wpAny _ _ (if(Value.ref p==Value.none)=true then _ else _) _ _ s;rw[Al (show ¬((Value.ref p==Value.none)=true) from C3)];show wpAny _ _ (field (.ref j) 1 >>= _) _ _ s;refine Ad (wpAny_field c d (x:=.int k 0) rfl ?_);show wpAny _ _ (seqItems? (.ref p) >>= _) _ _ s;refine Ad (Gv i l ?_);simp only[BK,h];refine Ad (Im (Ad (wpAny_setField c d (by simp) ?_)))
 show wpAny _ _ (newExc (.type "StopIteration") [] >>= _) _ _ _
 refine Ad ?_;simp only[newExc,newTuple];refine Ad (wpAny_newObj_type (Ad (m:=firstArgMember _ _) (wpAny_of_eq (a:=Value.none) (by first|rfl|(simp only[firstArgMember];rfl)) (wpAny_newObj_type ?_ (by size_fits)))) (by size_fits));simp only[raiseNew];refine Ad (wpAny_handled ?_)
 first|rw[show A.in1.handled=none from e]|rw[e]
 exact Ad (AB (wpAny_throw (q _ _ (((Heap.SameBut.update ..).extBut.push _).push _) ⟨_,Ci _ rfl,rfl⟩)))
end
variable {prog:Program}
def HF{w:World}(c:A.handled=none)(j p:Addr)(d:p≠j)(vs:Array Value):Draws prog w A j [j,p] vs.size (λi v=>vs[i]?=some v) (λi h=>h.IsTupleIter j p i/\h.IsTuple p vs) where
 live _ _ st:=let ⟨o,e,_⟩:=st.1;⟨o,e⟩
 frame _ _ _ st k:=by
  obtain⟨⟨o,f,l⟩,u,m,n⟩:=st;exact⟨⟨o,k j (by simp) _ f,l⟩,u,k p (by simp) _ m,n⟩
 item i s Q E a st q:=PL st.1 st.2 (y:=vs[i]) (by simp[a]) λg r b=>q _ g s.toks (by simp[a]) ⟨r,st.2.extBut b.extBut d⟩ b
 done s Q E st q:=SK c st.1 st.2 (by simp) q
set_option tactic.hygienic true in
def Y6(p:Addr)(vs:Array Value)(n:Nat)(dct:Option Addr)(e:Array (Option Value)) :
 Meets (Builtin.«enumerate.__new__» ⟨[.type "enumerate",.ref p],[]⟩) (λζ R s=>s.heap.get? p=some {cls:=.type "tuple",dict:=dct,data:=.seq vs n,slots:=e}/\R (.ok (.ret (.ref (s.heap.push {cls:=.type "tuple_iterator",data:=.fields #[.ref p,.int 0 0]}).objs.size))) {s with heap:=(s.heap.push {cls:=.type "tuple_iterator",data:=.fields #[.ref p,.int 0 0]}).push {cls:=.type "enumerate",data:=.fields #[.none,.bool false,.ref s.heap.objs.size,rawInt 0,.none,.none]}}):=
 .of_wp λprog w A R s h=>by
  obtain⟨f,g,d,i,j⟩:=s;obtain⟨a,h⟩:=h;have l:=sub_enumerate;have b:Heap.IsTuple (Shared.heap ⟨f,g,d,i,j⟩) p vs:=⟨_,a,rfl,n,rfl⟩
  wp_walk using AutoSeq1.wpAny_loadPart' a
  refine wpAny_stack_any λk=>AB ?_;split;rename_i c _ _ _ _ _;cases(c==Value.type "enumerate")<;>(wp_walk using AutoSeq1.wpAny_loadPart' a,wpAny_pyIter_tuple b;exact⟨_,rfl,h⟩)
  wp_walk using AutoSeq1.wpAny_loadPart' a,wpAny_pyIter_tuple b
  exact⟨_,rfl,h⟩
variable {E Q:D'}{s:Shared}
theorem Y7{w:World}{p:Addr}{vs:Array Value}(i:s.heap.IsTuple p vs)
 (h:∀g,IsEnum g (s.heap.objs.size+1) s.heap.objs.size 0 .none->g.IsTupleIter s.heap.objs.size p 0->g.objs.size=s.heap.objs.size+2->(∀b o,s.heap.get? b=some o->g.get? b=some o)->Q (.ref (s.heap.objs.size+1)) {s with heap:=g}) :
 wpAny (model prog w) A (call (.type "enumerate") [.ref p]) Q E s:=by
 obtain⟨⟨c,dct,dt,j⟩,k,a,n,hd⟩:=i
 replace a:c=.type "tuple" :=a
 replace hd:dt=.seq vs n:=hd
 subst a hd;refine callType_new F.called_enumerate (by decide) (F.typeCall_enumerate_1 _) (F.newCall_enumerate_1 _) (λl=>F.args_object_init_2 l _) F.entry_enumerate_new (Y6 p vs n dct j) ⟨k,?_⟩;have d:(s.heap.push {cls:=.type "tuple_iterator",data:=.fields #[.ref p,.int 0 0]}).objs.size=s.heap.objs.size+1:=Heap.size_push ..;show _/\_;rw[d]
 have f:IsEnum ((s.heap.push {cls:=.type "tuple_iterator",data:=.fields #[.ref p,.int 0 0]}).push {cls:=.type "enumerate",data:=.fields #[.none,.bool false,.ref s.heap.objs.size,rawInt 0,.none,.none]}) (s.heap.objs.size+1) s.heap.objs.size 0 .none:=by
  have e:=Ci (s.heap.push {cls:=.type "tuple_iterator",data:=.fields #[.ref p,.int 0 0]}) (o:={cls:=.type "enumerate",data:=.fields #[.none,.bool false,.ref s.heap.objs.size,rawInt 0,.none,.none]}) rfl
  rwa [d] at e
 exact⟨⟨_,f,rfl⟩,h _ f ⟨_,Bg _ (Ci _ rfl),rfl,rfl⟩ (by rw[Heap.size_push,d]) λb o x=>Bg _ (Bg _ x)⟩
section
variable {X:Cx}
end
section
variable {prog:Program} {w:World} {A:Around} {E:D'} {s:Shared}
def Y8{z a o i j p q:Addr}{m:Nat}{xs ys:Array Value}{x y u v:Value}(D:ZipApart z a o i j p q)(B:IsZip s.heap z a o .none)(ea:IsPair s.heap a (.ref i) (.ref j))(eo:IsPair s.heap o u v)
 (ei:s.heap.IsTupleIter i p k) (ej:s.heap.IsTupleIter j q m) (tp:s.heap.IsTuple p xs) (tq:s.heap.IsTuple q ys) (hx:xs[k]?=some x) (hy:ys[m]?=some y)
 (ah:∀g,IsZip g z a o (rawInt s.heap.objs.size)->IsPair g o x y->g.IsTupleIter i p (k+1)->g.IsTupleIter j q (m+1)->IsPair g s.heap.objs.size x y->g.objs.size=s.heap.objs.size+1->(∀c d,c≠z->c≠o->c≠i->c≠j->s.heap.get? c=some d->g.get? c=some d)->Q (.ref s.heap.objs.size) {s with heap:=g}) :
 wpAny (model prog w) A (Builtin.«zip.__next__» ⟨[.ref z],[]⟩) (λf t=>∃v,f=.done (.ret v)/\Q v t) E s:=by
 show wpAny _ _ (field (.ref z) 2 >>= _) _ _ _;refine Ad (wpAny_field B rfl (x:=.bool false) rfl ?_);show wpAny _ _ (field (.ref z) 3 >>= _) _ _ _;refine Ad (wpAny_field B rfl (x:=.ref a) rfl (Ad (Gv ea rfl ?_)));show wpAny _ _ (Builtin.SmallTypes.ownedTupleIsFree (.ref z) >>= _) _ _ _;refine Ad ?_;unfold Builtin.SmallTypes.ownedTupleIsFree;refine Ad (wpAny_field B rfl (x:=.none) rfl (AB ?_));simp only[if_true];refine Ad (Im (Ad (wpAny_field B rfl (x:=.ref o) rfl (Ad (wpAny_setField_rec B (by simp) λaa M h=>?_)))))
 replace M:IsZip aa z a o .ellipsis:=M
 refine Ad ?_;simp only[List.zipIdx_cons,List.zipIdx_nil,List.forIn_cons,List.forIn_nil];refine Ad (Ad (wpAny_onRaise ?_));show wpAny _ _ (Builtin.SmallTypes.nextOf (.ref i) >>= _) _ _ _;refine Ad (PL (ei.extBut h.extBut D.i1z) (tp.extBut h.extBut D.l1z) hx λab i2 l=>AB ?_);have U:IsPair ab o u v:=l.extBut _ _ D.TOi1 (h.extBut _ _ D.TOz eo);refine Ad (Gv U rfl (Ad (wpAny_updateSeq_pair U λae N r=>Ad (wpAny_letGo (AB ?_)))))
 replace N:IsPair ae o x v:=N
 refine Ad (Ad (wpAny_onRaise ?_));show wpAny _ _ (Builtin.SmallTypes.nextOf (.ref j) >>= _) _ _ _;refine Ad (PL (((ej.extBut h.extBut D.i2z).extBut l.extBut D.i12.symm).extBut r.extBut D.TOi2.symm) (((tq.extBut h.extBut D.l2z).extBut l.extBut D.l2i1).extBut r.extBut D.l2TO) hy λg4 j4 C=>AB ?_);have V:IsPair g4 o x v:=C.extBut _ _ D.TOi2 N;refine Ad (Gv V rfl (Ad (wpAny_updateSeq_pair V λb H F=>Ad (wpAny_letGo (AB (AB ?_))))))
 replace H:IsPair b o x y:=H
 refine Ad (Gv H rfl (Ad (wpAny_newTuple ?_)));have sz:b.objs.size=s.heap.objs.size:=(by rw[F.1,C.1,r.1,l.1,h.1]);have W:IsZip b z a o .ellipsis:=F.extBut _ _ D.TOz.symm (C.extBut _ _ D.i2z.symm (r.extBut _ _ D.TOz.symm (l.extBut _ _ D.i1z.symm M)));have k5:∀c d,c≠z->c≠o->c≠i->c≠j->s.heap.get? c=some d->b.get? c=some d:=λc d I J O P e=>F.extBut _ _ J (C.extBut _ _ P (r.extBut _ _ J (l.extBut _ _ O (h.extBut _ _ I e))));have i5:b.IsTupleIter i p (k+1):=((i2.extBut r.extBut D.TOi1.symm).extBut C.extBut D.i12).extBut F.extBut D.TOi1.symm;have j5:b.IsTupleIter j q (m+1):=j4.extBut F.extBut D.TOi2.symm;have X:z<b.objs.size:=Bt W;show wpAny _ _ (Builtin.SmallTypes.ownedTupleHandOut (.ref z) (.ref b.objs.size) >>= _) _ _ _;refine Ad ?_;unfold Builtin.SmallTypes.ownedTupleHandOut;have z6:IsZip (b.push {cls:=.type "tuple",data:=.seq #[x,y]}) z a o .ellipsis:=Bg _ W;refine Ad (wpAny_setField_rec z6 (by simp) λg7 R S=>?_)
 replace R:IsZip g7 z a o (rawInt b.objs.size):=R
 refine wpAny_setField_rec R (by simp) λG K T=>?_
 replace K:IsZip G z a o (rawInt b.objs.size):=K
 have L:∀c d,c≠z->b.get? c=some d->G.get? c=some d:=λc d n e=>T.extBut _ _ n (S.extBut _ _ n (Bg _ e));have Y:IsPair G b.objs.size x y:=T.extBut _ _ (Nat.ne_of_gt X) (S.extBut _ _ (Nat.ne_of_gt X) (Ci _ rfl));have Z:G.objs.size=b.objs.size+1:=(by rw[T.1,S.1,Heap.size_push]);rw[sz] at K Y Z;refine AB ⟨_,rfl,?_⟩;show Q (.ref b.objs.size) _;rw[sz];obtain⟨oi,e1,e2⟩:=i5;obtain⟨oj,af,ag⟩:=j5;exact ah G K (L _ _ D.TOz H) ⟨oi,L _ _ D.i1z e1,e2⟩ ⟨oj,L _ _ D.i2z af,ag⟩ Y Z λc d I J O P e=>L c d I (k5 c d I J O P e)
def Y9{z a o i j p q:Addr}{m:Nat}{xs ys:Array Value}{u v:Value}{Q:PySem.Fin->Shared->Prop}(J:A.handled=none)(D:ZipApart z a o i j p q)(r:IsZip s.heap z a o .none)(U:IsPair s.heap a (.ref i) (.ref j))(V:IsPair s.heap o u v)
 (K:s.heap.IsTupleIter i p k) (W:s.heap.IsTupleIter j q m) (L:s.heap.IsTuple p xs) (X:s.heap.IsTuple q ys) (aa:xs[k]?=none\/ys[m]?=none)
 (T:∀g e,(∀c d,c≠z->c≠o->c≠i->c≠j->s.heap.get? c=some d->g.get? c=some d)->(∃d,g.get? e=some d/\d.cls=.type "StopIteration")->E (.ref e) {s with heap:=g}) :
 wpAny (model prog w) A (Builtin.«zip.__next__» ⟨[.ref z],[]⟩) Q E s:=by
 show wpAny _ _ (field (.ref z) 2 >>= _) _ _ _;refine Ad (wpAny_field r rfl (x:=.bool false) rfl ?_);show wpAny _ _ (field (.ref z) 3 >>= _) _ _ _;refine Ad (wpAny_field r rfl (x:=.ref a) rfl (Ad (Gv U rfl ?_)));show wpAny _ _ (Builtin.SmallTypes.ownedTupleIsFree (.ref z) >>= _) _ _ _;refine Ad ?_;unfold Builtin.SmallTypes.ownedTupleIsFree;refine Ad (wpAny_field r rfl (x:=.none) rfl (AB ?_));simp only[if_true];refine Ad (Im (Ad (wpAny_field r rfl (x:=.ref o) rfl (Ad (wpAny_setField_rec r (by simp) λY C b=>?_)))))
 replace C:IsZip Y z a o .ellipsis:=C
 refine Ad ?_;simp only[List.zipIdx_cons,List.zipIdx_nil,List.forIn_cons,List.forIn_nil];refine Ad (Ad (wpAny_onRaise ?_));show wpAny _ _ (Builtin.SmallTypes.nextOf (.ref i) >>= _) _ _ _
 cases F:xs[k]? with
 |none =>
   refine Ad (SK J (K.extBut b.extBut D.i1z) (L.extBut b.extBut D.l1z) F λG e f H=>?_);obtain⟨d,l,y⟩:=H;have M:IsZip G z a o .ellipsis:=f _ _ D.i1z.symm C;have ne:e≠z:=λt=>by subst t;rw[M] at l;cases l;simp at y
   exact wpAny_setField_rec M (by simp) λN ζ n=>T N e (λc d B ζ I ζ t=>n.extBut _ _ B (f _ _ I (b.extBut _ _ B t))) ⟨d,n.extBut _ _ ne l,y⟩
 |some x =>
   have Z:ys[m]?=none:=by
    rcases aa with h|h;rw[F] at h;cases h;exact h
   refine Ad (PL (K.extBut b.extBut D.i1z) (L.extBut b.extBut D.l1z) F λG i2 f=>AB ?_);have O:IsPair G o u v:=f.extBut _ _ D.TOi1 (b.extBut _ _ D.TOz V);refine Ad (Gv O rfl (Ad (wpAny_updateSeq_pair O λN o3 n=>Ad (wpAny_letGo (AB ?_)))));refine Ad (Ad (wpAny_onRaise ?_));show wpAny _ _ (Builtin.SmallTypes.nextOf (.ref j) >>= _) _ _ _;refine Ad (SK J (((W.extBut b.extBut D.i2z).extBut f.extBut D.i12.symm).extBut n.extBut D.TOi2.symm) (((X.extBut b.extBut D.l2z).extBut f.extBut D.l2i1).extBut n.extBut D.l2TO) Z λg4 e P H=>?_);obtain⟨d,l,y⟩:=H;have R:IsZip g4 z a o .ellipsis:=P _ _ D.i2z.symm (n.extBut _ _ D.TOz.symm (f.extBut _ _ D.i1z.symm C));have ne:e≠z:=λt=>by subst t;rw[R] at l;cases l;simp at y
   exact wpAny_setField_rec R (by simp) λg5 ζ S=>T g5 e (λc d B n2 I n4 t=>S.extBut _ _ B (P _ _ n4 (n.extBut _ _ n2 (f.extBut _ _ I (b.extBut _ _ B t))))) ⟨d,S.extBut _ _ ne l,y⟩
end
abbrev PM (h:Heap) (p:Addr):Heap:=h.push {cls:=.type "tuple_iterator",data:=.fields #[.ref p,.int 0 0]}
abbrev PP (h:Heap) (p q:Addr):Heap:=(PM h p).push {cls:=.type "tuple_iterator",data:=.fields #[.ref q,.int 0 0]}
abbrev PQ (h:Heap) (p q:Addr):Heap:=(PP h p q).push {cls:=.type "tuple",data:=.seq #[.ref h.objs.size,.ref (PM h p).objs.size]}
abbrev PR (h:Heap) (p q:Addr):Heap:=(PQ h p q).push {cls:=.type "tuple",data:=.seq #[.none,.none]}
abbrev LL (h:Heap) (p q:Addr):Heap:=(PR h p q).push {cls:=.type "zip",data:=.fields #[.none,.bool false,.bool false,.ref (PP h p q).objs.size,.ref (PQ h p q).objs.size]}
def Za(p q:Addr)(xs ys:Array Value):Meets (Builtin.«zip.__new__» ⟨[.type "zip",.ref p,.ref q],[]⟩) (λζ R s=>s.heap.IsTuple p xs/\s.heap.IsTuple q ys/\R (.ok (.ret (.ref (PR s.heap p q).objs.size))) {s with heap:=LL s.heap p q}):=
 .of_wp λprog w A R s h=>by
  obtain⟨a,g,d,b,c⟩:=s;obtain⟨e,f,h⟩:=h;have k:=sub_zip;have i:Heap.IsTuple (Shared.heap ⟨a,g,d,b,c⟩) p xs:=e;have j:Heap.IsTuple (Shared.heap ⟨a.push {cls:=.type "tuple_iterator",data:=.fields #[.ref p,.int 0 0]},g,d,b,c⟩) q ys:=Heap.IsTuple.push f _
  wp_walk using wpAny_pyIter_tuple i,wpAny_pyIter_tuple j
  exact⟨_,rfl,h⟩
theorem Zb{w:World}{p q:Addr}{xs ys:Array Value}(m:s.heap.IsTuple p xs)(n:s.heap.IsTuple q ys)
 (h:∀g,IsZip g (s.heap.objs.size+4) (s.heap.objs.size+2) (s.heap.objs.size+3) .none->IsPair g (s.heap.objs.size+2) (.ref s.heap.objs.size) (.ref (s.heap.objs.size+1))->IsPair g (s.heap.objs.size+3) .none .none->g.IsTupleIter s.heap.objs.size p 0->g.IsTupleIter (s.heap.objs.size+1) q 0->g.objs.size=s.heap.objs.size+5->(∀c o,s.heap.get? c=some o->g.get? c=some o)->Q (.ref (s.heap.objs.size+4)) {s with heap:=g}) :
 wpAny (model prog w) A (call (.type "zip") [.ref p,.ref q]) Q E s:=by
 refine callType_new F.called_zip (by decide) (F.typeCall_zip_2 _ _) (F.newCall_zip_2 _ _) (λu=>F.args_object_init_3 u _ _) F.entry_zip_new (Za p q xs ys) ⟨m,n,?_⟩;have a:(PM s.heap p).objs.size=s.heap.objs.size+1:=Heap.size_push ..;have b:(PP s.heap p q).objs.size=s.heap.objs.size+2:=(by rw[Heap.size_push,a]);have d:(PQ s.heap p q).objs.size=s.heap.objs.size+3:=(by rw[Heap.size_push,b]);have f:(PR s.heap p q).objs.size=s.heap.objs.size+4:=(by rw[Heap.size_push,d]);have r:(LL s.heap p q).objs.size=s.heap.objs.size+5:=(by rw[Heap.size_push,f]);have i:(LL s.heap p q).get? (PR s.heap p q).objs.size=some _:=Ci _ rfl;have j:(LL s.heap p q).get? (PQ s.heap p q).objs.size=some _:=Bg _ (Ci _ rfl);have k:(LL s.heap p q).get? (PP s.heap p q).objs.size=some _:=Bg _ (Bg _ (Ci _ rfl));have l:(LL s.heap p q).get? (PM s.heap p).objs.size=some _:=Bg _ (Bg _ (Bg _ (Ci _ rfl)));have t:(LL s.heap p q).get? s.heap.objs.size=some _:=Bg _ (Bg _ (Bg _ (Bg _ (Ci _ rfl))));show _/\_;rw[b,d,f] at i;rw[a,b] at k;rw[d] at j;rw[a] at l;rw[f];exact⟨⟨_,i,rfl⟩,h _ i k j ⟨_,t,rfl,rfl⟩ ⟨_,l,rfl,rfl⟩ r λc o e=>Bg _ (Bg _ (Bg _ (Bg _ (Bg _ e))))⟩
section
variable {X:Cx} {pins:B'} {σ:St} {H:Hp} {s:Shared} {h':Heap} {t':Nat} {fp:List Addr}
def Inv.turnL(I:Inv X pins σ H s)(d:∀b∈fp,Dg X pins H b)(keep:∀b o,b∉fp->s.heap.get? b=some o->h'.get? b=some o):Inv X pins σ H {s with heap:=h',toks:=t'}:=by
 have g:∀b u,H b=some u->b∉fp:=λb u e z=>by rw[(d b z).1] at e;cases e
 refine I.step (g':=s.gens) (d':=s.drawn) (ch:=fp) (λb a=>⟨(d b a).2.2.2.1,(d b a).2.1,(d b a).2.2.2.2⟩) (λb o ζ ζ a e ζ=>keep b o a e) (λb o ζ ζ a e ζ=>⟨o.slots,keep b o a e⟩) (λζ ζ ζ ζ n=>n) (λb o a e=>⟨o,keep b o a e⟩) (λζ ζ e=>e) (λζ ζ ζ e=>e) (λb l e=>⟨#[],by rw[e];simp⟩)
  (λm h=>?_) (λb u e=>(I.hok b u e).stay (λc v f q=>keep c v ?_ q) (λζ q=>q) λζ ζ q=>q) I.bare
 obtain⟨o,i,j,k,r⟩:=h;exact⟨o,i,j,keep _ o (λz=>(d _ z).2.1 rfl) k,r⟩;rcases f with rfl|f;exact g _ _ e;exact g _ _ f
def Inv.turnP{a c:Value}{x y:V}(I:Inv X pins σ H s)(d:∀b∈fp,Dg X pins H b)(keep:∀b o,b∉fp->s.heap.get? b=some o->h'.get? b=some o)(ob:∀b∈fp,∃o,s.heap.get? b=some o/\∀v,o.data≠.cell v)
 (f:h'.get? s.heap.objs.size=some {cls:=.type "tuple",data:=.seq #[a,c]}) (i:RelV x a) (j:RelV y c) :
 Inv X pins σ (upd H s.heap.objs.size (.tup [x,y])) {s with heap:=h',toks:=t'}/\H s.heap.objs.size=none/\∀b∈fp,upd H s.heap.objs.size (.tup [x,y]) b=none:=by
 have h:H s.heap.objs.size=none:=I.hok.fresh (AG _);refine⟨(I.turnL (t':=t') d keep).track (I.fpOk (AG _) h) ⟨_,f⟩ ⟨by show 2<=sizeLine;decide,[a,c],.cons i (.cons j .nil),⟨_,f,rfl,_,rfl⟩⟩,h,λb g=>?_⟩;obtain⟨o,e,_⟩:=ob b g;rw[AH (CO (Bt e))];exact(d b g).1
def Inv.newFp(I:Inv X pins σ H s)(a:∀b∈fp,s.heap.objs.size<=b):∀b∈fp,Dg X pins H b:=λb z=>I.fpOk (a b z) (I.hok.fresh (a b z))
end
structure SM where
 sq:Ai->Hp->Addr->List V->Prop
 ent:Ai->Hp->Addr->List V->Prop
 it:Heap->Addr->Addr->Nat->Prop
 is:Heap->Addr->Array Value->Prop
 obj:∀{h:Heap}{i l:Addr}{n:Nat},it h i l n->∃o,h.get? i=some o/\∀v,o.data≠.cell v
 keep:∀{h h':Heap}{i l:Addr}{n:Nat},it h i l n->(∀o,h.get? i=some o->h'.get? i=some o)->it h' i l n
 get:∀{X:Cx}{pins:B'}{σ:St}{H:Hp}{s:Shared}{l:Addr}{xs:List V},Inv X pins σ H s->sq X.K H l xs->∃its:List Value,Ax xs its/\is s.heap l its.toArray/\l<s.heap.objs.size
 uniq:∀{X:Cx}{pins:B'}{σ:St}{H:Hp}{s:Shared}{l:Addr}{xs ys:List V},Inv X pins σ H s->sq X.K H l xs->sq X.K H l ys->xs=ys
 entS:∀{K:Ai}{H:Hp}{l:Addr}{xs:List V},ent K H l xs->sq K H l xs
 zitem:∀{prog:Program}{w:World}{A:Around}{E:D'}{s:Shared}{z a o i j p q:Addr}{k m:Nat}{xs ys:Array Value}{x y u v:Value}{Q:Option Value->Shared->Prop},ZipApart z a o i j p q->IsZip s.heap z a o .none->IsPair s.heap a (.ref i) (.ref j)->IsPair s.heap o u v->it s.heap i p k->it s.heap j q m->is s.heap p xs->is s.heap q ys->xs[k]?=some x->ys[m]?=some y ->
  (∀g,IsZip g z a o (rawInt s.heap.objs.size)->IsPair g o x y->it g i p (k+1)->it g j q (m+1)->IsPair g s.heap.objs.size x y->g.objs.size=s.heap.objs.size+1->(∀c d,c≠z->c≠o->c≠i->c≠j->s.heap.get? c=some d->g.get? c=some d)->Q (some (.ref s.heap.objs.size)) {s with heap:=g})->wpAny (model prog w) A (pyNext (.ref z)) Q E s
 zend:∀{prog:Program}{w:World}{A:Around}{E:D'}{s:Shared}{z a o i j p q:Addr}{k m:Nat}{xs ys:Array Value}{u v:Value}{Q:Option Value->Shared->Prop},A.handled=none->ZipApart z a o i j p q->IsZip s.heap z a o .none->IsPair s.heap a (.ref i) (.ref j)->IsPair s.heap o u v->it s.heap i p k->it s.heap j q m->is s.heap p xs->is s.heap q ys->xs[k]?=none\/ys[m]?=none ->
  (∀g,(∀c d,c≠z->c≠o->c≠i->c≠j->s.heap.get? c=some d->g.get? c=some d)->Q none {s with heap:=g})->wpAny (model prog w) A (pyNext (.ref z)) Q E s
 zcall:∀{prog:Program}{w:World}{A:Around}{E:D'}{s:Shared}{p q:Addr}{xs ys:Array Value}{Q:D'},is s.heap p xs->is s.heap q ys ->
  (∀g,IsZip g (s.heap.objs.size+4) (s.heap.objs.size+2) (s.heap.objs.size+3) .none->IsPair g (s.heap.objs.size+2) (.ref s.heap.objs.size) (.ref (s.heap.objs.size+1))->IsPair g (s.heap.objs.size+3) .none .none->it g s.heap.objs.size p 0->it g (s.heap.objs.size+1) q 0->g.objs.size=s.heap.objs.size+5->(∀c o,s.heap.get? c=some o->g.get? c=some o)->Q (.ref (s.heap.objs.size+4)) {s with heap:=g})->wpAny (model prog w) A (call (.type "zip") [.ref p,.ref q]) Q E s
 eitem:∀{prog:Program}{w:World}{A:Around}{E:D'}{s:Shared}{e j l:Addr}{i:Nat}{xs:Array Value}{x old:Value}{Q:Option Value->Shared->Prop},A.handled=none->e≠j->e≠l->l≠j->IsEnum s.heap e j i old->it s.heap j l i->is s.heap l xs->xs[i]?=some x ->
  (∀g tk,IsEnumOut g e j ((i:Int)+1) x s.heap.objs.size->it g j l (i+1)->g.get? s.heap.objs.size=some {cls:=.type "tuple",data:=.seq #[.int i tk,x]}->(∀b o,b≠e->b≠j->s.heap.get? b=some o->g.get? b=some o)->Q (some (.ref s.heap.objs.size)) {s with heap:=g,toks:=tk+1})->wpAny (model prog w) A (pyNext (.ref e)) Q E s
 eend:∀{prog:Program}{w:World}{A:Around}{E:D'}{s:Shared}{e j l:Addr}{xs:Array Value}{old:Value}{Q:Option Value->Shared->Prop},A.handled=none->l≠j->IsEnum s.heap e j xs.size old->it s.heap j l xs.size->is s.heap l xs->(∀g,Heap.ExtBut j s.heap g->Q none {s with heap:=g})->wpAny (model prog w) A (pyNext (.ref e)) Q E s
 ecall:∀{X:Cx}{pins:B'}{σ:St}{H:Hp}{s:Shared}{A:Around}{E:D'}{l:Addr}{xs:List V}{Q:D'},Inv X pins σ H s->ent X.K H l xs ->
  (∀g,IsEnum g (s.heap.objs.size+1) s.heap.objs.size 0 .none->it g s.heap.objs.size l 0->g.objs.size=s.heap.objs.size+2->(∀b o,s.heap.get? b=some o->g.get? b=some o)->Q (.ref (s.heap.objs.size+1)) {s with heap:=g})->wpAny (model X.prog X.w) A (call (.type "enumerate") [.ref l]) Q E s
def LK:SM where
 sq:=Ag
 ent:=λζ H l xs=>H l=some (.lst xs)
 it:=Heap.IsListIter
 is:=Heap.IsList
 obj:=λ⟨o,e,_,d⟩=>⟨o,e,λv q=>by rw[d] at q;cases q⟩
 keep:=λh k=>h.at k
 get:=λI h=>let ⟨its,r,p,_⟩:=I.list h;⟨its,r,p.isList,let ⟨_,e,_⟩:=p.isList;Bt e⟩
 uniq:=λI h h'=>I.list_inj h h'
 entS:=Ag.of
 zitem:=wpAny_pyNext_zip_item
 zend:=wpAny_pyNext_zip_end
 zcall:=call_zip_2
 eitem:=λζ n1 ζ ζ he hi hl hx q=>wpAny_pyNext_enum_item he hi hl hx n1 λg a b c ζ k=>q g _ a b c k
 eend:=λhh ζ he hi hl q=>wpAny_pyNext_enum_end hh he hi hl (by simp) q
 ecall:=λI hq q=>let ⟨_,_,_,_,e⟩:=I.hok _ _ hq;call_enumerate_1 e q
def TK:SM where
 sq:=Ao
 ent:=Ao
 it:=Heap.IsTupleIter
 is:=Heap.IsTuple
 obj:=λ⟨o,e,_,d⟩=>⟨o,e,λv q=>by rw[d] at q;cases q⟩
 keep:=λ⟨o,e,r⟩k=>⟨o,k o e,r⟩
 get:=λI h=>let ⟨its,r,p,_⟩:=I.tuple h;⟨its,r,p,let ⟨_,e,_⟩:=p;Bt e⟩
 uniq:=λI h h'=>I.tuple_inj h h'
 entS:=id
 zitem:=λ{_ _ _ _ s z _ _ _ _ _ _ _ _ _ _ _ _ _ _ _}D ez ea eo ei ej tp tq hx hy fin=>by
  have tz:s.TypeIs (.ref z) "zip" :=⟨_,ez,rfl⟩;unfold pyNext;exact Ad (wpAny_attempt (wpAny_callSpecial?_slot (name:=Str.ofString "__next__") tz F.slot_zip_next (wpAny_call_entry F.slot_zip_next tz F.entry_zip_next (Y8 D ez ea eo ei ej tp tq hx hy λg a1 a2 a3 a4 a5 a6 a7=>AB (fin g a1 a2 a3 a4 a5 a6 a7)) (F.args_zip_next_1 _))))
 zend:=λ{_ _ _ _ s z _ _ _ _ _ _ _ _ _ _ _ _ _}hh D ez ea eo ei ej tp tq hend fin=>by
  have tz:s.TypeIs (.ref z) "zip" :=⟨_,ez,rfl⟩;unfold pyNext;refine Ad (wpAny_attempt (wpAny_callSpecial?_slot (name:=Str.ofString "__next__") tz F.slot_zip_next (wpAny_call_entry F.slot_zip_next tz F.entry_zip_next (Y9 hh D ez ea eo ei ej tp tq hend λg e hk he=>?_) (F.args_zip_next_1 _))));obtain⟨d,h1,h2⟩:=he;exact Ad (wpAny_isInstance (T:= "StopIteration") (b:=true) ⟨d,h1,h2⟩ isSubtype_stop (AB (fin _ hk)))
 zcall:=Zb
 eitem:=λ{_ _ A _ _ e j l i xs x _ _}hh n1 n2 n3 he hi hl hx q=>by
  refine wpAny_pyNext_enum_itemD (HF (A:=A.in1) hh j l n3 xs) he ⟨hi,hl⟩ (Array.getElem?_eq_some_iff.mp hx).1 n1 (by simp;exact⟨n1,n2⟩) λy g tk hy a b c ζ k=>?_;rw[hx] at hy;cases hy;exact q g tk a b.1 c k
 eend:=λ{_ _ A _ _ _ j l xs _ _}hh n3 he hi hl q=>wpAny_pyNext_enum_endD (HF (A:=A.in1) hh j l n3 xs) he ⟨hi,hl⟩ q
 ecall:=λI hq q=>let ⟨_,_,p,_⟩:=I.tuple hq;Y7 p q
section
variable (k:SM)
def HG (K:Ai) (f j:Addr):It:=
 ⟨λi H=>∃xs ys x y,k.sq K H f xs/\k.sq K H j ys/\xs[i]?=some x/\ys[i]?=some y,
  λi H v H'=>∃T x y,H T=none/\v=.ref T/\H'=upd H T (.tup [x,y])/\(∀xs,k.sq K H f xs->xs[i]?=some x)/\∀ys,k.sq K H j ys->ys[i]?=some y,
  λi H=>∃xs ys,k.sq K H f xs/\k.sq K H j ys/\(xs.length<=i\/ys.length<=i)⟩
def Oa (z TI TO i1 i2 f j:Addr) (i:Nat) (h:Heap):Prop:=IsZip h z TI TO .none/\IsPair h TI (.ref i1) (.ref i2)/\(∃a b,IsPair h TO a b)/\k.it h i1 f i/\k.it h i2 j i
def LM (K:Ai) (l:Addr):It:=
 ⟨λi H=>∃xs x,k.sq K H l xs/\xs[i]?=some x,
  λi H v H'=>∃T x,H T=none/\v=.ref T/\H'=upd H T (.tup [.int i,x])/\∀xs,k.sq K H l xs->xs[i]?=some x,
  λi H=>∃xs,k.sq K H l xs/\xs.length=i⟩
def Ob (e it l:Addr) (i:Nat) (h:Heap):Prop:=(∃old,IsEnum h e it i old)/\k.it h it l i
variable {k}
variable {f j:Addr}
def VU{z TI TO d e:Addr}{h:Heap}(st:Oa k z TI TO d e f j i h):∀b∈[z,TI,TO,d,e],∃o,h.get? b=some o/\∀v,o.data≠.cell v:=λb g=>by
 obtain⟨l,p,⟨a,c,r⟩,m,n⟩:=st;simp at g;rcases g with rfl|rfl|rfl|rfl|rfl;exact⟨_,l,λv q=>by cases q⟩;exact⟨_,p,λv q=>by cases q⟩;exact⟨_,r,λv q=>by cases q⟩;exact k.obj m;exact k.obj n
def VV{a l:Addr}{h:Heap}(st:Ob k e a l i h):∀b∈[e,a],∃o,h.get? b=some o/\∀v,o.data≠.cell v:=λb c=>by
 obtain⟨⟨g,d⟩,f⟩:=st;simp at c;rcases c with rfl|rfl;exact⟨_,d,λv q=>by cases q⟩;exact k.obj f
variable {P:Program} {w:World} {K:Ai} {es:List Expr} {Z:Nat} {L:Pos}
def Zc{z TI TO t u:Addr}(D:ZipApart z TI TO t u f j):FQ P w K (.Tuple es Z L) (HG k K f j) [z,TI,TO,t,u] z (Oa k z TI TO t u f j) where
 mem:=by simp
 obj:=λζ ζ g b d=>VU g b d
 keep:=λi h h' g Z=>by
  obtain⟨l,m,⟨a,c,r⟩,p,q⟩:=g;exact⟨Z z (by simp) _ l,Z TI (by simp) _ m,⟨a,c,Z TO (by simp) _ r⟩,k.keep p λo e=>Z t (by simp) o e,k.keep q λo e=>Z u (by simp) o e⟩
 item:=by
  intro X C F G T i ai s σ H E I M g N;subst C F G;obtain⟨xs,ys,x,y,A,B,U,V⟩:=N;have ob:=VU g;obtain⟨l,m,⟨a,c,r⟩,p,q⟩:=g;obtain⟨aj,Q,O,_⟩:=k.get I A;obtain⟨ak,R,J,_⟩:=k.get I B;obtain⟨W,aa,ab⟩:=Q.get U;obtain⟨Y,ae,af⟩:=R.get V;refine k.zitem D l m r p q O J (x:=W) (y:=Y) (by simpa using aa) (by simpa using ae) λh' a1 a2 a3 a4 a5 a6 v=>?_;refine⟨_,rfl,wpAny_letOwnedTupleGo_zip (s:={s with heap:=h'}) a1 λag al n=>?_⟩;obtain⟨I2,ah,fr⟩:=I.turnP (t':=s.toks) (h':=ag) M (λb o d e=>by simp at d;exact(n.2 b d.1).trans (v b o d.1 d.2.2.1 d.2.2.2.1 d.2.2.2.2 e)) ob ((n.2 _ (Nat.ne_of_gt (Bt l))).trans a5) ab af
  exact⟨.ref s.heap.objs.size,_,I2,rfl,⟨s.heap.objs.size,x,y,ah,rfl,rfl,λzs S=>by rw[k.uniq I S A];exact U,λzs S=>by rw[k.uniq I S B];exact V⟩,
   ⟨al,n.extBut _ _ D.TIz (v _ _ D.TIz D.TITO D.TIi1 D.TIi2 m),⟨W,Y,n.extBut _ _ D.TOz a2⟩,k.keep a3 λo e=>n.extBut _ _ D.i1z e,k.keep a4 λo e=>n.extBut _ _ D.i2z e⟩,fr⟩
 done:=by
  intro X C F G T i ai s σ H E I M g N;subst C F G;obtain⟨xs,ys,A,B,aq⟩:=N;obtain⟨l,m,⟨a,c,r⟩,p,q⟩:=g;obtain⟨aj,Q,O,_⟩:=k.get I A;obtain⟨ak,R,J,_⟩:=k.get I B;have an:=Q.length;have ao:=R.length;exact k.zend (I.ok.hd T) D l m r p q O J (by simp;lia) λh' v=>⟨rfl,I.turnL (t':=s.toks) M λb o d e=>by simp at d;exact v b o d.1 d.2.2.1 d.2.2.2.1 d.2.2.2.2 e⟩
 self:=λζ ζ ζ ζ ζ g h=>wpAny_pyIter_zip g.1 h
def Zd{g l:Addr}(G:e≠g)(W:e≠l)(J:l≠g):FQ P w K (.Tuple es Z L) (LM k K l) [e,g] e (Ob k e g l) where
 mem:=by simp
 obj:=λζ ζ a b c=>VV a b c
 keep:=λi h h' a Z=>by
  obtain⟨⟨j,d⟩,f⟩:=a;exact⟨⟨j,Z e (by simp) _ d⟩,k.keep f λo x=>Z g (by simp) o x⟩
 item:=by
  intro X n p q r i ag s σ H E I t a u;subst n p q;obtain⟨B,x,m,C⟩:=u;have N:=VV a;obtain⟨⟨j,d⟩,f⟩:=a;obtain⟨M,z,v,_⟩:=k.get I m;obtain⟨D,Y,aa⟩:=z.get C;refine k.eitem (I.ok.hd r) G W J d f v (x:=D) (by simpa using Y) λh' F O Q R S=>?_;refine⟨_,rfl,wpAny_letOwnedTupleGo_enum (s:={s with heap:=h',toks:=F+1}) O λab ah A=>?_⟩;obtain⟨T,ae,U⟩:=I.turnP (t':=F+1) (h':=ab) (x:=.int i) (y:=x) t (λb o c e=>by simp at c;exact(A.2 b c.1).trans (S b o c.1 c.2 e)) N ((A.2 _ (Nat.ne_of_gt (Bt d))).trans R) ⟨_,rfl⟩ aa;exact⟨.ref s.heap.objs.size,_,T,rfl,⟨s.heap.objs.size,x,ae,rfl,rfl,λzs af=>by rw[k.uniq I af m];exact C⟩,⟨⟨D,by simpa using ah⟩,k.keep Q λo e=>A.extBut _ _ (Ne.symm G) e⟩,U⟩
 done:=by
  intro X n p q r i ag s σ H E I t a u;subst n p q;obtain⟨B,m,rfl⟩:=u;obtain⟨⟨j,d⟩,f⟩:=a;obtain⟨M,z,v,_⟩:=k.get I m;rw[show B.length=M.toArray.size by rw[z.length];simp] at d f;exact k.eend (I.ok.hd r) J d f v λh' V=>⟨rfl,I.turnL (t':=s.toks) t λb o c e=>by simp at c;exact V b o c.2 e⟩
 self:=λζ ζ ζ ζ ζ a h=>by
  obtain⟨⟨j,d⟩,_⟩:=a;exact wpAny_pyIter_enum d h
variable (k)
def LN (K:Ai) (ta:TA):TI:=λσ H R=>ta σ H λvs U=>∃l,vs=[.ref l]/\(∃xs,k.ent K U l xs)/\R (LM k K l) U
variable {X:Cx}
def PU{r:Pos}{a:Expr}{d:TA}{p:Pos}(i:Gl X "enumerate")(j:X.mg "enumerate" = none)(m:PA X [a] d)(n:starEach [a] X.env=[(false,eval a X.env)]:=by rfl) :
 PI X (.Tuple es Z r) (.Call (.Name "enumerate" p) [a] [] L) (LN k X.K d):=by
 intro A s σ H R I h;refine Call_ (IJ I i j (u:=.type "enumerate") (by decide +kernel) (PyProof.Rows.callWith_type1 (AO (m L A s σ H _ I h) λB b⟨C,U,c,o,t⟩=>?_) (by rw[n];rfl) (by rfl)));obtain⟨l,rfl,⟨D,e⟩,q⟩:=t;obtain⟨v,rfl,z⟩:=F8 o;obtain rfl:v=Value.ref l:=z;obtain⟨_,_,_,f⟩:=k.get c (k.entS e);refine k.ecall c e λw g x E y=>?_;refine wpAny_pyIter_enum (s:={b with heap:=w}) g ?_;exact⟨_,[b.heap.objs.size+1,b.heap.objs.size],_,_,U,rfl,c.kept (t':=b.toks) y,Zd (Nat.succ_ne_self _) (Nat.ne_of_gt (Nat.lt_succ_of_lt f)) (CO f),⟨⟨_,g⟩,x⟩,c.newFp (by simp),q⟩
variable {k}
def VW{pins:B'}{σ:St}{a:Shared}{c:Expr}{R:It->Hp->Prop}(e:∃es Z L,c=.Tuple es Z L)(b:Inv X pins σ U a)(g:∃xs,k.sq X.K U f xs)(h:∃ys,k.sq X.K U j ys)(q:R (HG k X.K f j) U) :
 wpAny (model X.prog X.w) X.A (call (.type "zip") [.ref f,.ref j]) (λv i=>wpAny (model X.prog X.w) X.A (pyIter v) (RH X pins σ c R) E i) E a:=by
 obtain⟨es,Z,L,rfl⟩:=e;obtain⟨xs,r⟩:=g;obtain⟨ys,t⟩:=h;obtain⟨_,_,l,m⟩:=k.get b r;obtain⟨_,_,J,n⟩:=k.get b t;refine k.zcall l J λo d u w x y z p=>?_;refine wpAny_pyIter_zip (s:={a with heap:=o}) d ?_;exact⟨_,[a.heap.objs.size+4,a.heap.objs.size+2,a.heap.objs.size+3,a.heap.objs.size,a.heap.objs.size+1],_,_,U,rfl,b.kept (t':=a.toks) p,Zc (zipApart_new m n),⟨d,u,⟨_,_,w⟩,x,y⟩,b.newFp (by simp),q⟩
def Oc (K:Ai) (ta:TA):TI:=λσ H R=>ta σ H λvs U=>∃f j,vs=[.ref f,.ref j]/\(((∃xs,Ag K U f xs)/\(∃ys,Ag K U j ys)/\R (HG LK K f j) U)\/((∃xs,Ao K U f xs)/\(∃ys,Ao K U j ys)/\R (HG TK K f j) U))
def Jy{r:Pos}{a b:Expr}{e:TA}{p:Pos}(l:Gl X "zip")(m:X.mg "zip" = none)(n:PA X [a,b] e)(o:starEach [a,b] X.env=[(false,eval a X.env),(false,eval b X.env)]:=by rfl)(i:starEach [b] X.env=[(false,eval b X.env)]:=by rfl) :
 PI X (.Tuple es Z r) (.Call (.Name "zip" p) [a,b] [] L) (Oc X.K e):=by
 intro B s σ H R I h;refine Call_ (IJ I l m (u:=.type "zip") (by decide +kernel) (PyProof.Rows.callWith_type1 (AO (n L B s σ H _ I h) λC D⟨E,U,g,t,v⟩=>?_) (by rw[o,i]) (by rw[i];rfl)));obtain⟨f,j,rfl,w⟩:=v;obtain⟨x,y,rfl,z,A⟩:=Kp t;obtain rfl:x=Value.ref f:=z;obtain rfl:y=Value.ref j:=A;rcases w with⟨c,d,q⟩|⟨c,d,q⟩;exact VW (k:=LK) ⟨_,_,_,rfl⟩ g c d q;exact VW (k:=TK) ⟨_,_,_,rfl⟩ g c d q
variable {g:TG} {tb:TS} {D:Ends} {σ:St} {H:Hp}
variable (k)
def VX{xs ys:List V}(Pv:Nat->St->Hp->Prop)(b:Pv 0 σ H)(a:∀i σ H,Pv i σ H->k.sq K H f xs/\k.sq K H j ys)
 (c:∀i x y T σ H,xs[i]?=some x->ys[i]?=some y->H T=none->Pv i σ H->g (.ref T) σ (upd H T (.tup [x,y])) λσ2 Y=>tb {D with nx:=Pv (i+1),ct:=Pv (i+1),bk:=D.nx} σ2 Y) (hd:∀σ H,Pv (min xs.length ys.length) σ H->D.nx σ H):FR (HG k K f j) g tb D σ H:=by
 refine NB (min xs.length ys.length) Pv b (λi σ H p d=>?_) (λσ H p=>⟨xs,ys,(a _ σ H p).1,(a _ σ H p).2,by lia⟩) (λi v σ H H' p d y=>?_) hd;have e:i<xs.length:=(by lia);have h:i<ys.length:=(by lia);exact⟨xs,ys,xs[i],ys[i],(a i σ H p).1,(a i σ H p).2,by simp[e],by simp[h]⟩;obtain⟨T,x,l,m,rfl,rfl,n,o⟩:=y;exact c i x l T σ H (n xs (a i σ H p).1) (o ys (a i σ H p).2) m p
def PV{l:Addr}{xs:List V}(Pv:Nat->St->Hp->Prop)(c:Pv 0 σ H)(a:∀i σ H,Pv i σ H->k.sq K H l xs)
 (d:∀i x T σ H,xs[i]?=some x->H T=none->Pv i σ H->g (.ref T) σ (upd H T (.tup [.int i,x])) λσ2 Y=>tb {D with nx:=Pv (i+1),ct:=Pv (i+1),bk:=D.nx} σ2 Y) (hd:∀σ H,Pv xs.length σ H->D.nx σ H):FR (LM k K l) g tb D σ H:=by
 refine NB xs.length Pv c (λi σ H p b=>⟨xs,xs[i],a i σ H p,by simp[b]⟩) (λσ H p=>⟨xs,a _ σ H p,rfl⟩) (λi v σ H H' p b y=>?_) hd;obtain⟨T,x,e,rfl,rfl,f⟩:=y;exact d i x T σ H (f xs (a i σ H p)) e p
end
mutual
inductive A5 (F:Addr->Prop) (H:Hp):V->Dt->Prop where
 | non:A5 F H .non .non
 | bl (b:Bool):A5 F H (.bl b) (.bl b)
 | int (i:Int):A5 F H (.int i) (.int i)
 | str (x:Str):A5 F H (.str x) (.str x)
 | tup {a:Addr} {vs:List V} {ds:List Dt} (h:H a=some (.tup vs)) (t:Az F H vs ds):A5 F H (.ref a) (.tup ds)
 | lst {a:Addr} {vs:List V} {ds:List Dt} (h:H a=some (.lst vs)) (f:F a) (t:Az F H vs ds):A5 F H (.ref a) (.lst ds)
inductive Az (F:Addr->Prop) (H:Hp):List V->List Dt->Prop where
 | nil:Az F H [] []
 | cons {v:V} {d:Dt} {vs:List V} {ds:List Dt} (h:A5 F H v d) (t:Az F H vs ds):Az F H (v :: vs) (d :: ds)
end
mutual
theorem A5.go {F G:Addr->Prop}{H H':Hp} (e:∀ a vs,H a=some (.tup vs)->H' a=some (.tup vs)) (l:∀ a vs,H a=some (.lst vs)->F a->H' a=some (.lst vs)/\G a) {v:V} {d:Dt} (h:A5 F H v d):A5 G H' v d:=by
 cases h with
 | non=>exact .non
 | bl b=>exact .bl b
 | int i=>exact .int i
 | str x=>exact .str x
 | tup h t=>exact .tup (e _ _ h) (Az.go e l t)
 | lst h f t=>exact .lst (l _ _ h f).1 (l _ _ h f).2 (Az.go e l t)
theorem Az.go {F G:Addr->Prop}{H H':Hp} (e:∀ a vs,H a=some (.tup vs)->H' a=some (.tup vs)) (l:∀ a vs,H a=some (.lst vs)->F a->H' a=some (.lst vs)/\G a) {vs:List V} {b:List Dt} (h:Az F H vs b):Az G H' vs b:=by
 cases h with
 | nil=>exact .nil
 | cons h t=>exact .cons (A5.go e l h) (Az.go e l t)
end
mutual
theorem A5.dt {K:Ai}{F:Addr->Prop}{H:Hp}{v:V}{d:Dt} (h:A5 F H v d):Aq K H v d:=by
 cases h with
 | non=>exact .non
 | bl b=>exact .bl b
 | int i=>exact .int i
 | str x=>exact .str x
 | tup h t=>exact .tup (Ao.of h) (Az.dts t)
 | lst h f t=>exact .lst (Ag.of h) (Az.dts t)
theorem Az.dts {K:Ai}{F:Addr->Prop}{H:Hp}{vs:List V}{a:List Dt} (h:Az F H vs a):Am K H vs a:=by
 cases h with
 | nil=>exact .nil
 | cons h t=>exact .cons (A5.dt h) (Az.dts t)
end
section
variable {F G M:Addr->Prop} {H H':Hp} {v:V} {d:Dt} {vs us:List V} {ds es:List Dt}
def A5.same(s:Ac H H')(h:A5 F H v d):A5 F H' v d:=h.go (λζ ζ q=>s _ _ q) λζ ζ q f=>⟨s _ _ q,f⟩
def Az.same(s:Ac H H')(h:Az F H vs ds):Az F H' vs ds:=h.go (λζ ζ q=>s _ _ q) λζ ζ q f=>⟨s _ _ q,f⟩
def A5.keeps(k:Keeps M H H')(a:∀x,F x->¬M x)(h:A5 F H v d):A5 F H' v d:=h.go (λζ ζ q=>k.tup q) λζ ζ q f=>⟨k.at_ _ _ q (a _ f),f⟩
def Az.keeps(k:Keeps M H H')(a:∀x,F x->¬M x)(h:Az F H vs ds):Az F H' vs ds:=h.go (λζ ζ q=>k.tup q) λζ ζ q f=>⟨k.at_ _ _ q (a _ f),f⟩
def A5.mono(e:∀x o,H x=some o->F x->G x)(h:A5 F H v d):A5 G H v d:=h.go (λζ ζ q=>q) λζ ζ q f=>⟨q,e _ _ q f⟩
def Az.mono(e:∀x o,H x=some o->F x->G x)(h:Az F H vs ds):Az G H vs ds:=h.go (λζ ζ q=>q) λζ ζ q f=>⟨q,e _ _ q f⟩
theorem Az.length:∀{vs:List V}{ds:List Dt},Az F H vs ds->vs.length=ds.length
 |_,_,.nil=>rfl
 |_,_,.cons _ t=>by rw[Er,Er,Az.length t]
theorem Az.snoc:∀{vs:List V}{ds:List Dt},Az F H vs ds->A5 F H v d->Az F H (vs++[v]) (ds++[d])
 |_,_,.nil,h=>.cons h .nil
 |_,_,.cons a t,h=>.cons a (Az.snoc t h)
theorem Az.get:∀{vs:List V}{ds:List Dt}{i:Nat}{v:V},Az F H vs ds->vs[i]?=some v->∃d,ds[i]?=some d/\A5 F H v d
 |_,_,i,v,.nil,e=>by simp at e
 |_,_,0,v,.cons a t,e=>by simp at e;subst e;exact⟨_,rfl,a⟩
 |_,_,i+1,v,.cons a t,e=>by
   obtain⟨d,b,c⟩:=Az.get (i:=i) t (by simpa using e);exact⟨d,by simpa using b,c⟩
theorem Az.of_all{α:Type}{f:α->V}{g:α->Dt}:∀{l:List α},(∀x∈l,A5 F H (f x) (g x))->Az F H (l.map f) (l.map g)
 |[],_=>.nil
 |x::l,h=>.cons (h x A3) (Az.of_all λy a=>h y (Ce _ a))
end
theorem SN{α:Type}{f:α->List V}{D:α->Dt}{F:Addr->Prop}{H:Hp}(d:∀(r:α)(t:Addr),H t=some (.tup (f r))->A5 F H (.ref t) (D r)):∀{ts:List Addr}{c:List α},RT f H ts c->Az F H (ts.map V.ref) (c.map D)
 |[],[],_=>.nil
 |[],_::_,h=>by have:=h.len;simp at this
 |_::_,[],h=>by have:=h.len;simp at this
 |t::ts,r::c,h=>.cons (d r t (h.at_ 0 t r rfl rfl)) (SN d ⟨by simpa using h.len,λn a b e g=>h.at_ (n+1) a b (by simpa using e) (by simpa using g)⟩)
variable {F:Addr->Prop}
def HH(r:Ar)(t:Addr)(h:H t=some (.tup (GP r))):A5 F H (.ref t) (Px r):=.tup h (.cons (.int _) (.cons (.str _) (.cons (.int _) .nil)))
def CL.own{t:Addr}(h:CL F H t w):A5 F H (.ref t) (CP.D w):=by
 obtain⟨d,a,b,c⟩:=h;exact .lst a c (SN HH b)
variable {b:AJ}
def DI.own{t:Addr}(h:DI F H t b):A5 F H (.ref t) (DO.D b):=by
 obtain⟨l,f,a,c,d,e⟩:=h;exact .tup a (.cons (.lst c e (SN HH d)) (.cons (.int _) (.cons (.int _) .nil)))
def Jz (ss:List AY) (m:Ar):Ef:=match ss[m.1.toNat]? with
 |some s=>(match s.2[m.2.2.toNat]? with
   |some p=>p
   |none=>default)
 |none=>default
def VY{s:AY}{p:Ef}(a:m.1=(n:Int))(b:m.2.2=(k:Int))(c:ss[n]?=some s)(d:s.2[k]?=some p):Jz ss m=p:=by
 unfold Jz;rw[a,b,BK,BK,c];dsimp only;rw[d]
def Ch (ss:List AY) (w:List Ar):Ef:=match w.getLast? with
 |some m=>Jz ss m
 |none=>default
def DU (ss:List AY) (w:List Ar):Prop:=∃(v:List Ar)(m:Ar),w=v++[m]/\EB ss m/\m.2.1=("told" : Str)
def PX(ss:List AY)(v:List Ar)(m:Ar):Ch ss (v++[m])=Jz ss m:=by
 unfold Ch;rw[List.getLast?_concat]
def FX (W:Wd) (w:List Ar):Option Int:=if(Ch W.ss w).2.2.1=("by" : Str)/\W.as[(Ch W.ss w).2.2.2.toNat]?=some none then some (Ch W.ss w).2.2.2 else none
def Fy (W:Wd):List (List Ar)->Option Ow
 |[]=>none
 |w::ws=>match FX W w with
   |some q=>some (w,q)
   |none=>Fy W ws
def Bs (W:Wd) (w:List Ar):Option Int:=if(Ch W.ss w).2.2.1=("thing" : Str) then some (Ch W.ss w).2.2.2 else match W.as[(Ch W.ss w).2.2.2.toNat]? with
 |some (some p)=>if p.1=("thing" : Str) then some p.2 else none
 |_=>none
noncomputable def FJ (ss:List AY) (ord:A') (ws:List (List Ar)):List Ow->Option Ow
 |[]=>none
 |o::os=>if(ws.any λv=>DR ss ord v o.1)=true then FJ ss ord ws os else some o
abbrev Wt:Type:=Int×List Ar×Int
abbrev LO:Option Wt->Dt
 |none=>.non
 |some p=>.tup [.int p.1,CP.D p.2.1,.int p.2.2]
noncomputable def FY (W:Wd) (ord:A') (ws:List (List Ar)) (os:List Ow):Option Ow:=match FJ W.ss ord ws os with
 |some o=>some o
 |none=>Fy W (DT W.ss ord ws ws)
def CQ (W:Wd) (C:List (List Ar)) (at_:Int):Str×Int:=if ∀w∈C,Bs W w=none then("none",at_) else match C with
 |[]=>("none",at_)
 |w::_=>(match Bs W w with
   |some n=>if ∀v∈C,Bs W v=some n then("thing",n) else("torn",at_)
   |none=>("torn",at_))
noncomputable def Cu (W:Wd) (ord:A') (ws:List (List Ar)) (os:List Ow) (at_:Int):C'×Option Wt:=match FY W ord ws os with
 |some o=>(none,some (at_,o.1,o.2))
 |none=>(some (CQ W (DT W.ss ord ws ws) at_),none)
variable {W:Wd}{os:List Ow}{at_:Int}{o:Ow}
def Od{ws:List (List Ar)}(h:FY W ord ws os=some o):Cu W ord ws os at_=(none,some (at_,o.1,o.2)):=by unfold Cu;rw[h]
def LP{ws:List (List Ar)}(h:FY W ord ws os=none):Cu W ord ws os at_=(some (CQ W (DT W.ss ord ws ws) at_),none):=by unfold Cu;rw[h]
def Ze{ws:List (List Ar)}(h:FY W ord ws os=none):Fy W (DT W.ss ord ws ws)=none:=by
 unfold FY at h
 cases e:FJ W.ss ord ws os with
 |some o=>rw[e] at h;cases h
 |none=>rw[e] at h;exact h
variable {C:List (List Ar)}
def SO(h:∀w∈C,Bs W w=none):CQ W C at_=(("none" : Str),at_):=An h
def SQ{r:List (List Ar)}(h:¬∀v∈w::r,Bs W v=none)(k:¬∀v∈w::r,Bs W v=Bs W w):CQ W (w::r) at_=(("torn" : Str),at_):=by
 unfold CQ;rw[Al h];dsimp only
 cases e:Bs W w with
 |none=>rfl
 |some n =>
   rw[e] at k;exact Al k
def SS{r:List (List Ar)}(h:¬∀v∈w::r,Bs W v=none)(k:∀v∈w::r,Bs W v=Bs W w):∃n,Bs W w=some n/\CQ W (w::r) at_=(("thing" : Str),n):=by
 cases e:Bs W w with
 |none=>exact absurd (λv a=>by rw[k v a,e]) h
 |some n =>
   refine⟨n,rfl,?_⟩;unfold CQ;rw[Al h];dsimp only;rw[e];exact An λv a=>by rw[k v a,e]
def VZ{a b:Option Int}(h:Eg a=Eg b):a=b:=by
 cases a<;>cases b<;>first|rfl|(cases h;rfl)|cases h
def JA{a:Option Int}:Eg a=.non↔a=none:=⟨λh=>VZ (b:=none) h,λh=>by rw[h];rfl⟩
def Zf(a b:Option Int):Lh (Eg a) (Eg b)=true:=by cases a<;>cases b<;>rfl
def FZ:(((l.map λw=>Eg (Bs W w)).map λv=>decide (v=V.non)).all id=true)↔∀w∈l,Bs W w=none:=by
 simp only[List.all_map,List.all_eq_true,Function.comp,id,decide_eq_true_eq,JA]
def HI:(((l.map λw=>Eg (Bs W w)).map λv=>!decide (v=Eg (Bs W w))).any id=true)↔¬∀v∈l,Bs W v=Bs W w:=by
 simp only[List.any_map,Kh,Function.comp,id,Bool.not_eq_true',decide_eq_false_iff_not];refine⟨λ⟨v,a,b⟩h=>b (by rw[h v a]),λh=>?_⟩;refine Classical.byContradiction λn=>h λv c=>?_;exact Classical.byContradiction λm=>n ⟨v,c,λz=>m (VZ z)⟩
abbrev Lk:Type:=List AJ×List (List Ar)×List (List Ar)
abbrev JB (l:Lk):Dt:=.tup [.lst (l.1.map DO.D),.lst (l.2.1.map CP.D),.lst (l.2.2.map CP.D)]
structure Cv (W:Wd) (ord:A') (sc st:Int) (x:Str) (l:Lk) (os:List Ow):Prop where
 b:DP W sc st l.1
 f:MQ W x l.1 l.2.1
 s:l.2.2=DT W.ss ord l.2.1 l.2.1
 o:N5 W l.1 os
abbrev EC (W:Wd) (n:Int):Str×Int:=match W.gs[n.toNat]? with
 |some p=>Eo W.gs W.as p
 |none=>("no",0)
inductive LU (W:Wd) (inn:Int) (ord:A'):Int->Int->List Str->Int->C'->Option Wt->List Lk->List Int->Prop where
 |stop {sc st:Int} {x:Str} {r:List Str} {at_:Int} {l:Lk} {os:List Ow} {a:C'} {w:Option Wt} (h:Cv W ord sc st x l os) (e:Cu W ord l.2.1 os at_=(a,w)) (n:(∀k,a≠some (("thing" : Str),k))\/r=[]):LU W inn ord sc st (x::r) at_ a w [l] []
 |opn {sc st:Int} {x y:Str} {r:List Str} {at_:Int} {l:Lk} {os:List Ow} {n q:Int} {w:Option Wt} (h:Cv W ord sc st x l os) (e:Cu W ord l.2.1 os at_=(some (("thing" : Str),n),w)) (i:EC W n=(("open" : Str),q)):LU W inn ord sc st (x::y::r) at_ none (some (at_,[],q)) [l] [n]
 |no {sc st:Int} {x y:Str} {r:List Str} {at_:Int} {l:Lk} {os:List Ow} {n q:Int} {w:Option Wt} (h:Cv W ord sc st x l os) (e:Cu W ord l.2.1 os at_=(some (("thing" : Str),n),w)) (i:EC W n=(("no" : Str),q)):LU W inn ord sc st (x::y::r) at_ (some ("none",at_+1)) none [l] [n]
 |go {sc st:Int} {x y:Str} {r:List Str} {at_:Int} {l:Lk} {os:List Ow} {n q:Int} {w w':Option Wt} {a:C'} {ls:List Lk} {ts:List Int} (h:Cv W ord sc st x l os) (e:Cu W ord l.2.1 os at_=(some (("thing" : Str),n),w)) (i:EC W n=(("to" : Str),q)) (k:LU W inn ord q inn (y::r) (at_+1) a w' ls ts):LU W inn ord sc st (x::y::r) at_ a w' (l::ls) (n::ts)
variable {sc st:Int}{x:Str}
def V0(ok:B9 W)(e:0<=sc/\sc<W.ss.length)(f:0<=st/\st<W.sts.length){bs:List AJ}(c:DP W sc st bs)(a:w∈DQ W x bs):DU W.ss w:=by
 have d:=(Sy ok e f c a).1;obtain⟨b,g,j,q,h,_,_,rfl⟩:=Ss a;exact⟨b.1,_,rfl,d _ (by simp),rfl⟩
def PY{all:List (List Ar)}(h:w∈DT ss ord all l):w∈l:=(Nc.mp h).1
def Oe(c:BJ W)(h:DU W.ss w):Ey W.gs.length W.as.length (Ch W.ss w):=by
 obtain⟨v,m,rfl,⟨n,k,s,d,f,a,g⟩,i⟩:=h;rcases g with⟨e,_⟩|⟨_,b⟩;exact absurd (i.symm.trans e) Sv;rw[PX,VY d f a (AC b)];exact c.tl s (Bi a) _ (Ed b)
def V1{l:Addr}{v:List Ar}(h:CL F H l (v++[m])):∃(a:List Addr)(t:Addr),H l=some (.lst (a.map V.ref))/\Bj (a.map V.ref) (-1)=some (.ref t)/\H t=some (.tup (GP m)):=by
 obtain⟨a,f,b,_⟩:=h;have g:=b.len;rw[AQ,Ec] at g;have d:v.length<a.length:=(by lia);have i:=AC d;refine⟨a,a[v.length],f,?_,b.at_ v.length _ m i (by simp)⟩
 have e:a.map V.ref=(a.take v.length).map V.ref++[V.ref a[v.length]]:=by
  have:a=a.take v.length++[a[v.length]]:=by
   have c:=List.take_append_drop v.length a;rw[Mv d,List.drop_eq_nil_of_le (by lia)] at c;exact c.symm
  conv=>lhs;rw[this]
  rw[Bh];rfl
 rw[e];exact Sr _ _
def SU (F:Addr->Prop) (H:Hp) (v:V):Option Ow->Prop
 |none=>v=.non
 |some o=>∃p l,v=.ref p/\H p=some (.tup [.ref l,.int o.2])/\CL F H l o.1
def FI.way{t:Addr}{p:Ow}(h:FI F H t p):∃l,H t=some (.tup [.ref l,.int p.2])/\CL F H l p.1:=by
 obtain⟨l,a,b,c,d,e⟩:=h;exact⟨l,b,a,c,d,e⟩
variable {α:Type}
def SV{l:List α}{x:α}(h:l[i]?=some x):l.drop i=x::l.drop (i+1):=by
 obtain⟨a,rfl⟩:=Bf.mp h;exact Mv a
def Zg{ws:List (List Ar)}(h:(ws.any λv=>DR ss ord v o.1)=false):FJ ss ord ws (o::os)=some o:=by
 unfold FJ;rw[h,Al C3]
def Zh{ws:List (List Ar)}(h:(ws.any λv=>DR ss ord v o.1)=true):FJ ss ord ws (o::os)=FJ ss ord ws os:=by
 conv=>lhs;unfold FJ
 rw[h,An rfl]
variable {q:Int}
def V2{ws:List (List Ar)}(h:FX W w=some q):Fy W (w::ws)=some (w,q):=by
 unfold Fy;rw[h]
def SW{ws:List (List Ar)}(h:FX W w=none):Fy W (w::ws)=Fy W ws:=by
 conv=>lhs;unfold Fy
 rw[h]
theorem V3{W:Wd}:∀{ws:List (List Ar)},Fy W ws=none->∀w∈ws,FX W w=none
 |[],_,w,h=>by cases h
 | x :: ws,e,w,h=>by
   cases ex:FX W x with
   |some q=>rw[V2 ex] at e;cases e
   |none =>
     rw[SW ex] at e;rcases BO.mp h with rfl|h;exact ex;exact V3 e w h
def A5.two{m:Addr}{d e:Dt}(h:A5 F H (.ref m) (.tup [d,e])):∃x y,H m=some (.tup [x,y])/\A5 F H x d/\A5 F H y e:=by
 cases h with
 | tup h t =>
   cases t with
   |cons a t =>
     cases t with
     |cons b t =>
       cases t with
       |nil=>exact⟨_,_,h,a,b⟩
def A5.ansN(h:A5 F H v (B7 none)):v=.non:=by cases h;rfl
def A5.ansS{p:Str×Int}(h:A5 F H v (B7 (some p))):∃t,v=.ref t/\H t=some (.tup [.str p.1,.int p.2]):=by
 have c:A5 F H v (.tup [.str p.1,.int p.2]):=h
 cases v with
 |ref m =>
   obtain⟨x,y,e,a,b⟩:=c.two;cases a;cases b;exact⟨m,rfl,e⟩
 |_=>cases c
def PZ:("none" : Str)≠("thing" : Str):=by decide +kernel
def SX:("torn" : Str)≠("thing" : Str):=by decide +kernel
set_option tactic.hygienic true in
def Zi{n:Int}(h:CQ W C at_=(("thing" : Str),n)):∃w∈C,Bs W w=some n:=by
 unfold CQ at h;split at h;exact absurd (BR Prod.fst h) PZ;split at h;exact absurd (BR Prod.fst h) PZ;rename_i w r _;split at h;rename_i m a;split at h;refine⟨w,A3,?_⟩;have e:m=n:=BR Prod.snd h;rw[a,e];exact absurd (BR Prod.fst h) SX;exact absurd (BR Prod.fst h) SX
set_option tactic.hygienic true in
def Zj(ok:B9 W)(b:BJ W)(c:DU W.ss w){n:Int}(h:Bs W w=some n):0<=n/\n<W.gs.length:=by
 have d:=Oe b c;unfold Bs at h;split at h;rename_i f;have e:=B2 h;rcases d with⟨_,g⟩|⟨a,_⟩;rw[<-e];exact g;rw[f] at a;exact absurd a (by decide +kernel);split at h;rename_i p i;split at h;rename_i j;rw[<-B2 h];exact ok.an p (Bi i) j;cases h;cases h
def Of(ok:B9 W)(a:BJ W){ws:List (List Ar)}{n:Int}{w:Option Wt}(b:∀w∈ws,DU W.ss w)(h:Cu W ord ws os at_=(some (("thing" : Str),n),w)):0<=n/\n<W.gs.length:=by
 unfold Cu at h;split at h;cases BR Prod.fst h;obtain⟨w,c,d⟩:=Zi (B2 (BR Prod.fst h));exact Zj ok a (b w (PY c)) d
def Zk(b:List (Str×Int))(a:List (C'))(q:Int):(ES b a q).1=("to" : Str)\/(ES b a q).1=("open" : Str)\/(ES b a q).1=("no" : Str):=by
 unfold ES;split;split;split;split;exact .inl rfl;exact .inr (.inr rfl);exact .inr (.inr rfl);exact .inr (.inr rfl);exact .inr (.inl rfl);exact .inr (.inr rfl)
def Zl(b:List (Str×Int))(a:List (C'))(p:Str×Int):(Eo b a p).1=("to" : Str)\/(Eo b a p).1=("open" : Str)\/(Eo b a p).1=("no" : Str):=by
 unfold Eo;split;exact .inl rfl;split;exact Zk b a p.2;exact .inr (.inr rfl)
structure LC (K:Ai) (F:Addr->Prop) (H:Hp) (nt A t:Addr) (W:Wd) (qs:List Qu) (inn:Int) (ord:A'):Prop where
 net:∃(S T R:Addr)(us Gs Es ts qt:List Addr),H nt=some (.tup [.ref S,.ref T,.ref R])/\Fu H S T R us Gs Es ts qt W.ss W.gs qs
 ans:Iw K H A W.as
 tab:GA K F H t W.sts inn ord
structure KE (W:Wd) (qs:List Qu) (inn:Int) (ord:A'):Prop where
 ok:B9 W
 sm:BJ W
 ol:ord.length<=40
 irr:∀x,(x,x)∉ord
 inn:0<=inn/\inn<W.sts.length
 q:∀q∈qs,(0<=q.1/\q.1<W.ss.length)/\(0<=q.2.1/\q.2.1<W.sts.length)/\1<=q.2.2.length/\q.2.2.length<=8
def LC.same{K:Ai}{F:Addr->Prop}{H H':Hp}{a A t:Addr}{W:Wd}{d:List Qu}{f:Int}{ord:A'}(e:Ac H H')(h:LC K F H a A t W d f ord):LC K F H' a A t W d f ord:=by
 obtain⟨⟨S,T,R,g,i,j,k,l,m,n⟩,b,c⟩:=h;exact⟨⟨S,T,R,g,i,j,k,l,e _ _ m,n.same e⟩,b.same e,c.same e⟩
variable {inn:Int}
def LC.caseH{K:Ai}{a A t:Addr}{d:List Qu}(h:LC K F H a A t W d inn ord):Br K H a A t W:=by
 obtain⟨⟨S,T,R,e,f,g,i,j,k,l⟩,b,c⟩:=h;exact⟨⟨S,T,R,e,f,g,i,j,d,k,l⟩,b,c.caseT⟩
abbrev LQ (l:Lk):Dt:=.lst (l.2.2.map CP.D)
def A5.look{l:Lk}(h:A5 F H v (JB l)):∃t x y z,v=.ref t/\H t=some (.tup [x,y,z])/\A5 F H z (LQ l):=by
 cases h with
 | tup h t =>
   cases t with
   |cons a t =>
     cases t with
     |cons b t =>
       cases t with
       |cons c t =>
         cases t with
         |nil=>exact⟨_,_,_,_,rfl,h,c⟩
def A5.look'{t:Addr}{x y z:V}{l:Lk}(e:H t=some (.tup [x,y,z]))(h:A5 F H (.ref t) (JB l)):A5 F H z (LQ l):=by
 obtain⟨u,a,b,c,f,d,g⟩:=h.look;have:=V.ref.inj f;subst this;rw[e] at d;have i:=HO.tup.inj (B2 d);cases i;exact g
variable {a:C'}{ls:List Lk}{ts:List Int}
def HJ{p:List Str}{w:Option Wt}(h:LU W inn ord sc st p at_ a w ls ts):ls.length<=p.length:=by
 induction h with
 |stop=>simp
 |opn=>simp
 |no=>simp
 |go _ _ _ _ b=>simpa using b
def Dn:Nat->Dt->Prop
 |0,_=>False
 |_+1,.non=>True
 |_+1,.bl _=>False
 |_+1,.int _=>True
 |_+1,.str _=>True
 |n+1,.tup l=>∀d∈l,Dn n d
 |n+1,.lst l=>∀d∈l,Dn n d
structure EU (W:Wd):Prop where
 st:∀s∈W.ss,s.1.length<=8
 kst:∀s∈W.ss,∀p∈s.1,Ex W.ss.length W.as.length p
 kth:∀p∈W.gs,Ft W.ss.length W.as.length p
 an:∀p,some p∈W.as->p.1=("thing" : Str)->0<=p.2/\p.2<W.gs.length
 go:∀s∈W.sts,∀p∈s.1,0<=p.2/\p.2<W.sts.length
def V4(h:EU W){k:Str×Int}(c:k∈W.gs)(b:k.1=("part" : Str)):0<=k.2/\k.2<W.ss.length:=by
 rcases h.kth k c with⟨a,_⟩|⟨_,d⟩|⟨a,_⟩;rw[b] at a;exact absurd a (by decide +kernel);exact d;rw[b] at a;exact absurd a (by decide +kernel)
set_option tactic.hygienic true in
def Zm(h:EU W){g:Str×Int}(e:ES W.gs W.as q=g)(a:g.1=("to" : Str)):0<=g.2/\g.2<W.ss.length:=by
 unfold ES at e;split at e;split at e;split at e;rename_i k b;split at e;rename_i c;subst e;exact V4 (k:=k) h (Bi b) c;subst e;exact absurd a Gb;subst e;exact absurd a Gb;subst e;exact absurd a Gb;subst e;exact absurd a Pu;subst e;exact absurd a Gb
set_option tactic.hygienic true in
def Zn(h:EU W){p:Str×Int}(b:p∈W.gs){g:Str×Int}(e:Eo W.gs W.as p=g)(a:g.1=("to" : Str)):0<=g.2/\g.2<W.ss.length:=by
 unfold Eo at e;split at e;rename_i c;subst e;exact V4 (k:=p) h b c;split at e;exact Zm h e a;subst e;exact absurd a Gb
set_option tactic.hygienic true in
def Zo(h:EU W){s:AY}(c:s∈W.ss){p:Ck}(d:p∈s.1){g:Str×Int}(e:DH W.gs W.as p=g)(a:g.1=("to" : Str)):0<=g.2/\g.2<W.ss.length:=by
 unfold DH at e;split at e;rename_i j;subst e;rcases h.kst s c p d with⟨_,f⟩|⟨b,_⟩;exact f;rw[j] at b;exact absurd b (by decide +kernel);split at e;split at e;split at e;rename_i k i;exact Zn h (Bi i) e a;subst e;exact absurd a Gb;subst e;exact absurd a Gb;subst e;exact absurd a Pu;subst e;exact absurd a Gb
def Ca.kid0(ok:EU W){c:AJ}(h:Ca W b)(k:c∈B4 W b):Ca W c:=by
 obtain⟨r,e,g,i,rfl⟩:=Be.mp k;have f:=Vy e;obtain⟨j,p,a,l,m,rfl⟩:=MO e;obtain⟨s,n,o⟩:=Vw (Bi l);refine⟨?_,?_,?_⟩;rw[f,List.nodup_append]
 exact⟨h.nd,by simp,λx d y q=>by
  rw[AR.mp q]
  exact λz=>i (z▸d)⟩
 rw[f];intro x d;rcases BB.mp d with d|d;exact h.rng x d;rw[AR.mp d];exact Zo ok n o rfl g;obtain⟨t,u,v⟩:=Vx (So m);exact ok.go t u _ v
def AS.ok0(ok:EU W)(d:0<=sc/\sc<W.ss.length)(e:0<=st/\st<W.sts.length)(h:AS W sc st b):Ca W b:=by
 induction h with
 |root=>exact⟨by simp[AM],λx a=>by simp[AM] at a;rw[a];exact d,e⟩
 |kid _ k c=>exact c.kid0 ok k
def EV (W:Wd) (sc st:Int):Nat->List AJ
 |0=>[([],sc,st)]
 |d+1=>(EV W sc st d).flatMap (B4 W)
def Zp(h:AS W sc st b):b∈EV W sc st b.1.length:=by
 induction h with
 |root=>exact A3
 |@kid a c h k d =>
   obtain⟨r,_,_,_,rfl⟩:=Be.mp k;show _∈EV W sc st (a.1++[r.1]).length;rw[AQ,Ec];exact List.mem_flatMap.mpr ⟨a,d,k⟩
variable {B:Nat}
set_option tactic.hygienic true in
def V5(h:∀s∈W.ss,s.1.length<=B)(sc:Int):(BM W sc).length<=B:=by
 unfold BM;split;rename_i s a;exact h s (Bi a);exact Df _
theorem V6{W:Wd}{B:Nat}(h:∀s∈W.ss,s.1.length<=B)(sc st:Int):∀d,(EV W sc st d).length<=B ^ d
 |0=>by show 1<=_;rw[Nat.pow_zero];exact AG _
 |d+1=>by
   have a:((EV W sc st d).flatMap (B4 W)).length<=(EV W sc st d).length*B:=Su _ λb=>DY (Vu W b) (V5 h _);have c:=Nat.mul_le_mul_right B (V6 h sc st d);rw[Nat.pow_succ];exact DY a c
def Iy (B:Nat):Nat->Nat
 |0=>0
 |n+1=>Iy B n+B ^ n
theorem V7{α:Type} [DecidableEq α]:∀{F l:List α},F.Nodup->(∀x∈F,x∈l)->F.length<=l.length
 |[],_,_,_=>Df _
 |x::F,l,c,h=>by
   have a:=h x A3;obtain⟨d,f⟩:=Gr.mp c
   have:=V7 (l:=l.erase x) f λy b=>by
    have g:y≠x:=λe=>d (e▸b);exact(List.mem_erase_of_ne g).mpr (h y (Ce _ b))
   rw[List.length_erase_of_mem a] at this;have i:0<l.length:=List.length_pos_of_mem a;rw[Er];lia
theorem V8{W:Wd}{B:Nat}(h:∀s∈W.ss,s.1.length<=B)(sc st:Int):∀n,((List.range n).flatMap (EV W sc st)).length<=Iy B n
 |0=>AG _
 |n+1=>by
   rw[List.range_succ,List.flatMap_append,AQ];have a:=V8 h sc st n;have b:=V6 h sc st n;have c:([n].flatMap (EV W sc st)).length=(EV W sc st n).length:=(by simp);show _<=Iy B n+B ^ n;lia
def HK(ok:EU W)(h:∀s∈W.ss,s.1.length<=B)(sc st:Int)(F:List AJ)(g:0<=sc/\sc<W.ss.length)(i:0<=st/\st<W.sts.length)(e:F.Nodup)(a:∀b∈F,AS W sc st b):F.length<=Iy B W.ss.length:=by
 refine DY (V7 (l:=(List.range W.ss.length).flatMap (EV W sc st)) e λb c=>?_) (V8 h sc st _);have d:=(a b c).ok0 ok g i;have f:=Kz W.ss.length (AM b) d.nd d.rng;rw[show(AM b).length=b.1.length+1 by unfold AM;simp] at f;exact List.mem_flatMap.mpr ⟨b.1.length,List.mem_range.mpr (by lia),Zp (a b c)⟩
theorem SY{α:Type}{f:AJ->List α}{k:Nat}:∀(bs:List AJ),(∀b∈bs,(f b).length<=k)->(bs.flatMap f).length<=bs.length*k
 |[],_=>by simp
 |b::bs,h=>by
   rw[List.flatMap_cons,AQ,Er,Nat.succ_mul];have:=h b A3;have:=SY bs λc a=>h c (Ce _ a);lia
set_option tactic.hygienic true in
def V9(ok:EU W)(h:∀s∈W.ss,s.1.length<=B)(e:W.ss.length<=100)(i:Iy B W.ss.length*max 2 B<=62)(k:∀s∈W.ss,s.2.length<=2)(l:∀s∈W.ss,∀p∈s.2,Ey W.gs.length W.as.length p):B9 W/\BJ W:=by
 have q:Iy B W.ss.length*2<=62:=DY (Nat.mul_le_mul_left _ (Nat.le_max_left _ _)) i;have r:Iy B W.ss.length*B<=62:=DY (Nat.mul_le_mul_left _ (Nat.le_max_right _ _)) i;have j:∀(sc st:Int)(bs:List AJ),(0<=sc/\sc<W.ss.length)->(0<=st/\st<W.sts.length)->DP W sc st bs->bs.length<=Iy B W.ss.length:=λsc st bs a c d=>HK ok h sc st bs a c d.nd λb f=>(d.mem b).mp f;refine⟨⟨e,ok.st,ok.kst,ok.kth,ok.an,ok.go,λsc st F a c m n=>?_⟩,⟨l,λx sc st bs a c d=>?_,λsc st bs a c d=>?_⟩⟩;have:=HK ok h sc st F a c m n;lia;have g:=j sc st bs a c d
 have o:(DQ W x bs).length<=bs.length*2:=SY _ λb f=>DY (VC W b x _ 0) (by
  unfold FV;split;rename_i s e;exact k s (Bi e)
  exact Df _)
 have:=Nat.mul_le_mul_right 2 g;lia;have g:=j sc st bs a c d;have o:(FH W bs).length<=bs.length*B:=SY _ λb f=>DY (List.length_filterMap_le _ _) (DY (LF _ _ _ _ _) (V5 h _));have:=Nat.mul_le_mul_right B g;lia
def P0{l m:Lk}{a:List Ow}(h:Cv W ord sc st x l os)(k:Cv W ord sc st x m a):l=m/\os=a:=by
 have b:=h.b.uniq k.b;have c:=h.f;have d:=h.o;rw[b] at c d;have e:=c.uniq k.f;have f:l.2.2=m.2.2:=(by rw[h.s,k.s,e]);exact⟨Prod.ext b (Prod.ext e f),d.uniq k.o⟩
def LU.inv{r:List Str}{w:Option Wt}(k:LU W inn ord sc st (x::r) at_ a w ls ts):∃l os,Cv W ord sc st x l os /\
 (∀b d,Cu W ord l.2.1 os at_=(b,d)->((∀k,b≠some (("thing" : Str),k))\/r=[])->b=a/\d=w/\ls=[l]/\ts=[]) /\
 ∀n d,Cu W ord l.2.1 os at_=(some (("thing" : Str),n),d)->r≠[]->∀s q,EC W n=(s,q)->(s=("open" : Str)->a=none/\w=some (at_,[],q)/\ls=[l]/\ts=[n])/\(s=("no" : Str)->a=some (("none" : Str),at_+1)/\w=none/\ls=[l]/\ts=[n])/\(s=("to" : Str)->∃p t,LU W inn ord q inn r (at_+1) a w p t/\ls=l::p/\ts=n::t):=by
 have g:("open" : Str)≠("no" : Str):=(by decide +kernel);have j:("open" : Str)≠("to" : Str):=(by decide +kernel);have o:("no" : Str)≠("to" : Str):=(by decide +kernel)
 cases k with
 |stop h e n=>exact⟨_,_,h,λb d c ζ=>(by rw[e] at c;cases c;exact⟨rfl,rfl,rfl,rfl⟩),λm d c u=>(by rw[e] at c;cases c;exact(n.elim (λn=>n _ rfl) u).elim)⟩
 |opn h e i=>exact⟨_,_,h,λb d c n=>(by rw[e] at c;cases c;exact(n.elim (λn=>n _ rfl) nofun).elim),λm d c ζ s q f=>(by rw[e] at c;cases c;rw[i] at f;cases f;exact⟨λζ=>⟨rfl,rfl,rfl,rfl⟩,λz=>absurd z g,λz=>absurd z j⟩)⟩
 |no h e i=>exact⟨_,_,h,λb d c n=>(by rw[e] at c;cases c;exact(n.elim (λn=>n _ rfl) nofun).elim),λm d c ζ s q f=>(by rw[e] at c;cases c;rw[i] at f;cases f;exact⟨λz=>absurd z.symm g,λζ=>⟨rfl,rfl,rfl,rfl⟩,λz=>absurd z o⟩)⟩
 |go h e i k=>exact⟨_,_,h,λb d c n=>(by rw[e] at c;cases c;exact(n.elim (λn=>n _ rfl) nofun).elim),λm d c ζ s q f=>(by rw[e] at c;cases c;rw[i] at f;cases f;exact⟨λz=>absurd z.symm j,λz=>absurd z.symm o,λζ=>⟨_,_,k,rfl,rfl⟩⟩)⟩
def Og{p:List Str}{w:Option Wt}(h:LU W inn ord sc st p at_ a w ls ts):∀{d:C'}{f:Option Wt}{g:List Lk}{j:List Int},LU W inn ord sc st p at_ d f g j->a=d/\w=f/\ls=g/\ts=j:=by
 induction h with
 |stop h e n =>
   intro d f g j k;obtain⟨l,os,b,c,_⟩:=k.inv;obtain⟨rfl,rfl⟩:=P0 h b;obtain⟨rfl,rfl,rfl,rfl⟩:=c _ _ e n;exact⟨rfl,rfl,rfl,rfl⟩
 |opn h e i =>
   intro d f g j k;obtain⟨l,os,b,_,c⟩:=k.inv;obtain⟨rfl,rfl⟩:=P0 h b;obtain⟨rfl,rfl,rfl,rfl⟩:=(c _ _ e nofun _ _ i).1 rfl;exact⟨rfl,rfl,rfl,rfl⟩
 |no h e i =>
   intro d f g j k;obtain⟨l,os,b,_,c⟩:=k.inv;obtain⟨rfl,rfl⟩:=P0 h b;obtain⟨rfl,rfl,rfl,rfl⟩:=(c _ _ e nofun _ _ i).2.1 rfl;exact⟨rfl,rfl,rfl,rfl⟩
 |go h e i u m =>
   intro d f g j k;obtain⟨l,os,b,_,c⟩:=k.inv;obtain⟨rfl,rfl⟩:=P0 h b;obtain⟨_,_,o,rfl,rfl⟩:=(c _ _ e nofun _ _ i).2.2 rfl;obtain⟨q,r,s,t⟩:=m o;exact⟨q,r,by rw[s],by rw[t]⟩
section
variable {ss:List AY} {ord:A'}
end
section
variable {ths:List (Str×Int)} {as as':List (C')}
end
abbrev Wd.late (W:Wd) (as':List (C')):Wd:=⟨W.ss,W.gs,as',W.sts⟩
section
variable {W:Wd} {as':List (C')} {sc st:Int}
end
section
variable {W:Wd} {sc st:Int}
end
section
variable {W:Wd} {as':List (C')} {ord:A'} {sc st:Int}
def Zq:∀{C:List (List Ar)}(at_:Int),(∀w∈C,Bs (W.late as') w=Bs W w)->CQ (W.late as') C at_=CQ W C at_:=λ{C}at_ h=>by
 by_cases c:∀w∈C,Bs W w=none;rw[SO c,SO λw b=>by rw[h w b];exact c w b]
 cases C with
 |nil=>exact absurd (λw b=>by cases b) c
 |cons w r =>
   have e:¬∀v∈w::r,Bs (W.late as') v=none:=λz=>c λv a=>by rw[<-h v a];exact z v a
   by_cases d:∀v∈w::r,Bs W v=Bs W w;have l:∀v∈w::r,Bs (W.late as') v=Bs (W.late as') w:=λv a=>by rw[h v a,h w A3];exact d v a
   obtain⟨n,g,i⟩:=SS (at_:=at_) c d;obtain⟨k,f,j⟩:=SS (at_:=at_) e l;rw[h w A3,g] at f;rw[i,j,B2 f];rw[SQ c d,SQ e λz=>d λv a=>by rw[<-h v a,<-h w A3];exact z v a]
def HL(ok:B9 W){n:Int}(b:0<=n/\n<W.gs.length)(h:EC W n=(("to" : Str),q)):0<=q/\q<W.ss.length:=by
 obtain⟨j,c⟩:=DL b.1;have a:j<W.gs.length:=(by lia);have d:EC W n=Eo W.gs W.as W.gs[j]:=by unfold EC;rw[c,BK,AC a]
 rw[d] at h;have:=Sq ok (Ed a) rfl (BR Prod.fst h);rw[BR Prod.snd h] at this;exact this
def MT(ok:B9 W)(c:0<=sc/\sc<W.ss.length)(d:0<=st/\st<W.sts.length){l:Lk}(a:Cv W ord sc st x l os):∀w∈l.2.1,DU W.ss w:=λw b=>V0 ok c d a.b (a.f.perm.mem_iff.mp b)
end
section
variable {ths:List (Str×Int)} {as:List (C')}
end
section
variable {W:Wd} {ord:A'} {sc st:Int}
end
def Gk (xs:Array Nat):Prop:=xs.toList.Pairwise (· < ·)
variable {xs:Array Nat}
def Gk.lt(h:Gk xs){a b:Nat}(e:a<b)(c:b<xs.size):xs.getD a 0<xs.getD b 0:=by
 have d:a<xs.size:=(by lia);have:=(List.pairwise_iff_getElem.mp h) a b (by simpa using d) (by simpa using c) e;rw[Array.getD_eq_getD_getElem?,Array.getD_eq_getD_getElem?,Array.getElem?_eq_getElem d,Array.getElem?_eq_getElem c];simpa using this
def Gk.le(h:Gk xs){a b:Nat}(d:a<=b)(c:b<xs.size):xs.getD a 0<=xs.getD b 0:=by
 rcases Nat.lt_or_eq_of_le d with e|e;exact C9 (h.lt e c);rw[e];exact AG _
def JC{d:Nat}(h:i<xs.size):xs.getD i d=xs.getD i 0:=by
 rw[Array.getD_eq_getD_getElem?,Array.getD_eq_getD_getElem?,Array.getElem?_eq_getElem h];rfl
theorem S0{xs:Array Nat}(e:Gk xs)(j:Nat):∀(b lo a:Nat),a<=xs.size->lo<=a->a-lo<=b->(∀i,i<lo->xs.getD i 0<j)->(∀i,a<=i->i<xs.size->j<=xs.getD i 0) ->
 SetTable.below.go xs j b lo a<=xs.size/\(∀i,i<SetTable.below.go xs j b lo a->xs.getD i 0<j)/\∀i,SetTable.below.go xs j b lo a<=i->i<xs.size->j<=xs.getD i 0
 |0,lo,a,f,m,n,g,h=>by
   have:lo=a:=(by lia);subst this;exact⟨f,g,h⟩
 |b+1,lo,a,f,m,n,g,h=>by
   unfold SetTable.below.go;by_cases c:lo<a;rw[An c];dsimp only;have k:(lo+a)/2<xs.size:=(by lia);rw[JC k];by_cases d:xs.getD ((lo+a)/2) 0<j;rw[An d];exact S0 e j b _ a f (by lia) (by lia) (λi l=>Nat.lt_of_le_of_lt (e.le (by lia) k) d) h;rw[Al d];exact S0 e j b lo _ (by lia) (by lia) (by lia) g (λi l o=>DY (Nat.le_of_not_lt d) (e.le l o));rw[Al c];have:lo=a:=(by lia);subst this;exact⟨f,g,h⟩
def S1(a:Gk xs)(j:Nat):SetTable.below xs j<=xs.size/\(∀i,i<SetTable.below xs j->xs.getD i 0<j)/\∀i,SetTable.below xs j<=i->i<xs.size->j<=xs.getD i 0:=
 S0 a j xs.size 0 xs.size (AG _) (Df _) (by lia) (λi h=>by lia) (λi b c=>by lia)
def Zr(a:Gk xs):SetTable.below xs 0=0:=by
 obtain⟨_,b,_⟩:=S1 a 0
 cases e:SetTable.below xs 0 with
 |zero=>rfl
 |succ n=>have:=b 0 (by lia);lia
variable {j:Nat}
def Zs(a:Gk xs)(h:xs[i]?=some j):SetTable.below xs (j+1)=i+1:=by
 obtain⟨f,b,d⟩:=S1 a (j+1);have e:i<xs.size:=(Array.getElem?_eq_some_iff.mp h).1;have g:xs.getD i 0=j:=by rw[Array.getD_eq_getD_getElem?,h];rfl
 rcases Nat.lt_trichotomy (SetTable.below xs (j+1)) (i+1) with c|c|c;have:=d i (by lia) e;lia;exact c;have k:=b (i+1) c;have l:xs.getD i 0<xs.getD (i+1) 0:=a.lt (QJ i) (show i+1<xs.size by lia);lia
def Zt(xs:Array α)(p:Nat)(x:α)(a:p<=xs.size):(SetTable.insertAt xs p x).toList=xs.toList.take p++[x]++xs.toList.drop p:=by
 unfold SetTable.insertAt;simp[Array.toList_extract];exact List.take_of_length_le (by simp)
def Zu(e:Gk xs)(n:xs[SetTable.below xs j]?≠some j):Gk (SetTable.insertAt xs (SetTable.below xs j) j):=by
 obtain⟨o,f,q⟩:=S1 e j;generalize SetTable.below xs j=p at o f q n;unfold Gk;rw[Zt xs p j o]
 have g:∀{i:Nat}(c:i<xs.toList.length),xs.toList[i]=xs.getD i 0:=λ{i}c=>by
  have m:i<xs.size:=(by simpa using c);rw[Array.getD_eq_getD_getElem?,Array.getElem?_eq_getElem m];simp
 refine List.pairwise_append.mpr ⟨List.pairwise_append.mpr ⟨e.sublist (List.take_sublist _ _),List.pairwise_singleton _ _,λa d b h=>?_⟩,e.sublist (List.drop_sublist _ _),λa d b h=>?_⟩;rw[AR.mp h];obtain⟨i,c,rfl⟩:=List.getElem_of_mem d;rw[E5] at c;rw[List.getElem_take,g (by lia)];exact f i (by lia);obtain⟨i,c,rfl⟩:=List.getElem_of_mem h;rw[Kg] at c;rw[List.getElem_drop,g (by lia)];have m:p+i<xs.size:=by simp at c;lia
 have s:j<xs.getD p 0:=by
  have l:p<xs.size:=(by lia);have:=q p (AG _) l;have ne:xs.getD p 0≠j:=λz=>n (by rw[Array.getElem?_eq_getElem l];rw[Array.getD_eq_getD_getElem?,Array.getElem?_eq_getElem l] at z;exact BR some z);lia
 have t:=e.le (show p<=p+i by lia) m;rcases BB.mp d with d|d;obtain⟨k,r,rfl⟩:=List.getElem_of_mem d;rw[E5] at r;rw[List.getElem_take,g (by lia)];have:=f k (by lia);lia;rw[AR.mp d];lia
structure GD (led:Bool) (t:SetTable):Prop where
 ris:Gk t.place
 dum:t.dummies=#[]
 led:t.led=led
theorem Wa{t:SetTable}{hashAt:Nat->Int}{h:Int}(hd:t.dummies=#[]):∀(a:Nat)(p:SetTable.Probe){j:Nat}{d:Option Nat},p.dummy=none->SetTable.probe.go t hashAt h a p=some (.empty j d)->t.slot j=.empty/\d=none
 |0,p,j,d,_,e=>by cases e
 |a+1,p,j,d,b,e=>by
   unfold SetTable.probe.go at e
   have l:∀q:SetTable.Probe,q.dummy=none->(t.advance q).dummy=none:=λq f=>by
    unfold SetTable.advance;split;exact f;exact f
   cases c:t.slot p.j with
   |empty=>rw[c] at e;cases e;exact⟨c,b⟩
   |dummy =>
     exfalso;have k:SetTable.has t.dummies p.j=false:=by rw[hd];unfold SetTable.has;simp
     unfold SetTable.slot at c;dsimp only at c;rw[k] at c;by_cases g:(t.place[SetTable.below t.place p.j]?==some p.j)=true;rw[An g] at c;cases c;rw[Al g] at c;cases c
   |live i =>
     rw[c] at e;dsimp only at e;split at e;cases e;exact Wa hd a _ (l p b) e
def Zv{t:SetTable}(h:t.slot j=.empty):t.place[SetTable.below t.place j]?≠some j:=λe=>by
 unfold SetTable.slot at h;simp only[e] at h;simp at h
variable {led:Bool}
def P1{t:SetTable}(h:GD led t)(n:Nat):GD led (t.standIn n):=⟨by
 show Gk (Array.range n);unfold Gk;rw[Array.toList_range]
 exact List.pairwise_lt_range,rfl,h.led⟩
def LR{t:SetTable}(h:GD led t)(a:t.slot j=.empty):GD led (t.put j).1:=by
 refine⟨Zu h.ris (Zv a),?_,h.led⟩;show(if SetTable.has t.dummies j then SetTable.eraseAt t.dummies (SetTable.below t.dummies j) else t.dummies)=#[];rw[h.dum]
 have:SetTable.has #[] j=false:=by unfold SetTable.has;simp
 rw[this];rfl
def Zw {t:SetTable} (h:GD led t) (es:Array (Int × Value)) (k:Int) (x:Value):GD led (layNew t es k x).2.1:=by
 unfold layNew
 cases e:t.freeSlot k with
 |none=>exact P1 h _
 | some r =>
   obtain⟨i,l⟩:=r;dsimp only
   have b:t.slot i=.empty:=by
    unfold SetTable.freeSlot at e
    cases c:t.probe (λζ=>k+1) k (t.probeStart k) with
    |none=>rw[c] at e;cases e
    |some m =>
      rw[c] at e
      cases m with
      |candidate=>cases e
      |empty j d =>
        obtain⟨f,g⟩:=Wa h.dum _ _ rfl c;subst g;cases e;exact f
   have a:=LR h b;unfold SetTable.orStandIn;split;exact a;exact P1 a _
def JD{e l k:Nat}{plain:Bool}{f:Array Int}{r:SetTable×Array Nat}(h:SetTable.laid e l k led plain f=some r):GD led r.1:=by
 unfold SetTable.laid at h
 cases c:SetTable.layClean e f with
 |none=>rw[c] at h;cases h
 |some owner =>
   rw[c] at h;cases h;refine⟨?_,rfl,rfl⟩;unfold Gk;dsimp only
   have:(List.map (λx=>x.1) (List.filterMap (λj=>Option.map (λx=>(j,x)) (owner.getD j none)) (List.range (e+1)))).Pairwise (· < ·):=by
    rw[List.pairwise_map];refine List.Pairwise.filterMap _ (λa b i c g d hd=>?_) (List.pairwise_lt_range (n:=e+1));obtain⟨x,_,rfl⟩:=F6.mp g;obtain⟨y,_,rfl⟩:=F6.mp hd;exact i
   exact this
def Zx{t:SetTable}(h:GD led t)(es:Array (Int×Value))(a:Nat):GD led (relayAll t es a).2.1:=by
 unfold relayAll
 cases c:t.relaid (es.map (·.1)) a with
 |none=>exact P1 h _
 |some r =>
   obtain⟨b,order⟩:=r;dsimp only;split;have:=JD c;rw[h.led] at this;exact this;exact P1 h _
section
variable {prog:Program} {w:World} {α:Type} [DecidableEq α] [BEq α] [LawfulBEq α]
def BZ (knd:KeyKind prog w α) (f:Bool) (hp:Heap) (D:Addr) (M:α->Bool) (n:Nat):Prop:=
 ∃(ob:Obj)(es:Array (Int×Value))(ep:Nat)(tb:SetTable),hp.get? D=some ob/\ob.ExactSet/\ob.data=.set es ep tb/\ElemsOf knd es.toList/\(∀y,M y=true↔∃e∈es.toList,knd.is y e.2=true)/\es.size<scanBound/\tb.fits es.size=true/\es.size=n/\GD f tb
variable {knd:KeyKind prog w α} {f:Bool} {A:Around} {E:D'} {s:Shared} {D:Addr}
variable {M:α->Bool}
def BZ.keep{a b:Heap}(x:BZ knd f a D M n)(k:∀ob,a.get? D=some ob->b.get? D=some ob):BZ knd f b D M n:=by
 obtain⟨ob,c,d,e,g,x⟩:=x;exact⟨ob,c,d,e,k _ g,x⟩
def BZ.cong{a:Heap}{b:α->Bool}{c:Nat}(x:BZ knd f a D M n)(d:∀y,b y=M y)(e:c=n):BZ knd f a D b c:=by
 obtain⟨g,h,i,j,k,l,m,o,p,q,r,s,t⟩:=x;exact⟨g,h,i,j,k,l,m,o,λy=>by rw[d];exact p y,q,r,by rw[e];exact s,t⟩
variable {tb:SetTable}
def LS(x:GD f tb):GD f {tb with plain:=false}:=⟨x.ris,x.dum,x.led⟩
def Wb{ob:Obj}{es a:Array (Int×Value)}{ep:Nat}{b:SetTable}(i:s.heap.get? D=some ob)(d:ob.ExactSet)(j:ob.data=.set es ep tb)(k:ElemsOf knd a.toList)(l:∀y,M y=true↔∃e∈a.toList,knd.is y e.2=true)(g:a.size<scanBound)(m:b.fits a.size=true)(o:GD f b){Q:Unit->Shared->Prop}
 (q:∀c,Heap.SameBut D s.heap c->(∃h,c.get? D=some h/\h.ExactSet/\h.data=.set a (ep+1) b)->BZ knd f c D M a.size->Q () {s with heap:=c}):wpAny (model prog w) A (storeSet D a b) Q E s:=by
 obtain⟨n,_⟩:=SetOf_store (knd:=knd) i d j k l g m;exact wpAny_storeSet_of i j (q _ (Heap.SameBut.update ..) ⟨_,n,d,rfl⟩ ⟨_,a,ep+1,b,n,d,rfl,k,l,g,m,rfl,o⟩) (fits_of_scanBound g)
def Wc{l:Array (Int×Value)}{m:List (Int×Value)}(p:l.toList.Perm m):l.size=m.length:=by rw[<-Array.length_toList,p.length_eq]
def S3(b:Bool){u:Shared}{Q:Unit->Shared->Prop}(q:Q () u):wpAny (model prog w) A (match b with|true=>rule "set.scan.the-table-gave-way"|false=>pure ()) Q E u:=by
 cases b;exact AB q;exact Im q
def We{ob:Obj}{es c:Array (Int×Value)}{ep:Nat}{d:SetTable}(v:s.heap.get? D=some ob)(x:ob.ExactSet)(z:ob.data=.set es ep tb)(j:ElemsOf knd c.toList)(k:∀y,M y=true↔∃e∈c.toList,knd.is y e.2=true)(l:c.size<scanBound)(B:d.fits c.size=true)(m:GD f d){C:Bool}{Q:Option Bool->Shared->Prop}
 {g:Bool->Sem Unit} (F:∀(b:Bool)(u:Shared)(n:Unit->Shared->Prop),n () u->wpAny (model prog w) A (g b) n E u)
 (q:∀h,Heap.SameBut D s.heap h->BZ knd f h D M c.size->Q (some true) {s with heap:=h}) :
 wpAny (model prog w) A (storeSet D c d >>= λζ=>if(!C && d.tooFull)=true then g (relayAll d c (SetTable.grown c.size)).2.2 >>= λζ=>storeSet D (relayAll d c (SetTable.grown c.size)).1 (relayAll d c (SetTable.grown c.size)).2.1 >>= λζ=>pure (some true) else pure (some true)) Q E s:=by
 refine Ad (Wb v x z j k l B m λh o⟨T,G,H,I⟩J=>?_);split;have i:=relayAll_perm d c (SetTable.grown c.size);have p:=relayAll_fits d c (SetTable.grown c.size);have r:=Zx m c (SetTable.grown c.size);generalize relayAll d c (SetTable.grown c.size)=K at i p r;obtain⟨L,R,S⟩:=K;have t:L.size=c.size:=(Wc i).trans (Array.length_toList ..);refine Ad (F _ _ _ (Ad ?_));refine Wb (s:={s with heap:=h}) G H I (j.perm i) (λy=>(k y).trans ⟨λ⟨e,a,b⟩=>⟨e,i.mem_iff.mpr a,b⟩,λ⟨e,a,b⟩=>⟨e,i.mem_iff.mp a,b⟩⟩) (by rw[t];exact l) p r λN O ζ P=>?_;exact AB (q N (o.trans O) (P.cong (λζ=>rfl) t.symm));exact AB (q h o J)
def JE{y:α}{x:Value}{Q:Bool->Shared->Prop}(B:knd.is y x=true)(C:x.scannable=true)(T:BZ knd f s.heap D M n)(aa:n+1<scanBound)
 (q:∀a,Heap.SameBut D s.heap a->BZ knd f a D (λz=>M z || decide (z=y)) (if M y then n else n+1)->Q (!M y) {s with heap:=a}):wpAny (model prog w) A (setAddHashed D x (knd.hash y)) Q E s:=by
 obtain⟨U,d,V,tb,h,F,i,r,t,I,G,J,K⟩:=T;unfold setAddHashed setAddHashedIn;refine FN (Ad (wpAny_setState_of h i G ?_));dsimp only;rw[byScan_of C I r,An rfl];unfold setAddByScan;refine Ad (Ad (Im (Ad (wpAny_setScan_of B h i G r ?_))))
 cases fd:List.findIdx? (λe=>knd.is y e.2) d.toList with
 |some j =>
   obtain⟨W,X,_⟩:=List.findIdx?_eq_some_iff_getElem.mp fd;have k:M y=true:=(t y).mpr ⟨_,Ed W,X⟩;dsimp only;refine AB (AB ?_)
   have R:=q s.heap (Heap.SameBut.refl ..) ⟨U,d,V,tb,h,F,i,r,λz=>by
    rw[<-t z,Bool.or_eq_true,decide_eq_true_eq];refine⟨λc=>?_,.inl⟩;rcases c with c|c;exact c;rw[c];exact k,I,G,by rw[k];exact J,K⟩
   rw[k] at R;exact R
 |none =>
   have k:M y=false:=by
    cases c:M y with
    |false=>rfl
    |true =>
      obtain⟨e,Y,Z⟩:=(t y).mp c;have:=List.findIdx?_eq_none_iff.mp fd e Y;rw[Z] at this;cases this
   dsimp only;have g:=layNew_perm tb d (knd.hash y) x;have l:=layNew_fits tb d (knd.hash y) x;have m:=Zw K d (knd.hash y) x;generalize layNew tb d (knd.hash y) x=ly at g l m;obtain⟨v,t1,wd,gv⟩:=ly;dsimp only at g l m;rw[Array.toList_push] at g;have L:v.size=n+1:=by rw[Wc g,AQ,Array.length_toList,J];rfl
   have N:ElemsOf knd v.toList:=(r.push B C).perm g;have O:=mem_push_iff B t g;have P:v.size<scanBound:=by rw[L];exact aa
   have S:∀a,Heap.SameBut D s.heap a->BZ knd f a D (λz=>M z || decide (z=y)) v.size->Q true {s with heap:=a}:=λa o p=>by
    have:=q a o;rw[k] at this;exact this (p.cong (λζ=>rfl) L.symm)
   refine Ad (S3 _ ?_);split;rw[hashByValue_scannable 8 C];refine Ad (AB ?_);refine We h F i N O P (by split;exact l;exact SetTable.fits_plain_off l) (by split;exact m;exact LS m) (λb u Q' H=>S3 b H) λa o p=>?_;exact AB (S a o p);refine Ad (AB ?_);rw[An rfl];exact We h F i N O P l m (λb u Q' H=>S3 b H) λa o p=>AB (S a o p)
end
abbrev BU (w:World):Bool:=!(w.params.followText "set-order")
abbrev HM (b:Bool):Obj:={cls:=.type "set",dict:=none,data:=.set #[] 0 (.fresh 0 0 b)}
section
variable {prog:Program} {w:World} {A:Around} {E:D'} {s:Shared}
theorem JF(x:Value)(q:Q (.ref s.heap.objs.size) {s with heap:=s.heap.push (HM (BU w))}) :
 codeAny (model prog w) A (.call (.builtin "set.__new__") ⟨[.type "set",x],[]⟩) (wants Q E) s:=by
 refine codeAny_of_tree ?_;show wpAny _ A.in1 (checkBuiltinCall "set.__new__" ⟨[.type "set",x],[]⟩ >>= λζ=>again (.builtin "set.__new__" ⟨[.type "set",x],[]⟩)) _ _ s;refine Ad (wpAny_of_eq (F.newCall_set_1 x) (AB ⟨plainId_quiet F.plain_set_new _,codeAny_builtin F.entry_set_new ?_⟩));rw[Around.under_plainId F.plain_set_new _];have a:=sub_set_self;unfold Builtin.«set.__new__» Builtin.Frozenset.newClass
 cases s with
 |mk b g d c os =>
   dsimp only at q ⊢
   wp_walk
   refine wpAny_askSetting (AB ?_);dsimp only;simp only[newObj];exact Ad (wpAny_alloc (AB (AB q)))
end
def B0 (f:Nat->Int) (i:Nat):List Int:=((List.range i).map f).foldl step_dedup []
def Oh(f:Nat->Int)(i:Nat):B0 f (i+1)=step_dedup (B0 f i) (f i):=by
 unfold B0;rw[List.range_succ,Bh,Ki];rfl
def HN(l:List Int)(x:Int):(step_dedup l x).length=if l.any (·==x) then l.length else l.length+1:=by
 unfold step_dedup;split<;>simp
def HP(l:List Int)(x y:Int):(step_dedup l x).any (·==y)=(l.any (·==y) || decide (y=x)):=by
 unfold step_dedup;by_cases h:l.any (·==x)=true;rw[An h];by_cases e:y=x;subst e;rw[h];rfl;rw[El e,Bool.or_false];rw[Al h,List.any_append];congr 1;by_cases e:y=x;subst e;simp;rw[El e]
 simp
 exact λz=>e z.symm
theorem Wf(f:Nat->Int):∀i,(B0 f i).length<=i
 |0=>AG _
 |i+1=>by
   have:=Wf f i;rw[Oh,HN];split<;>lia
theorem Wg(f:Nat->Int):∀(i:Nat)(y:Int),(B0 f i).any (·==y)=true↔∃j,j<i/\f j=y
 |0,y=>by
   constructor;intro h;cases h;rintro⟨j,h,_⟩;lia
 |i+1,y=>by
   rw[Oh,HP,Bool.or_eq_true,Wg f i y,decide_eq_true_iff];constructor;rintro(⟨j,h,e⟩|e);exact⟨j,by lia,e⟩;exact⟨i,by lia,e.symm⟩;rintro⟨j,h,e⟩;by_cases a:j=i;subst a;exact .inr e.symm;exact .inl ⟨j,by lia,e⟩
section
variable {prog:Program} {w:World} {A:Around} {R:Result->Shared->Prop} {It:Addr} {fp r:List Addr} {G:Array GenState->Array GenState->Prop} {n:Nat} {Pn:Nat->Value->Prop} {Sn:Nat->Shared->Prop}
theorem Zy(c:WalksS prog w A.in1 It fp r G n Pn Sn)(D:Addr)(l:D∉fp)(f:Nat->Int)(u:∀i v,Pn i v->∃t,v=.int (f i) t)(Q:n+1<scanBound) :
 ∀(k i:Nat)(s:Shared),n-i=k->i<=n->Sn i s->BZ (intKind prog w) (BU w) s.heap D (λy=>(B0 f i).any (·==y)) (B0 f i).length ->
  (∀Z,Moved (D::r) G s Z->BZ (intKind prog w) (BU w) Z.heap D (λy=>(B0 f n).any (·==y)) (B0 f n).length->R (.ok (.ret .none)) Z) ->
  codeAny (model prog w) A (.builtin "set.update.loop" ⟨[.ref D,.ref It],[]⟩) R s:=by
 have p:D∉r:=λz=>l (c.sub _ z);have sub:∀b∈r,b∈D::r:=λb z=>Ce _ z;intro k
 induction k with
 |zero =>
   intro i s x B st g j;obtain rfl:i=n:=by lia
   refine codeAny_builtin F.entry_set_update_loop ?_;rw[Around.under_plainId F.plain_set_update_loop _];show wpAny _ A.in1 (pyNext (.ref It) >>= _) _ _ s;refine Ad (c.done s _ _ st λa d=>?_);show wpAny _ A.in1 (ret Value.none) _ _ a;refine AB (j a (d.mono sub) ?_);exact g.keep λC e=>d.heap D _ p e
 |succ k E =>
   intro i s x B st g j;have lt:i<n:=(by lia);refine codeAny_builtin F.entry_set_update_loop ?_;rw[Around.under_plainId F.plain_set_update_loop _];show wpAny _ A.in1 (pyNext (.ref It) >>= _) _ _ s;refine Ad (c.item i s _ _ lt st λv a pv J d=>?_);obtain⟨t,rfl⟩:=u i v pv;have K:BZ (intKind prog w) (BU w) a.heap D (λy=>(B0 f i).any (·==y)) (B0 f i).length:=g.keep λC e=>d.heap D _ p e;show wpAny _ A.in1 (holding [Value.int (f i) t] (setAdd D (.int (f i) t)) >>= _) _ _ a;refine Ad (FN ?_);unfold setAdd;refine FN ?_;have q:(intKind prog w).is (f i) (.int (f i) t)=true:=intKind_is _ _ _ _;refine Ad ((intKind prog w).pyHash (k:=f i) q ?_);have P:(B0 f i).length+1<scanBound:=by have:=Wf f i;lia
   refine JE (knd:=intKind prog w) (s:={a with toks:=a.toks+1}) q rfl K P λH m L=>?_
   have M:BZ (intKind prog w) (BU w) H D (λy=>(B0 f (i+1)).any (·==y)) (B0 f (i+1)).length:=
    L.cong (λy=>by rw[Oh,HP]) (by rw[Oh,HN])
   refine AB ⟨plainId_quiet F.plain_set_update_loop _,E (i+1) _ (by lia) lt (c.frame _ a _ _ J (Nat.le_succ _) λb h o e=>?_) M λI N O=>?_⟩;rw[m.2 b λz:b=D=>l (by rw[<-z];exact h)];exact e;refine j I (Moved.trans c.gtrans ((d.mono sub).then_heap (Nat.le_succ _) λb o h e=>?_) N) O;rw[m.2 b λz:b=D=>h (by rw[z];exact A3)];exact e
end
section
variable {prog:Program} {w:World} {A:Around} {E:D'} {s:Shared}
set_option maxRecDepth 100000 in
set_option maxHeartbeats 3200000 in
theorem Zz {l:Addr} {a:Array Value} {f:Nat->Int} {Q:D'} (K:A.handled=none) (L:s.heap.IsList l a) (M:∀ (i:Nat) (v:Value),a[i]? = some v -> ∃ t,v=.int (f i) t) (d:a.size + 1 < scanBound)
 (h:∀(h':Heap)(g:Nat),BZ (intKind prog w) (BU w) h' s.heap.objs.size (λy=>(B0 f a.size).any (·==y)) (B0 f a.size).length ->
  (∀b o,b<s.heap.objs.size->s.heap.get? b=some o->h'.get? b=some o)->Q (.ref s.heap.objs.size) {s with heap:=h',toks:=g}) :
 wpAny (model prog w) A (call (.type "set") [.ref l]) Q E s:=by
 obtain⟨c,tl,aq⟩:=F.called_set.mro;have aw:=F.called_set.made;have ar:=F.called_set.sub;refine wpAny_call (codeAny_of_tree ?_);show wpAny _ _ (callAny (.type "set") _) _ _ _;refine AB ⟨Code.quiet_builtin _ (by decide +kernel),codeAny_builtin F.entry_type_call ?_⟩;rw[Around.under_plain (weight_type_call_type "set" [.ref l] []) rfl];have h1:=F.called_set.notType;have h2:=F.called_set.canCreate;have aj:=F.typeCall_set_1 (.ref l)
 repeat (any_goals (first|assumption|wp_step))
 refine codeAny_mono (JF (.ref l) (E:=E) (Q:=λp q=>p=.ref s.heap.objs.size/\q={s with heap:=s.heap.push (HM (BU w))}) ⟨rfl,rfl⟩) λr q k=>?_
 cases r with
 |error e=>exact k
 | ok N =>
   cases N with
   | ret p =>
     obtain⟨rfl,rfl⟩:=k;have u:(s.heap.push (HM (BU w))).get? s.heap.objs.size=some (HM (BU w)):=Ci _ rfl;have O:Shared.TypeIs {s with heap:=s.heap.push (HM (BU w))} (.ref s.heap.objs.size) "set" :=⟨_,u,rfl⟩;have ak:=F.called_set.init.lookup;have al:=F.called_set.init.bind (.ref s.heap.objs.size)
     repeat (any_goals (first|assumption|wp_step))
     refine codeAny_mono (codeAny_call_builtin (R:=wants (λr x=>r=.none/\∃h' g,x={s with heap:=h',toks:=g}/\BZ (intKind prog w) (BU w) h' s.heap.objs.size (λy=>(B0 f a.size).any (·==y)) (B0 f a.size).length /\
      (∀b o,b<s.heap.objs.size->s.heap.get? b=some o->h'.get? b=some o)) E) F.called_set.init.plain F.entry_set_init (check_set_init_1 O ?_)) λP x m=>?_
     . obtain⟨⟨oc,S,an,X⟩,D,G,B,H⟩:=L
       simp only at G H;subst G;subst H;have ai:(s.heap.push (HM (BU w))).get? l=some {cls:=.type "list",dict:=S,data:=.seq a B,slots:=X}:=Bg _ D;have au:=F.sub_list_set;have av:=F.sub_list_frozenset;have ao:(Value.type "list" == Value.type "dict")=false:=(by decide);have I:(s.heap.push (HM (BU w))).IsList l a:=⟨_,ai,rfl,B,rfl⟩;unfold Builtin.«set.__init__» noKeywords Builtin.Frozenset.updateFrom;generalize Y:pyIter=PI
       wp_walk
       subst Y;refine wpAny_pyIter_list I (Ad (wpAny_runValue ?_));have J:l<s.heap.objs.size:=Bt D;have Z:A.in1.in1.in1.handled=none:=(by simp[K])
       have aa:l≠(s.heap.push (HM (BU w))).objs.size:=by
        rw[Heap.size_push];exact CO (Nat.lt_succ_of_lt J)
       have ab:s.heap.objs.size∉[(s.heap.push (HM (BU w))).objs.size,l]:=by
        rw[Heap.size_push];intro z;rcases BO.mp z with z|z;exact absurd z (CO (QJ _));exact absurd (AR.mp z) (Nat.ne_of_gt J)
       refine Zy ((Walks.list Z _ l aa a).toS) s.heap.objs.size ab f M d (a.size-0) 0 _ (by lia) (Df _) ⟨⟨_,Ci _ rfl,rfl,rfl⟩,(I.push _)⟩ ?hS0 ?hR
       case hS0 =>
        have T:((s.heap.push (HM (BU w))).push {cls:=.type "list_iterator",data:=.fields #[.ref l,.int 0 0]}).get? s.heap.objs.size=some (HM (BU w)):=Bg _ u;exact⟨_,#[],0,_,T,⟨rfl,rfl,rfl⟩,rfl,(λe U=>by simp at U),(λy=>by simp[B0]),by decide,rfl,rfl,⟨List.Pairwise.nil,rfl,rfl⟩⟩
       case hR =>
        rintro⟨h',V,W,ae,af⟩ j n;obtain rfl:V=s.gens:=j.gens;obtain rfl:W=s.drawn:=j.drawn;obtain rfl:af=s.os:=j.os;show wpAny _ _ _ _ _ _;refine AB ?_;show wpAny _ _ (ret Value.none) _ _ _;refine AB ⟨rfl,h',ae,rfl,n,λb o d e=>?_⟩;refine j.heap b o (λz=>?_) (Bg _ (Bg _ e));rcases BO.mp z with z|z;exact absurd z (CO d);have C:=AR.mp z;rw[Heap.size_push] at C;exact absurd C (CO (Nat.lt_succ_of_lt d))
     . cases P with
       |error e=>exact m
       |ok ag =>
         cases ag with
         |ret r =>
           obtain⟨rfl,h',g,rfl,n,ah⟩:=m
           repeat (any_goals (first|assumption|wp_step))
           exact h _ _ n ah
         |_=>exact m.elim
   |_=>exact k.elim
end
def ZA:entryFor table "set.__iter__" = some Builtin.«frozenset.__iter__»:=entryFor_alias (id':= "frozenset.__iter__") (by kernel_rfl) rfl (by decide +kernel) (by kernel_rfl)
def Bx:Slot "set_iterator" "__next__" "set_iterator.__next__" :=.of (owner:= "set_iterator") (n:= "__next__") (by rw[typeLookup_type,builtinLookup_eq_fast];kernel_rfl) (by decide +kernel) (by decide +kernel) (by decide +kernel) (by first|exact .inl (by decide +kernel)|exact .inr (by decide +kernel)) (by rw[isSubtype_type];kernel_rfl)
def P2:entryFor table "set_iterator.__next__" = some Builtin.«set_iterator.__next__»:=entryFor_of_tree (by kernel_rfl)
def Wh:Manifest.owners.lookup (String.ofList ['r','o','t','a','r','e','t','i','_','t','e','s'].reverse)=some Manifest.sig_set_iterator:=by kernel_rfl
def P4(a:Value):argsOk "set_iterator.__next__" ⟨[a],[]⟩:=by
 unfold argsOk;rw[signature?_of (id:= "set_iterator.__next__") (n:=['_','_','t','x','e','n','_','_']) (o:=['r','o','t','a','r','e','t','i','_','t','e','s']) (by kernel_rfl) Wh];kernel_rfl
abbrev ED (f:Value) (i n ep:Nat) (D:Addr):Obj:={cls:=.type "set_iterator",data:=.fields #[f,rawInt i,.ref D,rawInt n,rawInt ep]}
structure Ff (hp:Heap) (D:Addr) (es:Array (Int×Value)) (ep:Nat) (tb:SetTable):Prop where
 ex:∃ob,hp.get? D=some ob/\ob.ExactSet/\ob.data=.set es ep tb
 fit:tb.fits es.size=true
section
variable {prog:Program} {w:World} {A:Around} {E:D'} {s:Shared} {It D:Addr} {es:Array (Int×Value)} {ep:Nat} {tb:SetTable}
def Ff.entries(x:Ff s.heap D es ep tb){Q:Array (Int×Value)->Shared->Prop}(q:Q es s):wpAny (model prog w) A (setEntries D) Q E s:=by
 obtain⟨b,a,_,c⟩:=x.ex;exact wpAny_setEntries_of a c x.fit q
def Ff.state(x:Ff s.heap D es ep tb){Q:(Array (Int×Value)×Nat×SetTable)->Shared->Prop}(q:Q (es,ep,tb) s):wpAny (model prog w) A (setState D) Q E s:=by
 obtain⟨b,a,_,c⟩:=x.ex;exact wpAny_setState_of a c x.fit q
def Ff.keep{c d:Heap}(x:Ff c D es ep tb)(k:∀ob,c.get? D=some ob->d.get? D=some ob):Ff d D es ep tb:=by
 obtain⟨ob,a,b⟩:=x.ex;exact⟨⟨ob,k _ a,b⟩,x.fit⟩
def ZB{d a:Nat}{v:Value}{Q:Option Value->Shared->Prop}(b:s.heap.get? It=some (ED (rawInt d) i es.size ep D))(h:Ff s.heap D es ep tb)
 (j:∀(B:Around)(k:D')(e:Option (Value×Nat)->Shared->Prop),e (some (v,a)) s->wpAny (model prog w) B (setNext D d i ep) e k s)
 (q:∀c,c.get? It=some (ED (rawInt a) (i+1) es.size ep D)->Heap.SameBut It s.heap c->Q (some v) {s with heap:=c}):wpAny (model prog w) A (pyNext (.ref It)) Q E s:=by
 have f:s.TypeIs (.ref It) "set_iterator" :=⟨_,b,rfl⟩;unfold pyNext;refine Ad (wpAny_attempt (wpAny_callSpecial?_slot (name:=Str.ofString "__next__") f Bx (wpAny_call_entry Bx f P2 ?_ (P4 _))));unfold Builtin.«set_iterator.__next__» slotArgs;simp only[List.isEmpty_nil,Bool.not_true,FD,↓reduceIte,GK,bne_self_eq_false];refine Ad (AB ?_);refine Ad (wpAny_fieldsOf b rfl ?_);show wpAny _ _ (setEntries D >>= _) _ _ s;refine Ad (h.entries ?_);rw[Al (by simp)];refine Ad (j _ _ _ ?_);show wpAny _ _ (setField (Value.ref It) 0 (rawInt a) >>= _) _ _ s;refine Ad (wpAny_setField b rfl (by simp) ?_);have g:(s.heap.update It (Obj.mapFields (·.setIfInBounds 0 (rawInt a)))).get? It=some (ED (rawInt a) i es.size ep D):=Heap.get?_update_self _ b rfl;refine Ad (wpAny_setField g rfl (by simp) ?_);have l:=Heap.get?_update_self (Obj.mapFields (·.setIfInBounds 1 (rawInt ((i:Int)+1)))) g rfl;exact AB ⟨_,rfl,AB (q _ l ((Heap.SameBut.update ..).trans (Heap.SameBut.update ..)))⟩
def Wi{vs:Array Value}{ob:Obj}{Q:Option Value->Shared->Prop}(d:A.handled=none)(f:s.heap.get? It=some ob)(hd:ob.data=.fields vs)(hz:2<vs.size)
 (q:∀c,Heap.ExtBut It s.heap c->Q none {s with heap:=c}):wpAny (model prog w) A.in1 (setField (Value.ref It) 2 Value.none >>= λζ=>newExc (Value.type "StopIteration") [] >>= λe=>raiseNew (α:=Fin) e) (λg Z=>∃v,g=Fin.done (Flow.ret v)/\wpAny (model prog w) A (pure (some v)) Q E Z)
  (λe Z=>wpAny (model prog w) A (isInstance e (Value.type "StopIteration") >>= λb=>if b=true then pure none else throw e) Q E Z) s:=by
 refine Ad (wpAny_setField f hd hz ?_);refine Ad ?_;simp only[newExc,newTuple];refine Ad (wpAny_newObj_type ?_ (by size_fits));refine Ad (m:=firstArgMember _ _) (wpAny_of_eq (a:=Value.none) (by first|rfl|(simp only[firstArgMember];rfl)) ?_);refine wpAny_newObj_type ?_ (by size_fits);simp only[raiseNew];refine Ad (wpAny_handled ?_);rw[show A.in1.handled=none from d];refine Ad (AB (wpAny_throw ?_))
 refine Ad (wpAny_isInstance (T:= "StopIteration") (b:=true) ⟨_,Ci _ rfl,rfl⟩ isSubtype_stop ?_);exact AB (q _ (((Heap.SameBut.update ..).extBut.push _).push _))
def ZC{b:Nat}{Q:Option Value->Shared->Prop}(f:A.handled=none)(a:s.heap.get? It=some (ED (rawInt b) i es.size ep D))(g:Ff s.heap D es ep tb)
 (h:∀(B:Around)(j:D')(c:Option (Value×Nat)->Shared->Prop),c none s->wpAny (model prog w) B (setNext D b i ep) c j s)
 (q:∀d,Heap.ExtBut It s.heap d->Q none {s with heap:=d}):wpAny (model prog w) A (pyNext (.ref It)) Q E s:=by
 have e:s.TypeIs (.ref It) "set_iterator" :=⟨_,a,rfl⟩;unfold pyNext;refine Ad (wpAny_attempt (wpAny_callSpecial?_slot (name:=Str.ofString "__next__") e Bx (wpAny_call_entry Bx e P2 ?_ (P4 _))));unfold Builtin.«set_iterator.__next__» slotArgs;simp only[List.isEmpty_nil,Bool.not_true,FD,↓reduceIte,GK,bne_self_eq_false];refine Ad (AB ?_);refine Ad (wpAny_fieldsOf a rfl ?_);show wpAny _ _ (setEntries D >>= _) _ _ s;refine Ad (g.entries ?_);rw[Al (by simp)];refine Ad (h _ _ _ ?_);exact Wi f a rfl (by simp) q
def ZD{ps:Array Value}{p:Nat}{t:Tok}{v:Value}{hv:Int}{Q:Option Value->Shared->Prop}(b:s.heap.get? It=some (ED (.ref T) i es.size ep D))(c:Ff s.heap D es ep tb)(g:s.heap.IsTuple T ps)(a:ps[i]?=some (.int p t))(hv:es[p]?=some (hv,v))
 (q:∀a,a.get? It=some (ED (.ref T) (i+1) es.size ep D)->Heap.SameBut It s.heap a->Q (some v) {s with heap:=a}):wpAny (model prog w) A (pyNext (.ref It)) Q E s:=by
 have d:s.TypeIs (.ref It) "set_iterator" :=⟨_,b,rfl⟩;obtain⟨h,e,j,k,dt⟩:=g;unfold pyNext;refine Ad (wpAny_attempt (wpAny_callSpecial?_slot (name:=Str.ofString "__next__") d Bx (wpAny_call_entry Bx d P2 ?_ (P4 _))));unfold Builtin.«set_iterator.__next__» slotArgs;simp only[List.isEmpty_nil,Bool.not_true,FD,↓reduceIte,GK,bne_self_eq_false];refine Ad (AB ?_);refine Ad (wpAny_fieldsOf b rfl ?_);show wpAny _ _ (setEntries D >>= _) _ _ s;refine Ad (c.entries ?_);rw[Al (by simp)];show wpAny _ _ (seqItems? (.ref T) >>= _) _ _ s;refine Ad (Gv e dt ?_)
 show wpAny _ _ (match ps[i]? with|some (Value.int place tok)=>_|some val=>_|none=>_) _ _ s
 rw[a];show wpAny _ _ (setNextDrawn D p ep >>= _) _ _ s;refine Ad ?_;unfold setNextDrawn;refine Ad (c.state ?_);dsimp only;rw[Al (by simp)];rw[hv];refine AB ?_;show wpAny _ _ (setField (Value.ref It) 1 (rawInt ((i:Int)+1)) >>= _) _ _ s;refine Ad (wpAny_setField b rfl (by simp) ?_);have f:=Heap.get?_update_self (Obj.mapFields (·.setIfInBounds 1 (rawInt ((i:Int)+1)))) b rfl;exact AB ⟨_,rfl,AB (q _ f (Heap.SameBut.update ..))⟩
def ZE{ps:Array Value}{Q:Option Value->Shared->Prop}(d:A.handled=none)(b:s.heap.get? It=some (ED (.ref T) i es.size ep D))(e:Ff s.heap D es ep tb)(h:s.heap.IsTuple T ps)(a:ps[i]?=none)
 (q:∀a,Heap.ExtBut It s.heap a->Q none {s with heap:=a}):wpAny (model prog w) A (pyNext (.ref It)) Q E s:=by
 have c:s.TypeIs (.ref It) "set_iterator" :=⟨_,b,rfl⟩;obtain⟨j,f,k,l,dt⟩:=h;unfold pyNext;refine Ad (wpAny_attempt (wpAny_callSpecial?_slot (name:=Str.ofString "__next__") c Bx (wpAny_call_entry Bx c P2 ?_ (P4 _))));unfold Builtin.«set_iterator.__next__» slotArgs;simp only[List.isEmpty_nil,Bool.not_true,FD,↓reduceIte,GK,bne_self_eq_false];refine Ad (AB ?_);refine Ad (wpAny_fieldsOf b rfl ?_);show wpAny _ _ (setEntries D >>= _) _ _ s;refine Ad (e.entries ?_);rw[Al (by simp)];show wpAny _ _ (seqItems? (.ref T) >>= _) _ _ s;refine Ad (Gv f dt ?_)
 show wpAny _ _ (match ps[i]? with|some (Value.int place tok)=>_|some val=>_|none=>_) _ _ s
 rw[a];show wpAny _ _ (setField (Value.ref It) 0 (rawInt 0) >>= _) _ _ s;refine Ad (wpAny_setField b rfl (by simp) ?_);have g:=Heap.get?_update_self (Obj.mapFields (·.setIfInBounds 0 (rawInt 0))) b rfl;exact Wi d g rfl (by simp) λa ex=>q a ((Heap.SameBut.update ..).extBut.trans ex)
def HQ{v:Value}{n:Int}(h:(intKind prog w).is n v=true):∃t,v=.int n t:=by
 have a:Value.isInt n v=true:=h;cases v<;>simp[Value.isInt] at a;subst a;exact⟨_,rfl⟩
theorem S4{α:Type}:∀{l:List α}{i:Nat}(h:i<l.length),(l[i]::l.eraseIdx i).Perm l
 |x::l,0,_=>List.Perm.refl _
 |x::l,i+1,h=>(List.Perm.swap x _ _).trans (List.Perm.cons x (S4 (l:=l) (i:=i) (by simpa using h)))
theorem Wj{α:Type}(nx:Nat->Nat):∀(a k:Nat)(left:List α)(out:Array α),left.length=a->(pickOrder.go nx a k left out).toList.Perm (out.toList++left)
 |0,k,left,out,h=>by
   rw[List.length_eq_zero_iff.mp h];unfold pickOrder.go
   simp
 |a+1,k,left,out,h=>by
   have b:nx k%left.length<left.length:=Nat.mod_lt _ (by lia);unfold pickOrder.go;rw[AC b];dsimp only;refine(Wj nx a (k+1) _ _ (by rw[List.length_eraseIdx,An b];lia)).trans ?_;rw[Array.toList_push,Ge];refine List.Perm.append_left _ ?_;exact S4 b
def ZF{c:Source}{Q:Nat->Shared->Prop}(a:n≠0)(q:∀i b,i<n->Q i {s with drawn:=b}):wpAny (model prog w) A (choose c n) Q E s:=
 λζ ζ ζ=>⟨a,q _ _ (Nat.mod_lt _ (Nat.pos_of_ne_zero a))⟩
theorem Wk{α:Type}:∀(n:Nat)(xs:List α){A:Around}{E:D'}{s:Shared}{Q:List α->Shared->Prop},xs.length=n->(∀ys b,ys.Perm xs->Q ys {s with drawn:=b})->wpAny (model prog w) A (drawOrder n xs) Q E s
 |0,xs,A,E,s,Q,h,q=>by
   have e:=List.length_eq_zero_iff.mp h;subst e;unfold drawOrder;exact AB (q [] s.drawn (List.Perm.refl _))
 |n+1,[],A,E,s,Q,h,q=>by cases h
 |n+1,x::xs,A,E,s,Q,h,q=>by
   unfold drawOrder;refine Ad (ZF (by simp) λi b a=>?_);rw[AC a];dsimp only;refine Ad (Wk n _ (by rw[List.length_eraseIdx,An a];lia) λys d c=>?_);exact AB (q _ d ((List.Perm.cons _ c).trans (S4 a)))
end
def Wl:Slot "set_iterator" "__iter__" "set_iterator.__iter__" :=.of (owner:= "set_iterator") (n:= "__iter__") (by rw[typeLookup_type,builtinLookup_eq_fast];kernel_rfl) (by decide +kernel) (by decide +kernel) (by decide +kernel) (by first|exact .inl (by decide +kernel)|exact .inr (by decide +kernel)) (by rw[isSubtype_type];kernel_rfl)
def ZG:entryFor table "set_iterator.__iter__" = some Builtin.«dict_keyiterator.__iter__»:=entryFor_alias (id':= "dict_keyiterator.__iter__") (by kernel_rfl) rfl (by decide +kernel) (by kernel_rfl)
def ZH(a:Value):argsOk "set_iterator.__iter__" ⟨[a],[]⟩:=by
 unfold argsOk;rw[signature?_of (id:= "set_iterator.__iter__") (n:=['_','_','r','e','t','i','_','_']) (o:=['r','o','t','a','r','e','t','i','_','t','e','s']) (by kernel_rfl) Wh];kernel_rfl
section
variable {prog:Program} {w:World} {A:Around} {E:D'} {s:Shared} {It D:Addr} {es:Array (Int×Value)} {ep:Nat} {tb:SetTable}
def Wm{f:Value}(b:s.heap.get? It=some (ED f i n ep D))(q:Q (.ref It) s):wpAny (model prog w) A (pyIter (.ref It)) Q E s:=by
 have a:s.TypeIs (.ref It) "set_iterator" :=⟨_,b,rfl⟩;refine wpAny_pyIter_slot a Wl (wpAny_call_entry Wl a ZG ?_ (ZH _));show wpAny _ _ (ret (.ref It)) _ _ s;exact AB ⟨_,rfl, "set_iterator",_,a,Bx.lookup,q⟩
def LV{b:Addr}(h:b∈[It]):b∈[It,D]:=by rw[AR.mp h];exact A3
def Wn(p:A.handled=none)(r:It≠D)(f:Nat->Nat)(vs:List Value)(H:vs.length=es.size)
 (t:∀(i:Nat)(v:Value)(s:Shared)(B:Around)(d:D')(c:Option (Value×Nat)->Shared->Prop),vs[i]?=some v->Ff s.heap D es ep tb->c (some (v,f (i+1))) s->wpAny (model prog w) B (setNext D (f i) i ep) c d s)
 (u:∀(s:Shared)(B:Around)(d:D')(c:Option (Value×Nat)->Shared->Prop),Ff s.heap D es ep tb->c none s->wpAny (model prog w) B (setNext D (f es.size) es.size ep) c d s) :
 Walks prog w A It [It,D] [It] es.size (λi v=>vs[i]?=some v) (λi h=>h.get? It=some (ED (rawInt (f i)) i es.size ep D)/\Ff h D es ep tb) where
 sub:=λb y=>LV y
 frame:=λi h I⟨a,b⟩k=>⟨k It A3 _ a,b.keep λC e=>k D (by simp) _ e⟩
 item:=λi s Q E J⟨a,b⟩q=>by
  have G:i<vs.length:=(by lia);have m:=AC G;refine ZB (v:=vs[i]) a b (λB d c g=>t i _ s B d c m b g) λj F n=>?_;have:=q vs[i] j s.toks m ⟨F,b.keep λC e=>(n.2 D (Ne.symm r)).trans e⟩ λx o l e=>(n.2 x (λz=>l (by rw[z];exact A3))).trans e;exact this
 done:=λs Q E⟨a,b⟩q=>ZC p a b (λB d c g=>u s B d c b g) λj ex=>q j s.toks λx o l e=>ex x o (λz=>l (by rw[z];exact A3)) e
 self:=λi s Q E⟨a,_⟩q=>Wm a q
def ZI(l:A.handled=none)(m:It≠D)(n:It≠T)(ps:List Nat)(vs:List Value)(G:vs.length=es.size)(hv:∀(i:Nat)(v:Value),vs[i]?=some v->∃(p:Nat)(x:Int),ps[i]?=some p/\es[p]?=some (x,v))(d:ps.length=es.size) :
 Walks prog w A It [It,D,T] [It] es.size (λi v=>vs[i]?=some v) (λi h=>h.get? It=some (ED (.ref T) i es.size ep D)/\Ff h D es ep tb/\h.IsTuple T (ps.map λp:Nat=>rawInt (p:Int)).toArray) where
 sub:=λb r=>by rw[AR.mp r];exact A3
 frame:=λi h H⟨a,b,c⟩k=>⟨k It A3 _ a,b.keep λu e=>k D (by simp) _ e,let ⟨o,e,x⟩:=c;⟨o,k T (by simp) _ e,x⟩⟩
 item:=λi s Q E I⟨a,b,c⟩q=>by
  have F:i<vs.length:=(by lia);have j:=AC F;obtain⟨p,x,y,B⟩:=hv i _ j;refine ZD (v:=vs[i]) (hv:=x) (t:=0) a b c (by simp[y,rawInt]) B λd C f=>?_;exact q vs[i] d s.toks j ⟨C,b.keep λu e=>(f.2 D (Ne.symm m)).trans e,let ⟨o,e,x⟩:=c;⟨o,(f.2 T (Ne.symm n)).trans e,x⟩⟩ λx o g e=>(f.2 x (λz=>g (by rw[z];exact A3))).trans e
 done:=λs Q E⟨a,b,c⟩q=>ZE l a b c (by simp[d]) λd ex=>q d s.toks λx o g e=>ex x o (λz=>g (by rw[z];exact A3)) e
 self:=λi s Q E⟨a,_⟩q=>Wm a q
structure Fg (prog:Program) (w:World) (A:Around) (h0 hp:Heap) (D It:Addr) (ks:List Int):Prop where
 walk:∃(fp:List Addr)(St:Nat->Heap->Prop),Walks prog w A It fp [It] ks.length (λi v=>∃t,v=.int (ks.getD i 0) t) St/\St 0 hp/\∀b∈fp,b=D\/h0.objs.size<=b
 keep:∀b o,h0.get? b=some o->hp.get? b=some o
 new:h0.objs.size<=It
def Walks.weaker{a r:List Addr}{P b:Nat->Value->Prop}{St:Nat->Heap->Prop}(W:Walks prog w A It a r n P St)(h:∀i v,P i v->b i v):Walks prog w A It a r n b St where
 sub:=W.sub
 frame:=W.frame
 item:=λi s Q E c st q=>W.item i s Q E c st λv d e pv=>q v d e (h i v pv)
 done:=W.done
 self:=W.self
def S5{M:Int->Bool}{vs:List Value}(s:ElemsOf (intKind prog w) es.toList)(u:∀y,M y=true↔∃e∈es.toList,(intKind prog w).is y e.2=true)(f:vs.Perm (es.toList.map (·.2))):∃ks:List Int,ks.length=vs.length/\(∀(i:Nat)(v:Value),vs[i]?=some v->∃t,v=.int (ks.getD i 0) t)/\∀y,M y=true↔y∈ks:=by
 have z:∀v∈vs,∃n t,v=Value.int n t:=λv g=>by
  obtain⟨e,c,rfl⟩:=Bd.mp (f.mem_iff.mp g);obtain⟨⟨k,A,_⟩,_⟩:=s e c;obtain⟨t,j⟩:=HQ A;exact⟨k,t,j⟩
 have B:∀l:List Value,(∀v∈l,∃n t,v=Value.int n t)->∃ks:List Int,ks.length=l.length/\∀(i:Nat)(v:Value),l[i]?=some v->∃t,v=.int (ks.getD i 0) t:=λl=>by
  induction l with
  |nil=>exact λζ=>⟨[],rfl,λi v h=>by cases h⟩
  |cons x l C =>
    intro q;obtain⟨ks,a,b⟩:=C λv g=>q v (Ce _ g);obtain⟨n,t,e⟩:=q x A3;refine⟨n::ks,by simp[a],λi v h=>?_⟩
    cases i with
    |zero=>simp at h;subst h;exact⟨t,e⟩
    |succ i=>simpa using b i v (by simpa using h)
 obtain⟨ks,a,b⟩:=B vs z;refine⟨ks,a,b,λy=>?_⟩;rw[u y];constructor;rintro⟨e,c,m⟩;obtain⟨t,j⟩:=HQ m;have D:e.2∈vs:=f.mem_iff.mpr (Bd.mpr ⟨e,c,rfl⟩);obtain⟨i,o,p⟩:=List.getElem_of_mem D;obtain⟨G,d⟩:=b i _ (AC o);rw[p,j] at d;have E:y=ks.getD i 0:=(by injection d);rw[E,BC,AC (show i<ks.length by lia)];exact Ed _;intro m;obtain⟨i,o,p⟩:=List.getElem_of_mem m;have r:i<vs.length:=(by lia);obtain⟨t,d⟩:=b i _ (AC r);obtain⟨e,c,F⟩:=Bd.mp (f.mem_iff.mp (Ed r));refine⟨e,c,?_⟩;rw[F,d,BC,AC o];show(intKind prog w).is y (.int ks[i] t)=true;rw[p];exact intKind_is _ _ _ _
def ZJ{ks:List Int}:∀{vs:List Value},vs.length=ks.length->(∀(i:Nat)(v:Value),vs[i]?=some v->∃t,v=.int (ks.getD i 0) t)->IntsAre vs ks:=by
 induction ks with
 |nil=>intro vs a _;cases vs with
   |nil=>exact .nil
   |cons _ _=>simp at a
 |cons x r b =>
   intro vs a h
   cases vs with
   |nil=>simp at a
   |cons v vs =>
     obtain⟨t,e⟩:=h 0 v rfl;obtain rfl:v=.int x t:=e;exact .cons _ _ (b (by simpa using a) λi u c=>h (i+1) u (by simpa using c))
def Fg.of{a c:Heap}{d:List Addr}{m:Nat}{vs:List Value}{St:Nat->Heap->Prop}{ks:List Int}(W:Walks prog w A It d [It] m (λi v=>vs[i]?=some v) St)(e:ks.length=m)(f:∀(i:Nat)(v:Value),vs[i]?=some v->∃t,v=.int (ks.getD i 0) t)(st:St 0 c)(lt:∀b∈d,b=D\/a.objs.size<=b)(g:∀b o,a.get? b=some o->c.get? b=some o)(h:a.objs.size<=It):Fg prog w A a c D It ks:=
 ⟨⟨d,St,by rw[e];exact Walks.weaker W f,st,lt⟩,g,h⟩
def S6{f:Value}(b:Ff s.heap D es ep tb)(q:Q (.ref s.heap.objs.size) {s with heap:=s.heap.push (ED f 0 es.size ep D)}) :
 wpAny (model prog w) A (setEpoch D >>= λe=>newFields "set_iterator" [f,rawInt 0,Value.ref D,rawInt ↑es.size,rawInt ↑e] >>= λv=>ret v) (λg Z=>∃v,g=Fin.done (Flow.ret v)/\∃d r,Z.TypeIs v d/\typeLookup (Value.type d) (Str.ofString "__next__")=pure (some r)/\Q v Z) E s:=by
 obtain⟨h,a,_,c⟩:=b.ex;refine Ad (wpAny_setEpoch_of a c b.fit ?_);refine Ad (wpAny_newObj_type (AB ⟨_,rfl, "set_iterator",_,⟨_,Ci _ rfl,rfl⟩,Bx.lookup,?_⟩));exact q
def Wo{nx:Nat->Nat}{a:Nat}{v:Option (Value×Nat)}(d:w.params.followText "set-order" = true)(f:w.params.setOrder D ep=nx)(hv:((pickOrder nx es)[i]?).map (λe=>(e.2,a))=v)(b:Ff s.heap D es ep tb){Q:Option (Value×Nat)->Shared->Prop}(q:Q v s):wpAny (model prog w) A (setNext D a i ep) Q E s:=by
 unfold setNext;refine Ad (b.state ?_);dsimp only;unfold setsByText;refine Ad (Ad (wpAny_askSetting (AB ?_)));have c:(model prog w).w.params.followText "set-order" = true:=d;dsimp only;rw[c,An rfl];rw[Al (by simp)];refine Ad ?_;unfold setWalk setsByText;refine Ad (b.state ?_);dsimp only;refine Ad (Ad (wpAny_askSetting (AB ?_)));dsimp only;rw[c,An rfl];refine Ad (wpAny_askSetting ?_);refine AB ?_;have g:(model prog w).w.params.setOrder D ep=nx:=f;dsimp only;rw[g,hv];exact AB q
def Wp{a:Nat}{v:Option (Value×Nat)}(c:w.params.followText "set-order" = false)(d:(!tb.plain && decide (es.size > 1))=false)(e:tb.led=true)(hv:(∃h x j,es[SetTable.below tb.place a]?=some (h,x)/\tb.place[SetTable.below tb.place a]?=some j/\v=some (x,j+1))\/(es[SetTable.below tb.place a]?=none/\v=none))(f:Ff s.heap D es ep tb){Q:Option (Value×Nat)->Shared->Prop}(q:Q v s):wpAny (model prog w) A (setNext D a i ep) Q E s:=by
 unfold setNext;refine Ad (f.state ?_);dsimp only;unfold setsByText;refine Ad (Ad (wpAny_askSetting (AB ?_)));have k:(model prog w).w.params.followText "set-order" = false:=c
 dsimp only;rw[k,Al C3];refine wpAny_ite_split (λh=>absurd (show(!tb.plain && decide (es.size > 1))=true from h) (by rw[d];exact C3)) (λζ=>?_);refine Ad ?_;show wpAny _ _ (if(!tb.led && !es.isEmpty)=true then _ else _) _ _ _;rw[e];simp only[Bool.not_true,Bool.false_and,FD,↓reduceIte];refine AB ?_
 rcases hv with⟨h,x,j,b,g,rfl⟩|⟨b,rfl⟩;rw[b,g];exact AB q;rw[b];exact AB q
theorem ZK {M:Int->Bool}(J:A.handled=none) (hS:BZ (intKind prog w) (BU w) s.heap D M n)
 (q:∀(It:Addr)(t:Heap)(K:Drawn)(ks:List Int),ks.length=n->(∀y,M y=true↔y∈ks)->Fg prog w A s.heap t D It ks->Q (.ref It) {s with heap:=t,drawn:=K}):wpAny (model prog w) A (pyIter (.ref D)) Q E s:=by
 obtain⟨u,es,ep,tb,L,Y,x3,N,O,x6,x7,P,R⟩:=hS;have l:Ff s.heap D es ep tb:=⟨⟨u,L,Y,x3⟩,x7⟩;have hT:s.TypeIs (.ref D) "set" :=⟨u,L,Y.1⟩;have aa:D<s.heap.objs.size:=Bt L;refine wpAny_pyIter_slot hT F.slot_set_iter (wpAny_call_entry F.slot_set_iter hT ZA ?_ (F.args_set_iter_1 _));unfold Builtin.«frozenset.__iter__» Builtin.Frozenset.slot0 slotArgs;simp only[List.isEmpty_nil,Bool.not_true,FD,↓reduceIte,bind_assoc,GK,bne_self_eq_false];unfold Builtin.Frozenset.addrOf Builtin.Frozenset.sizeOf;refine Ad (AB ?_);dsimp only;refine Ad (AB ?_);refine Ad (Ad (l.entries (AB ?_)));unfold setDrawn setsByText;refine Ad (Ad (l.state ?_));dsimp only;refine Ad (Ad (wpAny_askSetting (AB ?_)));refine AB ?_;dsimp only;have n0:s.heap.objs.size≠D:=Nat.ne_of_gt aa
 have ab:∀{b:Addr},b∈[s.heap.objs.size,D]->b=D\/s.heap.objs.size<=b:=λ{b}a=>by
  rcases BO.mp a with rfl|a;exact .inr (AG _);exact .inl (AR.mp a)
 cases G:(model prog w).w.params.followText "set-order" with
 |true =>
   simp only[Bool.not_true,Bool.false_and,FD,↓reduceIte];refine Ad (AB ?_);refine S6 l ?_
   have S:((pickOrder (w.params.setOrder D ep) es).toList).Perm es.toList:=by
    have:=Wj (w.params.setOrder D ep) es.size 0 es.toList #[] (by simp);show(pickOrder.go (w.params.setOrder D ep) es.size 0 es.toList #[]).toList.Perm es.toList;simpa using this
   obtain⟨ks,g,z,C⟩:=S5 N O (S.map (·.2));have c:((pickOrder (w.params.setOrder D ep) es).toList.map (·.2)).length=es.size:=by rw[Aj,S.length_eq];simp
   have W:=Wn (prog:=prog) (w:=w) (A:=A) (It:=s.heap.objs.size) (D:=D) (es:=es) (ep:=ep) (tb:=tb) J n0 (λζ=>0) _ c
    (λi v Z B U V j m r=>Wo (nx:=w.params.setOrder D ep) G rfl (by
     rw[A6] at j;obtain⟨e,d,rfl⟩:=F6.mp j
     rw[<-Array.getElem?_toList,d];rfl) m r)
    (λZ B U V m r=>Wo (nx:=w.params.setOrder D ep) G rfl (by
     have hz:(pickOrder (w.params.setOrder D ep) es).toList.length=es.size:=by rw[S.length_eq];simp
     rw[<-Array.getElem?_toList,Gu (by lia)];rfl) m r)
   refine q _ _ s.drawn ks (by rw[g,c,P]) C (Fg.of W (g.trans c) z ⟨Ci _ rfl,l.keep λu e=>Bg _ e⟩ (λb a=>ab a) (λb o e=>Bg _ e) (AG _))
 |false =>
   have ae:tb.led=true:=by
    rw[R.led];unfold BU;have:w.params.followText "set-order" = false:=G;rw[this];rfl
   simp only[Bool.not_false,Bool.true_and]
   cases I:(!tb.plain && decide (es.size > 1)) with
   |true =>
     refine wpAny_ite_split (λζ=>?_) (λh=>absurd (show(!tb.plain && decide (es.size > 1))=true from I) h);refine Ad (Wk es.size _ List.length_range λk K t=>?_)
     have X:k.length=es.size:=by rw[t.length_eq];exact List.length_range
     refine Ad (wpAny_newObj_type ?_ (by show(List.map (λi:Nat=>rawInt (i:Int)) k).toArray.size<=sizeLine;rw[Cw,Aj,X];exact fits_of_scanBound x6));have af:Ff (s.heap.push {cls:=.type "tuple",data:=.seq (k.map λi:Nat=>rawInt (i:Int)).toArray}) D es ep tb:=l.keep λu e=>Bg _ e;refine S6 af ?_;have ah:∀p∈k,p<es.size:=λp h=>List.mem_range.mp (t.mem_iff.mp h)
     have vp:(k.map λp=>(es.getD p (0,.none)).2).Perm (es.toList.map (·.2)):=by
      have d:es.toList.map (·.2)=(List.range es.size).map λp=>(es.getD p (0,.none)).2:=by
       refine List.ext_getElem (by simp) λi h1 h2=>?_;simp at h1;simp[h1]
      rw[d];exact t.map _
     obtain⟨ks,g,z,C⟩:=S5 N O vp;have c:(k.map λp=>(es.getD p (0,.none)).2).length=es.size:=(by rw[Aj,X])
     have W:=ZI (prog:=prog) (w:=w) (A:=A) (It:=(s.heap.push {cls:=.type "tuple",data:=.seq (k.map λi:Nat=>rawInt (i:Int)).toArray}).objs.size) (D:=D) (T:=s.heap.objs.size) (es:=es) (ep:=ep) (tb:=tb) J (by rw[Heap.size_push];exact Nat.ne_of_gt (Nat.lt_succ_of_lt aa)) (by rw[Heap.size_push];exact Nat.succ_ne_self _) k _ c (λi v j=>by
      rw[A6] at j;obtain⟨p,d,rfl⟩:=F6.mp j;have ai:=ah p (Bi d);refine⟨p,(es.getD p (0,.none)).1,d,?_⟩
      simp[ai]) X
     refine q _ _ K ks (by rw[g,c,P]) C (Fg.of W (g.trans c) z ⟨Ci _ rfl,af.keep λu e=>Bg _ e,⟨_,Bg _ (Ci _ rfl),rfl,_,rfl⟩⟩ (λb a=>?_) (λb o e=>Bg _ (Bg _ e)) (by rw[Heap.size_push];exact Nat.le_succ _));rcases BO.mp a with rfl|a;rw[Heap.size_push];exact .inr (Nat.le_succ _);rcases BO.mp a with rfl|a;exact .inl rfl;rw[AR.mp a];exact .inr (AG _)
   |false =>
     refine wpAny_ite_split (λh=>absurd (show(!tb.plain && decide (es.size > 1))=true from h) (by rw[I];exact C3)) (λζ=>?_);refine Ad (AB ?_);refine S6 l ?_;obtain⟨ks,g,z,C⟩:=S5 N O (List.Perm.refl _)
     have c:(es.toList.map (·.2)).length=es.size:=by simp
     have f:tb.place.size=es.size:=by
      have:=x7;unfold SetTable.fits at this;simp at this;exact this.1
     have ag:∀i,i<=tb.place.size->SetTable.below tb.place (if i=0 then 0 else tb.place.getD (i-1) 0+1)=i:=λi H=>by
      cases i with
      |zero=>exact Zr R.ris
      |succ i =>
        have aj:i<tb.place.size:=H;simp only[Nat.add_eq_zero_iff,Nat.one_ne_zero,and_false,↓reduceIte,Nat.add_sub_cancel];refine Zs R.ris ?_;rw[Array.getD_eq_getD_getElem?,Array.getElem?_eq_getElem aj];rfl
     have W:=Wn (prog:=prog) (w:=w) (A:=A) (It:=s.heap.objs.size) (D:=D) (es:=es) (ep:=ep) (tb:=tb) J n0 (λi=>if i=0 then 0 else tb.place.getD (i-1) 0+1) _ c
      (λi v Z B U V j m r=>Wp G I ae (.inl (by
       rw[A6] at j;obtain⟨⟨h,x⟩,d,rfl⟩:=F6.mp j;rw[Array.getElem?_toList] at d;have H:i<tb.place.size:=by rw[f];exact(Array.getElem?_eq_some_iff.mp d).1
       have a:=ag i (C9 H);refine⟨h,x,tb.place.getD i 0,by rw[a];exact d,?_,by simp⟩
       rw[a,Array.getD_eq_getD_getElem?,Array.getElem?_eq_getElem H];rfl)) m r)
      (λZ B U V m r=>Wp G I ae (.inr ⟨by
       rw[ag es.size (Nat.le_of_eq f.symm)];simp,rfl⟩) m r)
     refine q _ _ s.drawn ks (by rw[g,c,P]) C (Fg.of W (g.trans c) z ⟨Ci _ rfl,l.keep λu e=>Bg _ e⟩ (λb a=>ab a) (λb o e=>Bg _ e) (AG _))
end
section
variable {prog:Program} {w:World} {A:Around} {E:D'} {s:Shared} {D:Addr}
theorem ZL(a:s.TypeIs (.ref D) "set"){Q:Bool->Shared->Prop}(q:∀b,Q b s):wpAny (model prog w) A (Builtin.List.listLengthHint (.ref D)) Q E s:=by
 unfold Builtin.List.listLengthHint;refine Ad (wpAny_specialOf a F.slot_set_len.lookup ?_);generalize AL:("set.__len__" : String)=c
 wp_delta
 rw[show splitId c=some ("set", "__len__") by subst AL;decide +kernel];subst AL;refine Ad (wpAny_isInstance (T:= "set") (b:=true) a (by rw[isSubtype_type];kernel_rfl) (wpAny_ite_split (λh=>absurd h (by decide)) λζ=>?_));refine wpAny_ite_split (λζ=>Ad (OY a (AB (q _)))) λh=>absurd (by decide +kernel) h
theorem JG{M:Int->Bool}{R:Result->Shared->Prop}(N:A.handled=none)(r:BZ (intKind prog w) (BU w) s.heap D M n){S:Addr}(u:S≠D)(res:Value)(x:s.heap.get? S=some {cls:=.type "list",data:=.seq #[]})(O:n<=sizeLine)
 (q:∀h' g P acc c(ks:List Int),(∀b o,b≠S->s.heap.get? b=some o->h'.get? b=some o)->h'.get? S=some {cls:=.type "list",dict:=none,data:=.seq acc c,slots:=#[]}->ItemsOf (λi v=>∃t,v=.int (ks.getD i 0) t) acc ks.length->ks.length=n->(∀y,M y=true↔y∈ks)->R (.ok (.ret res)) {s with heap:=h',drawn:=g,toks:=P}) :
 wpAny (model prog w) A.in1 (Builtin.List.listExtendWith (.ref S) (.ref D) res)
  (λab Z=>match ab with|.done f=>R (.ok f) Z|.again B=>B.quiet=true/\codeAny (model prog w) A B R Z) (λe Z=>R (.error e) Z) s:=by
 have C:s.TypeIs (.ref D) "set" :=by obtain⟨k,_,_,_,a,b,_⟩:=r;exact⟨k,a,b.1⟩
 have ae:S<s.heap.objs.size:=Bt x;unfold Builtin.List.listExtendWith;refine Ad (OY C ?_);rw[Al (by simp[Builtin.List.listSameRef,u])];refine Ad (ZK (A:=A.in1) N r λIt l g ks E Q T=>?_);obtain⟨⟨U,St,W,st,af⟩,j,V⟩:=T;have m:=j _ _ x;have G:S∉U:=λz=>(af S z).elim u λy=>absurd ae (Nat.not_lt_of_le y)
 have K:∀(h:Heap)(p:Nat),St 0 h->(∀b o,b≠S->s.heap.get? b=some o->h.get? b=some o)->h.get? S=some {cls:=.type "list",data:=.seq #[] p} ->
  codeAny (model prog w) A (.builtin "list.extend.loop" ⟨[.ref S,.ref It,res],[]⟩) R {s with heap:=h,drawn:=g}:=λh p ag X Y=>by
  refine codeAny_extend_loopS W.toS (by rw[E];exact O) S G res ks.length 0 _ #[] p rfl (Df _) ag Y (ItemsOf.nil _) λZ acc c H e1 ah=>?_;rw[Moved.eq_with H];refine q Z.heap g Z.toks acc c ks (λb o I e=>H.heap b o (λz=>?_) (X b o I e)) e1 ah E Q;rcases BO.mp z with y|y;exact I y;have:=Bt e;rw[AR.mp y] at this;exact absurd this (Nat.not_lt_of_le V)
 have quiet:(Code.builtin "list.extend.loop" ⟨[.ref S,.ref It,res],[]⟩).quiet=true:=plainId_quiet F.plain_extend_loop _;refine Ad (FN (ZL (s:={s with heap:=l,drawn:=g}) (by obtain⟨k,a,b⟩:=C;exact⟨k,j _ _ a,b⟩) λb=>?_));refine wpAny_ite_split (λζ=>?_) λζ=>AB ⟨quiet,K _ 0 st (λb o ζ e=>j b o e) m⟩;refine Ad (Im (Ad ?_));show wpAny _ _ (updateSeq S (·.push .none) >>= λζ=>updateSeq S (·.pop)) _ _ _;refine Ad (wpAny_updateSeq m rfl ?_);have J:=Heap.get?_update_self (Obj.mapSeq (·.push Value.none)) m rfl;refine wpAny_updateSeq (hz:=by seq_fits) J rfl ?_;have aa:=Heap.get?_update_self (Obj.mapSeq (·.pop)) J rfl;have L:∀b,b≠S->((l.update S (Obj.mapSeq (·.push Value.none))).update S (Obj.mapSeq (·.pop))).get? b=l.get? b:=λb d=>(Heap.get?_update_other _ _ (Ne.symm d)).trans (Heap.get?_update_other _ _ (Ne.symm d));exact AB ⟨quiet,K _ _ (W.frame 0 _ _ st λb d o e=>(L b λz=>G (z▸d)).trans e) (λb o d e=>(L b d).trans (j b o e)) aa⟩
theorem ZM{M:Int->Bool}{Q:List Value->Shared->Prop}(u:A.handled=none)(t:BZ (intKind prog w) (BU w) s.heap D M n)(z:n<=sizeLine)
 (q:∀h' d g acc(ks:List Int),(∀b o,s.heap.get? b=some o->h'.get? b=some o)->IntsAre acc ks->ks.length=n->(∀y,M y=true↔y∈ks)->Q acc {s with heap:=h',drawn:=d,toks:=g}):wpAny (model prog w) A (collect (.ref D)) Q E s:=by
 have H:D<s.heap.objs.size:=by obtain⟨B,_,_,_,a,_⟩:=t;exact Bt a
 unfold collect;refine Ad (wpAny_runValue (codeAny_builtin entry_proto_collect' ?_));rw[Around.under_plainId F.plain_proto_collect _];show wpAny _ A.in1 (newList [] >>= λl=>again (.builtin "list.__iadd__" ⟨[l,.ref D],[]⟩)) _ _ s;refine Ad (wpAny_newObj_type (AB ⟨plainId_quiet F.plain_list_iadd _,codeAny_builtin entry_list_iadd' ?_⟩));rw[Around.under_plainId F.plain_list_iadd _];show wpAny _ A.in1 (Builtin.List.listExtendWith (.ref s.heap.objs.size) (.ref D) (.ref s.heap.objs.size)) _ _ _
 refine FP (JG (A:=A) (s:={s with heap:=s.heap.push {cls:=.type "list",data:=.seq ([]:List Value).toArray}}) (S:=s.heap.objs.size)
  (R:=λr Z=>∃h' d g acc c,∃ks:List Int,r=.ok (.ret (.ref s.heap.objs.size))/\Z={s with heap:=h',drawn:=d,toks:=g}/\(∀b o,s.heap.get? b=some o->h'.get? b=some o)/\h'.get? s.heap.objs.size=some {cls:=.type "list",dict:=none,data:=.seq acc c,slots:=#[]}/\IntsAre acc.toList ks/\ks.length=n/\∀y,M y=true↔y∈ks)
  u (t.keep λB e=>Bg _ e) (Nat.ne_of_gt H) _ (Ci _ rfl) z λh' d g acc c ks j k h m p=>⟨h',d,g,acc,c,ks,rfl,rfl,λb o e=>j b o (CO (Bt e)) (Bg _ e),k,?_,m,p⟩) (λI Z x=>?_) λe Z x=>?_
 exact ZJ (by rw[Array.length_toList,h.1]) λi v C=>h.2 i v (by rw[<-Array.getElem?_toList];exact C)
 . cases I with
   |done f =>
     obtain⟨h',d,g,acc,c,ks,e,rfl,j,k,h,m,p⟩:=x;cases e;show wpAny _ A (load s.heap.objs.size >>= _) _ _ _;exact Ad (wpAny_load k (AB (q h' d g acc.toList ks j h m p)))
   |again J =>
     refine⟨x.1,codeAny_mono x.2 λr K y=>?_⟩;obtain⟨h',d,g,acc,c,ks,rfl,rfl,j,k,h,m,p⟩:=y;show wpAny _ A (load s.heap.objs.size >>= _) _ _ _;exact Ad (wpAny_load k (AB (q h' d g acc.toList ks j h m p)))
 obtain⟨_,_,_,_,_,_,G,_⟩:=x;cases G
end
def LW{l:List Int}:∀{m:List Int},l.Nodup->(∀x∈l,x∈m)->m.length<=l.length->m.Nodup:=by
 induction l with
 |nil=>intro m _ _ h;rw[List.length_eq_zero_iff.mp (Nat.le_zero.mp h)];exact List.nodup_nil
 |cons a l g =>
   intro m d f i;obtain⟨j,k⟩:=Gr.mp d;have c:=List.perm_cons_erase (f a A3)
   have n:(m.erase a).length<=l.length:=by
    have:=c.length_eq;simp at this i;lia
   have sub:∀x∈l,x∈m.erase a:=λx b=>by
    have:=c.mem_iff.mp (f x (Ce _ b));rcases BO.mp this with e|e;exact absurd (e▸b) j;exact e
   refine c.nodup_iff.mpr (Gr.mpr ⟨λo=>?_,g k sub n⟩)
   have:(a::l).length<=(m.erase a).length:=Ord.nodup_sub_length d λx b=>by
    rcases BO.mp b with e|e;rw[e];exact o;exact sub x e
   simp at this;lia
def JH{l:List Int}(h:l.Pairwise (·<=·))(c:l.Nodup):l.Pairwise (· < ·):=(h.and c).imp λ{a b}⟨x,y⟩=>by lia
set_option tactic.hygienic true in
def Oi{l:List Int}{x:Int}(h:l.Nodup):(step_dedup l x).Nodup:=by
 unfold step_dedup;split;exact h;rename_i c;refine List.nodup_append.mpr ⟨h,List.pairwise_singleton _ _,λa d b f e=>c ?_⟩;rw[AR.mp f] at e;rw[Kh];exact⟨a,d,by rw[e];simp⟩
theorem Wq(f:Nat->Int):∀i,(B0 f i).Nodup
 |0=>List.nodup_nil
 |i+1=>by rw[Oh];exact Oi (Wq f i)
def LX (P:Program) (w:World) (a:Addr) (ns:List Int):HO:=.ext λh=>∃ds:List Int,ds.Nodup/\(∀y,y∈ds↔y∈ns)/\BZ (intKind P w) (BU w) h a (λy=>ds.any (·==y)) ds.length
section
variable {prog:Program} {w:World} {A:Around} {E:D'} {s:Shared} {D:Addr}
def ZN{M:Int->Bool}(r:A.handled=none)(t:BZ (intKind prog w) (BU w) s.heap D M n)(C:n<64)
 (q:∀(R:Addr)h' c d k out(ks:List Int),(∀b o,s.heap.get? b=some o->h'.get? b=some o)->(∀b o,s.heap.get? b=some o->b≠R)->h'.get? R=some {cls:=.type "list",data:=.seq out k}->IntsAre out.toList ks->ks.length=n->(∀y,M y=true↔y∈ks)->ks.Pairwise (·<=·)->Q (.ref R) {s with heap:=h',drawn:=c,toks:=d}) :
 wpAny (model prog w) A (call (.builtin "sorted") [.ref D]) Q E s:=by
 refine Calls.call_function_entry kind_sorted plain_sorted entry_sorted (args_sorted1 _) ?_;unfold Builtin.«sorted»;refine Ad (m:=checkCount "sorted" 1 1 _) (AB ?_);refine Ad (ZM (A:=A.in1) r t (C9 (BP (by lia))) λf c d a ks g i j u=>?_);have v:a.length<64:=by rw[i.length,j];exact C
 refine Ad (wpAny_newList ?_ (C9 (BP (by lia))));have h:(f.push {cls:=.type "list",data:=.seq a.toArray}).get? f.objs.size=some (seqObj "list" a.toArray 0):=Ci _ rfl;refine Ad (FN (wpAny_call_entry slot_list_sort ⟨_,h,rfl⟩ entry_list_sort (list_sort_tree h i v λout F x l z=>⟨_,rfl,?_⟩) (args_list_sort _)));obtain⟨k,B⟩:=sortedHeap_at (vs:=a) (out:=out) h;refine AB ⟨_,rfl,q f.objs.size _ c d k out F (λb o e=>?_) (λb o e=>CO (Bt (g b o e))) B x (by rw[l.length_eq,j]) (λy=>by rw[u,l.mem_iff]) z⟩;have p:=Bt (g b o e);rw[sortedHeap_old (CO p) (by rw[Heap.size_push];exact Nat.lt_succ_of_lt p)];exact Bg _ (g b o e)
end
section
variable {X:Cx} {pins:B'} {σ:L2.St} {H:Hp} {s:Shared}
def Inv.drew(I:Inv X pins σ H s)(a:Drawn):Inv X pins σ H {s with drawn:=a}:=
 I.step (h':=s.heap) (H':=H) (g':=s.gens) (t':=s.toks) (d':=a) (ch:=[]) (λζ z=>nomatch z) (λζ ζ ζ ζ ζ e ζ=>e) (λζ o ζ ζ ζ e ζ=>⟨o.slots,e⟩) (λζ ζ ζ ζ n=>n) (λζ o ζ e=>⟨o,e⟩) (λζ ζ e=>e) (λζ ζ ζ e=>e) (λζ b e=>⟨#[],by rw[e];simp⟩) (λζ h=>h) I.hok I.bare
def Oj (P:Program) (w:World) (K:Ai):List V->Hp->VK->Prop:=λvs H Q=>∃(p:Addr)(ns:List Int),vs=[.ref p]/\Ag K H p (ns.map V.int)/\ns.length<=4000/\∀q,H q=none->Q (.ref q) (upd H q (LX P w q ns))
def ZO{ns:List Int}{a:List Value}(r:Ax (ns.map V.int) a):∀(i:Nat)(v:Value),a.toArray[i]?=some v->∃t,v=.int (ns.getD i 0) t:=λi v e=>by
 have d:a[i]?=some v:=(by simpa using e);have f:=r.length;rw[Aj] at f;have b:i<ns.length:=by have:=(Bf.mp d).1;lia
 obtain⟨u,c,g⟩:=r.get (i:=i) (x:=.int ns[i]) (by rw[A6,AC b];rfl);rw[d] at c;cases c;rw[BC,AC b];exact g
def ZP(v:X.calm=true):Bn X (.type "set") (Oj X.prog X.w X.K):=by
 intro pins s σ H M N Q I r h;obtain⟨p,c,rfl,w,O,q⟩:=h;obtain⟨u,rfl,z⟩:=F8 r;obtain rfl:u=Value.ref p:=z;obtain⟨g,l,A,_⟩:=I.list w;have m:=l.length;rw[Aj] at m;have t:g.toArray.size=c.length:=(by rw[Cw,m]);refine Zz (f:=λi=>c.getD i 0) (I.ok.hd v) A.isList (ZO l) (by rw[t];unfold scanBound;lia) λB C n k=>?_;have Z:∀b u,s.heap.get? b=some u->B.get? b=some u:=λb u e=>k b u (Bt e) e;refine⟨.ref s.heap.objs.size,upd H s.heap.objs.size (LX X.prog X.w s.heap.objs.size c),I.laid (t':=C) Z (AG _) ?_,rfl,q _ I.fresh⟩;refine⟨⟨_,Wq _ _,λy=>?_,n⟩,?_,λP R⟨D,E,F,G⟩J=>⟨D,E,F,G.keep λK e=>J K e⟩⟩;have:=Wg (λi=>c.getD i 0) g.toArray.size y;rw[Kh] at this;have e:(∃x,x∈B0 (λi=>c.getD i 0) g.toArray.size/\(x==y)=true)↔y∈B0 (λi=>c.getD i 0) g.toArray.size:=⟨λ⟨x,a,b⟩=>by rw[<-eq_of_beq b];exact a,λa=>⟨y,a,by simp⟩⟩;rw[<-e,this,t];constructor;rintro⟨j,d,rfl⟩;rw[BC,AC d];exact Ed d;intro L;obtain⟨j,d,e⟩:=List.getElem_of_mem L;exact⟨j,d,by rw[BC,AC d];exact e⟩;obtain⟨o,_,_,_,e,_⟩:=n;exact⟨o,e⟩
def LY (P:Program) (w:World):List V->Hp->VK->Prop:=λvs H Q=>∃(d:Addr)(ns:List Int),vs=[.ref d]/\H d=some (LX P w d ns)/\(∀ds:List Int,ds.Nodup->(∀y∈ds,y∈ns)->ds.length<64)/\∀D(ms:List Int),ms.Pairwise (· < ·)->(∀y,y∈ms↔y∈ns)->H D=none->Q (.ref D) (upd H D (.lst (ms.map V.int)))
def ZQ(n:X.calm=true):Bn X (.builtin "sorted") (LY X.prog X.w):=by
 intro pins s σ H J K Q I r h;obtain⟨d,L,rfl,hd,E,q⟩:=h;obtain⟨u,rfl,o⟩:=F8 r;obtain rfl:u=Value.ref d:=o;obtain⟨⟨f,g,i,p⟩,_,_⟩:=I.hok d _ hd;have t:=E f g λy e=>(i y).mp e;refine ZN (I.ok.hd n) p t λR M v w k F c Z j z A l B C=>?_
 have m:∀y,y∈c↔y∈f:=λy=>by
  rw[<-B y,Kh];exact⟨λ⟨x,a,b⟩=>by rw[<-eq_of_beq b];exact a,λa=>⟨y,a,by simp⟩⟩
 have D:c.Nodup:=LW g (λy e=>(m y).mpr e) (Nat.le_of_eq l);have G:(c.map V.int).length<=sizeLine:=by rw[Aj,l];exact C9 (BP (by lia))
 exact⟨.ref R,upd H R (.lst (c.map V.int)),(I.drew v).laidN (t':=w) Z j ⟨G,F.toList,k,RY A,by rw[Array.toArray_toList];exact z⟩,rfl,q R c (JH C D) (λy=>(m y).trans (i y)) (I.freshN j)⟩
end
def Fh (gs:List (Str×Int)) (n:Int):List Int:=match gs[n.toNat]? with
 |some p=>if p.1=("sort" : Str) then[p.2] else[]
 |none=>[]
def Ei (gs:List (Str×Int)) (as:List (C')) (q:Int):List Int:=match as[q.toNat]? with
 |some (some w)=>if w.1=("thing" : Str) then Fh gs w.2 else[]
 |_=>[]
def EW (W:Wd) (st:Int) (p:Ck):List Int:=if p.2.1=("by" : Str)/\(EA (Dl W st) p.1).isSome=true then p.2.2::Ei W.gs W.as p.2.2 else[]
def A9 (W:Wd) (b:AJ):List Int:=(BM W b.2.1).flatMap (EW W b.2.2)
def EE (ss:List AY) (w:List Ar):List Int:=if(Ch ss w).2.2.1=("by" : Str) then[(Ch ss w).2.2.2] else[]
def DV (W:Wd) (l:Lk):List Int:=l.1.flatMap (A9 W)++l.2.1.flatMap (EE W.ss)
def Bo (W:Wd) (ls:List Lk) (ts:List Int):List Int:=ls.flatMap (DV W)++ts.flatMap (Fh W.gs)
def F0 (as as':List (C')) (U:List Int):Prop:=∀q∈U,as'[q.toNat]?=as[q.toNat]?
section
variable {ths:List (Str×Int)} {as as':List (C')}
def Wr{n:Int}{k:Str×Int}(h:ths[n.toNat]?=some k)(c:F0 as as' (Fh ths n)):Eo ths as' k=Eo ths as k:=by
 unfold Eo;by_cases b:k.1=("part" : Str);rw[An b,An b];rw[Al b,Al b];by_cases a:k.1=("sort" : Str);rw[An a,An a];have:as'[k.2.toNat]?=as[k.2.toNat]?:=c _ (by unfold Fh;rw[h];dsimp only;rw[An a];exact AR.mpr rfl);unfold ES;rw[this];rw[Al a,Al a]
def ZR{p:Ck}(h:p.2.1=("to" : Str)\/F0 as as' (p.2.2::Ei ths as p.2.2)):DH ths as' p=DH ths as p:=by
 unfold DH;by_cases a:p.2.1=("to" : Str);rw[An a,An a];rw[Al a,Al a];have c:=h.resolve_left a;have d:=c _ A3;rw[d]
 cases e:as[p.2.2.toNat]? with
 |none=>rfl
 |some o =>
   cases o with
   |none=>rfl
   |some w =>
     dsimp only;by_cases b:w.1=("thing" : Str);rw[An b,An b]
     cases f:ths[w.2.toNat]? with
     |none=>rfl
     |some k =>
       refine Wr f λq g=>c q (Ce _ ?_);unfold Ei;rw[e];dsimp only;rw[An b];exact g
     rw[Al b,Al b]
end
section
variable {W:Wd} {as':List (C')} {ord:A'} {sc st:Int}
theorem Wu{go:List (Str×Int)}{s:Int}:∀{l:List Ck}{i:Nat},(∀p∈l,(EA go p.1).isSome=true->DH W.gs as' p=DH W.gs W.as p)->Dc (W.late as') s go l i=Dc W s go l i
 |[],i,_=>rfl
 |p::l,i,h=>by
   show EK (W.late as') s go p i++Dc (W.late as') s go l (i+1)=EK W s go p i++Dc W s go l (i+1);rw[Wu λq b=>h q (Ce _ b)];congr 1;unfold EK
   cases e:EA go p.1 with
   |none=>rfl
   |some a=>dsimp only;rw[h p A3 (by rw[e];rfl)]
def Wv(ok:B9 W)(f:F0 W.as as' (A9 W b)):Gi (W.late as') b.2.1 b.2.2=Gi W b.2.1 b.2.2:=by
 refine Wu λp d g=>ZR ?_
 have h:Ex W.ss.length W.as.length p:=by
  have a:p∈BM W b.2.1:=d;unfold BM at a
  cases e:W.ss[b.2.1.toNat]? with
  |none=>rw[e] at a;cases a
  |some s=>rw[e] at a;exact ok.kst s (Bi e) p a
 rcases h with⟨c,_⟩|⟨c,_⟩;exact .inl c;refine .inr λq i=>f q (List.mem_flatMap.mpr ⟨p,d,?_⟩);unfold EW;rw[An ⟨c,g⟩];exact i
def JI(ok:B9 W){bs:List AJ}(d:∀b,b∈bs↔AS W sc st b)(e:F0 W.as as' (bs.flatMap (A9 W)))(b:AJ):AS (W.late as') sc st b↔AS W sc st b:=by
 have kd:∀c,AS W sc st c->B4 (W.late as') c=B4 W c:=λc f=>by
  unfold B4;rw[Wv ok λq g=>e q (List.mem_flatMap.mpr ⟨c,(d c).mpr f,g⟩)]
 constructor;intro h
 induction h with
 |root=>exact .root
 |@kid b c _ k a=>rw[kd b a] at k;exact .kid a k
 intro h
 induction h with
 |root=>exact .root
 |@kid b c i k a=>rw[<-kd b i] at k;exact .kid a k
theorem Ww{b:AJ}{x:Str}:∀(l:List Ef)(i:Nat),Dd (W.late as') b x l i=Dd W b x l i
 |[],_=>rfl
 |q::l,i=>by
   show FG (W.late as') b x q i++Dd (W.late as') b x l (i+1)=FG W b x q i++Dd W b x l (i+1);rw[Ww l (i+1)];rfl
def ZS(bs:List AJ):DQ (W.late as') x bs=DQ W x bs:=by
 unfold DQ;congr 1;funext b;exact Ww _ _
theorem JJ{α β:Type}{f g:α->List β}:∀{l:List α},(∀a∈l,f a=g a)->l.flatMap f=l.flatMap g
 |[],_=>rfl
 |a::l,h=>by rw[List.flatMap_cons,List.flatMap_cons,h a A3,JJ λb c=>h b (Ce _ c)]
def P5(ok:B9 W){l:Lk}(h:Cv W ord sc st x l os)(a:F0 W.as as' (l.1.flatMap (A9 W))):Cv (W.late as') ord sc st x l os:=by
 refine⟨⟨λb=>(h.b.mem b).trans (JI ok h.b.mem a b).symm,h.b.nd,h.b.srt,h.b.few⟩,⟨by rw[ZS];exact h.f.perm,h.f.srt⟩,h.s,⟨?_,h.o.srt⟩⟩
 have:FH (W.late as') l.1=FH W l.1:=by
  unfold FH
  refine JJ λb c=>?_;rw[Wv ok λq d=>a q (List.mem_flatMap.mpr ⟨b,c,d⟩)]
 rw[this];exact h.o.perm
def ZT(a:F0 W.as as' (EE W.ss w)):FX (W.late as') w=FX W w:=by
 unfold FX
 show(if(Ch W.ss w).2.2.1=("by" : Str)/\as'[(Ch W.ss w).2.2.2.toNat]?=some none then some (Ch W.ss w).2.2.2 else none)=_
 by_cases c:(Ch W.ss w).2.2.1=("by" : Str);rw[a _ (by unfold EE;rw[An c];exact AR.mpr rfl)];rw[Al λz=>c z.1,Al λz=>c z.1]
set_option tactic.hygienic true in
def ZU(b:BJ W)(c:DU W.ss w)(d:F0 W.as as' (EE W.ss w)):Bs (W.late as') w=Bs W w:=by
 unfold Bs
 show(if(Ch W.ss w).2.2.1=("thing" : Str) then some (Ch W.ss w).2.2.2 else match as'[(Ch W.ss w).2.2.2.toNat]? with
  |some (some p)=>if p.1=("thing" : Str) then some p.2 else none
  |_=>none)=_
 rcases Oe b c with⟨a,_⟩|⟨a,_⟩;rw[An a,An a]
 rw[d _ (by unfold EE;rw[An a];exact AR.mpr rfl)]<;>(cases W.as[(Ch W.ss w).2.2.2.toNat]?<;>first|rfl|(rename_i o;cases o<;>rfl))
theorem Wx:∀{ws:List (List Ar)},(∀w∈ws,FX (W.late as') w=FX W w)->Fy (W.late as') ws=Fy W ws
 |[],_=>rfl
 |w::ws,h=>by
   unfold Fy;rw[h w A3,Wx λv hv=>h v (Ce _ hv)]
def P6(ok:B9 W)(e:BJ W)(i:0<=sc/\sc<W.ss.length)(j:0<=st/\st<W.sts.length){l:Lk}(h:Cv W ord sc st x l os)(f:F0 W.as as' (l.2.1.flatMap (EE W.ss)))(at_:Int):Cu (W.late as') ord l.2.1 os at_=Cu W ord l.2.1 os at_:=by
 have sub:∀w∈DT W.ss ord l.2.1 l.2.1,w∈l.2.1:=λw a=>PY a;have c:∀w∈l.2.1,F0 W.as as' (EE W.ss w):=λw a q g=>f q (List.mem_flatMap.mpr ⟨w,a,g⟩)
 have d:FY (W.late as') ord l.2.1 os=FY W ord l.2.1 os:=by
  unfold FY
  show(match FJ W.ss ord l.2.1 os with|some o=>some o|none=>Fy (W.late as') (DT W.ss ord l.2.1 l.2.1))=_
  rw[Wx λw a=>ZT (c w (sub w a))]<;>(cases FJ W.ss ord l.2.1 os<;>rfl)
 cases b:FY W ord l.2.1 os with
 |some o=>rw[Od b,Od (d.trans b)]
 |none =>
   rw[LP b,LP (d.trans b)];have:CQ (W.late as') (DT W.ss ord l.2.1 l.2.1) at_=CQ W (DT W.ss ord l.2.1 l.2.1) at_:=Zq at_ λw a=>ZU e (MT ok i j h w (sub w a)) (c w (sub w a));rw[<-this]
def S7{n:Int}(a:F0 W.as as' (Fh W.gs n)):EC (W.late as') n=EC W n:=by
 unfold EC
 show(match W.gs[n.toNat]? with|some p=>Eo W.gs as' p|none=>(("no" : Str),(0:Int)))=_
 cases e:W.gs[n.toNat]? with
 |none=>rfl
 |some p=>exact Wr e a
end
def F0.sub{a as':List (C')}{U V:List Int}(h:F0 a as' U)(s:∀q∈V,q∈U):F0 a as' V:=λq b=>h q (s q b)
def LZ{as':List (C')}(ok:B9 W)(g:BJ W)(v:0<=inn/\inn<W.sts.length){p:List Str}{w:Option Wt}(k:LU W inn ord sc st p at_ a w ls ts) :
 0<=sc/\sc<W.ss.length->0<=st/\st<W.sts.length->F0 W.as as' (Bo W ls ts)->LU (W.late as') inn ord sc st p at_ a w ls ts:=by
 have j:∀{l:Lk}{ls:List Lk}{ts:List Int},∀q∈l.1.flatMap (A9 W),q∈Bo W (l::ls) ts:=λq b=>E7 _ (List.mem_flatMap.mpr ⟨_,A3,E7 _ b⟩);have m:∀{l:Lk}{ls:List Lk}{ts:List Int},∀q∈l.2.1.flatMap (EE W.ss),q∈Bo W (l::ls) ts:=λq b=>E7 _ (List.mem_flatMap.mpr ⟨_,A3,De _ b⟩);have o:∀{n:Int}{ls:List Lk}{ts:List Int},∀q∈Fh W.gs n,q∈Bo W ls (n::ts):=λq b=>De _ (List.mem_flatMap.mpr ⟨_,A3,b⟩)
 induction k with
 |stop h e n=>exact λd f c=>.stop (P5 ok h (c.sub j)) ((P6 ok g d f h (c.sub m) _).trans e) n
 |opn h e i=>exact λd f c=>.opn (P5 ok h (c.sub j)) ((P6 ok g d f h (c.sub m) _).trans e) ((S7 (c.sub o)).trans i)
 |no h e i=>exact λd f c=>.no (P5 ok h (c.sub j)) ((P6 ok g d f h (c.sub m) _).trans e) ((S7 (c.sub o)).trans i)
 |go h e i x t =>
   intro d f c;have u:=Of ok g (MT ok d f h) e;refine .go (P5 ok h (c.sub j)) ((P6 ok g d f h (c.sub m) _).trans e) ((S7 (c.sub o)).trans i) (t (HL ok u i) v (c.sub λq b=>?_));rcases BB.mp b with b|b;obtain⟨r,s,b⟩:=List.mem_flatMap.mp b;exact E7 _ (List.mem_flatMap.mpr ⟨r,Ce _ s,b⟩);obtain⟨r,s,b⟩:=List.mem_flatMap.mp b;exact De _ (List.mem_flatMap.mpr ⟨r,Ce _ s,b⟩)
section
variable {X:Cx}
end
section
variable {W:Wd} {qs:List Qu} {inn:Int} {ord:A'} {n:Nat} {as as':List Ansr} {ts:List Int}
end
def qA (gs:List (Str×Int)):C'->List Int
 |some w=>if w.1=("thing" : Str) then Fh gs w.2 else[]
 |none=>[]
def JK{gs:List (Str×Int)}{a:List (C')}{o:C'}(h:a[k]?=some o):Ei gs a (k:Int)=qA gs o:=by
 unfold Ei;rw[BK,h];cases o<;>rfl
section
variable {F:Addr->Prop} {H:Hp} {v:V} {d e f:Dt}
def P7{i:Int}(h:A5 F H v (.int i)):v=.int i:=by cases h;rfl
def L0(h:A5 F H v (.str x)):v=.str x:=by cases h;rfl
def Ol(h:A5 F H v (.tup [d,e,f])):∃t x y z,v=.ref t/\H t=some (.tup [x,y,z])/\A5 F H x d/\A5 F H y e/\A5 F H z f:=by
 cases h with
 | tup h t =>
   cases t with
   |cons a t =>
     cases t with
     |cons b t =>
       cases t with
       |cons c t =>
         cases t with
         |nil=>exact⟨_,_,_,_,rfl,h,a,b,c⟩
def P8{b:List Dt}(h:A5 F H v (.lst b)):∃a vs,v=.ref a/\H a=some (.lst vs)/\Az F H vs b:=by
 cases h with
 |lst h f t=>exact⟨_,_,rfl,h,t⟩
def HS(h:A5 F H v (DO.D b)):∃t x,v=.ref t/\H t=some (.tup [x,.int b.2.1,.int b.2.2]):=by
 obtain⟨t,x,y,z,c,a,_,d,e⟩:=Ol (show A5 F H v (.tup [CP.D b.1,.int b.2.1,.int b.2.2]) from h);rw[P7 d,P7 e] at a;exact⟨t,x,c,a⟩
def Om(h:A5 F H v (Px m)):∃t,v=.ref t/\H t=some (.tup (GP m)):=by
 obtain⟨t,x,y,z,b,a,c,d,e⟩:=Ol h;rw[P7 c,L0 d,P7 e] at a;exact⟨t,b,a⟩
theorem Az.app_inv:∀{es b:List Dt}{vs:List V},Az F H vs (es++b)->∃xs ys,vs=xs++ys/\Az F H ys b
 |[],_,vs,h=>⟨[],vs,rfl,h⟩
 |_::es,_,_,.cons a t=>by
   obtain⟨xs,ys,e,h⟩:=Az.app_inv (es:=es) t;exact⟨_::xs,ys,by rw[e];rfl,h⟩
def JL(h:A5 F H v (CP.D (w++[m]))):∃a vs t,v=.ref a/\H a=some (.lst vs)/\Bj vs (-1)=some (.ref t)/\H t=some (.tup (GP m)):=by
 obtain⟨a,vs,c,d,b⟩:=P8 (show A5 F H v (.lst ((w++[m]).map Px)) from h);rw[Bh] at b;obtain⟨xs,g,rfl,e⟩:=b.app_inv
 cases e with
 |cons a t =>
   cases t with
   |nil =>
     obtain⟨t,rfl,f⟩:=Om a;exact⟨_,_,t,c,d,Sr _ _,f⟩
def MU{f:α->Dt}{l:List α}{vs:List V}(h:Az F H vs (l.map f))(hv:vs[i]?=some v):∃b,l[i]?=some b/\A5 F H v (f b):=by
 obtain⟨d,a,c⟩:=h.get hv;rw[A6] at a;obtain⟨b,e,rfl⟩:=F6.mp a;exact⟨b,e,c⟩
end
def MV(h:n<=9000):n<sizeLine:=Nat.lt_of_le_of_lt h (by decide)
theorem MW{α β:Type}{f:α->List β}{n:Nat}:∀{l:List α},(∀a∈l,(f a).length<=n)->(l.flatMap f).length<=n*l.length
 |[],_=>Df _
 |a::l,h=>by
   have d:=h a A3;have e:=MW λb c=>h b (Ce _ c);rw[List.flatMap_cons,AQ,Er,Nat.mul_succ];lia
def Oo{β:Type}{f:α->List β}{l:List α}{a:α}(h:l[i]?=some a):(l.take (i+1)).flatMap f=(l.take i).flatMap f++f a:=by
 rw[Ek,h];show(l.take i++[a]).flatMap f=_;rw[List.flatMap_append]
 simp
def Op{β:Type}{f:α->List β}{l:List α}(i:Nat):((l.take i).flatMap f).length<=(l.flatMap f).length:=by
 have:l.flatMap f=(l.take i).flatMap f++(l.drop i).flatMap f:=(by rw[<-List.flatMap_append,List.take_append_drop]);rw[this,AQ];lia
def S8(gs:List (Str×Int))(n:Int):(Fh gs n).length<=1:=by
 unfold Fh;split;split<;>simp
 simp
def L1(gs:List (Str×Int))(o:C'):(qA gs o).length<=1:=by
 unfold qA;split;split;exact S8 _ _
 simp
 simp
def ZV(gs:List (Str×Int))(a:List (C'))(q:Int):(Ei gs a q).length<=1:=by
 unfold Ei;split;split;exact S8 _ _
 simp
 simp
def ZW(W:Wd)(st:Int)(p:Ck):(EW W st p).length<=2:=by
 unfold EW;have:=ZV W.gs W.as p.2.2;split;rw[Er];lia
 simp
def ZX(ss:List AY)(w:List Ar):(EE ss w).length<=1:=by
 unfold EE;split<;>simp
def ZY{b:Int}{p:Ck}(a:p∈BM W b):∃s∈W.ss,p∈s.1:=by
 unfold BM at a
 cases e:W.ss[b.toNat]? with
 |none=>rw[e] at a;cases a
 |some s=>rw[e] at a;exact⟨s,Bi e,a⟩
def ZZ(a:∀s∈W.ss,s.1.length<=3)(b:AJ):(A9 W b).length<=6:=by
 unfold A9;have c:=MW (f:=EW W b.2.2) (n:=2) (l:=BM W b.2.1) λp ζ=>ZW W b.2.2 p
 have d:(BM W b.2.1).length<=3:=by
  unfold BM
  cases e:W.ss[b.2.1.toNat]? with
  |none=>exact Df _
  |some s=>exact a s (Bi e)
 lia
structure HU (W:Wd) (l:Lk):Prop where
 b:l.1.length<=62
 f:l.2.1.length<=62
 bo:∀b∈l.1,Ca W b
 en:∀w∈l.2.1,DU W.ss w
def P9(ok:B9 W)(d:BJ W){l:Lk}(a:0<=sc/\sc<W.ss.length)(c:0<=st/\st<W.sts.length)(h:Cv W ord sc st x l os):HU W l:=by
 refine⟨h.b.few,?_,λb e=>((h.b.mem b).mp e).ok ok a c,MT ok a c h⟩;have f:=h.f.perm.length_eq;have g:=d.fnd x sc st _ a c h.b;lia
def S9(ok:B9 W)(f:BJ W)(r:0<=inn/\inn<W.sts.length){p:List Str}{w:Option Wt}(k:LU W inn ord sc st p at_ a w ls ts) :
 0<=sc/\sc<W.ss.length->0<=st/\st<W.sts.length->(∀l∈ls,HU W l)/\(∀n∈ts,0<=n/\n<W.gs.length)/\ts.length<=ls.length:=by
 induction k with
 |stop h e n=>exact λb c=>⟨λl d=>by rw[AR.mp d];exact P9 ok f b c h,(λζ z=>by cases z),Df _⟩
 |opn h e i=>exact λb c=>⟨λl d=>by rw[AR.mp d];exact P9 ok f b c h,λn g=>by rw[AR.mp g];exact Of ok f (MT ok b c h) e,AG _⟩
 |no h e i=>exact λb c=>⟨λl d=>by rw[AR.mp d];exact P9 ok f b c h,λn g=>by rw[AR.mp g];exact Of ok f (MT ok b c h) e,AG _⟩
 |go h e i s m =>
   intro b c;have g:=Of ok f (MT ok b c h) e;obtain⟨o,q,t⟩:=m (HL ok g i) r;refine⟨λl d=>?_,λn j=>?_,by rw[Er,Er];lia⟩;rcases BO.mp d with rfl|d;exact P9 ok f b c h;exact o l d;rcases BO.mp j with rfl|j;exact g;exact q n j
def Z0(g:∀s∈W.ss,s.1.length<=3)(e:∀l∈ls,HU W l)(i:ls.length<=8)(j:ts.length<=8):(Bo W ls ts).length<=4000:=by
 unfold Bo;rw[AQ]
 have k:=MW (f:=DV W) (n:=434) (l:=ls) λl h=>by
  unfold DV;rw[AQ];have a:=MW (f:=A9 W) (n:=6) (l:=l.1) λb ζ=>ZZ g b;have b:=MW (f:=EE W.ss) (n:=1) (l:=l.2.1) λw ζ=>ZX W.ss w;have c:=(e l h).b;have d:=(e l h).f;lia
 have m:=MW (f:=Fh W.gs) (n:=1) (l:=ts) λn ζ=>S8 W.gs n;lia
set_option tactic.hygienic true in
def Wy(ok:B9 W){n:Int}(h:q∈Fh W.gs n):0<=q/\q<W.as.length:=by
 unfold Fh at h
 cases e:W.gs[n.toNat]? with
 |none=>rw[e] at h;cases h
 |some p =>
   rw[e] at h;dsimp only at h;split at h;rename_i a;rw[AR.mp h];exact ok.net.q p (Bi e) a;cases h
set_option tactic.hygienic true in
def Wz(ok:B9 W)(f:BJ W)(g:∀l∈ls,HU W l)(h:q∈Bo W ls ts):0<=q/\q<W.as.length:=by
 unfold Bo at h;rcases BB.mp h with h|h;obtain⟨l,i,c⟩:=List.mem_flatMap.mp h;unfold DV at c;rcases BB.mp c with c|c;obtain⟨b,_,d⟩:=List.mem_flatMap.mp c;unfold A9 at d;obtain⟨p,j,a⟩:=List.mem_flatMap.mp d;obtain⟨s,k,m⟩:=ZY j;unfold EW at a;split at a;rename_i o;rcases BO.mp a with rfl|a;exact ok.by_ k m λz=>by rw[o.1] at z;exact absurd z (by decide +kernel)
 unfold Ei at a;split at a;split at a;exact Wy ok a;cases a;cases a;cases a;obtain⟨w,r,d⟩:=List.mem_flatMap.mp c;unfold EE at d;split at d;rename_i t;rw[AR.mp d];rcases Oe f ((g l i).en w r) with⟨e,_⟩|⟨_,e⟩;rw[t] at e;exact absurd e (by decide +kernel);exact e;cases d;obtain⟨n,_,c⟩:=List.mem_flatMap.mp h;exact Wy ok c
def JM:∀{a:List Int},a.Nodup->(∀y∈a,0<=y/\y<(n:Int))->a.length<=n:=λhd h=>Kz n _ hd h
section
variable {K:Ai} {F:Addr->Prop} {H H':Hp} {nt A t:Addr} {W:Wd} {qs:List Qu} {inn:Int} {ord:A'} {as:List Ansr}
variable {H'':Hp} {kvs kvs':List (Bp×V)} {ds:List Int} {fs:List (Int×(Str×Int))} {k:Nat} {q:Qu}
end
def AL{G:Prop}(h:∀N:Prop,(G->N)->N):G:=h G λz=>z
def Ha{g:TG}{σ:St}{t:TS}{D:Ends}(h:let N:=D.nx;let C:=D.ct;g v σ H λσ2 Y=>t {D with nx:=N,ct:=C} σ2 Y):g v σ H (λσ2 Y=>t D σ2 Y):=h
section
variable {W:Wd} {qs:List Qu} {inn:Int} {ord:A'} {H H':Hp} {kvs kvs':List (Bp×V)} {n:Nat} {as:List Ansr} {ts:List Int} {due:List Int} {fs:Fnds} {X:Addr->Prop}
end
theorem Az.set{F:Addr->Prop}{H:Hp}{v:V}{d:Dt}(h:A5 F H v d):∀{vs:List V}{b:List Dt}(j:Nat),Az F H vs b->Az F H (vs.set j v) (b.set j d)
 |_,_,_,.nil=>.nil
 |_,_,0,.cons _ t=>.cons h t
 |_,_,j+1,.cons a t=>.cons a (Az.set h j t)
section
variable {X:Cx}
end
def L3 (n k:Nat):Nat:=n ||| 2 ^ k
theorem WA(j:Nat):∀(l:List Nat)(n:Nat),(l.foldl L3 n).testBit j=true↔n.testBit j=true\/j∈l
 |[],n=>by simp
 |k::l,n=>by
   rw[List.foldl_cons,WA j l];unfold L3;rw[Nat.testBit_or,Nat.testBit_two_pow,Bool.or_eq_true,decide_eq_true_iff,BO,or_assoc];exact or_congr Iff.rfl (or_congr ⟨Eq.symm,Eq.symm⟩ Iff.rfl)
def Z1(a b:Nat):Builtin.bitOr a b=((a ||| b:Nat):Int):=by
 have c:∀x:Int,Builtin.bitNot (Builtin.bitNot x)=x:=λx=>by unfold Builtin.bitNot;lia
 have d:∀x:Nat,decide (0<=Builtin.bitNot (x:Int))=false:=λx=>El (by unfold Builtin.bitNot;lia);unfold Builtin.bitOr Builtin.bitAnd;rw[d,d];dsimp only;rw[c,c,c];rfl
def Oq (n:Int) (b:AJ):Int:=Builtin.bitOr n (1*2 ^ b.2.1.toNat)
def Fz (n:Int) (l:Lk):Int:=l.1.foldl Oq n
def KG (ls:List Lk):List Nat:=ls.flatMap λl=>l.1.map λb=>b.2.1.toNat
def JN(n:Nat)(b:AJ):Oq (n:Int) b=((L3 n b.2.1.toNat:Nat):Int):=by
 unfold Oq L3;rw[Int.one_mul,show(2:Int) ^ b.2.1.toNat=((2 ^ b.2.1.toNat:Nat):Int) by push_cast;rfl,Z1]
theorem WB:∀(l:List AJ)(n:Nat),l.foldl Oq (n:Int)=(((l.map λb=>b.2.1.toNat).foldl L3 n:Nat):Int)
 |[],n=>rfl
 |b::l,n=>by rw[List.foldl_cons,JN,WB l];rfl
theorem WC:∀(ls:List Lk)(n:Nat),ls.foldl Fz (n:Int)=(((KG ls).foldl L3 n:Nat):Int)
 |[],n=>rfl
 |l::ls,n=>by
   rw[List.foldl_cons,show Fz (n:Int) l=_ from WB l.1 n,WC ls];unfold KG;rw[List.flatMap_cons,Ki]
abbrev Wd.scp (W:Wd) (u:List AY):Wd:=⟨u,W.gs,W.as,W.sts⟩
section
variable {ss u:List AY} {ord:A'}
def WD(h:u[m.1.toNat]?=ss[m.1.toNat]?):Fd u m=Fd ss m:=by unfold Fd;rw[h]
def Ta(h:∀m∈w,u[m.1.toNat]?=ss[m.1.toNat]?):Ch u w=Ch ss w:=by
 unfold Ch
 cases e:w.getLast? with
 |none=>rfl
 |some m=>dsimp only;unfold Jz;rw[h m (List.mem_of_getLast? e)]
theorem Tb:∀{v w:List Ar},(∀m∈v,u[m.1.toNat]?=ss[m.1.toNat]?)->(∀m∈w,u[m.1.toNat]?=ss[m.1.toNat]?)->DR u ord v w=DR ss ord v w
 |[],w,_,_=>by rw[MR u ord (.inl rfl),MR ss ord (.inl rfl)]
 |m::d,[],_,_=>by rw[MR u ord (.inr rfl),MR ss ord (.inr rfl)]
 |m::d,q::f,b,c=>by
   by_cases e:m=q;subst e;rw[Sw,Sw];exact Tb (λn a=>b n (Ce _ a)) λn a=>c n (Ce _ a);rw[Sx _ _ _ _ e,Sx _ _ _ _ e,WD (b m A3),WD (c q A3)]
def WE{ws:List (List Ar)}(h:∀v∈ws,∀m∈v,u[m.1.toNat]?=ss[m.1.toNat]?)(c:∀m∈w,u[m.1.toNat]?=ss[m.1.toNat]?):(ws.any λv=>DR u ord v w)=ws.any λv=>DR ss ord v w:=by
 rw[Bool.eq_iff_iff,Kh,Kh];exact⟨λ⟨v,a,b⟩=>⟨v,a,by rw[<-Tb (h v a) c];exact b⟩,λ⟨v,a,b⟩=>⟨v,a,by rw[Tb (h v a) c];exact b⟩⟩
def WF{ws:List (List Ar)}(h:∀v∈ws,∀m∈v,u[m.1.toNat]?=ss[m.1.toNat]?):DT u ord ws ws=DT ss ord ws ws:=by
 unfold DT;exact List.filter_congr λw a=>by rw[WE h (h w a)]
theorem WG{ws:List (List Ar)}(h:∀v∈ws,∀m∈v,u[m.1.toNat]?=ss[m.1.toNat]?):∀{os:List Ow},(∀o∈os,∀m∈o.1,u[m.1.toNat]?=ss[m.1.toNat]?)->FJ u ord ws os=FJ ss ord ws os
 |[],_=>rfl
 |o::os,a=>by
   unfold FJ;rw[WE h (a o A3),WG h λp b=>a p (Ce _ b)]
end
section
variable {W:Wd} {u:List AY} {ord:A'} {sc st:Int}
def WH{s:Int}(h:u[s.toNat]?=W.ss[s.toNat]?):BM (W.scp u) s=BM W s:=by unfold BM;rw[show(W.scp u).ss[s.toNat]?=_ from h]
def Z2{s:Int}(h:u[s.toNat]?=W.ss[s.toNat]?):FV (W.scp u) s=FV W s:=by unfold FV;rw[show(W.scp u).ss[s.toNat]?=_ from h]
theorem WI{go:List (Str×Int)}{s:Int}:∀(l:List Ck)(i:Nat),Dc (W.scp u) s go l i=Dc W s go l i
 |[],_=>rfl
 |p::l,i=>by
   show EK (W.scp u) s go p i++Dc (W.scp u) s go l (i+1)=EK W s go p i++Dc W s go l (i+1);rw[WI l (i+1)];rfl
def WJ{s t:Int}(h:u[s.toNat]?=W.ss[s.toNat]?):Gi (W.scp u) s t=Gi W s t:=by
 show Dc (W.scp u) s (Dl W t) (BM (W.scp u) s) 0=Dc W s (Dl W t) (BM W s) 0;rw[WH h,WI]
def JO{bs:List AJ}(d:∀b,b∈bs↔AS W sc st b)(e:∀b∈bs,u[b.2.1.toNat]?=W.ss[b.2.1.toNat]?)(b:AJ):AS (W.scp u) sc st b↔AS W sc st b:=by
 have kd:∀c,AS W sc st c->B4 (W.scp u) c=B4 W c:=λc f=>by
  unfold B4;rw[WJ (e c ((d c).mpr f))]
 constructor;intro h
 induction h with
 |root=>exact .root
 |@kid b c _ k a=>rw[kd b a] at k;exact .kid a k
 intro h
 induction h with
 |root=>exact .root
 |@kid b c g k a=>rw[<-kd b g] at k;exact .kid a k
def JP(h:AS W sc st b):∀m∈b.1,∃c,AS W sc st c/\c.2.1=m.1:=by
 induction h with
 |root=>intro m d;cases d
 |@kid b c e k f =>
   intro m d;obtain⟨r,g,_,_,rfl⟩:=Be.mp k;rcases BB.mp d with d|d;exact f m d;obtain⟨j,p,a,_,_,rfl⟩:=MO g;rw[AR.mp d];exact⟨b,e,rfl⟩
theorem WK{b:AJ}{x:Str}:∀(l:List Ef)(i:Nat),Dd (W.scp u) b x l i=Dd W b x l i
 |[],_=>rfl
 |q::l,i=>by
   show FG (W.scp u) b x q i++Dd (W.scp u) b x l (i+1)=FG W b x q i++Dd W b x l (i+1);rw[WK l (i+1)];rfl
def Tc{l:Lk}(h:Cv W ord sc st x l os)(g:∀b∈l.1,u[b.2.1.toNat]?=W.ss[b.2.1.toNat]?):(∀v∈l.2.1,∀m∈v,u[m.1.toNat]?=W.ss[m.1.toNat]?)/\∀o∈os,∀m∈o.1,u[m.1.toNat]?=W.ss[m.1.toNat]?:=by
 have i:∀b∈l.1,∀m∈b.1,u[m.1.toNat]?=W.ss[m.1.toNat]?:=λb f m d=>by
  obtain⟨c,k,e⟩:=JP ((h.b.mem b).mp f) m d;rw[<-e];exact g c ((h.b.mem c).mpr k)
 refine⟨λv n m d=>?_,λo r m d=>?_⟩;obtain⟨b,f,j,q,_,_,_,rfl⟩:=Ss (h.f.perm.mem_iff.mp n);rcases BB.mp d with d|d;exact i b f m d;rw[AR.mp d];exact g b f;obtain⟨b,f,j,p,a,_,_,_,rfl⟩:=VF (h.o.perm.mem_iff.mp r);rcases BB.mp d with d|d;exact i b f m d;rw[AR.mp d];exact g b f
def Qa{l:Lk}(h:Cv W ord sc st x l os)(a:∀b∈l.1,u[b.2.1.toNat]?=W.ss[b.2.1.toNat]?):Cv (W.scp u) ord sc st x l os:=by
 have d:=(Tc h a).1;refine⟨⟨λb=>(h.b.mem b).trans (JO h.b.mem a b).symm,h.b.nd,h.b.srt,h.b.few⟩,⟨?_,h.f.srt⟩,h.s.trans (WF d).symm,⟨?_,h.o.srt⟩⟩
 have:DQ (W.scp u) x l.1=DQ W x l.1:=by
  unfold DQ;refine JJ λb c=>?_;rw[Z2 (a b c),WK]
 rw[this];exact h.f.perm
 have:FH (W.scp u) l.1=FH W l.1:=by
  unfold FH
  refine JJ λb c=>?_;rw[WJ (a b c)]
 rw[this];exact h.o.perm
def Z3(h:∀m∈w,u[m.1.toNat]?=W.ss[m.1.toNat]?):FX (W.scp u) w=FX W w:=by
 unfold FX;rw[show Ch (W.scp u).ss w=_ from Ta h]
def Z4(h:∀m∈w,u[m.1.toNat]?=W.ss[m.1.toNat]?):Bs (W.scp u) w=Bs W w:=by
 unfold Bs;rw[show Ch (W.scp u).ss w=_ from Ta h]
theorem WL:∀{ws:List (List Ar)},(∀w∈ws,FX (W.scp u) w=FX W w)->Fy (W.scp u) ws=Fy W ws
 |[],_=>rfl
 |w::ws,h=>by
   unfold Fy;rw[h w A3,WL λv hv=>h v (Ce _ hv)]
def JQ(h:∀w∈C,Bs (W.scp u) w=Bs W w):CQ (W.scp u) C at_=CQ W C at_:=by
 have b:(∀w∈C,Bs (W.scp u) w=none)↔∀w∈C,Bs W w=none:=⟨λz w a=>by rw[<-h w a];exact z w a,λz w a=>by rw[h w a];exact z w a⟩;have c:∀n,(∀w∈C,Bs (W.scp u) w=some n)↔∀w∈C,Bs W w=some n:=λn=>⟨λz w a=>by rw[<-h w a];exact z w a,λz w a=>by rw[h w a];exact z w a⟩;unfold CQ;simp only[b,c]
 cases C with
 |nil=>rfl
 |cons w r=>simp only[h w A3]
def Qb{l:Lk}(h:Cv W ord sc st x l os)(g:∀b∈l.1,u[b.2.1.toNat]?=W.ss[b.2.1.toNat]?)(at_:Int):Cu (W.scp u) ord l.2.1 os at_=Cu W ord l.2.1 os at_:=by
 obtain⟨c,i⟩:=Tc h g;have e:DT (W.scp u).ss ord l.2.1 l.2.1=DT W.ss ord l.2.1 l.2.1:=WF c;have sub:∀w∈DT W.ss ord l.2.1 l.2.1,w∈l.2.1:=λw a=>PY a
 have f:FY (W.scp u) ord l.2.1 os=FY W ord l.2.1 os:=by
  unfold FY;rw[e,show FJ (W.scp u).ss ord l.2.1 os=_ from WG c i,WL λw a=>Z3 (c w (sub w a))]
 cases d:FY W ord l.2.1 os with
 |some o=>rw[Od d,Od (f.trans d)]
 |none=>rw[LP d,LP (f.trans d),e,JQ λw a=>Z4 (c w (sub w a))]
end
def L4{u:List AY}{p:List Str}{w:Option Wt}(k:LU W inn ord sc st p at_ a w ls ts) :
 (∀l∈ls,∀b∈l.1,u[b.2.1.toNat]?=W.ss[b.2.1.toNat]?)->LU (W.scp u) inn ord sc st p at_ a w ls ts/\Bo (W.scp u) ls ts=Bo W ls ts:=by
 have d:∀{sc st:Int}{x:Str}{l:Lk}{os:List Ow},Cv W ord sc st x l os->(∀b∈l.1,u[b.2.1.toNat]?=W.ss[b.2.1.toNat]?)->DV (W.scp u) l=DV W l:=λ{sc st x l os}h c=>by
  unfold DV;rw[JJ (f:=A9 (W.scp u)) (g:=A9 W) λb o=>?_,JJ (f:=EE (W.scp u).ss) (g:=EE W.ss) λw q=>?_];unfold EE
  rw[show Ch (W.scp u).ss w=_ from Ta ((Tc h c).1 w q)]
  unfold A9;rw[WH (c b o)];rfl
 have j:∀{l:Lk}{ts:List Int},DV (W.scp u) l=DV W l->Bo (W.scp u) [l] ts=Bo W [l] ts:=λ{l ts}e=>by
  unfold Bo;rw[List.flatMap_cons,List.flatMap_cons,e];rfl
 induction k with
 |stop h e n=>exact λc=>⟨.stop (Qa h (c _ A3)) ((Qb h (c _ A3) _).trans e) n,j (d h (c _ A3))⟩
 |opn h e i=>exact λc=>⟨.opn (Qa h (c _ A3)) ((Qb h (c _ A3) _).trans e) i,j (d h (c _ A3))⟩
 |no h e i=>exact λc=>⟨.no (Qa h (c _ A3)) ((Qb h (c _ A3) _).trans e) i,j (d h (c _ A3))⟩
 |go h e i v r =>
   intro c;obtain⟨s,m⟩:=r λl t=>c l (Ce _ t);refine⟨.go (Qa h (c _ A3)) ((Qb h (c _ A3) _).trans e) i s,?_⟩;unfold Bo at m ⊢;rw[List.flatMap_cons,List.flatMap_cons (f:=DV W),d h (c _ A3),(List.append_inj' m rfl).1]
def Td (K:Ai) (a:Addr) (n:Nat):It:=
 ⟨λi H=>∃xs x,Ag K H a xs/\xs.length=n/\xs.reverse[i]?=some x,λi H x H'=>H'=H/\∀xs,Ag K H a xs->xs.reverse[i]?=some x,λi H=>∃xs,Ag K H a xs/\xs.length=n/\i=n⟩
theorem Z5{P:Program}{w:World}{K:Ai}{Q:Expr}(a f:Addr)(n:Nat):FQ P w K Q (Td K a n) [f] f (λi h=>h.IsRevIter f a ((n:Int)-1-i)) where
 mem:=by simp
 obj:=λi h st b g=>by
  have e:b=f:=(by simpa using g);subst e;obtain⟨o,e,c,d⟩:=st;exact⟨o,e,λv z=>by rw[d] at z;cases z⟩
 keep:=λi h j st k=>st.at λo e=>k f (by simp) o e
 item:=by
  intro X q r t M i O s σ H E I l st y;subst q r t;obtain⟨xs,x,A,R,B⟩:=y;obtain⟨aa,S,p,hz⟩:=I.list A;have m:=(Bf.mp B).1;rw[List.length_reverse] at m;have N:=B;rw[List.getElem?_reverse m] at N;obtain⟨u,T,U⟩:=S.get N;obtain⟨C,D,V,F,G,J⟩:=l f (by simp);have W:(n:Int)-1-i=((xs.length-1-i:Nat):Int):=(by lia);rw[W] at st;refine wpAny_pyNext_rev_item st p.isList (x:=u) (by simpa using T) λj L Y=>?_;have Z:((xs.length-1-i:Nat):Int)-1=(n:Int)-1-((i+1:Nat):Int):=(by lia);rw[Z] at L;have I1:Inv X O σ H {s with heap:=j}:=I.turned (t':=s.toks) (λb o g e=>(Y.2 b g).trans e) C D F G J;obtain⟨o,e,c,d⟩:=id L;exact⟨u,rfl,O9 (s:={s with heap:=j}) e c d (by decide) ⟨x,H,I1,U,⟨rfl,λys hy=>by rw[I.list_inj hy A];exact B⟩,L,λb g=>(l b g).1⟩⟩
 done:=by
  intro X q r t M i O s σ H E I l st y;subst q r t;obtain⟨xs,A,R,m⟩:=y;obtain⟨C,D,V,F,G,J⟩:=l f (by simp);rw[m,show(n:Int)-1-n=-1 by lia] at st;exact wpAny_pyNext_rev_end (I.ok.hd M) st λj eb=>⟨rfl,I.turned (t':=s.toks) (λb o g e=>eb b o g e) C D F G J⟩
 self:=λζ ζ ζ ζ ζ st h=>wpAny_pyIter_revIter st h
def Tf (K:Ai) (ta:TA):TI:=λσ H R=>ta σ H λvs U=>∃l xs,vs=[.ref l]/\Ag K U l xs/\R (Td K l xs.length) U
def HV{X:Cx}{i a:Expr}{f:TA}{p L:Pos}(j:Gl X "reversed")(k:X.mg "reversed" = none)(m:PA X [a] f)(n:starEach [a] X.env=[(false,eval a X.env)]:=by rfl) :
 PI X i (.Call (.Name "reversed" p) [a] [] L) (Tf X.K f):=by
 intro C s σ H R I h;refine Call_ (IJ I j k (u:=.type "reversed") (by decide +kernel) (PyProof.Rows.callWith_type1 (AO (m L C s σ H _ I h) λE c⟨F,U,d,r,t⟩=>?_) (by rw[n];rfl) (by rfl)));obtain⟨l,xs,rfl,v,q⟩:=t;obtain⟨w,rfl,A⟩:=F8 r;obtain rfl:w=Value.ref l:=A;obtain⟨B,x,y,G⟩:=d.list v;have D:=x.length;refine call_reversed_list y.isList ?_;have e:((B.toArray.size:Nat):Int)-1=(xs.length:Int)-1-((0:Nat):Int):=by rw[Cw,D];lia
 rw[e];have g:(c.heap.push (revObj l ((xs.length:Int)-1-((0:Nat):Int)))).IsRevIter c.heap.objs.size l ((xs.length:Int)-1-((0:Nat):Int)):=⟨_,Ci _ rfl,rfl,rfl⟩;refine wpAny_pyIter_revIter (s:={c with heap:=c.heap.push (revObj l ((xs.length:Int)-1-((0:Nat):Int)))}) g ?_;refine⟨_,[c.heap.objs.size],_,_,U,rfl,d.kept (t':=c.toks) (λb o e=>Bg _ e),Z5 l _ xs.length,g,λb z=>?_,q⟩;have e:b=c.heap.objs.size:=(by simpa using z);subst e;exact d.fpOk (AG _) (d.hok.fresh (AG _))
def WM{K:Ai}{a:Addr}{xs:List V}{e:List Nat}{g:TG}{te:TE}{σ:St}{Q:Addr->Hp->Prop}(Pv:Addr->Nat->List V->Hp->Prop)
 (f:∀D,U D=none->Pv D 0 [] (upd U D (.lst []))) (b:∀D i ys Y,Pv D i ys Y->Ag K Y a xs)
 (h:∀D i x ys Y(R:VK),U D=none->xs.reverse[i]?=some x->Pv D i ys Y->(∀y c,c D=some (.lst ys)->ys.length<sizeLine->Pv D (i+1) (ys++[y]) (upd c D (.lst (ys++[y])))->R y c)->g x (FT k e σ) Y λσ4 j=>te σ4 j R)
 (hd:∀D ys Y,U D=none->Pv D xs.length ys Y->Q D Y):Ku (Td K a xs.length) k e g Hr te σ U Q:=NU xs.length Pv f (λD i ys Y p d=>⟨xs,xs.reverse[i]'(by rw[List.length_reverse];exact d),b D i ys Y p,rfl,AC _⟩) (λD ys Y p=>⟨xs,b D _ ys Y p,rfl,rfl⟩) (λD i ys Y x m R n l d p y k o=>by obtain⟨rfl,y⟩:=y;exact h D i x ys _ R l (y xs (b D i ys _ p)) p k) hd
end L2
abbrev L2.SF (n:List (PySem.Str×PySem.NameKind)):PySem.Scope:={kind:=.function,names:=n,isGenerator:=false,isCoroutine:=false,more:=[]}
def L2.new_at{H:L2.Hp}{a:PySem.Addr}{o:L2.HO}(h:H a=none):∃H':L2.Hp,H'=L2.upd H a o/\L2.Ac H H'/\H' a=some o:=⟨_,rfl,L2.A8 h,L2.Aa⟩
variable {α β:Type}{i:Nat}
def L2.getm{f:α->β}{l:List α}{x:β}(h:(l.map f)[i]?=some x):∃z,l[i]?=some z/\f z=x:=by
 rw[A6] at h;exact F6.mp h
namespace K37
open PySem PySem.Spec PyProof.Rows L2 Ord
local macro_rules | `(tactic| trivial) => `(tactic| exact ⟨rfl, rfl, rfl, by decide +kernel, rfl, by decide +kernel, by decide +kernel⟩)
local macro_rules | `(tactic| trivial) => `(tactic| exact ⟨rfl, by decide +kernel, by decide +kernel, by decide +kernel, rfl, by decide +kernel, by decide +kernel⟩)
local macro_rules | `(tactic| rfl') => `(tactic| try dsimp only[AE,Cx.nox,Cx.wish])
def Iz:Af ["_law_cell", "_law_many", "_law_letters", "_law_long", "_law_at", "_law_some", "_law_k", "_law_name", "_law_j", "_law_sign"] ["_law_cell", "_law_many"] (AX QM):=by trivial
def Z6:Af ["_law_script", "_law_k"] ["_law_script", "_law_k"] (AX QN):=by trivial
def Qc:Af ["_law_number", "_law_many", "_law_some", "_law_k"] ["_law_number", "_law_many"] (AX QO):=by trivial
def L5:Af ["_law_cell", "_law_labels", "_law_one", "_law_other_here", "_law_some", "_law_j", "_law_k"] ["_law_cell", "_law_labels"] (AX QP):=by trivial
def L6:Af ["_law_cells", "_law_labels", "_law_states", "_law_cell", "_law_ranks_here", "_law_goes", "_law_ends", "_law_k"] ["_law_cells", "_law_labels"] (AX QQ):=by trivial
def Tg:Af ["_law_cell", "_law_many", "_law_states", "_law_names_here", "_law_mixed", "_law_path"] ["_law_cell", "_law_many", "_law_states", "_law_names_here"] (AX QR):=by trivial
def WN:Af ["_law_cell", "_law_many", "_law_asked_here", "_law_number"] ["_law_cell", "_law_many", "_law_asked_here"] (AX QS):=by trivial
def Th:Af ["_law_cell", "_law_labels", "_law_many", "_law_asked_here", "_law_label", "_law_number"] ["_law_cell", "_law_labels", "_law_many", "_law_asked_here"] (AX QU):=by trivial
def Qd:Af ["_law_cell", "_law_labels", "_law_names_here", "_law_things", "_law_asked_here", "_law_label", "_law_number", "_law_name"] ["_law_cell", "_law_labels", "_law_names_here", "_law_things", "_law_asked_here"] (AX QV):=by trivial
def MX:Af ["_law_cells", "_law_labels", "_law_names_here", "_law_many", "_law_sizes", "_law_scopes_here", "_law_most", "_law_cell", "_law_at", "_law_number"] ["_law_cells", "_law_labels", "_law_names_here", "_law_many", "_law_sizes"] (AX OZ):=by trivial
def Cm:AA (AX OZ) ["_law_cells", "_law_labels", "_law_names_here", "_law_many", "_law_sizes", "_law_scopes_here", "_law_most", "_law_cell", "_law_at", "_law_number"] (SF [(".0",.local),("_law_k",.local)]) ["_law_k"] 1 []:=by trivial
def Hb:Af ["_law_script", "_law_names_here", "_law_labels", "_law_table_here", "_law_head", "_law_many", "_law_cells", "_law_things", "_law_questions", "_law_asked_here", "_law_cell", "_law_scopes_here"] ["_law_script"] (AX Ng):=by trivial
def CS:AA (AX Ng) ["_law_script", "_law_names_here", "_law_labels", "_law_table_here", "_law_head", "_law_many", "_law_cells", "_law_things", "_law_questions", "_law_asked_here", "_law_cell", "_law_scopes_here"] (SF [ (".0",.local),("_law_k",.local),("_law_cell_at",.globalImplicit),("_law_script",.free)]) ["_law_k", "_law_script"] 1 [0]:=by trivial
def CT:AA (AX Ng) ["_law_script", "_law_names_here", "_law_labels", "_law_table_here", "_law_head", "_law_many", "_law_cells", "_law_things", "_law_questions", "_law_asked_here", "_law_cell", "_law_scopes_here"] (SF [(".0",.local),("_law_cell",.local)]) ["_law_cell"] 1 []:=by trivial
def MY:Af ["_law_cell", "_law_net", "_law_number", "_law_some", "_law_question_here", "_law_at"] ["_law_cell", "_law_net"] (AX QW):=by trivial
def Qe:Af ["table", "state", "label", "goes", "known", "number"] ["table", "state", "label"] (AX QX):=by trivial
def Qf:Af ["net", "answers", "question", "answer", "kind", "number"] ["net", "answers", "question"] (AX QY):=by trivial
def Ti:Af ["net", "answers", "thing", "kind", "number"] ["net", "answers", "thing"] (AX QZ):=by trivial
def Ot:Af ["net", "answers", "step", "label", "kind", "number", "answer"] ["net", "answers", "step"] (AX Q0):=by trivial
def L7:Af ["net", "answers", "table", "scope", "state", "gone", "index", "step", "after", "kind", "number"] ["net", "answers", "table", "scope", "state"] (AX Q1):=by trivial
def IA:Af ["net", "answers", "table", "beginning", "marks", "last", "then", "come_to", "longer", "mark", "kind", "number", "after"] ["net", "answers", "table", "beginning"] (AX O0):=by trivial
def Bz:AA (AX O0) ["net", "answers", "table", "beginning", "marks", "last", "then", "come_to", "longer", "mark", "kind", "number", "after"] (SF [(".0",.local),("mark",.local)]) ["mark"] 1 []:=by trivial
def Qg:Af ["net", "answers", "table", "scope", "state", "found", "place"] ["net", "answers", "table", "scope", "state"] (AX Q2):=by trivial
def WO:Af ["table", "state", "label", "ends"] ["table", "state", "label"] (AX Q3):=by trivial
def L8:Af ["net", "table", "begun", "name", "ways", "marks", "last", "then", "index", "telling"] ["net", "table", "begun", "name"] (AX Q4):=by trivial
def Z7:Af ["table"] ["table"] (AX O1):=by trivial
def Cc:AA (AX O1) ["table"] (SF [(".0",.local),("pair",.local)]) ["pair"] 1 []:=by trivial
def L9:Af ["ways", "tree", "number", "way", "branch", "mark"] ["ways"] (AX Q6):=by trivial
def MZ:Af ["net", "mark", "scope", "kind", "index", "steps", "tellings"] ["net", "mark"] (AX Q7):=by trivial
def Ma:Af ["net", "better", "tree", "way", "numbers", "branch", "mark", "label", "beside"] ["net", "better", "tree", "way"] (AX Q8):=by trivial
def Tj:Af ["net", "table", "ways", "better", "tree"] ["net", "table", "ways"] (AX O3):=by trivial
def CU:AA (AX O3) ["net", "table", "ways", "better", "tree"] (SF [ (".0",.local),("way",.local),("first_hider",.globalImplicit),("list",.globalImplicit),("better",.free),("net",.free),("tree",.free)]) ["way", "net", "better", "tree"] 1 [0,3,4]:=by trivial
def WP:Af ["net", "table", "begun", "name", "found"] ["net", "table", "begun", "name"] (AX Q9):=by trivial
def Ou:Af ["net", "table", "found", "owed", "better", "tree", "way", "question"] ["net", "table", "found", "owed"] (AX Ra):=by trivial
def Ov:Af ["net", "mark", "scope", "kind", "index", "tellings"] ["net", "mark"] (AX Rb):=by trivial
def M0:Af ["net", "answers", "seen", "way", "label", "name", "kind", "number"] ["net", "answers", "seen"] (AX Rc):=by trivial
def Mb:Af ["net", "answers", "way", "label", "name", "kind", "number"] ["net", "answers", "way"] (AX Re):=by trivial
def JR:Af ["net", "answers", "table", "owed", "look", "at", "begun", "found", "seen", "waiting", "way", "question", "meanings"] ["net", "answers", "table", "owed", "look", "at"] (AX Mz):=by trivial
def GF:AA (AX Mz) ["net", "answers", "table", "owed", "look", "at", "begun", "found", "seen", "waiting", "way", "question", "meanings"] (SF [ (".0",.local),("way",.local),("meaning",.globalImplicit),("answers",.free),("net",.free)]) ["way", "net", "answers"] 1 [0,1]:=by trivial
def GG:AA (AX Mz) ["net", "answers", "table", "owed", "look", "at", "begun", "found", "seen", "waiting", "way", "question", "meanings"] (SF [(".0",.local),("thing",.local)]) ["thing"] 1 []:=by trivial
def GH:AA (AX Mz) ["net", "answers", "table", "owed", "look", "at", "begun", "found", "seen", "waiting", "way", "question", "meanings"] (SF [ (".0",.local),("thing",.local),("meanings",.free)]) ["thing", "meanings"] 1 [12]:=by trivial
def JS:Af ["net", "answers", "table", "begun", "ways", "marks", "last", "then", "mark", "kind", "number", "after"] ["net", "answers", "table", "begun"] (AX Rf):=by trivial
def Gm:Af ["net", "answers", "table", "asked", "scope", "state", "path", "looks", "things", "at", "name", "begun", "answer", "wait", "kind", "number"] ["net", "answers", "table", "asked"] (AX Rg):=by trivial
def Ox:Af ["net", "answers", "table", "question", "answer", "wait", "looks", "things"] ["net", "answers", "table", "question"] (AX Rh):=by trivial
def Oy:Af ["net", "answers", "table", "question", "answer", "wait", "looks", "things"] ["net", "answers", "table", "question"] (AX O4):=by trivial
def CN:AA (AX O4) ["net", "answers", "table", "question", "answer", "wait", "looks", "things"] (SF [ (".0",.local),("begun",.local),("found",.local),("seen",.local)]) ["begun", "found", "seen"] 3 []:=by trivial
def JT:Af ["looks", "scopes", "begun", "found", "seen", "marks", "last", "then"] ["looks"] (AX Ri):=by trivial
def Oz:Af ["net", "answers", "table", "question", "answer", "wait", "looks", "things"] ["net", "answers", "table", "question"] (AX Rj):=by trivial
def Tk:Af ["net", "thing", "kind", "number"] ["net", "thing"] (AX Rk):=by trivial
def Z8:Af ["net", "answer"] ["net", "answer"] (AX Rl):=by trivial
def KH:Af ["net", "answers", "table", "begun", "questions", "marks", "last", "then", "label", "kind", "number"] ["net", "answers", "table", "begun"] (AX Rm):=by trivial
def Mc:Af ["net", "found", "questions", "way", "label", "name", "kind", "number"] ["net", "found"] (AX Rn):=by trivial
def M1:Af ["net", "answers", "table", "looks", "things", "questions", "begun", "found", "seen", "thing"] ["net", "answers", "table", "looks", "things"] (AX Ro):=by trivial
def OA:Af ["net", "answers", "table", "question", "answer", "wait", "looks", "things"] ["net", "answers", "table", "question"] (AX Rp):=by trivial
def Tl:Af ["_law_net", "_law_answers_here", "_law_table_here", "_law_question_here", "_law_one", "_law_ways"] ["_law_net", "_law_answers_here", "_law_table_here", "_law_question_here"] (AX Rq):=by trivial
def M3:Af ["_law_net", "_law_cell", "_law_k", "_law_scopes_here", "_law_way", "_law_steps", "_law_tellings"] ["_law_net", "_law_cell", "_law_k"] (AX MA):=by trivial
def Cn:AA (AX MA) ["_law_net", "_law_cell", "_law_k", "_law_scopes_here", "_law_way", "_law_steps", "_law_tellings"] (SF [ (".0",.local),("_law_step_here",.local),("len",.globalImplicit),("_law_k",.free),("_law_scopes_here",.free)]) ["_law_step_here", "_law_k", "_law_scopes_here"] 1 [2,3]:=by trivial
def Co:AA (AX MA) ["_law_net", "_law_cell", "_law_k", "_law_scopes_here", "_law_way", "_law_steps", "_law_tellings"] (SF [ (".0",.local),("_law_one",.local),("len",.globalImplicit),("_law_cell",.free),("_law_net",.free)]) ["_law_one", "_law_cell", "_law_net"] 1 [1,0]:=by trivial
def Cp:AA (AX MA) ["_law_net", "_law_cell", "_law_k", "_law_scopes_here", "_law_way", "_law_steps", "_law_tellings"] (SF [ (".0",.local),("_law_one",.local),("len",.globalImplicit),("_law_cell",.free),("_law_net",.free)]) ["_law_one", "_law_cell", "_law_net"] 1 [1,0]:=by trivial
def KI:Af ["_law_net", "_law_answers_here", "_law_cell", "_law_question_here", "_law_bits", "_law_some", "_law_scopes_here", "_law_k", "_law_scope", "_law_questions", "_law_known"] ["_law_net", "_law_answers_here", "_law_cell", "_law_question_here", "_law_bits", "_law_some"] (AX Rr):=by trivial
def To:Af ["_law_found", "_law_due", "_law_one", "_law_other_here"] ["_law_found", "_law_due"] (AX Nh):=by trivial
def IB:Af ["_law_script", "_law_net", "_law_table_here", "_law_cell", "_law_answers_here", "_law_question_here", "_law_due", "_law_other_here", "_law_known", "_law_told"] ["_law_script"] (AX Kk):=by trivial
structure BA (mg:Str->Option Value):Prop where
 b_all:mg "all" = none
 b_any:mg "any" = none
 b_bool:mg "bool" = none
 b_dict:mg "dict" = none
 b_enumerate:mg "enumerate" = none
 b_int:mg "int" = none
 b_isinstance:mg "isinstance" = none
 b_len:mg "len" = none
 b_list:mg "list" = none
 b_min:mg "min" = none
 b_range:mg "range" = none
 b_reversed:mg "reversed" = none
 b_set:mg "set" = none
 b_sorted:mg "sorted" = none
 b_str:mg "str" = none
 b_tuple:mg "tuple" = none
 b_zip:mg "zip" = none
 c_MOST_BEGINNINGS:∃t,mg "MOST_BEGINNINGS" = some (.int 200 t)
variable {us:List Value}
def HW(h:us.length=1):∃a,us=[a]:=by
 cases us with
 |nil=>cases h
 |cons a t=>exact⟨a,by rw[List.length_eq_zero_iff.mp (Nat.succ.inj h)]⟩
def HX(h:us.length=2):∃a b,us=[a,b]:=by
 cases us with
 |nil=>cases h
 |cons a t =>
   obtain⟨b,rfl⟩:=HW (Nat.succ.inj h);exact⟨a,b,rfl⟩
def KJ(h:us.length=3):∃a b c,us=[a,b,c]:=by
 cases us with
 |nil=>cases h
 |cons a t =>
   obtain⟨b,c,rfl⟩:=HX (Nat.succ.inj h);exact⟨a,b,c,rfl⟩
def KL(h:us.length=4):∃a b c d,us=[a,b,c,d]:=by
 cases us with
 |nil=>cases h
 |cons a t =>
   obtain⟨b,c,d,rfl⟩:=KJ (Nat.succ.inj h);exact⟨a,b,c,d,rfl⟩
def KN(h:us.length=5):∃a b c d e,us=[a,b,c,d,e]:=by
 cases us with
 |nil=>cases h
 |cons a t =>
   obtain⟨b,c,d,e,rfl⟩:=KL (Nat.succ.inj h);exact⟨a,b,c,d,e,rfl⟩
def KO(h:us.length=6):∃a b c d e f,us=[a,b,c,d,e,f]:=by
 cases us with
 |nil=>cases h
 |cons a t =>
   obtain⟨b,c,d,e,f,rfl⟩:=KN (Nat.succ.inj h);exact⟨a,b,c,d,e,f,rfl⟩
open PySem PySem.Spec PyProof.Rows L2 in
def BV{P:Program}{w:World}{K:Ai}{g:Str->Option Value}{l:Heap}{x e:Str}{st:Stmt}{f:Addr}{i:FuncData}{N ps:List Str}{k:Nat}{sp:Sp}(F:Bq K x e st f i)(m:g x=some (.ref f))(S:Af N ps (AX st))(len:∀vs H Q E,sp vs H Q E->vs.length=ps.length)
  (u:∀(d:Value)(A:Around)(v:List Env)(s:Shared)(H:Hp)(vs:List V)(Q:VK)(E:XK),BY k (A.deeper (envOfC e (AX st) s.heap.objs.size f d))->sp vs H Q E -> ∃t,Gg (AE Iq P w K g l N e (AX st) f d A v s H E).nox (Io st) t/\t {nx:=λζ H'=>Q .non H',rt:=Q} (start N vs) H)
  (n:∀(kV r o:Value)(p:Option Addr)(d ct:Value)(us:List Value),us.length=ps.length->bindArgs (PySem.W.fnOf x e (Kj st) (Io st) (AX st) .none kV r o p d ct) ⟨us,[]⟩=pure (ps.zip us):=by intro _ _ _ _ _ _ us a;first|(obtain⟨_,rfl⟩:=HW a;rfl)|(obtain⟨_,_,rfl⟩:=HX a;rfl)|(obtain⟨_,_,_,rfl⟩:=KJ a;rfl)|(obtain⟨_,_,_,_,rfl⟩:=KL a;rfl)|(obtain⟨_,_,_,_,_,rfl⟩:=KN a;rfl)|(obtain⟨_,_,_,_,_,_,rfl⟩:=KO a;rfl)):By P w K g l x (k+1) ps sp:=⟨f,i,F.ok S len u,m,F.kp,F.binds n⟩
def OB(h:us.length=7):∃a b c d e f g,us=[a,b,c,d,e,f,g]:=by
 cases us with
 |nil=>cases h
 |cons a t =>
   obtain⟨b,c,d,e,f,g,rfl⟩:=KO (Nat.succ.inj h);exact⟨a,b,c,d,e,f,g,rfl⟩
def WQ(h:us.length=8):∃a b c d e f g i,us=[a,b,c,d,e,f,g,i]:=by
 cases us with
 |nil=>cases h
 |cons a t =>
   obtain⟨b,c,d,e,f,g,i,rfl⟩:=OB (Nat.succ.inj h);exact⟨a,b,c,d,e,f,g,i,rfl⟩
section
set_option maxHeartbeats 4000000
seal L2.PE L2.PA L2.PS L2.Gg L2.PT L2.PW L2.PC L2.PG L2.Nq L2.PI L2.PF L2.Lb L2.DG L2.Pb L2.Bn L2.NK L2.Ip L2.RO L2.PO
variable {P:Program} {w:World} {K:Ai} {mg:Str->Option Value} {base:Heap} {f:Addr} {fd:FuncData}
def WR:(("abcdefghijklmnopqrstuvwxyz" : Str)).cps.toList.length=26:=by decide +kernel
def Qh(w:Str)(c:Nat):(w++(⟨#[c]⟩:Str)).length=w.length+1:=by
 show(w.cps++#[c]).size=w.cps.size+1
 simp
def Md:∀n,n<26->(("abcdefghijklmnopqrstuvwxyz" : Str)).cps.toList[n]?=some (97+n):=by decide +kernel
def WS(n:Int):Bj (("abcdefghijklmnopqrstuvwxyz" : Str)).cps.toList (n%26)=some (97+(n%26).toNat):=by
 have a:=DK n (by decide:(26:Int)≠0);have c:=DX n (by decide:(0:Int)<26);obtain⟨k,b⟩:=DL a;rw[b,BK];exact BF (Md k (by lia))
def Z9(w:Str)(c:Nat):(w++(⟨#[c]⟩:Str)).cps.toList=w.cps.toList++[c]:=by
 show(w.cps++#[c]).toList=_
 simp
abbrev GR (n:Int):Str:=⟨#[97+(n%26).toNat]⟩
def Me (c:Int) (k j:Nat):Int:=c/(64+3*(j:Int))+(j:Int)*(c/64%2)+(k:Int)*(if(j:Int)=c/8%(1+c%8) then 1 else 0)
def EL (c:Int) (k:Nat):Nat->Str
 |0 => ""
 |j+1=>EL c k j++GR (Me c k j)
def Gd (c:Int) (m:Nat):List Str:=(List.range m).map λk=>EL c k (1+c%8).toNat
def GS (c:Int) (m:Nat):List Str:=if c/128%3=1/\1+c%8<8 then(Gd c m).set 1 (EL c 0 (1+c%8).toNat++GR (c/384)) else Gd c m
theorem JU(c:Int)(k:Nat):∀j,(EL c k j).length=j
 |0=>show("" : Str).length=0 by decide +kernel
 |j+1=>by
   show(EL c k j++GR (Me c k j)).length=j+1;rw[Qh,JU c k j]
theorem Tp(c:Int)(k:Nat){a:Nat}:∀{j:Nat},a<j->(EL c k j).cps.toList[a]?=some (97+(Me c k a%26).toNat)
 |0,h=>absurd h (Nat.not_lt_zero _)
 |j+1,h=>by
   show(EL c k j++GR (Me c k j)).cps.toList[a]?=_;rw[Z9];have b:(EL c k j).cps.toList.length=j:=by rw[Array.length_toList];exact JU c k j
   by_cases d:a<j;rw[E4 (by rw[b];exact d)];exact Tp c k d;have e:a=j:=(by lia);subst e;rw[Fn (by rw[b];exact AG _),b,Nat.sub_self];rfl
def OC(c:Int)(m:Nat):(Gd c m).length=m:=by unfold Gd;rw[Aj,List.length_range]
def M4(c:Int)(m:Nat):(GS c m).length=m:=by
 unfold GS;split;rw[FL,OC];exact OC c m
variable {c:Int}
def Mf{j:Nat}(l:i<26)(m:j<26)(h:EL c i (1+c%8).toNat=EL c j (1+c%8).toNat):i=j:=by
 have g:=DK (c/8) (show(1+c%8)≠0 by lia);have n:=DX (c/8) (show 0<1+c%8 by lia);obtain⟨a,k⟩:=DL g;have f:a<(1+c%8).toNat:=(by lia);have e:=Tp c i f;rw[h,Tp c j f] at e;have d:=B2 e;unfold Me at d;rw[An k.symm] at d;generalize c/(64+3*(a:Int))+(a:Int)*(c/64%2)=b at d;lia
variable {m:Nat}
def HY(d:m<=26):(Gd c m).Nodup:=by
 unfold Gd;refine List.pairwise_iff_getElem.mpr λi j a b f e=>?_;rw[Aj,List.length_range] at a b;rw[List.getElem_map,List.getElem_map,List.getElem_range,List.getElem_range] at e;have:=Mf (by lia) (by lia) e;lia
def cA:∀y∈Gd c m,y.length=(1+c%8).toNat:=λy a=>by
 obtain⟨k,_,rfl⟩:=Bd.mp a;exact JU _ _ _
def cB(a:m<=26):(GS c m).Nodup:=by
 unfold GS;split;refine List.pairwise_iff_getElem.mpr λi j f g h e=>?_;rw[FL,OC] at f g;have d:∀(k:Nat)(b:k<(Gd c m).length),(Gd c m)[k].length=(1+c%8).toNat:=λk b=>cA _ (Ed b);rw[List.getElem_set,List.getElem_set] at e;split at e;rw[Al (by lia)] at e;have:=BR Str.length e;rw[Qh,JU,d] at this;lia;split at e;have:=BR Str.length e;rw[Qh,JU,d] at this;lia;exact absurd e ((List.pairwise_iff_getElem.mp (HY (c:=c) a)) i j _ _ h);exact HY a
variable {k:Nat}
def cC:(EL c k (1+c%8).toNat).length<=8:=by rw[JU];lia
set_option tactic.hygienic true in
def KP:∀x∈GS c m,x.length<=8:=by
 intro x a;unfold GS at a
 have b:∀y∈Gd c m,y.length<=8:=λy d=>by
  obtain⟨k,_,rfl⟩:=Bd.mp d;exact cC
 split at a;rename_i e;rcases List.mem_or_eq_of_mem_set a with h|rfl;exact b x h;rw[Qh,JU];lia;exact b x a
inductive Do (K:Ai) (vs:List V) (H:Hp) (Q:VK):Prop where
 |mk (c:Int) (m:Nat) (h0:vs=[.int c,.int m]) (h1:2<=m) (h2:m<=26) (h3:∀(L:Addr)(H':Hp),H L=none->Ac H H'->H' L=some (.lst ((GS c m).map V.str))->Q (.ref L) H'):Do K vs H Q
def cD (K:Ai):Sp:=λvs H Q ζ=>Do K vs H Q
abbrev Tq(P w K mg base):=By P w K mg base "_law_names" 1 ["_law_cell", "_law_many"] (cD K)
theorem cE(B:BA mg)(F:Bq K "_law_names" "_law_names" QM f fd)(M:mg "_law_names" = some (.ref f)):Tq P w K mg base:=by
 refine BV F M Iz (λN H Q E h=>?_) (λae A ag s H N Q E hr h=>?_);obtain⟨c,m,rfl,_⟩:=h;rfl
 . obtain⟨c,m,rfl,m0,m9,q⟩:=h
   refine⟨_,(Ak (AI (i:=2) Iz.nd BE)
    (Ak (AI (i:=3) Iz.nd (Au Gx Ah (Au AZ (pv 0) Ah)))
    (Ak (AI (i:=4) Iz.nd (Au AZ (Au En (pv 0) Ah) (pv 3)))
    (Ak (AI (i:=5) Iz.nd (Cj Ae))
    (Ak (CJ Cz rfl (IQ rfl B.b_range (Ab (pv 1) Ae)) (Ay (i:=6) Iz.nd) (Ak (AI (i:=7) Iz.nd BE)
     (Ak (CJ Cz rfl (IQ rfl B.b_range (Ab (pv 3) Ae)) (Ay (i:=8) Iz.nd) (Ak (AI (i:=9) Iz.nd (Au Gx (Au En (pv 0) (Au Gx Ah (Au Em Ah (pv 8)))) (Au Em (pv 8) (Au AZ (Au En (pv 0) Ah) Ah))))
      (Aw (AI (i:=7) Iz.nd (Au Uz (pv 7) (As At (pv 2) (Au AZ (Au Gx (pv 9) (Au Em (pv 6) (Gy UB B.b_int (Ab (ME Cf (pv 8) (pv 4) (Bu _)) Ae)))) Ah)))))))
     (Aw (DF (Dj DE Et Eu Ew (pv 5) (Ab (pv 7) Ae)))))))
    (Ak (Bm (PW.pt (G2 (Bv Cf (Au AZ (Au En (pv 0) Ah) Ah) Ah (Bu _)) (G1 (Bv GO (pv 3) Ah (Bu _))))) (Aw (DM (Au Uz (As At (pv 5) Ah) (As At (pv 2) (Au AZ (Au En (pv 0) Ah) Ah))) (RG (pv 5) Ah RS))) Bl)
    (Aw (AN (pv 5))))))))),?_⟩
   rfl';refine R8 ?_;cbv;refine⟨(by show(0:Int)<8;decide),?_⟩;cbv;have z0:1<=1+c%8/\1+c%8<=8:=(by lia);refine⟨⟨by decide,by decide⟩,(by show 0<1+c%8;lia),?_⟩;cbv;refine⟨by decide,λL t=>?_⟩;obtain⟨aa,T,O,U⟩:=new_at (o:=.lst []) t;rw[<-T];refine⟨by lia,by lia,Kn (lo:=0) (n:=m) (λi σ g=>∃u v a d,σ=[some (.int c),some (.int m),some (.str "abcdefghijklmnopqrstuvwxyz"),some (.int (1+c%8)),some (.int (c/8%(1+c%8))),some (.ref L),u,v,a,d]/\Ac H g/\g L=some (.lst ((Gd c i).map V.str))) ⟨none,none,none,none,rfl,O,U⟩ ?_ ?_⟩;rotate_left
   . refine λσ Y G=>AL λR r=>?_
     obtain⟨u,v,a,d,rfl,p,l⟩:=G;refine r ?_;clear r;cbv;refine Hu (λσ' g=>σ'=[some (.int c),some (.int m),some (.str "abcdefghijklmnopqrstuvwxyz"),some (.int (1+c%8)),some (.int (c/8%(1+c%8))),some (.ref L),u,v,a,d]/\Ac H g/\g L=some (.lst ((GS c m).map V.str))) ?_ (λab x=>?_)
     case refine_2 =>
      refine⟨⟨by decide,by decide⟩,(by show(0:Int)<3;decide),rfl,rfl,Ap (λy=>?_) (λy=>Bw ?_)⟩;rotate_left;have I:¬c/128%3=1:=λe=>y (A7 (by show V.int (c/128%3)=V.int 1;rw[e]));refine x _ _ ⟨rfl,p,?_⟩;unfold GS;rw[Al λz=>I z.1];exact l;have I:c/128%3=1:=V.int.inj (Bc y);refine⟨rfl,Ap (λC=>?_) (λC=>?_)⟩;rotate_left;have J:¬1+c%8<8:=λe=>C (A7 e);refine x _ _ ⟨rfl,p,?_⟩;unfold GS;rw[Al λz=>J z.2];exact l;have J:1+c%8<8:=Bc C;have hl:(Gd c m).length=m:=OC c m
      have W:(Gd c m)[0]?=some (EL c 0 (1+c%8).toNat):=by
       unfold Gd;rw[A6,List.getElem?_range (by lia)];rfl
      have X:Bj ((Gd c m).map V.str) 0=some (V.str (EL c 0 (1+c%8).toNat)):=BF (j:=0) (by rw[A6,W];rfl);refine Or.inl ⟨_,.str (EL c 0 (1+c%8).toNat),Ag.of l,X,⟨by decide,by decide⟩,(by show(0:Int)<26;decide),Or.inr (Or.inr ⟨_,_,_,rfl,rfl,by decide +kernel,WS (c/384),EL c 0 (1+c%8).toNat,_,rfl,rfl,?_,L,_,_,1,rfl,rfl,l,?_,?_⟩)⟩;show(EL c 0 (1+c%8).toNat).length+1<=sizeLine;rw[JU];exact C9 (BP (by lia));exact Lu (k:=1) (by decide) (by rw[Aj];lia);refine x _ _ ⟨rfl,λb o e=>?_,?_⟩;rw[AH (AW e t)];exact p _ _ e;unfold GS;rw[Aa,An ⟨I,J⟩,List.map_set]
     rintro σ' D ⟨rfl,S,Z⟩;exact q L D t S Z
   refine λi σ Y hi G=>AL λR r=>?_;obtain⟨u,v,a,d,rfl,p,l⟩:=G;refine r ?_;clear r;refine R8 ?_;cbv;refine⟨by lia,by lia,Kn (lo:=0) (n:=(1+c%8).toNat) (λj σ g=>∃(a d:Option V),σ=[some (.int c),some (.int m),some (.str "abcdefghijklmnopqrstuvwxyz"),some (.int (1+c%8)),some (.int (c/8%(1+c%8))),some (.ref L),some (.int (0+(i:Int))),some (.str (EL c i j)),a,d]/\g=Y) ⟨_,_,rfl,rfl⟩ ?_ ?_⟩;rotate_left;rintro σ D ⟨a,d,rfl,rfl⟩;refine⟨Or.inl ⟨rfl,_,Ag.of l⟩,_,l,by rw[Aj,OC];exact BP (by lia),?_⟩;refine⟨_,_,_,_,rfl,λb o e=>?_,?_⟩;rw[AH (AW e t)];exact p _ _ e;rw[Aa];unfold Gd;rw[List.range_succ,Bh,Bh];rfl;rintro j σ D hj ⟨a,d,rfl,rfl⟩;have af:j<8:=(by lia);refine⟨Or.inl ⟨by lia,by lia⟩,⟨by lia,by lia⟩,⟨by decide,by decide⟩,(by show(0:Int)<2;decide),Or.inl ⟨by lia,by lia⟩,?_⟩;refine⟨rfl,Or.inr ⟨_,rfl,Or.inl ⟨by lia,by lia⟩,(by show(0:Int)<26;decide),Or.inr (Or.inr ⟨_,_,_,rfl,rfl,by decide +kernel,WS _,EL c i j,_,rfl,rfl,?_,?_⟩)⟩⟩;show(EL c i j).length+1<=sizeLine;rw[JU];exact C9 (BP (by lia));refine⟨some (.int (0+(j:Int))),some (.int (c/(64+3*(0+(j:Int)))+(0+(j:Int))*(c/64%2))),?_,rfl⟩
   have e:EL c i (j+1)=EL c i j++GR (c/(64+3*(0+(j:Int)))+(0+(j:Int))*(c/64%2)+(0+(i:Int))*(if decide (V.int (0+(j:Int))=V.int (c/8%(1+c%8)))=true then 1 else 0)):=by
    show EL c i j++GR (Me c i j)=_;unfold Me;simp only[Int.zero_add,decide_eq_true_eq,V.int.injEq]
   rw[e];rfl
variable {ns:List Int}
def cF{k:Int}(b:0<=k)(c:k<ns.length):Bj (ns.map V.int) k=some (V.int (Dk ns k)):=by
 obtain⟨n,rfl⟩:=DL b;have a:n<ns.length:=(by lia);refine BF ?_;rw[A6,AC a];show some (V.int ns[n])=some (V.int ((ns[((n:Int)).toNat]?).getD 0));rw[BK,AC a];rfl
def cG{k:Int}(a:0<=k)(b:¬k<ns.length):Dk ns k=0:=by
 unfold Dk;rw[Gu (by lia)];rfl
def cH (K:Ai):Sp:=λvs H Q ζ=>∃a ns k,vs=[.ref a,.int k]/\0<=k/\Ag K H a (ns.map V.int)/\Q (.int (Dk ns k)) H
abbrev OD(P w K mg base):=By P w K mg base "_law_cell_at" 1 ["_law_script", "_law_k"] (cH K)
theorem cI(B:BA mg)(F:Bq K "_law_cell_at" "_law_cell_at" QN f fd)(g:mg "_law_cell_at" = some (.ref f)):OD P w K mg base:=by
 refine BV F g Z6 (λi H Q E h=>?_) (λl A m s H i Q E j h=>?_);obtain⟨a,ns,k,rfl,_⟩:=h;rfl;obtain⟨a,ns,k,rfl,d,e,q⟩:=h
 refine⟨_,(Ak (Bm (Bv GO (pv 1) (BH Di B.b_len (Ab (pv 0) Ae)) (Bu _)) (Aw (AN (As At (pv 0) (pv 1)))) Bl)
  (Aw (AN Ah))),?_⟩
 rfl';refine⟨_,Or.inl ⟨_,e,rfl⟩,rfl,?_⟩;rw[Aj];refine Ap (λb=>?_) (λc=>?_);have b:=Bc b;exact Or.inl ⟨_,_,e,cF d b,q⟩;have c:¬k<(ns.length:Int):=λz=>c (A7 z);show Q (.int 0) H;rw[cG d c] at q;exact q
def OE (n:Int):Nat->Int
 |0=>n
 |k+1=>OE n k/5
def GU (n:Int) (m:Nat):List Int:=(List.range m).map λk=>OE n k%5
def Qi(n:Int)(m:Nat):(GU n m).length=m:=by unfold GU;rw[Aj,List.length_range]
def cJ(n:Int)(m:Nat):GU n (m+1)=GU n m++[OE n m%5]:=by unfold GU;rw[List.range_succ,Bh];rfl
def Tr(n:Int)(h:k<m):(GU n m)[k]?=some (OE n k%5):=by unfold GU;rw[A6,List.getElem?_range h];rfl
inductive Dp (K:Ai) (vs:List V) (H:Hp) (Q:VK):Prop where
 |mk (n:Int) (m:Nat) (h0:vs=[.int n,.int m]) (h1:m<=100) (h2:∀(D:Addr)(H':Hp),H D=none->Ac H H'->H' D=some (.lst ((GU n m).map V.int))->Q (.ref D) H'):Dp K vs H Q
def cK (K:Ai):Sp:=λvs H Q ζ=>Dp K vs H Q
abbrev Qj(P w K mg base):=By P w K mg base "_law_ranks" 1 ["_law_number", "_law_many"] (cK K)
theorem cL(B:BA mg)(F:Bq K "_law_ranks" "_law_ranks" QO f fd)(j:mg "_law_ranks" = some (.ref f)):Qj P w K mg base:=by
 refine BV F j Qc (λl H Q E h=>?_) (λx A y s H l Q E u h=>?_);obtain⟨n,m,rfl,_⟩:=h;rfl
 . obtain⟨n,m,rfl,j,q⟩:=h
   refine⟨_,(Ak (AI (i:=2) Qc.nd (Cj Ae))
    (Ak (CJ Cz rfl (IQ rfl B.b_range (Ab (pv 1) Ae)) (Ay (i:=3) Qc.nd) (Ak (DF (Dj DE Et Eu Ew (pv 2) (Ab (Au AZ (pv 0) Ah) Ae)))
     (Aw (AI (i:=0) Qc.nd (Au En (pv 0) Ah)))))
    (Aw (AN (pv 2))))),?_⟩
   rfl';refine⟨by decide,λD c=>?_⟩;obtain⟨U,r,p,t⟩:=new_at (o:=.lst []) c;rw[<-r];refine⟨by lia,by lia,Kn (lo:=0) (n:=m) (λi σ k=>∃d,σ=[some (.int (OE n i)),some (.int m),some (.ref D),d]/\Ac H k/\k D=some (.lst ((GU n i).map V.int))) ⟨none,rfl,p,t⟩ ?_ ?_⟩;rotate_left;rintro σ Y ⟨d,rfl,g,a⟩;exact q D Y c g a;rintro i σ Y v ⟨d,rfl,g,a⟩;refine⟨Or.inl ⟨rfl,_,Ag.of a⟩,(by show(0:Int)<5;decide),_,a,by rw[Aj,Qi];exact BP (by lia),?_⟩;refine⟨⟨by decide,by decide⟩,?_⟩;refine⟨_,rfl,λb o e=>?_,?_⟩;rw[AH (AW e c)];exact g _ _ e;rw[Aa,cJ,Bh];rfl
def EF (ls:List Str) (one oth:List Int) (j k:Nat):A':=if one.getD j 0<one.getD k 0/\oth.getD j 0<oth.getD k 0 then[(ls.getD j default,ls.getD k default)] else[]
def F1 (ls:List Str) (one oth:List Int) (j n:Nat):A':=(List.range n).flatMap (EF ls one oth j)
def EX (ls:List Str) (one oth:List Int) (n:Nat):A':=(List.range n).flatMap λj=>F1 ls one oth j ls.length
def Qk(ls:List Str)(one a:List Int)(j n:Nat):F1 ls one a j (n+1)=F1 ls one a j n++EF ls one a j n:=by unfold F1;rw[List.range_succ,List.flatMap_append];simp
def WT(ls:List Str)(one a:List Int)(n:Nat):EX ls one a (n+1)=EX ls one a n++F1 ls one a n ls.length:=by unfold EX;rw[List.range_succ,List.flatMap_append];simp
def cM(ls:List Str)(one a:List Int)(j k:Nat):(EF ls one a j k).length<=1:=by unfold EF;split<;>simp
theorem Ts(ls:List Str)(one a:List Int)(j:Nat):∀n,(F1 ls one a j n).length<=n
 |0=>AG _
 |n+1=>by
   rw[Qk,AQ];have:=Ts ls one a j n;have:=cM ls one a j n;lia
theorem Ql(ls:List Str)(one a:List Int):∀n,(EX ls one a n).length<=n*ls.length
 |0=>by simp[EX]
 |n+1=>by
   rw[WT,AQ,Nat.succ_mul];have:=Ql ls one a n;have:=Ts ls one a n ls.length;lia
def Go (c:Int) (m:Nat):List Int:=GU (c*48271%2147483647) m
def F2 (c:Int) (m:Nat):List Int:=if c%2=1 then GU (c*69621%2147483629) m else Go c m
def WU(c:Int)(m:Nat):(Go c m).length=m:=Qi _ _
def JV(c:Int)(m:Nat):(F2 c m).length=m:=by unfold F2;split;exact Qi _ _;exact WU _ _
structure EG (c:Int) (ls:List Str) (ord:A'):Prop where
 perm:ord.Perm (EX ls (Go c ls.length) (F2 c ls.length) ls.length)
 srt:ord.Pairwise (BL C6 C6).kle
variable {ls:List Str}{o:A'}
def EG.uniq{u:A'}(h:EG c ls o)(k:EG c ls u):o=u:=ML (O:=BL C6 C6) (h.perm.trans k.perm.symm) h.srt k.srt
def EG.len(h:EG c ls o)(a:ls.length<=6):o.length<=36:=by
 have b:=h.perm.length_eq;have d:=Ql ls (Go c ls.length) (F2 c ls.length) ls.length;have e:ls.length*ls.length<=6*6:=Nat.mul_le_mul a a;lia
set_option tactic.hygienic true in
def EG.irr(h:EG c ls o)(g:ls.Nodup)(x:Str):(x,x)∉o:=λi=>by
 have l:=h.perm.mem_iff.mp i;obtain⟨j,b,m⟩:=List.mem_flatMap.mp l;obtain⟨k,d,a⟩:=List.mem_flatMap.mp m;rw[List.mem_range] at b d;unfold EF at a;split at a;rename_i p;have e:=AR.mp a;have n:x=ls.getD j default:=BR Prod.fst e;have f:x=ls.getD k default:=BR Prod.snd e;rw[n,BC,BC,AC b,AC d] at f
 have:=(List.getElem_inj g).mp (show ls[j]=ls[k] from f)
 subst this;exact absurd p.1 (Int.lt_irrefl _);cases a
variable {x:Str}
set_option tactic.hygienic true in
def HZ{one d:List Int}{y:Str}(h:(x,y)∈EX ls one d ls.length):∃j k,ls[j]?=some x/\ls[k]?=some y/\one.getD j 0<one.getD k 0/\d.getD j 0<d.getD k 0:=by
 obtain⟨j,b,i⟩:=List.mem_flatMap.mp h;obtain⟨k,c,a⟩:=List.mem_flatMap.mp i;rw[List.mem_range] at b c;unfold EF at a;split at a;rename_i l;have e:=AR.mp a;have f:x=ls.getD j default:=BR Prod.fst e;have g:y=ls.getD k default:=BR Prod.snd e;rw[BC,AC b] at f;rw[BC,AC c] at g;refine⟨j,k,?_,?_,l⟩;rw[AC b,f];rfl;rw[AC c,g];rfl;cases a
def Mg{one a:List Int}{y:Str}{j:Nat}(b:ls[j]?=some x)(c:ls[k]?=some y)(h:one.getD j 0<one.getD k 0/\a.getD j 0<a.getD k 0):(x,y)∈EX ls one a ls.length:=by
 refine List.mem_flatMap.mpr ⟨j,List.mem_range.mpr (Bf.mp b).1,List.mem_flatMap.mpr ⟨k,List.mem_range.mpr (Bf.mp c).1,?_⟩⟩;unfold EF;rw[An h,BC,BC,b,c];exact AR.mpr rfl
def EG.tr(h:EG c ls o)(b:ls.Nodup)(x y z:Str)(d:(x,y)∈o)(e:(y,z)∈o):(x,z)∈o:=by
 obtain⟨j,k,f,a,n,p⟩:=HZ (h.perm.mem_iff.mp d);obtain⟨g,l,i,m,q,r⟩:=HZ (h.perm.mem_iff.mp e);have:k=g:=(List.getElem?_inj (Bf.mp a).1 b).mp (a.trans i.symm);subst this;exact h.perm.mem_iff.mpr (Mg f m ⟨by lia,by lia⟩)
def KQ{xs:List Int}{v:Int}(h:xs[i]?=some v):xs.getD i 0=v:=by rw[BC,h];rfl
variable {xs:List Str}
def WV{v:Str}(h:xs[i]?=some v):xs.getD i default=v:=by rw[BC,h];rfl
inductive Dq (K:Ai) (vs:List V) (H:Hp) (Q:VK):Prop where
 |mk (c:Int) (l:Addr) (ls:List Str) (h0:vs=[.int c,.ref l]) (h1:Ag K H l (ls.map V.str)) (h2:ls.length<=6) (h3:∀(D:Addr)(ts:List Addr)(ord:A')(H':Hp),H D=none->Ac H H'->H' D=some (.lst (ts.map V.ref))->Cs H' ts ord->EG c ls ord->Q (.ref D) H'):Dq K vs H Q
def cN (K:Ai):Sp:=λvs H Q ζ=>Dq K vs H Q
abbrev Tt(P w K mg base):=By P w K mg base "_law_order" 2 ["_law_cell", "_law_labels"] (cN K)
theorem cO(B:BA mg)(ag:Qj P w K mg base)(F:Bq K "_law_order" "_law_order" QP f fd)(hm:mg "_law_order" = some (.ref f)):Tt P w K mg base:=by
 refine BV F hm L5 (λvs H a0 a3 h=>?_) (λaL aF aO aG H vs a0 a3 hr h=>?_);obtain⟨c,l,ls,rfl,_⟩:=h;rfl
 . obtain⟨c,l,ls,rfl,E,U,a4⟩:=h
   refine⟨_,(Ak (AI (i:=2) L5.nd (A1 ag (Ab (Au AZ (Au Em (pv 0) Ah) Ah) (Ab (BH Di B.b_len (Ab (pv 1) Ae)) Ae))))
    (Ak (AI (i:=3) L5.nd (Gy I7 B.b_list (Ab (pv 2) Ae)))
    (Ak (Bm (Bv Cf (Au AZ (pv 0) Ah) Ah (Bu _)) (Aw (AI (i:=3) L5.nd (A1 ag (Ab (Au AZ (Au Em (pv 0) Ah) Ah) (Ab (BH Di B.b_len (Ab (pv 1) Ae)) Ae))))) Bl)
    (Ak (AI (i:=4) L5.nd (Cj Ae))
    (Ak (CJ Cz rfl (IQ rfl B.b_range (Ab (BH Di B.b_len (Ab (pv 1) Ae)) Ae)) (Ay (i:=5) L5.nd) (Aw (CJ Cz rfl (IQ rfl B.b_range (Ab (BH Di B.b_len (Ab (pv 1) Ae)) Ae)) (Ay (i:=6) L5.nd) (Aw (Bm (PW.pt (G2 (Bv GO (As At (pv 2) (pv 5)) (As At (pv 2) (pv 6)) (Bu _)) (G1 (Bv GO (As At (pv 3) (pv 5)) (As At (pv 3) (pv 6)) (Bu _))))) (Aw (DF (Dj DE Et Eu Ew (pv 4) (Ab (Ba (Ab (As At (pv 1) (pv 5)) (Ab (As At (pv 1) (pv 6)) Ae))) Ae)))) Bl)))))
    (Aw (AN (BH (Vf ER ER) B.b_sorted (Ab (pv 4) Ae))))))))),?_⟩
   rfl';refine⟨Or.inr ⟨by decide,by decide⟩,(by show(0:Int)<2147483647;decide),_,Or.inl ⟨_,E,rfl⟩,_,_,rfl,by rw[Aj];lia,λy aH a8 s1 G=>?_⟩;rw[Aj] at G;refine AU ?_;cbv;refine⟨y,_,rfl,Or.inl (Ag.of G),λA2 ah=>?_⟩;obtain⟨aI,a9,J,e2⟩:=new_at (o:=.lst ((GU (c*48271%2147483647) ls.length).map V.int)) ah;rw[<-a9];refine AU ?_;cbv;have T:=s1.trans J;refine Hu (λσ' b=>∃g,σ'=[some (.int c),some (.ref l),some (.ref y),some (.ref g),none,none,none]/\Ac H b/\b y=some (.lst ((Go c ls.length).map V.int))/\b g=some (.lst ((F2 c ls.length).map V.int))) ?_ (λaJ hN=>?_);rotate_left;refine⟨(by show(0:Int)<2;decide),rfl,rfl,Ap (λp=>?_) (λp=>?_)⟩;have aa:c%2=1:=V.int.inj (Bc p);refine⟨Or.inr ⟨by decide,by decide⟩,(by show(0:Int)<2147483629;decide),_,Or.inl ⟨_,T.seq E,rfl⟩,_,_,rfl,by rw[Aj];lia,λg H3 aM I e3=>?_⟩;rw[Aj] at e3;refine hN _ _ ⟨g,rfl,T.trans I,I _ _ (J _ _ G),?_⟩;unfold F2;rw[An aa];exact e3;have aa:¬c%2=1:=λe=>p (A7 (by show V.int (c%2)=V.int 1;rw[e]));refine hN _ _ ⟨A2,rfl,T,J _ _ G,?_⟩;unfold F2;rw[Al aa];exact e2;rintro σ' H3 ⟨g,rfl,I,ai,aj⟩;clear G e2 s1 J T a8 ah;refine⟨by decide,λD L=>?_⟩;obtain⟨W,aA,X,ak⟩:=new_at (o:=.lst []) L;rw[<-aA];refine AU ?_;cbv;have ab:=I.trans X;have al:=I.free L;have l1:=WU c ls.length;have l2:=JV c ls.length
   refine⟨_,Or.inl ⟨_,ab.seq E,rfl⟩,by lia,by rw[Aj];lia,Kn (lo:=0) (n:=(ls.map V.str).length) (λj σ b=>∃Y r a,σ=[some (.int c),some (.ref l),some (.ref y),some (.ref g),some (.ref D),Y,r]/\Keeps (·=D) W b/\b D=some (.lst (a.map V.ref))/\Cs b a (EX ls (Go c ls.length) (F2 c ls.length) j))
    ⟨none,none,[],rfl,Keeps.refl λx o m e=>by rw[m,ak] at e;exact⟨_,(B2 e).symm⟩,ak,Cs.nil⟩ ?_ ?_⟩
   rotate_left;refine λσ Z u=>AL λNz d=>?_;obtain⟨Y,r,a,rfl,M,ae,N⟩:=u;refine d ?_;clear d;rw[Aj] at N;obtain⟨zs,z1,z2,z3⟩:=Vz N
   have lz:zs.length<=36:=by
    have p:=BR List.length z2;rw[Aj] at p;have O:=Ql ls (Go c ls.length) (F2 c ls.length) ls.length;have Q:ls.length*ls.length<=6*6:=Nat.mul_le_mul U U;lia
   refine⟨D,zs,rfl,Ag.of (by rw[z1];exact ae),by lia,λz hz=>?_,λO2 af hp hw an=>?_⟩;obtain⟨t,a1,a2⟩:=z3 z hz;exact⟨t,a1,Ao.of a2⟩;have ao:Ac H Z:=λaK o e=>M.at_ _ _ (ab _ _ e) (AW e al);have s6:=A8 (o:=.lst (af.map (·.1))) an;obtain⟨aB,t1,t2⟩:=VA (H:=Z) (zs:=af) λz hz=>z3 z (hp.mem_iff.mp hz);refine a4 O2 aB (af.map (·.2)) _ (ao.free an) (ao.trans s6) (by rw[Aa,t1]) (t2.same s6) ⟨?_,hw⟩;rw[<-z2];exact hp.map _;refine λj σ Z R u=>AL λNz d=>?_;obtain⟨Y,r,a,rfl,M,ae,N⟩:=u;refine d ?_;clear d;refine Ha ?_;intro Nx Cy;rw[Aj] at R;refine AU ?_;cbv;have aq:∀{b:Hp},Keeps (·=D) W b->Ac H b:=λk x o e=>k.at_ _ _ (ab _ _ e) (AW e al);have aC:y≠D:=AW ai L;have aD:g≠D:=AW aj L
   refine⟨_,Or.inl ⟨_,(aq M).seq E,rfl⟩,by lia,by rw[Aj];lia,Kn (lo:=0) (n:=(ls.map V.str).length) (λk σ b=>∃r a,σ=[some (.int c),some (.ref l),some (.ref y),some (.ref g),some (.ref D),some (.int (0+(j:Int))),r]/\Keeps (·=D) W b/\b D=some (.lst (a.map V.ref))/\Cs b a (EX ls (Go c ls.length) (F2 c ls.length) j++F1 ls (Go c ls.length) (F2 c ls.length) j k))
    ⟨_,a,rfl,M,ae,by unfold F1;simpa using N⟩ ?_ ?_⟩
   rotate_left;refine λσ H6 u=>AL λNz d=>?_;obtain⟨r,a,rfl,q,C,s⟩:=u;refine d ?_;clear d;rw[Aj] at s;exact⟨_,_,a,rfl,q,C,by rw[WT];exact s⟩;refine λk σ H6 S u=>AL λNz d=>?_;obtain⟨r,a,rfl,q,C,s⟩:=u;refine d ?_;clear d;refine Ha ?_;intro Nx Cy;rw[Aj] at S;refine AU ?_;cbv
   have aN:a.length<=100:=by
    rw[s.len,AQ];have O:=Ql ls (Go c ls.length) (F2 c ls.length) j;have Q:j*ls.length<=6*6:=Nat.mul_le_mul (by lia) U;have h4:=Ts ls (Go c ls.length) (F2 c ls.length) j k;lia
   have ar:=q.at_ _ _ (X _ _ ai) aC;have au:=q.at_ _ _ (X _ _ aj) aD;have av:∀n,n<ls.length->∃v,(Go c ls.length)[n]?=some v/\Bj ((Go c ls.length).map V.int) (0+(n:Int))=some (.int v):=λn A=>⟨_,AC (by lia),by rw[Int.zero_add];exact BF (by rw[A6,AC (by lia)];rfl)⟩;have aw:∀n,n<ls.length->∃v,(F2 c ls.length)[n]?=some v/\Bj ((F2 c ls.length).map V.int) (0+(n:Int))=some (.int v):=λn A=>⟨_,AC (by lia),by rw[Int.zero_add];exact BF (by rw[A6,AC (by lia)];rfl)⟩;have ax:∀n,n<ls.length->∃v,ls[n]?=some v/\Bj (ls.map V.str) (0+(n:Int))=some (.str v):=λn A=>⟨_,AC A,by rw[Int.zero_add];exact BF (by rw[A6,AC A];rfl)⟩;obtain⟨a1,p,a5⟩:=av j R;obtain⟨a2,O,a6⟩:=av k S;obtain⟨b1,Q,a7⟩:=aw j R;obtain⟨b2,h4,g4⟩:=aw k S;obtain⟨x1,h5,g5⟩:=ax j R;obtain⟨x2,h6,g6⟩:=ax k S
   have skip:¬(a1<a2/\b1<b2)->EF ls (Go c ls.length) (F2 c ls.length) j k=[]:=λA=>by
    unfold EF;rw[KQ p,KQ O,KQ Q,KQ h4,Al A]
   refine Or.inl ⟨_,_,Ag.of ar,a5,Or.inl ⟨_,_,Ag.of ar,a6,rfl,Ap (λc1=>?_) (λc1=>Bw ?_)⟩⟩;rotate_left;refine⟨_,a,rfl,q,C,?_⟩;rw[Qk,skip λz=>c1 (A7 z.1),FM];exact s;refine Or.inl ⟨_,_,Ag.of au,a7,Or.inl ⟨_,_,Ag.of au,g4,rfl,Ap (λc2=>?_) (λc2=>?_)⟩⟩;rotate_left;refine⟨_,a,rfl,q,C,?_⟩;rw[Qk,skip λz=>c2 (A7 z.2),FM];exact s;have ay:=(aq q).seq E;refine⟨Or.inl ⟨rfl,_,Ag.of C⟩,Or.inl ⟨_,.str x1,ay,g5,Or.inl ⟨_,.str x2,ay,g6,BS,λt ht=>?_⟩⟩⟩;obtain⟨H7,aE,s7,et⟩:=new_at (o:=.tup [.str x1,.str x2]) ht;rw[<-aE];have az:=s7 _ _ C;have k7:Keeps (·=D) H7 (upd H7 D (.lst (a.map V.ref++[.ref t]))):=Keeps.one az;refine⟨_,az,by rw[Aj];exact BP (by lia),?_⟩;refine⟨_,a++[t],rfl,(q.same s7).set rfl,by rw[Aa,Bh];rfl,?_⟩
   have eP:EF ls (Go c ls.length) (F2 c ls.length) j k=[(x1,x2)]:=by
    unfold EF;rw[KQ p,KQ O,KQ Q,KQ h4,An ⟨Bc c1,Bc c2⟩,WV h5,WV h6]
   rw[Qk,eP,<-Ge];exact k7.tups ((s.same s7).snoc et)
def F3 (c:Int):List Int:=GU (c*864691128455135233%2305843009213693951) 20
def H0 (ls:List Str) (n c:Int):Nat->List (Str×Int)
 |0=>[]
 |k+1=>H0 ls n c k++if 0<(F3 c).getD k 0 then[(ls.getD k default,(F3 c).getD (5+k) 0%n)] else[]
def IC (ls:List Str) (c:Int):Nat->List Str
 |0=>[]
 |k+1=>IC ls c k++if 0<(F3 c).getD (10+k) 0 then[ls.getD k default] else[]
theorem Tu(ls:List Str)(n c:Int):∀k,(H0 ls n c k).length<=k
 |0=>AG _
 |k+1=>by
   have:=Tu ls n c k;rw[H0,AQ];split;rw[Ec];lia;rw[GK];lia
theorem Tv(ls:List Str)(c:Int):∀k,(IC ls c k).length<=k
 |0=>AG _
 |k+1=>by
   have:=Tv ls c k;rw[IC,AQ];split;rw[Ec];lia;rw[GK];lia
theorem WW{ls:List Str}{n c:Int}(b:0<n):∀k,∀p∈H0 ls n c k,0<=p.2/\p.2<n
 |0,p,a=>by cases a
 |k+1,p,a=>by
   rw[H0] at a;rcases BB.mp a with a|a;exact WW b k p a;split at a;rw[AR.mp a];exact⟨DK _ (by lia),DX _ b⟩;cases a
structure OF (ls:List Str) (n c:Int) (s:CK):Prop where
 pg:s.1.Perm (H0 ls n c 5)
 og:s.1.Pairwise (BL C6 Jj).kle
 pe:s.2.Perm (IC ls c 5)
 oe:s.2.Pairwise C6.kle
variable {s:CK}
def OF.uniq{n:Int}{u:CK}(h:OF ls n c s)(k:OF ls n c u):s=u:=
 Prod.ext (ML (O:=BL C6 Jj) (h.pg.trans k.pg.symm) h.og k.og) (ML (O:=C6) (h.pe.trans k.pe.symm) h.oe k.oe)
structure OG (cs:List Int) (ls:List Str) (sts:List CK) (inn:Int) (ord:A'):Prop where
 len:sts.length=(1+cs.getD 0 0%3).toNat
 at_:∀(i:Nat)(s:CK),sts[i]?=some s->OF ls (1+cs.getD 0 0%3) (cs.getD (1+i) 0) s
 inn:inn=cs.getD 0 0/3%(1+cs.getD 0 0%3)
 ord:EG (cs.getD 4 0) ls ord
def OG.uniq{c:List Int}{ls:List Str}{a:List CK}{f:Int}{ord:A'}{b:List CK}{g:Int}{j:A'}(h:OG c ls a f ord)(k:OG c ls b g j):a=b/\f=g/\ord=j:=by
 refine⟨List.ext_getElem? λi=>?_,h.inn.trans k.inn.symm,h.ord.uniq k.ord⟩;have l:=h.len.trans k.len.symm
 cases e:a[i]? with
 |none =>
   rw[List.getElem?_eq_none_iff] at e;exact(List.getElem?_eq_none_iff.mpr (by lia)).symm
 |some s =>
   have d:i<b.length:=by have:=(Bf.mp e).1;lia
   rw[AC d,(h.at_ i s e).uniq (k.at_ i _ (AC d))]
variable {n:Nat}
def OH{xs:List Int}(h:n<xs.length):Bj (xs.map V.int) (n:Int)=some (.int (xs.getD n 0)):=by
 rw[BC,AC h];exact BF (by rw[A6,AC h];rfl)
def cP(h:n<xs.length):Bj (xs.map V.str) (n:Int)=some (.str (xs.getD n default)):=by
 rw[BC,AC h];exact BF (by rw[A6,AC h];rfl)
def JW(c:Int):(F3 c).length=20:=Qi _ _
inductive Dr (K:Ai) (vs:List V) (H:Hp) (Q:VK):Prop where
 |mk (C L:Addr) (cs:List Int) (ls:List Str) (h0:vs=[.ref C,.ref L]) (h1:Ag K H C (cs.map V.int)) (h2:cs.length=5) (h3:Ag K H L (ls.map V.str)) (h4:ls.length=5) (h5:∀(t:Addr)(sts:List CK)(inn:Int)(ord:A')(H':Hp),Ac H H'->GA K (λζ=>True) H' t sts inn ord->OG cs ls sts inn ord->Q (.ref t) H'):Dr K vs H Q
def cQ (K:Ai):Sp:=λvs H Q ζ=>Dr K vs H Q
abbrev Tx(P w K mg base):=By P w K mg base "_law_table" 3 ["_law_cells", "_law_labels"] (cQ K)
theorem cR (B:BA mg) (aR:Qj P w K mg base) (aS:Tt P w K mg base) (F:Bq K "_law_table" "_law_table" QQ f fd) (hm:mg "_law_table" = some (.ref f)):Tx P w K mg base:=by
 refine BV F hm L6 (λvs a6 aO aP h=>?_) (λbx bu b4 s a6 vs aO aP hr h=>?_);obtain⟨C,L,a,ls,rfl,_⟩:=h;rfl
 . obtain⟨C,L,a,ls,rfl,U,c5,hL,l5,aQ⟩:=h
   have z0:=DK (a.getD 0 0) (by decide:(3:Int)≠0);have z1:=DX (a.getD 0 0) (by decide:(0:Int)<3);obtain⟨m,ao⟩:∃m:Nat,(m:Int)=1+a.getD 0 0%3:=⟨(1+a.getD 0 0%3).toNat,by lia⟩;have m0:1<=m/\m<=3:=(by lia);have aq:Bj (a.map V.int) ((0:Nat):Int)=some (.int (a.getD 0 0)):=OH (by lia)
   refine⟨_,(Ak (AI (i:=2) L6.nd (Cj Ae))
    (Ak (CJ Cz rfl (Dh (UH UJ (pv 0) (RN Ah) (RN (Au Gx Ah (Au AZ (As At (pv 0) Ah) Ah))))) (Ay (i:=3) L6.nd) (Ak (AI (i:=4) L6.nd (A1 aR (Ab (Au AZ (Au Em (pv 3) Ah) Ah) (Ab Ah Ae))))
     (Ak (AI (i:=5) L6.nd (Cj Ae))
     (Ak (AI (i:=6) L6.nd (Cj Ae))
     (Ak (CJ Cz rfl (IQ rfl B.b_range (Ab Ah Ae)) (Ay (i:=7) L6.nd) (Ak (Bm (Bv Hk (As At (pv 4) (pv 7)) Ah (Bu _)) (Aw (DF (Dj DE Et Eu Ew (pv 5) (Ab (Ba (Ab (As At (pv 1) (pv 7)) (Ab (Au AZ (As At (pv 4) (Au Gx Ah (pv 7))) (Au Gx Ah (Au AZ (As At (pv 0) Ah) Ah))) Ae))) Ae)))) Bl)
      (Aw (Bm (Bv Hk (As At (pv 4) (Au Gx Ah (pv 7))) Ah (Bu _)) (Aw (DF (Dj DE Et Eu Ew (pv 6) (Ab (As At (pv 1) (pv 7)) Ae)))) Bl))))
     (Aw (DF (Dj DE Et Eu Ew (pv 2) (Ab (Ba (Ab (BH (Vf ER Jk) B.b_sorted (Ab (pv 5) Ae)) (Ab (BH Yg B.b_sorted (Ab (pv 6) Ae)) Ae))) Ae)))))))))
    (Aw (AN (Ba (Ab (pv 2) (Ab (Au AZ (Au En (As At (pv 0) Ah) Ah) (BH Di B.b_len (Ab (pv 2) Ae))) (Ab (A1 aS (Ab (As At (pv 0) Ah) (Ab (pv 1) Ae))) Ae)))))))),?_⟩
   rfl';refine⟨by decide,λD a9=>?_⟩;obtain⟨bv,aT,s2,aA⟩:=new_at (o:=.lst []) a9;rw[<-aT];refine AU ?_;cbv
   have bq:EN (a.map V.int) (some 1) (some (2+a.getD 0 0%3))=((a.drop 1).take m).map V.int:=by
    rw[show(2+a.getD 0 0%3:Int)=((m+1:Nat):Int) by lia];exact(X2 _ 1 (m+1) (by lia)).trans (by rw[show m+1-1=m by lia,<-List.map_drop,<-List.map_take])
   refine⟨_,rfl,Or.inl ⟨_,.int (a.getD 0 0),s2.seq U,aq,(by show(0:Int)<3;decide),_,rfl,C,_,rfl,s2.seq U,λp0 h0=>?_⟩⟩;rw[bq];obtain⟨H3,aU,s3,aB⟩:=new_at (o:=.lst (((a.drop 1).take m).map V.int)) h0;rw[<-aU];have aC:=s3 _ _ aA;have aV:p0≠D:=λz=>by rw[z,aA] at h0;cases h0
   have aW:=s2.trans s3;have a8:∀{b:Hp},Keeps (·=D) H3 b->Ac a6 b:=λk x o e=>k.at_ _ _ (aW _ _ e) (AW e a9);have aX:((a.drop 1).take m).length=m:=by rw[E5,Kg];lia
   refine⟨⟨_,Ag.of aB⟩,Fa (xs:=((a.drop 1).take m).map V.int) (λi σ b=>∃u3 u4 u5 u6 W us A,σ=[some (.ref C),some (.ref L),some (.ref D),u3,u4,u5,u6,W]/\Keeps (·=D) H3 b/\b D=some (.lst (us.map V.ref))/\AV K (λζ=>True) b D us A/\A.length=i/\∀(j:Nat)(s:CK),A[j]?=some s->OF ls (m:Int) (a.getD (1+j) 0) s)
    ⟨none,none,none,none,none,[],[],rfl,Keeps.refl λx o m e=>by rw[m,aC] at e;exact⟨_,(B2 e).symm⟩,aC,AV.nil,rfl,λj s h=>by simp at h⟩ (λi σ b ζ aY=>by obtain⟨_,_,_,_,_,_,_,_,k,_⟩:=aY;exact Ag.of (k.at_ _ _ aB aV)) ?_ ?_⟩
   . refine λi y σ H4 hy E=>AL λNz g=>?_
     obtain⟨u3,u4,u5,u6,W,us,A,rfl,Y,aa,ab,M,ar⟩:=E;refine g ?_;clear g;refine Ha ?_;intro Nx Cy;obtain⟨c,hc,rfl⟩:=getm hy;have aZ:i<m:=by have:=(Bf.mp hc).1;lia
     have ec:a.getD (1+i) 0=c:=by
      rw[List.getElem?_take_of_lt aZ,List.getElem?_drop] at hc;rw[BC,hc];rfl
     refine AU ?_;cbv;have N:=a8 Y;refine⟨Or.inr ⟨by decide,by decide⟩,(by show(0:Int)<2305843009213693951;decide),_,20,rfl,by decide,λX H5 hX Z Q=>?_⟩;have Q:H5 X=some (.lst ((F3 c).map V.int)):=Q;refine AU ?_;cbv;refine⟨by decide,λq au=>?_⟩;obtain⟨H6,ba,R,aD⟩:=new_at (o:=.lst []) au;rw[<-ba];refine AU ?_;cbv;refine⟨by decide,λE0 av=>?_⟩;have s7:=A8 (o:=.lst []) av;have aw:(upd H6 E0 (.lst [])) E0=some (.lst []):=Aa;have ax:=s7 _ _ aD;generalize upd H6 E0 (.lst [])=H7 at s7 aw ax ⊢;refine AU ?_;cbv;have bb:=R.trans s7;have aE:H5 E0=none:=R.free av;have aF:q≠E0:=AW aD av;have bz:X≠q:=AW Q au;have b0:X≠E0:=AW Q aE;have ay:∀{b:Hp},Keeps (λx=>x=q\/x=E0) H7 b->Ac H5 b:=λk x o e=>k.at_ _ _ (bb _ _ e) λz=>z.elim (AW e au) (AW e aE)
     have bc:∀x o,(x=q\/x=E0)->H7 x=some o->∃xs,o=HO.lst xs:=λx o m e=>by
      rcases m with rfl|rfl;rw[ax] at e;exact⟨_,(B2 e).symm⟩;rw[aw] at e;exact⟨_,(B2 e).symm⟩
     refine⟨by decide,by decide,Kn (lo:=0) (n:=5) (λj σ b=>∃W l,σ=[some (.ref C),some (.ref L),some (.ref D),some (.int c),some (.ref X),some (.ref q),some (.ref E0),W]/\Keeps (λx=>x=q\/x=E0) H7 b/\b q=some (.lst (l.map V.ref))/\GT b l (H0 ls (m:Int) c j)/\b E0=some (.lst ((IC ls c j).map V.str)))
      ⟨_,[],rfl,⟨λx o e ζ=>e,bc⟩,ax,GT.nil,aw⟩ ?_ ?_⟩
     . refine λj σ H8 I E=>AL λNz g=>?_
       obtain⟨bd,l,rfl,k8,ae,S,ah⟩:=E;refine g ?_;clear g;refine Ha ?_;intro Nx Cy;refine AU ?_;cbv;have ai:=ay k8;have aG:=N.trans (Z.trans ai);have aH:=ai _ _ Q;have lr:=JW c;have a1:Bj ((F3 c).map V.int) (0+(j:Int))=some (.int ((F3 c).getD j 0)):=by rw[Int.zero_add];exact OH (by lia)
       have a2:Bj ((F3 c).map V.int) (5+(0+(j:Int)))=some (.int ((F3 c).getD (5+j) 0)):=by
        rw[show(5+(0+(j:Int)))=((5+j:Nat):Int) by lia];exact OH (by lia)
       have a3:Bj ((F3 c).map V.int) (10+(0+(j:Int)))=some (.int ((F3 c).getD (10+j) 0)):=by
        rw[show(10+(0+(j:Int)))=((10+j:Nat):Int) by lia];exact OH (by lia)
       have al:Bj (ls.map V.str) (0+(j:Int))=some (.str (ls.getD j default)):=by rw[Int.zero_add];exact cP (by lia)
       have lG:=Tu ls (m:Int) c j;have lE:=Tv ls c j;have be:(l.map V.ref).length<sizeLine:=by rw[Aj,S.len];exact BP (by lia)
       have bf:((IC ls c j).map V.str).length<sizeLine:=by rw[Aj];exact BP (by lia)
       refine Hu (λσ' b=>∃l,σ'=[some (.ref C),some (.ref L),some (.ref D),some (.int c),some (.ref X),some (.ref q),some (.ref E0),some (.int (0+(j:Int)))]/\Keeps (λx=>x=q\/x=E0) H7 b/\b q=some (.lst (l.map V.ref))/\GT b l (H0 ls (m:Int) c (j+1))/\b E0=some (.lst ((IC ls c j).map V.str))) ?_ (λbw hN=>?_);refine λσ' H9 E=>AL λNz g=>?_;obtain⟨l,rfl,k9,H,T9,aj⟩:=E;refine g ?_;clear g;have aI:=ay k9;refine Or.inl ⟨_,_,Ag.of (aI _ _ Q),a3,rfl,Ap (λd=>?_) (λd=>?_)⟩;have J:0<(F3 c).getD (10+j) 0:=Bc d;refine⟨Or.inl ⟨rfl,_,Ag.of aj⟩,Or.inl ⟨_,_,(N.trans (Z.trans aI)).seq hL,al,_,aj,bf,?_⟩⟩;refine⟨_,l,rfl,k9.set (.inr rfl),by rw[AH aF];exact H,T9.updL aj,?_⟩;rw[Aa,IC,An J,Bh];rfl;have J:¬0<(F3 c).getD (10+j) 0:=λz=>d (A7 z);refine⟨_,l,rfl,k9,H,T9,?_⟩;rw[IC,Al J,FM];exact aj;refine Or.inl ⟨_,_,Ag.of aH,a1,rfl,Ap (λd=>?_) (λd=>?_)⟩;rotate_left;have J:¬0<(F3 c).getD j 0:=λz=>d (A7 z);refine hN _ _ ⟨l,rfl,k8,ae,?_,ah⟩;rw[H0,Al J,FM];exact S;have J:0<(F3 c).getD j 0:=Bc d;refine⟨Or.inl ⟨rfl,_,Ag.of ae⟩,Or.inl ⟨_,_,aG.seq hL,al,Or.inl ⟨_,_,Ag.of aH,a2,Or.inl ⟨_,.int (a.getD 0 0),aG.seq U,aq,(by show(0:Int)<3;decide),(by show 0<1+a.getD 0 0%3;lia),BS,λt ht=>?_⟩⟩⟩⟩;cbv;rw[<-ao];obtain⟨H9,bg,v,et⟩:=new_at (o:=.tup [.str (ls.getD j default),.int ((F3 c).getD (5+j) 0%m)]) ht;rw[<-bg];have H:=v _ _ ae;refine⟨_,H,be,?_⟩;refine hN _ _ ⟨l++[t],rfl,(k8.same v).set (.inl rfl),by rw[Aa,Bh];rfl,?_,by rw[AH (Ne.symm aF)];exact v _ _ ah⟩;rw[H0,An J];exact((S.same v).snoc (p:=(ls.getD j default,(F3 c).getD (5+j) 0%m)) et).updL H
     refine λσ H8 E=>AL λNz g=>?_;obtain⟨bd,l,rfl,k8,ae,S,ah⟩:=E;refine g ?_;clear g;have ai:=ay k8;have az:=Z.trans ai;have bh:Keeps (·=D) H3 H8:=⟨λx o e n=>az _ _ (Y.at_ x o e n),Y.ls⟩;have ak:=az _ _ aa;have lG:=Tu ls (m:Int) c 5;have lE:=Tv ls c 5;obtain⟨zs,z1,z2,z3⟩:=Sg (K:=K) S.len S.at_;have b1:zs.length=(H0 ls (m:Int) c 5).length:=(by rw[<-z2,Aj]);refine⟨Or.inl ⟨rfl,_,Ag.of ak⟩,q,zs,rfl,Ag.of (by rw[z1];exact ae),by lia,z3,λG u hp hw hG=>?_⟩;have v:=A8 (o:=.lst (u.map (·.1))) hG;have H:(upd H8 G (.lst (u.map (·.1)))) G=some (.lst (u.map (·.1))):=Aa
     have aJ:∀z∈u,Ps K (upd H8 G (.lst (u.map (·.1)))) z:=λz hz=>by
      obtain⟨t,a1,a2⟩:=z3 z (hp.mem_iff.mp hz);exact⟨t,a1,v.seqT a2⟩
     generalize upd H8 G (.lst (u.map (·.1)))=H9 at v H aJ ⊢;refine⟨E0,IC ls c 5,rfl,Ag.of (v _ _ ah),by lia,λT O bi bj a0=>?_⟩;have af:=A8 (o:=.lst (O.map V.str)) a0;have aM:(upd H9 T (.lst (O.map V.str))) T=some (.lst (O.map V.str)):=Aa
     have z4:∀z∈u,Ps K (upd H9 T (.lst (O.map V.str))) z:=λz hz=>by
      obtain⟨t,a1,a2⟩:=aJ z hz;exact⟨t,a1,af.seqT a2⟩
     generalize upd H9 T (.lst (O.map V.str))=b2 at af aM z4 ⊢;refine⟨BS,λa7 hu=>?_⟩;obtain⟨bk,br,ag,eu⟩:=new_at (o:=.tup [.ref G,.ref T]) hu;rw[<-br];have a5:=(v.trans af).trans ag;have aN:=a5 _ _ ak;have nG:G≠D:=λy=>by rw[y,ak] at hG;cases hG
     have nE:T≠D:=λy=>by rw[y,v _ _ ak] at a0;cases a0
     have gG:C7 K bk G (u.map (·.2)):=⟨_,Ag.of ((af.trans ag) _ _ H),(Sh u z4).same ag⟩;refine⟨_,aN,by rw[Aj,ab.len,M];exact BP (by lia),?_⟩;have bs:=((ab.same (az.trans a5)).snoc (r:=(u.map (·.2),O)) eu gG ((af.trans ag) _ _ H) (ag _ _ aM) nG nE True.intro True.intro).updL (o:=.lst (us.map V.ref++[.ref a7])) aN;refine⟨_,_,_,_,_,us++[a7],A++[(u.map (·.2),O)],rfl,(bh.same a5).set rfl,by rw[Aa,Bh];rfl,bs,by rw[AQ,M];rfl,λj s I=>?_⟩;rcases Nat.lt_or_ge j A.length with bl|b3;rw[E4 bl] at I;exact ar j s I
     have aK:j=A.length:=by
      have:=(Bf.mp I).1;rw[AQ,Ec] at this;lia
     rw[aK,List.getElem?_concat_length] at I;rw[<-B2 I,aK,M,ec];exact⟨by rw[<-z2];exact hp.map _,hw,bi,bj⟩
   refine λσ H4 E=>AL λNz g=>?_;obtain⟨u3,u4,u5,u6,W,us,A,rfl,Y,aa,ab,M,ar⟩:=E;refine g ?_;clear g;rw[Aj,aX] at M;have N:=a8 Y;have bm:Bj (a.map V.int) ((4:Nat):Int)=some (.int (a.getD 4 0)):=OH (by lia);have aL:(us.map V.ref).length=m:=(by rw[Aj,ab.len,M]);refine Or.inl ⟨_,.int (a.getD 0 0),N.seq U,aq,⟨by decide,by decide⟩,_,Or.inl ⟨_,Ag.of aa,rfl⟩,(by rw[aL];lia),Or.inl ⟨_,.int (a.getD 4 0),N.seq U,bm,_,L,ls,rfl,N.seq hL,by lia,λan bn bo H5 hO Z eO TO bt=>?_⟩⟩;rw[aL];refine⟨G7,λt ht=>?_⟩;have R:=A8 (o:=.tup [.ref D,.int (a.getD 0 0/3%m),.ref an]) ht;have bp:D≠an:=λy=>by rw[<-y,aa] at hO;cases hO
   have a4:=Z.trans R;refine aQ t A (a.getD 0 0/3%m) bo _ (N.trans a4) ⟨D,an,us,bn,Aa,True.intro,True.intro,bp,a4 _ _ aa,ab.same a4,R _ _ eO,TO.same R⟩ ⟨by rw[M];lia,λj s I=>by rw[<-ao];exact ar j s I,by rw[ao],bt⟩
abbrev GI (c:Int):Int:=c*48271%65521
def Gp (ns:List Str) (c:Int):List Str:=[ns.getD (GI c%3).toNat default]++if GI c/3%2=1 then[ns.getD (GI c/6%3).toNat default] else[]
def KR (ns:List Str) (c:Int):List Str:=Gp ns c++if GI c/18%4=3 then[ns.getD (GI c/72%3).toNat default] else[]
def Ds (ns:List Str) (m s c:Int):Qu:=(c*16807%65519%m,c*69621%65497%s,KR ns c)
def JX(ns:List Str)(c:Int):1<=(KR ns c).length/\(KR ns c).length<=3:=by
 unfold KR Gp;split<;>split<;>simp
def Tz{i:Int}(b:0<=i)(c:i<xs.length):Bj (xs.map V.str) i=some (.str (xs.getD i.toNat default)):=by
 obtain⟨n,rfl⟩:=DL b;have a:n<xs.length:=(by lia);rw[BK,BC,AC a];exact BF (by rw[A6,AC a];rfl)
def JY:([]:List V).length+1+1+1<=sizeLine:=by decide
def GV(x:Int):0<=x%3/\x%3<3:=⟨DK _ (by decide),DX _ (by decide)⟩
inductive Cq (K:Ai) (vs:List V) (H:Hp) (Q:VK):Prop where
 |mk (c:Int) (N:Addr) (ns:List Str) (m s:Nat) (h0:vs=[.int c,.int m,.int s,.ref N]) (h1:Ag K H N (ns.map V.str)) (h2:ns.length=3) (h3:1<=m) (h4:1<=s) (h5:∀(p u:Addr)(H':Hp),Ac H H'->H' p=some (.tup [.int (Ds ns m s c).1,.int (Ds ns m s c).2.1,.ref u])->H' u=some (.tup ((Ds ns m s c).2.2.map V.str))->Q (.ref p) H'):Cq K vs H Q
def cS (K:Ai):Sp:=λvs H Q ζ=>Cq K vs H Q
abbrev TD(P w K mg base):=By P w K mg base "_law_question" 1 ["_law_cell", "_law_many", "_law_states", "_law_names_here"] (cS K)
theorem cT(B:BA mg)(F:Bq K "_law_question" "_law_question" QR f fd)(z:mg "_law_question" = some (.ref f)):TD P w K mg base:=by
 refine BV F z Tg (λC H Q E h=>?_) (λaa A ab s H C Q E T h=>?_);obtain⟨c,N,ns,m,Z,rfl,_⟩:=h;rfl
 . obtain⟨c,N,ns,m,Z,rfl,j,W,X,h2,q⟩:=h
   refine⟨_,(Ak (AI (i:=4) Tg.nd (Au AZ (Au Em (pv 0) Ah) Ah))
    (Ak (AI (i:=5) Tg.nd (Cj (Ab (As At (pv 3) (Au AZ (pv 4) Ah)) Ae)))
    (Ak (Bm (Bv Cf (Au AZ (Au En (pv 4) Ah) Ah) Ah (Bu _)) (Aw (DF (Dj DE Et Eu Ew (pv 5) (Ab (As At (pv 3) (Au AZ (Au En (pv 4) Ah) Ah)) Ae)))) Bl)
    (Ak (Bm (Bv Cf (Au AZ (Au En (pv 4) Ah) Ah) Ah (Bu _)) (Aw (DF (Dj DE Et Eu Ew (pv 5) (Ab (As At (pv 3) (Au AZ (Au En (pv 4) Ah) Ah)) Ae)))) Bl)
    (Aw (AN (Ba (Ab (Au AZ (Au AZ (Au Em (pv 0) Ah) Ah) (pv 1)) (Ab (Au AZ (Au AZ (Au Em (pv 0) Ah) Ah) (pv 2)) (Ab (Gy XG B.b_tuple (Ab (pv 5) Ae)) Ae)))))))))),?_⟩
   rfl';refine⟨Or.inr ⟨by decide,by decide⟩,(by show(0:Int)<65521;decide),?_⟩;refine AU ?_;cbv;refine⟨(by show(0:Int)<3;decide),Or.inl ⟨_,_,j,Tz (GV _).1 (by have:=(GV (c*48271%65521)).2;lia),Ji,λP t=>?_⟩⟩;obtain⟨U,O,k,l⟩:=new_at (o:=.lst [.str (ns.getD (GI c%3).toNat default)]) t;rw[<-O];refine AU ?_;cbv;have y:∀x o,H x=some o->x≠P:=λx o e=>AW e t;refine Hu (λσ' d=>σ'=[some (.int c),some (.int m),some (.int Z),some (.ref N),some (.int (GI c)),some (.ref P)]/\Ac H d/\d P=some (.lst ((Gp ns c).map V.str))) ?_ (λD g=>?_);rotate_left;refine⟨⟨by decide,by decide⟩,(by show(0:Int)<2;decide),rfl,rfl,Ap (λa=>?_) (λa=>?_)⟩;have b:GI c/3%2=1:=V.int.inj (Bc a);refine⟨Or.inl ⟨rfl,_,Ag.of l⟩,⟨by decide,by decide⟩,(by show(0:Int)<3;decide),Or.inl ⟨_,_,k.seq j,Tz (GV _).1 (by have:=(GV (c*48271%65521/6)).2;lia),_,l,BP (by show 1<=1000;decide),g _ _ ⟨rfl,λx o e=>?_,?_⟩⟩⟩;rw[AH (y x o e)];exact k _ _ e;rw[Aa];unfold Gp;rw[An b];rfl;have b:¬GI c/3%2=1:=λe=>a (A7 (by show V.int (GI c/3%2)=V.int 1;rw[e]));refine g _ _ ⟨rfl,k,?_⟩;unfold Gp;rw[Al b];exact l;rintro σ' Y ⟨rfl,n,r⟩;refine Hu (λσ' d=>σ'=[some (.int c),some (.int m),some (.int Z),some (.ref N),some (.int (GI c)),some (.ref P)]/\Ac H d/\d P=some (.lst ((KR ns c).map V.str))) ?_ (λD g=>?_);rotate_left;have l2:(Gp ns c).length<=2:=by unfold Gp;split<;>simp
   refine⟨⟨by decide,by decide⟩,(by show(0:Int)<4;decide),rfl,rfl,Ap (λa=>?_) (λa=>?_)⟩;have b:GI c/18%4=3:=V.int.inj (Bc a);refine⟨Or.inl ⟨rfl,_,Ag.of r⟩,⟨by decide,by decide⟩,(by show(0:Int)<3;decide),Or.inl ⟨_,_,n.seq j,Tz (GV _).1 (by have:=(GV (c*48271%65521/72)).2;lia),_,r,BP (by rw[Aj];lia),g _ _ ⟨rfl,λx o e=>?_,?_⟩⟩⟩;rw[AH (y x o e)];exact n _ _ e;rw[Aa];unfold KR;rw[An b,Bh];rfl;have b:¬GI c/18%4=3:=λe=>a (A7 (by show V.int (GI c/18%4)=V.int 3;rw[e]));refine g _ _ ⟨rfl,n,?_⟩;unfold KR;rw[Al b,FM];exact r;rintro σ' H3 ⟨rfl,G,R⟩;refine⟨Or.inr ⟨by decide,by decide⟩,(by show(0:Int)<65519;decide),(by show(0:Int)<m;lia),Or.inr ⟨by decide,by decide⟩,(by show(0:Int)<65497;decide),(by show(0:Int)<Z;lia),P,_,rfl,Or.inl ⟨Ag.of R,λu I=>?_⟩⟩;obtain⟨H4,S,J,L⟩:=new_at (o:=.tup ((KR ns c).map V.str)) I;rw[<-S];refine⟨JY,λp M=>?_⟩;have v:=A8 (o:=.tup [.int (c*16807%65519%m),.int (c*69621%65497%Z),.ref u]) M;exact q p u _ ((G.trans J).trans v) Aa (v _ _ L)
def Mh (m a c:Int):Str×Int:=if c*69621%65497%4=0 then("plain",0) else if c*69621%65497%4=1 then("sort",c*48271%65521%a) else("part",c*48271%65521%m)
variable {a:Nat}
def Mi(b:1<=m)(d:1<=a)(c:Int):Ft m a (Mh m a c):=by
 unfold Mh Ft;split;exact .inl ⟨rfl,rfl⟩;split;exact .inr (.inr ⟨rfl,DK _ (by lia),DX _ (by lia)⟩);exact .inr (.inl ⟨rfl,DK _ (by lia),DX _ (by lia)⟩)
inductive Du (K:Ai) (vs:List V) (H:Hp) (Q:VK):Prop where
 |mk (c:Int) (m a:Nat) (h0:vs=[.int c,.int m,.int a]) (h1:1<=m) (h2:1<=a) (h3:∀(p:Addr)(H':Hp),H p=none->Ac H H'->H' p=some (.tup [.str (Mh m a c).1,.int (Mh m a c).2])->Q (.ref p) H'):Du K vs H Q
def cU (K:Ai):Sp:=λvs H Q ζ=>Du K vs H Q
abbrev TF(P w K mg base):=By P w K mg base "_law_thing" 1 ["_law_cell", "_law_many", "_law_asked_here"] (cU K)
def cV(B:BA mg)(F:Bq K "_law_thing" "_law_thing" QS f fd)(o:mg "_law_thing" = some (.ref f)):TF P w K mg base:=by
 refine BV F o WN (λr H Q E h=>?_) (λy A z s H r Q E u h=>?_);obtain⟨c,m,a,rfl,_⟩:=h;rfl;obtain⟨c,m,a,rfl,v,x,q⟩:=h
 refine⟨_,(Ak (AI (i:=3) WN.nd (Au AZ (Au Em (pv 0) Ah) Ah))
  (Ak (Bm (Bv Cf (Au AZ (pv 3) Ah) Ah (Bu _)) (Aw (AN (Ba (Ab BE (Ab Ah Ae))))) Bl)
  (Ak (Bm (Bv Cf (Au AZ (pv 3) Ah) Ah (Bu _)) (Aw (AN (Ba (Ab BE (Ab (Au AZ (Au AZ (Au Em (pv 0) Ah) Ah) (pv 2)) Ae))))) Bl)
  (Aw (AN (Ba (Ab BE (Ab (Au AZ (Au AZ (Au Em (pv 0) Ah) Ah) (pv 1)) Ae)))))))),?_⟩
 rfl';refine⟨Or.inr ⟨by decide,by decide⟩,(by show(0:Int)<65497;decide),?_⟩;have j:∀k,Mh m a c=k->∀p,H p=none->Q (.ref p) (upd H p (.tup [.str k.1,.int k.2])):=λk t p n=>q p _ n (A8 n) (by rw[Aa,<-t]);refine⟨(by show(0:Int)<4;decide),rfl,rfl,Ap (λd=>?_) (λd=>?_)⟩;have b:c*69621%65497%4=0:=V.int.inj (Bc d);exact⟨BS,j (("plain" : Str),0) (An b)⟩;have b:¬c*69621%65497%4=0:=λe=>d (A7 (by show V.int (c*69621%65497%4)=V.int 0;rw[e]));refine⟨(by show(0:Int)<4;decide),rfl,rfl,Ap (λg=>?_) (λg=>?_)⟩;have l:c*69621%65497%4=1:=V.int.inj (Bc g);exact⟨Or.inr ⟨by decide,by decide⟩,(by show(0:Int)<65521;decide),(by show(0:Int)<a;lia),BS,j (("sort" : Str),c*48271%65521%a) ((Al b).trans (An l))⟩;have l:¬c*69621%65497%4=1:=λe=>g (A7 (by show V.int (c*69621%65497%4)=V.int 1;rw[e]));exact⟨Or.inr ⟨by decide,by decide⟩,(by show(0:Int)<65521;decide),(by show(0:Int)<m;lia),BS,j (("part" : Str),c*48271%65521%m) ((Al b).trans (Al l))⟩
def Mj (m a c:Int):Str×Int:=if c*69621%65497%2=0 then("by",c*16807%65519%a) else("to",c*16807%65519%m)
def Qm (ls:List Str) (m a c:Int):Ck:=(ls.getD (c*48271%65521%5).toNat default,Mj m a c)
def Mk(b:1<=m)(d:1<=a)(ls:List Str)(c:Int):Ex m a (Qm ls m a c):=by
 unfold Qm Ex Mj;dsimp only;split;exact .inr ⟨rfl,DK _ (by lia),DX _ (by lia)⟩;exact .inl ⟨rfl,DK _ (by lia),DX _ (by lia)⟩
def cW{i:Int}(b:0<=i)(c:i<xs.length):Bj (xs.map V.str) i=some (.str (xs.getD i.toNat default)):=by
 obtain⟨n,rfl⟩:=DL b;have a:n<xs.length:=(by lia);rw[BK,BC,AC a];exact BF (by rw[A6,AC a];rfl)
def WX:([]:List V).length+1+1+1<=sizeLine:=by decide
inductive D0 (K:Ai) (vs:List V) (H:Hp) (Q:VK):Prop where
 |mk (c:Int) (L:Addr) (ls:List Str) (m a:Nat) (h0:vs=[.int c,.ref L,.int m,.int a]) (h1:Ag K H L (ls.map V.str)) (h2:ls.length=5) (h3:1<=m) (h4:1<=a) (h5:∀(p:Addr)(H':Hp),H p=none->Ac H H'->H' p=some (.tup (ET (Qm ls m a c)))->Q (.ref p) H'):D0 K vs H Q
def cX (K:Ai):Sp:=λvs H Q ζ=>D0 K vs H Q
abbrev TH(P w K mg base):=By P w K mg base "_law_step" 1 ["_law_cell", "_law_labels", "_law_many", "_law_asked_here"] (cX K)
def cY(B:BA mg)(F:Bq K "_law_step" "_law_step" QU f fd)(l:mg "_law_step" = some (.ref f)):TH P w K mg base:=by
 refine BV F l Th (λn H Q E h=>?_) (λC A D s H n Q E u h=>?_);obtain⟨c,L,ls,m,a,rfl,_⟩:=h;rfl;obtain⟨c,L,ls,m,a,rfl,o,v,x,y,q⟩:=h;have r:=DK (c*48271%65521) (by decide:(5:Int)≠0);have z:=DX (c*48271%65521) (by decide:(0:Int)<5)
 refine⟨_,(Ak (AI (i:=4) Th.nd (As At (pv 1) (Au AZ (Au AZ (Au Em (pv 0) Ah) Ah) Ah)))
  (Ak (AI (i:=5) Th.nd (Au AZ (Au Em (pv 0) Ah) Ah))
  (Ak (Bm (Bv Cf (Au AZ (pv 5) Ah) Ah (Bu _)) (Aw (AN (Ba (Ab (pv 4) (Ab BE (Ab (Au AZ (Au AZ (Au Em (pv 0) Ah) Ah) (pv 3)) Ae)))))) Bl)
  (Aw (AN (Ba (Ab (pv 4) (Ab BE (Ab (Au AZ (Au AZ (Au Em (pv 0) Ah) Ah) (pv 2)) Ae))))))))),?_⟩
 rfl';refine⟨Or.inr ⟨by decide,by decide⟩,(by show(0:Int)<65521;decide),(by show(0:Int)<5;decide),Or.inl ⟨_,_,o,cW r (by lia),?_⟩⟩;refine⟨Or.inr ⟨by decide,by decide⟩,(by show(0:Int)<65497;decide),?_⟩;have j:∀k,Mj m a c=k->∀p,H p=none->Q (.ref p) (upd H p (.tup [.str (ls.getD (c*48271%65521%5).toNat default),.str k.1,.int k.2])):=λk t p g=>q p _ g (A8 g) (by rw[Aa,<-t];rfl);refine⟨(by show(0:Int)<2;decide),rfl,rfl,Ap (λb=>?_) (λb=>?_)⟩;have d:c*69621%65497%2=0:=V.int.inj (Bc b);exact⟨Or.inr ⟨by decide,by decide⟩,(by show(0:Int)<65519;decide),(by show(0:Int)<a;lia),WX,j (("by" : Str),c*16807%65519%a) (An d)⟩;have d:¬c*69621%65497%2=0:=λe=>b (A7 (by show V.int (c*69621%65497%2)=V.int 0;rw[e]));exact⟨Or.inr ⟨by decide,by decide⟩,(by show(0:Int)<65519;decide),(by show(0:Int)<m;lia),WX,j (("to" : Str),c*16807%65519%m) (Al d)⟩
def Ml (t a c:Int):Str×Int:=if c*69621%65497%3=0 then("by",c*16807%65519%a) else("thing",c*16807%65519%t)
def Qn (ns ls:List Str) (t a c:Int):Ef:=(ls.getD (c*48271%65521%5).toNat default,ns.getD (c*69621%65497/3%3).toNat default,Ml t a c)
def Mm{t:Nat}(b:1<=t)(d:1<=a)(ns ls:List Str)(c:Int):Ey t a (Qn ns ls t a c):=by
 unfold Qn Ey Ml;dsimp only;split;exact .inr ⟨rfl,DK _ (by lia),DX _ (by lia)⟩;exact .inl ⟨rfl,DK _ (by lia),DX _ (by lia)⟩
def WY{i:Int}(b:0<=i)(c:i<xs.length):Bj (xs.map V.str) i=some (.str (xs.getD i.toNat default)):=by
 obtain⟨n,rfl⟩:=DL b;have a:n<xs.length:=(by lia);rw[BK,BC,AC a];exact BF (by rw[A6,AC a];rfl)
def H1:([]:List V).length+1+1+1+1<=sizeLine:=by decide
inductive CB (K:Ai) (vs:List V) (H:Hp) (Q:VK):Prop where
 |mk (c:Int) (L N:Addr) (ls ns:List Str) (t a:Nat) (h0:vs=[.int c,.ref L,.ref N,.int t,.int a]) (h1:Ag K H L (ls.map V.str)) (h2:ls.length=5) (h3:Ag K H N (ns.map V.str)) (h4:ns.length=3) (h5:1<=t) (h6:1<=a) (h7:∀(p:Addr)(H':Hp),H p=none->Ac H H'->H' p=some (.tup (Ct (Qn ns ls t a c)))->Q (.ref p) H'):CB K vs H Q
def cZ (K:Ai):Sp:=λvs H Q ζ=>CB K vs H Q
abbrev TJ(P w K mg base):=By P w K mg base "_law_telling" 1 ["_law_cell", "_law_labels", "_law_names_here", "_law_things", "_law_asked_here"] (cZ K)
def dA(B:BA mg)(F:Bq K "_law_telling" "_law_telling" QV f fd)(l:mg "_law_telling" = some (.ref f)):TJ P w K mg base:=by
 refine BV F l Qd (λm H Q E h=>?_) (λJ A M s H m Q E x h=>?_);obtain⟨c,L,N,ls,ns,t,a,rfl,_⟩:=h;rfl;obtain⟨c,L,N,ls,ns,t,a,rfl,n,y,o,z,C,D,q⟩:=h;have r:=DK (c*48271%65521) (by decide:(5:Int)≠0);have G:=DX (c*48271%65521) (by decide:(0:Int)<5);have u:=DK (c*69621%65497/3) (by decide:(3:Int)≠0);have I:=DX (c*69621%65497/3) (by decide:(0:Int)<3)
 refine⟨_,(Ak (AI (i:=5) Qd.nd (As At (pv 1) (Au AZ (Au AZ (Au Em (pv 0) Ah) Ah) Ah)))
  (Ak (AI (i:=6) Qd.nd (Au AZ (Au Em (pv 0) Ah) Ah))
  (Ak (AI (i:=7) Qd.nd (As At (pv 2) (Au AZ (Au En (pv 6) Ah) Ah)))
  (Ak (Bm (Bv Cf (Au AZ (pv 6) Ah) Ah (Bu _)) (Aw (AN (Ba (Ab (pv 5) (Ab (pv 7) (Ab BE (Ab (Au AZ (Au AZ (Au Em (pv 0) Ah) Ah) (pv 4)) Ae))))))) Bl)
  (Aw (AN (Ba (Ab (pv 5) (Ab (pv 7) (Ab BE (Ab (Au AZ (Au AZ (Au Em (pv 0) Ah) Ah) (pv 3)) Ae))))))))))),?_⟩
 rfl';refine⟨Or.inr ⟨by decide,by decide⟩,(by show(0:Int)<65521;decide),(by show(0:Int)<5;decide),Or.inl ⟨_,_,n,WY r (by lia),?_⟩⟩;refine⟨Or.inr ⟨by decide,by decide⟩,(by show(0:Int)<65497;decide),?_⟩;refine⟨⟨by decide,by decide⟩,(by show(0:Int)<3;decide),Or.inl ⟨_,_,o,WY u (by lia),?_⟩⟩;have j:∀k,Ml t a c=k->∀p,H p=none->Q (.ref p) (upd H p (.tup [.str (ls.getD (c*48271%65521%5).toNat default),.str (ns.getD (c*69621%65497/3%3).toNat default),.str k.1,.int k.2])):=λk v p g=>q p _ g (A8 g) (by rw[Aa,<-v];rfl);refine⟨(by show(0:Int)<3;decide),rfl,rfl,Ap (λb=>?_) (λb=>?_)⟩;have d:c*69621%65497%3=0:=V.int.inj (Bc b);exact⟨Or.inr ⟨by decide,by decide⟩,(by show(0:Int)<65519;decide),(by show(0:Int)<a;lia),H1,j (("by" : Str),c*16807%65519%a) (An d)⟩;have d:¬c*69621%65497%3=0:=λe=>b (A7 (by show V.int (c*69621%65497%3)=V.int 0;rw[e]));exact⟨Or.inr ⟨by decide,by decide⟩,(by show(0:Int)<65519;decide),(by show(0:Int)<t;lia),H1,j (("thing" : Str),c*16807%65519%t) (Al d)⟩
def DJ (m:Nat):Nat:=if m<4 then 3 else 2
abbrev BW (m:Nat) (c:Int):Int:=c/8*48271%65539%m
abbrev EY (ss:List AY) (i:Int):AY:=ss.getD i.toNat ([],[])
def ID (ls:List Str) (m a:Nat) (ss:List AY) (c:Int):List AY:=if c%8<3/\(EY ss (BW m c)).1.length<DJ m then ss.set (BW m c).toNat ((EY ss (BW m c)).1++[Qm ls m a (c/8)],(EY ss (BW m c)).2) else ss
def M5 (ls ns:List Str) (m t a:Nat) (ss:List AY) (c:Int):List AY:=if(2<c%8/\c%8<6)/\(EY ss (BW m c)).2.length<2 then ss.set (BW m c).toNat ((EY ss (BW m c)).1,(EY ss (BW m c)).2++[Qn ns ls t a (c/8)]) else ss
def Qo (ls ns:List Str) (m t a:Nat) (ss:List AY) (c:Int):List AY:=M5 ls ns m t a (ID ls m a ss c) c
def Ej (ls ns:List Str) (m t a:Nat) (cs:List Int) (i:Nat):List AY:=(cs.take i).foldl (Qo ls ns m t a) (List.replicate m ([],[]))
def JZ(ls:List Str)(m a:Nat)(ss:List AY)(c:Int):(ID ls m a ss c).length=ss.length:=by unfold ID;split;exact FL;rfl
def Qp(ls ns:List Str)(m t a:Nat)(ss:List AY)(c:Int):(M5 ls ns m t a ss c).length=ss.length:=by unfold M5;split;exact FL;rfl
def WZ{ns:List Str}{t:Nat}{b:List Int}(h:b[i]?=some c):Ej ls ns m t a b (i+1)=Qo ls ns m t a (Ej ls ns m t a b i) c:=by
 unfold Ej;rw[Ek,h,Ki];rfl
structure GW (m t a:Nat) (ss:List AY):Prop where
 len:ss.length=m
 st:∀s∈ss,s.1.length<=DJ m
 tl:∀s∈ss,s.2.length<=2
 kst:∀s∈ss,∀p∈s.1,Ex m a p
 ktl:∀s∈ss,∀p∈s.2,Ey t a p
variable {ss:List AY}
def W0{t:Nat}(h:GW m t a ss)(i:Int):(EY ss i).1.length<=DJ m/\(EY ss i).2.length<=2/\(∀p∈(EY ss i).1,Ex m a p)/\∀p∈(EY ss i).2,Ey t a p:=by
 unfold EY;rw[BC]
 cases e:ss[i.toNat]? with
 |none=>exact⟨Df _,Df _,λp b=>(by cases b),λp b=>(by cases b)⟩
 |some s =>
   have:=Bi e;exact⟨h.st s this,h.tl s this,h.kst s this,h.ktl s this⟩
def GW.setA{t:Nat}(h:GW m t a ss){s:AY}(c:s.1.length<=DJ m)(d:s.2.length<=2)(e:∀p∈s.1,Ex m a p)(f:∀p∈s.2,Ey t a p):GW m t a (ss.set i s):=by
 refine⟨by rw[FL];exact h.len,λu b=>?_,λu b=>?_,λu b=>?_,λu b=>?_⟩<;>rcases List.mem_or_eq_of_mem_set b with b|rfl;exact h.st u b;exact c;exact h.tl u b;exact d;exact h.kst u b;exact e;exact h.ktl u b;exact f
set_option tactic.hygienic true in
theorem OI{ls ns:List Str}{m t a:Nat}(n:1<=m)(o:1<=t)(k:1<=a)(f:List Int):∀i,GW m t a (Ej ls ns m t a f i)
 |0=>by
   have e:∀s∈List.replicate m (([],[]):AY),s=([],[]):=λs d=>(List.mem_replicate.mp d).2;exact⟨List.length_replicate,(λs d=>by rw[e s d];exact Df _),(λs d=>by rw[e s d];exact Df _),(λs d p b=>by rw[e s d] at b;cases b),(λs d p b=>by rw[e s d] at b;cases b)⟩
 | i + 1=>by
   have j:=OI (ls:=ls) (ns:=ns) n o k f i
   cases e:f[i]? with
   |none =>
     have q:Ej ls ns m t a f (i+1)=Ej ls ns m t a f i:=by unfold Ej;rw[Ek,e];simp
     rw[q];exact j
   |some c =>
     rw[WZ e];generalize Ej ls ns m t a f i=ss at j
     have l:GW m t a (ID ls m a ss c):=by
      have g:=W0 j (BW m c);unfold ID;split;rename_i h;refine j.setA (by rw[AQ,Ec];exact h.2) g.2.1 (λp b=>?_) g.2.2.2;rcases BB.mp b with b|b;exact g.2.2.1 p b;rw[AR.mp b];exact Mk n k _ _;exact j
     unfold Qo M5;have g:=W0 l (BW m c);split;rename_i h;refine l.setA g.1 (by rw[AQ,Ec];exact h.2) g.2.2.1 (λp b=>?_);rcases BB.mp b with b|b;exact g.2.2.2 p b;rw[AR.mp b];exact Mm o k _ _ _;exact l
def dB(a b:V):Bj [a,b] 0=some a:=BF (j:=0) rfl
def dC(a b:V):Bj [a,b] 1=some b:=BF (j:=1) rfl
inductive CV (K:Ai) (vs:List V) (H:Hp) (Q:VK):Prop where
 |mk (C L N Z:Addr) (cs:List Int) (ls ns:List Str) (m t a:Nat) (h0:vs=[.ref C,.ref L,.ref N,.int m,.ref Z]) (h1:Ag K H C (cs.map V.int)) (h2:cs.length<=63) (h3:Ag K H L (ls.map V.str)) (h4:ls.length=5) (h5:Ag K H N (ns.map V.str)) (h6:ns.length=3) (h7:Ao K H Z [.int t,.int a]) (h8:1<=m) (h9:m<=5) (h10:1<=t) (h11:1<=a) (h12:∀(S:Addr)(us Gs Es:List Addr)(H':Hp),Ac H H'->C8 H' S us Gs Es (Ej ls ns m t a cs cs.length)->Q (.ref S) H'):CV K vs H Q
def dD (K:Ai):Sp:=λvs H Q ζ=>CV K vs H Q
abbrev TL(P w K mg base):=By P w K mg base "_law_scopes" 2 ["_law_cells", "_law_labels", "_law_names_here", "_law_many", "_law_sizes"] (dD K)
theorem dE(B:BA mg)(a9:TH P w K mg base)(aA:TJ P w K mg base)(F:Bq K "_law_scopes" "_law_scopes" OZ f fd)(hm:mg "_law_scopes" = some (.ref f)):TL P w K mg base:=by
 refine BV F hm MX (λvs H a6 a7 h=>?_) (λaV aS aY s H vs a6 a7 hr h=>?_);obtain⟨af,L,ab,ag,T,ls,ns,m,t,a,rfl,_⟩:=h;rfl
 . obtain⟨af,L,ab,ag,T,ls,ns,m,t,a,rfl,hC,lc,hL,ll,hN,ln,hZ,m1,m5,E,a1,a8⟩:=h
   refine⟨_,(Ak (Pl (i:=5) MX.nd rfl (Or.inl rfl) rfl Cm (IQ rfl B.b_range (Ab (pv 3) Ae)) (λζ ζ ζ ζ ζ=>(Ay (i:=0) Cm.nd)) (λζ ζ ζ ζ ζ=>Hs) (λζ ζ ζ ζ ζ=>(Ba (Ab (Cj Ae) (Ab (Cj Ae) Ae)))))
    (Ak (AI (i:=6) MX.nd (As At (Cj (Ab Ah (Ab Ah Ae))) (Gy UB B.b_int (Ab (ME GO (pv 3) Ah (Bu _)) Ae))))
    (Ak (CJ Cz rfl (Dh (pv 0)) (Ay (i:=7) MX.nd) (Ak (AI (i:=8) MX.nd (Au AZ (Au AZ (Au Em (Au En (pv 7) Ah) Ah) Ah) (pv 3)))
     (Ak (AI (i:=9) MX.nd (Au En (pv 7) Ah))
     (Ak (Bm (PW.pt (G2 (Bv GO (Au AZ (pv 7) Ah) Ah (Bu _)) (G1 (Bv GO (BH Di B.b_len (Ab (As At (As At (pv 5) (pv 8)) Ah) Ae)) (pv 6) (Bu _))))) (Aw (DF (Dj DE Et Eu Ew (As At (As At (pv 5) (pv 8)) Ah) (Ab (A1 a9 (Ab (pv 9) (Ab (pv 1) (Ab (pv 3) (Ab (As At (pv 4) Ah) Ae))))) Ae)))) Bl)
     (Aw (Bm (PW.pt (G2 (Xy GO GO Ah (Au AZ (pv 7) Ah) Ah) (G1 (Bv GO (BH Di B.b_len (Ab (As At (As At (pv 5) (pv 8)) Ah) Ae)) Ah (Bu _))))) (Aw (DF (Dj DE Et Eu Ew (As At (As At (pv 5) (pv 8)) Ah) (Ab (A1 aA (Ab (pv 9) (Ab (pv 1) (Ab (pv 2) (Ab (As At (pv 4) Ah) (Ab (As At (pv 4) Ah) Ae)))))) Ae)))) Bl))))))
    (Aw (AN (pv 5)))))),?_⟩
   try dsimp only[AE,Cx.nox,Cx.wish]
   refine⟨by lia,by lia,Vi (n:=m) (λD i ys r=>∃us d g:List Addr,ys=us.map V.ref/\Ac H r/\C8 r D us d g (List.replicate i (([],[]):AY))/\(D::(d++g)).Nodup/\∀x∈d++g,H x=none)
    (λD hD=>⟨[],[],[],rfl,A8 hD,C8.nil Aa,by simp,λx O=>by simp at O⟩) (λD i ys H7 RR hD hi hv k=>?_) (λS ys H7 aW hv=>?_)⟩
   refine AL λU b=>?_;obtain⟨us,d,g,rfl,l,SC,W,ae⟩:=hv;refine b ?_;clear b;have ay:=SC.lu;rw[List.length_replicate] at ay;refine⟨by decide,λG Q=>?_⟩;obtain⟨H8,aB,E,eG⟩:=new_at (o:=.lst []) Q;rw[<-aB];refine⟨by decide,λj A=>?_⟩;obtain⟨H9,aC,p,aD⟩:=new_at (o:=.lst []) A;rw[<-aC];refine⟨BS,λu hu=>?_⟩;obtain⟨aE,aR,t3,eu⟩:=new_at (o:=.tup [.ref G,.ref j]) hu;rw[<-aR];have az:=(E.trans p).trans t3;have aF:=p.trans t3;have a0:=SC.same az;have al:=SC.alive
   have nG:G∉D::(d++g):=λy=>by
    rcases BO.mp y with y|y;rw[y,SC.top] at Q;cases Q;obtain⟨xs,e⟩:=al G y;rw[e] at Q;cases Q
   have nE:j∉D::(d++g):=λy=>by
    rcases BO.mp y with y|y;rw[y,E _ _ SC.top] at A;cases A;obtain⟨xs,e⟩:=al j y;rw[E _ _ e] at A;cases A
   have aG:G≠j:=λy=>by rw[<-y,eG] at A;cases A
   have aH:G8 aE u G j ([],[]):=⟨eu,⟨[],aF _ _ eG,RT.nil⟩,⟨[],t3 _ _ aD,RT.nil⟩⟩;have aI:=a0.snoc aH (λz=>nG (z▸A3)) (λz=>nE (z▸A3)) (λx O z=>(Gr.mp W).1 (z▸O));refine k _ _ a0.top (by rw[Aj,ay];exact BP (by lia)) ⟨us++[u],d++[G],g++[j],by rw[Bh];rfl,λaT o e=>?_,?_,Yl W nG nE aG,λx O=>?_⟩;rw[AH (AW e hD)];exact az _ _ (l _ _ e);rw[List.replicate_succ'];exact aI
   have:x∈d++g\/x=G\/x=j:=by
    simp only[BB,AR] at O ⊢;rcases O with(h|h)|(h|h);exact .inl (.inl h);exact .inr (.inl h);exact .inl (.inr h);exact .inr (.inr h)
   rcases this with h|h|h;exact ae x h;rw[h];exact l.free Q;rw[h];exact(l.trans E).free A;refine AL λU b=>?_;obtain⟨us,d,g,rfl,s4,aJ,W,ae⟩:=hv;refine b ?_;clear b;cbv;refine⟨BS,λaU hl=>?_⟩;obtain⟨H5,aK,s5,el⟩:=new_at (o:=.lst [.int 2,.int 3]) hl;rw[<-aK]
   have aL:Bj [V.int 2,V.int 3] (if decide ((m:Int)<4)=true then 1 else 0)=some (.int (DJ m)):=by
    unfold DJ;by_cases h:m<4;rw[An (A7 (by lia)),An h];exact dC _ _;rw[Al (by rw[El (by lia)];exact C3),Al h];exact dB _ _
   refine Or.inr ⟨_,rfl,Or.inl ⟨_,.int (DJ m),Ag.of el,aL,?_⟩⟩;refine AU ?_;cbv;have a2:=s4.trans s5;refine⟨⟨_,a2.seq hC⟩,Fa (xs:=T.map V.int) (λi σ r=>∃u7 u8 u9,σ=[some (.ref af),some (.ref L),some (.ref ab),some (.int m),some (.ref ag),some (.ref S),some (.int (DJ m)),u7,u8,u9]/\Ac H r/\C8 r S us d g (Ej ls ns m t a T i)) ⟨none,none,none,rfl,a2,aJ.same s5⟩ (λi σ r ζ aM=>by obtain⟨_,_,_,_,s,_⟩:=aM;exact s.seq hC) ?_ ?_⟩;rotate_left;refine λσ H6 ak=>AL λU b=>?_;obtain⟨u7,u8,u9,rfl,I,q⟩:=ak;refine b ?_;clear b;rw[Aj] at q;exact a8 S us d g _ I q;refine λi y σ H6 hy ak=>AL λU b=>?_;obtain⟨u7,u8,u9,rfl,I,q⟩:=ak;refine b ?_;clear b;obtain⟨c,hc,rfl⟩:=getm hy;have a3:=OI (ls:=ls) (ns:=ns) m1 E a1 T i;rw[WZ hc];generalize Ej ls ns m t a T i=ss at q a3;refine AU ?_;cbv;refine⟨⟨by decide,by decide⟩,Or.inr ⟨by decide,by decide⟩,(by show(0:Int)<65539;decide),(by show(0:Int)<m;lia),?_⟩;refine AU ?_;cbv;refine⟨⟨by decide,by decide⟩,?_⟩;refine AU ?_;cbv;have r0:0<=BW m c:=DK _ (by lia);have r1:BW m c<m:=DX _ (by lia);obtain⟨n,R⟩:=DL r0;have aN:=a3.len;have an:n<ss.length:=(by lia);have a4:EY ss (BW m c)=ss[n]:=by unfold EY;rw[R,BK,BC,AC an];rfl
   have aX:DJ m<=3:=by unfold DJ;split<;>lia
   refine Hu (λσ' r=>σ'=[some (.ref af),some (.ref L),some (.ref ab),some (.int m),some (.ref ag),some (.ref S),some (.int (DJ m)),some (.int c),some (.int (BW m c)),some (.int (c/8))]/\Ac H r/\C8 r S us d g (ID ls m a ss c)) ?_ (λNX ao=>?_);rotate_left
   . refine AL λU b=>?_
     obtain⟨u,G,j,ah,ai,aj,g4,⟨X,⟨tG,J,Y⟩,_⟩⟩:=q.get an;refine b ?_;clear b;have aa:Bj (us.map V.ref) (BW m c)=some (.ref u):=by rw[R];exact BF (by rw[A6,ah];rfl)
     have aq:(tG.map V.ref).length=(EY ss (BW m c)).1.length:=(by rw[Aj,Y.len,a4]);have no:¬(c%8<3/\(EY ss (BW m c)).1.length<DJ m)->ID ls m a ss c=ss:=λz=>Al z;refine⟨(by show(0:Int)<8;decide),rfl,Ap (λM=>?_) (λM=>?_)⟩;rotate_left;refine ao _ _ ⟨rfl,I,?_⟩;rw[no λz=>M (A7 z.1)];exact q;have ar:c%8<3:=Bc M;refine Or.inl ⟨_,.ref u,Ag.of q.top,aa,Or.inr (Or.inl ⟨_,.ref G,Ao.of X,rfl,_,Or.inl ⟨_,Ag.of J,rfl⟩,rfl,Ap (λN=>?_) (λN=>?_)⟩)⟩;rotate_left;refine ao _ _ ⟨rfl,I,?_⟩;rw[no λz=>N (A7 (by rw[aq];exact Int.ofNat_lt.mpr z.2))];exact q
     have au:(EY ss (BW m c)).1.length<DJ m:=by
      have:=Bc N;rw[aq] at this;exact Int.ofNat_lt.mp this
     refine Or.inl ⟨_,.ref u,Ag.of q.top,aa,Or.inr (Or.inl ⟨_,.ref G,Ao.of X,rfl,Or.inl ⟨rfl,_,Ag.of J⟩,Or.inr (Or.inl ⟨_,.int a,I.seqT hZ,rfl,c/8,L,ls,m,a,rfl,I.seq hL,ll,m1,a1,λtp H8 aO p av=>?_⟩)⟩)⟩;have Z:=p _ _ J;have mG:G∈d++g:=E7 _ (Bi ai);refine⟨_,Z,by rw[aq];exact BP (by lia),ao _ _ ⟨rfl,λx o e=>?_,?_⟩⟩;rw[AH (AW e (ae G mG))];exact p _ _ (I _ _ e);have:=(q.same p).step W an ai Z (Y.same p) av;unfold ID;rw[An ⟨ar,au⟩,a4,R,BK];exact this
   rintro σ' H7 ⟨rfl,l,C⟩;have aP:(ID ls m a ss c).length=m:=by rw[JZ];exact aN
   show _;unfold Qo;generalize ID ls m a ss c=v at C aP;have ax:n<v.length:=(by lia);have a5:EY v (BW m c)=v[n]:=by unfold EY;rw[R,BK,BC,AC ax];rfl
   refine AL λU b=>?_;obtain⟨u,G,j,ah,ai,aj,g4,⟨X,_,⟨tE,J,Y⟩⟩⟩:=C.get ax;refine b ?_;clear b;have aa:Bj (us.map V.ref) (BW m c)=some (.ref u):=by rw[R];exact BF (by rw[A6,ah];rfl)
   have aw:(tE.map V.ref).length=(EY v (BW m c)).2.length:=(by rw[Aj,Y.len,a5]);have no:¬((2<c%8/\c%8<6)/\(EY v (BW m c)).2.length<2)->M5 ls ns m t a v c=v:=λz=>Al z;refine⟨(by show(0:Int)<8;decide),_,rfl,Ap (λd0=>?_) (λd0=>?_)⟩;rotate_left;refine⟨rfl,Bw (Bw ⟨_,_,_,rfl,l,?_⟩)⟩;rw[no λz=>d0 (A7 z.1.1)];exact C;have aQ:2<c%8:=Bc d0;refine⟨rfl,Ap (λM=>?_) (λM=>?_)⟩;rotate_left;refine⟨_,_,_,rfl,l,?_⟩;rw[no λz=>M (A7 z.1.2)];exact C;have ar:c%8<6:=Bc M;refine Or.inl ⟨_,.ref u,Ag.of C.top,aa,Or.inr (Or.inl ⟨_,.ref j,Ao.of X,rfl,_,Or.inl ⟨_,Ag.of J,rfl⟩,rfl,Ap (λN=>?_) (λN=>?_)⟩)⟩;rotate_left;refine⟨_,_,_,rfl,l,?_⟩;rw[no λz=>N (A7 (by rw[aw];exact Int.ofNat_lt.mpr z.2))];exact C
   have au:(EY v (BW m c)).2.length<2:=by
    have:=Bc N;rw[aw] at this;exact Int.ofNat_lt.mp this
   refine Or.inl ⟨_,.ref u,Ag.of C.top,aa,Or.inr (Or.inl ⟨_,.ref j,Ao.of X,rfl,Or.inl ⟨rfl,_,Ag.of J⟩,Or.inr (Or.inl ⟨_,.int t,l.seqT hZ,rfl,Or.inr (Or.inl ⟨_,.int a,l.seqT hZ,rfl,c/8,L,ab,ls,ns,t,a,rfl,l.seq hL,ll,l.seq hN,ln,E,a1,λtp H8 aO p av=>?_⟩)⟩)⟩)⟩;have Z:=p _ _ J;have mE:j∈d++g:=De _ (Bi aj);refine⟨_,Z,by rw[aw];exact BP (by lia),⟨_,_,_,rfl,λx o e=>?_,?_⟩⟩;rw[AH (AW e (ae j mE))];exact p _ _ (l _ _ e);have:=(C.same p).tell W ax aj Z (Y.same p) av;unfold M5;rw[An ⟨⟨aQ,ar⟩,au⟩,a5,R,BK];exact this
abbrev D1 (ns:List Int):List Str:=GS (Dk ns 0) 3
abbrev KS (ns:List Int):List Str:=GS (Dk ns 1) 5
def H2 (ns:List Int) (n:Nat):List Int:=(List.range n).map λk:Nat=>Dk ns (2+(k:Int))
abbrev Mn (ns:List Int):Int:=Dk ns 7
abbrev Bk (ns:List Int):Nat:=(1+Mn ns%5).toNat
abbrev B1 (ns:List Int):List Int:=ns.drop 9
def EZ (cs:List Int):Nat:=(cs.filter λc=>decide (c%8=7)).length
def BG (ns:List Int):Nat:=1+min 5 (EZ (B1 ns))
abbrev Dv (ns:List Int):Nat:=(1+Dk ns 2%3).toNat
def KU (m a:Nat) (l:List (Str×Int)) (c:Int):List (Str×Int):=if c%8=6/\l.length<6 then l++[Mh m a (c/8)] else l
def BN (ns:List Int) (i:Nat):List (Str×Int):=((B1 ns).take i).foldl (KU (Bk ns) (BG ns)) [("part",Mn ns/5%Bk ns)]
def J1 (nm:List Str) (m s:Nat) (l:List Qu) (c:Int):List Qu:=if c%8=7/\l.length<6 then l++[Ds nm m s (c/8)] else l
def FA (ns:List Int) (i:Nat):List Qu:=((B1 ns).take i).foldl (J1 (D1 ns) (Bk ns) (Dv ns)) [Ds (D1 ns) (Bk ns) (Dv ns) (Mn ns/25)]
def M6(ns:List Int):1<=Bk ns/\Bk ns<=5:=by unfold Bk;lia
def TM(ns:List Int):1<=Dv ns/\Dv ns<=3:=by unfold Dv;lia
def OJ(ns:List Int):1<=BG ns/\BG ns<=6:=by unfold BG;lia
def W1(h:(B1 ns)[i]?=some c):BN ns (i+1)=KU (Bk ns) (BG ns) (BN ns i) c:=by
 unfold BN;rw[Ek,h,Ki];rfl
def W2(h:(B1 ns)[i]?=some c):FA ns (i+1)=J1 (D1 ns) (Bk ns) (Dv ns) (FA ns i) c:=by
 unfold FA;rw[Ek,h,Ki];rfl
set_option tactic.hygienic true in
def M7(ns:List Int)(i:Nat):1<=(BN ns i).length/\(BN ns i).length<=6:=by
 unfold BN;generalize (B1 ns).take i=l
 have:∀(l:List Int)(g:List (Str × Int)),1<=g.length/\g.length<=6->1<=(l.foldl (KU (Bk ns) (BG ns)) g).length/\(l.foldl (KU (Bk ns) (BG ns)) g).length<=6:=by
  intro l
  induction l with
  |nil=>exact λg h=>h
  |cons c l a =>
    intro g h;refine a _ ?_;unfold KU;split;rename_i k;rw[AQ,Ec];lia;exact h
 exact this l _ ⟨AG _,(by show 1<=6;decide)⟩
def J2(ns:List Int)(i:Nat):∀p∈BN ns i,Ft (Bk ns) (BG ns) p:=by
 unfold BN;generalize (B1 ns).take i=l;have b:=M6 ns;have d:=OJ ns
 have:∀(l:List Int)(g:List (Str × Int)),(∀p∈g,Ft (Bk ns) (BG ns) p) -> ∀p∈l.foldl (KU (Bk ns) (BG ns)) g,Ft (Bk ns) (BG ns) p:=by
  intro l
  induction l with
  |nil=>exact λg h=>h
  |cons c l e =>
    intro g h;refine e _ ?_;unfold KU;split;intro p a;rcases BB.mp a with a|a;exact h p a;rw[AR.mp a];exact Mi b.1 d.1 _;exact h
 refine this l _ λp a=>?_;rw[AR.mp a];exact .inr (.inl ⟨rfl,DK _ (by lia),DX _ (by lia)⟩)
def W3(ns:List Int)(i:Nat):(FA ns i).length=1+min 5 (EZ ((B1 ns).take i)):=by
 unfold FA;generalize (B1 ns).take i=l
 have:∀(l:List Int)(g:List Qu),g.length<=6->(l.foldl (J1 (D1 ns) (Bk ns) (Dv ns)) g).length=min 6 (g.length+EZ l):=by
  intro l
  induction l with
  |nil=>intro g h;show g.length=min 6 (g.length+0);lia
  |cons c l d =>
    intro g h;show(l.foldl _ (J1 (D1 ns) (Bk ns) (Dv ns) g c)).length=_
    have e:EZ (c::l)=(if c%8=7 then 1 else 0)+EZ l:=by
     unfold EZ;rw[Mw];by_cases a:c%8=7;rw[An (A7 a),An a,Er];lia;rw[Al (by rw[El a];exact C3),Al a];lia
    rw[e];by_cases k:c%8=7/\g.length<6;have b:J1 (D1 ns) (Bk ns) (Dv ns) g c=g++[Ds (D1 ns) (Bk ns) (Dv ns) (c/8)]:=An k;rw[b,d _ (by rw[AQ,Ec];lia),AQ,Ec,An k.1];lia;have b:J1 (D1 ns) (Bk ns) (Dv ns) g c=g:=Al k;rw[b,d g h];by_cases a:c%8=7;have:¬g.length<6:=λz=>k ⟨a,z⟩;lia;rw[Al a];lia
 rw[this l _ (by show 1<=6;decide)];show min 6 (1+EZ l)=_;lia
def TN(ns:List Int):(FA ns (B1 ns).length).length=BG ns:=by rw[W3,DW];rfl
def Ia(ns:List Int)(i:Nat):∀q∈FA ns i,(0<=q.1/\q.1<Bk ns)/\(0<=q.2.1/\q.2.1<Dv ns)/\1<=q.2.2.length/\q.2.2.length<=8:=by
 unfold FA;generalize (B1 ns).take i=l;have d:=M6 ns;have e:=TM ns
 have one:∀c,(0<=(Ds (D1 ns) (Bk ns) (Dv ns) c).1/\(Ds (D1 ns) (Bk ns) (Dv ns) c).1<Bk ns)/\(0<=(Ds (D1 ns) (Bk ns) (Dv ns) c).2.1/\(Ds (D1 ns) (Bk ns) (Dv ns) c).2.1<Dv ns)/\1<=(Ds (D1 ns) (Bk ns) (Dv ns) c).2.2.length/\(Ds (D1 ns) (Bk ns) (Dv ns) c).2.2.length<=8:=λc=>by
  have:=JX (D1 ns) c;exact⟨⟨DK _ (by lia),DX _ (by lia)⟩,⟨DK _ (by lia),DX _ (by lia)⟩,this.1,DY this.2 (by decide)⟩
 have:∀(l:List Int)(g:List Qu),(∀q∈g,(0<=q.1/\q.1<Bk ns)/\(0<=q.2.1/\q.2.1<Dv ns)/\1<=q.2.2.length/\q.2.2.length<=8) -> ∀q∈l.foldl (J1 (D1 ns) (Bk ns) (Dv ns)) g,(0<=q.1/\q.1<Bk ns)/\(0<=q.2.1/\q.2.1<Dv ns)/\1<=q.2.2.length/\q.2.2.length<=8:=by
  intro l
  induction l with
  |nil=>exact λg h=>h
  |cons c l b =>
    intro g h;refine b _ ?_;unfold J1;split;intro p a;rcases BB.mp a with a|a;exact h p a;rw[AR.mp a];exact one _;exact h
 refine this l _ λp a=>?_;rw[AR.mp a];exact one _
structure M8 (ns:List Int) (ss:List AY) (gs:List (Str×Int)) (qs:List Qu) (sts:List CK) (inn:Int) (ord:A'):Prop where
 ss:ss=Ej (KS ns) (D1 ns) (Bk ns) (BN ns (B1 ns).length).length (BG ns) (B1 ns) (B1 ns).length
 gs:gs=BN ns (B1 ns).length
 qs:qs=FA ns (B1 ns).length
 tb:OG (H2 ns 5) (KS ns) sts inn ord
def M8.uniq{ns:List Int}{ss u:List AY}{gs e:List (Str×Int)}{d f:List Qu}{g j:List CK}{i l:Int}{ord m:A'}(h:M8 ns ss gs d g i ord)(k:M8 ns u e f j l m):ss=u/\gs=e/\d=f/\g=j/\i=l/\ord=m:=by
 obtain⟨a,b,c⟩:=h.tb.uniq k.tb;exact⟨h.ss.trans k.ss.symm,h.gs.trans k.gs.symm,h.qs.trans k.qs.symm,a,b,c⟩
def dG(ns:List Int)(n:Nat):H2 ns (n+1)=H2 ns n++[Dk ns (2+(n:Int))]:=by unfold H2;rw[List.range_succ,Bh];rfl
def W4(ns:List Int)(n:Nat):(H2 ns n).length=n:=by unfold H2;rw[Aj,List.length_range]
def Qq(ns:List Int):(H2 ns 5).getD 0 0=Dk ns 2:=rfl
variable {gs:List (Str×Int)}{qs:List Qu}{as:List (C')}
def KW{f:List CK}{o:Int}{ord:A'}(h:M8 ns ss gs qs f o ord)(g:as.length=qs.length)(r:∀p,some p∈as->p.1=("thing" : Str)->0<=p.2/\p.2<gs.length):KE ⟨ss,gs,as,f⟩ qs o ord:=by
 have j:=M6 ns;have t:=OJ ns;have u:=M7 ns (B1 ns).length;have G:=TM ns;have eq:qs.length=BG ns:=(by rw[h.qs,TN]);have v:gs.length=(BN ns (B1 ns).length).length:=(by rw[h.gs]);have a:=OI (ls:=KS ns) (ns:=D1 ns) j.1 u.1 t.1 (B1 ns) (B1 ns).length;rw[<-h.ss,<-v] at a;have ls:f.length=Dv ns:=(by rw[h.tb.len,Qq]);have k:(0:Int)<1+Dk ns 2%3:=(by lia);have l:(Dv ns:Int)=1+Dk ns 2%3:=by unfold Dv;lia
 have w:EU ⟨ss,gs,as,f⟩:=by
  refine⟨λs b=>?_,λs b p d=>?_,λp d=>?_,r,λs b p d=>?_⟩;have:=a.st s b;have:DJ (Bk ns)<=3:=by unfold DJ;split<;>lia
  lia;show Ex ss.length as.length p;rw[a.len,g,eq];exact a.kst s b p d;show Ft ss.length as.length p;rw[a.len,g,eq];exact J2 ns _ p (h.gs▸d);obtain⟨i,x,e⟩:=List.getElem_of_mem b;have y:=h.tb.at_ i s (by rw[AC x,e]);have:=WW (ls:=KS ns) (c:=(H2 ns 5).getD (1+i) 0) (n:=1+(H2 ns 5).getD 0 0%3) (by rw[Qq];exact k) 5 p (y.pg.mem_iff.mp d);rw[Qq] at this;show 0<=p.2/\p.2<(f.length:Int);rw[ls,l];exact this
 have z:∀s∈ss,s.1.length<=DJ (Bk ns):=a.st
 have A:Iy (DJ (Bk ns)) ss.length*max 2 (DJ (Bk ns))<=62:=by
  rw[a.len];generalize Bk ns=m at j;have:m=1\/m=2\/m=3\/m=4\/m=5:=(by lia);rcases this with e|e|e|e|e<;>subst e<;>decide
 obtain⟨ok,C⟩:=V9 w (B:=DJ (Bk ns)) z (by show ss.length<=100;rw[a.len];lia) A a.tl (λs b p d=>by
  show Ey gs.length as.length p
  rw[g,eq];exact a.ktl s b p d)
 refine⟨ok,C,?_,h.tb.ord.irr (cB (by decide)),?_,λq D=>?_⟩;have:=h.tb.ord.len (by rw[M4];decide);lia;rw[h.tb.inn,Qq];show 0<=_/\_<(f.length:Int);have E:=DK (Dk ns 2/3) (show 1+Dk ns 2%3≠0 by lia);have F:=DX (Dk ns 2/3) k;rw[ls,l];exact⟨E,F⟩;have:=Ia ns _ q (h.qs▸D);show(0<=q.1/\q.1<(ss.length:Int))/\(0<=q.2.1/\q.2.1<(f.length:Int))/\_;rw[a.len,ls];exact this
inductive D7 (K:Ai) (vs:List V) (H:Hp) (Q:VK):Prop where
 |mk (a:Addr) (ns:List Int) (h0:vs=[.ref a]) (h1:Ag K H a (ns.map V.int)) (h2:ns.length<=63) (h3:∀(r nt t S T R:Addr)(us Gs Es ts qt:List Addr)(ss:List AY)(gs:List (Str×Int))(qs:List Qu)(sts:List CK)(inn:Int)(ord:A')(H':Hp),Ac H H'->H' r=some (.tup [.ref nt,.ref t])->H' nt=some (.tup [.ref S,.ref T,.ref R])->Fu H' S T R us Gs Es ts qt ss gs qs->GA K (λζ=>True) H' t sts inn ord->M8 ns ss gs qs sts inn ord->Q (.ref r) H'):D7 K vs H Q
def dH (K:Ai):Sp:=λvs H Q ζ=>D7 K vs H Q
abbrev Qr(P w K mg base):=By P w K mg base "_law_made" 4 ["_law_script"] (dH K)
theorem dI (B:BA mg) (aB:Tq P w K mg base) (ah:OD P w K mg base) (bh:Tx P w K mg base) (aC:TD P w K mg base) (bi:TF P w K mg base) (bj:TL P w K mg base) (F:Bq K "_law_made" "_law_made" Ng f fd) (hm:mg "_law_made" = some (.ref f)):Qr P w K mg base:=by
 refine BV F hm Hb (λvs aq ba bb ar=>?_) (λbI bG bU s aq vs ba bb hr ar=>?_);obtain⟨a,ns,rfl,_⟩:=ar;rfl
 . obtain⟨a,ns,rfl,S,bS,q⟩:=ar
   have U:=M6 ns;have z2:=OJ ns;have z3:=TM ns
   refine⟨_,(Ak (AI (i:=1) Hb.nd (A1 aB (Ab (A1 ah (Ab (pv 0) (Ab Ah Ae))) (Ab Ah Ae))))
    (Ak (AI (i:=2) Hb.nd (A1 aB (Ab (A1 ah (Ab (pv 0) (Ab Ah Ae))) (Ab Ah Ae))))
    (Ak (AI (i:=3) Hb.nd (A1 bh (Ab (Je rfl CS (Xr rfl B.b_range (Ab Ah (Ab Ah Ae))) (λζ ζ ζ ζ ζ=>(Ay (i:=0) CS.nd)) (λζ ζ ζ ζ ζ=>Hs) (λζ ζ ζ ζ ζ=>(A1 ah (Ab (pv 1) (Ab (pv 0) Ae))))) (Ab (pv 2) Ae))))
    (Ak (AI (i:=4) Hb.nd (A1 ah (Ab (pv 0) (Ab Ah Ae))))
    (Ak (AI (i:=5) Hb.nd (Au Gx Ah (Au AZ (pv 4) Ah)))
    (Ak (AI (i:=6) Hb.nd (UH UJ (pv 0) (RN Ah) IY))
    (Ak (AI (i:=7) Hb.nd (Cj (Ab (Ba (Ab BE (Ab (Au AZ (Au En (pv 4) Ah) (pv 5)) Ae))) Ae)))
    (Ak (AI (i:=8) Hb.nd (Cj (Ab (A1 aC (Ab (Au En (pv 4) Ah) (Ab (pv 5) (Ab (BH Di B.b_len (Ab (As At (pv 3) Ah) Ae)) (Ab (pv 1) Ae))))) Ae)))
    (Ak (AI (i:=9) Hb.nd (Au Gx Ah (BH (UA rfl) B.b_min (Ab Ah (Ab (BH Di B.b_len (Ab (Je rfl CT (Dh (pv 6)) (λζ ζ ζ ζ ζ=>(Ay (i:=0) CT.nd)) (λζ ζ ζ ζ ζ=>(Ht (Bv Cf (Au AZ (pv 0) Ah) Ah (Bu _)))) (λζ ζ ζ ζ ζ=>(pv 0))) Ae)) Ae)))))
    (Ak (CJ Cz rfl (Dh (pv 6)) (Ay (i:=10) Hb.nd) (Ak (Bm (PW.pt (G2 (Bv Cf (Au AZ (pv 10) Ah) Ah (Bu _)) (G1 (Bv GO (BH Di B.b_len (Ab (pv 7) Ae)) Ah (Bu _))))) (Aw (DF (Dj DE Et Eu Ew (pv 7) (Ab (A1 bi (Ab (Au En (pv 10) Ah) (Ab (pv 5) (Ab (pv 9) Ae)))) Ae)))) Bl)
     (Aw (Bm (PW.pt (G2 (Bv Cf (Au AZ (pv 10) Ah) Ah (Bu _)) (G1 (Bv GO (BH Di B.b_len (Ab (pv 8) Ae)) Ah (Bu _))))) (Aw (DF (Dj DE Et Eu Ew (pv 8) (Ab (A1 aC (Ab (Au En (pv 10) Ah) (Ab (pv 5) (Ab (BH Di B.b_len (Ab (As At (pv 3) Ah) Ae)) (Ab (pv 1) Ae))))) Ae)))) Bl))))
    (Ak (AI (i:=11) Hb.nd (A1 bj (Ab (pv 6) (Ab (pv 2) (Ab (pv 1) (Ab (pv 5) (Ab (Ba (Ab (BH Di B.b_len (Ab (pv 7) Ae)) (Ab (pv 9) Ae))) Ae)))))))
    (Aw (AN (Ba (Ab (Ba (Ab (pv 11) (Ab (pv 7) (Ab (pv 8) Ae)))) (Ab (pv 3) Ae)))))))))))))))),?_⟩
   rfl';refine⟨a,ns,0,rfl,by decide,S,_,3,rfl,by decide,by decide,λN bH hN s1 eN=>?_⟩;refine AU ?_;cbv;refine⟨a,ns,1,rfl,by decide,s1.seq S,_,5,rfl,by decide,by decide,λag bc hL s2 eL=>?_⟩;have aD:=s1.trans s2;have bk:=s2 _ _ eN;refine AU ?_;cbv
   refine⟨_,_,rfl,⟨by decide,by decide,by decide,by decide⟩,Vi (lo:=2) (n:=5) (λD i A b=>Ac bc b/\b D=some (.lst A)/\A=(H2 ns i).map V.int)
    (λD E=>⟨A8 E,Aa,rfl⟩) (λD i A H3 RR E hi G k=>?_) (λTC A H3 bJ G=>?_)⟩
   obtain⟨M,eD,rfl⟩:=G;refine⟨a,ns,2+(i:Int),rfl,by lia,(aD.trans M).seq S,?_⟩;refine k _ _ eD (by rw[Aj,W4];exact BP (by lia)) ⟨λbd o e=>?_,Aa,?_⟩;rw[AH (AW e E)];exact M _ _ e;rw[dG,Bh];rfl;obtain⟨M,bl,rfl⟩:=G;have bm:=aD.trans M;have aE:=M _ _ eL;have aw:=M _ _ bk;refine⟨TC,ag,H2 ns 5,KS ns,rfl,Ag.of bl,W4 ns 5,Ag.of aE,M4 _ _,λt bn bo bp H4 W TB aF=>?_⟩;have ai:=bm.trans W;refine AU ?_;cbv;refine⟨a,ns,7,rfl,by decide,ai.seq S,?_⟩;refine AU ?_;cbv;refine⟨(by show(0:Int)<5;decide),?_⟩;dsimp only[Hh,Gw];rw[show(1+Dk ns 7%5:Int)=(Bk ns:Int) by unfold Bk Mn;lia];refine AU ?_;cbv
   refine⟨_,rfl,a,_,rfl,ai.seq S,λX h0=>?_⟩;rw[show EN (ns.map V.int) (some 9) none=(B1 ns).map V.int from(X1 _ 9).trans (List.map_drop).symm];obtain⟨H5,bq,s5,ax⟩:=new_at (o:=.lst ((B1 ns).map V.int)) h0;rw[<-bq];refine AU ?_;cbv
   have aG:=ai.trans s5;have br:(B1 ns).length<=63:=by rw[Kg];lia
   refine⟨⟨by decide,by decide⟩,(by show(0:Int)<Bk ns;lia),BS,λp1 bs=>?_⟩;obtain⟨H6,bt,s6,bu⟩:=new_at (o:=.tup [.str "part",.int (Mn ns/5%Bk ns)]) bs;rw[<-bt];refine⟨Ji,λT Y=>?_⟩;obtain⟨H7,bv,s7,aH⟩:=new_at (o:=.lst [.ref p1]) Y;rw[<-bv];refine AU ?_;cbv;have aj:=s6.trans s7;have aI:=aG.trans aj;refine AL λNz u=>?_;obtain⟨a9,tO,tu,bK,et,_,_,_,aJ,SR,_⟩:=TB.ex;refine u ?_;clear u;have aK:(tu.map V.ref).length=Dv ns:=by rw[Aj,SR.len,aF.len];rfl
   have aa:=s5.trans aj;refine⟨⟨by decide,by decide⟩,Or.inr (Or.inl ⟨_,.ref a9,Ao.of (aa _ _ et),rfl,_,Or.inl ⟨_,Ag.of (aa _ _ aJ),rfl⟩,_,N,D1 ns,Bk ns,(tu.map V.ref).length,rfl,Ag.of ((W.trans aa) _ _ aw),M4 _ _,U.1,by lia,λpq pu H8 Z aL aM=>?_⟩)⟩;rw[aK] at aL aM;refine⟨Ji,λR H=>?_⟩;obtain⟨H9,bw,s9,bx⟩:=new_at (o:=.lst [.ref pq]) H;rw[<-bw];refine AU ?_;cbv;have ab:=Z.trans s9;have a7:=(aj.trans ab) _ _ ax
   refine⟨⟨_,Ag.of a7⟩,Vj (xs:=(B1 ns).map V.int) (λD i A b=>Ac H9 b/\b D=some (.lst A)/\A=(((B1 ns).take i).filter λc=>decide (c%8=7)).map V.int)
    (λD E=>⟨A8 E,Aa,rfl⟩) (λD i A b ay=>by obtain⟨s,_⟩:=ay;exact Ag.of (s _ _ a7)) (λD au be A ak RR R0 E hy G k k0=>?_) (λCD A ak bL G=>?_)⟩
   obtain⟨v,eD,rfl⟩:=G;obtain⟨c,C,rfl⟩:=getm hy;have bM:au<(B1 ns).length:=(Bf.mp C).1;refine⟨(by show(0:Int)<8;decide),rfl,rfl,Ap (λav=>?_) (λav=>?_)⟩;have d':c%8=7:=V.int.inj (Bc av);refine k _ _ eD ?_ ⟨λbd o e=>?_,Aa,?_⟩;have h1:(((B1 ns).take au).filter λc=>decide (c%8=7)).length<=((B1 ns).take au).length:=OX _ _;rw[E5] at h1;rw[Aj];exact BP (by lia);rw[AH (AW e E)];exact v _ _ e;rw[Ek,C,Nf,Bh];congr 1;show _=(List.filter _ [c]).map V.int;rw[Mw,An (A7 d')];rfl;have d':¬c%8=7:=λz=>av (A7 (by show V.int (c%8)=V.int 7;rw[z]));refine k0 _ ⟨v,eD,?_⟩;rw[Ek,C,Nf,Bh];show _=_++(List.filter _ [c]).map V.int;rw[Mw,Al (by rw[El d'];exact C3)];exact(FM _).symm;obtain⟨v,aN,rfl⟩:=G;rw[Aj,DW] at aN;have bz:(((B1 ns).filter λc=>decide (c%8=7)).map V.int).length=EZ (B1 ns):=Aj _;refine⟨_,Or.inl ⟨_,Ag.of aN,rfl⟩,_,_,rfl,?_⟩;rw[bz];dsimp only[Hh,Gw]
   rw[show(1+(if((EZ (B1 ns):Nat):Int)<5 then((EZ (B1 ns):Nat):Int) else 5):Int)=(BG ns:Int) by unfold BG;split<;>lia]
   refine AU ?_;cbv;have aR:=(ab.trans v) _ _ aH;have aS:=v _ _ bx;have bN:aq T=none:=(aG.trans s6).free Y;have bO:aq R=none:=(aI.trans Z).free H;have aO:T≠R:=λz=>by rw[<-z,Z _ _ aH] at H;cases H
   have a8:=v _ _ a7;have aT:X≠T:=λz=>by rw[<-z,s6 _ _ ax] at Y;cases Y
   have aU:X≠R:=λz=>by rw[<-z,(aj.trans Z) _ _ ax] at H;cases H
   have bT:=aI.trans (ab.trans v);have bA:=aa.trans (ab.trans v);have b0:H4 T=none:=(s5.trans s6).free Y;have b1:H4 R=none:=(aa.trans Z).free H;have az:∀{b:Hp},Keeps (λx=>x=T\/x=R) ak b->Ac H4 b:=λk x o e=>k.at_ _ _ (bA _ _ e) λz=>z.elim (AW e b0) (AW e b1)
   refine⟨⟨_,Ag.of a8⟩,Fa (xs:=(B1 ns).map V.int) (λi σ b=>∃a0 d g,σ=[some (.ref a),some (.ref N),some (.ref ag),some (.ref t),some (.int (Dk ns 7)),some (.int (Bk ns)),some (.ref X),some (.ref T),some (.ref R),some (.int (BG ns)),a0,none]/\Keeps (λx=>x=T\/x=R) ak b/\b T=some (.lst (d.map V.ref))/\GT b d (BN ns i)/\b R=some (.lst (g.map V.ref))/\QT b g (FA ns i))
    ⟨none,[p1],[pq],rfl,Keeps.refl λx o m e=>?_,aR,?_,aS,?_⟩ (λi σ b ζ ay=>by obtain⟨_,_,_,_,k,_⟩:=ay;exact Ag.of (k.at_ _ _ a8 λz=>z.elim aT aU)) ?_ ?_⟩
   rcases m with m|m;rw[m,aR] at e;exact⟨_,(B2 e).symm⟩;rw[m,aS] at e;exact⟨_,(B2 e).symm⟩;exact GT.nil.snoc (p:=(("part" : Str),Mn ns/5%Bk ns)) ((s7.trans (ab.trans v)) _ _ bu);exact QT.nil.snoc (q:=Ds (D1 ns) (Bk ns) (Dv ns) (Mn ns/25)) ((s9.trans v) _ _ aL) ((s9.trans v) _ _ aM)
   . refine λi be σ b2 hy ae=>AL λNz u=>?_
     obtain⟨a0,d,g,rfl,L,h,j,l,y⟩:=ae;refine u ?_;clear u;refine Ha ?_;intro Nx Cy;obtain⟨c,C,rfl⟩:=getm hy;refine AU ?_;cbv;have ao:=az L;have af:(d.map V.ref).length=(BN ns i).length:=(by rw[Aj,j.len]);have a1:(g.map V.ref).length=(FA ns i).length:=(by rw[Aj,y.len]);have b6:=(M7 ns i).2;have q6:(FA ns i).length<=6:=by rw[W3];lia
     refine Hu (λσ' b=>∃d,σ'=[some (.ref a),some (.ref N),some (.ref ag),some (.ref t),some (.int (Dk ns 7)),some (.int (Bk ns)),some (.ref X),some (.ref T),some (.ref R),some (.int (BG ns)),some (.int c),none]/\Keeps (λx=>x=T\/x=R) ak b/\b T=some (.lst (d.map V.ref))/\GT b d (BN ns (i+1))/\b R=some (.lst (g.map V.ref))/\QT b g (FA ns i)) ?_ (λNX a2=>?_);rotate_left
     . have no:¬(c%8=6/\(BN ns i).length<6)->BN ns (i+1)=BN ns i:=λz=>by rw[W1 C];exact Al z
       refine⟨(by show(0:Int)<8;decide),rfl,rfl,Ap (λI=>?_) (λI=>?_)⟩;rotate_left;refine a2 _ _ ⟨d,rfl,L,h,?_,l,y⟩;rw[no λz=>I (A7 (by show V.int (c%8)=V.int 6;rw[z.1]))];exact j;have a3:c%8=6:=V.int.inj (Bc I);refine⟨_,Or.inl ⟨_,Ag.of h,rfl⟩,rfl,Ap (λJ=>?_) (λJ=>?_)⟩;rotate_left;refine a2 _ _ ⟨d,rfl,L,h,?_,l,y⟩;rw[no λz=>J (A7 (by rw[af];exact Int.ofNat_lt.mpr z.2))];exact j
       have a4:(BN ns i).length<6:=by
        have:=Bc J;rw[af] at this;exact Int.ofNat_lt.mp this
       refine⟨Or.inl ⟨rfl,_,Ag.of h⟩,⟨by decide,by decide⟩,c/8,Bk ns,BG ns,rfl,U.1,z2.1,λtp al bP r b3=>?_⟩;have aV:=r _ _ h;have kT:Keeps (·=T) al (upd al T (.lst (d.map V.ref++[.ref tp]))):=Keeps.one aV;refine⟨_,aV,by rw[af];exact BP (by lia),a2 _ _ ⟨d++[tp],rfl,(L.same r).set (.inl rfl),by rw[Aa,Bh];rfl,?_,kT.at_ _ _ (r _ _ l) (Ne.symm aO),(y.same r).keeps kT⟩⟩;rw[W1 C,show KU (Bk ns) (BG ns) (BN ns i) c=BN ns i++[Mh (Bk ns) (BG ns) (c/8)] from An ⟨a3,a4⟩];exact((j.same r).snoc b3).keeps kT
     refine λσ' al ae=>AL λNz u=>?_;obtain⟨d,rfl,an,h,j,l,y⟩:=ae;refine u ?_;clear u;have O:=az an;have no:¬(c%8=7/\(FA ns i).length<6)->FA ns (i+1)=FA ns i:=λz=>by rw[W2 C];exact Al z
     refine⟨(by show(0:Int)<8;decide),rfl,rfl,Ap (λI=>?_) (λI=>?_)⟩;rotate_left;refine⟨_,d,g,rfl,an,h,j,l,?_⟩;rw[no λz=>I (A7 (by show V.int (c%8)=V.int 7;rw[z.1]))];exact y;have a3:c%8=7:=V.int.inj (Bc I);refine⟨_,Or.inl ⟨_,Ag.of l,rfl⟩,rfl,Ap (λJ=>?_) (λJ=>?_)⟩;rotate_left;refine⟨_,d,g,rfl,an,h,j,l,?_⟩;rw[no λz=>J (A7 (by rw[a1];exact Int.ofNat_lt.mpr z.2))];exact y
     have a4:(FA ns i).length<6:=by
      have:=Bc J;rw[a1] at this;exact Int.ofNat_lt.mp this
     refine⟨Or.inl ⟨rfl,_,Ag.of l⟩,⟨by decide,by decide⟩,Or.inr (Or.inl ⟨_,.ref a9,Ao.of (O _ _ et),rfl,_,Or.inl ⟨_,Ag.of (O _ _ aJ),rfl⟩,c/8,N,D1 ns,Bk ns,(tu.map V.ref).length,rfl,Ag.of ((W.trans O) _ _ aw),M4 _ _,U.1,by lia,λaP bQ a5 r aW aX=>?_⟩)⟩;rw[aK] at aW aX;have aY:=r _ _ l;have kR:Keeps (·=R) a5 (upd a5 R (.lst (g.map V.ref++[.ref aP]))):=Keeps.one aY;refine⟨_,aY,by rw[a1];exact BP (by lia),⟨_,d,g++[aP],rfl,(an.same r).set (.inr rfl),kR.at_ _ _ (r _ _ h) aO,(j.same r).keeps kR,by rw[Aa,Bh];rfl,?_⟩⟩;rw[W2 C,show J1 (D1 ns) (Bk ns) (Dv ns) (FA ns i) c=FA ns i++[Ds (D1 ns) (Bk ns) (Dv ns) (c/8)] from An ⟨a3,a4⟩];exact((y.same r).snoc aW aX).keeps kR
   refine λσ b2 ae=>AL λNz u=>?_;obtain⟨a0,d,g,rfl,L,h,j,l,y⟩:=ae;refine u ?_;clear u;rw[Aj] at j y;have ao:=az L;have bB:=ai.trans ao;have b4:=M7 ns (B1 ns).length;have af:(d.map V.ref).length=(BN ns (B1 ns).length).length:=(by rw[Aj,j.len]);have bC:=L.at_ _ _ a8 λz=>z.elim aT aU;refine⟨_,Or.inl ⟨_,Ag.of h,rfl⟩,BS,λbf hZ=>?_⟩;rw[af];obtain⟨al,bD,a6,eZ⟩:=new_at (o:=.tup [.int (BN ns (B1 ns).length).length,.int (BG ns)]) hZ;rw[<-bD];have O:=ao.trans a6;refine⟨X,ag,N,bf,B1 ns,KS ns,D1 ns,Bk ns,(BN ns (B1 ns).length).length,BG ns,rfl,Ag.of (a6 _ _ bC),br,Ag.of ((W.trans O) _ _ aE),M4 _ _,Ag.of ((W.trans O) _ _ aw),M4 _ _,Ao.of eZ,U.1,U.2,b4.1,z2.1,λaA us Gs Es a5 b5 SC=>?_⟩;refine AU ?_;cbv;have bF:=a6.trans b5;refine⟨G7,λnt b7=>?_⟩;obtain⟨bR,bE,b8,b9⟩:=new_at (o:=.tup [.ref aA,.ref T,.ref R]) b7;rw[<-bE];refine⟨BS,λbg hr=>?_⟩;have aQ:=A8 (o:=.tup [.ref nt,.ref t]) hr;have aZ:=b8.trans aQ;have Q:=bF.trans aZ;exact q bg nt t aA T R us Gs Es d g _ _ _ bn bo bp _ (bB.trans Q) Aa (aQ _ _ b9) ⟨SC.same aZ,Q _ _ h,j.same Q,Q _ _ l,y.same Q⟩ (TB.same (ao.trans Q)) ⟨rfl,rfl,rfl,aF⟩
def OK (n:Int):Nat->Int
 |0=>n
 |k+1=>OK n k/999
abbrev dJ (x:Int):Int:=if 4<x then 4 else x
def OL (n:Int) (pl d:Nat):C':=if n%9<2 then none else if n%9=2 then some ("none",n/9%pl) else if n%9=3 then some ("torn",n/9%pl) else some ("thing",n/9%d)
def Mo (n:Int) (qs:List Qu) (d k:Nat):List (C'):=(List.range k).map λj=>OL (OK n j) ((qs.getD j default).2.2.length) d
def J3 (c:Int) (qs:List Qu) (d:Nat):List (C'):=Mo (c*864691128455135233%2305843009213693951) qs d qs.length
def dL(n:Int)(qs:List Qu)(d k:Nat):Mo n qs d (k+1)=Mo n qs d k++[OL (OK n k) ((qs.getD k default).2.2.length) d]:=by unfold Mo;rw[List.range_succ,Bh];rfl
def W5(n:Int)(qs:List Qu)(d k:Nat):(Mo n qs d k).length=k:=by unfold Mo;rw[Aj,List.length_range]
def dM(c:Int)(qs:List Qu)(d:Nat):(J3 c qs d).length=qs.length:=W5 _ _ _ _
def J4{d:Nat}(b:1<=d){p:Str×Int}(h:some p∈J3 c qs d)(e:p.1=("thing" : Str)):0<=p.2/\p.2<d:=by
 obtain⟨j,_,a⟩:=Bd.mp h;unfold OL at a;split at a;cases a;split at a;cases a;exact absurd e PZ;split at a;cases a;exact absurd e SX;cases a;exact⟨DK _ (by lia),DX _ (by lia)⟩
inductive CC (K:Ai) (vs:List V) (H:Hp) (Q:VK):Prop where
 |mk (c:Int) (nt S T R:Addr) (ts qt:List Addr) (qs:List Qu) (h0:vs=[.int c,.ref nt]) (h1:Ao K H nt [.ref S,.ref T,.ref R]) (h2:H T=some (.lst (ts.map V.ref))) (h3:1<=ts.length) (h4:H R=some (.lst (qt.map V.ref))) (h5:QT H qt qs) (h6:qs.length<=100) (h7:(∀q∈qs,1<=q.2.2.length)) (h8:∀(D:Addr)(vs':List V)(H':Hp),H D=none->Ac H H'->H' D=some (.lst vs')->Az (λζ=>False) H' vs' ((J3 c qs ts.length).map B7)->Q (.ref D) H'):CC K vs H Q
def dN (K:Ai):Sp:=λvs H Q ζ=>CC K vs H Q
abbrev Qs(P w K mg base):=By P w K mg base "_law_answers" 1 ["_law_cell", "_law_net"] (dN K)
theorem dO(B:BA mg)(F:Bq K "_law_answers" "_law_answers" QW f fd)(hm:mg "_law_answers" = some (.ref f)):Qs P w K mg base:=by
 refine BV F hm MY (λvs H ai aj h=>?_) (λa9 a4 aB s H vs ai aj hr h=>?_);obtain⟨c,U,ak,T,R,l,W,qs,rfl,_⟩:=h;rfl
 . obtain⟨c,U,ak,T,R,l,W,qs,rfl,X,eT,lT,Y,r,aA,ao,al⟩:=h
   refine⟨_,(Ak (AI (i:=2) MY.nd (Au AZ (Au Em (pv 0) Ah) Ah))
    (Ak (AI (i:=3) MY.nd (Cj Ae))
    (Ak (CJ Cz rfl (Dh (As At (pv 1) Ah)) (Ay (i:=4) MY.nd) (Ak (AI (i:=5) MY.nd (Au AZ (Au En (pv 2) Ah) (BH Di B.b_len (Ab (As At (pv 4) Ah) Ae))))
     (Ak (DF (Dj DE Et Eu Ew (pv 3) (Ab (As At (Cj (Ab GN (Ab GN (Ab (Ba (Ab BE (Ab (pv 5) Ae))) (Ab (Ba (Ab BE (Ab (pv 5) Ae))) (Ab (Ba (Ab BE (Ab (Au AZ (Au En (pv 2) Ah) (BH Di B.b_len (Ab (As At (pv 1) Ah) Ae))) Ae))) Ae)))))) (BH (UA rfl) B.b_min (Ab (Au AZ (pv 2) Ah) (Ab Ah Ae)))) Ae)))
     (Aw (AI (i:=2) MY.nd (Au En (pv 2) Ah))))))
    (Aw (AN (pv 3)))))),?_⟩
   rfl';refine⟨Or.inr ⟨by decide,by decide⟩,(by show(0:Int)<2305843009213693951;decide),?_⟩;refine⟨by decide,λD t=>?_⟩;obtain⟨a5,aq,u,eD⟩:=new_at (o:=.lst []) t;rw[<-aq];refine Or.inr (Or.inl ⟨_,.ref R,u.seqT X,rfl,⟨_,Ag.of (u _ _ Y)⟩,Fa (xs:=W.map V.ref) (λi σ m=>∃y z a,σ=[some (.int c),some (.ref U),some (.int (OK (c*864691128455135233%2305843009213693951) i)),some (.ref D),y,z]/\Ac H m/\m D=some (.lst a)/\Az (λζ=>False) m a ((Mo (c*864691128455135233%2305843009213693951) qs l.length i).map B7)) ⟨none,none,[],rfl,u,eD,.nil⟩ (λi σ m ζ ar=>by obtain⟨_,_,_,_,s,_⟩:=ar;exact Ag.of (s _ _ Y)) ?_ ?_⟩);rotate_left;refine λσ an O=>AL λNz k=>?_;obtain⟨y,z,a,rfl,b,q,d⟩:=O;refine k ?_;clear k;rw[Aj,r.len] at d;exact al D a _ t b q d;refine λi a6 σ an hy O=>AL λNz k=>?_;obtain⟨y,z,a,rfl,b,q,d⟩:=O;refine k ?_;clear k;obtain⟨tq,aa,rfl⟩:=getm hy;have ab:i<qs.length:=by rw[<-r.len];exact(Bf.mp aa).1
   have Q:=AC ab;obtain⟨pu,ae,af⟩:=r.at_ i _ _ aa Q;have au:=ao _ (Ed ab);have Z:qs.getD i default=qs[i]:=by rw[BC,Q];rfl
   generalize qs[i]=g at ae af au Q Z;generalize hn:OK (c*864691128455135233%2305843009213693951) i=n at *;have ag:(g.2.2.map V.str).length=g.2.2.length:=Aj _;refine⟨⟨by decide,by decide⟩,Or.inr (Or.inl ⟨_,.ref pu,Ao.of (b _ _ ae),rfl,_,Or.inr ⟨_,Ao.of (b _ _ af),rfl⟩,(by rw[ag];lia),?_⟩)⟩;rw[ag];refine⟨Or.inl ⟨rfl,_,Ag.of q⟩,BS,λA av=>?_⟩
   obtain⟨H3,aw,t1,e1⟩:=new_at (o:=.tup [.str "none",.int (n/9%g.2.2.length)]) av;rw[<-aw];refine⟨BS,λJ ax=>?_⟩;obtain⟨H4,ay,C,e2⟩:=new_at (o:=.tup [.str "torn",.int (n/9%g.2.2.length)]) ax;rw[<-ay];have s4:=b.trans (t1.trans C);refine⟨⟨by decide,by decide⟩,Or.inr (Or.inl ⟨_,.ref T,s4.seqT X,rfl,_,Or.inl ⟨_,Ag.of (s4 _ _ eT),rfl⟩,(by rw[Aj];lia),BS,λE az=>?_⟩)⟩;rw[Aj];obtain⟨H5,a0,G,e3⟩:=new_at (o:=.tup [.str "thing",.int (n/9%l.length)]) az;rw[<-a0];refine⟨(by show 5<=sizeLine;decide),λa7 hl=>?_⟩;obtain⟨I,a1,p,el⟩:=new_at (o:=.lst [.non,.non,.ref A,.ref J,.ref E]) hl;rw[<-a1];have m0:=DK n (by decide:(9:Int)≠0)
   have hk:∃v,Bj [V.non,.non,.ref A,.ref J,.ref E] (if 4<n%9 then 4 else n%9)=some v/\A5 (λζ=>False) I v (B7 (OL n g.2.2.length l.length)):=by
    unfold OL;by_cases k1:n%9<2;rw[Al (by lia),An k1];rcases(show n%9=0\/n%9=1 by lia) with e|e;exact⟨.non,by rw[e];exact BF (j:=0) rfl,.non⟩;exact⟨.non,by rw[e];exact BF (j:=1) rfl,.non⟩;rw[Al k1];by_cases L:n%9=2;rw[Al (by lia),An L];exact⟨.ref A,by rw[L];exact BF (j:=2) rfl,.tup ((C.trans (G.trans p)) _ _ e1) (.cons (.str _) (.cons (.int _) .nil))⟩;rw[Al L];by_cases M:n%9=3;rw[Al (by lia),An M];exact⟨.ref J,by rw[M];exact BF (j:=3) rfl,.tup ((G.trans p) _ _ e2) (.cons (.str _) (.cons (.int _) .nil))⟩;rw[Al M]
    have k4:(if 4<n%9 then 4 else n%9)=4:=by split<;>lia
    rw[k4];exact⟨.ref E,BF (j:=4) rfl,.tup (p _ _ e3) (.cons (.str _) (.cons (.int _) .nil))⟩
   obtain⟨v,a2,a3⟩:=hk;have S:=(t1.trans C).trans (G.trans p);have ah:=S _ _ q;have lv:a.length=i:=(by rw[d.length,Aj,W5]);refine⟨(by show(0:Int)<9;decide),_,_,rfl,Or.inl ⟨_,v,Ag.of el,a2,_,ah,BP (by lia),?_⟩⟩;have kD:Keeps (·=D) I (upd I D (.lst (a++[v]))):=Keeps.one ah;refine⟨⟨by decide,by decide⟩,?_⟩;refine⟨_,_,a++[v],(by rw[<-hn];rfl),λa8 o e=>?_,Aa,?_⟩;rw[AH (AW e t)];exact S _ _ (b _ _ e);rw[dL,hn,Z,Bh];exact((d.same S).keeps kD λx N=>N.elim).snoc (a3.keeps kD λx N=>N.elim)
inductive Dw (K:Ai) (vs:List V) (H:Hp) (Q:VK):Prop where
 |mk (t a o:Addr) (inn:V) (ss:List CK) (n:Int) (k:Nat) (s:CK) (x:Str) (h0:vs=[.ref t,.int n,.str x]) (h1:n=k) (h2:Ao K H t [.ref a,inn,.ref o]) (h3:Hy K H a ss) (h4:ss[k]?=some s) (h5:Q (Eg (EA s.1 x)) H):Dw K vs H Q
def dP (K:Ai):Sp:=λvs H Q ζ=>Dw K vs H Q
abbrev Qt(P w K mg base):=By P w K mg base "next_state" 1 ["table", "state", "label"] (dP K)
theorem dQ(B:BA mg)(F:Bq K "next_state" "next_state" QX f fd)(D:mg "next_state" = some (.ref f)):Qt P w K mg base:=by
 refine BV F D Qe (λl H Q E h=>?_) (λae A af s H l Q E hr h=>?_);obtain⟨t,a,o,T,ss,n,k,s,x,rfl,_⟩:=h;rfl;obtain⟨t,a,o,T,ss,n,k,s,x,rfl,rfl,G,⟨l,I,J⟩,L,q⟩:=h;obtain⟨aa,M,U⟩:=J.get' (i:=k) (d:=N1 s) (by rw[A6,L];rfl);obtain⟨N,g,e,rfl,W,⟨O,u,C⟩,he⟩:=Kx U;have X:=C.len_map
 refine⟨_,(Ak (AI (i:=3) Qe.nd (As At (As At (As At (pv 0) Ah) (pv 1)) Ah))
  (Ak (CJ Cz rfl (Dh (pv 3)) (B6 (n:=2) rfl (AD (Ay (i:=4) Qe.nd) (AD (Ay (i:=5) Qe.nd) B5))) (Aw (Bm (Bv Cf (pv 4) (pv 2) (Bu _)) (Aw (AN (pv 5))) Bl)))
  (Aw (AN GN)))),?_⟩
 rfl';refine Or.inr (Or.inl ⟨_,.ref a,G,rfl,?_⟩);refine Or.inl ⟨l,.ref N,I,BF M,?_⟩;refine Or.inr (Or.inl ⟨_,.ref g,W,rfl,?_⟩);refine⟨⟨_,u⟩,Fa (xs:=O) (λi σ v=>∃m r,σ=[some (.ref t),some (.int k),some (.str x),some (.ref g),m,r]/\v=H/\∀q∈s.1.take i,q.1≠x) ⟨none,none,rfl,rfl,λq b=>by simp at b⟩ (λi σ v ζ Z=>by obtain⟨_,_,_,e,_⟩:=Z;exact by rw[e];exact u) ?_ ?_⟩;rintro i ab σ Y R ⟨m,r,rfl,rfl,j⟩;obtain⟨p,t',y,rfl,S⟩:=C.goes_get R;refine⟨_,S,rfl,?_⟩;refine⟨rfl,rfl,?_⟩;refine Ap (λc=>?_) (λc=>?_);have c:p.1=x:=V.str.inj (Bc c);rw[HB y c j] at q;exact q;have c:p.1≠x:=λz=>c (A7 (by rw[z]));refine⟨_,_,rfl,rfl,λq b=>?_⟩;rw[Ek,y] at b;rcases BB.mp b with b|b;exact j q b;rw[AR.mp b];exact c;rintro σ Y ⟨m,r,rfl,rfl,j⟩;rw[X,DW] at j;rw[Vr j] at q;exact q
inductive Cd (K:Ai) (vs:List V) (H:Hp) (Q:VK):Prop where
 |mk (t S T R A:Addr) (ths:List (Str×Int)) (as:List (C')) (n:Int) (k:Nat) (h0:vs=[.ref t,.ref A,.int n]) (h1:n=k) (h2:k<as.length) (h3:Ao K H t [.ref S,.ref T,.ref R]) (h4:C7 K H T ths) (h5:Iw K H A as) (h6:GB ths as) (h7:∀(r:Addr)(H':Hp),H r=none->Ac H H'->H' r=some (.tup [.str (ES ths as n).1,.int (ES ths as n).2])->Q (.ref r) H'):Cd K vs H Q
def dR (K:Ai):Sp:=λvs H Q ζ=>Cd K vs H Q
abbrev TQ(P w K mg base):=By P w K mg base "inside_of_sort" 1 ["net", "answers", "question"] (dR K)
def dS(B:BA mg)(F:Bq K "inside_of_sort" "inside_of_sort" QY f fd)(c:mg "inside_of_sort" = some (.ref f)):TQ P w K mg base:=by
 refine BV F c Qf (λj H Q E h=>?_) (λaa A ab s H j Q E a h=>?_);obtain⟨t,S,T,R,A,g,as,n,k,rfl,_⟩:=h;rfl;obtain⟨t,S,T,R,A,g,as,n,k,rfl,rfl,y,C,D,G,ok,q⟩:=h;obtain⟨j,v,M,I,J⟩:=G.get y
 refine⟨_,(Ak (AI (i:=3) Qf.nd (As At (pv 1) (pv 2)))
  (Ak (Bm (GY (He (pv 3))) (Aw (AN (Ba (Ab BE (Ab (pv 2) Ae))))) Bl)
  (Ak (Bm (Bv Cf (As At (pv 3) Ah) BE (Bu _)) (Ak (DM (As At (As At (pv 0) Ah) (As At (pv 3) Ah)) (B6 (n:=2) rfl (AD (Ay (i:=4) Qf.nd) (AD (Ay (i:=5) Qf.nd) B5))))
   (Aw (Bm (Bv Cf (pv 4) BE (Bu _)) (Aw (AN (Ba (Ab BE (Ab (pv 5) Ae))))) Bl))) Bl)
  (Aw (AN (Ba (Ab BE (Ab Ah Ae)))))))),?_⟩
 rfl';refine Or.inl ⟨j,v,M,BF I,?_⟩;rcases J with⟨b,rfl⟩|⟨p,Y,b,rfl,x⟩;refine⟨rfl,Ap (λζ=>?_) (λh=>absurd (A7 rfl) h)⟩;refine⟨BS,λr a=>?_⟩;rw[Yh b] at q;exact q r _ a (A8 a) Aa;refine⟨rfl,Ap (λh=>absurd (Bc h) (by simp)) (λζ=>?_)⟩;refine Or.inr (Or.inl ⟨_,.str p.1,x,rfl,rfl,rfl,Ap (λh=>?_) (λh=>?_)⟩);have e:p.1=("thing" : Str):=V.str.inj (Bc h);obtain⟨L,Z⟩:=ok.t p (Bi b) e;obtain⟨m,c⟩:=DL L;have N:m<g.length:=(by lia);have l:=AC N;obtain⟨u,d,O,U,W⟩:=D.get l;have X:Bj u p.2=some (.ref d):=by rw[c];exact BF U
 refine Or.inr (Or.inl ⟨_,.ref T,C,rfl,Or.inr (Or.inl ⟨_,.int p.2,x,rfl,Or.inl ⟨u,.ref d,O,X,?_⟩⟩)⟩);refine⟨_,W,rfl,?_⟩;refine⟨rfl,rfl,Ap (λh=>?_) (λh=>?_)⟩;have o:g[m].1=("part" : Str):=V.str.inj (Bc h);refine⟨BS,λr a=>?_⟩;rw[Yj b e c l o] at q;exact q r _ a (A8 a) Aa;have o:g[m].1≠("part" : Str):=λz=>h (A7 (by rw[z]));refine⟨BS,λr a=>?_⟩;rw[Yk b e c l o] at q;exact q r _ a (A8 a) Aa;have e:p.1≠("thing" : Str):=λz=>h (A7 (by rw[z]));refine⟨BS,λr a=>?_⟩;rw[Yi b e] at q;exact q r _ a (A8 a) Aa
inductive F4 (K:Ai) (vs:List V) (H:Hp) (Q:VK):Prop where
 |mk (t S T R A:Addr) (ths:List (Str×Int)) (as:List (C')) (n:Int) (k:Nat) (p:Str×Int) (h0:vs=[.ref t,.ref A,.int n]) (h1:n=k) (h2:ths[k]?=some p) (h3:Ao K H t [.ref S,.ref T,.ref R]) (h4:C7 K H T ths) (h5:Iw K H A as) (h6:GB ths as) (h7:∀(r:Addr)(H':Hp),H r=none->Ac H H'->H' r=some (.tup [.str (Eo ths as p).1,.int (Eo ths as p).2])->Q (.ref r) H'):F4 K vs H Q
def dU (K:Ai):Sp:=λvs H Q ζ=>F4 K vs H Q
abbrev Qv(P w K mg base):=By P w K mg base "inside" 2 ["net", "answers", "thing"] (dU K)
def dV(B:BA mg)(C:TQ P w K mg base)(F:Bq K "inside" "inside" QZ f fd)(g:mg "inside" = some (.ref f)):Qv P w K mg base:=by
 refine BV F g Ti (λu H Q E h=>?_) (λL A M s H u Q E a h=>?_);obtain⟨t,S,T,R,A,b,as,n,k,p,rfl,_⟩:=h;rfl;obtain⟨t,S,T,R,A,b,as,n,k,p,rfl,rfl,j,l,o,v,ok,q⟩:=h;obtain⟨x,d,D,G,I⟩:=o.get j
 refine⟨_,(Ak (DM (As At (As At (pv 0) Ah) (pv 2)) (B6 (n:=2) rfl (AD (Ay (i:=3) Ti.nd) (AD (Ay (i:=4) Ti.nd) B5))))
  (Ak (Bm (Bv Cf (pv 3) BE (Bu _)) (Aw (AN (Ba (Ab BE (Ab (pv 4) Ae))))) Bl)
  (Ak (Bm (Bv Cf (pv 3) BE (Bu _)) (Aw (AN (A1 C (Ab (pv 0) (Ab (pv 1) (Ab (pv 4) Ae)))))) Bl)
  (Aw (AN (Ba (Ab BE (Ab Ah Ae)))))))),?_⟩
 rfl';refine Or.inr (Or.inl ⟨_,.ref T,l,rfl,Or.inl ⟨x,.ref d,D,BF G,?_⟩⟩);refine⟨_,I,rfl,?_⟩;refine⟨rfl,rfl,Ap (λh=>?_) (λh=>?_)⟩;have c:p.1=("part" : Str):=V.str.inj (Bc h);refine⟨BS,λr a=>?_⟩
 rw[show Eo b as p=(("to" : Str),p.2) from An c] at q
 exact q r _ a (A8 a) Aa;have c:p.1≠("part" : Str):=λz=>h (A7 (by rw[z]));refine⟨rfl,rfl,Ap (λh=>?_) (λh=>?_)⟩;have e:p.1=("sort" : Str):=V.str.inj (Bc h)
 obtain⟨y,J⟩:=ok.q p (Bi j) e;obtain⟨m,g⟩:=DL y;rw[show Eo b as p=ES b as p.2 from(Al c).trans (An e)] at q;exact⟨t,S,T,R,A,b,as,p.2,m,rfl,g,by lia,l,o,v,ok,q⟩
 have e:p.1≠("sort" : Str):=λz=>h (A7 (by rw[z]));refine⟨BS,λr a=>?_⟩
 rw[show Eo b as p=(("no" : Str),0) from(Al c).trans (Al e)] at q
 exact q r _ a (A8 a) Aa
inductive Ib (K:Ai) (vs:List V) (H:Hp) (Q:VK):Prop where
 |mk (t S T R A st:Addr) (ths:List (Str×Int)) (as:List (C')) (p:Ck) (h0:vs=[.ref t,.ref A,.ref st]) (h1:Ao K H t [.ref S,.ref T,.ref R]) (h2:C7 K H T ths) (h3:Iw K H A as) (h4:GB ths as) (h5:Ao K H st (ET p)) (h6:(p.2.1≠("to" : Str)->0<=p.2.2/\p.2.2<as.length)) (h7:∀(r:Addr)(H':Hp),H r=none->Ac H H'->H' r=some (.tup [.str (DH ths as p).1,.int (DH ths as p).2])->Q (.ref r) H'):Ib K vs H Q
def J5 (K:Ai):Sp:=λvs H Q ζ=>Ib K vs H Q
abbrev TR(P w K mg base):=By P w K mg base "goal" 3 ["net", "answers", "step"] (J5 K)
def dX(B:BA mg)(O:Qv P w K mg base)(F:Bq K "goal" "goal" Q0 f fd)(e:mg "goal" = some (.ref f)):TR P w K mg base:=by
 refine BV F e Ot (λg H Q E h=>?_) (λaa A ab s H g Q E a h=>?_);obtain⟨t,S,T,R,A,C,o,as,p,rfl,_⟩:=h;rfl;obtain⟨t,S,T,R,A,C,o,as,p,rfl,D,G,u,ok,U,I,q⟩:=h
 refine⟨_,(Ak (DM (pv 2) (B6 (n:=3) rfl (AD (Ay (i:=3) Ot.nd) (AD (Ay (i:=4) Ot.nd) (AD (Ay (i:=5) Ot.nd) B5)))))
  (Ak (Bm (Bv Cf (pv 4) BE (Bu _)) (Aw (AN (Ba (Ab BE (Ab (pv 5) Ae))))) Bl)
  (Ak (AI (i:=6) Ot.nd (As At (pv 1) (pv 5)))
  (Ak (Bm (GY (He (pv 6))) (Aw (AN (Ba (Ab BE (Ab (pv 5) Ae))))) Bl)
  (Ak (Bm (Bv Cf (As At (pv 6) Ah) BE (Bu _)) (Aw (AN (A1 O (Ab (pv 0) (Ab (pv 1) (Ab (As At (pv 6) Ah) Ae)))))) Bl)
  (Aw (AN (Ba (Ab BE (Ab Ah Ae)))))))))),?_⟩
 rfl';refine⟨_,U,rfl,?_⟩;refine⟨rfl,rfl,Ap (λh=>?_) (λh=>?_)⟩;have b:p.2.1=("to" : Str):=V.str.inj (Bc h);refine⟨BS,λr a=>?_⟩;rw[Ym b] at q;exact q r _ a (A8 a) Aa;have b:p.2.1≠("to" : Str):=λz=>h (A7 (by rw[z]));obtain⟨J,Y⟩:=I b;obtain⟨n,j⟩:=DL J;obtain⟨g,v,W,L,M⟩:=u.get (k:=n) (by lia);have X:Bj g p.2.2=some v:=by rw[j];exact BF L
 refine Or.inl ⟨g,v,W,X,?_⟩;rcases M with⟨d,rfl⟩|⟨c,Z,d,rfl,x⟩;refine⟨rfl,Ap (λζ=>?_) (λh=>absurd (A7 rfl) h)⟩;refine⟨BS,λr a=>?_⟩;rw[Yn b j d] at q;exact q r _ a (A8 a) Aa;refine⟨rfl,Ap (λh=>absurd (Bc h) (by simp)) (λζ=>?_)⟩;refine Or.inr (Or.inl ⟨_,.str c.1,x,rfl,rfl,rfl,Ap (λh=>?_) (λh=>?_)⟩);have l:c.1=("thing" : Str):=V.str.inj (Bc h);obtain⟨N,q1⟩:=ok.t c (Bi d) l;obtain⟨m,e⟩:=DL N;have y:=AC (show m<o.length by lia);rw[Yp b j d l e y] at q;exact Or.inr (Or.inl ⟨_,.int c.2,x,rfl,t,S,T,R,A,o,as,c.2,m,_,rfl,e,y,D,G,u,ok,q⟩);have l:c.1≠("thing" : Str):=λz=>h (A7 (by rw[z]));refine⟨BS,λr a=>?_⟩;rw[Yo b j d l] at q;exact q r _ a (A8 a) Aa
def J6:([]:List V).length+1+1+1+1<=sizeLine:=by decide
variable {W:Wd}
def dY(h:W.sts[k]?=some s):Dl W (k:Int)=s.1:=by unfold Dl;rw[BK,h]
def dZ{s:AY}(h:W.ss[k]?=some s):BM W (k:Int)=s.1:=by unfold BM;rw[BK,h]
variable {p:Ck}
def d3{b:Int}{go:List (Str×Int)}{a:Int}(h:EA go p.1=some a):EK W b go p i=[((b,("step" : Str),(i:Int)),DH W.gs W.as p,a)]:=by unfold EK;rw[h]
def d4{a:Int}{go:List (Str×Int)}(h:EA go p.1=none):EK W a go p i=[]:=by unfold EK;rw[h]
inductive Dx (K:Ai) (vs:List V) (H:Hp) (Q:VK):Prop where
 |mk (nt A t:Addr) (W:Wd) (sc st:Int) (h0:vs=[.ref nt,.ref A,.ref t,.int sc,.int st]) (h1:Br K H nt A t W) (h2:B9 W) (h3:(0<=sc/\sc<W.ss.length)) (h4:(0<=st/\st<W.sts.length)) (h5:∀(D:Addr)(zs:List (Addr×Gn))(H':Hp),H D=none->Ac H H'->H' D=some (.lst (zs.map λz=>V.ref z.1))->(∀z∈zs,KA H' z.1 z.2)->zs.map (·.2)=Gi W sc st->Q (.ref D) H'):Dx K vs H Q
def d5 (K:Ai):Sp:=λvs H Q ζ=>Dx K vs H Q
abbrev Qw(P w K mg base):=By P w K mg base "steps_gone" 4 ["net", "answers", "table", "scope", "state"] (d5 K)
theorem d6(B:BA mg)(a0:Qt P w K mg base)(a1:TR P w K mg base)(F:Bq K "steps_gone" "steps_gone" Q1 f fd)(d:mg "steps_gone" = some (.ref f)):Qw P w K mg base:=by
 refine BV F d L7 (λvs aa ao aq h=>?_) (λaN A aP s aa vs ao aq hr h=>?_);obtain⟨E,A,t,W,sc,ax,rfl,_⟩:=h;rfl
 . obtain⟨E,A,t,W,sc,ax,rfl,G,ok,a2,a3,ar⟩:=h
   obtain⟨ab,au,av,us,Gs,Es,ts,qt,qs,eN,y⟩:=G.net;obtain⟨a,o,a4,b1,tv,b2,b3⟩:=G.tab;obtain⟨n,hn⟩:=DL a2.1;obtain⟨k,hk⟩:=DL a3.1;subst hn hk;have T:n<W.ss.length:=(by lia);have a5:k<W.sts.length:=(by lia);obtain⟨ae,ag,E1,ay,aL,aM,g4,⟨c0,⟨tG,c1,H⟩,_⟩⟩:=y.sc.get T;have ai:=AC a5;have l:=dZ g4;have eG:=dY ai;have a6:Bj (us.map V.ref) (n:Int)=some (.ref ae):=BF (by rw[A6,ay];rfl);have aO:=ok.st _ (Ed T)
   refine⟨_,(Ak (AI (i:=5) L7.nd (Cj Ae))
    (Ak (CJ Cz rfl (PU LK rfl B.b_enumerate (Ab (As At (As At (As At (pv 0) Ah) (pv 3)) Ah) Ae)) (B6 (n:=2) rfl (AD (Ay (i:=6) L7.nd) (AD (Ay (i:=7) L7.nd) B5))) (Ak (AI (i:=8) L7.nd (A1 a0 (Ab (pv 2) (Ab (pv 4) (Ab (As At (pv 7) Ah) Ae)))))
     (Aw (Bm (GY (Rw (pv 8))) (Ak (DM (A1 a1 (Ab (pv 0) (Ab (pv 1) (Ab (pv 7) Ae)))) (B6 (n:=2) rfl (AD (Ay (i:=9) L7.nd) (AD (Ay (i:=10) L7.nd) B5))))
      (Aw (DF (Dj DE Et Eu Ew (pv 5) (Ab (Ba (Ab (Ba (Ab (pv 3) (Ab BE (Ab (pv 6) Ae)))) (Ab (pv 9) (Ab (pv 10) (Ab (pv 8) Ae))))) Ae))))) Bl))))
    (Aw (AN (pv 5))))),?_⟩
   rfl';refine⟨by decide,λD I=>?_⟩;obtain⟨aI,a7,q,a8⟩:=new_at (o:=.lst []) I;rw[<-a7];refine Or.inr (Or.inl ⟨_,.ref ab,Ao.of (q _ _ eN),rfl,Or.inl ⟨_,.ref ae,Ag.of (q _ _ y.sc.top),a6,Or.inr (Or.inl ⟨_,.ref ag,Ao.of (q _ _ c0),rfl,ag,rfl,⟨_,q _ _ c1⟩,?_⟩)⟩⟩)
   refine PV LK (xs:=tG.map V.ref) (λi σ C=>∃J L M N U c,σ=[some (.ref E),some (.ref A),some (.ref t),some (.int n),some (.int k),some (.ref D),J,L,M,N,U]/\Ac aa C/\C D=some (.lst (c.map λz:Addr×Gn=>V.ref z.1))/\(∀z∈c,KA C z.1 z.2)/\c.map (·.2)=Dc W n (Dl W k) ((BM W n).take i) 0)
    ⟨none,none,none,none,none,[],rfl,q,a8,λz g=>by simp at g,by rw[EM];rfl⟩ (λi σ C a9=>by obtain⟨_,_,_,_,_,_,_,s,_⟩:=a9;exact Ag.of (s _ _ c1)) ?_ ?_
   rotate_left;refine λσ ah X=>AL λNz u=>?_;obtain⟨J,L,M,N,U,c,rfl,O,v,g,d⟩:=X;refine u ?_;clear u;refine ar D c ah I O v g ?_;rw[d,Aj,H.len,l,DW];unfold Gi;rw[l];refine λi x T' σ ah hx aA X=>AL λNz u=>?_;obtain⟨J,L,M,N,U,c,rfl,O,v,g,d⟩:=X;refine u ?_;clear u;obtain⟨Q,aj,rfl⟩:=getm hx;have ak:i<W.ss[n].1.length:=by rw[<-H.len];exact(Bf.mp aj).1
   have R:=AC ak;have Y:=H.at_ i Q _ aj R;have mp:=Ed ak;generalize W.ss[n].1[i]=p at R Y mp;obtain⟨H3,aB,j,aC⟩:=new_at (o:=.tup [.int i,.ref Q]) aA;rw[<-aB];have b:=O.trans j
   have al:Dc W n (Dl W k) ((BM W n).take (i+1)) 0=Dc W n (Dl W k) ((BM W n).take i) 0++EK W n (Dl W k) p i:=by
    rw[Ek,l,R];show Dc W n (Dl W k) (W.ss[n].1.take i++[p]) 0=_;rw[Vs,E5,Nat.zero_add,Nat.min_eq_left (by lia)]
   refine⟨_,Ao.of aC,rfl,?_⟩;refine Or.inr (Or.inl ⟨_,.str p.1,Ao.of (b _ _ Y),rfl,t,a,o,a4,W.sts,k,k,_,p.1,rfl,rfl,b.seqT b1,⟨tv,b.seq b2,b3.same b⟩,ai,?_⟩);rw[<-eG]
   cases eg:EA (Dl W k) p.1 with
   |none =>
     refine⟨rfl,Ap (λh=>absurd h (by simp[Eg])) (λζ=>?_)⟩;refine⟨_,_,_,_,_,c,rfl,b,j _ _ v,λz h=>(g z h).same j,?_⟩;rw[al,d4 eg,FM,d]
   |some af =>
     refine⟨rfl,Ap (λζ=>?_) (λh=>absurd (by simp[Eg]) h)⟩;refine⟨E,ab,au,av,A,Q,W.gs,W.as,p,rfl,Ao.of (b _ _ eN),⟨_,Ag.of (b _ _ y.et),(y.tg.same b).dts⟩,G.ans.same b,ok.net,Ao.of (b _ _ Y),λe=>ok.by_ (Ed T) mp e,λaJ H4 hr s4 er=>?_⟩;refine⟨_,Ao.of er,rfl,?_⟩;have aD:=s4 _ _ (j _ _ v);refine⟨Or.inl ⟨rfl,_,Ag.of aD⟩,G7,λm aE=>?_⟩;obtain⟨H5,aF,s5,az⟩:=new_at (o:=.tup [.int n,.str "step",.int i]) aE;rw[<-aF];refine⟨J6,λz aG=>?_⟩;obtain⟨H6,aH,s6,ez⟩:=new_at (o:=.tup [.ref m,.str (DH W.gs W.as p).1,.int (DH W.gs W.as p).2,Eg (some af)]) aG;rw[<-aH];have Z:=(s4.trans s5).trans s6;have an:=Z _ _ (j _ _ v);have S:Keeps (·=D) H6 (upd H6 D (.lst (c.map (λz=>V.ref z.1)++[.ref z]))):=Keeps.one an
     have lz:c.length<=8:=by
      have e1:=BR List.length d;have e2:=LF W n (Dl W k) ((BM W n).take i) 0;rw[E5,l] at e2;rw[Aj] at e1;rw[l] at e1;lia
     refine⟨_,an,by rw[Aj];exact BP (by lia),?_⟩;refine⟨_,_,_,_,_,c++[(z,(((n:Int),("step" : Str),(i:Int)),DH W.gs W.as p,af))],rfl,λaK o e=>?_,by rw[Aa,Bh];rfl,λaw r=>?_,?_⟩;rw[AH (AW e I)];exact Z _ _ (b _ _ e);rcases BB.mp r with r|r;exact((g aw r).same (j.trans Z)).keeps S;rw[AR.mp r];exact⟨m,S.tup ez,S.tup (s6 _ _ az)⟩;rw[al,d3 eg,Bh,d];rfl
variable {b:AJ}
def d7{r:Gn}(a:r.2.1.1=("to" : Str))(c:r.2.1.2∉AM b):kid b r=some (b.1++[r.1],r.2.1.2,r.2.2):=An ⟨a,c⟩
def d8{r:Gn}(h:¬(r.2.1.1=("to" : Str)/\r.2.1.2∉AM b)):kid b r=none:=Al h
def J7(f:α->Option β)(l:List α)(x:α):(l++[x]).filterMap f=l.filterMap f++(f x).toList:=by
 rw[List.filterMap_append];cases e:f x<;>simp[e]
def d9(b:AJ):(AM b).length=b.1.length+1:=by unfold AM;simp
inductive BX (K:Ai) (vs:List V) (H:Hp) (Q:VK):Prop where
 |mk (nt A t bt:Addr) (W:Wd) (b:AJ) (h0:vs=[.ref nt,.ref A,.ref t,.ref bt]) (h1:Br K H nt A t W) (h2:B9 W) (h3:Ca W b) (h4:(∃F,DI F H bt b)) (h5:∀(D:Addr)(zs:List (Addr×AJ))(H':Hp),H D=none->Ac H H'->H' D=some (.lst (zs.map λz=>V.ref z.1))->(∀z∈zs,DI (λl=>H l=none/\l≠D) H' z.1 z.2)->zs.map (·.2)=B4 W b->Q (.ref D) H'):BX K vs H Q
def eF (K:Ai):Sp:=λvs H Q ζ=>BX K vs H Q
abbrev TU(P w K mg base):=By P w K mg base "longer_by_a_step" 5 ["net", "answers", "table", "beginning"] (eF K)
def eH(B:BA mg)(a3:Qw P w K mg base)(F:Bq K "longer_by_a_step" "longer_by_a_step" O0 f fd)(d:mg "longer_by_a_step" = some (.ref f)):TU P w K mg base:=by
 refine BV F d IA (λvs H ay az h=>?_) (λaL A aP s H vs ay az hr h=>?_);obtain⟨nt,A,t,bt,W,b,rfl,_⟩:=h;rfl
 . obtain⟨nt,A,t,bt,W,b,rfl,hC,ok,U,⟨F,l,g,E,q,j,_⟩,a0⟩:=h
   have aM:g.length<=100:=by
    have:=Kz W.ss.length (AM b) U.nd U.rng;rw[d9] at this;have:=ok.s5;rw[j.len];lia
   have a4:=U.rng b.2.1 (by unfold AM;simp)
   refine⟨_,(Ak (DM (pv 3) (B6 (n:=3) rfl (AD (Ay (i:=4) IA.nd) (AD (Ay (i:=5) IA.nd) (AD (Ay (i:=6) IA.nd) B5)))))
    (Ak (AI (i:=7) IA.nd (Au Pe (Je (te:=Fp (Hm K) (Cr 0) (tC (.int ((0:Nat):Int)))) rfl Bz (Dh (pv 4)) (λζ ζ ζ ζ ζ=>(Ay (i:=0) Bz.nd)) (λζ ζ ζ ζ ζ=>Hs) (λζ ζ ζ ζ ζ=>(As At (pv 0) Ah))) (Cj (Ab (pv 5) Ae))))
    (Ak (AI (i:=8) IA.nd (Cj Ae))
    (Ak (CJ Cz rfl (Dh (A1 a3 (Ab (pv 0) (Ab (pv 1) (Ab (pv 2) (Ab (pv 5) (Ab (pv 6) Ae))))))) (B6 (n:=4) rfl (AD (Ay (i:=9) IA.nd) (AD (Ay (i:=10) IA.nd) (AD (Ay (i:=11) IA.nd) (AD (Ay (i:=12) IA.nd) B5))))) (Aw (Bm (PW.pt (G2 (Bv Cf (pv 10) BE (Bu _)) (G1 (Bv (Vb hr.units) (pv 11) (pv 7) (by with_unfolding_all rfl))))) (Aw (DF (Dj DE Et Eu Ew (pv 8) (Ab (Ba (Ab (Au Pe (pv 4) (Cj (Ab (pv 9) Ae))) (Ab (pv 11) (Ab (pv 12) Ae)))) Ae)))) Bl)))
    (Aw (AN (pv 8))))))),?_⟩
   rfl';refine⟨_,Ao.of E,rfl,?_⟩
   refine⟨⟨_,Ag.of q⟩,NY (xs:=g.map V.ref) (λD i J p=>Ac H p/\p D=some (.lst J)/\J=(b.1.take i).map λm=>V.int m.1)
    (λD r=>⟨A8 r,Aa,by rw[EM];rfl⟩) (λD i J p ag=>by obtain⟨s,_⟩:=ag;exact Ag.of (s _ _ q)) (λD i x J af RR r M hv k=>?_) (λa1 J aI aN hv=>?_)⟩
   obtain⟨N,eD,rfl⟩:=hv;obtain⟨tm,aq,rfl⟩:=getm M;have a5:i<b.1.length:=by rw[<-j.len];exact(Bf.mp aq).1
   have d:=AC a5;have a6:=j.at_ i tm _ aq d;have aa:b.1.take (i+1)=b.1.take i++[b.1[i]]:=by rw[Ek,d];rfl
   have a7:=j.len;refine Or.inr (Or.inl ⟨_,.int b.1[i].1,Ao.of (N _ _ a6),rfl,?_⟩);refine k _ _ eD (by rw[Aj,E5];exact BP (by lia)) ⟨λx o e=>?_,Aa,by rw[aa,Bh];rfl⟩;rw[AH (AW e r)];exact N _ _ e;obtain⟨s1,eC,rfl⟩:=hv;rw[Aj,j.len,DW] at eC;refine⟨Ji,λC2 a8=>?_⟩;obtain⟨af,a9,N,aA⟩:=new_at (o:=.lst [.int b.2.1]) a8;rw[<-a9];have a7:=j.len;refine⟨a1,C2,_,_,rfl,rfl,N _ _ eC,aA,?_,λB hB=>?_⟩;rw[Aj];exact C9 (BP (by show b.1.length+1<=1000;lia));have s3:=A8 (o:=.lst ((b.1.map λm=>V.int m.1)++[.int b.2.1])) hB
   have X:(upd af B (.lst ((b.1.map λm=>V.int m.1)++[.int b.2.1]))) B=some (.lst ((AM b).map V.int)):=by
    rw[Aa];unfold AM
    simp
   generalize upd af B (.lst ((b.1.map λm=>V.int m.1)++[.int b.2.1]))=H3 at s3 X ⊢;have ar:=(s1.trans N).trans s3;refine⟨by decide,λD r=>?_⟩;have ab:H D=none:=ar.free r;obtain⟨H4,aB,s4,ah⟩:=new_at (o:=.lst []) r;rw[<-aB];have au:=ar.trans s4;refine⟨nt,A,t,W,b.2.1,b.2.2,rfl,hC.same au,ok,a4,U.st,λaJ u H5 hG Y eG aC av=>⟨⟨_,Ag.of eG⟩,?_⟩⟩;have ae:=au.trans Y
   have aO:u.length<=8:=by
    have E:=BR List.length av;have q:=LF W b.2.1 (Dl W b.2.2) (BM W b.2.1) 0;have j:=Pw ok b.2.1;rw[Aj] at E;unfold Gi at E;lia
   refine Fa (xs:=u.map λz=>V.ref z.1) (λi σ p=>∃u9 ai aj ak a,σ=[some (.ref nt),some (.ref A),some (.ref t),some (.ref bt),some (.ref l),some (.int b.2.1),some (.int b.2.2),some (.ref B),some (.ref D),u9,ai,aj,ak]/\Keeps (·=D) H5 p/\p D=some (.lst (a.map λz:Addr×AJ=>V.ref z.1))/\(∀z∈a,DI (λl=>H l=none/\l≠D) p z.1 z.2)/\a.map (·.2)=((u.map (·.2)).take i).filterMap (kid b))
    ⟨none,none,none,none,[],rfl,Keeps.refl λx o m e=>by rw[m,Y _ _ ah] at e;exact⟨_,(B2 e).symm⟩,Y _ _ ah,λz v=>by simp at v,by rw[EM];rfl⟩ (λi σ p ζ ag=>by obtain⟨_,_,_,_,_,_,k,_⟩:=ag;exact Ag.of (k.at_ _ _ eG λz=>by rw[z,ah] at hG;cases hG)) ?_ ?_
   rotate_left;refine λσ H6 I=>AL λNz S=>?_;obtain⟨u9,ai,aj,ak,a,rfl,c,C,v,d⟩:=I;refine S ?_;clear S;refine a0 D a H6 ab (λx o e=>?_) C v ?_;exact c.at_ _ _ (ae _ _ e) (AW e ab);rw[d,Aj,<-Aj (f:=(·.2)),DW,av];rfl;refine λi x σ H6 M I=>AL λNz S=>?_;obtain⟨u9,ai,aj,ak,a,rfl,c,C,v,d⟩:=I;refine S ?_;clear S;refine Ha ?_;intro Nx Cy;obtain⟨z,I,rfl⟩:=getm M;obtain⟨m,al,an⟩:=aC z (Bi I);have al:=c.tup al;have an:=c.tup an
   have aa:((u.map (·.2)).take (i+1)).filterMap (kid b)=((u.map (·.2)).take i).filterMap (kid b)++(kid b z.2).toList:=by
    rw[Ek,A6,I];exact J7 _ _ _
   have lz:a.length<=8:=by
    have E:=BR List.length d;have q:=List.length_filterMap_le (kid b) ((u.map (·.2)).take i);rw[E5,Aj] at q;rw[Aj] at E;lia
   refine⟨_,Ao.of al,rfl,?_⟩
   have skip:¬(z.2.2.1.1=("to" : Str)/\z.2.2.1.2∉AM b)->a.map (·.2)=((u.map (·.2)).take (i+1)).filterMap (kid b):=λhn=>by
    rw[aa,d8 hn,d];simp
   have aD:=c.at_ _ _ ((s4.trans Y) _ _ X) (λz=>by rw[z,r] at X;cases X);refine⟨rfl,rfl,Ap (λO=>?_) (λO=>Bw ?_)⟩;rotate_left;exact⟨_,_,_,_,a,rfl,c,C,v,skip λh=>O (A7 (by rw[h.1]))⟩;have O:z.2.2.1.1=("to" : Str):=V.str.inj (Bc O);refine⟨2,.int z.2.2.1.2,(AM b).map Dt.int,B,_,λaK hd=>?_,by decide,.int _,rfl,Ag.of aD,Py _,rfl,Ap (λG=>?_) (λG=>?_)⟩;obtain⟨y,_,rfl⟩:=Bd.mp hd;exact .int _ _;rotate_left;refine⟨_,_,_,_,a,rfl,c,C,v,skip λh=>G ?_⟩;rw[Gh λz=>h.2 (GC.mp z)];rfl
   have G:z.2.2.1.2∉AM b:=λz=>by
    rw[FF (GC.mpr z)] at G;cases G
   have aE:=c.at_ _ _ (ae _ _ q) (AW q ab);refine⟨Or.inl ⟨rfl,_,Ag.of C⟩,Ji,λa2 hM=>?_⟩;obtain⟨H7,aF,Z,eM⟩:=new_at (o:=.lst [.ref m]) hM;rw[<-aF];refine⟨l,a2,_,_,rfl,rfl,Z _ _ aE,eM,by rw[Aj];exact C9 (BP (by show g.length+1<=1000;lia)),λL hL=>?_⟩
   have aG:H L=none:=by
    have h6:=Z.free hL
    cases e:H L with
    |none=>rfl
    |some o=>rw[c.at_ _ _ (ae _ _ e) (AW e ab)] at h6;cases h6
   have aw:L≠D:=λy=>by rw[y,Z _ _ C] at hL;cases hL
   have s8:=A8 (o:=.lst (g.map V.ref++[.ref m])) hL;have eL:(upd H7 L (.lst (g.map V.ref++[.ref m]))) L=some (.lst ((g++[m]).map V.ref)):=by rw[Aa,Bh];rfl
   generalize upd H7 L (.lst (g.map V.ref++[.ref m]))=H8 at s8 eL ⊢;refine⟨G7,λao hr=>?_⟩;obtain⟨H9,aH,s9,er⟩:=new_at (o:=.tup [.ref L,.int z.2.2.1.2,.int z.2.2.2]) hr;rw[<-aH];have T:=(Z.trans s8).trans s9;have ax:=T _ _ C;have Q:Keeps (·=D) H9 (upd H9 D (.lst (a.map (λz=>V.ref z.1)++[.ref ao]))):=Keeps.one ax;refine⟨_,ax,by rw[Aj];exact BP (by lia),?_⟩;refine⟨_,_,_,_,a++[(ao,(b.1++[z.2.1],z.2.2.1.2,z.2.2.2))],rfl,⟨λx o e n=>?_,c.ls⟩,by rw[Aa,Bh];rfl,λy R=>?_,?_⟩;rw[AH n];exact T _ _ (c.at_ x o e n);rcases BB.mp R with R|R;exact((v y R).same T).keeps Q λx M=>M.2;rw[AR.mp R];refine⟨L,g++[m],Q.tup er,Q.at_ _ _ (s9 _ _ eL) aw,?_,aG,aw⟩;refine RT.snoc ?_ (Q.tup ((T) _ _ an));exact((j.same ae).keeps c |>.same T).keeps Q;rw[aa,d7 O G,Bh,d];rfl
inductive Dy (K:Ai) (vs:List V) (H:Hp) (Q:VK):Prop where
 |mk (nt A t:Addr) (W:Wd) (sc st:Int) (h0:vs=[.ref nt,.ref A,.ref t,.int sc,.int st]) (h1:Br K H nt A t W) (h2:B9 W) (h3:(0<=sc/\sc<W.ss.length)) (h4:(0<=st/\st<W.sts.length)) (h5:∀(D:Addr)(zs:List (Addr×AJ))(H':Hp),H D=none->Ac H H'->H' D=some (.lst (zs.map λz=>V.ref z.1))->(∀z∈zs,DI (λl=>H l=none/\l≠D) H' z.1 z.2)->DP W sc st (zs.map (·.2))->Q (.ref D) H'):Dy K vs H Q
def eI (K:Ai):Sp:=λvs H Q ζ=>Dy K vs H Q
abbrev TV(P w K mg base):=By P w K mg base "beginnings" 6 ["net", "answers", "table", "scope", "state"] (eI K)
theorem eJ(B:BA mg)(aq:TU P w K mg base)(F:Bq K "beginnings" "beginnings" Q2 f fd)(hm:mg "beginnings" = some (.ref f)):TV P w K mg base:=by
 refine BV F hm Qg (λvs H al an h=>?_) (λaC A aE s H vs al an Y h=>?_);obtain⟨L,A,t,W,g,j,rfl,_⟩:=h;rfl
 . obtain⟨L,A,t,W,g,j,rfl,hC,ok,Q,R,ao⟩:=h
   refine⟨_,(Ak (AI (i:=5) Qg.nd (Cj (Ab (Ba (Ab (Cj Ae) (Ab (pv 3) (Ab (pv 4) Ae)))) Ae)))
    (Ak (AI (i:=6) Qg.nd Ah)
    (Ak (Xo Cz (Bv GO (pv 6) (BH Di B.b_len (Ab (pv 5) Ae)) (Bu _)) (Ak (DF (Dj DE PySem.F.slot_list_extend PySem.F.type_list_extend NV (pv 5) (Ab (A1 aq (Ab (pv 0) (Ab (pv 1) (Ab (pv 2) (Ab (As At (pv 5) (pv 6)) Ae))))) Ae)))
     (Ak (Bm (Bv Hk (BH Di B.b_len (Ab (pv 5) Ae)) (IK (v:=.int 200) rfl (Classical.choose_spec B.c_MOST_BEGINNINGS) ⟨_,rfl⟩) (Bu _)) (Aw Xm) Bl)
     (Aw (Jo (i:=6) Qg.nd rfl (Or.inl rfl) Ah IS)))))
    (Aw (AN (BH (Yw MP FU FU Y.units (by decide) (by decide) (by decide)) B.b_sorted (Ab (pv 5) Ae))))))),?_⟩
   rfl';refine⟨by decide,λl hl=>?_⟩;obtain⟨a8,ar,s1,el⟩:=new_at (o:=.lst []) hl;rw[<-ar];refine⟨G7,λaf Y=>?_⟩;obtain⟨a9,au,Z,er⟩:=new_at (o:=.tup [.ref l,.int g,.int j]) Y;rw[<-au];refine⟨Ji,λD hD=>?_⟩;have ag:=s1.trans Z;have av:H D=none:=ag.free hD;have aw:l≠D:=AW (Z _ _ el) hD;obtain⟨H3,ax,s3,ay⟩:=new_at (o:=.lst [.ref af]) hD;rw[<-ax];have az:=ag.trans s3;refine AU ?_;cbv;refine R8 ?_;cbv;refine Hu (λσ' d=>∃(u6:V)(a:List (Addr×AJ)),σ'=[some (.ref L),some (.ref A),some (.ref t),some (.int g),some (.int j),some (.ref D),some u6]/\Ac H d/\d D=some (.lst (a.map λz=>V.ref z.1))/\(∀z∈a,DI (λl=>H l=none/\l≠D) d z.1 z.2)/\GQ W g j (a.map λz:Addr×AJ=>z.2) (a.map λz:Addr×AJ=>z.2).length) ?_ (λaA hN=>?_);refine λσ' H4 S=>AL λNz C=>?_;obtain⟨u6,a,rfl,I,E,k,u⟩:=S;refine C ?_;clear C;have hf:=u.few ok Q R;rw[Aj] at hf;refine⟨D,a.map λz=>(V.ref z.1,z.2),rfl,?_,by rw[Aj];lia,λy M=>?_,λD2 G hp hs U=>?_⟩;rw[Ep];exact Ag.of E;obtain⟨z,T,rfl⟩:=Bd.mp M;exact(k z T).dt;have n:=A8 (o:=.lst (G.map (·.1))) U
   obtain⟨c,rfl⟩:∃c:List (Addr×AJ),G=c.map λz=>(V.ref z.1,z.2):=by
    have:∀{l:List (DN DO)},(∀y∈l,y∈a.map λz=>((V.ref z.1,z.2):DN DO))->∃c:List (Addr×AJ),l=c.map λz=>(V.ref z.1,z.2):=by
     intro l
     induction l with
     |nil=>exact λζ=>⟨[],rfl⟩
     |cons y l ih =>
       intro h;obtain⟨c,rfl⟩:=ih λz k=>h z (Ce _ k);obtain⟨z,_,rfl⟩:=Bd.mp (h y A3);exact⟨z::c,rfl⟩
    exact this λy M=>hp.mem_iff.mp M
   have N:(c.map λz=>((V.ref z.1,z.2):DN DO)).map (·.2)=c.map (·.2):=by rw[Ep];rfl
   have O:(c.map λz=>((V.ref z.1,z.2):DN DO)).map (·.1)=c.map λz=>V.ref z.1:=by rw[Ep];rfl
   have a0:(c.map (·.2)).Perm (a.map (·.2)):=by
    have:=hp.map (·.2)
    rwa [N,Ep] at this
   rw[N] at hs;rw[O] at n ⊢
   have nm:∀z∈c,z∈a:=λz T=>by
    have:=hp.mem_iff.mp (Bd.mpr ⟨z,T,rfl⟩);obtain⟨y,M,e⟩:=Bd.mp this;injection e with O N;have:y=z:=Prod.ext (V.ref.inj O) N;rw[<-this];exact M
   refine ao D2 c _ (I.free U) (I.trans n) Aa (λz T=>?_) (u.all ok Q R a0 hs);refine((k z (nm z T)).mono' ?_).same n;intro x o ex q;exact⟨q.1,λy=>by rw[y,U] at ex;cases ex⟩;refine⟨λm σ d=>∃(p:Nat)(a:List (Addr×AJ)),σ=[some (.ref L),some (.ref A),some (.ref t),some (.int g),some (.int j),some (.ref D),some (.int p)]/\Ac H d/\d D=some (.lst (a.map λz=>V.ref z.1))/\(∀z∈a,DI (λl=>H l=none/\l≠D) d z.1 z.2)/\GQ W g j (a.map λz:Addr×AJ=>z.2) p/\m=62-p,⟨_,0,[(af,([],g,j))],rfl,az,ay,λz k=>?_,GQ.start W g j,rfl⟩,?_⟩;rw[AR.mp k];exact⟨l,[],s3 _ _ er,(Z.trans s3) _ _ el,RT.nil,hl,aw⟩;refine λm σ H4 S=>AL λNz C=>?_;obtain⟨p,a,rfl,I,E,k,u,aB⟩:=S;refine C ?_;clear C;have hf:=u.few ok Q R;have a1:=u.le;rw[Aj] at hf a1;refine⟨_,Or.inl ⟨_,Ag.of E,rfl⟩,rfl,?_⟩;by_cases ah:p<a.length;rotate_left;have ep:p=a.length:=(by lia);rw[El (by rw[Aj];lia)];refine Bw (hN _ _ ⟨_,a,rfl,I,E,k,?_⟩);rw[Aj,<-ep];exact u;rw[A7 (by rw[Aj];lia)];refine C5 ?_;have ai:=AC ah;have aj:(a.map (·.2))[p]?=some a[p].2:=by rw[A6,ai];rfl
   have aa:=u.turn aj;have ib:=(u.is _ (Bi aj)).ok ok Q R;refine⟨λσ' d=>∃(G:List (Addr×AJ)),σ'=[some (.ref L),some (.ref A),some (.ref t),some (.int g),some (.int j),some (.ref D),some (.int ((p+1:Nat):Int))]/\Ac H d/\d D=some (.lst (G.map λz=>V.ref z.1))/\(∀z∈G,DI (λl=>H l=none/\l≠D) d z.1 z.2)/\GQ W g j (G.map λz:Addr×AJ=>z.2) (p+1),?_,?_⟩;refine λσ' d S=>AL λNz C=>?_;obtain⟨G,rfl,n,X,a2,a3⟩:=S;refine C ?_;clear C;exact⟨_,by lia,p+1,G,rfl,n,X,a2,a3,rfl⟩;have a4:Bj (a.map λz=>V.ref z.1) (p:Int)=some (.ref a[p].1):=BF (by rw[A6,ai];rfl);refine⟨Or.inl ⟨rfl,_,Ag.of E⟩,Or.inl ⟨_,.ref a[p].1,Ag.of E,a4,L,A,t,a[p].1,W,a[p].2,rfl,hC.same I,ok,ib,⟨_,k _ (Ed ah)⟩,λD2 r J U n a5 a6 ab=>?_⟩⟩
   have aD:r.length<=8:=by
    have O:=BR List.length ab;have N:=Vu W a[p].2;have e3:=Pw ok a[p].2.2.1;rw[Aj] at O;lia
   have X:=n _ _ E;have k5:Keeps (·=D) J (upd J D (.lst (a.map (λz=>V.ref z.1)++r.map λz=>V.ref z.1))):=Keeps.one X;refine⟨D,D2,_,_,rfl,rfl,X,a5,by rw[Aj,Aj];exact C9 (BP (by lia)),?_⟩;have a7:=aa.few ok Q R;rw[<-ab,<-Bh,Aj] at a7;rw[<-ab,<-Bh] at aa;have ae:(upd J D (.lst (a.map (λz=>V.ref z.1)++r.map λz=>V.ref z.1))) D=some (.lst ((a++r).map λz=>V.ref z.1)):=(by rw[Aa,Bh])
   have sn:Ac H (upd J D (.lst (a.map (λz=>V.ref z.1)++r.map λz=>V.ref z.1))):=λb o e=>by
    rw[AH (AW e av)];exact n _ _ (I _ _ e)
   have ak:∀z∈a++r,DI (λl=>H l=none/\l≠D) (upd J D (.lst (a.map (λz=>V.ref z.1)++r.map λz=>V.ref z.1))) z.1 z.2:=λz h=>by
    rcases BB.mp h with h|h;exact((k z h).same n).keeps k5 λx q=>q.2;refine((a6 z h).mono λx q=>⟨I.free q.1,?_⟩).keeps k5 λx q=>q.2;intro y;rw[y,E] at q;cases q.1
   generalize upd J D (.lst (a.map (λz=>V.ref z.1)++r.map λz=>V.ref z.1))=H6 at ae sn ak ⊢;refine⟨_,Or.inl ⟨_,Ag.of ae,rfl⟩,rfl,?_⟩;rw[El (by rw[Aj];lia)];refine Bw ?_;refine⟨_,rfl,a++r,?_,sn,ae,ak,aa⟩
   simp
inductive Fi (K:Ai) (vs:List V) (H:Hp) (Q:VK):Prop where
 |mk (t a o:Addr) (inn:V) (ss:List CK) (n:Int) (k:Nat) (s:CK) (x:Str) (h0:vs=[.ref t,.int n,.str x]) (h1:n=k) (h2:Ao K H t [.ref a,inn,.ref o]) (h3:Hy K H a ss) (h4:ss[k]?=some s) (h5:Q (.bl (dec (x∈s.2))) H):Fi K vs H Q
def eK (K:Ai):Sp:=λvs H Q ζ=>Fi K vs H Q
abbrev TW(P w K mg base):=By P w K mg base "has_end" 1 ["table", "state", "label"] (eK K)
def eQ(B:BA mg)(F:Bq K "has_end" "has_end" Q3 f fd)(c:mg "has_end" = some (.ref f)):TW P w K mg base:=by
 refine BV F c WO (λb H Q E h=>?_) (λO A R s H b Q E j h=>?_);obtain⟨t,a,o,J,ss,n,k,s,x,rfl,_⟩:=h;rfl;obtain⟨t,a,o,J,ss,n,k,s,x,rfl,rfl,l,⟨b,m,p⟩,r,q⟩:=h;obtain⟨v,u,L⟩:=p.get' (i:=k) (d:=N1 s) (by rw[A6,r];rfl);obtain⟨C,g,e,rfl,M,N,D⟩:=Kx L
 refine⟨_,(Ak (AI (i:=3) WO.nd (As At (As At (As At (pv 0) Ah) (pv 1)) Ah))
  (Aw (AN (ME (Lw j.units) (pv 2) (pv 3) (by with_unfolding_all rfl))))),?_⟩
 rfl';refine Or.inr (Or.inl ⟨_,.ref a,l,rfl,?_⟩);refine Or.inl ⟨b,.ref C,m,BF u,?_⟩;refine Or.inr (Or.inl ⟨_,.ref e,M,rfl,?_⟩);refine⟨2,.str x,s.2.map Dt.str,e,_,λd hd=>?_,by decide,.str x,rfl,D,Am.strs _,?_⟩;obtain⟨y,_,rfl⟩:=Bd.mp hd;exact .str _ _
 have G:dec (Dt.str x∈s.2.map Dt.str)=dec (x∈s.2):=MJ ⟨λh=>by
  obtain⟨y,I,z⟩:=Bd.mp h
  rw[<-Dt.str.inj z];exact I,λh=>Bd.mpr ⟨x,h,rfl⟩⟩
 rw[G];exact q
def J8(h:W.sts[k]?=some s):Ix W (k:Int)=s.2:=by unfold Ix;rw[BK,h]
def eR{s:AY}(h:W.ss[k]?=some s):FV W (k:Int)=s.2:=by unfold FV;rw[BK,h]
def Mp{q:Ef}(a:q.2.1=x)(c:q.1∈Ix W b.2.2):FG W b x q i=[b.1++[(b.2.1,("told" : Str),(i:Int))]]:=An ⟨a,c⟩
def J9{q:Ef}(h:¬(q.2.1=x/\q.1∈Ix W b.2.2)):FG W b x q i=[]:=Al h
def W6{bs:List AJ}(h:bs[i]?=some b):DQ W x (bs.take (i+1))=DQ W x (bs.take i)++Dd W b x (FV W b.2.1) 0:=by
 rw[Ek,h];show(bs.take i++[b]).flatMap _=_;rw[List.flatMap_append];simp[DQ]
def OM{bs:List AJ}(i:Nat):(DQ W x (bs.take i)).length<=(DQ W x bs).length:=by
 have:DQ W x bs=DQ W x (bs.take i)++DQ W x (bs.drop i):=by
  unfold DQ;rw[<-List.flatMap_append,List.take_append_drop]
 rw[this,AQ];lia
theorem W7(W:Wd)(b:AJ)(x:Str):∀(l:List Ef)(j i:Nat),(Dd W b x (l.take j) i).length<=(Dd W b x l i).length
 |[],j,i=>by rw[List.take_nil];exact AG _
 |q::l,0,i=>Df _
 |q::l,j+1,i=>by
   show(FG W b x q i++Dd W b x (l.take j) (i+1)).length<=(FG W b x q i++Dd W b x l (i+1)).length;rw[AQ,AQ];have:=W7 W b x l j (i+1);lia
inductive CF (K:Ai) (vs:List V) (H:Hp) (Q:VK):Prop where
 |mk (nt A t D:Addr) (x:Str) (F:Addr->Prop) (W:Wd) (zs:List (Addr×AJ)) (h0:vs=[.ref nt,.ref t,.ref D,.str x]) (h1:Br K H nt A t W) (h2:B9 W) (h3:H D=some (.lst (zs.map λz=>V.ref z.1))) (h4:(∀z∈zs,DI F H z.1 z.2)) (h5:(∀z∈zs,Ca W z.2)) (h6:(DQ W x (zs.map (·.2))).length<=62) (h7:∀(D2:Addr)(ws:List (Addr×List Ar))(H':Hp),H D2=none->Ac H H'->H' D2=some (.lst (ws.map λz=>V.ref z.1))->(∀z∈ws,CL (λl=>H l=none/\l≠D2) H' z.1 z.2)->MQ W x (zs.map (·.2)) (ws.map (·.2))->Q (.ref D2) H'):CF K vs H Q
def eS (K:Ai):Sp:=λvs H Q ζ=>CF K vs H Q
abbrev TX(P w K mg base):=By P w K mg base "found_behind" 2 ["net", "table", "begun", "name"] (eS K)
theorem eU(B:BA mg)(aC:TW P w K mg base)(F:Bq K "found_behind" "found_behind" Q4 f fd)(u:mg "found_behind" = some (.ref f)):TX P w K mg base:=by
 refine BV F u L8 (λvs H a2 a3 h=>?_) (λbb an bf s H vs a2 a3 hr h=>?_);obtain⟨nt,an,t,D,x,F,W,v,rfl,_⟩:=h;rfl
 . obtain⟨nt,an,t,D,x,F,W,v,rfl,hC,ok,eD,hz,aD,bc,a4⟩:=h
   obtain⟨a5,aW,aX,us,Gs,Es,ts,qt,qs,eN,N3⟩:=hC.net;obtain⟨a,o,aE,b1,tv,b2,b3⟩:=hC.tab
   refine⟨_,(Ak (AI (i:=4) L8.nd (Cj Ae))
    (Ak (CJ Cz rfl (Dh (pv 2)) (B6 (n:=3) rfl (AD (Ay (i:=5) L8.nd) (AD (Ay (i:=6) L8.nd) (AD (Ay (i:=7) L8.nd) B5)))) (Aw (CJ Cz rfl (PU LK rfl B.b_enumerate (Ab (As At (As At (As At (pv 0) Ah) (pv 6)) Ah) Ae)) (B6 (n:=2) rfl (AD (Ay (i:=8) L8.nd) (AD (Ay (i:=9) L8.nd) B5))) (Aw (Bm (PW.pt (G2 (Bv Cf (As At (pv 9) Ah) (pv 3) (Bu _)) (G1 (GZ (A1 aC (Ab (pv 1) (Ab (pv 7) (Ab (As At (pv 9) Ah) Ae)))))))) (Aw (DF (Dj DE Et Eu Ew (pv 4) (Ab (Au Pe (pv 5) (Cj (Ab (Ba (Ab (pv 6) (Ab BE (Ab (pv 8) Ae)))) Ae))) Ae)))) Bl)))))
    (Aw (AN (BH (Yu MP hr.units (by decide)) B.b_sorted (Ab (pv 4) Ae)))))),?_⟩
   rfl';refine⟨by decide,λP hP=>?_⟩;obtain⟨U,aF,s1,aq⟩:=new_at (o:=.lst []) hP;rw[<-aF];have bd:D≠P:=AW eD hP;have Q:∀{g:Hp},Keeps (·=P) U g->Ac H g:=λk x o e=>k.at_ _ _ (s1 _ _ e) (AW e hP)
   refine⟨⟨_,Ag.of (s1 _ _ eD)⟩,Fa (xs:=v.map λz=>V.ref z.1) (λi σ g=>∃u5 u6 u7 A C b,σ=[some (.ref nt),some (.ref t),some (.ref D),some (.str x),some (.ref P),u5,u6,u7,A,C]/\Keeps (·=P) U g/\g P=some (.lst (b.map λz:Addr×List Ar=>V.ref z.1))/\(∀z∈b,CL (λl=>H l=none/\l≠P) g z.1 z.2)/\b.map (·.2)=DQ W x ((v.map (·.2)).take i))
    ⟨none,none,none,none,none,[],rfl,Keeps.refl λx o m e=>by rw[m,aq] at e;exact⟨_,(B2 e).symm⟩,aq,λz hz=>by simp at hz,by rw[EM];rfl⟩ (λi σ g ζ af=>by obtain⟨_,_,_,_,_,_,_,k,_⟩:=af;exact Ag.of (Q k _ _ eD)) ?_ ?_⟩
   rotate_left;refine λσ a6 G=>AL λM d=>?_;obtain⟨u5,u6,u7,A,C,b,rfl,T,ag,X,u⟩:=G;refine d ?_;clear d;rw[Aj,<-Aj (f:=(·.2)),DW] at u;have lw:b.length<=62:=by have:=BR List.length u;rw[Aj] at this;lia
   refine⟨P,b.map λz=>(V.ref z.1,z.2),rfl,?_,by rw[Aj];lia,λy q=>?_,λD2 aG N hs ah=>?_⟩;rw[Ep];exact Ag.of ag;obtain⟨z,ai,rfl⟩:=Bd.mp q;exact(X z ai).dt;obtain⟨vs,r1,r2,r3,r4⟩:=VE (c:=CP) N;have s3:=A8 (o:=.lst (aG.map (·.1))) ah;rw[r1] at s3 ⊢;rw[r2] at hs;have r:=Q T;refine a4 D2 vs _ (r.free ah) (r.trans s3) Aa (λz ai=>?_) ⟨by rw[<-u];exact r3,hs⟩;refine((X z (r4 z ai)).mono' ?_).same s3;intro x o ex hx;exact⟨hx.1,λy=>by rw[y,ah] at ex;cases ex⟩;refine λi y σ a6 q G=>AL λM d=>?_;obtain⟨u5,u6,u7,A,C,b,rfl,T,ag,X,u⟩:=G;refine d ?_;clear d;obtain⟨z,ar,rfl⟩:=getm q;have mz:=Bi ar;have aa:=aD z mz;have r:=Q T;refine AL λM d=>?_;obtain⟨l,E,a8,a9,e3,_⟩:=hz z mz;refine d ?_;clear d;have e1:=r _ _ a8;have aH:=aa.rng z.2.2.1 (by unfold AM;simp);have aI:=aa.st;obtain⟨n,Y⟩:=DL aH.1;obtain⟨k,hk⟩:=DL aI.1;have aJ:n<W.ss.length:=(by lia);have aK:k<W.sts.length:=(by lia);refine AL λM d=>?_;obtain⟨ao,aY,E1,aA,aZ,ba,g4,⟨c0,_,⟨tE,c1,c2⟩⟩⟩:=N3.sc.get aJ;refine d ?_;clear d;have au:=AC aK;have eT:FV W z.2.2.1=W.ss[n].2:=by rw[Y];exact eR g4
   have eE:Ix W z.2.2.2=W.sts[k].2:=by rw[hk];exact J8 au
   have aL:Bj (us.map V.ref) z.2.2.1=some (.ref ao):=by rw[Y];exact BF (by rw[A6,aA];rfl)
   have av:(v.map (·.2))[i]?=some z.2:=by rw[A6,ar];rfl
   have be:E.length<=100:=by
    have:=Kz W.ss.length (AM z.2) aa.nd aa.rng;rw[show(AM z.2).length=z.2.1.length+1 by unfold AM;simp] at this;have:=ok.s5;rw[e3.len];lia
   have aM:=OM (W:=W) (x:=x) (bs:=v.map (·.2)) (i+1);rw[W6 av,AQ] at aM;refine⟨_,Ao.of e1,rfl,?_⟩;refine Or.inr (Or.inl ⟨_,.ref a5,Ao.of (r _ _ eN),rfl,Or.inl ⟨_,.ref ao,Ag.of (r _ _ N3.sc.top),aL,Or.inr (Or.inl ⟨_,.ref E1,Ao.of (r _ _ c0),rfl,E1,rfl,⟨_,r _ _ c1⟩,?_⟩)⟩⟩)
   refine PV LK (xs:=tE.map V.ref) (λj σ g=>∃A C b,σ=[some (.ref nt),some (.ref t),some (.ref D),some (.str x),some (.ref P),some (.ref l),some (.int z.2.2.1),some (.int z.2.2.2),A,C]/\Keeps (·=P) U g/\g P=some (.lst (b.map λz:Addr×List Ar=>V.ref z.1))/\(∀z∈b,CL (λl=>H l=none/\l≠P) g z.1 z.2)/\b.map (·.2)=DQ W x ((v.map (·.2)).take i)++Dd W z.2 x ((FV W z.2.2.1).take j) 0)
    ⟨_,_,b,rfl,T,ag,X,by rw[u,EM];simp[Dd]⟩ (λj σ g af=>by obtain⟨_,_,_,_,k,_⟩:=af;exact Ag.of (Q k _ _ c1)) ?_ ?_
   rotate_left;refine λσ H3 G=>AL λM d=>?_;obtain⟨A,C,b,rfl,Z,aj,ak,R⟩:=G;refine d ?_;clear d;refine⟨_,_,_,_,_,b,rfl,Z,aj,ak,?_⟩;rw[W6 av,R,Aj,c2.len,eT,DW];refine λj y T' σ H3 q aN G=>AL λM d=>?_;obtain⟨A,C,b,rfl,Z,aj,ak,R⟩:=G;refine d ?_;clear d;obtain⟨tp,aw,rfl⟩:=getm q;have aO:j<W.ss[n].2.length:=by rw[<-c2.len];exact(Bf.mp aw).1
   have N:=AC aO;have ax:=c2.at_ j tp _ aw N;generalize W.ss[n].2[j]=p at N ax;obtain⟨H4,aP,s4,aQ⟩:=new_at (o:=.tup [.int j,.ref tp]) aN;rw[<-aP];have aR:=Q Z;have I:=aR.trans s4;have k4:Keeps (·=P) U H4:=Z.same s4;have S:=s4 _ _ aj;have al:∀z∈b,CL (λl=>H l=none/\l≠P) H4 z.1 z.2:=λz h=>(ak z h).same s4;have a1:=Ao.of (K:=K) (I _ _ ax)
   have ay:Dd W z.2 x ((FV W z.2.2.1).take (j+1)) 0=Dd W z.2 x ((FV W z.2.2.1).take j) 0++FG W z.2 x p j:=by
    rw[Ek,eT,N];show Dd W z.2 x (W.ss[n].2.take j++[p]) 0=_;rw[VB,E5,Nat.zero_add,Nat.min_eq_left (by lia)]
   have skip:¬(p.2.1=x/\p.1∈Ix W z.2.2.2)->b.map (·.2)=DQ W x ((v.map (·.2)).take i)++Dd W z.2 x ((FV W z.2.2.1).take (j+1)) 0:=λY=>by
    rw[ay,J9 Y,FM,R]
   have lw:b.length<100:=by
    have:=BR List.length R;rw[Aj,AQ] at this;have J:=W7 W z.2 x (FV W z.2.2.1) j 0;lia
   refine⟨_,Ao.of aQ,rfl,?_⟩;refine Or.inr (Or.inl ⟨_,.str p.2.1,a1,rfl,rfl,rfl,Ap (λJ=>?_) (λJ=>Bw ?_)⟩);rotate_left;exact⟨_,_,b,rfl,k4,S,al,skip λh=>J (A7 (by rw[h.1]))⟩;have J:p.2.1=x:=V.str.inj (Bc J);refine Or.inr (Or.inl ⟨_,.str p.1,a1,rfl,t,a,o,aE,W.sts,z.2.2.2,k,_,p.1,rfl,hk,I.seqT b1,⟨tv,I.seq b2,b3.same I⟩,au,rfl,Ap (λO=>?_) (λO=>?_)⟩);rotate_left;exact⟨_,_,b,rfl,k4,S,al,skip λh=>O (FF (by rw[<-eE];exact h.2))⟩;have O:p.1∈Ix W z.2.2.2:=by rw[eE];exact Fs.mp O
   refine⟨Or.inl ⟨rfl,_,Ag.of S⟩,G7,λm aS=>?_⟩;obtain⟨H5,aT,s5,aB⟩:=new_at (o:=.tup [.int z.2.2.1,.str "told",.int j]) aS;rw[<-aT];refine⟨Ji,λa7 hM=>?_⟩;obtain⟨H6,aU,s6,eM⟩:=new_at (o:=.lst [.ref m]) hM;rw[<-aU];have ab:=s5.trans s6;refine⟨l,a7,_,_,rfl,rfl,ab _ _ (I _ _ a9),eM,by rw[Aj];exact C9 (BP (by show E.length+1<=1000;lia)),λL hL=>?_⟩;have aV:H L=none:=(I.trans ab).free hL;have az:L≠P:=λy=>by rw[y,ab _ _ S] at hL;cases hL
   have s7:=A8 (o:=.lst (E.map V.ref++[.ref m])) hL;have eL:(upd H6 L (.lst (E.map V.ref++[.ref m]))) L=some (.lst ((E++[m]).map V.ref)):=by rw[Aa,Bh];rfl
   generalize upd H6 L (.lst (E.map V.ref++[.ref m]))=H7 at s7 eL ⊢;have ae:=ab.trans s7;have a0:=ae _ _ S;have k7:Keeps (·=P) H7 (upd H7 P (.lst (b.map (λz=>V.ref z.1)++[.ref L]))):=Keeps.one a0;refine⟨_,a0,by rw[Aj];exact BP (by lia),?_⟩;refine⟨_,_,b++[(L,z.2.1++[(z.2.2.1,("told" : Str),(j:Int))])],rfl,(k4.same ae).set rfl,by rw[Aa,Bh];rfl,λy q=>?_,?_⟩;rcases BB.mp q with q|q;exact((al y q).same ae).keeps k7 λx hx=>hx.2;rw[AR.mp q];refine⟨E++[m],k7.at_ _ _ eL az,?_,aV,az⟩;exact RT.snoc ((e3.same (I.trans ae)).keeps k7) (k7.tup ((s6.trans s7) _ _ aB));rw[ay,Mp J O,Bh,R,Ge];rfl
inductive CG (K:Ai) (vs:List V) (H:Hp) (Q:VK):Prop where
 |mk (t:Addr) (F:Addr->Prop) (sts:List CK) (inn:Int) (ord:A') (h0:vs=[.ref t]) (h1:GA K F H t sts inn ord) (h2:ord.length<=40) (h3:∀(p:Addr)(H':Hp),H p=none->Ac H H'->HE H' p ord->Q (.ref p) H'):CG K vs H Q
def eV (K:Ai):Sp:=λvs H Q ζ=>CG K vs H Q
abbrev Qx(P w K mg base):=By P w K mg base "better_pairs" 1 ["table"] (eV K)
theorem eW(B:BA mg)(F:Bq K "better_pairs" "better_pairs" O1 f fd)(J:mg "better_pairs" = some (.ref f)):Qx P w K mg base:=by
 refine BV F J Z7 (λL H Q E h=>?_) (λak ag an s H L Q E M h=>?_);obtain⟨t,F,W,X,v,rfl,_⟩:=h;rfl;obtain⟨t,F,W,X,v,rfl,N,aj,q⟩:=h;obtain⟨ta,o,al,Z,O,_,_,_,_,_,x,TO⟩:=N.ex;refine⟨_,(Aw (AN (Gy (YS rfl (LJ M)) B.b_dict (Ab (Je rfl Cc (Dh (As At (pv 0) Ah)) (λζ ζ ζ ζ ζ=>(Ay (i:=0) Cc.nd)) (λζ ζ ζ ζ ζ=>Hs) (λζ ζ ζ ζ ζ=>(Ba (Ab (pv 0) (Ab Km Ae))))) Ae)))),?_⟩;rfl'
 refine Or.inr (Or.inl ⟨_,.ref o,Ao.of O,rfl,⟨_,Ag.of x⟩,NY (xs:=Z.map V.ref) (λP i a g=>Ac H g/\g P=some (.lst a)/\a.length=i/\Fe g a ((v.take i).map λp=>(Fw p,V.bl true)))
  (λP j=>⟨A8 j,Aa,rfl,.nil⟩) (λP i a g aa=>by obtain⟨s,_⟩:=aa;exact Ag.of (s _ _ x)) (λP i ah a Y RR j R n k=>?_) (λP a Y j n=>?_)⟩)
 obtain⟨c,r,d,m⟩:=n;obtain⟨y,D,rfl⟩:=getm R;have ab:i<v.length:=by rw[<-TO.len];exact(Bf.mp D).1
 have G:=AC ab;have ae:=c _ _ (TO.at_ i _ _ D G);refine⟨BS,λT S=>?_⟩;obtain⟨A,af,l,U⟩:=new_at (o:=.tup [.ref y,.bl true]) S;rw[<-af];have I:=l _ _ r
 have u:∀b xs,A b=some (.tup xs)->(upd A P (.lst (a++[.ref T]))) b=some (.tup xs):=λb xs e=>by
  rw[AH (Ni e I (λz=>nomatch z))];exact e
 refine k _ _ I (by rw[d];exact BP (by lia)) ⟨λb ai e=>?_,Aa,by rw[AQ,d];rfl,?_⟩;rw[AH (AW e j)];exact l _ _ (c _ _ e);rw[Ek,G,Bh];exact Paired.snoc ((m.tups λb xs e=>l _ _ e).tups u) ⟨T,y,rfl,u _ _ U,u _ _ (l _ _ ae)⟩;obtain⟨c,r,d,m⟩:=n;rw[Aj,TO.len,DW] at m;rw[Aj,TO.len] at d;refine⟨P,a,_,rfl,r,by rw[d];exact BP (by lia),m,λp C=>?_⟩;exact q p _ (c.free C) (c.trans (A8 C)) ⟨_,Aa,Y1⟩
inductive Fj (K:Ai) (vs:List V) (H:Hp) (Q:VK):Prop where
 |mk (D:Addr) (F:Addr->Prop) (zs:List (Addr×List Ar)) (h0:vs=[.ref D]) (h1:H D=some (.lst (zs.map λz=>V.ref z.1))) (h2:(∀z∈zs,CL F H z.1 z.2)) (h3:zs.length<=100) (h4:∀(d:List Ar->Addr)(c:List Ar->Ar->Addr)(H':Hp),Ac H H'->Bb dW H' (A4 (zs.map (·.2))) d c->(∀p,Eh (A4 (zs.map (·.2))) p->H (d p)=none)->Q (.ref (d [])) H'):Fj K vs H Q
def eX (K:Ai):Sp:=λvs H Q ζ=>Fj K vs H Q
abbrev Qy(P w K mg base):=By P w K mg base "tree_of" 1 ["ways"] (eX K)
theorem eY(B:BA mg)(F:Bq K "tree_of" "tree_of" Q6 f fd)(q:mg "tree_of" = some (.ref f)):Qy P w K mg base:=by
 refine BV F q L9 (λvs H ao aq h=>?_) (λaB a7 aE s H vs ao aq hr h=>?_);obtain⟨D,F,l,rfl,_⟩:=h;rfl
 . obtain⟨D,F,l,rfl,eD,hz,lz,ar⟩:=h
   refine⟨_,(Ak (AI (i:=1) L9.nd RX)
    (Ak (CJ Cz rfl (PU LK rfl B.b_enumerate (Ab (pv 0) Ae)) (B6 (n:=2) rfl (AD (Ay (i:=2) L9.nd) (AD (Ay (i:=3) L9.nd) B5))) (Ak (AI (i:=4) L9.nd (pv 1))
     (Aw (CJ Cz rfl (Dh (pv 3)) (Ay (i:=5) L9.nd) (Aw (AI (i:=4) L9.nd (As At (Dj PySem.F.plainAttrs_dict PySem.F.slot_dict_setdefault PySem.F.type_dict_setdefault (YK (Pg hr)) (pv 4) (Ab (pv 5) (Ab (Ba (Ab (pv 2) (Ab RX Ae))) Ae))) Ah)))))))
    (Aw (AN (pv 1))))),?_⟩
   rfl';refine λt ht=>?_;obtain⟨au,av,s1,et⟩:=new_at (o:=.dT []) ht;rw[<-av]
   refine⟨D,rfl,⟨_,s1 _ _ eD⟩,PV LK (xs:=l.map λz=>V.ref z.1) (λi σ A=>∃(X Y Z C:Option V)(d:List Ar->Addr)(c:List Ar->Ar->Addr),σ=[some (.ref D),some (.ref t),X,Y,Z,C]/\Ac H A/\d []=t/\Bb dW A (A4 ((l.map (·.2)).take i)) d c/\∀p,Eh (A4 ((l.map (·.2)).take i)) p->H (d p)=none)
    ⟨none,none,none,none,λζ=>t,λζ ζ=>t,rfl,s1,rfl,?_,λp v=>ht⟩ (λi σ A aa=>by obtain⟨_,_,_,_,_,_,_,s,_⟩:=aa;exact Ag.of (s _ _ eD)) ?_ ?_⟩
   have nil:∀p,Eh (A4 ((l.map (·.2)).take 0)) p->p=[]:=λp v=>by
    rcases v with h|⟨kw,h,_⟩;exact h;rw[EM] at h;cases h
   refine⟨λp v=>?_,λp m k q=>?_,λp p' v aw ζ=>(nil p v).trans (nil p' aw).symm⟩;show au t=some (.dT (DS _ _ p));rw[et,EM];rfl;rw[EM] at q;cases q;rotate_left;refine λσ ag J=>AL λQ r=>?_;obtain⟨X,Y,Z,C,d,c,rfl,s2,rfl,R,S⟩:=J;refine r ?_;clear r;rw[Aj,<-Aj (f:=(·.2)),DW] at R S;exact ar d c ag s2 R S;refine λi y a8 σ ag hy hT J=>AL λQ r=>?_;obtain⟨X,Y,Z,C,d,c,rfl,s2,hd,R,S⟩:=J;refine r ?_;clear r;refine Ha ?_;intro Nx Cy;obtain⟨z,ab,rfl⟩:=getm hy;have mz:=Bi ab;have aC:=(Bf.mp ab).1;have ax:(l.map (·.2))[i]?=some z.2:=by rw[A6,ab];rfl
   obtain⟨H3,ay,s3,eT⟩:=new_at (o:=.tup [.int (i:Int),.ref z.1]) hT;rw[<-ay];have aj:=s2.trans s3;obtain⟨ms,ah,f3,_⟩:=(hz z mz).same aj;refine⟨_,Ao.of eT,rfl,?_⟩
   refine⟨⟨_,Ag.of ah⟩,Fa (xs:=ms.map V.ref) (λj σ A=>∃(C:Option V)(d:List Ar->Addr)(c:List Ar->Ar->Addr),σ=[some (.ref D),some (.ref t),some (.int (i:Int)),some (.ref z.1),some (.ref (d (z.2.take j))),C]/\Ac H A/\RT GP A ms z.2/\A z.1=some (.lst (ms.map V.ref))/\d []=t/\Bb dW A (A4 ((l.map (·.2)).take i)++[(i,z.2.take j)]) d c/\∀p,Eh (A4 ((l.map (·.2)).take i)++[(i,z.2.take j)]) p->H (d p)=none)
    ⟨C,d,c,by rw[EM,hd];rfl,aj,f3,ah,hd,by rw[EM];exact(R.sameW s3).begin,λp v=>S p ?_⟩ (λj σ A ζ aa=>by obtain⟨_,_,_,_,_,_,e,_⟩:=aa;exact Ag.of e) ?_ ?_⟩
   rw[EM] at v;rcases v with h|⟨kw,h1,M⟩;exact .inl h;rcases BB.mp h1 with y|y;exact .inr ⟨kw,y,M⟩;rw[AR.mp y] at M;exact .inl (List.prefix_nil.mp M);rotate_left;refine λσ H4 J=>AL λQ r=>?_;obtain⟨C,d,c,rfl,N,_,_,U,E,L⟩:=J;refine r ?_;clear r;rw[Aj,f3.len,DW,<-Y3 ax] at E L;exact⟨_,_,_,_,d,c,rfl,N,U,E,L⟩;refine λj y σ H4 hy J=>AL λQ r=>?_;obtain⟨C,d,c,rfl,N,T,e4,U,E,L⟩:=J;refine r ?_;clear r;refine Ha ?_;intro Nx Cy;obtain⟨mk,ak,rfl⟩:=getm hy;have hj:j<z.2.length:=by rw[<-f3.len];exact(Bf.mp ak).1
   have ae:=AC hj;have ai:=T.at_ j _ _ ak ae;have G:z.2.take (j+1)=z.2.take j++[z.2[j]]:=by rw[Ek,ae];rfl
   generalize z.2[j]=m at ae ai G;generalize hg:z.2.take j=g at E L G ⊢;have al:Eh (A4 ((l.map (·.2)).take i)++[(i,g)]) g:=.inr ⟨_,De _ (AR.mpr rfl),List.prefix_refl g⟩;have eB:=E.dct g al;have aA:=SI (A4 ((l.map (·.2)).take i)++[(i,g)]) g
   have aD:(A4 ((l.map (·.2)).take i)++[(i,g)]).length<=101:=by
    unfold A4;rw[AQ,Aj,List.length_zipIdx,E5,Aj,Ec];lia
   have lr:(DS (A4 ((l.map (·.2)).take i)++[(i,g)]) c g).length<sizeLine:=by unfold DS;rw[Aj];exact BP (by lia)
   refine⟨Or.inr (Or.inr (Or.inl ⟨rfl,Or.inr ⟨_,eB⟩⟩)),λe he=>?_⟩;have s5:=A8 (o:=.dT []) he;have ee:(upd H4 e (.dT [])) e=some (.dT []):=Aa;have an:=he;generalize upd H4 e (.dT [])=H5 at s5 ee ⊢;refine⟨BS,λT5 az=>?_⟩;obtain⟨H6,a0,s6,W⟩:=new_at (o:=.tup [.int (i:Int),.ref e]) az;rw[<-a0];have u:=s5.trans s6;refine⟨d g,_,Gc m,mk,.ref T5,rfl,rfl,u _ _ eB,u _ _ ai,lr,λa9 I=>?_,λI=>?_⟩;rw[N9] at I;by_cases q:m∈(TreeM.keysAt (A4 ((l.map (·.2)).take i)++[(i,g)]) g).map (·.1);rw[An q] at I;cases I;obtain⟨⟨m',k⟩,hk,rfl⟩:=Bd.mp q;have a1:=E.tup g m' k hk;refine Or.inr (Or.inl ⟨_,.ref (d (g++[m'])),Ao.of (u _ _ a1),rfl,?_⟩);refine⟨some (.ref mk),d,c,by rw[G];rfl,N.trans u,T.same u,u _ _ e4,U,by rw[G];exact(E.sameW u).stay q,λp v=>L p ((PJ q).mp (by rw[G] at v;exact v))⟩;rw[Al q] at I;cases I;have q:m∉(TreeM.keysAt (A4 ((l.map (·.2)).take i)++[(i,g)]) g).map (·.1):=λq=>by rw[N9,An q] at I;cases I
   refine AL λQ r=>?_;obtain⟨d',c',T7,a2,a3,a4⟩:=E.grow q an L (N.free an) u (s6 _ _ ee) W;refine r ?_;clear r;have a5:∀{b o},H b=some o->b≠d g:=λ{b o}O z=>by rw[z,L g al] at O;cases O
   have s7:Ac H (upd H6 (d g) (.dT (Cg (DS (A4 ((l.map (·.2)).take i)++[(i,g)]) c g) (Gc m) (.ref T5)))):=λb o O=>by
    rw[AH (a5 O)];exact u _ _ (N _ _ O)
   have af:=u _ _ eB;have a6:T5≠d g:=λy=>by rw[y,af] at W;cases W
   refine Or.inr (Or.inl ⟨_,.ref e,Ao.of (by rw[AH a6];exact W),rfl,?_⟩);refine⟨some (.ref mk),d',c',by rw[G,a2];rfl,s7,⟨T.len,λn a b h1 M=>?_⟩,?_,a4.trans U,by rw[G];exact T7,by rw[G];exact a3⟩;have x:=u _ _ (T.at_ n a b h1 M);rw[AH (Ni x af (λz=>nomatch z))];exact x;have x:=u _ _ e4;rw[AH (Ni x af (λz=>nomatch z))];exact x
inductive EH (K:Ai) (vs:List V) (H:Hp) (Q:VK):Prop where
 |mk (nt S T R mk:Addr) (us Gs Es:List Addr) (ss:List AY) (m:Ar) (h0:vs=[.ref nt,.ref mk]) (h1:Ao K H nt [.ref S,.ref T,.ref R]) (h2:C8 H S us Gs Es ss) (h3:Ao K H mk (GP m)) (h4:EB ss m) (h5:Q (.str (Fd ss m)) H):EH K vs H Q
def e7 (K:Ai):Sp:=λvs H Q ζ=>EH K vs H Q
abbrev TY(P w K mg base):=By P w K mg base "label_at" 1 ["net", "mark"] (e7 K)
def e8(B:BA mg)(F:Bq K "label_at" "label_at" Q7 f fd)(t:mg "label_at" = some (.ref f)):TY P w K mg base:=by
 refine BV F t MZ (λG H Q E h=>?_) (λah ab ai s H G Q E hr h=>?_);obtain⟨I,S,T,R,mk,us,J,L,ss,m,rfl,_⟩:=h;rfl;obtain⟨I,S,T,R,mk,us,J,L,ss,m,rfl,M,A,t,⟨n,k,Z,v,g,j,C⟩,q⟩:=h;have Y:n<ss.length:=(Bf.mp j).1;obtain⟨u,ae,E1,N,af,ag,D,⟨O,⟨l,U,o⟩,⟨p,W,r⟩⟩⟩:=A.get Y;rw[j] at D;have X:=B2 D;rw[<-X] at o r;have aa:Bj (us.map V.ref) m.1=some (.ref u):=by rw[v];exact BF (by rw[A6,N];rfl)
 refine⟨_,(Ak (DM (pv 1) (B6 (n:=3) rfl (AD (Ay (i:=2) MZ.nd) (AD (Ay (i:=3) MZ.nd) (AD (Ay (i:=4) MZ.nd) B5)))))
  (Ak (DM (As At (As At (pv 0) Ah) (pv 2)) (B6 (n:=2) rfl (AD (Ay (i:=5) MZ.nd) (AD (Ay (i:=6) MZ.nd) B5))))
  (Ak (Bm (Bv Cf (pv 3) BE (Bu _)) (Aw (AN (As At (As At (pv 5) (pv 4)) Ah))) Bl)
  (Aw (AN (As At (As At (pv 6) (pv 4)) Ah)))))),?_⟩
 rfl';refine⟨_,t,rfl,?_⟩;refine Or.inr (Or.inl ⟨_,.ref S,M,rfl,Or.inl ⟨_,.ref u,Ag.of A.top,aa,?_⟩⟩);refine⟨_,Ao.of O,rfl,?_⟩;refine⟨rfl,rfl,Ap (λh=>?_) (λh=>?_)⟩;have b:m.2.1=("step" : Str):=V.str.inj (Bc h);rcases C with⟨_,a⟩|⟨e,_⟩;have c:=AC a;rw[YB v g j b c] at q;have d:l[k]?=some (l[k]'(by rw[o.len];exact a)):=AC _;have x:=o.at_ _ _ _ d c;have y:Bj (l.map V.ref) m.2.2=some (.ref (l[k]'(by rw[o.len];exact a))):=by rw[g];exact BF (by rw[A6,d];rfl)
 exact Or.inl ⟨_,_,Ag.of U,y,Or.inr (Or.inl ⟨_,.str Z.1[k].1,Ao.of x,rfl,q⟩)⟩;exact absurd (e.symm.trans b) Sv;have b:m.2.1≠("step" : Str):=λz=>h (A7 (by rw[z]));rcases C with⟨e,_⟩|⟨_,a⟩;exact absurd e b;have c:=AC a;rw[YC v g j b c] at q;have d:p[k]?=some (p[k]'(by rw[r.len];exact a)):=AC _;have x:=r.at_ _ _ _ d c;have y:Bj (p.map V.ref) m.2.2=some (.ref (p[k]'(by rw[r.len];exact a))):=by rw[g];exact BF (by rw[A6,d];rfl)
 exact Or.inl ⟨_,_,Ag.of W,y,Or.inr (Or.inl ⟨_,.str Z.2[k].1,Ao.of x,rfl,q⟩)⟩
def W8{bet:Ar->Ar->Bool}{ws:TreeM.Ws Ar}{a:List Ar}{m:Ar}{t:List Ar}:TreeM.gat bet ws a (m::t)=((TreeM.keysAt ws a).filter λb=>bet b.1 m).map (·.2)++TreeM.gat bet ws (a++[m]) t:=rfl
theorem W9{bet:Ar->Ar->Bool}{ws:TreeM.Ws Ar}:∀{b a:List Ar},(TreeM.gat bet ws a b).length<=b.length*ws.length
 |[],_=>Df _
 |m::t,a=>by
   rw[W8,AQ,Aj,Er];have d:=OX (λc:Ar×Nat=>bet c.1 m) (TreeM.keysAt ws a);have e:=SI ws a;have f:=W9 (bet:=bet) (ws:=ws) (b:=t) (a:=a++[m]);rw[Nat.add_mul,Nat.one_mul];lia
inductive CW (K:Ai) (vs:List V) (H:Hp) (Q:VK):Prop where
 |mk (nt S T R bp l:Addr) (us Gs Es:List Addr) (ss:List AY) (ord:A') (ws:TreeM.Ws Ar) (d:List Ar->Addr) (c:List Ar->Ar->Addr) (F:Addr->Prop) (w:List Ar) (h0:vs=[.ref nt,.ref bp,.ref (d []),.ref l]) (h1:H nt=some (.tup [.ref S,.ref T,.ref R])) (h2:C8 H S us Gs Es ss) (h3:HE H bp ord) (h4:Bb dF H ws d c) (h5:ws.length<=100) (h6:(∀kw∈ws,∀m∈kw.2,EB ss m)) (h7:CL F H l w) (h8:MS ss w) (h9:∀H',Ac H H'->Q (PH ((TreeM.gat (Cb ss ord) ws [] w).map λk:Nat=>(k:Int))) H'):CW K vs H Q
def e9 (K:Ai):Sp:=λvs H Q ζ=>CW K vs H Q
abbrev Qz(P w K mg base):=By P w K mg base "first_hider" 2 ["net", "better", "tree", "way"] (e9 K)
theorem fA(B:BA mg)(ar:TY P w K mg base)(F:Bq K "first_hider" "first_hider" Q8 f fd)(C:mg "first_hider" = some (.ref f)):Qz P w K mg base:=by
 refine BV F C Ma (λvs H a4 a5 h=>?_) (λaQ aM aU s H vs a4 a5 hr h=>?_);obtain⟨M,S,aa,ab,Q,l,us,Gs,Es,ss,r,ws,d,c,F,w,rfl,_⟩:=h;rfl
 . obtain⟨M,S,aa,ab,Q,l,us,Gs,Es,ss,r,ws,d,c,F,w,rfl,eN,SC,BD,TT,a8,a9,⟨ms,el,rl,_⟩,ok,a6⟩:=h
   obtain⟨kb,eb,hb⟩:=BD
   refine⟨_,(Ak (AI (i:=4) Ma.nd (Cj Ae))
    (Ak (AI (i:=5) Ma.nd (pv 2))
    (Ak (CJ Cz rfl (Dh (pv 3)) (Ay (i:=6) Ma.nd) (Ak (AI (i:=7) Ma.nd (A1 ar (Ab (pv 0) (Ab (pv 6) Ae))))
     (Ak (CJ Cz rfl (Jt (pv 5)) (Ay (i:=8) Ma.nd) (Aw (Bm (Bv (X3 (Pg hr)) (Ba (Ab (A1 ar (Ab (pv 0) (Ab (pv 8) Ae))) (Ab (pv 7) Ae))) (pv 1) (by with_unfolding_all rfl)) (Aw (DF (Dj DE Et Eu Ew (pv 4) (Ab (As At (Jb (Pg hr) (pv 5) (pv 8) (λζ ζ=>rfl)) Ah) Ae)))) Bl)))
     (Aw (AI (i:=5) Ma.nd (As At (XQ (Pg hr) (pv 5) (pv 6) (Ba (Ab Ah (Ab RX Ae))) ⟨rfl,rfl,rfl,rfl⟩) Ah))))))
    (Aw (AN (Ju rfl (by rfl) B.b_min (Ab (pv 4) Ae))))))),?_⟩
   rfl';refine⟨by decide,λN X=>?_⟩;obtain⟨aN,aA,s1,aB⟩:=new_at (o:=.lst []) X;rw[<-aA];refine AU ?_;cbv;refine AU ?_;cbv
   refine⟨⟨_,Ag.of (s1 _ _ el)⟩,Fa (xs:=ms.map V.ref) (λj σ n=>∃(a:Addr)(u6 u7 D:Option V)(ns:List Nat),σ=[some (.ref M),some (.ref Q),some (.ref (d [])),some (.ref l),some (.ref N),some (.ref a),u6,u7,D]/\Ac H n/\n N=some (.lst ((ns.map λk:Nat=>(k:Int)).map V.int))/\ns++TreeM.gat (Cb ss r) ws (w.take j) (w.drop j)=TreeM.gat (Cb ss r) ws [] w/\a≠N/\((Eh ws (w.take j)/\a=d (w.take j))\/(¬Eh ws (w.take j)/\H a=none/\Rd n a (.dT []))))
    ⟨d [],none,none,none,[],rfl,s1,aB,rfl,?_,.inl ⟨.inl rfl,rfl⟩⟩ (λj σ n ζ ag=>by obtain⟨_,_,_,_,_,_,s,_⟩:=ag;exact Ag.of (s _ _ el)) ?_ ?_⟩
   obtain⟨o,x⟩:=TT.dct [] (.inl rfl);exact AW x X;rotate_left;refine λσ Y ah=>AL λNz T=>?_;obtain⟨a,u6,u7,D,ns,rfl,A,ai,u,_⟩:=ah;refine T ?_;clear T;rw[Aj,rl.len,List.drop_length] at u;have u:ns=_:=(FM ns).symm.trans u;subst u;exact⟨N,_,rfl,ai,a6 Y A⟩;refine λj aO σ Y hy ah=>AL λNz T=>?_;obtain⟨a,u6,u7,D,ns,rfl,A,ai,u,au,aj⟩:=ah;refine T ?_;clear T;refine Ha ?_;intro Nx Cy;obtain⟨mk,av,rfl⟩:=getm hy;have hj:j<w.length:=by rw[<-rl.len];exact(Bf.mp av).1
   have ak:=AC hj;have af:=rl.at_ j _ _ av ak;have aw:=ok.1 _ (Ed hj);have E:w.take (j+1)=w.take j++[w[j]]:=by rw[Ek,ak];rfl
   have dk:w.drop j=w[j]::w.drop (j+1):=Mv hj;rw[dk,W8] at u;generalize w[j]=m at ak af E aw u;generalize aR:w.take j=g at E u aj ⊢;refine⟨M,S,aa,ab,mk,us,Gs,Es,ss,m,rfl,Ao.of (A _ _ eN),SC.same A,Ao.of (A _ _ af),aw,?_⟩;refine AU ?_;cbv
   have aC:Rd Y a (.dT (DS ws c g)):=by
    rcases aj with⟨v,q⟩|⟨v,_,q⟩;obtain⟨o,x⟩:=TT.dct g v;rw[q];exact .inr ⟨o,A _ _ x⟩;unfold DS;rw[VP v];exact q
   refine Hu (λσ' n=>∃(D:Option V),σ'=[some (.ref M),some (.ref Q),some (.ref (d [])),some (.ref l),some (.ref N),some (.ref a),some (.ref mk),some (.str (Fd ss m)),D]/\Ac H n/\n N=some (.lst (((ns++((TreeM.keysAt ws g).filter λG=>Cb ss r G.1 m).map (·.2)).map λk:Nat=>(k:Int)).map V.int))/\Rd n a (.dT (DS ws c g))) ?_ (λN' aD=>?_)
   case refine_2 =>
    refine⟨a,_,rfl,aC,λo I=>?_⟩
    have R:Ac H (upd Y a (.frz o (.dT (DS ws c g)))):=λb a7 e=>by
     by_cases ax:b=a;subst ax;rw[Aa];rcases aj with⟨v,q⟩|⟨_,q,_⟩;obtain⟨o',x⟩:=TT.dct g v;rw[<-q] at x;have x2:=A _ _ x;rcases I with I|I;rw[x2] at I;cases I;rw[x2] at I;cases I;rw[x] at e;exact e;rw[e] at q;cases q;rw[AH ax];exact A _ _ e
    have O:(upd Y a (.frz o (.dT (DS ws c g)))) N=_:=(AH (Ne.symm au)).trans ai;have ay:(upd Y a (.frz o (.dT (DS ws c g)))) a=some (.frz o (.dT (DS ws c g))):=Aa;generalize upd Y a (.frz o (.dT (DS ws c g)))=H3 at R O ay ⊢
    refine YM (λi σ n=>∃(D:Option V),σ=[some (.ref M),some (.ref Q),some (.ref (d [])),some (.ref l),some (.ref N),some (.ref a),some (.ref mk),some (.str (Fd ss m)),D]/\Ac H n/\n N=some (.lst (((ns++(((TreeM.keysAt ws g).take i).filter λG=>Cb ss r G.1 m).map (·.2)).map λk:Nat=>(k:Int)).map V.int))/\n a=some (.frz o (.dT (DS ws c g))))
     ⟨_,rfl,R,by rw[EM];show H3 N=some (.lst (((ns++[]).map _).map _));rw[FM];exact O,ay⟩ (λi σ n ζ ag=>by obtain⟨_,_,_,_,e⟩:=ag;exact e) ?_ ?_
    rotate_left;rintro σ H4 ⟨al,rfl,J,L,U⟩;unfold DS at L;rw[Aj,DW] at L;exact aD _ _ ⟨al,rfl,J,L,.inr ⟨o,U⟩⟩;rintro i k aP b σ H4 hi az ⟨al,rfl,J,L,U⟩;unfold DS at hi;rw[A6] at hi;obtain⟨⟨x,ae⟩,hx,e⟩:=F6.mp hi;have e1:=BR Prod.fst e;have e2:=BR Prod.snd e;dsimp only at e1 e2;subst e1 e2;have mx:=Bi hx;have an:x∈(TreeM.keysAt ws g).map (·.1):=Bd.mpr ⟨_,mx,rfl⟩
    have aE:EB ss x:=by
     obtain⟨kw,v,q⟩:=TreeM.keysAt_mem.mp an;exact a9 kw v x (q.subset (by simp))
    have aF:=TT.tup g x ae mx
    have aS:Eh ws g:=by
     obtain⟨kw,v,q⟩:=TreeM.keysAt_mem.mp an;exact .inr ⟨kw,v,(Mx g _).trans q⟩
    have a0:(TreeM.keysAt ws g).take (i+1)=(TreeM.keysAt ws g).take i++[(x,ae)]:=by rw[Ek,hx];rfl
    refine⟨M,S,aa,ab,b,us,Gs,Es,ss,x,rfl,Ao.of (J _ _ eN),SC.same J,Ao.of az,aE,?_⟩;refine⟨BS,λp hp=>?_⟩;obtain⟨H5,ao,t,ep⟩:=new_at (o:=.tup [.str (Fd ss x),.str (Fd ss m)]) hp;rw[<-ao];have y:=J.trans t;refine⟨Q,_,rfl,EO.t (k:=Fw (Fd ss x,Fd ss m)) (y _ _ eb) ep,rfl,?_⟩;rw[hb];refine Ap (λh=>?_) (λh=>?_);have aq:Cb ss r x m=true:=(by simpa [Cb] using h);refine⟨Or.inl ⟨rfl,_,Ag.of (t _ _ L)⟩,a,.ref (c g x),rfl,?_,Or.inr (Or.inl ⟨_,.int (ae:Int),Ao.of (y _ _ aF),rfl,_,t _ _ L,?_,?_⟩)⟩;refine .inr ⟨_,Gc x,b,.inr ⟨o,t _ _ U⟩,rfl,t _ _ az,?_⟩;rw[N9,An an];rw[Aj,Aj,AQ,Aj];have v:=OX (λG:Ar×Nat=>Cb ss r G.1 m) ((TreeM.keysAt ws g).take i);have q:=SI ws g;have h3:(((TreeM.keysAt ws g).take i)).length<=(TreeM.keysAt ws g).length:=by rw[E5];lia
    have h4:=BR List.length u;have h5:=W9 (bet:=Cb ss r) (ws:=ws) (b:=w) (a:=[]);have h6:w.length*ws.length<=100*100:=Nat.mul_le_mul ok.2 a8;rw[AQ] at h4;exact YE (by lia);refine⟨_,rfl,λb' a7 e=>?_,?_,?_⟩;rw[AH (AW e X)];exact y _ _ e;rw[Aa,a0,Nf,Mw,An aq]
    simp
    rw[AH au];exact t _ _ U;have aq:¬Cb ss r x m=true:=(by simpa [Cb] using h);refine⟨_,rfl,y,?_,t _ _ U⟩;rw[a0,Nf,Mw,Al aq];simpa using t _ _ L
   rintro σ' H3 ⟨al,rfl,R,O,a3⟩;have aT:((DS ws c g).map (·.1)).length=(DS ws c g).length:=Aj _;refine⟨a,rfl,.inr ⟨_,a3⟩,λe Z=>?_⟩;obtain⟨H4,aG,J,ee⟩:=new_at (o:=.dT []) Z;rw[<-aG];refine⟨BS,λT5 aH=>?_⟩;obtain⟨H5,ao,t,aI⟩:=new_at (o:=.tup [.int 0,.ref e]) aH;rw[<-ao];have W:=J.trans t;have y:=R.trans W;have aL:Rd H5 a (.dT (DS ws c g)):=a3.elim (λz=>.inl (W _ _ z)) λ⟨o,z⟩=>.inr ⟨o,W _ _ z⟩;have aJ:e≠N:=λz=>by rw[z,O] at Z;cases Z
   refine⟨_,.inr ⟨_,Gc m,mk,aL,rfl,y _ _ af,rfl⟩,?_⟩;rw[N9];have a1:(ns++((TreeM.keysAt ws g).filter λG=>Cb ss r G.1 m).map (·.2))++TreeM.gat (Cb ss r) ws (g++[m]) (w.drop (j+1))=TreeM.gat (Cb ss r) ws [] w:=by rw[Ge];exact u
   by_cases C:m∈(TreeM.keysAt ws g).map (·.1);rw[An C];obtain⟨⟨m',k⟩,hk,rfl⟩:=Bd.mp C;have aK:=TT.tup g m' k hk;have a2:=Fv.mpr C;refine Or.inr (Or.inl ⟨_,.ref (d (g++[m'])),Ao.of (y _ _ aK),rfl,?_⟩);refine⟨_,_,_,_,_,rfl,y,W _ _ O,by rw[E];exact a1,?_,.inl ⟨by rw[E];exact a2,by rw[E]⟩⟩;obtain⟨o,x⟩:=TT.dct _ a2;exact AW x X;rw[Al C];refine Or.inr (Or.inl ⟨_,.ref e,Ao.of aI,rfl,?_⟩);exact⟨_,_,_,_,_,rfl,y,W _ _ O,by rw[E];exact a1,aJ,.inr ⟨λz=>C (Fv.mp (by rw[E] at z;exact z)),R.free Z,.inl (t _ _ ee)⟩⟩
inductive D9 (K:Ai) (vs:List V) (H:Hp) (Q:VK):Prop where
 |mk (nt S T R t D:Addr) (us Gs Es:List Addr) (ss:List AY) (F G:Addr->Prop) (sts:List CK) (inn:Int) (ord:A') (zs:List (Addr×List Ar)) (h0:vs=[.ref nt,.ref t,.ref D]) (h1:H nt=some (.tup [.ref S,.ref T,.ref R])) (h2:C8 H S us Gs Es ss) (h3:GA K F H t sts inn ord) (h4:ord.length<=40) (h5:(∀x,(x,x)∉ord)) (h6:H D=some (.lst (zs.map λz=>V.ref z.1))) (h7:(∀z∈zs,CL G H z.1 z.2)) (h8:(∀z∈zs,MS ss z.2)) (h9:zs.length<=100) (h10:∀(P:Addr)(ys:List (Addr×List Ar))(H':Hp),H P=none->Ac H H'->H' P=some (.lst (ys.map λz=>V.ref z.1))->(∀z∈ys,CL (λl=>H l=none/\l≠P) H' z.1 z.2)->ys.map (·.2)=DT ss ord (zs.map (·.2)) (zs.map (·.2))->Q (.ref P) H'):D9 K vs H Q
def fB (K:Ai):Sp:=λvs H Q ζ=>D9 K vs H Q
abbrev TZ(P w K mg base):=By P w K mg base "seen_ways" 3 ["net", "table", "ways"] (fB K)
theorem fC(B:BA mg)(ay:Qx P w K mg base)(az:Qy P w K mg base)(a0:Qz P w K mg base)(F:Bq K "seen_ways" "seen_ways" O3 f fd)(L:mg "seen_ways" = some (.ref f)):TZ P w K mg base:=by
 refine BV F L Tj (λa H aq ar h=>?_) (λaA a7 aD s H a aq ar hr h=>?_);obtain⟨nt,S,aa,ab,t,ae,us,Gs,Es,ss,F,G,ag,ah,j,d,rfl,_⟩:=h;rfl;obtain⟨nt,S,aa,ab,t,ae,us,Gs,Es,ss,F,G,ag,ah,j,d,rfl,eN,SC,TB,aw,irr,M,p,ai,lz,au⟩:=h
 refine⟨_,(Ak (AI (i:=3) Tj.nd (A1 ay (Ab (pv 1) Ae)))
  (Ak (AI (i:=4) Tj.nd (HD (A1 az (Ab (pv 2) Ae))))
  (Aw (AN (Je (te:=MF (Jp K) (F9 (Cr 0) FS)) rfl CU (Dh (pv 2)) (λζ ζ ζ ζ ζ=>(Ay (i:=0) CU.nd)) (λζ ζ ζ ζ ζ=>(Ht (GY (He (A1 a0 (Ab (pv 1) (Ab (pv 2) (Ab (pv 3) (Ab (pv 0) Ae))))))))) (λζ ζ ζ ζ ζ=>(Gy I7 B.b_list (Ab (pv 0) Ae)))))))),?_⟩
 rfl';refine⟨t,F,ag,ah,j,rfl,TB,aw,λbp a8 aB N BD=>?_⟩;refine⟨ae,G,d,rfl,N _ _ M,λz h=>(p z h).same N,lz,λav c a9 s2 T2 aj H3 q f4=>?_⟩;have s3:=q.same s2;have T3:=T2.frz aj q f4;have a1:=BD.same s3;clear T2 aj q f4 s2 BD;have n:=N.trans s3;have lw:(A4 (d.map (·.2))).length<=100:=by unfold A4;rw[Aj,List.length_zipIdx,Aj];exact lz
 have a2:∀kw∈A4 (d.map (·.2)),∀m∈kw.2,EB ss m:=λkw a3 m L=>by
  obtain⟨z,h1,h2⟩:=Bd.mp (Bi (Dm.mp a3));exact(ai z h1).1 m (by rw[h2];exact L)
 refine⟨⟨_,Ag.of (n _ _ M)⟩,Vj (xs:=d.map λz=>V.ref z.1) (λP i r C=>∃a:List (Addr×List Ar),r=(a.map λz=>V.ref z.1)/\Ac H3 C/\C P=some (.lst r)/\(∀z∈a,CL (λl=>H l=none/\l≠P) C z.1 z.2)/\a.map (·.2)=DT ss j (d.map (·.2)) ((d.map (·.2)).take i)/\a.length<=i)
  (λP u=>⟨[],rfl,A8 u,Aa,λz p=>by simp at p,by rw[EM];rfl,AG _⟩) (λP i r C a4=>by obtain⟨_,_,s,_⟩:=a4;exact Ag.of (s _ _ (n _ _ M))) (λP i af r H4 RR R0 u hy O k k0=>?_) (λP r H4 u O=>?_)⟩
 refine AL λNz y=>?_;obtain⟨a,rfl,g,Q,J,A,lv⟩:=O;refine y ?_;clear y;obtain⟨z,U,rfl⟩:=getm hy;have aC:i<d.length:=(Bf.mp U).1;have R:=Bi U;have ak:(d.map (·.2))[i]?=some z.2:=by rw[A6,U];rfl
 have W:=n.trans g;refine⟨nt,S,aa,ab,bp,z.1,us,Gs,Es,ss,j,_,av,c,G,z.2,rfl,W _ _ eN,SC.same W,a1.same g,T3.same g,lw,a2,(p z R).same W,ai z R,λH5 D=>?_⟩;have X:=g.trans D;have al:=n.trans X;have Y:=D _ _ Q;refine⟨rfl,Ap (λh=>?_) (λh=>?_)⟩;have Z:=(PK irr).mp (CM.mp (Bc h));obtain⟨ms,ax,q,_⟩:=(p z R).same al;refine⟨z.1,_,rfl,Or.inl (Ag.of ax),λl E=>?_⟩;obtain⟨H6,a5,I,el⟩:=new_at (o:=.lst (ms.map V.ref)) E;rw[<-a5];have an:=I _ _ Y;have ao:l≠P:=λaf=>by rw[af,Y] at E;cases E
 have T:Keeps (·=P) H6 (upd H6 P (.lst (a.map (λz=>V.ref z.1)++[.ref l]))):=Keeps.one an;refine k _ _ an (by rw[Aj];exact BP (by lia)) ⟨a++[(l,z.2)],by rw[Bh];rfl,λb o e=>?_,Aa,λw a6=>?_,?_,by rw[AQ,Ec];lia⟩;rw[AH (AW e u)];exact I _ _ (X _ _ e);rcases BB.mp a6 with h|h;exact((J w h).same (D.trans I)).keeps T λx hx=>hx.2;rw[AR.mp h];exact⟨ms,T.at_ _ _ el ao,(q.same I).keeps T,al.free E,ao⟩;rw[VT ak,Al (by rw[Z];exact C3),Bh,A];rfl
 have Z:((d.map (·.2)).any λv=>DR ss j v z.2)=true:=by
  cases e:(d.map (·.2)).any λv=>DR ss j v z.2 with
  |true=>rfl
  |false=>exact absurd (A7 (CM.mpr ((PK irr).mpr e))) h
 exact k0 _ ⟨a,rfl,X,Y,λw hw=>(J w hw).same D,by rw[VT ak,An Z];exact A,by lia⟩;refine AL λNz y=>?_;obtain⟨a,rfl,g,Q,J,A,lv⟩:=O;refine y ?_;clear y;rw[Aj,<-Aj (f:=(·.2)),DW] at A;exact au P a H4 ((n).free u) (n.trans g) Q J A
inductive EI (K:Ai) (vs:List V) (H:Hp) (Q:VK):Prop where
 |mk (nt A t D:Addr) (x:Str) (F G:Addr->Prop) (W:Wd) (inn:Int) (ord:A') (sc st:Int) (zs:List (Addr×AJ)) (h0:vs=[.ref nt,.ref t,.ref D,.str x]) (h1:Br K H nt A t W) (h2:GA K F H t W.sts inn ord) (h3:B9 W) (h4:BJ W) (h5:ord.length<=40) (h6:(∀x,(x,x)∉ord)) (h7:(0<=sc/\sc<W.ss.length)) (h8:(0<=st/\st<W.sts.length)) (h9:H D=some (.lst (zs.map λz=>V.ref z.1))) (h10:(∀z∈zs,DI G H z.1 z.2)) (h11:DP W sc st (zs.map (·.2))) (h12:∀(r D2 P:Addr)(ws ys:List (Addr×List Ar))(H':Hp),Ac H H'->H' r=some (.tup [.ref D,.ref D2,.ref P])->H D2=none->H' D2=some (.lst (ws.map λz=>V.ref z.1))->(∀z∈ws,CL (λl=>H l=none) H' z.1 z.2)->MQ W x (zs.map (·.2)) (ws.map (·.2))->H P=none->H' P=some (.lst (ys.map λz=>V.ref z.1))->(∀z∈ys,CL (λl=>H l=none) H' z.1 z.2)->ys.map (·.2)=DT W.ss ord (ws.map (·.2)) (ws.map (·.2))->Q (.ref r) H'):EI K vs H Q
def fD (K:Ai):Sp:=λvs H Q ζ=>EI K vs H Q
abbrev T1(P w K mg base):=By P w K mg base "look_for" 4 ["net", "table", "begun", "name"] (fD K)
def fE(B:BA mg)(aa:TX P w K mg base)(ab:TZ P w K mg base)(F:Bq K "look_for" "look_for" Q9 f fd)(O:mg "look_for" = some (.ref f)):T1 P w K mg base:=by
 refine BV F O WP (λU H Q E h=>?_) (λak A al s H U Q E y h=>?_);obtain⟨j,A,t,D,x,F,G,W,L,M,k,l,m,rfl,_⟩:=h;rfl;obtain⟨j,A,t,D,x,F,G,W,L,M,k,l,m,rfl,C,V,ok,I,X,irr,e,g,Y,Z,c,q⟩:=h;obtain⟨S,T,R,us,Gs,Es,ts,qt,qs,eN,N3⟩:=C.net
 refine⟨_,(Ak (AI (i:=4) WP.nd (A1 aa (Ab (pv 0) (Ab (pv 1) (Ab (pv 2) (Ab (pv 3) Ae))))))
  (Aw (AN (Ba (Ab (pv 2) (Ab (pv 4) (Ab (A1 ab (Ab (pv 0) (Ab (pv 1) (Ab (pv 4) Ae)))) Ae))))))),?_⟩
 rfl';refine⟨j,A,t,D,x,G,W,m,rfl,C,ok,Y,Z,λz ae=>((c.mem _).mp (Bd.mpr ⟨z,ae,rfl⟩)).ok ok e g,I.fnd x k l _ e g c,λn d ai af a N J p=>?_⟩;have ag:∀z∈d,z.2∈DQ W x (m.map (·.2)):=λz h=>p.perm.mem_iff.mp (Bd.mpr ⟨z,h,rfl⟩)
 have lw:d.length<=100:=by
  have h1:=p.perm.length_eq;have h2:=I.fnd x k l _ e g c;rw[Aj] at h1;lia
 refine⟨j,S,T,R,t,n,us,Gs,Es,W.ss,F,_,W.sts,L,M,d,rfl,a _ _ eN,N3.sc.same a,V.same a,X,irr,N,J,λz h=>Sy ok e g c (ag z h),lw,λP ys aj hP u eP hy ah=>?_⟩;refine⟨G7,λr y=>?_⟩;have b:=A8 (o:=.tup [.ref D,.ref n,.ref P]) y;refine q r n P d ys _ ((a.trans u).trans b) Aa af (b _ _ (u _ _ N)) (λz h=>(((J z h).mono' λζ ζ ζ v=>v.1).same u).same b) p (a.free hP) (b _ _ eP) (λz h=>((hy z h).mono' λx o ζ v=>a.free v.1).same b) ah
inductive Dz (K:Ai) (vs:List V) (H:Hp) (Q:VK):Prop where
 |mk (nt S T R t D O:Addr) (us Gs Es:List Addr) (ss:List AY) (F G:Addr->Prop) (sts:List CK) (inn:Int) (ord:A') (ws:List (Addr×List Ar)) (os:List (Addr×Ow)) (h0:vs=[.ref nt,.ref t,.ref D,.ref O]) (h1:H nt=some (.tup [.ref S,.ref T,.ref R])) (h2:C8 H S us Gs Es ss) (h3:GA K F H t sts inn ord) (h4:ord.length<=40) (h5:(∀x,(x,x)∉ord)) (h6:H D=some (.lst (ws.map λz=>V.ref z.1))) (h7:(∀z∈ws,CL G H z.1 z.2)) (h8:(∀z∈ws,MS ss z.2)) (h9:ws.length<=100) (h10:H O=some (.lst (os.map λz=>V.ref z.1))) (h11:(∀z∈os,FI G H z.1 z.2)) (h12:(∀z∈os,MS ss z.2.1)) (h13:∀(v:V)(H':Hp),Ac H H'->SU G H' v (FJ ss ord (ws.map (·.2)) (os.map (·.2)))->Q v H'):Dz K vs H Q
def fF (K:Ai):Sp:=λvs H Q ζ=>Dz K vs H Q
abbrev T4(P w K mg base):=By P w K mg base "first_owed" 3 ["net", "table", "found", "owed"] (fF K)
def fG(B:BA mg)(an:Qx P w K mg base)(ao:Qy P w K mg base)(aq:Qz P w K mg base)(F:Bq K "first_owed" "first_owed" Ra f fd)(u:mg "first_owed" = some (.ref f)):T4 P w K mg base:=by
 refine BV F u Ou (λvs ai aj ak h=>?_) (λa2 az a4 s ai vs aj ak hr h=>?_);obtain⟨y,S,T,R,t,D,O,us,L,M,ss,F,G,aa,ab,b,a,k,rfl,_⟩:=h;rfl
 . obtain⟨y,S,T,R,t,D,O,us,L,M,ss,F,G,aa,ab,b,a,k,rfl,eN,SC,TB,al,irr,eD,hw,ar,ae,N,ho,au,q⟩:=h
   refine⟨_,(Ak (AI (i:=4) Ou.nd (A1 an (Ab (pv 1) Ae)))
    (Ak (AI (i:=5) Ou.nd (HD (A1 ao (Ab (pv 2) Ae))))
    (Ak (CJ Cz rfl (Dh (pv 3)) (B6 (n:=2) rfl (AD (Ay (i:=6) Ou.nd) (AD (Ay (i:=7) Ou.nd) B5))) (Aw (Bm (GY (He (A1 aq (Ab (pv 0) (Ab (pv 4) (Ab (pv 5) (Ab (pv 6) Ae))))))) (Aw (AN (Ba (Ab (pv 6) (Ab (pv 7) Ae))))) Bl)))
    (Aw (AN GN))))),?_⟩
   rfl';refine⟨t,F,aa,ab,b,rfl,TB,al,λQ a0 a3 A U=>?_⟩;refine⟨D,G,a,rfl,A _ _ eD,λz h=>(hw z h).same A,ae,λd c a1 W X af H3 C Y=>?_⟩;have Z:=C.same W;have T3:=X.frz af C Y;have av:=U.same Z;clear X af C Y W U;have r:=A.trans Z;have lw:(A4 (a.map (·.2))).length<=100:=by unfold A4;rw[Aj,List.length_zipIdx,Aj];exact ae
   have aw:∀kw∈A4 (a.map (·.2)),∀m∈kw.2,EB ss m:=λkw ax m u=>by
    obtain⟨z,h1,h2⟩:=Bd.mp (Bi (Dm.mp ax));exact(ar z h1).1 m (by rw[h2];exact u)
   refine⟨⟨_,Ag.of (r _ _ N)⟩,Fa (xs:=k.map λz=>V.ref z.1) (λi σ H'=>∃E H,σ=[some (.ref y),some (.ref t),some (.ref D),some (.ref O),some (.ref Q),some (.ref (d [])),E,H]/\Ac H3 H'/\FJ ss b (a.map (·.2)) (k.map (·.2))=FJ ss b (a.map (·.2)) ((k.map (·.2)).drop i))
    ⟨none,none,rfl,λζ ζ e=>e,rfl⟩ (λi σ H' ζ ay=>by obtain⟨_,_,_,s,_⟩:=ay;exact Ag.of (s _ _ (r _ _ N))) ?_ ?_⟩
   rotate_left;rintro σ H4 ⟨E,H,rfl,g,j⟩;rw[Aj,<-Aj (f:=(·.2)),List.drop_length] at j;refine q _ _ (r.trans g) ?_;rw[j];rfl;rintro i x σ H4 hx ⟨E,H,rfl,g,j⟩;obtain⟨z,ag,rfl⟩:=getm hx;have mz:=Bi ag;have I:=r.trans g;obtain⟨l,e1,wl⟩:=((ho z mz).same I).way;have hd:=SV (l:=k.map (·.2)) (i:=i) (x:=z.2) (by rw[A6,ag];rfl);rw[hd] at j;refine⟨_,Ao.of e1,rfl,?_⟩;refine⟨y,S,T,R,Q,l,us,L,M,ss,b,_,d,c,G,z.2.1,rfl,I _ _ eN,SC.same I,av.same g,T3.same g,lw,aw,wl,au z mz,λH5 s5=>?_⟩;have ah:=g.trans s5;refine⟨rfl,Ap (λh=>?_) (λh=>?_)⟩;have J:=(PK irr).mp (CM.mp (Bc h));refine⟨BS,λp hp=>?_⟩;have s6:=A8 (o:=.tup [.ref l,.int z.2.2]) hp;refine q _ _ ((r.trans ah).trans s6) ?_;rw[j,Zg J];exact⟨p,l,rfl,Aa,(wl.same s5).same s6⟩
   have J:((a.map (·.2)).any λv=>DR ss b v z.2.1)=true:=by
    cases e:(a.map (·.2)).any λv=>DR ss b v z.2.1 with
    |true=>rfl
    |false=>exact absurd (A7 (CM.mpr ((PK irr).mpr e))) h
   exact⟨_,_,rfl,ah,by rw[j,Zh J]⟩
inductive DA (K:Ai) (vs:List V) (H:Hp) (Q:VK):Prop where
 |mk (nt S T R mk:Addr) (us Gs Es:List Addr) (ss:List AY) (m:Ar) (h0:vs=[.ref nt,.ref mk]) (h1:Ao K H nt [.ref S,.ref T,.ref R]) (h2:C8 H S us Gs Es ss) (h3:Ao K H mk (GP m)) (h4:EB ss m) (h5:m.2.1=("told" : Str)) (h6:∀t,H t=some (.tup (Ct (Jz ss m)))->Q (.ref t) H):DA K vs H Q
def fH (K:Ai):Sp:=λvs H Q ζ=>DA K vs H Q
abbrev ON(P w K mg base):=By P w K mg base "telling_at" 1 ["net", "mark"] (fH K)
def fI(B:BA mg)(F:Bq K "telling_at" "telling_at" Rb f fd)(c:mg "telling_at" = some (.ref f)):ON P w K mg base:=by
 refine BV F c Ov (λv H Q E h=>?_) (λaf A ag s H v Q E hr h=>?_);obtain⟨x,S,T,R,mk,us,y,z,ss,m,rfl,_⟩:=h;rfl;obtain⟨x,S,T,R,mk,us,y,z,ss,m,rfl,C,j,c,⟨n,k,Z,l,o,d,D⟩,X,q⟩:=h;have U:n<ss.length:=(Bf.mp d).1;obtain⟨u,aa,G,I,ab,ae,p,⟨J,⟨tG,b1,L⟩,⟨a,M,b⟩⟩⟩:=j.get U;rw[d] at p;have N:=B2 p;rw[<-N] at L b;have W:Bj (us.map V.ref) m.1=some (.ref u):=by rw[l];exact BF (by rw[A6,I];rfl)
 refine⟨_,(Ak (DM (pv 1) (B6 (n:=3) rfl (AD (Ay (i:=2) Ov.nd) (AD (Ay (i:=3) Ov.nd) (AD (Ay (i:=4) Ov.nd) B5)))))
  (Ak (AI (i:=5) Ov.nd (As At (As At (As At (pv 0) Ah) (pv 2)) Ah))
  (Aw (AN (As At (pv 5) (pv 4)))))),?_⟩
 rfl';refine⟨_,c,rfl,?_⟩;refine Or.inr (Or.inl ⟨_,.ref S,C,rfl,Or.inl ⟨_,.ref u,Ag.of j.top,W,Or.inr (Or.inl ⟨_,.ref G,Ao.of J,rfl,?_⟩)⟩⟩);rcases D with⟨e,_⟩|⟨_,g⟩;exact absurd (X.symm.trans e) Sv;have r:=AC g;rw[VY l o d r] at q;have t:a[k]?=some (a[k]'(by rw[b.len];exact g)):=AC _;have O:=b.at_ _ _ _ t r;have Y:Bj (a.map V.ref) m.2.2=some (.ref (a[k]'(by rw[b.len];exact g))):=by rw[o];exact BF (by rw[A6,t];rfl)
 exact Or.inl ⟨_,_,Ag.of M,Y,q _ O⟩
inductive DB (K:Ai) (vs:List V) (H:Hp) (Q:VK):Prop where
 |mk (nt A t P:Addr) (G:Addr->Prop) (W:Wd) (ys:List (Addr×List Ar)) (h0:vs=[.ref nt,.ref A,.ref P]) (h1:Br K H nt A t W) (h2:BJ W) (h3:H P=some (.lst (ys.map λz=>V.ref z.1))) (h4:(∀z∈ys,CL G H z.1 z.2)) (h5:(∀z∈ys,DU W.ss z.2)) (h6:∀(v:V)(H':Hp),Ac H H'->SU G H' v (Fy W (ys.map (·.2)))->Q v H'):DB K vs H Q
def fJ (K:Ai):Sp:=λvs H Q ζ=>DB K vs H Q
abbrev T6(P w K mg base):=By P w K mg base "first_open" 2 ["net", "answers", "seen"] (fJ K)
def fK(B:BA mg)(ak:ON P w K mg base)(F:Bq K "first_open" "first_open" Rc f fd)(hm:mg "first_open" = some (.ref f)):T6 P w K mg base:=by
 refine BV F hm M0 (λvs H aa ab h=>?_) (λao A ar s H vs aa ab hr h=>?_);obtain⟨g,A,t,P,ae,W,c,rfl,_⟩:=h;rfl
 . obtain⟨g,A,t,P,ae,W,c,rfl,J,sm,L,hy,R,q⟩:=h
   obtain⟨af,ag,ah,us,Gs,Es,ts,qt,qs,eN,N3⟩:=J.net
   refine⟨_,(Ak (CJ Cz rfl (Dh (pv 2)) (Ay (i:=3) M0.nd) (Ak (DM (A1 ak (Ab (pv 0) (Ab (As At (pv 3) (Pc Pd Ah)) Ae))) (B6 (n:=4) rfl (AD (Ay (i:=4) M0.nd) (AD (Ay (i:=5) M0.nd) (AD (Ay (i:=6) M0.nd) (AD (Ay (i:=7) M0.nd) B5))))))
    (Aw (Bm (PW.pt (G2 (Bv Cf (pv 6) BE (Bu _)) (G1 (GY (He (As At (pv 1) (pv 7))))))) (Aw (AN (Ba (Ab (pv 3) (Ab (pv 7) Ae))))) Bl))))
    (Aw (AN GN))),?_⟩
   try dsimp only[AE,Cx.nox,Cx.wish]
   refine⟨⟨_,Ag.of L⟩,Fa (xs:=c.map λz=>V.ref z.1) (λi σ M=>∃j r u v y,σ=[some (.ref g),some (.ref A),some (.ref P),j,r,u,v,y]/\Ac H M/\Fy W (c.map (·.2))=Fy W ((c.map (·.2)).drop i))
    ⟨none,none,none,none,none,rfl,λζ ζ e=>e,rfl⟩ (λi σ M ζ al=>by obtain⟨_,_,_,_,_,_,s,_⟩:=al;exact Ag.of (s _ _ L)) ?_ ?_⟩
   rotate_left;refine λσ H4 G=>AL λNz d=>?_;obtain⟨j,r,u,v,y,rfl,a,b⟩:=G;refine d ?_;clear d;rw[Aj,<-Aj (f:=(·.2)),List.drop_length] at b;refine q _ _ a ?_;rw[b];rfl;refine λi x σ H4 hx G=>AL λNz d=>?_;obtain⟨j,r,u,v,y,rfl,a,b⟩:=G;refine d ?_;clear d;obtain⟨z,S,rfl⟩:=getm hx;have C:=Bi S;have hd:=SV (l:=c.map (·.2)) (i:=i) (x:=z.2) (by rw[A6,S];rfl);rw[hd] at b;have tk:=Oe sm (R z C);have N:=(hy z C).same a;obtain⟨vv,m,O,mo,aj⟩:=R z C;have T:=N;rw[O] at T;obtain⟨ms,mk,l1,l2,l3⟩:=V1 T;refine Or.inl ⟨_,.ref mk,Ag.of l1,l2,g,af,ag,ah,mk,us,Gs,Es,W.ss,m,rfl,Ao.of (a _ _ eN),N3.sc.same a,Ao.of l3,mo,aj,λtp U=>?_⟩;have et:Jz W.ss m=Ch W.ss z.2:=(by rw[O,PX]);rw[et] at U;refine⟨_,Ao.of U,rfl,?_⟩;refine⟨rfl,rfl,Ap (λh=>?_) (λh=>?_)⟩;rotate_left;have hn:(Ch W.ss z.2).2.2.1≠("by" : Str):=λe=>h (A7 (by rw[e]));refine Bw ?_;refine⟨_,_,_,_,_,rfl,a,?_⟩;rw[b,SW (Al λe=>hn e.1)];have X:(Ch W.ss z.2).2.2.1=("by" : Str):=V.str.inj (Bc h);rcases tk with⟨e,_⟩|⟨_,k0,k1⟩;rw[X] at e;exact absurd e (by decide +kernel);obtain⟨k,D⟩:=DL k0;have an:k<W.as.length:=(by lia);obtain⟨I,ai,Y,hv,hc⟩:=(J.ans.same a).get an;have Z:Bj I (Ch W.ss z.2).2.2.2=some ai:=by rw[D];exact BF hv
   rcases hc with⟨E,rfl⟩|⟨p,ta,E,rfl,aq⟩;refine Or.inl ⟨I,_,Y,Z,rfl,Ap (λζ=>?_) (λh=>absurd (A7 rfl) h)⟩;refine⟨BS,λp hp=>?_⟩;have Q:=A8 (o:=.tup [.ref z.1,.int (Ch W.ss z.2).2.2.2]) hp;refine q _ _ (a.trans Q) ?_;rw[b,V2 (q:=(Ch W.ss z.2).2.2.2) (An ⟨X,by rw[D,BK];exact E⟩)];exact⟨p,z.1,rfl,Aa,N.same Q⟩;refine Or.inl ⟨I,_,Y,Z,rfl,Ap (λh=>absurd (Bc h) (by simp)) (λζ=>?_)⟩;refine⟨_,_,_,_,_,rfl,a,?_⟩;rw[b,SW (Al λe=>by have:=e.2;rw[D,BK,E] at this;cases this)]
inductive Fk (K:Ai) (vs:List V) (H:Hp) (Q:VK):Prop where
 |mk (nt A t l:Addr) (G:Addr->Prop) (W:Wd) (w:List Ar) (h0:vs=[.ref nt,.ref A,.ref l]) (h1:Br K H nt A t W) (h2:BJ W) (h3:CL G H l w) (h4:DU W.ss w) (h5:FX W w=none) (h6:Q (Eg (Bs W w)) H):Fk K vs H Q
def fL (K:Ai):Sp:=λvs H Q ζ=>Fk K vs H Q
abbrev T8(P w K mg base):=By P w K mg base "meaning" 2 ["net", "answers", "way"] (fL K)
def fM(B:BA mg)(aa:ON P w K mg base)(F:Bq K "meaning" "meaning" Re f fd)(D:mg "meaning" = some (.ref f)):T8 P w K mg base:=by
 refine BV F D Mb (λI H Q E h=>?_) (λai A aj s H I Q E hr h=>?_);obtain⟨g,A,t,l,G,W,w,rfl,_⟩:=h;rfl;obtain⟨g,A,t,l,G,W,w,rfl,j,J,o,r,d,q⟩:=h;obtain⟨S,T,R,us,L,M,ts,qt,qs,N,O⟩:=j.net;have U:=Oe J r;obtain⟨vv,m,u,X,Y⟩:=r;have Z:Jz W.ss m=Ch W.ss w:=(by rw[u,PX]);rw[u] at o;obtain⟨ms,mk,l1,l2,l3⟩:=V1 o
 refine⟨_,(Ak (DM (A1 aa (Ab (pv 0) (Ab (As At (pv 2) (Pc Pd Ah)) Ae))) (B6 (n:=4) rfl (AD (Ay (i:=3) Mb.nd) (AD (Ay (i:=4) Mb.nd) (AD (Ay (i:=5) Mb.nd) (AD (Ay (i:=6) Mb.nd) B5))))))
  (Ak (Bm (Bv Cf (pv 5) BE (Bu _)) (Aw (AN (pv 6))) Bl)
  (Ak (DM (As At (pv 1) (pv 6)) (B6 (n:=2) rfl (AD (Ay (i:=5) Mb.nd) (AD (Ay (i:=6) Mb.nd) B5))))
  (Ak (Bm (Bv Cf (pv 5) BE (Bu _)) (Aw (AN (pv 6))) Bl)
  (Aw (AN GN)))))),?_⟩
 rfl';refine Or.inl ⟨_,.ref mk,Ag.of l1,l2,g,S,T,R,mk,us,L,M,W.ss,m,rfl,Ao.of N,O.sc,Ao.of l3,X,Y,λtp z=>?_⟩;rw[Z] at z;refine⟨_,Ao.of z,rfl,?_⟩;refine⟨rfl,rfl,Ap (λh=>?_) (λh=>?_)⟩;have ht:(Ch W.ss w).2.2.1=("thing" : Str):=V.str.inj (Bc h)
 rw[show Bs W w=some (Ch W.ss w).2.2.2 from An ht] at q;exact q
 have x:(Ch W.ss w).2.2.1≠("thing" : Str):=λe=>h (A7 (by rw[e]));rcases U with⟨e,_⟩|⟨ab,k0,k1⟩;exact absurd e x;obtain⟨k,a⟩:=DL k0;have ae:k<W.as.length:=(by lia);obtain⟨C,v,af,hv,hc⟩:=j.ans.get ae;have ag:Bj C (Ch W.ss w).2.2.2=some v:=by rw[a];exact BF hv
 rcases hc with⟨b,rfl⟩|⟨p,ta,b,rfl,ah⟩;unfold FX at d;rw[An ⟨ab,by rw[a,BK];exact b⟩] at d;cases d
 have y:Bs W w=if p.1=("thing" : Str) then some p.2 else none:=by
  unfold Bs;rw[Al x,a,BK,b]
 refine Or.inl ⟨C,_,af,ag,?_⟩;refine⟨_,ah,rfl,?_⟩;refine⟨rfl,rfl,Ap (λh=>?_) (λh=>?_)⟩;have c:p.1=("thing" : Str):=V.str.inj (Bc h);rw[y,An c] at q;exact q;have c:p.1≠("thing" : Str):=λe=>h (A7 (by rw[e]));rw[y,Al c] at q;exact q
inductive KX (K:Ai) (vs:List V) (H:Hp) (Q:VK):Prop where
 |mk (nt A t O r D D2 P:Addr) (F G:Addr->Prop) (W:Wd) (inn:Int) (ord:A') (ws ys:List (Addr×List Ar)) (os:List (Addr×Ow)) (at_:Int) (h0:vs=[.ref nt,.ref A,.ref t,.ref O,.ref r,.int at_]) (h1:Br K H nt A t W) (h2:GA K F H t W.sts inn ord) (h3:BJ W) (h4:ord.length<=40) (h5:(∀x,(x,x)∉ord)) (h6:H r=some (.tup [.ref D,.ref D2,.ref P])) (h7:H D2=some (.lst (ws.map λz=>V.ref z.1))) (h8:(∀z∈ws,CL G H z.1 z.2)) (h9:(∀z∈ws,MS W.ss z.2)) (h10:ws.length<=100) (h11:(∀z∈ws,DU W.ss z.2)) (h12:H P=some (.lst (ys.map λz=>V.ref z.1))) (h13:(∀z∈ys,CL G H z.1 z.2)) (h14:ys.map (·.2)=DT W.ss ord (ws.map (·.2)) (ws.map (·.2))) (h15:H O=some (.lst (os.map λz=>V.ref z.1))) (h16:(∀z∈os,FI G H z.1 z.2)) (h17:(∀z∈os,MS W.ss z.2.1)) (h18:∀(v:Addr)(a:C')(w:Option Wt)(H':Hp),Ac H H'->Cu W ord (ws.map (·.2)) (os.map (·.2)) at_=(a,w)->A5 G H' (.ref v) (.tup [B7 a,LO w])->Q (.ref v) H'):KX K vs H Q
def Mq (K:Ai):Sp:=λvs H Q ζ=>KX K vs H Q
abbrev Ic(P w K mg base):=By P w K mg base "met" 4 ["net", "answers", "table", "owed", "look", "at"] (Mq K)
theorem fN(B:BA mg)(a4:T4 P w K mg base)(a5:T6 P w K mg base)(a6:T8 P w K mg base)(F:Bq K "met" "met" Mz f fd)(hm:mg "met" = some (.ref f)):Ic P w K mg base:=by
 refine BV F hm JR (λj aj aw ax h=>?_) (λaM A aO s aj j aw ax hr h=>?_);obtain⟨R,A,t,ag,ak,al,D2,P,F,G,W,ao,ord,a,m,S,at_,rfl,_⟩:=h;rfl
 . obtain⟨R,A,t,ag,ak,al,D2,P,F,G,W,ao,ord,a,m,S,at_,rfl,hC,TB,sm,a2,irr,er,a7,hw,a8,lw,a9,eP,hy,N,eO,ho,aA,aa⟩:=h
   obtain⟨ay,az,a0,us,Gs,Es,ts,qt,qs,eN,N3⟩:=hC.net
   have aq:∀z∈m,DU W.ss z.2:=λz h=>by
    have d:z.2∈m.map (·.2):=Bd.mpr ⟨z,h,rfl⟩;rw[N] at d;obtain⟨ab,q,h3⟩:=Bd.mp (PY d);rw[<-h3];exact a9 ab q
   have ly:m.length<=100:=by
    have d:=BR List.length N;have q:=Y5 (ss:=W.ss) (ord:=ord) (all:=a.map (·.2)) (l:=a.map (·.2));rw[Aj] at d q;lia
   refine⟨_,(Ak (DM (pv 4) (B6 (n:=3) rfl (AD (Ay (i:=6) JR.nd) (AD (Ay (i:=7) JR.nd) (AD (Ay (i:=8) JR.nd) B5)))))
    (Ak (AI (i:=9) JR.nd (A1 a4 (Ab (pv 0) (Ab (pv 2) (Ab (pv 7) (Ab (pv 3) Ae))))))
    (Ak (Bm (GY (He (pv 9))) (Aw (AI (i:=9) JR.nd (A1 a5 (Ab (pv 0) (Ab (pv 1) (Ab (pv 8) Ae)))))) Bl)
    (Ak (Bm (GY (Rw (pv 9))) (Ak (DM (pv 9) (B6 (n:=2) rfl (AD (Ay (i:=10) JR.nd) (AD (Ay (i:=11) JR.nd) B5))))
     (Aw (AN (Ba (Ab GN (Ab (Ba (Ab (pv 5) (Ab (pv 10) (Ab (pv 11) Ae)))) Ae)))))) Bl)
    (Ak (AI (i:=12) JR.nd (Je rfl GF (Dh (pv 8)) (λζ ζ ζ ζ ζ=>(Ay (i:=0) GF.nd)) (λζ ζ ζ ζ ζ=>Hs) (λζ ζ ζ ζ ζ=>(A1 a6 (Ab (pv 1) (Ab (pv 2) (Ab (pv 0) Ae)))))))
    (Ak (Bm (GZ (BH (XW rfl) B.b_all (Ab (Je rfl GG (Dh (pv 12)) (λζ ζ ζ ζ ζ=>(Ay (i:=0) GG.nd)) (λζ ζ ζ ζ ζ=>Hs) (λζ ζ ζ ζ ζ=>(Hf (He (pv 0))))) Ae))) (Aw (AN (Ba (Ab (Ba (Ab BE (Ab (pv 5) Ae))) (Ab GN Ae))))) Bl)
    (Ak (Bm (GZ (BH (YU rfl) B.b_any (Ab (Je (te:=Fp Uv (Cr 0) (Fp (Hm K) (Cr 1) (tC (.int ((0:Nat):Int))))) rfl GH (Dh (pv 12)) (λζ ζ ζ ζ ζ=>(Ay (i:=0) GH.nd)) (λζ ζ ζ ζ ζ=>Hs) (λζ ζ ζ ζ ζ=>(ME NG (pv 0) (As At (pv 1) Ah) (Bu _)))) Ae))) (Aw (AN (Ba (Ab (Ba (Ab BE (Ab (pv 5) Ae))) (Ab GN Ae))))) Bl)
    (Aw (AN (Ba (Ab (Ba (Ab BE (Ab (As At (pv 12) Ah) Ae))) (Ab GN Ae)))))))))))),?_⟩
   rfl';refine⟨_,Ao.of er,rfl,?_⟩;refine⟨R,ay,az,a0,t,D2,ag,us,Gs,Es,W.ss,F,G,W.sts,ao,ord,a,S,rfl,eN,N3.sc,TB,a2,irr,a7,hw,a8,lw,eO,ho,aA,λa3 aK T ae=>?_⟩;refine AU ?_;cbv;refine Hu (λσ' H=>∃v,σ'=[some (.ref R),some (.ref A),some (.ref t),some (.ref ag),some (.ref ak),some (.int at_),some (.ref al),some (.ref D2),some (.ref P),some v,none,none,none]/\Ac aj H/\SU G H v (FY W ord (a.map (·.2)) (S.map (·.2)))) ?_ (λaL hN=>?_);rotate_left
   cases e:FJ W.ss ord (a.map (·.2)) (S.map (·.2)) with
   |none =>
     rw[e] at ae;obtain rfl:a3=.non:=ae;refine⟨rfl,Ap (λζ=>?_) (λh=>absurd (A7 rfl) h)⟩;refine⟨R,A,t,P,G,W,m,rfl,hC.same T,sm,T _ _ eP,λz h=>(hy z h).same T,aq,λv2 an r ar=>?_⟩;refine hN _ _ ⟨v2,rfl,T.trans r,?_⟩;unfold FY;rw[e];rw[N] at ar;exact ar
   |some o =>
     rw[e] at ae;obtain⟨p,l,rfl,d,q⟩:=ae;refine⟨rfl,Ap (λh=>absurd (Bc h) (by simp)) (λζ=>?_)⟩;refine hN _ _ ⟨_,rfl,T,?_⟩;unfold FY;rw[e];exact⟨p,l,rfl,d,q⟩
   rintro σ' an ⟨v,rfl,r,g⟩
   cases e:FY W ord (a.map (·.2)) (S.map (·.2)) with
   |some o =>
     rw[e] at g;obtain⟨p,l,rfl,d,q⟩:=g;refine⟨rfl,Ap (λζ=>?_) (λh=>absurd rfl h)⟩;refine⟨_,Ao.of d,rfl,?_⟩;refine⟨G7,λJ D=>?_⟩;obtain⟨H3,aB,u,e3⟩:=new_at (o:=.tup [.int at_,.ref l,.int o.2]) D;rw[<-aB];refine⟨BS,λx E=>?_⟩;have c:=A8 (o:=.tup [.non,.ref J]) E;exact aa x _ _ _ ((r.trans u).trans c) (Od e) (.tup Aa (.cons .non (.cons (.tup (c _ _ e3) (.cons (.int _) (.cons ((q.same u).same c).own (.cons (.int _) .nil)))) .nil)))
   |none =>
     rw[e] at g;obtain rfl:v=.non:=g;refine⟨rfl,Ap (λh=>absurd h (by decide)) (λζ=>?_)⟩;have aC:=V3 (Ze e)
     refine⟨⟨_,Ag.of (r _ _ eP)⟩,NY (xs:=m.map λz=>V.ref z.1) (λM i j H=>Ac an H/\H M=some (.lst j)/\j=((m.map (·.2)).take i).map λw=>Eg (Bs W w))
      (λM hM=>⟨A8 hM,Aa,by rw[EM];rfl⟩) (λM i j H aD=>by obtain⟨s,_⟩:=aD;exact Ag.of (s _ _ (r _ _ eP))) (λM i ab j H3 RR hM aE g k=>?_) (λM j H3 hM g=>?_)⟩
     obtain⟨u,I,rfl⟩:=g;obtain⟨z,au,rfl⟩:=getm aE;have mz:=Bi au;have O:=r.trans u;have mo:z.2∈DT W.ss ord (a.map (·.2)) (a.map (·.2)):=by rw[<-N];exact Bd.mpr ⟨z,mz,rfl⟩
     refine⟨R,A,t,z.1,G,W,z.2,rfl,hC.same O,sm,(hy z mz).same O,aq z mz,aC _ mo,?_⟩;refine k _ _ I ?_ ⟨λb o e=>?_,Aa,?_⟩;rw[Aj,E5,Aj];exact BP (by lia);rw[AH (AW e hM)];exact u _ _ e;rw[Ek,A6,au,Bh];rfl
     obtain⟨u,I,rfl⟩:=g;rw[Aj,<-Aj (f:=(·.2)),DW,N] at I;generalize ah:DT W.ss ord (a.map (·.2)) (a.map (·.2))=C at *
     have ls:C.length<=100:=by rw[<-N,Aj];exact ly
     have O:=r.trans u;refine AU ?_;cbv;refine⟨⟨_,Ag.of I⟩,U4 (xs:=C.map λw=>Eg (Bs W w)) (λv=>V.bl (decide (v=V.non))) (by rw[Aj];exact C9 (BP (by lia))) (Ag.of I) (λa1 ab H4 D4 R4 aN c aF k4=>(k4 _ (Ac.refl _))) (λH4 D4 c aF e4=>?_)⟩;refine⟨D4,(C.map λw=>Eg (Bs W w)).map λv=>decide (v=V.non),rfl,Ag.of (by rw[e4,Ep (f:=λv=>decide (v=V.non))];rfl),rfl,Ap (λh=>?_) (λh=>?_)⟩;refine⟨BS,λJ D=>?_⟩;obtain⟨H5,aG,y,e5⟩:=new_at (o:=.tup [.str "none",.int at_]) D;rw[<-aG];refine⟨BS,λx E=>?_⟩;have L:=A8 (o:=.tup [.ref J,.non]) E;refine aa x (some ("none",at_)) none _ (((O.trans c).trans y).trans L) ?_ (.tup Aa (.cons (.tup (L _ _ e5) (.cons (.str _) (.cons (.int _) .nil))) (.cons .non .nil)));rw[LP e,ah,SO (FZ.mp h)];have U:¬∀w∈C,Bs W w=none:=λz=>h (FZ.mpr z)
     cases Q:C with
     |nil=>rw[Q] at U;exact absurd (λw hw=>by cases hw) U
     |cons X r0 =>
       have af:=c _ _ I;have h0:Bj (C.map λw=>Eg (Bs W w)) ((0:Nat):Int)=some (Eg (Bs W X)):=BF (by rw[Q];rfl);refine⟨⟨_,Ag.of af⟩,U4 (xs:=C.map λw=>Eg (Bs W w)) (λv=>V.bl (!decide (v=Eg (Bs W X)))) (by rw[Aj];exact C9 (BP (by lia))) (Ag.of af) (λa1 ab H5 D5 R5 aH y aI k5=>?_) (λH5 D5 y aI e5=>?_)⟩;obtain⟨w,_,rfl⟩:=getm aH;exact Or.inl ⟨_,_,Ag.of (y _ _ af),h0,Zf _ _,k5 _ (Ac.refl _)⟩;refine⟨D5,(C.map λw=>Eg (Bs W w)).map λv=>!decide (v=Eg (Bs W X)),rfl,Ag.of (by rw[e5,Ep (f:=λv=>!decide (v=Eg (Bs W X)))];rfl),rfl,Ap (λh5=>?_) (λh5=>?_)⟩;refine⟨BS,λJ D=>?_⟩;obtain⟨H6,ai,L,e6⟩:=new_at (o:=.tup [.str "torn",.int at_]) D;rw[<-ai];refine⟨BS,λx E=>?_⟩;have Y:=A8 (o:=.tup [.ref J,.non]) E;refine aa x (some ("torn",at_)) none _ ((((O.trans c).trans y).trans L).trans Y) ?_ (.tup Aa (.cons (.tup (Y _ _ e6) (.cons (.str _) (.cons (.int _) .nil))) (.cons .non .nil)));have Z:=HI.mp h5;rw[Q] at U Z;rw[LP e,ah,Q,SQ U Z];have Z:∀v∈C,Bs W v=Bs W X:=Classical.byContradiction λz=>h5 (HI.mpr z);have av:=U;rw[Q] at av Z;obtain⟨n,en,ea⟩:=SS (at_:=at_) av Z;have aJ:=y _ _ af;rw[en] at h0;refine Or.inl ⟨_,.int n,Ag.of aJ,h0,BS,λJ D=>?_⟩;obtain⟨H6,ai,L,e6⟩:=new_at (o:=.tup [.str "thing",.int n]) D;rw[<-ai];refine⟨BS,λx E=>?_⟩;have Y:=A8 (o:=.tup [.ref J,.non]) E;refine aa x (some ("thing",n)) none _ ((((O.trans c).trans y).trans L).trans Y) ?_ (.tup Aa (.cons (.tup (Y _ _ e6) (.cons (.str _) (.cons (.int _) .nil))) (.cons .non .nil)));rw[LP e,ah,Q,ea]
inductive CY (K:Ai) (vs:List V) (H:Hp) (Q:VK):Prop where
 |mk (nt A t D:Addr) (F:Addr->Prop) (W:Wd) (zs:List (Addr×AJ)) (h0:vs=[.ref nt,.ref A,.ref t,.ref D]) (h1:Br K H nt A t W) (h2:B9 W) (h3:H D=some (.lst (zs.map λz=>V.ref z.1))) (h4:(∀z∈zs,DI F H z.1 z.2)) (h5:(∀z∈zs,Ca W z.2)) (h6:zs.length<=62) (h7:(FH W (zs.map (·.2))).length<=62) (h8:∀(D2:Addr)(ws:List (Addr×Ow))(H':Hp),H D2=none->Ac H H'->H' D2=some (.lst (ws.map λz=>V.ref z.1))->(∀z∈ws,FI (λl=>H l=none/\l≠D2) H' z.1 z.2)->N5 W (zs.map (·.2)) (ws.map (·.2))->Q (.ref D2) H'):CY K vs H Q
def fO (K:Ai):Sp:=λvs H Q ζ=>CY K vs H Q
abbrev Ua(P w K mg base):=By P w K mg base "owed_behind" 5 ["net", "answers", "table", "begun"] (fO K)
theorem fP(B:BA mg)(a7:Qw P w K mg base)(F:Bq K "owed_behind" "owed_behind" Rf f fd)(D:mg "owed_behind" = some (.ref f)):Ua P w K mg base:=by
 refine BV F D JS (λa H a1 a2 h=>?_) (λaL A aU s H a a1 a2 hr h=>?_);obtain⟨Z,A,t,af,F,W,E,rfl,_⟩:=h;rfl
 . obtain⟨Z,A,t,af,F,W,E,rfl,hC,ok,eD,hz,a8,aM,aN,a3⟩:=h
   refine⟨_,(Ak (AI (i:=4) JS.nd (Cj Ae))
    (Ak (CJ Cz rfl (Dh (pv 3)) (B6 (n:=3) rfl (AD (Ay (i:=5) JS.nd) (AD (Ay (i:=6) JS.nd) (AD (Ay (i:=7) JS.nd) B5)))) (Aw (CJ Cz rfl (Dh (A1 a7 (Ab (pv 0) (Ab (pv 1) (Ab (pv 2) (Ab (pv 6) (Ab (pv 7) Ae))))))) (B6 (n:=4) rfl (AD (Ay (i:=8) JS.nd) (AD (Ay (i:=9) JS.nd) (AD (Ay (i:=10) JS.nd) (AD (Ay (i:=11) JS.nd) B5))))) (Aw (Bm (Bv Cf (pv 9) BE (Bu _)) (Aw (DF (Dj DE Et Eu Ew (pv 4) (Ab (Ba (Ab (Au Pe (pv 5) (Cj (Ab (pv 8) Ae))) (Ab (pv 10) Ae))) Ae)))) Bl)))))
    (Aw (AN (BH (Yv MP FU hr.units (by decide) (by decide)) B.b_sorted (Ab (pv 4) Ae)))))),?_⟩
   rfl';refine⟨by decide,λP hP=>?_⟩;obtain⟨aq,a9,s1,aw⟩:=new_at (o:=.lst []) hP;rw[<-a9];have ag:∀{p:Hp},Keeps (·=P) aq p->Ac H p:=λk x o e=>k.at_ _ _ (s1 _ _ e) (AW e hP)
   refine⟨⟨_,Ag.of (s1 _ _ eD)⟩,Fa (xs:=E.map λz=>V.ref z.1) (λi σ p=>∃u5 u6 u7 J M N O u,σ=[some (.ref Z),some (.ref A),some (.ref t),some (.ref af),some (.ref P),u5,u6,u7,J,M,N,O]/\Keeps (·=P) aq p/\p P=some (.lst (u.map λz:Addr×Ow=>V.ref z.1))/\(∀z∈u,FI (λl=>H l=none/\l≠P) p z.1 z.2)/\u.map (·.2)=FH W ((E.map (·.2)).take i))
    ⟨none,none,none,none,none,none,none,[],rfl,Keeps.refl λx o m e=>by rw[m,aw] at e;exact⟨_,(B2 e).symm⟩,aw,λz hz=>by simp at hz,by rw[EM];rfl⟩ (λi σ p ζ ah=>by obtain⟨_,_,_,_,_,_,_,_,_,k,_⟩:=ah;exact Ag.of (ag k _ _ eD)) ?_ ?_⟩
   rotate_left;refine λσ ar Q=>AL λNz d=>?_;obtain⟨u5,u6,u7,J,M,N,O,u,rfl,T,X,hw,D⟩:=Q;refine d ?_;clear d;rw[Aj,<-Aj (f:=(·.2)),DW] at D;have lw:u.length<=62:=by have:=BR List.length D;rw[Aj] at this;lia
   refine⟨P,u.map λz=>(V.ref z.1,z.2),rfl,?_,by rw[Aj];lia,λy r=>?_,λD2 aA hp hs ai=>?_⟩;rw[Ep];exact Ag.of X;obtain⟨z,aj,rfl⟩:=Bd.mp r;exact(hw z aj).dt;obtain⟨a,r1,r2,r3,r4⟩:=VE (c:=Pz) hp;have q:=A8 (o:=.lst (aA.map (·.1))) ai;rw[r1] at q ⊢;rw[r2] at hs;have I:=ag T;refine a3 D2 a _ (I.free ai) (I.trans q) Aa (λz aj=>?_) ⟨by rw[<-D];exact r3,hs⟩;refine((hw z (r4 z aj)).mono' ?_).same q;intro x o ex hx;exact⟨hx.1,λy=>by rw[y,ai] at ex;cases ex⟩;refine λi y σ ar r Q=>AL λNz d=>?_;obtain⟨u5,u6,u7,J,M,N,O,u,rfl,T,X,hw,D⟩:=Q;refine d ?_;clear d;obtain⟨z,ak,rfl⟩:=getm r;have aO:i<E.length:=(Bf.mp ak).1;have mz:=Bi ak;have aa:=a8 z mz;have I:=ag T;refine AL λNz d=>?_;obtain⟨l,v,a6,av,e3,_⟩:=hz z mz;refine d ?_;clear d;have e1:=I _ _ a6;have aB:=aa.rng z.2.2.1 (by unfold AM;simp);have aC:(E.map (·.2))[i]?=some z.2:=by rw[A6,ak];rfl
   have aP:v.length<=100:=by
    have:=Kz W.ss.length (AM z.2) aa.nd aa.rng;rw[show(AM z.2).length=z.2.1.length+1 by unfold AM;simp] at this;have:=ok.s5;rw[e3.len];lia
   have aD:u.length<=8*i:=by
    have G:=BR List.length D;rw[Aj] at G;have h2:=Su (f:=λb=>(Gi W b.2.1 b.2.2).filterMap (ow b)) (k:=8) ((E.map (·.2)).take i) λb=>DY (List.length_filterMap_le _ _) (DY (LF W b.2.1 (Dl W b.2.2) (BM W b.2.1) 0) (Pw ok b.2.1));rw[E5,Aj] at h2;unfold FH at G;have h3:min i E.length=i:=(by lia);rw[h3] at h2;lia
   refine⟨_,Ao.of e1,rfl,?_⟩;refine⟨Z,A,t,W,z.2.2.1,z.2.2.2,rfl,hC.same I,ok,aB,aa.st,λa4 R H3 hG q eG aE ax=>⟨⟨_,Ag.of eG⟩,?_⟩⟩;have aF:a4≠P:=λy=>by rw[y,X] at hG;cases hG
   have aQ:R.length<=8:=by
    have e1:=BR List.length ax;have e2:=LF W z.2.2.1 (Dl W z.2.2.2) (BM W z.2.2.1) 0;have e3:=Pw ok z.2.2.1;rw[Aj] at e1;unfold Gi at e1;lia
   refine Fa (xs:=R.map λz=>V.ref z.1) (λj σ p=>∃J M N O a,σ=[some (.ref Z),some (.ref A),some (.ref t),some (.ref af),some (.ref P),some (.ref l),some (.int z.2.2.1),some (.int z.2.2.2),J,M,N,O]/\Keeps (·=P) H3 p/\p P=some (.lst (a.map λz:Addr×Ow=>V.ref z.1))/\(∀z∈a,FI (λl=>H l=none/\l≠P) p z.1 z.2)/\a.map (·.2)=FH W ((E.map (·.2)).take i)++((R.map (·.2)).take j).filterMap (ow z.2)/\a.length<=8*i+j)
    ⟨_,_,_,_,u,rfl,Keeps.refl λx o m e=>by rw[m,q _ _ X] at e;exact⟨_,(B2 e).symm⟩,q _ _ X,λz h=>(hw z h).same q,by rw[D,EM];simp,aD⟩ (λj σ p ζ ah=>by obtain⟨_,_,_,_,_,_,k,_⟩:=ah;exact Ag.of (k.at_ _ _ eG aF)) ?_ ?_
   rotate_left;refine λσ H4 Q=>AL λNz d=>?_;obtain⟨J,M,N,O,a,rfl,C,S,ab,ae,_⟩:=Q;refine d ?_;clear d;refine⟨_,_,_,_,_,_,_,a,rfl,⟨λx o e n=>C.at_ _ _ (q _ _ (T.at_ x o e n)) n,T.ls⟩,S,ab,?_⟩;rw[YA aC,ae,Aj,<-Aj (f:=(·.2)),DW,ax];refine λj y σ H4 r Q=>AL λNz d=>?_;obtain⟨J,M,N,O,a,rfl,C,S,ab,ae,aR⟩:=Q;refine d ?_;clear d;obtain⟨g,al,rfl⟩:=getm r;have aS:j<R.length:=(Bf.mp al).1;obtain⟨m,an,ao⟩:=aE g (Bi al);have an:=C.tup an;have ao:=C.tup ao
   have ay:((R.map (·.2)).take (j+1)).filterMap (ow z.2)=((R.map (·.2)).take j).filterMap (ow z.2)++(ow z.2 g.2).toList:=by
    rw[Ek,A6,al];exact LG _ _ _
   refine⟨_,Ao.of an,rfl,?_⟩;refine⟨rfl,rfl,Ap (λG=>?_) (λG=>?_)⟩;rotate_left;refine⟨_,_,_,_,a,rfl,C,S,ab,?_,by lia⟩;rw[ay,Js (λe=>G (A7 (by rw[e]))),ae];simp;have G:g.2.2.1.1=("open" : Str):=V.str.inj (Bc G);have aT:Ac ar H3:=q;have aG:H4 l=some (.lst (v.map V.ref)):=C.at_ _ _ (q _ _ (I _ _ av)) (AW av hP);have aH:RT GP H4 v z.2.1:=(e3.same (I.trans q)).keeps C;refine⟨Or.inl ⟨rfl,_,Ag.of S⟩,Ji,λa5 hM=>?_⟩;obtain⟨H5,aI,s5,eM⟩:=new_at (o:=.lst [.ref m]) hM;rw[<-aI];refine⟨l,a5,_,_,rfl,rfl,s5 _ _ aG,eM,by rw[Aj];exact C9 (BP (by show v.length+1<=1000;lia)),λL hL=>?_⟩
   have aJ:H L=none:=by
    have h4:=s5.free hL
    cases e:H L with
    |none=>rfl
    |some o=>rw[C.at_ _ _ (q _ _ (I _ _ e)) (AW e hP)] at h4;cases h4
   have az:L≠P:=λy=>by rw[y,s5 _ _ S] at hL;cases hL
   have s6:=A8 (o:=.lst (v.map V.ref++[.ref m])) hL;have eL:(upd H5 L (.lst (v.map V.ref++[.ref m]))) L=some (.lst ((v++[m]).map V.ref)):=by rw[Aa,Bh];rfl
   generalize upd H5 L (.lst (v.map V.ref++[.ref m]))=H6 at s6 eL ⊢;refine⟨BS,λau hr=>?_⟩;obtain⟨H7,aK,s7,er⟩:=new_at (o:=.tup [.ref L,.int g.2.2.1.2]) hr;rw[<-aK];have Y:=(s5.trans s6).trans s7;have a0:=Y _ _ S;have U:Keeps (·=P) H7 (upd H7 P (.lst (a.map (λz=>V.ref z.1)++[.ref au]))):=Keeps.one a0;refine⟨_,a0,by rw[Aj];exact BP (by lia),?_⟩;refine⟨_,_,_,_,a++[(au,(z.2.1++[g.2.1],g.2.2.1.2))],rfl,(C.same Y).set rfl,by rw[Aa,Bh];rfl,λy r=>?_,?_,by rw[AQ,Ec];lia⟩;rcases BB.mp r with r|r;exact((ab y r).same Y).keeps U λx hx=>hx.2;rw[AR.mp r];refine⟨L,v++[m],U.tup er,U.at_ _ _ (s7 _ _ eL) az,?_,aJ,az⟩;exact RT.snoc ((aH.same Y).keeps U) (U.tup (Y _ _ ao));rw[ay,Jr G,Bh,ae,Ge];rfl
def both{A G:Prop}(k:A->G)(a:A):G:=k a
def OO:([]:List V).length+1+1+1+1<=sizeLine:=by decide
inductive Fl (K:Ai) (vs:List V) (H:Hp) (Q:VK):Prop where
 |mk (nt A t ask u:Addr) (F:Addr->Prop) (W:Wd) (inn:Int) (ord:A') (q:Qu) (h0:vs=[.ref nt,.ref A,.ref t,.ref ask]) (h1:Br K H nt A t W) (h2:GA K F H t W.sts inn ord) (h3:B9 W) (h4:BJ W) (h5:ord.length<=40) (h6:(∀x,(x,x)∉ord)) (h7:(0<=inn/\inn<W.sts.length)) (h8:H ask=some (.tup [.int q.1,.int q.2.1,.ref u])) (h9:H u=some (.tup (q.2.2.map V.str))) (h10:(0<=q.1/\q.1<W.ss.length)) (h11:(0<=q.2.1/\q.2.1<W.sts.length)) (h12:1<=q.2.2.length) (h13:q.2.2.length<=8) (h14:∀(r L T:Addr)(av wv:V)(lv:List V)(a:C')(w:Option Wt)(ls:List Lk)(ts:List Int)(H':Hp),Ac H H'->H' r=some (.tup [av,wv,.ref L,.ref T])->H L=none->H' L=some (.lst lv)->H' T=some (.lst (ts.map V.int))->A5 (λx=>H x=none) H' av (B7 a)->A5 (λx=>H x=none) H' wv (LO w)->Az (λx=>H x=none/\x≠L) H' lv (ls.map JB)->LU W inn ord q.1 q.2.1 q.2.2 0 a w ls ts->Q (.ref r) H'):Fl K vs H Q
def fQ (K:Ai):Sp:=λvs H Q ζ=>Fl K vs H Q
abbrev M9(P w K mg base):=By P w K mg base "look_up" 7 ["net", "answers", "table", "asked"] (fQ K)
theorem fR(B:BA mg)(b8:TV P w K mg base)(b9:T1 P w K mg base)(bA:Ic P w K mg base)(bB:Ua P w K mg base)(bC:Qv P w K mg base)(F:Bq K "look_up" "look_up" Rg f fd)(hm:mg "look_up" = some (.ref f)):M9 P w K mg base:=by
 refine BV F hm Gm (λvs H aP bx h=>?_) (λcm A cy s H vs aP bx hr h=>?_);obtain⟨X,A,t,aS,a0,F,W,Z,aa,q,rfl,_⟩:=h;rfl
 . obtain⟨X,A,t,aS,a0,F,W,Z,aa,q,rfl,hC,TB,ok,sm,aR,irr,ca,eq,eu,bD,bE,cn,cp,qk⟩:=h
   obtain⟨bz,Tn,b0,us,Gs,Es,cq,qt,qs,eN,N3⟩:=hC.net
   refine⟨_,(Ak (DM (pv 3) (B6 (n:=3) rfl (AD (Ay (i:=4) Gm.nd) (AD (Ay (i:=5) Gm.nd) (AD (Ay (i:=6) Gm.nd) B5)))))
    (Ak (AI (i:=7) Gm.nd (Cj Ae))
    (Ak (AI (i:=8) Gm.nd (Cj Ae))
    (Aw (CJ Cz rfl (PU TK rfl B.b_enumerate (Ab (pv 6) Ae)) (B6 (n:=2) rfl (AD (Ay (i:=9) Gm.nd) (AD (Ay (i:=10) Gm.nd) B5))) (Ak (AI (i:=11) Gm.nd (A1 b8 (Ab (pv 0) (Ab (pv 1) (Ab (pv 2) (Ab (pv 4) (Ab (pv 5) Ae)))))))
     (Ak (DF (Dj DE Et Eu Ew (pv 7) (Ab (A1 b9 (Ab (pv 0) (Ab (pv 2) (Ab (pv 11) (Ab (pv 10) Ae))))) Ae)))
     (Ak (DM (A1 bA (Ab (pv 0) (Ab (pv 1) (Ab (pv 2) (Ab (A1 bB (Ab (pv 0) (Ab (pv 1) (Ab (pv 2) (Ab (pv 11) Ae))))) (Ab (As At (pv 7) (Pc Pd Ah)) (Ab (pv 9) Ae))))))) (B6 (n:=2) rfl (AD (Ay (i:=12) Gm.nd) (AD (Ay (i:=13) Gm.nd) B5))))
     (Ak (Bm (PW.pt (O7 (GY (He (pv 12))) (O7 (Bv NG (As At (pv 12) Ah) BE (Bu _)) (Rz (Bv Cf (pv 9) (Au NE (BH Di B.b_len (Ab (pv 6) Ae)) Ah) (Bu _)))))) (Aw (AN (Ba (Ab (pv 12) (Ab (pv 13) (Ab (pv 7) (Ab (pv 8) Ae))))))) Bl)
     (Ak (DF (Dj DE Et Eu Ew (pv 8) (Ab (As At (pv 12) Ah) Ae)))
     (Ak (DM (A1 bC (Ab (pv 0) (Ab (pv 1) (Ab (As At (pv 12) Ah) Ae)))) (B6 (n:=2) rfl (AD (Ay (i:=14) Gm.nd) (AD (Ay (i:=15) Gm.nd) B5))))
     (Ak (Bm (Bv Cf (pv 14) BE (Bu _)) (Aw (AN (Ba (Ab GN (Ab (Ba (Ab (pv 9) (Ab (Cj Ae) (Ab (pv 15) Ae)))) (Ab (pv 7) (Ab (pv 8) Ae))))))) Bl)
     (Ak (Bm (Bv Cf (pv 14) BE (Bu _)) (Aw (AN (Ba (Ab (Ba (Ab BE (Ab (Au Gx (pv 9) Ah) Ae))) (Ab GN (Ab (pv 7) (Ab (pv 8) Ae))))))) Bl)
     (Ak (AI (i:=4) Gm.nd (pv 15))
     (Aw (AI (i:=5) Gm.nd (As At (pv 2) Ah))))))))))))))))),?_⟩
   rfl';refine⟨_,Ao.of eq,rfl,?_⟩;refine⟨by decide,λL hL=>?_⟩;obtain⟨aQ,bF,s1,a2⟩:=new_at (o:=.lst []) hL;rw[<-bF];refine AU ?_;cbv;refine⟨by decide,λT hT=>?_⟩;have s2:=A8 (o:=.lst []) hT;have aT:(upd aQ T (.lst [])) T=some (.lst []):=Aa;have aU:=s2 _ _ a2;generalize upd aQ T (.lst [])=ck at s2 aT aU ⊢;have aV:L≠T:=λz=>by rw[z,hT] at a2;cases a2
   have bG:H T=none:=s1.free hT;refine AU ?_;cbv
   refine⟨a0,rfl,⟨_,Ao.of ((s1.trans s2) _ _ eu)⟩,PV TK (xs:=q.2.2.map V.str) (λi σ H'=>∃(C D:Int)(u9 aW aX aY aZ ba bb:Option V)(d:List V)(ls:List Lk)(l:List Int),σ=[some (.ref X),some (.ref A),some (.ref t),some (.ref aS),some (.int C),some (.int D),some (.ref a0),some (.ref L),some (.ref T),u9,aW,aX,aY,aZ,ba,bb]/\Ac H H'/\H' L=some (.lst d)/\H' T=some (.lst (l.map V.int))/\Az (λx=>H x=none/\x≠L/\x≠T) H' d (ls.map JB)/\d.length=i/\l.length=i/\i<q.2.2.length/\(0<=C/\C<W.ss.length)/\(0<=D/\D<W.sts.length)/\∀a w ak al,LU W Z aa C D (q.2.2.drop i) i a w ak al->LU W Z aa q.1 q.2.1 q.2.2 0 a w (ls++ak) (l++al))
    ⟨_,_,none,none,none,none,none,none,none,[],[],[],rfl,s1.trans s2,aU,aT,.nil,rfl,rfl,by lia,bD,bE,λa w ak al z=>z⟩ (λi σ H' bH=>by obtain⟨_,_,_,_,_,_,_,_,_,_,_,_,_,s,_⟩:=bH;exact Ao.of (s _ _ eu)) ?_ ?_⟩
   rotate_left;refine λσ H' a3=>AL λNz Q=>?_;obtain⟨_,_,_,_,_,_,_,_,_,_,_,_,_,_,_,_,_,_,_,hi,_⟩:=a3;refine Q ?_;clear Q;rw[Aj] at hi;exact absurd hi (Hc _);refine λi xv Te σ H3 hx bI a3=>AL λNz Q=>?_;obtain⟨C,D,u9,aW,aX,aY,aZ,ba,bb,d,ls,l,rfl,s3,bJ,bK,bL,bM,bN,hi,R,S,ay⟩:=a3;refine Q ?_;clear Q;refine Ha ?_;intro Nx Cy;obtain⟨x,bO,rfl⟩:=getm hx;have ag:=SV bO;obtain⟨H4,bP,s4,bQ⟩:=new_at (o:=.tup [.int i,.str x]) bI;rw[<-bP];have an:=s3.trans s4;have ao:=s4 _ _ bJ;have a4:=s4 _ _ bK;refine⟨_,Ao.of bQ,rfl,?_⟩;refine⟨X,A,t,W,C,D,rfl,hC.same an,ok,R,S,λaj g H5 hD s5 eD hz E=>?_⟩;refine AU ?_;cbv;have ab:=an.trans s5;have U:=s5 _ _ ao;have ah:=s5 _ _ a4;have E8:∀{Hn:Hp}{x:Addr},Ac H Hn->Hn L=some (.lst d)->Hn T=some (.lst (l.map V.int))->Hn x=none->H x=none/\x≠L/\x≠T:=λ{Hn x}s Y e2 h=>⟨s.free h,λz=>(by rw[z,Y] at h;cases h),λz=>(by rw[z,e2] at h;cases h)⟩;refine⟨Or.inl ⟨rfl,_,Ag.of U⟩,X,A,t,aj,x,F,_,W,Z,aa,C,D,g,rfl,hC.same ab,TB.same ab,ok,sm,aR,irr,R,S,eD,hz,E,λr D2 P e u H6 s6 er a5 bc hw hF hP eP c bd=>?_⟩;have bR:=ab.trans s6;have be:=s6 _ _ U;have bS:=s6 _ _ ah;have v:Keeps (·=L) H6 (upd H6 L (.lst (d++[.ref r]))):=Keeps.one be;have aq:Ac H (upd H6 L (.lst (d++[.ref r]))):=λb o af=>by rw[AH (AW af hL)];exact bR _ _ af
   have a6:(upd H6 L (.lst (d++[.ref r]))) L=some (.lst (d++[.ref r])):=Aa;refine⟨_,be,BP (by lia),?_⟩;generalize upd H6 L (.lst (d++[.ref r]))=N at v aq a6 ⊢;have nD:aj≠L:=λz=>by rw[z,ao] at hD;cases hD
   have bT:D2≠L:=λz=>by rw[z,U] at a5;cases a5
   have nP:P≠L:=λz=>by rw[z,U] at hP;cases hP
   have bf:=v.at_ _ _ bS (Ne.symm aV);have a7:=v.tup er;have a8:=v.at_ _ _ (s6 _ _ eD) nD;have aK:=v.at_ _ _ bc bT;have a9:=v.at_ _ _ eP nP;have aA:∀z∈g,DI (λx=>H x=none/\x≠L/\x≠T) N z.1 z.2:=λz h=>(((hz z h).mono' λy o ζ c=>E8 an ao a4 c.1).same s6).keeps v λy c=>c.2.1;have aB:∀z∈e,CL (λx=>H x=none/\x≠L/\x≠T) N z.1 z.2:=λz h=>((hw z h).mono' λy o ζ c=>E8 ab U ah c).keeps v λy c=>c.2.1;have aC:∀z∈u,CL (λx=>H x=none/\x≠L/\x≠T) N z.1 z.2:=λz h=>((c z h).mono' λy o ζ c=>E8 ab U ah c).keeps v λy c=>c.2.1;have bs:Az (λx=>H x=none/\x≠L/\x≠T) N d (ls.map JB):=(((bL.same s4).same s5).same s6).keeps v λy c=>c.2.1;have cs:=E;have bg:=E.few;rw[Aj] at bg;refine⟨X,A,t,aj,_,W,g,rfl,hC.same aq,ok,a8,aA,λz bU=>((E.mem _).mp (Bd.mpr ⟨z,bU,rfl⟩)).ok ok R S,bg,sm.owd C D _ R S E,λb1 a1 H8 hO G eO ho bh=>?_⟩;have aD:=aq.trans G;have bi:=G _ _ a6;have bV:=G _ _ bf;have bj:∀z∈e,z.2∈DQ W x (g.map (·.2)):=λz h=>hF.perm.mem_iff.mp (Bd.mpr ⟨z,h,rfl⟩)
   have lw:e.length<=100:=by
    have h1:=hF.perm.length_eq;have h2:=sm.fnd x C D _ R S E;rw[Aj] at h1;lia
   have bk:∀z∈e,DU W.ss z.2:=λz h=>V0 ok R S E (bj z h);have cb:∀{x:Addr},N x=none->H x=none/\x≠L/\x≠T:=λ{x}h=>⟨aq.free h,λz=>(by rw[z,a6] at h;cases h),λz=>(by rw[z,bf] at h;cases h)⟩;refine Or.inl ⟨_,.ref r,Ag.of bi,Sr _ _,X,A,t,b1,r,aj,D2,P,F,(λx=>H x=none/\x≠L/\x≠T),W,Z,aa,e,u,a1,(i:Int),rfl,hC.same aD,TB.same aD,sm,aR,irr,G _ _ a7,G _ _ aK,λz h=>(aB z h).same G,λz h=>Sy ok R S E (bj z h),lw,bk,G _ _ a9,λz h=>(aC z h).same G,bd,eO,λz h=>(ho z h).mono' λy o ζ c=>cb c.1,λz h=>YD ok R S E (bh.perm.mem_iff.mp (Bd.mpr ⟨z,h,rfl⟩)),λm a w I s9 bt hm=>?_⟩;have aE:=aD.trans s9;have bl:=s9 _ _ bi;have ar:=s9 _ _ bV;obtain⟨av,wv,b2,ha,bW⟩:=hm.two;have LK:Cv W aa C D x (g.map (·.2),e.map (·.2),u.map (·.2)) (a1.map (·.2)):=⟨E,hF,bd,bh⟩
   have bm:A5 (λx=>H x=none/\x≠L/\x≠T) I (.ref r) (JB (g.map (·.2),e.map (·.2),u.map (·.2))):=by
    have b3:=E8 an ao a4 hD;have b4:=E8 ab U ah a5;have b5:=E8 ab U ah hP
    have b6:Az (λx=>H x=none/\x≠L/\x≠T) N (g.map λz=>V.ref z.1) ((g.map (·.2)).map DO.D):=by
     rw[Ep];exact Az.of_all λz h=>(aA z h).own
    have b7:Az (λx=>H x=none/\x≠L/\x≠T) N (e.map λz=>V.ref z.1) ((e.map (·.2)).map CP.D):=by
     rw[Ep];exact Az.of_all λz h=>(aB z h).own
    have f3:Az (λx=>H x=none/\x≠L/\x≠T) N (u.map λz=>V.ref z.1) ((u.map (·.2)).map CP.D):=by
     rw[Ep];exact Az.of_all λz h=>(aC z h).own
    exact((A5.tup a7 (.cons (.lst a8 b3 b6) (.cons (.lst aK b4 b7) (.cons (.lst a9 b5 f3) .nil)))).same G).same s9
   have bu:Az (λx=>H x=none/\x≠L/\x≠T) I (d++[.ref r]) ((ls++[(g.map (·.2),e.map (·.2),u.map (·.2))]).map JB):=by
    rw[Bh];exact((bs.same G).same s9).snoc bm
   clear aB aC aA bs bm hw c hz ho eD bc eP er a8 aK a9 a7 v;refine⟨_,Ao.of b2,rfl,?_⟩
   have au:((∀k,a≠some (("thing" : Str),k))\/q.2.2.drop (i+1)=[])->∀O,I O=none->aP (.ref O) (upd I O (.tup [av,wv,.ref L,.ref T])):=λcg O bX=>by
    have j:=A8 (o:=.tup [av,wv,.ref L,.ref T]) bX;refine qk O L T av wv (d++[.ref r]) a w _ l _ (aE.trans j) Aa hL (j _ _ bl) (j _ _ ar) ((ha.mono λζ ζ ζ h=>h.1).same j) ((bW.mono λζ ζ ζ h=>h.1).same j) ((bu.mono λζ ζ ζ h=>⟨h.1,h.2.1⟩).same j) ?_;have:=ay a w [(g.map (·.2),e.map (·.2),u.map (·.2))] [] (by rw[ag];exact .stop LK bt cg);rw[FM] at this;exact this
   cases a with
   |none =>
     obtain rfl:=ha.ansN;exact⟨rfl,Ap (λζ=>C5 ⟨OO,au (.inl λk z=>(by cases z))⟩) (λh=>absurd (A7 rfl) h)⟩
   |some p =>
     obtain⟨pa,rfl,aF⟩:=ha.ansS;refine⟨rfl,Ap (λh=>absurd (Bc h) (by simp)) (λζ=>?_)⟩;refine Or.inr (Or.inl ⟨_,.str p.1,Ao.of aF,rfl,rfl,rfl,Ap (λh=>?_) (λh=>?_)⟩);refine C5 ⟨OO,au (.inl λk z=>?_)⟩;have:p.1=("thing" : Str):=BR Prod.fst (B2 z);rw[this] at h;simp at h
     have hp:p.1=("thing" : Str):=Classical.byContradiction λz=>h (by
      have:decide (V.str p.1=V.str "thing")=false:=El λy=>z (V.str.inj y)
      rw[this];rfl)
     have az:Cu W aa (e.map (·.2)) (a1.map (·.2)) i=(some (("thing" : Str),p.2),w):=(by rw[bt,<-hp]);refine⟨_,Or.inr ⟨_,Ao.of (aE _ _ eu),rfl⟩,rfl,rfl,Ap (λh2=>?_) (λh2=>?_)⟩;have e2:(i:Int)=((q.2.2.map V.str).length:Nat)-1:=V.int.inj (Bc h2);rw[Aj] at e2;exact⟨OO,au (.inr (List.drop_eq_nil_of_le (by lia)))⟩
     have bn:i+1<q.2.2.length:=by
      refine Classical.byContradiction λz=>h2 (A7 ?_);rw[Aj];congr 1;lia
     clear au;have rng:=Of ok sm (λcl hv=>by obtain⟨z,h1,rfl⟩:=Bd.mp hv;exact bk z h1) az;obtain⟨n,hn⟩:=DL rng.1;have bo:n<W.gs.length:=(by lia);have hg:=AC bo;have aw:Keeps (·=T) I (upd I T (.lst (l.map V.int++[.int p.2]))):=Keeps.one ar;have j:Ac H (upd I T (.lst (l.map V.int++[.int p.2]))):=λb o af=>by rw[AH (AW af bG)];exact aE _ _ af
     have bv:(upd I T (.lst (l.map V.int++[.int p.2]))) T=some (.lst ((l++[p.2]).map V.int)):=by rw[Aa,Bh];rfl
     refine⟨Or.inl ⟨rfl,_,Ag.of ar⟩,Or.inr (Or.inl ⟨_,.int p.2,Ao.of aF,rfl,_,ar,by rw[Aj];exact BP (by lia),?_⟩)⟩;generalize upd I T (.lst (l.map V.int++[.int p.2]))=ct at aw j bv ⊢;have cc:=aw.at_ _ _ bl aV;have ch:=aw.tup aF;have cj:=bu.keeps aw λy c=>c.2.2;have cd:=hC.same j;refine Or.inr (Or.inl ⟨_,.int p.2,Ao.of ch,rfl,X,bz,Tn,b0,A,W.gs,W.as,p.2,n,W.gs[n],rfl,hn,hg,Ao.of (j _ _ eN),⟨_,Ag.of (j _ _ N3.et),(N3.tg.same j).dts⟩,cd.ans,ok.net,λb cu hb ax eb=>?_⟩);have ai:=j.trans ax;have aL:=ax _ _ cc;have aM:=ax _ _ bv;have aO:=cj.same ax
     have ei:EC W p.2=Eo W.gs W.as W.gs[n]:=by
      show(match W.gs[p.2.toNat]? with|some p=>Eo W.gs W.as p|none=>("no",0))=_
      rw[hn,BK,hg]
     obtain⟨y2,O,bw⟩:∃y2 O,q.2.2.drop (i+1)=y2::O:=⟨_,_,Mv bn⟩;rw[bw] at ag;refine⟨_,Ao.of eb,rfl,?_⟩;generalize bp:Eo W.gs W.as W.gs[n]=J at *;refine⟨rfl,rfl,Ap (λh3=>?_) (λh3=>?_)⟩
     have e3:J.1=("open" : Str):=V.str.inj (Bc h3);refine⟨by decide,λe0 bq=>?_⟩;obtain⟨bY,aN,aG,bZ⟩:=new_at (o:=.lst []) bq;rw[<-aN];refine⟨G7,λY aH=>?_⟩;obtain⟨cv,cf,br,aI⟩:=new_at (o:=.tup [.int i,.ref e0,.int J.2]) aH;rw[<-cf];refine⟨OO,λr3 aJ=>?_⟩;have ae:=A8 (o:=.tup [.non,.ref Y,.ref L,.ref T]) aJ;have M:=(aG.trans br).trans ae;refine qk r3 L T .non (.ref Y) (d++[.ref r]) none (some ((i:Int),[],J.2)) _ _ _ (ai.trans M) Aa hL (M _ _ aL) (M _ _ aM) .non (.tup (ae _ _ aI) (.cons (.int _) (.cons (.lst ((br.trans ae) _ _ bZ) (ai.free bq) .nil) (.cons (.int _) .nil)))) ((aO.mono λζ ζ ζ h=>⟨h.1,h.2.1⟩).same M) ?_;exact ay none (some ((i:Int),[],J.2)) [(g.map (·.2),e.map (·.2),u.map (·.2))] [p.2] (by rw[ag];exact .opn LK az (ei.trans (Prod.ext e3 rfl)));have e3:J.1≠("open" : Str):=λz=>h3 (A7 (by rw[z]));refine⟨rfl,rfl,Ap (λh4=>?_) (λh4=>?_)⟩;have e4:J.1=("no" : Str):=V.str.inj (Bc h4);refine⟨BS,λY aH=>?_⟩;obtain⟨bY,aN,aG,aI⟩:=new_at (o:=.tup [.str "none",.int ((i:Int)+1)]) aH;rw[<-aN];refine⟨OO,λr3 aJ=>?_⟩;have ae:=A8 (o:=.tup [.ref Y,.non,.ref L,.ref T]) aJ;have M:=aG.trans ae;refine qk r3 L T (.ref Y) .non (d++[.ref r]) (some (("none" : Str),(i:Int)+1)) none _ _ _ (ai.trans M) Aa hL (M _ _ aL) (M _ _ aM) (.tup (ae _ _ aI) (.cons (.str _) (.cons (.int _) .nil))) .non ((aO.mono λζ ζ ζ h=>⟨h.1,h.2.1⟩).same M) ?_;exact ay (some (("none" : Str),(i:Int)+1)) none [(g.map (·.2),e.map (·.2),u.map (·.2))] [p.2] (by rw[ag];exact .no LK az (ei.trans (Prod.ext e4 rfl)));have e4:J.1≠("no" : Str):=λz=>h4 (A7 (by rw[z]))
     have e5:J.1=("to" : Str):=by
      have:=Zl W.gs W.as W.gs[n];rw[bp] at this;rcases this with h|h|h;exact h;exact absurd h e3;exact absurd h e4
     have rg:=Sq ok (Ed bo) bp e5;refine AL λNz Q=>?_;obtain⟨ta,o,cw,cx,et,_⟩:=TB.ex;refine Q ?_;clear Q;refine AU ?_;cbv;refine Or.inr (Or.inl ⟨_,.int Z,Ao.of (ai _ _ et),rfl,?_⟩);refine⟨J.2,Z,_,_,_,_,_,_,_,d++[.ref r],ls++[(g.map (·.2),e.map (·.2),u.map (·.2))],l++[p.2],rfl,ai,aL,aM,aO,by simp[bM],by simp[bN],bn,rg,ca,λa w ak al z=>?_⟩;rw[Ge,Ge];refine ay a w _ _ ?_;rw[ag];rw[bw] at z;exact .go LK az (ei.trans (Prod.ext e5 rfl)) z
inductive Ie (K:Ai) (vs:List V) (H:Hp) (Q:VK):Prop where
 |mk (nt A t:Addr) (F:Addr->Prop) (W:Wd) (qs:List Qu) (inn:Int) (ord:A') (n:Int) (k:Nat) (q:Qu) (h0:vs=[.ref nt,.ref A,.ref t,.int n]) (h1:n=k) (h2:qs[k]?=some q) (h3:LC K F H nt A t W qs inn ord) (h4:KE W qs inn ord) (h5:∀(v:V)(a:C')(w:Option Wt)(ls:List Lk)(ts:List Int)(H':Hp),Ac H H'->A5 (λx=>H x=none) H' v (.tup [B7 a,LO w])->LU W inn ord q.1 q.2.1 q.2.2 0 a w ls ts->Q v H'):Ie K vs H Q
def Ka (K:Ai):Sp:=λvs H Q ζ=>Ie K vs H Q
abbrev Ub(P w K mg base):=By P w K mg base "find" 8 ["net", "answers", "table", "question"] (Ka K)
def fS(B:BA mg)(Z:M9 P w K mg base)(F:Bq K "find" "find" Rh f fd)(x:mg "find" = some (.ref f)):Ub P w K mg base:=by
 refine BV F x Ox (λy H Q E h=>?_) (λak A an s H y Q E hr h=>?_);obtain⟨j,A,t,F,W,qs,m,r,n,k,q,rfl,_⟩:=h;rfl;obtain⟨j,A,t,F,W,qs,m,r,n,k,q,rfl,rfl,c,d,ok,z⟩:=h;obtain⟨ag,T,R,us,Gs,Es,l,b,C,e⟩:=d.net;have aa:k<qs.length:=(Bf.mp c).1;have ab:k<b.length:=by rw[e.tq.len];exact aa
 have v:=AC ab;obtain⟨u,eq,D⟩:=e.tq.at_ k _ q v c;have ae:Bj (b.map V.ref) (k:Int)=some (.ref b[k]):=BF (by rw[A6,v];rfl);obtain⟨G,I,J,L⟩:=ok.q q (Bi c)
 refine⟨_,(Ak (DM (A1 Z (Ab (pv 0) (Ab (pv 1) (Ab (pv 2) (Ab (As At (As At (pv 0) Ah) (pv 3)) Ae))))) (B6 (n:=4) rfl (AD (Ay (i:=4) Ox.nd) (AD (Ay (i:=5) Ox.nd) (AD (Ay (i:=6) Ox.nd) (AD (Ay (i:=7) Ox.nd) B5))))))
  (Aw (AN (Ba (Ab (pv 4) (Ab (pv 5) Ae)))))),?_⟩
 rfl';refine Or.inr (Or.inl ⟨_,.ref R,Ao.of C,rfl,Or.inl ⟨_,.ref b[k],Ag.of e.er,ae,j,A,t,b[k],u,F,W,m,r,q,rfl,d.caseH,d.tab,ok.ok,ok.sm,ok.ol,ok.irr,ok.inn,eq,D,G,I,J,L,λah ai T M N lv a w ls l aj O S hL eL eT U X al af=>?_⟩⟩);refine⟨_,Ao.of S,rfl,?_⟩;refine⟨BS,λp Y=>?_⟩;have g:=A8 (o:=.tup [M,N]) Y;exact z _ a w ls l _ (O.trans g) (.tup Aa (.cons (U.same g) (.cons (X.same g) .nil))) af
inductive GJ (K:Ai) (vs:List V) (H:Hp) (Q:VK):Prop where
 |mk (nt A t:Addr) (F:Addr->Prop) (W:Wd) (qs:List Qu) (inn:Int) (ord:A') (n:Int) (k:Nat) (q:Qu) (h0:vs=[.ref nt,.ref A,.ref t,.int n]) (h1:n=k) (h2:qs[k]?=some q) (h3:LC K F H nt A t W qs inn ord) (h4:KE W qs inn ord) (h5:∀(D:Addr)(lv:List V)(a:C')(w:Option Wt)(ls:List Lk)(ts:List Int)(H':Hp),H D=none->Ac H H'->H' D=some (.lst lv)->Az (λx=>H x=none/\x≠D) H' lv (ls.map LQ)->LU W inn ord q.1 q.2.1 q.2.2 0 a w ls ts->Q (.ref D) H'):GJ K vs H Q
def fT (K:Ai):Sp:=λvs H Q ζ=>GJ K vs H Q
abbrev Uc(P w K mg base):=By P w K mg base "trail" 8 ["net", "answers", "table", "question"] (fT K)
def fU(B:BA mg)(aq:M9 P w K mg base)(F:Bq K "trail" "trail" O4 f fd)(hm:mg "trail" = some (.ref f)):Uc P w K mg base:=by
 refine BV F hm Oy (λvs H ae af h=>?_) (λa5 A a7 s H vs ae af hr h=>?_);obtain⟨L,A,t,F,W,qs,S,T,n,k,q,rfl,_⟩:=h;rfl;obtain⟨L,A,t,F,W,qs,S,T,n,k,q,rfl,rfl,v,y,ok,qk⟩:=h;obtain⟨a0,ag,ah,us,Gs,Es,M,j,eN,z⟩:=y.net;have ar:k<qs.length:=(Bf.mp v).1;have au:k<j.length:=by rw[z.tq.len];exact ar
 have U:=AC au;obtain⟨ai,eq,eu⟩:=z.tq.at_ k _ q U v;have aw:Bj (j.map V.ref) (k:Int)=some (.ref j[k]):=BF (by rw[A6,U];rfl);obtain⟨al,an,ao,g4⟩:=ok.q q (Bi v)
 refine⟨_,(Ak (DM (A1 aq (Ab (pv 0) (Ab (pv 1) (Ab (pv 2) (Ab (As At (As At (pv 0) Ah) (pv 3)) Ae))))) (B6 (n:=4) rfl (AD (Ay (i:=4) Oy.nd) (AD (Ay (i:=5) Oy.nd) (AD (Ay (i:=6) Oy.nd) (AD (Ay (i:=7) Oy.nd) B5))))))
  (Aw (AN (Je (g:=Nt K 3 (O8 (IM 0) (O8 (IM 1) (O8 (IM 2) Nr)))) rfl CN (Dh (pv 6)) (λζ ζ ζ ζ ζ=>(B6 (n:=3) rfl (AD (Ay (i:=0) CN.nd) (AD (Ay (i:=1) CN.nd) (AD (Ay (i:=2) CN.nd) B5))))) (λζ ζ ζ ζ ζ=>Hs) (λζ ζ ζ ζ ζ=>(pv 2)))))),?_⟩
 rfl';refine(Or.inr (Or.inl ⟨_,.ref ah,Ao.of eN,rfl,Or.inl ⟨_,.ref j[k],Ag.of z.er,aw,L,A,t,j[k],ai,F,W,S,T,q,rfl,y.caseH,y.tab,ok.ok,ok.sm,ok.ol,ok.irr,ok.inn,eq,eu,al,an,ao,g4,λa1 aj ag av wv m a w ls M ak N er hL O eT ha hw J X=>?_⟩⟩));refine⟨_,Ao.of er,rfl,?_⟩
 have ll:m.length<=sizeLine:=by
  have h1:=J.length;rw[Aj] at h1;have h2:=HJ X;exact C9 (BP (by lia))
 refine⟨⟨_,Ag.of O⟩,NY (xs:=m) (λD i c p=>Ac ak p/\p D=some (.lst c)/\Az (λx=>H x=none/\x≠D) p c ((ls.take i).map LQ)/\c.length=i)
  (λD d=>⟨A8 d,Aa,.nil,rfl⟩) (λD i c p ax=>by obtain⟨s,_⟩:=ax;exact Ag.of (s _ _ O)) (λD i a2 c Y RR d Q C k=>?_) (λD c Y d C=>?_)⟩
 obtain⟨l,r,u,E⟩:=C;have ay:i<m.length:=(Bf.mp Q).1;obtain⟨a3,hd,Z⟩:=J.get Q;obtain⟨a4,az,rfl⟩:=getm hd;refine AL λNz aa=>?_;obtain⟨tl,x1,x2,x3,rfl,ab,a6⟩:=(Z.same l).look;refine aa ?_;clear aa;refine⟨_,Ao.of ab,rfl,?_⟩;have R:Keeps (·=D) Y (upd Y D (.lst (c++[x3]))):=Keeps.one r;refine k _ _ r ?_ ⟨λb o e=>?_,Aa,?_,by rw[AQ,E];rfl⟩;rw[E];exact FC ay ll;rw[AH (AW e d)];exact l _ _ e;rw[Ek,az,Bh];refine(u.keeps R λx I=>I.2).snoc ?_;refine(((A5.mono (F:=λx=>H x=none/\x≠aj) (G:=λx=>H x=none/\x≠D) (λb o e h=>⟨h.1,AW e d⟩) Z).same l).look' ab).keeps R λx I=>I.2;obtain⟨l,r,u,E⟩:=C;have e1:ls.length=m.length:=by have:=J.length;rw[Aj] at this;lia
 rw[<-e1,DW] at u;exact qk D c a w ls M Y (N.free d) (N.trans l) r u X
def Xa{f:β->α->β}{n:β}{l:List α}{x:α}(h:l[i]?=some x):(l.take (i+1)).foldl f n=f ((l.take i).foldl f n) x:=by
 rw[List.take_add_one,h,Ki];rfl
inductive Ea (K:Ai) (vs:List V) (H:Hp) (Q:VK):Prop where
 |mk (L:Addr) (F:Addr->Prop) (lv:List V) (ls:List Lk) (h0:vs=[.ref L]) (h1:H L=some (.lst lv)) (h2:Az F H lv (ls.map JB)) (h3:(∀l∈ls,∀b∈l.1,0<=b.2.1/\b.2.1<100)) (h4:Q (.int (ls.foldl Fz 0)) H):Ea K vs H Q
def fV (K:Ai):Sp:=λvs H Q ζ=>Ea K vs H Q
abbrev Ud(P w K mg base):=By P w K mg base "scopes_of" 1 ["looks"] (fV K)
def fW(B:BA mg)(F:Bq K "scopes_of" "scopes_of" Ri f fd)(S:mg "scopes_of" = some (.ref f)):Ud P w K mg base:=by
 refine BV F S JT (λT H Q E h=>?_) (λan aj ao s H T Q E hr h=>?_);obtain⟨L,F,m,ls,rfl,_⟩:=h;rfl
 . obtain⟨L,F,m,ls,rfl,v,I,aa,q⟩:=h
   have ab:m.length=ls.length:=by rw[I.length,Aj]
   refine⟨_,(Ak (AI (i:=1) JT.nd Ah)
    (Ak (CJ Cz rfl (Dh (pv 0)) (B6 (n:=3) rfl (AD (Ay (i:=2) JT.nd) (AD (Ay (i:=3) JT.nd) (AD (Ay (i:=4) JT.nd) B5)))) (Aw (CJ Cz rfl (Dh (pv 2)) (B6 (n:=3) rfl (AD (Ay (i:=5) JT.nd) (AD (Ay (i:=6) JT.nd) (AD (Ay (i:=7) JT.nd) B5)))) (Aw (AI (i:=1) JT.nd (Au NF (pv 1) (Au Lg Ah (pv 6))))))))
    (Aw (AN (pv 1))))),?_⟩
   rfl';refine⟨⟨_,Ag.of v⟩,Fa (xs:=m) (λi σ k=>∃o p r c d g,σ=[some (.ref L),some (.int ((ls.take i).foldl Fz 0)),o,p,r,c,d,g]/\k=H) ⟨none,none,none,none,none,none,rfl,rfl⟩ (λi σ k ζ t=>by obtain⟨_,_,_,_,_,_,_,e⟩:=t;exact by rw[e];exact Ag.of v) ?_ ?_⟩;rotate_left;refine λσ Y u=>AL λy a=>?_;obtain⟨o,p,r,c,d,g,rfl,rfl⟩:=u;refine a ?_;clear a;rw[ab,DW];exact q;refine λi x σ Y U u=>AL λy a=>?_;obtain⟨o,p,r,c,d,g,rfl,rfl⟩:=u;refine a ?_;clear a;obtain⟨l,J,ae⟩:=MU I U;have af:=aa l (Bi J);refine AL λy a=>?_;obtain⟨ak,x1,z,A,rfl,V,W,h2,_⟩:=Ol ae;refine a ?_;clear a;obtain⟨P,C,rfl,D,G⟩:=P8 W;have ag:C.length=l.1.length:=(by rw[G.length,Aj]);refine⟨_,Ao.of V,rfl,?_⟩;refine⟨⟨_,Ag.of D⟩,Fa (xs:=C) (λj σ k=>∃c d g,σ=[some (.ref L),some (.int ((l.1.take j).foldl Oq ((ls.take i).foldl Fz 0))),some (.ref P),some z,some A,c,d,g]/\k=Y) ⟨c,d,g,rfl,rfl⟩ (λi σ k ζ t=>by obtain⟨_,_,_,_,e⟩:=t;exact by rw[e];exact Ag.of D) ?_ ?_⟩;rintro j al σ X Z ⟨M,N,O,rfl,rfl⟩;obtain⟨b,R,ah⟩:=MU G Z;obtain⟨tb,x0,rfl,ai⟩:=HS ah;have hz:=af b (Bi R);refine⟨_,Ao.of ai,rfl,⟨hz.1,by lia,by decide⟩,?_⟩;refine⟨some x0,some (.int b.2.1),some (.int b.2.2),?_,rfl⟩;rw[Xa R];rfl;rintro σ X ⟨M,N,O,rfl,rfl⟩;refine⟨some (.ref P),some z,some A,M,N,O,?_,rfl⟩;rw[ag,DW,Xa J];rfl
inductive F5 (K:Ai) (vs:List V) (H:Hp) (Q:VK):Prop where
 |mk (nt A t:Addr) (F:Addr->Prop) (W:Wd) (qs:List Qu) (inn:Int) (ord:A') (n:Int) (k:Nat) (q:Qu) (h0:vs=[.ref nt,.ref A,.ref t,.int n]) (h1:n=k) (h2:qs[k]?=some q) (h3:LC K F H nt A t W qs inn ord) (h4:KE W qs inn ord) (h5:∀(a:C')(w:Option Wt)(ls:List Lk)(ts:List Int)(H':Hp),Ac H H'->LU W inn ord q.1 q.2.1 q.2.2 0 a w ls ts->Q (.int (ls.foldl Fz 0)) H'):F5 K vs H Q
def fX (K:Ai):Sp:=λvs H Q ζ=>F5 K vs H Q
abbrev Ue(P w K mg base):=By P w K mg base "walked" 8 ["net", "answers", "table", "question"] (fX K)
def fY(B:BA mg)(Z:M9 P w K mg base)(aa:Ud P w K mg base)(F:Bq K "walked" "walked" Rj f fd)(z:mg "walked" = some (.ref f)):Ue P w K mg base:=by
 refine BV F z Oz (λC H Q E h=>?_) (λal A an s H C Q E hr h=>?_);obtain⟨j,A,t,F,W,qs,r,v,n,k,q,rfl,_⟩:=h;rfl;obtain⟨j,A,t,F,W,qs,r,v,n,k,q,rfl,rfl,d,e,ok,D⟩:=h;obtain⟨ai,T,R,us,Gs,Es,m,c,G,g⟩:=e.net;have ab:k<qs.length:=(Bf.mp d).1;have ae:k<c.length:=by rw[g.tq.len];exact ab
 have x:=AC ae;obtain⟨u,eq,I⟩:=g.tq.at_ k _ q x d;have af:Bj (c.map V.ref) (k:Int)=some (.ref c[k]):=BF (by rw[A6,x];rfl);obtain⟨o,p,J,M⟩:=ok.q q (Bi d)
 refine⟨_,(Ak (DM (A1 Z (Ab (pv 0) (Ab (pv 1) (Ab (pv 2) (Ab (As At (As At (pv 0) Ah) (pv 3)) Ae))))) (B6 (n:=4) rfl (AD (Ay (i:=4) Oz.nd) (AD (Ay (i:=5) Oz.nd) (AD (Ay (i:=6) Oz.nd) (AD (Ay (i:=7) Oz.nd) B5))))))
  (Aw (AN (A1 aa (Ab (pv 6) Ae))))),?_⟩
 rfl';refine Or.inr (Or.inl ⟨_,.ref R,Ao.of G,rfl,Or.inl ⟨_,.ref c[k],Ag.of g.er,af,j,A,t,c[k],u,F,W,r,v,q,rfl,e.caseH,e.tab,ok.ok,ok.sm,ok.ol,ok.irr,ok.inn,eq,I,o,p,J,M,λaj L T av wv N a w ls m ak O S hL U eT ha hw ag y=>?_⟩⟩);refine⟨_,Ao.of S,rfl,?_⟩;obtain⟨ah,_⟩:=S9 ok.ok ok.sm ok.inn y o p;refine⟨L,_,N,ls,rfl,U,ag,λl X b Y=>?_,D a w ls m _ O y⟩;have:=((ah l X).bo b Y).rng b.2.1 (by unfold AM;simp);have:=ok.ok.s5;lia
inductive Fm (K:Ai) (vs:List V) (H:Hp) (Q:VK):Prop where
 |mk (nt A t:Addr) (W:Wd) (n:Int) (h0:vs=[.ref nt,.int n]) (h1:Br K H nt A t W) (h2:(0<=n/\n<W.gs.length)) (h3:∀(D:Addr)(H':Hp),H D=none->Ac H H'->H' D=some (.lst ((Fh W.gs n).map V.int))->Q (.ref D) H'):Fm K vs H Q
def fZ (K:Ai):Sp:=λvs H Q ζ=>Fm K vs H Q
abbrev QA(P w K mg base):=By P w K mg base "of_sort" 1 ["net", "thing"] (fZ K)
def f0(B:BA mg)(F:Bq K "of_sort" "of_sort" Rk f fd)(b:mg "of_sort" = some (.ref f)):QA P w K mg base:=by
 refine BV F b Tk (λr H Q E h=>?_) (λL A M s H r Q E C h=>?_);obtain⟨u,A,t,W,n,rfl,_⟩:=h;rfl;obtain⟨u,A,t,W,n,rfl,v,x,q⟩:=h;obtain⟨S,T,R,us,G,I,c,J,qs,y,d⟩:=v.net;obtain⟨m,b⟩:=DL x.1;have j:m<W.gs.length:=(by lia);have o:m<c.length:=by rw[d.tg.len];exact j
 have k:W.gs[n.toNat]?=some W.gs[m]:=by rw[b,BK];exact AC j
 have g:=d.tg.at_ m _ _ (AC o) (AC j);have l:Bj (c.map V.ref) n=some (.ref c[m]):=by rw[b];exact BF (by rw[A6,AC o];rfl)
 generalize W.gs[m]=p at k g;generalize c[m]=z at l g
 have eq:Fh W.gs n=if p.1=("sort" : Str) then[p.2] else[]:=by unfold Fh;rw[k]
 refine⟨_,(Ak (DM (As At (As At (pv 0) Ah) (pv 1)) (B6 (n:=2) rfl (AD (Ay (i:=2) Tk.nd) (AD (Ay (i:=3) Tk.nd) B5))))
  (Ak (Bm (Bv Cf (pv 2) BE (Bu _)) (Aw (AN (Cj (Ab (pv 3) Ae)))) Bl)
  (Aw (AN (Cj Ae))))),?_⟩
 rfl';refine Or.inr (Or.inl ⟨_,.ref T,Ao.of y,rfl,Or.inl ⟨_,.ref z,Ag.of d.et,l,?_⟩⟩);refine⟨_,Ao.of g,rfl,?_⟩;refine⟨rfl,rfl,Ap (λh=>?_) (λh=>?_)⟩;have e:p.1=("sort" : Str):=V.str.inj (Bc h);refine⟨Ji,λD a=>q D _ a (A8 a) ?_⟩;rw[Aa,eq,An e];rfl;have e:p.1≠("sort" : Str):=λe=>h (A7 (by rw[e]));refine⟨by decide,λD a=>q D _ a (A8 a) ?_⟩;rw[Aa,eq,Al e];rfl
inductive Eb (K:Ai) (vs:List V) (H:Hp) (Q:VK):Prop where
 |mk (nt A t:Addr) (W:Wd) (v:V) (o:C') (h0:vs=[.ref nt,v]) (h1:Br K H nt A t W) (h2:((o=none/\v=.non)\/∃p ta,o=some p/\v=.ref ta/\Ao K H ta [.str p.1,.int p.2])) (h3:(∀p,o=some p->p.1=("thing" : Str)->0<=p.2/\p.2<W.gs.length)) (h4:∀(D:Addr)(H':Hp),H D=none->Ac H H'->H' D=some (.lst ((qA W.gs o).map V.int))->Q (.ref D) H'):Eb K vs H Q
def f5 (K:Ai):Sp:=λvs H Q ζ=>Eb K vs H Q
abbrev Uf(P w K mg base):=By P w K mg base "of_answer" 2 ["net", "answer"] (f5 K)
def f6(B:BA mg)(n:QA P w K mg base)(F:Bq K "of_answer" "of_answer" Rl f fd)(i:mg "of_answer" = some (.ref f)):Uf P w K mg base:=by
 refine BV F i Z8 (λj H Q E h=>?_) (λC A G s H j Q E u h=>?_);obtain⟨b,A,t,W,v,o,rfl,_⟩:=h;rfl;obtain⟨b,A,t,W,v,o,rfl,k,l,r,q⟩:=h;have d:qA W.gs o=[]->∀D,H D=none->Q (.ref D) (upd H D (.lst [])):=λe D a=>q D _ a (A8 a) (by rw[Aa,e];rfl)
 refine⟨_,(Ak (Bm (PW.pt (O7 (GY (He (pv 1))) (Rz (Bv NG (As At (pv 1) Ah) BE (Bu _))))) (Aw (AN (Cj Ae))) Bl)
  (Aw (AN (A1 n (Ab (pv 0) (Ab (As At (pv 1) Ah) Ae)))))),?_⟩
 rfl';rcases l with⟨rfl,rfl⟩|⟨p,x,rfl,rfl,g⟩;exact⟨rfl,Ap (λζ=>C5 ⟨by decide,d rfl⟩) (λh=>absurd (A7 rfl) h)⟩;refine⟨rfl,Ap (λh=>absurd (Bc h) (by simp)) (λζ=>?_)⟩;refine Or.inr (Or.inl ⟨_,.str p.1,g,rfl,rfl,rfl,Ap (λh=>?_) (λh=>?_)⟩);refine⟨by decide,d ?_⟩;refine Al λe=>?_;rw[e] at h;simp at h
 have c:p.1=("thing" : Str):=Classical.byContradiction λz=>h (by
  have:decide (V.str p.1=V.str "thing")=false:=El λy=>z (V.str.inj y)
  rw[this];rfl)
 refine Or.inr (Or.inl ⟨_,.int p.2,g,rfl,b,A,t,W,p.2,rfl,k,r p rfl c,λD m a s e=>q D m a s ?_⟩);rw[e]
 show some (HO.lst ((Fh W.gs p.2).map V.int))=some (HO.lst ((if p.1=("thing" : Str) then Fh W.gs p.2 else[]).map V.int))
 rw[An c]
def f7{s:AY}(h:W.ss[k]?=some s):BM W (k:Int)=s.1:=by unfold BM;rw[BK,h]
def Kb(h:W.sts[k]?=some s):Dl W (k:Int)=s.1:=by unfold Dl;rw[BK,h]
inductive EJ (K:Ai) (vs:List V) (H:Hp) (Q:VK):Prop where
 |mk (nt A t:Addr) (W:Wd) (v:V) (F:Addr->Prop) (bs:List AJ) (h0:vs=[.ref nt,.ref A,.ref t,v]) (h1:Br K H nt A t W) (h2:B9 W) (h3:A5 F H v (.lst (bs.map DO.D))) (h4:(∀b∈bs,Ca W b)) (h5:(bs.flatMap (A9 W)).length<=4000) (h6:∀(D:Addr)(H':Hp),H D=none->Ac H H'->H' D=some (.lst ((bs.flatMap (A9 W)).map V.int))->Q (.ref D) H'):EJ K vs H Q
def f8 (K:Ai):Sp:=λvs H Q ζ=>EJ K vs H Q
abbrev Ug(P w K mg base):=By P w K mg base "of_steps" 3 ["net", "answers", "table", "begun"] (f8 K)
def f9(B:BA mg)(a8:Qt P w K mg base)(a9:Uf P w K mg base)(F:Bq K "of_steps" "of_steps" Rm f fd)(C:mg "of_steps" = some (.ref f)):Ug P w K mg base:=by
 refine BV F C KH (λvs H a0 a1 h=>?_) (λaW A aZ s H vs a0 a1 hr h=>?_);obtain⟨J,A,t,W,a2,F,bs,rfl,_⟩:=h;rfl
 . obtain⟨J,A,t,W,a2,F,bs,rfl,L,ok,hv,aA,hl,a3⟩:=h
   obtain⟨a4,aR,aS,us,Gs,Es,ts,qt,qs,eN,N3⟩:=L.net;obtain⟨a,o,aB,b1,tv,b2,b3⟩:=L.tab;obtain⟨P,bv,rfl,eP,hb⟩:=P8 hv
   refine⟨_,(Ak (AI (i:=4) KH.nd (Cj Ae))
    (Ak (CJ Cz rfl (Dh (pv 3)) (B6 (n:=3) rfl (AD (Ay (i:=5) KH.nd) (AD (Ay (i:=6) KH.nd) (AD (Ay (i:=7) KH.nd) B5)))) (Aw (CJ Cz rfl (Dh (As At (As At (As At (pv 0) Ah) (pv 6)) Ah)) (B6 (n:=3) rfl (AD (Ay (i:=8) KH.nd) (AD (Ay (i:=9) KH.nd) (AD (Ay (i:=10) KH.nd) B5)))) (Aw (Bm (PW.pt (G2 (Bv Cf (pv 9) BE (Bu _)) (G1 (GY (Rw (A1 a8 (Ab (pv 2) (Ab (pv 7) (Ab (pv 8) Ae))))))))) (Ak (DF (Dj DE Et Eu Ew (pv 4) (Ab (pv 10) Ae)))
          (Aw (DF (Dj DE PySem.F.slot_list_extend PySem.F.type_list_extend NV (pv 4) (Ab (A1 a9 (Ab (pv 0) (Ab (As At (pv 1) (pv 10)) Ae))) Ae))))) Bl)))))
    (Aw (AN (pv 4))))),?_⟩
   rfl';refine⟨by decide,λD M=>?_⟩;obtain⟨aT,aC,s1,aD⟩:=new_at (o:=.lst []) M;rw[<-aC]
   refine⟨⟨_,Ag.of (s1 _ _ eP)⟩,Fa (xs:=bv) (λi σ q=>∃S T U r u v,σ=[some (.ref J),some (.ref A),some (.ref t),some (.ref P),some (.ref D),S,T,U,r,u,v]/\Ac H q/\q D=some (.lst (((bs.take i).flatMap (A9 W)).map V.int)))
    ⟨none,none,none,none,none,none,rfl,s1,by rw[aD,EM];rfl⟩ (λi σ q ζ aa=>by obtain⟨_,_,_,_,_,_,_,s,_⟩:=aa;exact Ag.of (s _ _ eP)) ?_ ?_⟩
   rotate_left;refine λσ a5 y=>AL λN c=>?_;obtain⟨S,T,U,r,u,v,rfl,g,O⟩:=y;refine c ?_;clear c;rw[hb.length,Aj,DW] at O;exact a3 D _ M g O;refine λi x σ a5 hx y=>AL λN c=>?_;obtain⟨S,T,U,r,u,v,rfl,g,O⟩:=y;refine c ?_;clear c;refine Ha ?_;intro Nx Cy;obtain⟨b,ak,aE⟩:=MU (hb.same g) hx;have al:=aA b (Bi ak);obtain⟨tb,x0,rfl,aF⟩:=HS aE;have aG:=al.rng b.2.1 (by unfold AM;simp);have aH:=al.st;obtain⟨n,hn⟩:=DL aG.1;obtain⟨k,hk⟩:=DL aH.1;have an:n<W.ss.length:=(by lia);have aI:k<W.sts.length:=(by lia);refine AL λN c=>?_;obtain⟨ah,a6,E1,a7,aU,aV,g4,⟨c0,⟨tG,c1,X⟩,_⟩⟩:=N3.sc.get an;refine c ?_;clear c;have ao:=AC aI;have Y:BM W b.2.1=W.ss[n].1:=by rw[hn];exact f7 g4
   have eG:Dl W b.2.2=W.sts[k].1:=by rw[hk];exact Kb ao
   have aJ:Bj (us.map V.ref) b.2.1=some (.ref ah):=by rw[hn];exact BF (by rw[A6,a7];rfl)
   have aq:=Oo (f:=A9 W) ak;have aP:=Op (f:=A9 W) (l:=bs) (i+1);rw[aq,AQ] at aP;refine⟨_,Ao.of aF,rfl,?_⟩;refine Or.inr (Or.inl ⟨_,.ref a4,Ao.of (g _ _ eN),rfl,Or.inl ⟨_,.ref ah,Ag.of (g _ _ N3.sc.top),aJ,Or.inr (Or.inl ⟨_,.ref a6,Ao.of (g _ _ c0),rfl,⟨_,Ag.of (g _ _ c1)⟩,?_⟩)⟩⟩)
   refine Fa (xs:=tG.map V.ref) (λj σ q=>∃r u v,σ=[some (.ref J),some (.ref A),some (.ref t),some (.ref P),some (.ref D),some x0,some (.int b.2.1),some (.int b.2.2),r,u,v]/\Ac H q/\q D=some (.lst (((bs.take i).flatMap (A9 W)++((BM W b.2.1).take j).flatMap (EW W b.2.2)).map V.int)))
    ⟨_,_,_,rfl,g,by rw[O,EM];simp⟩ (λj σ q ζ aa=>by obtain⟨_,_,_,_,s,_⟩:=aa;exact Ag.of (s _ _ c1)) ?_ ?_
   rotate_left;refine λσ E y=>AL λN c=>?_;obtain⟨r,u,v,rfl,d,I⟩:=y;refine c ?_;clear c;refine⟨_,_,_,_,_,_,rfl,d,?_⟩;rw[I,aq,Aj,X.len,Y,DW,<-Y];rfl;refine λj ai σ E hy y=>AL λN c=>?_;obtain⟨r,u,v,rfl,d,I⟩:=y;refine c ?_;clear c;refine Ha ?_;intro Nx Cy;obtain⟨tp,ar,rfl⟩:=getm hy;have au:j<W.ss[n].1.length:=by rw[<-X.len];exact(Bf.mp ar).1
   have Z:=AC au;have aw:=X.at_ j tp _ ar Z;have mp:=Ed au;generalize W.ss[n].1[j]=p at Z aw mp;have ab:=Oo (f:=EW W b.2.2) (show(BM W b.2.1)[j]?=some p by rw[Y];exact Z);have ae:=Op (f:=EW W b.2.2) (l:=BM W b.2.1) (j+1);rw[ab,AQ] at ae;have aX:(A9 W b).length=((BM W b.2.1).flatMap (EW W b.2.2)).length:=rfl
   have skip:¬(p.2.1=("by" : Str)/\(EA (Dl W b.2.2) p.1).isSome=true)->E D=some (.lst (((bs.take i).flatMap (A9 W)++((BM W b.2.1).take (j+1)).flatMap (EW W b.2.2)).map V.int)):=λaK=>by
    have:EW W b.2.2 p=[]:=Al aK;rw[I,ab,this,FM]
   refine⟨_,Ao.of (d _ _ aw),rfl,?_⟩;refine⟨rfl,rfl,Ap (λz=>?_) (λz=>Bw ?_)⟩;rotate_left;exact⟨_,_,_,rfl,d,skip λh=>z (A7 (by rw[h.1]))⟩;have z:p.2.1=("by" : Str):=V.str.inj (Bc z);refine⟨t,a,o,aB,W.sts,b.2.2,k,_,p.1,rfl,hk,d.seqT b1,⟨tv,d.seq b2,b3.same d⟩,ao,?_⟩;rw[<-eG]
   cases eg:EA (Dl W b.2.2) p.1 with
   |none =>
     refine⟨rfl,Ap (λh=>absurd h (by simp[Eg])) (λζ=>?_)⟩;exact⟨_,_,_,rfl,d,skip λh=>by rw[eg] at h;cases h.2⟩
   |some af =>
     refine⟨rfl,Ap (λζ=>?_) (λh=>absurd (by simp[Eg]) h)⟩;have ax:EW W b.2.2 p=p.2.2::Ei W.gs W.as p.2.2:=An ⟨z,by rw[eg];rfl⟩;have aL:=ok.by_ (Ed an) mp λaj=>by rw[z] at aj;exact absurd aj (by decide +kernel)
     obtain⟨m,C⟩:=DL aL.1;have Q:m<W.as.length:=(by lia);have ay:=JK (gs:=W.gs) (AC Q);rw[ax,Er] at ae;have R:Ac H (upd E D (.lst (((bs.take i).flatMap (A9 W)++((BM W b.2.1).take j).flatMap (EW W b.2.2)).map V.int++[.int p.2.2]))):=λai o e=>by rw[AH (AW e M)];exact d _ _ e
     have ag:(upd E D (.lst (((bs.take i).flatMap (A9 W)++((BM W b.2.1).take j).flatMap (EW W b.2.2)).map V.int++[.int p.2.2]))) D=some (.lst (((bs.take i).flatMap (A9 W)++((BM W b.2.1).take j).flatMap (EW W b.2.2)).map V.int++[.int p.2.2])):=Aa;refine⟨Or.inl ⟨rfl,_,Ag.of I⟩,_,I,by rw[Aj,AQ];exact MV (by lia),?_⟩;generalize upd E D (.lst (((bs.take i).flatMap (A9 W)++((BM W b.2.1).take j).flatMap (EW W b.2.2)).map V.int++[.int p.2.2]))=H4 at R ag ⊢;obtain⟨az,av,aM,aN,hc⟩:=(L.same R).ans.get Q;have aQ:Bj az p.2.2=some av:=by rw[C];exact BF aN
     refine⟨Or.inl ⟨rfl,_,Ag.of ag⟩,Or.inl ⟨az,av,aM,aQ,J,A,t,W,av,W.as[m],rfl,L.same R,?_,λpp e G=>ok.net.t pp (by rw[<-e];exact Ed Q) G,λD2 H5 aY s5 aO=>?_⟩⟩;rw[AC Q] at hc;rcases hc with⟨e1,G⟩|⟨pp,ta,e1,G,e3⟩;exact .inl ⟨B2 e1,G⟩;exact .inr ⟨pp,ta,B2 e1,G,e3⟩;refine⟨D,D2,_,_,rfl,rfl,s5 _ _ ag,aO,?_,?_⟩;have:=L1 W.gs W.as[m];rw[C,ay] at ae;rw[AQ,Aj,Aj,AQ,Ec];exact C9 (MV (by lia));refine⟨_,_,_,rfl,λai o e=>?_,?_⟩;rw[AH (AW e M)];exact s5 _ _ (R _ _ e);rw[Aa,ab,ax,C,ay]
     simp
inductive CZ (K:Ai) (vs:List V) (H:Hp) (Q:VK):Prop where
 |mk (nt A t:Addr) (W:Wd) (v:V) (F:Addr->Prop) (ws:List (List Ar)) (h0:vs=[.ref nt,v]) (h1:Br K H nt A t W) (h2:A5 F H v (.lst (ws.map CP.D))) (h3:(∀w∈ws,DU W.ss w)) (h4:(ws.flatMap (EE W.ss)).length<=4000) (h5:∀(D:Addr)(H':Hp),H D=none->Ac H H'->H' D=some (.lst ((ws.flatMap (EE W.ss)).map V.int))->Q (.ref D) H'):CZ K vs H Q
def gA (K:Ai):Sp:=λvs H Q ζ=>CZ K vs H Q
abbrev Uh(P w K mg base):=By P w K mg base "of_tellings" 2 ["net", "found"] (gA K)
def gB(B:BA mg)(ae:ON P w K mg base)(F:Bq K "of_tellings" "of_tellings" Rn f fd)(hm:mg "of_tellings" = some (.ref f)):Uh P w K mg base:=by
 refine BV F hm Mc (λvs H Q E h=>?_) (λaj A al s H vs Q E hr h=>?_);obtain⟨g,A,t,W,v,F,j,rfl,_⟩:=h;rfl
 . obtain⟨g,A,t,W,v,F,j,rfl,hC,hv,he,hl,q⟩:=h
   obtain⟨S,T,R,us,Gs,Es,ts,qt,qs,eN,N3⟩:=hC.net;obtain⟨P,wv,rfl,J,L⟩:=P8 hv
   refine⟨_,(Ak (AI (i:=2) Mc.nd (Cj Ae))
    (Ak (CJ Cz rfl (Dh (pv 1)) (Ay (i:=3) Mc.nd) (Ak (DM (A1 ae (Ab (pv 0) (Ab (As At (pv 3) (Pc Pd Ah)) Ae))) (B6 (n:=4) rfl (AD (Ay (i:=4) Mc.nd) (AD (Ay (i:=5) Mc.nd) (AD (Ay (i:=6) Mc.nd) (AD (Ay (i:=7) Mc.nd) B5))))))
     (Aw (Bm (Bv Cf (pv 6) BE (Bu _)) (Aw (DF (Dj DE Et Eu Ew (pv 2) (Ab (pv 7) Ae)))) Bl))))
    (Aw (AN (pv 2))))),?_⟩
   rfl';refine⟨by decide,λD k=>?_⟩;obtain⟨ai,af,M,ag⟩:=new_at (o:=.lst []) k;rw[<-af]
   refine⟨⟨_,Ag.of (M _ _ J)⟩,Fa (xs:=wv) (λi σ p=>∃r u y z C,σ=[some (.ref g),some (.ref P),some (.ref D),r,u,y,z,C]/\Ac H p/\p D=some (.lst (((j.take i).flatMap (EE W.ss)).map V.int)))
    ⟨none,none,none,none,none,rfl,M,by rw[ag,EM];rfl⟩ (λi σ p ζ ah=>by obtain⟨_,_,_,_,_,_,s,_⟩:=ah;exact Ag.of (s _ _ J)) ?_ ?_⟩
   rotate_left;refine λσ aa I=>AL λN a=>?_;obtain⟨r,u,y,z,C,rfl,c,d⟩:=I;refine a ?_;clear a;rw[L.length,Aj,DW] at d;exact q D _ k c d;refine λi x σ aa hx I=>AL λN a=>?_;obtain⟨r,u,y,z,C,rfl,c,d⟩:=I;refine a ?_;clear a;obtain⟨w,O,U⟩:=MU (L.same c) hx;have ew:=he w (Bi O);obtain⟨vv,m,X,mo,ab⟩:=ew;rw[X] at U;refine AL λN a=>?_;obtain⟨l,ms,mk,rfl,l1,l2,l3⟩:=JL U;refine a ?_;clear a;have et:Jz W.ss m=Ch W.ss w:=(by rw[X,PX]);have ak:=Op (f:=EE W.ss) (l:=j) i;have Y:=Oo (f:=EE W.ss) O;refine Or.inl ⟨_,.ref mk,Ag.of l1,l2,g,S,T,R,mk,us,Gs,Es,W.ss,m,rfl,Ao.of (c _ _ eN),N3.sc.same c,Ao.of l3,mo,ab,λtp Z=>?_⟩;rw[et] at Z;refine⟨_,Ao.of Z,rfl,?_⟩;refine⟨rfl,rfl,Ap (λh=>?_) (λh=>?_)⟩;have G:(Ch W.ss w).2.2.1=("by" : Str):=V.str.inj (Bc h);refine⟨Or.inl ⟨rfl,_,Ag.of d⟩,_,d,by rw[Aj];exact MV (by lia),?_⟩;refine⟨_,_,_,_,_,rfl,λb o e=>?_,?_⟩;rw[AH (AW e k)];exact c _ _ e;rw[Aa,Y,Bh];unfold EE;rw[An G];rfl;have G:(Ch W.ss w).2.2.1≠("by" : Str):=λe=>h (A7 (by rw[e]));refine⟨_,_,_,_,_,rfl,c,?_⟩;rw[d,Y];have:EE W.ss w=[]:=Al G;rw[this,FM]
inductive CH (K:Ai) (vs:List V) (H:Hp) (Q:VK):Prop where
 |mk (nt A t L T:Addr) (F:Addr->Prop) (W:Wd) (lv:List V) (ls:List Lk) (ts:List Int) (h0:vs=[.ref nt,.ref A,.ref t,.ref L,.ref T]) (h1:Br K H nt A t W) (h2:B9 W) (h3:H L=some (.lst lv)) (h4:Az F H lv (ls.map JB)) (h5:(∀l∈ls,HU W l)) (h6:H T=some (.lst (ts.map V.int))) (h7:(∀n∈ts,0<=n/\n<W.gs.length)) (h8:(Bo W ls ts).length<=4000) (h9:(∀q∈Bo W ls ts,0<=q/\q<((40:Nat):Int))) (h10:∀(D:Addr)(us:List Int)(H':Hp),H D=none->Ac H H'->H' D=some (.lst (us.map V.int))->(∀q,q∈us↔q∈Bo W ls ts)->us.Pairwise (· < ·)->Q (.ref D) H'):CH K vs H Q
def gC (K:Ai):Sp:=λvs H Q ζ=>CH K vs H Q
abbrev Ui(P w K mg base):=By P w K mg base "questions_of" 4 ["net", "answers", "table", "looks", "things"] (gC K)
theorem gD(B:BA mg)(ao:Ug P w K mg base)(aq:Uh P w K mg base)(ar:QA P w K mg base)(F:Bq K "questions_of" "questions_of" Ro f fd)(O:mg "questions_of" = some (.ref f)):Ui P w K mg base:=by
 refine BV F O M1 (λvs H ah ai h=>?_) (λa5 A a9 s H vs ah ai hr h=>?_);obtain⟨k,A,t,L,T,F,W,lv,ls,m,rfl,_⟩:=h;rfl;obtain⟨k,A,t,L,T,F,W,lv,ls,m,rfl,Q,ok,eL,S,au,eT,av,N,aw,aj⟩:=h;have a6:(ls.flatMap (DV W)).length<=4000:=by unfold Bo at N;rw[AQ] at N;lia
 refine⟨_,(Ak (AI (i:=5) M1.nd (Cj Ae))
  (Ak (CJ Cz rfl (Dh (pv 3)) (B6 (n:=3) rfl (AD (Ay (i:=6) M1.nd) (AD (Ay (i:=7) M1.nd) (AD (Ay (i:=8) M1.nd) B5)))) (Ak (DF (Dj DE PySem.F.slot_list_extend PySem.F.type_list_extend NV (pv 5) (Ab (A1 ao (Ab (pv 0) (Ab (pv 1) (Ab (pv 2) (Ab (pv 6) Ae))))) Ae)))
   (Aw (DF (Dj DE PySem.F.slot_list_extend PySem.F.type_list_extend NV (pv 5) (Ab (A1 aq (Ab (pv 0) (Ab (pv 7) Ae))) Ae))))))
  (Ak (CJ Cz rfl (Dh (pv 4)) (Ay (i:=9) M1.nd) (Aw (DF (Dj DE PySem.F.slot_list_extend PySem.F.type_list_extend NV (pv 5) (Ab (A1 ar (Ab (pv 0) (Ab (pv 9) Ae))) Ae)))))
  (Aw (AN (BH (ZQ rfl) B.b_sorted (Ab (Gy (ZP rfl) B.b_set (Ab (pv 5) Ae)) Ae))))))),?_⟩
 rfl';refine⟨by decide,λD hD=>?_⟩;obtain⟨a4,ax,s1,ay⟩:=new_at (o:=.lst []) hD;rw[<-ax];have R:∀{a:Hp}{zs:List V},Ac H a->Ac H (upd a D (.lst zs)):=λs b o e=>by rw[AH (AW e hD)];exact s _ _ e
 refine⟨⟨_,Ag.of (s1 _ _ eL)⟩,Fa (xs:=lv) (λi σ a=>∃E G I p,σ=[some (.ref k),some (.ref A),some (.ref t),some (.ref L),some (.ref T),some (.ref D),E,G,I,p]/\Ac H a/\a D=some (.lst (((ls.take i).flatMap (DV W)).map V.int)))
  ⟨none,none,none,none,rfl,s1,by rw[ay,EM];rfl⟩ (λi σ a ζ U=>by obtain⟨_,_,_,_,_,s,_⟩:=U;exact Ag.of (s _ _ eL)) ?_ ?_⟩
 refine λi x σ ak J X=>AL λNz d=>?_;obtain⟨E,G,I,p,rfl,q,u⟩:=X;refine d ?_;clear d;obtain⟨l,Y,az⟩:=MU (S.same q) J;have aa:=au l (Bi Y);refine AL λNz d=>?_;obtain⟨al,x1,x2,x3,rfl,er,h1,h2,_⟩:=Ol az;refine d ?_;clear d;have z:=Oo (f:=DV W) Y;have Z:=Op (f:=DV W) (l:=ls) (i+1);rw[z,AQ] at Z;have hq:(DV W l).length=(l.1.flatMap (A9 W)).length+(l.2.1.flatMap (EE W.ss)).length:=by unfold DV;rw[AQ]
 refine⟨_,Ao.of er,rfl,?_⟩;refine⟨Or.inl ⟨rfl,_,Ag.of u⟩,k,A,t,W,x1,F,l.1,rfl,Q.same q,ok,h1,aa.bo,by lia,λv r M c j=>?_⟩;refine⟨D,v,_,_,rfl,rfl,c _ _ u,j,by rw[Aj,Aj];exact C9 (MV (by lia)),?_⟩;have g:=R (zs:=((ls.take i).flatMap (DV W)).map V.int++(l.1.flatMap (A9 W)).map V.int) (q.trans c);have C:(upd r D (.lst (((ls.take i).flatMap (DV W)).map V.int++(l.1.flatMap (A9 W)).map V.int))) D=some (.lst (((ls.take i).flatMap (DV W)).map V.int++(l.1.flatMap (A9 W)).map V.int)):=Aa
 have ab:A5 F (upd r D (.lst (((ls.take i).flatMap (DV W)).map V.int++(l.1.flatMap (A9 W)).map V.int))) x2 (.lst (l.2.1.map CP.D)):=by
  obtain⟨r',y1,y2,y3,e',ae,_,a0,_⟩:=Ol ((MU (S.same g) J).elim λl' h=>by
   have:l'=l:=B2 (h.1.symm.trans Y)
   rw[this] at h;exact h.2)
  have:al=r':=V.ref.inj e';subst this;have a1:=(Keeps.one (H:=r) (o:=.lst (((ls.take i).flatMap (DV W)).map V.int++(l.1.flatMap (A9 W)).map V.int)) (c _ _ u)).tup (c _ _ er);rw[a1] at ae;have e2:=HO.tup.inj (B2 ae);cases e2;exact a0
 generalize upd r D (.lst (((ls.take i).flatMap (DV W)).map V.int++(l.1.flatMap (A9 W)).map V.int))=H4 at g C ab ⊢;refine⟨Or.inl ⟨rfl,_,Ag.of C⟩,k,A,t,W,x2,F,l.2.1,rfl,Q.same g,ab,aa.en,by lia,λD3 H5 a7 s5 a2=>?_⟩;refine⟨D,D3,_,_,rfl,rfl,s5 _ _ C,a2,by rw[AQ,Aj,Aj,Aj];exact C9 (MV (by lia)),?_⟩;refine⟨_,_,_,_,rfl,R (g.trans s5),?_⟩;rw[Aa,z];unfold DV;rw[Bh,Bh,Ge];refine λσ ak X=>AL λNz d=>?_;obtain⟨E,G,I,p,rfl,q,u⟩:=X;refine d ?_;clear d;rw[S.length,Aj,DW] at u
 refine⟨⟨_,Ag.of (q _ _ eT)⟩,Fa (xs:=m.map V.int) (λi σ a=>∃p,σ=[some (.ref k),some (.ref A),some (.ref t),some (.ref L),some (.ref T),some (.ref D),E,G,I,p]/\Ac H a/\a D=some (.lst ((ls.flatMap (DV W)++(m.take i).flatMap (Fh W.gs)).map V.int)))
  ⟨_,rfl,q,by rw[u,EM];simp⟩ (λi σ a ζ U=>by obtain⟨_,_,s,_⟩:=U;exact Ag.of (s _ _ eT)) ?_ ?_⟩
 rintro i x σ r J ⟨p,rfl,c,j⟩;obtain⟨n,af,rfl⟩:=getm J;have z:=Oo (f:=Fh W.gs) af;have Z:=Op (f:=Fh W.gs) (l:=m) (i+1);rw[z,AQ] at Z;have ag:=N;unfold Bo at ag;rw[AQ] at ag;refine⟨Or.inl ⟨rfl,_,Ag.of j⟩,k,A,t,W,n,rfl,Q.same c,av n (Bi af),λv H4 M g C=>?_⟩;refine⟨D,v,_,_,rfl,rfl,g _ _ j,C,by rw[Aj,Aj,AQ];exact C9 (MV (by lia)),?_⟩;refine⟨_,rfl,R (c.trans g),?_⟩;rw[Aa,z]
 simp
 rintro σ r ⟨a8,rfl,c,j⟩;rw[Aj,DW] at j;refine⟨D,Bo W ls m,rfl,Ag.of j,N,λan hz=>?_⟩;refine⟨an,Bo W ls m,rfl,Aa,λds hd hs=>?_,λv ms a3 O M=>?_⟩;have:=JM hd λy hy=>aw y (hs y hy);lia;exact aj v ms _ (c.free ((A8 hz).free M)) ((c.trans (A8 hz)).trans (A8 M)) Aa O a3
inductive Ig (K:Ai) (vs:List V) (H:Hp) (Q:VK):Prop where
 |mk (nt A t:Addr) (F:Addr->Prop) (W:Wd) (qs:List Qu) (inn:Int) (ord:A') (n:Int) (k:Nat) (q:Qu) (h0:vs=[.ref nt,.ref A,.ref t,.int n]) (h1:n=k) (h2:qs[k]?=some q) (h3:LC K F H nt A t W qs inn ord) (h4:KE W qs inn ord) (h5:(∀s∈W.ss,s.1.length<=3)) (h6:W.as.length<=40) (h7:∀(D:Addr)(us:List Int)(a:C')(w:Option Wt)(ls:List Lk)(ts:List Int)(H':Hp),H D=none->Ac H H'->LU W inn ord q.1 q.2.1 q.2.2 0 a w ls ts->H' D=some (.lst (us.map V.int))->(∀q,q∈us↔q∈Bo W ls ts)->us.Pairwise (· < ·)->Q (.ref D) H'):Ig K vs H Q
def Kc (K:Ai):Sp:=λvs H Q ζ=>Ig K vs H Q
abbrev Uj(P w K mg base):=By P w K mg base "used" 8 ["net", "answers", "table", "question"] (Kc K)
def gE(B:BA mg)(aa:M9 P w K mg base)(ab:Ui P w K mg base)(F:Bq K "used" "used" Rp f fd)(d:mg "used" = some (.ref f)):Uj P w K mg base:=by
 refine BV F d OA (λC H Q E h=>?_) (λao A ar s H C Q E hr h=>?_);obtain⟨e,A,t,F,W,qs,x,y,n,k,q,rfl,_⟩:=h;rfl;obtain⟨e,A,t,F,W,qs,x,y,n,k,q,rfl,rfl,g,c,ok,G,hA,I⟩:=h;obtain⟨ai,T,R,us,Gs,Es,j,b,J,l⟩:=c.net;have ae:k<qs.length:=(Bf.mp g).1;have af:k<b.length:=by rw[l.tq.len];exact ae
 have z:=AC af;obtain⟨u,eq,M⟩:=l.tq.at_ k _ q z g;have ag:Bj (b.map V.ref) (k:Int)=some (.ref b[k]):=BF (by rw[A6,z];rfl);obtain⟨r,v,N,O⟩:=ok.q q (Bi g)
 refine⟨_,(Ak (DM (A1 aa (Ab (pv 0) (Ab (pv 1) (Ab (pv 2) (Ab (As At (As At (pv 0) Ah) (pv 3)) Ae))))) (B6 (n:=4) rfl (AD (Ay (i:=4) OA.nd) (AD (Ay (i:=5) OA.nd) (AD (Ay (i:=6) OA.nd) (AD (Ay (i:=7) OA.nd) B5))))))
  (Aw (AN (A1 ab (Ab (pv 0) (Ab (pv 1) (Ab (pv 2) (Ab (pv 6) (Ab (pv 7) Ae))))))))),?_⟩
 rfl';refine Or.inr (Or.inl ⟨_,.ref R,Ao.of J,rfl,Or.inl ⟨_,.ref b[k],Ag.of l.er,ag,e,A,t,b[k],u,F,W,x,y,q,rfl,c.caseH,c.tab,ok.ok,ok.sm,ok.ol,ok.irr,ok.inn,eq,M,r,v,N,O,λaj L T av wv S a w ls j ak m U hL X Y ha hw ah o=>?_⟩⟩);refine⟨_,Ao.of U,rfl,?_⟩;obtain⟨p,Z,aq⟩:=S9 ok.ok ok.sm ok.inn o r v;have l8:=HJ o;refine⟨e,A,t,L,T,_,W,S,ls,j,rfl,c.caseH.same m,ok.ok,X,ah,p,Y,Z,Z0 G p (by lia) (by lia),λal hy=>?_,λD us an hD s2 eD d hp=>I D us a w ls j _ (m.free hD) (m.trans s2) o eD d hp⟩;have:=Wz ok.ok ok.sm p hy;lia
def Uk:([]:List V).length+1+1+1+1<=sizeLine:=by decide
inductive DC (K:Ai) (vs:List V) (H:Hp) (Q:VK):Prop where
 |mk (nt A t:Addr) (F:Addr->Prop) (W:Wd) (qs:List Qu) (inn:Int) (ord:A') (n:Int) (k:Nat) (q:Qu) (h0:vs=[.ref nt,.ref A,.ref t,.int n]) (h1:n=k) (h2:qs[k]?=some q) (h3:LC K F H nt A t W qs inn ord) (h4:KE W qs inn ord) (h5:(∀s∈W.ss,s.1.length<=3)) (h6:W.as.length<=40) (h7:∀(r D:Addr)(v tv:V)(us:List Int)(a:C')(w:Option Wt)(ls:List Lk)(ts:List Int)(H':Hp),Ac H H'->LU W inn ord q.1 q.2.1 q.2.2 0 a w ls ts->H' r=some (.tup [v,tv,.int (ls.foldl Fz 0),.ref D])->Aq K H' v (.tup [B7 a,LO w])->Aq K H' tv (.lst (ls.map LQ))->H' D=some (.lst (us.map V.int))->(∀q,q∈us↔q∈Bo W ls ts)->us.Pairwise (· < ·)->Q (.ref r) H'):DC K vs H Q
def gF (K:Ai):Sp:=λvs H Q ζ=>DC K vs H Q
abbrev QC(P w K mg base):=By P w K mg base "_law_asked" 9 ["_law_net", "_law_answers_here", "_law_table_here", "_law_question_here"] (gF K)
def gH(B:BA mg)(X:Ub P w K mg base)(Y:Uc P w K mg base)(Z:Ue P w K mg base)(aa:Uj P w K mg base)(F:Bq K "_law_asked" "_law_asked" Rq f fd)(p:mg "_law_asked" = some (.ref f)):QC P w K mg base:=by
 refine BV F p Tl (λN H Q E h=>?_) (λal A ax s H N Q E y h=>?_);obtain⟨b,A,t,F,W,qs,e,g,n,k,q,rfl,_⟩:=h;rfl;obtain⟨b,A,t,F,W,qs,e,g,n,k,q,rfl,rfl,j,l,ok,O,ab,R⟩:=h
 refine⟨_,(Ak (AI (i:=4) Tl.nd (A1 X (Ab (pv 0) (Ab (pv 1) (Ab (pv 2) (Ab (pv 3) Ae))))))
  (Ak (AI (i:=5) Tl.nd (A1 Y (Ab (pv 0) (Ab (pv 1) (Ab (pv 2) (Ab (pv 3) Ae))))))
  (Aw (AN (Ba (Ab (pv 4) (Ab (pv 5) (Ab (A1 Z (Ab (pv 0) (Ab (pv 1) (Ab (pv 2) (Ab (pv 3) Ae))))) (Ab (A1 aa (Ab (pv 0) (Ab (pv 1) (Ab (pv 2) (Ab (pv 3) Ae))))) Ae))))))))),?_⟩
 rfl';refine⟨b,A,t,F,W,qs,e,g,(k:Int),k,q,rfl,rfl,j,l,ok,λv a w ls S aj z T m=>?_⟩;refine⟨b,A,t,F,W,qs,e,g,(k:Int),k,q,rfl,rfl,j,l.same z,ok,λD lv a2 w2 an ao ak hD C U ae ag=>?_⟩;obtain⟨_,_,c,d⟩:=Og m ag;subst c d;have L:=z.trans C;refine⟨b,A,t,F,W,qs,e,g,(k:Int),k,q,rfl,rfl,j,l.same L,ok,λa3 w3 aq ar H3 G ah=>?_⟩;obtain⟨_,_,c,d⟩:=Og m ah;subst c d;have M:=L.trans G;refine⟨b,A,t,F,W,qs,e,g,(k:Int),k,q,rfl,rfl,j,l.same M,ok,O,ab,λI us a4 w4 au av H4 aw J ai af p V=>?_⟩;obtain⟨_,_,c,d⟩:=Og m ai;subst c d;refine⟨Uk,λr y=>?_⟩;have u:=A8 (o:=.tup [v,.ref D,.int (ls.foldl Fz 0),.ref I]) y;have x:=(G.trans J).trans u;exact R r I v (.ref D) us a w ls S _ ((M.trans J).trans u) m Aa (T.dt.same (C.trans x)) (.lst (Ag.of (x _ _ U)) (ae.dts.same x)) (u _ _ af) p V
def KY:([]:List V).length+1+1+1+1<=sizeLine:=by decide
def FK (n k:Nat):Nat:=if k=0 then n-1 else k-1
def IE (c:Int) (k:Nat):Int:=c*48271%65521/(3*(k:Int)+1)%4
def OP (n k:Nat) (r:Ck):Ck:=(r.1,("to" : Str),(r.2.2+(k:Int))%(n:Int))
def KZ (ss:List AY) (ng nq:Nat) (c:Int) (k:Nat):AY:=
 if IE c k=0 then([],[]) else if IE c k=1 then ss.getD (FK ss.length k) ([],[]) else
  ((ss.getD k ([],[])).1.reverse.map (OP ss.length k),if IE c k=2 then(ss.getD k ([],[])).2.map λo=>(o.1,o.2.1,("by" : Str),c%(nq:Int)) else(ss.getD (FK ss.length k) ([],[])).2.reverse.map λo=>(o.1,o.2.1,("thing" : Str),c%(ng:Int)))
def Ih(h:k<n):FK n k<n:=by unfold FK;split<;>lia
variable {v:V}
set_option tactic.hygienic true in
def Ii{xs:List V}(a:k<xs.length)(h:xs[FK xs.length k]?=some v):Bj xs ((k:Int)-1)=some v:=by
 unfold FK at h;split at h;rename_i e;rw[e];exact Jh h;rename_i e;rw[show(k:Int)-1=((k-1:Nat):Int) by lia];exact BF h
inductive C0 (K:Ai) (vs:List V) (H:Hp) (Q:VK):Prop where
 |mk (nt S T R:Addr) (us Gs Es ts qt:List Addr) (ss:List AY) (gs:List (Str×Int)) (qs:List Qu) (c:Int) (k:Nat) (h0:vs=[.ref nt,.int c,.int k]) (h1:H nt=some (.tup [.ref S,.ref T,.ref R])) (h2:Fu H S T R us Gs Es ts qt ss gs qs) (h3:k<ss.length) (h4:ss.length<=100) (h5:1<=gs.length) (h6:1<=qs.length) (h7:(∀s∈ss,s.1.length<=10/\s.2.length<=10)) (h8:∀(u G E:Addr)(H':Hp),Ac H H'->H G=none->H E=none->G≠E->G8 H' u G E (KZ ss gs.length qs.length c k)->Q (.ref u) H'):C0 K vs H Q
def gI (K:Ai):Sp:=λvs H Q ζ=>C0 K vs H Q
abbrev Ul(P w K mg base):=By P w K mg base "_law_turned" 1 ["_law_net", "_law_cell", "_law_k"] (gI K)
theorem gJ(B:BA mg)(F:Bq K "_law_turned" "_law_turned" MA f fd)(hm:mg "_law_turned" = some (.ref f)):Ul P w K mg base:=by
 refine BV F hm M3 (λvs H Q a9 aq=>?_) (λaL aH aP s H vs Q a9 h aq=>?_);obtain⟨nt,ay,az,a0,us,Gs,Es,ts,qt,ss,gs,qs,c,k,rfl,_⟩:=aq;rfl
 . obtain⟨nt,ay,az,a0,us,Gs,Es,ts,qt,ss,gs,qs,c,k,rfl,eN,L,hk,aO,a2,q1,hb,ak⟩:=aq
   refine⟨_,(Ak (AI (i:=3) M3.nd (As At (pv 0) Ah))
    (Ak (AI (i:=4) M3.nd (Au AZ (Au En (Au AZ (Au Em (pv 1) Ah) Ah) (Au Gx (Au Em Ah (pv 2)) Ah)) Ah))
    (Ak (Bm (Bv Cf (pv 4) Ah (Bu _)) (Aw (AN (Ba (Ab (Cj Ae) (Ab (Cj Ae) Ae))))) Bl)
    (Ak (Bm (Bv Cf (pv 4) Ah (Bu _)) (Aw (AN (Ba (Ab (Gy I7 B.b_list (Ab (As At (As At (pv 3) (Au NE (pv 2) Ah)) Ah) Ae)) (Ab (Gy I7 B.b_list (Ab (As At (As At (pv 3) (Au NE (pv 2) Ah)) Ah) Ae)) Ae))))) Bl)
    (Ak (Pl (i:=5) M3.nd rfl (Or.inl rfl) (te:=IU (F9 (Fp (Hm K) (Cr 0) (tC (.int ((0:Nat):Int)))) (F9 (tC (.str "to")) (F9 (Fp (rI (λζ j=>0<j) λi j=>.int (i%j)) (Fp (Hh λi j=>.int (i+j)) (Fp (Hm K) (Cr 0) (tC (.int ((2:Nat):Int)))) (Cr 1)) (MF (λxs H Q=>mL xs λx n=>IT K x H n/\Q (.int n) H) (F9 (Cr 2) FS))) FS)))) rfl Cn (HV rfl B.b_reversed (Ab (As At (As At (pv 3) (pv 2)) Ah) Ae)) (λζ ζ ζ ζ ζ=>(Ay (i:=0) Cn.nd)) (λζ ζ ζ ζ ζ=>Hs) (λζ ζ ζ ζ ζ=>(Ba (Ab (As At (pv 0) Ah) (Ab BE (Ab (Au AZ (Au Gx (As At (pv 0) Ah) (pv 1)) (BH Di B.b_len (Ab (pv 2) Ae))) Ae))))))
    (Ak (Pl (i:=6) M3.nd rfl (Or.inl rfl) (te:=IU (F9 (Fp (Hm K) (Cr 0) (tC (.int ((0:Nat):Int)))) (F9 (Fp (Hm K) (Cr 0) (tC (.int ((1:Nat):Int)))) (F9 (tC (.str "thing")) (F9 (Fp (rI (λζ j=>0<j) λi j=>.int (i%j)) (Cr 1) (MF (λxs H Q=>mL xs λx n=>IT K x H n/\Q (.int n) H) (F9 (Fp (Hm K) (Cr 2) (tC (.int ((1:Nat):Int)))) FS))) FS))))) rfl Co (HV rfl B.b_reversed (Ab (As At (As At (pv 3) (Au NE (pv 2) Ah)) Ah) Ae)) (λζ ζ ζ ζ ζ=>(Ay (i:=0) Co.nd)) (λζ ζ ζ ζ ζ=>Hs) (λζ ζ ζ ζ ζ=>(Ba (Ab (As At (pv 0) Ah) (Ab (As At (pv 0) Ah) (Ab BE (Ab (Au AZ (pv 1) (BH Di B.b_len (Ab (As At (pv 2) Ah) Ae))) Ae)))))))
    (Ak (Bm (Bv Cf (pv 4) Ah (Bu _)) (Aw (Pl (i:=6) M3.nd rfl (Or.inl rfl) (te:=IU (F9 (Fp (Hm K) (Cr 0) (tC (.int ((0:Nat):Int)))) (F9 (Fp (Hm K) (Cr 0) (tC (.int ((1:Nat):Int)))) (F9 (tC (.str "by")) (F9 (Fp (rI (λζ j=>0<j) λi j=>.int (i%j)) (Cr 1) (MF (λxs H Q=>mL xs λx n=>IT K x H n/\Q (.int n) H) (F9 (Fp (Hm K) (Cr 2) (tC (.int ((2:Nat):Int)))) FS))) FS))))) rfl Cp (Dh (As At (As At (pv 3) (pv 2)) Ah)) (λζ ζ ζ ζ ζ=>(Ay (i:=0) Cp.nd)) (λζ ζ ζ ζ ζ=>Hs) (λζ ζ ζ ζ ζ=>(Ba (Ab (As At (pv 0) Ah) (Ab (As At (pv 0) Ah) (Ab BE (Ab (Au AZ (pv 1) (BH Di B.b_len (Ab (As At (pv 2) Ah) Ae))) Ae)))))))) Bl)
    (Aw (AN (Ba (Ab (pv 5) (Ab (pv 6) Ae)))))))))))),?_⟩
   try dsimp only[AE,Cx.nox,Cx.wish]
   refine Or.inr (Or.inl ⟨_,.ref ay,Ao.of eN,rfl,?_⟩);refine⟨Or.inr ⟨by decide,by decide⟩,(by show(0:Int)<65521;decide),Or.inl ⟨by decide,by decide⟩,⟨by show(0:Int)<3*(k:Int)+1;lia,by show 3*(k:Int)+1<1073741824;lia⟩,(by show(0:Int)<4;decide),?_⟩;dsimp only[Gw];rw[show c*48271%65521/(3*(k:Int)+1)%4=IE c k from rfl];refine⟨rfl,rfl,Ap (λc1=>?_) (λc1=>?_)⟩
   have e1:IE c k=0:=V.int.inj (Bc c1);refine⟨by decide,λG M=>?_⟩;obtain⟨aa,ar,a,C⟩:=new_at (o:=.lst []) M;rw[<-ar];refine⟨by decide,λN E=>?_⟩;obtain⟨Y,ae,T,eE⟩:=new_at (o:=.lst []) E;rw[<-ae];refine⟨BS,λu U=>?_⟩;have d:=A8 (o:=.tup [.ref G,.ref N]) U;refine ak u G N _ ((a.trans T).trans d) M (a.free E) (AW C E) ?_;unfold KZ;rw[An e1];exact⟨Aa,⟨[],(T.trans d) _ _ C,RT.nil⟩,⟨[],d _ _ eE,RT.nil⟩⟩;have e1:¬IE c k=0:=λe=>c1 (A7 (by rw[e]));have O:=Ih hk;refine AL λNz af=>?_;obtain⟨u0,G0,aB,a2,aI,aJ,g4,⟨c0,⟨tG,b1,Z⟩,⟨tE,d1,d2⟩⟩⟩:=L.sc.get hk;refine af ?_;clear af;refine AL λNz af=>?_;obtain⟨u9,G9,E9,aA,aK,f3,f4,⟨c9,⟨a3,aC,aD⟩,⟨al,au,X⟩⟩⟩:=L.sc.get O;refine af ?_;clear af;have aM:=hb _ (Ed hk);have aN:=hb _ (Ed O);have a4:=L.sc.lu;have a8:Bj (us.map V.ref) (k:Int)=some (.ref u0):=BF (by rw[A6,a2];rfl);have ax:Bj (us.map V.ref) ((k:Int)-1)=some (.ref u9):=Ii (by rw[Aj];lia) (by rw[Aj,a4,A6,aA];rfl);have a5:ss.getD k ([],[])=ss[k]:=by rw[BC,g4];rfl
   have a6:ss.getD (FK ss.length k) ([],[])=ss[FK ss.length k]:=by rw[BC,f4];rfl
   have top:=L.sc.top;refine⟨rfl,rfl,Ap (λc2=>?_) (λc2=>?_)⟩;have e2:IE c k=1:=V.int.inj (Bc c2);refine Or.inl ⟨_,.ref u9,Ag.of top,ax,Or.inr (Or.inl ⟨_,.ref G9,Ao.of c9,rfl,G9,_,rfl,Or.inl (Ag.of aC),λG M=>?_⟩)⟩;obtain⟨aa,ar,a,C⟩:=new_at (o:=.lst (a3.map V.ref)) M;rw[<-ar];refine Or.inl ⟨_,.ref u9,Ag.of (a _ _ top),ax,Or.inr (Or.inl ⟨_,.ref E9,Ao.of (a _ _ c9),rfl,E9,_,rfl,Or.inl (Ag.of (a _ _ au)),λN E=>?_⟩)⟩;obtain⟨Y,ae,T,eE⟩:=new_at (o:=.lst (al.map V.ref)) E;rw[<-ae];refine⟨BS,λu U=>?_⟩;have d:=A8 (o:=.tup [.ref G,.ref N]) U;refine ak u G N _ ((a.trans T).trans d) M (a.free E) (AW C E) ?_;unfold KZ;rw[Al e1,An e2,a6];exact⟨Aa,⟨a3,(T.trans d) _ _ C,aD.same ((a.trans T).trans d)⟩,⟨al,d _ _ eE,X.same ((a.trans T).trans d)⟩⟩;have e2:¬IE c k=1:=λe=>c2 (A7 (by rw[e]))
   refine Or.inl ⟨_,.ref u0,Ag.of top,a8,Or.inr (Or.inl ⟨_,.ref G0,Ao.of c0,rfl,G0,tG.map V.ref,rfl,Ag.of b1,WM (xs:=tG.map V.ref) (λD i g m=>∃q:List Addr,g=q.map V.ref/\Ac H m/\m D=some (.lst g)/\RT ET m q ((ss[k].1.reverse.take i).map (OP ss.length k)))
    (λD y=>⟨[],rfl,A8 y,Aa,RT.nil⟩) (λD i g m ag=>by obtain⟨_,_,s,_⟩:=ag;exact Ag.of (s _ _ b1)) (λD i a1 g aa RR y W z ab=>?_) (λG g aa M z=>?_)⟩)⟩
   obtain⟨q,rfl,A,R,rt⟩:=z;rw[<-List.map_reverse,A6] at W;obtain⟨tp,I,rfl⟩:=F6.mp W;have t:=(Bf.mp I).1;rw[List.length_reverse] at t;have h:ss[k].1.reverse[i]?=some (ss[k].1.reverse[i]'(by rw[List.length_reverse,<-Z.len];exact t)):=AC _;generalize ss[k].1.reverse[i]'(by rw[List.length_reverse,<-Z.len];exact t)=r at h
   have av:H tp=some (.tup (ET r)):=by
    rw[List.getElem?_reverse t] at I;rw[List.getElem?_reverse (by rw[<-Z.len];exact t),<-Z.len] at h;exact Z.at_ _ _ _ I h
   have S:=A _ _ av;have lt:=rt.len;rw[Aj,E5] at lt;refine Or.inr (Or.inl ⟨_,.str r.1,Ao.of S,rfl,Or.inr (Or.inl ⟨_,.int r.2.2,Ao.of S,rfl,_,Or.inl ⟨_,Ag.of (A _ _ top),rfl⟩,(by show(0:Int)<((us.map V.ref).length:Int);rw[Aj];lia),G7,λp O=>?_⟩)⟩)
   have eo:HO.tup [.str r.1,.str "to",.int ((r.2.2+(k:Int))%((us.map V.ref).length:Int))]=.tup (ET (OP ss.length k r)):=by
    rw[show(us.map V.ref).length=ss.length by rw[Aj,a4]];rfl
   show RR (.ref p) (upd aa p (HO.tup [.str r.1,.str "to",.int ((r.2.2+(k:Int))%((us.map V.ref).length:Int))]));rw[eo];obtain⟨Y,ae,a,ep⟩:=new_at (o:=.tup (ET (OP ss.length k r))) O;rw[<-ae]
   have ah:RT ET Y (q++[p]) ((ss[k].1.reverse.take (i+1)).map (OP ss.length k)):=by
    rw[List.take_add_one,h,Bh];exact(rt.same a).snoc ep
   rw[List.length_reverse] at lt;refine ab _ _ (a _ _ R) (by rw[Aj];exact BP (by lia)) ⟨q++[p],by rw[Bh];rfl,λb o e=>?_,Aa,ah.keeps (Keeps.one (a _ _ R))⟩;rw[AH (AW e y)];exact a _ _ (A _ _ e);obtain⟨q,rfl,A,C,rt⟩:=z;rw[Aj,Z.len,List.take_of_length_le (l:=ss[k].1.reverse) (by rw[List.length_reverse];exact AG _)] at rt
   refine Or.inl ⟨_,.ref u9,Ag.of (A _ _ top),ax,Or.inr (Or.inl ⟨_,.ref E9,Ao.of (A _ _ c9),rfl,E9,al.map V.ref,rfl,Ag.of (A _ _ au),WM (xs:=al.map V.ref) (λD i g m=>∃q:List Addr,g=q.map V.ref/\Ac aa m/\m D=some (.lst g)/\RT Ct m q ((ss[FK ss.length k].2.reverse.take i).map λo=>(o.1,o.2.1,("thing" : Str),c%(gs.length:Int))))
    (λD y=>⟨[],rfl,A8 y,Aa,RT.nil⟩) (λD i g m ag=>by obtain⟨_,_,s,_⟩:=ag;exact Ag.of (s _ _ (A _ _ au))) (λD i a1 g Y RR y W z ab=>?_) (λN g Y E z=>?_)⟩)⟩
   obtain⟨an,rfl,J,R,ai⟩:=z;rw[<-List.map_reverse,A6] at W;obtain⟨tp,I,rfl⟩:=F6.mp W;have t:=(Bf.mp I).1;rw[List.length_reverse] at t;have h:ss[FK ss.length k].2.reverse[i]?=some (ss[FK ss.length k].2.reverse[i]'(by rw[List.length_reverse,<-X.len];exact t)):=AC _;generalize ss[FK ss.length k].2.reverse[i]'(by rw[List.length_reverse,<-X.len];exact t)=r at h;have v:=A.trans J
   have av:H tp=some (.tup (Ct r)):=by
    rw[List.getElem?_reverse t] at I;rw[List.getElem?_reverse (by rw[<-X.len];exact t),<-X.len] at h;exact X.at_ _ _ _ I h
   have S:=v _ _ av;have lt:=ai.len;rw[Aj,E5,List.length_reverse] at lt;have aE:(ts.map V.ref).length=gs.length:=(by rw[Aj,L.tg.len]);refine Or.inr (Or.inl ⟨_,.str r.1,Ao.of S,rfl,Or.inr (Or.inl ⟨_,.str r.2.1,Ao.of S,rfl,Or.inr (Or.inl ⟨_,.ref az,Ao.of (v _ _ eN),rfl,_,Or.inl ⟨_,Ag.of (v _ _ L.et),rfl⟩,(by show(0:Int)<((ts.map V.ref).length:Int);lia),KY,λp O=>?_⟩)⟩)⟩);show RR (.ref p) (upd Y p (HO.tup [.str r.1,.str r.2.1,.str "thing",.int (c%((ts.map V.ref).length:Int))]));rw[aE];have a:=A8 (o:=.tup (Ct (r.1,r.2.1,("thing" : Str),c%(gs.length:Int)))) O;have ep:(upd Y p (.tup (Ct (r.1,r.2.1,("thing" : Str),c%(gs.length:Int))))) p=some (.tup (Ct (r.1,r.2.1,("thing" : Str),c%(gs.length:Int)))):=Aa
   have ah:RT Ct (upd Y p (.tup (Ct (r.1,r.2.1,("thing" : Str),c%(gs.length:Int))))) (an++[p]) ((ss[FK ss.length k].2.reverse.take (i+1)).map λo=>(o.1,o.2.1,("thing" : Str),c%(gs.length:Int))):=by
    rw[List.take_add_one,h,Bh];exact(ai.same a).snoc ep
   refine ab _ _ (a _ _ R) (by rw[Aj];exact BP (by lia)) ⟨an++[p],by rw[Bh];rfl,λb o e=>?_,Aa,ah.keeps (Keeps.one (a _ _ R))⟩;rw[AH (AW e y)];exact a _ _ (J _ _ e);obtain⟨an,rfl,J,eE,ai⟩:=z;rw[Aj,X.len,List.take_of_length_le (l:=ss[FK ss.length k].2.reverse) (by rw[List.length_reverse];exact AG _)] at ai;have v:=A.trans J;refine⟨rfl,rfl,Ap (λc3=>?_) (λc3=>?_)⟩;rotate_left;have e3:¬IE c k=2:=λe=>c3 (A7 (by rw[e]));refine⟨BS,λu U=>?_⟩;have d:=A8 (o:=.tup [.ref G,.ref N]) U;refine ak u G N _ (v.trans d) M (A.free E) (AW C E) ?_;unfold KZ;rw[Al e1,Al e2,Al e3,a5,a6];exact⟨Aa,⟨q,(J.trans d) _ _ C,rt.same (J.trans d)⟩,⟨an,d _ _ eE,ai.same d⟩⟩;have e3:IE c k=2:=V.int.inj (Bc c3)
   refine Or.inl ⟨_,.ref u0,Ag.of (v _ _ top),a8,Or.inr (Or.inl ⟨_,.ref aB,Ao.of (v _ _ c0),rfl,⟨_,Ag.of (v _ _ d1)⟩,NY (xs:=tE.map V.ref) (λD i g m=>∃q:List Addr,g=q.map V.ref/\Ac Y m/\m D=some (.lst g)/\RT Ct m q ((ss[k].2.take i).map λo=>(o.1,o.2.1,("by" : Str),c%(qs.length:Int))))
    (λD y=>⟨[],rfl,A8 y,Aa,RT.nil⟩) (λD i g m ag=>by obtain⟨_,_,s,_⟩:=ag;exact Ag.of (s _ _ (v _ _ d1))) (λD i a1 g H3 RR y W z ab=>?_) (λE2 g H3 a7 z=>?_)⟩)⟩
   obtain⟨ao,rfl,s3,R,aj⟩:=z;obtain⟨tp,I,rfl⟩:=getm W;have t:=(Bf.mp I).1;have h:ss[k].2[i]?=some (ss[k].2[i]'(by rw[<-d2.len];exact t)):=AC _;generalize ss[k].2[i]'(by rw[<-d2.len];exact t)=r at h;have aw:=v.trans s3;have S:=aw _ _ (d2.at_ _ _ _ I h);have lt:=aj.len;rw[Aj,E5] at lt;have aF:(qt.map V.ref).length=qs.length:=(by rw[Aj,L.tq.len]);refine Or.inr (Or.inl ⟨_,.str r.1,Ao.of S,rfl,Or.inr (Or.inl ⟨_,.str r.2.1,Ao.of S,rfl,Or.inr (Or.inl ⟨_,.ref a0,Ao.of (aw _ _ eN),rfl,_,Or.inl ⟨_,Ag.of (aw _ _ L.er),rfl⟩,(by show(0:Int)<((qt.map V.ref).length:Int);lia),KY,λp O=>?_⟩)⟩)⟩);show RR (.ref p) (upd H3 p (HO.tup [.str r.1,.str r.2.1,.str "by",.int (c%((qt.map V.ref).length:Int))]));rw[aF];have a:=A8 (o:=.tup (Ct (r.1,r.2.1,("by" : Str),c%(qs.length:Int)))) O;have ep:(upd H3 p (.tup (Ct (r.1,r.2.1,("by" : Str),c%(qs.length:Int))))) p=some (.tup (Ct (r.1,r.2.1,("by" : Str),c%(qs.length:Int)))):=Aa
   have ah:RT Ct (upd H3 p (.tup (Ct (r.1,r.2.1,("by" : Str),c%(qs.length:Int))))) (ao++[p]) ((ss[k].2.take (i+1)).map λo=>(o.1,o.2.1,("by" : Str),c%(qs.length:Int))):=by
    rw[List.take_add_one,h,Bh];exact(aj.same a).snoc ep
   refine ab _ _ (a _ _ R) (by rw[Aj];exact BP (by lia)) ⟨ao++[p],by rw[Bh];rfl,λb o e=>?_,Aa,ah.keeps (Keeps.one (a _ _ R))⟩;rw[AH (AW e y)];exact a _ _ (s3 _ _ e);obtain⟨ao,rfl,s3,aG,aj⟩:=z;rw[Aj,d2.len,DW] at aj;refine⟨BS,λu U=>?_⟩;have d:=A8 (o:=.tup [.ref G,.ref E2]) U;refine ak u G E2 _ ((v.trans s3).trans d) M (v.free a7) (AW (J _ _ C) a7) ?_;unfold KZ;rw[Al e1,Al e2,An e3,a5];exact⟨Aa,⟨q,((J.trans s3).trans d) _ _ C,rt.same ((J.trans s3).trans d)⟩,⟨ao,d _ _ aG,aj.same d⟩⟩
def RQ.set{H:Hp}{ts:List Addr}{l:List Qu}{t u:Addr}{p:Qu}(h:QT H ts l)(d:H t=some (.tup [.int p.1,.int p.2.1,.ref u]))(f:H u=some (.tup (p.2.2.map V.str)))(n:Nat):QT H (ts.set n t) (l.set n p):=by
 refine⟨by rw[FL,FL,h.len],λm g r a b=>?_⟩;by_cases e:n=m;subst e;have c:n<ts.length:=by have:=(Bf.mp a).1;rwa [FL] at this
 have i:n<l.length:=by rw[<-h.len];exact c
 rw[List.getElem?_set_self c] at a;cases a;rw[List.getElem?_set_self i] at b;cases b;exact⟨u,d,f⟩;rw[List.getElem?_set_ne e] at a b;exact h.at_ m g r a b
def Gq (ss:List AY) (ng nq:Nat) (c b:Int) (k:Nat):AY:=if b/2 ^ k%2=0 then KZ ss ng nq c k else ss.getD k ([],[])
def CI (ss:List AY) (ng nq:Nat) (c b:Int) (n:Nat):List AY:=(List.range n).map (Gq ss ng nq c b)
def gK(ss:List AY)(ng nq:Nat)(c b:Int)(n:Nat):CI ss ng nq c b (n+1)=CI ss ng nq c b n++[Gq ss ng nq c b n]:=by unfold CI;rw[List.range_succ,Bh];rfl
abbrev QB (n m:Nat) (q:Qu):Prop:=(0<=q.1/\q.1<n)/\(0<=q.2.1/\q.2.1<m)/\1<=q.2.2.length/\q.2.2.length<=8
structure OQ (n m qk:Nat) (qs qs':List Qu):Prop where
 len:qs'.length=qs.length
 at_:qs'[qk]?=qs[qk]?
 ok:∀q∈qs',QB n m q
structure OR (ng:Nat) (ws:List Int) (as as':List (C')):Prop where
 len:as'.length=as.length
 at_:∀k:Nat,(k:Int)∈ws->as'[k]?=as[k]?
 ok:∀p,some p∈as'->p.1=("thing" : Str)->0<=p.2/\p.2<ng
def OQ.set{n m a:Nat}{qs b:List Qu}(h:OQ n m a qs b){k:Nat}(c:k≠a){q:Qu}(d:QB n m q):OQ n m a qs (b.set k q):=
 ⟨by rw[FL];exact h.len,by rw[List.getElem?_set_ne c];exact h.at_,λp f=>by
  rcases List.mem_or_eq_of_mem_set f with e|e;exact h.ok p e
  rw[e];exact d⟩
def OR.set{ng:Nat}{ws:List Int}{as as':List (C')}(h:OR ng ws as as'){k:Nat}(c:(k:Int)∉ws){a:C'}(d:∀p,a=some p->p.1=("thing" : Str)->0<=p.2/\p.2<ng):OR ng ws as (as'.set k a):=
 ⟨by rw[FL];exact h.len,λj b=>by
  have e:k≠j:=λe=>c (by rw[e];exact b)
  rw[List.getElem?_set_ne e];exact h.at_ j b,λp f=>by
  rcases List.mem_or_eq_of_mem_set f with e|e;exact h.ok p e
  exact d p e.symm⟩
def Na (c:Int) (k ng:Nat):C':=if c/((k:Int)+2)%3=0 then none else if c/((k:Int)+2)%3=1 then some ("none",0) else some ("thing",c%(ng:Int))
variable {ng:Nat}
def Mr(b:1<=ng):∀p,Na c k ng=some p->p.1=("thing" : Str)->0<=p.2/\p.2<ng:=λp a e=>by
 unfold Na at a;split at a;cases a;split at a;cases a;exact absurd e PZ;cases a;exact⟨DK _ (by lia),DX _ (by lia)⟩
def Xb(h:k<n):Gz n (k:Int)=some k:=by
 unfold Gz;rw[An (by lia),An (by lia),BK]
inductive DD (K:Ai) (vs:List V) (H:Hp) (Q:VK):Prop where
 |mk (nt A D S T R:Addr) (us Gs Es ts qt:List Addr) (ss:List AY) (gs:List (Str×Int)) (qs:List Qu) (as:List (C')) (v1:List V) (c b:Int) (qk m:Nat) (ws:List Int) (h0:vs=[.ref nt,.ref A,.int c,.int qk,.int b,.ref D]) (h1:H nt=some (.tup [.ref S,.ref T,.ref R])) (h2:Fu H S T R us Gs Es ts qt ss gs qs) (h3:H A=some (.lst v1)) (h4:Az (λζ=>False) H v1 (as.map B7)) (h5:H D=some (.lst (ws.map V.int))) (h6:as.length=qs.length) (h7:qs.length<=100) (h8:ss.length<=100) (h9:1<=ss.length) (h10:1<=gs.length) (h11:1<=qs.length) (h12:1<=m) (h13:(∀s∈ss,s.1.length<=10/\s.2.length<=10)) (h14:(∀q∈qs,QB ss.length m q)) (h15:(∀p,some p∈as->p.1=("thing" : Str)->0<=p.2/\p.2<gs.length)) (h16:∀(r nt2 A2 S2 T2 R2:Addr)(us2 Gs2 Es2 qt2:List Addr)(qs2:List Qu)(as2:List (C'))(v2:List V)(H':Hp),Ac H H'->H' r=some (.tup [.ref nt2,.ref A2])->H' nt2=some (.tup [.ref S2,.ref T2,.ref R2])->Fu H' S2 T2 R2 us2 Gs2 Es2 ts qt2 (CI ss gs.length qs.length c b ss.length) gs qs2->H' A2=some (.lst v2)->Az (λζ=>False) H' v2 (as2.map B7)->OQ ss.length m qk qs qs2->OR gs.length ws as as2->Q (.ref r) H'):DD K vs H Q
def gL (K:Ai):Sp:=λvs H Q ζ=>DD K vs H Q
abbrev QD(P w K mg base):=By P w K mg base "_law_other" 2 ["_law_net", "_law_answers_here", "_law_cell", "_law_question_here", "_law_bits", "_law_some"] (gL K)
theorem gM(B:BA mg)(bt:Ul P w K mg base)(F:Bq K "_law_other" "_law_other" Rr f fd)(hm:mg "_law_other" = some (.ref f)):QD P w K mg base:=by
 refine BV F hm KI (λvs aA aR aS h=>?_) (λb4 A bA s aA vs aR aS hr h=>?_);obtain⟨nt,A,af,ag,ah,an,us,Gs,Es,ts,qt,ss,gs,qs,as,ao,c,b,qk,m,O,rfl,_⟩:=h;rfl
 . obtain⟨nt,A,af,ag,ah,an,us,Gs,Es,ts,qt,ss,gs,qs,as,ao,c,b,qk,m,O,rfl,Q,r,eA,hv,eD,la,b9,bu,s1,aC,q1,m1,hb,hq,ha,kq⟩:=h
   refine⟨_,(Ak (AI (i:=6) KI.nd (Cj Ae))
    (Ak (CJ Cz rfl (IQ rfl B.b_range (Ab (BH Di B.b_len (Ab (As At (pv 0) Ah) Ae)) Ae)) (Ay (i:=7) KI.nd) (Ak (AI (i:=8) KI.nd (Ba (Ab (Gy I7 B.b_list (Ab (As At (As At (As At (pv 0) Ah) (pv 7)) Ah) Ae)) (Ab (Gy I7 B.b_list (Ab (As At (As At (As At (pv 0) Ah) (pv 7)) Ah) Ae)) Ae))))
     (Ak (Bm (Bv Cf (Au AZ (Au Hi (pv 4) (pv 7)) Ah) Ah (Bu _)) (Aw (AI (i:=8) KI.nd (A1 bt (Ab (pv 0) (Ab (pv 2) (Ab (pv 7) Ae)))))) Bl)
     (Aw (DF (Dj DE Et Eu Ew (pv 6) (Ab (pv 8) Ae)))))))
    (Ak (AI (i:=9) KI.nd (Gy I7 B.b_list (Ab (As At (pv 0) Ah) Ae)))
    (Ak (AI (i:=10) KI.nd (Gy I7 B.b_list (Ab (pv 1) Ae)))
    (Ak (CJ Cz rfl (IQ rfl B.b_range (Ab (BH Di B.b_len (Ab (pv 9) Ae)) Ae)) (Ay (i:=7) KI.nd) (Aw (Bm (Bv (Vb hr.units) (pv 7) (pv 5) (by with_unfolding_all rfl)) (Ak (DM (As At (Cj (Ab GN (Ab (Ba (Ab BE (Ab Ah Ae))) (Ab (Ba (Ab BE (Ab (Au AZ (pv 2) (BH Di B.b_len (Ab (As At (pv 0) Ah) Ae))) Ae))) Ae)))) (Au AZ (Au En (pv 2) (Au Gx (pv 7) Ah)) Ah)) (RG (pv 10) (pv 7) RS))
     (Aw (Bm (Bv NG (pv 7) (pv 3) (Bu _)) (Aw (DM (Ba (Ab (Au AZ (pv 2) (BH Di B.b_len (Ab (pv 6) Ae))) (Ab Ah (Ab (As At (As At (pv 9) (Au NE (pv 7) Ah)) Ah) Ae)))) (RG (pv 9) (pv 7) RS))) Bl))) Bl)))
    (Aw (AN (Ba (Ab (Ba (Ab (pv 6) (Ab (Gy I7 B.b_list (Ab (As At (pv 0) Ah) Ae)) (Ab (pv 9) Ae)))) (Ab (pv 10) Ae)))))))))),?_⟩
   rfl';refine⟨by decide,λz aD=>?_⟩;obtain⟨bx,aW,t1,aX⟩:=new_at (o:=.lst []) aD;rw[<-aW];have b5:=r.sc.lu;refine Or.inr (Or.inl ⟨_,.ref ag,Ao.of (t1 _ _ Q),rfl,_,Or.inl ⟨_,Ag.of (t1 _ _ r.sc.top),rfl⟩,(by rw[Aj];lia),(by rw[Aj];lia),Kn (lo:=0) (n:=(((us.map V.ref).length:Nat):Int).toNat) (λi σ C=>∃R S q ab ae,σ=[some (.ref nt),some (.ref A),some (.int c),some (.int qk),some (.int b),some (.ref af),some (.ref z),R,S,none,none]/\Ac aA C/\C8 C z q ab ae (CI ss gs.length qs.length c b i)/\∀x∈ab++ae,x≠z) ⟨none,none,[],[],[],rfl,t1,C8.nil aX,λx E=>by cases E⟩ ?_ ?_⟩)
   . refine λi σ Y hi H=>AL λNz d=>?_
     obtain⟨R,S,q,ab,ae,rfl,y,SC,ai⟩:=H;refine d ?_;clear d;rw[Int.zero_add];have hk:i<ss.length:=by rw[Aj] at hi;lia
     refine AL λNz d=>?_;obtain⟨u0,G0,E0,aV,b0,b3,g4,⟨c0,⟨tG,b1,b2⟩,⟨tE,d1,d2⟩⟩⟩:=r.sc.get hk;refine d ?_;clear d;have aP:Bj (us.map V.ref) (i:Int)=some (.ref u0):=BF (by rw[A6,aV];rfl);refine Or.inr (Or.inl ⟨_,.ref ag,Ao.of (y _ _ Q),rfl,Or.inl ⟨_,.ref u0,Ag.of (y _ _ r.sc.top),aP,Or.inr (Or.inl ⟨_,.ref G0,Ao.of (y _ _ c0),rfl,G0,_,rfl,Or.inl (Ag.of (y _ _ b1)),λaB hG=>?_⟩)⟩⟩);obtain⟨H3,a1,t2,eG⟩:=new_at (o:=.lst (tG.map V.ref)) hG;rw[<-a1];have I:=y.trans t2;refine Or.inr (Or.inl ⟨_,.ref ag,Ao.of (I _ _ Q),rfl,Or.inl ⟨_,.ref u0,Ag.of (I _ _ r.sc.top),aP,Or.inr (Or.inl ⟨_,.ref E0,Ao.of (I _ _ c0),rfl,E0,_,rfl,Or.inl (Ag.of (I _ _ d1)),λE1 hE=>?_⟩)⟩⟩);obtain⟨H4,a2,T,eE⟩:=new_at (o:=.lst (tE.map V.ref)) hE;rw[<-a2];refine⟨BS,λaT hu=>?_⟩;obtain⟨H5,aY,G,eu⟩:=new_at (o:=.tup [.ref aB,.ref E1]) hu;rw[<-aY];have D:=I.trans (T.trans G);have aq:=t2.trans (T.trans G);have hS:Y z≠none:=λaa=>by rw[SC.top] at aa;cases aa
     have az:∀{x:Addr},Y x=none->x≠z:=λ{x}aa e=>hS (e▸aa);refine AU ?_;dsimp only;refine Hu (λσ' C=>∃u' G' E',σ'=[some (.ref nt),some (.ref A),some (.int c),some (.int qk),some (.int b),some (.ref af),some (.ref z),some (.int i),some (.ref u'),none,none]/\Ac Y C/\G'≠z/\E'≠z/\G8 C u' G' E' (Gq ss gs.length qs.length c b i)) ?_ (λNX aE=>?_);rotate_left;refine⟨by show(0:Int)<=i;lia,(by show(0:Int)<2;decide),?_⟩;dsimp only[Gw];rw[BK];refine⟨rfl,rfl,Ap (λU=>?_) (λU=>?_)⟩;have e1:b/2 ^ i%2=0:=V.int.inj (Bc U);refine⟨nt,ag,ah,an,us,Gs,Es,ts,qt,ss,gs,qs,c,i,rfl,D _ _ Q,r.same D,hk,bu,aC,q1,hb,λu6 G6 E6 H6 s6 aZ ba n6 bb=>?_⟩;refine aE _ _ ⟨u6,G6,E6,rfl,aq.trans s6,az (aq.free aZ),az (aq.free ba),?_⟩;unfold Gq;rw[An e1];exact bb;have e1:¬b/2 ^ i%2=0:=λe=>U (A7 (by rw[e]));refine aE _ _ ⟨aT,aB,E1,rfl,aq,az hG,az (t2.free hE),?_⟩;unfold Gq;rw[Al e1,BC,g4];exact⟨eu,⟨tG,(T.trans G) _ _ eG,b2.same D⟩,⟨tE,G _ _ eE,d2.same D⟩⟩;refine λσ' H6 H=>AL λNz d=>?_;obtain⟨u',G',E',rfl,s6,nG,nE,sc⟩:=H;refine d ?_;clear d;have a3:=SC.same s6;have ll:=SC.lu;unfold CI at ll;rw[Aj,List.length_range] at ll;refine⟨Or.inl ⟨rfl,_,Ag.of a3.top⟩,_,a3.top,(by rw[Aj];exact BP (by lia)),⟨_,_,q++[u'],ab++[G'],ae++[E'],rfl,λx o e=>?_,?_,λx E=>?_⟩⟩;rw[AH (AW e aD)];exact s6 _ _ (y _ _ e);rw[gK];exact a3.snoc sc nG nE ai;rcases BB.mp E with h|h;rcases BB.mp h with h|h;exact ai x (E7 _ h);rw[AR.mp h];exact nG;rcases BB.mp h with h|h;exact ai x (De _ h);rw[AR.mp h];exact nE
   refine λσ Y H=>AL λNz d=>?_;obtain⟨R,S,q,ab,ae,rfl,y,SC,ai⟩:=H;refine d ?_;clear d;have bc:((((us.map V.ref).length:Nat):Int).toNat)=ss.length:=by rw[Aj];lia
   rw[bc] at SC;generalize aF:CI ss gs.length qs.length c b ss.length=ol at SC ⊢;have bd:q.length=ss.length:=by rw[SC.lu,<-aF];unfold CI;rw[Aj,List.length_range]
   clear ai;refine Or.inr (Or.inl ⟨_,.ref an,Ao.of (y _ _ Q),rfl,an,_,rfl,Or.inl (Ag.of (y _ _ r.er)),λR2 aG=>?_⟩);obtain⟨H3,a1,T,a4⟩:=new_at (o:=.lst (qt.map V.ref)) aG;rw[<-a1];have I:=y.trans T;refine⟨A,ao,rfl,Or.inl (Ag.of (I _ _ eA)),λl ar=>?_⟩;obtain⟨H4,a2,G,be⟩:=new_at (o:=.lst ao) ar;rw[<-a2];have s4:=I.trans G;have bv:=T.free ar;have aH:l≠R2:=λaa=>by rw[aa,a4] at ar;cases ar
   have b6:qt.length=qs.length:=r.tq.len;refine⟨_,Or.inl ⟨_,Ag.of (G _ _ a4),rfl⟩,(by rw[Aj];lia),(by rw[Aj];lia),Kn (lo:=0) (n:=(((qt.map V.ref).length:Nat):Int).toNat) (λi σ C=>∃R S g u N a,σ=[some (.ref nt),some (.ref A),some (.int c),some (.int qk),some (.int b),some (.ref af),some (.ref z),R,S,some (.ref R2),some (.ref l)]/\Ac Y C/\C R2=some (.lst (g.map V.ref))/\QT C g u/\C l=some (.lst a)/\Az (λζ=>False) C a (N.map B7)/\OQ ss.length m qk qs u/\OR gs.length O as N) ⟨_,_,qt,qs,as,ao,rfl,T.trans G,G _ _ a4,r.tq.same s4,be,hv.same s4,⟨rfl,rfl,hq⟩,⟨rfl,λζ ζ=>rfl,ha⟩⟩ ?_ ?_⟩
   . refine λi σ H5 hi H=>AL λNz d=>?_
     obtain⟨R,S,g,u,N,a,rfl,D,au,Q5,av,aj,J,AK⟩:=H;refine d ?_;clear d;rw[Int.zero_add];have hk:i<qs.length:=by rw[Aj] at hi;lia
     have W:=y.trans D;refine⟨1,.int i,O.map Dt.int,af,O.map V.int,(λe he=>by obtain⟨o,_,rfl⟩:=Bd.mp he;exact .int _ _),by decide,.int _,rfl,Ag.of (W _ _ eD),Py _,?_⟩;have bw:(Dt.int (i:Int)∈O.map Dt.int)↔(i:Int)∈O:=⟨λh=>by obtain⟨o,h1,h2⟩:=Bd.mp h;cases h2;exact h1,λh=>Bd.mpr ⟨_,h,rfl⟩⟩;refine⟨rfl,Ap (λU=>?_) (λU=>?_)⟩;rotate_left;exact⟨_,_,g,u,N,a,rfl,D,au,Q5,av,aj,J,AK⟩;have hn:(i:Int)∉O:=λh=>by rw[FF (bw.mpr h)] at U;cases U
     refine⟨BS,λp1 bf=>?_⟩;obtain⟨H6,a5,x1,e1⟩:=new_at (o:=.tup [.str "none",.int 0]) bf;rw[<-a5];have aI:=W.trans x1;have bg:(ts.map V.ref).length=gs.length:=(by rw[Aj,r.tg.len]);refine Or.inr (Or.inl ⟨_,.ref ah,Ao.of (aI _ _ Q),rfl,_,Or.inl ⟨_,Ag.of (aI _ _ r.et),rfl⟩,(by show(0:Int)<((ts.map V.ref).length:Int);lia),BS,λa0 bh=>?_⟩);rw[bg];obtain⟨H7,a6,x2,e2⟩:=new_at (o:=.tup [.str "thing",.int (c%gs.length)]) bh;rw[<-a6];refine⟨(by show 3<=sizeLine;decide),λbz hl=>?_⟩;obtain⟨L,bi,x3,el⟩:=new_at (o:=.lst [.non,.ref p1,.ref a0]) hl;rw[<-bi];have ak:=x1.trans (x2.trans x3)
     have bj:∃v,Bj [V.non,.ref p1,.ref a0] (c/((i:Int)+2)%3)=some v/\A5 (λζ=>False) L v (B7 (Na c i gs.length)):=by
      unfold Na;by_cases k1:c/((i:Int)+2)%3=0;rw[An k1,k1];exact⟨.non,BF (j:=0) rfl,.non⟩;rw[Al k1];by_cases k2:c/((i:Int)+2)%3=1;rw[An k2,k2];exact⟨.ref p1,BF (j:=1) rfl,.tup ((x2.trans x3) _ _ e1) (.cons (.str _) (.cons (.int _) .nil))⟩;have k3:c/((i:Int)+2)%3=2:=(by lia);rw[Al k2,k3];exact⟨.ref a0,BF (j:=2) rfl,.tup (x3 _ _ e2) (.cons (.str _) (.cons (.int _) .nil))⟩
     obtain⟨v,bk,bl⟩:=bj;refine⟨⟨by show(0:Int)<(i:Int)+2;lia,by show(i:Int)+2<1073741824;lia⟩,(by show(0:Int)<3;decide),Or.inl ⟨_,v,Ag.of el,bk,?_⟩⟩;have b7:a.length=qs.length:=(by rw[aj.length,Aj,AK.len,la]);have aJ:=ak _ _ av;refine⟨l,a,(i:Int),i,rfl,rfl,aJ,Xb (by lia),?_⟩;have kA:Keeps (·=l) L (upd L l (.lst (a.set i v))):=Keeps.one aJ;have aw:(upd L l (.lst (a.set i v))) l=some (.lst (a.set i v)):=Aa;have ax:(upd L l (.lst (a.set i v))) R2=some (.lst (g.map V.ref)):=by rw[AH (Ne.symm aH)];exact ak _ _ au
     have ay:Ac Y (upd L l (.lst (a.set i v))):=λx o e=>by rw[AH (AW e bv)];exact ak _ _ (D _ _ e)
     have al:Az (λζ=>False) (upd L l (.lst (a.set i v))) (a.set i v) ((N.set i (Na c i gs.length)).map B7):=by
      rw[List.map_set];exact Az.set (bl.keeps kA λx E=>E.elim) i ((aj.same ak).keeps kA λx E=>E.elim)
     have M:=(Q5.same ak).keeps kA;have a7:=AK.set hn (Mr (c:=c) (k:=i) aC);generalize upd L l (.lst (a.set i v))=H9 at aw ax ay al M ⊢;generalize N.set i (Na c i gs.length)=aK at al a7;generalize a.set i v=v9 at aw al;refine⟨rfl,rfl,Ap (λc2=>?_) (λc2=>?_)⟩;rotate_left;exact⟨_,_,g,u,aK,v9,rfl,ay,ax,M,aw,al,J,a7⟩
     have bm:i≠qk:=λe=>by
      subst e;exact absurd c2 (by simp)
     have b8:g.length=qs.length:=(by rw[M.len,J.len]);have hp:=Ih hk;rw[<-J.len] at hp;have bn:=AC hp;have a8:g[FK u.length i]?=some (g[FK u.length i]'(by rw[M.len];exact hp)):=AC _;have aL:=J.ok _ (Ed hp);obtain⟨pu,a9,aM⟩:=M.at_ _ _ _ a8 bn;generalize u[FK u.length i]=qq at a9 aM aL;generalize g[FK u.length i]'(by rw[M.len];exact hp)=tq at a8 a9;have bo:Bj (g.map V.ref) ((i:Int)-1)=some (.ref tq):=Ii (by rw[Aj];lia) (by rw[Aj,M.len,A6,a8];rfl);refine⟨_,Or.inl ⟨_,Ag.of (ay _ _ SC.top),rfl⟩,(by show(0:Int)<((q.map V.ref).length:Int);rw[Aj];lia),Or.inl ⟨_,.ref tq,Ag.of ax,bo,Or.inr (Or.inl ⟨_,.ref pu,Ao.of a9,rfl,G7,λt ht=>?_⟩)⟩⟩;have X:=A8 (o:=.tup [.int (c%((q.map V.ref).length:Int)),.int 0,.ref pu]) ht;have et:(upd H9 t (.tup [.int (c%((q.map V.ref).length:Int)),.int 0,.ref pu])) t=some (.tup [.int (c%((q.map V.ref).length:Int)),.int 0,.ref pu]):=Aa;show Kr (.ref R2) (.int i) (.ref t) (upd H9 t (.tup [.int (c%((q.map V.ref).length:Int)),.int 0,.ref pu])) _;generalize upd H9 t (.tup [.int (c%((q.map V.ref).length:Int)),.int 0,.ref pu])=aN at X et ⊢;have aQ:=X _ _ ax;have kR:Keeps (·=R2) aN (upd aN R2 (.lst ((g.map V.ref).set i (.ref t)))):=Keeps.one aQ;refine⟨R2,_,(i:Int),i,rfl,rfl,aQ,Xb (by rw[Aj];lia),⟨_,_,g.set i t,u.set i (c%((q.map V.ref).length:Int),0,qq.2.2),aK,v9,rfl,λx o e=>?_,by rw[Aa,List.map_set],?_,?_,?_,J.set bm ?_,a7⟩⟩;rw[AH (AW e aG)];exact X _ _ (ay _ _ e);exact RQ.set ((M.same X).keeps kR) (p:=(c%((q.map V.ref).length:Int),0,qq.2.2)) (kR.tup et) (kR.tup (X _ _ aM)) i;rw[AH aH];exact X _ _ aw;exact(al.same X).keeps kR λx E=>E.elim;rw[Aj,bd];exact⟨⟨DK _ (by lia),DX _ (by lia)⟩,⟨Int.le_refl _,by show(0:Int)<(m:Int);lia⟩,aL.2.2⟩
   refine λσ H5 H=>AL λNz d=>?_;obtain⟨R,S,g,u,N,a,rfl,D,au,Q5,av,aj,J,AK⟩:=H;refine d ?_;clear d;have W:=y.trans D;refine Or.inr (Or.inl ⟨_,.ref ah,Ao.of (W _ _ Q),rfl,ah,_,rfl,Or.inl (Ag.of (W _ _ r.et)),λT2 bp=>?_⟩);obtain⟨H6,a5,t6,bq⟩:=new_at (o:=.lst (ts.map V.ref)) bp;rw[<-a5];refine⟨G7,λn2 br=>?_⟩;obtain⟨H7,a6,t7,bs⟩:=new_at (o:=.tup [.ref z,.ref T2,.ref R2]) br;rw[<-a6];refine⟨BS,λaU hr=>?_⟩;have t8:=A8 (o:=.tup [.ref n2,.ref l]) hr;have aO:=t7.trans t8;have Z:=t6.trans aO;subst aF;exact kq aU n2 l z T2 R2 q ab ae g u N a _ (W.trans Z) Aa (t8 _ _ bs) ⟨SC.same (D.trans Z),aO _ _ bq,r.tg.same (W.trans Z),Z _ _ au,Q5.same Z⟩ (Z _ _ av) (aj.same Z) J AK
variable {H:Hp}
def Xc{b:List Dt}(h:Aq K H v (.lst b)):∃a vs,v=.ref a/\Ag K H a vs/\Am K H vs b:=by cases h with|lst h t=>exact⟨_,_,rfl,h,t⟩
def Xd{b:List Dt}(h:Aq K H v (.tup b)):∃a vs,v=.ref a/\Ao K H a vs/\Am K H vs b:=by cases h with|tup h t=>exact⟨_,_,rfl,h,t⟩
def OS:Dt->Ty
 |.non=>.non
 |.bl _=>.bool
 |.int _=>.int
 |.str _=>.str
 |.tup _=>.tup
 |.lst _=>.lst
def QE{d:Dt}(h:Aq K H v d):Jd K H v (OS d):=by
 cases h with
 |non=>exact .non
 |bl b=>exact .bl b
 |int i=>exact .int i
 |str x=>exact .str x
 |tup h t=>exact .tup h
 |lst h t=>exact .lst h
def Kd{d:Dt}(h:Aq K H v d):v=.non↔d=.non:=by
 cases h<;>simp
def QF (K:Ai) (n:Nat):Sp:=λvs H Q ζ=>∃(x y:V)(d e:Dt),vs=[x,y]/\Aq K H x d/\Aq K H y e/\Dn n d/\Dn n e/\∀(b:Bool)(H':Hp),Ac H H'->(b=true↔d=e)->Q (.bl b) H'
abbrev gN (K:Ai):Sp:=QF K 8
theorem gO(B:BA mg)(n:Nat)(aj:By P w K mg base "_law_same" (0+n) ["_law_found", "_law_due"] (QF K n))(F:Bq K "_law_same" "_law_same" Nh f fd):Ev P w K mg base Iq (0+n+1) f fd ["_law_found", "_law_due"] (QF K (n+1)):=by
 refine F.ok To (λvs H ag ah h=>?_) (λal ak an s H vs ag ah hr h=>?_);obtain⟨x,y,d,af,rfl,_⟩:=h;rfl;obtain⟨x,y,d,af,rfl,g,G,hd,W,q⟩:=h
 refine⟨_,(Ak (Bm (GY (He (pv 1))) (Aw (AN (Hf (He (pv 0))))) Bl)
  (Ak (Bm (GZ (BH Ir B.b_isinstance (Ab (pv 1) (Ab (Iu "str" rfl B.b_str (by decide +kernel)) Ae)))) (Aw (AN (RA (BH Ir B.b_isinstance (Ab (pv 0) (Ab (Iu "str" rfl B.b_str (by decide +kernel)) Ae))) (Hg (ME Cf (pv 0) (pv 1) (Bu _)))))) Bl)
  (Ak (Bm (GZ (BH Ir B.b_isinstance (Ab (pv 1) (Ab (Iu "int" rfl B.b_int (by decide +kernel)) Ae)))) (Aw (AN (RA (BH Ir B.b_isinstance (Ab (pv 0) (Ab (Iu "int" rfl B.b_int (by decide +kernel)) Ae))) (RA (K6 (BH Ir B.b_isinstance (Ab (pv 0) (Ab (Iu "bool" rfl B.b_bool (by decide +kernel)) Ae)))) (Hg (ME Cf (pv 0) (pv 1) (Bu _))))))) Bl)
  (Ak (Bm (PW.pt (G2 (GZ (BH Ir B.b_isinstance (Ab (pv 1) (Ab (Iu "list" rfl B.b_list (by decide +kernel)) Ae)))) (G1 (Nl (GZ (BH Ir B.b_isinstance (Ab (pv 0) (Ab (Iu "list" rfl B.b_list (by decide +kernel)) Ae)))))))) (Aw (AN Km)) Bl)
  (Ak (Bm (PW.pt (G2 (GZ (BH Ir B.b_isinstance (Ab (pv 1) (Ab (Iu "tuple" rfl B.b_tuple (by decide +kernel)) Ae)))) (G1 (Nl (GZ (BH Ir B.b_isinstance (Ab (pv 0) (Ab (Iu "tuple" rfl B.b_tuple (by decide +kernel)) Ae)))))))) (Aw (AN Km)) Bl)
  (Ak (Bm (Bv NG (BH Di B.b_len (Ab (pv 0) Ae)) (BH Di B.b_len (Ab (pv 1) Ae)) (Bu _)) (Aw (AN Km)) Bl)
  (Ak (CJ Cz rfl (Jy rfl B.b_zip (Ab (pv 0) (Ab (pv 1) Ae))) (B6 (n:=2) rfl (AD (Ay (i:=2) To.nd) (AD (Ay (i:=3) To.nd) B5))) (Aw (Bm (Nl (GZ (A1 aj (Ab (pv 2) (Ab (pv 3) Ae)) (hr.mono (by lia))))) (Aw (AN Km)) Bl)))
  (Aw (AN Km))))))))),?_⟩
 try dsimp only[AE,Cx.nox,Cx.wish]
 cases af with
 |non =>
   cases G;refine⟨rfl,Ap (λζ=>?_) (λh=>absurd (A7 rfl) h)⟩;exact q _ _ (Ac.refl _) ((decide_eq_true_iff).trans (Kd g))
 |bl b=>exact False.elim W
 |int s =>
   cases G;refine⟨rfl,Ap (λh=>absurd (Bc h) (by simp)) (λζ=>?_)⟩;refine⟨_,.str,.int,rfl,.int s,rfl,Bw ?_⟩;refine⟨_,.int,.int,rfl,.int s,rfl,C5 ?_⟩;refine⟨_,.int,OS d,rfl,QE g,_,rfl,?_⟩
   cases d with
   |bl _=>exact False.elim hd
   |int Z =>
     cases g;refine C5 ⟨_,.bool,.int,rfl,.int _,_,rfl,_,rfl,C5 ⟨rfl,?_⟩⟩;refine q _ _ (Ac.refl _) ⟨λz=>?_,λz=>?_⟩;rw[V.int.inj (Bc z)];cases z;exact A7 rfl
   |_=>exact Bw (q false _ (Ac.refl _) ⟨λz=>(by cases z),λz=>(by cases z)⟩)
 |str s =>
   cases G;refine⟨rfl,Ap (λh=>absurd (Bc h) (by simp)) (λζ=>?_)⟩;refine⟨_,.str,.str,rfl,.str s,rfl,C5 ?_⟩;refine⟨_,.str,OS d,rfl,QE g,_,rfl,?_⟩
   cases d with
   |bl _=>exact False.elim hd
   |str Z =>
     cases g;refine C5 ⟨rfl,?_⟩;refine q _ _ (Ac.refl _) ⟨λz=>?_,λz=>?_⟩;rw[V.str.inj (Bc z)];cases z;exact A7 rfl
   |_=>exact Bw (q false _ (Ac.refl _) ⟨λz=>(by cases z),λz=>(by cases z)⟩)
 | lst k =>
   obtain⟨b,X,rfl,e,I⟩:=Xc G;have p:=I.length;refine⟨rfl,Ap (λh=>absurd (Bc h) (by simp)) (λζ=>?_)⟩;refine⟨_,.str,.lst,rfl,.lst e,rfl,Bw ?_⟩;refine⟨_,.int,.lst,rfl,.lst e,rfl,Bw ?_⟩;refine⟨_,.lst,.lst,rfl,.lst e,rfl,C5 ⟨_,.lst,OS d,rfl,QE g,rfl,?_⟩⟩
   cases d with
   |lst r =>
     obtain⟨a,us,rfl,t,J⟩:=Xc g;have u:=J.length;refine Bw ⟨_,.tup,.lst,rfl,.lst e,rfl,Bw (Bw ?_)⟩;refine⟨_,Or.inl ⟨_,t,rfl⟩,_,Or.inl ⟨_,e,rfl⟩,rfl,rfl,Ap (λh=>?_) (λh=>?_)⟩;refine q false _ (Ac.refl _) ⟨λz=>(by cases z),λz=>?_⟩;cases z;rw[u,p] at h;simp at h
     have Y:r.length=k.length:=by
      rw[u,p] at h;simp at h;lia
     refine⟨a,b,rfl,Or.inl ⟨⟨_,t⟩,⟨_,e⟩,VX LK (xs:=us) (ys:=X) (λi σ L=>∃v A,σ=[some (.ref a),some (.ref b),v,A]/\Ac H L/\∀j:Nat,j<i->r[j]?=k[j]?) ⟨none,none,rfl,Ac.refl _,λj M=>absurd M (Nat.not_lt_zero _)⟩ (λi σ L aa=>by obtain⟨_,_,_,s,_⟩:=aa;exact⟨s.seq t,s.seq e⟩) ?_ ?_⟩⟩;rintro i x y T σ U ab ae hT ⟨v,A,rfl,C,D⟩;obtain⟨N,l,t1⟩:=J.get ab;obtain⟨O,E,t2⟩:=I.get ae;have Q:=A8 (o:=.tup [x,y]) hT;refine⟨_,Ao.of Aa,rfl,?_⟩;generalize upd U T (.tup [x,y])=ai at Q ⊢;have m:=C.trans Q;refine⟨x,y,N,O,rfl,t1.same m,t2.same m,hd N (Bi l),W O (Bi E),λbb H3 R S=>⟨rfl,?_⟩⟩
     cases bb with
     |false =>
       refine C5 (q false _ (m.trans R) ⟨λz=>(by cases z),λz=>?_⟩);have e1:r=k:=by cases z;rfl
       rw[e1,E] at l;have:=S.mpr (B2 l).symm;cases this
     |true =>
       refine Bw ⟨_,_,rfl,m.trans R,λj M=>?_⟩;by_cases c:j=i;rw[c,l,E,S.mp rfl];exact D j (by lia)
     rintro σ U ⟨v,A,rfl,C,D⟩;refine q true _ C ⟨λζ=>?_,λζ=>rfl⟩;congr 1;refine List.ext_getElem? λj=>?_;by_cases c:j<k.length
     exact D j (by simp only[p,u,Y,Nat.min_self] at *;lia)
     rw[Gu (by lia),Gu (by lia)]
   |bl _=>exact False.elim hd
   |_=>exact C5 (q false _ (Ac.refl _) ⟨λz=>(by cases z),λz=>(by cases z)⟩)
 | tup k =>
   obtain⟨b,X,rfl,e,I⟩:=Xd G;have p:=I.length;refine⟨rfl,Ap (λh=>absurd (Bc h) (by simp)) (λζ=>?_)⟩;refine⟨_,.str,.tup,rfl,.tup e,rfl,Bw ?_⟩;refine⟨_,.int,.tup,rfl,.tup e,rfl,Bw ?_⟩;refine⟨_,.lst,.tup,rfl,.tup e,rfl,Bw (Bw ?_)⟩;refine⟨_,.tup,.tup,rfl,.tup e,rfl,C5 ⟨_,.tup,OS d,rfl,QE g,rfl,?_⟩⟩
   cases d with
   |tup r =>
     obtain⟨a,us,rfl,t,J⟩:=Xd g;have u:=J.length;refine Bw ?_;refine⟨_,Or.inr ⟨_,t,rfl⟩,_,Or.inr ⟨_,e,rfl⟩,rfl,rfl,Ap (λh=>?_) (λh=>?_)⟩;refine q false _ (Ac.refl _) ⟨λz=>(by cases z),λz=>?_⟩;cases z;rw[u,p] at h;simp at h
     have Y:r.length=k.length:=by
      rw[u,p] at h;simp at h;lia
     refine⟨a,b,rfl,Or.inr ⟨⟨_,t⟩,⟨_,e⟩,VX TK (xs:=us) (ys:=X) (λi σ L=>∃v A,σ=[some (.ref a),some (.ref b),v,A]/\Ac H L/\∀j:Nat,j<i->r[j]?=k[j]?) ⟨none,none,rfl,Ac.refl _,λj M=>absurd M (Nat.not_lt_zero _)⟩ (λi σ L aa=>by obtain⟨_,_,_,s,_⟩:=aa;exact⟨s.seqT t,s.seqT e⟩) ?_ ?_⟩⟩;rintro i x y T σ U ab ae hT ⟨v,A,rfl,C,D⟩;obtain⟨N,l,t1⟩:=J.get ab;obtain⟨O,E,t2⟩:=I.get ae;have Q:=A8 (o:=.tup [x,y]) hT;refine⟨_,Ao.of Aa,rfl,?_⟩;generalize upd U T (.tup [x,y])=ai at Q ⊢;have m:=C.trans Q;refine⟨x,y,N,O,rfl,t1.same m,t2.same m,hd N (Bi l),W O (Bi E),λbb H3 R S=>⟨rfl,?_⟩⟩
     cases bb with
     |false =>
       refine C5 (q false _ (m.trans R) ⟨λz=>(by cases z),λz=>?_⟩);have e1:r=k:=by cases z;rfl
       rw[e1,E] at l;have:=S.mpr (B2 l).symm;cases this
     |true =>
       refine Bw ⟨_,_,rfl,m.trans R,λj M=>?_⟩;by_cases c:j=i;rw[c,l,E,S.mp rfl];exact D j (by lia)
     rintro σ U ⟨v,A,rfl,C,D⟩;refine q true _ C ⟨λζ=>?_,λζ=>rfl⟩;congr 1;refine List.ext_getElem? λj=>?_;by_cases c:j<k.length
     exact D j (by simp only[p,u,Y,Nat.min_self] at *;lia)
     rw[Gu (by lia),Gu (by lia)]
   |bl _=>exact False.elim hd
   |_=>exact C5 (q false _ (Ac.refl _) ⟨λz=>(by cases z),λz=>(by cases z)⟩)
def gP(B:BA mg)(F:Bq K "_law_same" "_law_same" Nh f fd)(a:mg "_law_same" = some (.ref f))(n:Nat):By P w K mg base "_law_same" (0+n) ["_law_found", "_law_due"] (QF K n):=by
 have b:Binds K fd ["_law_found", "_law_due"] []:=F.binds λζ ζ ζ ζ ζ ζ us c=>(by obtain⟨g,i,rfl⟩:=HX c;rfl)
 induction n with
 |zero=>exact⟨f,fd,⟨λd H Q E h=>(by obtain⟨_,_,_,_,_,_,_,h,_⟩:=h;exact False.elim h),λA k s H j us d Q E ζ ζ ζ ζ h=>(by obtain⟨_,_,_,_,_,_,_,h,_⟩:=h;exact False.elim h)⟩,a,F.kp,b⟩
 |succ n e=>exact⟨f,fd,gO B n e F,a,F.kp,b⟩
abbrev QG(P w K mg base):=By P w K mg base "_law_same" 8 ["_law_found", "_law_due"] (gN K)
def gQ(B:BA mg)(F:Bq K "_law_same" "_law_same" Nh f fd)(a:mg "_law_same" = some (.ref f)):QG P w K mg base:=
 gP B F a 8
theorem Um:∀{l m:List Int},l.Pairwise (· < ·)->m.Pairwise (· < ·)->(∀y,y∈l ↔ y∈m)->l=m
 |[],[],_,_,_=>rfl
 |[],b::m,_,_,h=>by have:=(h b).mpr A3;cases this
 |a::l,[],_,_,h=>by have:=(h a).mp A3;cases this
 |a::l,b::m,p,q,h=>by
   obtain⟨c,J⟩:=List.pairwise_cons.mp p;obtain⟨d,f⟩:=List.pairwise_cons.mp q
   have e:a=b:=by
    rcases BO.mp ((h a).mp A3) with z|z;exact z;rcases BO.mp ((h b).mpr A3) with y|y;exact y.symm;have g:=d a z;have i:=c b y;lia
   subst e;rw[Um J f λy=>⟨λz=>?_,λz=>?_⟩];rcases BO.mp ((h y).mp (Ce _ z)) with e|e;have:=c y z;lia;exact e;rcases BO.mp ((h y).mpr (Ce _ z)) with e|e;have:=d y z;lia;exact e
theorem Ms(n:Nat):∀a:C',Dn (n+2) (B7 a)
 |none=>True.intro
 |some p=>λd hd=>by
   rcases BO.mp hd with rfl|hd;exact True.intro;rw[AR.mp hd];exact True.intro
def Ij(n:Nat)(w:List Ar):Dn (n+3) (CP.D w):=λd hd=>by
 obtain⟨m,_,rfl⟩:=Bd.mp hd;intro e a;rcases BO.mp a with rfl|a;exact True.intro;rcases BO.mp a with rfl|a;exact True.intro;rw[AR.mp a];exact True.intro
theorem Ke(n:Nat):∀w:Option Wt,Dn (n+4) (LO w)
 |none=>True.intro
 |some p=>λd hd=>by
   rcases BO.mp hd with rfl|hd;exact True.intro;rcases BO.mp hd with rfl|hd;exact Ij n p.2.1;rw[AR.mp hd];exact True.intro
abbrev GX (a:C') (w:Option Wt) (ls:List Lk) (us:List Int):Dt:=.tup [.tup [B7 a,LO w],.lst (ls.map LQ),.int (ls.foldl Fz 0),.lst (us.map Dt.int)]
def QH(a:C')(w:Option Wt)(ls:List Lk)(us:List Int):Dn 8 (GX a w ls us):=λd hd=>by
 rcases BO.mp hd with rfl|hd
 exact λd hd=>by
  rcases BO.mp hd with rfl|hd;exact Ms 4 a;rw[AR.mp hd];exact Ke 2 w
 rcases BO.mp hd with rfl|hd
 exact λd hd=>by
  obtain⟨l,_,rfl⟩:=Bd.mp hd
  exact λd hd=>by
   obtain⟨v,_,rfl⟩:=Bd.mp hd;exact Ij 2 v
 rcases BO.mp hd with rfl|hd;exact True.intro;rw[AR.mp hd]
 exact λd hd=>by
  obtain⟨o,_,rfl⟩:=Bd.mp hd;exact True.intro
def QI{r D:Addr}{b:V}{us:List Int}{a:C'}{w:Option Wt}{ls:List Lk}(c:H r=some (.tup [v,b,.int (ls.foldl Fz 0),.ref D]))(hv:Aq K H v (.tup [B7 a,LO w]))(d:Aq K H b (.lst (ls.map LQ)))(e:H D=some (.lst (us.map V.int))):Aq K H (.ref r) (GX a w ls us):=
 .tup (Ao.of c) (.cons hv (.cons d (.cons (.int _) (.cons (.lst (Ag.of e) (Py _)) .nil))))
variable {as':List (C')}
def gR{q:Int}(h:as'[q.toNat]?=as[q.toNat]?):Ei gs as' q=Ei gs as q:=by unfold Ei;rw[h]
def gS{st:Int}(a:F0 W.as as' (EW W st p)):EW (W.late as') st p=EW W st p:=by
 unfold EW at a ⊢;rw[show Dl (W.late as') st=Dl W st from rfl]
 by_cases h:p.2.1=("by" : Str)/\(EA (Dl W st) p.1).isSome=true;rw[An h] at a;rw[An h,An h,gR (a _ A3)];rw[Al h,Al h]
def gT{ls:List Lk}{ts:List Int}(a:F0 W.as as' (Bo W ls ts)):Bo (W.late as') ls ts=Bo W ls ts:=by
 unfold Bo at a ⊢;rw[JJ (f:=DV (W.late as')) (g:=DV W) λl c=>?_];unfold DV at a ⊢;rw[JJ (f:=A9 (W.late as')) (g:=A9 W) λb d=>?_];unfold A9 at a ⊢;exact JJ λp e=>gS λq h=>a q (E7 _ (List.mem_flatMap.mpr ⟨l,c,E7 _ (List.mem_flatMap.mpr ⟨b,d,List.mem_flatMap.mpr ⟨p,e,h⟩⟩)⟩))
def Xe{ls:List Lk}(h:k∈KG ls):¬ls.foldl Fz 0/2 ^ k%2=0:=λz=>by
 have e:=WC ls 0;have a:=(WA k (KG ls) 0).mpr (.inr h);generalize (KG ls).foldl L3 0=N at e a;rw[show(0:Int)=((0:Nat):Int) from rfl,e] at z;rw[Nat.testBit_eq_decide_div_mod_eq] at a;have b:=Bc a
 have:((N/2 ^ k%2:Nat):Int)=0:=by push_cast;exact z
 lia
def Uo(ss:List AY)(ng nq:Nat)(c b:Int)(n:Nat):(CI ss ng nq c b n).length=n:=by unfold CI;rw[Aj,List.length_range]
variable {nq:Nat}
def Kf{ls:List Lk}:∀l∈ls,∀b∈l.1,(CI ss ng nq c (ls.foldl Fz 0) ss.length)[b.2.1.toNat]?=ss[b.2.1.toNat]?:=λl d b e=>by
 have a:b.2.1.toNat∈KG ls:=List.mem_flatMap.mpr ⟨l,d,Bd.mpr ⟨b,e,rfl⟩⟩;generalize b.2.1.toNat=k at a;by_cases h:k<ss.length;unfold CI;rw[A6,List.getElem?_range h,Option.map_some];unfold Gq;rw[Al (Xe a),BC,AC h];rfl;rw[Gu (by rw[Uo];lia),Gu (by lia)]
abbrev Nb (B n ng nq:Nat) (s:AY):Prop:=s.1.length<=B/\s.2.length<=2/\(∀p∈s.1,Ex n nq p)/\∀p∈s.2,Ey ng nq p
def Up{B:Nat}:Nb B n ng nq ([],[]):=⟨Df _,Df _,λp a=>by(cases a),λp a=>by(cases a)⟩
def Mt{B:Nat}(b:1<=ss.length)(d:1<=ng)(f:1<=nq)(h:∀s∈ss,Nb B ss.length ng nq s)(k:Nat):Nb B ss.length ng nq (KZ ss ng nq c k):=by
 have hd:∀j,Nb B ss.length ng nq (ss.getD j ([],[])):=λj=>by
  rw[BC]
  cases e:ss[j]? with
  |none=>exact Up
  |some s=>exact h s (Bi e)
 unfold KZ;split;exact Up;split;exact hd _;refine⟨by rw[Aj,List.length_reverse];exact(hd k).1,?_,λp a=>?_,λp a=>?_⟩
 show(if _ then _ else _:List Ef).length<=2
 split;rw[Aj];exact(hd k).2.1;rw[Aj,List.length_reverse];exact(hd _).2.1;obtain⟨r,_,rfl⟩:=Bd.mp a;exact .inl ⟨rfl,DK _ (by lia),DX _ (by lia)⟩
 change p∈(if _ then _ else _:List Ef) at a
 split at a;obtain⟨r,_,rfl⟩:=Bd.mp a;exact .inr ⟨rfl,DK _ (by lia),DX _ (by lia)⟩;obtain⟨r,_,rfl⟩:=Bd.mp a;exact .inl ⟨rfl,DK _ (by lia),DX _ (by lia)⟩
def Ik{l:List CK}{v:Int}{ord:A'}(h:M8 ns ss gs qs l v ord)(n:as.length=qs.length)(r:∀p,some p∈as->p.1=("thing" : Str)->0<=p.2/\p.2<gs.length){w:List Qu}(x:∀q∈w,QB ss.length l.length q)(c b:Int):KE ⟨CI ss gs.length qs.length c b ss.length,gs,as,l⟩ w v ord/\∀s∈CI ss gs.length qs.length c b ss.length,s.1.length<=3:=by
 have i:=KW h n r;have o:=M6 ns;have y:=OJ ns;have z:=M7 ns (B1 ns).length;have eq:qs.length=BG ns:=(by rw[h.qs,TN]);have A:gs.length=(BN ns (B1 ns).length).length:=(by rw[h.gs]);have d:=OI (ls:=KS ns) (ns:=D1 ns) o.1 z.1 y.1 (B1 ns) (B1 ns).length;rw[<-h.ss,<-A,<-eq] at d;have t:DJ (Bk ns)<=3:=by unfold DJ;split<;>lia
 have all:∀s∈CI ss gs.length qs.length c b ss.length,Nb (DJ (Bk ns)) ss.length gs.length qs.length s:=λs a=>by
  have u:∀s∈ss,Nb (DJ (Bk ns)) ss.length gs.length qs.length s:=λs a=>⟨d.st s a,d.tl s a,by rw[d.len];exact d.kst s a,d.ktl s a⟩;obtain⟨k,G,rfl⟩:=Bd.mp a;unfold Gq;split;exact Mt (by rw[d.len];exact o.1) (by lia) (by lia) u k;rw[BC]
  cases e:ss[k]? with
  |none=>exact Up
  |some s=>exact u s (Bi e)
 have f:=Uo ss gs.length qs.length c b ss.length;generalize CI ss gs.length qs.length c b ss.length=g at all f
 have C:EU ⟨g,gs,as,l⟩:=by
  refine⟨λs a=>DY (all s a).1 (DY t (by decide)),λs a p j=>?_,λp j=>?_,r,i.ok.go⟩;show Ex g.length as.length p;rw[f,n];exact(all s a).2.2.1 p j;show Ft g.length as.length p;rw[f];exact i.ok.kth p j
 have D:Iy (DJ (Bk ns)) g.length*max 2 (DJ (Bk ns))<=62:=by
  rw[f,d.len];generalize Bk ns=m at o;have:m=1\/m=2\/m=3\/m=4\/m=5:=(by lia);rcases this with e|e|e|e|e<;>subst e<;>decide
 obtain⟨ok,E⟩:=V9 C (B:=DJ (Bk ns)) (λs a=>(all s a).1) (by show g.length<=100;rw[f,d.len];lia) D (λs a=>(all s a).2.1) (λs a p j=>by
  show Ey gs.length as.length p
  rw[n];exact(all s a).2.2.2 p j)
 refine⟨⟨ok,E,i.ol,i.irr,i.inn,λq F=>?_⟩,λs a=>DY (all s a).1 t⟩;show(0<=q.1/\q.1<(g.length:Int))/\_;rw[f];exact x q F
inductive K0 (K:Ai) (vs:List V) (H:Hp) (Q:VK):Prop where
 |mk (a:Addr) (ns:List Int) (h0:vs=[.ref a]) (h1:Ag K H a (ns.map V.int)) (h2:ns.length<=63) (h3:∀H',Q (.bl true) H'):K0 K vs H Q
def OT (K:Ai):Sp:=λvs H Q ζ=>K0 K vs H Q
theorem Il(B:BA mg)(bk:Qr P w K mg base)(aH:OD P w K mg base)(bl:Qs P w K mg base)(ar:QC P w K mg base)(bm:QD P w K mg base)(aD:QG P w K mg base)(F:Bq K "law" "law" Kk f fd):Ev P w K mg base Iq 10 f fd ["_law_script"] (OT K):=by
 refine F.ok IB (λvs H aF aG h=>?_) (λb2 A b8 s H vs aF aG hr h=>?_);obtain⟨a,ns,rfl,_⟩:=h;rfl
 . obtain⟨a,ns,rfl,hS,bn,kq⟩:=h
   refine⟨_,(Ak (DM (A1 bk (Ab (pv 0) Ae)) (B6 (n:=2) rfl (AD (Ay (i:=1) IB.nd) (AD (Ay (i:=2) IB.nd) B5))))
    (Ak (AI (i:=3) IB.nd (A1 aH (Ab (pv 0) (Ab Ah Ae))))
    (Ak (AI (i:=4) IB.nd (A1 bl (Ab (pv 3) (Ab (pv 1) Ae))))
    (Ak (AI (i:=5) IB.nd (Au AZ (pv 3) (BH Di B.b_len (Ab (As At (pv 1) Ah) Ae))))
    (Ak (AI (i:=6) IB.nd (A1 ar (Ab (pv 1) (Ab (pv 4) (Ab (pv 2) (Ab (pv 5) Ae))))))
    (Ak (DM (A1 bm (Ab (pv 1) (Ab (pv 4) (Ab (Au En (pv 3) Ah) (Ab (pv 5) (Ab (As At (pv 6) Ah) (Ab (As At (pv 6) Ah) Ae))))))) (B6 (n:=2) rfl (AD (Ay (i:=7) IB.nd) (AD (Ay (i:=8) IB.nd) B5))))
    (Ak (AI (i:=9) IB.nd (A1 ar (Ab (pv 7) (Ab (pv 8) (Ab (pv 2) (Ab (pv 5) Ae))))))
    (Ak (Bm (Nl (GZ (A1 aD (Ab (pv 9) (Ab (pv 6) Ae))))) (Aw (AN Km)) Bl)
    (Ak (Bm (PW.pt (O7 (Nl (GZ (BH Ir B.b_isinstance (Ab (As At (pv 6) Ah) (Ab (Iu "int" rfl B.b_int (by decide +kernel)) Ae))))) (Rz (Bv Cf (Au AZ (Au Hi (As At (pv 6) Ah) (As At (As At (As At (pv 1) Ah) (pv 5)) Ah)) Ah) Ah (Bu _))))) (Aw (AN Km)) Bl)
    (Aw (AN (A1 aD (Ab (A1 ar (Ab (pv 1) (Ab (pv 4) (Ab (pv 2) (Ab (pv 5) Ae))))) (Ab (pv 6) Ae)))))))))))))),?_⟩
   rfl';refine⟨a,ns,rfl,hS,bn,λbz D t ah ai R us Gs Es m l ss gs qs d r x b0 s1 er E g TB u=>?_⟩;refine⟨_,Ao.of er,rfl,?_⟩;have aI:m.length=gs.length:=g.tg.len;have b3:1<=gs.length/\gs.length<=6:=by rw[u.gs];exact M7 ns _
   have b4:qs.length=BG ns:=(by rw[u.qs,TN]);have zA:=OJ ns;have aJ:∀q∈qs,1<=q.2.2.length:=λq hq=>(Ia ns _ q (u.qs▸hq)).2.2.1;refine⟨a,ns,8,rfl,by decide,s1.seq hS,Dk ns 8,D,ah,ai,R,m,l,qs,rfl,Ao.of E,g.et,by lia,g.er,g.tq,by lia,aJ,λA av H3 hA o eA hv=>?_⟩;obtain⟨as,X⟩:∃as,as=J3 (Dk ns 8) qs m.length:=⟨_,rfl⟩;have S:as.length=qs.length:=by rw[X];exact dM _ _ _
   have aj:∀p,some p∈as->p.1=("thing" : Str)->0<=p.2/\p.2<gs.length:=λp hp e=>by rw[<-aI];rw[X] at hp;exact J4 (by lia) hp e
   have j:KE ⟨ss,gs,as,d⟩ qs r x:=KW u S aj;rw[<-X] at hv;clear X;have aK:(l.map V.ref).length=qs.length:=(by rw[Aj,g.tq.len]);refine Or.inr (Or.inl ⟨_,.ref R,Ao.of (o _ _ E),rfl,_,Or.inl ⟨_,Ag.of (o _ _ g.er),rfl⟩,(by show(0:Int)<((l.map V.ref).length:Int);lia),?_⟩);rw[aK];dsimp only[Gw];obtain⟨k,aw⟩:=DL (DK (Dk ns 8) (show(qs.length:Int)≠0 by lia));have ax:=DX (Dk ns 8) (show(0:Int)<(qs.length:Int) by lia);rw[aw] at ax ⊢;have T:k<qs.length:=(by lia);clear aw ax;have O:=AC T;have ay:=Ed T;generalize qs[k]=q at O ay;have C1:∀{H':Hp},Ac H3 H'->LC K (λζ=>True) H' D A t ⟨ss,gs,as,d⟩ qs r x:=λ{H'}s=>⟨⟨ah,ai,R,us,Gs,Es,m,l,(o.trans s) _ _ E,g.same (o.trans s)⟩,⟨av,Ag.of (s _ _ eA),(hv.same s).dts⟩,TB.same (o.trans s)⟩;have z1:=M6 ns;have z3:=M7 ns (B1 ns).length;have G:=OI (ls:=KS ns) (ns:=D1 ns) z1.1 z3.1 zA.1 (B1 ns) (B1 ns).length;rw[<-u.ss] at G
   have h3:∀s∈ss,s.1.length<=3:=λs U=>by
    have:=G.st s U;have:DJ (Bk ns)<=3:=by unfold DJ;split<;>lia
    lia
   have h2:∀s∈ss,s.2.length<=2:=G.tl;have b5:ss.length=Bk ns:=G.len;clear G;have az:(⟨ss,gs,as,d⟩:Wd).as.length<=40:=by show as.length<=40;lia
   refine⟨D,A,t,λζ=>True,⟨ss,gs,as,d⟩,qs,r,x,(k:Int),k,q,rfl,rfl,O,C1 (Ac.refl _),j,h3,az,λr4 au v tv I J L ls Y H4 M Z C a0 a1 eD hm a3=>?_⟩;refine⟨⟨by decide,by decide⟩,Or.inr (Or.inl ⟨_,.int _,Ao.of C,rfl,Or.inr (Or.inl ⟨_,.ref au,Ao.of C,rfl,?_⟩)⟩)⟩;have a4:=o.trans M;have a5:=j.q
   have aL:1<=d.length:=by
    have h1:=j.inn.1;have h2:r<(d.length:Int):=j.inn.2;lia
   refine⟨D,A,au,ah,ai,R,us,Gs,Es,m,l,ss,gs,qs,as,av,Dk ns 8/6,ls.foldl Fz 0,k,d.length,I,rfl,a4 _ _ E,g.same a4,M _ _ eA,hv.same M,eD,S,by lia,by lia,by lia,by lia,by lia,aL,λs U=>⟨by have:=h3 s U;lia,by have:=h2 s U;lia⟩,a5,aj,λr5 aM A2 S2 T2 R2 aN aO aP aQ a6 z v2 H5 s5 aR aS a7 aT aU QK AK=>?_⟩;refine⟨_,Ao.of aR,rfl,?_⟩;have aV:z.length=qs.length:=(by rw[AK.len,S]);obtain⟨a8,a9⟩:=Ik u aV AK.ok QK.ok (Dk ns 8/6) (ls.foldl Fz 0);obtain⟨aa,_⟩:=Ik u S aj QK.ok (Dk ns 8/6) (ls.foldl Fz 0);obtain⟨aE,ab⟩:=L4 Z (Kf (ss:=ss) (ng:=gs.length) (nq:=qs.length) (c:=Dk ns 8/6));have aA:=Uo ss gs.length qs.length (Dk ns 8/6) (ls.foldl Fz 0) ss.length;generalize CI ss gs.length qs.length (Dk ns 8/6) (ls.foldl Fz 0) ss.length=N at a8 aa aE ab a7 a9 aA;obtain⟨ak,aB,_⟩:=a5 q ay
   have ag:F0 as z (Bo ⟨ss,gs,as,d⟩ ls Y):=λy hy=>by
    have h0:=(Wz j.ok j.sm (S9 j.ok j.sm j.inn Z ak aB).1 hy).1;exact AK.at_ y.toNat (by rw[Int.toNat_of_nonneg h0];exact(hm y).mpr hy)
   have bo:LU ⟨N,gs,z,d⟩ r x q.1 q.2.1 q.2.2 0 J L ls Y:=LZ aa.ok aa.sm aa.inn aE (by show 0<=q.1/\q.1<(N.length:Int);rw[aA];exact ak) aB (by rw[ab];exact ag);have aW:Bo ⟨N,gs,z,d⟩ ls Y=Bo ⟨ss,gs,as,d⟩ ls Y:=(gT (W:=⟨N,gs,as,d⟩) (as':=z) (by rw[ab];exact ag)).trans ab;have bp:a6[k]?=some q:=QK.at_.trans O;have aX:=M.trans s5;refine⟨aM,A2,t,λζ=>True,⟨N,gs,z,d⟩,a6,r,x,(k:Int),k,q,rfl,rfl,bp,⟨⟨S2,T2,R2,aN,aO,aP,m,aQ,aS,a7⟩,⟨v2,Ag.of aT,aU.dts⟩,TB.same (o.trans aX)⟩,a8,a9,(by show z.length<=40;lia),λr6 D6 b1 b6 uB a2 w2 aY aZ H6 s6 bq ba br bs bb bc bt=>?_⟩;obtain⟨ea,ew,al,an⟩:=Og bo bq;subst ea ew al an;obtain rfl:=Um a3 bt λy=>(hm y).trans (by rw[<-aW];exact(bc y).symm);have Q:=s5.trans s6;refine⟨_,_,GX J L ls I,GX J L ls I,rfl,QI ba br bs bb,QI (Q _ _ C) (a0.same Q) (a1.same Q) (Q _ _ eD),QH _ _ _ _,QH _ _ _ _,λb H7 s7 hb=>?_⟩;rw[hb.mpr rfl];refine⟨rfl,Bw ?_⟩;have ae:=Q.trans s7;refine Or.inr (Or.inl ⟨_,.int (ls.foldl Fz 0),Ao.of (ae _ _ C),rfl,?_⟩);refine⟨_,.int,.int,rfl,.int _,rfl,Bw ?_⟩;have aC:=M.trans ae;have ao:=o.trans aC;have aq:l[k]?=some (l[k]'(by rw[g.tq.len];exact T)):=AC _;generalize l[k]'(by rw[g.tq.len];exact T)=tq at aq;obtain⟨pu,bd,_⟩:=g.tq.at_ _ _ _ aq O;have be:Bj (l.map V.ref) (k:Int)=some (.ref tq):=BF (by rw[A6,aq];rfl)
   have bf:q.1.toNat∈KG ls:=by
    have h8:∀{bg:Int}{p:List Str}{a:C'}{w:Option Wt}{ls:List Lk}{m:List Int},LU ⟨ss,gs,as,d⟩ r x q.1 q.2.1 p bg a w ls m->q.1.toNat∈KG ls:=λh=>by
     cases h with
     |stop h e n=>exact List.mem_flatMap.mpr ⟨_,A3,Bd.mpr ⟨_,(h.b.mem _).mpr .root,rfl⟩⟩
     |opn h e n=>exact List.mem_flatMap.mpr ⟨_,A3,Bd.mpr ⟨_,(h.b.mem _).mpr .root,rfl⟩⟩
     |no h e n=>exact List.mem_flatMap.mpr ⟨_,A3,Bd.mpr ⟨_,(h.b.mem _).mpr .root,rfl⟩⟩
     |go h e n k=>exact List.mem_flatMap.mpr ⟨_,A3,Bd.mpr ⟨_,(h.b.mem _).mpr .root,rfl⟩⟩
    exact h8 Z
   refine Or.inr (Or.inl ⟨_,.int (ls.foldl Fz 0),Ao.of (ae _ _ C),rfl,Or.inr (Or.inl ⟨_,.ref R,Ao.of (ao _ _ E),rfl,Or.inl ⟨_,.ref tq,Ag.of (ao _ _ g.er),be,Or.inr (Or.inl ⟨_,.int q.1,Ao.of (ao _ _ bd),rfl,ak.1,(by show(0:Int)<2;decide),?_⟩)⟩⟩)⟩);dsimp only[Gw];refine⟨rfl,rfl,Ap (λc1=>?_) (λc1=>?_)⟩;exact absurd (V.int.inj (Bc c1)) (Xe bf);refine⟨D,A,t,λζ=>True,⟨ss,gs,as,d⟩,qs,r,x,(k:Int),k,q,rfl,rfl,O,C1 aC,j,h3,az,λr8 D8 v8 b7 uC a2 w2 aY aZ H8 s8 bu bh bv bw bi bj bx=>?_⟩;obtain⟨ea,ew,al,an⟩:=Og Z bu;subst ea ew al an;obtain rfl:=Um a3 bx λy=>(hm y).trans (bj y).symm;have af:=ae.trans s8;refine⟨_,_,GX J L ls I,GX J L ls I,rfl,QI bh bv bw bi,QI (af _ _ C) (a0.same af) (a1.same af) (af _ _ eD),QH _ _ _ _,QH _ _ _ _,λb H9 s9 hb=>?_⟩;rw[hb.mpr rfl];exact kq _
abbrev OU(P w K mg base):=By P w K mg base "law" 10 ["_law_script"] (OT K)
def OV(B:BA mg)(d:Qr P w K mg base)(c:OD P w K mg base)(e:Qs P w K mg base)(g:QC P w K mg base)(h:QD P w K mg base)(i:QG P w K mg base)(F:Bq K "law" "law" Kk f fd)(a:mg "law" = some (.ref f)):OU P w K mg base:=
 ⟨f,fd,Il B d c e g h i F,a,F.kp,F.binds λζ ζ ζ ζ ζ ζ us b=>(by obtain⟨j,rfl⟩:=HW b;rfl)⟩
end
abbrev Fin (K:Ai) (mg:Str->Option Value) (x:Str) (st:Stmt):Prop:=∃f fd,Bq K x x st f fd/\mg x=some (.ref f)
def BQ{K:Ai}{h:Heap}{b:Str->Option Value}(X:K.In h)(G:h.Ns mainGlobals b){x:Str}{st:Stmt}(q:Fx K x st):Fin K b x st:=by
 obtain⟨f,d,e,g,m,kV,n,i,o,j,a,l,c,k⟩:=q;exact⟨f,_,Hq l c k,PySem.W.mg_of X G a⟩
def all_mk{l:PySem.W.OpenLaw}{w:World}{K:Ai}{h:Heap}{a:Str->Option Value}{f:Addr}(X:K.In h)(G:h.Ns mainGlobals a)(U:a "law" = some (.ref f))(q:Kl K)
 : ∃g:FuncData,(∀(s:Shared)(v:Value),BindsTo s g ⟨[v],[]⟩ [("_law_script",v)])/\∀b:Heap,K.In b->b.Ns mainGlobals a->Ev l.prog w K a b Iq 10 f g ["_law_script"] (OT K):=by
 obtain⟨cd,cf,cg,bv,ch,bw,bx,bz,b0,b1,V,W,Y,Z⟩:=q.q48;have e:=U.symm.trans (PySem.W.mg_of X G V);cases e;have B:BA a:=⟨FO X G q.z_all,FO X G q.z_any,FO X G q.z_bool,FO X G q.z_dict,FO X G q.z_enumerate,FO X G q.z_int,FO X G q.z_isinstance,FO X G q.z_len,FO X G q.z_list,FO X G q.z_min,FO X G q.z_range,FO X G q.z_reversed,FO X G q.z_set,FO X G q.z_sorted,FO X G q.z_str,FO X G q.z_tuple,FO X G q.z_zip,q.y_MOST_BEGINNINGS.imp λζ y=>PySem.W.mg_of X G y⟩;obtain⟨_,_,u,x⟩:=BQ X G q.q0;obtain⟨_,_,z,A⟩:=BQ X G q.q1;obtain⟨_,_,C,D⟩:=BQ X G q.q2;obtain⟨_,_,E,F⟩:=BQ X G q.q3;obtain⟨_,_,H,I⟩:=BQ X G q.q4;obtain⟨_,_,J,L⟩:=BQ X G q.q5;obtain⟨_,_,M,N⟩:=BQ X G q.q6;obtain⟨_,_,O,P⟩:=BQ X G q.q7;obtain⟨_,_,Q,R⟩:=BQ X G q.q8;obtain⟨_,_,S,T⟩:=BQ X G q.q9;obtain⟨_,_,aa,ab⟩:=BQ X G q.q10;obtain⟨_,_,ae,af⟩:=BQ X G q.q11;obtain⟨_,_,ag,ah⟩:=BQ X G q.q12;obtain⟨_,_,ai,aj⟩:=BQ X G q.q13;obtain⟨_,_,ak,al⟩:=BQ X G q.q14;obtain⟨_,_,an,ao⟩:=BQ X G q.q15;obtain⟨_,_,aq,ar⟩:=BQ X G q.q16;obtain⟨_,_,au,av⟩:=BQ X G q.q17;obtain⟨_,_,aw,ax⟩:=BQ X G q.q18;obtain⟨_,_,ay,az⟩:=BQ X G q.q19;obtain⟨_,_,a0,a1⟩:=BQ X G q.q20;obtain⟨_,_,a2,a3⟩:=BQ X G q.q21;obtain⟨_,_,a4,a5⟩:=BQ X G q.q22;obtain⟨_,_,a6,a7⟩:=BQ X G q.q23;obtain⟨_,_,a8,a9⟩:=BQ X G q.q24;obtain⟨_,_,aA,aB⟩:=BQ X G q.q25;obtain⟨_,_,aC,aD⟩:=BQ X G q.q26;obtain⟨_,_,aE,aF⟩:=BQ X G q.q27;obtain⟨_,_,aG,aH⟩:=BQ X G q.q28;obtain⟨_,_,aI,aJ⟩:=BQ X G q.q29;obtain⟨_,_,aK,aL⟩:=BQ X G q.q30;obtain⟨_,_,aM,aN⟩:=BQ X G q.q31;obtain⟨_,_,aO,aP⟩:=BQ X G q.q32;obtain⟨_,_,aQ,aR⟩:=BQ X G q.q33;obtain⟨_,_,aS,aT⟩:=BQ X G q.q34;obtain⟨_,_,aU,aV⟩:=BQ X G q.q35;obtain⟨_,_,aW,aX⟩:=BQ X G q.q36;obtain⟨_,_,aY,aZ⟩:=BQ X G q.q37;obtain⟨_,_,ba,bb⟩:=BQ X G q.q38;obtain⟨_,_,bc,bd⟩:=BQ X G q.q39;obtain⟨_,_,be,bf⟩:=BQ X G q.q40;obtain⟨_,_,bg,bh⟩:=BQ X G q.q41;obtain⟨_,_,bi,bj⟩:=BQ X G q.q42;obtain⟨_,_,bk,bl⟩:=BQ X G q.q43;obtain⟨_,_,bm,bn⟩:=BQ X G q.q44;obtain⟨_,_,bo,bp⟩:=BQ X G q.q45;obtain⟨_,_,bq,br⟩:=BQ X G q.q46;obtain⟨_,_,bs,bt⟩:=BQ X G q.q47;have bu:=Hq (st:=Kk) W Y Z;refine⟨PySem.W.fnOf "law" "law" (Kj Kk) (Io Kk) (AX Kk) .none bw bx bz bv b0 b1,λs v=>.of_eq rfl,λb ζ ζ=>?_⟩;have b2:Tq l.prog w K a b:=cE B u x;have i:OD l.prog w K a b:=cI B z A;have j:Qj l.prog w K a b:=cL B C D;have b3:Tt l.prog w K a b:=cO B j E F;have b4:Tx l.prog w K a b:=cR B j b3 H I;have b5:TD l.prog w K a b:=cT B J L;have b6:TF l.prog w K a b:=cV B M N;have b7:TH l.prog w K a b:=cY B O P;have b8:TJ l.prog w K a b:=dA B Q R;have b9:TL l.prog w K a b:=dE B b7 b8 S T;have bA:Qr l.prog w K a b:=dI B b2 i b4 b5 b6 b9 aa ab;have bB:Qs l.prog w K a b:=dO B ae af;have k:Qt l.prog w K a b:=dQ B ag ah;have bC:TQ l.prog w K a b:=dS B ai aj;have m:Qv l.prog w K a b:=dV B bC ak al;have bD:TR l.prog w K a b:=dX B m an ao;have n:Qw l.prog w K a b:=d6 B k bD aq ar;have bE:TU l.prog w K a b:=eH B n au av;have bF:TV l.prog w K a b:=eJ B bE aw ax;have bG:TW l.prog w K a b:=eQ B ay az;have bH:TX l.prog w K a b:=eU B bG a0 a1;have o:Qx l.prog w K a b:=eW B a2 a3;have p:Qy l.prog w K a b:=eY B a4 a5;have bI:TY l.prog w K a b:=e8 B a6 a7;have r:Qz l.prog w K a b:=fA B bI a8 a9;have bJ:TZ l.prog w K a b:=fC B o p r aA aB;have bK:T1 l.prog w K a b:=fE B bH bJ aC aD;have bL:T4 l.prog w K a b:=fG B o p r aE aF;have d:ON l.prog w K a b:=fI B aG aH;have bM:T6 l.prog w K a b:=fK B d aI aJ;have bN:T8 l.prog w K a b:=fM B d aK aL;have bO:Ic l.prog w K a b:=fN B bL bM bN aM aN;have bP:Ua l.prog w K a b:=fP B n aO aP;have c:M9 l.prog w K a b:=fR B bF bK bO bP m aQ aR;have bQ:Ub l.prog w K a b:=fS B c aS aT;have bR:Uc l.prog w K a b:=fU B c aU aV;have bS:Ud l.prog w K a b:=fW B aW aX;have bT:Ue l.prog w K a b:=fY B c bS aY aZ;have t:QA l.prog w K a b:=f0 B ba bb;have bU:Uf l.prog w K a b:=f6 B t bc bd;have bV:Ug l.prog w K a b:=f9 B k bU be bf;have bW:Uh l.prog w K a b:=gB B d bg bh;have bX:Ui l.prog w K a b:=gD B bV bW t bi bj;have bY:Uj l.prog w K a b:=gE B c bX bk bl;have bZ:QC l.prog w K a b:=gH B bQ bR bT bY bm bn;have ca:Ul l.prog w K a b:=gJ B bo bp;have cb:QD l.prog w K a b:=gM B ca bq br;have cc:QG l.prog w K a b:=gQ B bs bt;exact Il B bA i bB bZ cb cc bu
def walk{l:PySem.W.OpenLaw}{q:Program}{loose:List Str}{XP:(Str->Option Value)->Heap->Prop}{YP:World->Heap->Prop}{d:DefRec}{K:Params->Ai}(i:l.most=some 63)(r:d.params.defaults=[])
 (j:∀(w:World)(h:Heap),YP w h->(K w.params).In h)
 (F:∀(w:World)(b:Str->Option Value)(e:Addr)(h:Heap),(K w.params).In h->h.Ns mainGlobals b->b d.name=some (.ref e) ->
  ∃g:FuncData,(∀(s:Shared)(u:Value),BindsTo s g ⟨[u],[]⟩ [("_law_script",u)])/\∀c:Heap,(K w.params).In c->c.Ns mainGlobals b->Ev l.prog w (K w.params) b c Iq 10 e g ["_law_script"] (OT (K w.params))) :
 PySem.W.WalkO q loose XP YP l.row.toRowW d [] (λf vs=>PySem.call f vs):=
 L2.Jc (n:=63) (k:=10) (x:= "_law_script") (CX:=λζ=>Iq) (sp:=λw=>OT (K w.params)) i (by decide) r ⟨rfl,by decide,by decide⟩ j F (λζ ζ a m o ζ p=>⟨a,m,rfl,p,o,λζ=>rfl⟩) λζ ζ ζ ζ ζ z=>z
end K37
open PySem PySem.W PyProof.Rows in
theorem PySem.Challenge.cw_namepaths_k37_nothing_else_matters_holds : PySem.Challenge.rw_namepaths_k37_nothing_else_matters.Holds :=
 K37.hd λK q YP d h1 h2 hY=>K37.walk (l:=PySem.Challenge.rw_namepaths_k37_nothing_else_matters) rfl h1 hY λw mg fa h X G hm=>K37.all_mk X G (h2▸hm) (q w)
