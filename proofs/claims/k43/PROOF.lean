import PyProof.Rows.All
import Wide.All
import OpenK.AllK
import Wide.FinOn
import Lean
import PyProof.EqAt
import PyProof.EqKinds
import PyProof.TupleCall
import PySem.Challenge.RW_namepaths_k43_in_any_order
set_option Elab.async false
set_option linter.all false
set_option maxRecDepth 100000
set_option maxHeartbeats 1000000
abbrev Ah:=PySem.W.Frag
def Al:=@List.length_map
def AD:=@List.getElem?_eq_getElem
def AW:=@List.length_append
def Bn:=@List.map_append
def A7:=@List.getElem?_eq_some_iff
def BB:=@List.mem_append
def Bh:=@List.getElem?_map
def Bd:=@List.mem_of_getElem?
def Br:=@List.mem_map
def AY:=@List.mem_singleton
def Cp:=@List.size_toArray
def Bv:=@List.mem_cons_self
def Ce:=@List.mem_cons
def De:=@List.mem_append_right
def D7:=@List.map_cons
def Ch:=@List.mem_cons_of_mem
def BW:=@List.getD_eq_getElem?_getD
def DJ:=@List.take_succ
def D8:=@List.take_length
def EU:=@List.getElem?_append_left
def DE:=@List.length_singleton
def EC:=@List.getElem_mem
def FH:=@List.length_take
def DF:=@List.map_map
def Fc:=@List.getElem?_append_right
def En:=@List.take_zero
def D9:=@List.mem_append_left
def Ej:=@List.length_cons
def Gj:=@List.nodup_cons
def Fz:=@List.length_set
def FX:=@List.append_assoc
def Kh:=@List.length_drop
def OZ:=@List.mem_iff_getElem
def FA:=@List.append_nil
def MG:=@List.lookup_cons
def Gk:=@List.getElem?_eq_none
def MH:=@List.mem_filter
def MI:=@List.drop_eq_getElem_cons
def MJ:=@List.filter_cons
def Gm:=@List.length_nil
def Nj:=@List.map_nil
def Io:=@List.prefix_append
def Go:=@List.any_eq_true
def MK:=@List.find?_cons
def Nk:=@List.filter_append
def Ki:=@List.foldl_append
def O0:=@List.length_filter_le
def Gp:=@Option.map_eq_some_iff
def AB:=@Nat.le_refl
def F7:=@Nat.lt_irrefl
def Dh:=@Nat.le_of_lt
def CS:=@Nat.ne_of_lt
def QL:=@Nat.lt_succ_self
def Ci:=@Nat.zero_le
def ED:=@Int.emod_lt_of_pos
def EE:=@Int.emod_nonneg
def Df:=@Int.eq_ofNat_of_zero_le
def Be:=@Int.toNat_natCast
def A4:=@decide_eq_true
def DS:=@decide_eq_false
def Bg:=@of_decide_eq_true
def DK:=@PySem.F.plainAttrs_list
def EF:=@PySem.F.slot_list_append
def EG:=@PySem.F.type_list_append
def Cq:=@Bool.false_ne_true
def Bo:=@Option.some.inj
def Ak:=@if_neg
def Aj:=@if_pos
def FI:=@Nat.lt_of_lt_of_le
def Ek:=@Nat.le_trans
def Fe:=@Bool.false_eq_true
def QM:=@List.filterMap_cons
def BC:=@congrArg
open PySem PySem.Spec PyProof.Rows in
def Ad:=@wpAny_bind
open PySem PySem.Spec PyProof.Rows in
def Au:=@wpAny_pure
open PySem PySem.Spec PyProof.Rows in
def Ff:=@wpAny_holding
open PySem PySem.Spec PyProof.Rows in
def FJ:=@wpAny_truthy_bool
open PySem PySem.Spec PyProof.Rows in
def A8:=@Heap.get?_push_of_some
open PySem PySem.Spec PyProof.Rows in
def A1:=@Heap.lt_size
open PySem PySem.Spec PyProof.Rows in
def B4:=@Heap.get?_push_size
open PySem PySem.Spec PyProof.Rows in
def Cr:=@PassesOwn.never
open PySem PySem.Spec PyProof.Rows in
def FY:=@PySem.W.mg_none_of
open PySem PySem.Spec PyProof.Rows in
def F8:=@PySem.mem_of_lookup
open PySem PySem.Spec PyProof.Rows in
def ML:=@wpAny_typeOf
open PySem PySem.Spec PyProof.Rows in
def FK:=@wpAny_mono
open PySem PySem.Spec PyProof.Rows in
def F9:=@wpAny_seqItems
open PySem PySem.Spec PyProof.Rows in
def G4:=@wpAny_rule
noncomputable section
noncomputable def PySem.W.Fast.tw7359745262421152891:PySem.Program:=PySem.Challenge.pw_namepaths_k43_in_any_order
theorem PySem.W.Fast.te7359745262421152891:PySem.Challenge.pw_namepaths_k43_in_any_order=PySem.W.Fast.tw7359745262421152891:=rfl
namespace L2
open PySem PySem.Spec PyProof.Rows
noncomputable def Kj (s:Stmt):Arguments:=match s with
 |.FunctionDef _ a _ _ _ _ _ _ _ _=>a
 |_=>{posonlyargs:=[],args:=[],vararg:=none,kwonlyargs:=[],kw_defaults:=[],kwarg:=none,defaults:=[]}
noncomputable def Ip (s:Stmt):List Stmt:=match s with
 |.FunctionDef _ _ b _ _ _ _ _ _ _=>b
 |_=>[]
noncomputable def A3 (s:Stmt):Scope:=match s with
 |.FunctionDef _ _ _ _ _ _ sc _ _ _=>sc
 |_=>{kind:=.function,names:=[],isGenerator:=false,isCoroutine:=false}
section
open PySem.W PySem.W.Fast
noncomputable def GF (p:Program) (w:World) (N:Nat):Option Shared:=((tw10274390034422433532 tw14364793385576792824 (opening p) w N (PySem.start (opening p)).1 (PySem.start (opening p)).2).bind (tw14289696077712309145 p)).bind λs₀ =>
 match s₀.heap.isNs mainGlobals && s₀.gens.size==0 with
 |true=>(tw14082659384304107361 tw14364793385576792824 p w s₀.heap.objs.size (s₀.heap.nsMap mainGlobals "__annotations__") N s₀ (topStub p)).bind λs₁=>match staticsOk (tw5923862056798008813 p.main.body) s₀.heap s₁.heap && namesBound p s₁.heap && gensDone s₁ && laidKept s₀.heap s₁.heap with
   |true=>some s₁
   |false=>none
 |false=>none
theorem IL{p q:Program}{loose:List Str}{Xt:Shared->Bool}{α:Type}{Yf:Shared->α}{Ya:World->α}{N:Nat}
 (A:∀w:World,Option.map (λs=>tw4187177175401517315 q loose (tw5923862056798008813 p.main.body) Xt true s) (GF p w N)=some (openGood q loose))
 (B:∀w:World,Option.map Yf (GF p w N)=some (Ya w)):LeftO p q loose Xt Yf Ya N:=by
 intro w;have a:=A w;have b:=B w
 have h:Option.map (λs=>(tw4187177175401517315 q loose (tw5923862056798008813 p.main.body) Xt true s,Yf s)) (GF p w N)=some (openGood q loose,Ya w):=by
  cases e:GF p w N with
  |none=>rw[e] at a;cases a
  |some s =>
    rw[e] at a b;simp only[Option.map_some] at a b ⊢;rw[Bo a,Bo b]
 unfold GF at h;rw[<-te14082659384304107361,<-te10274390034422433532,<-te14364793385576792824,<-te4187177175401517315,<-te5923862056798008813,<-te14289696077712309145] at h;exact h
end
end L2
namespace K43
open PySem PySem.Spec PyProof.Rows PySem.W L2
noncomputable def top (i:Nat):Stmt:=PySem.Challenge.pw_namepaths_k43_in_any_order.main.body.getD i (.Pass ⟨0,0,0,0⟩)
abbrev QN:Stmt:=top 48
abbrev QO:Stmt:=top 47
abbrev QP:Stmt:=top 49
abbrev QQ:Stmt:=top 50
abbrev QR:Stmt:=top 51
abbrev QS:Stmt:=top 52
abbrev QU:Stmt:=top 53
abbrev QV:Stmt:=top 54
abbrev QW:Stmt:=top 55
abbrev O1:Stmt:=top 56
abbrev Nl:Stmt:=top 57
abbrev QX:Stmt:=top 11
abbrev QY:Stmt:=top 3
abbrev QZ:Stmt:=top 1
abbrev Q0:Stmt:=top 2
abbrev Q1:Stmt:=top 19
abbrev O3:Stmt:=top 18
abbrev Q2:Stmt:=top 15
abbrev Q3:Stmt:=top 12
abbrev Q4:Stmt:=top 16
abbrev O4:Stmt:=top 22
abbrev Q5:Stmt:=top 23
abbrev Q6:Stmt:=top 8
abbrev Q7:Stmt:=top 24
abbrev O5:Stmt:=top 21
abbrev Q8:Stmt:=top 27
abbrev Q9:Stmt:=top 29
abbrev Ra:Stmt:=top 9
abbrev Rb:Stmt:=top 30
abbrev Rc:Stmt:=top 31
abbrev MM:Stmt:=top 28
abbrev Re:Stmt:=top 17
abbrev Rf:Stmt:=top 26
abbrev Rg:Stmt:=top 45
abbrev Rh:Stmt:=top 59
abbrev Ri:Stmt:=top 37
abbrev Rj:Stmt:=top 36
abbrev Rk:Stmt:=top 34
abbrev Rl:Stmt:=top 35
abbrev Rm:Stmt:=top 33
abbrev Rn:Stmt:=top 41
abbrev O6:Stmt:=top 42
abbrev Ro:Stmt:=top 43
abbrev MN:Stmt:=top 40
abbrev Rp:Stmt:=top 39
abbrev Nm:Stmt:=top 58
abbrev IM:Stmt:=top 60
noncomputable def own:Stmt->Bool
 |.Assign [.Name x _] _ _=>x != "__name__"
 |_=>true
noncomputable def view:Program:={PySem.Challenge.pw_namepaths_k43_in_any_order with main:={PySem.Challenge.pw_namepaths_k43_in_any_order.main with body:=PySem.Challenge.pw_namepaths_k43_in_any_order.main.body.filter own}}
noncomputable abbrev Fx (K:Frag) (x:Str) (st:Stmt):Prop:=∃(f:Addr)(oc:Value)(od an:Option Addr)(osl:Array (Option Value))(kV doc pm cdv ct:Value),nsIn K mainGlobals x=some (some (.ref f))/\K.lookup f=some ⟨oc,od,.func (fnOf x x (Kj st) (Ip st) (A3 st) .none kV doc pm an cdv ct),osl⟩/\codeIn K cdv x=true/\keepIn K (.ref f)=true
theorem Aw{K:Frag}{x:Str}{st:Stmt}{f:Addr}{d:Value}{e g:Option Addr}{i:Array (Option Value)}{kV j h b ct:Value}(a:nsIn K mainGlobals x=some (some (.ref f)))(l:K.lookup f=some ⟨d,e,.func (fnOf x x (Kj st) (Ip st) (A3 st) .none kV j h g b ct),i⟩)(c:codeIn K b x=true)(k:keepIn K (.ref f)=true):Fx K x st:=⟨f,d,e,g,i,kV,j,h,b,ct,a,l,c,k⟩
theorem Rq{K:Frag}{x:Str}{v:Int}{t:Tok}(h:nsIn K mainGlobals x=some (some (.int v t))):∃t,nsIn K mainGlobals x=some (some (.int v t)):=⟨t,h⟩
structure Kk (K:Frag):Prop where
 q0:Fx K "_law_names" QN
 q1:Fx K "_law_cell_at" QO
 q2:Fx K "_law_ranks" QP
 q3:Fx K "_law_order" QQ
 q4:Fx K "_law_table" QR
 q5:Fx K "_law_question" QS
 q6:Fx K "_law_thing" QU
 q7:Fx K "_law_step" QV
 q8:Fx K "_law_telling" QW
 q9:Fx K "_law_scopes" O1
 q10:Fx K "_law_made" Nl
 q11:Fx K "next_state" QX
 q12:Fx K "inside_of_sort" QY
 q13:Fx K "inside" QZ
 q14:Fx K "goal" Q0
 q15:Fx K "steps_gone" Q1
 q16:Fx K "longer_by_a_step" O3
 q17:Fx K "beginnings" Q2
 q18:Fx K "has_end" Q3
 q19:Fx K "found_behind" Q4
 q20:Fx K "better_pairs" O4
 q21:Fx K "tree_of" Q5
 q22:Fx K "label_at" Q6
 q23:Fx K "first_hider" Q7
 q24:Fx K "seen_ways" O5
 q25:Fx K "look_for" Q8
 q26:Fx K "first_owed" Q9
 q27:Fx K "telling_at" Ra
 q28:Fx K "first_open" Rb
 q29:Fx K "meaning" Rc
 q30:Fx K "met" MM
 q31:Fx K "owed_behind" Re
 q32:Fx K "look_up" Rf
 q33:Fx K "find" Rg
 q34:Fx K "_law_next_open" Rh
 q35:Fx K "of_sort" Ri
 q36:Fx K "of_answer" Rj
 q37:Fx K "of_steps" Rk
 q38:Fx K "of_tellings" Rl
 q39:Fx K "questions_of" Rm
 q40:Fx K "found_in_turn" Rn
 q41:Fx K "uses_one" O6
 q42:Fx K "refuse_tangled" Ro
 q43:Fx K "settled" MN
 q44:Fx K "still" Rp
 q45:Fx K "_law_same" Nm
 q46:Fx K "law" IM
 z_all:nsIn K mainGlobals "all" = some none
 z_any:nsIn K mainGlobals "any" = some none
 z_bool:nsIn K mainGlobals "bool" = some none
 z_dict:nsIn K mainGlobals "dict" = some none
 z_enumerate:nsIn K mainGlobals "enumerate" = some none
 z_int:nsIn K mainGlobals "int" = some none
 z_isinstance:nsIn K mainGlobals "isinstance" = some none
 z_len:nsIn K mainGlobals "len" = some none
 z_list:nsIn K mainGlobals "list" = some none
 z_min:nsIn K mainGlobals "min" = some none
 z_range:nsIn K mainGlobals "range" = some none
 z_set:nsIn K mainGlobals "set" = some none
 z_sorted:nsIn K mainGlobals "sorted" = some none
 z_str:nsIn K mainGlobals "str" = some none
 z_tuple:nsIn K mainGlobals "tuple" = some none
 z_zip:nsIn K mainGlobals "zip" = some none
 y_MOST_BEGINNINGS:∃t,nsIn K mainGlobals "MOST_BEGINNINGS" = some (some (.int 200 t))
theorem G5(w:World):Option.map (λs=>Fast.tw4187177175401517315 view [] (Fast.tw5923862056798008813 PySem.Challenge.pw_namepaths_k43_in_any_order.main.body) (λs=>xlAt view [] s && recOk [] s) true s) (GF PySem.Challenge.pw_namepaths_k43_in_any_order w 40000)=some (openGood view []):=by kernel_rfl
end K43
section
open PySem PySem.W PyProof.Rows
local macro_rules | `(tactic| o_head $H:term) => `(tactic| refine holds_open (q := K43.view) (loose := []) (Xt := fun s => xlAt K43.view [] s && recOk [] s) (XP := XL K43.view []) (Yf := Hook.obs $H) (Ya := Hook.val $H) (YP := Hook.says $H) (N := 40000) ?hl (Hook.of $H) (Hook.keeps $H) (fun s e => xl_of s (Bool.and_eq_true_iff.mp e).1) XL.keeps (by rfl) (by rfl) (by rfl) (fun s e => recFacts_of (Bool.and_eq_true_iff.mp e).2) (by rfl) (by first | assumption | decide +kernel) (by decide +kernel) ⟨rfl, rfl, rfl, rfl, rfl, by decide +kernel⟩ ?hw ?hc)
set_option maxHeartbeats 0 in
theorem K43.hd(a:∀K:Params->Frag,(∀w:World,K43.Kk (K w.params))->∀(YP:World->Heap->Prop)(d:DefRec),d.params.defaults=[]->d.name = "law" -> (∀(w:World)(h:Heap),YP w h->(K w.params).In h)->WalkO K43.view [] (XL K43.view []) YP PySem.Challenge.rw_namepaths_k43_in_any_order.row.toRowW d [] (λf vs=>PySem.call f vs)):PySem.Challenge.rw_namepaths_k43_in_any_order.Holds:=by
 w_on;o_law;k_head
 case hl =>
  refine L2.IL K43.G5 λw=>?_
  kernel_rfl
 case hw=>w_witness2
 k_fill
 refine a _ (λw=>?fx) _ _ rfl rfl (λw h Y=>PySem.W.kIn_of Y)
 case fx =>
  refine' ⟨K43.Aw ?a0 ?l0 ?c0 ?k0,K43.Aw ?a1 ?l1 ?c1 ?k1,K43.Aw ?a2 ?l2 ?c2 ?k2,K43.Aw ?a3 ?l3 ?c3 ?k3,K43.Aw ?a4 ?l4 ?c4 ?k4,K43.Aw ?a5 ?l5 ?c5 ?k5,K43.Aw ?a6 ?l6 ?c6 ?k6,K43.Aw ?a7 ?l7 ?c7 ?k7,K43.Aw ?a8 ?l8 ?c8 ?k8,K43.Aw ?a9 ?l9 ?c9 ?k9,K43.Aw ?a10 ?l10 ?c10 ?k10,K43.Aw ?a11 ?l11 ?c11 ?k11,K43.Aw ?a12 ?l12 ?c12 ?k12,K43.Aw ?a13 ?l13 ?c13 ?k13,K43.Aw ?a14 ?l14 ?c14 ?k14,K43.Aw ?a15 ?l15 ?c15 ?k15,K43.Aw ?a16 ?l16 ?c16 ?k16,K43.Aw ?a17 ?l17 ?c17 ?k17,K43.Aw ?a18 ?l18 ?c18 ?k18,K43.Aw ?a19 ?l19 ?c19 ?k19,K43.Aw ?a20 ?l20 ?c20 ?k20,K43.Aw ?a21 ?l21 ?c21 ?k21,K43.Aw ?a22 ?l22 ?c22 ?k22,K43.Aw ?a23 ?l23 ?c23 ?k23,K43.Aw ?a24 ?l24 ?c24 ?k24,K43.Aw ?a25 ?l25 ?c25 ?k25,K43.Aw ?a26 ?l26 ?c26 ?k26,K43.Aw ?a27 ?l27 ?c27 ?k27,K43.Aw ?a28 ?l28 ?c28 ?k28,K43.Aw ?a29 ?l29 ?c29 ?k29,K43.Aw ?a30 ?l30 ?c30 ?k30,K43.Aw ?a31 ?l31 ?c31 ?k31,K43.Aw ?a32 ?l32 ?c32 ?k32,K43.Aw ?a33 ?l33 ?c33 ?k33,K43.Aw ?a34 ?l34 ?c34 ?k34,K43.Aw ?a35 ?l35 ?c35 ?k35,K43.Aw ?a36 ?l36 ?c36 ?k36,K43.Aw ?a37 ?l37 ?c37 ?k37,K43.Aw ?a38 ?l38 ?c38 ?k38,K43.Aw ?a39 ?l39 ?c39 ?k39,K43.Aw ?a40 ?l40 ?c40 ?k40,K43.Aw ?a41 ?l41 ?c41 ?k41,K43.Aw ?a42 ?l42 ?c42 ?k42,K43.Aw ?a43 ?l43 ?c43 ?k43,K43.Aw ?a44 ?l44 ?c44 ?k44,K43.Aw ?a45 ?l45 ?c45 ?k45,K43.Aw ?a46 ?l46 ?c46 ?k46,?z_all,?z_any,?z_bool,?z_dict,?z_enumerate,?z_int,?z_isinstance,?z_len,?z_list,?z_min,?z_range,?z_set,?z_sorted,?z_str,?z_tuple,?z_zip,K43.Rq ?y_MOST_BEGINNINGS⟩
  case a0|l0|c0|k0|a1|l1|c1|k1|a2|l2|c2|k2|a3|l3|c3|k3|a4|l4|c4|k4|a5|l5|c5|k5|a6|l6|c6|k6|a7|l7|c7|k7|a8|l8|c8|k8|a9|l9|c9|k9|a10|l10|c10|k10|a11|l11|c11|k11|a12|l12|c12|k12|a13|l13|c13|k13|a14|l14|c14|k14|a15|l15|c15|k15|a16|l16|c16|k16|a17|l17|c17|k17|a18|l18|c18|k18|a19|l19|c19|k19|a20|l20|c20|k20|a21|l21|c21|k21|a22|l22|c22|k22|a23|l23|c23|k23|a24|l24|c24|k24|a25|l25|c25|k25|a26|l26|c26|k26|a27|l27|c27|k27|a28|l28|c28|k28|a29|l29|c29|k29|a30|l30|c30|k30|a31|l31|c31|k31|a32|l32|c32|k32|a33|l33|c33|k33|a34|l34|c34|k34|a35|l35|c35|k35|a36|l36|c36|k36|a37|l37|c37|k37|a38|l38|c38|k38|a39|l39|c39|k39|a40|l40|c40|k40|a41|l41|c41|k41|a42|l42|c42|k42|a43|l43|c43|k43|a44|l44|c44|k44|a45|l45|c45|k45|a46|l46|c46|k46|z_all|z_any|z_bool|z_dict|z_enumerate|z_int|z_isinstance|z_len|z_list|z_min|z_range|z_set|z_sorted|z_str|z_tuple|z_zip|y_MOST_BEGINNINGS=>k_is
end
set_option Elab.async false
set_option linter.all false
set_option maxRecDepth 100000
namespace L2
open PySem PySem.Spec PyProof.Rows
abbrev AO:=Sum Int Str
def MO:AO->Value->Bool
 |.inl k,v=>Value.isInt k v
 |.inr x,v=>Value.isStrOf x v
def Rr (w:World):AO->Int
 |.inl k=>hashInt k
 |.inr x=>hashStr w x
theorem IP:∀{k:AO}{v:Value},MO k v=true->(∃i t,k=Sum.inl i/\v=Value.int i t)\/(∃x t,k=Sum.inr x/\v=Value.str x t)
 |.inl i,v,h=>by
   obtain⟨t,e⟩:=Value.isInt_shape (k:=i) (v:=v) h;exact .inl ⟨i,t,rfl,e⟩
 |.inr x,v,h=>by
   obtain⟨t,e⟩:=Value.isStrOf_shape (x:=x) (v:=v) h;exact .inr ⟨x,t,rfl,e⟩
theorem Xr(i:Int)(t:Tok):MO (.inl i) (.int i t)=true:=by simp[MO,Value.isInt]
theorem Xs(x:Str)(t:Tok):MO (.inr x) (.str x t)=true:=by simp[MO,Value.isStrOf]
theorem KZ(a b:Int):decide ((Sum.inl a:AO)=Sum.inl b)=(a==b):=by
 by_cases e:a=b;subst e;simp;have h:¬(Sum.inl a:AO)=Sum.inl b:=λq=>e (Sum.inl.inj q);rw[DS h];exact(beq_eq_false_iff_ne.mpr e).symm
theorem K0(a b:Str):decide ((Sum.inr a:AO)=Sum.inr b)=decide (a=b):=by
 by_cases e:a=b;subst e;simp;have h:¬(Sum.inr a:AO)=Sum.inr b:=λq=>e (Sum.inr.inj q);rw[DS h,DS e]
theorem K1(a:Int)(b:Str):decide ((Sum.inl a:AO)=Sum.inr b)=false:=DS (λq=>nomatch q)
theorem K2(a:Str)(b:Int):decide ((Sum.inr a:AO)=Sum.inl b)=false:=DS (λq=>nomatch q)
def EK (prog:Program) (w:World):PySem.KeyKind prog w AO where
 is:=MO
 hash:=Rr w
 inj:=λv a b ha hb=>by
  rcases IP ha with⟨i,t,rfl,rfl⟩|⟨x,t,rfl,rfl⟩;rcases IP hb with⟨j,u,rfl,e⟩|⟨y,u,rfl,e⟩;injection e with e1 _;rw[e1];exact nomatch e;rcases IP hb with⟨j,u,rfl,e⟩|⟨y,u,rfl,e⟩;exact nomatch e;injection e with e1 _;rw[e1]
 byValue:=λk v h=>by
  rcases IP h with⟨i,t,rfl,rfl⟩|⟨x,t,rfl,rfl⟩<;>rfl
 pyHash:=λhv h=>by
  rcases IP hv with⟨i,t,rfl,rfl⟩|⟨x,t,rfl,rfl⟩;exact wpAny_pyHash_int h;exact wpAny_pyHash_str h
 eqBool:=λhu hv h=>by
  rcases IP hu with⟨i,t,rfl,rfl⟩|⟨x,t,rfl,rfl⟩;rcases IP hv with⟨j,u,rfl,rfl⟩|⟨y,u,rfl,rfl⟩;rw[KZ] at h;exact wpAny_eqBool_int h;rw[K1] at h;exact SeqAt.EqAt.int_str i t y u _ _ _ _ h;rcases IP hv with⟨j,u,rfl,rfl⟩|⟨y,u,rfl,rfl⟩;rw[K2] at h;exact SeqAt.EqAt.str_int x t j u _ _ _ _ h;rw[K0] at h;exact wpAny_eqBool_str h
 «strs»:=λk x t v h=>by
  rcases IP h with⟨i,u,rfl,e⟩|⟨y,u,rfl,e⟩;exact nomatch e;injection e with e1 _;subst e1;cases v<;>rfl
theorem Xu(prog:Program)(w:World)(i:Int)(t:Tok):(EK prog w).is (.inl i) (.int i t)=true:=Xr i t
theorem Xv(prog:Program)(w:World)(x:Str)(t:Tok):(EK prog w).is (.inr x) (.str x t)=true:=Xs x t
inductive V where
 |non|bl (b:Bool)|int (i:Int)|str (x:Str)|byt (b:Array UInt8)|flt (b:UInt64)|ref (a:Addr)|ty (n:String)
 deriving DecidableEq
def RelV:V->Value->Prop
 |.non,u=>u=Value.none
 |.bl b,u=>u=Value.bool b
 |.int i,u=>∃t,u=Value.int i t
 |.str x,u=>∃t,u=Value.str x t
 |.byt b,u=>∃t,u=Value.bytes b t
 |.flt b,u=>∃t,u=Value.float b t
 |.ref a,u=>u=Value.ref a
 |.ty n,u=>u=Value.type n
abbrev As:List V->List Value->Prop:=Paired RelV
theorem As.length{xs:List V}{us:List Value}(r:As xs us):xs.length=us.length:=Paired.length r
theorem As.get:∀{xs:List V}{us:List Value}{i:Nat}{x:V},As xs us->xs[i]?=some x->∃u,us[i]?=some u/\RelV x u
 |_,_,_,_,.nil,e=>by simp at e
 |_,_,0,_,.cons r _,e=>by simp at e;subst e;exact⟨_,rfl,r⟩
 |_,_,i+1,x,.cons _ t,e=>by
   obtain⟨u,a,b⟩:=As.get (i:=i) (x:=x) t (by simpa using e);exact⟨u,by simpa using a,b⟩
theorem As.set{x:V}{u:Value}(r:RelV x u):∀{xs:List V}{us:List Value}(i:Nat),As xs us->As (xs.set i x) (us.set i u)
 |_,_,_,.nil=>.nil
 |_,_,0,.cons _ t=>.cons r t
 |_,_,i+1,.cons q t=>.cons q (As.set r i t)
theorem As.append:∀{xs ys:List V}{us ws:List Value},As xs us->As ys ws->As (xs++ys) (us++ws)
 |_,_,_,_,.nil,s=>s
 |_,_,_,_,.cons r t,s=>.cons r (As.append t s)
theorem As.take:∀{xs:List V}{us:List Value}(n:Nat),As xs us->As (xs.take n) (us.take n)
 |_,_,0,_=>.nil
 |_,_,_+1,.nil=>.nil
 |_,_,n+1,.cons r t=>.cons r (As.take n t)
theorem As.drop:∀{xs:List V}{us:List Value}(n:Nat),As xs us->As (xs.drop n) (us.drop n)
 |_,_,0,r=>r
 |_,_,_+1,.nil=>.nil
 |_,_,n+1,.cons _ t=>As.drop n t
def Ea:Option V->Option Value->Prop
 |some v,some u=>RelV v u
 |none,none=>True
 |_,_=>False
def KV {κ:Type}:List (κ×V)->List (κ×Value)->Prop:=Paired λ(p:κ×V)(q:κ×Value)=>p.1=q.1/\RelV p.2 q.2
def kV:AO->V
 |.inl i=>.int i
 |.inr x=>.str x
inductive HO where
 |lst (xs:List V)
 |tup (xs:List V)
 |dK (kvs:List (AO×V))|dT (kvs:List (List AO×V))
 |set (S:Int->Bool) (n:Nat)
 |ins (C dx:Addr) (fs:List (Str×V))
 |own (x:Addr)
 |xd (fs:List (Str×V))
 |met (f x:Addr)
 |rng (lo hi:Int)
 |frz (o:Obj) (u:HO)
 |tbl (ps:Array Value)
 |ext (φ:Heap->Prop)
abbrev Hp:=Addr->Option HO
def upd (H:Hp) (a:Addr) (o:HO):Hp:=λb=>if b=a then some o else H b
variable {H:Hp}{a:Addr}{o:HO}
theorem Aa:upd H a o a=some o:=by unfold upd;rw[Aj rfl]
variable {b:Addr}
theorem AC(h:b≠a):upd H a o b=H b:=by unfold upd;rw[Ak h]
variable {u:HO}
theorem Uo:upd (upd H a o) a u=upd H a u:=by
 funext b;unfold upd;split<;>rfl
theorem MP(h:H a=some o)(h':H b=some u)(d:o≠u):a≠b:=by
 intro e;subst e;rw[h] at h';exact d (Bo h')
theorem AJ(h:H a=some o)(h':H b=none):a≠b:=by
 intro e;subst e;rw[h] at h';cases h'
section
variable (P:Program) (w:World)
def Az (H:Hp) (h:Heap) (a:Addr):HO->Prop
 |.lst xs=>xs.length<=sizeLine/\∃(its:List Value)(n:Nat),As xs its/\h.get? a=some {cls:=.type "list",data:=.seq its.toArray n}
 |.tup xs=>xs.length<=sizeLine/\∃its:List Value,As xs its/\IsTup h a its.toArray
 |.dK kvs=>kvs.length<=sizeLine/\(a==sysModules)=false/\∃vs,KV kvs vs/\h.DictOf (EK P w) a vs
 |.dT kvs=>kvs.length<=sizeLine/\(a==sysModules)=false/\∃xs:List (List AO×Addr×Value),
  Paired (λ(p:List AO×V)(q:List AO×Addr×Value)=>p.1=q.1/\H q.2.1=some (.tup (p.1.map kV))/\RelV p.2 q.2.2) kvs xs /\
  ∃o es ep,h.get? a=some o/\o.ExactDict/\o.data=.dict es ep/\es.toList=xs.map (entryOfKey (tupleKind (EK P w)))/\(xs.map (·.1)).Nodup
 |.set S n=>h.SetOf (intKind P w) a S n
 |.ins C dx fs=>H dx=some (.own a)/\fs.length<=1000/\dx≠a/\h.get? a=some (PySem.W.instObj C dx) /\
  ∃mA,h.Ns1 dx mA/\(∀f,Ea (fs.lookup f) (mA f))/\PySem.Within mA (fs.map (·.1))
 |.own _=>∃o,h.get? a=some o
 |.xd fs=>∃mA,h.Ns1 a mA/\∀f,Ea (fs.lookup f) (mA f)
 |.rng lo hi=>∃t u v,h.get? a=some {cls:=.type "range",data:=.fields #[.int lo t,.int hi u,.int 1 v]}
 |.frz o u=>h.get? a=some o/\Az H h a u
 |.tbl ps=>h.get? a=some {cls:=.none,data:=.fields ps}
 |.met f x=>h.get? a=some (PySem.W.methodObj (.ref f) (.ref x))
 |.ext φ=>φ h/\(∃o,h.get? a=some o)/\∀h1 h2:Heap,φ h1->(∀o,h1.get? a=some o->h2.get? a=some o)->φ h2
def CW (H:Hp) (h:Heap):Prop:=∀a o,H a=some o->Az P w H h a o
end
section
variable {P:Program} {w:World} {H H':Hp} {h h':Heap} {a:Addr} {o:HO}
theorem Az.lt(x:Az P w H h a o):a<h.objs.size:=by
 cases o with
 |lst b=>obtain⟨_,_,_,_,e⟩:=x;exact A1 e
 |tup b=>obtain⟨_,_,_,p⟩:=x;exact p.lt
 |dK c=>obtain⟨_,_,_,_,o,_,_,e,_⟩:=x;exact A1 e
 |dT c=>obtain⟨_,_,_,_,o,_,_,e,_⟩:=x;exact A1 e
 |set S n=>obtain⟨o,_,_,_,e,_⟩:=x;exact A1 e
 |ins C d fs=>obtain⟨_,_,_,e,_⟩:=x;exact A1 e
 |own y=>obtain⟨_,e⟩:=x;exact A1 e
 |xd fs=>obtain⟨_,⟨_,_,_,e,_⟩,_⟩:=x;exact A1 e
 |rng lo g=>obtain⟨_,_,_,e⟩:=x;exact A1 e
 |frz i u=>obtain⟨e,_⟩:=x;exact A1 e
 |tbl j=>exact A1 (show h.get? a=some _ from x)
 |met f y=>exact A1 (show h.get? a=some _ from x)
 |ext φ=>obtain⟨_,⟨_,e⟩,_⟩:=x;exact A1 e
theorem Paired.mapP{α β:Type}{F G:α->β->Prop}:∀{c:List α}{d:List β},Paired F c d->(∀a b,F a b->G a b)->Paired G c d
 |_,_,.nil,_=>.nil
 |_,_,.cons r t,f=>.cons (f _ _ r) (Paired.mapP t f)
theorem Az.stay(x:Az P w H h a o)(k:∀b u,(b=a\/H b=some (.own a))->h.get? b=some u->h'.get? b=some u)
 (B:∀b,H b=some (.own a)->H' b=some (.own a)) (D:∀b xs,H b=some (.tup xs)->H' b=some (.tup xs)):Az P w H' h' a o:=by
 induction o with
 |lst xs=>obtain⟨z,m,n,r,e⟩:=x;exact⟨z,m,n,r,k _ _ (.inl rfl) e⟩
 |tup xs=>obtain⟨z,m,r,g,e,c⟩:=x;exact⟨z,m,r,g,k _ _ (.inl rfl) e,c⟩
 |dK I=>obtain⟨z,y,E,r,g,i,j,e,c⟩:=x;exact⟨z,y,E,r,g,i,j,k _ _ (.inl rfl) e,c⟩
 |dT I =>
   obtain⟨z,y,xs,r,g,i,j,e,c⟩:=x;exact⟨z,y,xs,Paired.mapP r λp q z=>⟨z.1,D _ _ z.2.1,z.2.2⟩,g,i,j,k _ _ (.inl rfl) e,c⟩
 |set S n=>obtain⟨g,i,j,t,e,c⟩:=x;exact⟨g,i,j,t,k _ _ (.inl rfl) e,c⟩
 |ins C J fs =>
   obtain⟨d,z,ne,e,mA,⟨l,i,j,F,c⟩,r⟩:=x;exact⟨B _ d,z,ne,k _ _ (.inl rfl) e,mA,⟨l,i,j,k _ _ (.inr d) F,c⟩,r⟩
 |own y=>obtain⟨g,e⟩:=x;exact⟨g,k _ _ (.inl rfl) e⟩
 |xd fs=>obtain⟨mA,⟨l,i,j,e,c⟩,r⟩:=x;exact⟨mA,⟨l,i,j,k _ _ (.inl rfl) e,c⟩,r⟩
 |rng lo K=>obtain⟨t,u,v,e⟩:=x;exact⟨t,u,v,k _ _ (.inl rfl) e⟩
 |frz g u G=>obtain⟨e,q⟩:=x;exact⟨k _ _ (.inl rfl) e,G q⟩
 |tbl s =>
   have e:h.get? a=some {cls:=.none,data:=.fields s}:=x;show h'.get? a=some {cls:=.none,data:=.fields s};exact k a _ (.inl rfl) e
 |met f y =>
   have e:h.get? a=some (PySem.W.methodObj (.ref f) (.ref y)):=x;show h'.get? a=some (PySem.W.methodObj (.ref f) (.ref y));exact k a _ (.inl rfl) e
 |ext φ=>obtain⟨p,⟨o,e⟩,A⟩:=x;exact⟨A _ _ p λo q=>k _ _ (.inl rfl) q,⟨o,k _ _ (.inl rfl) e⟩,A⟩
theorem CW.lt(x:CW P w H h)(e:H a=some o):a<h.objs.size:=(x a o e).lt
theorem CW.fresh(x:CW P w H h)(e:h.objs.size<=a):H a=none:=by
 cases q:H a with
 |none=>rfl
 |some u=>exact absurd (FI (x.lt q) e) (F7 _)
theorem CW.kept(x:CW P w H h)(k:∀b u,h.get? b=some u->h'.get? b=some u):CW P w H h':=λa o e =>
 (x a o e).stay (λb u _ q=>k b u q) (λ_ q=>q) λ_ _ q=>q
theorem CW.laid(x:CW P w H h)(k:∀b u,h.get? b=some u->h'.get? b=some u)(g:h.objs.size<=a)(i:Az P w (upd H a o) h' a o):CW P w (upd H a o) h':=λb u e=>by
 have d:=x.fresh g;by_cases f:b=a;subst f;rw[Aa] at e;cases e;exact i;rw[AC f] at e;exact(x b u e).stay (λc v _ q=>k c v q) (λc q=>by rw[AC (AJ q d)];exact q) λc j q=>by rw[AC (AJ q d)];exact q
end
def Rd (H:Hp) (a:Addr) (u:HO):Prop:=H a=some u\/∃o,H a=some (.frz o u)
variable {P:Program}{w:World}{h:Heap}
theorem Rd.ok(r:Rd H a u)(x:CW P w H h):Az P w H h a u:=by
 rcases r with r|⟨o,r⟩;exact x a u r;obtain⟨_,q⟩:=x a _ r;exact q
def Nn:Option HO->Prop
 |some (.lst _)=>True
 |some (.dK _)=>True
 |some (.dT _)=>True
 |some (.set _ _)=>True
 |some (.ins _ _ _)=>True
 |some (.ext _)=>True
 |_=>False
section
variable {P:Program} {w:World} {H:Hp} {h h':Heap} {x e:Addr} {o':HO}
theorem CW.write(ok:CW P w H h)(a:Nn (H x))(j:e=x\/H e=some (.own x))(k:∀b u,b≠e->h.get? b=some u->h'.get? b=some u)(o:∃u,h'.get? e=some u)
 (p:Az P w (upd H x o') h' x o'):CW P w (upd H x o') h':=λb u q=>by
 have m:∀c y,H c=some (.own y)->c≠x:=λc y r z=>by subst z;rw[r] at a;exact a
 have s:∀c d,H c=some (.tup d)->c≠x:=λc d r z=>by subst z;rw[r] at a;exact a
 by_cases f:b=x;subst f;rw[Aa] at q;cases q;exact p;rw[AC f] at q;by_cases i:b=e
 have l:H b=some (.own x):=by
  rcases j with z|z;exact absurd (i.trans z) f;rw[i];exact z
 rw[q] at l;cases l;obtain⟨v,n⟩:=o;exact⟨v,by rw[i];exact n⟩;refine(ok b u q).stay (λc v g r=>k c v ?_ r) (λc r=>by rw[AC (m c b r)];exact r) λc d r=>by rw[AC (s c d r)];exact r
 rcases g with rfl|g;exact i;rintro rfl;rcases j with z|z;exact m c b g z;rw[g] at z;cases z;exact f rfl
end
structure Un (fs ex:List Addr) (H H':Hp) (h h':Heap):Prop where
 keep:∀b o,h.get? b=some o->H b=none->b∉fs->b∉ex->h'.get? b=some o
 slot:∀b o,h.get? b=some o->H b=none->b∈fs->b∉ex->∃sl,h'.get? b=some {o with slots:=sl}
 free:∀b o,h.get? b=some o->H b=none->b∉ex->H' b=none
 there:∀b o,h.get? b=some o->b∉ex->∃o',h'.get? b=some o'
 tups:∀b xs,H b=some (.tup xs)->H' b=some (.tup xs)
 frzs:∀b o u,H b=some (.frz o u)->H' b=some (.frz o u)
 tbls:∀b ps,H b=some (.tbl ps)->∃more,H' b=some (.tbl (ps++more))
section
variable {fs fs' ex ex':List Addr} {H Y H2:Hp} {h h1 h2 h':Heap} {a x e:Addr} {o:HO}
theorem Un.any(u:Un fs ex H Y h h1){ob:Obj}(q:h.get? b=some ob)(n:H b=none)(a:b∉ex):∃d,h1.get? b=some {ob with slots:=d}:=by
 by_cases c:b∈fs;exact u.slot b ob q n c a;exact⟨ob.slots,u.keep b ob q n c a⟩
theorem Un.kept(k:∀b u,h.get? b=some u->h'.get? b=some u):Un fs ex H H h h':=
 ⟨λb a q _ _ _=>k b a q,λb a q _ _ _=>⟨a.slots,k b a q⟩,λ_ _ _ n _=>n,λb a q _=>⟨a,k b a q⟩,λ_ _ q=>q,λ_ _ _ q=>q,λ_ c q=>⟨#[],by rw[q];simp⟩⟩
theorem Un.refl:Un fs ex H H h h:=Un.kept λ_ _ q=>q
theorem Un.laid(k:∀b u,h.get? b=some u->h'.get? b=some u)(d:h.objs.size<=a)(c:H a=none):Un fs ex H (upd H a o) h h' where
 keep:=λb u q _ _ _=>k b u q
 slot:=λb u q _ _ _=>⟨u.slots,k b u q⟩
 free:=λb u q n _=>by rw[AC (CS (FI (A1 q) d))];exact n
 there:=λb u q _=>⟨u,k b u q⟩
 tups:=λb e q=>by rw[AC (AJ q c)];exact q
 frzs:=λb u e q=>by rw[AC (AJ q c)];exact q
 tbls:=λb f q=>⟨#[],by rw[AC (AJ q c),q];simp⟩
theorem Un.write(a:Nn (H x))(i:e=x\/H e=some (.own x))(k:∀b u,b≠e->h.get? b=some u->h'.get? b=some u)(m:∃u,h'.get? e=some u):Un fs ex H (upd H x o) h h':=by
 have d:∀b,H b=none->b≠x:=λb n z=>by subst z;rw[n] at a;exact a
 have f:∀b,H b=none->b≠e:=λb n z=>by
  subst z;rcases i with r|r;exact d b n r;rw[n] at r;cases r
 have c:∀b u,H b=some u->¬Nn (some u)->b≠x:=λb u q j z=>by subst z;rw[q] at a;exact j a
 refine⟨λb u q n _ _=>k b u (f b n) q,λb u q n _ _=>⟨u.slots,k b u (f b n) q⟩,λb u q n _=>by rw[AC (d b n)];exact n,λb u q _=>?_,
  λb l q=>by rw[AC (c b _ q λz=>z)];exact q,λb u l q=>by rw[AC (c b _ q λz=>z)];exact q,λb p q=>⟨#[],by rw[AC (c b _ q λz=>z),q];simp⟩⟩
 by_cases g:b=e;subst g;exact m;exact⟨u,k b u g q⟩
end
def GU (h:Heap) (H:Hp):List Addr:=(List.range h.objs.size).filter λa=>(H a).isSome
def Fg (h:Heap) (H:Hp):Heap:=PySem.W.hideAll h (GU h H)
theorem Xw(h:Heap)(H:Hp):(Fg h H).objs.size=h.objs.size:=PySem.W.hideAll_size _ _
theorem Xx{o:Obj}(e:h.get? b=some o)(n:H b=none):(Fg h H).get? b=some o:=
 PySem.W.hideAll_get _ e λa=>by
  have q:(H b).isSome=true:=(MH.mp a).2;rw[n] at q;simp at q
theorem IQ{o:Obj}(e:(Fg h H).get? b=some o):h.get? b=some o/\H b=none:=by
 have a:h.get? b=some o:=PySem.W.of_hideAll (GU h H) e;refine⟨a,?_⟩
 cases q:H b with
 |none=>rfl
 |some x =>
   have c:b∈GU h H:=MH.mpr ⟨List.mem_range.mpr (A1 a),by simp[q]⟩;have z:(Fg h H).get? b=none:=PySem.W.hideAll_none (GU h H) c;rw[z] at e;cases e
structure Mod (K:Ah) (mg:Str->Option Value) (base:Heap):Prop where
 kin:K.In base
 glob:base.Ns mainGlobals mg
 blt:∃mb,base.Ns builtinsNs mb/\∀x:Str,x ≠ "__name__" -> mb x=bootBuiltins x
 nolimit:base.NoLimit
structure Cx where
 prog:Program
 w:World
 K:Ah
 mg:Str->Option Value
 base:Heap
 A:Around
 N:List Str
 s₀:Shared
 H₀:Hp
 env:Env
 outer:List Env
 stack:List Env
 ex:List Addr
 fn:Str->Bool
 calm:Bool
 pn:List (Addr×Obj)
 xe:Value->Shared->Prop
def EV (l:List Env):List Addr:=l.filterMap (·.frame)
abbrev Cx.fs (X:Cx):List Addr:=EV X.outer
def O7 (sc:Scope) (x:Str):Prop:=sc.names.lookup x=some .local\/sc.names.lookup x=some .cell\/sc.names.lookup x=some .free
def Loc (sc:Scope) (x:Str):Prop:=sc.names.lookup x=some .local\/sc.names.lookup x=some .cell
def Look (env:Env) (h:Heap) (m:Str->Option Value) (x:Str) (u:Value):Prop:=
 (env.kindOf x=some .local/\m x=some u)\/((env.kindOf x=some .cell\/env.kindOf x=some .free)/\∃c,env.cells.lookup x=some c/\h.IsCell c (some u))
structure Cx.Ok (X:Cx):Prop where
 mod:Mod X.K X.mg X.base
 kind:X.env.scope.kind=.function
 glob:X.env.globals=mainGlobals
 blt:X.env.builtins=builtinsNs
 above:X.s₀.heap.objs.size<=X.env.locals
 inj:∀x y c,X.env.cells.lookup x=some c->X.env.cells.lookup y=some c->x=y
 has:∀x,(X.env.kindOf x=some .cell\/X.env.kindOf x=some .free)->∃c,X.env.cells.lookup x=some c
 cab:∀x c,X.fn x=true->X.env.cells.lookup x=some c->X.s₀.heap.objs.size<=c
 hd:X.calm=true->X.A.handled=none
 frames:X.A.frames=some X.stack
 stk:X.stack=X.outer\/(X.stack=X.env::X.outer/\X.env.frame=some X.env.locals)
 exf:∀b∈X.ex,b≠X.env.locals/\∀x c,X.env.cells.lookup x=some c->c≠b
 bs:∀b o,X.base.get? b=some o->X.s₀.heap.get? b=some o/\X.H₀ b=none
 bsz:X.base.objs.size<=X.s₀.heap.objs.size
 noex:∀b o,X.base.get? b=some o->b∉X.ex
 exfs:∀b∈X.ex,b∉X.fs
 funs:X.s₀.heap.FunFrames X.base X.outer
 frf:∀b∈X.fs,X.H₀ b=none
structure Inv (X:Cx) (pins:List (Addr×Obj)) (σ:List (Option V)) (H:Hp) (s:Shared):Prop where
 ok:X.Ok
 os:s.os=X.s₀.os
 bare:AllBare s.gens
 base:Un X.fs X.ex X.H₀ H X.s₀.heap s.heap
 loc:∃m,s.heap.Ns X.env.locals m/\∀(i:Nat)(x:Str)(v:V),X.N[i]?=some x->σ[i]?=some (some v)->O7 X.env.scope x->∃u,RelV v u/\Look X.env s.heap m x u
 cell:∀x c,X.env.cells.lookup x=some c->∃v,s.heap.IsCell c v
 free:H X.env.locals=none
 freeC:∀x c,X.env.cells.lookup x=some c->H c=none
 pin:∀p∈X.pn++pins,s.heap.get? p.1=some p.2/\H p.1=none/\p.1≠X.env.locals/\p.1∉X.fs/\∀v,p.2.data≠.cell v
 hok:CW X.prog X.w H s.heap
 len:σ.length=X.N.length
section
variable {X:Cx} {pins:List (Addr×Obj)} {σ:List (Option V)} {H H':Hp} {s:Shared} {h':Heap}
theorem Cx.Ok.nofr(ok:X.Ok){o:Obj}(e:X.base.get? b=some o):b∉X.fs:=λa=>by
 have:=(ok.funs.mem a).1;rw[e] at this;cases this
theorem Inv.bs(I:Inv X pins σ H s):∀b o,X.base.get? b=some o->s.heap.get? b=some o/\H b=none:=λb o e =>
 ⟨I.base.keep b o (I.ok.bs b o e).1 (I.ok.bs b o e).2 (I.ok.nofr e) (I.ok.noex b o e),I.base.free b o (I.ok.bs b o e).1 (I.ok.bs b o e).2 (I.ok.noex b o e)⟩
theorem Inv.bk(I:Inv X pins σ H s):∀b o,X.base.get? b=some o->s.heap.get? b=some o:=λb o e=>(I.bs b o e).1
theorem Inv.mod(I:Inv X pins σ H s):Mod X.K X.mg X.base:=I.ok.mod
theorem Inv.kIn(I:Inv X pins σ H s):X.K.In s.heap:=I.ok.mod.kin.keeps I.bk
theorem Inv.lt(I:Inv X pins σ H s):X.env.locals<s.heap.objs.size:=let ⟨_,a,_⟩:=I.loc;a.lt
theorem Inv.sz(I:Inv X pins σ H s):X.s₀.heap.objs.size<=s.heap.objs.size:=Ek I.ok.above (Dh I.lt)
theorem Inv.nofs(I:Inv X pins σ H s)(h:s.heap.objs.size<=a):a∉X.fs:=λb=>by
 obtain⟨_,o,c,_⟩:=I.ok.funs.mem b;exact absurd (FI (A1 c) (Ek I.sz h)) (F7 _)
theorem Inv.cne(I:Inv X pins σ H s):∀x c,X.env.cells.lookup x=some c->c≠X.env.locals:=λx c e z=>by
 obtain⟨v,o,a,hd⟩:=I.cell x c e;obtain⟨m,⟨f,g,h,b,d,_⟩,_⟩:=I.loc;rw[z,b] at a;cases a;rw[d] at hd;cases hd
theorem Inv.funs(I:Inv X pins σ H s):s.heap.FunFrames X.base X.outer:=by
 have all:∀(l:List Env),(∀b∈EV l,b∈X.fs)->X.s₀.heap.FunFrames X.base l->s.heap.FunFrames X.base l:=by
  intro l
  induction l with
  |nil=>intro _ _;trivial
  |cons p r g =>
    intro f h;obtain⟨i,⟨L,o,a,j,k,hd⟩,m⟩:=h;have c:L∈X.fs:=f L (by unfold EV;rw[QM,a];exact Bv);obtain⟨n,e⟩:=I.base.slot L o k (I.ok.frf L c) c λz=>I.ok.exfs L z c;exact⟨i,⟨L,_,a,j,e,hd⟩,g (λb d=>f b (by unfold EV;rw[QM,a];exact Ch _ d)) m⟩
 exact all X.outer (λ_ d=>d) I.ok.funs
theorem Inv.stack(I:Inv X pins σ H s):s.heap.FunFrames X.base X.stack:=by
 rcases I.ok.stk with e|⟨e,a⟩;rw[e];exact I.funs;rw[e];obtain⟨m,b,_⟩:=I.loc;refine .cons (by rw[I.ok.kind];decide) a b ?_ I.funs;exact Heap.get?_none_of_le (Ek I.ok.bsz I.ok.above)
theorem Inv.stkSub(I:Inv X pins σ H s):∀b∈EV X.stack,b∈X.env.locals::X.fs:=λb a=>by
 rcases I.ok.stk with e|⟨e,c⟩;rw[e] at a;exact Ch _ a;rw[e] at a;unfold EV at a;rw[QM,c] at a;exact a
theorem Inv.stkFree(I:Inv X pins σ H s):∀b∈EV X.stack,H b=none:=λb a=>by
 rcases Ce.mp (I.stkSub b a) with e|a;rw[e];exact I.free;obtain⟨_,o,c,_⟩:=I.ok.funs.mem a;exact I.base.free b o c (I.ok.frf b a) λz=>I.ok.exfs b z a
variable {t':Nat}{ch:List Addr}
theorem Inv.step{g':Array GenState}{d':Drawn}(I:Inv X pins σ H s)
 (w:∀b∈ch,(b∈X.ex\/X.s₀.heap.objs.size<=b)/\b≠X.env.locals/\(∀x c,X.env.cells.lookup x=some c->c≠b)/\∀p∈X.pn++pins,p.1≠b)
 (keep:∀b o,b≠X.env.locals->b∉X.fs->b∉ch->s.heap.get? b=some o->H b=none->h'.get? b=some o)
 (G:∀b o,b≠X.env.locals->b∈X.fs->b∉ch->s.heap.get? b=some o->H b=none->∃B,h'.get? b=some {o with slots:=B}) (free:∀b o,b∉ch->s.heap.get? b=some o->H b=none->H' b=none)
 (there:∀b o,b∉ch->s.heap.get? b=some o->∃j,h'.get? b=some j)
 (tups:∀b xs,H b=some (.tup xs)->H' b=some (.tup xs)) (S:∀b o u,H b=some (.frz o u)->H' b=some (.frz o u)) (T:∀b ps,H b=some (.tbl ps)->∃more,H' b=some (.tbl (ps++more)))
 (ns:∀m,s.heap.Ns X.env.locals m->h'.Ns X.env.locals m) (Q:CW X.prog X.w H' h') (K:AllBare g') :
 Inv X pins σ H' {s with heap:=h',gens:=g',drawn:=d',toks:=t'}:=by
 have F:∀b o,X.s₀.heap.get? b=some o->b≠X.env.locals:=λb o e=>CS (FI (A1 e) I.ok.above)
 have A:∀b o,X.s₀.heap.get? b=some o->b∉X.ex->b∉ch:=λb o e a g=>by
  rcases(w b g).1 with z|z;exact a z;exact absurd (FI (A1 e) z) (F7 _)
 have J:∀x c,X.env.cells.lookup x=some c->∀v,s.heap.IsCell c v->h'.IsCell c v:=λx c e v⟨o,h,hd⟩=>by
  have y:c∉ch:=λz=>(w c z).2.2.1 x c e rfl;by_cases C:c∈X.fs;obtain⟨B,q⟩:=G c o (I.cne x c e) C y h (I.freeC x c e);exact⟨_,q,hd⟩;exact⟨o,keep c o (I.cne x c e) C y h (I.freeC x c e),hd⟩
 refine⟨I.ok,I.os,K,⟨λb o e n g a=>?_,λb o e n g a=>?_,λb o e n a=>?_,λb o e a=>?_,λb xs e=>tups b xs (I.base.tups b xs e),λb o xs e=>S b o xs (I.base.frzs b o xs e),λb ps e=>?_⟩,?_,λx c e=>?_,?_,λx c e=>?_,λp D=>?_,Q,I.len⟩;exact keep b o (F b o e) g (A b o e a) (I.base.keep b o e n g a) (I.base.free b o e n a);obtain⟨B,f⟩:=I.base.slot b o e n g a;obtain⟨R,t⟩:=G b _ (F b o e) g (A b o e a) f (I.base.free b o e n a);exact⟨R,t⟩;obtain⟨j,f⟩:=I.base.there b o e a;exact free b j (A b o e a) f (I.base.free b o e n a);obtain⟨j,f⟩:=I.base.there b o e a;exact there b j (A b o e a) f;obtain⟨L,f⟩:=I.base.tbls b ps e;obtain⟨M,t⟩:=T b _ f;exact⟨L++M,by rw[t,Array.append_assoc]⟩;obtain⟨m,N,O⟩:=I.loc;refine⟨m,ns m N,λi x v f t P=>?_⟩;obtain⟨u,r,l⟩:=O i x v f t P;refine⟨u,r,?_⟩;rcases l with l|⟨k,c,e,z⟩;exact .inl l;exact .inr ⟨k,c,e,J x c e _ z⟩;obtain⟨v,z⟩:=I.cell x c e;exact⟨v,J x c e v z⟩;obtain⟨m,⟨o,_,_,h,_⟩,_⟩:=I.loc;exact free _ o (λz=>(w _ z).2.1 rfl) h I.free;obtain⟨v,o,h,hd⟩:=I.cell x c e;exact free c o (λz=>(w c z).2.2.1 x c e rfl) h (I.freeC x c e);obtain⟨e,n,ne,E,d⟩:=I.pin p D;have y:p.1∉ch:=λz=>(w p.1 z).2.2.2 p D rfl;exact⟨keep p.1 p.2 ne E y e n,free p.1 p.2 y e n,ne,E,d⟩
theorem Inv.un(I:Inv X pins σ H s)(u:Un X.fs [] H H' s.heap h')(i:CW X.prog X.w H' h'):Inv X pins σ H' {s with heap:=h',toks:=t'}:=by
 obtain⟨m,⟨o,l,p,c,r⟩,_⟩:=id I.loc;obtain⟨q,f⟩:=u.any c I.free (by simp)
 exact I.step (g':=s.gens) (d':=s.drawn) (ch:=[]) (λ_ z=>nomatch z) (λb o _ a _ e n=>u.keep b o e n a (by simp)) (λb o _ a _ e n=>u.slot b o e n a (by simp)) (λb o _ e n=>u.free b o e n (by simp)) (λb o _ e=>u.there b o e (by simp)) u.tups u.frzs u.tbls (λt g=>by
  obtain⟨v,j,k,d,h⟩:=g;rw[c] at d;cases d
  exact⟨_,j,k,f,h⟩) i I.bare
theorem Inv.call{g':Array GenState}{d':Drawn}(I:Inv X pins σ H s)(u:Un (EV X.stack) ch H H' s.heap h')(q:CW X.prog X.w H' h')(i:AllBare g')
 (g:∀b∈ch,(b∈X.ex\/X.s₀.heap.objs.size<=b)/\b≠X.env.locals/\(∀x c,X.env.cells.lookup x=some c->c≠b)/\∀p∈X.pn++pins,p.1≠b) :
 Inv X pins σ H' {s with heap:=h',gens:=g',drawn:=d',toks:=t'}:=by
 obtain⟨m,⟨o,w,y,f,r⟩,_⟩:=id I.loc;obtain⟨A,d⟩:=u.any f I.free λz=>(g _ z).2.1 rfl
 exact I.step (ch:=ch) g (λb o d j a e n=>u.keep b o e n (λz=>(Ce.mp (I.stkSub b z)).elim d j) a) (λb o _ _ a e n=>u.any e n a) (λb o a e n=>u.free b o e n a) (λb o a e=>u.there b o e a) u.tups u.frzs u.tbls (λB k=>by
  obtain⟨C,t,v,h,l⟩:=k;rw[f] at h;cases h
  exact⟨_,t,v,d,l⟩) q i
theorem Inv.turned{a:Addr}(I:Inv X pins σ H s)(k:∀b o,b≠a->s.heap.get? b=some o->h'.get? b=some o)(h:H a=none)(f:a≠X.env.locals)
 (i:a∈X.ex\/X.s₀.heap.objs.size<=a) (j:∀x c,X.env.cells.lookup x=some c->c≠a) (l:∀p∈X.pn++pins,p.1≠a):Inv X pins σ H {s with heap:=h',toks:=t'}:=by
 have g:∀b u,H b=some u->b≠a:=λb u e z=>by rw[z,h] at e;cases e
 refine I.step (g':=s.gens) (d':=s.drawn) (ch:=[a]) (λb t=>?_) (λb o _ _ d e _=>k b o (λz=>d (by simp[z])) e) (λb o _ _ d e _=>⟨o.slots,k b o (λz=>d (by simp[z])) e⟩) (λ_ _ _ _ n=>n)
  (λb o d e=>⟨o,k b o (λz=>d (by simp[z])) e⟩) (λ_ _ e=>e) (λ_ _ _ e=>e) (λb C e=>⟨#[],by rw[e];simp⟩) (λm w=>?_) (λb u e=>?_) I.bare
 have e:b=a:=(by simpa using t);subst e;exact⟨i,f,j,l⟩;obtain⟨o,y,A,B,r⟩:=w;exact⟨o,y,A,k _ o (Ne.symm f) B,r⟩;refine(I.hok b u e).stay (λc v d q=>k c v ?_ q) (λ_ q=>q) λ_ _ q=>q;rcases d with z|z;rw[z];exact g b u e;exact g c _ z
theorem Inv.tok(I:Inv X pins σ H s)(t:Nat):Inv X pins σ H {s with toks:=t}:=I.un (h':=s.heap) (t':=t) Un.refl I.hok
theorem Inv.kept{t':Nat}(I:Inv X pins σ H s)(k:∀b u,s.heap.get? b=some u->h'.get? b=some u):Inv X pins σ H {s with heap:=h',toks:=t'}:=I.un (Un.kept k) (I.hok.kept k)
theorem Inv.laid{a:Addr}{o:HO}{t':Nat}(I:Inv X pins σ H s)(k:∀b u,s.heap.get? b=some u->h'.get? b=some u)(c:s.heap.objs.size<=a)(d:Az X.prog X.w (upd H a o) h' a o) :
 Inv X pins σ (upd H a o) {s with heap:=h',toks:=t'}:=I.un (Un.laid k c (I.hok.fresh c)) (I.hok.laid k c d)
theorem Inv.write{x e:Addr}{o:HO}{t':Nat}(I:Inv X pins σ H s)(a:Nn (H x))(c:e=x\/H e=some (.own x))(k:∀b u,b≠e->s.heap.get? b=some u->h'.get? b=some u)(d:∃u,h'.get? e=some u)
 (f:Az X.prog X.w (upd H x o) h' x o):Inv X pins σ (upd H x o) {s with heap:=h',toks:=t'}:=I.un (Un.write a c k d) (I.hok.write a c k d f)
theorem Inv.pins_of{a:List (Addr×Obj)}(I:Inv X pins σ H s)(h:∀p∈a,s.heap.get? p.1=some p.2/\H p.1=none/\p.1≠X.env.locals/\p.1∉X.fs/\∀v,p.2.data≠.cell v):Inv X a σ H s:=
 ⟨I.ok,I.os,I.bare,I.base,I.loc,I.cell,I.free,I.freeC,λp b=>(BB.mp b).elim (λz=>I.pin p (D9 _ z)) (h p),I.hok,I.len⟩
variable {i:Nat}{x:Str}
theorem Up{N:List Str}(c:N.Nodup){j:Nat}(a:N[i]?=some x)(b:N[j]?=some x):i=j:=by
 obtain⟨f,d⟩:=A7.mp a;obtain⟨g,e⟩:=A7.mp b;exact(List.getElem_inj c).mp (d.trans e.symm)
theorem Uq{ai:Model}{A:Around}{E:Value->Shared->Prop}{v:V}{u:Value}{Q:Unit->Shared->Prop}(I:Inv X pins σ H s)(U:X.N.Nodup)(D:X.N[i]?=some x)(m:Loc X.env.scope x)(r:RelV v u)
 (h:∀Z,Inv X pins (σ.set i (some v)) H Z->(∃a,Heap.SameBut a s.heap Z.heap/\(a=X.env.locals\/X.env.cells.lookup x=some a))->Q () Z) (hf:X.fn x=true\/X.env.scope.names.lookup x=some .local:=by first|exact .inl rfl|exact .inr rfl|assumption):wpAny ai A (storeName X.env x u) Q E s:=by
 obtain⟨aj,J,W⟩:=id I.loc;have an:(X.env.scope.kind==.class || (X.env.scope.kind==.module && X.env.locals != X.env.globals))=false:=by rw[I.ok.kind];rfl
 have aa:i<σ.length:=by rw[I.len];exact(A7.mp D).1
 have cne:=I.cne
 have ah:∀{a:Addr}{h':Heap},(∃o,s.heap.get? a=some o/\H a=none)->Heap.SameBut a s.heap h'->CW X.prog X.w H h':=λ{a h'}ha f b ob e=>by
  obtain⟨_,_,ag⟩:=ha;refine(I.hok b ob e).stay (λc F l q=>(f.2 c ?_).trans q) (λ_ q=>q) λ_ _ q=>q;rintro rfl;rcases l with rfl|l;rw[ag] at e;cases e;rw[ag] at l;cases l
 rcases m with w|w;refine wpAny_storeName_local w J (λh' ak f=>?_) an;obtain⟨oL,_,_,al,_⟩:=id J;refine h _ ⟨I.ok,I.os,I.bare,⟨λb o e n B m=>?_,λb o e n B m=>?_,I.base.free,λb o e m=>?_,I.base.tups,I.base.frzs,I.base.tbls⟩,⟨_,ak,λj y K g t L=>?_⟩,λy c e=>?_,I.free,I.freeC,λp M=>?_,ah ⟨oL,al,I.free⟩ f,by simpa using I.len⟩ ⟨_,f,.inl rfl⟩;exact(f.2 b (CS (FI (A1 e) I.ok.above))).trans (I.base.keep b o e n B m);obtain⟨N,g⟩:=I.base.slot b o e n B m;exact⟨N,(f.2 b (CS (FI (A1 e) I.ok.above))).trans g⟩;obtain⟨O,g⟩:=I.base.there b o e m;exact⟨O,(f.2 b (CS (FI (A1 e) I.ok.above))).trans g⟩;by_cases C:j=i;subst C;rw[D] at g;cases g;rw[List.getElem?_set_self aa] at t;cases t;exact⟨u,r,.inl ⟨w,by simp⟩⟩;rw[List.getElem?_set_ne (Ne.symm C)] at t;obtain⟨P,R,q⟩:=W j y K g t L;refine⟨P,R,?_⟩;rcases q with⟨k,e⟩|⟨k,c,e,z⟩;refine .inl ⟨k,?_⟩;have:y≠x:=λe=>C (Up U g (e▸D));simp[this,e];exact .inr ⟨k,c,e,z.sameBut f (cne y c e)⟩;obtain⟨F,z⟩:=I.cell y c e;exact⟨F,z.sameBut f (cne y c e)⟩;obtain⟨e,n,ne,S,d⟩:=I.pin p M;exact⟨(f.2 p.1 ne).trans e,n,ne,S,d⟩
 have T:X.fn x=true:=by
  rcases hf with z|z;exact z;rw[z] at w;cases w
 obtain⟨c,l⟩:=I.ok.has x (.inl w);obtain⟨F,z⟩:=I.cell x c l;refine wpAny_storeName_cell I.ok.kind w l z (λh' ab f=>?_);obtain⟨Y,ae,ao⟩:=id z;refine h {s with heap:=h'} ⟨I.ok,I.os,I.bare,⟨λb o e n B m=>?_,λb o e n B m=>?_,I.base.free,λb o e m=>?_,I.base.tups,I.base.frzs,I.base.tbls⟩,⟨aj,J.sameBut f (Ne.symm (cne x c l)),λj y K g t L=>?_⟩,λy G e=>?_,I.free,I.freeC,λp M=>?_,ah ⟨Y,ae,I.freeC x c l⟩ f,by simpa using I.len⟩ ⟨c,f,.inr l⟩;exact(f.2 b (CS (FI (A1 e) (I.ok.cab x c T l)))).trans (I.base.keep b o e n B m);obtain⟨N,g⟩:=I.base.slot b o e n B m;exact⟨N,(f.2 b (CS (FI (A1 e) (I.ok.cab x c T l)))).trans g⟩;obtain⟨O,g⟩:=I.base.there b o e m;exact⟨O,(f.2 b (CS (FI (A1 e) (I.ok.cab x c T l)))).trans g⟩;by_cases C:j=i;subst C;rw[D] at g;cases g;rw[List.getElem?_set_self aa] at t;cases t;exact⟨u,r,.inr ⟨.inl w,c,l,ab⟩⟩;rw[List.getElem?_set_ne (Ne.symm C)] at t;obtain⟨P,R,q⟩:=W j y K g t L;refine⟨P,R,?_⟩;rcases q with q|⟨k,G,e,z'⟩;exact .inl q;refine .inr ⟨k,G,e,z'.sameBut f ?_⟩;rintro rfl;exact C (Up U g (I.ok.inj _ _ _ e l▸D));by_cases af:G=c;subst af;exact⟨_,ab⟩;obtain⟨w2,z2⟩:=I.cell y G e;exact⟨w2,z2.sameBut f af⟩;obtain⟨e,n,ne,S,d⟩:=I.pin p M;refine⟨(f.2 p.1 ?_).trans e,n,ne,S,d⟩;intro q;rw[q,ae] at e;have q':Y=p.2:=Bo e;exact d F (by rw[<-q'];exact ao)
theorem Rs{M:Model}{A:Around}{E:Value->Shared->Prop}{v:V}{u:Value}{Q:Unit->Shared->Prop}(I:Inv X pins σ H s)(a:X.N.Nodup)(b:X.N[i]?=some x)(c:Loc X.env.scope x)(r:RelV v u)
 (h:∀Z,Inv X pins (σ.set i (some v)) H Z->Q () Z) (d:X.fn x=true\/X.env.scope.names.lookup x=some .local:=by first|exact .inl rfl|exact .inr rfl|assumption):wpAny M A (storeName X.env x u) Q E s:=
 Uq I a b c r (λZ e _=>h Z e) d
theorem Inv.call'{Z:Shared}(I:Inv X pins σ H s)(a:Z.os=s.os)(u:Un (EV X.stack) ch H H' s.heap Z.heap)(g:CW X.prog X.w H' Z.heap)(d:AllBare Z.gens)
 (h:∀b∈ch,(b∈X.ex\/X.s₀.heap.objs.size<=b)/\b≠X.env.locals/\(∀x c,X.env.cells.lookup x=some c->c≠b)/\∀p∈X.pn++pins,p.1≠b):Inv X pins σ H' Z:=by
 obtain⟨h',g',d',t',f⟩:=Z;have e:f=s.os:=a;subst e;exact I.call (g':=g') (t':=t') (d':=d') u g d h
end
abbrev XK:=Value->Option Addr->Hp->Prop
abbrev St:=List (Option V)
abbrev VK:=V->Hp->Prop
abbrev TE:=St->Hp->VK->Prop
abbrev TT:=St->Hp->(Bool->Hp->Prop)->Prop
abbrev TA:=St->Hp->(List V->Hp->Prop)->Prop
structure Ends where
 nx:St->Hp->Prop
 rt:VK
 bk:St->Hp->Prop:=λ_ _=>False
 ct:St->Hp->Prop:=λ_ _=>False
abbrev TS:=Ends->St->Hp->Prop
def EP (X:Cx) (pins:List (Addr×Obj)) (σ:St) (Q:VK) (u:Value) (Z:Shared):Prop:=∃v H',Inv X pins σ H' Z/\RelV v u/\Q v H'
def TP (X:Cx) (pins:List (Addr×Obj)) (σ:St) (Q:Bool->Hp->Prop) (b:Bool) (Z:Shared):Prop:=∃H',Inv X pins σ H' Z/\Q b H'
def AP (X:Cx) (pins:List (Addr×Obj)) (σ:St) (Q:List V->Hp->Prop) (us:List Value) (Z:Shared):Prop:=∃vs H',Inv X pins σ H' Z/\As vs us/\Q vs H'
def SP (X:Cx) (pins:List (Addr×Obj)) (D:Ends) (f:Flow) (Z:Shared):Prop:=
 match f with
 |.next=>∃σ' H',Inv X pins σ' H' Z/\D.nx σ' H'
 |.brk=>∃σ' H',Inv X pins σ' H' Z/\D.bk σ' H'
 |.cont=>∃σ' H',Inv X pins σ' H' Z/\D.ct σ' H'
 |.ret u=>∃v σ' H',Inv X pins σ' H' Z/\RelV v u/\D.rt v H'
def PE (X:Cx) (e:Expr) (t:TE):Prop:=
 ∀(pins:List (Addr×Obj))(s:Shared)(σ:St)(H:Hp)(Q:VK),Inv X pins σ H s->t σ H Q->wpAny (model X.prog X.w) X.A (eval e X.env) (EP X pins σ Q) X.xe s
def PT (X:Cx) (e:Expr) (t:TT):Prop:=
 ∀(pins:List (Addr×Obj))(s:Shared)(σ:St)(H:Hp)(Q:Bool->Hp->Prop),Inv X pins σ H s->t σ H Q->wpAny (model X.prog X.w) X.A (isTrue e X.env (eval e X.env)) (TP X pins σ Q) X.xe s
def PW (X:Cx) (e:Expr) (t:TT):Prop:=
 ∀(whole:Sem Value)(pins:List (Addr×Obj))(s:Shared)(σ:St)(H:Hp)(Q:Bool->Hp->Prop),Inv X pins σ H s->t σ H Q->wpAny (model X.prog X.w) X.A (isTrue e X.env whole) (TP X pins σ Q) X.xe s
variable {X:Cx}{e:Expr}
theorem PW.pt{t:TT}(h:PW X e t):PT X e t:=h _
def PA (X:Cx) (es:List Expr) (t:TA):Prop:=
 ∀(L:Pos)(pins:List (Addr×Obj))(s:Shared)(σ:St)(H:Hp)(Q:List V->Hp->Prop),Inv X pins σ H s->t σ H Q->wpAny (model X.prog X.w) X.A (spliced (backTo L (starEach es X.env))) (AP X pins σ Q) X.xe s
def PS (X:Cx) (st:Stmt) (t:TS):Prop:=
 ∀(pins:List (Addr×Obj))(s:Shared)(σ:St)(H:Hp)(D:Ends),Inv X pins σ H s->t D σ H->wpAny (model X.prog X.w) X.A (exec st X.env) (SP X pins D) X.xe s
def Ga (X:Cx) (st:List Stmt) (t:TS):Prop:=
 ∀(pins:List (Addr×Obj))(s:Shared)(σ:St)(H:Hp)(D:Ends),Inv X pins σ H s->t D σ H->wpAny (model X.prog X.w) X.A (execs st X.env) (SP X pins D) X.xe s
variable {A:Around}{E:Value->Shared->Prop}{s:Shared}
theorem AV{α:Type}{t:Sem α}{Q b:α->Shared->Prop}{M:Model}(h:wpAny M A t Q E s)(c:∀a s,Q a s->b a s):wpAny M A t b E s:=FK h c λ_ _ x=>x
section
variable {X:Cx}
def mV:Option (Option V)->(V->Prop)->Prop|some (some v),q=>q v|_,_=>(λ_=>False) Nat.repr
def mB:V->(Bool->Prop)->Prop|.bl c,q=>0=0/\q c|_,_=>(λ_=>False) Nat.repr
def mI:V->(Int->Prop)->Prop|.int i,q=>q i|_,_=>(λ_=>False) Nat.repr
def Iq:V->V->(Int->Int->Prop)->Prop|.int i,.int j,q=>q i j|_,_,_=>(λ_=>False) Nat.repr
def mR:V->(Addr->Prop)->Prop|.ref a,q=>q a|_,_=>(λ_=>False) Nat.repr
def mT:V->(Addr->List V->Prop)->Prop|.ref a,q=>∃xs,q a xs|_,_=>(λ_=>False) Nat.repr
def mX:V->V->(Addr->List V->Int->V->Prop)->Prop|.ref p,.int i,q=>∃xs v,q p xs i v|_,_,_=>(λ_=>False) Nat.repr
def mC:List V->(V->List V->Prop)->Prop|v::r,q=>q v r|_,_=>(λ_=>False) Nat.repr
def mN:List V->Prop->Prop|[],q=>q|_,_=>(λ_=>False) Nat.repr
def mL:List V->(V->Nat->Prop)->Prop|[x],q=>∃n,q x n|_,_=>(λ_=>False) Nat.repr
def mA:V->List V->(Addr->List V->V->Prop)->Prop|.ref l,[y],q=>∃xs,q l xs y|_,_,_=>(λ_=>False) Nat.repr
def mJ:List V->(Int->Prop)->Prop|[.int j],q=>q j|_,_=>(λ_=>False) Nat.repr
theorem mV.ex{o:Option (Option V)}{q:V->Prop}(h:mV o q):∃v,o=some (some v)/\q v:=by
 unfold mV at h;split at h;exact⟨_,rfl,h⟩;exact False.elim h
variable {x:V}
theorem mB.ex{q:Bool->Prop}(h:mB x q):∃c,x=.bl c/\q c:=by
 unfold mB at h;split at h;exact⟨_,rfl,h.2⟩;exact False.elim h
theorem mI.ex{q:Int->Prop}(h:mI x q):∃i,x=.int i/\q i:=by
 unfold mI at h;split at h;exact⟨_,rfl,h⟩;exact False.elim h
theorem Iq.ex{y:V}{q:Int->Int->Prop}(h:Iq x y q):∃i j,x=.int i/\y=.int j/\q i j:=by
 unfold Iq at h;split at h;exact⟨_,_,rfl,rfl,h⟩;exact False.elim h
theorem mR.ex{q:Addr->Prop}(h:mR x q):∃a,x=.ref a/\q a:=by
 unfold mR at h;split at h;exact⟨_,rfl,h⟩;exact False.elim h
theorem mT.ex{q:Addr->List V->Prop}(h:mT x q):∃a xs,x=.ref a/\q a xs:=by
 unfold mT at h;split at h;exact⟨_,h.choose,rfl,h.choose_spec⟩;exact False.elim h
theorem mX.ex{y:V}{q:Addr->List V->Int->V->Prop}(h:mX x y q):∃p xs i v,x=.ref p/\y=.int i/\q p xs i v:=by
 unfold mX at h;split at h;obtain⟨xs,v,h⟩:=h;exact⟨_,xs,_,v,rfl,rfl,h⟩;exact False.elim h
variable {vs:List V}
theorem mC.ex{q:V->List V->Prop}(h:mC vs q):∃v r,vs=v::r/\q v r:=by
 unfold mC at h;split at h;exact⟨_,_,rfl,h⟩;exact False.elim h
theorem mN.ex{q:Prop}(h:mN vs q):vs=[]/\q:=by
 unfold mN at h;split at h;exact⟨rfl,h⟩;exact False.elim h
theorem mL.ex{q:V->Nat->Prop}(h:mL vs q):∃x n,vs=[x]/\q x n:=by
 unfold mL at h;split at h;exact⟨_,h.choose,rfl,h.choose_spec⟩;exact False.elim h
theorem mA.ex{q:Addr->List V->V->Prop}(h:mA x vs q):∃l xs y,x=.ref l/\vs=[y]/\q l xs y:=by
 unfold mA at h;split at h;exact⟨_,h.choose,_,rfl,rfl,h.choose_spec⟩;exact False.elim h
theorem mJ.ex{q:Int->Prop}(h:mJ vs q):∃j,vs=[.int j]/\q j:=by
 unfold mJ at h;split at h;exact⟨_,rfl,h⟩;exact False.elim h
def CT (i:Nat):TE:=λσ H Q=>mV σ[i]? λv=>Q v H
def tC (v:V):TE:=λ_ H Q=>Q v H
variable {L:Pos}
theorem K3{i:Nat}{x:Str}(g:X.N[i]?=some x)(hv:O7 X.env.scope x)(hd:(x==("__debug__" : Str))=false:=by decide)(o:(x==("__classdict__" : Str))=false:=by decide):PE X (.Name x L) (CT i):=by
 intro p s σ H Q I h
 replace h:=mV.ex h
 obtain⟨v,e,h⟩:=h;obtain⟨m,j,k⟩:=I.loc;obtain⟨u,r,l⟩:=k i x v g e hv;have b:EP X p σ Q u s:=⟨v,H,I,r,h⟩;rcases l with⟨a,n⟩|⟨a,c,d,f⟩;exact wpAny_Name (wpAny_loadName_local I.ok.kind a j n b) hd;rcases a with a|a;exact wpAny_Name (wpAny_loadName_cell I.ok.kind a d f b) hd;exact wpAny_Name (wpAny_loadName_free I.ok.kind a d f b o) hd
theorem Ai{i j L}:PE X (.Constant (.int i) j L) (tC (.int i)):=λ_ _ _ H _ I h=>wpAny_Constant_int ⟨.int i,H,I.tok _,⟨_,rfl⟩,h⟩
theorem Kl{b j L}:PE X (.Constant (.bool b) j L) (tC (.bl b)):=λ_ _ _ H _ I h=>Constant_bool ⟨.bl b,H,I,rfl,h⟩
theorem GG{j L}:PE X (.Constant .none j L) (tC .non):=λ_ _ _ H _ I h=>Constant_none ⟨.non,H,I,rfl,h⟩
theorem B2{x j L}:PE X (.Constant (.str x) j L) (tC (.str x)):=λ_ _ _ H _ I h=>Calls.Constant_str ⟨.str x,H,I.tok _,⟨_,rfl⟩,h⟩
def Gl (X:Cx) (x:Str):Prop:=X.env.kindOf x=some .globalImplicit
theorem Ur{pins:List (Addr×Obj)}{σ:St}{x:Str}{u:Value}{Q:Value->Shared->Prop}(I:Inv X pins σ H s)(a:Gl X x)(b:X.mg x=some u)(h:Q u s)
 (hd:(x==("__debug__" : Str))=false:=by decide):wpAny (model X.prog X.w) X.A (eval (.Name x L) X.env) Q E s:=
 Calls.Name_function_global I.ok.kind a (Calls.loadGlobal_global (by rw[I.ok.glob];exact I.mod.glob.keeps I.bk) b h) hd
theorem IR{pins:List (Addr×Obj)}{σ:St}{x:Str}{u:Value}{Q:Value->Shared->Prop}(I:Inv X pins σ H s)(a:Gl X x)(b:X.mg x=none)(hv:bootBuiltins x=some u)(h:Q u s)
 (c:x ≠ "__name__" :=by decide) (hd:(x==("__debug__" : Str))=false:=by decide):wpAny (model X.prog X.w) X.A (eval (.Name x L) X.env) Q E s:=by
 obtain⟨f,d,e⟩:=I.mod.blt;exact Calls.Name_function_global I.ok.kind a (Calls.loadGlobal_builtin (by rw[I.ok.glob];exact I.mod.glob.keeps I.bk) b (by rw[I.ok.blt];exact d.keeps I.bk) ((e x c).trans hv) h) hd
theorem IS{x:Str}{v:V}{u:Value}(a:Gl X x)(b:X.mg x=some u)(r:RelV v u)(hd:(x==("__debug__" : Str))=false:=by decide):PE X (.Name x L) (tC v):=
 λ_ _ _ H _ I h=>Ur I a b ⟨v,H,I,r,h⟩ hd
theorem IT{x:Str}{v:V}{u:Value}(a:Gl X x)(b:X.mg x=none)(hv:bootBuiltins x=some u)(r:RelV v u)(c:x ≠ "__name__" :=by decide)(hd:(x==("__debug__" : Str))=false:=by decide):PE X (.Name x L) (tC v):=
 λ_ _ _ H _ I h=>IR I a b hv ⟨v,H,I,r,h⟩ c hd
variable {a b:Expr} {ta tb:TE} {L:Pos}
def PC (X:Cx) (op:CmpOp) (a b:Expr) (t:TE):Prop:=
 ∀(pins:List (Addr×Obj))(s:Shared)(σ:St)(H:Hp)(Q:VK),Inv X pins σ H s->t σ H Q ->
  wpAny (model X.prog X.w) X.A (eval a X.env) (λv s₁=>wpAny (model X.prog X.w) X.A (eval b X.env) (λu s₂=>wpAny (model X.prog X.w) X.A (compareOp op v u) (EP X pins σ Q) X.xe s₂) X.xe s₁) X.xe s
variable {op:CmpOp}
theorem Us(b:Expr)(h:op≠.In)(a:op≠.NotIn):behindInMarks op b=false:=by
 have c:(op==CmpOp.In)=false:=by cases op<;>first|rfl|exact absurd rfl h
 have d:(op==CmpOp.NotIn)=false:=by cases op<;>first|rfl|exact absurd rfl a
 cases b<;>simp[behindInMarks,c,d]
def No (ta:TE):TE:=λσ H Q=>ta σ H λx Y=>Q (.bl (decide (x=.non))) Y
def Km (ta:TE):TE:=λσ H Q=>ta σ H λx Y=>Q (.bl (!decide (x=.non))) Y
theorem RelV.none_iff{v:Value}(r:RelV x v):(v==Value.none)=decide (x=.non):=by
 cases x with
 |non=>cases r;rfl
 |bl _=>cases r;rfl
 |int _=>obtain⟨t,rfl⟩:=r;rfl
 |str _=>obtain⟨t,rfl⟩:=r;rfl
 |byt _=>obtain⟨t,rfl⟩:=r;rfl
 |flt _=>obtain⟨t,rfl⟩:=r;rfl
 |ref _=>cases r;rfl
 |ty _=>cases r;rfl
theorem Gb{j t}(b:PE X a ta):PC X .Is a (.Constant .none j t) (No ta):=by
 intro f s σ H Q I h;refine AV (b f s σ H _ I h) λv g⟨x,Y,c,d,e⟩=>?_;exact Constant_none (is_none_gen ⟨.bl _,Y,c,by rw[d.none_iff];rfl,e⟩)
theorem Np{j t}(b:PE X a ta):PC X .IsNot a (.Constant .none j t) (Km ta):=by
 intro f s σ H Q I h;refine AV (b f s σ H _ I h) λv g⟨x,Y,c,d,e⟩=>?_;exact Constant_none (isnot_none_gen ⟨.bl _,Y,c,by rw[d.none_iff];rfl,e⟩)
def tB (t:TE):TT:=λσ H Q=>t σ H λx Y=>mB x λc=>Q c Y
theorem G6{t:TE}(h:PC X op a b t)(c:behindInMarks op b=false:=by first|exact Us _ (by decide) (by decide)|rfl):PE X (.Compare a [op] [b] L) t:=λe s σ H Q I d=>wpAny_Compare1 (h e s σ H Q I d) c
theorem FC{t:TE}(h:PC X op a b t)(e:behindInMarks op b=false:=by first|exact Us _ (by decide) (by decide)|rfl):PT X (.Compare a [op] [b] L) (tB t):=by
 intro l s σ H Q I g;refine wpAny_isTrue_Compare1 (AV (h l s σ H _ I g) λv m e=>AV e λu n i=>AV i λc o⟨x,Y,j,k,f⟩=>?_) e
 replace f:=mB.ex f
 obtain⟨d,rfl,q⟩:=f;cases k;exact FJ ⟨Y,j,q⟩
theorem GV{t:TE}(h:PE X e t)(b:∀whole,isTrue e X.env whole=(do let v <-whole;standAt e.pos;holding [v] (truthy v)):=by intro _;rfl):PT X e (tB t):=by
 intro i s σ H Q I c;refine isTrue_plain (AV (h i s σ H _ I c) λv j⟨x,Y,f,g,a⟩=>?_) (b _)
 replace a:=mB.ex a
 obtain⟨d,rfl,q⟩:=a;cases g;exact FJ ⟨Y,f,q⟩
variable {g tB':TT} {j:List Expr}
def Nq (t u:TT):TT:=λσ H Q=>t σ H λc Y=>if c=true then u σ Y Q else Q false Y
def Xy (t u:TT):TT:=λσ H Q=>t σ H λc Y=>if c=true then Q true Y else u σ Y Q
def Rt (t:TT):TT:=λσ H Q=>t σ H λc Y=>Q (!c) Y
theorem GH(b:PT X a g):PW X (.BoolOp .And [a] L) g:=by
 intro f d s σ H Q I h;refine isTrue_and (AV (b d s σ H Q I h) λc i e=>?_)
 cases c with
 |true=>exact isTrue_and_nil e
 |false=>exact e
theorem G7(b:PT X a g):PW X (.BoolOp .Or [a] L) g:=by
 intro f d s σ H Q I h;refine isTrue_or (AV (b d s σ H Q I h) λc i e=>?_)
 cases c with
 |false=>exact isTrue_or_nil e
 |true=>exact e
theorem GI(i:PT X a g)(k:PW X (.BoolOp .And (b::j) L) tB'):PW X (.BoolOp .And (a::b::j) L) (Nq g tB'):=by
 intro l f s σ H Q I h;refine isTrue_and (AV (i f s σ H _ I h) λc m⟨Y,d,e⟩=>?_)
 cases c with
 |true=>exact k l f m σ Y Q d e
 |false=>exact⟨Y,d,e⟩
theorem G8(i:PT X a g)(k:PW X (.BoolOp .Or (b::j) L) tB'):PW X (.BoolOp .Or (a::b::j) L) (Xy g tB'):=by
 intro l f s σ H Q I h;refine isTrue_or (AV (i f s σ H _ I h) λc m⟨Y,d,e⟩=>?_)
 cases c with
 |true=>exact⟨Y,d,e⟩
 |false=>exact k l f m σ Y Q d e
theorem Ru(b:PT X a g):PT X (.UnaryOp .Not a L) (Rt g):=by
 intro d s σ H Q I h;exact isTrue_not (b d s σ H (λc Y=>Q (!c) Y) I h)
def Nr (ta tb:TE):TE:=λσ H Q=>ta σ H λx Y=>∃c,x=.bl c/\if c=true then tb σ Y Q else Q (.bl false) Y
def Nt (ta:TE):TE:=λσ H Q=>ta σ H λx Y=>∃c,x=.bl c/\Q (.bl (!c)) Y
theorem Rv{op}{t:TE}(h:PE X a t):PE X (.BoolOp op [a] L) t:=λc s σ H Q I b=>BoolOp_one (h c s σ H Q I b)
theorem Nu(g:PE X a ta)(i:PE X (.BoolOp .And (b::j) L) tb):PE X (.BoolOp .And (a::b::j) L) (Nr ta tb):=by
 intro f s σ H Q I h;refine BoolOp_and (AV (g f s σ H _ I h) λv k⟨x,Y,e,l,d⟩=>?_);obtain⟨c,rfl,d⟩:=d;cases l;refine FJ ?_
 cases c with
 |true=>exact i f k σ Y Q e d
 |false=>exact⟨.bl false,Y,e,rfl,d⟩
theorem K4(d:PE X a ta):PE X (.UnaryOp .Not a L) (Nt ta):=by
 intro g s σ H Q I h;refine UnaryOp_ (AV (d g s σ H _ I h) λv i⟨x,Y,e,f,b⟩=>?_);obtain⟨c,rfl,b⟩:=b;cases f;exact not_of (FJ ⟨.bl (!c),Y,e,rfl,b⟩)
def Ut (t:TT) (ta tb:TE):TE:=λσ H Q=>t σ H λc Y=>if c=true then ta σ Y Q else tb σ Y Q
theorem Xz{c:Expr}(k:PT X c g)(l:PE X a ta)(m:PE X b tb):PE X (.IfExp c a b L) (Ut g ta tb):=by
 intro e s σ H Q I h;refine wpAny_IfExp (AV (k e s σ H _ I h) λd f⟨Y,i,j⟩=>?_)
 cases d with
 |true=>exact l e f σ Y Q i j
 |false=>exact m e f σ Y Q i j
end
def Ag (K:Ah) (H:Hp) (a:Addr) (xs:List V):Prop:=
 Rd H a (.lst xs) \/
  ∃(o:Obj)(its:Array Value)(n:Nat),K.lookup a=some o/\o.cls=.type "list" /\ o.dict=none/\o.data=.seq its n/\its.size<=sizeLine/\As xs its.toList
def Aq (K:Ah) (H:Hp) (a:Addr) (xs:List V):Prop:=
 Rd H a (.tup xs) \/
  ∃(o:Obj)(its:Array Value)(n:Nat),K.lookup a=some o/\o.cls=.type "tuple" /\ o.data=.seq its n/\its.size<=sizeLine/\As xs its.toList
def Rw:Value->Option V
 |.none=>some .non
 |.bool b=>some (.bl b)
 |.int i _=>some (.int i)
 |.str x _=>some (.str x)
 |.bytes b _=>some (.byt b)
 |.float b _=>some (.flt b)
 |.ref a=>some (.ref a)
 |.type n=>some (.ty n)
 |_=>none
variable {x:V}
theorem RelV.abs{u:Value}(r:RelV x u):Rw u=some x:=by
 cases x with
 |non=>cases r;rfl
 |bl _=>cases r;rfl
 |int _=>obtain⟨t,rfl⟩:=r;rfl
 |str _=>obtain⟨t,rfl⟩:=r;rfl
 |byt _=>obtain⟨t,rfl⟩:=r;rfl
 |flt _=>obtain⟨t,rfl⟩:=r;rfl
 |ref _=>cases r;rfl
 |ty _=>cases r;rfl
theorem RelV.inj{y:V}{u:Value}(r:RelV x u)(q:RelV y u):x=y:=Bo (r.abs.symm.trans q.abs)
theorem As.inj:∀{xs ys:List V}{us:List Value},As xs us->As ys us->xs=ys
 |_,_,_,.nil,.nil=>rfl
 |_,_,_,.cons r t,.cons a t'=>by rw[r.inj a,As.inj t t']
section
variable {X:Cx} {pins:List (Addr×Obj)} {σ:St} {H:Hp} {s:Shared} {a:Addr} {xs ys:List V}
theorem Ag.of{K:Ah}(h:H a=some (.lst xs)):Ag K H a xs:=.inl (.inl h)
theorem Aq.of{K:Ah}(h:H a=some (.tup xs)):Aq K H a xs:=.inl (.inl h)
theorem Inv.list(I:Inv X pins σ H s)(h:Ag X.K H a xs):∃b:List Value,As xs b/\PlainL s.heap a b.toArray/\xs.length<=sizeLine:=by
 rcases h with h|⟨o,b,n,c,d,hd,f,g,r⟩;obtain⟨z,b,n,r,e⟩:=h.ok I.hok;exact⟨b,r,⟨_,n,e,rfl,rfl,rfl⟩,z⟩;refine⟨b.toList,r,⟨o,n,I.kIn a o c,d,hd,by simpa using f⟩,?_⟩;have e:=r.length;simp only[Array.length_toList] at e;omega
theorem Inv.tuple(I:Inv X pins σ H s)(h:Aq X.K H a xs):∃b:List Value,As xs b/\IsTup s.heap a b.toArray/\xs.length<=sizeLine:=by
 rcases h with h|⟨o,b,n,c,d,f,g,r⟩;obtain⟨z,b,r,p⟩:=h.ok I.hok;exact⟨b,r,p,z⟩;refine⟨b.toList,r,⟨o,I.kIn a o c,d,n,by simpa using f⟩,?_⟩;have e:=r.length;simp only[Array.length_toList] at e;omega
theorem Inv.list_inj(I:Inv X pins σ H s)(h:Ag X.K H a xs)(h':Ag X.K H a ys):xs=ys:=by
 obtain⟨i,r,⟨o,n,e,_,_,d⟩,_⟩:=I.list h;obtain⟨j,f,⟨k,l,b,_,_,c⟩,_⟩:=I.list h';rw[e] at b;cases b;rw[d] at c;injection c with g _;have:i=j:=(by simpa using BC Array.toList g);subst this;exact r.inj f
theorem Inv.tuple_inj(I:Inv X pins σ H s)(h:Aq X.K H a xs)(h':Aq X.K H a ys):xs=ys:=by
 obtain⟨i,r,⟨o,e,_,n,d⟩,_⟩:=I.tuple h;obtain⟨j,f,⟨k,b,_,l,c⟩,_⟩:=I.tuple h';rw[e] at b;cases b;rw[d] at c;injection c with g _;have:i=j:=(by simpa using BC Array.toList g);subst this;exact r.inj f
end
abbrev Cx.wish (X:Cx) (E:Value->Shared->Prop):Cx:={X with xe:=E}
abbrev Cx.nox (X:Cx):Cx:=X.wish λ_ _=>False
theorem Cx.Ok.wish{X:Cx}(ok:X.Ok)(E:Value->Shared->Prop):(X.wish E).Ok:=
 ⟨ok.mod,ok.kind,ok.glob,ok.blt,ok.above,ok.inj,ok.has,ok.cab,ok.hd,ok.frames,ok.stk,ok.exf,ok.bs,ok.bsz,ok.noex,ok.exfs,ok.funs,ok.frf⟩
theorem Cx.Ok.unwish(ok:(X.wish E).Ok):X.Ok:=
 ⟨ok.mod,ok.kind,ok.glob,ok.blt,ok.above,ok.inj,ok.has,ok.cab,ok.hd,ok.frames,ok.stk,ok.exf,ok.bs,ok.bsz,ok.noex,ok.exfs,ok.funs,ok.frf⟩
section
variable {X:Cx} {pins:List (Addr×Obj)} {σ:St} {H:Hp} {s:Shared} {E:Value->Shared->Prop}
theorem Inv.wish(I:Inv X pins σ H s)(E:Value->Shared->Prop):Inv (X.wish E) pins σ H s:=⟨I.ok.wish E,I.os,I.bare,I.base,I.loc,I.cell,I.free,I.freeC,I.pin,I.hok,I.len⟩
theorem Inv.unwish(I:Inv (X.wish E) pins σ H s):Inv X pins σ H s:=⟨I.ok.unwish,I.os,I.bare,I.base,I.loc,I.cell,I.free,I.freeC,I.pin,I.hok,I.len⟩
theorem SP.unwish{D:Ends}{f:Flow}{Z:Shared}(h:SP (X.wish E) pins D f Z):SP X pins D f Z:=by
 cases f with
 |next=>obtain⟨σ',a,I,q⟩:=h;exact⟨σ',a,I.unwish,q⟩
 |brk=>obtain⟨σ',a,I,q⟩:=h;exact⟨σ',a,I.unwish,q⟩
 |cont=>obtain⟨σ',a,I,q⟩:=h;exact⟨σ',a,I.unwish,q⟩
 |ret u=>obtain⟨v,σ',a,I,r,q⟩:=h;exact⟨v,σ',a,I.unwish,r,q⟩
theorem Ga.nox{st:List Stmt}{t:TS}(h:Ga X.nox st t):Ga X st t:=λpins s σ H D I a =>
 FK (h pins s σ H D (I.wish _) a) (λ_ _ q=>q.unwish) λ_ _ z=>False.elim z
end
section
variable {X:Cx} {st:Stmt} {j:List Stmt} {t u:TS} {e:Expr} {te:TE} {L:Pos}
def Nv:TS:=λD σ H=>D.nx σ H
def K5 (t u:TS):TS:=λD σ H=>(λ_=>t {D with nx:=u D} σ H) Nat.repr
theorem Bm:Ga X [] Nv:=λ_ _ σ H _ I h=>wpAny_execs_nil ⟨σ,H,I,h⟩
theorem Ao(b:PS X st t)(c:Ga X j u):Ga X (st::j) (K5 t u):=by
 intro a s σ H D I h;refine wpAny_execs_cons (AV (b a s σ H {D with nx:=u D} I h) λf d q=>?_)
 cases f with
 |next =>
   obtain⟨σ',e,g,q⟩:=q;exact c a d σ' e D g q
 |ret v=>exact q
 |brk=>exact q
 |cont=>exact q
theorem Av(a:PS X st t):Ga X [st] t:=by
 intro b s σ H D I h;refine wpAny_execs_cons (AV (a b s σ H D I h) λf c q=>?_)
 cases f with
 |next=>exact wpAny_execs_nil q
 |ret v=>exact q
 |brk=>exact q
 |cont=>exact q
theorem Inv.quiet{pins:List (Addr×Obj)}{σ:St}(I:Inv X pins σ H s):interactive X.env=false:=by simp[interactive,I.ok.kind]
def Ny (te:TE):TS:=λD σ H=>te σ H λ_ Y=>D.nx σ Y
theorem Di(a:PE X e te)(b:swapsWith e none L.line X.env=pure false:=by rfl):PS X (.Expr e L) (Ny te):=by
 intro f s σ H D I h;exact wpAny_Expr_any (AV (a f s σ H _ I h) λv g⟨x,Y,c,i,d⟩=>⟨σ,Y,c,d⟩) I.quiet b
def Rx (te:TE):TS:=λD σ H=>te σ H D.rt
theorem AZ(a:PE X e te):PS X (.Return (some e) L) (Rx te):=by
 intro f s σ H D I h;exact wpAny_Return_some (AV (a f s σ H _ I h) λv g⟨x,Y,b,c,d⟩=>⟨x,σ,Y,b,c,d⟩)
def Ry (c:TT) (t u:TS):TS:=λD σ H=>c σ H λb Y=>if b=true then t D σ Y else u D σ Y
theorem Bk{c:Expr}{a b:List Stmt}{tc:TT}(j:PT X c tc)(k:Ga X a t)(l:Ga X b u):PS X (.If c a b L) (Ry tc t u):=by
 intro e s σ H D I h;refine wpAny_If (AV (j e s σ H _ I h) λd f⟨Y,g,i⟩=>?_)
 cases d with
 |true=>exact k e f σ Y D g i
 |false=>exact l e f σ Y D g i
def K6:TS:=λ_ _ _=>False
theorem XA:PS X st K6:=λ_ _ _ _ _ _ h=>h.elim
end
abbrev TG:=V->St->Hp->(St->Hp->Prop)->Prop
abbrev K7:=List V->St->Hp->(St->Hp->Prop)->Prop
def PG (X:Cx) (target:Expr) (t:TG):Prop:=
 ∀(pins:List (Addr×Obj))(s:Shared)(σ:St)(H:Hp)(v:V)(u:Value)(Q:St->Hp->Prop),Inv X pins σ H s->RelV v u->t v σ H Q ->
  wpAny (model X.prog X.w) X.A (assign target X.env u) (λ_ Z=>∃σ' H',Inv X pins σ' H' Z/\Q σ' H') X.xe s
def NA (X:Cx) (ts:List Expr) (t:K7):Prop:=
 ∀(pins:List (Addr×Obj))(s:Shared)(σ:St)(H:Hp)(vs:List V)(us:List Value)(Q:St->Hp->Prop),Inv X pins σ H s->As vs us->t vs σ H Q ->
  wpAny (model X.prog X.w) X.A (assignInOrder ((assignEach ts X.env).map (·.2)) us) (λ_ Z=>∃σ' H',Inv X pins σ' H' Z/\Q σ' H') X.xe s
abbrev K8:=V->V->V->Hp->(Hp->Prop)->Prop
def IU (X:Cx) (t:K8):Prop:=
 ∀(pins:List (Addr×Obj))(s:Shared)(σ:St)(H:Hp)(o i v:V)(ov iv u:Value)(Q:Hp->Prop),Inv X pins σ H s->RelV o ov->RelV i iv->RelV v u->t o i v H Q ->
  wpAny (model X.prog X.w) X.A (setItem ov iv u) (λ_ Z=>∃H',Inv X pins σ H' Z/\Q H') X.xe s
abbrev Rz:=V->V->Hp->VK->Prop
def XB (X:Cx) (op:Operator) (t:Rz):Prop:=
 ∀(pins:List (Addr×Obj))(s:Shared)(σ:St)(H:Hp)(x y:V)(v u:Value)(Q:VK),Inv X pins σ H s->RelV x v->RelV y u->t x y H Q ->
  wpAny (model X.prog X.w) X.A (inplaceOp op v u) (EP X pins σ Q) X.xe s
section
variable {X:Cx} {L:Pos}
def Ko (i:Nat):TG:=λv σ H Q=>Q (σ.set i (some v)) H
variable {i:Nat}
theorem Ay{x:Str}(a:X.N.Nodup)(b:X.N[i]?=some x:=by rfl)(c:Loc X.env.scope x:=by first|exact .inl rfl|exact .inr rfl)(d:X.fn x=true\/X.env.scope.names.lookup x=some .local:=by first|exact .inl rfl|exact .inr rfl|assumption):PG X (.Name x L) (Ko i):=by
 intro f s σ H v u Q I r h;exact wpAny_assign_Name (Rs I a b c r (λZ e=>⟨_,H,e,h⟩) d)
def NB:K7:=λvs σ H Q=>mN vs (Q σ H)
def G9 (t:TG) (u:K7):K7:=λvs σ H Q=>mC vs λv r=>t v σ H λσ' H'=>u r σ' H' Q
theorem Cs:NA X [] NB:=by
 intro c s σ H a b Q I r h
 replace h:=mN.ex h
 obtain⟨e,h⟩:=h;subst e;cases r;exact assignInOrder_nil ⟨σ,H,I,h⟩
theorem AK{es:List Expr}{t:TG}{u:K7}(b:PG X e t)(c:NA X es u)
 (d:(assignEach (e::es) X.env).map (·.2)=assign e X.env::(assignEach es X.env).map (·.2):=by rfl):NA X (e::es) (G9 t u):=by
 intro a s σ H l m Q I r h
 replace h:=mC.ex h
 obtain⟨v,n,f,h⟩:=h;subst f
 cases r with
 |cons r g =>
   rw[d];refine assignInOrder_cons (AV (b a s σ H _ _ _ I r h) λ_ i⟨σ1,Y,j,k⟩=>?_);exact c a i σ1 Y _ _ Q j g k
def NC (K:Ah) (n:Nat) (t:K7):TG:=λv σ H Q=>mT v λa xs=>Aq K H a xs/\xs.length=n/\t xs σ H Q
theorem Ct{es:List Expr}{k:Nat}{t:K7}{n:Nat}(g:X.calm=true)(h:NA X es t)
 (i:(assignEach es X.env).length=n:=by rfl) (z:(assignEach es X.env).findIdx? (·.1)=none:=by rfl):PG X (.Tuple es k L) (NC X.K n t):=by
 intro f s σ H v u Q I r c
 replace c:=mT.ex c
 obtain⟨a,j,l,m,p,c⟩:=c;subst l;cases r;obtain⟨B,d,q,A⟩:=I.tuple m;refine assign_Tuple_tuple (I.ok.hd g) q (by simp[i,<-p,d.length]) z λw x=>?_;have y:Inv X f σ H {s with heap:=w}:=I.kept (t':=s.toks) λb o e=>x b o (CS (A1 e)) e;exact h f _ σ H j _ Q y (by simpa using d) c
def RA (to ti:TE) (t:K8):TG:=λv σ H Q=>to σ H λo Y=>ti σ Y λi H2=>t o i v H2 λH3=>Q σ H3
theorem MQ{o i:Expr}{d e:TE}{t:K8}(f:PE X o d)(g:PE X i e)(j:IU X t)
 (k:∀v,assign (.Subscript o i L) X.env v=(do
  let a <-holding [v] (eval o X.env)
  let b <-holding [v,a] (eval i X.env)
  standAt L
  holding [v,a,b] (setItem a b v)
  release [v,a,b] []):=by intro _;rfl):PG X (.Subscript o i L) (RA d e t):=by
 intro c s σ H v u Q I r h;rw[k];refine Ad (Ff (AV (f c s σ H _ I h) λa l⟨x,Y,m,n,p⟩=>?_));refine Ad (Ff (AV (g c l σ Y _ m p) λb q⟨y,w,z,A,B⟩=>?_));refine Ad (wpAny_standAt (Ad (Ff (AV (j c q σ w x y v a b u _ z n A r B) λ_ F⟨C,D,E⟩=>?_))));exact wpAny_release ⟨σ,C,D,E⟩
def IV (te:TE) (g:TG):TS:=λD σ H=>(λ_=>te σ H λx Y=>g x σ Y D.nx) Nat.repr
variable {te:TE}
theorem DL{a:Expr}{g:TG}(c:PE X e te)(d:PG X a g)(f:swapsWithSole [a] e L.line X.env=pure false:=by rfl)(i:swappedStores [a] e X.env=pure none:=by rfl)
 (j:(assignEach [a] X.env).map (·.2)=[assign a X.env]:=by rfl):PS X (.Assign [a] e L) (IV te g):=by
 intro b s σ H D I h;refine wpAny_Assign_stores (AV (c b s σ H _ I h) λv k⟨x,Y,l,m,n⟩=>?_) f i;rw[j];exact AV (d b k σ Y x v _ l m n) λ_ o q=>q
theorem AS{x:Str}{t:Pos}(a:X.N.Nodup)(b:PE X e te)(c:X.N[i]?=some x:=by rfl)(d:Loc X.env.scope x:=by first|exact .inl rfl|exact .inr rfl)(f:swapsWith e (some (.Name x t)) L.line X.env=pure false:=by rfl)(g:X.fn x=true\/X.env.scope.names.lookup x=some .local:=by first|exact .inl rfl|exact .inr rfl|assumption) :
 PS X (.Assign [.Name x t] e L) (IV te (Ko i)):=by
 intro n s σ H D I h;refine wpAny_Assign_Name (AV (b n s σ H _ I h) λv o⟨y,Y,j,k,l⟩=>?_) f;exact Rs j a c d k (λp m=>⟨_,Y,m,l⟩) g
def ND (i:Nat) (te:TE) (ti:Rz):TS:=λD σ H=>∃x,σ[i]?=some (some x)/\te σ H λy Y=>ti x y Y λz H2=>D.nx (σ.set i (some z)) H2
theorem K9{x:Str}{op:Operator}{f:Rz}{t:Pos}(j:X.N.Nodup)(g:X.N[i]?=some x)(b:Loc X.env.scope x)(n:PE X e te)(o:XB X op f)(p:X.fn x=true\/X.env.scope.names.lookup x=some .local:=by first|exact .inl rfl|exact .inr rfl|assumption) :
 PS X (.AugAssign (.Name x t) op e L) (ND i te f):=by
 intro d s σ H D I h;obtain⟨v,q,h⟩:=h;obtain⟨m,A,B⟩:=I.loc;have T:O7 X.env.scope x:=by rcases b with k|k;exact .inl k;exact .inr (.inl k)
 obtain⟨u,r,l⟩:=B i x v g q T;refine wpAny_AugAssign_Name ?_
 have go:wpAny (model X.prog X.w) X.A (eval e X.env) (λw C=>wpAny (model X.prog X.w) X.A (inplaceOp op u w) (λr E=>wpAny (model X.prog X.w) X.A (storeName X.env x r) (λ_=>SP X d D .next) X.xe E) X.xe C) X.xe s:=by
  refine AV (n d s σ H _ I h) λw F⟨y,Y,G,J,K⟩=>?_;refine AV (o d F σ Y v y u w _ G r J K) λz V⟨W,M,N,O,P⟩=>?_;exact Rs N j g b O (λZ Q=>⟨_,M,Q,P⟩) p
 rcases l with⟨a,R⟩|⟨a,c,S,U⟩;exact wpAny_loadName_local I.ok.kind a A R go;rcases a with a|a;exact wpAny_loadName_cell I.ok.kind a S U go;rcases b with k|k;have:X.env.scope.names.lookup x=some .free:=a;rw[k] at this;cases this;have:X.env.scope.names.lookup x=some .free:=a;rw[k] at this;cases this
end
section
variable {X:Cx} {L:Pos}
def La (c:TT) (tb:TS):TS:=λD σ H=>∃W:Nat->St->Hp->Prop,(∃m,W m σ H)/\∀m σ H,W m σ H ->
 c σ H λb Y=>if b=true then ∃N:St->Hp->Prop,(∀σ' H',N σ' H'->∃m',m'<m/\W m' σ' H')/\tb {D with nx:=N,ct:=N,bk:=D.nx} σ Y else D.nx σ Y
theorem Uu{c:Expr}{body:List Stmt}{tc:TT}{tb:TS}(o:PassesOwn (model X.prog X.w) X.A X.env X.xe)(u:PT X c tc)(w:Ga X body tb):PS X (.While c body [] L) (La tc tb):=by
 intro m s σ H D I h;obtain⟨W,⟨x,y⟩,turn⟩:=h;refine wpAny_While (codeAny_whileLoop (λn Z=>∃σ' p,Inv X m σ' p Z/\W n σ' p) ?_ x ⟨σ,H,I,y⟩);rintro n z ⟨σ1,Y,A,B⟩;refine wpAny_passesOwn o (AV (u m z σ1 Y _ A (turn n σ1 Y B)) λb C⟨q,r,d⟩=>?_)
 cases b with
 |true =>
   obtain⟨N,t,d⟩:=d;rw[Aj rfl];refine wpAny_passesOwn o (AV (w m C σ1 q _ r d) λf E e=>?_)
   cases f with
   |next =>
     obtain⟨σ3,a,g,i⟩:=e;obtain⟨j,k,l⟩:=t σ3 a i;exact⟨j,k,σ3,a,g,l⟩
   |cont =>
     obtain⟨σ3,a,g,i⟩:=e;obtain⟨j,k,l⟩:=t σ3 a i;exact⟨j,k,σ3,a,g,l⟩
   |brk=>exact e
   |ret v=>exact e
 |false =>
   rw[Ak Cq];exact wpAny_execs_nil ⟨σ1,q,r,d⟩
end
structure It where
 go:Nat->Hp->Prop
 yld:Nat->Hp->V->Hp->Prop
 stop:Nat->Hp->Prop
def Eb (X:Cx) (pins:List (Addr×Obj)) (H:Hp) (b:Addr):Prop:=
 H b=none/\b≠X.env.locals/\b∉X.fs/\(b∈X.ex\/X.s₀.heap.objs.size<=b)/\(∀x c,X.env.cells.lookup x=some c->c≠b)/\∀p∈X.pn++pins,p.1≠b
variable {pins:List (Addr×Obj)}{σ:St}
theorem Inv.fpOk{H':Hp}(I:Inv X pins σ H s)(a:s.heap.objs.size<=b)(d:H' b=none):Eb X pins H' b:=by
 refine⟨d,Nat.ne_of_gt (FI I.lt a),I.nofs a,.inr (Ek I.sz a),λx c e z=>?_,λp f z=>?_⟩;obtain⟨v,q⟩:=I.cell x c e;exact absurd (FI q.lt (by rw[z];exact a)) (F7 _);exact absurd (FI (A1 (I.pin p f).1) (by rw[z];exact a)) (F7 _)
structure Fh (P:Program) (w:World) (K:Ah) (tg:Expr) (J:It) (fp:List Addr) (it:Addr) (tn:Nat->Heap->Prop):Prop where
 mem:it∈fp
 obj:∀i h,tn i h->∀b∈fp,∃o,h.get? b=some o/\∀v,o.data≠.cell v
 keep:∀i h h',tn i h->(∀b∈fp,∀o,h.get? b=some o->h'.get? b=some o)->tn i h'
 item:∀(X:Cx),X.prog=P->X.w=w->X.K=K->X.calm=true->∀(i:Nat)(pins:List (Addr×Obj))(s:Shared)(σ:St)(H:Hp)(E:Value->Shared->Prop),Inv X pins σ H s->(∀b∈fp,Eb X pins H b)->tn i s.heap->J.go i H ->
  wpAny (model P w) X.A (pyNext (.ref it)) (λr s1=>∃u,r=some u /\
   wpAny (model P w) X.A (letOwnedTupleGo tg (.ref it) u) (λ_ s2=>∃x H',Inv X pins σ H' s2/\RelV x u/\J.yld i H x H'/\tn (i+1) s2.heap/\∀b∈fp,H' b=none) E s1) E s
 done:∀(X:Cx),X.prog=P->X.w=w->X.K=K->X.calm=true->∀(i:Nat)(pins:List (Addr×Obj))(s:Shared)(σ:St)(H:Hp)(E:Value->Shared->Prop),Inv X pins σ H s->(∀b∈fp,Eb X pins H b)->tn i s.heap->J.stop i H ->
  wpAny (model P w) X.A (pyNext (.ref it)) (λr s1=>r=none/\Inv X pins σ H s1) E s
 self:∀(A:Around)(i:Nat)(s:Shared)(Q:Value->Shared->Prop)(E:Value->Shared->Prop),tn i s.heap->Q (.ref it) s->wpAny (model P w) A (pyIter (.ref it)) Q E s
abbrev TI:=St->Hp->(It->Hp->Prop)->Prop
def Uv (X:Cx) (pins:List (Addr×Obj)) (σ:St) (tg:Expr) (R:It->Hp->Prop) (itv:Value) (s2:Shared):Prop:=
 ∃(it:Addr)(fp:List Addr)(tn:Nat->Heap->Prop)(J:It)(H':Hp),itv=.ref it/\Inv X pins σ H' s2/\Fh X.prog X.w X.K tg J fp it tn/\tn 0 s2.heap/\(∀b∈fp,Eb X pins H' b)/\R J H'
def PI (X:Cx) (tg j:Expr) (wi:TI):Prop:=
 ∀(pins:List (Addr×Obj))(s:Shared)(σ:St)(H:Hp)(R:It->Hp->Prop),Inv X pins σ H s->wi σ H R ->
  wpAny (model X.prog X.w) X.A (eval j X.env) (λv s1=>wpAny (model X.prog X.w) X.A (pyIter v) (Uv X pins σ tg R) X.xe s1) X.xe s
variable {tg:Expr}
theorem Ha{M:Model}{b:Addr}{u:Value}{o:Obj}{n:String}{vs:Array Value}{Q:Unit->Shared->Prop}(c:s.heap.get? b=some o)(d:o.cls=.type n)(hd:o.data=.fields vs)
 (e:["enumerate", "zip", "dict_itemiterator", "dict_reverseitemiterator", "odict_iterator", "itertools.zip_longest", "itertools.pairwise"].contains n=false) (a:Q () s):wpAny M A (letOwnedTupleGo tg (.ref b) u) Q E s:=by
 unfold letOwnedTupleGo
 cases tg<;>first
  |exact Au a
  |(cases u<;>first
   |exact Au a
   | (refine Ad (wpAny_load c ?_)
      rw[d,hd]
      show wpAny M A (if(["enumerate", "zip", "dict_itemiterator", "dict_reverseitemiterator", "odict_iterator", "itertools.zip_longest", "itertools.pairwise"].contains n && vs[0]?==some (rawInt _))=true then _ else _) Q E s
      rw[Ak (by intro h;rw[e,Bool.false_and] at h;cases h)]
      exact Au a))
def Gq (K:Ah) (a:Addr):It:=
 ⟨λi H=>∃xs x,Ag K H a xs/\xs[i]?=some x,λi H x H'=>H'=H/\∀xs,Ag K H a xs->xs[i]?=some x,λi H=>∃xs,Ag K H a xs/\xs.length<=i⟩
def Ir (lo:Int) (n:Nat):It:=⟨λi _=>i<n,λi H x H'=>H'=H/\x=.int (lo+i),λi _=>n<=i⟩
theorem XC{K:Ah}(a g:Addr):Fh P w K tg (Gq K a) [g] g (λi h=>h.IsListIter g a i) where
 mem:=by simp
 obj:=λi h f b j=>by
  have e:b=g:=(by simpa using j);subst e;obtain⟨o,e,c,d⟩:=f;exact⟨o,e,λv z=>by rw[d] at z;cases z⟩
 keep:=λi h l f k=>f.at λo e=>k g (by simp) o e
 item:=by
  intro X q r t L i pins s σ H E I m f y;subst q r t;obtain⟨N,x,n,A⟩:=y;obtain⟨Y,B,p,O⟩:=I.list n;obtain⟨u,Q,R⟩:=B.get A;obtain⟨C,D,S,F,G,J⟩:=m g (by simp);refine wpAny_pyNext_list_item f p.isList (x:=u) (by simpa using Q) λl M T=>?_;have U:Inv X pins σ H {s with heap:=l}:=I.turned (t':=s.toks) (λb o j e=>(T.2 b j).trans e) C D F G J;obtain⟨o,e,c,d⟩:=id M;exact⟨u,rfl,Ha (s:={s with heap:=l}) e c d (by decide) ⟨x,H,U,R,⟨rfl,λZ V=>by rw[I.list_inj V n];exact A⟩,M,λb j=>(m b j).1⟩⟩
 done:=by
  intro X q r t L i pins s σ H E I m f y;subst q r t;obtain⟨N,n,A⟩:=y;obtain⟨Y,B,p,O⟩:=I.list n;obtain⟨C,D,S,F,G,J⟩:=m g (by simp);have hl:=B.length;exact wpAny_pyNext_list_end (I.ok.hd L) f p.isList (by simp;omega) λl W=>⟨rfl,I.turned (t':=s.toks) (λb o j e=>W b o j e) C D F G J⟩
 self:=λ_ _ _ _ _ f h=>wpAny_pyIter_listiter f h
theorem XD{K:Ah}(c:Addr)(lo:Int)(n:Nat):Fh P w K tg (Ir lo n) [c] c (λi h=>IsRangeIter h c (lo+(i:Nat)*1) ((n:Int)-(i:Nat)) 1) where
 mem:=by simp
 obj:=λi h a b d=>by
  have e:b=c:=(by simpa using d);subst e
  exact⟨_,a,λv z=>by
   have C:Data.fields _=Data.cell v:=z
   cases C⟩
 keep:=λi h f a k=>k c (by simp) _ a
 item:=by
  intro X j l m p i pins s σ H E I g a q;subst j l m;obtain⟨r,u,D,x,y,A⟩:=g c (by simp);have W:=Walks.range (prog:=X.prog) (w:=X.w) (I.ok.hd p) c lo 1 n;refine W.item i s _ _ q a λv f tk F B G=>?_;obtain⟨t,rfl⟩:=F;have J:Inv X pins σ H {s with heap:=f,toks:=tk}:=I.turned (λb o d e=>G b o (by simpa using d) e) r u x y A;refine⟨_,rfl,Ha (s:={s with heap:=f,toks:=tk}) (n:= "range_iterator") B rfl rfl (by decide) ⟨.int (lo+i),H,J,⟨t,?_⟩,⟨rfl,rfl⟩,B,λb d=>(g b d).1⟩⟩;rw[Int.mul_one]
 done:=by
  intro X j l m p i pins s σ H E I g a q;subst j l m;obtain⟨r,u,D,x,y,A⟩:=g c (by simp);exact wpAny_pyNext_range_end (I.ok.hd p) a (by have:n<=i:=q;omega) λf L=>⟨rfl,I.turned (t':=s.toks) (λb o d e=>L b o d e) r u x y A⟩
 self:=λ_ _ _ _ _ a h=>wpAny_pyIter_rangeiter a h
section
variable {X:Cx} {tg:Expr}
def NE (K:Ah) (tl:TE):TI:=λσ H R=>tl σ H λx Y=>mR x λa=>(∃xs,Ag K Y a xs)/\R (Gq K a) Y
theorem C6{l:Expr}{g:TE}(i:PE X l g):PI X tg l (NE X.K g):=by
 intro pins s σ H R I h;refine AV (i pins s σ H _ I h) λv c⟨x,Y,d,j,f⟩=>?_
 replace f:=mR.ex f
 obtain⟨a,e,⟨n,k⟩,q⟩:=f;subst e;cases j;obtain⟨u,r,p,t⟩:=d.list k;refine wpAny_pyIter_list p.isList ?_;refine⟨c.heap.objs.size,[c.heap.objs.size],_,_,Y,rfl,d.kept (t':=c.toks) λb o e=>A8 _ e,XC a _,⟨_,B4 _ rfl,rfl,rfl⟩,λb m=>?_,q⟩;have e:b=c.heap.objs.size:=(by simpa using m);subst e;exact d.fpOk (AB _) (d.hok.fresh (AB _))
theorem Uw{R:It->Hp->Prop}{lo a:Int}{t u v:Tok}{tk:Nat}(I:Inv X pins σ H s)(d:-(2 ^ 62)<=lo)(f:lo<2 ^ 62)(g:-(2 ^ 62)<=a)(h:a<2 ^ 62)
 (q:R (Ir lo (a-lo).toNat) H):wpAny (model X.prog X.w) X.A (pyIter (.ref s.heap.objs.size)) (Uv X pins σ tg R) E {s with heap:=s.heap.push {cls:=.type "range",data:=.fields #[.int lo t,.int a u,.int 1 v]},toks:=tk}:=by
 refine wpAny_pyIter_range (IsRange.new ..) (small_one d f g h) ?_;have c:Inv X pins σ H {s with heap:=s.heap.push {cls:=.type "range",data:=.fields #[.int lo t,.int a u,.int 1 v]},toks:=tk}:=I.kept λb o e=>A8 _ e
 refine⟨(s.heap.push {cls:=.type "range",data:=.fields #[.int lo t,.int a u,.int 1 v]}).objs.size,[(s.heap.push {cls:=.type "range",data:=.fields #[.int lo t,.int a u,.int 1 v]}).objs.size],_,_,H,rfl,
  c.kept (t':=tk) λb o e=>A8 _ e,XD _ lo (a-lo).toNat,?_,λb i=>?_,q⟩
 have j:lo+((0:Nat):Int)*1=lo:=(by simp);have k:(((a-lo).toNat:Nat):Int)-((0:Nat):Int)=Builtin.Range.rangeSize lo a 1:=by rw[rangeSize_one];split<;>omega
 show IsRangeIter _ _ (lo+((0:Nat):Int)*1) ((((a-lo).toNat:Nat):Int)-((0:Nat):Int)) 1;rw[j,k];exact B4 _ rfl;have e:b=(s.heap.push {cls:=.type "range",data:=.fields #[.int lo t,.int a u,.int 1 v]}).objs.size:=(by simpa using i);subst e;exact c.fpOk (AB _) (c.hok.fresh (AB _))
def NF (ta:TA):TI:=λσ H R=>ta σ H λvs Y=>mJ vs λj=>-(2 ^ 62)<=j/\j<2 ^ 62/\R (Ir 0 j.toNat) Y
def NG (ta:TA):TI:=λσ H R=>ta σ H λvs Y=>∃i j:Int,vs=[.int i,.int j]/\(-(2 ^ 62)<=i/\i<2 ^ 62/\-(2 ^ 62)<=j/\j<2 ^ 62)/\R (Ir i (j-i).toNat) Y
variable {L:Pos}
theorem Iu{a:Expr}{c:TA}{p:Pos}(d:Gl X "range")(f:X.mg "range" = none)(g:PA X [a] c)(i:starEach [a] X.env=[(false,eval a X.env)]:=by rfl):PI X tg (.Call (.Name "range" p) [a] [] L) (NF c):=by
 intro pins s σ H R I h;refine Call_ (IR I d f boot_range (PyProof.Rows.callWith_type1 (AV (g L pins s σ H _ I h) λo u⟨v,Y,k,l,b⟩=>?_) i rfl))
 replace b:=mJ.ex b
 obtain⟨j,e,b,m,q⟩:=b;subst e
 cases l with
 |cons r n =>
   cases n;obtain⟨t,rfl⟩:=r;exact call_range_1 (Uw k (by omega) (by omega) b m (by simpa using q))
theorem XE{a b:Expr}{f:TA}{p:Pos}(k:Gl X "range")(l:X.mg "range" = none)(m:PA X [a,b] f)(n:starEach [a,b] X.env=[(false,eval a X.env),(false,eval b X.env)]:=by rfl)(g:starEach [b] X.env=[(false,eval b X.env)]:=by rfl) :
 PI X tg (.Call (.Name "range" p) [a,b] [] L) (NG f):=by
 intro pins s σ H R I h;refine Call_ (IR I k l boot_range (PyProof.Rows.callWith_type1 (AV (m L pins s σ H _ I h) λz A⟨B,Y,o,u,c⟩=>?_) (by rw[n,g]) (by rw[g];rfl)));obtain⟨i,j,e,⟨c,v,w,x⟩,q⟩:=c;subst e
 cases u with
 |cons r d =>
   cases d with
   |cons y d =>
     cases d;obtain⟨t,rfl⟩:=r;obtain⟨C,rfl⟩:=y;exact call_range_2 (Uw o c v w x q)
def RB (wi:TI) (g:TG) (tb:TS):TS:=λD σ H=>wi σ H λJ Y=>∃W:Nat->Nat->St->Hp->Prop,(∃m,W 0 m σ Y)/\∀i m σ H,W i m σ H ->
 (J.stop i H/\D.nx σ H)\/(J.go i H/\∃N:St->Hp->Prop,(∀σ' H',N σ' H'->∃m',m'<m/\W (i+1) m' σ' H')/\∀x H',J.yld i H x H'->g x σ H' λσ2 H2=>tb {D with nx:=N,ct:=N,bk:=D.nx} σ2 H2)
def NH (fp:List Addr) (h:Heap):List (Addr×Obj):=fp.filterMap λb=>(h.get? b).map λo=>(b,o)
variable {fp:List Addr}
theorem O8{o:Obj}(a:b∈fp)(e:h.get? b=some o):(b,o)∈NH fp h:=List.mem_filterMap.mpr ⟨b,a,by rw[e];rfl⟩
theorem XF{p:Addr×Obj}(a:p∈NH fp h):p.1∈fp/\h.get? p.1=some p.2:=by
 obtain⟨b,c,e⟩:=List.mem_filterMap.mp a
 cases q:h.get? b with
 |none=>rw[q] at e;cases e
 |some o =>
   rw[q] at e;have d:(b,o)=p:=Bo e;subst d;exact⟨c,q⟩
theorem Inv.pinned(I:Inv X pins σ H s)(f:∀b∈fp,Eb X pins H b)(g:∀b∈fp,∃o,s.heap.get? b=some o/\∀v,o.data≠.cell v):Inv X (pins++NH fp s.heap) σ H s:=
 I.pins_of λp h=>(BB.mp h).elim (λz=>I.pin p (De _ z)) λz=>by
  obtain⟨a,e⟩:=XF z;obtain⟨i,j,k,_⟩:=f p.1 a;obtain⟨o,c,d⟩:=g p.1 a;rw[e] at c;cases c;exact⟨e,i,j,k,d⟩
theorem Inv.unpinned{a:List (Addr×Obj)}(I:Inv X (pins++a) σ H s):Inv X pins σ H s:=I.pins_of λp b=>I.pin p (De _ (D9 _ b))
theorem Cw{j:Expr}{body:List Stmt}{B:TI}{g:TG}{tb:TS}(p:PassesOwn (model X.prog X.w) X.A X.env X.xe)(C:X.calm=true)(P:PI X tg j B)(Q:PG X tg g)(a:Ga X body tb)
 (R:∀x,foldedSetIterable j X.env x=pure x:=by intro _;rfl):PS X (.For tg j body [] L) (RB B g tb):=by
 intro pins s σ H af I h;refine wpAny_For (AV (P pins s σ H _ I h) λv s1 S=>AV S λai s2 U=>?_) R;obtain⟨it,fp,D,ag,V,e,Y,T,aa,E,W,⟨m0,w0⟩,turn⟩:=U;subst e;have A:∀{k:Hp},(∀b∈fp,k b=none)->∀b∈fp,Eb X pins k b:=λhn b a=>⟨hn b a,(E b a).2⟩;refine codeAny_forLoop_any (λn Z=>∃i σ' k,Inv X pins σ' k Z/\D i Z.heap/\(∀b∈fp,k b=none)/\W i n σ' k) ?_ m0 ⟨0,σ,V,Y,aa,λb a=>(E b a).1,w0⟩;rintro n F ⟨i,σ3,t,G,M,O,w3⟩;rcases turn i n σ3 t w3 with⟨stop,qn⟩|⟨go,N,hN,step⟩
 . refine wpAny_passesOwn p (AV (T.done X rfl rfl rfl C i pins F σ3 t X.xe G (A O) M stop) λr s4⟨w,I4⟩=>?_)
   subst w;exact wpAny_execs_nil ⟨σ3,t,I4,qn⟩
 . refine wpAny_passesOwn p (AV (T.item X rfl rfl rfl C i pins F σ3 t X.xe G (A O) M go) λr s4⟨u,w,h4⟩=>?_)
   subst w;refine wpAny_passesOwn p (AV h4 λ_ J⟨x,K,I5,r5,y5,z,ab⟩=>?_);have ae:=I5.pinned (A ab) (T.obj _ _ z);refine wpAny_passesOwn p (AV (Q _ J σ3 K x u _ ae r5 (step x K y5)) λ_ s6⟨σ6,H6,I6,q6⟩=>?_);refine wpAny_passesOwn p (AV (a _ s6 σ6 H6 _ I6 q6) λf y l=>?_)
   have again:∀{σ7:St}{c:Hp},Inv X (pins++NH fp J.heap) σ7 c y->N σ7 c->∃m,m<n/\∃i σ' k,Inv X pins σ' k y/\D i y.heap/\(∀b∈fp,k b=none)/\W i m σ' k:=λ{σ7 c}d q=>by
    obtain⟨m',hm,w7⟩:=hN σ7 c q;refine⟨m',hm,i+1,σ7,c,d.unpinned,T.keep _ _ _ z λb a o e=>(d.pin (b,o) (De _ (De _ (O8 a e)))).1,λb a=>?_,w7⟩;obtain⟨o,e,ah⟩:=T.obj _ _ z b a;exact(d.pin (b,o) (De _ (De _ (O8 a e)))).2.1
   cases f with
   |next=>obtain⟨σ7,c,d,q⟩:=l;exact again d q
   |cont=>obtain⟨σ7,c,d,q⟩:=l;exact again d q
   |brk=>obtain⟨σ7,c,d,l⟩:=l;exact⟨σ7,c,d.unpinned,l⟩
   |ret v=>obtain⟨x7,σ7,c,d,r7,l⟩:=l;exact⟨x7,σ7,c,d.unpinned,r7,l⟩
end
theorem EL{K:Ah}{xs:List V}{g:TG}{tb:TS}{D:Ends}(Pv:Nat->St->Hp->Prop)(f:Pv 0 σ H)(h:∀i σ H,i<=xs.length->Pv i σ H->Ag K H a xs)
 (j:∀i x σ H,xs[i]?=some x->Pv i σ H->g x σ H λσ2 b=>tb {D with nx:=Pv (i+1),ct:=Pv (i+1),bk:=D.nx} σ2 b) (hd:∀σ H,Pv xs.length σ H->D.nx σ H) :
 ∃W:Nat->Nat->St->Hp->Prop,(∃m,W 0 m σ H)/\∀i m σ H,W i m σ H ->
  ((Gq K a).stop i H/\D.nx σ H)\/((Gq K a).go i H/\∃N:St->Hp->Prop,(∀σ' H',N σ' H'->∃c,c<m/\W (i+1) c σ' H')/\∀x H',(Gq K a).yld i H x H'->g x σ H' λσ2 b=>tb {D with nx:=N,ct:=N,bk:=D.nx} σ2 b):=by
 refine⟨λi m σ H=>m=xs.length-i/\i<=xs.length/\Pv i σ H,⟨xs.length,by simp,Ci _,f⟩,?_⟩;rintro i m σ H ⟨rfl,k,p⟩;have q:=h i σ H k p;by_cases d:i<xs.length;refine .inr ⟨⟨xs,xs[i],q,by simp[d]⟩,Pv (i+1),λσ' H' l=>⟨xs.length-(i+1),by omega,rfl,d,l⟩,λx H' y=>?_⟩;obtain⟨e,y⟩:=y;subst e;exact j i x σ _ (y xs q) p;have e:i=xs.length:=(by omega);subst e;exact .inl ⟨⟨xs,q,AB _⟩,hd σ H p⟩
theorem Kp{lo:Int}{n:Nat}{g:TG}{tb:TS}{D:Ends}(Pv:Nat->St->Hp->Prop)(d:Pv 0 σ H)
 (f:∀i σ H,i<n->Pv i σ H->g (.int (lo+i)) σ H λσ2 a=>tb {D with nx:=Pv (i+1),ct:=Pv (i+1),bk:=D.nx} σ2 a) (hd:∀σ H,Pv n σ H->D.nx σ H) :
 ∃W:Nat->Nat->St->Hp->Prop,(∃m,W 0 m σ H)/\∀i m σ H,W i m σ H ->
  ((Ir lo n).stop i H/\D.nx σ H)\/((Ir lo n).go i H/\∃N:St->Hp->Prop,(∀σ' H',N σ' H'->∃c,c<m/\W (i+1) c σ' H')/\∀x H',(Ir lo n).yld i H x H'->g x σ H' λσ2 a=>tb {D with nx:=N,ct:=N,bk:=D.nx} σ2 a):=by
 refine⟨λi m σ H=>m=n-i/\i<=n/\Pv i σ H,⟨n,by simp,Ci _,d⟩,?_⟩;rintro i m σ H ⟨rfl,j,p⟩;by_cases b:i<n;refine .inr ⟨b,Pv (i+1),λσ' H' h=>⟨n-(i+1),by omega,rfl,b,h⟩,λx H' y=>?_⟩;obtain⟨e,y⟩:=y;subst e y;exact f i σ _ b p;have e:i=n:=(by omega);subst e;exact .inl ⟨AB _,hd σ H p⟩
abbrev R2:=V->V->Hp->VK->Prop
def DM (X:Cx) (f:Value->Value->Sem Value) (r:R2):Prop:=
 ∀(pins:List (Addr×Obj))(s:Shared)(σ:St)(H:Hp)(x y:V)(v u:Value)(Q:VK),Inv X pins σ H s->RelV x v->RelV y u->r x y H Q ->
  wpAny (model X.prog X.w) X.A (f v u) (EP X pins σ Q) X.xe s
def O9 (X:Cx) (f:Value->Sem Value) (r:V->Hp->VK->Prop):Prop:=
 ∀(pins:List (Addr×Obj))(s:Shared)(σ:St)(H:Hp)(x:V)(v:Value)(Q:VK),Inv X pins σ H s->RelV x v->r x H Q ->
  wpAny (model X.prog X.w) X.A (f v) (EP X pins σ Q) X.xe s
def A5 (X:Cx) (f:Value) (r:List V->Hp->VK->Prop):Prop:=
 ∀(pins:List (Addr×Obj))(s:Shared)(σ:St)(H:Hp)(xs:List V)(us:List Value)(Q:VK),Inv X pins σ H s->As xs us->r xs H Q ->
  wpAny (model X.prog X.w) X.A (call f us) (EP X pins σ Q) X.xe s
def RC (X:Cx) (r:V->Hp->(Bool->Hp->Prop)->Prop):Prop:=
 ∀(pins:List (Addr×Obj))(s:Shared)(σ:St)(H:Hp)(x:V)(v:Value)(Q:Bool->Hp->Prop),Inv X pins σ H s->RelV x v->r x H Q ->
  wpAny (model X.prog X.w) X.A (truthy v) (TP X pins σ Q) X.xe s
def Iv (r:R2) (ta tb:TE):TE:=λσ H Q=>ta σ H λx Y=>tb σ Y λy H2=>r x y H2 Q
def XG (r:V->Hp->VK->Prop) (ta:TE):TE:=λσ H Q=>ta σ H λx Y=>r x Y Q
def rI (C:Int->Int->Prop) (g:Int->Int->V):R2:=λx y H Q=>Iq x y λi j=>C i j/\Q (g i j) H
def IW (g:Int->Int->V):R2:=λx y H Q=>Iq x y λi j=>Q (g i j) H
def rU (g:Int->V):V->Hp->VK->Prop:=λx H Q=>mI x λi=>Q (g i) H
section
variable {X:Cx} {a b c:Expr} {ta tb tc:TE} {L:Pos}
variable {f:Value->Value->Sem Value}
theorem Lb(e:PE X a ta)(g:PE X b tb){R:V->V->Hp->Prop}(I:Inv X pins σ H s)
 (h:ta σ H λx Y=>tb σ Y λy c=>R x y c) {Q:Value->Shared->Prop} (i:∀v u d x y c,Inv X pins σ c d->RelV x v->RelV y u->R x y c->wpAny (model X.prog X.w) X.A (f v u) Q X.xe d) :
 wpAny (model X.prog X.w) X.A (eval a X.env) (λv j=>wpAny (model X.prog X.w) X.A (eval b X.env) (λu k=>wpAny (model X.prog X.w) X.A (f v u) Q X.xe k) X.xe j) X.xe s:=by
 refine AV (e pins s σ H _ I h) λv l⟨x,Y,m,n,o⟩=>?_;refine AV (g pins l σ Y _ m o) λu d⟨y,c,p,q,r⟩=>?_;exact i v u d x y c p n q r
theorem AA{op:Operator}{r:R2}(c:DM X (binaryOp op) r)(d:PE X a ta)(e:PE X b tb):PE X (.BinOp a op b L) (Iv r ta tb):=by
 intro pins s σ H Q I h;exact wpAny_BinOp (Lb d e I h λv u f x y g i j k q=>c pins f σ g x y v u Q i j k q)
theorem Pa{op:UnaryOp}{r:V->Hp->VK->Prop}(b:O9 X (unaryOp op) r)(c:PE X a ta):PE X (.UnaryOp op a L) (XG r ta):=by
 intro pins s σ H Q I h;exact UnaryOp_ (AV (c pins s σ H _ I h) λv d⟨x,Y,e,f,g⟩=>b pins d σ Y x v Q e f g)
theorem RD{C:Int->Int->Prop}{g:Int->Int->Int}
 (e:∀(i j:Int)(t u:Tok)(s:Shared)(Q:Value->Shared->Prop)(E:Value->Shared->Prop),C i j->Q (.int (g i j) s.toks) {s with toks:=s.toks+1}->wpAny (model X.prog X.w) X.A (f (.int i t) (.int j u)) Q E s) :
 DM X f (rI C λi j=>.int (g i j)):=by
 intro pins s σ H x y v u Q I a b h
 replace h:=Iq.ex h
 obtain⟨i,j,rfl,rfl,c,q⟩:=h;obtain⟨t,rfl⟩:=a;obtain⟨d,rfl⟩:=b;exact e i j t d s _ _ c ⟨.int (g i j),H,I.tok _,⟨_,rfl⟩,q⟩
theorem Lc{g:Int->Int->Int}
 (d:∀(i j:Int)(t u:Tok)(s:Shared)(Q:Value->Shared->Prop)(E:Value->Shared->Prop),Q (.int (g i j) s.toks) {s with toks:=s.toks+1}->wpAny (model X.prog X.w) X.A (f (.int i t) (.int j u)) Q E s) :
 DM X f (IW λi j=>.int (g i j)):=by
 intro pins s σ H x y v u Q I a b h
 replace h:=Iq.ex h
 obtain⟨i,j,rfl,rfl,q⟩:=h;obtain⟨t,rfl⟩:=a;obtain⟨c,rfl⟩:=b;exact d i j t c s _ _ ⟨.int (g i j),H,I.tok _,⟨_,rfl⟩,q⟩
theorem NI{g:Int->Int->Bool}
 (d:∀(i j:Int)(t u:Tok)(s:Shared)(Q:Value->Shared->Prop)(E:Value->Shared->Prop),Q (.bool (g i j)) s->wpAny (model X.prog X.w) X.A (f (.int i t) (.int j u)) Q E s) :
 DM X f (IW λi j=>.bl (g i j)):=by
 intro pins s σ H x y v u Q I a b h
 replace h:=Iq.ex h
 obtain⟨i,j,rfl,rfl,q⟩:=h;obtain⟨t,rfl⟩:=a;obtain⟨c,rfl⟩:=b;exact d i j t c s _ _ ⟨.bl (g i j),H,I,rfl,q⟩
def RE (i j:Int):Prop:=0<j/\j<1073741824
def Ld (i j:Int):Prop:=(-(2 ^ 64)<i/\i<2 ^ 64)\/(-(2 ^ 64)<j/\j<2 ^ 64)
theorem Ld.ok{i j:Int}(h:Ld i j):IntMulOk i j:=by
 rcases h with⟨a,b⟩|⟨a,b⟩;exact .of_left (intBits_le_64 a b);exact .of_right (intBits_le_64 a b)
theorem Gr:DM X (binaryOp .Add) (IW λi j=>.int (i+j)):=Lc λ_ _ _ _ _ _ _ q=>add_int q
theorem Le:DM X (binaryOp .Sub) (IW λi j=>.int (i-j)):=Lc λ_ _ _ _ _ _ _ q=>sub_int q
theorem Eo:DM X (binaryOp .Mult) (rI Ld λi j=>.int (i*j)):=RD λ_ _ _ _ _ _ _ a q=>mul_int q a.ok
theorem Fi:DM X (binaryOp .FloorDiv) (rI RE λi j=>.int (i/j)):=RD λi j _ _ _ _ _ a q=>by
 have b:(0:Int)<j:=a.1;have c:j<1073741824:=a.2;exact floordiv_int (by omega) (by rw[Int.fdiv_eq_ediv_of_nonneg i (by omega)];exact q) (.inl (PyProof.noPylong_small (by omega)))
theorem Bj:DM X (binaryOp .Mod) (rI (λ_ j=>0<j) λi j=>.int (i%j)):=RD λi j _ _ _ _ _ a q=>by
 have b:(0:Int)<j:=a;exact mod_int' (by omega) (by rw[Int.fmod_eq_emod_of_nonneg i (by omega)];exact q)
theorem Ux:DM X (inplaceOp .Add) (IW λi j=>.int (i+j)):=Lc λ_ _ _ _ _ _ _ q=>iadd_int q
theorem XH{f:Value->Sem Value}{g:Int->Int}
 (b:∀(i:Int)(t:Tok)(s:Shared)(Q:Value->Shared->Prop)(E:Value->Shared->Prop),Q (.int (g i) s.toks) {s with toks:=s.toks+1}->wpAny (model X.prog X.w) X.A (f (.int i t)) Q E s) :
 O9 X f (rU λi=>.int (g i)):=by
 intro pins s σ H x v Q I a h
 replace h:=mI.ex h
 obtain⟨i,rfl,q⟩:=h;obtain⟨t,rfl⟩:=a;exact b i t s _ _ ⟨.int (g i),H,I.tok _,⟨_,rfl⟩,q⟩
theorem Pb:O9 X (unaryOp .USub) (rU λi=>.int (-i)):=XH λ_ _ _ _ _ q=>neg_int q
end
def Lf:V->V->Bool
 |.non,.non=>true|.non,.int _=>true|.int _,.non=>true|.non,.bl _=>true|.bl _,.non=>true|.non,.str _=>true|.str _,.non=>true
 |.int _,.int _=>true|.bl _,.bl _=>true|.str _,.str _=>true|.byt _,.byt _=>true
 |.int _,.str _=>true|.str _,.int _=>true|.bl _,.str _=>true|.str _,.bl _=>true
 |_,_=>false
def XI:R2:=λx y H Q=>Lf x y=true/\Q (.bl (decide (x=y))) H
def Uy:R2:=λx y H Q=>Lf x y=true/\Q (.bl (!decide (x=y))) H
theorem Uz{i j:Int}:decide (V.int i=V.int j)=(i==j):=by
 rw[Bool.eq_iff_iff]
 simp
theorem Hb{i j:Bool}:decide (V.bl i=V.bl j)=(i==j):=by
 rw[Bool.eq_iff_iff]
 simp
theorem UA{i j:Str}:decide (V.str i=V.str j)=(i==j):=by
 rw[Bool.eq_iff_iff]
 simp
theorem UB{i j:Array UInt8}:decide (V.byt i=V.byt j)=(i.toList==j.toList):=by
 rw[Bool.eq_iff_iff];cases i;cases j
 simp
section
variable {X:Cx} {a b c:Expr} {ta tb tc:TE} {L:Pos}
theorem Dg{Q:VK}{k a:Bool}(I:Inv X pins σ H s)(q:Q (.bl k) H)(e:k=a):EP X pins σ Q (.bool a) s:=by
 subst e;exact⟨.bl k,H,I,rfl,q⟩
theorem Cz:DM X (compareOp .Eq) XI:=by
 intro pins s σ H x y v u Q I d a h;obtain⟨c,q⟩:=h
 cases x with
 |non =>
   cases d
   cases y with
   |non=>cases a;exact PySem.EqNone.eq_none_none (Dg I q (by simp))
   |bl j=>cases a;exact PySem.EqNone.eq_none_bool (Dg I q (by simp))
   |int j=>obtain⟨b,rfl⟩:=a;exact PySem.EqNone.eq_none_int (Dg I q (by simp))
   |str j=>obtain⟨b,rfl⟩:=a;exact PySem.EqNone.eq_none_str (Dg I q (by simp))
   |_=>exact absurd (show false=true from c) Cq
 |bl i =>
   cases d
   cases y with
   |non=>cases a;exact PySem.EqNone.eq_bool_none (Dg I q (by simp))
   |bl j=>cases a;exact eq_bool (Dg I q Hb)
   |str j=>obtain⟨b,rfl⟩:=a;exact PySem.EqMixed.eq_bool_str (Dg I q (by simp))
   |_=>exact absurd (show false=true from c) Cq
 |int i =>
   obtain⟨t,rfl⟩:=d
   cases y with
   |non=>cases a;exact PySem.EqNone.eq_int_none (Dg I q (by simp))
   |int j=>obtain⟨b,rfl⟩:=a;exact eq_int (Dg I q Uz)
   |str j=>obtain⟨b,rfl⟩:=a;exact PySem.EqMixed.eq_int_str (Dg I q (by simp))
   |_=>exact absurd (show false=true from c) Cq
 |str i =>
   obtain⟨t,rfl⟩:=d
   cases y with
   |non=>cases a;exact PySem.EqNone.eq_str_none (Dg I q (by simp))
   |bl j=>cases a;exact PySem.EqMixed.eq_str_bool (Dg I q (by simp))
   |int j=>obtain⟨b,rfl⟩:=a;exact PySem.EqMixed.eq_str_int (Dg I q (by simp))
   |str j=>obtain⟨b,rfl⟩:=a;exact eq_str (Dg I q UA)
   |_=>exact absurd (show false=true from c) Cq
 |byt i =>
   obtain⟨t,rfl⟩:=d
   cases y with
   |byt j=>obtain⟨b,rfl⟩:=a;exact PySem.W.eq_bytes (Dg I q UB)
   |_=>exact absurd (show false=true from c) Cq
 |_=>cases y<;>exact absurd (show false=true from c) Cq
theorem Pc:DM X (compareOp .NotEq) Uy:=by
 intro pins s σ H x y v u Q I d a h;obtain⟨c,q⟩:=h
 cases x with
 |non =>
   cases d
   cases y with
   |non=>cases a;exact PySem.EqNone.ne_none_none (Dg I q (by simp))
   |bl j=>cases a;exact PySem.EqNone.ne_none_bool (Dg I q (by simp))
   |int j=>obtain⟨b,rfl⟩:=a;exact PySem.EqNone.ne_none_int (Dg I q (by simp))
   |str j=>obtain⟨b,rfl⟩:=a;exact PySem.EqNone.ne_none_str (Dg I q (by simp))
   |_=>exact absurd (show false=true from c) Cq
 |bl i =>
   cases d
   cases y with
   |non=>cases a;exact PySem.EqNone.ne_bool_none (Dg I q (by simp))
   |bl j=>cases a;exact ne_bool (Dg I q (BC not Hb))
   |str j=>obtain⟨b,rfl⟩:=a;exact PySem.EqMixed.ne_bool_str (Dg I q (by simp))
   |_=>exact absurd (show false=true from c) Cq
 |int i =>
   obtain⟨t,rfl⟩:=d
   cases y with
   |non=>cases a;exact PySem.EqNone.ne_int_none (Dg I q (by simp))
   |int j=>obtain⟨b,rfl⟩:=a;exact ne_int (Dg I q (BC not Uz))
   |str j=>obtain⟨b,rfl⟩:=a;exact PySem.EqMixed.ne_int_str (Dg I q (by simp))
   |_=>exact absurd (show false=true from c) Cq
 |str i =>
   obtain⟨t,rfl⟩:=d
   cases y with
   |non=>cases a;exact PySem.EqNone.ne_str_none (Dg I q (by simp))
   |bl j=>cases a;exact PySem.EqMixed.ne_str_bool (Dg I q (by simp))
   |int j=>obtain⟨b,rfl⟩:=a;exact PySem.EqMixed.ne_str_int (Dg I q (by simp))
   |str j=>obtain⟨b,rfl⟩:=a;exact ne_str (Dg I q (BC not UA))
   |_=>exact absurd (show false=true from c) Cq
 |byt i =>
   obtain⟨t,rfl⟩:=d
   cases y with
   |byt j=>obtain⟨b,rfl⟩:=a;exact PySem.W.ne_bytes (Dg I q (BC not UB))
   |_=>exact absurd (show false=true from c) Cq
 |_=>cases y<;>exact absurd (show false=true from c) Cq
theorem GJ:DM X (compareOp .Lt) (IW λi j=>.bl (decide (i<j))):=NI λ_ _ _ _ _ _ _ q=>lt_int q
theorem Hc:DM X (compareOp .Gt) (IW λi j=>.bl (decide (j<i))):=NI λ_ _ _ _ _ _ _ q=>gt_int q
variable {op:CmpOp}
theorem By(b:Expr)(h:op≠.In:=by decide)(a:op≠.NotIn:=by decide):behindInMarks op b=false:=by
 have c:(op==CmpOp.In)=false:=by cases op<;>first|rfl|exact absurd rfl h
 have d:(op==CmpOp.NotIn)=false:=by cases op<;>first|rfl|exact absurd rfl a
 cases b<;>simp[behindInMarks,c,d]
variable {r:R2}
theorem Kq(c:DM X (compareOp op) r)(d:PE X a ta)(e:PE X b tb)(f:behindInMarks op b=false):PE X (.Compare a [op] [b] L) (Iv r ta tb):=by
 intro pins s σ H Q I h;exact wpAny_Compare1 (Lb d e I h λv u g x y i j k l q=>c pins g σ i x y v u Q j k l q) f
def Kr (t:TE):TT:=λσ H Q=>t σ H λx H'=>mB x λk=>Q k H'
theorem BI(f:DM X (compareOp op) r)(g:PE X a ta)(i:PE X b tb)(j:behindInMarks op b=false):PT X (.Compare a [op] [b] L) (Kr (Iv r ta tb)):=by
 intro pins s σ H Q I h
 refine wpAny_isTrue_Compare1 (AV (g pins s σ H _ I h) λv l⟨x,Y,m,n,o⟩=>AV (i pins l σ Y _ m o) λu p⟨y,q,t,w,A⟩ =>
  AV (f pins p σ q x y v u _ t n w A) λc E⟨z,B,C,D,d⟩=>?_) j
 replace d:=mB.ex d
 obtain⟨k,e,d⟩:=d;subst e;cases D;exact FJ ⟨B,C,d⟩
def Lg (r r':R2) (ta tb tc:TE):TE:=λσ H Q=>ta σ H λx Y=>tb σ Y λy H2=>r x y H2 λz H3=>∃k,z=.bl k /\
 (if k=true then tc σ H3 λw' H4=>r' y w' H4 Q else Q (.bl false) H3)
theorem XJ{i:CmpOp}{j:R2}(o:DM X (compareOp op) r)(aa:DM X (compareOp i) j)(p:PE X a ta)(q:PE X b tb)(t:PE X c tc)
 (w:lastMarks [op,i] [b,c]=false:=by with_unfolding_all rfl):PT X (.Compare a [op,i] [b,c] L) (Kr (Lg r j ta tb tc)):=by
 intro pins s σ H Q I h
 refine isTrue_chain (AV (p pins s σ H _ I h) λv z⟨x,Y,A,B,C⟩=>test_link (AV (q pins z σ Y _ A C) λu D⟨y,E,F,l,G⟩ =>
  AV (o pins D σ E x y v u _ F B l G) λab J⟨ae,g,m,K,k,e,n⟩=>?_)) w
 subst e;cases K;refine FJ ?_
 cases k with
 |false =>
   have d:mB (.bl false) (λk=>Q k g):=n
   replace d:=mB.ex d
   obtain⟨k',M,N⟩:=d;cases M;exact ite_ff ⟨g,m,N⟩
 |true =>
   refine ite_tt (test_last (AV (t pins J σ g _ m n) λO P⟨R,S,T,U,d⟩=>AV (aa pins P σ S y R u O _ T l U d) λd' s5⟨z2,V,W,Z,f⟩=>?_))
   replace f:=mB.ex f
   obtain⟨k2,e2,f⟩:=f;subst e2;cases Z;exact FJ ⟨V,W,f⟩
def RF (K:Ah) (x:V) (H:Hp) (k:Bool):Prop:=
 match x with
 |.non=>k=false
 |.bl b=>k=b
 |.int i=>k=(i != 0)
 |.str y=>y.length<=sizeLine/\k=((y.length:Int) != 0)
 |.byt y=>y.size<=sizeLine/\k=((y.size:Int) != 0)
 |.ref p=>(∃xs,Ag K H p xs/\k=!xs.isEmpty)\/(∃xs,Aq K H p xs/\k=!xs.isEmpty)\/∃kvs,H p=some (.dK kvs)/\k=!kvs.isEmpty
 |_=>False
theorem XM{κ:Type}{a:List (κ×V)}{vs:List (κ×Value)}(r:KV a vs):(!vs.isEmpty)=!a.isEmpty:=by
 cases r<;>rfl
theorem UC{xs:List V}{a:List Value}(r:As xs a):(!a.toArray.isEmpty)=!xs.isEmpty:=by
 cases r<;>simp
theorem MR:(sizeLine:Nat)<2 ^ 63:=by rw[sizeLine_eq];decide
theorem Lh:RC X (λx H Q=>∃k,RF X.K x H k/\Q k H):=by
 intro pins s σ H x v Q I d h;obtain⟨k,e,q⟩:=h;have A:=MR;have B:sizeLine=16777216:=sizeLine_eq
 cases x with
 |non =>
   cases d;have a:k=false:=e;subst a;exact truthy_none ⟨H,I,q⟩
 |bl b =>
   cases d;have a:k=b:=e;subst a;exact FJ ⟨H,I,q⟩
 |int i =>
   obtain⟨t,rfl⟩:=d;have a:k=(i != 0):=e;subst a;exact PySem.P.truthy_int ⟨H,I,q⟩
 |str y =>
   obtain⟨t,rfl⟩:=d;obtain⟨u,a⟩:y.length<=sizeLine/\k=((y.length:Int) != 0):=e;subst a;exact PySem.P.truthy_str (by omega) ⟨H,I.tok _,q⟩
 |byt y =>
   obtain⟨t,rfl⟩:=d;obtain⟨u,a⟩:y.size<=sizeLine/\k=((y.size:Int) != 0):=e;subst a;exact PySem.W.truthy_bytes (by omega) ⟨H,I.tok _,q⟩
 |ref p =>
   cases d;have a:(∃c,Ag X.K H p c/\k=!c.isEmpty)\/(∃c,Aq X.K H p c/\k=!c.isEmpty)\/∃f,H p=some (.dK f)/\k=!f.isEmpty:=e;rcases a with⟨c,g,a⟩|⟨c,g,a⟩|⟨f,g,a⟩;subst a;obtain⟨z,r,l,n⟩:=I.list g;have o:=r.length;exact wpAny_truthy_list l.isList (by simp only[Cp];omega) ⟨H,I.tok _,by rw[UC r];exact q⟩;subst a;obtain⟨z,r,l,n⟩:=I.tuple g;have o:=r.length;exact truthy_tuple l (by simp only[Cp];omega) ⟨H,I.tok _,by rw[UC r];exact q⟩;subst a;obtain⟨n,w,j,r,m⟩:f.length<=sizeLine/\(p==sysModules)=false/\∃j,KV f j/\s.heap.DictOf (EK X.prog X.w) p j:=I.hok p _ g;have o:f.length=j.length:=Paired.length r;exact wpAny_truthy_dict w m (by omega) ⟨H,I.tok _,by rw[XM r];exact q⟩
 |_=>exact(show False from e).elim
theorem UD:DM X (binaryOp .Add) (λx y H Q=>∃i j,x=.str i/\y=.str j/\i.length+j.length<=sizeLine/\Q (.str (i++j)) H):=by
 intro pins s σ H x y v u Q I a b h;obtain⟨i,j,rfl,rfl,c,q⟩:=h;obtain⟨t,rfl⟩:=a;obtain⟨d,rfl⟩:=b;exact add_str (λd tk=>⟨.str (i++j),H,I.tok _,⟨_,rfl⟩,q⟩) c
theorem Fj{us:List Value}(r:As [x] us):∃u,us=[u]/\RelV x u:=by
 cases r with
 |cons a b=>cases b;exact⟨_,rfl,a⟩
theorem IX{y:V}{us:List Value}(r:As [x,y] us):∃u a,us=[u,a]/\RelV x u/\RelV y a:=by
 cases r with
 |cons b c =>
   cases c with
   |cons d e=>cases e;exact⟨_,_,rfl,b,d⟩
theorem XN(b:X.calm=true):A5 X (.builtin "min") (λxs H Q=>∃i j,xs=[.int i,.int j]/\Q (.int (if j<i then j else i)) H):=by
 intro pins s σ H xs c Q I r h;obtain⟨i,j,rfl,q⟩:=h;obtain⟨u,d,rfl,⟨t,rfl⟩,⟨e,rfl⟩⟩:=IX r;refine min_two_ints (I.ok.hd b) λf tk k=>⟨_,H,I.kept k,?_,q⟩;by_cases a:j<i;rw[Aj a,Aj a];exact⟨_,rfl⟩;rw[Ak a,Ak a];exact⟨_,rfl⟩
theorem UE:A5 X (.type "int") (λxs H Q=>(∃i,xs=[.int i]/\Q (.int i) H)\/∃k,xs=[.bl k]/\Q (.int (if k then 1 else 0)) H):=by
 intro pins s σ H xs b Q I r h;rcases h with⟨i,rfl,q⟩|⟨k,rfl,q⟩;obtain⟨u,rfl,t,rfl⟩:=Fj r;exact call_int_int ⟨.int i,H,I,⟨_,rfl⟩,q⟩;obtain⟨u,rfl,a⟩:=Fj r
 cases a;exact call_int_bool ⟨.int (if k then 1 else 0),H,I.tok _,⟨_,rfl⟩,q⟩
def RG (K:Ah) (x:V) (H:Hp) (n:Nat):Prop:=
 match x with
 |.str y=>y.length<=sizeLine/\n=y.length
 |.byt y=>y.size<=sizeLine/\n=y.size
 |.ref p=>(∃xs,Ag K H p xs/\n=xs.length)\/∃xs,Aq K H p xs/\n=xs.length
 |_=>False
theorem Ec:A5 X (.builtin "len") (λxs H Q=>mL xs λx n=>RG X.K x H n/\Q (.int n) H):=by
 intro pins s σ H xs l Q I r h
 replace h:=mL.ex h
 obtain⟨x,n,rfl,e,q⟩:=h;obtain⟨u,rfl,b⟩:=Fj r;have m:=MR;have o:sizeLine=16777216:=sizeLine_eq
 cases x with
 |str y =>
   obtain⟨t,rfl⟩:=b;obtain⟨i,a⟩:y.length<=sizeLine/\n=y.length:=e;subst a;exact len_str (by omega) ⟨.int _,H,I.tok _,⟨_,rfl⟩,q⟩
 |byt y =>
   obtain⟨t,rfl⟩:=b;obtain⟨i,a⟩:y.size<=sizeLine/\n=y.size:=e;subst a;exact PySem.W.len_bytes (by omega) ⟨.int _,H,I.tok _,⟨_,rfl⟩,q⟩
 |ref p =>
   cases b;have a:(∃xs,Ag X.K H p xs/\n=xs.length)\/∃xs,Aq X.K H p xs/\n=xs.length:=e;rcases a with⟨xs,c,a⟩|⟨xs,c,a⟩;subst a;obtain⟨k,d,f,j⟩:=I.list c;have g:=d.length;exact Calls.call_len_list f.isList (by simp only[Cp];omega) ⟨.int xs.length,H,I.tok _,⟨_,by simp only[Cp];rw[g]⟩,q⟩;subst a;obtain⟨k,d,f,j⟩:=I.tuple c;have g:=d.length;exact len_tuple f (by simp only[Cp];omega) ⟨.int xs.length,H,I.tok _,⟨_,by simp only[Cp];rw[g]⟩,q⟩
 |_=>exact(show False from e).elim
end
section
variable {prog:Program} {w:World} {A:Around} {E:Value->Shared->Prop} {s:Shared} {K:Ah} {x dx C f:Addr} {mA:Str->Option Value} {name:Str} {v:Value}
end
theorem Ea.some_of{v:V}{o:Option Value}(r:Ea (some v) o):∃u,o=some u/\RelV v u:=by
 cases o with
 |none=>exact(show False from r).elim
 |some u=>exact⟨u,rfl,r⟩
section
variable {P:Program} {w:World} {H H':Hp} {h h':Heap} {a C dx:Addr} {fs fs':List (Str×V)}
end
section
variable {X:Cx} {pins:List (Addr×Obj)} {σ:St} {H:Hp} {s:Shared} {a C dx:Addr} {fs:List (Str×V)} {f:Str} {v:V} {A:Around} {E:Value->Shared->Prop}
end
section
variable {X:Cx} {o e d:Expr} {f:Str} {L t j:Pos} {ta J:TE}
end
section
variable {X:Cx} {pins:List (Addr×Obj)} {σ:St} {H:Hp} {s:Shared} {A:Around} {E:Value->Shared->Prop} {Q:Value->Shared->Prop} {c:Value} {b:Bool}
end
structure BX (k:Nat) (A:Around):Prop where
 hd:A.handled=none
 dp:A.depth+3*k+5<recursionLimit
 un:A.units+16*k+200<cLine
theorem BX.mono{j k:Nat}(r:BX k A)(h:j<=k):BX j A:=⟨r.hd,by have:=r.dp;omega,by have:=r.un;omega⟩
theorem BX.deeper{k:Nat}{A:Around}(r:BX (k+1) A)(env:Env):BX k (A.deeper env):=
 ⟨r.hd,by have:=r.dp;show A.depth+1+3*k+5<_;omega,by have:=r.un;show A.units+3+16*k+200<_;omega⟩
theorem BX.depth{k:Nat}{A:Around}(r:BX k A):A.depth<recursionLimit:=by have:=r.dp;omega
theorem BX.units{k:Nat}{A:Around}(r:BX k A):A.units+64<cLine:=by have:=r.un;omega
def Li:TA:=λ_ H Q=>Q [] H
def Pd (ta:TE) (tr:TA):TA:=λσ H Q=>ta σ H λx Y=>tr σ Y λxs H2=>Q (x::xs) H2
section
variable {X:Cx} {e:Expr} {es:List Expr} {te:TE} {t:TA} {L:Pos}
theorem Ae:PA X [] Li:=λ_ _ _ _ H Q I h=>Calls.spliced_nil ⟨[],H,I,.nil,h⟩
theorem Ab(a:PE X e te)(b:PA X es t)(c:starEach (e::es) X.env=(false,eval e X.env)::starEach es X.env:=by rfl):PA X (e::es) (Pd te t):=by
 intro L pins s σ H Q I h;rw[c];show wpAny _ _ (spliced ((false,eval e X.env)::backTo L (starEach es X.env))) _ _ s;refine Calls.spliced_cons (AV (a pins s σ H _ I h) λu d⟨x,Y,f,g,i⟩=>?_);exact AV (b L pins d σ Y _ f i) λo p⟨j,k,l,m,n⟩=>⟨x::j,k,l,.cons g m,n⟩
def RH (t:TA):TE:=λσ H Q=>t σ H λxs Y=>xs.length<=sizeLine/\∀p,Y p=none->Q (.ref p) (upd Y p (.tup xs))
def RI (t:TA):TE:=λσ H Q=>t σ H λxs Y=>xs.length<=sizeLine/\∀p,Y p=none->Q (.ref p) (upd Y p (.lst xs))
theorem Bw{d}(h:PA X es t):PE X (.Tuple es d L) (RH t):=by
 intro pins s σ H Q I f;refine wpAny_Tuple_spliced (AV (h L pins s σ H _ I f) λg a⟨i,Y,c,r,z,q⟩=>⟨by rw[<-r.length];exact z,?_⟩);have j:Y a.heap.objs.size=none:=c.hok.fresh (AB _);refine⟨.ref a.heap.objs.size,upd Y a.heap.objs.size (.tup i),c.laid (t':=a.toks) (λb u e=>A8 _ e) (AB _) ?_,rfl,q _ j⟩;exact⟨z,g,r,⟨_,B4 _ rfl,rfl,_,rfl⟩⟩
theorem CA(h:PA X es t):PE X (.List es L) (RI t):=by
 intro pins s σ H Q I d;refine wpAny_List_spliced (AV (h L pins s σ H _ I d) λf a⟨g,Y,c,r,z,q⟩=>⟨by rw[<-r.length];exact z,?_⟩);have i:Y a.heap.objs.size=none:=c.hok.fresh (AB _);refine⟨.ref a.heap.objs.size,upd Y a.heap.objs.size (.lst g),c.laid (t':=a.toks) (λb u e=>A8 _ e) (AB _) ?_,rfl,q _ i⟩;exact⟨z,f,0,r,B4 _ rfl⟩
end
abbrev Sp:=List V->Hp->VK->XK->Prop
abbrev Hd:=List Env->Hp->Shared->XK->Value->Shared->Prop
structure IY (P:Program) (w:World) (K:Ah) (mg:Str->Option Value) (base:Heap) (A:Around) (outer:List Env) (s:Shared) (H:Hp):Prop where
 frames:A.frames=some outer
 mod:Mod K mg base
 bs:∀b o,base.get? b=some o->s.heap.get? b=some o/\H b=none
 bsz:base.objs.size<=s.heap.objs.size
 funs:s.heap.FunFrames base outer
 frf:∀b∈EV outer,H b=none
 hok:CW P w H s.heap
 bare:AllBare s.gens
def CE (outer:List Env) (P:Program) (w:World) (H:Hp) (s:Shared) (Q:VK) (u:Value) (Z:Shared):Prop:=
 ∃v H',Z.os=s.os/\AllBare Z.gens/\Un (EV outer) [] H H' s.heap Z.heap/\CW P w H' Z.heap/\RelV v u/\Q v H'
def CR (CX:Hd) (outer:List Env) (P:Program) (w:World) (H:Hp) (s:Shared) (Q:VK) (E:XK) (r:Result) (Z:Shared):Prop:=
 match r with
 |.ok (.ret u)=>CE outer P w H s Q u Z
 |.ok _=>False
 |.error e=>CX outer H s E e Z
structure Ep (P:Program) (w:World) (K:Ah) (mg:Str->Option Value) (base:Heap) (CX:Hd) (k:Nat) (f:Addr) (fd:FuncData) (ps:List Str) (sp:Sp):Prop where
 len:∀vs H Q E,sp vs H Q E->vs.length=ps.length
 run:∀(A:Around)(outer:List Env)(s:Shared)(H:Hp)(args:Args)(us:List Value)(vs:List V)(Q:VK)(E:XK),BX k A->IY P w K mg base A outer s H->BindsTo s fd args (ps.zip us)->As vs us->sp vs H Q E ->
  codeAny (model P w) A (.call (.ref f) args) (CR CX outer P w H s Q E) s
section
variable {X:Cx} {pins:List (Addr×Obj)} {σ:St} {H:Hp} {s Z:Shared}
theorem Inv.env0(I:Inv X pins σ H s):IY X.prog X.w X.K X.mg X.base X.A X.stack s H:=
 ⟨I.ok.frames,I.ok.mod,I.bs,Ek I.ok.bsz I.sz,I.stack,I.stkFree,I.hok,I.bare⟩
theorem Inv.after{Q:VK}{u:Value}(I:Inv X pins σ H s)(h:CE X.stack X.prog X.w H s Q u Z):EP X pins σ Q u Z:=by
 obtain⟨v,a,c,j,un,f,r,q⟩:=h;obtain⟨e,g,d,t,i⟩:=Z;obtain rfl:i=s.os:=c;exact⟨v,a,I.call (h':=e) (g':=g) (d':=d) (t':=t) (ch:=[]) un f j (λb z=>absurd z (by simp)),r,q⟩
end
def He (sp:Sp) (c:List V) (E:XK) (t:TA):TE:=λσ H Q=>t σ H λvs Y=>sp (vs++c) Y Q E
def Binds (K:Ah) (fd:FuncData) (ps:List Str) (ds:List Value):Prop:=
 ∀(s:Shared)(us:List Value),K.In s.heap->(us++ds).length=ps.length->BindsTo s fd ⟨us,[]⟩ (ps.zip (us++ds))
variable {ps:List Str}
theorem Binds.all{K:Ah}{a:FuncData}(h:∀us:List Value,us.length=ps.length->bindArgs a ⟨us,[]⟩=pure (ps.zip us)):Binds K a ps []:=λs us _ b=>by
 rw[FA] at b ⊢;exact .of_eq (h us b)
def RJ (CX:Hd) (X:Cx) (E:XK):Prop:=∀(pins:List (Addr×Obj))(σ:St)(H:Hp)(s:Shared)(e:Value)(Z:Shared),Inv X pins σ H s->CX X.stack H s E e Z->X.xe e Z
section
variable {X:Cx} {CX:Hd} {k:Nat} {f C:Addr} {fd:FuncData} {ps:List Str} {sp:Sp} {c:List V} {ds:List Value} {E:XK} {x m:Str} {p L apos:Pos} {e o:Expr} {es:List Expr} {ta:TE} {t:TA}
theorem Lj{Q:VK}{us:List Value}{vs:List V}(F:Ep X.prog X.w X.K X.mg X.base CX k f fd ps sp)(d:BX k X.A)(g:Binds X.K fd ps ds)(hd:As c ds)(i:RJ CX X E)
 (I:Inv X pins σ H s) (r:As vs us) (h:sp (vs++c) H Q E):wpAny (model X.prog X.w) X.A (call (.ref f) us) (EP X pins σ Q) X.xe s:=by
 have b:As (vs++c) (us++ds):=r.append hd;have j:(us++ds).length=ps.length:=by rw[<-b.length];exact F.len _ _ _ _ h
 refine wpAny_call (codeAny_mono (F.run X.A X.stack s H ⟨us,[]⟩ (us++ds) (vs++c) Q E d I.env0 (g s us I.kIn j) b h) λr Z a=>?_)
 cases r with
 |error e=>exact i pins σ H s e Z I a
 |ok l =>
   cases l with
   |ret u=>exact I.after a
   |next=>exact False.elim a
   |brk=>exact False.elim a
   |cont=>exact False.elim a
theorem IZ(F:Ep X.prog X.w X.K X.mg X.base CX k f fd ps sp)(b:BX k X.A)(d:Gl X x)(g:X.mg x=some (.ref f))(i:PySem.W.keepIn X.K (.ref f)=true)(j:Binds X.K fd ps ds)(hd:As c ds)(l:RJ CX X E)
 (m:PA X (e::es) t) (o:(x==("__debug__" : Str))=false:=by decide) (n:starEach (e::es) X.env=(false,eval e X.env)::starEach es X.env:=by rfl) (u:(backTo L (starEach es X.env)).any (·.1)=false:=by rfl) :
 PE X (.Call (.Name x p) (e::es) [] L) (He sp c E t):=by
 intro pins s σ H Q I h;refine wpAny_Call_Name_kw (Ur I d g ?_ o);refine PySem.W.callWith_K (h₀:=X.base) I.ok.mod.kin i (AV (m L pins s σ H _ I h) λv w⟨y,Y,a,r,q⟩=>⟨a.kIn,?_⟩) n u;exact Lj F b j hd l a r q
end
section
variable {X:Cx} {CX:Hd} {k:Nat} {f C:Addr} {fd:FuncData} {ps ks:List Str} {sp:Sp} {E:XK} {x m:Str} {p L apos kpos:Pos} {e o:Expr} {es:List Expr} {kws:List Keyword} {te ta:TE} {t tk:TA} {nm:Option Str}
variable {g:List Value->List Value->List Value} {gV:List V->List V->List V}
end
structure Af (N P:List Str) (sc:Scope):Prop where
 kind:sc.kind=.function
 co:sc.isCoroutine=false
 gen:sc.isGenerator=false
 nd:N.Nodup
 pre:N.take P.length=P
 par:∀x∈P,sc.names.lookup x=some .local\/sc.names.lookup x=some .cell
 nofree:∀y∈sc.names,y.2≠.free
theorem UF{kindOf:Str->Option NameKind}{x:Str}:∀{binds:List (Str×Value)}{m:Str->Option Value},(∀v,(x,v)∉binds)->bindL kindOf binds m x=m x
 |[],_,_=>rfl
 |(n,v)::r,m,h=>by
   unfold bindL;rw[UF λw a=>h w (Ch _ a)];split;have:x≠n:=by rintro rfl;exact h v Bv
   simp[this];rfl
theorem UG{kindOf:Str->Option NameKind}{x:Str}:∀{binds:List (Str×Value)}{m:Str->Option Value},(∀v,(x,v)∉binds)->bindC kindOf binds m x=m x
 |[],_,_=>rfl
 |(n,v)::r,m,h=>by
   unfold bindC;rw[UG λw a=>h w (Ch _ a)];split;rfl;have:x≠n:=by rintro rfl;exact h v Bv
   simp[this]
theorem UH{kindOf:Str->Option NameKind}{x:Str}{v:Value}:∀{P:List Str}{vs:List Value}{i:Nat}{m:Str->Option Value},P.Nodup->P[i]?=some x->vs[i]?=some v->kindOf x=some .local ->
 bindL kindOf (P.zip vs) m x=some v
 |[],_,_,_,_,h,_,_=>by simp at h
 |_::_,[],_,_,_,_,h,_=>by simp at h
 |p::P,w::vs,0,m,c,a,b,d=>by
   simp at a b;subst a;subst b;show bindL kindOf ((p,w)::P.zip vs) m p=_;unfold bindL;rw[UF λv hv=>(Gj.mp c).1 (List.of_mem_zip hv).1,Aj d]
   simp
 |p::P,w::vs,i+1,m,c,a,b,d=>by
   show bindL kindOf ((p,w)::P.zip vs) m x=_;unfold bindL;exact UH (i:=i) (Gj.mp c).2 (by simpa using a) (by simpa using b) d
theorem UI{kindOf:Str->Option NameKind}{x:Str}{v:Value}:∀{P:List Str}{vs:List Value}{i:Nat}{m:Str->Option Value},P.Nodup->P[i]?=some x->vs[i]?=some v->kindOf x≠some .local ->
 bindC kindOf (P.zip vs) m x=some v
 |[],_,_,_,_,h,_,_=>by simp at h
 |_::_,[],_,_,_,_,h,_=>by simp at h
 |p::P,w::vs,0,m,c,a,b,d=>by
   simp at a b;subst a;subst b;show bindC kindOf ((p,w)::P.zip vs) m p=_;unfold bindC;rw[UG λv hv=>(Gj.mp c).1 (List.of_mem_zip hv).1,Ak d]
   simp
 |p::P,w::vs,i+1,m,c,a,b,d=>by
   show bindC kindOf ((p,w)::P.zip vs) m x=_;unfold bindC;exact UI (i:=i) (Gj.mp c).2 (by simpa using a) (by simpa using b) d
def start (N:List Str) (vs:List V):St:=vs.map some++List.replicate (N.length-vs.length) none
def AG (CX:Hd) (P:Program) (w:World) (K:Ah) (mg:Str->Option Value) (base:Heap) (N:List Str) (qual:Str) (scope:Scope) (f:Addr) (cd:Value) (A:Around) (outer:List Env) (s:Shared) (H:Hp) (E:XK):Cx where
 prog:=P
 w:=w
 K:=K
 mg:=mg
 base:=base
 A:=A.deeper (envOfC qual scope s.heap.objs.size f cd)
 N:=N
 s₀:=s
 H₀:=H
 env:=envOfC qual scope s.heap.objs.size f cd
 outer:=outer
 stack:=envOfC qual scope s.heap.objs.size f cd::outer
 ex:=[]
 calm:=true
 fn:=λ_=>true
 pn:=[]
 xe:=λe Z=>wpAny (model P w) (A.deeper (envOfC qual scope s.heap.objs.size f cd)) (leaving (envOfC qual scope s.heap.objs.size f cd) e) (λ_ s''=>CX outer H s E e s'') (λe' s''=>CX outer H s E e' s'') Z
theorem UJ{a:Scope}{n:Nat}{x:Str}(h:a.names.lookup x=some .cell):∃c,(cellsFrom n a.names []).lookup x=some c:=by
 have q:=PySem.W.cellsFrom_some a.names n [] (.inl h);exact Option.isSome_iff_exists.mp q
theorem XO{CX:Hd}{K:Ah}{C:Str->Option Value}{F:Heap}{N:List Str}{B:Str}{scope:Scope}{f:Addr}{m:Value}{G:List Env}{I:Shared}{E:XK}{us:List Value}{vs:List V}
 (S:Af N ps scope) (hd:A.handled=none) (g:IY P w K C F A G s H) (R:vs.length=ps.length) (r:As vs us)
 (x:InCallC s s.heap.objs.size (bindL (envOfC B scope s.heap.objs.size f m).kindOf (ps.zip us) λ_=>none) (cellsFrom (s.heap.objs.size+1) scope.names []) (bindC (envOfC B scope s.heap.objs.size f m).kindOf (ps.zip us) λ_=>none) I) :
 Inv (AG CX P w K C F N B scope f m A G s H E) [] (start N vs) H I:=by
 have U:ps.length<=N.length:=by have:=BC List.length S.pre;rw[FH] at this;omega
 obtain⟨o,tk,rfl,J⟩:=x.done;have D:∀b:Addr,b∉(AG CX P w K C F N B scope f m A G s H E).ex:=λb z=>absurd (show b∈([]:List Addr) from z) (by simp)
 refine⟨⟨g.mod,S.kind,rfl,rfl,AB _,λy z c o d=>?_,λy j=>?_,λy c _ h=>?_,λ_=>hd,Around.frames_deeper g.frames,.inr ⟨rfl,rfl⟩,λb z=>absurd z (D b),g.bs,g.bsz,λb _ _=>D b,λb z=>absurd z (D b),g.funs,g.frf⟩,
  rfl,g.bare,Un.kept J,⟨_,x.toInCall.ns,λi y v o d T=>?_⟩,λy c h=>⟨_,x.cell y c h⟩,g.hok.fresh (AB _),λy c h=>?_,λp l=>absurd (show p∈([]:List (Addr×Obj)) from l) (by simp),g.hok.kept J,?_⟩
 exact name_of_addr x.apart (F8 o) (F8 d);have j:scope.names.lookup y=some .cell\/scope.names.lookup y=some .free:=j;rcases j with j|j;exact UJ j;exact absurd rfl (S.nofree _ (F8 j));exact Dh (x.above y c (F8 h))
 have t:i<vs.length:=by
  unfold start at d;by_cases t:i<vs.length;exact t;rw[Fc (by simpa using t)] at d;rw[List.getElem?_replicate] at d;split at d<;>cases d
 have O:vs[i]?=some v:=by
  unfold start at d;rw[EU (by simpa using t),Bh] at d
  cases e:vs[i]? with
  |none=>rw[e] at d;cases d
  |some a=>rw[e] at d;cases d;rfl
 obtain⟨u,L,Q⟩:=r.get O
 have l:ps[i]?=some y:=by
  rw[<-S.pre,List.getElem?_take_of_lt (by omega)];exact o
 have M:ps.Nodup:=by rw[<-S.pre];exact S.nd.sublist (List.take_sublist _ _)
 refine⟨u,Q,?_⟩;rcases S.par y (Bd l) with k|k;exact .inl ⟨k,UH M l L k⟩;obtain⟨c,e⟩:=UJ (n:=s.heap.objs.size+1) k;refine .inr ⟨.inl k,c,e,?_⟩;have q:=x.cell y c e;rw[UI M l L (by show scope.names.lookup y≠_;rw[k];decide)] at q;exact q;exact g.hok.fresh (Dh (x.above y c (F8 h)));unfold start;show _=N.length;rw[AW,Al,List.length_replicate];omega
theorem NJ{CX:Hd}{K:Ah}{i:Str->Option Value}{j:Heap}{k:Nat}{f:Addr}{name c:Str}{M:Arguments}{body:List Stmt}{scope:Scope}{p kV F z a ct O:Value}{B R:Option Addr}
 {aa:Array (Option Value)} {N:List Str} {sp:Sp} (T:K.lookup f=some ⟨O,R,.func (PySem.W.fnOf name c M body scope p kV F z B a ct),aa⟩) (ab:PySem.W.codeIn K a c=true) (S:Af N ps scope)
 (len:∀vs H Q E,sp vs H Q E->vs.length=ps.length)
 (af:∀(A:Around)(g:List Env)(s:Shared)(H:Hp)(vs:List V)(Q:VK)(E:XK),BX k (A.deeper (envOfC c scope s.heap.objs.size f a))->sp vs H Q E ->
  ∃t,Ga (AG CX P w K i j N c scope f a A g s H E) body t/\t {nx:=λ_ H'=>Q .non H',rt:=Q} (start N vs) H) :
 Ep P w K i j CX (k+1) f (PySem.W.fnOf name c M body scope p kV F z B a ct) ps sp:=by
 refine⟨len,λA g s H ai U vs Q E l h W r G=>?_⟩;have X:=len _ _ _ _ G;have C:K.In s.heap:=h.mod.kin.keeps λb o e=>(h.bs b o e).1;have ae:s.heap.NoLimit:=h.mod.nolimit.keeps λb o e=>(h.bs b o e).1
 have ag:∀y∈ps.zip U,scope.names.lookup y.1=some .local\/(scope.names.lookup y.1=some .cell/\((cellsFrom (s.heap.objs.size+1) scope.names []).lookup y.1).isSome=true):=λ⟨n,v⟩Y=>by
  rcases S.par n (List.of_mem_zip Y).1 with q|q;exact .inl q;exact .inr ⟨q,PySem.W.cellsFrom_some _ _ _ (.inl q)⟩
 refine codeAny_call_function l.depth (C _ _ T) rfl S.co S.gen rfl (PySem.W.codeRec_of C ab) (W _ _ _ _ ?_);refine wpAny_newFunctionEnv_cells S.kind ag λah he D x=>?_;subst he;refine⟨ae.keeps x.toInCall.keep,codeAny_func ?_⟩;obtain⟨t,ht,hq⟩:=af A g s H vs Q E (l.deeper _) G;have I:Inv (AG CX P w K i j N c scope f a A g s H E) [] (start N vs) H D:=XO S l.hd h X r x;refine FK (ht [] D (start N vs) H _ I hq) (λfl Z d=>?_) λe Z d=>d
 have L:∀{σ':St}{H':Hp}{v:V}{u:Value},Inv (AG CX P w K i j N c scope f a A g s H E) [] σ' H' Z->RelV v u->Q v H'->CE g P w H s Q u Z:=
  λ{σ' H' v u}J m q=>⟨v,H',J.os,J.bare,J.base,J.hok,m,q⟩
 cases fl with
 |ret u =>
   obtain⟨v,σ',H',J,m,q⟩:=d;exact L J m q
 |next =>
   obtain⟨σ',H',J,q⟩:=d;exact L (v:=V.non) (u:=Value.none) J rfl q
 |brk =>
   obtain⟨_,_,_,q⟩:=d;exact False.elim q
 |cont =>
   obtain⟨_,_,_,q⟩:=d;exact False.elim q
section
variable {X:Cx} {x:Str} {p L:Pos} {e:Expr} {es:List Expr} {t:TA} {id T:String} {r:List V->Hp->VK->Prop}
def RK (r:List V->Hp->VK->Prop) (t:TA):TE:=λσ H Q=>t σ H λvs Y=>r vs Y Q
theorem BS(a:A5 X (.builtin id) r)(b:X.mg x=none)(c:PA X (e::es) t)(d:Gl X x:=by rfl)(hv:bootBuiltins x=some (.builtin id):=by decide +kernel)(f:x ≠ "__name__" :=by decide)(o:(x==("__debug__" : Str))=false:=by decide)
 (g:starEach (e::es) X.env=(false,eval e X.env)::starEach es X.env:=by rfl) (q:(backTo L (starEach es X.env)).any (·.1)=false:=by rfl):PE X (.Call (.Name x p) (e::es) [] L) (RK r t):=by
 intro pins s σ H Q I h;refine wpAny_Call_Name_kw (IR I d b hv ?_ f o);exact PyProof.Rows.callWith_builtin1 (AV (c L pins s σ H _ I h) λi j⟨k,Y,l,m,n⟩=>a pins j σ Y k i Q l m n) g q
theorem Iw(a:A5 X (.type T) r)(b:X.mg x=none)(c:PA X (e::es) t)(d:Gl X x:=by rfl)(hv:bootBuiltins x=some (.type T):=by decide +kernel)(f:x ≠ "__name__" :=by decide)(o:(x==("__debug__" : Str))=false:=by decide)
 (g:starEach (e::es) X.env=(false,eval e X.env)::starEach es X.env:=by rfl) (q:(backTo L (starEach es X.env)).any (·.1)=false:=by rfl):PE X (.Call (.Name x p) (e::es) [] L) (RK r t):=by
 intro pins s σ H Q I h;refine wpAny_Call_Name_kw (IR I d b hv ?_ f o);exact PyProof.Rows.callWith_type1 (AV (c L pins s σ H _ I h) λi j⟨k,Y,l,m,n⟩=>a pins j σ Y k i Q l m n) g q
end
end L2
namespace HT
open PySem PyProof.Rows
section
open PySem.SeqAt
open PySem.AutoSeq1 (wpAny_loadPart')
open PySem.MeetsSeq PySem.MeetsSeq2 PySem.MeetsSeq3
end
section
variable {prog:Program} {w:World} {A:Around} {E:Value->Shared->Prop} {s:Shared}
def sIx (n d:Nat):Option Int->Nat
 |none=>d
 |some v=>if v<0 then(v+(n:Int)).toNat else min v.toNat n
theorem sIx_none(n d:Nat):sIx n d none=d:=rfl
theorem sIx_nat(n d k:Nat):sIx n d (some (k:Int))=min k n:=by
 show(if(k:Int)<0 then((k:Int)+(n:Int)).toNat else min (k:Int).toNat n)=min k n;rw[Ak (by omega),Be]
end
end HT
namespace L2
open PySem PySem.Spec PyProof.Rows
abbrev TO:=St->Hp->(Option Int->Hp->Prop)->Prop
def PO (X:Cx) (e:Option Expr) (t:TO):Prop:=
 ∀(pins:List (Addr×Obj))(s:Shared)(σ:St)(H:Hp)(Q:Option Int->Hp->Prop),Inv X pins σ H s->t σ H Q ->
  wpAny (model X.prog X.w) X.A (evalPart e X.env) (λu Z=>∃o H',Inv X pins σ H' Z/\IsPart u o/\Q o H') X.xe s
def I0:TO:=λ_ H Q=>Q none H
def NK (t:TE):TO:=λσ H Q=>t σ H λx Y=>∃i,x=.int i/\Q (some i) Y
theorem XQ{ns:List Int}:∀{us:List Value},As (ns.map V.int) us->IntsAre us ns:=by
 induction ns with
 |nil=>intro us r;rw[Nj] at r;cases r;exact .nil
 |cons n ns a =>
   intro us r;rw[D7] at r
   cases r with
   |cons b c =>
     obtain⟨t,e⟩:=b;subst e;exact .cons n t (a c)
section
variable {X:Cx} {e:Expr} {te:TE} {lo hi:Option Expr} {tl th:TO} {L J:Pos}
theorem UK:PO X none I0:=by
 intro a s σ H Q I h;rw[evalPart_none];exact Au ⟨none,H,I,.none,h⟩
theorem Pe(h:PE X e te):PO X (some e) (NK te):=by
 intro f s σ H Q I a;rw[evalPart_some];refine AV (h f s σ H _ I a) λu g⟨x,Y,b,c,d⟩=>?_;obtain⟨i,rfl,q⟩:=d;obtain⟨t,rfl⟩:=c;exact⟨some i,Y,b,.int i t,q⟩
def RL (X:Cx) (r:V->Option Int->Option Int->Hp->VK->Prop):Prop:=
 ∀(pins:List (Addr×Obj))(s:Shared)(σ:St)(H:Hp)(x:V)(v vl vu:Value)(lo hi:Option Int)(sl:Addr)(Q:VK),Inv X pins σ H s->RelV x v->s.heap.IsSliceOf sl vl vu .none->IsPart vl lo->IsPart vu hi->r x lo hi H Q ->
  ∃T id,typeLookup (.type T) "__getitem__" = pure (some (.builtin id))/\s.TypeIs v T/\wpAny (model X.prog X.w) X.A (getItem v (.ref sl)) (EP X pins σ Q) X.xe s
def XR (r:V->Option Int->Option Int->Hp->VK->Prop) (te:TE) (tl th:TO):TE:=λσ H Q=>te σ H λx Y=>tl σ Y λl H2=>th σ H2 λu H3=>r x l u H3 Q
theorem RM{r:V->Option Int->Option Int->Hp->VK->Prop}(i:RL X r)(j:PE X e te)(k:PO X lo tl)(m:PO X hi th):PE X (.Subscript e (.Slice lo hi none J) L) (XR r te tl th):=by
 intro c s σ H Q I h;refine Subscript_ (AV (j c s σ H _ I h) λv n⟨x,Y,o,p,t⟩=>?_);refine wpAny_Slice (AV (k c n σ Y _ o t) λd w⟨l,y,z,A,B⟩=>AV (m c w σ y _ z B) λf a⟨u,g,C,D,E⟩=>?_);rw[evalPart_none];refine Au ?_;have F:Inv X c σ g {a with heap:=a.heap.push {cls:=.type "slice",data:=.fields #[d,f,.none]}}:=C.kept (t':=a.toks) λb N q=>A8 _ q;obtain⟨T,id,G,K,M⟩:=i c {a with heap:=a.heap.push {cls:=.type "slice",data:=.fields #[d,f,.none]}} σ g x v d f l u a.heap.objs.size Q F p (Heap.IsSliceOf.new ..) A D E;show wpAny (model X.prog X.w) X.A (subscriptTail e (.Slice lo hi none J) v (.ref a.heap.objs.size)) (EP X c σ Q) X.xe {a with heap:=a.heap.push {cls:=.type "slice",data:=.fields #[d,f,.none]}};exact tail_any (ops:=[.ref a.heap.objs.size,v]) K G M (by with_unfolding_all rfl)
def DN (xs:List V) (lo hi:Option Int):List V:=(xs.drop (HT.sIx xs.length 0 lo)).take (HT.sIx xs.length xs.length hi-HT.sIx xs.length 0 lo)
theorem XS(xs:List V)(lo hi:Option Int):(DN xs lo hi).length<=xs.length:=by
 unfold DN;rw[FH,Kh];omega
end
def Hf (n:Nat) (i:Int):Option Nat:=if 0<=i then(if i<n then some i.toNat else none) else if -(n:Int)<=i then some (i+n).toNat else none
def Bz {α:Type} (xs:List α) (i:Int):Option α:=(Hf xs.length i).bind λj=>xs[j]?
variable {n:Nat}
theorem UL{i:Int}{j:Nat}(h:Hf n i=some j):seqIndex? i n=some j/\j<n/\-(n:Int)<=i/\i<n:=by
 unfold Hf at h;by_cases b:0<=i;rw[Aj b] at h;by_cases a:i<n;rw[Aj a] at h;have e:i.toNat=j:=Bo h;exact⟨by rw[seqIndex_of b a,e],by omega,by omega,a⟩;rw[Ak a] at h;cases h;rw[Ak b] at h;by_cases a:-(n:Int)<=i;rw[Aj a] at h;have e:(i+n).toNat=j:=Bo h;exact⟨by rw[seqIndex_neg (by omega) a,e],by omega,a,by omega⟩;rw[Ak a] at h;cases h
theorem RN{α:Type}{xs:List α}{i:Int}{v:α}(h:Bz xs i=some v):∃j,seqIndex? i xs.length=some j/\xs[j]?=some v/\j<xs.length/\-(xs.length:Int)<=i/\i<xs.length:=by
 unfold Bz at h
 cases e:Hf xs.length i with
 |none=>rw[e] at h;cases h
 |some j =>
   rw[e] at h;obtain⟨a,b,c,d⟩:=UL e;exact⟨j,a,h,b,c,d⟩
theorem Cf{α:Type}{xs:List α}{j:Nat}{v:α}(h:xs[j]?=some v):Bz xs (j:Int)=some v:=by
 have a:j<xs.length:=(A7.mp h).1
 have e:Hf xs.length (j:Int)=some j:=by
  unfold Hf;rw[Aj (by omega),Aj (by omega)];simp
 unfold Bz;rw[e];exact h
def I7 (b:Expr):Prop:=∀o i,subscripted b false o i=operate [o,i] (getItem o i)
def Ix (X:Cx) (r:R2):Prop:=
 ∀(d slice:Expr)(pins:List (Addr×Obj))(s:Shared)(σ:St)(H:Hp)(x y:V)(v u:Value)(Q:VK),Inv X pins σ H s->RelV x v->RelV y u->r x y H Q ->
  subscripted slice false v u=operate [v,u] (getItem v u)->wpAny (model X.prog X.w) X.A (subscriptTail d slice v u) (EP X pins σ Q) X.xe s
def NL (X:Cx) (id:String) (r:V->List V->Hp->VK->Prop):Prop:=
 ∀(pins:List (Addr×Obj))(s:Shared)(σ:St)(H:Hp)(x:V)(xs:List V)(v:Value)(us:List Value)(Q:VK),Inv X pins σ H s->RelV x v->As xs us->r x xs H Q ->
  wpAny (model X.prog X.w) X.A (call (.builtin id) (v::us)) (EP X pins σ Q) X.xe s
section
variable {X:Cx} {a b:Expr} {ta tb:TE} {L:Pos}
theorem Ix.or{r a:R2}(h:Ix X r)(h':Ix X a):Ix X (λx y H Q=>r x y H Q\/a x y H Q):=by
 intro d slice f s σ H x y v u Q I b c q e;rcases q with q|q;exact h d slice f s σ H x y v u Q I b c q e;exact h' d slice f s σ H x y v u Q I b c q e
theorem AE{r:R2}(c:Ix X r)(d:PE X a ta)(e:PE X b tb)(f:I7 b:=by exact λ_ _=>rfl):PE X (.Subscript a b L) (Iv r ta tb):=by
 intro m s σ H Q I h;exact Subscript_ (Lb d e I h λv u g x y i j k l q=>c a b m g σ i x y v u Q j k l q (f _ _))
def NM (K:Ah):R2:=λx y H Q=>mX x y λp xs i v=>Ag K H p xs/\Bz xs i=some v/\Q v H
def NN (K:Ah):R2:=λx y H Q=>mX x y λp xs i v=>Aq K H p xs/\Bz xs i=some v/\Q v H
def NO:R2:=λx y H Q=>∃z i c,x=.str z/\y=.int i/\z.length<=sizeLine/\Bz z.cps.toList i=some c/\Q (.str ⟨#[c]⟩) H
theorem Ja:Ix X (NM X.K):=by
 intro d slice l s σ H x y v u Q I m n h e
 replace h:=mX.ex h
 obtain⟨p,J,i,z,rfl,rfl,o,A,q⟩:=h;cases m;obtain⟨t,rfl⟩:=n;obtain⟨F,r,b,K⟩:=I.list o;obtain⟨j,a,B,L,C,D⟩:=RN A;obtain⟨w,f,G⟩:=r.get B;have E:=r.length;have M:=MR;have k:EP X l σ Q w s:=⟨z,H,I,G,q⟩;by_cases g:0<=i
 have c:i.toNat=j:=by
  rw[seqIndex_of g D] at a;exact Bo a
 exact item_listR b.isList g (by omega) (by rw[c];simpa using f) k e
 have c:(i+(F.toArray.size:Int)).toNat=j:=by
  rw[seqIndex_neg (by omega) C] at a;rw[Cp,<-E];exact Bo a
 exact subscriptTail_builtinR (x:=w) b.isList.typeIs slot_list_getitem.lookup
  (wpAny_getItem_list_neg (Q:=λr Z=>r=w/\EP X l σ Q r Z) b.isList (by omega) (by rw[Cp]<;>omega) (by omega) (by rw[c];simpa using f) ⟨rfl,k⟩) e
theorem Ll:Ix X (NN X.K):=by
 intro d slice b s σ H x y v u Q I c e h f
 replace h:=mX.ex h
 obtain⟨p,C,i,z,rfl,rfl,g,k,q⟩:=h;cases c;obtain⟨t,rfl⟩:=e;obtain⟨K,r,a,D⟩:=I.tuple g;obtain⟨j,l,m,E,F,G⟩:=RN k;obtain⟨w,n,A⟩:=r.get m;have o:=r.length;have J:=MR;have B:EP X b σ Q w s:=⟨z,H,I,A,q⟩
 exact subscriptTail_builtinR (x:=w) a.typeIs slot_tuple_getitem.lookup
  (getItem_tuple (j:=j) (Q:=λr Z=>r=w/\EP X b σ Q r Z) a (by omega) (by omega) (by rw[Cp,<-o];exact l) (by simpa using n) ⟨rfl,B⟩) f
theorem Lm:Ix X NO:=by
 intro d slice C s σ H x y v u Q I b e h f;obtain⟨z,i,c,rfl,rfl,r,g,q⟩:=h;obtain⟨t,rfl⟩:=b;obtain⟨w,rfl⟩:=e;obtain⟨j,a,k,A,l,m⟩:=RN g;have n:z.cps.toList.length=z.length:=(by simp[Str.length]);rw[n] at a l m;have B:=MR
 exact tail_any (typeIs_str s z t) slot_str_getitem.lookup (getItem_str (c:=c) (by
  have o:decide (i < -(2 ^ 63:Int))=false:=DS (by omega);have p:decide (i ≥ 2 ^ 63)=false:=DS (by omega)
  rw[o,p,Bool.or_false]) (by rw[a];simpa using k) ⟨.str ⟨#[c]⟩,H,I.tok _,⟨_,rfl⟩,q⟩) f
def NP (K:Ah):R2:=λx y H Q=>NM K x y H Q\/NN K x y H Q\/NO x y H Q
theorem AF:Ix X (NP X.K):=Ja.or (Ll.or Lm)
theorem XT(a:List Value)(n j:Nat)(u:Value):Obj.mapSeq (·.setIfInBounds j u) {cls:=.type "list",data:=.seq a.toArray n}={cls:=.type "list",data:=.seq (a.set j u).toArray n}:=by
 simp[Obj.mapSeq]
theorem Inv.lst{pins:List (Addr×Obj)}{σ:St}{H:Hp}{s:Shared}{p:Addr}{xs:List V}(I:Inv X pins σ H s)(h:H p=some (.lst xs)) :
 ∃(a:List Value)(n:Nat),As xs a/\s.heap.get? p=some {cls:=.type "list",data:=.seq a.toArray n}/\xs.length<=sizeLine:=by
 obtain⟨z,a,n,r,e⟩:=I.hok p _ h;exact⟨a,n,r,e,z⟩
variable {s:Shared}
theorem Inv.lstUpd{pins:List (Addr×Obj)}{σ:St}{H:Hp}{p:Addr}{xs ys:List V}{d its':List Value}{a:Nat}{f:Obj->Obj}(I:Inv X pins σ H s)(h:H p=some (.lst xs))
 (g:s.heap.get? p=some {cls:=.type "list",data:=.seq d.toArray n}) (c:f {cls:=.type "list",data:=.seq d.toArray n}={cls:=.type "list",data:=.seq its'.toArray a}) (r:As ys its') (hz:ys.length<=sizeLine) (t:Nat) :
 Inv X pins σ (upd H p (.lst ys)) {s with heap:=s.heap.update p f,toks:=t}:=by
 have e:(s.heap.update p f).get? p=some {cls:=.type "list",data:=.seq its'.toArray a}:=by
  rw[Heap.get?_update_self f g (by rw[c]<;>rfl),c]
 refine I.write (x:=p) (e:=p) (by rw[h];trivial) (.inl rfl) (λb u i q=>(Heap.get?_update_other _ _ (Ne.symm i)).trans q) ⟨_,e⟩ ?_;exact⟨hz,its',a,r,e⟩
def NQ:V->V->V->Hp->(Hp->Prop)->Prop:=λo i v H Q=>∃p xs k j,o=.ref p/\i=.int k/\H p=some (.lst xs)/\Hf xs.length k=some j/\Q (upd H p (.lst (xs.set j v)))
theorem NR:IU X NQ:=by
 intro D s σ H o i v E F u Q I x y z h;obtain⟨p,A,k,j,rfl,rfl,e,B,q⟩:=h;cases x;obtain⟨t,rfl⟩:=y;obtain⟨w,n,r,b,C⟩:=I.lst e;obtain⟨a,G,f,g⟩:=UL B;have c:=r.length;have J:=MR
 have l:Inv X D σ (upd H p (.lst (A.set j v))) {s with heap:=s.heap.update p (Obj.mapSeq (·.setIfInBounds j u))}:=
  I.lstUpd e b (XT w n j u) (r.set z j) (by rw[Fz];exact C) s.toks
 by_cases m:0<=k
 have d:k.toNat=j:=by
  rw[seqIndex_of m g] at a;exact Bo a
 exact PySem.W.ki_setAt b m (by omega) (by rw[Cp,<-c];exact g) (by rw[d];exact⟨_,l,q⟩)
 have d:(k+(w.toArray.size:Int)).toNat=j:=by
  rw[seqIndex_neg (by omega) f] at a;rw[Cp,<-c];exact Bo a
 exact PySem.W.ki_setBack b (by omega) (by rw[Cp,<-c];exact f) (by omega) (by rw[d];exact⟨_,l,q⟩)
theorem XU(lo a:Option Int)(n:Nat):(sliceBounds lo a none n).1=((HT.sIx n 0 lo:Nat):Int)/\(sliceBounds lo a none n).2.1=((HT.sIx n n a:Nat):Int)/\(sliceBounds lo a none n).2.2=1:=by
 refine⟨?_,?_,rfl⟩
 cases lo with
 |none=>simp[sliceBounds,HT.sIx]
 |some i =>
   simp only[sliceBounds,HT.sIx,Option.getD_none,show(1:Int) > 0 by decide,if_true];by_cases h:i<0;simp only[h,if_true]<;>omega;simp only[h,if_false]<;>omega
 cases a with
 |none=>simp[sliceBounds,HT.sIx]
 |some i =>
   simp only[sliceBounds,HT.sIx,Option.getD_none,show(1:Int) > 0 by decide,if_true];by_cases h:i<0;simp only[h,if_true]<;>omega;simp only[h,if_false]<;>omega
theorem XV(a:List Value)(lo b:Option Int):slicePick a.toArray lo b none=((a.drop (HT.sIx a.length 0 lo)).take (HT.sIx a.length a.length b-HT.sIx a.length 0 lo)).toArray:=by
 obtain⟨c,d,e⟩:=XU lo b a.toArray.size;unfold slicePick;rw[c,d,e];simp only[sliceRange_one,pick_run,Cp]<;>rfl
def RO (K:Ah):V->Option Int->Option Int->Hp->VK->Prop:=λx lo hi H Q=>∃a xs,x=.ref a/\Ag K H a xs/\∀p,H p=none->Q (.ref p) (upd H p (.lst (DN xs lo hi)))
theorem RP:RL X (RO X.K):=by
 intro z s σ H x v p t d e u Q I g i j k h;obtain⟨a,c,rfl,l,q⟩:=h;cases g;obtain⟨y,r,f,m⟩:=I.list l;have n:=r.length;refine⟨"list",_,slot_list_getitem.lookup,f.isList.typeIs,?_⟩;refine wpAny_getItem_list_slice f.isList i j k .none (by simp) ?_ (by rw[Cp]<;>omega);rw[XV,<-n];refine⟨.ref s.heap.objs.size,_,I.laid (t':=s.toks) (o:=.lst (DN c d e)) (λb w q=>A8 _ q) (AB _) ?_,rfl,q _ (I.hok.fresh (AB _))⟩;exact⟨Ek (XS c d e) m,_,0,(r.drop (HT.sIx c.length 0 d)).take (HT.sIx c.length c.length e-HT.sIx c.length 0 d),B4 _ rfl⟩
def Jb:V->Bool
 |.non=>true
 |.bl _=>true
 |.int _=>true
 |.str _=>true
 |_=>false
def Jc:V->V->Bool
 |.non,.non=>true
 |.bl a,.bl b=>a==b
 |.bl a,.int b=>(if a then 1 else 0)==b
 |.int a,.bl b=>a==(if b then 1 else 0)
 |.int a,.int b=>a==b
 |.str a,.str b=>a==b
 |_,_=>false
variable {x:V}
theorem Ln{A:Around}{y:V}{u v:Value}(e:RelV y u)(c:RelV x v)(g:Jb y=true)(f:Jb x=true):SeqAt.EqAt A s u v (Jc y x):=by
 cases y with
 |non =>
   cases e
   cases x with
   |non=>cases c;exact SeqAt.EqAt.same _
   |bl b=>cases c;exact SeqAt.EqAt.none_bool b
   |int b=>obtain⟨t,rfl⟩:=c;exact SeqAt.EqAt.none_int b t
   |str b=>obtain⟨t,rfl⟩:=c;exact SeqAt.EqAt.none_str b t
   |_=>exact absurd (show false=true from f) Cq
 |bl a =>
   cases e
   cases x with
   |non=>cases c;exact SeqAt.EqAt.bool_none a
   |bl b=>cases c;exact SeqAt.EqAt.bool_bool a b
   |int b=>obtain⟨t,rfl⟩:=c;exact SeqAt.EqAt.bool_int a b t
   |str b=>obtain⟨t,rfl⟩:=c;exact SeqAt.EqAt.bool_str a b t
   |_=>exact absurd (show false=true from f) Cq
 |int a =>
   obtain⟨d,rfl⟩:=e
   cases x with
   |non=>cases c;exact SeqAt.EqAt.int_none a d
   |bl b=>cases c;exact SeqAt.EqAt.int_bool a d b
   |int b=>obtain⟨t,rfl⟩:=c;exact SeqAt.EqAt.int_int a d b t
   |str b=>obtain⟨t,rfl⟩:=c;exact SeqAt.EqAt.int_str a d b t
   |_=>exact absurd (show false=true from f) Cq
 |str a =>
   obtain⟨d,rfl⟩:=e
   cases x with
   |non=>cases c;exact SeqAt.EqAt.str_none a d
   |bl b=>cases c;exact SeqAt.EqAt.str_bool a d b
   |int b=>obtain⟨t,rfl⟩:=c;exact SeqAt.EqAt.str_int a d b t
   |str b=>obtain⟨t,rfl⟩:=c;exact SeqAt.EqAt.str_str a d b t
   |_=>exact absurd (show false=true from f) Cq
 |_=>exact absurd (show false=true from g) Cq
def Jd (x:V) (u:Value):Bool:=match u with
 |.none=>Jc .non x
 |.bool b=>Jc (.bl b) x
 |.int i _=>Jc (.int i) x
 |.str z _=>Jc (.str z) x
 |_=>false
theorem Hg{y:V}{u:Value}(r:RelV y u)(f:Jb y=true):Jd x u=Jc y x:=by
 cases y with
 |non=>cases r;rfl
 |bl b=>cases r;rfl
 |int i=>obtain⟨t,rfl⟩:=r;rfl
 |str z=>obtain⟨t,rfl⟩:=r;rfl
 |_=>exact absurd (show false=true from f) Cq
theorem RQ{x:V}:∀{xs:List V}{us:List Value},As xs us->xs.all Jb=true->us.any (Jd x)=xs.any λy=>Jc y x
 |_,_,.nil,_=>rfl
 |y::xs,u::us,.cons r t,f=>by
   rw[List.all_cons,Bool.and_eq_true] at f;rw[List.any_cons,List.any_cons,Hg r f.1,RQ t f.2]
theorem RS{A:Around}{s:Shared}{x:V}{v:Value}(b:RelV x v)(c:Jb x=true):∀{xs:List V}{us:List Value},As xs us->xs.all Jb=true->∀u∈us,SeqAt.EqAt A s u v (Jd x u)
 |_,_,.nil,_=>λu a=>by cases a
 |y::xs,u::us,.cons r t,f=>λd a=>by
   rw[List.all_cons,Bool.and_eq_true] at f;rcases Ce.mp a with rfl|a;rw[Hg r f.1];exact Ln r b f.1 c;exact RS b c t f.2 d a
def Pf (x:V) (xs:List V):Bool:=xs.any λy=>Jc y x
def UM (K:Ah) (neg:Bool):R2:=λx y H Q=>∃p xs,y=.ref p/\(Ag K H p xs\/Aq K H p xs)/\Jb x=true/\xs.all Jb=true/\Q (.bl (if neg then !Pf x xs else Pf x xs)) H
theorem XW:DM X (compareOp .In) (UM X.K false):=by
 intro k s σ H x y v u Q I e g h;obtain⟨p,j,rfl,a,f,fs,q⟩:=h;cases g;rcases a with a|a;obtain⟨b,r,c,i⟩:=I.list a;refine SeqAt.in_listAt (Jd x) c.isList (λw d=>RS e f r fs w (by simpa using d)) ⟨.bl _,H,I,rfl,?_⟩;rw[show b.toArray.any (Jd x)=b.any (Jd x) by simp,RQ r fs];exact q;obtain⟨b,r,c,i⟩:=I.tuple a;refine SeqAt.in_tupleAt (Jd x) c (λw d=>RS e f r fs w (by simpa using d)) ⟨.bl _,H,I,rfl,?_⟩;rw[show b.toArray.any (Jd x)=b.any (Jd x) by simp,RQ r fs];exact q
theorem UN:A5 X (.type "list") (λxs H Q=>∃p ys,xs=[.ref p]/\(Ag X.K H p ys\/Aq X.K H p ys)/\∀l,H l=none->Q (.ref l) (upd H l (.lst ys))):=by
 intro y s σ H xs A Q I r h;obtain⟨p,ys,rfl,g,q⟩:=h;obtain⟨u,rfl,x⟩:=Fj r;cases x
 have w:∀(c:List Value),As ys c->ys.length<=sizeLine->∀(a:Heap)(d:Nat),(∀b v,s.heap.get? b=some v->a.get? b=some v) ->
  a.get? s.heap.objs.size=some {cls:=.type "list",dict:=none,data:=.seq c.toArray d,slots:=#[]}->EP X y σ Q (.ref s.heap.objs.size) {s with heap:=a}:=λc f i a d j e =>
  ⟨.ref s.heap.objs.size,_,I.laid (t':=s.toks) j (AB _) (show Az X.prog X.w _ a _ (.lst ys) from⟨i,c,d,f,e⟩),rfl,q _ (I.hok.fresh (AB _))⟩
 rcases g with g|g;obtain⟨c,f,k,i⟩:=I.list g;have z:=f.length;obtain⟨o,m,t,n,hd⟩:=k.isList;exact call_list_seq p (.inl rfl) m t hd (λa d j e=>w c f i a d j e) (by simp only[Cp]<;>omega);obtain⟨c,f,k,i⟩:=I.tuple g;have z:=f.length;obtain⟨o,m,t,n,hd⟩:=k;exact call_list_seq p (.inr rfl) m t hd (λa d j e=>w c f i a d j e) (by simp only[Cp]<;>omega)
theorem XX:A5 X (.type "tuple") (λxs H Q=>∃p ys,xs=[.ref p]/\((Ag X.K H p ys/\∀l,H l=none->Q (.ref l) (upd H l (.tup ys)))\/(Aq X.K H p ys/\Q (.ref p) H))):=by
 intro k s σ H xs v Q I r h;obtain⟨p,ys,rfl,h⟩:=h;obtain⟨u,rfl,m⟩:=Fj r;cases m;rcases h with⟨c,q⟩|⟨c,q⟩;obtain⟨g,d,f,i⟩:=I.list c;have w:=d.length;refine call_tuple_list f.isList (λa n=>?_) (by simp only[Cp]<;>omega);have j:Inv X k σ H {s with heap:=a}:=I.kept (t':=s.toks) n
 have t:Inv X k σ (upd H a.objs.size (.tup ys)) {s with heap:=a.push {cls:=.type "tuple",data:=.seq g.toArray}}:=
  j.laid (t':=s.toks) (λb o e=>A8 _ e) (AB _) (show Az X.prog X.w _ _ _ (.tup ys) from⟨i,g,d,IsTup.new _ _⟩)
 exact⟨.ref a.objs.size,_,t,rfl,q _ (j.hok.fresh (AB _))⟩;obtain⟨g,d,f,i⟩:=I.tuple c;exact call_tuple_same f ⟨.ref p,H,I,rfl,q⟩
def UO (K:Ah) (T:String) (x:V) (H:Hp):Prop:=match x with
 |.str _=>T = "str"
 |.int _=>T = "int"
 |.ref p=>(T = "list" /\ ∃xs,Ag K H p xs)\/(T = "tuple" /\ ∃o,K.lookup p=some o/\o.cls=.type "tuple" /\ o.dict=none) \/
  (T = "dict" /\ ((∃kvs,H p=some (.dK kvs))\/∃kvs,H p=some (.dT kvs)))\/(T = "set" /\ ∃S n,H p=some (.set S n))
 |_=>False
theorem Lo{pins:List (Addr × Obj)}{σ:St}{H:Hp}{T:String}{v:Value}(I:Inv X pins σ H s)(r:RelV x v)(ty:UO X.K T x H) :
 s.TypeIs v T/\∀a,v=.ref a->∃ob,s.heap.get? a=some ob/\ob.dict=none:=by
 cases x with
 |str z =>
   obtain⟨t,rfl⟩:=r
   cases(show T = "str" from ty)
   exact⟨typeIs_str s z t,λ_ e=>nomatch e⟩
 |int i =>
   obtain⟨t,rfl⟩:=r
   cases(show T = "int" from ty)
   exact⟨typeIs_int s i t,λ_ e=>nomatch e⟩
 |ref p =>
   cases r;rcases ty with⟨rfl,k,g⟩|⟨rfl,o,b,h,hd⟩|⟨rfl,b⟩|⟨rfl,S,n,b⟩;obtain⟨l,_,f,_⟩:=I.list g;refine⟨f.isList.typeIs,λa e=>?_⟩;cases e;obtain⟨o,n,e,c,hd,_⟩:=f;exact⟨o,e,hd⟩;refine⟨⟨o,I.kIn p o b,h⟩,λa e=>?_⟩;cases e;exact⟨o,I.kIn _ o b,hd⟩
   have z:∃o,s.heap.get? p=some o/\o.ExactDict:=by
    rcases b with⟨j,b⟩|⟨j,b⟩;obtain⟨_,_,_,_,o,_,_,e,ex,_⟩:=I.hok p _ b;exact⟨o,e,ex⟩;obtain⟨_,_,_,_,o,_,_,e,ex,_⟩:=I.hok p _ b;exact⟨o,e,ex⟩
   obtain⟨o,e,ex⟩:=z;refine⟨⟨o,e,ex.1⟩,λa d=>?_⟩;cases d;exact⟨o,e,ex.2.1⟩;obtain⟨o,_,_,_,e,ex,_⟩:=I.hok p _ b;refine⟨⟨o,e,ex.1⟩,λa d=>?_⟩;cases d;exact⟨o,e,ex.2.1⟩
 |_=>exact False.elim ty
def XY (K:Ah) (T:String) (r:V->List V->Hp->VK->Prop) (to:TE) (t:TA):TE:=λσ H Q=>to σ H λx Y=>UO K T x Y/\t σ Y λxs H2=>r x xs H2 Q
variable {o e:Expr} {es:List Expr} {to:TE} {t:TA} {name:Str} {apos cpos:Pos} {T id:String} {r:V->List V->Hp->VK->Prop}
theorem DG(f:PlainAttrs T)(D:Slot T name id)(C:typeOf (.builtin id)=pure (.type "method_descriptor"))(g:NL X id r)(i:PE X o to)(j:PA X (e::es) t)
 (F:attributeBase o name X.env (eval o X.env)=eval o X.env:=by rfl)
 (E:((backTo cpos (starEach (e::es) X.env)).all (λx=>!x.1) && (backToKw cpos (keywordEach [] X.env)).all (λx=>x.1.isSome)
  && decide ((e::es).length+([]:List Keyword).length+(if([]:List Keyword).isEmpty then 0 else 1)<30))=true:=by rfl)
 (G:(apos.endLine==cpos.line)=true:=by rfl) (k:starEach (e::es) X.env=(false,eval e X.env)::starEach es X.env:=by rfl) (J:(backTo cpos (starEach es X.env)).any (·.1)=false:=by rfl) :
 PE X (.Call (.Attribute o name apos) (e::es) [] cpos) (XY X.K T r to t):=by
 intro a s σ H Q I h;refine wpAny_Call_method_late F E G rfl (AV (i a s σ H _ I h) λv l⟨x,Y,b,c,ty,m⟩=>?_);obtain⟨n,p⟩:=Lo b c ty;refine⟨T,id,f,D,C,n,p,?_⟩;have d:=j cpos a l σ Y _ b m;rw[k] at d ⊢;refine Calls.callWith_builtin (by show(false || (backTo cpos (starEach es X.env)).any (·.1))=false;rw[J]<;>rfl) (Calls.evalArgs_plain ?_);exact AV d λq u⟨w,y,z,A,B⟩=>g a u σ y x w v q Q z c A B
end
def UP (X:Cx) (id:String) (r:V->List V->Hp->VK->Prop):Prop:=
 ∀(pins:List (Addr×Obj))(s:Shared)(σ:St)(H:Hp)(x:V)(xs:List V)(v:Value)(us:List Value)(Q:VK),Inv X pins σ H s->RelV x v->As xs us->r x xs H Q ->
  wpAny (model X.prog X.w) X.A (call (.builtin id) (v::us)) (EP X pins σ Q) X.xe s
theorem As.one:∀{x:V}{us:List Value},As [x] us->∃u,us=[u]/\RelV x u
 |_,_,.cons r .nil=>⟨_,rfl,r⟩
section
variable {X:Cx} {pins:List (Addr×Obj)} {σ:St} {H:Hp} {s:Shared} {l b:Addr} {xs ys zs:List V}
theorem Inv.lset{a its':List Value}{f:Array Value->Array Value}{t':Nat}(I:Inv X pins σ H s)(b:H l=some (.lst xs))
 (e:s.heap.get? l=some {cls:=.type "list",data:=.seq a.toArray n}) (c:f a.toArray=its'.toArray) (hv:As ys its') (hz:ys.length<=sizeLine) :
 Inv X pins σ (upd H l (.lst ys)) {s with heap:=s.heap.update l (Obj.mapSeq f),toks:=t'}:=by
 have q:=PySem.IsL.update e f;rw[c] at q;refine I.write (x:=l) (e:=l) (by rw[b];exact trivial) (.inl rfl) (λh u d g=>(Heap.get?_update_other s.heap (Obj.mapSeq f) (Ne.symm d)).trans g) ⟨_,q⟩ ?_;exact⟨hz,its',_,hv,q⟩
theorem Inv.lnew{a:List Value}{t':Nat}(I:Inv X pins σ H s)(hv:As ys a)(hz:ys.length<=sizeLine) :
 Inv X pins σ (upd H s.heap.objs.size (.lst ys)) {s with heap:=s.heap.push {cls:=.type "list",data:=.seq a.toArray},toks:=t'}:=
 I.laid (λ_ _ q=>A8 _ q) (AB _) ⟨hz,a,0,hv,B4 _ rfl⟩
theorem Inv.fresh(I:Inv X pins σ H s):H s.heap.objs.size=none:=I.hok.fresh (AB _)
theorem Inv.lstM(I:Inv X pins σ H s)(b:H l=some (.lst xs)):xs.length<=sizeLine/\∃(a:List Value)(n:Nat),As xs a/\xs.length=a.length/\s.heap.get? l=some {cls:=.type "list",data:=.seq a.toArray n}:=by
 obtain⟨z,a,n,r,e⟩:=I.hok l _ b;exact⟨z,a,n,r,r.length,e⟩
theorem XZ(h:n<=sizeLine):Builtin.List.listTooLong n=false:=by
 unfold Builtin.List.listTooLong;exact DS (by omega)
end
section
variable {X:Cx}
def UQ:V->List V->Hp->VK->Prop:=λx vs H Q=>mA x vs λl xs y=>H l=some (.lst xs)/\xs.length<sizeLine/\Q .non (upd H l (.lst (xs++[y])))
theorem UR:UP X "list.append" UQ:=by
 intro o s σ H x g v i Q I c d h
 replace h:=mA.ex h
 obtain⟨l,j,y,rfl,rfl,a,k,q⟩:=h;cases c;obtain⟨u,rfl,f⟩:=d.one;obtain⟨z,b,n,r,m,e⟩:=I.lstM a;refine call_meets F.slot_list_append ⟨_,e,rfl⟩ F.entry_list_append (F.args_list_append_2 _ _) (PySem.list_append l b.toArray n u (by rw[Cp];omega)) ⟨e,?_⟩;refine⟨.non,_,I.lset (its':=b++[u]) a e (by simp) (r.append (.cons f .nil)) ?_,rfl,q⟩;rw[AW,DE];omega
def US:V->List V->Hp->VK->Prop:=λx vs H Q=>∃l b xs zs,x=.ref l/\vs=[.ref b]/\H l=some (.lst xs)/\H b=some (.lst zs)/\xs.length+zs.length<=sizeLine/\Q .non (upd H l (.lst (xs++zs)))
theorem X0:UP X "list.extend" US:=by
 intro J s σ H x w v y Q I f g h;obtain⟨l,b,A,B,rfl,rfl,d,i,C,q⟩:=h;cases f;obtain⟨u,rfl,j⟩:=g.one;cases j;obtain⟨z,a,n,r,D,e⟩:=I.lstM d;obtain⟨E,c,k,m,G,o⟩:=I.lstM i;have p:a.toArray.size+c.toArray.size<=sizeLine:=by rw[Cp,Cp];omega
 have t:¬(!a.toArray.isEmpty && Builtin.List.listTooLong (a.toArray.size+c.toArray.size))=true:=by
  rw[XZ p,Bool.and_false];exact Cq
 refine call_meets F.slot_list_extend ⟨_,e,rfl⟩ F.entry_list_extend (F.args_list_extend_2 _ _)
  (AutoSeq1.list_extend_list_list_0 l a.toArray n b c.toArray k t (by rw[Cp];omega) (by omega)) ⟨e,o,?_⟩
 refine⟨.non,_,I.lset (its':=a++c) d e (by simp) (r.append m) ?_,rfl,q⟩;rw[AW];omega
def RU:R2:=λx y H Q=>∃l b xs zs,x=.ref l/\y=.ref b/\H l=some (.lst xs)/\H b=some (.lst zs)/\xs.length+zs.length<=sizeLine/\∀p,H p=none->Q (.ref p) (upd H p (.lst (xs++zs)))
theorem Pg:DM X (binaryOp .Add) RU:=by
 intro D s σ H x y v u Q I d f h;obtain⟨l,b,o,p,rfl,rfl,g,i,t,q⟩:=h;cases d;cases f;obtain⟨z,a,n,r,w,e⟩:=I.lstM g;obtain⟨A,c,B,j,C,k⟩:=I.lstM i;refine PySem.P.add_list e k ?_ (by rw[Cp,Cp];omega);have m:a.toArray++c.toArray=(a++c).toArray:=(by simp);rw[m];exact⟨.ref _,_,I.lnew (t':=s.toks) (r.append j) (by rw[AW];omega),rfl,q _ I.fresh⟩
end
section
variable {prog:Program} {w:World} {A:Around} {E:Value->Shared->Prop} {s:Shared}
end
section
variable {X:Cx}
end
section
variable {κ:Type} [DecidableEq κ]
def AL (kvs:List (κ×V)) (k:κ):Option V:=(kvs.find? λkv=>decide (kv.1=k)).map (·.2)
def AX (kvs:List (κ×V)) (k:κ) (v:V):List (κ×V):=
 if(kvs.any λkv=>decide (kv.1=k))=true then kvs.map (λkv=>if kv.1=k then(kv.1,v) else kv) else kvs++[(k,v)]
theorem GW{p:κ×V}{r:List (κ×V)}{k:κ}(e:p.1=k):AL (p::r) k=some p.2:=by simp[AL,MK,e]
theorem GX{p:κ×V}{r:List (κ×V)}{k:κ}(e:¬p.1=k):AL (p::r) k=AL r k:=by simp[AL,MK,e]
theorem NS(k:κ):∀a:List (κ×V),(a.any λb=>decide (b.1=k))=(AL a k).isSome
 |[]=>rfl
 |p::r=>by
   rw[List.any_cons];by_cases e:p.1=k;simp only[GW e,A4 e,Bool.true_or,Option.isSome_some];rw[GX e,DS e,Bool.false_or];exact NS k r
theorem UT(k j:κ)(y:V):∀c:List (κ×V),AL (c.map λa=>if a.1=k then(a.1,y) else a) j=(AL c j).map λx=>if j=k then y else x
 |[]=>rfl
 |p::r=>by
   have b:=UT k j y r;rw[D7];by_cases h:p.1=k;rw[Aj h];by_cases e:p.1=j;rw[GW (p:=(p.1,y)) e,GW e,Option.map_some,Aj (e.symm.trans h)];rw[GX (p:=(p.1,y)) e,GX e,b];rw[Ak h];by_cases e:p.1=j;rw[GW (p:=p) e,GW e,Option.map_some,Ak (λz=>h (e.trans z))];rw[GX (p:=p) e,GX e,b]
theorem UU(k j:κ)(y:V):∀b:List (κ×V),AL b k=none->AL (b++[(k,y)]) j=if j=k then some y else AL b j
 |[],_=>by
   by_cases e:k=j;rw[Aj e.symm];exact GW (p:=(k,y)) e;rw[Ak (λz=>e z.symm)];exact GX (p:=(k,y)) e
 |p::r,a=>by
   rw[List.cons_append];have c:¬p.1=k:=λz=>by rw[GW z] at a;cases a
   rw[GX c] at a;have d:=UU k j y r a;by_cases e:p.1=j;rw[GW e,GW e,Ak (λz=>c (e.trans z))];rw[GX e,GX e,d]
theorem NT(b:List (κ×V))(k j:κ)(y:V):AL (AX b k y) j=if j=k then some y else AL b j:=by
 unfold AX;by_cases a:(b.any λc=>decide (c.1=k))=true;rw[Aj a,UT];rw[NS] at a;by_cases e:j=k;obtain⟨x,d⟩:=Option.isSome_iff_exists.mp a;rw[Aj e,e,d,Option.map_some,Aj rfl];rw[Ak e]
 cases AL b j with
 |none=>rfl
 |some x=>rw[Option.map_some,Ak e]
 rw[Ak a];refine UU k j y b ?_;rw[NS] at a
 cases q:AL b k with
 |none=>rfl
 |some x=>rw[q] at a;exact(a rfl).elim
theorem NU(a:List (κ×V))(k:κ)(v:V):(AX a k v).length<=a.length+1:=by
 unfold AX;split;rw[Al];omega;rw[AW,Ej,Gm];omega
theorem Ea.isSome_eq{o:Option V}{u:Option Value}(r:Ea o u):o.isSome=u.isSome:=by
 cases o with
 |none=>cases u with
   |none=>rfl
   |some _=>exact(show False from r).elim
 |some _=>cases u with
   |none=>exact(show False from r).elim
   |some _=>rfl
theorem Ea.getD{o:Option V}{u:Option Value}{d:V}{d':Value}(r:Ea o u)(a:RelV d d'):RelV (o.getD d) (u.getD d'):=by
 cases o with
 |none=>cases u with
   |none=>exact a
   |some _=>exact(show False from r).elim
 |some _=>cases u with
   |none=>exact(show False from r).elim
   |some _=>exact r
variable {kvs:List (κ×V)}{vs:List (κ×Value)}
theorem KV.val(r:KV kvs vs)(k:κ):Ea (AL kvs k) (valueAt vs k):=by
 unfold KV at r
 induction r with
 |nil=>exact True.intro
 |@cons p q i a h t f =>
   obtain⟨d,g⟩:=h;by_cases e:p.1=k;have c:q.1=k:=d.symm.trans e;have b:valueAt (q::a) k=some q.2:=(by simp[valueAt,MK,c]);rw[GW e,b];exact g;have c:¬q.1=k:=λz=>e (d.trans z);have b:valueAt (q::a) k=valueAt a k:=(by simp[valueAt,MK,c]);rw[GX e,b];exact f
theorem KV.any{kvs:List (κ×V)}{vs:List (κ×Value)}(r:KV kvs vs)(k:κ):(kvs.any λa=>decide (a.1=k))=vs.any λa=>decide (a.1=k):=by
 unfold KV at r
 induction r with
 |nil=>rfl
 |cons h t b=>rw[List.any_cons,List.any_cons,b,h.1]
theorem KV.repl(r:KV kvs vs)(k:κ){y:V}{u:Value}(c:RelV y u) :
 KV (kvs.map λa=>if a.1=k then(a.1,y) else a) (vs.map λa=>if a.1=k then(a.1,u) else a):=by
 unfold KV at r ⊢
 induction r with
 |nil=>exact .nil
 |@cons p q g i h t d =>
   rw[D7,D7];refine .cons ?_ d;obtain⟨b,f⟩:=h;by_cases e:p.1=k;rw[Aj e,Aj (b.symm.trans e)];exact⟨b,c⟩;rw[Ak e,Ak (λz=>e (b.trans z))];exact⟨b,f⟩
theorem KV.put(r:KV kvs vs)(k:κ){y:V}{u:Value}(a:RelV y u):KV (AX kvs k y) (stored vs k u):=by
 unfold AX stored;rw[r.any k];by_cases e:(vs.any λb=>decide (b.1=k))=true;rw[Aj e,Aj e];exact r.repl k a;rw[Ak e,Ak e];exact Paired.snoc r ⟨rfl,a⟩
theorem KV.length{kvs:List (κ×V)}{vs:List (κ×Value)}(r:KV kvs vs):kvs.length=vs.length:=Paired.length r
end
variable {P:Program}{w:World}{u:Value}
theorem MS{k:AO}(r:RelV (kV k) u):(EK P w).is k u=true:=by
 cases k with
 |inl i=>obtain⟨t,e⟩:=(show ∃t,u=Value.int i t from r);subst e;exact Xu P w i t
 |inr x=>obtain⟨t,e⟩:=(show ∃t,u=Value.str x t from r);subst e;exact Xv P w x t
theorem UV{P:Program}{w:World}:∀{ks:List AO}{us:List Value},As (ks.map kV) us->ItemsAre (EK P w) ks us
 |[],_,r=>by rw[Nj] at r;cases r;exact .nil
 |k::ks,_,r=>by
   rw[D7] at r
   cases r with
   |cons h t=>exact .cons (MS h) (UV t)
abbrev KT (H:Hp):List (List AO×V)->List (List AO×Addr×Value)->Prop:=Paired λp q=>p.1=q.1/\H q.2.1=some (.tup (p.1.map kV))/\RelV p.2 q.2.2
variable {H:Hp}{kvs:List (List AO×V)}{xs:List (List AO×Addr×Value)}
theorem KT.val(r:KT H kvs xs)(k:List AO):Ea (AL kvs k) ((atKey xs k).map (·.2)):=by
 induction r with
 |nil=>exact True.intro
 |@cons p q i a h t f =>
   obtain⟨d,_,g⟩:=h;by_cases e:p.1=k;have c:q.1=k:=d.symm.trans e;have b:atKey (q::a) k=some q.2:=(by simp[atKey,MK,c]);rw[GW e,b];exact g;have c:¬q.1=k:=λz=>e (d.trans z);have b:atKey (q::a) k=atKey a k:=(by simp[atKey,MK,c]);rw[GX e,b];exact f
variable {y:V}
theorem KT.repl(r:KT H kvs xs)(k:List AO)(d:RelV y u) :
 KT H (kvs.map λb=>if b.1=k then(b.1,y) else b) (xs.map (putAt k u)):=by
 induction r with
 |nil=>exact .nil
 |@cons p q i j h t f =>
   rw[D7,D7];refine .cons ?_ f;obtain⟨a,c,g⟩:=h;unfold putAt;by_cases e:p.1=k;rw[Aj e,Aj (a.symm.trans e)];exact⟨a,c,d⟩;rw[Ak e,Ak (λz=>e (a.trans z))];exact⟨a,c,g⟩
theorem KT.put(r:KT H kvs xs)(k:List AO){b:Addr}(c:H b=some (.tup (k.map kV)))(a:RelV y u) :
 KT H (AX kvs k y) (storedH xs k b u):=by
 have e:(kvs.any λd=>decide (d.1=k))=(atKey xs k).isSome:=by
  rw[NS,(r.val k).isSome_eq,Option.isSome_map]
 unfold AX storedH;rw[e];by_cases q:(atKey xs k).isSome=true;rw[Aj q,Aj q];exact r.repl k a;rw[Ak q,Ak q];exact Paired.snoc r ⟨rfl,c,a⟩
variable {H':Hp}
theorem KT.keeps(r:KT H kvs xs)(a:∀b ys,H b=some (.tup ys)->H' b=some (.tup ys)):KT H' kvs xs:=
 Paired.mapP r λ_ _ z=>⟨z.1,a _ _ z.2.1,z.2.2⟩
section
variable {P:Program} {w:World} {H:Hp} {h:Heap} {a:Addr}
theorem Hh{u:HO}(ok:CW P w H h)(e:Rd H a u):Az P w H h a u:=e.ok ok
theorem MT{kvs:List (AO×V)}(ok:CW P w H h)(e:Rd H a (.dK kvs)):kvs.length<=sizeLine/\(a==sysModules)=false/\∃vs,KV kvs vs/\h.DictOf (EK P w) a vs:=
 show Az P w H h a (.dK kvs) from Hh ok e
theorem Ks{kvs:List (AO×V)}(ok:CW P w H h)(e:H a=some (.dK kvs)):kvs.length<=sizeLine/\(a==sysModules)=false/\∃vs,KV kvs vs/\h.DictOf (EK P w) a vs:=MT ok (.inl e)
theorem Lp{ks:List AO}(ok:CW P w H h)(e:H a=some (.tup (ks.map kV))):(tupleKind (EK P w)).is h ks a:=by
 obtain⟨_,f,r,o,b,c,n,d⟩:=(show Az P w H h a (.tup (ks.map kV)) from ok a _ e);exact⟨o,f.toArray,n,b,c,d,by simpa using UV r⟩
theorem MU(ok:CW P w H h)(e:Rd H a (.dT kvs)):kvs.length<=sizeLine/\(a==sysModules)=false /\
 ∃xs,KT H kvs xs/\h.DictOfH (tupleKind (EK P w)) a xs:=by
 obtain⟨z,y,xs,r,o,d,f,g,i,j,k,n⟩:=(show Az P w H h a (.dT kvs) from Hh ok e);refine⟨z,y,xs,r,o,d,f,g,i,j,k,λx b=>?_,n⟩
 have all:∀{l:List (List AO × V)}{m:List (List AO × Addr × Value)},KT H l m -> ∀x∈m,(tupleKind (EK P w)).is h x.1 x.2.1:=by
  intro l m q
  induction q with
  |nil=>intro x b;exact nomatch b
  |@cons p q u v c t s =>
    intro x b;rcases Ce.mp b with e|b;subst e;exact Lp ok (by rw[<-c.1];exact c.2.1);exact s x b
 exact all r x b
theorem Hi(ok:CW P w H h)(e:H a=some (.dT kvs)):kvs.length<=sizeLine/\(a==sysModules)=false /\
 ∃xs,KT H kvs xs/\h.DictOfH (tupleKind (EK P w)) a xs:=MU ok (.inl e)
end
def Dj (H:Hp) (a:Addr) (y:V) (r:Option V):Prop:=
 (∃kvs k,Rd H a (.dK kvs)/\y=kV k/\r=AL kvs k)\/∃kvs k b,Rd H a (.dT kvs)/\y=.ref b/\H b=some (.tup (k.map kV))/\r=AL kvs k
def Hj (H:Hp) (a:Addr) (y v:V) (H':Hp):Prop:=
 (∃kvs k,H a=some (.dK kvs)/\y=kV k/\kvs.length<sizeLine/\H'=upd H a (.dK (AX kvs k v))) \/
 ∃kvs k b,H a=some (.dT kvs)/\y=.ref b/\H b=some (.tup (k.map kV))/\kvs.length<sizeLine/\H'=upd H a (.dT (AX kvs k v))
theorem Dj.k{H:Hp}{a:Addr}{kvs:List (AO×V)}{k:AO}(e:H a=some (.dK kvs)):Dj H a (kV k) (AL kvs k):=.inl ⟨kvs,k,.inl e,rfl,rfl⟩
variable {a:Addr}
theorem Dj.t{b:Addr}{k:List AO}(e:H a=some (.dT kvs))(c:H b=some (.tup (k.map kV))):Dj H a (.ref b) (AL kvs k):=.inr ⟨kvs,k,b,.inl e,rfl,c,rfl⟩
theorem Hj.k{H:Hp}{a:Addr}{kvs:List (AO×V)}{k:AO}{v:V}(e:H a=some (.dK kvs))(b:kvs.length<sizeLine):Hj H a (kV k) v (upd H a (.dK (AX kvs k v))):=.inl ⟨kvs,k,e,rfl,b,rfl⟩
section
variable {X:Cx} {pins:List (Addr×Obj)} {σ:St} {H:Hp} {s:Shared} {a:Addr} {y v:V} {u r:Value} {o:Option V} {A:Around} {E:Value->Shared->Prop}
theorem Inv.big(I:Inv X pins σ H s):sysModules<s.heap.objs.size:=by
 have h:mainGlobals<s.heap.objs.size:=(I.mod.glob.keeps I.bk).lt;exact Nat.lt_trans (by decide) h
theorem X1{Q:Value->Shared->Prop}(q:A.units+1<cLine)(I:Inv X pins σ H s)(g:Dj H a y (some v))(n:RelV y u)(h:∀c Z,Inv X pins σ H Z->RelV v c->Q c Z) :
 wpAny (model X.prog X.w) A (getItem (.ref a) u) Q E s:=by
 rcases g with⟨kvs,k,e,d,l⟩|⟨kvs,k,b,e,d,r,l⟩;subst d;obtain⟨z,hd,t,j,f⟩:=MT I.hok e;obtain⟨c,i,m⟩:=Ea.some_of (v:=v) (o:=valueAt t k) (by rw[l];exact j.val k);exact wpAny_getItem_of (MS n) f.mapOf i (h c _ (I.tok _) m);subst d
 cases(show u=Value.ref b from n);obtain⟨z,hd,xs,j,f⟩:=MU I.hok e;obtain⟨c,i,m⟩:=Ea.some_of (v:=v) (o:=(atKey xs k).map (·.2)) (by rw[l];exact j.val k);obtain⟨p,w,x⟩:=Gp.mp i;refine wpAny_getItem_heap (tupleKind_room_in1 q) (Lp I.hok r) f w ?_;rw[x];exact h c _ (I.tok _) m
theorem RV{Q:Value->Shared->Prop}(j:A.units+1<cLine)(I:Inv X pins σ H s)(g:Dj H a y o)(i:RelV y u)(h:∀Z,Inv X pins σ H Z->Q (.bool o.isSome) Z) :
 wpAny (model X.prog X.w) A (compareOp .In u (.ref a)) Q E s:=by
 rcases g with⟨kvs,k,e,c,l⟩|⟨kvs,k,b,e,c,m,l⟩;subst c;obtain⟨z,hd,n,f,d⟩:=MT I.hok e;refine wpAny_in_of (MS i) hd d.mapOf ?_;rw[<-(f.val k).isSome_eq,<-l];exact h _ (I.tok _);subst c
 cases(show u=Value.ref b from i);obtain⟨z,hd,xs,f,d⟩:=MU I.hok e;refine wpAny_in_heap (tupleKind_room_in1 j) (Lp I.hok m) hd d ?_;have q:=(f.val k).isSome_eq;rw[Option.isSome_map] at q;rw[<-q,<-l];exact h _ (I.tok _)
theorem NV{h':Heap}{t':Nat}{ob:HO}(I:Inv X pins σ H s)(c:Nn (H a))(d:Heap.SameBut a s.heap h')(f:∃q,h'.get? a=some q)(h:Az X.prog X.w (upd H a ob) h' a ob) :
 Inv X pins σ (upd H a ob) {s with heap:=h',toks:=t'}:=
 I.write (x:=a) (e:=a) c (.inl rfl) (λb q g z=>(d.2 b g).trans z) f h
theorem Hk{h':Heap}{kvs:List (AO×V)}{vs:List (AO×Value)}(z:kvs.length<=sizeLine)(hd:(a==sysModules)=false)(c:KV kvs vs)(b:h'.DictOf (EK P w) a vs) :
 Az P w H' h' a (.dK kvs):=⟨z,hd,vs,c,b⟩
theorem X2{Q:Unit->Shared->Prop}(F:A.units+1<cLine)(I:Inv X pins σ H s)(g:Hj H a y v H')(w:RelV y u)(x:RelV v r)(h:∀Z,Inv X pins σ H' Z->Q () Z) :
 wpAny (model X.prog X.w) A (setItem (.ref a) u r) Q E s:=by
 rcases g with⟨kvs,k,e,j,l,m⟩|⟨kvs,k,b,e,j,B,l,m⟩;subst j m;obtain⟨z,hd,G,d,n⟩:=Ks I.hok e;have o:G.length<=sizeLine:=by rw[<-d.length];exact z
 have p:(AX kvs k v).length<=sizeLine:=by have:=NU kvs k v;omega
 refine wpAny_setItem_pairs (hsz:=o) (MS w) n λC i t=>h _ ?_;have J:∃q,C.get? a=some q:=let ⟨q,_,_,f,_⟩:=i;⟨q,f⟩;exact NV I (by rw[e];exact True.intro) t J (Hk p hd (d.put k x) i);subst j m
 cases(show u=Value.ref b from w);obtain⟨z,hd,xs,d,n⟩:=Hi I.hok e
 have o:xs.length<=sizeLine:=by rw[<-Paired.length d];exact z
 have p:(AX kvs k v).length<=sizeLine:=by have:=NU kvs k v;omega
 refine wpAny_setItem_heap (hsz:=o) (tupleKind_room_in1 F) (Lp I.hok B) n λC i t=>h _ ?_;obtain⟨q,K,L,f,M,N,O,_,P⟩:=i;refine NV I (by rw[e];exact True.intro) t ⟨q,f⟩ ⟨p,hd,_,(d.put k B x).keeps λc R D=>?_,q,K,L,f,M,N,O,P⟩;rw[AC (MP D e (λz=>nomatch z))];exact D
end
section
variable {X:Cx} {pins:List (Addr×Obj)} {σ:St} {H:Hp} {s:Shared} {a:Addr} {kvs:List (AO×V)} {k:AO} {u:Value} {A:Around} {E:Value->Shared->Prop}
end
def NW (i:Expr):Prop:=∀ov iv,subscripted i false ov iv=operate [ov,iv] (getItem ov iv)
variable {s:Shared}
theorem Je{prog:Program}{A:Around}{E:Value->Shared->Prop}{env:Env}{d slice:Expr}{L:Pos}{T id:String}{Q:Value->Shared->Prop}
 (j:typeLookup (.type T) "__getitem__" = pure (some (.builtin id))) (k:NW slice)
 (h:wpAny (model prog w) A (eval d env) (λo e=>wpAny (model prog w) A (eval slice env) (λi a=>a.TypeIs o T/\wpAny (model prog w) A (getItem o i) Q E a) E e) E s) :
 wpAny (model prog w) A (eval (.Subscript d slice L) env) Q E s:=by
 refine Subscript_ (FK h (λo e l=>FK l (λi a b=>?_) λ_ _ x=>x) λ_ _ x=>x);obtain⟨f,b⟩:=b;unfold subscriptTail;refine Ad ?_;rw[getitemInPython_of_ne f.not_modules];refine Ad (wpAny_specialOf f j ?_)
 have c:wpAny (model prog w) A (subscripted slice false o i) (λr g=>wpAny (model prog w) A (letTemporaryGo d o r >>= λ_=>pure r) Q E g) E a:=by
  rw[k o i];exact wpAny_operating (FK b (λr g m=>Ad (wpAny_letTemporaryGo (Au m))) λ_ _ x=>x)
 first
  |exact Au (Ad c)
  |exact Ad (Au (Ad c))
  |exact Ad c
theorem X3{X:Cx}{pins:List (Addr×Obj)}{σ:St}{o:Option V}(I:Inv X pins σ H s)(g:Dj H a y o):s.TypeIs (.ref a) "dict" :=by
 rcases g with⟨kvs,k,e,_,_⟩|⟨kvs,k,b,e,_,_,_⟩;obtain⟨_,_,d,_,c⟩:=MT I.hok e;exact c.typeIs;obtain⟨_,_,xs,_,c⟩:=MU I.hok e;exact c.typeIs
def Kt (k ty:TE):TE:=λσ H Q=>k σ H λx Y=>ty σ Y λy H2=>∃a v,x=.ref a/\Dj H2 a y (some v)/\Q v H2
section
variable {X:Cx} {o i e d:Expr} {L t j:Pos} {k ty J:TE}
theorem UW(d:X.A.units+1<cLine)(e:PE X o k)(f:PE X i ty)(j:NW i):PE X (.Subscript o i L) (Kt k ty):=by
 intro c s σ H Q I h;refine Je PySem.F.slot_dict_getitem.lookup j (AV (e c s σ H _ I h) λu l⟨x,Y,m,n,p⟩=>AV (f c l σ Y _ m p) λA B⟨y,q,b,r,a,v,ex,g,t⟩=>?_);subst ex;obtain rfl:u=Value.ref a:=n;exact⟨X3 b g,X1 d b g r λC D w z=>⟨v,q,w,z,t⟩⟩
end
theorem UX(h:Heap)(a:sysModules<h.objs.size):Az P w H (h.push {cls:=.type "dict",data:=.dict #[]}) h.objs.size (.dK []):=
 ⟨Ci _,beq_eq_false_iff_ne.mpr (Ne.symm (CS a)),[],.nil,Heap.DictOf.new h⟩
theorem UY(h:Heap)(a:sysModules<h.objs.size):Az P w H (h.push {cls:=.type "dict",data:=.dict #[]}) h.objs.size (.dT []):=
 ⟨Ci _,beq_eq_false_iff_ne.mpr (Ne.symm (CS a)),[],.nil,_,#[],0,B4 _ rfl,⟨rfl,rfl,rfl⟩,rfl,rfl,List.nodup_nil⟩
def Lq:TE:=λ_ H Q=>∀p,H p=none->Q (.ref p) (upd H p (.dK []))
def Lr:TE:=λ_ H Q=>∀p,H p=none->Q (.ref p) (upd H p (.dT []))
section
variable {X:Cx} {L:Pos}
theorem X4:PE X (.Dict [] [] L) Lq:=λb s σ H Q I h =>
 wpAny_Dict_empty ⟨.ref s.heap.objs.size,_,I.laid (a:=s.heap.objs.size) (o:=.dK []) (t':=s.toks) (λ_ _ q=>A8 _ q) (AB _) (UX s.heap I.big),rfl,h _ (I.hok.fresh (AB _))⟩
theorem RW:PE X (.Dict [] [] L) Lr:=λb s σ H Q I h =>
 wpAny_Dict_empty ⟨.ref s.heap.objs.size,_,I.laid (a:=s.heap.objs.size) (o:=.dT []) (t':=s.toks) (λ_ _ q=>A8 _ q) (AB _) (UY s.heap I.big),rfl,h _ (I.hok.fresh (AB _))⟩
end
def Ku (kvs more:List (AO×V)):List (AO×V):=more.foldl (λacc kv=>AX acc kv.1 kv.2) kvs
structure M2 (X:Cx) (o:Expr) (m:Str) (apos:Pos) (e f:Expr) (cpos:Pos):Prop where
 base:attributeBase o m X.env (eval o X.env)=eval o X.env
 few:((backTo cpos (starEach [e,f] X.env)).all (λx=>!x.1) && (backToKw cpos (keywordEach [] X.env)).all (λx=>x.1.isSome)
  && decide (([e,f]:List Expr).length+([]:List Keyword).length+(if([]:List Keyword).isEmpty then 0 else 1)<30))=true
 line:(apos.endLine==cpos.line)=true
 trees:backTo cpos (starEach [e,f] X.env)=[(false,eval e X.env),(false,eval f X.env)]
def UZ (H:Hp) (a:Addr):Prop:=(∃kvs,Rd H a (.dK kvs))\/∃kvs,Rd H a (.dT kvs)
theorem Ls{X:Cx}{pins:List (Addr×Obj)}{σ:St}(I:Inv X pins σ H s)(d:UZ H a) :
 s.TypeIs (.ref a) "dict" /\ (∀b,Value.ref a=.ref b->∃ob,s.heap.get? b=some ob/\ob.dict=none)/\(a==sysModules)=false:=by
 rcases d with⟨kvs,e⟩|⟨kvs,e⟩;obtain⟨_,hd,h,_,c⟩:=MT I.hok e;refine⟨c.typeIs,λb q=>?_,hd⟩;cases q;obtain⟨ob,_,_,f,g,_⟩:=c;exact⟨ob,f,g.2.1⟩;obtain⟨_,hd,xs,_,c⟩:=MU I.hok e;refine⟨c.typeIs,λb q=>?_,hd⟩;cases q;obtain⟨ob,_,_,f,g,_⟩:=c;exact⟨ob,f,g.2.1⟩
section
variable {X:Cx} {pins:List (Addr×Obj)} {σ:St} {H:Hp} {s:Shared} {a:Addr} {y d:V} {u r:Value} {o:Option V} {A:Around} {E:Value->Shared->Prop}
theorem Lu{Q:Value->Shared->Prop}(p:A.units+1<cLine)(I:Inv X pins σ H s)(g:Dj H a y o)(j:RelV y u)(m:RelV d r)(h:∀n Z,Inv X pins σ H Z->RelV (o.getD d) n->Q n Z) :
 wpAny (model X.prog X.w) A (call (.builtin "dict.get") [.ref a,u,r]) Q E s:=by
 rcases g with⟨kvs,k,e,f,l⟩|⟨kvs,k,b,e,f,q,l⟩;subst f;obtain⟨z,hd,t,i,c⟩:=MT I.hok e;refine call_meetsIn PySem.F.slot_dict_get c.typeIs PySem.F.entry_dict_get (PySem.F.args_dict_get_3 _ _ _) (meets_dict_get_default (EK X.prog X.w) a (MS j) hd r) ⟨_,c.mapOf,h _ _ (I.tok _) ?_⟩;rw[l];exact(i.val k).getD m;subst f
 cases(show u=Value.ref b from j);obtain⟨z,hd,xs,i,c⟩:=MU I.hok e;refine call_meetsIn PySem.F.slot_dict_get c.typeIs PySem.F.entry_dict_get (PySem.F.args_dict_get_3 _ _ _) (meetsH_dict_get_default (tupleKind (EK X.prog X.w)) a b hd r) ⟨tupleKind_room_in1 p,k,xs,Lp I.hok q,c,h _ _ (I.tok _) ?_⟩;rw[l];exact(i.val k).getD m
end
def Lv (k ty tx:TE):TE:=λσ H Q=>k σ H λx Y=>∃a,x=.ref a/\UZ Y a/\ty σ Y λy H2=>tx σ H2 λz H3=>∃o,Dj H3 a y o/\Q (o.getD z) H3
section
variable {X:Cx} {o e f:Expr} {apos cpos:Pos} {k ty tx:TE}
theorem X5(i:X.A.units+1<cLine)(j:PE X o k)(l:PE X e ty)(n:PE X f tx)(m:M2 X o "get" apos e f cpos):PE X (.Call (.Attribute o "get" apos) [e,f] [] cpos) (Lv k ty tx):=by
 intro b s σ H Q I h;refine wpAny_Call_method m.base m.few m.line PySem.F.plainAttrs_dict PySem.F.slot_dict_get PySem.F.type_dict_get (AV (j b s σ H _ I h) λu p⟨x,Y,c,q,a,ex,d,r⟩=>?_);subst ex;obtain rfl:u=Value.ref a:=q;obtain⟨t,v,_⟩:=Ls c d;refine⟨t,v,?_⟩;rw[m.trees]
 refine Calls.callWith_builtin rfl (Calls.evalArgs_plain (Calls.spliced_cons (AV (l b p σ Y _ c r) λM w⟨y,A,B,C,D⟩ =>
  Calls.spliced_cons (AV (n b w σ A _ B D) λN O⟨z,E,F,G,P,g,J⟩=>Calls.spliced_nil ?_))))
 exact Lu i F g C G λR S K L=>⟨_,E,K,L,J⟩
end
section
variable {X:Cx} {pins:List (Addr×Obj)} {σ:St} {H:Hp} {s:Shared} {a:Addr} {kvs:List (AO×V)} {A:Around} {E:Value->Shared->Prop}
end
section
variable {X:Cx} {pins:List (Addr×Obj)} {σ:St} {H:Hp} {s:Shared} {a:Addr} {y:V} {u:Value} {A:Around} {E:Value->Shared->Prop}
end
end L2
namespace Att
open PySem PySem.W PySem.Calls PyProof.Rows
theorem X6{P:Params}{h:Heap}:∀(ns:List Int)(vs:List Value),WellAll P h vs (ns.map WData.int)->IntsAre vs ns:=by
 intro ns
 induction ns with
 |nil =>
   intro vs w;rw[Nj] at w;cases w;exact .nil
 |cons n ns c =>
   intro vs w;rw[D7] at w
   cases w with
   |cons a b =>
     cases a;exact .cons _ _ (c _ b)
theorem X7{l:OpenLaw}{n:Nat}(i:l.most=some n){P:Params}{h:Heap}{args:List WData}{f:List Value}
 (g:l.row.toRowW.claim.pre args=true) (u:WellAll P h f args) :
 ∃a vs ns,f=[Value.ref a]/\args=[WData.list (ns.map WData.int)]/\h.get? a=some {cls:=.type "list",data:=.seq vs.toArray}/\IntsAre vs ns/\ns.length<=n:=by
 have v:WShape.hasAll [] args [.list .int]=true:=(pre_splitW g).1;have e:l.pre.holds [] {args:=args}=true:=(pre_splitW g).2;obtain⟨d,r,rfl,j,k⟩:=hasAllW_cons v;obtain rfl:=hasAllW_nil k;obtain⟨y,rfl,m⟩:=hasW_list j;obtain⟨ns,rfl⟩:=items_int m
 have w:ns.length<=n:=by
  unfold OpenLaw.pre at e
  have b:(WTm.not (.lt (.lit (.int (n:Int))) (.len (.arg 0)))).holds [] {args:=[.list (ns.map .int)]}=true:=by
   have b:=(holds_andW e).1;rw[i] at b;exact b
  have c:=condW_of b (w_not (w_lt w_lit (w_len_list (w_arg rfl))));rw[Al] at c;refine Nat.le_of_not_lt λq=>?_;have o:(n:Int)<((ns.length:Nat):Int):=(by omega)
  first
   |(rw[A4 o] at c;exact absurd c (by decide))
   |(simp at c;omega)
 cases u with
 |cons p s =>
   cases s
   cases p with
   |list t x=>exact⟨_,_,ns,rfl,rfl,t,X6 ns _ x,w⟩
theorem X8(l:OpenLaw)(args:List WData):l.row.toRowW.claim.post args (.bool true) args=true:=
 postW_of (r:=l.row.toRowW) (X:=(true==true))
  (show WShape.has [] (.bool true) .bool=true by first|rfl|decide|simp[WShape.has,WShape.arms,WShape.armsAll])
  (show(WTm.eq .res (.lit (.bool true))).value [] {args:=args,res:=some (.bool true),after:=args}=some (.bool (true==true)) from w_eq_bool (w_res rfl) w_lit) rfl
theorem attach_call{l:OpenLaw}{n:Nat}{q:Program}{loose:List Str}{XP:(Str->Option Value)->Heap->Prop}{YP:World->Heap->Prop}{d:DefRec}
 (p:l.most=some n) (B:d.params.defaults=[])
 (call:∀(w:World)(h b:Shared)(e i:Str->Option Value)(c:Addr)(o:Obj)(j g k:Value)(a:Addr)(vs:List Value)(ns:List Int),
  Ground q loose [] XP w h e i b.heap->YP w b.heap ->
  b.heap.get? c=some o->o.data=.func (docDef d.name d.params d.body d.scope j g k)->b.heap.CodeRec g d.name->e d.name=some (.ref c) ->
  b.heap.get? a=some {cls:=.type "list",data:=.seq vs.toArray}->IntsAre vs ns->ns.length<=n->b.gens=#[] ->
  codeAny (model l.prog w) callerA (.call (.ref c) ⟨[.ref a],[]⟩) (λr Z=>r=.ok (.ret (.bool true))/\OldK b.heap Z.heap/\Z.os=b.os/\AllBare Z.gens) b) :
 WalkO q loose XP YP l.row.toRowW d [] (λf vs=>PySem.call f vs):=by
 intro w h b e i G Y c o j g k s kV t hd C m D u N O K F P L E M;obtain rfl:s=.none:=Dflts.none m B;obtain rfl:kV=.none:=Dflts.noKw m;obtain⟨a,vs,ns,rfl,rfl,H,J,I⟩:=X7 p F E;refine enter_call (codeAny_mono (call w h b e i c o j g k a vs ns G Y t (fd_plain hd) C D H J I u) λr Z v=>?_);obtain⟨rfl,x,y,z⟩:=v;exact⟨.inl ⟨.bool true,.bool true,[],rfl,λ_=>rfl,.bool true,X8 l _,λ_=>⟨List.Pairwise.nil,λ_ A=>(nomatch A)⟩⟩,x,y,z⟩
section
variable {prog:Program} {w:World} {A:Around} {E:Value->Shared->Prop} {s:Shared} {K:Frag}
end
end Att
namespace L2
open PySem PySem.Spec PyProof.Rows
theorem Ph:∀{vs:List Value}{ns:List Int},IntsAre vs ns->As (ns.map V.int) vs
 |_,_,.nil=>.nil
 |_,_,.cons n t h=>.cons ⟨t,rfl⟩ (Ph h)
def Lw (H:Hp):Prop:=∀b,H b=none\/∃o xs,H b=some (.frz o (.lst xs))
variable {P:Program}{w:World}{a:Addr}{fd:FuncData}{x:Str}
theorem X9 {K:Ah} {g y:Str->Option Value} {CX:Hd} {k:Nat} {A:Addr} {sp:Sp} {c:Shared} {vs:List Value} {ns:List Int}
 (E:K.In c.heap) (O:c.heap.Ns mainGlobals g) (f:c.heap.Ns builtinsNs y) (ab:∀x:Str,x ≠ "__name__" -> y x=bootBuiltins x) (ah:c.heap.NoLimit) (U:c.gens=#[])
 (p:c.heap.get? a=some {cls:=.type "list",data:=.seq vs.toArray}) (G:IntsAre vs ns) (I:ns.length<=sizeLine) (W:BX k callerA)
 (F:∀D:Heap,K.In D->D.Ns mainGlobals g->Ep P w K g D CX k A fd [x] sp) (al:∀(s:Shared)(u:Value),BindsTo s fd ⟨[u],[]⟩ [(x,u)])
 (ae:∀H:Hp,Lw H->Ag K H a (ns.map V.int)->sp [.ref a] H (λv _=>v=.bl true) λ_ _ _=>False)
 (af:∀H e Z,CX [] H c (λ_ _ _=>False) e Z->False) :
 codeAny (model P w) callerA (.call (.ref A) ⟨[.ref a],[]⟩) (λr Z=>r=.ok (.ret (.bool true))/\OldK c.heap Z.heap/\Z.os=c.os/\AllBare Z.gens) c:=by
 have J:=Ph G;have ai:=G.length
 have S:∀ H:Hp,Lw H->Ag K H a (ns.map V.int)->CW P w H c.heap->(∀ b,H b≠none->b=a)->(H a≠none->K.lookup a=none) ->
  codeAny (model P w) callerA (.call (.ref A) ⟨[.ref a],[]⟩) (λr Z=>r=.ok (.ret (.bool true))/\OldK c.heap Z.heap/\Z.os=c.os/\AllBare Z.gens) c:=by
  intro H L X Q M Y;have T:∀{b:Addr}{o:Obj},c.heap.get? b=some o->H b=none->(Fg c.heap H).get? b=some o:=λe n=>Xx e n
  have ag:∀{b:Addr}{o:Obj}{i:Array DictEntry}{j:Nat},c.heap.get? b=some o->o.data=.dict i j->H b=none:=λ{b o i j}e d=>by
   cases q:H b with
   |none=>rfl
   |some u =>
     have B:b=a:=M b (by rw[q];simp);subst B;rw[p] at e;cases e;have d':Data.seq vs.toArray _=Data.dict i j:=d;cases d'
  have t:∀{b:Addr}{m:Str->Option Value},c.heap.Ns b m->(Fg c.heap H).Ns b m:=λ{b m}⟨o,i,j,e,d,r⟩=>⟨o,i,j,T e (ag e d),d,r⟩
  have R:K.In (Fg c.heap H):=λb o e=>T (E b o e) (by
   cases q:H b with
   |none=>rfl
   |some u =>
     have B:b=a:=M b (by rw[q];simp);subst B
     rw[Y (by rw[q];simp)] at e;cases e)
  have hM:Mod K g (Fg c.heap H):=⟨R,t O,⟨y,t f,ab⟩,let ⟨mc,h1,h2⟩:=ah;⟨mc,t h1,h2⟩⟩;have e0:IY P w K g (Fg c.heap H) callerA [] c H:=⟨rfl,hM,λb o e=>IQ e,Nat.le_of_eq (Xw _ _),trivial,λb f=>absurd (show b∈([]:List Addr) from f) (by simp),Q,.of_eq U⟩;refine codeAny_mono ((F _ R (t O)).run callerA [] c H ⟨[.ref a],[]⟩ [.ref a] [.ref a] _ _ W e0 (al c (.ref a)) (.cons rfl .nil) (ae H L X)) λr Z h=>?_
  cases r with
  |error e=>exact(af H e Z h).elim
  |ok fl =>
    cases fl with
    |next=>exact False.elim h
    |brk=>exact False.elim h
    |cont=>exact False.elim h
    |ret u =>
      obtain⟨v,H',aa,aj,un,ak,r',q⟩:=h;have q':v=.bl true:=q;subst q';obtain rfl:u=Value.bool true:=r';refine⟨rfl,OldK.of_keep λb o e=>?_,aa,aj⟩
      cases q:H b with
      |none=>exact un.keep b o e q (by intro z;exact absurd (show b∈([]:List Addr) from z) (by simp)) (by simp)
      |some u =>
        rcases L b with z|⟨ob,xs,z⟩;rw[q] at z;cases z;have z2:=un.frzs b ob _ z;obtain⟨N,_⟩:=Q b _ z;obtain⟨e2,_⟩:=ak b _ z2;rw[e] at N;cases N;exact e2
 cases C:K.lookup a with
 |some o =>
   have e:=E a o C;rw[p] at e;cases e;refine S (λ_=>none) (λ_=>.inl rfl) (.inr ⟨_,vs.toArray,_,C,rfl,rfl,rfl,by rw[Cp,ai];exact I,by simpa using J⟩) (λb u z=>by have l:(none:Option HO)=some u:=z;cases l) (λb z=>absurd rfl z) λz=>absurd rfl z
 |none =>
   refine S (λb=>if b=a then some (.frz {cls:=.type "list",data:=.seq vs.toArray} (.lst (ns.map V.int))) else none) (λb=>?_) (.inl (.inr ⟨{cls:=.type "list",data:=.seq vs.toArray},Aj rfl⟩)) (λb u z=>?_) (λb z=>?_) λ_=>C
   by_cases f:b=a;exact .inr ⟨_,_,Aj f⟩;exact .inl (Ak f);by_cases f:b=a;have l:=(Aj f).symm.trans z;cases l;subst f;exact⟨p,by rw[Al];exact I,vs,_,J,p⟩;have l:=(Ak f).symm.trans z;cases l;by_cases f:b=a;exact f;exact absurd (Ak f) z
variable {n:Nat}
theorem Jf{l:PySem.W.OpenLaw}{k:Nat}{q:Program}{loose:List Str}{XP:(Str->Option Value)->Heap->Prop}{YP:World->Heap->Prop}{d:DefRec}{K:Params->Ah}{CX:World->Hd}{sp:World->Sp}(m:l.most=some n)(D:n<=sizeLine)(E:d.params.defaults=[])(p:BX k callerA)
 (r:∀(w:World)(h:Heap),YP w h->(K w.params).In h)
 (F:∀(w:World)(b:Str->Option Value)(c:Addr)(h:Heap),(K w.params).In h->h.Ns mainGlobals b->b d.name=some (.ref c) ->
  ∃fd:FuncData,(∀(s:Shared)(u:Value),BindsTo s fd ⟨[u],[]⟩ [(x,u)]) /\
   ∀g:Heap,(K w.params).In g->g.Ns mainGlobals b->Ep l.prog w (K w.params) b g (CX w) k c fd [x] (sp w))
 (I:∀(w:World)(H:Hp)(a:Addr)(ns:List Int),ns.length<=n->Lw H->Ag (K w.params) H a (ns.map V.int)->sp w [.ref a] H (λv _=>v=.bl true) λ_ _ _=>False)
 (J:∀(w:World)(H:Hp)(s:Shared)(e:Value)(Z:Shared),CX w [] H s (λ_ _ _=>False) e Z->False) :
 PySem.W.WalkO q loose XP YP l.row.toRowW d [] (λf vs=>PySem.call f vs):=by
 refine Att.attach_call m E λw O t b P c o Q R T a vs ns G Y S hd U L M N j y=>?_;have i:=r w _ Y;obtain⟨fd,z,A⟩:=F w b c _ i G.T.g L;exact X9 i G.T.g G.T.b G.T.builtins G.T.nolimit y M N (Ek j D) p A z (λH B C=>I w H a ns j B C) λH e Z=>J w H t e Z
abbrev Iy:Hd:=λ_ _ _ _ _ _=>False
abbrev E0:XK:=λ_ _ _=>False
variable {X:Cx}
theorem NY:RJ Iy X E0:=λ_ _ _ _ _ _ _ h=>h.elim
structure Bp (K:Ah) (x qual:Str) (st:Stmt) (f:Addr) (fd:FuncData):Prop where
 ex:∃(oc:Value)(od:Option Addr)(kV doc pm:Value)(an:Option Addr)(cdv ct:Value)(osl:Array (Option Value)),
  fd=PySem.W.fnOf x qual (Kj st) (Ip st) (A3 st) .none kV doc pm an cdv ct/\K.lookup f=some ⟨oc,od,.func fd,osl⟩/\PySem.W.codeIn K cdv qual=true
 kp:PySem.W.keepIn K (.ref f)=true
section
variable {P:Program} {w:World} {K:Ah} {mg:Str->Option Value} {base:Heap}
variable {qual:Str}{st:Stmt}{f:Addr}
theorem Bp.ok{N ps:List Str}{k:Nat}{sp:Sp}(F:Bp K x qual st f fd)(S:Af N ps (A3 st))(len:∀vs H Q E,sp vs H Q E->vs.length=ps.length)
 (i:∀(a:Value)(A:Around)(b:List Env)(s:Shared)(H:Hp)(vs:List V)(Q:VK)(E:XK),BX k (A.deeper (envOfC qual (A3 st) s.heap.objs.size f a))->sp vs H Q E ->
  ∃t,Ga (AG Iy P w K mg base N qual (A3 st) f a A b s H E).nox (Ip st) t/\t {nx:=λ_ H'=>Q .non H',rt:=Q} (start N vs) H):Ep P w K mg base Iy (k+1) f fd ps sp:=by
 obtain⟨j,l,kV,p,m,n,a,o,r,rfl,c,e⟩:=F.ex;refine NJ c e S len λA b s H vs Q E d g=>?_;obtain⟨t,h,q⟩:=i a A b s H vs Q E d g;exact⟨t,h.nox,q⟩
theorem Bp.binds{ps:List Str}(F:Bp K x qual st f fd)
 (h:∀(kV c a:Value)(b:Option Addr)(d ct:Value)(us:List Value),us.length=ps.length->bindArgs (PySem.W.fnOf x qual (Kj st) (Ip st) (A3 st) .none kV c a b d ct) ⟨us,[]⟩=pure (ps.zip us)):Binds K fd ps []:=by
 obtain⟨e,g,kV,c,a,b,d,ct,j,rfl,i,k⟩:=F.ex;exact .all (h kV c a b d ct)
theorem Hl{g:Value}{h b:Option Addr}{i:Array (Option Value)}{kV e d a ct:Value}(l:K.lookup f=some ⟨g,h,.func (PySem.W.fnOf x qual (Kj st) (Ip st) (A3 st) .none kV e d b a ct),i⟩)
 (c:PySem.W.codeIn K a qual=true) (k:PySem.W.keepIn K (.ref f)=true):Bp K x qual st f (PySem.W.fnOf x qual (Kj st) (Ip st) (A3 st) .none kV e d b a ct):=⟨⟨g,h,kV,e,d,b,a,ct,i,rfl,l,c⟩,k⟩
end
variable {A:Around}
theorem Lx{k:Nat}(a:BX k A):A.units+1<cLine:=Nat.lt_of_le_of_lt (Nat.add_le_add_left (by decide:1<=64) _) a.units
theorem BE(h:n<=1000):n<sizeLine:=Nat.lt_of_le_of_lt h (by decide)
section
variable {X:Cx}
theorem pv(i:Nat){L:Pos}(a:X.N[i]?=some x:=by rfl)(hv:O7 X.env.scope x:=by first|exact Or.inl rfl|exact Or.inr (Or.inl rfl)|exact Or.inr (Or.inr rfl))(hd:(x==("__debug__" : Str))=false:=by decide)
 (b:(x==("__classdict__" : Str))=false:=by decide):PE X (.Name x L) (CT i):=K3 a hv hd b
end
variable {B:Prop}
theorem Bs{A:Prop}(h:B):if false=true then A else B:=by
 rw[Ak Cq];exact h
theorem CU{A:Prop}(h:A):if true=true then A else B:=by
 rw[Aj rfl];exact h
theorem Am{c A:Prop} [Decidable c](a:c->A)(b:¬c->B):if c then A else B:=by
 by_cases h:c;rw[Aj h];exact a h;rw[Ak h];exact b h
def Ac (H H':Hp):Prop:=∀b o,H b=some o->H' b=some o
theorem Ac.refl(H:Hp):Ac H H:=λ_ _ h=>h
variable {H:Hp}
theorem Ac.trans{Y d:Hp}(a:Ac H Y)(b:Ac Y d):Ac H d:=λc o h=>b c o (a c o h)
variable {H':Hp}
theorem Ac.free(e:Ac H H'){l:Addr}(h:H' l=Option.none):H l=Option.none:=by
 cases q:H l with
 |none=>rfl
 |some o =>
   rw[e l o q] at h;cases h
variable {xs:List V}
theorem Ac.seq{K:Ah}(e:Ac H H')(h:Ag K H a xs):Ag K H' a xs:=by
 rcases h with(h|⟨o,h⟩)|h;exact .inl (.inl (e _ _ h));exact .inl (.inr ⟨o,e _ _ h⟩);exact .inr h
section
variable {κ:Type} [DecidableEq κ]
end
inductive Ty where
 |int|bool|str|non|lst|tup|dct
 deriving DecidableEq
def Ty.name:Ty->String
 |.int => "int"|.bool => "bool"|.str => "str"|.non => "NoneType"|.lst => "list"|.tup => "tuple"|.dct => "dict"
inductive Jg (K:Ah) (H:Hp):V->Ty->Prop where
 |int (i:Int):Jg K H (.int i) .int
 |bl (b:Bool):Jg K H (.bl b) .bool
 |str (x:Str):Jg K H (.str x) .str
 |non:Jg K H .non .non
 |lst {a:Addr} {xs:List V} (h:Ag K H a xs):Jg K H (.ref a) .lst
 |tup {a:Addr} {xs:List V} (h:Aq K H a xs):Jg K H (.ref a) .tup
 |dk {a:Addr} {kvs:List (AO×V)} (h:H a=some (.dK kvs)):Jg K H (.ref a) .dct
def RX:Ty->Ty->Bool
 |.int,.int=>true|.bool,.bool=>true|.bool,.int=>true|.str,.str=>true|.non,.non=>true|.lst,.lst=>true|.tup,.tup=>true|.dct,.dct=>true|_,_=>false
def RY (K:Ah):List V->Hp->VK->Prop:=λvs H Q=>∃x T T',vs=[x,.ty (Ty.name T)]/\Jg K H x T'/\Q (.bl (RX T' T)) H
theorem Iz:A5 X (.builtin "isinstance") (RY X.K):=by
 intro F s σ H g w Q I r h;obtain⟨x,T,z,rfl,ty,q⟩:=h;obtain⟨u,j,rfl,c,p⟩:=IX r;have k:j=Value.type (Ty.name T):=p;subst k
 cases ty with
 |int i =>
   obtain⟨t,rfl⟩:=c
   cases T with
   |int=>exact IsiPair.int_int ⟨.bl true,H,I,rfl,q⟩
   |bool=>exact IsiPair.int_bool ⟨.bl false,H,I.tok _,rfl,q⟩
   |str=>exact IsiPair.int_str ⟨.bl false,H,I.tok _,rfl,q⟩
   |non=>exact IsiPair.int_NoneType ⟨.bl false,H,I.tok _,rfl,q⟩
   |lst=>exact IsiPair.int_list ⟨.bl false,H,I.tok _,rfl,q⟩
   |tup=>exact IsiPair.int_tuple ⟨.bl false,H,I.tok _,rfl,q⟩
   |dct=>exact IsiPair.int_dict ⟨.bl false,H,I.tok _,rfl,q⟩
 |bl b =>
   obtain rfl:u=Value.bool b:=c
   cases T with
   |int=>exact IsiPair.bool_int ⟨.bl true,H,I,rfl,q⟩
   |bool=>exact IsiPair.bool_bool ⟨.bl true,H,I,rfl,q⟩
   |str=>exact IsiPair.bool_str ⟨.bl false,H,I.tok _,rfl,q⟩
   |non=>exact IsiPair.bool_NoneType ⟨.bl false,H,I.tok _,rfl,q⟩
   |lst=>exact IsiPair.bool_list ⟨.bl false,H,I.tok _,rfl,q⟩
   |tup=>exact IsiPair.bool_tuple ⟨.bl false,H,I.tok _,rfl,q⟩
   |dct=>exact IsiPair.bool_dict ⟨.bl false,H,I.tok _,rfl,q⟩
 |str y =>
   obtain⟨t,rfl⟩:=c
   cases T with
   |int=>exact IsiPair.str_int ⟨.bl false,H,I.tok _,rfl,q⟩
   |bool=>exact IsiPair.str_bool ⟨.bl false,H,I.tok _,rfl,q⟩
   |str=>exact IsiPair.str_str ⟨.bl true,H,I,rfl,q⟩
   |non=>exact IsiPair.str_NoneType ⟨.bl false,H,I.tok _,rfl,q⟩
   |lst=>exact IsiPair.str_list ⟨.bl false,H,I.tok _,rfl,q⟩
   |tup=>exact IsiPair.str_tuple ⟨.bl false,H,I.tok _,rfl,q⟩
   |dct=>exact IsiPair.str_dict ⟨.bl false,H,I.tok _,rfl,q⟩
 |non =>
   obtain rfl:u=Value.none:=c
   cases T with
   |int=>exact IsiPair.NoneType_int ⟨.bl false,H,I.tok _,rfl,q⟩
   |bool=>exact IsiPair.NoneType_bool ⟨.bl false,H,I.tok _,rfl,q⟩
   |str=>exact IsiPair.NoneType_str ⟨.bl false,H,I.tok _,rfl,q⟩
   |non=>exact IsiPair.NoneType_NoneType ⟨.bl true,H,I,rfl,q⟩
   |lst=>exact IsiPair.NoneType_list ⟨.bl false,H,I.tok _,rfl,q⟩
   |tup=>exact IsiPair.NoneType_tuple ⟨.bl false,H,I.tok _,rfl,q⟩
   |dct=>exact IsiPair.NoneType_dict ⟨.bl false,H,I.tok _,rfl,q⟩
 |lst d =>
   obtain rfl:u=Value.ref _:=c;obtain⟨v,l,⟨o,n,e,a,hd,m⟩,f⟩:=I.list d
   cases T with
   |int=>exact IsiPair.list_int e a ⟨.bl false,H,I.tok _,rfl,q⟩
   |bool=>exact IsiPair.list_bool e a ⟨.bl false,H,I.tok _,rfl,q⟩
   |str=>exact IsiPair.list_str e a ⟨.bl false,H,I.tok _,rfl,q⟩
   |non=>exact IsiPair.list_NoneType e a ⟨.bl false,H,I.tok _,rfl,q⟩
   |lst=>exact IsiPair.list_list e a ⟨.bl true,H,I,rfl,q⟩
   |tup=>exact IsiPair.list_tuple e a ⟨.bl false,H,I.tok _,rfl,q⟩
   |dct=>exact IsiPair.list_dict e a ⟨.bl false,H,I.tok _,rfl,q⟩
 |tup d =>
   obtain rfl:u=Value.ref _:=c;obtain⟨v,l,⟨o,e,a,n,m⟩,f⟩:=I.tuple d
   cases T with
   |int=>exact IsiPair.tuple_int e a ⟨.bl false,H,I.tok _,rfl,q⟩
   |bool=>exact IsiPair.tuple_bool e a ⟨.bl false,H,I.tok _,rfl,q⟩
   |str=>exact IsiPair.tuple_str e a ⟨.bl false,H,I.tok _,rfl,q⟩
   |non=>exact IsiPair.tuple_NoneType e a ⟨.bl false,H,I.tok _,rfl,q⟩
   |lst=>exact IsiPair.tuple_list e a ⟨.bl false,H,I.tok _,rfl,q⟩
   |tup=>exact IsiPair.tuple_tuple e a ⟨.bl true,H,I,rfl,q⟩
   |dct=>exact IsiPair.tuple_dict e a ⟨.bl false,H,I.tok _,rfl,q⟩
 |dk d =>
   obtain rfl:u=Value.ref _:=c;obtain⟨f,A,g,E,o,B,C,e,ex,D⟩:=I.hok _ _ d;have a:=ex.1
   cases T with
   |int=>exact IsiPair.dict_int e a ⟨.bl false,H,I.tok _,rfl,q⟩
   |bool=>exact IsiPair.dict_bool e a ⟨.bl false,H,I.tok _,rfl,q⟩
   |str=>exact IsiPair.dict_str e a ⟨.bl false,H,I.tok _,rfl,q⟩
   |non=>exact IsiPair.dict_NoneType e a ⟨.bl false,H,I.tok _,rfl,q⟩
   |lst=>exact IsiPair.dict_list e a ⟨.bl false,H,I.tok _,rfl,q⟩
   |tup=>exact IsiPair.dict_tuple e a ⟨.bl false,H,I.tok _,rfl,q⟩
   |dct=>exact IsiPair.dict_dict e a ⟨.bl true,H,I,rfl,q⟩
theorem U0{bs:List Bool}{a:List Value}(r:As (bs.map V.bl) a):TruthOf P w A (λi v=>a.toArray[i]?=some v) (λi=>bs.getD i false):=by
 intro i v s Q E d f;have c:a[i]?=some v:=(by simpa using d);have g:=r.length;rw[Al] at g;have k:i<a.length:=(A7.mp c).1
 have h:(bs.map V.bl)[i]?=some (V.bl (bs.getD i false)):=by
  rw[Bh,BW];have:bs[i]?=some bs[i]:=AD (by omega);rw[this];rfl
 obtain⟨u,b,j⟩:=r.get h;rw[c] at b;cases b;have e:v=Value.bool (bs.getD i false):=j;subst e;exact FJ f
theorem Yb{bs:List Bool}:(List.range bs.length).all (λi=>bs.getD i false)=bs.all id:=by
 rw[Bool.eq_iff_iff,List.all_eq_true,List.all_eq_true];constructor;intro h b d;obtain⟨i,a,e⟩:=OZ.mp d;have:=h i (List.mem_range.mpr a);rw[BW,AD a] at this;rw[<-e];exact this;intro h i a;have c:=List.mem_range.mp a;rw[BW,AD c];exact h _ (EC c)
def RZ (K:Ah):List V->Hp->VK->Prop:=λvs H Q=>∃(a:Addr)(bs:List Bool),vs=[.ref a]/\Ag K H a (bs.map V.bl)/\Q (.bl (bs.all id)) H
theorem Yc(g:X.calm=true):A5 X (.builtin "all") (RZ X.K):=by
 intro B s σ H t w Q I r h;obtain⟨a,bs,rfl,j,q⟩:=h;obtain⟨u,rfl,k⟩:=Fj r;obtain rfl:u=Value.ref a:=k;obtain⟨c,d,p,x⟩:=I.list j;have f:=d.length;rw[Al] at f;have n:a<s.heap.objs.size:=by obtain⟨_,e,_⟩:=p.isList;exact A1 e
 refine call_all_walk (wpAny_pyIter_list p.isList ?_);refine⟨s.heap.objs.size,[s.heap.objs.size,a],[s.heap.objs.size],c.toArray.size,(λi v=>c.toArray[i]?=some v),(λi h=>h.IsListIter s.heap.objs.size a i/\h.IsList a c.toArray),(λi=>bs.getD i false),rfl,Walks.list (A:=X.A.in1) (I.ok.hd g) s.heap.objs.size a (CS n) c.toArray,⟨⟨_,B4 _ rfl,rfl,rfl⟩,p.isList.push _⟩,U0 d,λy tk l=>?_⟩;refine⟨.bl (bs.all id),H,I.kept λb o e=>l b o (λz=>?_) (A8 _ e),?_,q⟩;have m:b=s.heap.objs.size:=(by simpa using z);exact absurd (A1 e) (by rw[m];exact F7 _);have e:c.toArray.size=bs.length:=(by rw[Cp,f]);show Value.bool _=Value.bool _;rw[e,Yb]
variable {pins:List (Addr×Obj)}{σ:St}{s:Shared}
theorem Inv.track{T:Addr}{o:HO}(I:Inv X pins σ H s)(f:Eb X pins H T)(p:∃ob,s.heap.get? T=some ob)(l:Az X.prog X.w (upd H T o) s.heap T o):Inv X pins σ (upd H T o) s:=by
 obtain⟨d,g,r,h,i,j⟩:=f;refine I.step (g':=s.gens) (t':=s.toks) (d':=s.drawn) (h':=s.heap) (ch:=[T]) (λb a=>?_) (λb ob _ _ _ e _=>e) (λb ob _ _ _ e _=>⟨ob.slots,e⟩) (λb ob a e n=>?_) (λb ob _ e=>⟨ob,e⟩) (λb xs e=>?_) (λb ob u e=>?_) (λb t e=>?_) (λm k=>k) (λb u e=>?_) I.bare;have e:b=T:=(by simpa using a);subst e;exact⟨h,g,i,j⟩;rw[AC (by simpa using a)];exact n;rw[AC (AJ e d)];exact e;rw[AC (AJ e d)];exact e;exact⟨#[],by rw[AC (AJ e d),e];simp⟩;by_cases a:b=T;subst a;rw[Aa] at e;cases e;exact l;rw[AC a] at e;exact(I.hok b u e).stay (λc v _ q=>q) (λc q=>by rw[AC (AJ q d)];exact q) λc xs q=>by rw[AC (AJ q d)];exact q
def NZ (K:Ah) (l1 l2:Addr):It:=
 ⟨λi H=>∃xs ys x y,Ag K H l1 xs/\Ag K H l2 ys/\xs[i]?=some x/\ys[i]?=some y,
  λi H v H'=>∃T x y,H T=none/\v=.ref T/\H'=upd H T (.tup [x,y])/\(∀xs,Ag K H l1 xs->xs[i]?=some x)/\∀ys,Ag K H l2 ys->ys[i]?=some y,
  λi H=>∃xs ys,Ag K H l1 xs/\Ag K H l2 ys/\(xs.length<=i\/ys.length<=i)⟩
def N0 (z TI TO i1 i2 l1 l2:Addr) (i:Nat) (h:Heap):Prop:=IsZip h z TI TO .none/\IsPair h TI (.ref i1) (.ref i2)/\(∃a b,IsPair h TO a b)/\h.IsListIter i1 l1 i/\h.IsListIter i2 l2 i
variable {L:Pos}
theorem Yd{K:Ah}{es:List Expr}{k:Nat}{z TI TO g j l1 l2:Addr}(D:ZipApart z TI TO g j l1 l2) :
 Fh P w K (.Tuple es k L) (NZ K l1 l2) [z,TI,TO,g,j] z (N0 z TI TO g j l1 l2) where
 mem:=by simp
 obj:=λi h C b d=>by
  obtain⟨E,F,⟨a,c,J⟩,⟨o1,e1,c1,d1⟩,⟨o2,e2,c2,d2⟩⟩:=C;simp at d;rcases d with rfl|rfl|rfl|rfl|rfl;exact⟨_,E,λv q=>by cases q⟩;exact⟨_,F,λv q=>by cases q⟩;exact⟨_,J,λv q=>by cases q⟩;exact⟨_,e1,λv q=>by rw[d1] at q;cases q⟩;exact⟨_,e2,λv q=>by rw[d2] at q;cases q⟩
 keep:=λi h h' C S=>by
  obtain⟨E,F,⟨a,c,J⟩,M,N⟩:=C;exact⟨S z (by simp) _ E,S TI (by simp) _ F,⟨a,c,S TO (by simp) _ J⟩,M.at λo e=>S g (by simp) o e,N.at λo e=>S j (by simp) o e⟩
 item:=by
  intro X hP hw hK A i pins s σ H ak I B C hg;subst hP hw hK;obtain⟨xs,ys,x,y,Y,Z,hx,hy⟩:=hg;obtain⟨E,F,⟨a,c,J⟩,M,N⟩:=C;obtain⟨az,ae,p1,an⟩:=I.list Y;obtain⟨a0,af,aa,ao⟩:=I.list Z;obtain⟨U,aq,ar⟩:=ae.get hx;obtain⟨V,au,av⟩:=af.get hy;refine wpAny_pyNext_zip_item D E F J M N p1.isList aa.isList (x:=U) (y:=V) (by simpa using aq) (by simpa using au) λh' a1 a2 a3 a4 a5 a6 G=>?_;refine⟨_,rfl,wpAny_letOwnedTupleGo_zip (s:={s with heap:=h'}) a1 λT a7 R=>?_⟩;have m:=B z (by simp);have t:=B TO (by simp);have p:=B g (by simp);have r:=B j (by simp);have GU:∀b u,H b=some u->b≠z/\b≠TO/\b≠g/\b≠j:=λb u e=>⟨AJ e m.1,AJ e t.1,AJ e p.1,AJ e r.1⟩;have keep:∀b o,b≠z->b≠TO->b≠g->b≠j->s.heap.get? b=some o->T.get? b=some o:=λb o W n2 n3 n4 e=>(R.2 b W).trans (G b o W n2 n3 n4 e);have f:∀{b:Addr},b∉[z,TO,g,j]->b≠z/\b≠TO/\b≠g/\b≠j:=λ{b}d=>by simpa using d
  have I1:Inv X pins σ H {s with heap:=T}:=by
   refine I.step (g':=s.gens) (t':=s.toks) (d':=s.drawn) (h':=T) (ch:=[z,TO,g,j]) (λb d=>?_) (λb l _ _ d e _=>keep b l (f d).1 (f d).2.1 (f d).2.2.1 (f d).2.2.2 e) (λb l _ _ d e _=>⟨l.slots,keep b l (f d).1 (f d).2.1 (f d).2.2.1 (f d).2.2.2 e⟩)
    (λ_ _ _ _ n=>n) (λb l d e=>⟨l,keep b l (f d).1 (f d).2.1 (f d).2.2.1 (f d).2.2.2 e⟩) (λ_ _ e=>e) (λ_ _ _ e=>e) (λb ps e=>⟨#[],by rw[e];simp⟩) (λal hm=>?_) (λb u e=>?_) I.bare
   have:b=z\/b=TO\/b=g\/b=j:=(by simpa using d);rcases this with rfl|rfl|rfl|rfl;exact⟨m.2.2.2.1,m.2.1,m.2.2.2.2.1,m.2.2.2.2.2⟩;exact⟨t.2.2.2.1,t.2.1,t.2.2.2.2.1,t.2.2.2.2.2⟩;exact⟨p.2.2.2.1,p.2.1,p.2.2.2.2.1,p.2.2.2.2.2⟩;exact⟨r.2.2.2.1,r.2.1,r.2.2.2.2.1,r.2.2.2.2.2⟩;obtain⟨o,es,ep,ho,ab⟩:=hm;exact⟨o,es,ep,keep _ o (Ne.symm m.2.1) (Ne.symm t.2.1) (Ne.symm p.2.1) (Ne.symm r.2.1) ho,ab⟩;refine(I.hok b u e).stay (λc v A q=>?_) (λ_ q=>q) λ_ _ q=>q
   have ag:∃O,H c=some O:=by
    rcases A with rfl|A;exact⟨_,e⟩;exact⟨_,A⟩
   obtain⟨O,Q⟩:=ag;obtain⟨W,n2,n3,n4⟩:=GU c O Q;exact keep c v W n2 n3 n4 q
  have aw:s.heap.objs.size≠z:=Nat.ne_of_gt (A1 E);have ai:H s.heap.objs.size=none:=I.hok.fresh (AB _);have aj:T.get? s.heap.objs.size=some {cls:=.type "tuple",data:=.seq #[U,V]}:=(R.2 _ aw).trans a5
  have I2:Inv X pins σ (upd H s.heap.objs.size (.tup [x,y])) {s with heap:=T}:=by
   refine I1.track (I.fpOk (AB _) ai) ⟨_,aj⟩ ?_;exact⟨by show 2<=sizeLine;decide,[U,V],.cons ar (.cons av .nil),⟨_,aj,rfl,_,rfl⟩⟩
  refine⟨.ref s.heap.objs.size,_,I2,rfl,⟨s.heap.objs.size,x,y,ai,rfl,rfl,λzs ah=>by rw[I.list_inj ah Y];exact hx,λzs ah=>by rw[I.list_inj ah Z];exact hy⟩,?_,λb d=>?_⟩;refine⟨a7,R.extBut _ _ D.TIz (G _ _ D.TIz D.TITO D.TIi1 D.TIi2 F),⟨U,V,R.extBut _ _ D.TOz a2⟩,a3.extBut R.extBut D.i1z,a4.extBut R.extBut D.i2z⟩;have ax:=(B b d).1;rw[AC (λq=>?_)];exact ax;have ay:b=z\/b=TI\/b=TO\/b=g\/b=j:=(by simpa using d);obtain⟨o1,e1,_⟩:=M;obtain⟨o2,e2,_⟩:=N
  have lt:b<s.heap.objs.size:=by
   rcases ay with rfl|rfl|rfl|rfl|rfl;exact A1 E;exact A1 F;exact A1 J;exact A1 e1;exact A1 e2
  rw[q] at lt;exact absurd lt (F7 _)
 done:=by
  intro X hP hw hK A i pins s σ H ak I B C hg;subst hP hw hK;obtain⟨xs,ys,Y,Z,aA⟩:=hg;obtain⟨E,F,⟨a,c,J⟩,M,N⟩:=C;obtain⟨az,ae,p1,an⟩:=I.list Y;obtain⟨a0,af,aa,ao⟩:=I.list Z;have a8:=ae.length;have a9:=af.length;refine wpAny_pyNext_zip_end (I.ok.hd A) D E F J M N p1.isList aa.isList (by simp;omega) λh' G=>⟨rfl,?_⟩;have m:=B z (by simp);have t:=B TO (by simp);have p:=B g (by simp);have r:=B j (by simp);have f:∀{b:Addr},b∉[z,TO,g,j]->b≠z/\b≠TO/\b≠g/\b≠j:=λ{b}d=>by simpa using d
  refine I.step (g':=s.gens) (t':=s.toks) (d':=s.drawn) (h':=h') (ch:=[z,TO,g,j]) (λb d=>?_) (λb l _ _ d e _=>G b l (f d).1 (f d).2.1 (f d).2.2.1 (f d).2.2.2 e) (λb l _ _ d e _=>⟨l.slots,G b l (f d).1 (f d).2.1 (f d).2.2.1 (f d).2.2.2 e⟩)
   (λ_ _ _ _ n=>n) (λb l d e=>⟨l,G b l (f d).1 (f d).2.1 (f d).2.2.1 (f d).2.2.2 e⟩) (λ_ _ e=>e) (λ_ _ _ e=>e) (λb ps e=>⟨#[],by rw[e];simp⟩) (λal hm=>?_) (λb u e=>?_) I.bare
  have:b=z\/b=TO\/b=g\/b=j:=(by simpa using d);rcases this with rfl|rfl|rfl|rfl;exact⟨m.2.2.2.1,m.2.1,m.2.2.2.2.1,m.2.2.2.2.2⟩;exact⟨t.2.2.2.1,t.2.1,t.2.2.2.2.1,t.2.2.2.2.2⟩;exact⟨p.2.2.2.1,p.2.1,p.2.2.2.2.1,p.2.2.2.2.2⟩;exact⟨r.2.2.2.1,r.2.1,r.2.2.2.2.1,r.2.2.2.2.2⟩;obtain⟨o,es,ep,ho,ab⟩:=hm;exact⟨o,es,ep,G _ o (Ne.symm m.2.1) (Ne.symm t.2.1) (Ne.symm p.2.1) (Ne.symm r.2.1) ho,ab⟩;refine(I.hok b u e).stay (λc v A q=>?_) (λ_ q=>q) λ_ _ q=>q
  have ag:∃O,H c=some O:=by
   rcases A with rfl|A;exact⟨_,e⟩;exact⟨_,A⟩
  obtain⟨O,Q⟩:=ag;exact G c v (AJ Q m.1) (AJ Q t.1) (AJ Q p.1) (AJ Q r.1) q
 self:=λ_ _ _ _ _ C h=>wpAny_pyIter_zip C.1 h
variable {g:TG}{D:Ends}
theorem Jh{K:Ah}{a b:Addr}{ys:List V}{tb:TS}(Pv:Nat->St->Hp->Prop)(j:Pv 0 σ H)(k:∀i σ H,Pv i σ H->Ag K H a xs/\Ag K H b ys)
 (l:∀i x y T σ H,xs[i]?=some x->ys[i]?=some y->H T=none->Pv i σ H->g (.ref T) σ (upd H T (.tup [x,y])) λσ2 c=>tb {D with nx:=Pv (i+1),ct:=Pv (i+1),bk:=D.nx} σ2 c) (hd:∀σ H,Pv (min xs.length ys.length) σ H->D.nx σ H) :
 ∃W:Nat->Nat->St->Hp->Prop,(∃m,W 0 m σ H)/\∀i m σ H,W i m σ H ->
  ((NZ K a b).stop i H/\D.nx σ H)\/((NZ K a b).go i H/\∃N:St->Hp->Prop,(∀σ' H',N σ' H'->∃h,h<m/\W (i+1) h σ' H')/\∀x H',(NZ K a b).yld i H x H'->g x σ H' λσ2 c=>tb {D with nx:=N,ct:=N,bk:=D.nx} σ2 c):=by
 refine⟨λi m σ H=>m=min xs.length ys.length-i/\i<=min xs.length ys.length/\Pv i σ H,⟨_,rfl,Ci _,j⟩,?_⟩;rintro i m σ H ⟨rfl,z,p⟩;obtain⟨d,f⟩:=k i σ H p;by_cases w:i<min xs.length ys.length;have n:i<xs.length:=(by omega);have o:i<ys.length:=(by omega);refine .inr ⟨⟨xs,ys,xs[i],ys[i],d,f,by simp[n],by simp[o]⟩,Pv (i+1),λσ' H' q=>⟨min xs.length ys.length-(i+1),by omega,rfl,w,q⟩,λv H' y=>?_⟩;obtain⟨T,x,r,s,rfl,rfl,t,u⟩:=y;exact l i x r T σ H (t xs d) (u ys f) s p;have e:i=min xs.length ys.length:=(by omega);refine .inl ⟨⟨xs,ys,d,f,by omega⟩,?_⟩;rw[e] at p;exact hd σ H p
def FZ (env:Env):List (Str×NameKind)->List (Str×Addr)->List (Str×Addr)
 |[],acc=>acc
 |(n,k)::r,acc=>if k==.free then FZ env r ((n,(env.cells.lookup n).getD 0)::acc) else FZ env r acc
theorem R1{env:Env}(f:Str×NameKind->List (Str×Addr)->Sem (ForInStep (List (Str×Addr))))
 (d:∀n k g,f (n,k) g=if(k==NameKind.free)=true then(cellOf env n >>= λa=>pure (.yield ((n,a)::g))) else pure (.yield g)) :
 ∀(names:List (Str×NameKind))(acc:List (Str×Addr)),(∀x∈names,x.2=.free->∃c,env.cells.lookup x.1=some c)->forIn names acc f=pure (FZ env names acc)
 |[],acc,_=>by rw[List.forIn_nil];rfl
 |(n,k)::r,acc,h=>by
   rw[List.forIn_cons,d];unfold FZ;by_cases b:(k==NameKind.free)=true;rw[Aj b,Aj b];obtain⟨c,j⟩:=h (n,k) Bv (beq_iff_eq.mp b);have e:cellOf env n=pure c:=by unfold cellOf;rw[j]
   rw[e,j];exact R1 f d r _ λx i=>h x (Ch _ i);rw[Ak b,Ak b];exact R1 f d r _ λx i=>h x (Ch _ i)
variable {scope:Scope}{env:Env}
theorem U1(h:∀x∈scope.names,x.2=.free->∃c,env.cells.lookup x.1=some c):closureFor scope env=pure (FZ env scope.names []):=by
 simp only[closureFor];rw[R1 (env:=env) _ (λn k b=>by cases a:k==NameKind.free<;>simp[a]) scope.names [] h];rfl
theorem Pj{env:Env}:∀{names:List (Str×NameKind)}{acc:List (Str×Addr)}{x:Str}{c:Addr},(x,c)∈FZ env names acc->(x,c)∈acc\/((x,NameKind.free)∈names/\c=(env.cells.lookup x).getD 0)
 |[],_,_,_,h=>.inl h
 |(n,k)::r,acc,x,c,h=>by
   unfold FZ at h;by_cases a:(k==NameKind.free)=true;rw[Aj a] at h;rcases Pj h with h|⟨h,e⟩;rcases Ce.mp h with h|h;cases h;rw[beq_iff_eq.mp a];exact .inr ⟨Bv,rfl⟩;exact .inl h;exact .inr ⟨Ch _ h,e⟩;rw[Ak a] at h;rcases Pj h with h|⟨h,e⟩;exact .inl h;exact .inr ⟨Ch _ h,e⟩
theorem R3{env:Env}:∀{names:List (Str×NameKind)}{acc:List (Str×Addr)}{p:Str×Addr},p∈acc->p∈FZ env names acc
 |[],_,_,h=>h
 |(n,k)::r,acc,p,h=>by
   unfold FZ;by_cases a:(k==NameKind.free)=true;rw[Aj a];exact R3 (Ch _ h);rw[Ak a];exact R3 h
theorem N1{env:Env}:∀{names:List (Str×NameKind)}{acc:List (Str×Addr)}{x:Str},(x,NameKind.free)∈names->∃c,(x,c)∈FZ env names acc
 |(n,k)::r,acc,x,h=>by
   unfold FZ;rcases Ce.mp h with h|h;cases h;rw[Aj (show(NameKind.free==NameKind.free)=true by rfl)];exact⟨_,R3 Bv⟩;by_cases a:(k==NameKind.free)=true;rw[Aj a];exact N1 h;rw[Ak a];exact N1 h
theorem MV{α:Type}:∀{l:List (Str×α)}{x:Str}{c:α},(x,c)∈l->∃a,l.lookup x=some a
 |(n,d)::r,x,c,h=>by
   rw[MG]
   cases b:x==n with
   |true=>exact⟨d,rfl⟩
   |false =>
     rcases Ce.mp h with h|h;cases h;simp at b;exact MV h
theorem Kv:∀(names:List (Str×NameKind))(n:Nat)(acc:List (Str×Addr)),cellsFrom n names acc=cellsFrom n names []++acc
 |[],_,_=>rfl
 |(x,k)::r,n,acc=>by
   unfold cellsFrom;by_cases a:(k==NameKind.cell)=true;rw[Aj a,Aj a,Kv r (n+1) ((x,n)::acc),Kv r (n+1) [(x,n)],FX];rfl;rw[Ak a,Ak a];exact Kv r n acc
theorem Pk:∀{names:List (Str×NameKind)}{n:Nat}{acc:List (Str×Addr)}{x:Str}{c:Addr},(x,c)∈cellsFrom n names acc->(x,c)∈acc\/(x,NameKind.cell)∈names
 |[],_,_,_,_,h=>.inl h
 |(y,k)::r,n,acc,x,c,h=>by
   unfold cellsFrom at h;by_cases a:(k==NameKind.cell)=true;rw[Aj a] at h;rcases Pk h with h|h;rcases Ce.mp h with h|h;cases h;rw[beq_iff_eq.mp a];exact .inr Bv;exact .inl h;exact .inr (Ch _ h);rw[Ak a] at h;rcases Pk h with h|h;exact .inl h;exact .inr (Ch _ h)
section
variable {M:Model} {A:Around} {E:Value->Shared->Prop} {s:Shared}
theorem Ye{a:List (Str×Addr)}{Q:Env->Shared->Prop}
 (b:Q (newEnv scope s.heap.objs.size env.globals (cellsFrom (s.heap.objs.size+1) scope.names a) env.qual none .none (some env) builtinsNs) {s with heap:=pushCells (s.heap.push {cls:=.type "dict",data:=.dict #[]}) scope.names}) :
 wpAny M A (newFunctionEnv scope env.globals a [] env.qual none .none (some env)) Q E s:=by
 simp only[newFunctionEnv,Option.isSome_some,if_true];refine Ad (wpAny_alloc ?_);refine Ad (wpAny_layCells _ (λname d e=>by cases c:d==NameKind.cell<;>simp[c]) _ _ _ _ ?_)
 rw[show({s with heap:=s.heap.push {cls:=.type "dict",data:=.dict #[]}}:Shared).heap.objs.size=s.heap.objs.size+1 from Heap.size_push ..]
 exact Ad (Au (Au b))
end
abbrev EM (X:Cx) (N:List Str) (scope:Scope) (cs:List (Str×Addr)) (C:Addr) (s:Shared) (H:Hp) (ex:List Addr):Cx where
 prog:=X.prog
 w:=X.w
 K:=X.K
 mg:=X.mg
 base:=X.base
 A:=X.A
 N:=N
 s₀:=s
 H₀:=H
 env:=compEnvC scope cs C X.env
 outer:=X.stack
 stack:=X.stack
 ex:=ex
 fn:=λx=>decide (scope.names.lookup x≠some .free)
 calm:=X.calm
 pn:=[]
 xe:=λ_ _=>False
structure At (psc:Scope) (PN:List Str) (scope:Scope) (N:List Str) (k:Nat) (caps:List Nat):Prop where
 kind:scope.kind=.function
 loc:∀x∈scope.names,x.2=.local->scope.names.lookup x.1=some .local
 ndn:(scope.names.map (·.1)).Nodup
 nd:N.Nodup
 len:N.length=k+caps.length
 free:∀x∈scope.names,x.2=.free->psc.names.lookup x.1=some .cell\/psc.names.lookup x.1=some .free
 cap:∀p∈(N.drop k).zip caps,PN[p.2]?=some p.1/\scope.names.lookup p.1=some .free
def EH (k:Nat) (caps:List Nat) (σ:St):St:=List.replicate k none++caps.map λj=>(σ[j]?).getD none
variable {caps:List Nat}{i:Nat}{v:V}
theorem U2{k:Nat}(h:(EH k caps σ)[i]?=some (some v)):∃j,k<=i/\caps[i-k]?=some j/\σ[j]?=some (some v):=by
 unfold EH at h;by_cases b:i<k;rw[EU (by simpa using b),List.getElem?_replicate,Aj b] at h;cases h;rw[Fc (by simpa using b),List.length_replicate,Bh] at h
 cases e:caps[i-k]? with
 |none=>rw[e] at h;cases h
 |some j =>
   rw[e] at h;have a:(σ[j]?).getD none=some v:=Bo h;refine⟨j,by omega,rfl,?_⟩
   cases q:σ[j]? with
   |none=>rw[q] at a;cases a
   |some o=>rw[q] at a;exact BC some a
theorem U3{a:NameKind}(h:(relabel scope env).names.lookup x=some a):∃k,(x,k)∈scope.names/\(a=k\/(k=.free/\a=.cell)):=by
 have e:=F8 h;have f:(x,a)∈scope.names.map (λ(n,k)=>if(k==NameKind.free && env.scope.kind==.function && env.kindOf n==some .cell) then(n,NameKind.cell) else(n,k)):=e;obtain⟨⟨n,k⟩,d,b⟩:=Br.mp f;dsimp only at b
 by_cases c:(k==NameKind.free && env.scope.kind==.function && env.kindOf n==some .cell)=true;rw[Aj c] at b;cases b;simp only[Bool.and_eq_true,beq_iff_eq] at c;exact⟨k,d,.inr ⟨c.1.1,rfl⟩⟩;rw[Ak c] at b;cases b;exact⟨a,d,.inl rfl⟩
theorem U4{f:Str×NameKind->Str×NameKind}(b:∀n k,f (n,k)=(n,k)\/(k=.free/\f (n,k)=(n,NameKind.cell))):∀{names:List (Str×NameKind)}{x:Str},names.lookup x=some .free->(names.map f).lookup x=some .cell\/(names.map f).lookup x=some .free
 |[],_,h=>by simp at h
 |(n,k)::r,x,h=>by
   have d:=@U4 f b r x;rw[MG] at h;rw[D7]
   cases a:x==n with
   |true =>
     rw[a] at h;cases h;rcases b n .free with e|⟨_,e⟩;right;rw[e,MG,a];left;rw[e,MG,a]
   |false =>
     rw[a] at h;have c:=d h;rcases b n k with e|⟨_,e⟩;rw[e,MG,a];exact c;rw[e,MG,a];exact c
theorem U5(h:scope.names.lookup x=some .free):(relabel scope env).names.lookup x=some .cell\/(relabel scope env).names.lookup x=some .free:=by
 refine U4 (λn k=>?_) h;by_cases a:(k==NameKind.free && env.scope.kind==.function && env.kindOf n==some .cell)=true;right;refine⟨?_,Aj a⟩;simp only[Bool.and_eq_true,beq_iff_eq] at a;exact a.1.1;left;exact Ak a
theorem Pl{names:List (Str×NameKind)}(h:(names.map (·.1)).Nodup){k d:NameKind}(a:(x,k)∈names)(b:(x,d)∈names):k=d:=by
 induction names with
 |nil=>simp at a
 |cons p r g =>
   rw[D7] at h;obtain⟨e,i⟩:=Gj.mp h;rcases Ce.mp a with f|a<;>rcases Ce.mp b with c|b;rw[<-f] at c;exact(Prod.mk.inj c).2.symm;exact absurd (Br.mpr ⟨_,b,by rw[<-f]⟩) e;exact absurd (Br.mpr ⟨_,a,by rw[<-c]⟩) e;exact g i a b
variable {h1:Heap}{C:Addr}
theorem Un.but{fs ex:List Addr}{h f:Heap}(u:Un fs ex H H' h h1)(c:Heap.SameBut C h1 f)(g:h.objs.size<=C):Un fs ex H H' h f:=by
 have ne:∀b o,h.get? b=some o->b≠C:=λb o e=>CS (FI (A1 e) g);refine⟨λb o e n d a=>(c.2 b (ne b o e)).trans (u.keep b o e n d a),λb o e n d a=>?_,u.free,λb o e a=>?_,u.tups,u.frzs,u.tbls⟩;obtain⟨i,q⟩:=u.slot b o e n d a;exact⟨i,(c.2 b (ne b o e)).trans q⟩;obtain⟨j,q⟩:=u.there b o e a;exact⟨j,(c.2 b (ne b o e)).trans q⟩
theorem CW.but{d:Heap}(x:CW P w H h1)(g:Heap.SameBut C h1 d)(f:H C=none):CW P w H d:=λb u e=>by
 refine(x b u e).stay (λc v a q=>(g.2 c ?_).trans q) (λ_ q=>q) λ_ _ q=>q;rintro rfl;rcases a with rfl|a;rw[f] at e;cases e;rw[f] at a;cases a
section
variable {X:Cx} {scope:Scope} {N:List Str} {k:Nat} {caps:List Nat} {psc:Scope} {PN:List Str} {pins:List (Addr×Obj)} {σ:St} {H:Hp} {s:Shared}
abbrev DT (X:Cx) (scope:Scope) (C:Addr):List (Str×Addr):=cellsFrom (C+1) scope.names (FZ X.env scope.names [])
theorem U6(I:Inv X pins σ H s)(S:At X.env.scope X.N scope N k caps){c:Addr}(h:(x,c)∈DT X scope C) :
 (x,c)∈cellsFrom (C+1) scope.names []\/X.env.cells.lookup x=some c:=by
 unfold DT at h;rw[Kv] at h;rcases BB.mp h with h|h;exact .inl h;rcases Pj h with h|⟨h,e⟩;simp at h;obtain⟨b,a⟩:=I.ok.has x (S.free _ h rfl);rw[a] at e;exact .inr (by rw[a];exact BC some e.symm)
theorem Yg{t:List Addr}(I:Inv X pins σ H s)(S:At X.env.scope X.N scope N k caps)(B:∀b∈t,Eb X pins H b)(ae:∀b∈t,∃o,s.heap.get? b=some o){D C:Nat}{t':Nat}(g:D=s.heap.objs.size)(J:C=D+1)
 (E:h1=pushCells ((s.heap.push {cls:=.type "list",data:=.seq #[]}).push {cls:=.type "dict",data:=.dict #[]}) scope.names) :
 Inv (EM X N scope (DT X scope C) C s H t) [] (EH k caps σ) (upd H D (.lst [])) {s with heap:=h1,toks:=t'}:=by
 have Z:(s.heap.push {cls:=.type "list",data:=.seq #[]}).objs.size=C:=(by rw[Heap.size_push,J,g]);have aa:((s.heap.push {cls:=.type "list",data:=.seq #[]}).push {cls:=.type "dict",data:=.dict #[]}).objs.size=C+1:=(by rw[Heap.size_push,Z])
 have G:∀b o,s.heap.get? b=some o->h1.get? b=some o:=λb o e=>by
  rw[E];exact pushCells_keeps _ _ b o (A8 _ (A8 _ e))
 have ak:h1.get? D=some {cls:=.type "list",data:=.seq #[]}:=by
  rw[E,g];exact pushCells_keeps _ _ _ _ (A8 _ (B4 _ rfl))
 have af:h1.Ns C (λ_=>none):=by
  rw[E,<-Z];exact(Heap.Ns.new _ (.type "dict")).keeps (pushCells_keeps _ _)
 have ok:=cellsFrom_ok scope.names ((s.heap.push {cls:=.type "list",data:=.seq #[]}).push {cls:=.type "dict",data:=.dict #[]}) (C+1) [] ⟨λ_ _ d=>(nomatch d),List.Pairwise.nil⟩ (by rw[aa];exact AB _);rw[aa] at ok;have own:∀x c,(x,c)∈cellsFrom (C+1) scope.names []->h1.IsCell c none/\C+1<=c:=λx c h=>by rw[E];exact ok.empty x c h
 have P:∀x c,X.env.cells.lookup x=some c->c<D:=λx c e=>by
  obtain⟨v,q⟩:=I.cell x c e;rw[g];exact q.lt
 have Y:∀b∈t,b<D:=λb f=>by
  obtain⟨o,e⟩:=ae b f;rw[g];exact A1 e
 have ao:H C=none:=I.hok.fresh (by rw[J,g];exact Nat.le_succ _);have split:=λx c(h:(DT X scope C).lookup x=some c)=>U6 (C:=C) I S (F8 h);have T:∀b,b≠D->H b=none->(upd H D (.lst [])) b=none:=λb f e=>by rw[AC f];exact e
 have al:∀x,scope.names.lookup x=some .free->∃c,X.env.cells.lookup x=some c/\(DT X scope C).lookup x=some c:=λx w=>by
  have d:=F8 w;obtain⟨F,K⟩:=N1 (env:=X.env) (acc:=[]) d;obtain⟨c,U⟩:=MV (l:=DT X scope C) (x:=x) (c:=F) (by unfold DT;rw[Kv];exact De _ K);refine⟨c,?_,U⟩;rcases split x c U with q|q;rcases Pk q with z|z;simp at z;have:=Pl S.ndn d z;cases this;exact q
 have ag:(EM X N scope (DT X scope C) C s H t).Ok:=by
  refine⟨I.ok.mod,S.kind,I.ok.glob,I.ok.blt,?above,?inj,?has,?cab,I.ok.hd,I.ok.frames,.inl rfl,?exf,λb o e=>I.bs b o e,Ek I.ok.bsz I.sz,?noex,?exfs,I.stack,I.stkFree⟩
  case above =>
   show s.heap.objs.size<=C;rw[J,g];exact Nat.le_succ _
  case inj =>
   intro x y c L M;rcases split x c L with n|n<;>rcases split y c M with r|r;exact name_of_addr ok.apart n r;have h1:@LE.le Nat _ (C+1) c:=(own x c n).2;have a:@LT.lt Nat _ c D:=P y c r;exfalso;omega;have h1:@LE.le Nat _ (C+1) c:=(own y c r).2;have a:@LT.lt Nat _ c D:=P x c n;exfalso;omega;exact I.ok.inj x y c n r
  case has =>
   intro x w;have Q:(relabel scope X.env).names.lookup x=some .cell\/(relabel scope X.env).names.lookup x=some .free:=w
   have p:∃m,(x,m)∈scope.names/\(m=.cell\/m=.free):=by
    rcases Q with q|q;obtain⟨m,h1,a⟩:=U3 q;rcases a with a|⟨a,_⟩;exact⟨m,h1,.inl a.symm⟩;exact⟨m,h1,.inr a⟩;obtain⟨m,h1,a⟩:=U3 q;rcases a with a|⟨_,a⟩;exact⟨m,h1,.inr a.symm⟩;cases a
   obtain⟨m,d,p|p⟩:=p;subst p
   have q:=PySem.W.cellsFrom_some scope.names (C+1) (FZ X.env scope.names []) (x:=x) (.inl (by
    obtain⟨k2,A⟩:=MV d
    rw[A,Pl S.ndn (F8 A) d]))
   exact Option.isSome_iff_exists.mp q;subst p;obtain⟨F,K⟩:=N1 (env:=X.env) (acc:=[]) d;exact MV (c:=F) (by show(x,F)∈DT X scope C;unfold DT;rw[Kv];exact De _ K)
  case cab =>
   intro x c w e;have Q:decide (scope.names.lookup x≠some .free)=true:=w;have ah:=Bg Q;show s.heap.objs.size<=c;have e':(DT X scope C).lookup x=some c:=e;have d:=F8 e';unfold DT at d;rw[Kv] at d;rcases BB.mp d with z|z;have h1:@LE.le Nat _ (C+1) c:=(own x c z).2;have a:@LE.le Nat _ s.heap.objs.size c:=(by omega);exact a;rcases Pj z with z|⟨z,_⟩;simp at z;obtain⟨k2,A⟩:=MV z;exact absurd (by rw[A,Pl S.ndn (F8 A) z]) ah
  case exf =>
   intro b f;refine⟨?_,λx c e z=>?_⟩;have h1:@LT.lt Nat _ b D:=Y b f;exact CS (show @LT.lt Nat _ b C by omega);rcases split x c e with q|q;have h1:@LE.le Nat _ (C+1) c:=(own x c q).2;have a:@LT.lt Nat _ b D:=Y b f;have V:@Eq Nat c b:=z;omega;exact(B b f).2.2.2.2.1 x c q z
  case noex =>
   intro b o e f;rcases(B b f).2.2.2.1 with q|q;exact I.ok.noex b o e q;exact absurd (FI (A1 e) (Ek I.ok.bsz q)) (F7 _)
  case exfs =>
   intro b f z;have V:b∈EV X.stack:=z;rcases Ce.mp (I.stkSub b V) with q|q;exact(B b f).2.1 q;exact(B b f).2.2.1 q
 refine⟨ag,rfl,I.bare,Un.laid G (by rw[g];exact AB _) (I.hok.fresh (by rw[g];exact AB _)),⟨_,af,?loc⟩,?cell,T _ (show @Ne Nat C D by omega) ao,?freeC,λaq O=>absurd O (by simp),?hok,?len⟩
 case loc =>
  intro i x v L M e3;obtain⟨j,hi,hj,hv⟩:=U2 M
  have hz:(x,j)∈(N.drop k).zip caps:=by
   refine List.mem_iff_getElem?.mpr ⟨i-k,?_⟩;rw[List.getElem?_zip_eq_some];refine⟨?_,hj⟩;rw[List.getElem?_drop,show k+(i-k)=i by omega];exact L
  obtain⟨O,R⟩:=S.cap (x,j) hz;have p:=S.free (x,.free) (F8 R) rfl;obtain⟨ar,hn,hl⟩:=I.loc;obtain⟨u,ab,l⟩:=hl j x v O hv (by rcases p with q|q;exact .inr (.inl q);exact .inr (.inr q));refine⟨u,ab,?_⟩;obtain⟨c,ai,aj⟩:=al x R
  have an:s.heap.IsCell c (some u):=by
   rcases l with⟨q,_⟩|⟨_,c',n,r⟩;have W:X.env.scope.names.lookup x=some .local:=q;rcases p with z|z;rw[W] at z;cases z;rw[W] at z;cases z;rw[ai] at n;cases n;exact r
  exact .inr ⟨U5 R,c,aj,an.keeps G⟩
 case cell =>
  intro x c e;rcases split x c e with q|q;exact⟨_,(own x c q).1⟩;obtain⟨v,z⟩:=I.cell x c q;exact⟨v,z.keeps G⟩
 case freeC =>
  intro x c e;rcases split x c e with q|q;have h1:@LE.le Nat _ (C+1) c:=(own x c q).2;have a:@LE.le Nat _ s.heap.objs.size c:=(by omega);exact T c (show @Ne Nat c D by omega) (I.hok.fresh a);exact T c (CS (P x c q)) (I.freeC x c q)
 case hok =>
  exact I.hok.laid G (by rw[g];exact AB _) ⟨Ci _,[],0,.nil,ak⟩
 case len =>
  show(EH k caps σ).length=N.length;unfold EH;rw[AW,List.length_replicate,Al,S.len]
theorem Yh{a:List Addr}(I:Inv X pins σ H s)(S:At X.env.scope X.N scope N k caps){p:List (Addr×Obj)}{σ':St}{Z:Shared}(P:∀x c,X.env.cells.lookup x=some c->c∉a)(T:s.heap.objs.size<=C)
 (J:Inv (EM X N scope (DT X scope C) C s H a) p σ' H' Z):Inv (EM X N scope (DT X scope C) C s H a) p (EH k caps σ) H' Z:=by
 obtain⟨m,t,_⟩:=id J.loc;refine⟨J.ok,J.os,J.bare,J.base,⟨m,t,λi x v w y U=>?_⟩,J.cell,J.free,J.freeC,J.pin,J.hok,?_⟩;obtain⟨j,V,A,B⟩:=U2 y
 have D:(x,j)∈(N.drop k).zip caps:=by
  refine List.mem_iff_getElem?.mpr ⟨i-k,?_⟩;rw[List.getElem?_zip_eq_some];refine⟨?_,A⟩;rw[List.getElem?_drop,show k+(i-k)=i by omega];exact w
 obtain⟨E,b⟩:=S.cap (x,j) D;have e:=S.free (x,.free) (F8 b) rfl;obtain⟨W,aa,F⟩:=I.loc;obtain⟨u,r,l⟩:=F j x v E B (by rcases e with q|q;exact .inr (.inl q);exact .inr (.inr q));refine⟨u,r,?_⟩
 have R:∃c,X.env.cells.lookup x=some c/\s.heap.IsCell c (some u):=by
  rcases l with⟨q,_⟩|⟨_,f,G,K⟩;have g:X.env.scope.names.lookup x=some .local:=q;rcases e with z|z;rw[g] at z;cases z;rw[g] at z;cases z;exact⟨f,G,K⟩
 obtain⟨c,d,o,L,hd⟩:=R
 have Q:(DT X scope C).lookup x=some c:=by
  have h:=F8 b;obtain⟨M,O⟩:=N1 (env:=X.env) (acc:=[]) h;obtain⟨f,n⟩:=MV (l:=DT X scope C) (x:=x) (c:=M) (by unfold DT;rw[Kv];exact De _ O);rcases U6 (C:=C) I S (F8 n) with q|q;rcases Pk q with z|z;simp at z;have:=Pl S.ndn h z;cases this;rw[d] at q;cases q;exact n
 obtain⟨Y,q⟩:=J.base.any L (I.freeC x c d) (P x c d);exact .inr ⟨U5 b,c,Q,_,q,hd⟩;show(EH k caps σ).length=N.length;unfold EH;rw[AW,List.length_replicate,Al,S.len]
end
def PF (X:Cx) (f:List Expr) (t:TT):Prop:=
 ∀(pins:List (Addr×Obj))(s:Shared)(σ:St)(H:Hp)(Q:Bool->Hp->Prop),Inv X pins σ H s->t σ H Q ->
  wpAny (model X.prog X.w) X.A (forIn f true λc r=>if r=true then do let ok <-isTrue c X.env (eval c X.env);pure (ForInStep.yield ok) else pure (ForInStep.yield r)) (TP X pins σ Q) X.xe s
def Hm:TT:=λ_ H Q=>Q true H
theorem IA:PF X [] Hm:=λ_ _ _ H _ I h=>wpAny_tests_nil ⟨H,I,h⟩
theorem Po{c:Expr}{t:TT}(h:PT X c t):PF X [c] t:=λpins s σ H Q I a=>wpAny_tests_one (h pins s σ H Q I a)
variable {l j:Expr}{f:List Expr}
theorem Yi{prog:Program}{R:Result->Shared->Prop}{target:Expr}{d acc:Value}(I:Nat->Shared->Prop)
 (turn:∀n s,I n s->wpAny (model prog w) A (pyNext d) (λr b=>match r with
  |none=>R (.ok .next) b
  |some v=>wpAny (model prog w) A (letOwnedTupleGo target d v) (λ_ b=>wpAny (model prog w) A (assign target env v) (λ_ i =>
   wpAny (model prog w) A (forIn f true λc r=>if r=true then do let ok <-isTrue c env (eval c env);pure (ForInStep.yield ok) else pure (ForInStep.yield r)) (λok g =>
    if ok=true then wpAny (model prog w) A (eval l env) (λx k =>
     wpAny (model prog w) A (call (.builtin "list.append") [acc,x]) (λ_ o=>∃m,m<n/\I m o) (λ_ _=>False) k) (λ_ _=>False) g
    else ∃m,m<n/\I m g) (λ_ _=>False) i) (λ_ _=>False) b) (λ_ _=>False) b) (λ_ _=>False) s)
 (n:Nat) (h:I n s) :
 codeAny (model prog w) A (.compLoop (.ListComp l [⟨target,j,f,0⟩] scope L) 0 d acc env) R s:=by
 refine codeAny_loop rfl I (λn s q=>?_) n h
 show wpAny _ A ((compTurn (.ListComp l [⟨target,j,f,0⟩] scope L) 0 d acc env).onRaise (λx=>do noteFrame x env;theTreesLotGoes x)) _ _ s
 refine wpAny_noted ?_;rw[compTurn_list];refine Ad (wpAny_standAt (Ad (FK (turn n s q) (λr b e=>?_) λ_ _ a=>a.elim)))
 cases r with
 |none=>exact Au e
 |some v =>
   refine Ad (FK e (λ_ b e=>?_) λ_ _ a=>a.elim);refine Ad (FK e (λ_ i t=>Ad (FK t (λok g p=>?_) λ_ _ a=>a.elim)) λ_ _ a=>a.elim)
   cases ok with
   |false=>exact Au ⟨rfl,p⟩
   |true =>
     exact Ad (Ad (FK p (λx k u=>Ad (FK u (λ_ o y=>Au (Au ⟨rfl,y⟩)) λ_ _ a=>a.elim)) λ_ _ a=>a.elim))
def Kw (k:Nat) (caps:List Nat) (wi:TI) (g:TG) (tc:TT) (te:TE):TE:=λσ H Q=>wi σ H λJ Y=>∀D,Y D=none->∃W:Nat->Nat->List V->Hp->Prop,(∃m,W 0 m [] (upd Y D (.lst [])))/\∀i m ys H2,W i m ys H2 ->
 (J.stop i H2/\Q (.ref D) H2)\/(J.go i H2/\∀x H3,J.yld i H2 x H3->g x (EH k caps σ) H3 λσ4 H4=>tc σ4 H4 λb H5 =>
  if b=true then te σ4 H5 λy H6=>H6 D=some (.lst ys)/\ys.length<sizeLine/\∃m',m'<m/\W (i+1) m' (ys++[y]) (upd H6 D (.lst (ys++[y]))) else ∃m',m'<m/\W (i+1) m' ys H5)
variable {tg:Expr}{N:List Str}{tc:TT}{te:TE}
theorem U7{k:Nat}{E:Value->Shared->Prop}{Q:VK}
 {it:Addr} {d:List Addr} {G:Nat->Heap->Prop} {J:It} {R:Value->Addr->Result->Shared->Prop} (hc:X.calm=true) (S:At X.env.scope X.N scope N k caps) (I:Inv X pins σ H s)
 (T:Fh X.prog X.w X.K tg J d it G) (st:G 0 s.heap) (r:∀b∈d,Eb X pins H b)
 (hg:∀K C s H ex,PG (EM X N scope K C s H ex) tg g) (ht:∀K C s H ex,PF (EM X N scope K C s H ex) f tc) (he:∀K C s H ex,PE (EM X N scope K C s H ex) l te)
 (q:∀D,H D=none->∃W:Nat->Nat->List V->Hp->Prop,(∃m,W 0 m [] (upd H D (.lst [])))/\∀i m ys M,W i m ys M ->
  (J.stop i M/\Q (.ref D) M)\/(J.go i M/\∀x t,J.yld i M x t->g x (EH k caps σ) t λσ4 H4=>tc σ4 H4 λb O =>
   if b=true then te σ4 O λy U=>U D=some (.lst ys)/\ys.length<sizeLine/\∃h,h<m/\W (i+1) h (ys++[y]) (upd U D (.lst (ys++[y]))) else ∃h,h<m/\W (i+1) h ys O))
 (an:∀D C H' Z m,C≠X.env.locals->(∀x c,X.env.cells.lookup x=some c->c≠C)->Z.heap.Ns C m->(∀h',Heap.SameBut C Z.heap h'->Inv X pins σ H' {Z with heap:=h'})->H' C=none->s.heap.objs.size<=C->Q (.ref D) H'->R (.ref D) C (.ok .next) Z) :
 wpAny (model X.prog X.w) X.A (newList []) (λacc s₃=>wpAny (model X.prog X.w) X.A (newFunctionEnv scope X.env.globals (FZ X.env scope.names []) [] X.env.qual none .none (some X.env)) (λai s₄ =>
  codeAny (model X.prog X.w) X.A (.compStart (.ListComp l [⟨tg,j,f,0⟩] scope L) 0 (.ref it) acc {ai with scope:=relabel scope X.env}) (R acc ai.locals) s₄) E s₃) E s:=by
 refine wpAny_newObj_type (Ye ?_);generalize p:s.heap.objs.size=D;have a0:(s.heap.push {cls:=.type "list",dict:=none,data:=.seq ([]:List Value).toArray}).objs.size=D+1:=(by rw[Heap.size_push,p]);dsimp only;rw[a0];have aa:∀b∈d,∃o,s.heap.get? b=some o:=λb a=>let ⟨o,e,_⟩:=T.obj 0 _ st b a;⟨o,e⟩;have ao:H D=none:=I.hok.fresh (by rw[p];exact AB _);have J0:=Yg (t':=s.toks) I S r aa (D:=D) (C:=D+1) p.symm rfl rfl;have aq:∀x c,X.env.cells.lookup x=some c->c∉d:=λx c e a=>(r c a).2.2.2.2.1 x c e rfl
 have ab:∀{F:List (Addr×Obj)}{H':Hp},(∀b∈d,H' b=none)->F=[]->∀b∈d,Eb (EM X N scope (DT X scope (D+1)) (D+1) s H d) F H' b:=λ{F H'}hn hp b a=>by
  obtain⟨o,e⟩:=aa b a;have ar:@LT.lt Nat _ b D:=by rw[<-p];exact A1 e
  subst hp;refine⟨hn b a,?_,λz=>?_,.inl a,λx c e=>(J0.ok.exf b a).2 x c e,λa1 hp=>absurd hp (by simp)⟩;show @Ne Nat b (D+1);omega;have z':b∈EV X.stack:=z;rcases Ce.mp (I.stkSub b z') with w|w;exact(r b a).2.1 w;exact(r b a).2.2.1 w
 obtain⟨W,⟨m0,w0⟩,turn⟩:=q D ao;have af:G 0 (pushCells ((s.heap.push {cls:=.type "list",data:=.seq #[]}).push {cls:=.type "dict",data:=.dict #[]}) scope.names):=T.keep 0 _ _ st λb a o e=>pushCells_keeps _ _ b o (A8 _ (A8 _ e))
 have au:∀b∈d,(upd H D (.lst [])) b=none:=λb a=>by
  obtain⟨o,e⟩:=aa b a;have ar:@LT.lt Nat _ b D:=by rw[<-p];exact A1 e
  rw[AC (show @Ne Nat b D by omega)];exact(r b a).1
 have av:∀{H':Hp}{Z:Shared}{σ':St}{F:List (Addr×Obj)},Inv (EM X N scope (DT X scope (D+1)) (D+1) s H d) F σ' H' Z->Q (.ref D) H'->R (.ref D) (D+1) (.ok .next) Z:=λ{H' Z σ' F}J q=>by
  obtain⟨m,hn,_⟩:=id J.loc;refine an D (D+1) H' Z m (λz=>?_) (λx c e z=>?_) hn (λh' hs=>?_) J.free (by rw[p];exact Nat.le_succ _) q;have h1:@LT.lt Nat _ X.env.locals D:=by rw[<-p];exact I.lt
  have z':@Eq Nat (D+1) X.env.locals:=z;omega;obtain⟨v,y⟩:=I.cell x c e;have h1:@LT.lt Nat _ c D:=by rw[<-p];exact y.lt
  have z':@Eq Nat c (D+1):=z;omega;refine I.call' (ch:=d) J.os (J.base.but hs (by rw[p];exact Nat.le_succ _)) (J.hok.but hs J.free) J.bare λb a=>?_;exact⟨(r b a).2.2.2.1,(r b a).2.1,(r b a).2.2.2.2.1,(r b a).2.2.2.2.2⟩
 have aj:codeAny (model X.prog X.w) X.A (.compLoop (.ListComp l [⟨tg,j,f,0⟩] scope L) 0 (.ref it) (.ref D) (compEnvC scope (DT X scope (D+1)) (D+1) X.env)) (R (.ref D) (D+1))
  {s with heap:=pushCells ((s.heap.push {cls:=.type "list",data:=.seq #[]}).push {cls:=.type "dict",data:=.dict #[]}) scope.names}:=by
  refine Yi (λn Z=>∃i ys H',Inv (EM X N scope (DT X scope (D+1)) (D+1) s H d) [] (EH k caps σ) H' Z/\G i Z.heap/\(∀b∈d,H' b=none)/\W i n ys H') ?_ m0 ⟨0,[],_,J0,af,au,w0⟩;rintro n s3 ⟨i,ys,t,I3,ag,ah,w3⟩;rcases turn i n ys t w3 with⟨stop,qn⟩|⟨go,step⟩
  . refine AV (T.done (EM X N scope (DT X scope (D+1)) (D+1) s H d) rfl rfl rfl hc i [] s3 _ t _ I3 (ab ah rfl) ag stop) λak s4⟨hr,I4⟩=>?_
    subst hr;exact av I4 qn
  refine AV (T.item (EM X N scope (DT X scope (D+1)) (D+1) s H d) rfl rfl rfl hc i [] s3 _ t _ I3 (ab ah rfl) ag go) λak s4⟨al,hr,h4⟩=>?_;subst hr;refine AV h4 λ_ s5⟨x,O,I5,r5,y5,ae,aw⟩=>?_;have ax:=I5.pinned (ab aw rfl) (T.obj _ _ ae)
  have again:∀{σ7:St}{u:Hp}{A:Shared}{h:Nat}{zs:List V},Inv (EM X N scope (DT X scope (D+1)) (D+1) s H d) ([]++NH d s5.heap) σ7 u A->h<n->W (i+1) h zs u ->
   ∃m,m<n/\∃i ys H',Inv (EM X N scope (DT X scope (D+1)) (D+1) s H d) [] (EH k caps σ) H' A/\G i A.heap/\(∀b∈d,H' b=none)/\W i m ys H':=λ{σ7 u A h zs}B P w7=>by
   refine⟨h,P,i+1,zs,u,Yh I S aq (by rw[p];exact Nat.le_succ _) B.unpinned,T.keep _ _ _ ae λb a o e=>(B.pin (b,o) (De _ (De _ (O8 a e)))).1,λb a=>?_,w7⟩;obtain⟨o,e,a2⟩:=T.obj _ _ ae b a;exact(B.pin (b,o) (De _ (De _ (O8 a e)))).2.1
  refine AV (hg _ _ _ _ _ _ s5 _ O x al _ ax r5 (step x O y5)) λ_ s6⟨σ6,U,I6,q6⟩=>?_;refine AV (ht _ _ _ _ _ _ s6 σ6 U _ I6 q6) λb A⟨u,B,Y⟩=>?_
  cases b with
  |false =>
    rw[Ak Cq] at Y ⊢;obtain⟨h,P,w7⟩:=Y;exact again B P w7
  |true =>
    rw[Aj rfl] at Y ⊢;refine AV (he _ _ _ _ _ _ A σ6 u _ B Y) λy s8⟨yv,H8,I8,r8,ay,az,h,P,w8⟩=>?_;refine AV (UR (X:=EM X N scope (DT X scope (D+1)) (D+1) s H d) _ s8 σ6 H8 (.ref D) [yv] (.ref D) [y] (λ_ H9=>W (i+1) h (ys++[yv]) H9) I8 rfl (.cons r8 .nil) ⟨ys,ay,az,w8⟩) λ_ s9⟨_,H9,I9,_,w9⟩=>?_;exact again I9 P w9
 exact codeAny_compStart_list aj (T.self _ 0 _ _ _ af aj)
theorem Ho{k:Nat}{b:TI}(c:X.calm=true)(S:At X.env.scope X.N scope N k caps)(d:PI X tg j b)
 (i:∀a C s H ex,PG (EM X N scope a C s H ex) tg g) (n:∀a C s H ex,PF (EM X N scope a C s H ex) f tc) (o:∀a C s H ex,PE (EM X N scope a C s H ex) l te)
 (p:∀x,foldedSetIterable j X.env x=pure x:=by intro _;rfl):PE X (.ListComp l [⟨tg,j,f,0⟩] scope L) (Kw k caps b g tc te):=by
 intro pins s σ H Q I h;have E:closureFor scope X.env=pure (FZ X.env scope.names []):=U1 λx r F=>I.ok.has x.1 (S.free x r F);rw[eval_ListComp];refine wpAny_comprehension_free (use:=none) rfl p E S.kind S.loc (AV (d pins s σ H _ I h) λv M h1=>AV h1 λW O t=>?_);obtain⟨P,R,U,J,V,e,u,T,G,w,q⟩:=t;subst e;refine U7 (Q:=Q) c S u T G w i n o q ?_;intro D C H' Z m _ _ y z _ _ A;exact⟨m,y,λB K=>⟨.ref D,H',z B K,rfl,A⟩⟩
theorem R6{E:Pos}{k:Nat}{t:Pos}{u:TI}(F:X.N.Nodup)(aa:X.N[i]?=some x)(n:Loc X.env.scope x)
 (G:X.calm=true) (S:At X.env.scope X.N scope N k caps) (J:PI X tg j u)
 (K:∀c C s H ex,PG (EM X N scope c C s H ex) tg g) (M:∀c C s H ex,PF (EM X N scope c C s H ex) f tc) (O:∀c C s H ex,PE (EM X N scope c C s H ex) l te)
 (ab:swapsWith (.ListComp l [⟨tg,j,f,0⟩] scope L) (some (.Name x t)) E.line X.env=pure true:=by rfl)
 (P:∀x,foldedSetIterable j X.env x=pure x:=by intro _;rfl) (ae:X.fn x=true\/X.env.scope.names.lookup x=some .local:=by first|exact .inl rfl|exact .inr rfl|assumption) :
 PS X (.Assign [.Name x t] (.ListComp l [⟨tg,j,f,0⟩] scope L) E) (IV (Kw k caps u g tc te) (Ko i)):=by
 intro pins s σ H D I h;have af:closureFor scope X.env=pure (FZ X.env scope.names []):=U1 λx n ag=>I.ok.has x.1 (S.free x n ag);rw[exec_Assign_Name_used _ _ _ _ ab];refine Ad (wpAny_standAt (Ad ?_))
 show wpAny _ _ (do let _ <-comprehension (.ListComp l [⟨tg,j,f,0⟩] scope L) scope X.env _ (newList []) false (eval j X.env) (some (assign (.Name x t) X.env))) _ _ s
 refine Ad (FK (wpAny_comprehension_free (use:=some (assign (.Name x t) X.env)) (Q:=λ_ Z=>SP X pins D .next Z) rfl P af S.kind S.loc
  (AV (J pins s σ H _ I h) λv s1 h1=>AV h1 λau s2 R=>?_)) (λ_ Z o=>Au (Au o)) λ_ _ e=>e)
 obtain⟨it,fp,tn,aq,H2,e,r,T,ah,U,q⟩:=R;subst e;refine U7 (Q:=λx Y=>Ko i x σ Y D.nx) G S r T ah U K M O q ?_;intro w C H' Z m y A W hI ai B o;have I3:=hI Z.heap (.refl ..);have aj:Inv X pins σ H' Z:=I3;refine wpAny_assign_Name (Uq aj F aa n (show RelV (V.ref w) (.ref w) from rfl) (λak I4⟨a,al,d⟩=>?_) ae)
 have an:C≠a:=by
  rcases d with d|d;rw[d];exact y;exact Ne.symm (A x a d)
 refine⟨m,W.sameBut al an,λh' ao=>?_⟩;refine⟨_,H',?_,o⟩
 exact I4.turned (t':=ak.toks) (λb ar hb e=>(ao.2 b hb).trans e) ai y (.inr (Ek r.sz B)) A λp hp z=>by
  have:=A1 (r.pin p hp).1;rw[z] at this;exact absurd (FI this B) (F7 _)
def BF (P:Program) (w:World) (K:Ah) (mg:Str->Option Value) (base:Heap) (x:Str) (k:Nat) (ps:List Str) (sp:Sp):Prop:=
 ∃f fd,Ep P w K mg base Iy k f fd ps sp/\mg x=some (.ref f)/\PySem.W.keepIn K (.ref f)=true/\Binds K fd ps []
section
variable {X:Cx} {x:Str} {k:Nat} {ps:List Str} {sp:Sp} {e:Expr} {es:List Expr} {t:TA} {p L:Pos}
theorem Ba(C:BF X.prog X.w X.K X.mg X.base x k ps sp)(a:PA X (e::es) t)(b:BX k X.A:=by exact BX.mono (by assumption) (by decide))(c:Gl X x:=by rfl)(j:(x==("__debug__" : Str))=false:=by decide)
 (d:starEach (e::es) X.env=(false,eval e X.env)::starEach es X.env:=by rfl) (l:(backTo L (starEach es X.env)).any (·.1)=false:=by rfl):PE X (.Call (.Name x p) (e::es) [] L) (He sp [] E0 t):=by
 obtain⟨f,fd,F,g,h,i⟩:=C;exact IZ F b c g h i .nil NY a j d l
end
theorem IB(n:String)(a:Gl X x)(b:X.mg x=none)(hv:bootBuiltins x=some (.type n))(c:x ≠ "__name__" :=by decide)(hd:(x==("__debug__" : Str))=false:=by decide):PE X (.Name x L) (tC (.ty n)):=IT (v:=.ty n) a b hv rfl c hd
theorem IC{t u:TS}{σ:L2.St}(P:L2.St->Hp->Prop)(a:∀σ' H',P σ' H'->u D σ' H')(b:∀N:L2.St->Hp->Prop,(∀σ' H',P σ' H'->N σ' H')->t {D with nx:=N} σ H):K5 t u D σ H:=b (u D) a
theorem Ac.upd{H H':Hp}{D:Addr}{o:HO}(h:Ac H H')(a:H D=none):Ac H (upd H' D o):=λb u e=>by
 rw[AC (AJ e a)];exact h b u e
theorem Ac.seqT{K:Ah}(e:Ac H H')(h:Aq K H a xs):Aq K H' a xs:=by
 rcases h with(h|⟨o,h⟩)|h;exact .inl (.inl (e _ _ h));exact .inl (.inr ⟨o,e _ _ h⟩);exact .inr h
theorem R7{K:Ah}{k:Nat}{Y:Hp}{Q:Addr->Hp->Prop}(f:V->V)(z:xs.length<=sizeLine)(v:Ag K Y a xs)
 (w:∀(i:Nat)(x:V)(c:Hp)(D:Addr)(R:VK),xs[i]?=some x->Ac Y c->Y D=none->(∀d,Ac c d->R (f x) d)->g x (EH k caps σ) c λσ4 j=>te σ4 j R)
 (hd:∀(c:Hp)(D:Addr),Ac Y c->Y D=none->c D=some (.lst (xs.map f))->Q D c) :
 ∀D,Y D=none->∃W:Nat->Nat->List V->Hp->Prop,(∃m,W 0 m [] (upd Y D (.lst [])))/\∀i m ys c,W i m ys c ->
  ((Gq K a).stop i c/\Q D c)\/((Gq K a).go i c/\∀x d,(Gq K a).yld i c x d->g x (EH k caps σ) d λσ4 j=>Hm σ4 j λb q =>
   if b=true then te σ4 q λy r=>r D=some (.lst ys)/\ys.length<sizeLine/\∃h,h<m/\W (i+1) h (ys++[y]) (upd r D (.lst (ys++[y]))) else ∃h,h<m/\W (i+1) h ys q):=by
 intro D l;refine⟨λi m ys c=>m=xs.length-i/\i<=xs.length/\ys=(xs.take i).map f/\Ac Y c/\c D=some (.lst ys),⟨xs.length,rfl,Ci _,rfl,(Ac.refl _).upd l,Aa⟩,?_⟩;rintro i m ys c ⟨rfl,A,rfl,n,o⟩;have p:=n.seq v;by_cases u:i<xs.length;refine .inr ⟨⟨xs,xs[i],p,by simp[u]⟩,λx d y=>?_⟩;obtain⟨rfl,y⟩:=y;have s:=y xs p;refine w i x d D _ s n l λj t=>?_;refine⟨t _ _ o,by rw[Al,FH];omega,xs.length-(i+1),by omega,rfl,u,?_,(n.trans t).upd l,Aa⟩;rw[DJ,s,Bn];rfl;have e:i=xs.length:=(by omega);subst e;rw[D8] at o;exact .inl ⟨⟨xs,p,AB _⟩,hd c D n l o⟩
def Fk (ns:List Int) (k:Int):Int:=(ns[k.toNat]?).getD 0
theorem R8{u:TS}(h:u D (σ.set i (some v)) H):K5 (IV (tC v) (Ko i)) u D σ H:=h
theorem N2{k:Int}(a:0<=k)(h1:k<n):Hf n k=some k.toNat:=by
 unfold Hf;rw[Aj a,Aj h1]
theorem Yj(xs:List V)(n:Nat):DN xs none (some (n:Int))=xs.take n:=by
 unfold DN;rw[HT.sIx_none,HT.sIx_nat,List.drop_zero,Nat.sub_zero];by_cases h:n<=xs.length;rw[Nat.min_eq_left h];rw[Nat.min_eq_right (by omega),List.take_of_length_le (AB _),List.take_of_length_le (by omega)]
theorem Yk(xs:List V)(n:Nat):DN xs (some (n:Int)) none=xs.drop n:=by
 unfold DN;rw[HT.sIx_none,HT.sIx_nat];by_cases h:n<=xs.length;rw[Nat.min_eq_left h,List.take_of_length_le (by rw[Kh];exact AB _)];rw[Nat.min_eq_right (by omega),List.drop_of_length_le (AB _),List.drop_of_length_le (by omega)]
 simp
theorem Yl(xs:List V)(a b:Nat)(e:a<=b):DN xs (some (a:Int)) (some (b:Int))=(xs.drop a).take (b-a):=by
 unfold DN;rw[HT.sIx_nat,HT.sIx_nat];by_cases c:a<=xs.length;rw[Nat.min_eq_left c];by_cases d:b<=xs.length;rw[Nat.min_eq_left d];rw[Nat.min_eq_right (show xs.length<=b by omega),List.take_of_length_le (by rw[Kh];exact AB _),List.take_of_length_le (by rw[Kh];omega)];rw[Nat.min_eq_right (show xs.length<=a by omega),List.drop_of_length_le (AB _),List.drop_of_length_le (show xs.length<=a by omega)]
 simp
theorem Bc{p:Addr}{o:HO}(h:H p=none):Ac H (upd H p o):=(Ac.refl H).upd h
theorem AN{σ:L2.St}{N:L2.St->Hp->Prop}(h:N (σ.set i (some v)) H):Ko i v σ H N:=h
section
variable {X:Cx}
theorem EI:NL X "list.append" UQ:=UR
theorem N4:NL X "list.extend" US:=X0
end
section
variable {X:Cx}
def Ji (neg:Bool):R2:=λx y H Q=>∃a o,y=.ref a/\Dj H a x o/\Q (.bl (o.isSome != neg)) H
theorem U8(b:X.A.units+1<cLine):DM X (compareOp .In) (Ji false):=by
 intro pins s σ H x y v u Q I c d h;obtain⟨a,o,rfl,g,q⟩:=h;cases d;refine RV b I g c λZ e=>⟨.bl _,H,e,?_,q⟩;cases o<;>rfl
def Ym:V->V->V->Hp->(Hp->Prop)->Prop:=λo i v H Q=>∃a H',o=.ref a/\Hj H a i v H'/\Q H'
theorem Yn(b:X.A.units+1<cLine):IU X Ym:=by
 intro pins s σ H o i v j k u Q I c d e h;obtain⟨a,H',rfl,g,q⟩:=h;cases c;exact X2 b I g d e λZ f=>⟨H',f,q⟩
theorem Jj{a:Expr}{b:TE}(c:PE X a b)(d:∀whole,isTrue a X.env whole=(do let v <-whole;standAt a.pos;holding [v] (truthy v)):=by intro _;rfl) :
 PT X a (λσ H Q=>b σ H λx Y=>∃p xs,x=.ref p/\Ag X.K Y p xs/\Q (!xs.isEmpty) Y):=by
 intro pins s σ H Q I e;refine isTrue_plain (AV (c pins s σ H _ I e) λv f⟨x,Y,g,h,i⟩=>?_) (d _);obtain⟨p,xs,rfl,j,q⟩:=i;exact Lh pins f σ Y _ v Q g h ⟨_,Or.inl ⟨xs,j,rfl⟩,q⟩
end
section
variable {prog:Program} {w:World} {A:Around} {R:Result->Shared->Prop} {It:Addr} {fp r:List Addr} {G:Array GenState->Array GenState->Prop} {n:Nat} {Pn:Nat->Value->Prop} {Sn:Nat->Shared->Prop}
end
section
variable {prog:Program} {w:World} {A:Around} {E:Value->Shared->Prop} {s:Shared}
end
section
variable {X:Cx}
end
open PySem.SeqAt
inductive Dt where
 |non|bl (b:Bool)|int (i:Int)|str (x:Str)|tup (l:List Dt)|lst (l:List Dt)
mutual
inductive Ar (K:Ah) (H:Hp):V->Dt->Prop where
 | non:Ar K H .non .non
 | bl (b:Bool):Ar K H (.bl b) (.bl b)
 | int (i:Int):Ar K H (.int i) (.int i)
 | str (x:Str):Ar K H (.str x) (.str x)
 | tup {a:Addr} {vs:List V} {ds:List Dt} (h:Aq K H a vs) (t:An K H vs ds):Ar K H (.ref a) (.tup ds)
 | lst {a:Addr} {vs:List V} {ds:List Dt} (h:Ag K H a vs) (t:An K H vs ds):Ar K H (.ref a) (.lst ds)
inductive An (K:Ah) (H:Hp):List V->List Dt->Prop where
 | nil:An K H [] []
 | cons {v:V} {d:Dt} {vs:List V} {ds:List Dt} (h:Ar K H v d) (t:An K H vs ds):An K H (v :: vs) (d :: ds)
end
mutual
theorem Ar.same {K:Ah}{H H':Hp} (e:Ac H H') {v:V} {d:Dt} (h:Ar K H v d):Ar K H' v d:=by
 cases h with
 | non=>exact .non
 | bl b=>exact .bl b
 | int i=>exact .int i
 | str x=>exact .str x
 | tup h t=>exact .tup (e.seqT h) (An.same e t)
 | lst h t=>exact .lst (e.seq h) (An.same e t)
theorem An.same {K:Ah}{H H':Hp} (e:Ac H H') {vs:List V} {a:List Dt} (h:An K H vs a):An K H' vs a:=by
 cases h with
 | nil=>exact .nil
 | cons h t=>exact .cons (Ar.same e h) (An.same e t)
end
theorem An.length{K:Ah}{H:Hp}:∀{vs:List V}{a:List Dt},An K H vs a->vs.length=a.length
 |_,_,.nil=>rfl
 |_,_,.cons _ t=>BC (·+1) t.length
theorem An.get{K:Ah}{H:Hp}:∀{vs:List V}{a:List Dt}{i:Nat}{v:V},An K H vs a->vs[i]?=some v->∃d,a[i]?=some d/\Ar K H v d
 |_,_,_,_,.nil,e=>by simp at e
 |_,_,0,_,.cons h _,e=>by simp at e;subst e;exact⟨_,rfl,h⟩
 |_,_,i+1,v,.cons _ t,e=>by
   obtain⟨d,h1,b⟩:=An.get (i:=i) (v:=v) t (by simpa using e);exact⟨d,by simpa using h1,b⟩
theorem An.get'{K:Ah}{H:Hp}:∀{vs:List V}{a:List Dt}{i:Nat}{d:Dt},An K H vs a->a[i]?=some d->∃v,vs[i]?=some v/\Ar K H v d
 |_,_,_,_,.nil,e=>by simp at e
 |_,_,0,_,.cons h _,e=>by simp at e;subst e;exact⟨_,rfl,h⟩
 |_,_,i+1,v,.cons _ t,e=>by
   obtain⟨d,h1,b⟩:=An.get' (i:=i) (d:=v) t (by simpa using e);exact⟨d,by simpa using h1,b⟩
theorem An.strs{K:Ah}{H:Hp}:∀(xs:List Str),An K H (xs.map V.str) (xs.map Dt.str)
 |[]=>.nil
 |x::xs=>.cons (.str x) (An.strs xs)
section
variable {X:Cx} {pins:List (Addr×Obj)} {σ:St} {H:Hp} {s:Shared}
theorem Inv.not_both(I:Inv X pins σ H s){ys:List V}(h:Ag X.K H a xs)(h':Aq X.K H a ys):False:=by
 obtain⟨_,_,⟨o,n,e,c,_⟩,_⟩:=I.list h;obtain⟨_,_,⟨f,b,d,_⟩,_⟩:=I.tuple h';rw[e] at b;cases b;rw[c] at d;exact absurd d (by decide)
mutual
theorem Ar.inj (I:Inv X pins σ H s) {v:V} {d e:Dt} (h:Ar X.K H v d) (h':Ar X.K H v e):d=e:=by
 cases h with
 | non=>cases h';rfl
 | bl _=>cases h';rfl
 | int _=>cases h';rfl
 | str _=>cases h';rfl
 | tup h t=>cases h' with
   | tup h' a =>
     have e:=I.tuple_inj h h';subst e;rw[An.inj I t a]
   | lst h' _=>exact(I.not_both h' h).elim
 | lst h t=>cases h' with
   | lst h' a =>
     have e:=I.list_inj h h';subst e;rw[An.inj I t a]
   | tup h' _=>exact(I.not_both h h').elim
theorem An.inj (I:Inv X pins σ H s) {vs:List V} {a es:List Dt} (h:An X.K H vs a) (h':An X.K H vs es):a=es:=by
 cases h with
 | nil=>cases h';rfl
 | cons h t=>cases h' with
   | cons h' b=>rw[Ar.inj I h h',An.inj I t b]
end
end
def Dt.kd:Dt->Nat
 |.non=>0|.bl _=>1|.int _=>2|.str _=>3|.tup _=>4|.lst _=>5
def GY (a b:Nat):Bool:=a != b && !(a==1 && b==2) && !(a==2 && b==1)
mutual
inductive Fl:Nat->Dt->Dt->Prop where
 | non {n:Nat}:Fl n .non .non
 | bl {n:Nat} (a b:Bool):Fl n (.bl a) (.bl b)
 | int {n:Nat} (a b:Int):Fl n (.int a) (.int b)
 | str {n:Nat} (a b:Str):Fl n (.str a) (.str b)
 | tup {n:Nat} {ds es:List Dt} (t:CB n ds es):Fl (n+1) (.tup ds) (.tup es)
 | lst {n:Nat} {ds es:List Dt} (t:CB n ds es):Fl (n+1) (.lst ds) (.lst es)
 | apart {n:Nat} {d e:Dt} (h:GY d.kd e.kd=true):Fl (n+1) d e
inductive CB:Nat->List Dt->List Dt->Prop where
 | nil {n:Nat} (es:List Dt):CB n [] es
 | nil' {n:Nat} (ds:List Dt):CB n ds []
 | cons {n:Nat} {d e:Dt} {ds es:List Dt} (h:Fl n d e) (t:CB n ds es):CB n (d :: ds) (e :: es)
end
theorem CB.of{n:Nat}:∀{a es:List Dt},(∀d∈a,∀e∈es,Fl n d e)->CB n a es
 |[],es,_=>.nil es
 |d::a,[],_=>.nil' _
 |d::a,e::es,h=>.cons (h d (by simp) e (by simp)) (CB.of λx b y c=>h x (by simp[b]) y (by simp[c]))
open Classical in
noncomputable def dec (p:Prop):Bool:=decide p
variable {p:Prop}
theorem FD(h:p):dec p=true:=@A4 p (Classical.propDecidable p) h
theorem F0(h:¬p):dec p=false:=@DS p (Classical.propDecidable p) h
theorem Fm:dec p=true↔p:=⟨λh=>@Bg p (Classical.propDecidable p) h,FD⟩
theorem MW{q:Prop}(h:p↔q):dec p=dec q:=by rw[propext h]
theorem R9{α:Type} [BEq α] [LawfulBEq α]{a b:α}(h:p↔a=b):(a==b)=dec p:=by
 by_cases e:a=b;subst e;rw[FD (h.mpr rfl)];exact beq_self_eq_true _;rw[F0 λq=>e (h.mp q)];exact beq_false_of_ne e
variable {ds es:List Dt}
theorem Yo(b:ds.length=es.length)(h:∀i,i<ds.length->ds[i]?=es[i]?):ds=es:=List.ext_getElem? λi=>by
 by_cases a:i<ds.length;exact h i a;rw[Gk (by omega),Gk (by omega)]
section
variable {X:Cx} {pins:List (Addr×Obj)} {σ:St} {H:Hp} {s:Shared}
theorem Hq(A:Around):A.in1.units=A.units+1:=rfl
theorem U9(I:Inv X pins σ H s){vs us:List V}{a b:List Value}(c:As vs a)(f:As us b)(J:An X.K H vs ds)(n:An X.K H us es)
 (o:∀(i:Nat)(d e:Dt)(v u:V)(x y:Value),ds[i]?=some d->es[i]?=some e->RelV v x->RelV u y->Ar X.K H v d->Ar X.K H u e->EqAt A s x y (dec (d=e))) :
 ∀j(h1:j<a.toArray.size)(g:j<b.toArray.size),EqAt A s a.toArray[j] b.toArray[j] (dec (ds[j]?=es[j]?)):=by
 intro j h1 g;have C:=c.length;have D:=f.length;have z:j<a.length:=(by simpa using h1);have B:j<b.length:=(by simpa using g);obtain⟨x,h,r⟩:=c.get (i:=j) (x:=vs[j]'(by omega)) (AD (by omega));obtain⟨y,l,t⟩:=f.get (i:=j) (x:=us[j]'(by omega)) (AD (by omega));obtain⟨d,hd,k⟩:=J.get (i:=j) (v:=vs[j]'(by omega)) (AD (by omega));obtain⟨e,m,te⟩:=n.get (i:=j) (v:=us[j]'(by omega)) (AD (by omega))
 have ex:a.toArray[j]=x:=by
  rw[AD z] at h;simpa using h
 have w:b.toArray[j]=y:=by
  rw[AD B] at l;simpa using l
 rw[ex,w,hd,m];have:=o j d e _ _ x y hd m r t k te;rw[MW (p:=some d=some e) (q:=d=e) (by simp)];exact this
theorem Va(a:n=ds.length)(b:ds.length=es.length):(List.range n).all (λj=>dec (ds[j]?=es[j]?))=dec (ds=es):=by
 subst a;by_cases h:ds=es;subst h;rw[FD rfl,List.all_eq_true];exact λi _=>FD rfl;rw[F0 h,Bool.eq_false_iff];intro q;rw[List.all_eq_true] at q;exact h (Yo b λi c=>Fm.mp (q i (List.mem_range.mpr c)))
variable {d e:Dt}{u:V}{y:Value}
theorem Yp(I:Inv X pins σ H s){x:Value}(h:GY d.kd e.kd=true)(k:Ar X.K H v d)(te:Ar X.K H u e)(j:RelV v x)(f:RelV u y)(c:A.units<cLine):EqAt A s x y false/\RcAt A s x y false/\RcNeAt A s x y true:=by
 cases k with
 |non =>
   cases j
   cases te with
   |non=>exact absurd h (by simp[GY,Dt.kd])
   |bl b =>
     cases f;exact⟨EqAt.none_bool _,RcAt.none_bool _,RcNeAt.none_bool _⟩
   |int b =>
     obtain⟨i,rfl⟩:=f;exact⟨EqAt.none_int _ _,RcAt.none_int _ _,RcNeAt.none_int _ _⟩
   |str b =>
     obtain⟨i,rfl⟩:=f;exact⟨EqAt.none_str _ _,RcAt.none_str _ _,RcNeAt.none_str _ _⟩
   |tup g i =>
     cases f;obtain⟨_,_,J,_⟩:=I.tuple g;exact⟨EqAt.none_tuple J c,RcAt.none_tuple J c,RcNeAt.none_tuple J c⟩
   |lst g i =>
     cases f;obtain⟨_,_,J,_⟩:=I.list g;have J:=J.isList;exact⟨EqAt.none_list J c,RcAt.none_list J c,RcNeAt.none_list J c⟩
 |bl a =>
   cases j
   cases te with
   |non =>
     cases f;exact⟨EqAt.bool_none _,RcAt.bool_none _,RcNeAt.bool_none _⟩
   |bl b=>exact absurd h (by simp[GY,Dt.kd])
   |int b=>exact absurd h (by simp[GY,Dt.kd])
   |str b =>
     obtain⟨i,rfl⟩:=f;exact⟨EqAt.bool_str _ _ _,RcAt.bool_str _ _ _,RcNeAt.bool_str _ _ _⟩
   |tup g i =>
     cases f;obtain⟨_,_,J,_⟩:=I.tuple g;exact⟨EqAt.bool_tuple _ J c,RcAt.bool_tuple _ J c,RcNeAt.bool_tuple _ J c⟩
   |lst g i =>
     cases f;obtain⟨_,_,J,_⟩:=I.list g;have J:=J.isList;exact⟨EqAt.bool_list _ J c,RcAt.bool_list _ J c,RcNeAt.bool_list _ J c⟩
 |int a =>
   obtain⟨t,rfl⟩:=j
   cases te with
   |non =>
     cases f;exact⟨EqAt.int_none _ _,RcAt.int_none _ _,RcNeAt.int_none _ _⟩
   |bl b=>exact absurd h (by simp[GY,Dt.kd])
   |int b=>exact absurd h (by simp[GY,Dt.kd])
   |str b =>
     obtain⟨i,rfl⟩:=f;exact⟨EqAt.int_str _ _ _ _,RcAt.int_str _ _ _ _,RcNeAt.int_str _ _ _ _⟩
   |tup g i =>
     cases f;obtain⟨_,_,J,_⟩:=I.tuple g;exact⟨EqAt.int_tuple _ _ J c,RcAt.int_tuple _ _ J c,RcNeAt.int_tuple _ _ J c⟩
   |lst g i =>
     cases f;obtain⟨_,_,J,_⟩:=I.list g;have J:=J.isList;exact⟨EqAt.int_list _ _ J c,RcAt.int_list _ _ J c,RcNeAt.int_list _ _ J c⟩
 |str a =>
   obtain⟨t,rfl⟩:=j
   cases te with
   |non =>
     cases f;exact⟨EqAt.str_none _ _,RcAt.str_none _ _,RcNeAt.str_none _ _⟩
   |bl b =>
     cases f;exact⟨EqAt.str_bool _ _ _,RcAt.str_bool _ _ _,RcNeAt.str_bool _ _ _⟩
   |int b =>
     obtain⟨i,rfl⟩:=f;exact⟨EqAt.str_int _ _ _ _,RcAt.str_int _ _ _ _,RcNeAt.str_int _ _ _ _⟩
   |str b=>exact absurd h (by simp[GY,Dt.kd])
   |tup g i =>
     cases f;obtain⟨_,_,J,_⟩:=I.tuple g;exact⟨EqAt.str_tuple _ _ J c,RcAt.str_tuple _ _ J c,RcNeAt.str_tuple _ _ J c⟩
   |lst g i =>
     cases f;obtain⟨_,_,J,_⟩:=I.list g;have J:=J.isList;exact⟨EqAt.str_list _ _ J c,RcAt.str_list _ _ J c,RcNeAt.str_list _ _ J c⟩
 |tup h1 l =>
   cases j;obtain⟨_,_,p,_⟩:=I.tuple h1
   cases te with
   |non =>
     cases f;exact⟨EqAt.tuple_none p c,RcAt.tuple_none p c,RcNeAt.tuple_none p c⟩
   |bl b =>
     cases f;exact⟨EqAt.tuple_bool _ p c,RcAt.tuple_bool _ p c,RcNeAt.tuple_bool _ p c⟩
   |int b =>
     obtain⟨i,rfl⟩:=f;exact⟨EqAt.tuple_int _ _ p c,RcAt.tuple_int _ _ p c,RcNeAt.tuple_int _ _ p c⟩
   |str b =>
     obtain⟨i,rfl⟩:=f;exact⟨EqAt.tuple_str _ _ p c,RcAt.tuple_str _ _ p c,RcNeAt.tuple_str _ _ p c⟩
   |tup g i=>exact absurd h (by simp[GY,Dt.kd])
   |lst g i =>
     cases f;obtain⟨_,_,J,_⟩:=I.list g;have J:=J.isList;exact⟨EqAt.tuple_list p J c,RcAt.tuple_list p J c,RcNeAt.tuple_list p J c⟩
 |lst h1 l =>
   cases j;obtain⟨_,_,p,_⟩:=I.list h1;have p:=p.isList
   cases te with
   |non =>
     cases f;exact⟨EqAt.list_none p c,RcAt.list_none p c,RcNeAt.list_none p c⟩
   |bl b =>
     cases f;exact⟨EqAt.list_bool _ p c,RcAt.list_bool _ p c,RcNeAt.list_bool _ p c⟩
   |int b =>
     obtain⟨i,rfl⟩:=f;exact⟨EqAt.list_int _ _ p c,RcAt.list_int _ _ p c,RcNeAt.list_int _ _ p c⟩
   |str b =>
     obtain⟨i,rfl⟩:=f;exact⟨EqAt.list_str _ _ p c,RcAt.list_str _ _ p c,RcNeAt.list_str _ _ p c⟩
   |tup g i =>
     cases f;obtain⟨_,_,J,_⟩:=I.tuple g;exact⟨EqAt.list_tuple p J c,RcAt.list_tuple p J c,RcNeAt.list_tuple p J c⟩
   |lst g i=>exact absurd h (by simp[GY,Dt.kd])
theorem Vb(I:Inv X pins σ H s){x:Value}(k:Ar X.K H v d)(te:Ar X.K H u e)(b:RelV v x)(i:RelV u y)(h:RcAt A s x y (dec (d=e))):EqAt A s x y (dec (d=e)):=by
 by_cases g:x=y;subst g;have j:=b.inj i;subst j;rw[FD (Ar.inj I k te)];exact EqAt.same _;intro f w E Q c;unfold eqBool;refine Ff ?_;refine wpAny_ite_split (λl=>absurd (eq_of_beq l) g) (λ_=>?_)
 cases k with
 |non=>cases b;exact Ad (h f w E _ (FJ c))
 |bl a=>cases b;exact Ad (h f w E _ (FJ c))
 |int a=>obtain⟨t,rfl⟩:=b;exact Ad (h f w E _ (FJ c))
 |str a=>obtain⟨t,rfl⟩:=b;exact Ad (h f w E _ (FJ c))
 |tup _ _=>cases b;exact Ad (h f w E _ (FJ c))
 |lst _ _=>cases b;exact Ad (h f w E _ (FJ c))
theorem N5(h:GY d.kd e.kd=true):¬d=e:=λz=>by
 subst z;simp[GY] at h
mutual
theorem Vc (I:Inv X pins σ H s) {n:Nat} {d e:Dt} {v u:V} {x y:Value} {A:Around} (c:Fl n d e) (k:Ar X.K H v d) (te:Ar X.K H u e) (g:RelV v x) (i:RelV u y) (O:A.units+n<cLine):RcAt A s x y (dec (d=e))/\RcNeAt A s x y (!dec (d=e)):=by
 cases c with
 | non =>
   cases k;cases te;cases g;cases i;rw[FD rfl];exact⟨RcAt.none_none,RcNeAt.none_none⟩
 | bl a b =>
   cases k;cases te;cases g;cases i;rw[<-R9 (a:=a) (b:=b) (by simp)];exact⟨RcAt.bool_bool a b,RcNeAt.bool_bool a b⟩
 | int a b =>
   cases k;cases te;obtain⟨t,rfl⟩:=g;obtain⟨f,rfl⟩:=i;rw[<-R9 (a:=a) (b:=b) (by simp)];exact⟨RcAt.int_int a t b f,RcNeAt.int_int a t b f⟩
 | str a b =>
   cases k;cases te;obtain⟨t,rfl⟩:=g;obtain⟨f,rfl⟩:=i;rw[<-R9 (a:=a) (b:=b) (by simp)];exact⟨RcAt.str_str a t b f,RcNeAt.str_str a t b f⟩
 | @tup n ds es c =>
   cases k;cases te;rename_i a F h t b G D f;cases g;cases i;obtain⟨m,r,p,_⟩:=I.tuple h;obtain⟨o,w,l,_⟩:=I.tuple D;have J:=r.length;have K:=w.length;have L:=t.length;have M:=f.length;have B:=U9 (A:=A.in1) I r w t f (Ly I c (by rw[Hq];omega))
   have e:dec (Dt.tup ds=Dt.tup es)=((List.range (min m.toArray.size o.toArray.size)).all (fun j=>dec (ds[j]?=es[j]?)) && m.toArray.size == o.toArray.size):=by
    rw[MW (p:=Dt.tup ds=Dt.tup es) (q:=ds=es) (by simp)];simp only[Cp];by_cases C:ds.length=es.length
    rw[show(m.length == o.length)=true from beq_iff_eq.mpr (by omega),Bool.and_true,Va (by omega) C]
    rw[show(m.length == o.length)=false from beq_false_of_ne (by omega),Bool.and_false,F0 fun z=>C (by rw[z])]
   rw[e];exact⟨RcAt.tuples (A:=A) p l (by omega) B,RcNeAt.tuples (A:=A) p l (by omega) B⟩
 | @lst n ds es c =>
   cases k;cases te;rename_i a F h t b G D f;cases g;cases i;obtain⟨m,r,p,_⟩:=I.list h;obtain⟨o,w,l,_⟩:=I.list D;have J:=r.length;have K:=w.length;have L:=t.length;have M:=f.length;by_cases C:ds.length=es.length;have B:=U9 (A:=A.in1) I r w t f (Ly I c (by rw[Hq];omega));rw[MW (p:=Dt.lst ds=Dt.lst es) (q:=ds=es) (by simp),<-Va (n:=m.toArray.size) (by simp only[Cp];omega) C];exact⟨RcAt.lists (A:=A) p.isList l.isList (by simp only[Cp];omega) (by omega) B,RcNeAt.lists (A:=A) p.isList l.isList (by simp only[Cp];omega) (by omega) B⟩
   rw[F0 (show ¬Dt.lst ds=Dt.lst es from fun z=>C (by cases z;rfl))]
   have E:(m.toArray.size != o.toArray.size)=true:=by simp only[Cp];rw[bne_iff_ne];omega
   exact⟨RcAt.lists_lengths p.isList l.isList E (by omega),RcNeAt.lists_lengths p.isList l.isList E (by omega)⟩
 | apart h =>
   obtain⟨_,h1,N⟩:=Yp (A:=A) I h k te g i (by omega);rw[F0 (N5 h)];exact⟨h1,N⟩
theorem Ly (I:Inv X pins σ H s) {n:Nat} {ds es:List Dt} {A:Around} (c:CB n ds es) (f:A.units+n<cLine)
 (i:Nat) (d e:Dt) (v u:V) (x y:Value) (h:ds[i]?=some d) (h':es[i]?=some e) (a:RelV v x) (b:RelV u y) (k:Ar X.K H v d) (te:Ar X.K H u e):EqAt A s x y (dec (d=e)):=by
 cases c with
 | nil=>simp at h
 | nil'=>simp at h'
 | cons c t=>cases i with
   | zero =>
     simp at h h';subst h;subst h';have g:=Vc (A:=A) I c k te a b f;exact Vb I k te a b g.1
   | succ i=>exact Ly I t f i d e v u x y (by simpa using h) (by simpa using h') a b k te
end
theorem Vd(I:Inv X pins σ H s){x:Value}(c:Fl n d e)(k:Ar X.K H v d)(te:Ar X.K H u e)(a:RelV v x)(b:RelV u y)(f:A.units+n<cLine):EqAt A s x y (dec (d=e)):=
 Vb I k te a b (Vc I c k te a b f).1
end
section
variable {X:Cx}
def Sa (K:Ah):R2:=λx y H Q=>∃n d ds a vs,(∀e∈ds,Fl n e d)/\n<=60/\Ar K H x d/\y=.ref a/\Ag K H a vs/\An K H vs ds/\Q (.bl (dec (d∈ds))) H
def Jk (K:Ah):R2:=λx y H Q=>∃n d ds a vs,(∀e∈ds,Fl n e d)/\n<=60/\Ar K H x d/\y=.ref a/\Ag K H a vs/\An K H vs ds/\Q (.bl (!dec (d∈ds))) H
theorem Ve(I:Inv X pins σ H s){d:Dt}{vs:List V}{b:List Value}{x:Value}(r:As vs b)(t:An X.K H vs ds)(C:∀e∈ds,Fl n e d)(k:Ar X.K H v d)(D:RelV v x)(E:A.units+n<cLine) :
 (∀y,y∈b.toArray->EqAt A s y x (dec (∃u,RelV u y/\Ar X.K H u d)))/\b.toArray.any (λy=>dec (∃u,RelV u y/\Ar X.K H u d))=dec (d∈ds):=by
 have L:=r.length;have lt:=t.length
 have one:∀y,y∈b->∃e∈ds,∃u,RelV u y/\Ar X.K H u e:=λy a=>by
  obtain⟨i,g,e⟩:=OZ.mp a;obtain⟨M,B,j⟩:=r.get (i:=i) (x:=vs[i]'(by omega)) (AD (by omega));obtain⟨F,c,te⟩:=t.get (i:=i) (v:=vs[i]'(by omega)) (AD (by omega));rw[AD g,e] at B;cases B;exact⟨F,Bd c,_,j,te⟩
 refine⟨λy a=>?_,?_⟩;obtain⟨e,c,u,f,te⟩:=one y (by simpa using a);have:=Vd (A:=A) I (C e c) te k f D E
 rw[MW (p:=∃u,RelV u y/\Ar X.K H u d) (q:=e=d) ⟨λ⟨G,m,o⟩=>by
  have l:=f.inj m;subst l
  exact Ar.inj I te o,λz=>⟨u,f,by rw[<-z];exact te⟩⟩]
 exact this;by_cases h:d∈ds;rw[FD h,Array.any_eq_true];obtain⟨i,g,e⟩:=OZ.mp h;obtain⟨u,K,te⟩:=t.get' (i:=i) (d:=d) (by rw[AD g,e]);obtain⟨y,a,j⟩:=r.get K;have w:i<b.length:=(A7.mp a).1;refine⟨i,by simpa using w,?_⟩
 have:b.toArray[i]'(by simpa using w)=y:=by
  rw[AD w] at a;simpa using a
 rw[this];exact FD ⟨u,j,te⟩;rw[F0 h,Bool.eq_false_iff];intro q;obtain⟨i,g,q⟩:=Array.any_eq_true.mp q;obtain⟨u,f,te⟩:=Fm.mp q;obtain⟨e,c,G,m,o⟩:=one (b.toArray[i]) (by simp);have l:=f.inj m;subst l;have J:=Ar.inj I te o;subst J;exact h c
theorem Lz(i:X.A.units+64<cLine):DM X (compareOp .In) (Sa X.K):=by
 intro pins s σ H x y v u Q I b c h;obtain⟨n,d,ds,a,j,e,l,k,rfl,f,t,q⟩:=h;cases c;obtain⟨m,r,p,_⟩:=I.list f;obtain⟨h1,g⟩:=Ve (A:=X.A.in1) I r t e k b (by rw[Hq];omega);exact in_listAt _ p.isList h1 (by rw[g];exact⟨.bl _,H,I,rfl,q⟩)
theorem Yq(i:X.A.units+64<cLine):DM X (compareOp .NotIn) (Jk X.K):=by
 intro pins s σ H x y v u Q I b c h;obtain⟨n,d,ds,a,j,e,l,k,rfl,f,t,q⟩:=h;cases c;obtain⟨m,r,p,_⟩:=I.list f;obtain⟨h1,g⟩:=Ve (A:=X.A.in1) I r t e k b (by rw[Hq];omega);exact notIn_listAt _ p.isList h1 (by rw[g];exact⟨.bl _,H,I,rfl,q⟩)
end
end L2
namespace Ord
variable {α:Type} [DecidableEq α]
theorem nodup_sub_length{l m:List α}(h:l.Nodup)(a:∀x∈l,x∈m):l.length<=m.length:=by
 induction l generalizing m with
 |nil=>simp
 |cons x r f =>
   have b:=a x (by simp);have c:=(Gj.mp h)
   have:r.length<=(m.erase x).length:=f c.2 (λy d=>by
    have g:=a y (by simp[d]);have ne:y≠x:=λe=>c.1 (e▸d)
    exact(List.mem_erase_of_ne ne).mpr g)
   rw[List.length_erase_of_mem b] at this;have i:0<m.length:=List.length_pos_of_mem b
   simp;omega
end Ord
namespace War
end War
namespace Ord
variable {α:Type} [DecidableEq α]
end Ord
namespace L2
open PySem PySem.Spec PyProof.Rows Ord
theorem Hr:([]:List V).length+1<=sizeLine:=by decide
theorem Cj:([]:List V).length+1+1<=sizeLine:=by decide
theorem An.of_get{K:Ah}{H:Hp}:∀{vs:List V}{a:List Dt},vs.length=a.length->(∀(n:Nat)v d,vs[n]?=some v->a[n]?=some d->Ar K H v d)->An K H vs a
 |[],[],_,_=>.nil
 |v::vs,d::a,b,h=>.cons (h 0 v d rfl rfl) (An.of_get (by simpa using b) λn x y c e=>h (n+1) x y (by simpa using c) (by simpa using e))
structure Cu (H:Hp) (ts:List Addr) (ps:List (Str×Str)):Prop where
 len:ts.length=ps.length
 at_:∀(n:Nat)t p,ts[n]?=some t->ps[n]?=some p->H t=some (.tup [.str p.1,.str p.2])
variable {H:Hp}
theorem Cu.nil:Cu H [] []:=⟨rfl,λn t p h=>by simp at h⟩
theorem Cu.same{H':Hp}{ts:List Addr}{ps:List (Str×Str)}(e:Ac H H')(h:Cu H ts ps):Cu H' ts ps:=⟨h.len,λn t p a b=>e _ _ (h.at_ n t p a b)⟩
theorem Cu.snoc{t:Addr}{ts:List Addr}{ps:List (Str×Str)}{p:Str×Str}(h:Cu H ts ps)(e:H t=some (.tup [.str p.1,.str p.2])):Cu H (ts++[t]) (ps++[p]):=by
 refine⟨by rw[AW,AW,h.len];rfl,λn d f a b=>?_⟩;by_cases c:n<ts.length;rw[EU c] at a;rw[EU (by rw[<-h.len];exact c)] at b;exact h.at_ n d f a b
 have g:n=ts.length:=by
  have:=(A7.mp a).1;rw[AW,DE] at this;omega
 subst g;rw[Fc (AB _)] at a;rw[Fc (by rw[h.len];exact AB _)] at b;simp at a;simp[h.len] at b;subst a;subst b;exact e
variable {a:Addr}
theorem Sb{K:Ah}{xs:List V}{k:Nat}{r:List Nat}{g:TG}{te:TE}{σ:St}{Y:Hp}{Q:Addr->Hp->Prop}(Pv:Addr->Nat->List V->Hp->Prop)
 (s:∀D,Y D=none->Pv D 0 [] (upd Y D (.lst []))) (t:∀D i ys c,Pv D i ys c->Ag K c a xs)
 (u:∀D i x ys c(R:VK),Y D=none->xs[i]?=some x->Pv D i ys c->(∀y d,d D=some (.lst ys)->ys.length<sizeLine->Pv D (i+1) (ys++[y]) (upd d D (.lst (ys++[y])))->R y d)->g x (EH k r σ) c λσ4 j=>te σ4 j R)
 (hd:∀D ys c,Y D=none->Pv D xs.length ys c->Q D c) :
 ∀D,Y D=none->∃W:Nat->Nat->List V->Hp->Prop,(∃m,W 0 m [] (upd Y D (.lst [])))/\∀i m ys c,W i m ys c ->
  ((Gq K a).stop i c/\Q D c)\/((Gq K a).go i c/\∀x h,(Gq K a).yld i c x h->g x (EH k r σ) h λσ4 j=>Hm σ4 j λb o =>
   if b=true then te σ4 o λy d=>d D=some (.lst ys)/\ys.length<sizeLine/\∃f,f<m/\W (i+1) f (ys++[y]) (upd d D (.lst (ys++[y]))) else ∃f,f<m/\W (i+1) f ys o):=by
 intro D l;refine⟨λi m ys c=>m=xs.length-i/\i<=xs.length/\Pv D i ys c,⟨xs.length,rfl,Ci _,s D l⟩,?_⟩;rintro i m ys c ⟨rfl,C,p⟩;have n:=t D i ys c p;by_cases q:i<xs.length;refine .inr ⟨⟨xs,xs[i],n,by simp[q]⟩,λx h y=>?_⟩;obtain⟨rfl,y⟩:=y;have w:=y xs n;refine u D i x ys h _ l w p λv d z A B=>?_;exact⟨z,A,xs.length-(i+1),by omega,rfl,q,B⟩;have e:i=xs.length:=(by omega);subst e;exact .inl ⟨⟨xs,n,AB _⟩,hd D ys c l p⟩
theorem Az.ex{P:Program}{w:World}{h:Heap}{o:HO}(x:Az P w H h a o):∃u,h.get? a=some u:=by
 cases o with
 |lst b=>obtain⟨_,_,_,_,e⟩:=x;exact⟨_,e⟩
 |tup b=>obtain⟨_,_,_,u,e,_⟩:=x;exact⟨u,e⟩
 |dK c=>obtain⟨_,_,_,_,u,_,_,e,_⟩:=x;exact⟨u,e⟩
 |dT c=>obtain⟨_,_,_,_,u,_,_,e,_⟩:=x;exact⟨u,e⟩
 |set S n=>obtain⟨u,_,_,_,e,_⟩:=x;exact⟨u,e⟩
 |ins C d fs=>obtain⟨_,_,_,e,_⟩:=x;exact⟨_,e⟩
 |own y=>exact x
 |xd fs=>obtain⟨_,⟨u,_,_,e,_⟩,_⟩:=x;exact⟨u,e⟩
 |rng lo g=>obtain⟨_,_,_,e⟩:=x;exact⟨_,e⟩
 |frz i u=>obtain⟨e,_⟩:=x;exact⟨_,e⟩
 |tbl j=>exact⟨_,(show h.get? a=some _ from x)⟩
 |met f y=>exact⟨_,(show h.get? a=some _ from x)⟩
 |ext φ=>exact x.2.1
theorem Inv.freshN{X:Cx}{pins:List (Addr×Obj)}{σ:L2.St}{s:Shared}(I:Inv X pins σ H s)(d:∀b u,s.heap.get? b=some u->b≠a):H a=none:=by
 cases e:H a with
 |none=>rfl
 |some o =>
   obtain⟨u,c⟩:=(I.hok a o e).ex;exact absurd rfl (d a u c)
theorem Inv.laidN{X:Cx}{pins:List (Addr×Obj)}{σ:L2.St}{s:Shared}{h':Heap}{o:HO}{t':Nat}(I:Inv X pins σ H s)(k:∀b u,s.heap.get? b=some u->h'.get? b=some u)(h:∀b u,s.heap.get? b=some u->b≠a)(i:Az X.prog X.w (upd H a o) h' a o) :
 Inv X pins σ (upd H a o) {s with heap:=h',toks:=t'}:=by
 have d:=I.freshN h;refine I.un ⟨λb u q _ _ _=>k b u q,λb u q _ _ _=>⟨u.slots,k b u q⟩,λb u q n _=>by rw[AC (h b u q)];exact n,λb u q _=>⟨u,k b u q⟩,λb f q=>by rw[AC (AJ q d)];exact q,λb u f q=>by rw[AC (AJ q d)];exact q,λb j q=>⟨#[],by rw[AC (AJ q d),q];simp⟩⟩ λb u e=>?_;by_cases g:b=a;subst g;rw[Aa] at e;cases e;exact i;rw[AC g] at e;exact(I.hok b u e).stay (λc v _ q=>k c v q) (λc q=>by rw[AC (AJ q d)];exact q) λc f q=>by rw[AC (AJ q d)];exact q
section
variable {prog:Program} {w:World} {A:Around} {E:Value->Shared->Prop} {s:Shared}
end
section
variable {X:Cx}
end
end L2
namespace HT
open PySem PyProof.Rows
section
open PySem.SeqAt
open PySem.AutoSeq1 (wpAny_loadPart')
open PySem.MeetsSeq PySem.MeetsSeq2 PySem.MeetsSeq3
end
section
variable {prog:Program} {w:World} {A:Around} {E:Value->Shared->Prop} {s:Shared}
end
end HT
namespace L2
open PySem PySem.Spec PyProof.Rows
section
variable {X:Cx}
theorem Yr{ss:List Str}:∀{us:List Value},As (ss.map V.str) us->StrsAre us ss:=by
 induction ss with
 |nil=>intro us h;cases h;exact .nil
 |cons x r c =>
   intro us h
   cases h with
   |cons a b =>
     obtain⟨t,rfl⟩:=a;exact .cons _ _ (c b)
end
end L2
namespace L2
end L2
namespace KasM
open PySem PySem.W PyProof.Rows
set_option autoImplicit false
def Tw {α:Type} (lt:Nat->Nat->Bool) (n:Nat):KasT α->(α->Prop)->Prop
 |.ret a,Q=>Q a
 |.ask i j k,Q=>i<n/\j<n/\Tw lt n (k (lt i j)) Q
theorem MX{α β:Type}{lt:Nat->Nat->Bool}{n:Nat}{f:α->KasT β}{Q:β->Prop}:∀(t:KasT α),Tw lt n t (λa=>Tw lt n (f a) Q)->Tw lt n (t.bind f) Q
 |.ret _,h=>h
 |.ask _ _ k,⟨b,c,d⟩=>⟨b,c,MX (k _) d⟩
theorem Tw_mono{α:Type}{lt:Nat->Nat->Bool}{n:Nat}{Q b:α->Prop}(c:∀a,Q a->b a):∀(t:KasT α),Tw lt n t Q->Tw lt n t b
 |.ret a,h=>c a h
 |.ask _ _ k,⟨d,e,f⟩=>⟨d,e,Tw_mono c (k _) f⟩
theorem Tw_wp{α:Type}{lt:Nat->Nat->Bool}{n:Nat}{c:Nat->Nat->(Bool->Shared->Prop)->Shared->Prop}{s:Shared}{Q:α->Shared->Prop}(b:∀i j C,i<n->j<n->C (lt i j) s->c i j C s) :
 ∀(t:KasT α),Tw lt n t (λa=>Q a s)->t.kasWp c Q s
 |.ret _,h=>h
 |.ask _ _ k,⟨d,e,f⟩=>b _ _ _ d e (Tw_wp b (k _) f)
section
variable {O:KeyOrd} {key:Nat->O.α} {n:Nat}
def K (key:Nat->O.α) (p:Array Nat) (i:Nat):O.α:=key (p.getD i 0)
def Asc (key:Nat->O.α) (p:Array Nat) (k:Nat):Prop:=∀i,i+1<k->O.kle (K key p i) (K key p (i+1))
def N6 (key:Nat->O.α) (p:Array Nat) (k:Nat):Prop:=∀i,i+1<k->O.kle (K key p (i+1)) (K key p i)
def Pm (n:Nat) (p:Array Nat):Prop:=p.Perm (List.range n).toArray
theorem Pm.size{p:Array Nat}(h:Pm n p):p.size=n:=by have:=h.size_eq;simpa using this
variable {p:Array Nat}
theorem Pm.lt(h:Pm n p)(b:0<n)(i:Nat):p.getD i 0<n:=by
 by_cases a:i<p.size;have e:p.getD i 0=p[i]:=(by simp[Array.getD,a]);rw[e];have:p[i]∈p:=Array.getElem_mem a;have c:=h.mem_iff.mp this;simpa using c;have e:p.getD i 0=0:=(by simp[Array.getD,a]);rw[e];exact b
variable {i j:Nat}
theorem Ys(a:j<=p.size)(k:Nat):(kas_rev p i j).getD k 0=if i<=k/\k<j then p.getD (i+j-1-k) 0 else p.getD k 0:=by
 unfold kas_rev;simp only[Array.getD_eq_getD_getElem?];rw[getElem?_mirror_all a];split<;>rfl
theorem Yt{k l:Nat}(a:k<p.size)(b:l<=k)(t:Nat):(bubble p k (k-l)).getD t 0=if t=l then p.getD k 0 else if l<t/\t<=k then p.getD (t-1) 0 else p.getD t 0:=by
 simp only[Array.getD_eq_getD_getElem?];rw[getElem?_bubble a _ (by omega)];rw[show k-(k-l)=l by omega];split;rfl;split<;>rfl
theorem Pm.rev(h:Pm n p)(i j:Nat):Pm n (kas_rev p i j):=(mirror_perm _ _ _ _).trans h
theorem Pm.bub(h:Pm n p)(i j:Nat):Pm n (bubble p i j):=(bubble_perm _ _ _).trans h
theorem Vf(a:j<=p.size)(k:Nat):K key (kas_rev p i j) k=if i<=k/\k<j then K key p (i+j-1-k) else K key p k:=by
 unfold K;rw[Ys a];split<;>rfl
theorem Sc(b:j<=p.size)(a:∀k,i<=k->k<j->K key p k=K key p (j-1))(k:Nat):K key (kas_rev p i j) k=K key p k:=by
 rw[Vf b];split;rw[a _ (by omega) (by omega),a k (by omega) (by omega)];rfl
theorem Yu{k l:Nat}(a:k<p.size)(b:l<=k)(t:Nat):K key (bubble p k (k-l)) t=if t=l then K key p k else if l<t/\t<=k then K key p (t-1) else K key p t:=by
 unfold K;rw[Yt a b];split;rfl;split<;>rfl
theorem Asc.le{p:Array Nat}{k:Nat}(h:Asc key p k){i:Nat}:∀(d:Nat),i+d<k->O.kle (K key p i) (K key p (i+d))
 |0,_=>KeyOrd.kle_refl _
 |d+1,hd=>KeyOrd.kle_trans (h.le d (by omega)) (h (i+d) (by omega))
theorem Asc.le'{k:Nat}(h:Asc key p k)(b:i<=j)(a:j<k):O.kle (K key p i) (K key p j):=by
 have:=h.le (i:=i) (j-i) (by omega)
 rwa [show i+(j-i)=j by omega] at this
abbrev lt (O:KeyOrd) (key:Nat->O.α) (i j:Nat):Bool:=O.blt (key i) (key j)
theorem Sd{p:Array Nat}(b:Pm n p)(c:0<n):∀(f a:Nat),1<=a->Tw (lt O key) n (kas_asc p f a) λm=>a<=m/\m<=a+f/\(∀i,a-1<=i->i+1<m->O.kle (K key p i) (K key p (i+1)))/\(m<a+f->O.klt (K key p m) (K key p (m-1)))
 |0,a,_=>⟨AB _,AB _,λi d g=>by omega,λh=>by omega⟩
 | f + 1,a,q=>by
   refine⟨b.lt c _,b.lt c _,?_⟩
   cases j:lt O key (p.getD a 0) (p.getD (a-1) 0) with
   |true =>
     simp only[if_true];exact⟨AB _,by omega,λi d g=>by omega,λ_=>j⟩
   |false =>
     simp only[Fe,if_false];refine Tw_mono ?_ _ (Sd b c f (a+1) (by omega));rintro m ⟨d,g,k,l⟩;refine⟨by omega,by omega,λi r o=>?_,λh=>l (by omega)⟩;by_cases e:i=a-1;subst e;rw[show a-1+1=a by omega];exact j;exact k i (by omega) o
theorem Pp(c:0<n):∀(f:Nat)(p:Array Nat)(a q:Nat),Pm n p->a+f<=n->N6 key p a->q+1<=a->(∀k,a-(q+1)<=k->k<a->K key p k=K key p (a-1)) ->
 Tw (lt O key) n (kas_desc f p a q) λr=>Pm n r.1/\a<=r.2.1/\r.2.1<=a+f/\N6 key r.1 r.2.1/\r.2.2+1<=r.2.1/\(∀k,r.2.1-(r.2.2+1)<=k->k<r.2.1->K key r.1 k=K key r.1 (r.2.1-1))
 |0,p,a,q,b,_,hd,o,d=>⟨b,AB _,AB _,hd,o,d⟩
 | f + 1,p,a,q,b,F,hd,o,d=>by
   have hz:=b.size;refine⟨b.lt c _,b.lt c _,?_⟩
   cases u:lt O key (p.getD a 0) (p.getD (a-1) 0) with
   |true =>
     have t:O.klt (K key p a) (K key p (a-1)):=u
     have A:N6 key p (a+1):=λi s=>by
      by_cases e:i+1=a;rw[e];have:i=a-1:=by omega
      rw[this];exact KeyOrd.kle_of_klt t;exact hd i (by omega)
     simp only[if_true];by_cases B:q > 0;rw[Aj B];have v:=Sc (key:=key) (p:=p) (i:=a-(q+1)) (j:=a) (by omega) d;refine Tw_mono ?_ _ (Pp c f _ (a+1) 0 (b.rev _ _) (by omega) (λi s=>by rw[v,v];exact A i s) (by omega) (λk w x=>by rw[show k=a+1-1 by omega]));rintro r ⟨g,y,z,h,l,m⟩;exact⟨g,by omega,by omega,h,l,m⟩;rw[Ak B];refine Tw_mono ?_ _ (Pp c f _ (a+1) 0 b (by omega) A (by omega) (λk w x=>by rw[show k=a+1-1 by omega]));rintro r ⟨g,y,z,h,l,m⟩;exact⟨g,by omega,by omega,h,l,m⟩
   |false =>
     have t:O.kle (K key p (a-1)) (K key p a):=u;simp only[Fe,if_false];refine⟨b.lt c _,b.lt c _,?_⟩
     cases E:lt O key (p.getD (a-1) 0) (p.getD a 0) with
     |true =>
       simp only[if_true];exact⟨b,AB _,Nat.le_add_right _ _,hd,o,d⟩
     |false =>
       have C:O.kle (K key p a) (K key p (a-1)):=E;have D:K key p a=K key p (a-1):=KeyOrd.kle_antisymm C t;simp only[Fe,if_false];refine Tw_mono ?_ _ (Pp c f _ (a+1) (q+1) b (by omega) (λi s=>?_) (by omega) (λk w x=>?_));rintro r ⟨g,y,z,h,l,m⟩;exact⟨g,by omega,by omega,h,l,m⟩;by_cases e:i+1=a;rw[e];have:i=a-1:=by omega
       rw[this];exact C;exact hd i (by omega);rw[show a+1-1=a by omega];by_cases e:k=a;rw[e];rw[d k (by omega) (by omega),D]
abbrev Se (key:Nat->O.α) (n:Nat) (r:Nat×Array Nat):Prop:=Pm n r.2/\1<=r.1/\r.1<=n/\Asc key r.2 r.1
theorem Vg(d:0<n){a:Nat}(b:Pm n p)(f:1<=a)(l:a<=n)(hd:N6 key p a):Tw (lt O key) n (kas_tail3 a n p) (Se key n):=by
 unfold kas_tail3;have o:=b.size;have c:=Vf (key:=key) (p:=p) (i:=0) (j:=a) (by omega);refine MX _ (Tw_mono ?_ _ (Sd (O:=O) (key:=key) (b.rev 0 a) d (n-a) a f));rintro m ⟨q,r,g,_⟩;refine⟨b.rev _ _,by show 1<=m;omega,by show m<=n;omega,λi h=>?_⟩;have k:i+1<m:=h;by_cases e:a-1<=i;exact g i e k;show O.kle (K key (kas_rev p 0 a) i) (K key (kas_rev p 0 a) (i+1));rw[c,c,Aj (by omega),Aj (by omega)];have:=hd (0+a-1-(i+1)) (by omega)
 rwa [show 0+a-1-(i+1)+1=0+a-1-i by omega] at this
theorem Vh(c:0<n){a:Nat}(g:Pm n p)(h:1<=a)(u:a+1<=n)(hd:N6 key p (a+1)):Tw (lt O key) n (kas_descPart a n p) (Se key n):=by
 unfold kas_descPart;refine MX _ (Tw_mono ?_ _ (Pp (O:=O) (key:=key) c (n-(a+1)) p (a+1) 0 g (by omega) hd (by omega) (λk h v=>by rw[show k=a+1-1 by omega])));rintro⟨l,m,q⟩ ⟨b,o,r,d,s,e⟩;dsimp only at b o r d s e ⊢;have w:=b.size;split;have f:=Sc (key:=key) (p:=l) (i:=m-(q+1)) (j:=m) (by omega) e;exact Vg c (b.rev _ _) (by omega) (by omega) λi t=>by rw[f,f];exact d i t
 exact Vg c b (by omega) (by omega) d
theorem Yv(b:0<n)(a:Pm n p):Tw (lt O key) n (kas_count n p) (Se key n):=by
 unfold kas_count;have x:=a.size;refine MX _ (Tw_mono ?_ _ (Sd (O:=O) (key:=key) a b (n-1) 1 (AB _)));rintro m ⟨c,y,s,t⟩;have d:Asc key p m:=λi f=>s i (by omega) f;by_cases g:(m==n)=true;rw[Aj g];exact⟨a,c,by show m<=n;omega,d⟩;rw[Ak g]
 have z:m<n:=by
  have:m≠n:=λq=>g (by rw[q];exact beq_self_eq_true _);omega
 have l:=t (by omega);by_cases o:m > 1;rw[Aj o];refine⟨a.lt b _,a.lt b _,?_⟩
 cases u:lt O key (p.getD 0 0) (p.getD (m-1) 0) with
 |true =>
   simp only[if_true];exact⟨a,c,by show m<=n;omega,d⟩
 |false =>
   have w:O.kle (K key p (m-1)) (K key p 0):=u;simp only[Fe,if_false]
   have h:∀k,0<=k->k<m->K key p k=K key p (m-1):=λk _ v =>
    KeyOrd.kle_antisymm (d.le' (by omega) (by omega)) (KeyOrd.kle_trans w (d.le' (by omega) v))
   have r:=Sc (key:=key) (p:=p) (i:=0) (j:=m) (by omega) h;refine Vh b (a.rev _ _) c (by omega) λi f=>?_;rw[r,r];by_cases e:i+1=m;rw[e,show i=m-1 by omega];exact KeyOrd.kle_of_klt l;rw[h i (by omega) (by omega),h (i+1) (by omega) (by omega)];exact KeyOrd.kle_refl _
 rw[Ak o];refine Vh b a c (by omega) λi f=>?_;have:m=1:=(by omega);subst this;obtain rfl:i=0:=by omega
 exact KeyOrd.kle_of_klt l
theorem Sf(c:0<n){p:Array Nat}{k:Nat}(d:Pm n p)(g:Asc key p k):∀(f l r:Nat),r-l<=f->l<=r->r<=k->(∀i,i<l->O.kle (K key p i) (K key p k))->(∀i,r<=i->i<k->O.klt (K key p k) (K key p i)) ->
 Tw (lt O key) n (kas_place p k f l r) λm=>m<=k/\(∀i,i<m->O.kle (K key p i) (K key p k))/\(∀i,m<=i->i<k->O.klt (K key p k) (K key p i))
 |0,l,r,t,u,q,h,j=>⟨by omega,h,λi a b=>j i (by omega) b⟩
 | f + 1,l,r,t,u,q,h,j=>by
   unfold kas_place;by_cases e:l ≥ r;rw[Aj e];exact⟨by omega,h,λi a b=>j i (by omega) b⟩;rw[Ak e];refine⟨d.lt c _,d.lt c _,?_⟩
   cases s:lt O key (p.getD k 0) (p.getD ((l+r)/2) 0) with
   |true =>
     have o:O.klt (K key p k) (K key p ((l+r)/2)):=s;simp only[if_true];exact Sf c d g f l ((l+r)/2) (by omega) (by omega) (by omega) h λi a b=>KeyOrd.klt_of_klt_of_kle o (g.le' a b)
   |false =>
     have o:O.kle (K key p ((l+r)/2)) (K key p k):=s;simp only[Fe,if_false];exact Sf c d g f ((l+r)/2+1) r (by omega) (by omega) q (λi a=>KeyOrd.kle_trans (g.le' (by omega) (by omega)) o) j
theorem Hs (h0:0<n):∀ (f:Nat) (p:Array Nat) (k:Nat),Pm n p->k+f=n->Asc key p k->Tw (lt O key) n (kas_bin f p k) fun p'=>Pm n p'/\Asc key p' n
 | 0, p, k, hp, hk, ha => ⟨hp, by have : k = n := by omega
                                  rw[<-this];exact ha⟩
 |f+1,p,k,hp,hk,ha=>by
   have hz:=hp.size;unfold kas_bin;refine MX _ (Tw_mono ?_ _ (Sf (O:=O) (key:=key) h0 hp ha k 0 k (by omega) (by omega) (AB _) (λi h=>by omega) λi a b=>by omega));rintro l ⟨b1,b2,b3⟩;have kk:=Yu (key:=key) (p:=p) (k:=k) (l:=l) (by omega) b1;refine Hs h0 f _ (k+1) (hp.bub _ _) (by omega) λi hi=>?_;rw[kk,kk];by_cases e1:i=l;rw[Aj e1,Ak (by omega)];by_cases e2:i+1<=k;rw[Aj (by omega)];exact KeyOrd.kle_of_klt (b3 (i+1-1) (by omega) (by omega));omega;rw[Ak e1];by_cases e2:i+1=l;rw[Aj e2,Ak (by omega)];exact b2 i (by omega);rw[Ak e2];by_cases e3:l<i;rw[Aj (by omega),Aj (by omega)];have:=ha (i-1) (by omega)
   rwa [show i-1+1=i+1-1 by omega] at this
   rw[Ak (by omega),Ak (by omega)];exact ha i (by omega)
theorem sort_ok(h0:0<n):Tw (lt O key) n (kas_sort n) λp=>Pm n p/\Asc key p n:=by
 unfold kas_sort;refine MX _ (Tw_mono ?_ _ (Yv (O:=O) (key:=key) h0 (Array.Perm.refl _)));rintro⟨m,p⟩ ⟨b1,b2,b3,b4⟩;dsimp only at b1 b2 b3 b4 ⊢;split;rw[show max m 1=m by omega];exact Hs h0 _ _ _ b1 (by omega) b4
 exact ⟨b1, by have : m = n := by omega
               rw[<-this];exact b4⟩
end
end KasM
namespace L2
open PySem PySem.Spec PyProof.Rows
section
variable {prog:Program} {w:World} {A:Around} {E:Value->Shared->Prop} {s:Shared}
theorem Yw{O:KeyOrd}{key:Nat->O.α}{κ:SortKind}{a:Addr}{vs:List Value}{n:Nat}{P:PySem.Fin->Shared->Prop}(f:s.heap.get? a=some (seqObj "list" vs.toArray n))(L:vs.length<64)
 (T:2<=vs.length->∀(h':Heap),(∀b o,b≠a->s.heap.get? b=some o->h'.get? b=some o)->∀(Q:SortKind->Shared->Prop),Q κ {s with heap:=h'}->wpAny (model prog w) A (keyKind' vs.toArray) Q (λ_ _=>False) {s with heap:=h'})
 (N:∀(h':Heap),(∀b o,b≠a->s.heap.get? b=some o->h'.get? b=some o)->∀(i j:Nat)(C:Bool->Shared->Prop),i<vs.length->j<vs.length->C (O.blt (key i) (key j)) {s with heap:=h'}->PySem.W.kas_ask prog w A κ vs i j C {s with heap:=h'})
 (h:∀d:List Nat,d.Perm (List.range vs.length)->(∀i,i+1<d.length->O.kle (key (d.getD i 0)) (key (d.getD (i+1) 0)))->P (.done (.ret .none)) {s with heap:=sortedHeap s.heap a vs (d.map λi=>vs.getD i Value.none).toArray}) :
 wpAny (model prog w) A (Builtin.«list.sort» ⟨[.ref a],[]⟩) P E s:=by
 rw[list_sort_plain];have v:a<s.heap.objs.size:=A1 f;have V:vs.toArray.size=vs.length:=(by simp);refine Ad (listItems_at f rfl ?_);refine Ad (listUpdate_at f rfl ?_ (by rw[Cp,sizeLine_eq];omega) (Ci _));obtain⟨r,z⟩:∃r,(s.heap.update a (Obj.mapSeq λ_=>#[])).get? a=some (seqObj "list" #[] r):=⟨_,get?_update_seq f (λ_=>#[])⟩;refine Ad (seqEpoch_at z rfl ?_);refine Ad (wpAny_newTuple ?_ (by show vs.length<=_;rw[sizeLine_eq];omega));refine Ad (wpAny_newList ?_ (Ci _));refine Ff ?_
 have l:(((s.heap.update a (Obj.mapSeq λ_=>#[])).push (seqObj "tuple" vs.toArray 0)).push (seqObj "list" #[] 0)).get? a=some (seqObj "list" #[] r):=by
  rw[Heap.get?_push_ne _ _ _ (by rw[size_push',Heap.size_update];exact CS (Nat.lt_succ_of_lt v)),Heap.get?_push_ne _ _ _ (by rw[Heap.size_update];exact CS v)];exact z
 have keep:∀b o,b≠a->s.heap.get? b=some o->(((s.heap.update a (Obj.mapSeq λ_=>#[])).push (seqObj "tuple" vs.toArray 0)).push (seqObj "list" #[] 0)).get? b=some o:=λb o D q=>by
  refine A8 _ (A8 _ ?_);rw[Heap.get?_update_ne _ _ _ _ D];exact q
 show wpAny (model prog w) A _ P E {s with heap:=((s.heap.update a (Obj.mapSeq λ_=>#[])).push (seqObj "tuple" vs.toArray 0)).push (seqObj "list" #[] 0)};dsimp only;by_cases g:vs.toArray.size<2;rw[Aj g,Aj g];refine Ad (Au ?_);rw[StateT.run_pure];refine Ad (Au ?_);dsimp only;refine Ad (seqEpoch_at l rfl ?_);refine Ad (listUpdate_at l rfl ?_ (Ci _) (by rw[Array.size_map];show(pairsOf vs).size<=_;rw[pairsOf_size,sizeLine_eq];omega));simp only[bne_self_eq_false,Fe,if_false];have:=h (List.range vs.length) (List.Perm.refl _) (λi t=>by rw[List.length_range] at t;omega)
 have e:((List.range vs.length).map λi=>vs.getD i Value.none).toArray=(arrOf (SortSt.mk' general' (vs.toArray.zip vs.toArray) #[] 7 none)).map (·.2):=by
  apply Array.toList_inj.mp;show(List.range vs.length).map (λi=>vs.getD i Value.none)=((vs.toArray.zip vs.toArray).map (·.2)).toList;apply List.ext_getElem?;intro k;by_cases y:k<vs.length;simp[y,BW];simp[y]
 rw[e] at this;exact Au this;rw[Ak g,Ak g];have B:2<=vs.length:=(by omega);refine Ad (FK (T B _ keep (λκ' Z=>κ'=κ/\Z=_) ⟨rfl,rfl⟩) ?_ λ_ _ x=>x.elim);rintro κ' Z ⟨rfl,rfl⟩
 refine Ad (FK (PySem.W.kat_run (Q:=λm Z=>∃p:Array Nat,arrOf m=p.map (PySem.W.kas_item (vs.toArray.zip vs.toArray))/\failedOf m=none/\KasM.Pm vs.length p/\KasM.Asc key p vs.length/\Z={s with heap:=((s.heap.update a (Obj.mapSeq λ_=>#[])).push (seqObj "tuple" vs.toArray 0)).push (seqObj "list" #[] 0)})
  (G:=λp Z=>KasM.Pm vs.length p/\KasM.Asc key p vs.length/\Z={s with heap:=((s.heap.update a (Obj.mapSeq λ_=>#[])).push (seqObj "tuple" vs.toArray 0)).push (seqObj "list" #[] 0)})
  rfl B L (λF m Z U H I u=>⟨F,H,I,u.1,u.2.1,u.2.2⟩)
  (KasM.Tw_wp (lt:=KasM.lt O key) (n:=vs.length) (N _ keep) _ (KasM.Tw_mono (λp c=>⟨c.1,c.2,rfl⟩) _ (KasM.sort_ok (O:=O) (key:=key) (by omega))))) ?_ λ_ _ e=>e)
 rintro⟨⟨⟩,m⟩ Z ⟨p,M,J,c,R,rfl⟩;dsimp only;have S:=PySem.W.kat_snds (ks:=vs) (vs:=vs) rfl M;rw[S];refine Ad (seqEpoch_at l rfl ?_);refine Ad (listUpdate_at l rfl ?_ (Ci _) (by rw[Cp,Al,Array.length_toList,c.size,sizeLine_eq];omega));rw[J];simp only[bne_self_eq_false,Fe,if_false];refine Au (h p.toList (by have:=Array.perm_iff_toList_perm.mp c;simpa using this) λi t=>?_);have K:=c.size;have:=R i (by simpa [K] using t);simpa [KasM.K,Array.getD_eq_getD_getElem?,BW] using this
theorem Sg{O:KeyOrd}{key:Nat->O.α}{κ:SortKind}{l:Addr}{vs:List Value}{Q:Value->Shared->Prop}(g:s.heap.IsList l vs.toArray)(v:vs.length<64)
 (y:2<=vs.length->∀(h':Heap),(∀b o,s.heap.get? b=some o->h'.get? b=some o)->∀(Q:SortKind->Shared->Prop),Q κ {s with heap:=h'}->wpAny (model prog w) A.in1.in1 (keyKind' vs.toArray) Q (λ_ _=>False) {s with heap:=h'})
 (x:∀(h':Heap),(∀b o,s.heap.get? b=some o->h'.get? b=some o)->∀(i j:Nat)(C:Bool->Shared->Prop),i<vs.length->j<vs.length->C (O.blt (key i) (key j)) {s with heap:=h'}->PySem.W.kas_ask prog w A.in1.in1 κ vs i j C {s with heap:=h'})
 (h:∀(D:Addr)(h':Heap)(n:Nat)(a:List Nat),(∀b o,s.heap.get? b=some o->h'.get? b=some o)->(∀b o,s.heap.get? b=some o->b≠D)->a.Perm (List.range vs.length)->(∀i,i+1<a.length->O.kle (key (a.getD i 0)) (key (a.getD (i+1) 0))) ->
  h'.get? D=some (seqObj "list" (a.map λi=>vs.getD i Value.none).toArray n)->Q (.ref D) {s with heap:=h'}) :
 wpAny (model prog w) A (call (.builtin "sorted") [.ref l]) Q E s:=by
 refine Calls.call_function_entry kind_sorted plain_sorted entry_sorted (args_sorted1 _) ?_;unfold Builtin.«sorted»;refine Ad (m:=checkCount "sorted" 1 1 _) (Au ?_);refine Ad (collect_list g ?_ (by rw[sizeLine_eq];omega));refine Ad (wpAny_newList ?_ (by rw[sizeLine_eq];omega))
 have d:((s.heap.push (seqObj "list" #[] 0)).update s.heap.objs.size (Obj.mapSeq (·++vs.toArray))).objs.size=s.heap.objs.size+1:=by
  rw[Heap.size_update,size_push']
 have e:(((s.heap.push (seqObj "list" #[] 0)).update s.heap.objs.size (Obj.mapSeq (·++vs.toArray))).push (seqObj "list" vs.toArray 0)).get? (s.heap.objs.size+1)=some (seqObj "list" vs.toArray 0):=by
  rw[<-d];exact B4 _ rfl
 have keep:∀b o,s.heap.get? b=some o->(((s.heap.push (seqObj "list" #[] 0)).update s.heap.objs.size (Obj.mapSeq (·++vs.toArray))).push (seqObj "list" vs.toArray 0)).get? b=some o:=λb o q=>by
  have f:b<s.heap.objs.size:=A1 q;rw[Heap.get?_push_ne _ _ _ (by rw[d];exact CS (Nat.lt_succ_of_lt f)),Heap.get?_update_ne _ _ _ _ (CS f),Heap.get?_push_ne _ _ _ (CS f)];exact q
 have c:∀b o,s.heap.get? b=some o->b≠s.heap.objs.size+1:=λb o q=>CS (Nat.lt_succ_of_lt (A1 q));show wpAny _ _ _ _ _ {s with heap:=((s.heap.push (seqObj "list" #[] 0)).update s.heap.objs.size (Obj.mapSeq (·++vs.toArray))).push (seqObj "list" vs.toArray 0)};rw[d];refine Ad (Ff (wpAny_call_entry slot_list_sort ⟨_,e,rfl⟩ entry_list_sort ?body (args_list_sort _)))
 case body =>
  refine Yw (s:={s with heap:=((s.heap.push (seqObj "list" #[] 0)).update s.heap.objs.size (Obj.mapSeq (·++vs.toArray))).push (seqObj "list" vs.toArray 0)}) (key:=key) (κ:=κ) e v
   (λp h' k=>y p h' λb o q=>k b o (c b o q) (keep b o q)) (λh' k=>x h' λb o q=>k b o (c b o q) (keep b o q)) λa r t=>?_
  obtain⟨n,u⟩:=sortedHeap_at (vs:=vs) (out:=(a.map λi=>vs.getD i Value.none).toArray) e;refine⟨_,rfl,Au ⟨_,rfl,h (s.heap.objs.size+1) _ n a (λb o q=>?_) c r t u⟩⟩;show(sortedHeap (((s.heap.push (seqObj "list" #[] 0)).update s.heap.objs.size (Obj.mapSeq (·++vs.toArray))).push (seqObj "list" vs.toArray 0)) (s.heap.objs.size+1) vs _).get? b=some o;rw[sortedHeap_old (c b o q) (A1 (keep b o q))];exact keep b o q
end
@[reducible] def BK (O P:KeyOrd):KeyOrd where
 α:=O.α×P.α
 blt x y:=O.blt x.1 y.1 || (!O.blt y.1 x.1 && P.blt x.2 y.2)
 irrefl x:=by simp[O.irrefl,P.irrefl]
 trans x y z h1 h2:=by
  simp only[Bool.or_eq_true,Bool.and_eq_true,Bool.not_eq_true'] at h1 h2 ⊢;rcases h1 with h1|⟨h1,k1⟩<;>rcases h2 with h2|⟨h2,k2⟩;exact .inl (O.trans _ _ _ h1 h2);exact .inl (KeyOrd.klt_of_klt_of_kle h1 h2);exact .inl (KeyOrd.klt_of_kle_of_klt h1 h2);exact .inr ⟨KeyOrd.kle_trans (O:=O) h1 h2,P.trans _ _ _ k1 k2⟩
 negTrans x y z h:=by
  simp only[Bool.or_eq_true,Bool.and_eq_true,Bool.not_eq_true'] at h ⊢;rcases h with h|⟨h,k⟩;rcases O.negTrans _ y.1 _ h with h|h;exact .inl (.inl h);exact .inr (.inl h)
  cases e1:O.blt x.1 y.1 with
  |true=>exact .inl (.inl rfl)
  |false =>
    cases e2:O.blt y.1 z.1 with
    |true=>exact .inr (.inl rfl)
    |false =>
      have a1:O.kle y.1 x.1:=e1;have a2:O.kle z.1 y.1:=e2;have a3:O.kle x.1 z.1:=h;have b1:O.blt y.1 x.1=false:=KeyOrd.kle_trans (O:=O) a3 a2;have b2:O.blt z.1 y.1=false:=KeyOrd.kle_trans (O:=O) a1 a3;rcases P.negTrans _ y.2 _ k with k|k;exact .inl (.inr ⟨b1,k⟩);exact .inr (.inr ⟨b2,k⟩)
 total x y h1 h2:=by
  simp only[Bool.or_eq_false_iff,Bool.and_eq_false_iff,Bool.not_eq_false'] at h1 h2;have e1:x.1=y.1:=O.total _ _ h1.1 h2.1;have e2:x.2=y.2:=P.total _ _ (by rcases h1.2 with z|z;exact absurd (h2.1.symm.trans z) (by simp);exact z) (by rcases h2.2 with z|z;exact absurd (h1.1.symm.trans z) (by simp);exact z);exact Prod.ext e1 e2
@[reducible] def C7:KeyOrd where
 α:=Str
 blt a b:=decide (a.cps.toList<b.cps.toList)
 irrefl a:=by simpa using List.lt_irrefl a.cps.toList
 trans a b c h1 h2:=by simp only[decide_eq_true_eq] at *;exact List.lt_trans h1 h2
 negTrans a b c h:=by
  simp only[decide_eq_true_eq] at *
  by_cases hab:a.cps.toList<b.cps.toList;exact .inl hab;exact .inr (List.lt_of_le_of_lt (List.not_lt.mp hab) h)
 total a b h1 h2:=by simp only[decide_eq_false_iff_not] at *;exact ext_toList (List.le_antisymm (List.not_lt.mp h2) (List.not_lt.mp h1))
@[reducible] def Jl:KeyOrd where
 α:=Int
 blt a b:=decide (a<b)
 irrefl a:=by simp
 trans a b c h1 h2:=by simp only[decide_eq_true_eq] at *;omega
 negTrans a b c h:=by simp only[decide_eq_true_eq] at *;omega
 total a b h1 h2:=by simp only[decide_eq_false_iff_not] at *;omega
structure ID where
 O:KeyOrd
 val:O.α->V
 dflt:O.α
 T:Value
 tT:(T==T)=true
 tN:(T != Value.type "tuple")=true
 look:∀(M:Model)(h:Heap)(a:O.α)(u:Value),RelV (val a) u->PySem.W.Looks M h (typeOf u) T
 eqB:∀(prog:Program)(w:World)(A:Around)(E:Value->Shared->Prop)(s:Shared)(a b:O.α)(u v:Value)(Q:Bool->Shared->Prop),RelV (val a) u->RelV (val b) v->(∀e:Bool,(e=true↔a=b)->Q e s)->wpAny (model prog w) A (eqBool u v) Q E s
 ltB:∀(prog:Program)(w:World)(A:Around)(E:Value->Shared->Prop)(s:Shared)(a b:O.α)(u v:Value)(Q:Bool->Shared->Prop),RelV (val a) u->RelV (val b) v->Q (O.blt a b) s->wpAny (model prog w) A (oneLt' true u v) Q E s
 ltC:∀(prog:Program)(w:World)(A:Around)(E:Value->Shared->Prop)(s:Shared)(a b:O.α)(u v:Value)(Q:Bool->Shared->Prop),RelV (val a) u->RelV (val b) v->Q (O.blt a b) s->wpAny (model prog w) A (oneLt' false u v) Q E s
@[reducible] def EN:ID where
 O:=C7
 val:=V.str
 dflt:=default
 T:=.type "str"
 tT:=by decide
 tN:=by decide
 look M h a u r:=by obtain⟨t,rfl⟩:=r;exact PySem.W.Looks.of_pure rfl
 eqB prog w A E s a b u v Q r r' h:=by
  obtain⟨t,rfl⟩:=r;obtain⟨t',rfl⟩:=r';exact eqBool_str (h _ (by simp))
 ltB prog w A E s a b u v Q r r' h:=by
  obtain⟨t,rfl⟩:=r;obtain⟨t',rfl⟩:=r';exact oneLt_str h
 ltC prog w A E s a b u v Q r r' h:=by
  obtain⟨t,rfl⟩:=r;obtain⟨t',rfl⟩:=r';exact PySem.W.kat_one _ _ (PySem.P.lt_str h)
@[reducible] def Jm:ID where
 O:=Jl
 val:=V.int
 dflt:=0
 T:=.type "int"
 tT:=by decide
 tN:=by decide
 look M h a u r:=by obtain⟨t,rfl⟩:=r;exact PySem.W.Looks.of_pure rfl
 eqB prog w A E s a b u v Q r r' h:=by
  obtain⟨t,rfl⟩:=r;obtain⟨t',rfl⟩:=r';exact wpAny_eqBool_int (h _ (by simp))
 ltB prog w A E s a b u v Q r r' h:=by
  obtain⟨t,rfl⟩:=r;obtain⟨t',rfl⟩:=r';exact oneLt_int h
 ltC prog w A E s a b u v Q r r' h:=by
  obtain⟨t,rfl⟩:=r;obtain⟨t',rfl⟩:=r';exact PySem.W.kat_one _ _ (PySem.P.lt_int h)
variable {c d:ID}
theorem Jn(x y:(BK c.O d.O).α)(e:x.1=y.1):(BK c.O d.O).blt x y=d.O.blt x.2 y.2:=by
 show(c.O.blt x.1 y.1 || (!c.O.blt y.1 x.1 && d.O.blt x.2 y.2))=_;rw[e,c.O.irrefl];rfl
theorem Jo(x y:(BK c.O d.O).α)(e:x.1≠y.1):(BK c.O d.O).blt x y=c.O.blt x.1 y.1:=by
 show(c.O.blt x.1 y.1 || (!c.O.blt y.1 x.1 && d.O.blt x.2 y.2))=_
 cases a:c.O.blt x.1 y.1 with
 |true=>rfl
 |false =>
   cases b:c.O.blt y.1 x.1 with
   |true=>rfl
   |false=>exact absurd (c.O.total _ _ a b) e
section
variable {prog:Program} {w:World} {A:Around} {E:Value->Shared->Prop} {s:Shared}
theorem Yx(c d:ID){x y:Addr}{p q:(BK c.O d.O).α}{b f g i:Value}{Q:Bool->Shared->Prop}(r:IsTup s.heap x #[b,f])(t:IsTup s.heap y #[g,i])(j:RelV (c.val p.1) b)(k:RelV (d.val p.2) f)(l:RelV (c.val q.1) g)(o:RelV (d.val q.2) i)
 (h:Q ((BK c.O d.O).blt p q) s):wpAny (model prog w) A (keyLt' (tuples' true) (.ref x) (.ref y)) Q E s:=by
 obtain⟨F,B,_,n,u⟩:=r;obtain⟨G,C,_,m,v⟩:=t;refine PySem.W.kat_lt B u C v (PySem.W.kat_cons (c.eqB _ _ _ _ _ _ _ _ _ _ j l λe a=>?_))
 cases e with
 |false =>
   have D:p.1≠q.1:=λz=>Cq (a.mpr z);rw[Jo _ _ D] at h;exact PySem.W.kat_no (c.ltB _ _ _ _ _ _ _ _ _ _ j l h)
 |true =>
   rw[Jn _ _ (a.mp rfl)] at h;refine PySem.W.kat_yes (PySem.W.kat_cons (d.eqB _ _ _ _ _ _ _ _ _ _ k o λe a=>?_))
   cases e with
   |false=>exact PySem.W.kat_no (d.ltC _ _ _ _ _ _ _ _ _ _ k o h)
   |true =>
     refine PySem.W.kat_yes (PySem.W.kat_nil ?_);rw[a.mp rfl,d.O.irrefl] at h;exact h
end
theorem Pq{α:Type}{R:α->α->Prop}(tr:∀a b c,R a b->R b c->R a c):∀(l:List α),(∀i a b,l[i]?=some a->l[i+1]?=some b->R a b)->l.Pairwise R
 |[],_=>.nil
 |[x],_=>by simp
 |x::y::r,h=>by
   have f:=Pq tr (y::r) λi a b j k=>h (i+1) a b (by simpa using j) (by simpa using k);have g:R x y:=h 0 x y rfl rfl;refine List.pairwise_cons.mpr ⟨λz d=>?_,f⟩;rcases Ce.mp d with e|d;rw[e];exact g;exact tr _ _ _ g ((List.pairwise_cons.mp f).1 z d)
section
variable {X:Cx}
abbrev Row (c d:ID):Type:=V×(BK c.O d.O).α
def LA (X:Cx) (c d:ID):List V->Hp->VK->Prop:=λvs H Q=>∃(l:Addr)(zs:List (Row c d)),vs=[.ref l]/\Ag X.K H l (zs.map (·.1))/\zs.length<64 /\
 (∀z∈zs,∃t,z.1=.ref t/\Aq X.K H t [c.val z.2.1,d.val z.2.2])/\∀(D:Addr)(zs':List (Row c d)),zs'.Perm zs->(zs'.map (·.2)).Pairwise (BK c.O d.O).kle->H D=none->Q (.ref D) (upd H D (.lst (zs'.map (·.1))))
def HR (c d:ID) (h:Heap) (z:Row c d) (v:Value):Prop:=∃t u1 u2,z.1=.ref t/\v=.ref t/\IsTup h t #[u1,u2]/\RelV (c.val z.2.1) u1/\RelV (d.val z.2.2) u2
theorem HR.keeps{c d:ID}{h h':Heap}{z:Row c d}{v:Value}(k:∀b o,h.get? b=some o->h'.get? b=some o)(x:HR c d h z v):HR c d h' z v:=by
 obtain⟨t,a,e,f,g,i,j⟩:=x;exact⟨t,a,e,f,g,i.keeps k,j⟩
theorem Jp{h:Heap}(zs:List (Row c d))(f:List Value)(g:Paired (HR c d h) zs f):∃fs,PySem.W.KatTups h f fs/\fs.length=zs.length/\∀v∈fs,∃a,RelV (c.val a) v:=by
 induction g with
 |nil=>exact⟨[],.nil,rfl,λ_ x=>by cases x⟩
 |cons i r j =>
   obtain⟨t,k,z,A,l,⟨o,m,p,n,q⟩,s,B⟩:=i;obtain⟨fs,u,w,y⟩:=j;subst l;refine⟨k::fs,.cons m p q rfl u,by simp[w],λv b=>?_⟩;rcases Ce.mp b with e|b;exact⟨_,e▸s⟩;exact y v b
theorem N7{α β:Type}{R:α->β->Prop}{xs:List α}{ys:List β}(h:Paired R xs ys):∀(i:Nat)(b:α)(c:β),i<xs.length->R (xs.getD i b) (ys.getD i c):=by
 induction h with
 |nil=>intro i b c h;simp at h
 |cons a r d =>
   intro i b c h
   cases i with
   |zero=>exact a
   |succ i=>simpa using d i b c (by simpa using h)
theorem Pr{α β γ:Type}{R:α->β->Prop}{f:γ->α}{g:γ->β}:∀(l:List γ),(∀x∈l,R (f x) (g x))->Paired R (l.map f) (l.map g)
 |[],_=>.nil
 |x::l,h=>.cons (h x Bv) (Pr l λy a=>h y (Ch _ a))
theorem Kx{c d:ID}{pins:List (Addr×Obj)}{σ:L2.St}{H:Hp}{s:Shared}(I:Inv X pins σ H s):∀(zs:List (Row c d))(f:List Value),As (zs.map (·.1)) f->(∀z∈zs,∃t,z.1=.ref t/\Aq X.K H t [c.val z.2.1,d.val z.2.2])->Paired (HR c d s.heap) zs f
 |[],f,r,_=>by cases r;exact .nil
 | z :: zs,f,r,h=>by
   cases r with
   |cons a b =>
     obtain⟨t,e,j⟩:=h z Bv;obtain⟨n,g,k,_⟩:=I.tuple j
     cases g with
     |cons g i =>
       cases i with
       |cons i l =>
         cases l;dsimp only at a;rw[e] at a;exact .cons ⟨t,_,_,e,a,k,g,i⟩ (Kx I zs _ b λy m=>h y (Ch _ m))
theorem Vi(c d:ID):A5 X (.builtin "sorted") (LA X c d):=by
 intro ar s σ H vs us ak I r h;obtain⟨l,b,rfl,Q,aq,R,q⟩:=h;obtain⟨u,rfl,S⟩:=Fj r;obtain rfl:u=Value.ref l:=S;obtain⟨g,U,W,_⟩:=I.list Q;have m:=Kx I b g U R;have N:b.length=g.length:=m.length
 let e:Row c d:=(V.non,(c.dflt,d.dflt))
 refine Sg (O:=BK c.O d.O) (key:=λi=>(b.getD i e).2) (κ:=tuples' true) (vs:=g) (by obtain⟨o,n,w,p,F,A⟩:=W;exact⟨o,w,p,n,A⟩) (by omega) (λB C k Q' Y=>?_) (λC k i j al z hj Z=>?_) λD C n f kk G M ae hg=>?_;have af:Paired (HR c d C) b g:=Paired.mapP m λ_ _ x=>x.keeps k;obtain⟨fs,k1,k2,k3⟩:=Jp _ _ af;refine PySem.W.kat_kind (T:=c.T) k1 (by omega) (λv E=>?_) c.tT (by rw[c.tN];exact Y);obtain⟨a,ha⟩:=k3 v E;exact c.look _ _ a v ha;obtain⟨t,u1,u2,w,p,F,A,a5⟩:=(N7 m i e Value.none (by omega)).keeps k;obtain⟨t',ao,v2,b1,b2,b3,b4,b5⟩:=(N7 m j e Value.none (by omega)).keeps k;unfold PySem.W.kas_ask;rw[p,b2];exact Yx c d F b3 A a5 b4 b5 Z
 have ag:∀i∈f,i<b.length:=λi z=>by
  have:=M.mem_iff.mp z;rw[N];simpa using this
 have aj:(List.range b.length).map (λi=>b.getD i e)=b:=by
  apply List.ext_getElem?;intro k;by_cases J:k<b.length;simp[J,BW];simp[J]
 have P:(f.map λi=>b.getD i e).Perm b:=by
  have:=M.map (λi=>b.getD i e)
  rwa [<-N,aj] at this
 have E:As ((f.map λi=>b.getD i e).map (·.1)) (f.map λi=>g.getD i Value.none):=by
  rw[DF];refine Pr f λi z=>?_;obtain⟨t,u1,u2,w,p,_⟩:=N7 m i e Value.none (ag i z);show RelV (b.getD i e).1 (g.getD i Value.none);rw[w,p];exact rfl
 have ah:((f.map λi=>b.getD i e).map (·.2)).Pairwise (BK c.O d.O).kle:=by
  refine Pq (λ_ _ _=>KeyOrd.kle_trans) _ λi a an K B=>?_;rw[DF,Bh,Gp] at K B;obtain⟨x,e1,rfl⟩:=K;obtain⟨y,L,rfl⟩:=B;obtain⟨ai,_⟩:=A7.mp L;have:=ae i ai;have aa:f.getD i 0=x:=by rw[BW,e1];rfl
  have ab:f.getD (i+1) 0=y:=by rw[BW,L];rfl
  rw[aa,ab] at this;exact this
 exact⟨.ref D,upd H D (.lst ((f.map λi=>b.getD i e).map (·.1))),I.laidN (t':=s.toks) kk G ⟨by rw[Al,P.length_eq];exact Dh (BE (by omega)),_,n,E,hg⟩,rfl,q D _ P ah (I.freshN G)⟩
end
open Ord
abbrev Ht (p:Str×Int):Dt:=.tup [.str p.1,.int p.2]
abbrev CN:Type:=List (Str×Int)×List Str
abbrev N8 (s:CN):Dt:=.tup [.lst (s.1.map Ht),.lst (s.2.map Dt.str)]
def C8 (K:Ah) (H:Hp) (a:Addr) (gs:List (Str×Int)):Prop:=∃vs,Ag K H a vs/\An K H vs (gs.map Ht)
def Hu (K:Ah) (H:Hp) (a:Addr) (ss:List CN):Prop:=∃vs,Ag K H a vs/\An K H vs (ss.map N8)
theorem C8.same{K:Ah}{H H':Hp}{a:Addr}{gs:List (Str×Int)}(e:Ac H H')(h:C8 K H a gs):C8 K H' a gs:=by
 obtain⟨b,c,d⟩:=h;exact⟨b,e.seq c,d.same e⟩
theorem Vj{K:Ah}{H:Hp}:∀{vs:List V}{xs:List Str},An K H vs (xs.map Dt.str)->vs=xs.map V.str
 |_,[],.nil=>rfl
 |_,_::_,.cons h t=>by cases h;rw[Vj t];rfl
variable {H:Hp}{v:V}{p:Str×Int}
theorem Ps{K:Ah}(h:Ar K H v (Ht p)):∃t,v=.ref t/\Aq K H t [.str p.1,.int p.2]:=by
 cases h with
 | tup h t =>
   cases t with
   |cons a t =>
     cases t with
     |cons b t =>
       cases t;cases a;cases b;exact⟨_,rfl,h⟩
variable {vs:List V}{gs:List (Str×Int)}{i:Nat}
theorem An.goes_get{K:Ah}(h:An K H vs (gs.map Ht))(hv:vs[i]?=some v):∃p t,gs[i]?=some p/\v=.ref t/\Aq K H t [.str p.1,.int p.2]:=by
 obtain⟨d,hd,a⟩:=h.get hv;rw[Bh] at hd
 cases e:gs[i]? with
 |none=>rw[e] at hd;cases hd
 |some p =>
   rw[e] at hd;cases hd;obtain⟨t,b,c⟩:=Ps a;exact⟨p,t,rfl,b,c⟩
theorem FL{K:Ah}{s:CN}(h:Ar K H v (N8 s)):∃t g e,v=.ref t/\Aq K H t [.ref g,.ref e]/\C8 K H g s.1/\Ag K H e (s.2.map V.str):=by
 cases h with
 | tup h t =>
   cases t with
   |cons b t =>
     cases t with
     |cons c t =>
       cases t
       cases b with
       |lst d f =>
         cases c with
         |lst a i =>
           rw[Vj i] at a;exact⟨_,_,_,rfl,h,⟨_,d,f⟩,a⟩
variable {α:Type}
theorem An.len_map{K:Ah}{f:α->Dt}{xs:List α}(h:An K H vs (xs.map f)):vs.length=xs.length:=by
 have:=h.length
 rwa [Al] at this
theorem Yy{b:List Value}{ss:List Str}(c:StrsAre b ss)(a:2<=b.length):keyKind' b.toArray=pure oneType':=by
 match b,c,a with
 |[],_,a=>simp at a
 |[_],_,a=>simp at a
 |d::e::j,c,_=>exact keyKind_strs c
section
variable {X:Cx}
def LB (X:Cx):List V->Hp->VK->Prop:=λvs H Q=>∃(l:Addr)(ss:List Str),vs=[.ref l]/\Ag X.K H l (ss.map V.str)/\ss.length<64/\∀(D:Addr)(ss':List Str),ss'.Perm ss->ss'.Pairwise C7.kle->H D=none->Q (.ref D) (upd H D (.lst (ss'.map V.str)))
theorem Yz:A5 X (.builtin "sorted") (LB X):=by
 intro ai s σ H vs us ab I r h;obtain⟨l,a,rfl,F,ah,q⟩:=h;obtain⟨u,rfl,G⟩:=Fj r;obtain rfl:u=Value.ref l:=G;obtain⟨g,m,J,_⟩:=I.list F;have K:=Yr m;have C:a.length=g.length:=by have:=m.length;rwa [Al] at this
 have p:∀i,i<a.length->∃t,g.getD i Value.none=.str (a.getD i default) t:=λi c=>by
  have:=N7 m i V.non Value.none (by rw[Al];exact c)
  have e:(a.map V.str).getD i V.non=V.str (a.getD i default):=by
   rw[BW,Bh,BW,AD c];rfl
  rw[e] at this;exact this
 refine Sg (O:=C7) (key:=λi=>a.getD i default) (κ:=oneType') (vs:=g) J.isList (by omega) (λd v k Q' L=>?_) (λv k i j ae c hj M=>?_) λD v n b N w B U P=>?_;rw[Yy K d];exact Au L;obtain⟨t,o⟩:=p i (by omega);obtain⟨t',f⟩:=p j (by omega);unfold PySem.W.kas_ask;rw[o,f,keyLt'_oneType];exact oneLt_str M
 have W:∀i∈b,i<a.length:=λi c=>by
  have:=B.mem_iff.mp c;rw[C];simpa using this
 have aa:(List.range a.length).map (λi=>a.getD i default)=a:=by
  apply List.ext_getElem?;intro k;by_cases z:k<a.length;simp[z,BW];simp[z]
 have E:(b.map λi=>a.getD i default).Perm a:=by
  have:=B.map (λi=>a.getD i default)
  rwa [<-C,aa] at this
 have Q:As ((b.map λi=>a.getD i default).map V.str) (b.map λi=>g.getD i Value.none):=by
  rw[DF];exact Pr b λi c=>p i (W i c)
 have Y:(b.map λi=>a.getD i default).Pairwise C7.kle:=by
  refine Pq (R:=C7.kle) (λ_ _ _ h k=>KeyOrd.kle_trans (O:=C7) h k) _ λi af ag A d=>?_;rw[Bh,Gp] at A d;obtain⟨x,o,rfl⟩:=A;obtain⟨y,f,rfl⟩:=d;obtain⟨Z,_⟩:=A7.mp f;have:=U i Z;have S:b.getD i 0=x:=by rw[BW,o];rfl
  have T:b.getD (i+1) 0=y:=by rw[BW,f];rfl
  rw[S,T] at this;exact this
 exact⟨.ref D,upd H D (.lst ((b.map λi=>a.getD i default).map V.str)),I.laidN (t':=s.toks) N w ⟨by rw[Al,E.length_eq];exact Dh (BE (by omega)),_,n,Q,P⟩,rfl,q D _ E Y (I.freshN w)⟩
end
abbrev Pt (K:Ah) (H:Hp) (z:Row EN Jm):Prop:=∃t,z.1=.ref t/\Aq K H t [V.str z.2.1,V.int z.2.2]
theorem Sh{K:Ah}{H:Hp}:∀{ts:List Addr}{gs:List (Str×Int)},ts.length=gs.length->(∀(n:Nat)(a:Addr)(p:Str×Int),ts[n]?=some a->gs[n]?=some p->H a=some (.tup [.str p.1,.int p.2])) ->
 ∃zs:List (Row EN Jm),zs.map (·.1)=ts.map V.ref/\zs.map (·.2)=gs/\∀z∈zs,Pt K H z
 |[],[],_,_=>⟨[],rfl,rfl,λz hz=>by cases hz⟩
 |[],_::_,h,_=>by simp at h
 |_::_,[],h,_=>by simp at h
 |a::ts,p::gs,h,k=>by
   obtain⟨zs,b,c,d⟩:=Sh (K:=K) (H:=H) (ts:=ts) (gs:=gs) (by simpa using h) λn a p b c=>k (n+1) a p (by simpa using b) (by simpa using c);refine⟨(V.ref a,p)::zs,by rw[D7,b];rfl,by rw[D7,c],λz hz=>?_⟩;rcases Ce.mp hz with e|hz;rw[e];exact⟨a,rfl,Aq.of (k 0 a p rfl rfl)⟩;exact d z hz
theorem Si{K:Ah}{H:Hp}:∀(zs:List (Row EN Jm)),(∀z∈zs,Pt K H z)->An K H (zs.map (·.1)) ((zs.map (·.2)).map Ht)
 |[],_=>.nil
 |z::zs,h=>by
   obtain⟨t,e,a⟩:=h z Bv;refine .cons ?_ (Si zs λy b=>h y (Ch _ b));show Ar K H z.1 (Ht z.2);rw[e];exact .tup a (.cons (.str _) (.cons (.int _) .nil))
variable {a D:Addr}{o:HO}{xs:List V}
theorem Ag.updN{K:Ah}(b:a≠D)(h:Ag K H a xs):Ag K (upd H D o) a xs:=by
 rcases h with(h|⟨u,h⟩)|h;exact .inl (.inl (by rw[AC b];exact h));exact .inl (.inr ⟨u,by rw[AC b];exact h⟩);exact .inr h
theorem Aq.updL{K:Ah}{ys:List V}(b:H D=some (.lst ys))(h:Aq K H a xs):Aq K (upd H D o) a xs:=by
 rcases h with(h|⟨u,h⟩)|h;exact .inl (.inl (by rw[AC λz=>by rw[z,b] at h;cases h];exact h));exact .inl (.inr ⟨u,by rw[AC λz=>by rw[z,b] at h;cases h];exact h⟩);exact .inr h
theorem Vk{K:Ah}{H:Hp}{D:Addr}{o:HO}{ys:List V}(b:H D=some (.lst ys)):∀{vs:List V}{gs:List (Str×Int)},An K H vs (gs.map Ht)->An K (upd H D o) vs (gs.map Ht)
 |_,[],.nil=>.nil
 |_,p::gs,.cons h t=>by
   obtain⟨a,e,c⟩:=Ps h;subst e;exact .cons (.tup (c.updL b) (.cons (.str _) (.cons (.int _) .nil))) (Vk b t)
theorem C8.updL{K:Ah}{ys:List V}(b:H D=some (.lst ys))(c:a≠D)(h:C8 K H a gs):C8 K (upd H D o) a gs:=by
 obtain⟨vs,d,e⟩:=h;exact⟨vs,d.updN c,Vk b e⟩
structure A0 (K:Ah) (F:Addr->Prop) (H:Hp) (D:Addr) (us:List Addr) (rs:List CN):Prop where
 len:us.length=rs.length
 at_:∀(i:Nat)(u:Addr)(r:CN),us[i]?=some u->rs[i]?=some r->∃G E xs,H u=some (.tup [.ref G,.ref E])/\C8 K H G r.1/\H G=some (.lst xs)/\H E=some (.lst (r.2.map V.str))/\G≠D/\E≠D/\F G/\F E
variable {F:Addr->Prop}
theorem A0.nil{K:Ah}:A0 K F H D [] []:=⟨rfl,λi u r h=>by simp at h⟩
theorem A0.same{K:Ah}{F:Addr->Prop}{H H':Hp}{D:Addr}{us:List Addr}{a:List CN}(e:Ac H H')(h:A0 K F H D us a):A0 K F H' D us a:=by
 refine⟨h.len,λi u r b c=>?_⟩;obtain⟨G,E,xs,d,f,g,j,k,l,m⟩:=h.at_ i u r b c;exact⟨G,E,xs,e _ _ d,f.same e,e _ _ g,e _ _ j,k,l,m⟩
theorem A0.updL{K:Ah}{F:Addr->Prop}{H:Hp}{D:Addr}{o:HO}{ys:List V}{us:List Addr}{c:List CN}(d:H D=some (.lst ys))(h:A0 K F H D us c):A0 K F (upd H D o) D us c:=by
 refine⟨h.len,λi u r f g=>?_⟩;obtain⟨G,E,xs,a,j,k,l,b,e,m⟩:=h.at_ i u r f g;exact⟨G,E,xs,by rw[AC λz=>by rw[z,d] at a;cases a];exact a,j.updL d b,by rw[AC b];exact k,by rw[AC e];exact l,b,e,m⟩
variable {u G E:Addr}{us:List Addr}{rs:List CN}
theorem A0.snoc{K:Ah}{r:CN}(h:A0 K F H D us rs)(d:H u=some (.tup [.ref G,.ref E]))(f:C8 K H G r.1)(g:H G=some (.lst xs))(j:H E=some (.lst (r.2.map V.str)))(k:G≠D)(l:E≠D)(m:F G)(n:F E):A0 K F H D (us++[u]) (rs++[r]):=by
 refine⟨by rw[AW,AW,h.len];rfl,λi v q a b=>?_⟩;rcases Nat.lt_or_ge i us.length with c|p;rw[EU c] at a;rw[EU (by rw[<-h.len];exact c)] at b;exact h.at_ i v q a b;have o:i<(us++[u]).length:=(A7.mp a).1;rw[AW,DE] at o;have e:i=us.length:=(by omega);subst e;rw[Fc (AB _),Nat.sub_self] at a;rw[Fc (by rw[h.len];exact AB _),h.len,Nat.sub_self] at b;cases a;cases b;exact⟨G,E,xs,d,f,g,j,k,l,m,n⟩
theorem Jq:([]:List V).length+1+1+1<=sizeLine:=by decide
theorem A0.dts{K:Ah}{F:Addr->Prop}{H:Hp}{D:Addr}:∀{us:List Addr}{rs:List CN},A0 K F H D us rs->An K H (us.map V.ref) (rs.map N8)
 |[],[],_=>.nil
 |[],_::_,h=>by have:=h.len;simp at this
 |_::_,[],h=>by have:=h.len;simp at this
 |u::us,r::rs,h=>by
   obtain⟨G,E,xs,a,⟨g,b,f⟩,j,c,_⟩:=h.at_ 0 u r rfl rfl;refine .cons (.tup (Aq.of a) (.cons (.lst b f) (.cons (.lst (Ag.of c) (An.strs _)) .nil))) ?_;exact A0.dts (D:=D) ⟨by simpa using h.len,λi v q d e=>h.at_ (i+1) v q (by simpa using d) (by simpa using e)⟩
theorem A0.stts{K:Ah}(e:H a=some (.lst (us.map V.ref)))(h:A0 K F H a us rs):Hu K H a rs:=⟨_,Ag.of e,h.dts⟩
variable {O:KeyOrd}
theorem LD{l m:List O.α}(h:l.Perm m)(c:l.Pairwise O.kle)(d:m.Pairwise O.kle):l=m:=
 h.eq_of_pairwise (λa b _ _ x y=>KeyOrd.kle_antisymm x y) c d
structure GT (H:Hp) (ts:List Addr) (gs:List (Str×Int)):Prop where
 len:ts.length=gs.length
 at_:∀(n:Nat)(t:Addr)(p:Str×Int),ts[n]?=some t->gs[n]?=some p->H t=some (.tup [.str p.1,.int p.2])
theorem GT.nil:GT H [] []:=⟨rfl,λn t p h=>by simp at h⟩
variable {H':Hp}{ts:List Addr}
theorem GT.same(e:Ac H H')(h:GT H ts gs):GT H' ts gs:=⟨h.len,λn t p a b=>e _ _ (h.at_ n t p a b)⟩
theorem GT.updL(b:H a=some (.lst xs))(h:GT H ts gs):GT (upd H a o) ts gs:=⟨h.len,λn t p c d=>by
 have:=h.at_ n t p c d;rw[AC λz=>by rw[z,b] at this;cases this]
 exact this⟩
theorem GT.snoc{t:Addr}(h:GT H ts gs)(e:H t=some (.tup [.str p.1,.int p.2])):GT H (ts++[t]) (gs++[p]):=by
 refine⟨by rw[AW,AW,h.len];rfl,λn v q a b=>?_⟩;rcases Nat.lt_or_ge n ts.length with c|g;rw[EU c] at a;rw[EU (by rw[<-h.len];exact c)] at b;exact h.at_ n v q a b;have f:n<(ts++[t]).length:=(A7.mp a).1;rw[AW,DE] at f;have d:n=ts.length:=(by omega);subst d;rw[Fc (AB _),Nat.sub_self] at a;rw[Fc (by rw[h.len];exact AB _),h.len,Nat.sub_self] at b;cases a;cases b;exact e
theorem GT.dts{K:Ah}(h:GT H ts gs):An K H (ts.map V.ref) (gs.map Ht):=by
 obtain⟨a,b,c,d⟩:=Sh (K:=K) h.len h.at_;rw[<-b,<-c];exact Si a d
variable {g:TG}{te:TE}{σ:St}{n:Nat}
theorem Sj{k:Nat}{q:List Nat}{Y:Hp}{Q:Addr->Hp->Prop}{lo:Int}(Pv:Addr->Nat->List V->Hp->Prop)
 (r:∀D,Y D=none->Pv D 0 [] (upd Y D (.lst [])))
 (s:∀(D:Addr)(i:Nat)(ys:List V)(a:Hp)(R:VK),Y D=none->i<n->Pv D i ys a->(∀y c,c D=some (.lst ys)->ys.length<sizeLine->Pv D (i+1) (ys++[y]) (upd c D (.lst (ys++[y])))->R y c)->g (.int (lo+i)) (EH k q σ) a λσ4 h=>te σ4 h R)
 (hd:∀D ys a,Y D=none->Pv D n ys a->Q D a) :
 ∀D,Y D=none->∃W:Nat->Nat->List V->Hp->Prop,(∃m,W 0 m [] (upd Y D (.lst [])))/\∀i m ys a,W i m ys a ->
  ((Ir lo n).stop i a/\Q D a)\/((Ir lo n).go i a/\∀x f,(Ir lo n).yld i a x f->g x (EH k q σ) f λσ4 h=>Hm σ4 h λb o =>
   if b=true then te σ4 o λy c=>c D=some (.lst ys)/\ys.length<sizeLine/\∃d,d<m/\W (i+1) d (ys++[y]) (upd c D (.lst (ys++[y]))) else ∃d,d<m/\W (i+1) d ys o):=by
 intro D j;refine⟨λi m ys a=>m=n-i/\i<=n/\Pv D i ys a,⟨n,rfl,Ci _,r D j⟩,?_⟩;rintro i m ys a ⟨rfl,z,p⟩;by_cases l:i<n;refine .inr ⟨l,λx f y=>?_⟩;obtain⟨rfl,rfl⟩:=y;refine s D i ys f _ j l p λv c t u w=>?_;exact⟨t,u,n-(i+1),by omega,rfl,l,w⟩;have e:i=n:=(by omega);subst e;exact .inl ⟨AB _,hd D ys a j p⟩
structure Keeps (M:Addr->Prop) (H H':Hp):Prop where
 at_:∀x o,H x=some o->¬M x->H' x=some o
 ls:∀x o,M x->H x=some o->∃xs,o=HO.lst xs
section
variable {K:Ah} {M:Addr->Prop} {H H':Hp}
theorem Keeps.refl(h:∀x o,M x->H x=some o->∃xs,o=HO.lst xs):Keeps M H H:=⟨λ_ _ e _=>e,h⟩
theorem Keeps.set(k:Keeps M H H')(a:M D):Keeps M H (upd H' D o):=⟨λx u e n=>by
 have b:x≠D:=λz=>n (by rw[z];exact a)
 rw[AC b];exact k.at_ x u e n,k.ls⟩
theorem Keeps.one(a:H D=some (.lst xs)):Keeps (·=D) H (upd H D o):=
 ⟨λx u e n=>by rw[AC n];exact e,λx u m e=>by rw[m,a] at e;exact⟨xs,(Bo e).symm⟩⟩
theorem Keeps.same{a:Hp}(k:Keeps M H H')(s:Ac H' a):Keeps M H a:=⟨λx o e n=>s _ _ (k.at_ x o e n),k.ls⟩
theorem Keeps.noT(k:Keeps M H H')(h:H a=some (.tup xs)):¬M a:=λm=>by
 obtain⟨_,e⟩:=k.ls _ _ m h;cases e
theorem Keeps.tup(k:Keeps M H H'){a:Addr}{xs:List V}(h:H a=some (.tup xs)):H' a=some (.tup xs):=k.at_ _ _ h (k.noT h)
theorem Keeps.tups(k:Keeps M H H'){ps:List (Str×Str)}(h:Cu H ts ps):Cu H' ts ps:=⟨h.len,λn t p a b=>k.tup (h.at_ n t p a b)⟩
end
theorem Pu{K:Ah}{k:Nat}{s:List Nat}{tc:TT}{Y:Hp}{Q:Addr->Hp->Prop}(Pv:Addr->Nat->List V->Hp->Prop)
 (t:∀D,Y D=none->Pv D 0 [] (upd Y D (.lst []))) (u:∀D i ys c,Pv D i ys c->Ag K c a xs)
 (w:∀D i x ys c(R:VK)(r:Hp->Prop),Y D=none->xs[i]?=some x->Pv D i ys c->(∀y f,f D=some (.lst ys)->ys.length<sizeLine->Pv D (i+1) (ys++[y]) (upd f D (.lst (ys++[y])))->R y f)->(∀d,Pv D (i+1) ys d->r d)->g x (EH k s σ) c λσ4 l=>tc σ4 l λb d=>if b=true then te σ4 d R else r d)
 (hd:∀D ys c,Y D=none->Pv D xs.length ys c->Q D c) :
 ∀D,Y D=none->∃W:Nat->Nat->List V->Hp->Prop,(∃m,W 0 m [] (upd Y D (.lst [])))/\∀i m ys c,W i m ys c ->
  ((Gq K a).stop i c/\Q D c)\/((Gq K a).go i c/\∀x j,(Gq K a).yld i c x j->g x (EH k s σ) j λσ4 l=>tc σ4 l λb d =>
   if b=true then te σ4 d λy f=>f D=some (.lst ys)/\ys.length<sizeLine/\∃h,h<m/\W (i+1) h (ys++[y]) (upd f D (.lst (ys++[y]))) else ∃h,h<m/\W (i+1) h ys d):=by
 intro D n;refine⟨λi m ys c=>m=xs.length-i/\i<=xs.length/\Pv D i ys c,⟨xs.length,rfl,Ci _,t D n⟩,?_⟩;rintro i m ys c ⟨rfl,F,p⟩;have o:=u D i ys c p;by_cases q:i<xs.length;refine .inr ⟨⟨xs,xs[i],o,by simp[q]⟩,λx j y=>?_⟩;obtain⟨rfl,y⟩:=y;have z:=y xs o;refine w D i x ys j _ _ n z p (λv f A B C=>?_) (λd E=>?_);exact⟨A,B,xs.length-(i+1),by omega,rfl,q,C⟩;exact⟨xs.length-(i+1),by omega,rfl,q,E⟩;have e:i=xs.length:=(by omega);subst e;exact .inl ⟨⟨xs,o,AB _⟩,hd D ys c n p⟩
structure Gc (K:Ah) (F:Addr->Prop) (H:Hp) (t:Addr) (rs:List CN) (n:Int) (ord:List (Str×Str)):Prop where
 ex:∃(a o:Addr)(us:List Addr)(ts:List Addr),H t=some (.tup [.ref a,.int n,.ref o])/\F a/\F o/\a≠o/\H a=some (.lst (us.map V.ref))/\A0 K F H a us rs/\H o=some (.lst (ts.map V.ref))/\Cu H ts ord
theorem Gc.same{K:Ah}{F:Addr->Prop}{H H':Hp}{t:Addr}{rs:List CN}{n:Int}{ord:List (Str×Str)}(s:Ac H H')(h:Gc K F H t rs n ord):Gc K F H' t rs n ord:=by
 obtain⟨a,o,us,ts,b,c,d,e,f,g,i,j⟩:=h.ex;exact⟨a,o,us,ts,s _ _ b,c,d,e,s _ _ f,g.same s,s _ _ i,j.same s⟩
section
variable {X:Cx}
end
abbrev C9:Option (Str×Int)->Dt
 |none=>.non
 |some p=>Ht p
def GZ (K:Ah) (H:Hp) (a:Addr) (as:List (Option (Str×Int))):Prop:=∃vs,Ag K H a vs/\An K H vs (as.map C9)
abbrev Qu:Type:=Int×Int×List Str
section
variable {K:Ah} {H H':Hp} {a:Addr}
theorem GZ.same{as:List (Option (Str×Int))}(e:Ac H H')(h:GZ K H a as):GZ K H' a as:=by
 obtain⟨vs,b,c⟩:=h;exact⟨vs,e.seq b,c.same e⟩
theorem LF{o:Option (Str×Int)}(h:Ar K H v (C9 o)):(o=none/\v=.non)\/∃p t,o=some p/\v=.ref t/\Aq K H t [.str p.1,.int p.2]:=by
 cases o with
 |none=>cases h;exact .inl ⟨rfl,rfl⟩
 |some p =>
   obtain⟨t,e,a⟩:=Ps h;exact .inr ⟨p,t,rfl,e,a⟩
theorem GZ.get{as:List (Option (Str×Int))}(h:GZ K H a as){k:Nat}(f:k<as.length):∃vs v,Ag K H a vs/\vs[k]?=some v/\((as[k]?=some none/\v=.non)\/∃p t,as[k]?=some (some p)/\v=.ref t/\Aq K H t [.str p.1,.int p.2]):=by
 obtain⟨vs,g,j⟩:=h;have b:=AD f;obtain⟨v,l,hd⟩:=j.get' (i:=k) (d:=C9 as[k]) (by rw[Bh,b];rfl);refine⟨vs,v,g,l,?_⟩;rcases LF hd with⟨c,e⟩|⟨p,t,c,e,m⟩;exact .inl ⟨by rw[b,c],e⟩;exact .inr ⟨p,t,by rw[b,c],e,m⟩
theorem C8.get(h:C8 K H a gs){k:Nat}(b:gs[k]?=some p):∃vs t,Ag K H a vs/\vs[k]?=some (.ref t)/\Aq K H t [.str p.1,.int p.2]:=by
 obtain⟨vs,c,e⟩:=h;obtain⟨v,f,hd⟩:=e.get' (i:=k) (d:=Ht p) (by rw[Bh,b];rfl);obtain⟨t,rfl,g⟩:=Ps hd;exact⟨vs,t,c,f,g⟩
end
structure QT (H:Hp) (ts:List Addr) (qs:List Qu):Prop where
 len:ts.length=qs.length
 at_:∀(n:Nat)(t:Addr)(q:Qu),ts[n]?=some t->qs[n]?=some q->∃u,H t=some (.tup [.int q.1,.int q.2.1,.ref u])/\H u=some (.tup (q.2.2.map V.str))
theorem QT.nil:QT H [] []:=⟨rfl,λn t p h=>by simp at h⟩
variable {qs:List Qu}
theorem QT.same(e:Ac H H')(h:QT H ts qs):QT H' ts qs:=⟨h.len,λn t p a b=>by
 obtain⟨u,c,d⟩:=h.at_ n t p a b
 exact⟨u,e _ _ c,e _ _ d⟩⟩
variable {M:Addr->Prop}
theorem QT.keeps(k:Keeps M H H')(h:QT H ts qs):QT H' ts qs:=⟨h.len,λn t p a b=>by
 obtain⟨u,c,d⟩:=h.at_ n t p a b
 exact⟨u,k.tup c,k.tup d⟩⟩
theorem GT.keeps(k:Keeps M H H')(h:GT H ts gs):GT H' ts gs:=⟨h.len,λn t p a b=>k.tup (h.at_ n t p a b)⟩
theorem QT.snoc{t:Addr}{q:Qu}(h:QT H ts qs)(e:H t=some (.tup [.int q.1,.int q.2.1,.ref u]))(d:H u=some (.tup (q.2.2.map V.str))):QT H (ts++[t]) (qs++[q]):=by
 refine⟨by rw[AW,AW,h.len];rfl,λn v f a b=>?_⟩;rcases Nat.lt_or_ge n ts.length with c|j;rw[EU c] at a;rw[EU (by rw[<-h.len];exact c)] at b;exact h.at_ n v f a b;have i:n<(ts++[t]).length:=(A7.mp a).1;rw[AW,DE] at i;have g:n=ts.length:=(by omega);subst g;rw[Fc (AB _),Nat.sub_self] at a;rw[Fc (by rw[h.len];exact AB _),h.len,Nat.sub_self] at b;cases a;cases b;exact⟨u,e,d⟩
def Ed (ths:List (Str×Int)) (as:List (Option (Str×Int))) (q:Int):Str×Int:=match as[q.toNat]? with
 |some (some p)=>if p.1=("thing" : Str) then(match ths[p.2.toNat]? with
   |some k=>if k.1=("part" : Str) then("to",k.2) else("no",0)
   |none=>("no",0)) else("no",0)
 |some none=>("open",q)
 |none=>("no",0)
def Dk (ths:List (Str×Int)) (as:List (Option (Str×Int))) (p:Str×Int):Str×Int:=
 if p.1=("part" : Str) then("to",p.2) else if p.1=("sort" : Str) then Ed ths as p.2 else("no",0)
structure Gu (ths:List (Str×Int)) (as:List (Option (Str×Int))):Prop where
 q:∀p∈ths,p.1=("sort" : Str)->0<=p.2/\p.2<as.length
 t:∀p,some p∈as->p.1=("thing" : Str)->0<=p.2/\p.2<ths.length
variable {ths:List (Str×Int)}{as:List (Option (Str×Int))}
theorem YA(h:as[n]?=some none):Ed ths as (n:Int)=(("open" : Str),(n:Int)):=by
 unfold Ed;rw[Be,h]
theorem YB(h:as[n]?=some (some p))(a:p.1≠("thing" : Str)):Ed ths as (n:Int)=(("no" : Str),0):=by
 unfold Ed;rw[Be,h];exact Ak a
variable {m:Nat}
theorem YC{k:Str×Int}(h:as[n]?=some (some p))(a:p.1=("thing" : Str))(b:p.2=(m:Int))(c:ths[m]?=some k)(d:k.1=("part" : Str)):Ed ths as (n:Int)=(("to" : Str),k.2):=by
 unfold Ed;rw[Be,h]
 show(if p.1=("thing" : Str) then _ else _)=_
 rw[Aj a,b,Be,c];exact Aj d
theorem YD{k:Str×Int}(h:as[n]?=some (some p))(a:p.1=("thing" : Str))(b:p.2=(m:Int))(c:ths[m]?=some k)(d:k.1≠("part" : Str)):Ed ths as (n:Int)=(("no" : Str),0):=by
 unfold Ed;rw[Be,h]
 show(if p.1=("thing" : Str) then _ else _)=_
 rw[Aj a,b,Be,c];exact Ak d
variable {L:Pos}{x:Str}
theorem Vl{X:Cx}{e:Expr}{op:Operator}{a:R2}{t:Pos}(b:X.N.Nodup)(c:X.N[i]?=some x)(d:Loc X.env.scope x)(f:PE X e te)(g:DM X (inplaceOp op) a)(h:X.fn x=true\/X.env.scope.names.lookup x=some .local:=by first|exact .inl rfl|exact .inr rfl|assumption) :
 PS X (.AugAssign (.Name x t) op e L) (ND i te a):=K9 b c d f g h
abbrev Cd:Type:=Str×Str×Int
abbrev Hv (p:Cd):List V:=[.str p.1,.str p.2.1,.int p.2.2]
abbrev DU:Type:=Str×Str×Str×Int
abbrev Hw (p:DU):List V:=[.str p.1,.str p.2.1,.str p.2.2.1,.int p.2.2.2]
section
variable {α:Type} {f:α->List V} {H H':Hp} {ts:List Addr} {rs:List α}
structure RT (f:α->List V) (H:Hp) (ts:List Addr) (rs:List α):Prop where
 len:ts.length=rs.length
 at_:∀(n:Nat)(t:Addr)(r:α),ts[n]?=some t->rs[n]?=some r->H t=some (.tup (f r))
theorem RT.nil:RT f H [] []:=⟨rfl,λn t p h=>by simp at h⟩
theorem RT.same(e:Ac H H')(h:RT f H ts rs):RT f H' ts rs:=⟨h.len,λn t p a b=>e _ _ (h.at_ n t p a b)⟩
theorem RT.keeps(k:Keeps M H H')(h:RT f H ts rs):RT f H' ts rs:=⟨h.len,λn t p a b=>k.tup (h.at_ n t p a b)⟩
theorem RT.snoc{t:Addr}{r:α}(h:RT f H ts rs)(e:H t=some (.tup (f r))):RT f H (ts++[t]) (rs++[r]):=by
 refine⟨by rw[AW,AW,h.len];rfl,λn v q a b=>?_⟩;rcases Nat.lt_or_ge n ts.length with c|i;rw[EU c] at a;rw[EU (by rw[<-h.len];exact c)] at b;exact h.at_ n v q a b;have g:n<(ts++[t]).length:=(A7.mp a).1;rw[AW,DE] at g;have d:n=ts.length:=(by omega);subst d;rw[Fc (AB _),Nat.sub_self] at a;rw[Fc (by rw[h.len];exact AB _),h.len,Nat.sub_self] at b;cases a;cases b;exact e
theorem RT.dts{K:Ah}{g:α->Dt}(c:∀(r:α)(t:Addr),H t=some (.tup (f r))->Ar K H (.ref t) (g r))(h:RT f H ts rs):An K H (ts.map V.ref) (rs.map g):=by
 refine An.of_get (by simpa using h.len) λn v d a b=>?_;rw[Bh] at a b;obtain⟨t,e,rfl⟩:=Gp.mp a;obtain⟨q,i,rfl⟩:=Gp.mp b;exact c q t (h.at_ n t q e i)
end
abbrev Bi:Type:=List Cd×List DU
structure IE (H:Hp) (u G E:Addr) (s:Bi):Prop where
 u:H u=some (.tup [.ref G,.ref E])
 g:∃ts:List Addr,H G=some (.lst (ts.map V.ref))/\RT Hv H ts s.1
 e:∃ts:List Addr,H E=some (.lst (ts.map V.ref))/\RT Hw H ts s.2
theorem IE.same{H H':Hp}{u G E:Addr}{s:Bi}(e:Ac H H')(h:IE H u G E s):IE H' u G E s:=by
 obtain⟨a,⟨ts,b,c⟩,⟨us,d,f⟩⟩:=h;exact⟨e _ _ a,⟨ts,e _ _ b,c.same e⟩,⟨us,e _ _ d,f.same e⟩⟩
theorem IE.keeps{M:Addr->Prop}{H H':Hp}{u G E:Addr}{s:Bi}(k:Keeps M H H')(b:¬M G)(c:¬M E)(h:IE H u G E s):IE H' u G E s:=by
 obtain⟨a,⟨ts,d,e⟩,⟨us,f,g⟩⟩:=h;exact⟨k.tup a,⟨ts,k.at_ _ _ d b,e.keeps k⟩,⟨us,k.at_ _ _ f c,g.keeps k⟩⟩
structure Dl (H:Hp) (D:Addr) (us Gs Es:List Addr) (ss:List Bi):Prop where
 top:H D=some (.lst (us.map V.ref))
 lu:us.length=ss.length
 lg:Gs.length=ss.length
 le:Es.length=ss.length
 at_:∀(i:Nat)(u G E:Addr)(s:Bi),us[i]?=some u->Gs[i]?=some G->Es[i]?=some E->ss[i]?=some s->IE H u G E s
theorem Dl.same{H H':Hp}{D:Addr}{us a b:List Addr}{ss:List Bi}(e:Ac H H')(h:Dl H D us a b ss):Dl H' D us a b ss:=
 ⟨e _ _ h.top,h.lu,h.lg,h.le,λi u G E s c d f g=>(h.at_ i u G E s c d f g).same e⟩
variable {Gs Es:List Addr}{ss:List Bi}
theorem Dl.get(h:Dl H D us Gs Es ss)(a:i<ss.length) :
 ∃u G E,us[i]?=some u/\Gs[i]?=some G/\Es[i]?=some E/\ss[i]?=some ss[i]/\IE H u G E ss[i]:=by
 have b:us[i]?=some (us[i]'(by rw[h.lu];exact a)):=AD _;have c:Gs[i]?=some (Gs[i]'(by rw[h.lg];exact a)):=AD _;have d:Es[i]?=some (Es[i]'(by rw[h.le];exact a)):=AD _;exact⟨_,_,_,b,c,d,AD a,h.at_ i _ _ _ _ b c d (AD a)⟩
theorem Dl.step(h:Dl H D us Gs Es ss)(q:(D::(Gs++Es)).Nodup){t:Addr}{p:Cd}(g:i<ss.length)(b:Gs[i]?=some G)(r:H G=some (.lst (ts.map V.ref)))(T:RT Hv H ts ss[i].1)(v:H t=some (.tup (Hv p))) :
 Dl (upd H G (.lst (ts.map V.ref++[.ref t]))) D us Gs Es (ss.set i (ss[i].1++[p],ss[i].2)):=by
 have k:Keeps (·=G) H (upd H G (.lst (ts.map V.ref++[.ref t]))):=Keeps.one r;obtain⟨w,I⟩:=Gj.mp q;obtain⟨x,ne,J⟩:=List.nodup_append.mp I;have l:G∈Gs:=Bd b;refine⟨k.at_ _ _ h.top λz=>w (z▸D9 _ l),by rw[Fz];exact h.lu,by rw[Fz];exact h.lg,by rw[Fz];exact h.le,λj u m E s n c f d=>?_⟩;have o:E≠G:=λz=>J G l E (Bd f) z.symm;by_cases e:i=j;subst e;rw[b] at c;cases c;rw[List.getElem?_set_self g] at d;cases d;obtain⟨a,_,⟨y,A,B⟩⟩:=h.at_ i u G E _ n b f (AD g);exact⟨k.tup a,⟨ts++[t],by rw[Aa,Bn];rfl,(T.keeps k).snoc (k.tup v)⟩,⟨y,k.at_ _ _ A o,B.keeps k⟩⟩;rw[List.getElem?_set_ne e] at d
 have K:m≠G:=λz=>by
  subst z;obtain⟨L,C⟩:=A7.mp c;obtain⟨M,F⟩:=A7.mp b;exact e ((List.getElem_inj x).mp (F.trans C.symm))
 exact(h.at_ j u m E s n c f d).keeps k K o
theorem Dl.alive(h:Dl H D us Gs Es ss):∀x∈Gs++Es,∃xs,H x=some (.lst xs):=λx a=>by
 rcases BB.mp a with a|a;obtain⟨j,b⟩:=List.getElem?_of_mem a;have f:j<ss.length:=by rw[<-h.lg];exact(A7.mp b).1
 obtain⟨g,i,k,l,c,d,m,⟨_,⟨n,e,_⟩,_⟩⟩:=h.get f;rw[b] at c;cases c;exact⟨_,e⟩;obtain⟨j,b⟩:=List.getElem?_of_mem a;have f:j<ss.length:=by rw[<-h.le];exact(A7.mp b).1
 obtain⟨g,i,k,l,c,d,m,⟨_,_,⟨n,e,_⟩⟩⟩:=h.get f;rw[b] at d;cases d;exact⟨_,e⟩
theorem Dl.nil(h:H D=some (.lst [])):Dl H D [] [] [] []:=⟨h,rfl,rfl,rfl,λi u G E s a=>by simp at a⟩
variable {s:Bi}
theorem Dl.snoc(h:Dl H D us Gs Es ss)(g:IE H u G E s)(j:G≠D)(l:E≠D)(f:∀x∈Gs++Es,x≠D) :
 Dl (upd H D (.lst (us.map V.ref++[.ref u]))) D (us++[u]) (Gs++[G]) (Es++[E]) (ss++[s]):=by
 have k:Keeps (·=D) H (upd H D (.lst (us.map V.ref++[.ref u]))):=Keeps.one h.top;refine⟨by rw[Aa,Bn];rfl,by simp[h.lu],by simp[h.lg],by simp[h.le],λi m n o Z d a b c=>?_⟩;rcases Nat.lt_or_ge i ss.length with e|r;rw[EU (by rw[h.lu];exact e)] at d;rw[EU (by rw[h.lg];exact e)] at a;rw[EU (by rw[h.le];exact e)] at b;rw[EU e] at c;exact(h.at_ i m n o Z d a b c).keeps k (f _ (D9 _ (Bd a))) (f _ (De _ (Bd b)));have q:i<(ss++[s]).length:=(A7.mp c).1;rw[AW,DE] at q;have p:i=ss.length:=(by omega);subst p;rw[Fc (by rw[h.lu];exact AB _),h.lu,Nat.sub_self] at d;rw[Fc (by rw[h.lg];exact AB _),h.lg,Nat.sub_self] at a;rw[Fc (by rw[h.le];exact AB _),h.le,Nat.sub_self] at b;rw[Fc (AB _),Nat.sub_self] at c;cases d;cases a;cases b;cases c;exact g.keeps k j l
theorem YE(a:(D::(Gs++Es)).Nodup)(b:G∉D::(Gs++Es))(c:E∉D::(Gs++Es))(d:G≠E):(D::((Gs++[G])++(Es++[E]))).Nodup:=by
 have p:(D::((Gs++[G])++(Es++[E]))).Perm (G::E::(D::(Gs++Es))):=by
  have e:(D::((Gs++[G])++(Es++[E]))).Perm (E::(D::((Gs++[G])++Es))):=by
   have:(D::((Gs++[G])++(Es++[E])))=(D::((Gs++[G])++Es))++[E]:=(by simp);rw[this];exact List.perm_append_singleton _ _
  have J:(D::((Gs++[G])++Es)).Perm (G::(D::(Gs++Es))):=by
   have:(D::((Gs++[G])++Es))=(D::Gs)++G::Es:=(by simp);rw[this];exact List.perm_middle
  exact(e.trans (J.cons E)).trans (List.Perm.swap _ _ _)
 rw[p.nodup_iff,Gj,Gj];refine⟨λz=>?_,c,a⟩;rcases Ce.mp z with z|z;exact d z;exact b z
def BL (ths:List (Str×Int)) (as:List (Option (Str×Int))) (p:Cd):Str×Int:=
 if p.2.1=("to" : Str) then("to",p.2.2) else match as[p.2.2.toNat]? with
 |some (some w)=>if w.1=("thing" : Str) then(match ths[w.2.toNat]? with
   |some k=>Dk ths as k
   |none=>("no",0)) else("no",0)
 |some none=>("open",p.2.2)
 |none=>("no",0)
theorem YF{p:Cd}(h:p.2.1=("to" : Str)):BL ths as p=(("to" : Str),p.2.2):=Aj h
theorem YG{p:Cd}(h:p.2.1≠("to" : Str))(a:p.2.2=(n:Int))(b:as[n]?=some none):BL ths as p=(("open" : Str),p.2.2):=by
 unfold BL;rw[Ak h,a,Be,b]
theorem YH{p:Cd}{w:Str×Int}(h:p.2.1≠("to" : Str))(a:p.2.2=(n:Int))(b:as[n]?=some (some w))(c:w.1≠("thing" : Str)):BL ths as p=(("no" : Str),0):=by
 unfold BL;rw[Ak h,a,Be,b];exact Ak c
theorem YI{p:Cd}{w k:Str×Int}(h:p.2.1≠("to" : Str))(a:p.2.2=(n:Int))(b:as[n]?=some (some w))(c:w.1=("thing" : Str))(d:w.2=(m:Int))(e:ths[m]?=some k):BL ths as p=Dk ths as k:=by
 unfold BL;rw[Ak h,a,Be,b]
 show(if w.1=("thing" : Str) then _ else _)=_
 rw[Aj c,d,Be,e]
section
variable {X:Cx}
end
def FM (s q:Int) (p:Str×Int):Prop:=(p.1=("plain" : Str)/\p.2=0)\/(p.1=("part" : Str)/\0<=p.2/\p.2<s)\/(p.1=("sort" : Str)/\0<=p.2/\p.2<q)
def Fn (s q:Int) (p:Cd):Prop:=(p.2.1=("to" : Str)/\0<=p.2.2/\p.2.2<s)\/(p.2.1=("by" : Str)/\0<=p.2.2/\p.2.2<q)
def Fo (t q:Int) (p:DU):Prop:=(p.2.2.1=("thing" : Str)/\0<=p.2.2.2/\p.2.2.2<t)\/(p.2.2.1=("by" : Str)/\0<=p.2.2.2/\p.2.2.2<q)
structure Gd (H:Hp) (S T R:Addr) (us Gs Es ts qt:List Addr) (ss:List Bi) (gs:List (Str×Int)) (qs:List Qu):Prop where
 sc:Dl H S us Gs Es ss
 et:H T=some (.lst (ts.map V.ref))
 tg:GT H ts gs
 er:H R=some (.lst (qt.map V.ref))
 tq:QT H qt qs
theorem Gd.same{H H':Hp}{S T R:Addr}{us Gs Es ts a:List Addr}{ss:List Bi}{gs:List (Str×Int)}{qs:List Qu}(e:Ac H H')(h:Gd H S T R us Gs Es ts a ss gs qs):Gd H' S T R us Gs Es ts a ss gs qs:=
 ⟨h.sc.same e,e _ _ h.et,h.tg.same e,e _ _ h.er,h.tq.same e⟩
abbrev Jr (K:Ah):List V->Hp->VK->Prop:=λxs H Q=>∃p ys,xs=[V.ref p]/\(Ag K H p ys\/Aq K H p ys)/\∀l,H l=none->Q (V.ref l) (upd H l (HO.lst ys))
theorem Dl.tell(h:Dl H D us Gs Es ss)(q:(D::(Gs++Es)).Nodup){t:Addr}{p:DU}(g:i<ss.length)(b:Es[i]?=some E)(r:H E=some (.lst (ts.map V.ref)))(T:RT Hw H ts ss[i].2)(v:H t=some (.tup (Hw p))) :
 Dl (upd H E (.lst (ts.map V.ref++[.ref t]))) D us Gs Es (ss.set i (ss[i].1,ss[i].2++[p])):=by
 have k:Keeps (·=E) H (upd H E (.lst (ts.map V.ref++[.ref t]))):=Keeps.one r;obtain⟨w,C⟩:=Gj.mp q;obtain⟨K,ne,F⟩:=List.nodup_append.mp C;have l:E∈Es:=Bd b;refine⟨k.at_ _ _ h.top λz=>w (z▸De _ l),by rw[Fz];exact h.lu,by rw[Fz];exact h.lg,by rw[Fz];exact h.le,λj u G m s n f c d=>?_⟩;have o:G≠E:=λz=>F G (Bd f) E l z;by_cases e:i=j;subst e;rw[b] at c;cases c;rw[List.getElem?_set_self g] at d;cases d;obtain⟨a,⟨I,x,y⟩,_⟩:=h.at_ i u G E _ n f b (AD g);exact⟨k.tup a,⟨I,k.at_ _ _ x o,y.keeps k⟩,⟨ts++[t],by rw[Aa,Bn];rfl,(T.keeps k).snoc (k.tup v)⟩⟩;rw[List.getElem?_set_ne e] at d
 have J:m≠E:=λz=>by
  subst z;obtain⟨L,A⟩:=A7.mp c;obtain⟨M,B⟩:=A7.mp b;exact e ((List.getElem_inj ne).mp (B.trans A.symm))
 exact(h.at_ j u G m s n f c d).keeps k o J
def Ky (K:Ah) (l:Addr):It:=
 ⟨λi H=>∃xs x,Ag K H l xs/\xs[i]?=some x,
  λi H v H'=>∃T x,H T=none/\v=.ref T/\H'=upd H T (.tup [.int i,x])/\∀xs,Ag K H l xs->xs[i]?=some x,
  λi H=>∃xs,Ag K H l xs/\xs.length<=i⟩
def LG (e it l:Addr) (i:Nat) (h:Heap):Prop:=(∃old,IsEnum h e it i old)/\h.IsListIter it l i
variable {w:World}{l:Addr}
theorem YJ{P:Program}{K:Ah}{es:List Expr}{k:Nat}{e d:Addr}(aa:e≠d) :
 Fh P w K (.Tuple es k L) (Ky K l) [e,d] e (LG e d l) where
 mem:=by simp
 obj:=λi h g b a=>by
  obtain⟨⟨C,f⟩,⟨o1,M,c1,d1⟩⟩:=g;simp at a;rcases a with rfl|rfl;exact⟨_,f,λv q=>by cases q⟩;exact⟨_,M,λv q=>by rw[d1] at q;cases q⟩
 keep:=λi h h' g Z=>by
  obtain⟨⟨C,f⟩,p⟩:=g;exact⟨⟨C,Z e (by simp) _ f⟩,p.at λo x=>Z d (by simp) o x⟩
 item:=by
  intro X N O Q r i W s σ H E I B g R;subst N O Q;obtain⟨xs,x,J,hx⟩:=R;obtain⟨⟨C,f⟩,p⟩:=g;obtain⟨ar,V,S,ah⟩:=I.list J;obtain⟨F,ai,aj⟩:=V.get hx;refine wpAny_pyNext_enum_item f p S.isList (x:=F) (by simpa using ai) aa λh' a1 a2 a3 a4 hk=>?_;refine⟨_,rfl,wpAny_letOwnedTupleGo_enum (s:={s with heap:=h',toks:=s.toks+1}) a1 λD au Y=>?_⟩;have t:=B e (by simp);have y:=B d (by simp);have GU:∀b u,H b=some u->b≠e/\b≠d:=λb u z=>⟨AJ z t.1,AJ z y.1⟩;have keep:∀b o,b≠e->b≠d->s.heap.get? b=some o->D.get? b=some o:=λb o G T z=>(Y.2 b G).trans (hk b o G T z);have A:∀{b:Addr},b∉[e,d]->b≠e/\b≠d:=λ{b}a=>by simpa using a
  have I1:Inv X W σ H {s with heap:=D,toks:=s.toks+1}:=by
   refine I.step (g':=s.gens) (t':=s.toks+1) (d':=s.drawn) (h':=D) (ch:=[e,d]) (λb a=>?_) (λb j _ _ a z _=>keep b j (A a).1 (A a).2 z) (λb j _ _ a z _=>⟨j.slots,keep b j (A a).1 (A a).2 z⟩)
    (λ_ _ _ _ n=>n) (λb j a z=>⟨j,keep b j (A a).1 (A a).2 z⟩) (λ_ _ z=>z) (λ_ _ _ z=>z) (λb ps z=>⟨#[],by rw[z];simp⟩) (λm hm=>?_) (λb u z=>?_) I.bare
   have:b=e\/b=d:=(by simpa using a);rcases this with rfl|rfl;exact⟨t.2.2.2.1,t.2.1,t.2.2.2.2.1,t.2.2.2.2.2⟩;exact⟨y.2.2.2.1,y.2.1,y.2.2.2.2.1,y.2.2.2.2.2⟩;obtain⟨o,es,ep,ho,af⟩:=hm;exact⟨o,es,ep,keep _ o (Ne.symm t.2.1) (Ne.symm y.2.1) ho,af⟩;refine(I.hok b u z).stay (λc v r q=>?_) (λ_ q=>q) λ_ _ q=>q
   have ak:∃U,H c=some U:=by
    rcases r with rfl|r;exact⟨_,z⟩;exact⟨_,r⟩
   obtain⟨U,e'⟩:=ak;obtain⟨G,T⟩:=GU c U e';exact keep c v G T q
  have al:s.heap.objs.size≠e:=Nat.ne_of_gt (A1 f);have ab:H s.heap.objs.size=none:=I.hok.fresh (AB _);have ae:D.get? s.heap.objs.size=some {cls:=.type "tuple",data:=.seq #[.int i s.toks,F]}:=(Y.2 _ al).trans a3
  have I2:Inv X W σ (upd H s.heap.objs.size (.tup [.int i,x])) {s with heap:=D,toks:=s.toks+1}:=by
   refine I1.track (I.fpOk (AB _) ab) ⟨_,ae⟩ ?_;exact⟨by show 2<=sizeLine;decide,[.int i s.toks,F],.cons ⟨_,rfl⟩ (.cons aj .nil),⟨_,ae,rfl,_,rfl⟩⟩
  refine⟨.ref s.heap.objs.size,_,I2,rfl,⟨s.heap.objs.size,x,ab,rfl,rfl,λzs an=>by rw[I.list_inj an J];exact hx⟩,?_,λb a=>?_⟩;refine⟨⟨F,by simpa using au⟩,a2.extBut Y.extBut (Ne.symm aa)⟩;have ao:=(B b a).1;rw[AC (λq=>?_)];exact ao;have aq:b=e\/b=d:=(by simpa using a);obtain⟨o1,M,_⟩:=p
  have lt:b<s.heap.objs.size:=by
   rcases aq with rfl|rfl;exact A1 f;exact A1 M
  rw[q] at lt;exact absurd lt (F7 _)
 done:=by
  intro X N O Q r i W s σ H E I B g R;subst N O Q;obtain⟨xs,J,ax⟩:=R;obtain⟨⟨C,f⟩,p⟩:=g;obtain⟨ar,V,S,ah⟩:=I.list J;have aw:=V.length;obtain⟨f0,ag,av,f3,f4,f5⟩:=B d (by simp);exact wpAny_pyNext_enum_end (I.ok.hd r) f p S.isList (by simp;omega) λh' eb=>⟨rfl,I.turned (t':=s.toks) (λb o a z=>eb b o a z) f0 ag f3 f4 f5⟩
 self:=λ_ _ _ _ _ g h=>by
  obtain⟨⟨C,f⟩,_⟩:=g;exact wpAny_pyIter_enum f h
def N9 (K:Ah) (ta:TA):TI:=λσ H R=>ta σ H λvs Y=>∃l,vs=[.ref l]/\(∃xs,Y l=some (.lst xs))/\R (Ky K l) Y
theorem Pw{X:Cx}{es:List Expr}{k:Nat}{j:Pos}{a:Expr}{f:TA}{p:Pos}(m:Gl X "enumerate")(o:X.mg "enumerate" = none)(r:PA X [a] f)(t:starEach [a] X.env=[(false,eval a X.env)]:=by rfl) :
 PI X (.Tuple es k j) (.Call (.Name "enumerate" p) [a] [] L) (N9 X.K f):=by
 intro G s σ H R I h;refine Call_ (IR I m o (u:=.type "enumerate") (by decide +kernel) (PyProof.Rows.callWith_type1 (AV (r L G s σ H _ I h) λus c⟨vs,Y,d,v,w⟩=>?_) (by rw[t];rfl) (by rfl)));obtain⟨l,rfl,⟨xs,x⟩,q⟩:=w;obtain⟨y,rfl,E⟩:=Fj v;obtain rfl:y=Value.ref l:=E;obtain⟨z,M,n,J,e⟩:=d.hok l _ x;have K:l<c.heap.objs.size:=A1 e;refine call_enumerate_1 e λA g B N C=>?_;refine wpAny_pyIter_enum (s:={c with heap:=A}) g ?_;refine⟨_,[c.heap.objs.size+1,c.heap.objs.size],_,_,Y,rfl,d.kept (t':=c.toks) C,YJ (Nat.succ_ne_self _),⟨⟨_,g⟩,B⟩,λb D=>?_,q⟩
 have i:c.heap.objs.size<=b:=by
  have F:b=c.heap.objs.size+1\/b=c.heap.objs.size:=(by simpa using D);rcases F with rfl|rfl;exact Nat.le_add_right _ _;exact AB _
 exact d.fpOk i (d.hok.fresh i)
theorem Sk{K:Ah}{tb:TS}{D:Ends}(Pv:Nat->St->Hp->Prop)(f:Pv 0 σ H)(h:∀i σ H,Pv i σ H->Ag K H l xs)
 (j:∀i x T σ H,xs[i]?=some x->H T=none->Pv i σ H->g (.ref T) σ (upd H T (.tup [.int i,x])) λσ2 a=>tb {D with nx:=Pv (i+1),ct:=Pv (i+1),bk:=D.nx} σ2 a) (hd:∀σ H,Pv xs.length σ H->D.nx σ H) :
 ∃W:Nat->Nat->St->Hp->Prop,(∃m,W 0 m σ H)/\∀i m σ H,W i m σ H ->
  ((Ky K l).stop i H/\D.nx σ H)\/((Ky K l).go i H/\∃N:St->Hp->Prop,(∀σ' H',N σ' H'->∃c,c<m/\W (i+1) c σ' H')/\∀x H',(Ky K l).yld i H x H'->g x σ H' λσ2 a=>tb {D with nx:=N,ct:=N,bk:=D.nx} σ2 a):=by
 refine⟨λi m σ H=>m=xs.length-i/\i<=xs.length/\Pv i σ H,⟨_,rfl,Ci _,f⟩,?_⟩;rintro i m σ H ⟨rfl,q,p⟩;have b:=h i σ H p;by_cases d:i<xs.length;refine .inr ⟨⟨xs,xs[i],b,by simp[d]⟩,Pv (i+1),λσ' H' k=>⟨xs.length-(i+1),by omega,rfl,d,k⟩,λv H' y=>?_⟩;obtain⟨T,x,n,rfl,rfl,o⟩:=y;exact j i x T σ H (o xs b) n p;have e:i=xs.length:=(by omega);refine .inl ⟨⟨xs,b,by omega⟩,?_⟩;rw[e] at p;exact hd σ H p
open PySem.SeqAt
open PySem.AutoSeq1 (wpAny_loadPart')
open PySem.MeetsSeq PySem.MeetsSeq2 PySem.MeetsSeq3
def B3 (A:Around) (s:Shared) (x y:Value) (b:Bool):Prop:=
 ∀(prog:Program)(w:World)(E:Value->Shared->Prop)(Q:Value->Shared->Prop),Q (.bool b) s->wpAny (model prog w) A (richCompare .Lt x y) Q E s
inductive BJ (A:Around) (s:Shared):List Value->List Value->Bool->Prop where
 |nil:BJ A s [] [] false
 |lt (w:Value) (ws:List Value):BJ A s [] (w::ws) true
 |gt (v:Value) (vs:List Value):BJ A s (v::vs) [] false
 |eq {v w:Value} {vs ws:List Value} {b:Bool} (h:EqAt A s v w true) (t:BJ A s vs ws b):BJ A s (v::vs) (w::ws) b
 |ne {v w:Value} {vs ws:List Value} {b:Bool} (h:EqAt A s v w false) (l:B3 A s v w b):BJ A s (v::vs) (w::ws) b
theorem YK(l b:Addr)(f e:Array Value)(n C:Nat)(D K:Option Addr)(E L:Array (Option Value))(c:Bool) :
 Meets (Builtin.«tuple.__lt__» ⟨[.ref l,.ref b],[]⟩)
  (λA R s=>s.heap.get? l=some {cls:=.type "tuple",dict:=D,data:=.seq f n,slots:=E}/\s.heap.get? b=some {cls:=.type "tuple",dict:=K,data:=.seq e C,slots:=L} /\
   BJ A.in1 s f.toList e.toList c/\R (.ok (.ret (.bool c))) s):=
 .of_wp λu w A R s h=>by
  obtain⟨v,g,d,tk,z⟩:=s;obtain⟨F,G,i,h⟩:=h;have N:=AutoSeq1.sub_tuple_tuple
  wp_walk using wpAny_loadPart' F,wpAny_loadPart' G,wpAny_forIn_list _ (λj b Z=>b.1=none/\Z=⟨v,g,d,tk,z⟩/\∃(vs k:List Value),j=vs.zip k /\
   BJ A.in1 ⟨v,g,d,tk,z⟩ vs k c/\vs.length+e.size=k.length+f.size) _
  case turn =>
   rintro⟨y,x⟩ j b Z ⟨q,rfl,vs,k,a,r,m⟩
   cases r with
   |nil=>rw[List.zip_nil_left] at a;cases a
   |lt=>rw[List.zip_nil_left] at a;cases a
   |gt=>rw[List.zip_nil_right] at a;cases a
   |eq o H =>
     rw[List.zip_cons_cons] at a;injection a with t B;injection t with p i;subst p i;simp only[Ej] at m;refine Ad (o u w _ _ ?_)
     wp_walk
     exact⟨rfl,rfl,_,_,B,H,by omega⟩
   |ne o I =>
     rw[List.zip_cons_cons] at a;injection a with t B;injection t with p i;subst p i;refine Ad (o u w _ _ ?_);have M:=I u w
     wp_walk using M
     exact⟨_,rfl,by simpa using h⟩
  case fin =>
   rintro⟨O,P⟩ Z ⟨q,rfl,vs,k,a,r,m⟩;simp only at q;subst q
   have J:c=decide (f.size<e.size):=by
    cases r with
    |nil =>
      simp only[Gm] at m;exact(DS (by omega)).symm
    |lt =>
      simp only[Gm,Ej] at m;exact(A4 (by omega)).symm
    |gt =>
      simp only[Gm,Ej] at m;exact(DS (by omega)).symm
    |eq=>rw[List.zip_cons_cons] at a;cases a
    |ne=>rw[List.zip_cons_cons] at a;cases a
   rw[J] at h
   wp_walk
   exact⟨_,rfl,by simpa [Builtin.Tuple.tupleCompareSizes] using h⟩
  case h =>
   exact⟨rfl,rfl,f.toList,e.toList,rfl,i,by simp[Nat.add_comm]⟩
theorem YL(l b:Addr)(f e:Array Value)(n C:Nat)(D N:Option Addr)(E O:Array (Option Value))(c:Bool)(k:Nat) :
 ∀i:Nat,f.size-i=k->i<=f.size->i<=e.size->Meets (Builtin.«list.__eq__.loop» ⟨[.ref l,.ref b,rawInt i,rawInt 0],[]⟩)
  (λA R s=>s.heap.get? l=some {cls:=.type "list",dict:=D,data:=.seq f n,slots:=E}/\s.heap.get? b=some {cls:=.type "list",dict:=N,data:=.seq e C,slots:=O} /\
   BJ A.in1 s (f.toList.drop i) (e.toList.drop i) c/\R (.ok (.ret (.bool c))) s):=by
 induction k with
 |zero =>
   intro i F G P q w A R s h;obtain⟨H,g,d,tk,I⟩:=s;obtain⟨j,m,a,h⟩:=h;have u:f.toList.drop i=[]:=by simp;omega
   rw[u] at a
   have v:c=decide (f.size<e.size):=by
    generalize o:e.toList.drop i=r at a;have x:=BC List.length o;simp only[Kh,Array.length_toList] at x
    cases a with
    |nil=>simp only[Gm] at x;exact(DS (by omega)).symm
    |lt=>simp only[Ej] at x;exact(A4 (by omega)).symm
   wp_walk using wpAny_loadPart' j,wpAny_loadPart' m
   have p:f[((i:Nat):Int).toNat]?=none:=by simp;omega
   rw[p]
   wp_walk using wpAny_loadPart' j,wpAny_loadPart' m
   show R (.ok (.ret (.bool (decide (f.size<e.size))))) _;rw[<-v];exact h
 |succ k J =>
   intro i F G P q w A R s h;obtain⟨H,g,d,tk,I⟩:=s;obtain⟨j,m,a,h⟩:=h;have z:i<f.size:=(by omega);have p:f[((i:Nat):Int).toNat]?=some f[i]:=(by simp[z]);have u:f.toList.drop i=f[i]::f.toList.drop (i+1):=(by simp[MI,z]);rw[u] at a
   wp_walk using wpAny_loadPart' j,wpAny_loadPart' m
   by_cases B:i<e.size;have t:e[((i:Nat):Int).toNat]?=some e[i]:=(by simp[B]);have o:e.toList.drop i=e[i]::e.toList.drop (i+1):=(by simp[MI,B]);have K:((i:Int)+1)=((i+1:Nat):Int):=by push_cast;rfl
   rw[o] at a;rw[p,t]
   cases a with
   |eq y L =>
     refine Ad (y q w _ _ ?_)
     wp_walk
     rw[K]
     exact⟨plainId_quiet plain_eq_loop _,codeAny_builtin entry_eq_loop (by
      rw[Around.under_plainId plain_eq_loop _]
      exact J (i+1) (by omega) (by omega) (by omega) q w A R _ ⟨j,m,L,h⟩)⟩
   |ne y M =>
     refine Ad (y q w _ _ ?_);have Q:=M q w
     wp_walk using wpAny_loadPart' j,wpAny_loadPart' m
     rw[p,t]
     wp_walk using Q
     exact h
   have t:e[((i:Nat):Int).toNat]?=none:=by simp;omega
   have o:e.toList.drop i=[]:=by simp;omega
   rw[o] at a
   have v:c=decide (f.size<e.size):=by
    cases a;exact(DS (by omega)).symm
   rw[p,t]
   wp_walk using wpAny_loadPart' j,wpAny_loadPart' m
   show R (.ok (.ret (.bool (decide (f.size<e.size))))) _;rw[<-v];exact h
theorem Vm(l b:Addr)(f e:Array Value)(n a:Nat)(i o:Option Addr)(j p:Array (Option Value))(c:Bool) :
 Meets (Builtin.«list.__lt__» ⟨[.ref l,.ref b],[]⟩)
  (λA R s=>s.heap.get? l=some {cls:=.type "list",dict:=i,data:=.seq f n,slots:=j}/\s.heap.get? b=some {cls:=.type "list",dict:=o,data:=.seq e a,slots:=p} /\
   BJ A.in1 s f.toList e.toList c/\R (.ok (.ret (.bool c))) s):=by
 intro r w A R s h;obtain⟨t,g,d,tk,u⟩:=s;obtain⟨k,m,q,h⟩:=h;have v:=AutoSeq1.sub_list_list
 wp_walk using wpAny_loadPart' k,wpAny_loadPart' m
 exact⟨plainId_quiet plain_eq_loop _,codeAny_builtin entry_eq_loop (by
  rw[Around.under_plainId plain_eq_loop _]
  exact YL l b f e n a i o j p c _ 0 rfl (Ci _) (Ci _) r w A R _ ⟨k,m,by simpa using q,h⟩)⟩
section
variable {A:Around} {s:Shared}
variable {b:Addr}{f e:Array Value}
theorem B3.tuples{c:Bool}(k:IsTup s.heap l f)(m:IsTup s.heap b e)(o:BJ A.in1 s f.toList e.toList c)(p:A.units<cLine):B3 A s (.ref l) (.ref b) c:=λz w E Q h=>by
 obtain⟨⟨y,q,B,r⟩,a,d,n,hd⟩:=id k;obtain⟨⟨C,u,data2,v⟩,g,i,t,j⟩:=id m;simp only at d hd i j;subst d hd i j
 exact richCompare_meets_room (op:=.Lt) ⟨_,a,rfl⟩ ⟨_,g,rfl⟩ PySem.F.slot_tuple_lt PySem.F.entry_tuple_lt (PySem.F.args_tuple_lt_2 _ _) (YK l b f e n t q u r v c)
  ⟨a,g,o,show Value.bool c≠Value.notImplemented/\Q (.bool c) s from⟨(λx=>nomatch x),h⟩⟩ p
theorem B3.lists{c:Bool}(k:s.heap.IsList l f)(m:s.heap.IsList b e)(o:BJ A.in1 s f.toList e.toList c)(p:A.units<cLine):B3 A s (.ref l) (.ref b) c:=λz w E Q h=>by
 obtain⟨⟨y,q,B,r⟩,a,d,n,hd⟩:=id k;obtain⟨⟨C,u,data2,v⟩,g,i,t,j⟩:=id m;simp only at d hd i j;subst d hd i j
 exact richCompare_meets_room (op:=.Lt) ⟨_,a,rfl⟩ ⟨_,g,rfl⟩ PySem.F.slot_list_lt PySem.F.entry_list_lt (PySem.F.args_list_lt_2 _ _) (Vm l b f e n t q u r v c)
  ⟨a,g,o,show Value.bool c≠Value.notImplemented/\Q (.bool c) s from⟨(λx=>nomatch x),h⟩⟩ p
theorem Vn{prog:Program}{E:Value->Shared->Prop}{c:Bool}{Q:Bool->Shared->Prop}(j:s.heap.IsList l f)(k:s.heap.IsList b e)(m:BJ A.in1 s f.toList e.toList c)(o:A.units<cLine)(h:Q c s) :
 wpAny (model prog w) A (oneLt' true (.ref l) (.ref b)) Q E s:=by
 obtain⟨⟨x,p,y,q⟩,a,d,n,hd⟩:=id j;obtain⟨⟨z,t,data2,u⟩,v,g,r,i⟩:=id k;simp only at d hd g i;subst d hd g i;rw[oneLt'_eq];simp only[if_true];refine Ad (wpAny_cRoomFor o ?_);refine Ad (wpAny_callSpecialIfBound?_slot (T:= "list") ⟨_,a,rfl⟩ PySem.F.slot_list_lt (call_meets PySem.F.slot_list_lt ⟨_,a,rfl⟩ PySem.F.entry_list_lt (PySem.F.args_list_lt_2 _ _) (Vm l b f e n r p t q u c) ⟨a,v,m,?_⟩));exact FJ h
end
def EW (O:KeyOrd):List O.α->List O.α->Bool
 |[],[]=>false
 |[],_::_=>true
 |_::_,[]=>false
 |x::xs,y::ys=>O.blt x y || (!O.blt y x && EW O xs ys)
theorem LH(O:KeyOrd)(x y:O.α)(xs ys:List O.α):EW O (x::xs) (y::ys)=(O.blt x y || (!O.blt y x && EW O xs ys)):=rfl
theorem Vo(O:KeyOrd):∀xs,EW O xs xs=false
 |[]=>rfl
 |x::xs=>by rw[LH,O.irrefl,Vo O xs];rfl
theorem Vp(O:KeyOrd):∀xs ys zs,EW O xs ys=true->EW O ys zs=true->EW O xs zs=true
 |[],[],_,h,_=>by cases h
 |[],_::_,[],_,k=>by cases k
 |[],_::_,_::_,_,_=>rfl
 |_::_,[],_,h,_=>by cases h
 |_::_,_::_,[],_,k=>by cases k
 |x::xs,y::ys,z::zs,a,b=>by
   rw[LH] at *;simp only[Bool.or_eq_true,Bool.and_eq_true,Bool.not_eq_true'] at a b ⊢
   rcases a with a|⟨a,c⟩<;>rcases b with b|⟨b,d⟩;exact .inl (O.trans _ _ _ a b);exact .inl (KeyOrd.klt_of_klt_of_kle a b);exact .inl (KeyOrd.klt_of_kle_of_klt a b);exact .inr ⟨KeyOrd.kle_trans (O:=O) a b,Vp O xs ys zs c d⟩
theorem Vq(O:KeyOrd):∀xs ys zs,EW O xs zs=true->EW O xs ys=true\/EW O ys zs=true
 |[],[],[],h=>by cases h
 |[],[],_::_,_=>.inr rfl
 |[],_::_,_,_=>.inl rfl
 |_::_,_,[],h=>by cases h
 |_::_,[],_::_,_=>.inr rfl
 | x :: xs,y :: ys,z :: zs,h=>by
   rw[LH] at *;rw[LH];simp only[Bool.or_eq_true,Bool.and_eq_true,Bool.not_eq_true'] at h ⊢
   rcases h with h|⟨h,k⟩;rcases O.negTrans _ y _ h with h|h;exact .inl (.inl h);exact .inr (.inl h)
   cases b:O.blt x y with
   |true=>exact .inl (.inl rfl)
   |false =>
     cases c:O.blt y z with
     |true=>exact .inr (.inl rfl)
     |false =>
       have d:O.kle y x:=b;have e:O.kle z y:=c;have a:O.kle x z:=h;have f:O.blt y x=false:=KeyOrd.kle_trans (O:=O) a e;have g:O.blt z y=false:=KeyOrd.kle_trans (O:=O) d a;rcases Vq O xs ys zs k with k|k;exact .inl (.inr ⟨f,k⟩);exact .inr (.inr ⟨g,k⟩)
theorem Vr(O:KeyOrd):∀xs ys,EW O xs ys=false->EW O ys xs=false->xs=ys
 |[],[],_,_=>rfl
 |[],_::_,h,_=>by cases h
 |_::_,[],_,k=>by cases k
 |x::xs,y::ys,a,b=>by
   rw[LH] at a b;simp only[Bool.or_eq_false_iff,Bool.and_eq_false_iff,Bool.not_eq_false'] at a b;have c:x=y:=O.total _ _ a.1 b.1;have d:xs=ys:=Vr O xs ys (by rcases a.2 with z|z;exact absurd (b.1.symm.trans z) (by simp);exact z) (by rcases b.2 with z|z;exact absurd (a.1.symm.trans z) (by simp);exact z);rw[c,d]
@[reducible] def Oa (O:KeyOrd):KeyOrd where
 α:=List O.α
 blt:=EW O
 irrefl:=Vo O
 trans:=Vp O
 negTrans:=Vq O
 total:=Vr O
theorem MY{P:KeyOrd}(x y:(BK O P).α)(e:x.1=y.1):(BK O P).blt x y=P.blt x.2 y.2:=by
 show(O.blt x.1 y.1 || (!O.blt y.1 x.1 && P.blt x.2 y.2))=_;rw[e,O.irrefl];rfl
theorem MZ{P:KeyOrd}(x y:(BK O P).α)(e:x.1≠y.1):(BK O P).blt x y=O.blt x.1 y.1:=by
 show(O.blt x.1 y.1 || (!O.blt y.1 x.1 && P.blt x.2 y.2))=_
 cases a:O.blt x.1 y.1 with
 |true=>rfl
 |false =>
   cases b:O.blt y.1 x.1 with
   |true=>rfl
   |false=>exact absurd (O.total _ _ a b) e
theorem YM(x:O.α)(xs ys:List O.α):EW O (x::xs) (x::ys)=EW O xs ys:=by
 rw[LH,O.irrefl];rfl
theorem YN{x y:O.α}(xs ys:List O.α)(e:x≠y):EW O (x::xs) (y::ys)=O.blt x y:=by
 rw[LH]
 cases a:O.blt x y with
 |true=>rfl
 |false =>
   cases b:O.blt y x with
   |true=>rfl
   |false=>exact absurd (O.total _ _ a b) e
mutual
theorem Fl.mono {n m:Nat}{d e:Dt} (c:Fl n d e) (h:n<=m):Fl m d e:=by
 cases c with
 | non=>exact .non
 | bl a b=>exact .bl a b
 | int a b=>exact .int a b
 | str a b=>exact .str a b
 | tup t=>cases m with
   | zero=>exact absurd h (Nat.not_succ_le_zero _)
   | succ m=>exact .tup (CB.mono t (Nat.le_of_succ_le_succ h))
 | lst t=>cases m with
   | zero=>exact absurd h (Nat.not_succ_le_zero _)
   | succ m=>exact .lst (CB.mono t (Nat.le_of_succ_le_succ h))
 | apart a=>cases m with
   | zero=>exact absurd h (Nat.not_succ_le_zero _)
   | succ m=>exact .apart a
theorem CB.mono {n m:Nat}{a es:List Dt} (c:CB n a es) (h:n<=m):CB m a es:=by
 cases c with
 | nil=>exact .nil _
 | nil'=>exact .nil' _
 | cons c t=>exact .cons (Fl.mono c h) (CB.mono t h)
end
structure Enc where
 O:KeyOrd
 D:O.α->Dt
 dflt:O.α
 dep:Nat
 cmp:∀a b,Fl dep (D a) (D b)
 inj:∀a b,D a=D b->a=b
 lt:∀{X:Cx}{pins:List (Addr×Obj)}{σ:St}{H:Hp}{s:Shared},Inv X pins σ H s->∀{a b:O.α}{v u:V}{x y:Value}{A:Around},Ar X.K H v (D a)->Ar X.K H u (D b)->RelV v x->RelV u y->A.units+dep<cLine->B3 A s x y (O.blt a b)
section
variable {X:Cx} {pins:List (Addr×Obj)} {σ:St} {H:Hp} {s:Shared}
theorem Enc.eq(c:Enc)(I:Inv X pins σ H s){a b:c.O.α}{u:V}{x y:Value}{A:Around}(hv:Ar X.K H v (c.D a))(d:Ar X.K H u (c.D b))(e:RelV v x)(f:RelV u y)(g:A.units+c.dep<cLine):EqAt A s x y (dec (a=b)):=by
 have:=Vd (A:=A) I (c.cmp a b) hv d e f g
 rwa [MW (p:=c.D a=c.D b) (q:=a=b) ⟨c.inj a b,λz=>by rw[z]⟩] at this
theorem Enc.lex(c:Enc)(I:Inv X pins σ H s){a b:c.O.α}{u:V}{x y:Value}{A:Around}{vs ws:List Value}{e f:Bool}(hv:Ar X.K H v (c.D a))(h:Ar X.K H u (c.D b))(i:RelV v x)(j:RelV u y)(k:A.units+c.dep<cLine)(l:a=b->BJ A s vs ws e/\f=e)(m:a≠b->f=c.O.blt a b):BJ A s (x::vs) (y::ws) f:=by
 have d:=c.eq (A:=A) I hv h i j k;by_cases g:a=b;rw[FD g] at d;obtain⟨t,rfl⟩:=l g;exact .eq d t;rw[F0 g] at d;rw[m g];exact .ne d (c.lt I hv h i j k)
end
@[reducible] def FN:Enc where
 O:=Jl
 D:=Dt.int
 dflt:=(0:Int)
 dep:=0
 cmp a b:=.int a b
 inj a b h:=Dt.int.inj h
 lt {X pins σ H s} I {a b v u x y A} hv hu rx ry _:=by
  cases hv;cases hu;obtain⟨t,rfl⟩:=rx;obtain⟨t',rfl⟩:=ry;exact λprog w E Q h=>(PySem.P.lt_int h:wpAny (model prog w) _ (compareOp .Lt _ _) Q E _)
@[reducible] def Sl:Enc where
 O:=C7
 D:=Dt.str
 dflt:=(default:Str)
 dep:=0
 cmp a b:=.str a b
 inj a b h:=Dt.str.inj h
 lt {X pins σ H s} I {a b v u x y A} hv hu rx ry _:=by
  cases hv;cases hu;obtain⟨t,rfl⟩:=rx;obtain⟨t',rfl⟩:=ry;exact λprog w E Q h=>(PySem.P.lt_str h:wpAny (model prog w) _ (compareOp .Lt _ _) Q E _)
section
variable {X:Cx} {pins:List (Addr×Obj)} {σ:St} {H:Hp} {s:Shared}
theorem Enc.lexL(c:Enc)(I:Inv X pins σ H s){A:Around}(j:A.units+c.dep<cLine):∀{as bs:List c.O.α}{vs us:List V}{xs ys:List Value},An X.K H vs (as.map c.D)->An X.K H us (bs.map c.D)->As vs xs->As us ys->BJ A s xs ys (EW c.O as bs):=by
 intro as
 induction as with
 |nil =>
   intro bs vs us xs ys g d i f;cases g;cases i
   cases bs with
   |nil=>cases d;cases f;exact .nil
   |cons b bs=>cases d;cases f;exact .lt _ _
 |cons a as k =>
   intro bs vs us xs ys g d i f
   cases g with
   |cons h t=>cases i with
     |cons r q=>cases bs with
       |nil=>cases d;cases f;exact .gt _ _
       |cons b bs=>cases d with
         |cons l m=>cases f with
           |cons n o=>exact c.lex I h l r n j (λe=>⟨k t m q o,by subst e;exact YM a as bs⟩) (λe=>YN as bs e)
end
theorem Vs(c:Enc):∀{a b:List c.O.α},a.map c.D=b.map c.D->a=b
 |[],[],_=>rfl
 |[],_::_,h=>by cases h
 |_::_,[],h=>by cases h
 |x::a,y::b,h=>by
   rw[D7,D7] at h;injection h with d e;rw[c.inj x y d,Vs c e]
@[reducible] def Er (c:Enc):Enc where
 O:=Oa c.O
 D l:=Dt.lst (l.map c.D)
 dflt:=([]:List c.O.α)
 dep:=c.dep+1
 cmp a b:=.lst (CB.of λd hd e he=>by
  obtain⟨x,_,rfl⟩:=Br.mp hd;obtain⟨y,_,rfl⟩:=Br.mp he
  exact c.cmp x y)
 inj a b h:=Vs c (Dt.lst.inj h)
 lt {X pins σ H s} I {a b v u x y A} hv hu rx ry hA:=by
  cases hv with
  |lst h t =>
    cases hu with
    |lst h' t' =>
      cases rx;cases ry;obtain⟨its,r,p,_⟩:=I.list h;obtain⟨its',r',p',_⟩:=I.list h';exact B3.lists p.isList p'.isList (c.lexL (A:=A.in1) I (by rw[Hq];omega) t t' r r') (by omega)
theorem LI{K:Ah}{d e:Dt}(h:An K H vs [d,e]):∃a b,vs=[a,b]/\Ar K H a d/\Ar K H b e:=by
 cases h with
 |cons c t=>cases t with
   |cons f t=>cases t;exact⟨_,_,rfl,c,f⟩
theorem Ob{K:Ah}{d e f:Dt}(h:An K H vs [d,e,f]):∃a b c,vs=[a,b,c]/\Ar K H a d/\Ar K H b e/\Ar K H c f:=by
 cases h with
 |cons g t=>obtain⟨a,b,rfl,i,j⟩:=LI t;exact⟨_,_,_,rfl,g,i,j⟩
theorem Hx{x y z:V}{us:List Value}(r:As [x,y,z] us):∃u w v,us=[u,w,v]/\RelV x u/\RelV y w/\RelV z v:=by
 cases r with
 |cons c d=>obtain⟨a,b,rfl,e,f⟩:=IX d;exact⟨_,_,_,rfl,c,e,f⟩
@[reducible] def LJ (c d:Enc):Enc where
 O:=BK c.O d.O
 D p:=Dt.tup [c.D p.1,d.D p.2]
 dflt:=(c.dflt,d.dflt)
 dep:=max c.dep d.dep+1
 cmp a b:=.tup (.cons ((c.cmp a.1 b.1).mono (Nat.le_max_left _ _)) (.cons ((d.cmp a.2 b.2).mono (Nat.le_max_right _ _)) (.nil _)))
 inj a b h:=by
  injection h with h;injection h with h1 h2;injection h2 with h2 _;exact Prod.ext (c.inj _ _ h1) (d.inj _ _ h2)
 lt {X pins σ H s} I {a b v u x y A} hv hu rx ry hA:=by
  have m1:=Nat.le_max_left c.dep d.dep;have m2:=Nat.le_max_right c.dep d.dep
  cases hv with
  |tup h t =>
    cases hu with
    |tup h' t' =>
      cases rx;cases ry;obtain⟨its,r,p,_⟩:=I.tuple h;obtain⟨its',r',p',_⟩:=I.tuple h';obtain⟨v1,v2,rfl,t1,t2⟩:=LI t;obtain⟨u1,u2,rfl,s1,s2⟩:=LI t';obtain⟨x1,x2,rfl,r1,r2⟩:=IX r;obtain⟨y1,y2,rfl,q1,q2⟩:=IX r';refine B3.tuples p p' (c.lex (A:=A.in1) I t1 s1 r1 q1 (by rw[Hq];omega) (λe=>⟨d.lex (A:=A.in1) I t2 s2 r2 q2 (by rw[Hq];omega) (λe'=>⟨.nil,?_⟩) λe'=>rfl,MY a b e⟩) λe=>MZ a b e) (by omega);rw[e',d.O.irrefl]
@[reducible] def Kz (c d e:Enc):Enc where
 O:=BK c.O (BK d.O e.O)
 D p:=Dt.tup [c.D p.1,d.D p.2.1,e.D p.2.2]
 dflt:=(c.dflt,d.dflt,e.dflt)
 dep:=max c.dep (max d.dep e.dep)+1
 cmp a b:=.tup (.cons ((c.cmp a.1 b.1).mono (Nat.le_max_left _ _)) (.cons ((d.cmp a.2.1 b.2.1).mono (by omega)) (.cons ((e.cmp a.2.2 b.2.2).mono (by omega)) (.nil _))))
 inj a b h:=by
  injection h with h;injection h with h1 h2;injection h2 with h2 h3;injection h3 with h3 _;exact Prod.ext (c.inj _ _ h1) (Prod.ext (d.inj _ _ h2) (e.inj _ _ h3))
 lt {X pins σ H s} I {a b v u x y A} hv hu rx ry hA:=by
  have m1:=Nat.le_max_left c.dep (max d.dep e.dep);have m2:=Nat.le_max_right c.dep (max d.dep e.dep);have m3:=Nat.le_max_left d.dep e.dep;have m4:=Nat.le_max_right d.dep e.dep
  cases hv with
  |tup h t =>
    cases hu with
    |tup h' t' =>
      cases rx;cases ry;obtain⟨its,r,p,_⟩:=I.tuple h;obtain⟨its',r',p',_⟩:=I.tuple h';obtain⟨v1,v2,v3,rfl,t1,t2,t3⟩:=Ob t;obtain⟨u1,u2,u3,rfl,s1,s2,s3⟩:=Ob t';obtain⟨x1,x2,x3,rfl,r1,r2,r3⟩:=Hx r;obtain⟨y1,y2,y3,rfl,q1,q2,q3⟩:=Hx r';refine B3.tuples p p' (c.lex (A:=A.in1) I t1 s1 r1 q1 (by rw[Hq];omega) (λg=>⟨d.lex (A:=A.in1) I t2 s2 r2 q2 (by rw[Hq];omega) (λg'=>⟨e.lex (A:=A.in1) I t3 s3 r3 q3 (by rw[Hq];omega) (λg''=>⟨.nil,?_⟩) λ_=>rfl,MY a.2 b.2 g'⟩) λg'=>MZ a.2 b.2 g',MY a b g⟩) λg=>MZ a b g) (by omega);rw[g'',e.O.irrefl]
section
variable {X:Cx}
abbrev DO (c:Enc):Type:=V×c.O.α
def Px (X:Cx) (c:Enc):List V->Hp->VK->Prop:=λvs H Q=>∃(l:Addr)(zs:List (DO c)),vs=[.ref l]/\Ag X.K H l (zs.map (·.1))/\zs.length<64 /\
 (∀z∈zs,Ar X.K H z.1 (c.D z.2))/\∀(D:Addr)(zs':List (DO c)),zs'.Perm zs->(zs'.map (·.2)).Pairwise c.O.kle->H D=none->Q (.ref D) (upd H D (.lst (zs'.map (·.1))))
theorem Sm(c:Enc)(κ:SortKind)
 (aj:∀(pins:List (Addr×Obj))(σ:St)(H:Hp)(s:Shared)(zs:List (DO c))(g:List Value)(Q:SortKind->Shared->Prop),Inv X pins σ H s->As (zs.map (·.1)) g->(∀z∈zs,Ar X.K H z.1 (c.D z.2))->2<=g.length->Q κ s->wpAny (model X.prog X.w) X.A.in1.in1 (keyKind' g.toArray) Q (λ_ _=>False) s)
 (ai:∀(pins:List (Addr×Obj))(σ:St)(H:Hp)(s:Shared)(z m:DO c)(x y:Value)(C:Bool->Shared->Prop),Inv X pins σ H s->Ar X.K H z.1 (c.D z.2)->Ar X.K H m.1 (c.D m.2)->RelV z.1 x->RelV m.1 y->C (c.O.blt z.2 m.2) s->wpAny (model X.prog X.w) X.A.in1.in1 (keyLt' κ x y) C (λ_ _=>False) s) :
 A5 X (.builtin "sorted") (Px X c):=by
 intro pins s σ H vs us Q I r h;obtain⟨l,zs,rfl,L,an,v,q⟩:=h;obtain⟨u,rfl,M⟩:=Fj r;obtain rfl:u=Value.ref l:=M;obtain⟨g,p,N,_⟩:=I.list L;have J:zs.length=g.length:=by have:=p.length;rwa [Al] at this
 let b:DO c:=(V.non,c.dflt)
 have t:∀i,i<zs.length->RelV (zs.getD i b).1 (g.getD i Value.none)/\Ar X.K H (zs.getD i b).1 (c.D (zs.getD i b).2):=λi d=>by
  have:=N7 p i V.non Value.none (by rw[Al];exact d)
  have e:(zs.map (·.1)).getD i V.non=(zs.getD i b).1:=by
   rw[BW,Bh,BW,AD d];rfl
  rw[e] at this;refine⟨this,v _ ?_⟩;rw[BW,AD d];exact EC d
 refine Sg (O:=c.O) (key:=λi=>(zs.getD i b).2) (κ:=κ) (vs:=g) N.isList (by omega) (λo w k P R=>?_) (λw k i j C d hj S=>?_) λD w n f T A G ae U=>?_;exact aj pins σ H _ zs g P (I.kept (t':=s.toks) k) p v o R;obtain⟨W,Y⟩:=t i (by omega);obtain⟨Z,b2⟩:=t j (by omega);unfold PySem.W.kas_ask;exact ai pins σ H _ _ _ _ _ C (I.kept (t':=s.toks) k) Y b2 W Z S
 have af:∀i∈f,i<zs.length:=λi d=>by
  have:=G.mem_iff.mp d;rw[J];simpa using this
 have ak:(List.range zs.length).map (λi=>zs.getD i b)=zs:=by
  apply List.ext_getElem?;intro k;by_cases B:k<zs.length;simp[B,BW];simp[B]
 have K:(f.map λi=>zs.getD i b).Perm zs:=by
  have:=G.map (λi=>zs.getD i b)
  rwa [<-J,ak] at this
 have hv:As ((f.map λi=>zs.getD i b).map (·.1)) (f.map λi=>g.getD i Value.none):=by
  rw[DF];exact Pr f λi d=>(t i (af i d)).1
 have ag:((f.map λi=>zs.getD i b).map (·.2)).Pairwise c.O.kle:=by
  refine Pq (λ_ _ _=>KeyOrd.kle_trans) _ λi a al E o=>?_;rw[DF,Bh,Gp] at E o;obtain⟨x,e1,rfl⟩:=E;obtain⟨y,F,rfl⟩:=o;obtain⟨ah,_⟩:=A7.mp F;have:=ae i ah;have aa:f.getD i 0=x:=by rw[BW,e1];rfl
  have ab:f.getD (i+1) 0=y:=by rw[BW,F];rfl
  rw[aa,ab] at this;exact this
 exact⟨.ref D,upd H D (.lst ((f.map λi=>zs.getD i b).map (·.1))),I.laidN (t':=s.toks) T A ⟨by rw[Al,K.length_eq];exact Dh (BE (by omega)),_,n,hv,U⟩,rfl,q D _ K ag (I.freshN A)⟩
theorem So{pins:List (Addr×Obj)}{s:Shared}{M:Model}(I:Inv X pins σ H s){a:List Dt}{x:Value}(h:Ar X.K H v (.lst a))(r:RelV v x):PySem.W.Looks M s.heap (typeOf x) (.type "list"):=by
 cases h with
 |lst h t =>
   cases r;obtain⟨d,_,p,_⟩:=I.list h;obtain⟨o,b,c,_⟩:=p.isList;rw[<-c];exact(PySem.W.Looks.ld b).andThen .now
theorem YO(c:Enc)(J:X.A.units+64<cLine)(hd:c.dep<=50):A5 X (.builtin "sorted") (Px X (Er c)):=by
 refine Sm (Er c) oneType' (λG σ H s f E Q I b g j k=>?_) λG σ H s z l x y C I h a r m n=>?_;refine PySem.W.kas_kind (T:=.type "list") j (λv o=>?_) (by decide) (by decide) k;obtain⟨i,d⟩:=List.getElem?_of_mem o;have K:=(A7.mp d).1;have q:=b.length;rw[Al] at q;obtain⟨x,e,w⟩:=b.get (i:=i) (x:=(f[i]'(by omega)).1) (by rw[Bh,AD (by omega)];rfl);rw[d] at e;cases e;exact So I (g _ (EC (by omega))) w;rw[keyLt'_oneType];obtain⟨v,as⟩:=z;obtain⟨u,bs⟩:=l
 cases h with
 |lst h t =>
   cases a with
   |lst a A =>
     cases r;cases m;obtain⟨E,B,p,_⟩:=I.list h;obtain⟨L,F,D,_⟩:=I.list a;exact Vn p.isList D.isList (c.lexL I (by show _+1+1+1+_<_;omega) t A B F) (by show _+1+1<_;omega) n
theorem Sq(c:Enc){pins:List (Addr×Obj)}{σ:St}{H:Hp}{s:Shared}(I:Inv X pins σ H s){g:c.O.α->List Dt}:∀{zs:List (V×c.O.α)}{f:List Value}{k:c.O.α->List Dt},As (zs.map (·.1)) f->(∀z∈zs,∃b,k z.2=Dt.lst b::g z.2/\Ar X.K H z.1 (.tup (k z.2))) ->
 ∃fs,PySem.W.KatTups s.heap f fs/\fs.length=zs.length/\∀v∈fs,∃(u:V)(b:List Dt),Ar X.K H u (.lst b)/\RelV u v
 |[],_,_,.nil,_=>⟨[],.nil,rfl,λ_ x=>by cases x⟩
 | z :: zs,_,k,.cons r i,h=>by
   obtain⟨fs,j,l,m⟩:=Sq c I (zs:=zs) i λy p=>h y (Ch _ p);obtain⟨b,e,hd⟩:=h z Bv;rw[e] at hd;obtain⟨v,a⟩:=z;dsimp only at r hd
   cases hd with
   | tup q t =>
     cases r;obtain⟨f,A,⟨o,B,C,n,D⟩,_⟩:=I.tuple q
     cases t with
     |cons E G =>
       cases A with
       |cons F J =>
         refine⟨_::fs,.cons B C D rfl j,by simp[l],λw d=>?_⟩;rcases Ce.mp d with e|d;exact⟨_,b,E,e▸F⟩;exact m w d
theorem Sr{A:Around}{s:Shared}{prog:Program}{E:Value->Shared->Prop}{x y:Value}{b:Bool}{Q:Bool->Shared->Prop}(h:B3 A s x y b)(q:Q b s):wpAny (model prog w) A (oneLt' false x y) Q E s:=
 PySem.W.kat_one _ _ (h prog w E _ q)
theorem Hy(c:Enc){pins:List (Addr×Obj)}{s:Shared}(I:Inv X pins σ H s){A:Around}{as bs:List c.O.α}{u:V}{x y:Value}{prog:Program}{E:Value->Shared->Prop}{Q:Bool->Shared->Prop}(h:Ar X.K H v ((Er c).D as))(h':Ar X.K H u ((Er c).D bs))(r:RelV v x)(a:RelV u y)(g:A.units+(c.dep+1)<cLine)(q:Q (EW c.O as bs) s):wpAny (model prog w) A (oneLt' true x y) Q E s:=by
 cases h with
 |lst h t =>
   cases h' with
   |lst h' b =>
     cases r;cases a;obtain⟨i,d,p,_⟩:=I.list h;obtain⟨j,f,e,_⟩:=I.list h';exact Vn p.isList e.isList (c.lexL I (by rw[Hq];omega) t b d f) (by omega) q
theorem YQ (c d:Enc) (hu:X.A.units + 64 < cLine) (h1:c.dep<=50) (h2:d.dep<=50):A5 X (.builtin "sorted") (Px X (LJ (Er c) d)):=by
 refine Sm (LJ (Er c) d) (tuples' true) (λah σ H s zs Z ai I o M hl N=>?_) λah σ H s z O x aj C I h w r y a=>?_;obtain⟨fs,P,k2,Q⟩:=Sq (LJ (Er c) d) I (k:=λp=>[(Er c).D p.1,d.D p.2]) (g:=λp=>[d.D p.2]) o λz aa=>⟨_,rfl,M z aa⟩;have ab:=o.length;rw[Al] at ab;refine PySem.W.kat_kind (T:=.type "list") P (by omega) (λv R=>?_) (by decide) N;obtain⟨u,ds,S,U⟩:=Q v R;exact So I S U;obtain⟨v,p⟩:=z;obtain⟨u,q⟩:=O;dsimp only at h w r y
 change C ((LJ (Er c) d).O.blt p q) s at a
 have j:X.A.in1.in1.units=X.A.units+1+1:=rfl
 cases h with
 | tup V t =>
   cases w with
   | tup ae b =>
     cases r;cases y;obtain⟨Z,e,⟨ox,af,_,n,W⟩,_⟩:=I.tuple V;obtain⟨ak,f,⟨oy,ag,_,m,Y⟩,_⟩:=I.tuple ae
     cases t with
     | cons B t=>cases t with
       | cons D t=>cases t; cases b with
         | cons E b=>cases b with
           | cons F b=>cases b; cases e with
             |cons G e=>cases e with
               |cons J e=>cases e; cases f with
                 |cons K f=>cases f with
                   |cons L f =>
                     cases f;refine PySem.W.kat_lt af W ag Y (PySem.W.kat_cons ((Er c).eq (A:=X.A.in1.in1) I B E G K (by rw[j];show _+(c.dep+1)<_;omega) _ _ _ _ ?_));by_cases i:p.1=q.1;rw[FD i]
                     rw[show(LJ (Er c) d).O.blt p q=d.O.blt p.2 q.2 from MY p q i] at a;refine PySem.W.kat_yes (PySem.W.kat_cons (d.eq (A:=X.A.in1.in1) I D F J L (by rw[j];omega) _ _ _ _ ?_))
                     by_cases l:p.2=q.2;rw[FD l];refine PySem.W.kat_yes (PySem.W.kat_nil ?_);rw[l,d.O.irrefl] at a;exact a;rw[F0 l];exact PySem.W.kat_no (Sr (d.lt I D F J L (by rw[j];omega)) a);rw[F0 i]
                     rw[show(LJ (Er c) d).O.blt p q=EW c.O p.1 q.1 from MZ p q i] at a;exact PySem.W.kat_no (Hy c I B E G K (by rw[j];omega) a)
theorem YR (c d e:Enc) (hu:X.A.units + 64 < cLine) (h1:c.dep<=50) (h2:d.dep<=50) (h3:e.dep<=50):A5 X (.builtin "sorted") (Px X (Kz (Er c) d e)):=by
 refine Sm (Kz (Er c) d e) (tuples' true) (λai σ H s zs aa aj I y S hl U=>?_) λai σ H s z V x ak C I h B r D a=>?_;obtain⟨fs,W,k2,Y⟩:=Sq (Kz (Er c) d e) I (k:=λp=>[(Er c).D p.1,d.D p.2.1,e.D p.2.2]) (g:=λp=>[d.D p.2.1,e.D p.2.2]) y λz ab=>⟨_,rfl,S z ab⟩;have ae:=y.length;rw[Al] at ae;refine PySem.W.kat_kind (T:=.type "list") W (by omega) (λv Z=>?_) (by decide) U;obtain⟨u,ds,a1,a2⟩:=Y v Z;exact So I a1 a2;obtain⟨v,p⟩:=z;obtain⟨u,q⟩:=V;dsimp only at h B r D
 change C ((Kz (Er c) d e).O.blt p q) s at a
 have j:X.A.in1.in1.units=X.A.units+1+1:=rfl
 cases h with
 | tup hs t =>
   cases B with
   | tup af b =>
     cases r;cases D;obtain⟨aa,f,⟨ox,ag,_,n,dx⟩,_⟩:=I.tuple hs;obtain⟨al,i,⟨oy,ah,_,m,dy⟩,_⟩:=I.tuple af
     cases t with
     | cons E t=>cases t with
       | cons F t=>cases t with
         | cons G t=>cases t; cases b with
           | cons J b=>cases b with
             | cons K b=>cases b with
               | cons L b=>cases b; cases f with
                 | cons M f=>cases f with
                   | cons N f=>cases f with
                     |cons O f=>cases f; cases i with
                       |cons P i=>cases i with
                         |cons Q i=>cases i with
                           |cons R i =>
                             cases i;refine PySem.W.kat_lt ag dx ah dy (PySem.W.kat_cons ((Er c).eq (A:=X.A.in1.in1) I E J M P (by rw[j];show _+(c.dep+1)<_;omega) _ _ _ _ ?_));by_cases l:p.1=q.1;rw[FD l]
                             rw[show(Kz (Er c) d e).O.blt p q=(BK d.O e.O).blt p.2 q.2 from MY p q l] at a;refine PySem.W.kat_yes (PySem.W.kat_cons (d.eq (A:=X.A.in1.in1) I F K N Q (by rw[j];omega) _ _ _ _ ?_))
                             by_cases o:p.2.1=q.2.1;rw[FD o]
                             rw[show(BK d.O e.O).blt p.2 q.2=e.O.blt p.2.2 q.2.2 from MY p.2 q.2 o] at a;refine PySem.W.kat_yes (PySem.W.kat_cons (e.eq (A:=X.A.in1.in1) I G L O R (by rw[j];omega) _ _ _ _ ?_))
                             by_cases w:p.2.2=q.2.2;rw[FD w];refine PySem.W.kat_yes (PySem.W.kat_nil ?_);rw[w,e.O.irrefl] at a;exact a;rw[F0 w];exact PySem.W.kat_no (Sr (e.lt I G L O R (by rw[j];omega)) a);rw[F0 o]
                             rw[show(BK d.O e.O).blt p.2 q.2=d.O.blt p.2.1 q.2.1 from MZ p.2 q.2 o] at a;exact PySem.W.kat_no (Sr (d.lt I F K N Q (by rw[j];omega)) a)
                             rw[F0 l]
                             rw[show(Kz (Er c) d e).O.blt p q=EW c.O p.1 q.1 from MZ p q l] at a;exact PySem.W.kat_no (Hy c I E J M P (by rw[j];omega) a)
end
def El:List (Str×Int)->Str->Option Int
 |[],_=>none
 |(y,n)::r,x=>if y=x then some n else El r x
def Ee:Option Int->V
 |some n=>.int n
 |none=>.non
theorem Hz:∀{gs:List (Str×Int)}{i:Nat}{p:Str×Int}{x:Str},gs[i]?=some p->p.1=x->(∀q∈gs.take i,q.1≠x)->El gs x=some p.2
 |[],_,_,_,h,_,_=>by simp at h
 |q::r,0,p,x,h,e,_=>by
   simp at h;subst h;obtain⟨y,n⟩:=q;exact Aj e
 |q::r,i+1,p,x,h,e,k=>by
   obtain⟨y,n⟩:=q;have a:y≠x:=k (y,n) (by simp);show(if y=x then some n else El r x)=_;rw[Ak a];exact Hz (i:=i) (by simpa using h) e λq b=>k q (by simp[b])
theorem Vt:∀{gs:List (Str×Int)}{x:Str},(∀q∈gs,q.1≠x)->El gs x=none
 |[],_,_=>rfl
 |(y,n)::r,x,k=>by
   show(if y=x then some n else El r x)=_;rw[Ak (k (y,n) (by simp))];exact Vt λq a=>k q (by simp[a])
theorem Ss:∀{gs:List (Str×Int)}{x:Str}{n:Int},El gs x=some n->(x,n)∈gs
 |[],_,_,h=>by cases h
 |(y,m)::r,x,n,h=>by
   have h':(if y=x then some m else El r x)=some n:=h
   by_cases e:y=x;rw[Aj e] at h';rw[<-e,<-Bo h'];exact Bv;rw[Ak e] at h';exact Ch _ (Ss h')
abbrev Ap:Type:=Int×Str×Int
abbrev GK (m:Ap):List V:=[.int m.1,.str m.2.1,.int m.2.2]
abbrev AQ:Type:=List Ap×Int×Int
structure Wd where
 ss:List Bi
 gs:List (Str×Int)
 as:List (Option (Str×Int))
 sts:List CN
abbrev Gn:Type:=Ap×(Str×Int)×Int
def EX (W:Wd) (sc:Int) (go:List (Str×Int)) (p:Cd) (i:Nat):List Gn:=match El go p.1 with
 |some a=>[((sc,("step" : Str),(i:Int)),BL W.gs W.as p,a)]
 |none=>[]
def Em (W:Wd) (sc:Int) (go:List (Str×Int)):List Cd->Nat->List Gn
 |[],_=>[]
 |p::r,i=>EX W sc go p i++Em W sc go r (i+1)
def BU (W:Wd) (sc:Int):List Cd:=match W.ss[sc.toNat]? with
 |some s=>s.1
 |none=>[]
def DV (W:Wd) (st:Int):List (Str×Int):=match W.sts[st.toNat]? with
 |some s=>s.1
 |none=>[]
def Gv (W:Wd) (sc st:Int):List Gn:=Em W sc (DV W st) (BU W sc) 0
theorem Vu(W:Wd)(a:Int)(go:List (Str×Int))(p:Cd):∀(l:List Cd)(i:Nat),Em W a go (l++[p]) i=Em W a go l i++EX W a go p (i+l.length)
 |[],i=>by simp[Em]
 |q::l,i=>by
   show EX W a go q i++Em W a go (l++[p]) (i+1)=(EX W a go q i++Em W a go l (i+1))++_;rw[Vu W a go p l (i+1),FX,Ej,show i+1+l.length=i+(l.length+1) by omega]
variable {W:Wd}{sc:Int}{r:Gn}
theorem EY{go:List (Str×Int)}{p:Cd}:r∈EX W sc go p i↔∃a,El go p.1=some a/\r=((sc,("step" : Str),(i:Int)),BL W.gs W.as p,a):=by
 unfold EX
 cases e:El go p.1 with
 |none=>simp
 |some a=>simp
theorem BM{W:Wd}{sc:Int}{go:List (Str×Int)}{r:Gn}:∀{l:List Cd}{i:Nat},r∈Em W sc go l i↔∃(j:Nat)(p:Cd)(a:Int),l[j]?=some p/\El go p.1=some a/\r=((sc,("step" : Str),((i+j:Nat):Int)),BL W.gs W.as p,a)
 |[],i=>by simp[Em]
 | q :: l,i=>by
   show r∈EX W sc go q i++Em W sc go l (i+1)↔_;rw[BB,EY,BM (l:=l) (i:=i+1)];constructor;rintro(⟨a,b,c⟩|⟨j,p,a,b,c,d⟩);exact⟨0,q,a,rfl,b,by rw[c];rfl⟩;exact⟨j+1,p,a,by simpa using b,c,by rw[d,show i+1+j=i+(j+1) by omega]⟩;rintro⟨j,p,a,b,c,d⟩
   cases j with
   |zero =>
     simp at b;subst b;exact .inl ⟨a,c,by rw[d];rfl⟩
   |succ j=>exact .inr ⟨j,p,a,by simpa using b,c,by rw[d,show i+1+j=i+(j+1) by omega]⟩
theorem Vv(W:Wd)(sc:Int)(go:List (Str×Int)):∀(l:List Cd)(i:Nat),(Em W sc go l i).Pairwise (λr b=>r.1≠b.1)
 |[],i=>List.Pairwise.nil
 |q::l,i=>by
   show(EX W sc go q i++Em W sc go l (i+1)).Pairwise _;refine List.pairwise_append.mpr ⟨?_,Vv W sc go l (i+1),λr c b d e=>?_⟩;unfold EX;split;exact List.pairwise_singleton _ _;exact List.Pairwise.nil;obtain⟨a,_,rfl⟩:=EY.mp c;obtain⟨j,p,f,_,_,rfl⟩:=BM.mp d;have:=BC (λm:Ap=>m.2.2) e;simp only at this;omega
theorem LL(W:Wd)(sc:Int)(go:List (Str×Int)):∀(l:List Cd)(i:Nat),(Em W sc go l i).length<=l.length
 |[],i=>AB _
 |q::l,i=>by
   show(EX W sc go q i++Em W sc go l (i+1)).length<=_;have a:(EX W sc go q i).length<=1:=by unfold EX;split<;>simp
   have b:=LL W sc go l (i+1);rw[AW,Ej];omega
theorem Vw{go:List (Str×Int)}{l:List Cd}{b:Gn}(h:r∈Em W sc go l i)(h':b∈Em W sc go l i)(e:r.1=b.1):r=b:=by
 obtain⟨j,p,a,f,g,rfl⟩:=BM.mp h;obtain⟨k,o,q,c,d,rfl⟩:=BM.mp h';have:=BC (λm:Ap=>m.2.2) e;simp only at this;have n:j=k:=(by omega);subst n;rw[f] at c;cases c;rw[g] at d;cases d;rfl
def AU (b:AQ):List Int:=b.1.map (·.1)++[b.2.1]
def kid (b:AQ) (r:Gn):Option AQ:=if r.2.1.1=("to" : Str)/\r.2.1.2∉AU b then some (b.1++[r.1],r.2.1.2,r.2.2) else none
def Cv (W:Wd) (b:AQ):List AQ:=(Gv W b.2.1 b.2.2).filterMap (kid b)
variable {b:AQ}
theorem AH{c:AQ}:c∈Cv W b↔∃r∈Gv W b.2.1 b.2.2,r.2.1.1=("to" : Str)/\r.2.1.2∉AU b/\c=(b.1++[r.1],r.2.1.2,r.2.2):=by
 unfold Cv kid;rw[List.mem_filterMap];constructor;rintro⟨r,a,e⟩;split at e;rename_i h;exact⟨r,a,h.1,h.2,(Bo e).symm⟩;cases e;rintro⟨r,a,d,f,e⟩;exact⟨r,a,by rw[Aj ⟨d,f⟩,e]⟩
theorem Vx(W:Wd)(b:AQ):(Cv W b).length<=(BU W b.2.1).length:=Ek (List.length_filterMap_le _ _) (LL _ _ _ _ _)
theorem Js(W:Wd)(b:AQ):(Cv W b).Nodup:=by
 refine List.Pairwise.filterMap (kid b) (λr g f c a h d e=>?_) (Vv W b.2.1 (DV W b.2.2) (BU W b.2.1) 0);unfold kid at a d;split at a;split at d;cases a;cases d;have:=BC Prod.fst e;simp only at this;have:=(List.append_inj' this rfl).2;exact f (by simpa using this);cases d;cases a
inductive AR (W:Wd) (sc st:Int):AQ->Prop where
 |root:AR W sc st ([],sc,st)
 |kid {b c:AQ} (h:AR W sc st b) (k:c∈Cv W b):AR W sc st c
structure BY (W:Wd):Prop where
 s5:W.ss.length<=100
 st:∀s∈W.ss,s.1.length<=8
 kst:∀s∈W.ss,∀p∈s.1,Fn W.ss.length W.as.length p
 kth:∀p∈W.gs,FM W.ss.length W.as.length p
 an:∀p,some p∈W.as->p.1=("thing" : Str)->0<=p.2/\p.2<W.gs.length
 go:∀s∈W.sts,∀p∈s.1,0<=p.2/\p.2<W.sts.length
 few:∀(sc st:Int)(F:List AQ),(0<=sc/\sc<W.ss.length)->(0<=st/\st<W.sts.length)->F.Nodup->(∀b∈F,AR W sc st b)->F.length<=62
theorem BY.net(h:BY W):Gu W.gs W.as:=⟨λp b e=>by
 rcases h.kth p b with⟨a,_⟩|⟨a,_⟩|⟨_,c⟩;rw[e] at a;exact absurd a (by decide +kernel);rw[e] at a;exact absurd a (by decide +kernel)
 exact c,h.an⟩
theorem BY.by_(h:BY W)(a:s∈W.ss){p:Cd}(b:p∈s.1)(c:p.2.1≠("to" : Str)):0<=p.2.2/\p.2.2<W.as.length:=by
 rcases h.kst s a p b with⟨e,_⟩|⟨_,e⟩;exact absurd e c;exact e
theorem F1:(("no" : Str),(0:Int)).1≠("to" : Str):=by decide +kernel
theorem Py:("open" : Str)≠("to" : Str):=by decide +kernel
theorem Vy(h:BY W){k:Str×Int}(c:k∈W.gs)(b:k.1=("part" : Str)):0<=k.2/\k.2<W.ss.length:=by
 rcases h.kth k c with⟨a,_⟩|⟨_,d⟩|⟨a,_⟩;rw[b] at a;exact absurd a (by decide +kernel);exact d;rw[b] at a;exact absurd a (by decide +kernel)
theorem YS(h:BY W){q:Int}{g:Str×Int}(e:Ed W.gs W.as q=g)(a:g.1=("to" : Str)):0<=g.2/\g.2<W.ss.length:=by
 unfold Ed at e;split at e;split at e;split at e;rename_i k b;split at e;rename_i c;subst e;exact Vy (k:=k) h (Bd b) c;subst e;exact absurd a F1;subst e;exact absurd a F1;subst e;exact absurd a F1;subst e;exact absurd a Py;subst e;exact absurd a F1
theorem Su(h:BY W)(b:p∈W.gs){g:Str×Int}(e:Dk W.gs W.as p=g)(a:g.1=("to" : Str)):0<=g.2/\g.2<W.ss.length:=by
 unfold Dk at e;split at e;rename_i c;subst e;exact Vy (k:=p) h b c;split at e;exact YS h e a;subst e;exact absurd a F1
theorem YT(h:BY W)(c:s∈W.ss){p:Cd}(d:p∈s.1){g:Str×Int}(e:BL W.gs W.as p=g)(a:g.1=("to" : Str)):0<=g.2/\g.2<W.ss.length:=by
 unfold BL at e;split at e;rename_i j;subst e;rcases h.kst s c p d with⟨_,f⟩|⟨b,_⟩;exact f;rw[j] at b;exact absurd b (by decide +kernel);split at e;split at e;split at e;rename_i k i;exact Su h (Bd i) e a;subst e;exact absurd a F1;subst e;exact absurd a F1;subst e;exact absurd a Py;subst e;exact absurd a F1
structure B5 (W:Wd) (b:AQ):Prop where
 nd:(AU b).Nodup
 rng:∀x∈AU b,0<=x/\x<W.ss.length
 st:0<=b.2.2/\b.2.2<W.sts.length
theorem Vz{p:Cd}(h:p∈BU W sc):∃s∈W.ss,p∈s.1:=by
 unfold BU at h;split at h;rename_i s a;exact⟨s,Bd a,h⟩;cases h
variable {st:Int}
theorem VA(h:p∈DV W st):∃s∈W.sts,p∈s.1:=by
 unfold DV at h;split at h;rename_i s a;exact⟨s,Bd a,h⟩;cases h
theorem LM(h:r∈Gv W sc st):∃(j:Nat)(p:Cd)(a:Int),(BU W sc)[j]?=some p/\El (DV W st) p.1=some a/\r=((sc,("step" : Str),(j:Int)),BL W.gs W.as p,a):=by
 obtain⟨j,p,a,b,c,d⟩:=BM.mp h;exact⟨j,p,a,b,c,by rw[d,Nat.zero_add]⟩
theorem VB(h:r∈Gv W b.2.1 b.2.2):AU (b.1++[r.1],r.2.1.2,r.2.2)=AU b++[r.2.1.2]:=by
 obtain⟨j,p,a,_,_,rfl⟩:=LM h;unfold AU
 simp
theorem B5.kid(ok:BY W){c:AQ}(h:B5 W b)(k:c∈Cv W b):B5 W c:=by
 obtain⟨r,e,g,i,rfl⟩:=AH.mp k;have f:=VB e;obtain⟨j,p,a,l,m,rfl⟩:=LM e;obtain⟨s,n,o⟩:=Vz (Bd l);refine⟨?_,?_,?_⟩;rw[f,List.nodup_append]
 exact⟨h.nd,by simp,λx d y q=>by
  rw[AY.mp q]
  exact λz=>i (z▸d)⟩
 rw[f];intro x d;rcases BB.mp d with d|d;exact h.rng x d;rw[AY.mp d];exact YT ok n o rfl g;obtain⟨t,u,v⟩:=VA (Ss m);exact ok.go t u _ v
theorem AR.ok{W:Wd}(ok:BY W){sc st:Int}(d:0<=sc/\sc<W.ss.length)(e:0<=st/\st<W.sts.length){b:AQ}(h:AR W sc st b):B5 W b:=by
 induction h with
 |root=>exact⟨by simp[AU],λx a=>by simp[AU] at a;rw[a];exact d,e⟩
 |kid _ k c=>exact c.kid ok k
theorem AR.uniq(h:AR W sc st b):∀{c:AQ},AR W sc st c->b.1=c.1->b=c:=by
 induction h with
 |root =>
   intro c a e
   cases a with
   |root=>rfl
   |kid _ k =>
     obtain⟨r,_,_,_,rfl⟩:=AH.mp k;simp at e
 |@kid o p q k d =>
   intro c a e;obtain⟨r,f,s,t,rfl⟩:=AH.mp k
   cases a with
   |root=>simp at e
   |@kid u _ m g =>
     obtain⟨v,n,w,x,rfl⟩:=AH.mp g;simp only at e;obtain⟨i,j⟩:=List.append_inj' e rfl;have l:=d m i;subst l;have:=Vw f n (by simpa using j);subst this;rfl
theorem KA:∀(n:Nat)(l:List Int),l.Nodup->(∀x∈l,0<=x/\x<(n:Int))->l.length<=n
 |0,[],_,_=>AB _
 |0,x::l,_,h=>by have:=h x Bv;omega
 |n+1,l,b,h=>by
   have e:(l.erase (n:Int)).Nodup:=b.erase _
   have c:∀x∈l.erase (n:Int),0<=x/\x<(n:Int):=λx d=>by
    obtain⟨f,a⟩:=(b.mem_erase_iff).mp d;have:=h x a;omega
   have:=KA n _ e c
   have g:l.length<=(l.erase (n:Int)).length+1:=by
    by_cases a:(n:Int)∈l;rw[List.length_erase_of_mem a];omega;rw[List.erase_of_not_mem a];omega
   omega
theorem Pz(ok:BY W)(sc:Int):(BU W sc).length<=8:=by
 unfold BU;split;rename_i s a;exact ok.st s (Bd a);exact Ci _
structure GL (W:Wd) (sc st:Int) (F:List AQ) (p:Nat):Prop where
 root:([],sc,st)∈F
 is:∀b∈F,AR W sc st b
 nd:F.Nodup
 done:∀(j:Nat)(b:AQ),j<p->F[j]?=some b->∀c∈Cv W b,c∈F
 src:∀c∈F,c=([],sc,st)\/∃(j:Nat)(b:AQ),j<p/\F[j]?=some b/\c∈Cv W b
 le:p<=F.length
theorem GL.start(W:Wd)(sc st:Int):GL W sc st [([],sc,st)] 0 where
 root:=Bv
 is b a:=by rw[AY.mp a];exact .root
 nd:=by simp
 done j b e:=by omega
 src c d:=.inl (AY.mp d)
 le:=Ci _
theorem GL.turn{F:List AQ}{p:Nat}(h:GL W sc st F p)(g:F[p]?=some b):GL W sc st (F++Cv W b) (p+1):=by
 have x:p<F.length:=(A7.mp g).1;have y:=Bd g;have q:=h.is b y;have o:∀(j:Nat),j<F.length->(F++Cv W b)[j]?=F[j]?:=λj f=>EU f
 have one:∀(j:Nat)(c:AQ),j<p+1->(F++Cv W b)[j]?=some c->(j<p/\F[j]?=some c)\/c=b:=λj c f e=>by
  rw[o j (by omega)] at e;by_cases z:j<p;exact .inl ⟨z,e⟩;have:j=p:=(by omega);subst this;rw[g] at e;exact .inr (Bo e).symm
 refine⟨D9 _ h.root,λc a=>?_,?_,λj c f e d hd=>?_,λc a=>?_,by rw[AW];omega⟩;rcases BB.mp a with a|a;exact h.is c a;exact .kid q a;refine List.nodup_append.mpr ⟨h.nd,Js W b,λc a d hd e=>?_⟩;subst e;obtain⟨r,C,_,_,l⟩:=AH.mp hd;rcases h.src c a with m|⟨j,i,f,k,n⟩;rw[m] at l;have:=BC Prod.fst l;simp at this;obtain⟨D,H,_,_,A⟩:=AH.mp n
 have s:i.1=b.1:=by
  have:=BC Prod.fst (A.symm.trans l);simp only at this;exact(List.append_inj' this rfl).1
 have t:=(h.is i (Bd k)).uniq q s;subst t;obtain⟨E,u⟩:=A7.mp k;obtain⟨G,v⟩:=A7.mp g;have:=(List.getElem_inj h.nd).mp (u.trans v.symm);omega;rcases one j c f e with⟨B,w⟩|rfl;exact D9 _ (h.done j c B w d hd);exact De _ hd;rcases BB.mp a with a|a;rcases h.src c a with m|⟨j,i,f,k,n⟩;exact .inl m;exact .inr ⟨j,i,by omega,by rw[o j (by omega)];exact k,n⟩;exact .inr ⟨p,b,by omega,by rw[o p x];exact g,a⟩
theorem GL.few{W:Wd}(ok:BY W){sc st:Int}(a:0<=sc/\sc<W.ss.length)(b:0<=st/\st<W.sts.length){F:List AQ}{p:Nat}(h:GL W sc st F p):F.length<=62:=ok.few sc st F a b h.nd h.is
abbrev M0:Enc:=Kz FN Sl FN
abbrev DP:Enc:=Kz (Er M0) FN FN
structure Db (W:Wd) (sc st:Int) (bs:List AQ):Prop where
 mem:∀b,b∈bs↔AR W sc st b
 nd:bs.Nodup
 srt:bs.Pairwise DP.O.kle
 few:bs.length<=62
theorem Db.uniq{l m:List AQ}(h:Db W sc st l)(k:Db W sc st m):l=m:=
 LD (O:=DP.O) ((List.perm_ext_iff_of_nodup h.nd k.nd).mpr λb=>(h.mem b).trans (k.mem b).symm) h.srt k.srt
theorem GL.all(ok:BY W)(g:0<=sc/\sc<W.ss.length)(i:0<=st/\st<W.sts.length){F l:List AQ}(h:GL W sc st F F.length)(a:l.Perm F)(d:l.Pairwise DP.O.kle):Db W sc st l:=by
 refine⟨λb=>?_,a.nodup_iff.mpr h.nd,d,by rw[a.length_eq];exact h.few ok g i⟩;rw[a.mem_iff];refine⟨h.is b,λe=>?_⟩
 induction e with
 |root=>exact h.root
 |kid _ k f =>
   obtain⟨j,c⟩:=List.getElem?_of_mem f;exact h.done j _ (A7.mp c).1 c _ k
def DH (F:Addr->Prop) (H:Hp) (t:Addr) (b:AQ):Prop:=∃(l:Addr)(ms:List Addr),H t=some (.tup [.ref l,.int b.2.1,.int b.2.2])/\H l=some (.lst (ms.map V.ref))/\RT GK H ms b.1/\F l
theorem DH.same{F:Addr->Prop}{H H':Hp}{t:Addr}{b:AQ}(e:Ac H H')(h:DH F H t b):DH F H' t b:=by
 obtain⟨l,a,c,d,f,g⟩:=h;exact⟨l,a,e _ _ c,e _ _ d,f.same e,g⟩
theorem DH.mono{G:Addr->Prop}{t:Addr}(e:∀x,F x->G x)(h:DH F H t b):DH G H t b:=by
 obtain⟨l,a,c,d,f,g⟩:=h;exact⟨l,a,c,d,f,e _ g⟩
theorem DH.keeps{M F:Addr->Prop}{H H':Hp}{t:Addr}{b:AQ}(k:Keeps M H H')(c:∀x,F x->¬M x)(h:DH F H t b):DH F H' t b:=by
 obtain⟨l,d,e,f,g,a⟩:=h;exact⟨l,d,k.tup e,k.at_ _ _ f (c _ a),g.keeps k,a⟩
abbrev PB (m:Ap):Dt:=.tup [.int m.1,.str m.2.1,.int m.2.2]
theorem HA{K:Ah}(r:Ap)(t:Addr)(h:H t=some (.tup (GK r))):Ar K H (.ref t) (PB r):=.tup (Aq.of h) (.cons (.int _) (.cons (.str _) (.cons (.int _) .nil)))
theorem DH.dt{K:Ah}{t:Addr}(h:DH F H t b):Ar K H (.ref t) (DP.D b):=by
 obtain⟨l,e,a,c,d,f⟩:=h;exact .tup (Aq.of a) (.cons (.lst (Ag.of c) (d.dts HA)) (.cons (.int _) (.cons (.int _) .nil)))
def KC (H:Hp) (t:Addr) (r:Gn):Prop:=∃m,H t=some (.tup [.ref m,.str r.2.1.1,.int r.2.1.2,.int r.2.2])/\H m=some (.tup (GK r.1))
theorem KC.same{t:Addr}(e:Ac H H')(h:KC H t r):KC H' t r:=by
 obtain⟨m,a,b⟩:=h;exact⟨m,e _ _ a,e _ _ b⟩
theorem KC.keeps{t:Addr}(k:Keeps M H H')(h:KC H t r):KC H' t r:=by
 obtain⟨m,a,b⟩:=h;exact⟨m,k.tup a,k.tup b⟩
structure Bl (K:Ah) (H:Hp) (nt A t:Addr) (W:Wd):Prop where
 net:∃(S T R:Addr)(us Gs Es ts qt:List Addr)(qs:List Qu),H nt=some (.tup [.ref S,.ref T,.ref R])/\Gd H S T R us Gs Es ts qt W.ss W.gs qs
 ans:GZ K H A W.as
 tab:∃(a o:Addr)(inn:V),Aq K H t [.ref a,inn,.ref o]/\Hu K H a W.sts
theorem Bl.same{K:Ah}{H H':Hp}{b A t:Addr}{W:Wd}(e:Ac H H')(h:Bl K H b A t W):Bl K H' b A t W:=by
 obtain⟨S,T,R,us,Gs,Es,ts,c,qs,d,f⟩:=h.net;obtain⟨a,o,k,g,vs,i,j⟩:=h.tab;exact⟨⟨S,T,R,us,Gs,Es,ts,c,qs,e _ _ d,f.same e⟩,h.ans.same e,⟨a,o,k,e.seqT g,vs,e.seq i,j.same e⟩⟩
theorem DH.mono'{G:Addr->Prop}{t:Addr}(e:∀x o,H x=some o->F x->G x)(h:DH F H t b):DH G H t b:=by
 obtain⟨l,c,d,a,f,g⟩:=h;exact⟨l,c,d,a,f,e _ _ a g⟩
theorem VC{H:Hp}:∀{ts:List Addr}{ps:List (Str×Str)},Cu H ts ps->∃zs:List (Row EN EN),zs.map (·.1)=ts.map V.ref/\zs.map (·.2)=ps/\∀z∈zs,∃t,z.1=.ref t/\H t=some (.tup [.str z.2.1,.str z.2.2])
 |[],[],_=>⟨[],rfl,rfl,λz hz=>by cases hz⟩
 |[],_::_,h=>by have:=h.len;simp at this
 |_::_,[],h=>by have:=h.len;simp at this
 |a::ts,p::ps,h=>by
   obtain⟨zs,b,c,d⟩:=VC (ts:=ts) (ps:=ps) ⟨by simpa using h.len,λn t p f g=>h.at_ (n+1) t p (by simpa using f) (by simpa using g)⟩;refine⟨(V.ref a,p)::zs,by rw[D7,b];rfl,by rw[D7,c],λz hz=>?_⟩;rcases Ce.mp hz with e|hz;rw[e];exact⟨a,rfl,h.at_ 0 a p rfl rfl⟩;exact d z hz
theorem VD{H:Hp}:∀{zs:List (Row EN EN)},(∀z∈zs,∃t,z.1=.ref t/\H t=some (.tup [.str z.2.1,.str z.2.2]))->∃ts:List Addr,zs.map (·.1)=ts.map V.ref/\Cu H ts (zs.map (·.2))
 |[],_=>⟨[],rfl,Cu.nil⟩
 |z::zs,h=>by
   obtain⟨ts,d,c⟩:=VD (zs:=zs) λy f=>h y (Ch _ f);obtain⟨t,e,g⟩:=h z Bv;refine⟨t::ts,by rw[D7,d,e];rfl,by simp[c.len],λn u p a b=>?_⟩
   cases n with
   |zero=>simp at a b;subst a;subst b;exact g
   |succ n=>exact c.at_ n u p (by simpa using a) (by simpa using b)
theorem Gc.caseT{K:Ah}{t:Addr}{n:Int}{ord:List (Str×Str)}(h:Gc K F H t rs n ord):∃(a o:Addr)(inn:V),Aq K H t [.ref a,inn,.ref o]/\Hu K H a rs:=by
 obtain⟨a,o,us,ts,b,_,_,_,c,d,_⟩:=h.ex;exact⟨a,o,_,Aq.of b,d.stts c⟩
theorem Gw{x:Int}{l:List Int}:Dt.int x∈l.map Dt.int↔x∈l:=⟨λh=>by
 obtain⟨y,a,z⟩:=Br.mp h
 rw[<-Dt.int.inj z];exact a,λh=>Br.mpr ⟨x,h,rfl⟩⟩
theorem VE{K:Ah}{H:Hp}:∀(l:List Int),An K H (l.map V.int) (l.map Dt.int)
 |[]=>.nil
 |x::l=>.cons (.int x) (VE l)
theorem Sv(xs:List α)(x:α):Bz (xs++[x]) (-1)=some x:=by
 have e:Hf (xs++[x]).length (-1)=some xs.length:=by
  unfold Hf;rw[Ak (by decide),Aj (by rw[AW,DE];omega),AW,DE];congr 1;omega
 unfold Bz;rw[e];show(xs++[x])[xs.length]?=some x
 simp
abbrev CC:Enc:=Er M0
def Ge (W:Wd) (sc:Int):List DU:=match W.ss[sc.toNat]? with
 |some s=>s.2
 |none=>[]
def G0 (W:Wd) (st:Int):List Str:=match W.sts[st.toNat]? with
 |some s=>s.2
 |none=>[]
def Fp (W:Wd) (b:AQ) (x:Str) (q:DU) (i:Nat):List (List Ap):=if q.2.1=x/\q.1∈G0 W b.2.2 then[b.1++[(b.2.1,("told" : Str),(i:Int))]] else[]
def DI (W:Wd) (b:AQ) (x:Str):List DU->Nat->List (List Ap)
 |[],_=>[]
 |q::r,i=>Fp W b x q i++DI W b x r (i+1)
def DW (W:Wd) (x:Str) (bs:List AQ):List (List Ap):=bs.flatMap λb=>DI W b x (Ge W b.2.1) 0
theorem VF(W:Wd)(b:AQ)(x:Str)(q:DU):∀(l:List DU)(i:Nat),DI W b x (l++[q]) i=DI W b x l i++Fp W b x q (i+l.length)
 |[],i=>by simp[DI]
 |p::l,i=>by
   show Fp W b x p i++DI W b x (l++[q]) (i+1)=(Fp W b x p i++DI W b x l (i+1))++_;rw[VF W b x q l (i+1),FX,Ej,show i+1+l.length=i+(l.length+1) by omega]
theorem VG(W:Wd)(b:AQ)(x:Str):∀(l:List DU)(i:Nat),(DI W b x l i).length<=l.length
 |[],i=>AB _
 |q::l,i=>by
   show(Fp W b x q i++DI W b x l (i+1)).length<=_;have a:(Fp W b x q i).length<=1:=by unfold Fp;split<;>simp
   have c:=VG W b x l (i+1);rw[AW,Ej];omega
theorem Oc{W:Wd}{b:AQ}{x:Str}{w:List Ap}:∀{l:List DU}{i:Nat},w∈DI W b x l i->∃(j:Nat)(q:DU),l[j]?=some q/\q.2.1=x/\q.1∈G0 W b.2.2/\w=b.1++[(b.2.1,("told" : Str),((i+j:Nat):Int))]
 |[],i,h=>by cases h
 |q::l,i,h=>by
   rcases BB.mp (show w∈Fp W b x q i++DI W b x l (i+1) from h) with h|h
   unfold Fp at h;split at h;rename_i a;exact⟨0,q,rfl,a.1,a.2,AY.mp h⟩;cases h;obtain⟨j,c,d,e,f,g⟩:=Oc h;exact⟨j+1,c,by simpa using d,e,f,by rw[g,show i+1+j=i+(j+1) by omega]⟩
theorem Sw{bs:List AQ}{w:List Ap}(h:w∈DW W x bs):∃b∈bs,∃(j:Nat)(q:DU),(Ge W b.2.1)[j]?=some q/\q.2.1=x/\q.1∈G0 W b.2.2/\w=b.1++[(b.2.1,("told" : Str),(j:Int))]:=by
 obtain⟨b,a,c⟩:=List.mem_flatMap.mp h;obtain⟨j,q,d,e,f,g⟩:=Oc c;exact⟨b,a,j,q,d,e,f,by rw[g,Nat.zero_add]⟩
theorem Sx{α:Type}{f:AQ->List α}{k:Nat}:∀(bs:List AQ),(∀b,(f b).length<=k)->(bs.flatMap f).length<=bs.length*k
 |[],_=>by simp
 |b::bs,h=>by
   rw[List.flatMap_cons,AW,Ej,Nat.succ_mul];have:=h b;have:=Sx bs h;omega
structure M1 (W:Wd) (x:Str) (bs:List AQ) (ws:List (List Ap)):Prop where
 perm:ws.Perm (DW W x bs)
 srt:ws.Pairwise CC.O.kle
theorem M1.uniq{bs:List AQ}{l m:List (List Ap)}(h:M1 W x bs l)(k:M1 W x bs m):l=m:=LD (O:=CC.O) (h.perm.trans k.perm.symm) h.srt k.srt
def CO (F:Addr->Prop) (H:Hp) (l:Addr) (w:List Ap):Prop:=∃ms:List Addr,H l=some (.lst (ms.map V.ref))/\RT GK H ms w/\F l
theorem CO.same{F:Addr->Prop}{H H':Hp}{t:Addr}{b:List Ap}(e:Ac H H')(h:CO F H t b):CO F H' t b:=by
 obtain⟨a,c,d,f⟩:=h;exact⟨a,e _ _ c,d.same e,f⟩
theorem CO.mono'{G:Addr->Prop}{t:Addr}{b:List Ap}(e:∀x o,H x=some o->F x->G x)(h:CO F H t b):CO G H t b:=by
 obtain⟨c,a,d,f⟩:=h;exact⟨c,a,d,e _ _ a f⟩
theorem CO.keeps{M F:Addr->Prop}{H H':Hp}{t:Addr}{b:List Ap}(k:Keeps M H H')(c:∀x,F x->¬M x)(h:CO F H t b):CO F H' t b:=by
 obtain⟨d,e,f,a⟩:=h;exact⟨d,k.at_ _ _ e (c _ a),f.keeps k,a⟩
theorem CO.dt{K:Ah}{t:Addr}{b:List Ap}(h:CO F H t b):Ar K H (.ref t) (CC.D b):=by
 obtain⟨d,a,c,_⟩:=h;exact .lst (Ag.of a) (c.dts HA)
theorem VH{c:Enc}{zs:List (Addr×c.O.α)}{d:List (DO c)}(a:d.Perm (zs.map λz=>((V.ref z.1,z.2):DO c))) :
 ∃ws:List (Addr×c.O.α),d.map (·.1)=(ws.map λz=>V.ref z.1)/\d.map (·.2)=ws.map (·.2)/\(ws.map (·.2)).Perm (zs.map (·.2))/\∀z∈ws,z∈zs:=by
 have:∀{l:List (DO c)},(∀y∈l,y∈zs.map λz=>((V.ref z.1,z.2):DO c))->∃ws:List (Addr×c.O.α),l=ws.map λz=>(V.ref z.1,z.2):=by
  intro l
  induction l with
  |nil=>exact λ_=>⟨[],rfl⟩
  |cons y l f =>
    intro h;obtain⟨ws,rfl⟩:=f λz g=>h z (Ch _ g);obtain⟨z,_,rfl⟩:=Br.mp (h y Bv);exact⟨z::ws,rfl⟩
 obtain⟨ws,rfl⟩:=this λy b=>a.mem_iff.mp b;refine⟨ws,by rw[DF];rfl,by rw[DF];rfl,?_,λz k=>?_⟩;have:=a.map (·.2);rw[DF,DF] at this;exact this;have:=a.mem_iff.mp (Br.mpr ⟨z,k,rfl⟩);obtain⟨y,b,e⟩:=Br.mp this;injection e with i j;have:y=z:=Prod.ext (V.ref.inj i) j;rw[<-this];exact b
abbrev PD:Enc:=LJ (Er M0) FN
abbrev Ow:Type:=List Ap×Int
def ow (b:AQ) (r:Gn):Option Ow:=if r.2.1.1=("open" : Str) then some (b.1++[r.1],r.2.1.2) else none
def F2 (W:Wd) (bs:List AQ):List Ow:=bs.flatMap λb=>(Gv W b.2.1 b.2.2).filterMap (ow b)
theorem VI{bs:List AQ}{w:Ow}(h:w∈F2 W bs):∃b∈bs,∃(j:Nat)(p:Cd)(a:Int),(BU W b.2.1)[j]?=some p/\El (DV W b.2.2) p.1=some a/\(BL W.gs W.as p).1=("open" : Str)/\w=(b.1++[(b.2.1,("step" : Str),(j:Int))],(BL W.gs W.as p).2):=by
 obtain⟨b,c,d⟩:=List.mem_flatMap.mp h;obtain⟨r,f,e⟩:=List.mem_filterMap.mp d;obtain⟨j,p,a,g,i,rfl⟩:=LM f;unfold ow at e;split at e;rename_i k;exact⟨b,c,j,p,a,g,i,k,(Bo e).symm⟩;cases e
structure Od (W:Wd) (bs:List AQ) (ws:List Ow):Prop where
 perm:ws.Perm (F2 W bs)
 srt:ws.Pairwise PD.O.kle
theorem Od.uniq{bs:List AQ}{l m:List Ow}(h:Od W bs l)(k:Od W bs m):l=m:=LD (O:=PD.O) (h.perm.trans k.perm.symm) h.srt k.srt
def FE (F:Addr->Prop) (H:Hp) (t:Addr) (p:Ow):Prop:=∃(l:Addr)(ms:List Addr),H t=some (.tup [.ref l,.int p.2])/\H l=some (.lst (ms.map V.ref))/\RT GK H ms p.1/\F l
theorem FE.same{F:Addr->Prop}{H H':Hp}{t:Addr}{b:Ow}(e:Ac H H')(h:FE F H t b):FE F H' t b:=by
 obtain⟨l,a,c,d,f,g⟩:=h;exact⟨l,a,e _ _ c,e _ _ d,f.same e,g⟩
theorem FE.mono'{G:Addr->Prop}{t:Addr}{b:Ow}(e:∀x o,H x=some o->F x->G x)(h:FE F H t b):FE G H t b:=by
 obtain⟨l,c,d,a,f,g⟩:=h;exact⟨l,c,d,a,f,e _ _ a g⟩
theorem FE.keeps{M F:Addr->Prop}{H H':Hp}{t:Addr}{b:Ow}(k:Keeps M H H')(c:∀x,F x->¬M x)(h:FE F H t b):FE F H' t b:=by
 obtain⟨l,d,e,f,g,a⟩:=h;exact⟨l,d,k.tup e,k.at_ _ _ f (c _ a),g.keeps k,a⟩
theorem FE.dt{K:Ah}{t:Addr}{b:Ow}(h:FE F H t b):Ar K H (.ref t) (PD.D b):=by
 obtain⟨l,e,a,c,d,_⟩:=h;exact .tup (Aq.of a) (.cons (.lst (Ag.of c) (d.dts HA)) (.cons (.int _) .nil))
theorem YU{bs:List AQ}(h:bs[i]?=some b):F2 W (bs.take (i+1))=F2 W (bs.take i)++(Gv W b.2.1 b.2.2).filterMap (ow b):=by
 rw[DJ,h];show(bs.take i++[b]).flatMap _=_;rw[List.flatMap_append];simp[F2]
theorem LO{β:Type}(f:α->Option β)(l:List α)(x:α):(l++[x]).filterMap f=l.filterMap f++(f x).toList:=by
 rw[List.filterMap_append];cases e:f x<;>simp[e]
theorem Jt(h:r.2.1.1=("open" : Str)):ow b r=some (b.1++[r.1],r.2.1.2):=Aj h
theorem Ju(h:r.2.1.1≠("open" : Str)):ow b r=none:=Ak h
structure Bf (W:Wd):Prop where
 tl:∀s∈W.ss,∀p∈s.2,Fo W.gs.length W.as.length p
 fnd:∀(x:Str)(sc st:Int)(bs:List AQ),(0<=sc/\sc<W.ss.length)->(0<=st/\st<W.sts.length)->Db W sc st bs->(DW W x bs).length<=62
 owd:∀(sc st:Int)(bs:List AQ),(0<=sc/\sc<W.ss.length)->(0<=st/\st<W.sts.length)->Db W sc st bs->(F2 W bs).length<=62
def FO (ss:List Bi) (m:Ap):Str:=match ss[m.1.toNat]? with
 |some s=>if m.2.1=("step" : Str) then(match s.1[m.2.2.toNat]? with
   |some p=>p.1
   |none=>default) else(match s.2[m.2.2.toNat]? with
   |some p=>p.1
   |none=>default)
 |none=>default
def Et (ss:List Bi) (m:Ap):Prop:=∃(n k:Nat)(s:Bi),m.1=(n:Int)/\m.2.2=(k:Int)/\ss[n]?=some s/\((m.2.1=("step" : Str)/\k<s.1.length)\/(m.2.1=("told" : Str)/\k<s.2.length))
theorem YV{m:Ap}{k:Nat}{p:Cd}(a:m.1=(n:Int))(b:m.2.2=(k:Int))(c:ss[n]?=some s)(d:m.2.1=("step" : Str))(e:s.1[k]?=some p):FO ss m=p.1:=by
 unfold FO;rw[a,b,Be,Be,c];dsimp only;rw[Aj d,e]
theorem YW{m:Ap}{k:Nat}{p:DU}(a:m.1=(n:Int))(b:m.2.2=(k:Int))(c:ss[n]?=some s)(d:m.2.1≠("step" : Str))(e:s.2[k]?=some p):FO ss m=p.1:=by
 unfold FO;rw[a,b,Be,Be,c];dsimp only;rw[Ak d,e]
theorem Sy:("told" : Str)≠("step" : Str):=by decide +kernel
open Classical in
noncomputable def Cg (ss:List Bi) (ord:List (Str×Str)):List Ap->List Ap->Bool
 |m::ms,q::qs=>if m=q then Cg ss ord ms qs else dec ((FO ss m,FO ss q)∈ord)
 |_,_=>false
theorem Oe(ss:List Bi)(ord:List (Str×Str))(m:Ap)(a qs:List Ap):Cg ss ord (m::a) (m::qs)=Cg ss ord a qs:=by
 rw[Cg];exact Aj rfl
theorem KD(ss:List Bi)(ord:List (Str×Str)){m q:Ap}(a qs:List Ap)(h:m≠q):Cg ss ord (m::a) (q::qs)=dec ((FO ss m,FO ss q)∈ord):=by
 rw[Cg];exact Ak h
theorem LP(ss:List Bi)(ord:List (Str×Str)):∀{l m:List Ap},l=[]\/m=[]->Cg ss ord l m=false
 |[],_,_=>by rw[Cg];intros;simp at *
 |_::_,[],_=>by rw[Cg];intros;simp at *
 |_::_,_::_,h=>by simp at h
theorem VJ(ok:BY W)(u:0<=sc/\sc<W.ss.length)(v:0<=st/\st<W.sts.length)(h:AR W sc st b):∀m∈b.1,Et W.ss m:=by
 induction h with
 |root=>intro m c;cases c
 |@kid d x i k l =>
   obtain⟨r,o,_,_,rfl⟩:=AH.mp k;intro m c;rcases BB.mp c with c|c;exact l m c;rw[AY.mp c];have q:=i.ok ok u v;have s:=q.rng d.2.1 (by unfold AU;simp);obtain⟨j,p,a,e,_,rfl⟩:=LM o;obtain⟨n,f⟩:=Df s.1;have w:n<W.ss.length:=(by omega);have g:=AD w;have t:BU W d.2.1=W.ss[n].1:=by unfold BU;rw[f,Be,g]
   rw[t] at e;exact⟨n,j,_,f,rfl,g,.inl ⟨rfl,(A7.mp e).1⟩⟩
theorem Sz(ok:BY W)(h:0<=sc/\sc<W.ss.length)(i:0<=st/\st<W.sts.length){bs:List AQ}(k:Db W sc st bs){w:List Ap}(l:w∈DW W x bs):(∀m∈w,Et W.ss m)/\w.length<=100:=by
 obtain⟨b,o,j,q,d,_,_,rfl⟩:=Sw l;have e:=(k.mem b).mp o;have c:=e.ok ok h i;have p:=c.rng b.2.1 (by unfold AU;simp);refine⟨λm a=>?_,?_⟩;rcases BB.mp a with a|a;exact VJ ok h i e m a;rw[AY.mp a];obtain⟨n,f⟩:=Df p.1;have s:n<W.ss.length:=(by omega);have g:=AD s;have r:Ge W b.2.1=W.ss[n].2:=by unfold Ge;rw[f,Be,g]
 rw[r] at d;exact⟨n,j,_,f,rfl,g,.inr ⟨rfl,(A7.mp d).1⟩⟩;have:=KA W.ss.length (AU b) c.nd c.rng;rw[show(AU b).length=b.1.length+1 by unfold AU;simp] at this;have:=ok.s5;rw[AW,DE];omega
theorem YX(ok:BY W)(i:0<=sc/\sc<W.ss.length)(k:0<=st/\st<W.sts.length){bs:List AQ}(l:Db W sc st bs){w:Ow}(o:w∈F2 W bs):(∀m∈w.1,Et W.ss m)/\w.1.length<=100:=by
 obtain⟨b,q,j,p,a,e,_,_,rfl⟩:=VI o;have f:=(l.mem b).mp q;have d:=f.ok ok i k;have r:=d.rng b.2.1 (by unfold AU;simp);refine⟨λm c=>?_,?_⟩;rcases BB.mp c with c|c;exact VJ ok i k f m c;rw[AY.mp c];obtain⟨n,g⟩:=Df r.1;have t:n<W.ss.length:=(by omega);have h:=AD t;have s:BU W b.2.1=W.ss[n].1:=by unfold BU;rw[g,Be,h]
 rw[s] at e;exact⟨n,j,_,g,rfl,h,.inl ⟨rfl,(A7.mp e).1⟩⟩;have:=KA W.ss.length (AU b) d.nd d.rng;rw[show(AU b).length=b.1.length+1 by unfold AU;simp] at this;have:=ok.s5;show(b.1++[(b.2.1,("step" : Str),(j:Int))]).length<=100;rw[AW,DE];omega
theorem YY(h:n<=40000):n<sizeLine:=Nat.lt_of_le_of_lt h (by decide)
def M3 (ss:List Bi) (w:List Ap):Prop:=(∀m∈w,Et ss m)/\w.length<=100
end L2
namespace PySem
section
variable {prog:Program} {w:World} {K:Type} [DecidableEq K] {knd:HeapKind prog w K} {A:Around} {E:Value->Shared->Prop} {s:Shared}
theorem YZ{d a:Addr}{xs:List (K×Addr×Value)}{k:K}{v:Value}{Q:Value->Shared->Prop}(l:knd.room A)(i:knd.is s.heap k a)(r:s.heap.DictOfH knd d xs)
 (t:∀p,atKey xs k=some p->Q p.2 {s with toks:=s.toks+knd.draws k})
 (u:atKey xs k=none->∀h',h'.DictOfH knd d (storedH xs k a v)->Heap.SameBut d s.heap h'->Q v {s with heap:=h',toks:=s.toks+knd.draws k})
 (hsz:xs.length<=sizeLine:=by size_fits) :
 wpAny (model prog w) A (dictSetDefault d (.ref a) v) Q E s:=by
 obtain⟨o,D,z,c,B,hd,g,q,h⟩:=r;unfold dictSetDefault
 try with_reducible refine Ff ?_
 refine Ad (knd.pyHash l i ?_);refine Ad (wpAny_dictFind_heap (s:={s with toks:=s.toks+knd.draws k}) l i c hd g q h ?_ ?_);intro f;have C:k∉xs.map (·.1):=not_mem_keys_of_get f
 refine Ad (G4 (Ad (wpAny_updateDictKeys (hz:=by have e:=size_of_entries g;omega) (s:={s with toks:=s.toks+knd.draws k}) c hd (Au (u (atKey_none_of_get f) _ ⟨_,_,z+1,Heap.get?_update_self _ c (Obj.isFreed_of_dict (Obj.data_mapDictKeys hd _)),
  B.mapDictKeys _,Obj.data_mapDictKeys hd _,?_,?_,?_⟩ (Heap.SameBut.update ..))))))
 rw[storedH_new (atKey_none_of_get f)];simp[g,entryOfKey];rw[storedH_new (atKey_none_of_get f)];intro x b;rcases BB.mp b with b|b;exact knd.keeps (q x b) c hd (Heap.SameBut.update ..);simp only[AY] at b;subst b;exact knd.keeps i c hd (Heap.SameBut.update ..);rw[storedH_new (atKey_none_of_get f)];rw[Bn,List.nodup_append];refine⟨h,by simp,?_⟩;intro x b y m;simp only[D7,Nj,AY] at m;subst m;exact λe=>C (e▸b);intro j p n;refine Ad (wpAny_dictEntries (s:={s with toks:=s.toks+knd.draws k}) c hd ?_);rw[entry_at g j,n];exact Ad (G4 (Au (t p (atKey_of_get h n))))
theorem Y0(d a:Addr)(hd:(d==sysModules)=false)(b:Value) :
 MeetsIn prog w (Builtin.«dict.setdefault» ⟨[.ref d,.ref a,b],[]⟩) (λA R s=>knd.room A.in1/\∃k xs,knd.is s.heap k a/\s.heap.DictOfH knd d xs/\xs.length<=sizeLine /\
  (∀p,atKey xs k=some p->R (.ok (.ret p.2)) {s with toks:=s.toks+knd.draws k}) /\
  (atKey xs k=none->∀h',h'.DictOfH knd d (storedH xs k a b)->Heap.SameBut d s.heap h'->R (.ok (.ret b)) {s with heap:=h',toks:=s.toks+knd.draws k})):=
 .of_wp λA R s l=>by
  obtain⟨e,k,xs,o,c,f,g,h⟩:=l;unfold Builtin.«dict.setdefault»;refine Ad ?_;unfold Builtin.Dict.keyAndDefault;refine Ad (wpAny_notOrdered_dict c.typeIs ?_);show wpAny _ _ (pure (d,Value.ref a,some b)) _ _ s;refine Au ?_;show wpAny _ _ (if(d==sysModules)=true then _ else(dictSetDefault d (.ref a) b >>= _)) _ _ s;rw[Ak (by rw[hd];exact Cq)];exact Ad (YZ (hsz:=f) e o c (λp i=>Au ⟨p.2,rfl,g p i⟩) λj h' m n=>Au ⟨b,rfl,h j h' m n⟩)
end
section
variable {prog:Program} {w:World} {A:Around} {E:Value->Shared->Prop} {s:Shared}
variable {d:Addr}{es:Array DictEntry}{ep:Nat}
theorem Y1{o:Obj}{Q:Value->Shared->Prop}(hd:(d==sysModules)=false)(a:s.heap.get? d=some o)(e:o.ExactDict)(c:o.data=.dict es ep)
 (f:Q (.ref s.heap.objs.size) {s with heap:=s.heap.push {cls:=.type "dict_keyiterator",data:=.fields #[.ref d,.int 0 0,.int es.size 0,.int ep 0]}}) :
 wpAny (model prog w) A (pyIter (.ref d)) Q E s:=by
 have b:s.TypeIs (.ref d) "dict" :=⟨o,a,e.1⟩;refine wpAny_pyIter_slot b F.slot_dict_iter (wpAny_call_entry F.slot_dict_iter b F.entry_dict_iter ?_ (F.args_dict_iter_1 _));unfold Builtin.«dict.__iter__»;refine Ad ?_;unfold Builtin.Dict.dictSlotNone;refine Ad (wpAny_notOrdered_dict b ?_);show wpAny _ _ (pure (Value.ref d)) _ _ s;refine Au ?_;show wpAny _ _ (Builtin.Dict.showsAll d >>= _) _ _ s;unfold Builtin.Dict.showsAll;rw[Ak (by rw[hd];exact Cq)];refine Ad (Au ?_);refine Ad (wpAny_dictEntries a c ?_);refine Ad (wpAny_dictEpoch a c ?_);refine Ad (wpAny_newObj_type (Au ⟨_,rfl, "dict_keyiterator",_,⟨_,B4 _ rfl,rfl⟩,F.slot_dict_keyiterator_next.lookup,?_⟩));simpa [rawInt] using f
theorem Y2{a:Addr}{i:Nat}{c:Obj}{Q:Option Value->Shared->Prop}(hit:s.heap.IsKeyIter a d i es.size ep)
 (e:s.heap.get? d=some c) (f:c.data=.dict es ep) (k:i<es.size)
 (h:∀h',h'.IsKeyIter a d (i+1) es.size ep->Heap.SameBut a s.heap h'->Q (some es[i].key) {s with heap:=h'}) :
 wpAny (model prog w) A (pyNext (.ref a)) Q E s:=by
 obtain⟨o,b,j,hd⟩:=id hit;unfold pyNext
 refine Ad (wpAny_attempt (wpAny_callSpecial?_slot (name:=Str.ofString "__next__") hit.typeIs F.slot_dict_keyiterator_next
  (wpAny_call_entry F.slot_dict_keyiterator_next hit.typeIs F.entry_dict_keyiterator_next ?_ (F.args_dict_keyiterator_next_1 _))))
 refine Ad (Au ?_);refine Ad ?_;refine Ad ?_
 first|refine Ad (wpAny_typeNameOfWhole_keyiter hit.typeIs (Au ?_))|refine Ad (wpAny_typeNameOf_keyiter hit.typeIs (Au ?_))
 refine Ad (wpAny_fieldsOf b hd ?_);have l:Builtin.Dict_items.ownsTuple "dict_keyiterator" = false:=(by decide)
 simp only[l,Fe,if_false];show wpAny _ _ (if(Value.ref d==Value.none)=true then _ else _) _ _ s;rw[Ak (show ¬((Value.ref d==Value.none)=true) from Cq)];refine Ad (Au ?_);refine Ad (wpAny_dictEntries e f ?_);rw[Ak (by simp)];refine Ad (Au ?_);refine Ad (wpAny_dictEpoch e f ?_);rw[Ak (by simp)];refine Au ?_;simp only[show ¬((i:Int)<0) from by omega,if_false,Be,Array.getElem?_eq_getElem k];refine Ad ?_
 first|refine Ad (wpAny_typeNameOfWhole_keyiter hit.typeIs (Au ?_))|refine Ad (wpAny_typeNameOf_keyiter hit.typeIs (Au ?_))
 refine Ad (wpAny_isOneOf_keyiter hit.typeIs ?_);show wpAny _ _ (setField (.ref a) 1 (rawInt ((i:Int)+1)) >>= _) _ _ s;refine Ad (wpAny_setField b hd (by simp) ?_)
 have g:(s.heap.update a (Obj.mapFields (·.setIfInBounds 1 (rawInt ((i:Int)+1))))).IsKeyIter a d (i+1) es.size ep:=
  ⟨_,Heap.get?_update_self _ b (Obj.isFreed_of_fields (Obj.data_mapFields hd _)),(Obj.cls_mapFields ..).trans j,by rw[Obj.data_mapFields hd];simp[rawInt]⟩
 refine Ad (Ff ?_);refine Ad (wpAny_isOneOf_keyiter (s:={s with heap:=s.heap.update a (Obj.mapFields (·.setIfInBounds 1 (rawInt ((i:Int)+1))))}) g.typeIs ?_);show wpAny _ _ (pure es[i].key) _ _ _;exact Au (Au ⟨_,rfl,Au (h _ g (Heap.SameBut.update ..))⟩)
theorem Y3{c:Addr}{i:Nat}{e:Obj}{Q:Option Value->Shared->Prop}(j:A.handled=none)(hit:s.heap.IsKeyIter c d i es.size ep)
 (g:s.heap.get? d=some e) (h:e.data=.dict es ep) (l:es.size<=i)
 (k:∀h',Heap.ExtBut c s.heap h'->Q none {s with heap:=h'}):wpAny (model prog w) A (pyNext (.ref c)) Q E s:=by
 obtain⟨o,f,p,hd⟩:=id hit;unfold pyNext
 refine Ad (wpAny_attempt (wpAny_callSpecial?_slot (name:=Str.ofString "__next__") hit.typeIs F.slot_dict_keyiterator_next
  (wpAny_call_entry F.slot_dict_keyiterator_next hit.typeIs F.entry_dict_keyiterator_next ?_ (F.args_dict_keyiterator_next_1 _))))
 refine Ad (Au ?_);refine Ad ?_;refine Ad ?_
 first|refine Ad (wpAny_typeNameOfWhole_keyiter hit.typeIs (Au ?_))|refine Ad (wpAny_typeNameOf_keyiter hit.typeIs (Au ?_))
 refine Ad (wpAny_fieldsOf f hd ?_);have n:Builtin.Dict_items.ownsTuple "dict_keyiterator" = false:=(by decide)
 simp only[n,Fe,if_false];show wpAny _ _ (if(Value.ref d==Value.none)=true then _ else _) _ _ s;rw[Ak (show ¬((Value.ref d==Value.none)=true) from Cq)];refine Ad (Au ?_);refine Ad (wpAny_dictEntries g h ?_);rw[Ak (by simp)];refine Ad (Au ?_);refine Ad (wpAny_dictEpoch g h ?_);rw[Ak (by simp)];refine Au ?_;simp only[show ¬((i:Int)<0) from by omega,if_false,Be,Array.getElem?_eq_none l];refine Ad ?_
 first|refine Ad (wpAny_typeNameOfWhole_keyiter hit.typeIs (Au ?_))|refine Ad (wpAny_typeNameOf_keyiter hit.typeIs (Au ?_))
 show wpAny _ _ (setField (.ref c) 0 .none >>= _) _ _ s;refine Ad (wpAny_setField f hd (by simp) ?_);show wpAny _ _ (newExc (.type "StopIteration") [] >>= _) _ _ _
 refine Ad ?_;simp only[newExc,newTuple];refine Ad (wpAny_newObj_type ?_ (by size_fits));refine Ad (m:=firstArgMember _ _) (wpAny_of_eq (a:=Value.none) (by first|rfl|(simp only[firstArgMember];rfl)) ?_);refine wpAny_newObj_type ?_ (by size_fits);simp only[raiseNew];refine Ad (wpAny_handled ?_);rw[show A.in1.handled=none from j];refine Ad (Au (wpAny_throw ?_))
 refine Ad (wpAny_isInstance (T:= "StopIteration") (b:=true) ⟨_,B4 _ rfl,rfl⟩ isSubtype_stop ?_);exact Au (k _ (((Heap.SameBut.update ..).extBut.push _).push _))
end
end PySem
namespace L2
open PySem PySem.Spec PyProof.Rows
section
variable {X:Cx}
def Of:V->List V->Hp->VK->Prop:=λx vs H Q=>∃a kvs k b d,x=.ref a/\vs=[.ref b,d]/\H a=some (.dT kvs)/\H b=some (.tup (k.map kV))/\kvs.length<sizeLine/\(∀v,AL kvs k=some v->Q v H)/\(AL kvs k=none->Q d (upd H a (.dT (AX kvs k d))))
theorem Y4(A:X.A.units+1<cLine):NL X "dict.setdefault" Of:=by
 intro Z s σ H x T v U Q I B C h;obtain⟨a,g,k,b,d,rfl,rfl,hd,l,V,D,E⟩:=h;cases B;obtain⟨u,r,rfl,F,m⟩:=IX C;cases(show u=Value.ref b from F);obtain⟨z,n,o,j,p⟩:=Hi I.hok hd
 have i:o.length<=sizeLine:=by rw[<-Paired.length j];exact z
 have f:=j.val k
 refine call_meetsIn PySem.F.slot_dict_setdefault p.typeIs PySem.F.entry_dict_setdefault (PySem.F.args_dict_setdefault_3 _ _ _) (Y0 (knd:=tupleKind (EK X.prog X.w)) a b n r)
  ⟨tupleKind_room_in1 A,k,o,Lp I.hok l,p,i,λy G=>?_,λJ W S K=>?_⟩
 rw[G] at f
 cases e:AL g k with
 |none=>rw[e] at f;exact False.elim f
 |some v0 =>
   rw[e] at f;exact⟨v0,H,I.tok _,f,D v0 e⟩
 rw[J] at f
 cases e:AL g k with
 |some v0=>rw[e] at f;exact False.elim f
 |none =>
   have i:(AX g k d).length<=sizeLine:=by have:=NU g k d;omega
   obtain⟨q,L,M,t,N,O,P,_,R⟩:=S;refine⟨d,_,NV (ob:=.dT (AX g k d)) I (by rw[hd];exact True.intro) K ⟨q,t⟩ ⟨i,n,_,(j.put k l m).keeps λc Y w=>?_,q,L,M,t,N,O,P,R⟩,m,E e⟩;rw[AC (MP w hd (λz=>nomatch z))];exact w
def PH (H Y H2:Hp):Prop:=∀b,H2 b=Y b\/H b=none/\∃kvs o,Y b=some (.dT kvs)/\H2 b=some (.frz o (.dT kvs))
theorem Inv.frz{pins:List (Addr×Obj)}{s:Shared}{σ:St}{H d:Hp}(I:Inv X pins σ H s)(h:∀b,d b=H b\/∃a o,s.heap.get? b=some o/\H b=some (.dT a)/\d b=some (.frz o (.dT a))):Inv X pins σ d s:=by
 have same:∀b u,H b=some u->(∀a,u≠.dT a)->d b=some u:=λb u e n=>by
  rcases h b with z|⟨a,o,_,z,_⟩;rw[z];exact e;rw[e] at z;cases z;exact absurd rfl (n a)
 refine I.step (g':=s.gens) (t':=s.toks) (d':=s.drawn) (h':=s.heap) (ch:=[]) (λb i=>nomatch i) (λb o _ _ _ z _=>z) (λb o _ _ _ z _=>⟨o.slots,z⟩) (λb o _ _ n=>?_) (λb o _ z=>⟨o,z⟩)
  (λb j z=>same b _ z λ_ q=>nomatch q) (λb o u z=>same b _ z λ_ q=>nomatch q) (λb p z=>⟨#[],by rw[same b _ z λ_ q=>nomatch q];simp⟩) (λm k=>k) (λb u z=>?_) I.bare
 rcases h b with z|⟨a,o,_,z,_⟩;rw[z];exact n;rw[n] at z;cases z;have f:∀{v:HO},H b=some v->Az X.prog X.w d s.heap b v:=λ{v}e=>(I.hok b v e).stay (λ_ _ _ q=>q) (λc q=>same c _ q λ_ q=>nomatch q) λc j q=>same c _ q λ_ q=>nomatch q;rcases h b with y|⟨a,o,g,y,l⟩;rw[y] at z;exact f z;rw[l] at z;cases z;exact⟨g,f y⟩
def SA (t:TE):TE:=λσ H Q=>t σ H λv Y=>∀H2,PH H Y H2->(∀b kvs,H b=none->Y b=some (.dT kvs)->∃o,H2 b=some (.frz o (.dT kvs)))->Q v H2
theorem HB{e:Expr}{t:TE}(n:PE X e t):PE X e (SA t):=by
 intro v s σ H Q I h;refine AV (n v s σ H _ I h) λu j⟨x,Y,l,p,q⟩=>?_
 classical
 let d:Hp:=λb=>if H b=none then(match Y b,j.heap.get? b with
  |some (.dT a),some o=>some (.frz o (.dT a))
  |z,_=>z) else Y b
 have k:∀b,d b=Y b\/H b=none /\ ∃a o,j.heap.get? b=some o/\Y b=some (.dT a)/\d b=some (.frz o (.dT a)):=λb=>by
  by_cases c:H b=none
  have e:d b=(match Y b,j.heap.get? b with
   |some (.dT a),some o=>some (.frz o (.dT a))
   |z,_=>z):=Aj c
  by_cases hd:∃a o,Y b=some (.dT a)/\j.heap.get? b=some o;obtain⟨a,o,f,i⟩:=hd;rw[f,i] at e;exact .inr ⟨c,a,o,i,f,e⟩;refine .inl ?_;rw[e];split;rename_i a o f i;exact absurd ⟨a,o,f,i⟩ hd;rfl;exact .inl (Ak c)
 refine⟨x,d,l.frz λb=>(k b).imp id λ⟨_,z⟩=>z,p,q d (λb=>(k b).imp id λ⟨c,a,o,_,f,i⟩=>⟨c,a,o,f,i⟩) λb a c z=>?_⟩;rcases k b with y|⟨_,w,o,_,m,r⟩;exfalso
 obtain⟨_,_,_,_,o,A,B,g,_⟩:=(show Az X.prog X.w Y j.heap b (.dT a) from l.hok b _ z)
 have e:d b=some (.frz o (.dT a)):=by
  show(if H b=none then _ else _)=_;rw[Aj c,z,g]
 rw[e,z] at y;cases y;rw[z] at m;cases m;exact⟨o,r⟩
def Og (a:Addr) (o:Obj) (kvs:List (List AO×V)):It:=
 ⟨λi H=>H a=some (.frz o (.dT kvs))/\i<kvs.length,λi H x H'=>H'=H/\∃k v b,kvs[i]?=some (k,v)/\x=.ref b/\H b=some (.tup (k.map kV)),λi H=>H a=some (.frz o (.dT kvs))/\kvs.length<=i⟩
theorem LQ{α β:Type}{F:α->β->Prop}{l:List α}{m:List β}(h:Paired F l m):∀{i:Nat}(a:i<l.length),∃y,m[i]?=some y/\F l[i] y:=by
 induction h with
 |nil=>intro i a;exact absurd a (Nat.not_lt_zero _)
 |cons r t b =>
   intro i a
   cases i with
   |zero=>exact⟨_,rfl,r⟩
   |succ i=>exact b (i:=i) (by simpa using a)
theorem Y5{P:Program}{w:World}{K:Ah}{T:Expr}{a j:Addr}{o:Obj}{p:List (List AO×V)}{es:Array DictEntry}{ep:Nat}(hd:o.data=.dict es ep) :
 Fh P w K T (Og a o p) [j] j (λi h=>h.IsKeyIter j a i es.size ep) where
 mem:=by simp
 obj:=λi h f b l=>by
  have e:b=j:=(by simpa using l);subst e;obtain⟨o,e,c,d⟩:=f;exact⟨o,e,λah z=>by rw[d] at z;cases z⟩
 keep:=λi h r f k=>f.at λo e=>k j (by simp) o e
 item:=by
  intro X u v x O i S s σ H E I t f A;subst u v x;obtain⟨B,C⟩:=A;obtain⟨m,z,y,U,N,W,ab,ae,g,Y,n,D,Z⟩:=(show Az X.prog X.w H s.heap a (.frz o (.dT p)) from I.hok a _ B);rw[m] at g;cases g;rw[hd] at n;cases n;obtain⟨q,hx,e1,e2,e3⟩:=LQ N C;have Q:=entry_at (knd:=tupleKind (EK X.prog X.w)) D i;rw[hx] at Q;obtain⟨af,ag⟩:=Array.getElem?_eq_some_iff.mp Q;obtain⟨F,G,aa,J,L,M⟩:=t j (by simp);refine Y2 f m hd af λr R sb=>?_;have I1:Inv X S σ H {s with heap:=r}:=I.turned (t':=s.toks) (λb o l e=>(sb.2 b l).trans e) F G J L M;obtain⟨oi,e,c,d⟩:=id R;refine⟨_,rfl,Ha (s:={s with heap:=r}) e c d (by decide) ⟨.ref q.2.1,H,I1,?_,⟨rfl,p[i].1,p[i].2,q.2.1,by simp[C],rfl,e2⟩,R,λb l=>(t b l).1⟩⟩;rw[ag];rfl
 done:=by
  intro X u v x O i S s σ H E I t f A;subst u v x;obtain⟨B,C⟩:=A;obtain⟨m,z,y,U,N,W,ab,ae,g,Y,n,D,Z⟩:=(show Az X.prog X.w H s.heap a (.frz o (.dT p)) from I.hok a _ B);rw[m] at g;cases g;rw[hd] at n;cases n;have ai:=size_of_entries D;have hl:=Paired.length N;obtain⟨F,G,aa,J,L,M⟩:=t j (by simp);exact Y3 (I.ok.hd O) f m hd (by omega) λr eb=>⟨rfl,I.turned (t':=s.toks) (λb o l e=>eb b o l e) F G J L M⟩
 self:=λ_ _ _ _ _ f h=>wpAny_pyIter_keyiter f h
def Oh (tl:TE):TI:=λσ H R=>tl σ H λx Y=>∃a kvs,x=.ref a/\Rd Y a (.dT kvs)/\∀o,(Y a=some (.dT kvs)\/Y a=some (.frz o (.dT kvs)))->R (Og a o kvs) (upd Y a (.frz o (.dT kvs)))
theorem Jv{r l:Expr}{k:TE}(t:PE X l k):PI X r l (Oh k):=by
 intro p s σ H R I h;refine AV (t p s σ H _ I h) λv c⟨x,Y,i,u,w⟩=>?_;obtain⟨a,d,e,m,q⟩:=w;subst e;cases u;obtain⟨_,y,C,_,o,D,E,g,A,n,_⟩:=(show Az X.prog X.w Y c.heap a (.dT d) from Hh i.hok m)
 have f:Y a=some (.dT d)\/Y a=some (.frz o (.dT d)):=by
  rcases m with z|⟨B,z⟩;exact .inl z
  have:=(show Az X.prog X.w Y c.heap a (.frz B (.dT d)) from i.hok a _ z).1
  rw[g] at this;cases this;exact .inr z
 have j:Inv X p σ (upd Y a (.frz o (.dT d))) c:=i.frz λb=>by
  by_cases e:b=a;subst e;rcases f with z|z;exact .inr ⟨d,o,g,z,Aa⟩;exact .inl (Aa.trans z.symm);exact .inl (AC e)
 refine Y1 y g A n ?_;refine⟨c.heap.objs.size,[c.heap.objs.size],_,_,_,rfl,j.kept (t':=c.toks) λb o e=>A8 _ e,Y5 n,⟨_,B4 _ rfl,rfl,rfl⟩,λb f=>?_,q o f⟩;have e:b=c.heap.objs.size:=(by simpa using f);subst e;exact j.fpOk (AB _) (j.hok.fresh (AB _))
theorem Y6{a:Addr}{o:Obj}{c:List (List AO×V)}{g:TG}{tb:TS}{D:Ends}{σ:St}{H:Hp}(Pv:Nat->St->Hp->Prop)(j:Pv 0 σ H)(l:∀i σ H,i<=c.length->Pv i σ H->H a=some (.frz o (.dT c)))
 (n:∀i k v b σ H,c[i]?=some (k,v)->H b=some (.tup (k.map kV))->Pv i σ H->g (.ref b) σ H λσ2 d=>tb {D with nx:=Pv (i+1),ct:=Pv (i+1),bk:=D.nx} σ2 d) (hd:∀σ H,Pv c.length σ H->D.nx σ H) :
 ∃W:Nat->Nat->St->Hp->Prop,(∃m,W 0 m σ H)/\∀i m σ H,W i m σ H ->
  ((Og a o c).stop i H/\D.nx σ H)\/((Og a o c).go i H/\∃N:St->Hp->Prop,(∀σ' H',N σ' H'->∃f,f<m/\W (i+1) f σ' H')/\∀x H',(Og a o c).yld i H x H'->g x σ H' λσ2 d=>tb {D with nx:=N,ct:=N,bk:=D.nx} σ2 d):=by
 refine⟨λi m σ H=>m=c.length-i/\i<=c.length/\Pv i σ H,⟨c.length,by simp,Ci _,j⟩,?_⟩;rintro i m σ H ⟨rfl,r,p⟩;have q:=l i σ H r p;by_cases h:i<c.length;refine .inr ⟨⟨q,h⟩,Pv (i+1),λσ' H' s=>⟨c.length-(i+1),by omega,rfl,h,s⟩,λx H' y=>?_⟩;obtain⟨e,k,v,b,t,u,w⟩:=y;subst e u;exact n i k v b σ _ t w p;have e:i=c.length:=(by omega);subst e;exact .inl ⟨⟨q,AB _⟩,hd σ H p⟩
end
end L2
namespace PySem
section
variable {prog:Program} {w:World} {A:Around} {E:Value->Shared->Prop} {s:Shared}
theorem VL{a:Addr}{o:Obj}{xs:Array Value}{k:Nat}{Q:Option Value->Shared->Prop}
 (f:s.heap.get? a=some o) (i:o.cls=.type "list") (n:o.data=.seq xs k) (hd:o.dict=none) (p:A.handled=none)
 (h:∀h' tk,(∀b o,s.heap.get? b=some o->h'.get? b=some o)->Q none {s with heap:=h',toks:=tk}):wpAny (model prog w) A (getAttr? (.ref a) "keys") Q E s:=by
 obtain⟨c,dct,G,q⟩:=o;simp only at i n hd;subst i n hd;obtain⟨r,g,d,tk,t⟩:=s;have j:∀l,(⟨r,g,d,l,t⟩:Shared).TypeIs (.ref a) "list" :=λ_=>⟨_,f,rfl⟩;have v:=sub_AttributeError;have x:=F.slot_list_getattribute.lookup;have y:=F.slot_list_getattribute.bind (.ref a);have z:=am_list_getattr_none;have u:typeLookup (.type "list") "keys" = pure none:=by rw[typeLookup_type,builtinLookup_eq_fast];kernel_rfl
 unfold getAttr? getAttrBy? getAttrBy
 repeat (any_goals (first|assumption|exact j _|((with_reducible show wpAny _ _ (call (Value.builtin "list.__getattribute__") _ _) _ _ _);refine call_meets F.slot_list_getattribute (j _) am_entry_list_getattribute (F.args_list_getattribute_2 _ _) (meets_getattribute_miss_list a xs k q "keys" _ u (by decide) (by size_fits)) ⟨f,p,λh' l e m=>?_⟩)|wp_step))
 obtain⟨B,C,D⟩:=m.there;show wpAny _ _ (getattributeRaised _ _ _ _ _ _ _) _ _ _;unfold getattributeRaised
 repeat (any_goals (first|assumption|wp_step))
 exact h _ _ m.keeps
namespace F
theorem args_minD(a v:Value):argsOk "min" ⟨[a],[(Str.ofString "default",v)]⟩:=by unfold argsOk;kernel_rfl
theorem entry_upd_loop:entryFor table "dict.update.loop" = some Builtin.«dict.update.loop»:=entryFor_of_tree (by kernel_rfl)
theorem plain_upd_loop:plainId "dict.update.loop" = true:=by decide +kernel
end F
variable {R:Result->Shared->Prop} {I:Addr} {fp r:List Addr} {n:Nat} {P:Nat->Value->Prop} {St:Nat->Heap->Prop}
theorem PJ:(toString "min" ++ toString ".loop" : String) = "min.loop" :=by decide
theorem SD(W:Walks prog w A.in1 I fp r n P St)(d:Nat->Nat->Bool)(E:CmpOf prog w A.in1 .Lt P d)(S:Addr)(m:S∉fp)(t:List (Str×Value)) :
 ∀(k j:Nat)(s:Shared)(a:Value)(c:Nat),n=j+1+k->St (j+1) s.heap->P (argBest d j) a->s.heap.get? S=some {cls:=.type "list",data:=.seq #[a,a] c} ->
 (∀v h' tk,P (argBest d (n-1)) v->(∀b o,b∉r->b≠S->s.heap.get? b=some o->h'.get? b=some o)->R (.ok (.ret v)) {s with heap:=h',toks:=tk}) ->
 codeAny (model prog w) A (.builtin "min.loop" ⟨[.ref I,.none,.ref S],t⟩) R s
 |0,j,s,a,c,G,y,q,l,p=>by
   subst G;refine codeAny_builtin F.entry_min_loop ?_;rw[Around.under_plainId F.plain_min_loop _];show wpAny _ A.in1 (seqItems? (.ref S) >>= _) _ _ s;refine Ad (F9 l rfl ?_);show wpAny _ A.in1 (tryCatch (pyNext (.ref I)) _ >>= _) _ _ s;refine Ad (wpAny_tryCatch (W.done s _ _ y λh' tk g=>?_));show wpAny _ A.in1 (updateSeq S (λ_=>#[]) >>= _) _ _ _;refine Ad (wpAny_updateSeq (g S _ (λh=>m (W.sub _ h)) l) rfl (Ad (wpAny_letGo (Au (p a _ tk q λb o f i e=>?_)))));exact(Heap.get?_update_other _ _ (Ne.symm i)).trans (g b o f e)
 | k + 1,j,s,a,c,G,y,q,l,p=>by
   refine codeAny_builtin F.entry_min_loop ?_;rw[Around.under_plainId F.plain_min_loop _];show wpAny _ A.in1 (seqItems? (.ref S) >>= _) _ _ s;refine Ad (F9 l rfl ?_);show wpAny _ A.in1 (tryCatch (pyNext (.ref I)) _ >>= _) _ _ s;refine Ad (wpAny_tryCatch (W.item (j+1) s _ _ (by omega) y λv h' tk H K g=>?_));have z:=g S _ (λh=>m (W.sub _ h)) l;show wpAny _ A.in1 (tryCatch (holding [v,v] (richCompare .Lt v a >>= _)) _ >>= _) _ _ _;refine Ad (wpAny_tryCatch (Ff (Ad (E (j+1) (argBest d j) v a _ _ _ H q (Ad (Ff (FJ (Ad (wpAny_letGo (Au ?_))))))))))
   cases J:d (j+1) (argBest d j) with
   |true =>
     simp only[if_true];refine Ad (wpAny_updateSeq z rfl (Ad (wpAny_letGo ?_)));rw[PJ];refine Au ⟨plainId_quiet F.plain_min_loop _,SD W d E S m t k (j+1) _ v _ (by omega) (W.frame _ _ _ K λb L o e=>?_) (by simp only[argBest,J,if_true];exact H) (Heap.get?_update_self _ z rfl) λu x B C D=>?_⟩;exact(Heap.get?_update_other _ _ (λh:S=b=>m (by rw[h];exact L))).trans e;exact p u x B C λb o f i e=>D b o f i ((Heap.get?_update_other _ _ (Ne.symm i)).trans (g b o f e))
   |false =>
     simp only[Fe,if_false];refine Ad (wpAny_letGo ?_);rw[PJ]
     exact Au ⟨plainId_quiet F.plain_min_loop _,SD W d E S m t k (j+1) _ a c (by omega) K (by simp only[argBest,J,Fe,if_false];exact q) z λu x B C D =>
      p u x B C λb o f i e=>D b o f i (g b o f e)⟩
theorem Y7{x d:Value}{Q:Value->Shared->Prop}
 (h:wpAny (model prog w) A.in1 (pyIter x) (λl c=>∃I fp r n P St f,l=.ref I/\Walks prog w A.in1 I fp r n P St/\St 0 c.heap/\(∀b∈fp,b<c.heap.objs.size)/\CmpOf prog w A.in1 .Lt P f /\
  ∀v h' tk,(if n=0 then v=d else P (argBest f (n-1)) v)->(∀b o,b∉r->c.heap.get? b=some o->h'.get? b=some o)->Q v {c with heap:=h',toks:=tk}) E s) :
 wpAny (model prog w) A (call (.builtin "min") [x] [(Str.ofString "default",d)]) Q E s:=by
 refine wpAny_call (codeAny_call_builtin F.plain_min F.entry_min (wpAny_of_eq (a:=()) (by
  have j:=F.args_minD x d;simp only[checkBuiltinCall,F.kind_min];unfold argsOk at j
  cases O:Manifest.signature? "min" with
  |none=>rfl
  |some T=>rw[O] at j;exact j) ?_))
 show wpAny _ A.in1 (Builtin.Builtins.bindParams "min" ["key", "default"] 0 ⟨[],[(Str.ofString "default",d)]⟩ >>= _) _ _ s
 refine Ad (wpAny_of_eq (show Builtin.Builtins.bindParams "min" ["key", "default"] 0 ⟨[],[(Str.ofString "default",d)]⟩=pure [none,some d] from rfl) ?_)
 refine Ad (Au ?_);refine Ad (FK h (λl c y=>?_) λ_ _ e=>e);obtain⟨I,fp,r,n,P,St,f,rfl,W,G,H,R,m⟩:=y;refine Ad (wpAny_newObj_type ?_);have k:c.heap.objs.size∉fp:=λz=>F7 _ (H _ z);have J:c.heap.objs.size∉r:=λh=>k (W.sub _ h);rw[PJ];have p:(c.heap.push {cls:=.type "list",data:=.seq #[]}).get? c.heap.objs.size=some {cls:=.type "list",data:=.seq #[]}:=B4 _ rfl;have u:=W.frame _ _ (c.heap.push {cls:=.type "list",data:=.seq #[]}) G λb _ o e=>A8 _ e;refine Au ⟨plainId_quiet F.plain_min_loop _,codeAny_builtin F.entry_min_loop ?_⟩;rw[Around.under_plainId F.plain_min_loop _];show wpAny _ A.in1 (seqItems? (.ref c.heap.objs.size) >>= _) _ _ _;refine Ad (F9 p rfl ?_);show wpAny _ A.in1 (tryCatch (pyNext (.ref I)) _ >>= _) _ _ _
 cases n with
 |zero =>
   refine Ad (wpAny_tryCatch (W.done _ _ _ u λh' tk g=>?_));exact Ad (G4 (Au (m d _ tk (by rw[Aj rfl]) λb o i e=>g b o i (A8 _ e))))
 |succ n =>
   refine Ad (wpAny_tryCatch (W.item 0 _ _ _ (Nat.succ_pos _) u λv h' tk B S g=>?_));have t:=g _ _ J p;show wpAny _ A.in1 (updateSeq c.heap.objs.size (λ_=>#[v,v]) >>= _) _ _ _;refine Ad (wpAny_updateSeq t rfl ?_);rw[PJ];refine Au ⟨plainId_quiet F.plain_min_loop _,SD W f R _ k _ n 0 _ v _ (by omega) (W.frame _ _ _ S λb K o e=>?_) B (Heap.get?_update_self _ t rfl) λC D L M N=>?_⟩;exact(Heap.get?_update_other _ _ (λh:c.heap.objs.size=b=>k (by rw[h];exact K))).trans e;refine m C D L (by rw[Ak (Nat.succ_ne_zero n)];exact M) λb o i e=>?_;have q:b≠c.heap.objs.size:=CS (A1 e);exact N b o i q ((Heap.get?_update_other _ _ (Ne.symm q)).trans (g b o i (A8 _ e)))
end
end PySem
namespace L2
open PySem PySem.Spec PyProof.Rows
section
variable {X:Cx}
def PK:List Int->V
 |[]=>.non
 |n::ns=>.int (ns.foldl min n)
theorem VM(f:Nat->Int):∀n,f (argBest (λi j=>decide (f i<f j)) n)=((List.range n).map λi=>f (i+1)).foldl min (f 0)
 |0=>rfl
 |n+1=>by
   have a:=VM f n;rw[List.range_succ,Bn,Ki];show f (if _ then _ else _)=min _ (f (n+1));rw[<-a]
   by_cases h:f (n+1)<f (argBest (λi j=>decide (f i<f j)) n);rw[Aj (A4 h)];omega;rw[Ak (by simpa using h)];omega
theorem Y8(n:Int)(ns:List Int):((List.range ns.length).map λi=>(n::ns).getD (i+1) 0)=ns:=by
 apply List.ext_getElem?;intro i;rw[Bh];by_cases h:i<ns.length;rw[List.getElem?_range h,Option.map_some,BW,List.getElem?_cons_succ,AD h];rfl;rw[Gk (by simpa using h),Gk (by omega)];rfl
def Oi (ta:TA):TE:=λσ H Q=>ta σ H λvs Y=>∃p ns,vs=[.ref p]/\Y p=some (.lst (ns.map V.int))/\Q (PK ns) Y
theorem Jw{e:Expr}{r:TA}{p L B J:Pos}{j:Nat}(C:X.calm=true)(D:Gl X "min")(E:X.mg "min" = none)(F:PA X [e] r)
 (f:backTo L (starEach [e] X.env)=(false,eval e X.env)::backTo L (starEach [] X.env):=by rfl) (R:(backTo L (starEach [e] X.env)).any (·.1)=false:=by rfl) :
 PE X (.Call (.Name "min" p) [e] [⟨some "default",.Constant .none j B,J⟩] L) (Oi r):=by
 intro T s σ H Q I h;refine wpAny_Call_Name_kw (IR I D E (u:=.builtin "min") (by decide +kernel) (callWith_kw (AV (F L T s σ H _ I h) λW c⟨Z,Y,k,G,K⟩=>kws_cons (Constant_none (kws_nil ?_))) f R))
 obtain⟨l,a,rfl,M,q⟩:=K;obtain⟨u,rfl,N⟩:=Fj G;cases N;obtain⟨z,g,n,w,e⟩:=(show Az X.prog X.w Y c.heap l (.lst (a.map V.int)) from k.hok l _ M);have x:=XQ w;have y:c.heap.IsList l g.toArray:=⟨_,e,rfl,n,rfl⟩
 have U:g.length=a.length:=by have:=w.length;rw[Al] at this;exact this.symm
 refine Y7 (wpAny_pyIter_list y ⟨_,[c.heap.objs.size,l],[c.heap.objs.size],_,λi v=>g.toArray[i]?=some v,λi h=>h.IsListIter c.heap.objs.size l i/\h.IsList l g.toArray,λi j=>decide (a.getD i 0<a.getD j 0),rfl,Walks.list (A:=X.A.in1) (k.ok.hd C) c.heap.objs.size l (CS (A1 e)) g.toArray,
  ⟨⟨_,B4 _ rfl,rfl,rfl⟩,y.push _⟩,λb f=>?_,CmpOf.ints_lt (λi=>a.getD i 0) (λi v d=>x.int_at i v (by simpa using d)),λv O tk d P=>?_⟩)
 show b<(c.heap.push _).objs.size;rw[Heap.size_push];rcases Ce.mp f with rfl|f;exact QL _;rw[AY.mp f];exact Nat.lt_succ_of_lt (A1 e);have S:∀b o,c.heap.get? b=some o->O.get? b=some o:=λb o z=>P b o (by simpa using CS (A1 z)) (A8 _ z);refine⟨PK a,Y,k.kept S,?_,q⟩;rw[Cp,U] at d
 cases a with
 |nil=>exact d
 |cons m a =>
   rw[Ej,Ak (Nat.succ_ne_zero _),Nat.add_sub_cancel] at d;obtain⟨t,rfl⟩:=x.int_at (argBest (λi j=>decide ((m::a).getD i 0<(m::a).getD j 0)) a.length) v (by rw[<-List.getElem?_toArray];exact d);refine⟨t,?_⟩;rw[VM λi=>(m::a).getD i 0,Y8];rfl
def KE (acc:List (List AO×V)) (ps:List (List AO×V)):List (List AO×V):=ps.foldl (λa kv=>AX a kv.1 kv.2) acc
def EZ (H:Hp) (xs:List V) (ps:List (List AO×V)):Prop:=Paired (λx(p:List AO×V)=>∃t b,x=.ref t/\H t=some (.tup [.ref b,p.2])/\H b=some (.tup (p.1.map kV))) xs ps
theorem Y9{pins:List (Addr×Obj)}{σ:St}{A:Around}{R:Result->Shared->Prop}{H:Hp}{p l f:Addr}(hu:A.units+1<cLine)(hh:A.in1.handled=none)(k:H p=none)(F:f≠p) :
 ∀(xs:List V)(ps:List (List AO×V))(d:List V)(acc:List (List AO×V))(s:Shared),EZ H xs ps->H l=some (.lst (d++xs))->acc.length+xs.length<=sizeLine->Inv X pins σ (upd H p (.dT acc)) s ->
 s.heap.IsListIter f l d.length->Eb X pins H f->(∀Z,Inv X pins σ (upd H p (.dT (KE acc ps))) Z->R (.ok (.ret .none)) Z)->∀n:Int,
 codeAny (model X.prog X.w) A (.builtin "dict.update.loop" ⟨[.ref p,.ref f,rawInt n,.none],[]⟩) R s:=by
 intro xs ps d acc s hx
 induction hx generalizing d acc s with
 |nil =>
   intro g K I u m v n;have G:upd H p (.dT acc) l=some (.lst (d++[])):=(AC (AJ g k)).trans g;obtain⟨w,y,aa,B,C,D⟩:=m;have J:upd H p (.dT acc) f=none:=(AC F).trans w;obtain⟨z,U,c,E,e⟩:=(show Az X.prog X.w _ s.heap l (.lst (d++[])) from I.hok l _ G);have an:=E.length;rw[FA] at an;refine codeAny_builtin PySem.F.entry_upd_loop ?_;rw[Around.under_plainId PySem.F.plain_upd_loop _];show wpAny _ A.in1 (pyNext (.ref f) >>= _) _ _ s;refine Ad (wpAny_pyNext_list_end hh u ⟨_,e,rfl,c,rfl⟩ (by simp;omega) λj eb=>?_);exact Ad (Au (Au (v _ (I.turned (t':=s.toks) (λb o h e=>eb b o h e) J y B C D))))
 |@cons x q xs ps hq tl ih =>
   intro g K I u m v n;obtain⟨t,b,rfl,L,h⟩:=hq;have G:upd H p (.dT acc) l=some (.lst (d++.ref t::xs)):=(AC (AJ g k)).trans g;have af:upd H p (.dT acc) t=some (.tup [.ref b,q.2]):=(AC (AJ L k)).trans L;have W:upd H p (.dT acc) b=some (.tup (q.1.map kV)):=(AC (AJ h k)).trans h;obtain⟨w,y,aa,B,C,D⟩:=id m;have J:upd H p (.dT acc) f=none:=(AC F).trans w;obtain⟨z,U,c,E,e⟩:=(show Az X.prog X.w _ s.heap l (.lst (d++.ref t::xs)) from I.hok l _ G);obtain⟨ao,ag,ru⟩:=E.get (i:=d.length) (x:=.ref t) (by simp);cases ru;refine codeAny_builtin PySem.F.entry_upd_loop ?_;rw[Around.under_plainId PySem.F.plain_upd_loop _];show wpAny _ A.in1 (pyNext (.ref f) >>= _) _ _ s;refine Ad (wpAny_pyNext_list_item u (⟨_,e,rfl,c,rfl⟩:s.heap.IsList l U.toArray) (x:=.ref t) (by simpa using ag) λj ah sb=>?_);have r:Inv X pins σ (upd H p (.dT acc)) {s with heap:=j}:=I.turned (t':=s.toks) (λb o h e=>(sb.2 b h).trans e) J y B C D;obtain⟨_,ts,rt,ot,M,ct,nt,dt⟩:=(show Az X.prog X.w _ j t (.tup [.ref b,q.2]) from r.hok t _ af);obtain⟨u1,N,rfl,r1,r2⟩:=IX rt;cases(show u1=Value.ref b from r1);obtain⟨zd,hm,es,Y,dd⟩:=Hi r.hok (Aa (H:=H) (a:=p) (o:=.dT acc))
   have ai:es.length<=sizeLine:=by rw[<-Paired.length Y];exact zd
   have aq:(AX acc q.1 q.2).length<=acc.length+1:=NU acc q.1 q.2;rw[Ej] at K;refine Ad (Ff (Ad (wpAny_tryCatch ?_)));show wpAny _ A.in1 (Builtin.Dict.pairItems (.ref t)) _ _ _;unfold Builtin.Dict.pairItems;refine Ad (ML (s:={s with heap:=j}) (T:= "tuple") ⟨ot,M,ct⟩ ?_);rw[Aj (by decide)];refine Ad (F9 (s:={s with heap:=j}) M dt (Au ?_));show wpAny _ A.in1 (holding [Value.ref b,N] (dictSet p (.ref b) N)) _ _ _;refine Ff (wpAny_dictSet_heap (hsz:=ai) (knd:=tupleKind (EK X.prog X.w)) (tupleKind_room_in1 hu) (Lp r.hok W) dd λh2 aj O=>?_);obtain⟨P,ak,al,Q,ab,ae,g4,_,g5⟩:=aj
   have I2:Inv X pins σ (upd H p (.dT (AX acc q.1 q.2))) {s with heap:=h2,toks:=s.toks+(tupleKind (EK X.prog X.w)).draws q.1}:=by
    have:=NV (t':=s.toks+(tupleKind (EK X.prog X.w)).draws q.1) (ob:=.dT (AX acc q.1 q.2)) r (by rw[Aa];exact True.intro) O ⟨P,Q⟩ ⟨by omega,hm,_,(Y.put q.1 W r2).keeps λc ys S=>?_,P,ak,al,Q,ab,ae,g4,g5⟩;rw[Uo] at this;exact this;rw[AC (MP S Aa (λz=>nomatch z))];exact S
   refine Au ⟨plainId_quiet PySem.F.plain_upd_loop _,?_⟩;have:=ih (d++[.ref t]) (AX acc q.1 q.2) _ (by rw[FX];exact g) (by omega) I2 (by rw[AW];exact ah.at λo e=>(O.2 f F).trans e) m v (n+1);exact this
def Jx:List V->Hp->VK->Prop:=λvs H Q=>∃l xs ps,vs=[.ref l]/\H l=some (.lst xs)/\xs.length<sizeLine/\EZ H xs ps/\∀p,H p=none->Q (.ref p) (upd H p (.dT (KE [] ps)))
theorem Za(j:X.calm=true)(y:X.A.units+2<cLine):A5 X (.type "dict") Jx:=by
 intro pins s σ H K L Q I r h;obtain⟨l,k,B,rfl,m,M,C,q⟩:=h;obtain⟨u,rfl,D⟩:=Fj r;cases D;have n:H s.heap.objs.size=none:=I.hok.fresh (AB _);refine callType_codes (Q₁:=λw p=>w=.ref s.heap.objs.size/\p={s with heap:=s.heap.push {cls:=.type "dict",data:=.dict #[]}}) PySem.F.kt_called_dict (PySem.F.kt_typeCall_dict_1 _) PySem.F.entry_dict_init (kt_code_dict_new _ ⟨rfl,rfl⟩) ?_;rintro w p ⟨rfl,rfl⟩;have E:=I.laid (a:=s.heap.objs.size) (o:=.dT []) (t':=s.toks) (h':=s.heap.push {cls:=.type "dict",data:=.dict #[]}) (λ_ _ q=>A8 _ q) (AB _) (UY s.heap I.big)
 obtain⟨z,O,c,N,e⟩:=(show Az X.prog X.w _ s.heap l (.lst k) from I.hok l _ m)
 have f:=A8 {cls:=.type "dict",data:=.dict #[]} e;have t:Shared.TypeIs {s with heap:=s.heap.push {cls:=.type "dict",data:=.dict #[]}} (.ref s.heap.objs.size) "dict" :=⟨_,B4 _ rfl,rfl⟩;refine⟨t,PySem.F.args_dict_init_2 _ _,?_⟩;unfold Builtin.«dict.__init__»;refine Ad ?_;unfold Builtin.Dict.selfAndRest;refine Ad (wpAny_notOrdered_dict t ?_);show wpAny _ _ (pure (s.heap.objs.size,[Value.ref l])) _ _ _;refine Au ?_;show wpAny _ _ (Builtin.Dict.updateFrom "dict.__init__" s.heap.objs.size (.ref l) [] .none) _ _ _;unfold Builtin.Dict.updateFrom;refine Ad (ML (T:= "list") ⟨_,f,rfl⟩ ?_)
 rw[Aj (by decide)];refine Ad (VL f rfl rfl rfl (I.ok.hd j) λd tk v=>?_);rw[Aj (show(none:Option Value).isNone=true from rfl)];have g:=E.kept (t':=tk) v;refine Ad (G4 (Ad (wpAny_pyIter_list (s:={s with heap:=d,toks:=tk}) ⟨_,v _ _ f,rfl,c,rfl⟩ ?_)))
 have F:=g.kept (t':=tk) (h':=d.push {cls:=.type "list_iterator",data:=.fields #[.ref l,.int 0 0]}) λb o e=>A8 _ e;obtain⟨i,G⟩:=g.fpOk (AB d.objs.size) (g.hok.fresh (AB _));have x:d.objs.size≠s.heap.objs.size:=λz=>by rw[z,Aa] at i;cases i
 refine Au ⟨plainId_quiet PySem.F.plain_upd_loop _,Y9 (A:=X.A.in1) (X:=X) (pins:=pins) (σ:=σ) (l:=l) (H:=H) y (I.ok.hd j) n x k B [] [] _ C m (by rw[Gm];omega) F ⟨_,B4 _ rfl,rfl,rfl⟩ ⟨(AC x).symm.trans i,G⟩ (λZ J=>⟨rfl,.ref _,_,J,rfl,q _ n⟩) 0⟩
end
open Ord
theorem Zb{bs:List Bool}:(List.range bs.length).any (λi=>bs.getD i false)=bs.any id:=by
 rw[Bool.eq_iff_iff,Go,Go];constructor;rintro⟨i,a,h⟩;have c:=List.mem_range.mp a;rw[BW,AD c] at h;exact⟨_,EC c,h⟩;rintro⟨b,d,h⟩;obtain⟨i,a,e⟩:=OZ.mp d;refine⟨i,List.mem_range.mpr a,?_⟩;rw[BW,AD a,e];exact h
def SE (K:Ah):List V->Hp->VK->Prop:=λvs H Q=>∃(a:Addr)(bs:List Bool),vs=[.ref a]/\Ag K H a (bs.map V.bl)/\Q (.bl (bs.any id)) H
theorem VN{X:Cx}(g:X.calm=true):A5 X (.builtin "any") (SE X.K):=by
 intro B s σ H t w Q I r h;obtain⟨a,bs,rfl,j,q⟩:=h;obtain⟨u,rfl,k⟩:=Fj r;obtain rfl:u=Value.ref a:=k;obtain⟨c,d,p,x⟩:=I.list j;have f:=d.length;rw[Al] at f;have n:a<s.heap.objs.size:=by obtain⟨_,e,_⟩:=p.isList;exact A1 e
 refine call_any_walk (wpAny_pyIter_list p.isList ?_);refine⟨s.heap.objs.size,[s.heap.objs.size,a],[s.heap.objs.size],c.toArray.size,(λi v=>c.toArray[i]?=some v),(λi h=>h.IsListIter s.heap.objs.size a i/\h.IsList a c.toArray),(λi=>bs.getD i false),rfl,Walks.list (A:=X.A.in1) (I.ok.hd g) s.heap.objs.size a (CS n) c.toArray,⟨⟨_,B4 _ rfl,rfl,rfl⟩,p.isList.push _⟩,U0 d,λy tk l=>?_⟩;refine⟨.bl (bs.any id),H,I.kept λb o e=>l b o (λz=>?_) (A8 _ e),?_,q⟩;have m:b=s.heap.objs.size:=(by simpa using z);exact absurd (A1 e) (by rw[m];exact F7 _);have e:c.toArray.size=bs.length:=(by rw[Cp,f]);show Value.bool _=Value.bool _;rw[e,Zb]
section
variable {prog:Program} {w:World} {A:Around} {E:Value->Shared->Prop} {s:Shared}
end
section
variable {X:Cx}
end
end L2
namespace TreeM
theorem SF{β:Type}{P:List β->Prop}(nil:P [])(snoc:∀l x,P l->P (l++[x]))(l:List β):P l:=by
 have:∀l:List β,P l.reverse:=λl=>by
  induction l with
  |nil=>exact nil
  |cons x l a=>rw[List.reverse_cons];exact snoc _ _ a
 rw[<-List.reverse_reverse l];exact this _
variable {α:Type} [DecidableEq α]
abbrev Ws (α:Type):=List (Nat×List α)
def nxt (p:List α) (w:List α):Option α:=if p <+: w then w[p.length]? else none
def keysAt (ws:Ws α) (p:List α):List (α×Nat):=ws.foldl (λks kw=>match nxt p kw.2 with
 |some m=>if m∈ks.map (·.1) then ks else ks++[(m,kw.1)]
 |none=>ks) []
theorem KG(ws:Ws α)(k:Nat)(w p:List α):keysAt (ws++[(k,w)]) p=match nxt p w with
 |some m=>if m∈(keysAt ws p).map (·.1) then keysAt ws p else keysAt ws p++[(m,k)]
 |none=>keysAt ws p:=by
 unfold keysAt;rw[Ki];rfl
theorem Jy(p:List α):nxt p p=none:=by
 unfold nxt;rw[Aj (List.prefix_refl p)];exact Gk (AB _)
theorem Zc(p:List α)(m:α):nxt p (p++[m])=some m:=by
 unfold nxt;rw[Aj (Io p [m]),Fc (AB _),Nat.sub_self];rfl
variable {p:List α}{m:α}
theorem Zd{q:List α}(h:p≠q):nxt p (q++[m])=nxt p q:=by
 unfold nxt;by_cases a:p <+: q;rw[Aj a,Aj (a.trans (Io q [m]))]
 have l:p.length<q.length:=by
  rcases Nat.lt_or_ge p.length q.length with x|x;exact x;exact absurd (a.eq_of_length_le x) h
 exact EU l;rw[Ak a];by_cases b:p <+: q++[m];rw[Aj b];rcases List.prefix_concat_iff.mp b with e|e;rw[e];exact Gk (AB _);exact absurd e a;rw[Ak b]
theorem Ze(ws:Ws α)(k:Nat)(p:List α):keysAt (ws++[(k,[])]) p=keysAt ws p:=by
 rw[KG]
 have:nxt p ([]:List α)=none:=by
  unfold nxt;by_cases a:p <+: [];rw[Aj a];rfl;rw[Ak a]
 rw[this]
variable {ws:Ws α}
theorem SG{k:Nat}{q:List α}(h:p≠q):keysAt (ws++[(k,q++[m])]) p=keysAt (ws++[(k,q)]) p:=by
 rw[KG,KG,Zd h]
theorem VO(ws:Ws α)(k:Nat)(q:List α)(m:α):keysAt (ws++[(k,q++[m])]) q =
 if m∈(keysAt (ws++[(k,q)]) q).map (·.1) then keysAt (ws++[(k,q)]) q else keysAt (ws++[(k,q)]) q++[(m,k)]:=by
 rw[KG,KG,Zc,Jy]
theorem FP{w:List α}:nxt p w=some m↔p++[m] <+: w:=by
 unfold nxt;by_cases a:p <+: w;rw[Aj a];obtain⟨t,rfl⟩:=a;rw[Fc (AB _),Nat.sub_self]
 cases t with
 |nil =>
   refine⟨λe=>(nomatch e),λe=>?_⟩;have:=e.length_le;rw[FA,AW] at this;exact absurd this (by show ¬p.length+1<=p.length;omega)
 |cons x t =>
   refine⟨λe=>?_,λe=>?_⟩;cases e;exact⟨t,by simp⟩;obtain⟨u,e⟩:=e;rw[FX] at e;have:=List.append_cancel_left e;simp at this;rw[this.1];rfl
 rw[Ak a];exact⟨λe=>(nomatch e),λe=>absurd ((Io p [m]).trans e) a⟩
theorem keysAt_mem:m∈(keysAt ws p).map (·.1)↔∃a∈ws,p++[m] <+: a.2:=by
 induction ws using SF with
 |nil=>exact⟨λh=>(nomatch h),λ⟨_,h,_⟩=>(nomatch h)⟩
 |snoc ws a c =>
   obtain⟨k,w⟩:=a;rw[KG]
   have both:(∃a∈ws++[(k,w)],p++[m] <+: a.2)↔(∃a∈ws,p++[m] <+: a.2)\/p++[m] <+: w:=by
    constructor;rintro⟨x,b,e⟩;rcases BB.mp b with y|y;exact .inl ⟨x,y,e⟩;rw[AY.mp y] at e;exact .inr e;rintro(⟨x,b,e⟩|e);exact⟨x,D9 _ b,e⟩;exact⟨_,De _ (AY.mpr rfl),e⟩
   rw[both,<-c,<-FP]
   cases b:nxt p w with
   |none=>exact⟨.inl,λz=>z.elim id λe=>(nomatch e)⟩
   |some x =>
     dsimp only;by_cases d:x∈(keysAt ws p).map (·.1);rw[Aj d];exact⟨.inl,λz=>z.elim id λe=>by cases e;exact d⟩;rw[Ak d,Bn,BB];refine or_congr Iff.rfl ?_;simp[eq_comm]
theorem VP{k:Nat}(l:(ws.map (·.1)).Pairwise (· < ·))(h:(m,k)∈keysAt ws p):(∃w,(k,w)∈ws/\p++[m] <+: w)/\∀j w,(j,w)∈ws->p++[m] <+: w->k<=j:=by
 induction ws using SF with
 |nil=>cases h
 |snoc ws o q =>
   obtain⟨n,v⟩:=o;rw[Bn,List.pairwise_append] at l;obtain⟨r,-,s⟩:=l;have z:∀j w,(j,w)∈ws->j<n:=λj w e=>s j (Br.mpr ⟨_,e,rfl⟩) n (AY.mpr rfl);rw[KG] at h
   have i:(m,k)∈keysAt ws p->(∃w,(k,w)∈ws++[(n,v)]/\p++[m] <+: w)/\∀j w,(j,w)∈ws++[(n,v)]->p++[m] <+: w->k<=j:=λt=>by
    obtain⟨⟨w,a,b⟩,c⟩:=q r t;refine⟨⟨w,D9 _ a,b⟩,λj u e f=>?_⟩;rcases BB.mp e with y|y;exact c j u y f;cases AY.mp y;exact Dh (z _ _ a)
   cases g:nxt p v with
   |none=>rw[g] at h;exact i h
   |some x =>
     rw[g] at h;dsimp only at h;by_cases d:x∈(keysAt ws p).map (·.1);rw[Aj d] at h;exact i h;rw[Ak d] at h;rcases BB.mp h with y|y;exact i y;cases AY.mp y;refine⟨⟨v,De _ (AY.mpr rfl),FP.mp g⟩,λj u e f=>?_⟩;rcases BB.mp e with y|y;exact absurd (keysAt_mem.mpr ⟨_,y,f⟩) d;cases AY.mp y;exact AB _
section
variable (bet:α->α->Bool)
def AM:List α->List α->Bool
 |x::s,m::t=>if x=m then AM s t else bet x m
 |_,_=>false
def gat (ws:Ws α):List α->List α->List Nat
 |_,[]=>[]
 |a,m::t=>((keysAt ws a).filter λxk=>bet xk.1 m).map (·.2)++gat ws (a++[m]) t
end
variable {bet:α->α->Bool}
theorem LR{a b:List α}{x:α}{t:List α}(h:a++[x] <+: b)(c:x≠m):AM bet b (a++m::t)=bet x m:=by
 obtain⟨u,rfl⟩:=h
 induction a with
 |nil=>show(if x=m then _ else bet x m)=_;rw[Ak c]
 |cons y a d=>show(if y=y then _ else _)=_;rw[Aj rfl];exact d
theorem VQ{ws:Ws α}(g:(ws.map (·.1)).Pairwise (· < ·))(irr:∀m,bet m m=false):∀(b a:List α)(k:Nat),k∈gat bet ws a b->∃w,(k,w)∈ws/\AM bet w (a++b)=true
 |[],_,_,h=>nomatch h
 |m::t,a,k,h=>by
   rcases BB.mp h with y|y;obtain⟨⟨x,j⟩,z,rfl⟩:=Br.mp y;obtain⟨i,d⟩:=MH.mp z;obtain⟨⟨w,f,c⟩,-⟩:=VP g i;refine⟨w,f,?_⟩;rw[LR c (λe=>?_)];exact d;rw[e,irr] at d;cases d;obtain⟨w,f,c⟩:=VQ g irr t (a++[m]) k y;refine⟨w,f,?_⟩;rw[FX] at c;exact c
theorem VR:∀{b w:List α},AM bet w b=true->∃a x m t,b=a++m::t/\a++[x] <+: w/\x≠m/\bet x m=true
 |m::t,x::s,h=>by
   by_cases e:x=m;subst e;have h':AM bet s t=true:=(by simpa [AM] using h);obtain⟨a,y,n,u,rfl,c,d,f⟩:=VR h';exact⟨x::a,y,n,u,rfl,List.cons_prefix_cons.mpr ⟨rfl,c⟩,d,f⟩;have h':bet x m=true:=(by simpa [AM,e] using h);exact⟨[],x,m,t,rfl,List.cons_prefix_cons.mpr ⟨rfl,List.nil_prefix⟩,e,h'⟩
 |[],[],h=>nomatch h
 |[],_::_,h=>nomatch h
 |_::_,[],h=>nomatch h
theorem VS{ws:Ws α}:∀{a b c:List α}{m x:α}{t:List α}{k:Nat},(x,k)∈keysAt ws (c++a)->bet x m=true->b=a++m::t->k∈gat bet ws c b
 |[],b,c,m,x,t,k,d,e,f=>by
   subst f;rw[FA] at d;exact D9 _ (Br.mpr ⟨_,MH.mpr ⟨d,e⟩,rfl⟩)
 |y::a,b,c,m,x,t,k,d,e,f=>by
   subst f;refine De _ (VS (a:=a) (m:=m) (x:=x) (t:=t) ?_ e rfl);rw[FX];exact d
theorem Zf(i:(ws.map (·.1)).Pairwise (· < ·)){b w:List α}{j:Nat}(h:(j,w)∈ws)(l:AM bet w b=true):∃k∈gat bet ws [] b,k<=j:=by
 obtain⟨a,x,m,t,e,d,-,n⟩:=VR l;obtain⟨⟨y,k⟩,f,g⟩:=Br.mp (keysAt_mem.mpr ⟨_,h,d⟩);dsimp only at g;subst g;exact⟨k,VS (a:=a) (c:=[]) f n e,(VP i f).2 j w h d⟩
end TreeM
namespace L2
open PySem PySem.Spec PyProof.Rows Ord TreeM
variable {A:Around}
theorem LS{k:Nat}(a:BX k A):A.units+2<cLine:=Nat.lt_of_le_of_lt (Nat.add_le_add_left (by decide:2<=64) _) a.units
abbrev F3 (m:Ap):List AO:=[.inl m.1,.inr m.2.1,.inl m.2.2]
theorem Zg{a b:Ap}(h:F3 a=F3 b):a=b:=by
 obtain⟨c,d,e⟩:=a;obtain⟨f,g,i⟩:=b;simp only[F3,List.cons.injEq,Sum.inl.injEq,Sum.inr.injEq,and_true] at h;rw[h.1,h.2.1,h.2.2]
def DQ (ws:Ws Ap) (c:List Ap->Ap->Addr) (p:List Ap):List (List AO×V):=(keysAt ws p).map λmk=>(F3 mk.1,V.ref (c p mk.1))
theorem VT{c:Ap->Addr}{m:Ap}:∀{ks:List (Ap×Nat)},AL (ks.map λmk=>(F3 mk.1,V.ref (c mk.1))) (F3 m)=if m∈ks.map (·.1) then some (.ref (c m)) else none
 |[]=>rfl
 | (x,k) :: ks=>by
   rw[D7];by_cases h:x=m;subst h;rw[GW rfl,Aj (by simp)];rw[GX (λz=>h (Zg z)),VT]
   have:(m∈List.map (·.1) ((x,k)::ks))↔m∈ks.map (·.1):=by
    rw[D7,Ce];exact⟨λz=>z.elim (λe=>absurd e.symm h) id,.inr⟩
   by_cases a:m∈ks.map (·.1);rw[Aj a,Aj (this.mpr a)];rw[Ak a,Ak (λz=>a (this.mp z))]
variable {ws:Ws Ap}{c:List Ap->Ap->Addr}{p:List Ap}{m:Ap}
theorem Oj:AL (DQ ws c p) (F3 m)=if m∈(keysAt ws p).map (·.1) then some (.ref (c p m)) else none:=VT (c:=c p)
def Ef (ws:Ws Ap) (p:List Ap):Prop:=p=[]\/∃kw∈ws,p <+: kw.2
theorem VU(h:¬Ef ws p):keysAt ws p=[]:=by
 cases e:keysAt ws p with
 |nil=>rfl
 |cons x l =>
   exfalso;obtain⟨a,b,c⟩:=keysAt_mem.mp (show x.1∈(keysAt ws p).map (·.1) by rw[e];simp);exact h (.inr ⟨a,b,(Io p _).trans c⟩)
theorem Fq:Ef ws (p++[m])↔m∈(keysAt ws p).map (·.1):=by
 rw[keysAt_mem];exact⟨λh=>h.elim (λe=>absurd e (by simp)) id,.inr⟩
structure Bb (φ:Hp->Addr->List (List AO×V)->Prop) (H:Hp) (ws:Ws Ap) (d:List Ap->Addr) (c:List Ap->Ap->Addr):Prop where
 dct:∀p,Ef ws p->φ H (d p) (DQ ws c p)
 tup:∀p m k,(m,k)∈keysAt ws p->H (c p m)=some (.tup [.int (k:Int),.ref (d (p++[m]))])
 inj:∀p q,Ef ws p->Ef ws q->d p=d q->p=q
abbrev dW:Hp->Addr->List (List AO×V)->Prop:=λH a kvs=>H a=some (.dT kvs)
abbrev dF:Hp->Addr->List (List AO×V)->Prop:=λH a kvs=>∃o,H a=some (.frz o (.dT kvs))
variable {H H':Hp}{d:List Ap->Addr}
theorem Bb.same(e:Ac H H')(h:Bb dF H ws d c):Bb dF H' ws d c:=
 ⟨λp a=>let ⟨o,x⟩:=h.dct p a;⟨o,e _ _ x⟩,λp m k b=>e _ _ (h.tup p m k b),h.inj⟩
theorem Bb.sameW(e:Ac H H')(h:Bb dW H ws d c):Bb dW H' ws d c:=
 ⟨λp a=>e _ _ (h.dct p a),λp m k b=>e _ _ (h.tup p m k b),h.inj⟩
variable {n:Nat}{g:List Ap}
theorem PL(d:m∈(keysAt (ws++[(n,g)]) g).map (·.1)):Ef (ws++[(n,g++[m])]) p↔Ef (ws++[(n,g)]) p:=by
 constructor;rintro(h|⟨b,c,a⟩);exact .inl h;rcases BB.mp c with y|y;exact .inr ⟨b,D9 _ y,a⟩;rw[AY.mp y] at a;rcases List.prefix_concat_iff.mp a with e|e;rw[e];exact Fq.mpr d;exact .inr ⟨_,De _ (AY.mpr rfl),e⟩;rintro(h|⟨b,c,a⟩);exact .inl h;rcases BB.mp c with y|y;exact .inr ⟨b,D9 _ y,a⟩;rw[AY.mp y] at a;exact .inr ⟨_,De _ (AY.mpr rfl),a.trans (Io g [m])⟩
theorem Bb.stay{φ:Hp->Addr->List (List AO×V)->Prop}(h:Bb φ H (ws++[(n,g)]) d c)(a:m∈(keysAt (ws++[(n,g)]) g).map (·.1)):Bb φ H (ws++[(n,g++[m])]) d c:=by
 have f:∀p,keysAt (ws++[(n,g++[m])]) p=keysAt (ws++[(n,g)]) p:=λp=>by
  by_cases e:p=g;subst e;rw[VO,Aj a];exact SG e
 refine⟨λp b=>?_,λp x k i=>h.tup p x k (by rw[<-f];exact i),λp q b j=>h.inj p q ((PL a).mp b) ((PL a).mp j)⟩;have:=h.dct p ((PL a).mp b);unfold DQ at this ⊢;rw[f];exact this
variable {v:V}
theorem Zh{a:List (List AO×V)}{k:List AO}(h:AL a k=none):AX a k v=a++[(k,v)]:=by
 unfold AX;rw[Ak (by rw[NS,h];simp)]
variable {T:Addr}
theorem Bb.grow{u:Hp}{e:Addr}(h:Bb dW H (ws++[(n,g)]) d c)(j:m∉(keysAt (ws++[(n,g)]) g).map (·.1))
 (G:H e=none) (I:∀p,Ef (ws++[(n,g)]) p->u (d p)=none) (U:u e=none) (s:Ac H H') (J:H' e=some (.dT [])) (C:H' T=some (.tup [.int (n:Int),.ref e])) :
 ∃d' K,Bb dW (upd H' (d g) (.dT (AX (DQ (ws++[(n,g)]) c g) (F3 m) (.ref T)))) (ws++[(n,g++[m])]) d' K/\d' (g++[m])=e/\(∀p,Ef (ws++[(n,g++[m])]) p->u (d' p)=none)/\d' []=d []:=by
 have r:Ef (ws++[(n,g)]) g:=.inr ⟨_,De _ (AY.mpr rfl),List.prefix_refl g⟩;have L:AL (DQ (ws++[(n,g)]) c g) (F3 m)=none:=(by rw[Oj,Ak j])
 have w:∀{p},Ef (ws++[(n,g++[m])]) p->p=g++[m]\/p≠g++[m]/\Ef (ws++[(n,g)]) p:=λ{p}a=>by
  by_cases e:p=g++[m];exact .inl e;refine .inr ⟨e,?_⟩;rcases a with z|⟨M,N,A⟩;exact .inl z;rcases BB.mp N with y|y;exact .inr ⟨M,D9 _ y,A⟩;rw[AY.mp y] at A;rcases List.prefix_concat_iff.mp A with z|z;exact absurd z e;exact .inr ⟨_,De _ (AY.mpr rfl),z⟩
 have B:∀p,Ef (ws++[(n,g)]) p->d p≠e:=λp a z=>by have this:H (d p)=some _:=h.dct p a;rw[z,G] at this;cases this
 have W:T≠d g:=λz=>by
  have:=s _ _ (h.dct g r);rw[<-z,C] at this;cases this
 have O:¬Ef (ws++[(n,g)]) (g++[m]):=λz=>j (Fq.mp z)
 have P:keysAt (ws++[(n,g++[m])]) (g++[m])=[]:=by
  rw[SG (by simp)];exact VU O
 have D:∀p,p≠g->keysAt (ws++[(n,g++[m])]) p=keysAt (ws++[(n,g)]) p:=λp a=>SG a;have F:keysAt (ws++[(n,g++[m])]) g=keysAt (ws++[(n,g)]) g++[(m,n)]:=(by rw[VO,Ak j])
 refine⟨λp=>if p=g++[m] then e else d p,λp x=>if p=g/\x=m then T else c p x,⟨λp a=>?_,λp x k o=>?_,λp q a Q X=>?_⟩,Aj rfl,λp a=>?_,Ak (by simp)⟩
 show upd _ _ _ (if p=g++[m] then e else d p)=some _
 rcases w a with z|⟨z,f⟩;subst z;rw[Aj rfl,AC (Ne.symm (B g r)),J];unfold DQ;rw[P];rfl;rw[Ak z];by_cases b:p=g;subst b;rw[Aa,Zh L];unfold DQ;rw[F,Bn]
 have:∀l:List (Ap×Nat),m∉l.map (·.1)->(l.map λmk=>(F3 mk.1,V.ref (c p mk.1)))=l.map λmk=>(F3 mk.1,V.ref (if p=p/\mk.1=m then T else c p mk.1)):=λl R=>List.map_congr_left λmk Y=>by
  rw[Ak (λz=>R (Br.mpr ⟨mk,Y,z.2⟩))]
 rw[this _ j,D7,Nj];dsimp only;rw[Aj ⟨rfl,rfl⟩];rw[AC (λS=>b (h.inj p g f r S))];have:=s _ _ (h.dct p f);unfold DQ at this ⊢;rw[D p b,this]
 congr 2
 exact List.map_congr_left λmk _=>by
  show _=(F3 mk.1,V.ref (if p=g/\mk.1=m then T else c p mk.1));rw[Ak (λz=>b z.1)]
 show upd _ _ _ (if p=g/\x=m then T else c p x)=some (.tup [_,.ref (if p++[x]=g++[m] then e else d (p++[x]))])
 by_cases b:p=g;subst b;rw[F] at o;by_cases v:x=m;subst v;rw[Aj ⟨rfl,rfl⟩,Aj rfl,AC W,C];rcases BB.mp o with y|y;exact absurd (Br.mpr ⟨_,y,rfl⟩) j;cases AY.mp y;rfl;rcases BB.mp o with y|y;rw[Ak (λz=>v z.2),Ak (λz=>v (by simpa using z))];have t:=h.tup p x k y;rw[AC (λz=>by have this:H (d p)=some _:=h.dct p r;rw[<-z,t] at this;cases this)];exact s _ _ t;cases AY.mp y;exact absurd rfl v;rw[D p b] at o
 rw[Ak (λz=>b z.1),Ak (show ¬(p++[x]=g++[m]) from λz=>b (List.append_inj_left' z rfl))];have t:=h.tup p x k o;rw[AC (λz=>by have this:H (d g)=some _:=h.dct g r;rw[<-z,t] at this;cases this)];exact s _ _ t
 have i:(if p=g++[m] then e else d p)=(if q=g++[m] then e else d q):=X
 rcases w a with z|⟨z,f⟩<;>rcases w Q with y|⟨y,E⟩;rw[z,y];rw[Aj z,Ak y] at i;exact absurd i.symm (B q E);rw[Ak z,Aj y] at i;exact absurd i (B p f);rw[Ak z,Ak y] at i;exact h.inj p q f E i
 show u (if p=g++[m] then e else d p)=none
 rcases w a with z|⟨z,f⟩;rw[Aj z];exact U;rw[Ak z];exact I p f
theorem VV(ws:Ws Ap)(n:Nat)(p:List Ap):keysAt (ws++[(n,[])]) p=keysAt ws p:=Ze ws n p
theorem Bb.begin{φ:Hp->Addr->List (List AO×V)->Prop}(h:Bb φ H ws d c):Bb φ H (ws++[(n,[])]) d c:=by
 have i:∀{p},Ef (ws++[(n,[])]) p->Ef ws p:=λ{p}a=>by
  rcases a with z|⟨e,f,b⟩;exact .inl z;rcases BB.mp f with y|y;exact .inr ⟨e,y,b⟩;rw[AY.mp y] at b;exact .inl (List.prefix_nil.mp b)
 refine⟨λp a=>?_,λp m k g=>h.tup p m k (by rw[<-VV];exact g),λp q a j=>h.inj p q (i a) (i j)⟩;have:=h.dct p (i a);unfold DQ at this ⊢;rw[VV];exact this
theorem Bb.frz{H Y a:Hp}{ws:Ws Ap}{d:List Ap->Addr}{c:List Ap->Ap->Addr}(h:Bb dW Y ws d c)(i:∀p,Ef ws p->H (d p)=none)(f:PH H Y a)(j:∀b e,H b=none->Y b=some (.dT e)->∃o,a b=some (.frz o (.dT e))):Bb dF a ws d c:=by
 refine⟨λp g=>j _ _ (i p g) (h.dct p g),λp m k l=>?_,h.inj⟩;have t:=h.tup p m k l;rcases f (c p m) with z|⟨_,e,o,z,_⟩;rw[z];exact t;rw[t] at z;cases z
theorem PH.same{Y a:Hp}(s:Ac H Y)(f:PH H Y a):Ac H a:=λb o e=>by
 rcases f b with z|⟨z,_⟩;rw[z];exact s _ _ e;rw[e] at z;cases z
theorem SH(ws:Ws Ap)(p:List Ap):(keysAt ws p).length<=ws.length:=by
 induction ws using SF with
 |nil=>exact AB _
 |snoc ws a b =>
   obtain⟨k,w⟩:=a;rw[KG,AW];split;split;omega;rw[AW];simp;exact b;omega
abbrev Fs (p:Str×Str):List AO:=[.inr p.1,.inr p.2]
theorem EZ.tups(e:∀b xs,H b=some (.tup xs)->H' b=some (.tup xs)):∀{xs:List V}{ps:List (List AO×V)},EZ H xs ps->EZ H' xs ps:=λh =>
 Paired.mapP h λ_ _⟨t,b,a,c,d⟩=>⟨t,b,a,e _ _ c,e _ _ d⟩
theorem VW{k:List AO}:∀{ps acc:List (List AO×V)},(AL (KE acc ps) k).isSome=true↔(AL acc k).isSome=true\/k∈ps.map (·.1)
 |[],acc=>by simp[KE]
 |p::ps,acc=>by
   show(AL (KE (AX acc p.1 p.2) ps) k).isSome=true↔_;rw[VW,NT,D7,Ce];by_cases h:k=p.1;rw[Aj h];simp[h];rw[Ak h];simp[h]
def HC (H:Hp) (p:Addr) (ord:List (Str×Str)):Prop:=∃kvs,H p=some (.dT kvs)/\∀a b,(AL kvs (Fs (a,b))).isSome=dec ((a,b)∈ord)
variable {ord:List (Str×Str)}
theorem HC.same{p:Addr}(e:Ac H H')(h:HC H p ord):HC H' p ord:=let ⟨k,a,b⟩:=h;⟨k,e _ _ a,b⟩
theorem Zi(a b:Str):(AL (KE [] (ord.map λp=>(Fs p,V.bl true))) (Fs (a,b))).isSome=dec ((a,b)∈ord):=by
 have:(AL (KE [] (ord.map λp=>(Fs p,V.bl true))) (Fs (a,b))).isSome=true ↔ (a,b)∈ord:=by
  rw[VW];constructor;rintro(h|h);simp[AL] at h;rw[DF] at h;obtain⟨q,c,e⟩:=Br.mp h;obtain⟨d,f⟩:=q;simp at e;rw[<-e.1,<-e.2];exact c;intro h;refine .inr ?_;rw[DF];exact Br.mpr ⟨_,h,rfl⟩
 by_cases h:(a,b)∈ord;rw[FD h];exact this.mpr h;rw[F0 h]
 cases e:(AL (KE [] (ord.map λp=>(Fs p,V.bl true))) (Fs (a,b))).isSome with
 |false=>rfl
 |true=>exact absurd (this.mp e) h
def A6 (l:List (List Ap)):Ws Ap:=l.zipIdx.map λp=>(p.2,p.1)
theorem Zj(l:List (List Ap))(w:List Ap):A6 (l++[w])=A6 l++[(l.length,w)]:=by
 unfold A6;rw[List.zipIdx_append,Bn]
 simp
variable {l:List (List Ap)}{i:Nat}{w:List Ap}
theorem Zk(h:l[i]?=some w):A6 (l.take (i+1))=A6 (l.take i)++[(i,w)]:=by
 have a:=(A7.mp h).1;rw[DJ,h];show A6 (l.take i++[w])=_;rw[Zj,FH,Nat.min_eq_left (Dh a)]
theorem VX(l:List (List Ap)):((A6 l).map (·.1)).Pairwise (· < ·):=by
 have:(A6 l).map (·.1)=List.range l.length:=by
  unfold A6;rw[DF,List.range_eq_range'];exact List.zipIdx_map_snd 0 l
 rw[this];exact List.pairwise_lt_range
theorem Dm{k:Nat}:(k,w)∈A6 l↔l[k]?=some w:=by
 unfold A6;rw[Br];constructor;rintro⟨⟨a,b⟩,h,e⟩;cases e;exact List.mem_zipIdx_iff_getElem?.mp h;intro h;exact⟨(w,k),List.mem_zipIdx_iff_getElem?.mpr h,rfl⟩
noncomputable def B6 (ss:List Bi) (ord:List (Str×Str)) (x m:Ap):Bool:=dec ((FO ss x,FO ss m)∈ord)
variable {ss:List Bi}
theorem Zl(h:∀x,(x,x)∉ord)(m:Ap):B6 ss ord m m=false:=F0 (h _)
theorem SI(ss:List Bi)(ord:List (Str×Str)):∀(a b:List Ap),AM (B6 ss ord) a b=Cg ss ord a b
 |x::s,m::t=>by
   show(if x=m then _ else B6 ss ord x m)=_
   by_cases e:x=m;subst e;rw[Aj rfl,Oe];exact SI ss ord s t;rw[Ak e,KD ss ord s t e];rfl
 |[],m=>by rw[LP ss ord (.inl rfl)];rfl
 |_::_,[]=>by rw[LP ss ord (.inr rfl)];rfl
theorem Jz(h:∀x,(x,x)∉ord):gat (B6 ss ord) (A6 l) [] w=[]↔∀v∈l,Cg ss ord v w=false:=by
 constructor;intro e v b;obtain⟨k,d⟩:=List.mem_iff_getElem?.mp b
 cases a:Cg ss ord v w with
 |false=>rfl
 |true =>
   obtain⟨j,c,_⟩:=Zf (VX l) (Dm.mpr d) (by rw[SI];exact a);rw[e] at c;cases c
 intro f
 cases e:gat (B6 ss ord) (A6 l) [] w with
 |nil=>rfl
 |cons k g =>
   exfalso;obtain⟨v,b,a⟩:=VQ (VX l) (Zl h) w [] k (by rw[e];simp);rw[List.nil_append,SI] at a;rw[f v (List.mem_iff_getElem?.mpr ⟨k,Dm.mp b⟩)] at a;cases a
noncomputable def CP (ss:List Bi) (ord:List (Str×Str)) (all l:List (List Ap)):List (List Ap):=l.filter λw=>!all.any λv=>Cg ss ord v w
theorem VY{all:List (List Ap)}(h:l[i]?=some w):CP ss ord all (l.take (i+1))=if(all.any λv=>Cg ss ord v w)=true then CP ss ord all (l.take i) else CP ss ord all (l.take i)++[w]:=by
 unfold CP;rw[DJ,h,Nk];show _++List.filter _ [w]=_;rw[MJ]
 cases all.any λv=>Cg ss ord v w with
 |true=>rw[Aj rfl];simp
 |false=>simp
theorem Zm{all:List (List Ap)}:(CP ss ord all l).length<=l.length:=O0 _ _
theorem CQ{ks:List Nat}:PK (ks.map λk:Nat=>(k:Int))=.non↔ks=[]:=by
 cases ks with
 |nil=>exact⟨λ_=>rfl,λ_=>rfl⟩
 |cons k ks=>exact⟨λh=>(nomatch h),λh=>(nomatch h)⟩
theorem PM(h:∀x,(x,x)∉ord):gat (B6 ss ord) (A6 l) [] w=[]↔(l.any λv=>Cg ss ord v w)=false:=by
 rw[Jz h,List.any_eq_false];exact⟨λz v a=>by rw[z v a];simp,λz v a=>by have:=z v a;simpa using this⟩
section
variable {prog:Program} {w:World} {A:Around} {E:Value->Shared->Prop} {s:Shared}
theorem PP{j p:Addr}{k:Nat}{vs:Array Value}{y:Value}{Q:Value->Shared->Prop}(c:s.heap.IsTupleIter j p k)(d:s.heap.IsTuple p vs)(e:vs[k]?=some y)
 (q:∀g,g.IsTupleIter j p (k+1)->Heap.SameBut j s.heap g->Q y {s with heap:=g}):wpAny (model prog w) A (Builtin.SmallTypes.nextOf (.ref j)) Q E s:=by
 obtain⟨l,b,f,a⟩:=id c;obtain⟨m,h,_,_,i⟩:=d;unfold Builtin.SmallTypes.nextOf;refine Ad (wpAny_callSpecial?_slot (name:=Str.ofString "__next__") c.typeIs F.slot_tuple_iterator_next (wpAny_call_entry F.slot_tuple_iterator_next c.typeIs F.entry_tuple_iterator_next ?_ (F.args_tuple_iterator_next_1 _)))
 show wpAny _ _ (field (.ref j) 0 >>= _) _ _ s;refine Ad (wpAny_field b a (x:=.ref p) rfl ?_);show wpAny _ _ (if(Value.ref p==Value.none)=true then _ else _) _ _ s;rw[Ak (show ¬((Value.ref p==Value.none)=true) from Cq)];show wpAny _ _ (field (.ref j) 1 >>= _) _ _ s;refine Ad (wpAny_field b a (x:=.int k 0) rfl ?_);show wpAny _ _ (seqItems? (.ref p) >>= _) _ _ s;refine Ad (F9 h i ?_);simp only[Be,e];refine Ad (wpAny_setField b a (by simp) (Au ⟨y,rfl,Au (q _ ⟨_,Heap.get?_update_self _ b (Obj.isFreed_of_fields (Obj.data_mapFields a _)),(Obj.cls_mapFields ..).trans f,by rw[Obj.data_mapFields a];simp[rawInt]⟩ (Heap.SameBut.update ..))⟩))
theorem SJ{j p:Addr}{k:Nat}{vs:Array Value}{Q:Value->Shared->Prop}(e:A.handled=none)(b:s.heap.IsTupleIter j p k)(f:s.heap.IsTuple p vs)(h:vs[k]?=none)
 (q:∀g x,Heap.ExtBut j s.heap g->(∃o,g.get? x=some o/\o.cls=.type "StopIteration")->E (.ref x) {s with heap:=g}):wpAny (model prog w) A (Builtin.SmallTypes.nextOf (.ref j)) Q E s:=by
 obtain⟨n,c,r,d⟩:=id b;obtain⟨t,i,_,_,l⟩:=f;unfold Builtin.SmallTypes.nextOf;refine Ad (wpAny_callSpecial?_slot (name:=Str.ofString "__next__") b.typeIs F.slot_tuple_iterator_next (wpAny_call_entry F.slot_tuple_iterator_next b.typeIs F.entry_tuple_iterator_next ?_ (F.args_tuple_iterator_next_1 _)))
 show wpAny _ _ (field (.ref j) 0 >>= _) _ _ s;refine Ad (wpAny_field c d (x:=.ref p) rfl ?_);show wpAny _ _ (if(Value.ref p==Value.none)=true then _ else _) _ _ s;rw[Ak (show ¬((Value.ref p==Value.none)=true) from Cq)];show wpAny _ _ (field (.ref j) 1 >>= _) _ _ s;refine Ad (wpAny_field c d (x:=.int k 0) rfl ?_);show wpAny _ _ (seqItems? (.ref p) >>= _) _ _ s;refine Ad (F9 i l ?_);simp only[Be,h];refine Ad (G4 (Ad (wpAny_setField c d (by simp) ?_)))
 show wpAny _ _ (newExc (.type "StopIteration") [] >>= _) _ _ _
 refine Ad ?_;simp only[newExc,newTuple];refine Ad (wpAny_newObj_type (Ad (m:=firstArgMember _ _) (wpAny_of_eq (a:=Value.none) (by first|rfl|(simp only[firstArgMember];rfl)) (wpAny_newObj_type ?_ (by size_fits)))) (by size_fits));simp only[raiseNew];refine Ad (wpAny_handled ?_)
 first|rw[show A.in1.handled=none from e]|rw[e]
 exact Ad (Au (wpAny_throw (q _ _ (((Heap.SameBut.update ..).extBut.push _).push _) ⟨_,B4 _ rfl,rfl⟩)))
end
variable {prog:Program}
theorem HD{w:World}(c:A.handled=none)(j p:Addr)(d:p≠j)(vs:Array Value):Draws prog w A j [j,p] vs.size (λi v=>vs[i]?=some v) (λi h=>h.IsTupleIter j p i/\h.IsTuple p vs) where
 live _ _ st:=let ⟨o,e,_⟩:=st.1;⟨o,e⟩
 frame _ _ _ st k:=by
  obtain⟨⟨o,f,l⟩,u,m,n⟩:=st;exact⟨⟨o,k j (by simp) _ f,l⟩,u,k p (by simp) _ m,n⟩
 item i s Q E a st q:=PP st.1 st.2 (y:=vs[i]) (by simp[a]) λg r b=>q _ g s.toks (by simp[a]) ⟨r,st.2.extBut b.extBut d⟩ b
 done s Q E st q:=SJ c st.1 st.2 (by simp) q
theorem Zn(p:Addr)(vs:Array Value)(n:Nat)(dct:Option Addr)(e:Array (Option Value)) :
 Meets (Builtin.«enumerate.__new__» ⟨[.type "enumerate",.ref p],[]⟩) (λ_ R s=>s.heap.get? p=some {cls:=.type "tuple",dict:=dct,data:=.seq vs n,slots:=e}/\R (.ok (.ret (.ref (s.heap.push {cls:=.type "tuple_iterator",data:=.fields #[.ref p,.int 0 0]}).objs.size))) {s with heap:=(s.heap.push {cls:=.type "tuple_iterator",data:=.fields #[.ref p,.int 0 0]}).push {cls:=.type "enumerate",data:=.fields #[.none,.bool false,.ref s.heap.objs.size,rawInt 0,.none,.none]}}):=
 .of_wp λprog w A R s h=>by
  obtain⟨f,g,d,tk,i⟩:=s;obtain⟨a,h⟩:=h;have k:=sub_enumerate;have b:Heap.IsTuple (Shared.heap ⟨f,g,d,tk,i⟩) p vs:=⟨_,a,rfl,n,rfl⟩
  wp_walk using AutoSeq1.wpAny_loadPart' a
  refine wpAny_stack_any λj=>Au ?_;split;rename_i c _ _ _ _ _;cases(c==Value.type "enumerate")<;>(wp_walk using AutoSeq1.wpAny_loadPart' a,wpAny_pyIter_tuple b;exact⟨_,rfl,h⟩)
  wp_walk using AutoSeq1.wpAny_loadPart' a,wpAny_pyIter_tuple b
  exact⟨_,rfl,h⟩
variable {E Q:Value->Shared->Prop}{s:Shared}
theorem Zo{w:World}{p:Addr}{vs:Array Value}(i:s.heap.IsTuple p vs)
 (h:∀g,IsEnum g (s.heap.objs.size+1) s.heap.objs.size 0 .none->g.IsTupleIter s.heap.objs.size p 0->g.objs.size=s.heap.objs.size+2->(∀b o,s.heap.get? b=some o->g.get? b=some o)->Q (.ref (s.heap.objs.size+1)) {s with heap:=g}) :
 wpAny (model prog w) A (call (.type "enumerate") [.ref p]) Q E s:=by
 obtain⟨⟨c,dct,dt,j⟩,k,a,n,hd⟩:=i
 replace a:c=.type "tuple" :=a
 replace hd:dt=.seq vs n:=hd
 subst a hd;refine callType_new F.called_enumerate (by decide) (F.typeCall_enumerate_1 _) (F.newCall_enumerate_1 _) (λl=>F.args_object_init_2 l _) F.entry_enumerate_new (Zn p vs n dct j) ⟨k,?_⟩;have d:(s.heap.push {cls:=.type "tuple_iterator",data:=.fields #[.ref p,.int 0 0]}).objs.size=s.heap.objs.size+1:=Heap.size_push ..;show _/\_;rw[d]
 have f:IsEnum ((s.heap.push {cls:=.type "tuple_iterator",data:=.fields #[.ref p,.int 0 0]}).push {cls:=.type "enumerate",data:=.fields #[.none,.bool false,.ref s.heap.objs.size,rawInt 0,.none,.none]}) (s.heap.objs.size+1) s.heap.objs.size 0 .none:=by
  have e:=B4 (s.heap.push {cls:=.type "tuple_iterator",data:=.fields #[.ref p,.int 0 0]}) (o:={cls:=.type "enumerate",data:=.fields #[.none,.bool false,.ref s.heap.objs.size,rawInt 0,.none,.none]}) rfl
  rwa [d] at e
 exact⟨⟨_,f,rfl⟩,h _ f ⟨_,A8 _ (B4 _ rfl),rfl,rfl⟩ (by rw[Heap.size_push,d]) λb o x=>A8 _ (A8 _ x)⟩
def HE (K:Ah) (l:Addr):It:=
 ⟨λi H=>∃xs x,Aq K H l xs/\xs[i]?=some x,
  λi H v H'=>∃T x,H T=none/\v=.ref T/\H'=upd H T (.tup [.int i,x])/\∀xs,Aq K H l xs->xs[i]?=some x,
  λi H=>∃xs,Aq K H l xs/\xs.length=i⟩
def LV (e it l:Addr) (i:Nat) (h:Heap):Prop:=(∃old,IsEnum h e it i old)/\h.IsTupleIter it l i
variable {es:List Expr}{L:Pos}
theorem Zp{P:Program}{w:World}{K:Ah}{k:Nat}{e d l:Addr}(Z:e≠d)(ao:e≠l)(ah:l≠d) :
 Fh P w K (.Tuple es k L) (HE K l) [e,d] e (LV e d l) where
 mem:=by simp
 obj:=λi h g b a=>by
  obtain⟨⟨F,f⟩,⟨O,C,c1,Q⟩⟩:=g;simp at a;rcases a with rfl|rfl;exact⟨_,f,λv q=>by cases q⟩;exact⟨_,C,λv q=>by rw[Q] at q;cases q⟩
 keep:=λi h h' g kk=>by
  obtain⟨⟨F,f⟩,⟨O,C,c1,Q⟩⟩:=g;exact⟨⟨F,kk e (by simp) _ f⟩,⟨O,kk d (by simp) _ C,c1,Q⟩⟩
 item:=by
  intro X R S T p i ae s σ H E I D g U;subst R S T;obtain⟨xs,ag,N,hx⟩:=U;obtain⟨⟨F,f⟩,J⟩:=g;obtain⟨j,aa,V,aq⟩:=I.tuple N;obtain⟨u1,ai,ar⟩:=aa.get hx;have ab:s.heap.IsTuple l j.toArray:=V;have au:i<j.toArray.size:=by have:=(A7.mp ai).1;simpa using this
  refine wpAny_pyNext_enum_itemD (HD (A:=X.A.in1) (by exact I.ok.hd p) d l ah j.toArray) f ⟨J,ab⟩ au Z (by simp;exact⟨Z,ao⟩) λy h' tk hy a1 a2 a3 a4 hk=>?_
  have ey:y=u1:=by
   have h2:j.toArray[i]?=some u1:=(by simpa using ai);rw[h2] at hy;exact(Bo hy).symm
  subst ey;refine⟨_,rfl,wpAny_letOwnedTupleGo_enum (s:={s with heap:=h',toks:=tk+1}) a1 λG a0 af=>?_⟩;have t:=D e (by simp);have x:=D d (by simp);have GU:∀b u,H b=some u->b≠e/\b≠d:=λb u z=>⟨AJ z t.1,AJ z x.1⟩;have keep:∀b o,b≠e->b≠d->s.heap.get? b=some o->G.get? b=some o:=λb o M W z=>(af.2 b M).trans (hk b o M W z);have B:∀{b:Addr},b∉[e,d]->b≠e/\b≠d:=λ{b}a=>by simpa using a
  have I1:Inv X ae σ H {s with heap:=G,toks:=tk+1}:=by
   refine I.step (g':=s.gens) (t':=tk+1) (d':=s.drawn) (h':=G) (ch:=[e,d]) (λb a=>?_) (λb r _ _ a z _=>keep b r (B a).1 (B a).2 z) (λb r _ _ a z _=>⟨r.slots,keep b r (B a).1 (B a).2 z⟩)
    (λ_ _ _ _ n=>n) (λb r a z=>⟨r,keep b r (B a).1 (B a).2 z⟩) (λ_ _ z=>z) (λ_ _ _ z=>z) (λb ps z=>⟨#[],by rw[z];simp⟩) (λm hm=>?_) (λb u z=>?_) I.bare
   have:b=e\/b=d:=(by simpa using a);rcases this with rfl|rfl;exact⟨t.2.2.2.1,t.2.1,t.2.2.2.2.1,t.2.2.2.2.2⟩;exact⟨x.2.2.2.1,x.2.1,x.2.2.2.2.1,x.2.2.2.2.2⟩;obtain⟨o,es,ep,ho,al⟩:=hm;exact⟨o,es,ep,keep _ o (Ne.symm t.2.1) (Ne.symm x.2.1) ho,al⟩;refine(I.hok b u z).stay (λc v p q=>?_) (λ_ q=>q) λ_ _ q=>q
   have av:∃Y,H c=some Y:=by
    rcases p with rfl|p;exact⟨_,z⟩;exact⟨_,p⟩
   obtain⟨Y,e'⟩:=av;obtain⟨M,W⟩:=GU c Y e';exact keep c v M W q
  have aw:s.heap.objs.size≠e:=Nat.ne_of_gt (A1 f);have aj:H s.heap.objs.size=none:=I.hok.fresh (AB _);have ak:G.get? s.heap.objs.size=some {cls:=.type "tuple",data:=.seq #[.int i tk,y]}:=(af.2 _ aw).trans a3
  have I2:Inv X ae σ (upd H s.heap.objs.size (.tup [.int i,ag])) {s with heap:=G,toks:=tk+1}:=by
   refine I1.track (I.fpOk (AB _) aj) ⟨_,ak⟩ ?_;exact⟨by show 2<=sizeLine;decide,[.int i tk,y],.cons ⟨_,rfl⟩ (.cons ar .nil),⟨_,ak,rfl,_,rfl⟩⟩
  refine⟨.ref s.heap.objs.size,_,I2,rfl,⟨s.heap.objs.size,ag,aj,rfl,rfl,λzs ax=>by rw[I.tuple_inj ax N];exact hx⟩,?_,λb a=>?_⟩;refine⟨⟨y,by simpa using a0⟩,a2.1.extBut af.extBut (Ne.symm Z)⟩;have ay:=(D b a).1;rw[AC (λq=>?_)];exact ay;have az:b=e\/b=d:=(by simpa using a);obtain⟨O,C,_⟩:=J
  have lt:b<s.heap.objs.size:=by
   rcases az with rfl|rfl;exact A1 f;exact A1 C
  rw[q] at lt;exact absurd lt (F7 _)
 done:=by
  intro X R S T p i ae s σ H E I D g U;subst R S T;obtain⟨xs,N,a7⟩:=U;obtain⟨⟨F,f⟩,J⟩:=g;obtain⟨j,aa,V,aq⟩:=I.tuple N;have a6:=aa.length;have ab:s.heap.IsTuple l j.toArray:=V;have ei:i=j.toArray.size:=by simp;omega
  obtain⟨f0,an,a5,f3,f4,f5⟩:=D d (by simp);refine wpAny_pyNext_enum_endD (HD (A:=X.A.in1) (by exact I.ok.hd p) d l ah j.toArray) f ⟨by rw[<-ei];exact J,ab⟩ λh' eb=>⟨rfl,I.turned (t':=s.toks) (λb o a z=>eb b o a z) f0 an f3 f4 f5⟩
 self:=λ_ _ _ _ _ g h=>by
  obtain⟨⟨F,f⟩,_⟩:=g;exact wpAny_pyIter_enum f h
def LW (K:Ah) (ta:TA):TI:=λσ H R=>ta σ H λvs Y=>∃l,vs=[.ref l]/\(∃xs,Aq K Y l xs)/\R (HE K l) Y
theorem Zq{X:Cx}{k:Nat}{j:Pos}{a:Expr}{f:TA}{p:Pos}(o:Gl X "enumerate")(r:X.mg "enumerate" = none)(t:PA X [a] f)(v:starEach [a] X.env=[(false,eval a X.env)]:=by rfl) :
 PI X (.Tuple es k j) (.Call (.Name "enumerate" p) [a] [] L) (LW X.K f):=by
 intro M s σ H R I h;refine Call_ (IR I o r (u:=.type "enumerate") (by decide +kernel) (PyProof.Rows.callWith_type1 (AV (t L M s σ H _ I h) λN c⟨O,Y,d,w,x⟩=>?_) (by rw[v];rfl) (by rfl)));obtain⟨l,rfl,⟨P,y⟩,q⟩:=x;obtain⟨A,rfl,G⟩:=Fj w;obtain rfl:A=Value.ref l:=G;obtain⟨J,Q,e,z⟩:=d.tuple y;have g:c.heap.IsTuple l J.toArray:=e;obtain⟨S,B,_⟩:=id g;have i:l<c.heap.objs.size:=A1 B;refine Zo g λC m D T E=>?_;refine wpAny_pyIter_enum (s:={c with heap:=C}) m ?_;refine⟨_,[c.heap.objs.size+1,c.heap.objs.size],_,_,Y,rfl,d.kept (t':=c.toks) E,Zp (Nat.succ_ne_self _) (Nat.ne_of_gt (Nat.lt_succ_of_lt i)) (CS i),⟨⟨_,m⟩,D⟩,λb F=>?_,q⟩
 have n:c.heap.objs.size<=b:=by
  have K:b=c.heap.objs.size+1\/b=c.heap.objs.size:=(by simpa using F);rcases K with rfl|rfl;exact Nat.le_add_right _ _;exact AB _
 exact d.fpOk n (d.hok.fresh n)
variable {xs:List V}{D:Ends}{σ:St}
theorem Zr{K:Ah}{l:Addr}{g:TG}{tb:TS}(Pv:Nat->St->Hp->Prop)(f:Pv 0 σ H)(h:∀i σ H,Pv i σ H->Aq K H l xs)
 (j:∀i x T σ H,xs[i]?=some x->H T=none->Pv i σ H->g (.ref T) σ (upd H T (.tup [.int i,x])) λσ2 a=>tb {D with nx:=Pv (i+1),ct:=Pv (i+1),bk:=D.nx} σ2 a) (hd:∀σ H,Pv xs.length σ H->D.nx σ H) :
 ∃W:Nat->Nat->St->Hp->Prop,(∃m,W 0 m σ H)/\∀i m σ H,W i m σ H ->
  ((HE K l).stop i H/\D.nx σ H)\/((HE K l).go i H/\∃N:St->Hp->Prop,(∀σ' H',N σ' H'->∃c,c<m/\W (i+1) c σ' H')/\∀x H',(HE K l).yld i H x H'->g x σ H' λσ2 a=>tb {D with nx:=N,ct:=N,bk:=D.nx} σ2 a):=by
 refine⟨λi m σ H=>m=xs.length-i/\i<=xs.length/\Pv i σ H,⟨_,rfl,Ci _,f⟩,?_⟩;rintro i m σ H ⟨rfl,q,p⟩;have b:=h i σ H p;by_cases d:i<xs.length;refine .inr ⟨⟨xs,xs[i],b,by simp[d]⟩,Pv (i+1),λσ' H' k=>⟨xs.length-(i+1),by omega,rfl,d,k⟩,λv H' y=>?_⟩;obtain⟨T,x,n,rfl,rfl,o⟩:=y;exact j i x T σ H (o xs b) n p;have e:i=xs.length:=(by omega);refine .inl ⟨⟨xs,b,by omega⟩,?_⟩;rw[e] at p;exact hd σ H p
section
variable {X:Cx}
end
section
variable {prog:Program} {w:World} {A:Around} {E:Value->Shared->Prop} {s:Shared}
variable {z a o j q:Addr}{ys:Array Value}{u:Value}
theorem Zs{i p:Addr}{k m:Nat}{xs:Array Value}{x y v:Value}(D:ZipApart z a o i j p q)(B:IsZip s.heap z a o .none)(ea:IsPair s.heap a (.ref i) (.ref j))(eo:IsPair s.heap o u v)
 (ei:s.heap.IsTupleIter i p k) (ej:s.heap.IsTupleIter j q m) (tp:s.heap.IsTuple p xs) (tq:s.heap.IsTuple q ys) (hx:xs[k]?=some x) (hy:ys[m]?=some y)
 (ah:∀g,IsZip g z a o (rawInt s.heap.objs.size)->IsPair g o x y->g.IsTupleIter i p (k+1)->g.IsTupleIter j q (m+1)->IsPair g s.heap.objs.size x y->g.objs.size=s.heap.objs.size+1->(∀c d,c≠z->c≠o->c≠i->c≠j->s.heap.get? c=some d->g.get? c=some d)->Q (.ref s.heap.objs.size) {s with heap:=g}) :
 wpAny (model prog w) A (Builtin.«zip.__next__» ⟨[.ref z],[]⟩) (λf t=>∃v,f=.done (.ret v)/\Q v t) E s:=by
 show wpAny _ _ (field (.ref z) 2 >>= _) _ _ _;refine Ad (wpAny_field B rfl (x:=.bool false) rfl ?_);show wpAny _ _ (field (.ref z) 3 >>= _) _ _ _;refine Ad (wpAny_field B rfl (x:=.ref a) rfl (Ad (F9 ea rfl ?_)));show wpAny _ _ (Builtin.SmallTypes.ownedTupleIsFree (.ref z) >>= _) _ _ _;refine Ad ?_;unfold Builtin.SmallTypes.ownedTupleIsFree;refine Ad (wpAny_field B rfl (x:=.none) rfl (Au ?_));simp only[if_true];refine Ad (G4 (Ad (wpAny_field B rfl (x:=.ref o) rfl (Ad (wpAny_setField_rec B (by simp) λaa M h=>?_)))))
 replace M:IsZip aa z a o .ellipsis:=M
 refine Ad ?_;simp only[List.zipIdx_cons,List.zipIdx_nil,List.forIn_cons,List.forIn_nil];refine Ad (Ad (wpAny_onRaise ?_));show wpAny _ _ (Builtin.SmallTypes.nextOf (.ref i) >>= _) _ _ _;refine Ad (PP (ei.extBut h.extBut D.i1z) (tp.extBut h.extBut D.l1z) hx λab i2 l=>Au ?_);have U:IsPair ab o u v:=l.extBut _ _ D.TOi1 (h.extBut _ _ D.TOz eo);refine Ad (F9 U rfl (Ad (wpAny_updateSeq_pair U λae N r=>Ad (wpAny_letGo (Au ?_)))))
 replace N:IsPair ae o x v:=N
 refine Ad (Ad (wpAny_onRaise ?_));show wpAny _ _ (Builtin.SmallTypes.nextOf (.ref j) >>= _) _ _ _;refine Ad (PP (((ej.extBut h.extBut D.i2z).extBut l.extBut D.i12.symm).extBut r.extBut D.TOi2.symm) (((tq.extBut h.extBut D.l2z).extBut l.extBut D.l2i1).extBut r.extBut D.l2TO) hy λg4 j4 C=>Au ?_);have V:IsPair g4 o x v:=C.extBut _ _ D.TOi2 N;refine Ad (F9 V rfl (Ad (wpAny_updateSeq_pair V λb H F=>Ad (wpAny_letGo (Au (Au ?_))))))
 replace H:IsPair b o x y:=H
 refine Ad (F9 H rfl (Ad (wpAny_newTuple ?_)));have sz:b.objs.size=s.heap.objs.size:=(by rw[F.1,C.1,r.1,l.1,h.1]);have W:IsZip b z a o .ellipsis:=F.extBut _ _ D.TOz.symm (C.extBut _ _ D.i2z.symm (r.extBut _ _ D.TOz.symm (l.extBut _ _ D.i1z.symm M)));have k5:∀c d,c≠z->c≠o->c≠i->c≠j->s.heap.get? c=some d->b.get? c=some d:=λc d I J O P e=>F.extBut _ _ J (C.extBut _ _ P (r.extBut _ _ J (l.extBut _ _ O (h.extBut _ _ I e))));have i5:b.IsTupleIter i p (k+1):=((i2.extBut r.extBut D.TOi1.symm).extBut C.extBut D.i12).extBut F.extBut D.TOi1.symm;have j5:b.IsTupleIter j q (m+1):=j4.extBut F.extBut D.TOi2.symm;have X:z<b.objs.size:=A1 W;show wpAny _ _ (Builtin.SmallTypes.ownedTupleHandOut (.ref z) (.ref b.objs.size) >>= _) _ _ _;refine Ad ?_;unfold Builtin.SmallTypes.ownedTupleHandOut;have z6:IsZip (b.push {cls:=.type "tuple",data:=.seq #[x,y]}) z a o .ellipsis:=A8 _ W;refine Ad (wpAny_setField_rec z6 (by simp) λg7 R S=>?_)
 replace R:IsZip g7 z a o (rawInt b.objs.size):=R
 refine wpAny_setField_rec R (by simp) λG K T=>?_
 replace K:IsZip G z a o (rawInt b.objs.size):=K
 have L:∀c d,c≠z->b.get? c=some d->G.get? c=some d:=λc d n e=>T.extBut _ _ n (S.extBut _ _ n (A8 _ e));have Y:IsPair G b.objs.size x y:=T.extBut _ _ (Nat.ne_of_gt X) (S.extBut _ _ (Nat.ne_of_gt X) (B4 _ rfl));have Z:G.objs.size=b.objs.size+1:=(by rw[T.1,S.1,Heap.size_push]);rw[sz] at K Y Z;refine Au ⟨_,rfl,?_⟩;show Q (.ref b.objs.size) _;rw[sz];obtain⟨oi,e1,e2⟩:=i5;obtain⟨oj,af,ag⟩:=j5;exact ah G K (L _ _ D.TOz H) ⟨oi,L _ _ D.i1z e1,e2⟩ ⟨oj,L _ _ D.i2z af,ag⟩ Y Z λc d I J O P e=>L c d I (k5 c d I J O P e)
theorem Zt{i p:Addr}{k m:Nat}{xs:Array Value}{v:Value}{Q:PySem.Fin->Shared->Prop}(J:A.handled=none)(D:ZipApart z a o i j p q)(r:IsZip s.heap z a o .none)(U:IsPair s.heap a (.ref i) (.ref j))(V:IsPair s.heap o u v)
 (K:s.heap.IsTupleIter i p k) (W:s.heap.IsTupleIter j q m) (L:s.heap.IsTuple p xs) (X:s.heap.IsTuple q ys) (aa:xs[k]?=none\/ys[m]?=none)
 (T:∀g e,(∀c d,c≠z->c≠o->c≠i->c≠j->s.heap.get? c=some d->g.get? c=some d)->(∃d,g.get? e=some d/\d.cls=.type "StopIteration")->E (.ref e) {s with heap:=g}) :
 wpAny (model prog w) A (Builtin.«zip.__next__» ⟨[.ref z],[]⟩) Q E s:=by
 show wpAny _ _ (field (.ref z) 2 >>= _) _ _ _;refine Ad (wpAny_field r rfl (x:=.bool false) rfl ?_);show wpAny _ _ (field (.ref z) 3 >>= _) _ _ _;refine Ad (wpAny_field r rfl (x:=.ref a) rfl (Ad (F9 U rfl ?_)));show wpAny _ _ (Builtin.SmallTypes.ownedTupleIsFree (.ref z) >>= _) _ _ _;refine Ad ?_;unfold Builtin.SmallTypes.ownedTupleIsFree;refine Ad (wpAny_field r rfl (x:=.none) rfl (Au ?_));simp only[if_true];refine Ad (G4 (Ad (wpAny_field r rfl (x:=.ref o) rfl (Ad (wpAny_setField_rec r (by simp) λY C b=>?_)))))
 replace C:IsZip Y z a o .ellipsis:=C
 refine Ad ?_;simp only[List.zipIdx_cons,List.zipIdx_nil,List.forIn_cons,List.forIn_nil];refine Ad (Ad (wpAny_onRaise ?_));show wpAny _ _ (Builtin.SmallTypes.nextOf (.ref i) >>= _) _ _ _
 cases F:xs[k]? with
 |none =>
   refine Ad (SJ J (K.extBut b.extBut D.i1z) (L.extBut b.extBut D.l1z) F λG e f H=>?_);obtain⟨d,l,y⟩:=H;have M:IsZip G z a o .ellipsis:=f _ _ D.i1z.symm C;have ne:e≠z:=λt=>by subst t;rw[M] at l;cases l;simp at y
   exact wpAny_setField_rec M (by simp) λN _ n=>T N e (λc d B _ I _ t=>n.extBut _ _ B (f _ _ I (b.extBut _ _ B t))) ⟨d,n.extBut _ _ ne l,y⟩
 |some x =>
   have Z:ys[m]?=none:=by
    rcases aa with h|h;rw[F] at h;cases h;exact h
   refine Ad (PP (K.extBut b.extBut D.i1z) (L.extBut b.extBut D.l1z) F λG i2 f=>Au ?_);have O:IsPair G o u v:=f.extBut _ _ D.TOi1 (b.extBut _ _ D.TOz V);refine Ad (F9 O rfl (Ad (wpAny_updateSeq_pair O λN o3 n=>Ad (wpAny_letGo (Au ?_)))));refine Ad (Ad (wpAny_onRaise ?_));show wpAny _ _ (Builtin.SmallTypes.nextOf (.ref j) >>= _) _ _ _;refine Ad (SJ J (((W.extBut b.extBut D.i2z).extBut f.extBut D.i12.symm).extBut n.extBut D.TOi2.symm) (((X.extBut b.extBut D.l2z).extBut f.extBut D.l2i1).extBut n.extBut D.l2TO) Z λg4 e P H=>?_);obtain⟨d,l,y⟩:=H;have R:IsZip g4 z a o .ellipsis:=P _ _ D.i2z.symm (n.extBut _ _ D.TOz.symm (f.extBut _ _ D.i1z.symm C));have ne:e≠z:=λt=>by subst t;rw[R] at l;cases l;simp at y
   exact wpAny_setField_rec R (by simp) λg5 _ S=>T g5 e (λc d B n2 I n4 t=>S.extBut _ _ B (P _ _ n4 (n.extBut _ _ n2 (f.extBut _ _ I (b.extBut _ _ B t))))) ⟨d,S.extBut _ _ ne l,y⟩
theorem Zu{i p:Addr}{k m:Nat}{xs:Array Value}{x y v:Value}{Q:Option Value->Shared->Prop}(D:ZipApart z a o i j p q)(b:IsZip s.heap z a o .none)(f:IsPair s.heap a (.ref i) (.ref j))(h:IsPair s.heap o u v)
 (l:s.heap.IsTupleIter i p k) (n:s.heap.IsTupleIter j q m) (r:s.heap.IsTuple p xs) (t:s.heap.IsTuple q ys) (B:xs[k]?=some x) (C:ys[m]?=some y)
 (N:∀g,IsZip g z a o (rawInt s.heap.objs.size)->IsPair g o x y->g.IsTupleIter i p (k+1)->g.IsTupleIter j q (m+1)->IsPair g s.heap.objs.size x y->g.objs.size=s.heap.objs.size+1->(∀c d,c≠z->c≠o->c≠i->c≠j->s.heap.get? c=some d->g.get? c=some d)->Q (some (.ref s.heap.objs.size)) {s with heap:=g}):wpAny (model prog w) A (pyNext (.ref z)) Q E s:=by
 have e:s.TypeIs (.ref z) "zip" :=⟨_,b,rfl⟩;unfold pyNext;exact Ad (wpAny_attempt (wpAny_callSpecial?_slot (name:=Str.ofString "__next__") e F.slot_zip_next (wpAny_call_entry F.slot_zip_next e F.entry_zip_next (Zs D b f h l n r t B C λg G H I J K L M=>Au (N g G H I J K L M)) (F.args_zip_next_1 _))))
theorem Zv{i p:Addr}{k m:Nat}{xs:Array Value}{v:Value}{Q:Option Value->Shared->Prop}(l:A.handled=none)(D:ZipApart z a o i j p q)(f:IsZip s.heap z a o .none)(n:IsPair s.heap a (.ref i) (.ref j))(r:IsPair s.heap o u v)
 (t:s.heap.IsTupleIter i p k) (x:s.heap.IsTupleIter j q m) (y:s.heap.IsTuple p xs) (B:s.heap.IsTuple q ys) (K:xs[k]?=none\/ys[m]?=none)
 (J:∀g,(∀c d,c≠z->c≠o->c≠i->c≠j->s.heap.get? c=some d->g.get? c=some d)->Q none {s with heap:=g}):wpAny (model prog w) A (pyNext (.ref z)) Q E s:=by
 have h:s.TypeIs (.ref z) "zip" :=⟨_,f,rfl⟩;unfold pyNext;refine Ad (wpAny_attempt (wpAny_callSpecial?_slot (name:=Str.ofString "__next__") h F.slot_zip_next (wpAny_call_entry F.slot_zip_next h F.entry_zip_next (Zt l D f n r t x y B K λg e C G=>?_) (F.args_zip_next_1 _))));obtain⟨d,H,I⟩:=G;exact Ad (wpAny_isInstance (T:= "StopIteration") (b:=true) ⟨d,H,I⟩ isSubtype_stop (Au (J _ C)))
end
abbrev PQ (h:Heap) (p:Addr):Heap:=h.push {cls:=.type "tuple_iterator",data:=.fields #[.ref p,.int 0 0]}
abbrev PR (h:Heap) (p q:Addr):Heap:=(PQ h p).push {cls:=.type "tuple_iterator",data:=.fields #[.ref q,.int 0 0]}
abbrev PU (h:Heap) (p q:Addr):Heap:=(PR h p q).push {cls:=.type "tuple",data:=.seq #[.ref h.objs.size,.ref (PQ h p).objs.size]}
abbrev PV (h:Heap) (p q:Addr):Heap:=(PU h p q).push {cls:=.type "tuple",data:=.seq #[.none,.none]}
abbrev LX (h:Heap) (p q:Addr):Heap:=(PV h p q).push {cls:=.type "zip",data:=.fields #[.none,.bool false,.bool false,.ref (PR h p q).objs.size,.ref (PU h p q).objs.size]}
theorem Zw(p q:Addr)(xs ys:Array Value):Meets (Builtin.«zip.__new__» ⟨[.type "zip",.ref p,.ref q],[]⟩) (λ_ R s=>s.heap.IsTuple p xs/\s.heap.IsTuple q ys/\R (.ok (.ret (.ref (PV s.heap p q).objs.size))) {s with heap:=LX s.heap p q}):=
 .of_wp λprog w A R s h=>by
  obtain⟨a,g,d,tk,b⟩:=s;obtain⟨c,e,h⟩:=h;have j:=sub_zip;have f:Heap.IsTuple (Shared.heap ⟨a,g,d,tk,b⟩) p xs:=c;have i:Heap.IsTuple (Shared.heap ⟨a.push {cls:=.type "tuple_iterator",data:=.fields #[.ref p,.int 0 0]},g,d,tk,b⟩) q ys:=Heap.IsTuple.push e _
  wp_walk using wpAny_pyIter_tuple f,wpAny_pyIter_tuple i
  exact⟨_,rfl,h⟩
theorem Zx{w:World}{p q:Addr}{xs ys:Array Value}(m:s.heap.IsTuple p xs)(n:s.heap.IsTuple q ys)
 (h:∀g,IsZip g (s.heap.objs.size+4) (s.heap.objs.size+2) (s.heap.objs.size+3) .none->IsPair g (s.heap.objs.size+2) (.ref s.heap.objs.size) (.ref (s.heap.objs.size+1))->IsPair g (s.heap.objs.size+3) .none .none->g.IsTupleIter s.heap.objs.size p 0->g.IsTupleIter (s.heap.objs.size+1) q 0->g.objs.size=s.heap.objs.size+5->(∀c o,s.heap.get? c=some o->g.get? c=some o)->Q (.ref (s.heap.objs.size+4)) {s with heap:=g}) :
 wpAny (model prog w) A (call (.type "zip") [.ref p,.ref q]) Q E s:=by
 refine callType_new F.called_zip (by decide) (F.typeCall_zip_2 _ _) (F.newCall_zip_2 _ _) (λu=>F.args_object_init_3 u _ _) F.entry_zip_new (Zw p q xs ys) ⟨m,n,?_⟩;have a:(PQ s.heap p).objs.size=s.heap.objs.size+1:=Heap.size_push ..;have b:(PR s.heap p q).objs.size=s.heap.objs.size+2:=(by rw[Heap.size_push,a]);have d:(PU s.heap p q).objs.size=s.heap.objs.size+3:=(by rw[Heap.size_push,b]);have f:(PV s.heap p q).objs.size=s.heap.objs.size+4:=(by rw[Heap.size_push,d]);have r:(LX s.heap p q).objs.size=s.heap.objs.size+5:=(by rw[Heap.size_push,f]);have i:(LX s.heap p q).get? (PV s.heap p q).objs.size=some _:=B4 _ rfl;have j:(LX s.heap p q).get? (PU s.heap p q).objs.size=some _:=A8 _ (B4 _ rfl);have k:(LX s.heap p q).get? (PR s.heap p q).objs.size=some _:=A8 _ (A8 _ (B4 _ rfl));have l:(LX s.heap p q).get? (PQ s.heap p).objs.size=some _:=A8 _ (A8 _ (A8 _ (B4 _ rfl)));have t:(LX s.heap p q).get? s.heap.objs.size=some _:=A8 _ (A8 _ (A8 _ (A8 _ (B4 _ rfl))));show _/\_;rw[b,d,f] at i;rw[a,b] at k;rw[d] at j;rw[a] at l;rw[f];exact⟨⟨_,i,rfl⟩,h _ i k j ⟨_,t,rfl,rfl⟩ ⟨_,l,rfl,rfl⟩ r λc o e=>A8 _ (A8 _ (A8 _ (A8 _ (A8 _ e))))⟩
def HF (K:Ah) (l1 l2:Addr):It:=
 ⟨λi H=>∃xs ys x y,Aq K H l1 xs/\Aq K H l2 ys/\xs[i]?=some x/\ys[i]?=some y,
  λi H v H'=>∃T x y,H T=none/\v=.ref T/\H'=upd H T (.tup [x,y])/\(∀xs,Aq K H l1 xs->xs[i]?=some x)/\∀ys,Aq K H l2 ys->ys[i]?=some y,
  λi H=>∃xs ys,Aq K H l1 xs/\Aq K H l2 ys/\(xs.length<=i\/ys.length<=i)⟩
def Ol (z TI TO i1 i2 l1 l2:Addr) (i:Nat) (h:Heap):Prop:=IsZip h z TI TO .none/\IsPair h TI (.ref i1) (.ref i2)/\(∃a b,IsPair h TO a b)/\h.IsTupleIter i1 l1 i/\h.IsTupleIter i2 l2 i
theorem Zy{P:Program}{w:World}{K:Ah}{k:Nat}{z TI TO g h l1 l2:Addr}(D:ZipApart z TI TO g h l1 l2) :
 Fh P w K (.Tuple es k L) (HF K l1 l2) [z,TI,TO,g,h] z (Ol z TI TO g h l1 l2) where
 mem:=by simp
 obj:=λi aa C b d=>by
  obtain⟨F,G,⟨a,c,M⟩,⟨o1,e1,c1,d1⟩,⟨o2,e2,c2,d2⟩⟩:=C;simp at d;rcases d with rfl|rfl|rfl|rfl|rfl;exact⟨_,F,λv q=>by cases q⟩;exact⟨_,G,λv q=>by cases q⟩;exact⟨_,M,λv q=>by cases q⟩;exact⟨_,e1,λv q=>by rw[d1] at q;cases q⟩;exact⟨_,e2,λv q=>by rw[d2] at q;cases q⟩
 keep:=λi aa h' C T=>by
  obtain⟨F,G,⟨a,c,M⟩,N,O⟩:=C;exact⟨T z (by simp) _ F,T TI (by simp) _ G,⟨a,c,T TO (by simp) _ M⟩,N.at λo e=>T g (by simp) o e,O.at λo e=>T h (by simp) o e⟩
 item:=by
  intro ab hP hw hK A i ak s σ H E I B C hg;subst hP hw hK;obtain⟨xs,ys,x,y,Y,Z,hx,hy⟩:=hg;obtain⟨F,G,⟨a,c,M⟩,N,O⟩:=C;obtain⟨a0,ag,p1,ao⟩:=I.tuple Y;obtain⟨a7,ah,ae,aq⟩:=I.tuple Z;obtain⟨V,ar,au⟩:=ag.get hx;obtain⟨W,av,aw⟩:=ah.get hy;refine Zu D F G M N O p1 ae (x:=V) (y:=W) (by simpa using ar) (by simpa using av) λh' a1 a2 a3 a4 a5 a6 J=>?_;refine⟨_,rfl,wpAny_letOwnedTupleGo_zip (s:={s with heap:=h'}) a1 λU a8 S=>?_⟩;have l:=B z (by simp);have t:=B TO (by simp);have p:=B g (by simp);have r:=B h (by simp);have GU:∀b u,H b=some u->b≠z/\b≠TO/\b≠g/\b≠h:=λb u e=>⟨AJ e l.1,AJ e t.1,AJ e p.1,AJ e r.1⟩;have keep:∀b o,b≠z->b≠TO->b≠g->b≠h->s.heap.get? b=some o->U.get? b=some o:=λb o X n2 n3 n4 e=>(S.2 b X).trans (J b o X n2 n3 n4 e);have f:∀{b:Addr},b∉[z,TO,g,h]->b≠z/\b≠TO/\b≠g/\b≠h:=λ{b}d=>by simpa using d
  have I1:Inv ab ak σ H {s with heap:=U}:=by
   refine I.step (g':=s.gens) (t':=s.toks) (d':=s.drawn) (h':=U) (ch:=[z,TO,g,h]) (λb d=>?_) (λb j _ _ d e _=>keep b j (f d).1 (f d).2.1 (f d).2.2.1 (f d).2.2.2 e) (λb j _ _ d e _=>⟨j.slots,keep b j (f d).1 (f d).2.1 (f d).2.2.1 (f d).2.2.2 e⟩)
    (λ_ _ _ _ n=>n) (λb j d e=>⟨j,keep b j (f d).1 (f d).2.1 (f d).2.2.1 (f d).2.2.2 e⟩) (λ_ _ e=>e) (λ_ _ _ e=>e) (λb ps e=>⟨#[],by rw[e];simp⟩) (λm hm=>?_) (λb u e=>?_) I.bare
   have:b=z\/b=TO\/b=g\/b=h:=(by simpa using d);rcases this with rfl|rfl|rfl|rfl;exact⟨l.2.2.2.1,l.2.1,l.2.2.2.2.1,l.2.2.2.2.2⟩;exact⟨t.2.2.2.1,t.2.1,t.2.2.2.2.1,t.2.2.2.2.2⟩;exact⟨p.2.2.2.1,p.2.1,p.2.2.2.2.1,p.2.2.2.2.2⟩;exact⟨r.2.2.2.1,r.2.1,r.2.2.2.2.1,r.2.2.2.2.2⟩;obtain⟨o,es,ep,ho,af⟩:=hm;exact⟨o,es,ep,keep _ o (Ne.symm l.2.1) (Ne.symm t.2.1) (Ne.symm p.2.1) (Ne.symm r.2.1) ho,af⟩;refine(I.hok b u e).stay (λc v A q=>?_) (λ_ q=>q) λ_ _ q=>q
   have ai:∃Q,H c=some Q:=by
    rcases A with rfl|A;exact⟨_,e⟩;exact⟨_,A⟩
   obtain⟨Q,R⟩:=ai;obtain⟨X,n2,n3,n4⟩:=GU c Q R;exact keep c v X n2 n3 n4 q
  have ax:s.heap.objs.size≠z:=Nat.ne_of_gt (A1 F);have al:H s.heap.objs.size=none:=I.hok.fresh (AB _);have an:U.get? s.heap.objs.size=some {cls:=.type "tuple",data:=.seq #[V,W]}:=(S.2 _ ax).trans a5
  have I2:Inv ab ak σ (upd H s.heap.objs.size (.tup [x,y])) {s with heap:=U}:=by
   refine I1.track (I.fpOk (AB _) al) ⟨_,an⟩ ?_;exact⟨by show 2<=sizeLine;decide,[V,W],.cons au (.cons aw .nil),⟨_,an,rfl,_,rfl⟩⟩
  refine⟨.ref s.heap.objs.size,_,I2,rfl,⟨s.heap.objs.size,x,y,al,rfl,rfl,λzs aj=>by rw[I.tuple_inj aj Y];exact hx,λzs aj=>by rw[I.tuple_inj aj Z];exact hy⟩,?_,λb d=>?_⟩;refine⟨a8,S.extBut _ _ D.TIz (J _ _ D.TIz D.TITO D.TIi1 D.TIi2 G),⟨V,W,S.extBut _ _ D.TOz a2⟩,a3.extBut S.extBut D.i1z,a4.extBut S.extBut D.i2z⟩;have ay:=(B b d).1;rw[AC (λq=>?_)];exact ay;have az:b=z\/b=TI\/b=TO\/b=g\/b=h:=(by simpa using d);obtain⟨o1,e1,_⟩:=N;obtain⟨o2,e2,_⟩:=O
  have lt:b<s.heap.objs.size:=by
   rcases az with rfl|rfl|rfl|rfl|rfl;exact A1 F;exact A1 G;exact A1 M;exact A1 e1;exact A1 e2
  rw[q] at lt;exact absurd lt (F7 _)
 done:=by
  intro ab hP hw hK A i ak s σ H E I B C hg;subst hP hw hK;obtain⟨xs,ys,Y,Z,aB⟩:=hg;obtain⟨F,G,⟨a,c,M⟩,N,O⟩:=C;obtain⟨a0,ag,p1,ao⟩:=I.tuple Y;obtain⟨a7,ah,ae,aq⟩:=I.tuple Z;have a9:=ag.length;have aA:=ah.length;refine Zv (I.ok.hd A) D F G M N O p1 ae (by simp;omega) λh' J=>⟨rfl,?_⟩;have l:=B z (by simp);have t:=B TO (by simp);have p:=B g (by simp);have r:=B h (by simp);have f:∀{b:Addr},b∉[z,TO,g,h]->b≠z/\b≠TO/\b≠g/\b≠h:=λ{b}d=>by simpa using d
  refine I.step (g':=s.gens) (t':=s.toks) (d':=s.drawn) (h':=h') (ch:=[z,TO,g,h]) (λb d=>?_) (λb j _ _ d e _=>J b j (f d).1 (f d).2.1 (f d).2.2.1 (f d).2.2.2 e) (λb j _ _ d e _=>⟨j.slots,J b j (f d).1 (f d).2.1 (f d).2.2.1 (f d).2.2.2 e⟩)
   (λ_ _ _ _ n=>n) (λb j d e=>⟨j,J b j (f d).1 (f d).2.1 (f d).2.2.1 (f d).2.2.2 e⟩) (λ_ _ e=>e) (λ_ _ _ e=>e) (λb ps e=>⟨#[],by rw[e];simp⟩) (λm hm=>?_) (λb u e=>?_) I.bare
  have:b=z\/b=TO\/b=g\/b=h:=(by simpa using d);rcases this with rfl|rfl|rfl|rfl;exact⟨l.2.2.2.1,l.2.1,l.2.2.2.2.1,l.2.2.2.2.2⟩;exact⟨t.2.2.2.1,t.2.1,t.2.2.2.2.1,t.2.2.2.2.2⟩;exact⟨p.2.2.2.1,p.2.1,p.2.2.2.2.1,p.2.2.2.2.2⟩;exact⟨r.2.2.2.1,r.2.1,r.2.2.2.2.1,r.2.2.2.2.2⟩;obtain⟨o,es,ep,ho,af⟩:=hm;exact⟨o,es,ep,J _ o (Ne.symm l.2.1) (Ne.symm t.2.1) (Ne.symm p.2.1) (Ne.symm r.2.1) ho,af⟩;refine(I.hok b u e).stay (λc v A q=>?_) (λ_ q=>q) λ_ _ q=>q
  have ai:∃Q,H c=some Q:=by
   rcases A with rfl|A;exact⟨_,e⟩;exact⟨_,A⟩
  obtain⟨Q,R⟩:=ai;exact J c v (AJ R l.1) (AJ R t.1) (AJ R p.1) (AJ R r.1) q
 self:=λ_ _ _ _ _ C aa=>wpAny_pyIter_zip C.1 aa
theorem Zz{K:Ah}{a b:Addr}{ys:List V}{g:TG}{tb:TS}(Pv:Nat->St->Hp->Prop)(j:Pv 0 σ H)(k:∀i σ H,Pv i σ H->Aq K H a xs/\Aq K H b ys)
 (l:∀i x y T σ H,xs[i]?=some x->ys[i]?=some y->H T=none->Pv i σ H->g (.ref T) σ (upd H T (.tup [x,y])) λσ2 c=>tb {D with nx:=Pv (i+1),ct:=Pv (i+1),bk:=D.nx} σ2 c) (hd:∀σ H,Pv (min xs.length ys.length) σ H->D.nx σ H) :
 ∃W:Nat->Nat->St->Hp->Prop,(∃m,W 0 m σ H)/\∀i m σ H,W i m σ H ->
  ((HF K a b).stop i H/\D.nx σ H)\/((HF K a b).go i H/\∃N:St->Hp->Prop,(∀σ' H',N σ' H'->∃h,h<m/\W (i+1) h σ' H')/\∀x H',(HF K a b).yld i H x H'->g x σ H' λσ2 c=>tb {D with nx:=N,ct:=N,bk:=D.nx} σ2 c):=by
 refine⟨λi m σ H=>m=min xs.length ys.length-i/\i<=min xs.length ys.length/\Pv i σ H,⟨_,rfl,Ci _,j⟩,?_⟩;rintro i m σ H ⟨rfl,z,p⟩;obtain⟨d,f⟩:=k i σ H p;by_cases w:i<min xs.length ys.length;have n:i<xs.length:=(by omega);have o:i<ys.length:=(by omega);refine .inr ⟨⟨xs,ys,xs[i],ys[i],d,f,by simp[n],by simp[o]⟩,Pv (i+1),λσ' H' q=>⟨min xs.length ys.length-(i+1),by omega,rfl,w,q⟩,λv H' y=>?_⟩;obtain⟨T,x,r,s,rfl,rfl,t,u⟩:=y;exact l i x r T σ H (t xs d) (u ys f) s p;have e:i=min xs.length ys.length:=(by omega);refine .inl ⟨⟨xs,ys,d,f,by omega⟩,?_⟩;rw[e] at p;exact hd σ H p
def Om (K:Ah) (ta:TA):TI:=λσ H R=>ta σ H λvs Y=>∃l1 l2,vs=[.ref l1,.ref l2]/\(((∃xs,Ag K Y l1 xs)/\(∃ys,Ag K Y l2 ys)/\R (NZ K l1 l2) Y)\/((∃xs,Aq K Y l1 xs)/\(∃ys,Aq K Y l2 ys)/\R (HF K l1 l2) Y))
theorem JA{X:Cx}{k:Nat}{j:Pos}{a b:Expr}{D:TA}{p:Pos}(F:Gl X "zip")(G:X.mg "zip" = none)(K:PA X [a,b] D)(M:starEach [a,b] X.env=[(false,eval a X.env),(false,eval b X.env)]:=by rfl)(E:starEach [b] X.env=[(false,eval b X.env)]:=by rfl) :
 PI X (.Tuple es k j) (.Call (.Name "zip" p) [a,b] [] L) (Om X.K D):=by
 intro ae s σ H ah I h;refine Call_ (IR I F G (u:=.type "zip") (by decide +kernel) (PyProof.Rows.callWith_type1 (AV (K L ae s σ H _ I h) λus c⟨vs,Y,d,N,O⟩=>?_) (by rw[M,E]) (by rw[E];rfl)));obtain⟨l,m,rfl,P⟩:=O;obtain⟨Q,R,rfl,T,U⟩:=IX N;obtain rfl:Q=Value.ref l:=T;obtain rfl:R=Value.ref m:=U;rcases P with⟨⟨xs,w⟩,⟨S,x⟩,q⟩|⟨⟨xs,w⟩,⟨S,x⟩,q⟩;obtain⟨af,V,f,W⟩:=d.list w;obtain⟨ag,Z,J,aa⟩:=d.list x;have n:l<c.heap.objs.size:=by obtain⟨_,e,_⟩:=f.isList;exact A1 e
 have o:m<c.heap.objs.size:=by obtain⟨_,e,_⟩:=J.isList;exact A1 e
 refine call_zip_2 f.isList J.isList λr g y z A B ab t=>?_;refine wpAny_pyIter_zip (s:={c with heap:=r}) g ?_;refine⟨_,[c.heap.objs.size+4,c.heap.objs.size+2,c.heap.objs.size+3,c.heap.objs.size,c.heap.objs.size+1],_,_,Y,rfl,d.kept (t':=c.toks) t,Yd (zipApart_new n o),⟨g,y,⟨_,_,z⟩,A,B⟩,λb v=>?_,q⟩
 have i:c.heap.objs.size<=b:=by
  have C:b=c.heap.objs.size+4\/b=c.heap.objs.size+2\/b=c.heap.objs.size+3\/b=c.heap.objs.size\/b=c.heap.objs.size+1:=(by simpa using v);rcases C with rfl|rfl|rfl|rfl|rfl;exact Nat.le_add_right _ _;exact Nat.le_add_right _ _;exact Nat.le_add_right _ _;exact AB _;exact Nat.le_add_right _ _
 exact d.fpOk i (d.hok.fresh i);obtain⟨af,V,f,W⟩:=d.tuple w;obtain⟨ag,Z,J,aa⟩:=d.tuple x;have n:l<c.heap.objs.size:=by obtain⟨_,e,_⟩:=f;exact A1 e
 have o:m<c.heap.objs.size:=by obtain⟨_,e,_⟩:=J;exact A1 e
 refine Zx f J λr g y z A B ab t=>?_;refine wpAny_pyIter_zip (s:={c with heap:=r}) g ?_;refine⟨_,[c.heap.objs.size+4,c.heap.objs.size+2,c.heap.objs.size+3,c.heap.objs.size,c.heap.objs.size+1],_,_,Y,rfl,d.kept (t':=c.toks) t,Zy (zipApart_new n o),⟨g,y,⟨_,_,z⟩,A,B⟩,λb v=>?_,q⟩
 have i:c.heap.objs.size<=b:=by
  have C:b=c.heap.objs.size+4\/b=c.heap.objs.size+2\/b=c.heap.objs.size+3\/b=c.heap.objs.size\/b=c.heap.objs.size+1:=(by simpa using v);rcases C with rfl|rfl|rfl|rfl|rfl;exact Nat.le_add_right _ _;exact Nat.le_add_right _ _;exact Nat.le_add_right _ _;exact AB _;exact Nat.le_add_right _ _
 exact d.fpOk i (d.hok.fresh i)
mutual
inductive A9 (F:Addr->Prop) (H:Hp):V->Dt->Prop where
 | non:A9 F H .non .non
 | bl (b:Bool):A9 F H (.bl b) (.bl b)
 | int (i:Int):A9 F H (.int i) (.int i)
 | str (x:Str):A9 F H (.str x) (.str x)
 | tup {a:Addr} {vs:List V} {ds:List Dt} (h:H a=some (.tup vs)) (t:Ax F H vs ds):A9 F H (.ref a) (.tup ds)
 | lst {a:Addr} {vs:List V} {ds:List Dt} (h:H a=some (.lst vs)) (f:F a) (t:Ax F H vs ds):A9 F H (.ref a) (.lst ds)
inductive Ax (F:Addr->Prop) (H:Hp):List V->List Dt->Prop where
 | nil:Ax F H [] []
 | cons {v:V} {d:Dt} {vs:List V} {ds:List Dt} (h:A9 F H v d) (t:Ax F H vs ds):Ax F H (v :: vs) (d :: ds)
end
mutual
theorem A9.go {F G:Addr->Prop}{H H':Hp} (e:∀ a vs,H a=some (.tup vs)->H' a=some (.tup vs)) (l:∀ a vs,H a=some (.lst vs)->F a->H' a=some (.lst vs)/\G a) {v:V} {d:Dt} (h:A9 F H v d):A9 G H' v d:=by
 cases h with
 | non=>exact .non
 | bl b=>exact .bl b
 | int i=>exact .int i
 | str x=>exact .str x
 | tup h t=>exact .tup (e _ _ h) (Ax.go e l t)
 | lst h f t=>exact .lst (l _ _ h f).1 (l _ _ h f).2 (Ax.go e l t)
theorem Ax.go {F G:Addr->Prop}{H H':Hp} (e:∀ a vs,H a=some (.tup vs)->H' a=some (.tup vs)) (l:∀ a vs,H a=some (.lst vs)->F a->H' a=some (.lst vs)/\G a) {vs:List V} {b:List Dt} (h:Ax F H vs b):Ax G H' vs b:=by
 cases h with
 | nil=>exact .nil
 | cons h t=>exact .cons (A9.go e l h) (Ax.go e l t)
end
mutual
theorem A9.dt {K:Ah}{F:Addr->Prop}{H:Hp}{v:V}{d:Dt} (h:A9 F H v d):Ar K H v d:=by
 cases h with
 | non=>exact .non
 | bl b=>exact .bl b
 | int i=>exact .int i
 | str x=>exact .str x
 | tup h t=>exact .tup (Aq.of h) (Ax.dts t)
 | lst h f t=>exact .lst (Ag.of h) (Ax.dts t)
theorem Ax.dts {K:Ah}{F:Addr->Prop}{H:Hp}{vs:List V}{a:List Dt} (h:Ax F H vs a):An K H vs a:=by
 cases h with
 | nil=>exact .nil
 | cons h t=>exact .cons (A9.dt h) (Ax.dts t)
end
section
variable {F G M:Addr->Prop} {H H':Hp} {v:V} {d:Dt} {vs us:List V} {ds es:List Dt}
theorem A9.same(s:Ac H H')(h:A9 F H v d):A9 F H' v d:=h.go (λ_ _ q=>s _ _ q) λ_ _ q f=>⟨s _ _ q,f⟩
theorem Ax.same(s:Ac H H')(h:Ax F H vs ds):Ax F H' vs ds:=h.go (λ_ _ q=>s _ _ q) λ_ _ q f=>⟨s _ _ q,f⟩
theorem Ax.keeps(k:Keeps M H H')(a:∀x,F x->¬M x)(h:Ax F H vs ds):Ax F H' vs ds:=h.go (λ_ _ q=>k.tup q) λ_ _ q f=>⟨k.at_ _ _ q (a _ f),f⟩
theorem A9.mono(e:∀x o,H x=some o->F x->G x)(h:A9 F H v d):A9 G H v d:=h.go (λ_ _ q=>q) λ_ _ q f=>⟨q,e _ _ q f⟩
theorem Ax.mono(e:∀x o,H x=some o->F x->G x)(h:Ax F H vs ds):Ax G H vs ds:=h.go (λ_ _ q=>q) λ_ _ q f=>⟨q,e _ _ q f⟩
theorem Ax.length:∀{vs:List V}{ds:List Dt},Ax F H vs ds->vs.length=ds.length
 |_,_,.nil=>rfl
 |_,_,.cons _ t=>by rw[Ej,Ej,Ax.length t]
theorem Ax.snoc:∀{vs:List V}{ds:List Dt},Ax F H vs ds->A9 F H v d->Ax F H (vs++[v]) (ds++[d])
 |_,_,.nil,h=>.cons h .nil
 |_,_,.cons a t,h=>.cons a (Ax.snoc t h)
theorem Ax.get:∀{vs:List V}{ds:List Dt}{i:Nat}{v:V},Ax F H vs ds->vs[i]?=some v->∃d,ds[i]?=some d/\A9 F H v d
 |_,_,i,v,.nil,e=>by simp at e
 |_,_,0,v,.cons a t,e=>by simp at e;subst e;exact⟨_,rfl,a⟩
 |_,_,i+1,v,.cons a t,e=>by
   obtain⟨d,b,c⟩:=Ax.get (i:=i) t (by simpa using e);exact⟨d,by simpa using b,c⟩
theorem Ax.of_all{α:Type}{f:α->V}{g:α->Dt}:∀{l:List α},(∀x∈l,A9 F H (f x) (g x))->Ax F H (l.map f) (l.map g)
 |[],_=>.nil
 |x::l,h=>.cons (h x Bv) (Ax.of_all λy a=>h y (Ch _ a))
end
theorem SK{α:Type}{f:α->List V}{D:α->Dt}{F:Addr->Prop}{H:Hp}(d:∀(r:α)(t:Addr),H t=some (.tup (f r))->A9 F H (.ref t) (D r)):∀{ts:List Addr}{c:List α},RT f H ts c->Ax F H (ts.map V.ref) (c.map D)
 |[],[],_=>.nil
 |[],_::_,h=>by have:=h.len;simp at this
 |_::_,[],h=>by have:=h.len;simp at this
 |t::ts,r::c,h=>.cons (d r t (h.at_ 0 t r rfl rfl)) (SK d ⟨by simpa using h.len,λn a b e g=>h.at_ (n+1) a b (by simpa using e) (by simpa using g)⟩)
variable {F:Addr->Prop}
theorem HG(r:Ap)(t:Addr)(h:H t=some (.tup (GK r))):A9 F H (.ref t) (PB r):=.tup h (.cons (.int _) (.cons (.str _) (.cons (.int _) .nil)))
theorem CO.own{t:Addr}(h:CO F H t w):A9 F H (.ref t) (CC.D w):=by
 obtain⟨d,a,b,c⟩:=h;exact .lst a c (SK HG b)
variable {b:AQ}
theorem DH.own{t:Addr}(h:DH F H t b):A9 F H (.ref t) (DP.D b):=by
 obtain⟨l,f,a,c,d,e⟩:=h;exact .tup a (.cons (.lst c e (SK HG d)) (.cons (.int _) (.cons (.int _) .nil)))
def KH (ss:List Bi) (m:Ap):DU:=match ss[m.1.toNat]? with
 |some s=>(match s.2[m.2.2.toNat]? with
   |some p=>p
   |none=>default)
 |none=>default
theorem VZ{k:Nat}{s:Bi}{p:DU}(a:m.1=(n:Int))(b:m.2.2=(k:Int))(c:ss[n]?=some s)(d:s.2[k]?=some p):KH ss m=p:=by
 unfold KH;rw[a,b,Be,Be,c];dsimp only;rw[d]
def Ck (ss:List Bi) (w:List Ap):DU:=match w.getLast? with
 |some m=>KH ss m
 |none=>default
def Do (ss:List Bi) (w:List Ap):Prop:=∃(v:List Ap)(m:Ap),w=v++[m]/\Et ss m/\m.2.1=("told" : Str)
theorem PX(ss:List Bi)(v:List Ap)(m:Ap):Ck ss (v++[m])=KH ss m:=by
 unfold Ck;rw[List.getLast?_concat]
def Ft (W:Wd) (w:List Ap):Option Int:=if(Ck W.ss w).2.2.1=("by" : Str)/\W.as[(Ck W.ss w).2.2.2.toNat]?=some none then some (Ck W.ss w).2.2.2 else none
def Fu (W:Wd):List (List Ap)->Option Ow
 |[]=>none
 |w::ws=>match Ft W w with
   |some q=>some (w,q)
   |none=>Fu W ws
def Bt (W:Wd) (w:List Ap):Option Int:=if(Ck W.ss w).2.2.1=("thing" : Str) then some (Ck W.ss w).2.2.2 else match W.as[(Ck W.ss w).2.2.2.toNat]? with
 |some (some p)=>if p.1=("thing" : Str) then some p.2 else none
 |_=>none
noncomputable def FF (ss:List Bi) (ord:List (Str×Str)) (ws:List (List Ap)):List Ow->Option Ow
 |[]=>none
 |o::os=>if(ws.any λv=>Cg ss ord v o.1)=true then FF ss ord ws os else some o
abbrev Wt:Type:=Int×List Ap×Int
abbrev HH:Option Wt->Dt
 |none=>.non
 |some p=>.tup [.int p.1,CC.D p.2.1,.int p.2.2]
noncomputable def Eu (W:Wd) (ord:List (Str×Str)) (ws:List (List Ap)) (os:List Ow):Option Ow:=match FF W.ss ord ws os with
 |some o=>some o
 |none=>Fu W (CP W.ss ord ws ws)
def Dc (W:Wd) (seen:List (List Ap)) (at_:Int):Str×Int:=if ∀w∈seen,Bt W w=none then("none",at_) else match seen with
 |[]=>("none",at_)
 |w::_=>(match Bt W w with
   |some n=>if ∀v∈seen,Bt W v=some n then("thing",n) else("torn",at_)
   |none=>("torn",at_))
noncomputable def B7 (W:Wd) (ord:List (Str×Str)) (ws:List (List Ap)) (os:List Ow) (at_:Int):Option (Str×Int)×Option Wt:=match Eu W ord ws os with
 |some o=>(none,some (at_,o.1,o.2))
 |none=>(some (Dc W (CP W.ss ord ws ws) at_),none)
variable {W:Wd}{os:List Ow}{at_:Int}{o:Ow}
theorem M4{ws:List (List Ap)}(h:Eu W ord ws os=some o):B7 W ord ws os at_=(none,some (at_,o.1,o.2)):=by unfold B7;rw[h]
theorem JB{ws:List (List Ap)}(h:Eu W ord ws os=none):B7 W ord ws os at_=(some (Dc W (CP W.ss ord ws ws) at_),none):=by unfold B7;rw[h]
theorem V0{ws:List (List Ap)}(h:Eu W ord ws os=none):Fu W (CP W.ss ord ws ws)=none:=by
 unfold Eu at h
 cases e:FF W.ss ord ws os with
 |some o=>rw[e] at h;cases h
 |none=>rw[e] at h;exact h
theorem SM{a:List (List Ap)}(h:∀w∈a,Bt W w=none):Dc W a at_=(("none" : Str),at_):=Aj h
theorem SN{r:List (List Ap)}(h:¬∀v∈w::r,Bt W v=none)(k:¬∀v∈w::r,Bt W v=Bt W w):Dc W (w::r) at_=(("torn" : Str),at_):=by
 unfold Dc;rw[Ak h];dsimp only
 cases e:Bt W w with
 |none=>rfl
 |some n =>
   rw[e] at k;exact Ak k
theorem SO{r:List (List Ap)}(h:¬∀v∈w::r,Bt W v=none)(k:∀v∈w::r,Bt W v=Bt W w):∃n,Bt W w=some n/\Dc W (w::r) at_=(("thing" : Str),n):=by
 cases e:Bt W w with
 |none=>exact absurd (λv a=>by rw[k v a,e]) h
 |some n =>
   refine⟨n,rfl,?_⟩;unfold Dc;rw[Ak h];dsimp only;rw[e];exact Aj λv a=>by rw[k v a,e]
theorem V1{a b:Option Int}(h:Ee a=Ee b):a=b:=by
 cases a<;>cases b<;>first|rfl|(cases h;rfl)|cases h
theorem JC{a:Option Int}:Ee a=.non↔a=none:=⟨λh=>V1 (b:=none) h,λh=>by rw[h];rfl⟩
theorem ZA(a b:Option Int):Lf (Ee a) (Ee b)=true:=by cases a<;>cases b<;>rfl
theorem FQ:(((l.map λw=>Ee (Bt W w)).map λv=>decide (v=V.non)).all id=true)↔∀w∈l,Bt W w=none:=by
 simp only[List.all_map,List.all_eq_true,Function.comp,id,decide_eq_true_eq,JC]
theorem HI:(((l.map λw=>Ee (Bt W w)).map λv=>!decide (v=Ee (Bt W w))).any id=true)↔¬∀v∈l,Bt W v=Bt W w:=by
 simp only[List.any_map,Go,Function.comp,id,Bool.not_eq_true',decide_eq_false_iff_not];refine⟨λ⟨v,a,b⟩h=>b (by rw[h v a]),λh=>?_⟩;refine Classical.byContradiction λn=>h λv c=>?_;exact Classical.byContradiction λm=>n ⟨v,c,λz=>m (V1 z)⟩
abbrev Lk:Type:=List AQ×List (List Ap)×List (List Ap)
abbrev M5 (l:Lk):Dt:=.tup [.lst (l.1.map DP.D),.lst (l.2.1.map CC.D),.lst (l.2.2.map CC.D)]
structure CF (W:Wd) (ord:List (Str×Str)) (sc st:Int) (x:Str) (l:Lk) (os:List Ow):Prop where
 b:Db W sc st l.1
 f:M1 W x l.1 l.2.1
 s:l.2.2=CP W.ss ord l.2.1 l.2.1
 o:Od W l.1 os
abbrev CG (W:Wd) (n:Int):Str×Int:=match W.gs[n.toNat]? with
 |some p=>Dk W.gs W.as p
 |none=>("no",0)
inductive LU (W:Wd) (inn:Int) (ord:List (Str×Str)):Int->Int->List Str->Int->Option (Str×Int)->Option Wt->List Lk->List Int->Prop where
 |stop {sc st:Int} {x:Str} {r:List Str} {at_:Int} {l:Lk} {os:List Ow} {a:Option (Str×Int)} {w:Option Wt} (h:CF W ord sc st x l os) (e:B7 W ord l.2.1 os at_=(a,w)) (n:(∀k,a≠some (("thing" : Str),k))\/r=[]):LU W inn ord sc st (x::r) at_ a w [l] []
 |opn {sc st:Int} {x y:Str} {r:List Str} {at_:Int} {l:Lk} {os:List Ow} {n q:Int} {w:Option Wt} (h:CF W ord sc st x l os) (e:B7 W ord l.2.1 os at_=(some (("thing" : Str),n),w)) (i:CG W n=(("open" : Str),q)):LU W inn ord sc st (x::y::r) at_ none (some (at_,[],q)) [l] [n]
 |no {sc st:Int} {x y:Str} {r:List Str} {at_:Int} {l:Lk} {os:List Ow} {n q:Int} {w:Option Wt} (h:CF W ord sc st x l os) (e:B7 W ord l.2.1 os at_=(some (("thing" : Str),n),w)) (i:CG W n=(("no" : Str),q)):LU W inn ord sc st (x::y::r) at_ (some ("none",at_+1)) none [l] [n]
 |go {sc st:Int} {x y:Str} {r:List Str} {at_:Int} {l:Lk} {os:List Ow} {n q:Int} {w w':Option Wt} {a:Option (Str×Int)} {ls:List Lk} {ts:List Int} (h:CF W ord sc st x l os) (e:B7 W ord l.2.1 os at_=(some (("thing" : Str),n),w)) (i:CG W n=(("to" : Str),q)) (k:LU W inn ord q inn (y::r) (at_+1) a w' ls ts):LU W inn ord sc st (x::y::r) at_ a w' (l::ls) (n::ts)
variable {sc st:Int}{x:Str}
theorem SQ(ok:BY W)(e:0<=sc/\sc<W.ss.length)(f:0<=st/\st<W.sts.length){bs:List AQ}(c:Db W sc st bs)(a:w∈DW W x bs):Do W.ss w:=by
 have d:=(Sz ok e f c a).1;obtain⟨b,g,j,q,h,_,_,rfl⟩:=Sw a;exact⟨b.1,_,rfl,d _ (by simp),rfl⟩
theorem PY{all:List (List Ap)}(h:w∈CP ss ord all l):w∈l:=(MH.mp h).1
theorem M6(c:Bf W)(h:Do W.ss w):Fo W.gs.length W.as.length (Ck W.ss w):=by
 obtain⟨v,m,rfl,⟨n,k,s,d,f,a,g⟩,i⟩:=h;rcases g with⟨e,_⟩|⟨_,b⟩;exact absurd (i.symm.trans e) Sy;rw[PX,VZ d f a (AD b)];exact c.tl s (Bd a) _ (EC b)
theorem V2{l:Addr}{v:List Ap}(h:CO F H l (v++[m])):∃(a:List Addr)(t:Addr),H l=some (.lst (a.map V.ref))/\Bz (a.map V.ref) (-1)=some (.ref t)/\H t=some (.tup (GK m)):=by
 obtain⟨a,f,b,_⟩:=h;have g:=b.len;rw[AW,DE] at g;have d:v.length<a.length:=(by omega);have i:=AD d;refine⟨a,a[v.length],f,?_,b.at_ v.length _ m i (by simp)⟩
 have e:a.map V.ref=(a.take v.length).map V.ref++[V.ref a[v.length]]:=by
  have:a=a.take v.length++[a[v.length]]:=by
   have c:=List.take_append_drop v.length a;rw[MI d,List.drop_eq_nil_of_le (by omega)] at c;exact c.symm
  conv=>lhs;rw[this]
  rw[Bn];rfl
 rw[e];exact Sv _ _
def SS (F:Addr->Prop) (H:Hp) (v:V):Option Ow->Prop
 |none=>v=.non
 |some o=>∃p l,v=.ref p/\H p=some (.tup [.ref l,.int o.2])/\CO F H l o.1
theorem FE.way{t:Addr}{p:Ow}(h:FE F H t p):∃l,H t=some (.tup [.ref l,.int p.2])/\CO F H l p.1:=by
 obtain⟨l,a,b,c,d,e⟩:=h;exact⟨l,b,a,c,d,e⟩
variable {α:Type}
theorem SU{l:List α}{x:α}(h:l[i]?=some x):l.drop i=x::l.drop (i+1):=by
 obtain⟨a,rfl⟩:=A7.mp h;exact MI a
theorem V3{ws:List (List Ap)}(h:(ws.any λv=>Cg ss ord v o.1)=false):FF ss ord ws (o::os)=some o:=by
 unfold FF;rw[h,Ak Cq]
theorem V4{ws:List (List Ap)}(h:(ws.any λv=>Cg ss ord v o.1)=true):FF ss ord ws (o::os)=FF ss ord ws os:=by
 conv=>lhs;unfold FF
 rw[h,Aj rfl]
variable {q:Int}
theorem V5{ws:List (List Ap)}(h:Ft W w=some q):Fu W (w::ws)=some (w,q):=by
 unfold Fu;rw[h]
theorem PZ{ws:List (List Ap)}(h:Ft W w=none):Fu W (w::ws)=Fu W ws:=by
 conv=>lhs;unfold Fu
 rw[h]
theorem SV{W:Wd}:∀{ws:List (List Ap)},Fu W ws=none->∀w∈ws,Ft W w=none
 |[],_,w,h=>by cases h
 | x :: ws,e,w,h=>by
   cases ex:Ft W x with
   |some q=>rw[V5 ex] at e;cases e
   |none =>
     rw[PZ ex] at e;rcases Ce.mp h with rfl|h;exact ex;exact SV e w h
theorem A9.two{m:Addr}{d e:Dt}(h:A9 F H (.ref m) (.tup [d,e])):∃x y,H m=some (.tup [x,y])/\A9 F H x d/\A9 F H y e:=by
 cases h with
 | tup h t =>
   cases t with
   |cons a t =>
     cases t with
     |cons b t =>
       cases t with
       |nil=>exact⟨_,_,h,a,b⟩
theorem A9.ansN(h:A9 F H v (C9 none)):v=.non:=by cases h;rfl
theorem A9.ansS{p:Str×Int}(h:A9 F H v (C9 (some p))):∃t,v=.ref t/\H t=some (.tup [.str p.1,.int p.2]):=by
 have c:A9 F H v (.tup [.str p.1,.int p.2]):=h
 cases v with
 |ref m =>
   obtain⟨x,y,e,a,b⟩:=c.two;cases a;cases b;exact⟨m,rfl,e⟩
 |_=>cases c
theorem SW:("none" : Str)≠("thing" : Str):=by decide +kernel
theorem V6:("torn" : Str)≠("thing" : Str):=by decide +kernel
theorem ZB{a:List (List Ap)}{n:Int}(h:Dc W a at_=(("thing" : Str),n)):∃w∈a,Bt W w=some n:=by
 unfold Dc at h;split at h;exact absurd (BC Prod.fst h) SW;split at h;exact absurd (BC Prod.fst h) SW;rename_i w r _;split at h;rename_i m b;split at h;refine⟨w,Bv,?_⟩;have e:m=n:=BC Prod.snd h;rw[b,e];exact absurd (BC Prod.fst h) V6;exact absurd (BC Prod.fst h) V6
theorem ZC(ok:BY W)(b:Bf W)(c:Do W.ss w){n:Int}(h:Bt W w=some n):0<=n/\n<W.gs.length:=by
 have tk:=M6 b c;unfold Bt at h;split at h;rename_i d;have e:=Bo h;rcases tk with⟨_,f⟩|⟨a,_⟩;rw[<-e];exact f;rw[d] at a;exact absurd a (by decide +kernel);split at h;rename_i p g;split at h;rename_i i;rw[<-Bo h];exact ok.an p (Bd g) i;cases h;cases h
theorem KI(ok:BY W)(a:Bf W){ws:List (List Ap)}{n:Int}{w:Option Wt}(b:∀w∈ws,Do W.ss w)(h:B7 W ord ws os at_=(some (("thing" : Str),n),w)):0<=n/\n<W.gs.length:=by
 unfold B7 at h;split at h;cases BC Prod.fst h;obtain⟨w,c,d⟩:=ZB (Bo (BC Prod.fst h));exact ZC ok a (b w (PY c)) d
theorem ZD(ths:List (Str×Int))(as:List (Option (Str×Int)))(q:Int):(Ed ths as q).1=("to" : Str)\/(Ed ths as q).1=("open" : Str)\/(Ed ths as q).1=("no" : Str):=by
 unfold Ed;split;split;split;split;exact .inl rfl;exact .inr (.inr rfl);exact .inr (.inr rfl);exact .inr (.inr rfl);exact .inr (.inl rfl);exact .inr (.inr rfl)
theorem ZE(ths:List (Str×Int))(as:List (Option (Str×Int)))(p:Str×Int):(Dk ths as p).1=("to" : Str)\/(Dk ths as p).1=("open" : Str)\/(Dk ths as p).1=("no" : Str):=by
 unfold Dk;split;exact .inl rfl;split;exact ZD ths as p.2;exact .inr (.inr rfl)
structure LC (K:Ah) (F:Addr->Prop) (H:Hp) (nt A t:Addr) (W:Wd) (qs:List Qu) (inn:Int) (ord:List (Str×Str)):Prop where
 net:∃(S T R:Addr)(us Gs Es ts qt:List Addr),H nt=some (.tup [.ref S,.ref T,.ref R])/\Gd H S T R us Gs Es ts qt W.ss W.gs qs
 ans:GZ K H A W.as
 tab:Gc K F H t W.sts inn ord
structure P0 (W:Wd) (qs:List Qu) (inn:Int) (ord:List (Str×Str)):Prop where
 ok:BY W
 sm:Bf W
 ol:ord.length<=40
 irr:∀x,(x,x)∉ord
 inn:0<=inn/\inn<W.sts.length
 q:∀q∈qs,(0<=q.1/\q.1<W.ss.length)/\(0<=q.2.1/\q.2.1<W.sts.length)/\1<=q.2.2.length/\q.2.2.length<=8
theorem LC.same{K:Ah}{F:Addr->Prop}{H H':Hp}{a A t:Addr}{W:Wd}{qs:List Qu}{inn:Int}{ord:List (Str×Str)}(e:Ac H H')(h:LC K F H a A t W qs inn ord):LC K F H' a A t W qs inn ord:=by
 obtain⟨⟨S,T,R,d,f,g,i,j,k,l⟩,b,c⟩:=h;exact⟨⟨S,T,R,d,f,g,i,j,e _ _ k,l.same e⟩,b.same e,c.same e⟩
variable {inn:Int}
theorem LC.caseH{K:Ah}{a A t:Addr}{qs:List Qu}(h:LC K F H a A t W qs inn ord):Bl K H a A t W:=by
 obtain⟨⟨S,T,R,d,e,f,g,i,j,k⟩,b,c⟩:=h;exact⟨⟨S,T,R,d,e,f,g,i,qs,j,k⟩,b,c.caseT⟩
variable {a:Option (Str×Int)}{ls:List Lk}{ts:List Int}
theorem LY{p:List Str}{w:Option Wt}(h:LU W inn ord sc st p at_ a w ls ts):ls.length<=p.length:=by
 induction h with
 |stop=>simp
 |opn=>simp
 |no=>simp
 |go _ _ _ _ b=>simpa using b
def Dn:Nat->Dt->Prop
 |0,_=>False
 |_+1,.non=>True
 |_+1,.bl _=>False
 |_+1,.int _=>True
 |_+1,.str _=>True
 |n+1,.tup l=>∀d∈l,Dn n d
 |n+1,.lst l=>∀d∈l,Dn n d
structure Fv (W:Wd):Prop where
 st:∀s∈W.ss,s.1.length<=8
 kst:∀s∈W.ss,∀p∈s.1,Fn W.ss.length W.as.length p
 kth:∀p∈W.gs,FM W.ss.length W.as.length p
 an:∀p,some p∈W.as->p.1=("thing" : Str)->0<=p.2/\p.2<W.gs.length
 go:∀s∈W.sts,∀p∈s.1,0<=p.2/\p.2<W.sts.length
theorem V7(h:Fv W){k:Str×Int}(c:k∈W.gs)(b:k.1=("part" : Str)):0<=k.2/\k.2<W.ss.length:=by
 rcases h.kth k c with⟨a,_⟩|⟨_,d⟩|⟨a,_⟩;rw[b] at a;exact absurd a (by decide +kernel);exact d;rw[b] at a;exact absurd a (by decide +kernel)
theorem ZF(h:Fv W){g:Str×Int}(e:Ed W.gs W.as q=g)(a:g.1=("to" : Str)):0<=g.2/\g.2<W.ss.length:=by
 unfold Ed at e;split at e;split at e;split at e;rename_i k b;split at e;rename_i c;subst e;exact V7 (k:=k) h (Bd b) c;subst e;exact absurd a F1;subst e;exact absurd a F1;subst e;exact absurd a F1;subst e;exact absurd a Py;subst e;exact absurd a F1
theorem ZG(h:Fv W){p:Str×Int}(b:p∈W.gs){g:Str×Int}(e:Dk W.gs W.as p=g)(a:g.1=("to" : Str)):0<=g.2/\g.2<W.ss.length:=by
 unfold Dk at e;split at e;rename_i c;subst e;exact V7 (k:=p) h b c;split at e;exact ZF h e a;subst e;exact absurd a F1
theorem ZH(h:Fv W){s:Bi}(c:s∈W.ss){p:Cd}(d:p∈s.1){g:Str×Int}(e:BL W.gs W.as p=g)(a:g.1=("to" : Str)):0<=g.2/\g.2<W.ss.length:=by
 unfold BL at e;split at e;rename_i j;subst e;rcases h.kst s c p d with⟨_,f⟩|⟨b,_⟩;exact f;rw[j] at b;exact absurd b (by decide +kernel);split at e;split at e;split at e;rename_i k i;exact ZG h (Bd i) e a;subst e;exact absurd a F1;subst e;exact absurd a F1;subst e;exact absurd a Py;subst e;exact absurd a F1
theorem B5.kid0(ok:Fv W){c:AQ}(h:B5 W b)(k:c∈Cv W b):B5 W c:=by
 obtain⟨r,e,g,i,rfl⟩:=AH.mp k;have f:=VB e;obtain⟨j,p,a,l,m,rfl⟩:=LM e;obtain⟨s,n,o⟩:=Vz (Bd l);refine⟨?_,?_,?_⟩;rw[f,List.nodup_append]
 exact⟨h.nd,by simp,λx d y q=>by
  rw[AY.mp q]
  exact λz=>i (z▸d)⟩
 rw[f];intro x d;rcases BB.mp d with d|d;exact h.rng x d;rw[AY.mp d];exact ZH ok n o rfl g;obtain⟨t,u,v⟩:=VA (Ss m);exact ok.go t u _ v
theorem AR.ok0(ok:Fv W)(d:0<=sc/\sc<W.ss.length)(e:0<=st/\st<W.sts.length)(h:AR W sc st b):B5 W b:=by
 induction h with
 |root=>exact⟨by simp[AU],λx a=>by simp[AU] at a;rw[a];exact d,e⟩
 |kid _ k c=>exact c.kid0 ok k
def EO (W:Wd) (sc st:Int):Nat->List AQ
 |0=>[([],sc,st)]
 |d+1=>(EO W sc st d).flatMap (Cv W)
theorem ZI(h:AR W sc st b):b∈EO W sc st b.1.length:=by
 induction h with
 |root=>exact Bv
 |@kid a c h k d =>
   obtain⟨r,_,_,_,rfl⟩:=AH.mp k;show _∈EO W sc st (a.1++[r.1]).length;rw[AW,DE];exact List.mem_flatMap.mpr ⟨a,d,k⟩
variable {B:Nat}
theorem V8(h:∀s∈W.ss,s.1.length<=B)(sc:Int):(BU W sc).length<=B:=by
 unfold BU;split;rename_i s a;exact h s (Bd a);exact Ci _
theorem V9{W:Wd}{B:Nat}(h:∀s∈W.ss,s.1.length<=B)(sc st:Int):∀d,(EO W sc st d).length<=B ^ d
 |0=>by show 1<=_;rw[Nat.pow_zero];exact AB _
 |d+1=>by
   have a:((EO W sc st d).flatMap (Cv W)).length<=(EO W sc st d).length*B:=Sx _ λb=>Ek (Vx W b) (V8 h _);have c:=Nat.mul_le_mul_right B (V9 h sc st d);rw[Nat.pow_succ];exact Ek a c
def JD (B:Nat):Nat->Nat
 |0=>0
 |n+1=>JD B n+B ^ n
theorem Wa{α:Type} [DecidableEq α]:∀{F l:List α},F.Nodup->(∀x∈F,x∈l)->F.length<=l.length
 |[],_,_,_=>Ci _
 |x::F,l,c,h=>by
   have a:=h x Bv;obtain⟨d,f⟩:=Gj.mp c
   have:=Wa (l:=l.erase x) f λy b=>by
    have g:y≠x:=λe=>d (e▸b);exact(List.mem_erase_of_ne g).mpr (h y (Ch _ b))
   rw[List.length_erase_of_mem a] at this;have i:0<l.length:=List.length_pos_of_mem a;rw[Ej];omega
theorem Wb{W:Wd}{B:Nat}(h:∀s∈W.ss,s.1.length<=B)(sc st:Int):∀n,((List.range n).flatMap (EO W sc st)).length<=JD B n
 |0=>AB _
 |n+1=>by
   rw[List.range_succ,List.flatMap_append,AW];have a:=Wb h sc st n;have b:=V9 h sc st n;have c:([n].flatMap (EO W sc st)).length=(EO W sc st n).length:=(by simp);show _<=JD B n+B ^ n;omega
theorem HJ(ok:Fv W)(h:∀s∈W.ss,s.1.length<=B)(sc st:Int)(F:List AQ)(g:0<=sc/\sc<W.ss.length)(i:0<=st/\st<W.sts.length)(e:F.Nodup)(a:∀b∈F,AR W sc st b):F.length<=JD B W.ss.length:=by
 refine Ek (Wa (l:=(List.range W.ss.length).flatMap (EO W sc st)) e λb c=>?_) (Wb h sc st _);have d:=(a b c).ok0 ok g i;have f:=KA W.ss.length (AU b) d.nd d.rng;rw[show(AU b).length=b.1.length+1 by unfold AU;simp] at f;exact List.mem_flatMap.mpr ⟨b.1.length,List.mem_range.mpr (by omega),ZI (a b c)⟩
theorem SX{α:Type}{f:AQ->List α}{k:Nat}:∀(bs:List AQ),(∀b∈bs,(f b).length<=k)->(bs.flatMap f).length<=bs.length*k
 |[],_=>by simp
 |b::bs,h=>by
   rw[List.flatMap_cons,AW,Ej,Nat.succ_mul];have:=h b Bv;have:=SX bs λc a=>h c (Ch _ a);omega
theorem ZJ(ok:Fv W)(h:∀s∈W.ss,s.1.length<=B)(e:W.ss.length<=100)(i:JD B W.ss.length*max 2 B<=62)(k:∀s∈W.ss,s.2.length<=2)(l:∀s∈W.ss,∀p∈s.2,Fo W.gs.length W.as.length p):BY W/\Bf W:=by
 have q:JD B W.ss.length*2<=62:=Ek (Nat.mul_le_mul_left _ (Nat.le_max_left _ _)) i;have r:JD B W.ss.length*B<=62:=Ek (Nat.mul_le_mul_left _ (Nat.le_max_right _ _)) i;have j:∀(sc st:Int)(bs:List AQ),(0<=sc/\sc<W.ss.length)->(0<=st/\st<W.sts.length)->Db W sc st bs->bs.length<=JD B W.ss.length:=λsc st bs a c d=>HJ ok h sc st bs a c d.nd λb f=>(d.mem b).mp f;refine⟨⟨e,ok.st,ok.kst,ok.kth,ok.an,ok.go,λsc st F a c m n=>?_⟩,⟨l,λx sc st bs a c d=>?_,λsc st bs a c d=>?_⟩⟩;have:=HJ ok h sc st F a c m n;omega;have g:=j sc st bs a c d
 have o:(DW W x bs).length<=bs.length*2:=SX _ λb f=>Ek (VG W b x _ 0) (by
  unfold Ge;split;rename_i s e;exact k s (Bd e)
  exact Ci _)
 have:=Nat.mul_le_mul_right 2 g;omega;have g:=j sc st bs a c d;have o:(F2 W bs).length<=bs.length*B:=SX _ λb f=>Ek (List.length_filterMap_le _ _) (Ek (LL _ _ _ _ _) (V8 h _));have:=Nat.mul_le_mul_right B g;omega
variable {us:List Ow}
theorem P1{l m:Lk}(h:CF W ord sc st x l os)(k:CF W ord sc st x m us):l=m/\os=us:=by
 have a:=h.b.uniq k.b;have b:=h.f;have c:=h.o;rw[a] at b c;have d:=b.uniq k.f;have e:l.2.2=m.2.2:=(by rw[h.s,k.s,d]);exact⟨Prod.ext a (Prod.ext d e),c.uniq k.o⟩
theorem LU.inv{r:List Str}{w:Option Wt}(k:LU W inn ord sc st (x::r) at_ a w ls ts):∃l os,CF W ord sc st x l os /\
 (∀b d,B7 W ord l.2.1 os at_=(b,d)->((∀k,b≠some (("thing" : Str),k))\/r=[])->b=a/\d=w/\ls=[l]/\ts=[]) /\
 ∀n d,B7 W ord l.2.1 os at_=(some (("thing" : Str),n),d)->r≠[]->∀s q,CG W n=(s,q)->(s=("open" : Str)->a=none/\w=some (at_,[],q)/\ls=[l]/\ts=[n])/\(s=("no" : Str)->a=some (("none" : Str),at_+1)/\w=none/\ls=[l]/\ts=[n])/\(s=("to" : Str)->∃p t,LU W inn ord q inn r (at_+1) a w p t/\ls=l::p/\ts=n::t):=by
 have g:("open" : Str)≠("no" : Str):=(by decide +kernel);have j:("open" : Str)≠("to" : Str):=(by decide +kernel);have o:("no" : Str)≠("to" : Str):=(by decide +kernel)
 cases k with
 |stop h e n=>exact⟨_,_,h,λb d c _=>(by rw[e] at c;cases c;exact⟨rfl,rfl,rfl,rfl⟩),λm d c u=>(by rw[e] at c;cases c;exact(n.elim (λn=>n _ rfl) u).elim)⟩
 |opn h e i=>exact⟨_,_,h,λb d c n=>(by rw[e] at c;cases c;exact(n.elim (λn=>n _ rfl) nofun).elim),λm d c _ s q f=>(by rw[e] at c;cases c;rw[i] at f;cases f;exact⟨λ_=>⟨rfl,rfl,rfl,rfl⟩,λz=>absurd z g,λz=>absurd z j⟩)⟩
 |no h e i=>exact⟨_,_,h,λb d c n=>(by rw[e] at c;cases c;exact(n.elim (λn=>n _ rfl) nofun).elim),λm d c _ s q f=>(by rw[e] at c;cases c;rw[i] at f;cases f;exact⟨λz=>absurd z.symm g,λ_=>⟨rfl,rfl,rfl,rfl⟩,λz=>absurd z o⟩)⟩
 |go h e i k=>exact⟨_,_,h,λb d c n=>(by rw[e] at c;cases c;exact(n.elim (λn=>n _ rfl) nofun).elim),λm d c _ s q f=>(by rw[e] at c;cases c;rw[i] at f;cases f;exact⟨λz=>absurd z.symm j,λz=>absurd z.symm o,λ_=>⟨_,_,k,rfl,rfl⟩⟩)⟩
theorem JE{p:List Str}{w:Option Wt}(h:LU W inn ord sc st p at_ a w ls ts):∀{d:Option (Str×Int)}{f:Option Wt}{g:List Lk}{j:List Int},LU W inn ord sc st p at_ d f g j->a=d/\w=f/\ls=g/\ts=j:=by
 induction h with
 |stop h e n =>
   intro d f g j k;obtain⟨l,os,b,c,_⟩:=k.inv;obtain⟨rfl,rfl⟩:=P1 h b;obtain⟨rfl,rfl,rfl,rfl⟩:=c _ _ e n;exact⟨rfl,rfl,rfl,rfl⟩
 |opn h e i =>
   intro d f g j k;obtain⟨l,os,b,_,c⟩:=k.inv;obtain⟨rfl,rfl⟩:=P1 h b;obtain⟨rfl,rfl,rfl,rfl⟩:=(c _ _ e nofun _ _ i).1 rfl;exact⟨rfl,rfl,rfl,rfl⟩
 |no h e i =>
   intro d f g j k;obtain⟨l,os,b,_,c⟩:=k.inv;obtain⟨rfl,rfl⟩:=P1 h b;obtain⟨rfl,rfl,rfl,rfl⟩:=(c _ _ e nofun _ _ i).2.1 rfl;exact⟨rfl,rfl,rfl,rfl⟩
 |go h e i u m =>
   intro d f g j k;obtain⟨l,os,b,_,c⟩:=k.inv;obtain⟨rfl,rfl⟩:=P1 h b;obtain⟨_,_,o,rfl,rfl⟩:=(c _ _ e nofun _ _ i).2.2 rfl;obtain⟨q,r,s,t⟩:=m o;exact⟨q,r,by rw[s],by rw[t]⟩
section
variable {ss:List Bi} {ord:List (Str×Str)}
theorem HK{p:Prop}(h:dec p=true):p:=by
 by_cases e:p;exact e;rw[F0 e] at h;cases h
theorem Wc(irr:∀x,(x,x)∉ord)(tr:∀x y z,(x,y)∈ord->(y,z)∈ord->(x,z)∈ord):∀(a b c:List Ap),Cg ss ord a b=true->Cg ss ord b c=true->Cg ss ord a c=true
 |x::s,y::t,z::u,d,f=>by
   by_cases h:x=y;subst h;rw[Oe] at d;by_cases g:x=z;subst g;rw[Oe] at f ⊢;exact Wc irr tr s t u d f;rw[KD ss ord _ _ g] at f ⊢;exact f;rw[KD ss ord _ _ h] at d;by_cases g:y=z;subst g;rw[KD ss ord _ _ h];exact d;rw[KD ss ord _ _ g] at f;have i:=tr _ _ _ (HK d) (HK f);have j:x≠z:=λe=>irr _ (by rw[<-e] at i;exact i);rw[KD ss ord _ _ j];exact FD i
 |[],_,_,d,_=>by rw[LP ss ord (.inl rfl)] at d;cases d
 |_::_,[],_,d,_=>by rw[LP ss ord (.inr rfl)] at d;cases d
 |_::_,_::_,[],_,f=>by rw[LP ss ord (.inr rfl)] at f;cases f
end
structure Later (as as':List (Option (Str×Int))):Prop where
 len:as'.length=as.length
 old:∀(n:Nat)(p:Str×Int),as[n]?=some (some p)->as'[n]?=some (some p)
section
variable {ths:List (Str×Int)} {as as':List (Option (Str×Int))}
theorem P2(h:Later as as')(e:as[n]?=none):as'[n]?=none:=by
 rw[List.getElem?_eq_none_iff] at e ⊢;rw[h.len];exact e
theorem ZK(h:Later as as')(a:(Ed ths as q).1≠("open" : Str)):Ed ths as' q=Ed ths as q:=by
 unfold Ed at a ⊢
 cases e:as[q.toNat]? with
 |none=>rw[P2 h e]
 |some o =>
   cases o with
   |none=>rw[e] at a;exact absurd rfl a
   |some p=>rw[h.old _ _ e]
theorem We(h:Later as as'){k:Str×Int}(c:(Dk ths as k).1≠("open" : Str)):Dk ths as' k=Dk ths as k:=by
 unfold Dk at c ⊢;by_cases a:k.1=("part" : Str);rw[Aj a,Aj a];rw[Ak a] at c;rw[Ak a,Ak a];by_cases b:k.1=("sort" : Str);rw[Aj b] at c;rw[Aj b,Aj b];exact ZK h c;rw[Ak b,Ak b]
theorem SY(h:Later as as'){p:Cd}(a:(BL ths as p).1≠("open" : Str)):BL ths as' p=BL ths as p:=by
 unfold BL at a ⊢;by_cases b:p.2.1=("to" : Str);rw[Aj b,Aj b];rw[Ak b] at a;rw[Ak b,Ak b]
 cases e:as[p.2.2.toNat]? with
 |none=>rw[P2 h e]
 |some o =>
   cases o with
   |none=>rw[e] at a;exact absurd rfl a
   |some w =>
     rw[h.old _ _ e];rw[e] at a;dsimp only at a ⊢;by_cases c:w.1=("thing" : Str);rw[Aj c] at a;rw[Aj c,Aj c]
     cases d:ths[w.2.toNat]? with
     |none=>rfl
     |some k=>rw[d] at a;exact We h a
     rw[Ak c,Ak c]
theorem ZL(h:Later as as'){p:Cd}(a:(BL ths as' p).1=("open" : Str)):(BL ths as p).1=("open" : Str):=by
 by_cases e:(BL ths as p).1=("open" : Str);exact e;rw[SY h e] at a;exact a
end
abbrev Wd.late (W:Wd) (as':List (Option (Str×Int))):Wd:=⟨W.ss,W.gs,as',W.sts⟩
def IF (W:Wd) (sc st:Int) (o:List Ap):Prop:=∃b,AR W sc st b/\∃(j:Nat)(p:Cd)(a:Int),(BU W b.2.1)[j]?=some p/\El (DV W b.2.2) p.1=some a/\(BL W.gs W.as p).1=("open" : Str)/\o=b.1++[(b.2.1,("step" : Str),(j:Int))]
section
variable {W:Wd} {as':List (Option (Str×Int))} {sc st:Int}
theorem JF:("to" : Str)≠("open" : Str):=by decide +kernel
theorem S0{j:Nat}{p:Cd}{a:Int}{s t:Int}(b:(BU W s)[j]?=some p)(c:El (DV W t) p.1=some a):((s,("step" : Str),(j:Int)),BL W.gs W.as p,a)∈Gv W s t:=
 BM.mpr ⟨j,p,a,b,c,by rw[Nat.zero_add]⟩
theorem ZM(h:Later W.as as')(f:AR W sc st b):AR (W.late as') sc st b:=by
 induction f with
 |root=>exact .root
 |@kid b c _ k g =>
   obtain⟨r,i,d,l,rfl⟩:=AH.mp k;obtain⟨j,p,a,m,n,rfl⟩:=LM i;have e:=SY h (p:=p) (ths:=W.gs) (by rw[show(BL W.gs W.as p).1=_ from d];exact JF);refine .kid g (AH.mpr ⟨_,S0 (W:=W.late as') m n,?_⟩);show(BL W.gs as' p).1=_/\(BL W.gs as' p).2∉_/\_=(_,(BL W.gs as' p).2,_);rw[e];exact⟨d,l,rfl⟩
theorem Wf(h:Later W.as as')(m:AR (W.late as') sc st b):AR W sc st b\/∃o,IF W sc st o/\o <+: b.1:=by
 induction m with
 |root=>exact .inl .root
 |@kid b c _ k d =>
   obtain⟨r,n,q,s,rfl⟩:=AH.mp k;obtain⟨j,p,a,f,g,rfl⟩:=LM n;rcases d with d|⟨o,t,u⟩;by_cases e:(BL W.gs W.as p).1=("open" : Str);exact .inr ⟨_,⟨b,d,j,p,a,f,g,e,rfl⟩,List.prefix_refl _⟩;have v:=SY h e;refine .inl (.kid d (AH.mpr ⟨_,S0 f g,?_⟩));show(BL W.gs W.as p).1=_/\(BL W.gs W.as p).2∉_/\(_,(BL W.gs as' p).2,_)=(_,(BL W.gs W.as p).2,_);have i:(BL W.gs as' p).1=("to" : Str):=q;have l:(BL W.gs as' p).2∉AU b:=s;rw[v] at i l ⊢;exact⟨i,l,rfl⟩;exact .inr ⟨o,t,u.trans (Io _ _)⟩
theorem ZN(h:Later W.as as'){o:List Ap}(e:IF (W.late as') sc st o):∃c,IF W sc st c/\c <+: o:=by
 obtain⟨b,d,j,p,a,f,g,i,rfl⟩:=e;rcases Wf h d with d|⟨c,k,l⟩;exact⟨_,⟨b,d,j,p,a,f,g,ZL h i,rfl⟩,List.prefix_refl _⟩;exact⟨c,k,l.trans (Io _ _)⟩
def JG (W:Wd) (sc st:Int) (x:Str) (w:List Ap):Prop:=∃b,AR W sc st b/\∃(j:Nat)(q:DU),(Ge W b.2.1)[j]?=some q/\q.2.1=x/\q.1∈G0 W b.2.2/\w=b.1++[(b.2.1,("told" : Str),(j:Int))]
theorem Wg(h:Later W.as as')(a:JG W sc st x w):JG (W.late as') sc st x w:=by
 obtain⟨b,c,r⟩:=a;exact⟨b,ZM h c,r⟩
theorem ZO(h:Later W.as as')(c:JG (W.late as') sc st x w):JG W sc st x w\/∃o,IF W sc st o/\o <+: w:=by
 obtain⟨b,a,j,q,d,e,f,rfl⟩:=c;rcases Wf h a with a|⟨g,i,k⟩;exact .inl ⟨b,a,j,q,d,e,f,rfl⟩;exact .inr ⟨g,i,k.trans (Io _ _)⟩
theorem S1{ss:List Bi}{ord:List (Str×Str)}:∀{f o w:List Ap},Cg ss ord f o=true->o <+: w->Cg ss ord f w=true
 |x::f,y::o,w,h,a=>by
   obtain⟨u,rfl⟩:=a;by_cases e:x=y;subst e;rw[Oe] at h;show Cg ss ord (x::f) (x::(o++u))=true;rw[Oe];exact S1 h (Io o u);rw[KD ss ord _ _ e] at h;show Cg ss ord (x::f) (y::(o++u))=true;rw[KD ss ord _ _ e];exact h
 |[],_,_,h,_=>by rw[LP ss ord (.inl rfl)] at h;cases h
 |_::_,[],_,h,_=>by rw[LP ss ord (.inr rfl)] at h;cases h
theorem ZP(irr:∀x,(x,x)∉ord)(tr:∀x y z,(x,y)∈ord->(y,z)∈ord->(x,z)∈ord)(h:Later W.as as'){ws i:List (List Ap)}
 (n:∀w,w∈ws↔JG W sc st x w) (p:∀w,w∈i↔JG (W.late as') sc st x w) (s:∀o,IF W sc st o->∃f∈ws,Cg ss ord f o=true) (w:List Ap):w∈CP ss ord i i↔w∈CP ss ord ws ws:=by
 have sub:∀v∈ws,v∈i:=λv m=>(p v).mpr (Wg h ((n v).mp m))
 have r:∀v∈i,v∈ws\/∃f∈ws,Cg ss ord f v=true:=λv m=>by
  rcases ZO h ((p v).mp m) with e|⟨o,j,c⟩;exact .inl ((n v).mpr e);obtain⟨f,k,g⟩:=s o j;exact .inr ⟨f,k,S1 g c⟩
 have q:∀(l:List (List Ap))v,v∈CP ss ord l l↔v∈l/\∀u∈l,Cg ss ord u v=false:=λl v=>by
  unfold CP;rw[MH,Bool.not_eq_true',List.any_eq_false];exact⟨λ⟨a,b⟩=>⟨a,λu d=>by have:=b u d;simpa using this⟩,λ⟨a,b⟩=>⟨a,λu d=>by rw[b u d];simp⟩⟩
 rw[q,q];constructor;rintro⟨j,c⟩;rcases r w j with e|⟨f,k,g⟩;exact⟨e,λu d=>c u (sub u d)⟩;rw[c f (sub f k)] at g;cases g;rintro⟨j,c⟩;refine⟨sub w j,λu d=>?_⟩;rcases r u d with e|⟨f,k,g⟩;exact c u e
 cases e:Cg ss ord u w with
 |false=>rfl
 |true =>
   have:=Wc irr tr f u w g e;rw[c f k] at this;cases this
theorem ZQ(h:Later W.as as'){ws a:List (List Ap)}(sub:∀v∈ws,v∈a)(b:∀o,IF W sc st o->∃f∈ws,Cg ss ord f o=true):∀o,IF (W.late as') sc st o->∃f∈a,Cg ss ord f o=true:=λo c=>by
 obtain⟨d,e,g⟩:=ZN h c;obtain⟨f,i,j⟩:=b d e;exact⟨f,sub f i,S1 j g⟩
end
section
variable {W:Wd} {sc st:Int}
theorem JH(h:AR W sc st b)(e:b.1=[]):b=([],sc,st):=by
 cases h with
 |root=>rfl
 |kid _ k =>
   obtain⟨r,_,_,_,rfl⟩:=AH.mp k;simp at e
theorem JI(h:AR W sc st b):∀{c:AQ},AR W sc st c->b.1=c.1->b=c:=by
 induction h with
 |root=>intro c a e;exact(JH a e.symm).symm
 |@kid b p q k i =>
   intro c a e;obtain⟨r,j,_,_,rfl⟩:=AH.mp k
   cases a with
   |root=>simp at e
   |@kid d _ hd l =>
     obtain⟨f,o,_,_,rfl⟩:=AH.mp l;have g:b.1++[r.1]=d.1++[f.1]:=e;have m:=List.append_inj_left' g rfl;have n:r.1=f.1:=(by simpa using List.append_inj_right' g rfl);have:=i hd m;subst this;rw[Vw j o n]
theorem Wh{b:AQ}{x:Str}:∀{l:List DU}{i j:Nat}{q:DU},l[j]?=some q->q.2.1=x->q.1∈G0 W b.2.2->b.1++[(b.2.1,("told" : Str),((i+j:Nat):Int))]∈DI W b x l i
 |p::l,i,0,q,a,c,d=>by
   cases a;refine D9 _ ?_;unfold Fp;rw[Aj ⟨c,d⟩];exact AY.mpr rfl
 |p::l,i,j+1,q,a,c,d=>by
   refine De _ ?_;rw[show i+(j+1)=i+1+j by omega];exact Wh (by simpa using a) c d
theorem Wi{bs:List AQ}(c:∀b,b∈bs↔AR W sc st b)(w:List Ap):w∈DW W x bs↔JG W sc st x w:=by
 constructor;intro h;obtain⟨b,a,r⟩:=Sw h;exact⟨b,(c b).mp a,r⟩;rintro⟨b,a,j,q,d,e,f,rfl⟩;refine List.mem_flatMap.mpr ⟨b,(c b).mpr a,?_⟩;have:=Wh (b:=b) (i:=0) d e f;rw[Nat.zero_add] at this;exact this
theorem Wj{b:AQ}{x:Str}:∀{l:List DU}{i:Nat},(DI W b x l i).Nodup
 |[],_=>List.nodup_nil
 |q::l,i=>by
   refine List.nodup_append.mpr ⟨?_,Wj,λv hv c a e=>?_⟩;unfold Fp;split;exact List.pairwise_singleton _ _;exact List.nodup_nil;subst e;unfold Fp at hv;split at hv;rw[AY.mp hv] at a;obtain⟨j,d,_,_,_,e⟩:=Oc a;have:=List.append_inj_right' e rfl;simp at this;omega;cases hv
theorem Wk{α β:Type}{f:α->List β}:∀{l:List α},(∀a∈l,(f a).Nodup)->l.Pairwise (λa b=>∀x∈f a,x∉f b)->(l.flatMap f).Nodup
 |[],_,_=>List.nodup_nil
 |a::l,g,h=>by
   rw[List.flatMap_cons];obtain⟨i,j⟩:=List.pairwise_cons.mp h;refine List.nodup_append.mpr ⟨g a Bv,Wk (λb c=>g b (Ch _ c)) j,λx k y d e=>?_⟩;subst e;obtain⟨b,c,d⟩:=List.mem_flatMap.mp d;exact i b c x k d
theorem Wl{bs:List AQ}(c:Db W sc st bs):(DW W x bs).Nodup:=by
 refine Wk (λb _=>Wj) ?_;refine c.nd.imp_of_mem λ{a b}d e i v f k=>?_;obtain⟨j,q,_,_,_,g⟩:=Oc f;obtain⟨l,m,_,_,_,h⟩:=Oc k;exact i (JI ((c.mem a).mp d) ((c.mem b).mp e) (List.append_inj_left' (g.symm.trans h) rfl))
theorem Wm{bs:List AQ}(h:Db W sc st bs)(o:List Ap):IF W sc st o↔∃r∈F2 W bs,r.1=o:=by
 constructor;rintro⟨b,c,j,p,a,d,f,g,rfl⟩;refine⟨(_,(BL W.gs W.as p).2),List.mem_flatMap.mpr ⟨b,(h.mem b).mpr c,List.mem_filterMap.mpr ⟨_,S0 d f,?_⟩⟩,rfl⟩;unfold ow;exact Aj g;rintro⟨r,i,rfl⟩;obtain⟨b,c,j,p,a,d,f,g,e⟩:=VI i;exact⟨b,(h.mem b).mp c,j,p,a,d,f,g,by rw[e]⟩
theorem JJ{ws a:List (List Ap)}(b:ws.Nodup)(c:a.Nodup)(d:ws.Pairwise CC.O.kle)(e:a.Pairwise CC.O.kle)(h:∀w,w∈CP ss ord a a↔w∈CP ss ord ws ws):CP ss ord a a=CP ss ord ws ws:=
 LD (O:=CC.O) ((List.perm_ext_iff_of_nodup (c.filter _) (b.filter _)).mpr h) (e.filter _) (d.filter _)
end
theorem DR{ss:List Bi}{ord:List (Str×Str)}{ws:List (List Ap)}:∀{os:List Ow},FF ss ord ws os=none↔∀o∈os,(ws.any λv=>Cg ss ord v o.1)=true
 |[]=>⟨λ_ o b=>(by cases b),λ_=>rfl⟩
 | o :: os=>by
   cases e:ws.any λv=>Cg ss ord v o.1 with
   |true =>
     rw[V4 e,DR];refine⟨λh p a=>?_,λh p a=>h p (Ch _ a)⟩;rcases Ce.mp a with rfl|a;exact e;exact h p a
   |false =>
     rw[V3 e];refine⟨λh=>(by cases h),λh=>?_⟩;have:=h o Bv;rw[e] at this;cases this
theorem Wn{W:Wd}:∀{ws:List (List Ap)},(∀w∈ws,Ft W w=none)->Fu W ws=none
 |[],_=>rfl
 |w::ws,h=>by rw[PZ (h w Bv)];exact Wn λv hv=>h v (Ch _ hv)
theorem ZR{ws:List (List Ap)}(h:Eu W ord ws os=none):FF W.ss ord ws os=none:=by
 unfold Eu at h
 cases e:FF W.ss ord ws os with
 |some o=>rw[e] at h;cases h
 |none=>rfl
theorem ZS{ws:List (List Ap)}(a:FF W.ss ord ws os=none)(b:Fu W (CP W.ss ord ws ws)=none):Eu W ord ws os=none:=by
 unfold Eu;rw[a];exact b
variable {as as':List (Option (Str×Int))}
theorem ZT(h:Later as as')(e:as'[n]?=some none):as[n]?=some none:=by
 cases c:as[n]? with
 |none=>rw[P2 h c] at e;cases e
 |some o =>
   cases o with
   |none=>rfl
   |some p=>rw[h.old n p c] at e;cases e
section
variable {W:Wd} {as':List (Option (Str×Int))} {ord:List (Str×Str)} {sc st:Int}
theorem ZU(h:Later W.as as')(e:Ft W w=none):Ft (W.late as') w=none:=by
 unfold Ft at e ⊢;refine Ak λc=>?_;rw[Aj ⟨c.1,ZT h c.2⟩] at e;cases e
theorem ZV(h:Later W.as as')(d:Bf W)(f:Do W.ss w)(e:Ft W w=none):Bt (W.late as') w=Bt W w:=by
 unfold Bt
 show(if(Ck W.ss w).2.2.1=("thing" : Str) then some (Ck W.ss w).2.2.2 else match as'[(Ck W.ss w).2.2.2.toNat]? with
  |some (some p)=>if p.1=("thing" : Str) then some p.2 else none
  |_=>none)=_
 rcases M6 d f with⟨a,_⟩|⟨a,_⟩;rw[Aj a,Aj a];by_cases b:(Ck W.ss w).2.2.1=("thing" : Str);rw[Aj b,Aj b];rw[Ak b,Ak b];unfold Ft at e
 cases c:W.as[(Ck W.ss w).2.2.2.toNat]? with
 |none=>rw[P2 h c]
 |some o =>
   cases o with
   |none=>rw[Aj ⟨a,c⟩] at e;cases e
   |some p=>rw[h.old _ p c]
theorem ZW(irr:∀x,(x,x)∉ord)(tr:∀x y z,(x,y)∈ord->(y,z)∈ord->(x,z)∈ord)(h:Later W.as as')(ok:BY W)(q:Bf W)(A:0<=sc/\sc<W.ss.length)(B:0<=st/\st<W.sts.length){l m:Lk}(a:CF W ord sc st x l os)(b:CF (W.late as') ord sc st x m us)(g:Eu W ord l.2.1 os=none) :
 m.2.2=l.2.2/\Eu (W.late as') ord m.2.1 us=none/\∀w∈l.2.2,Bt (W.late as') w=Bt W w:=by
 have i:∀w,w∈l.2.1↔JG W sc st x w:=λw=>a.f.perm.mem_iff.trans (Wi a.b.mem w);have j:∀w,w∈m.2.1↔JG (W.late as') sc st x w:=λw=>b.f.perm.mem_iff.trans (Wi b.b.mem w)
 have k:∀o,IF W sc st o->∃f∈l.2.1,Cg W.ss ord f o=true:=λo d=>by
  obtain⟨r,s,e⟩:=(Wm a.b o).mp d;have:=DR.mp (ZR g) r (a.o.perm.mem_iff.mpr s);rw[e] at this;exact Go.mp this
 have C:=ZP (ss:=W.ss) irr tr h i j k
 have n:m.2.2=l.2.2:=by
  rw[b.s,a.s];exact JJ (a.f.perm.nodup_iff.mpr (Wl a.b)) (b.f.perm.nodup_iff.mpr (Wl b.b)) a.f.srt b.f.srt C
 have p:∀w∈l.2.2,Ft W w=none:=by
  have:=SV (V0 g);rw[<-a.s] at this;exact this
 refine⟨n,ZS ?_ ?_,λw c=>?_⟩;refine DR.mpr λo d=>?_;have t:IF (W.late as') sc st o.1:=(Wm b.b o.1).mpr ⟨o,b.o.perm.mem_iff.mp d,rfl⟩;exact Go.mpr (ZQ (ss:=W.ss) h (λv u=>(j v).mpr (Wg h ((i v).mp u))) k o.1 t);have:Fu (W.late as') m.2.2=none:=Wn λw c=>ZU h (p w (by rw[<-n];exact c));rw[b.s] at this;exact this;refine ZV h q ?_ (p w c);rw[a.s] at c;exact SQ ok A B a.b (a.f.perm.mem_iff.mp (PY c))
theorem Wo:∀{b:List (List Ap)}(at_:Int),(∀w∈b,Bt (W.late as') w=Bt W w)->Dc (W.late as') b at_=Dc W b at_:=λ{b}at_ h=>by
 by_cases c:∀w∈b,Bt W w=none;rw[SM c,SM λw d=>by rw[h w d];exact c w d]
 cases b with
 |nil=>exact absurd (λw d=>by cases d) c
 |cons w r =>
   have f:¬∀v∈w::r,Bt (W.late as') v=none:=λz=>c λv a=>by rw[<-h v a];exact z v a
   by_cases e:∀v∈w::r,Bt W v=Bt W w;have m:∀v∈w::r,Bt (W.late as') v=Bt (W.late as') w:=λv a=>by rw[h v a,h w Bv];exact e v a
   obtain⟨n,i,j⟩:=SO (at_:=at_) c e;obtain⟨k,g,l⟩:=SO (at_:=at_) f m;rw[h w Bv,i] at g;rw[j,l,Bo g];rw[SN c e,SN f λz=>e λv a=>by rw[<-h v a,<-h w Bv];exact z v a]
theorem ZX{ws:List (List Ap)}(h:B7 W ord ws os at_=(a,none)):Eu W ord ws os=none/\a=some (Dc W (CP W.ss ord ws ws) at_):=by
 cases e:Eu W ord ws os with
 |some o=>rw[M4 e] at h;cases BC Prod.snd h
 |none=>rw[JB e] at h;exact⟨rfl,(BC Prod.fst h).symm⟩
theorem Wp{ws:List (List Ap)}{n:Int}{w:Option Wt}(h:B7 W ord ws os at_=(some (("thing" : Str),n),w)):w=none:=by
 cases e:Eu W ord ws os with
 |some o=>rw[M4 e] at h;cases BC Prod.fst h
 |none=>rw[JB e] at h;exact(BC Prod.snd h).symm
theorem S2(irr:∀x,(x,x)∉ord)(tr:∀x y z,(x,y)∈ord->(y,z)∈ord->(x,z)∈ord)(h:Later W.as as')(ok:BY W)(g:Bf W)(o:0<=sc/\sc<W.ss.length)(p:0<=st/\st<W.sts.length){l m:Lk}(b:CF W ord sc st x l os)(d:CF (W.late as') ord sc st x m us)(e:B7 W ord l.2.1 os at_=(a,none)) :
 m.2.2=l.2.2/\B7 (W.late as') ord m.2.1 us at_=(a,none):=by
 obtain⟨c,i⟩:=ZX e;obtain⟨f,j,k⟩:=ZW irr tr h ok g o p b d c;refine⟨f,?_⟩;rw[JB j,i];show(some (Dc (W.late as') (CP W.ss ord m.2.1 m.2.1) at_),none)=_
 have n:CP W.ss ord m.2.1 m.2.1=CP W.ss ord l.2.1 l.2.1:=by
  have:=d.s;rw[<-b.s,<-f,this]
 rw[n,Wo at_ λw c=>k w (by rw[b.s];exact c)]
theorem Wq(h:Later W.as as'){n:Int}(a:(CG W n).1≠("open" : Str)):CG (W.late as') n=CG W n:=by
 unfold CG at a ⊢
 show(match W.gs[n.toNat]? with
  |some p=>Dk W.gs as' p
  |none=>(("no" : Str),(0:Int)))=_
 cases e:W.gs[n.toNat]? with
 |none=>rfl
 |some p =>
   rw[e] at a;exact We h a
theorem P4(ok:BY W){n:Int}(b:0<=n/\n<W.gs.length)(h:CG W n=(("to" : Str),q)):0<=q/\q<W.ss.length:=by
 obtain⟨j,c⟩:=Df b.1;have a:j<W.gs.length:=(by omega);have d:CG W n=Dk W.gs W.as W.gs[j]:=by unfold CG;rw[c,Be,AD a]
 rw[d] at h;have:=Su ok (EC a) rfl (BC Prod.fst h);rw[BC Prod.snd h] at this;exact this
theorem JK(ok:BY W)(c:0<=sc/\sc<W.ss.length)(d:0<=st/\st<W.sts.length){l:Lk}(a:CF W ord sc st x l os):∀w∈l.2.1,Do W.ss w:=λw b=>SQ ok c d a.b (a.f.perm.mem_iff.mp b)
end
theorem ZY:("no" : Str)≠("open" : Str):=by decide +kernel
theorem ZZ:("to" : Str)≠("open" : Str):=by decide +kernel
theorem JL(irr:∀x,(x,x)∉ord)(tr:∀x y z,(x,y)∈ord->(y,z)∈ord->(x,z)∈ord)(h:Later W.as as')(ok:BY W)(u:Bf W)(J:0<=inn/\inn<W.sts.length){p:List Str}{w:Option Wt}(k:LU W inn ord sc st p at_ a w ls ts) :
 w=none->0<=sc/\sc<W.ss.length->0<=st/\st<W.sts.length->∀{g:Option (Str×Int)}{j:Option Wt}{s:List Lk}{v:List Int},LU (W.late as') inn ord sc st p at_ g j s v->g=a/\j=none/\s.map (·.2.2)=ls.map (·.2.2):=by
 induction k with
 |stop b e n =>
   intro l d f g j s v m;subst l;obtain⟨B,C,t,c,_⟩:=m.inv;obtain⟨o,q⟩:=S2 irr tr h ok u d f b t e;obtain⟨rfl,rfl,rfl,_⟩:=c _ _ q n;exact⟨rfl,rfl,by rw[List.map_singleton,List.map_singleton,o]⟩
 |opn b e i=>intro l;cases l
 |no b e i =>
   intro _ d f g j s v m;have A:=Wp e;subst A;have r:=Wq h (n:=_) (show(CG W _).1≠("open" : Str) by rw[i];exact ZY);rw[i] at r;obtain⟨B,C,t,_,c⟩:=m.inv;obtain⟨o,q⟩:=S2 irr tr h ok u d f b t e;obtain⟨rfl,rfl,rfl,_⟩:=(c _ _ q nofun _ _ r).2.1 rfl;exact⟨rfl,rfl,by rw[List.map_singleton,List.map_singleton,o]⟩
 |go b e i K D =>
   intro l d f g j s v m;have A:=Wp e;subst A;have r:=Wq h (n:=_) (show(CG W _).1≠("open" : Str) by rw[i];exact ZZ);rw[i] at r;obtain⟨B,C,t,_,c⟩:=m.inv;obtain⟨o,q⟩:=S2 irr tr h ok u d f b t e;obtain⟨_,_,E,rfl,rfl⟩:=(c _ _ q nofun _ _ r).2.2 rfl;have F:=KI ok u (JK ok d f b) e;obtain⟨G,H,I⟩:=D l (P4 ok F i) J E;exact⟨G,H,by rw[D7,D7,o,I]⟩
section
variable {ths:List (Str×Int)} {as:List (Option (Str×Int))}
end
section
variable {W:Wd} {ord:List (Str×Str)} {sc st:Int}
end
theorem Z0{p:List Str}{w:Option Wt}(k:LU W inn ord sc st p at_ a w ls ts):(a=none/\∃t,w=some t)\/(∃x,a=some x)/\w=none:=by
 induction k with
 |stop h e n =>
   rename_i os _ _
   cases b:Eu W ord _ os with
   |some o=>rw[M4 b] at e;cases e;exact .inl ⟨rfl,_,rfl⟩
   |none=>rw[JB b] at e;cases e;exact .inr ⟨⟨_,rfl⟩,rfl⟩
 |opn=>exact .inl ⟨rfl,_,rfl⟩
 |no=>exact .inr ⟨⟨_,rfl⟩,rfl⟩
 |go _ _ _ _ c=>exact c
def Gf (xs:Array Nat):Prop:=xs.toList.Pairwise (· < ·)
theorem Gf.lt{xs:Array Nat}(h:Gf xs){a b:Nat}(e:a<b)(c:b<xs.size):xs.getD a 0<xs.getD b 0:=by
 have d:a<xs.size:=(by omega);have:=(List.pairwise_iff_getElem.mp h) a b (by simpa using d) (by simpa using c) e;rw[Array.getD_eq_getD_getElem?,Array.getD_eq_getD_getElem?,Array.getElem?_eq_getElem d,Array.getElem?_eq_getElem c];simpa using this
theorem Gf.le{xs:Array Nat}(h:Gf xs){a b:Nat}(d:a<=b)(c:b<xs.size):xs.getD a 0<=xs.getD b 0:=by
 rcases Nat.lt_or_eq_of_le d with e|e;exact Dh (h.lt e c);rw[e];exact AB _
theorem JM{xs:Array Nat}{d:Nat}(h:i<xs.size):xs.getD i d=xs.getD i 0:=by
 rw[Array.getD_eq_getD_getElem?,Array.getD_eq_getD_getElem?,Array.getElem?_eq_getElem h];rfl
theorem S3{xs:Array Nat}(e:Gf xs)(j:Nat):∀(b lo a:Nat),a<=xs.size->lo<=a->a-lo<=b->(∀i,i<lo->xs.getD i 0<j)->(∀i,a<=i->i<xs.size->j<=xs.getD i 0) ->
 SetTable.below.go xs j b lo a<=xs.size/\(∀i,i<SetTable.below.go xs j b lo a->xs.getD i 0<j)/\∀i,SetTable.below.go xs j b lo a<=i->i<xs.size->j<=xs.getD i 0
 |0,lo,a,f,m,n,g,h=>by
   have:lo=a:=(by omega);subst this;exact⟨f,g,h⟩
 |b+1,lo,a,f,m,n,g,h=>by
   unfold SetTable.below.go;by_cases c:lo<a;rw[Aj c];dsimp only;have k:(lo+a)/2<xs.size:=(by omega);rw[JM k];by_cases d:xs.getD ((lo+a)/2) 0<j;rw[Aj d];exact S3 e j b _ a f (by omega) (by omega) (λi l=>Nat.lt_of_le_of_lt (e.le (by omega) k) d) h;rw[Ak d];exact S3 e j b lo _ (by omega) (by omega) (by omega) g (λi l o=>Ek (Nat.le_of_not_lt d) (e.le l o));rw[Ak c];have:lo=a:=(by omega);subst this;exact⟨f,g,h⟩
theorem S4{xs:Array Nat}(a:Gf xs)(j:Nat):SetTable.below xs j<=xs.size/\(∀i,i<SetTable.below xs j->xs.getD i 0<j)/\∀i,SetTable.below xs j<=i->i<xs.size->j<=xs.getD i 0:=
 S3 a j xs.size 0 xs.size (AB _) (Ci _) (by omega) (λi h=>by omega) (λi b c=>by omega)
theorem Z1{xs:Array Nat}(a:Gf xs):SetTable.below xs 0=0:=by
 obtain⟨_,b,_⟩:=S4 a 0
 cases e:SetTable.below xs 0 with
 |zero=>rfl
 |succ n=>have:=b 0 (by omega);omega
variable {j:Nat}
theorem Z2{xs:Array Nat}(a:Gf xs)(h:xs[i]?=some j):SetTable.below xs (j+1)=i+1:=by
 obtain⟨f,b,d⟩:=S4 a (j+1);have e:i<xs.size:=(Array.getElem?_eq_some_iff.mp h).1;have g:xs.getD i 0=j:=by rw[Array.getD_eq_getD_getElem?,h];rfl
 rcases Nat.lt_trichotomy (SetTable.below xs (j+1)) (i+1) with c|c|c;have:=d i (by omega) e;omega;exact c;have k:=b (i+1) c;have l:xs.getD i 0<xs.getD (i+1) 0:=a.lt (QL i) (show i+1<xs.size by omega);omega
theorem Z3(xs:Array α)(p:Nat)(x:α)(a:p<=xs.size):(SetTable.insertAt xs p x).toList=xs.toList.take p++[x]++xs.toList.drop p:=by
 unfold SetTable.insertAt;simp[Array.toList_extract];exact List.take_of_length_le (by simp)
theorem Z4{xs:Array Nat}(e:Gf xs)(n:xs[SetTable.below xs j]?≠some j):Gf (SetTable.insertAt xs (SetTable.below xs j) j):=by
 obtain⟨o,f,q⟩:=S4 e j;generalize SetTable.below xs j=p at o f q n;unfold Gf;rw[Z3 xs p j o]
 have g:∀{i:Nat}(c:i<xs.toList.length),xs.toList[i]=xs.getD i 0:=λ{i}c=>by
  have m:i<xs.size:=(by simpa using c);rw[Array.getD_eq_getD_getElem?,Array.getElem?_eq_getElem m];simp
 refine List.pairwise_append.mpr ⟨List.pairwise_append.mpr ⟨e.sublist (List.take_sublist _ _),List.pairwise_singleton _ _,λa d b h=>?_⟩,e.sublist (List.drop_sublist _ _),λa d b h=>?_⟩;rw[AY.mp h];obtain⟨i,c,rfl⟩:=List.getElem_of_mem d;rw[FH] at c;rw[List.getElem_take,g (by omega)];exact f i (by omega);obtain⟨i,c,rfl⟩:=List.getElem_of_mem h;rw[Kh] at c;rw[List.getElem_drop,g (by omega)];have m:p+i<xs.size:=by simp at c;omega
 have s:j<xs.getD p 0:=by
  have l:p<xs.size:=(by omega);have:=q p (AB _) l;have ne:xs.getD p 0≠j:=λz=>n (by rw[Array.getElem?_eq_getElem l];rw[Array.getD_eq_getD_getElem?,Array.getElem?_eq_getElem l] at z;exact BC some z);omega
 have t:=e.le (show p<=p+i by omega) m;rcases BB.mp d with d|d;obtain⟨k,r,rfl⟩:=List.getElem_of_mem d;rw[FH] at r;rw[List.getElem_take,g (by omega)];have:=f k (by omega);omega;rw[AY.mp d];omega
structure Gx (led:Bool) (t:SetTable):Prop where
 ris:Gf t.place
 dum:t.dummies=#[]
 led:t.led=led
theorem Wr{t:SetTable}{hashAt:Nat->Int}{h:Int}(hd:t.dummies=#[]):∀(a:Nat)(p:SetTable.Probe){j:Nat}{d:Option Nat},p.dummy=none->SetTable.probe.go t hashAt h a p=some (.empty j d)->t.slot j=.empty/\d=none
 |0,p,j,d,_,e=>by cases e
 |a+1,p,j,d,b,e=>by
   unfold SetTable.probe.go at e
   have l:∀q:SetTable.Probe,q.dummy=none->(t.advance q).dummy=none:=λq f=>by
    unfold SetTable.advance;split;exact f;exact f
   cases c:t.slot p.j with
   |empty=>rw[c] at e;cases e;exact⟨c,b⟩
   |dummy =>
     exfalso;have k:SetTable.has t.dummies p.j=false:=by rw[hd];unfold SetTable.has;simp
     unfold SetTable.slot at c;dsimp only at c;rw[k] at c;by_cases g:(t.place[SetTable.below t.place p.j]?==some p.j)=true;rw[Aj g] at c;cases c;rw[Ak g] at c;cases c
   |live i =>
     rw[c] at e;dsimp only at e;split at e;cases e;exact Wr hd a _ (l p b) e
theorem Z5{t:SetTable}(h:t.slot j=.empty):t.place[SetTable.below t.place j]?≠some j:=λe=>by
 unfold SetTable.slot at h;simp only[e] at h;simp at h
variable {led:Bool}
theorem P5{t:SetTable}(h:Gx led t)(n:Nat):Gx led (t.standIn n):=⟨by
 show Gf (Array.range n);unfold Gf;rw[Array.toList_range]
 exact List.pairwise_lt_range,rfl,h.led⟩
theorem LZ{t:SetTable}(h:Gx led t)(a:t.slot j=.empty):Gx led (t.put j).1:=by
 refine⟨Z4 h.ris (Z5 a),?_,h.led⟩;show(if SetTable.has t.dummies j then SetTable.eraseAt t.dummies (SetTable.below t.dummies j) else t.dummies)=#[];rw[h.dum]
 have:SetTable.has #[] j=false:=by unfold SetTable.has;simp
 rw[this];rfl
theorem Z6 {t:SetTable} (h:Gx led t) (es:Array (Int × Value)) (k:Int) (x:Value):Gx led (layNew t es k x).2.1:=by
 unfold layNew
 cases e:t.freeSlot k with
 |none=>exact P5 h _
 | some r =>
   obtain⟨i,l⟩:=r;dsimp only
   have b:t.slot i=.empty:=by
    unfold SetTable.freeSlot at e
    cases c:t.probe (λ_=>k+1) k (t.probeStart k) with
    |none=>rw[c] at e;cases e
    |some m =>
      rw[c] at e
      cases m with
      |candidate=>cases e
      |empty j d =>
        obtain⟨f,g⟩:=Wr h.dum _ _ rfl c;subst g;cases e;exact f
   have a:=LZ h b;unfold SetTable.orStandIn;split;exact a;exact P5 a _
theorem JN{e l k:Nat}{plain:Bool}{f:Array Int}{r:SetTable×Array Nat}(h:SetTable.laid e l k led plain f=some r):Gx led r.1:=by
 unfold SetTable.laid at h
 cases c:SetTable.layClean e f with
 |none=>rw[c] at h;cases h
 |some owner =>
   rw[c] at h;cases h;refine⟨?_,rfl,rfl⟩;unfold Gf;dsimp only
   have:(List.map (λx=>x.1) (List.filterMap (λj=>Option.map (λx=>(j,x)) (owner.getD j none)) (List.range (e+1)))).Pairwise (· < ·):=by
    rw[List.pairwise_map];refine List.Pairwise.filterMap _ (λa b i c g d hd=>?_) (List.pairwise_lt_range (n:=e+1));obtain⟨x,_,rfl⟩:=Gp.mp g;obtain⟨y,_,rfl⟩:=Gp.mp hd;exact i
   exact this
theorem Z7{t:SetTable}(h:Gx led t)(es:Array (Int×Value))(a:Nat):Gx led (relayAll t es a).2.1:=by
 unfold relayAll
 cases c:t.relaid (es.map (·.1)) a with
 |none=>exact P5 h _
 |some r =>
   obtain⟨b,order⟩:=r;dsimp only;split;have:=JN c;rw[h.led] at this;exact this;exact P5 h _
section
variable {prog:Program} {w:World} {α:Type} [DecidableEq α] [BEq α] [LawfulBEq α]
def BZ (knd:KeyKind prog w α) (C:Bool) (hp:Heap) (D:Addr) (M:α->Bool) (n:Nat):Prop:=
 ∃(ob:Obj)(es:Array (Int×Value))(ep:Nat)(tb:SetTable),hp.get? D=some ob/\ob.ExactSet/\ob.data=.set es ep tb/\ElemsOf knd es.toList/\(∀y,M y=true↔∃e∈es.toList,knd.is y e.2=true)/\es.size<scanBound/\tb.fits es.size=true/\es.size=n/\Gx C tb
variable {knd:KeyKind prog w α} {C:Bool} {A:Around} {E:Value->Shared->Prop} {s:Shared} {D:Addr}
variable {M:α->Bool}
theorem BZ.keep{a b:Heap}(x:BZ knd C a D M n)(k:∀ob,a.get? D=some ob->b.get? D=some ob):BZ knd C b D M n:=by
 obtain⟨ob,es,c,d,e,x⟩:=x;exact⟨ob,es,c,d,k _ e,x⟩
theorem BZ.cong{a:Heap}{b:α->Bool}{c:Nat}(x:BZ knd C a D M n)(d:∀y,b y=M y)(e:c=n):BZ knd C a D b c:=by
 obtain⟨f,es,g,h,i,j,k,l,m,o,p,q,r⟩:=x;exact⟨f,es,g,h,i,j,k,l,λy=>by rw[d];exact m y,o,p,by rw[e];exact q,r⟩
variable {tb:SetTable}
theorem L0(x:Gx C tb):Gx C {tb with plain:=false}:=⟨x.ris,x.dum,x.led⟩
theorem Wu{ob:Obj}{es a:Array (Int×Value)}{ep:Nat}{b:SetTable}(h:s.heap.get? D=some ob)(d:ob.ExactSet)(i:ob.data=.set es ep tb)(j:ElemsOf knd a.toList)(k:∀y,M y=true↔∃e∈a.toList,knd.is y e.2=true)(f:a.size<scanBound)(l:b.fits a.size=true)(n:Gx C b){Q:Unit->Shared->Prop}
 (q:∀c,Heap.SameBut D s.heap c->(∃g,c.get? D=some g/\g.ExactSet/\g.data=.set a (ep+1) b)->BZ knd C c D M a.size->Q () {s with heap:=c}):wpAny (model prog w) A (storeSet D a b) Q E s:=by
 obtain⟨m,_⟩:=SetOf_store (knd:=knd) h d i j k f l;exact wpAny_storeSet_of h i (q _ (Heap.SameBut.update ..) ⟨_,m,d,rfl⟩ ⟨_,a,ep+1,b,m,d,rfl,j,k,f,l,rfl,n⟩) (fits_of_scanBound f)
theorem Wv{l:Array (Int×Value)}{m:List (Int×Value)}(p:l.toList.Perm m):l.size=m.length:=by rw[<-Array.length_toList,p.length_eq]
theorem S5(b:Bool){u:Shared}{Q:Unit->Shared->Prop}(q:Q () u):wpAny (model prog w) A (match b with|true=>rule "set.scan.the-table-gave-way"|false=>pure ()) Q E u:=by
 cases b;exact Au q;exact G4 q
theorem Ww{ob:Obj}{es c:Array (Int×Value)}{ep:Nat}{d:SetTable}(r:s.heap.get? D=some ob)(t:ob.ExactSet)(v:ob.data=.set es ep tb)(i:ElemsOf knd c.toList)(j:∀y,M y=true↔∃e∈c.toList,knd.is y e.2=true)(k:c.size<scanBound)(x:d.fits c.size=true)(l:Gx C d){z:Bool}{Q:Option Bool->Shared->Prop}
 {g:Bool->Sem Unit} (B:∀(b:Bool)(u:Shared)(m:Unit->Shared->Prop),m () u->wpAny (model prog w) A (g b) m E u)
 (q:∀f,Heap.SameBut D s.heap f->BZ knd C f D M c.size->Q (some true) {s with heap:=f}) :
 wpAny (model prog w) A (storeSet D c d >>= λ_=>if(!z && d.tooFull)=true then g (relayAll d c (SetTable.grown c.size)).2.2 >>= λ_=>storeSet D (relayAll d c (SetTable.grown c.size)).1 (relayAll d c (SetTable.grown c.size)).2.1 >>= λ_=>pure (some true) else pure (some true)) Q E s:=by
 refine Ad (Wu r t v i j k x l λf n⟨S,F,G,H⟩I=>?_);split;have h:=relayAll_perm d c (SetTable.grown c.size);have o:=relayAll_fits d c (SetTable.grown c.size);have tk:=Z7 l c (SetTable.grown c.size);generalize relayAll d c (SetTable.grown c.size)=J at h o tk;obtain⟨K,P,R⟩:=J;have p:K.size=c.size:=(Wv h).trans (Array.length_toList ..);refine Ad (B _ _ _ (Ad ?_));refine Wu (s:={s with heap:=f}) F G H (i.perm h) (λy=>(j y).trans ⟨λ⟨e,a,b⟩=>⟨e,h.mem_iff.mpr a,b⟩,λ⟨e,a,b⟩=>⟨e,h.mem_iff.mp a,b⟩⟩) (by rw[p];exact k) o tk λL N _ O=>?_;exact Au (q L (n.trans N) (O.cong (λ_=>rfl) p.symm));exact Au (q f n I)
theorem JO{y:α}{x:Value}{Q:Bool->Shared->Prop}(r:knd.is y x=true)(t:x.scannable=true)(R:BZ knd C s.heap D M n)(aa:n+1<scanBound)
 (q:∀a,Heap.SameBut D s.heap a->BZ knd C a D (λz=>M z || decide (z=y)) (if M y then n else n+1)->Q (!M y) {s with heap:=a}):wpAny (model prog w) A (setAddHashed D x (knd.hash y)) Q E s:=by
 obtain⟨S,es,T,tb,f,v,g,m,o,G,B,H,I⟩:=R;unfold setAddHashed setAddHashedIn;refine Ff (Ad (wpAny_setState_of f g B ?_));dsimp only;rw[byScan_of t G m,Aj rfl];unfold setAddByScan;refine Ad (Ad (G4 (Ad (wpAny_setScan_of r f g B m ?_))))
 cases fd:List.findIdx? (λe=>knd.is y e.2) es.toList with
 |some j =>
   obtain⟨U,V,_⟩:=List.findIdx?_eq_some_iff_getElem.mp fd;have h:M y=true:=(o y).mpr ⟨_,EC U,V⟩;dsimp only;refine Au (Au ?_)
   have O:=q s.heap (Heap.SameBut.refl ..) ⟨S,es,T,tb,f,v,g,m,λz=>by
    rw[<-o z,Bool.or_eq_true,decide_eq_true_eq];refine⟨λc=>?_,.inl⟩;rcases c with c|c;exact c;rw[c];exact h,G,B,by rw[h];exact H,I⟩
   rw[h] at O;exact O
 |none =>
   have h:M y=false:=by
    cases c:M y with
    |false=>rfl
    |true =>
      obtain⟨e,W,X⟩:=(o y).mp c;have:=List.findIdx?_eq_none_iff.mp fd e W;rw[X] at this;cases this
   dsimp only;have d:=layNew_perm tb es (knd.hash y) x;have i:=layNew_fits tb es (knd.hash y) x;have tk:=Z6 I es (knd.hash y) x;generalize layNew tb es (knd.hash y) x=Y at d i tk;obtain⟨p,t1,wd,gv⟩:=Y;dsimp only at d i tk;rw[Array.toList_push] at d;have J:p.size=n+1:=by rw[Wv d,AW,Array.length_toList,H];rfl
   have K:ElemsOf knd p.toList:=(m.push r t).perm d;have L:=mem_push_iff r o d;have N:p.size<scanBound:=by rw[J];exact aa
   have P:∀a,Heap.SameBut D s.heap a->BZ knd C a D (λz=>M z || decide (z=y)) p.size->Q true {s with heap:=a}:=λa k l=>by
    have:=q a k;rw[h] at this;exact this (l.cong (λ_=>rfl) J.symm)
   refine Ad (S5 _ ?_);split;rw[hashByValue_scannable 8 t];refine Ad (Au ?_);refine Ww f v g K L N (by split;exact i;exact SetTable.fits_plain_off i) (by split;exact tk;exact L0 tk) (λb u Z F=>S5 b F) λa k l=>?_;exact Au (P a k l);refine Ad (Au ?_);rw[Aj rfl];exact Ww f v g K L N i tk (λb u Z F=>S5 b F) λa k l=>Au (P a k l)
end
abbrev BN (w:World):Bool:=!(w.params.followText "set-order")
abbrev HL (b:Bool):Obj:={cls:=.type "set",dict:=none,data:=.set #[] 0 (.fresh 0 0 b)}
section
variable {prog:Program} {w:World} {A:Around} {E:Value->Shared->Prop} {s:Shared}
theorem JP(x:Value)(q:Q (.ref s.heap.objs.size) {s with heap:=s.heap.push (HL (BN w))}) :
 codeAny (model prog w) A (.call (.builtin "set.__new__") ⟨[.type "set",x],[]⟩) (wants Q E) s:=by
 refine codeAny_of_tree ?_;show wpAny _ A.in1 (checkBuiltinCall "set.__new__" ⟨[.type "set",x],[]⟩ >>= λ_=>again (.builtin "set.__new__" ⟨[.type "set",x],[]⟩)) _ _ s;refine Ad (wpAny_of_eq (F.newCall_set_1 x) (Au ⟨plainId_quiet F.plain_set_new _,codeAny_builtin F.entry_set_new ?_⟩));rw[Around.under_plainId F.plain_set_new _];have a:=sub_set_self;unfold Builtin.«set.__new__» Builtin.Frozenset.newClass
 cases s with
 |mk b g d tk os =>
   dsimp only at q ⊢
   wp_walk
   refine wpAny_askSetting (Au ?_);dsimp only;simp only[newObj];exact Ad (wpAny_alloc (Au (Au q)))
end
def B0 (f:Nat->Int) (i:Nat):List Int:=((List.range i).map f).foldl step_dedup []
theorem Oo(f:Nat->Int)(i:Nat):B0 f (i+1)=step_dedup (B0 f i) (f i):=by
 unfold B0;rw[List.range_succ,Bn,Ki];rfl
theorem HM(l:List Int)(x:Int):(step_dedup l x).length=if l.any (·==x) then l.length else l.length+1:=by
 unfold step_dedup;split<;>simp
theorem HN(l:List Int)(x y:Int):(step_dedup l x).any (·==y)=(l.any (·==y) || decide (y=x)):=by
 unfold step_dedup;by_cases h:l.any (·==x)=true;rw[Aj h];by_cases e:y=x;subst e;rw[h];rfl;rw[DS e,Bool.or_false];rw[Ak h,List.any_append];congr 1;by_cases e:y=x;subst e;simp;rw[DS e]
 simp
 exact λz=>e z.symm
theorem Wx(f:Nat->Int):∀i,(B0 f i).length<=i
 |0=>AB _
 |i+1=>by
   have:=Wx f i;rw[Oo,HM];split<;>omega
theorem Wy(f:Nat->Int):∀(i:Nat)(y:Int),(B0 f i).any (·==y)=true↔∃j,j<i/\f j=y
 |0,y=>by
   constructor;intro h;cases h;rintro⟨j,h,_⟩;omega
 |i+1,y=>by
   rw[Oo,HN,Bool.or_eq_true,Wy f i y,decide_eq_true_iff];constructor;rintro(⟨j,h,e⟩|e);exact⟨j,by omega,e⟩;exact⟨i,by omega,e.symm⟩;rintro⟨j,h,e⟩;by_cases a:j=i;subst a;exact .inr e.symm;exact .inl ⟨j,by omega,e⟩
section
variable {prog:Program} {w:World} {A:Around} {R:Result->Shared->Prop} {It:Addr} {fp r:List Addr} {G:Array GenState->Array GenState->Prop} {n:Nat} {Pn:Nat->Value->Prop} {Sn:Nat->Shared->Prop}
theorem Z8(c:WalksS prog w A.in1 It fp r G n Pn Sn)(D:Addr)(l:D∉fp)(f:Nat->Int)(u:∀i v,Pn i v->∃t,v=.int (f i) t)(Q:n+1<scanBound) :
 ∀(k i:Nat)(s:Shared),n-i=k->i<=n->Sn i s->BZ (intKind prog w) (BN w) s.heap D (λy=>(B0 f i).any (·==y)) (B0 f i).length ->
  (∀Z,Moved (D::r) G s Z->BZ (intKind prog w) (BN w) Z.heap D (λy=>(B0 f n).any (·==y)) (B0 f n).length->R (.ok (.ret .none)) Z) ->
  codeAny (model prog w) A (.builtin "set.update.loop" ⟨[.ref D,.ref It],[]⟩) R s:=by
 have p:D∉r:=λz=>l (c.sub _ z);have sub:∀b∈r,b∈D::r:=λb z=>Ch _ z;intro k
 induction k with
 |zero =>
   intro i s x B st g j;obtain rfl:i=n:=by omega
   refine codeAny_builtin F.entry_set_update_loop ?_;rw[Around.under_plainId F.plain_set_update_loop _];show wpAny _ A.in1 (pyNext (.ref It) >>= _) _ _ s;refine Ad (c.done s _ _ st λa d=>?_);show wpAny _ A.in1 (ret Value.none) _ _ a;refine Au (j a (d.mono sub) ?_);exact g.keep λC e=>d.heap D _ p e
 |succ k E =>
   intro i s x B st g j;have lt:i<n:=(by omega);refine codeAny_builtin F.entry_set_update_loop ?_;rw[Around.under_plainId F.plain_set_update_loop _];show wpAny _ A.in1 (pyNext (.ref It) >>= _) _ _ s;refine Ad (c.item i s _ _ lt st λv a pv J d=>?_);obtain⟨t,rfl⟩:=u i v pv;have K:BZ (intKind prog w) (BN w) a.heap D (λy=>(B0 f i).any (·==y)) (B0 f i).length:=g.keep λC e=>d.heap D _ p e;show wpAny _ A.in1 (holding [Value.int (f i) t] (setAdd D (.int (f i) t)) >>= _) _ _ a;refine Ad (Ff ?_);unfold setAdd;refine Ff ?_;have q:(intKind prog w).is (f i) (.int (f i) t)=true:=intKind_is _ _ _ _;refine Ad ((intKind prog w).pyHash (k:=f i) q ?_);have P:(B0 f i).length+1<scanBound:=by have:=Wx f i;omega
   refine JO (knd:=intKind prog w) (s:={a with toks:=a.toks+1}) q rfl K P λH m L=>?_
   have M:BZ (intKind prog w) (BN w) H D (λy=>(B0 f (i+1)).any (·==y)) (B0 f (i+1)).length:=
    L.cong (λy=>by rw[Oo,HN]) (by rw[Oo,HM])
   refine Au ⟨plainId_quiet F.plain_set_update_loop _,E (i+1) _ (by omega) lt (c.frame _ a _ _ J (Nat.le_succ _) λb h o e=>?_) M λI N O=>?_⟩;rw[m.2 b λz:b=D=>l (by rw[<-z];exact h)];exact e;refine j I (Moved.trans c.gtrans ((d.mono sub).then_heap (Nat.le_succ _) λb o h e=>?_) N) O;rw[m.2 b λz:b=D=>h (by rw[z];exact Bv)];exact e
end
section
variable {prog:Program} {w:World} {A:Around} {E:Value->Shared->Prop} {s:Shared}
set_option maxRecDepth 100000 in
set_option maxHeartbeats 3200000 in
theorem Z9 {l:Addr} {a:Array Value} {f:Nat->Int} {Q:Value->Shared->Prop} (J:A.handled=none) (K:s.heap.IsList l a) (L:∀ (i:Nat) (v:Value),a[i]? = some v -> ∃ t,v=.int (f i) t) (d:a.size + 1 < scanBound)
 (h:∀(h':Heap)(tk:Nat),BZ (intKind prog w) (BN w) h' s.heap.objs.size (λy=>(B0 f a.size).any (·==y)) (B0 f a.size).length ->
  (∀b o,b<s.heap.objs.size->s.heap.get? b=some o->h'.get? b=some o)->Q (.ref s.heap.objs.size) {s with heap:=h',toks:=tk}) :
 wpAny (model prog w) A (call (.type "set") [.ref l]) Q E s:=by
 obtain⟨c,tl,ao⟩:=F.called_set.mro;have av:=F.called_set.made;have aq:=F.called_set.sub;refine wpAny_call (codeAny_of_tree ?_);show wpAny _ _ (callAny (.type "set") _) _ _ _;refine Au ⟨Code.quiet_builtin _ (by decide +kernel),codeAny_builtin F.entry_type_call ?_⟩;rw[Around.under_plain (weight_type_call_type "set" [.ref l] []) rfl];have h1:=F.called_set.notType;have h2:=F.called_set.canCreate;have ai:=F.typeCall_set_1 (.ref l)
 repeat (any_goals (first|assumption|wp_step))
 refine codeAny_mono (JP (.ref l) (E:=E) (Q:=λn p=>n=.ref s.heap.objs.size/\p={s with heap:=s.heap.push (HL (BN w))}) ⟨rfl,rfl⟩) λr p j=>?_
 cases r with
 |error e=>exact j
 | ok M =>
   cases M with
   | ret n =>
     obtain⟨rfl,rfl⟩:=j;have q:(s.heap.push (HL (BN w))).get? s.heap.objs.size=some (HL (BN w)):=B4 _ rfl;have N:Shared.TypeIs {s with heap:=s.heap.push (HL (BN w))} (.ref s.heap.objs.size) "set" :=⟨_,q,rfl⟩;have aj:=F.called_set.init.lookup;have ak:=F.called_set.init.bind (.ref s.heap.objs.size)
     repeat (any_goals (first|assumption|wp_step))
     refine codeAny_mono (codeAny_call_builtin (R:=wants (λr u=>r=.none/\∃h' tk,u={s with heap:=h',toks:=tk}/\BZ (intKind prog w) (BN w) h' s.heap.objs.size (λy=>(B0 f a.size).any (·==y)) (B0 f a.size).length /\
      (∀b o,b<s.heap.objs.size->s.heap.get? b=some o->h'.get? b=some o)) E) F.called_set.init.plain F.entry_set_init (check_set_init_1 N ?_)) λO u k=>?_
     . obtain⟨⟨oc,P,al,W⟩,C,D,x,G⟩:=K
       simp only at D G;subst D;subst G;have ah:(s.heap.push (HL (BN w))).get? l=some {cls:=.type "list",dict:=P,data:=.seq a x,slots:=W}:=A8 _ C;have ar:=F.sub_list_set;have au:=F.sub_list_frozenset;have an:(Value.type "list" == Value.type "dict")=false:=(by decide);have H:(s.heap.push (HL (BN w))).IsList l a:=⟨_,ah,rfl,x,rfl⟩;unfold Builtin.«set.__init__» noKeywords Builtin.Frozenset.updateFrom;generalize X:pyIter=PI
       wp_walk
       subst X;refine wpAny_pyIter_list H (Ad (wpAny_runValue ?_));have I:l<s.heap.objs.size:=A1 C;have Y:A.in1.in1.in1.handled=none:=(by simp[J])
       have Z:l≠(s.heap.push (HL (BN w))).objs.size:=by
        rw[Heap.size_push];exact CS (Nat.lt_succ_of_lt I)
       have aa:s.heap.objs.size∉[(s.heap.push (HL (BN w))).objs.size,l]:=by
        rw[Heap.size_push];intro z;rcases Ce.mp z with z|z;exact absurd z (CS (QL _));exact absurd (AY.mp z) (Nat.ne_of_gt I)
       refine Z8 ((Walks.list Y _ l Z a).toS) s.heap.objs.size aa f L d (a.size-0) 0 _ (by omega) (Ci _) ⟨⟨_,B4 _ rfl,rfl,rfl⟩,(H.push _)⟩ ?hS0 ?hR
       case hS0 =>
        have S:((s.heap.push (HL (BN w))).push {cls:=.type "list_iterator",data:=.fields #[.ref l,.int 0 0]}).get? s.heap.objs.size=some (HL (BN w)):=A8 _ q;exact⟨_,#[],0,_,S,⟨rfl,rfl,rfl⟩,rfl,(λe T=>by simp at T),(λy=>by simp[B0]),by decide,rfl,rfl,⟨List.Pairwise.nil,rfl,rfl⟩⟩
       case hR =>
        rintro⟨h',U,V,ab,ae⟩ g m;obtain rfl:U=s.gens:=g.gens;obtain rfl:V=s.drawn:=g.drawn;obtain rfl:ae=s.os:=g.os;show wpAny _ _ _ _ _ _;refine Au ?_;show wpAny _ _ (ret Value.none) _ _ _;refine Au ⟨rfl,h',ab,rfl,m,λb o d e=>?_⟩;refine g.heap b o (λz=>?_) (A8 _ (A8 _ e));rcases Ce.mp z with z|z;exact absurd z (CS d);have B:=AY.mp z;rw[Heap.size_push] at B;exact absurd B (CS (Nat.lt_succ_of_lt d))
     . cases O with
       |error e=>exact k
       |ok af =>
         cases af with
         |ret r =>
           obtain⟨rfl,h',tk,rfl,m,ag⟩:=k
           repeat (any_goals (first|assumption|wp_step))
           exact h _ _ m ag
         |_=>exact k.elim
   |_=>exact j.elim
end
theorem cA:entryFor table "set.__iter__" = some Builtin.«frozenset.__iter__»:=entryFor_alias (id':= "frozenset.__iter__") (by kernel_rfl) rfl (by decide +kernel) (by kernel_rfl)
theorem Bx:Slot "set_iterator" "__next__" "set_iterator.__next__" :=.of (owner:= "set_iterator") (n:= "__next__") (by rw[typeLookup_type,builtinLookup_eq_fast];kernel_rfl) (by decide +kernel) (by decide +kernel) (by decide +kernel) (by first|exact .inl (by decide +kernel)|exact .inr (by decide +kernel)) (by rw[isSubtype_type];kernel_rfl)
theorem P6:entryFor table "set_iterator.__next__" = some Builtin.«set_iterator.__next__»:=entryFor_of_tree (by kernel_rfl)
theorem Wz:Manifest.owners.lookup (String.ofList ['r','o','t','a','r','e','t','i','_','t','e','s'].reverse)=some Manifest.sig_set_iterator:=by kernel_rfl
theorem P7(a:Value):argsOk "set_iterator.__next__" ⟨[a],[]⟩:=by
 unfold argsOk;rw[signature?_of (id:= "set_iterator.__next__") (n:=['_','_','t','x','e','n','_','_']) (o:=['r','o','t','a','r','e','t','i','_','t','e','s']) (by kernel_rfl) Wz];kernel_rfl
abbrev Ev (f:Value) (i n ep:Nat) (D:Addr):Obj:={cls:=.type "set_iterator",data:=.fields #[f,rawInt i,.ref D,rawInt n,rawInt ep]}
structure E2 (hp:Heap) (D:Addr) (es:Array (Int×Value)) (ep:Nat) (tb:SetTable):Prop where
 ex:∃ob,hp.get? D=some ob/\ob.ExactSet/\ob.data=.set es ep tb
 fit:tb.fits es.size=true
section
variable {prog:Program} {w:World} {A:Around} {E:Value->Shared->Prop} {s:Shared} {It D:Addr} {es:Array (Int×Value)} {ep:Nat} {tb:SetTable}
theorem E2.entries(x:E2 s.heap D es ep tb){Q:Array (Int×Value)->Shared->Prop}(q:Q es s):wpAny (model prog w) A (setEntries D) Q E s:=by
 obtain⟨b,a,_,c⟩:=x.ex;exact wpAny_setEntries_of a c x.fit q
theorem E2.state(x:E2 s.heap D es ep tb){Q:(Array (Int×Value)×Nat×SetTable)->Shared->Prop}(q:Q (es,ep,tb) s):wpAny (model prog w) A (setState D) Q E s:=by
 obtain⟨b,a,_,c⟩:=x.ex;exact wpAny_setState_of a c x.fit q
theorem E2.keep{c d:Heap}(x:E2 c D es ep tb)(k:∀ob,c.get? D=some ob->d.get? D=some ob):E2 d D es ep tb:=by
 obtain⟨ob,a,b⟩:=x.ex;exact⟨⟨ob,k _ a,b⟩,x.fit⟩
theorem cB{c a:Nat}{v:Value}{Q:Option Value->Shared->Prop}(hit:s.heap.get? It=some (Ev (rawInt c) i es.size ep D))(g:E2 s.heap D es ep tb)
 (h:∀(B:Around)(j:Value->Shared->Prop)(d:Option (Value×Nat)->Shared->Prop),d (some (v,a)) s->wpAny (model prog w) B (setNext D c i ep) d j s)
 (q:∀b,b.get? It=some (Ev (rawInt a) (i+1) es.size ep D)->Heap.SameBut It s.heap b->Q (some v) {s with heap:=b}):wpAny (model prog w) A (pyNext (.ref It)) Q E s:=by
 have e:s.TypeIs (.ref It) "set_iterator" :=⟨_,hit,rfl⟩;unfold pyNext;refine Ad (wpAny_attempt (wpAny_callSpecial?_slot (name:=Str.ofString "__next__") e Bx (wpAny_call_entry Bx e P6 ?_ (P7 _))));unfold Builtin.«set_iterator.__next__» slotArgs;simp only[List.isEmpty_nil,Bool.not_true,Fe,↓reduceIte,Gm,bne_self_eq_false];refine Ad (Au ?_);refine Ad (wpAny_fieldsOf hit rfl ?_);show wpAny _ _ (setEntries D >>= _) _ _ s;refine Ad (g.entries ?_);rw[Ak (by simp)];refine Ad (h _ _ _ ?_);show wpAny _ _ (setField (Value.ref It) 0 (rawInt a) >>= _) _ _ s;refine Ad (wpAny_setField hit rfl (by simp) ?_);have f:(s.heap.update It (Obj.mapFields (·.setIfInBounds 0 (rawInt a)))).get? It=some (Ev (rawInt a) i es.size ep D):=Heap.get?_update_self _ hit rfl;refine Ad (wpAny_setField f rfl (by simp) ?_);have k:=Heap.get?_update_self (Obj.mapFields (·.setIfInBounds 1 (rawInt ((i:Int)+1)))) f rfl;exact Au ⟨_,rfl,Au (q _ k ((Heap.SameBut.update ..).trans (Heap.SameBut.update ..)))⟩
theorem WA{vs:Array Value}{ob:Obj}{Q:Option Value->Shared->Prop}(d:A.handled=none)(hit:s.heap.get? It=some ob)(hd:ob.data=.fields vs)(hz:2<vs.size)
 (q:∀c,Heap.ExtBut It s.heap c->Q none {s with heap:=c}):wpAny (model prog w) A.in1 (setField (Value.ref It) 2 Value.none >>= λ_=>newExc (Value.type "StopIteration") [] >>= λe=>raiseNew (α:=Fin) e) (λf Z=>∃v,f=Fin.done (Flow.ret v)/\wpAny (model prog w) A (pure (some v)) Q E Z)
  (λe Z=>wpAny (model prog w) A (isInstance e (Value.type "StopIteration") >>= λb=>if b=true then pure none else throw e) Q E Z) s:=by
 refine Ad (wpAny_setField hit hd hz ?_);refine Ad ?_;simp only[newExc,newTuple];refine Ad (wpAny_newObj_type ?_ (by size_fits));refine Ad (m:=firstArgMember _ _) (wpAny_of_eq (a:=Value.none) (by first|rfl|(simp only[firstArgMember];rfl)) ?_);refine wpAny_newObj_type ?_ (by size_fits);simp only[raiseNew];refine Ad (wpAny_handled ?_);rw[show A.in1.handled=none from d];refine Ad (Au (wpAny_throw ?_))
 refine Ad (wpAny_isInstance (T:= "StopIteration") (b:=true) ⟨_,B4 _ rfl,rfl⟩ isSubtype_stop ?_);exact Au (q _ (((Heap.SameBut.update ..).extBut.push _).push _))
theorem cC{a:Nat}{Q:Option Value->Shared->Prop}(e:A.handled=none)(hit:s.heap.get? It=some (Ev (rawInt a) i es.size ep D))(f:E2 s.heap D es ep tb)
 (g:∀(B:Around)(h:Value->Shared->Prop)(b:Option (Value×Nat)->Shared->Prop),b none s->wpAny (model prog w) B (setNext D a i ep) b h s)
 (q:∀c,Heap.ExtBut It s.heap c->Q none {s with heap:=c}):wpAny (model prog w) A (pyNext (.ref It)) Q E s:=by
 have d:s.TypeIs (.ref It) "set_iterator" :=⟨_,hit,rfl⟩;unfold pyNext;refine Ad (wpAny_attempt (wpAny_callSpecial?_slot (name:=Str.ofString "__next__") d Bx (wpAny_call_entry Bx d P6 ?_ (P7 _))));unfold Builtin.«set_iterator.__next__» slotArgs;simp only[List.isEmpty_nil,Bool.not_true,Fe,↓reduceIte,Gm,bne_self_eq_false];refine Ad (Au ?_);refine Ad (wpAny_fieldsOf hit rfl ?_);show wpAny _ _ (setEntries D >>= _) _ _ s;refine Ad (f.entries ?_);rw[Ak (by simp)];refine Ad (g _ _ _ ?_);exact WA e hit rfl (by simp) q
theorem cD{ps:Array Value}{p:Nat}{t:Tok}{v:Value}{hv:Int}{Q:Option Value->Shared->Prop}(hit:s.heap.get? It=some (Ev (.ref T) i es.size ep D))(b:E2 s.heap D es ep tb)(f:s.heap.IsTuple T ps)(a:ps[i]?=some (.int p t))(hv:es[p]?=some (hv,v))
 (q:∀a,a.get? It=some (Ev (.ref T) (i+1) es.size ep D)->Heap.SameBut It s.heap a->Q (some v) {s with heap:=a}):wpAny (model prog w) A (pyNext (.ref It)) Q E s:=by
 have c:s.TypeIs (.ref It) "set_iterator" :=⟨_,hit,rfl⟩;obtain⟨g,d,h,nn,dt⟩:=f;unfold pyNext;refine Ad (wpAny_attempt (wpAny_callSpecial?_slot (name:=Str.ofString "__next__") c Bx (wpAny_call_entry Bx c P6 ?_ (P7 _))));unfold Builtin.«set_iterator.__next__» slotArgs;simp only[List.isEmpty_nil,Bool.not_true,Fe,↓reduceIte,Gm,bne_self_eq_false];refine Ad (Au ?_);refine Ad (wpAny_fieldsOf hit rfl ?_);show wpAny _ _ (setEntries D >>= _) _ _ s;refine Ad (b.entries ?_);rw[Ak (by simp)];show wpAny _ _ (seqItems? (.ref T) >>= _) _ _ s;refine Ad (F9 d dt ?_)
 show wpAny _ _ (match ps[i]? with|some (Value.int place tok)=>_|some val=>_|none=>_) _ _ s
 rw[a];show wpAny _ _ (setNextDrawn D p ep >>= _) _ _ s;refine Ad ?_;unfold setNextDrawn;refine Ad (b.state ?_);dsimp only;rw[Ak (by simp)];rw[hv];refine Au ?_;show wpAny _ _ (setField (Value.ref It) 1 (rawInt ((i:Int)+1)) >>= _) _ _ s;refine Ad (wpAny_setField hit rfl (by simp) ?_);have e:=Heap.get?_update_self (Obj.mapFields (·.setIfInBounds 1 (rawInt ((i:Int)+1)))) hit rfl;exact Au ⟨_,rfl,Au (q _ e (Heap.SameBut.update ..))⟩
theorem cE{ps:Array Value}{Q:Option Value->Shared->Prop}(c:A.handled=none)(hit:s.heap.get? It=some (Ev (.ref T) i es.size ep D))(d:E2 s.heap D es ep tb)(g:s.heap.IsTuple T ps)(a:ps[i]?=none)
 (q:∀a,Heap.ExtBut It s.heap a->Q none {s with heap:=a}):wpAny (model prog w) A (pyNext (.ref It)) Q E s:=by
 have b:s.TypeIs (.ref It) "set_iterator" :=⟨_,hit,rfl⟩;obtain⟨h,e,j,nn,dt⟩:=g;unfold pyNext;refine Ad (wpAny_attempt (wpAny_callSpecial?_slot (name:=Str.ofString "__next__") b Bx (wpAny_call_entry Bx b P6 ?_ (P7 _))));unfold Builtin.«set_iterator.__next__» slotArgs;simp only[List.isEmpty_nil,Bool.not_true,Fe,↓reduceIte,Gm,bne_self_eq_false];refine Ad (Au ?_);refine Ad (wpAny_fieldsOf hit rfl ?_);show wpAny _ _ (setEntries D >>= _) _ _ s;refine Ad (d.entries ?_);rw[Ak (by simp)];show wpAny _ _ (seqItems? (.ref T) >>= _) _ _ s;refine Ad (F9 e dt ?_)
 show wpAny _ _ (match ps[i]? with|some (Value.int place tok)=>_|some val=>_|none=>_) _ _ s
 rw[a];show wpAny _ _ (setField (Value.ref It) 0 (rawInt 0) >>= _) _ _ s;refine Ad (wpAny_setField hit rfl (by simp) ?_);have f:=Heap.get?_update_self (Obj.mapFields (·.setIfInBounds 0 (rawInt 0))) hit rfl;exact WA c f rfl (by simp) λa ex=>q a ((Heap.SameBut.update ..).extBut.trans ex)
theorem HP{v:Value}{n:Int}(h:(intKind prog w).is n v=true):∃t,v=.int n t:=by
 have a:Value.isInt n v=true:=h;cases v<;>simp[Value.isInt] at a;subst a;exact⟨_,rfl⟩
theorem S6{α:Type}:∀{l:List α}{i:Nat}(h:i<l.length),(l[i]::l.eraseIdx i).Perm l
 |x::l,0,_=>List.Perm.refl _
 |x::l,i+1,h=>(List.Perm.swap x _ _).trans (List.Perm.cons x (S6 (l:=l) (i:=i) (by simpa using h)))
theorem WB{α:Type}(nx:Nat->Nat):∀(a k:Nat)(left:List α)(out:Array α),left.length=a->(pickOrder.go nx a k left out).toList.Perm (out.toList++left)
 |0,k,left,out,h=>by
   rw[List.length_eq_zero_iff.mp h];unfold pickOrder.go
   simp
 |a+1,k,left,out,h=>by
   have b:nx k%left.length<left.length:=Nat.mod_lt _ (by omega);unfold pickOrder.go;rw[AD b];dsimp only;refine(WB nx a (k+1) _ _ (by rw[List.length_eraseIdx,Aj b];omega)).trans ?_;rw[Array.toList_push,FX];refine List.Perm.append_left _ ?_;exact S6 b
theorem cF{c:Source}{Q:Nat->Shared->Prop}(a:n≠0)(q:∀i b,i<n->Q i {s with drawn:=b}):wpAny (model prog w) A (choose c n) Q E s:=
 λ_ _ _=>⟨a,q _ _ (Nat.mod_lt _ (Nat.pos_of_ne_zero a))⟩
theorem WC{α:Type}:∀(n:Nat)(xs:List α){A:Around}{E:Value->Shared->Prop}{s:Shared}{Q:List α->Shared->Prop},xs.length=n->(∀ys b,ys.Perm xs->Q ys {s with drawn:=b})->wpAny (model prog w) A (drawOrder n xs) Q E s
 |0,xs,A,E,s,Q,h,q=>by
   have e:=List.length_eq_zero_iff.mp h;subst e;unfold drawOrder;exact Au (q [] s.drawn (List.Perm.refl _))
 |n+1,[],A,E,s,Q,h,q=>by cases h
 |n+1,x::xs,A,E,s,Q,h,q=>by
   unfold drawOrder;refine Ad (cF (by simp) λi b a=>?_);rw[AD a];dsimp only;refine Ad (WC n _ (by rw[List.length_eraseIdx,Aj a];omega) λys d c=>?_);exact Au (q _ d ((List.Perm.cons _ c).trans (S6 a)))
end
theorem WD:Slot "set_iterator" "__iter__" "set_iterator.__iter__" :=.of (owner:= "set_iterator") (n:= "__iter__") (by rw[typeLookup_type,builtinLookup_eq_fast];kernel_rfl) (by decide +kernel) (by decide +kernel) (by decide +kernel) (by first|exact .inl (by decide +kernel)|exact .inr (by decide +kernel)) (by rw[isSubtype_type];kernel_rfl)
theorem cG:entryFor table "set_iterator.__iter__" = some Builtin.«dict_keyiterator.__iter__»:=entryFor_alias (id':= "dict_keyiterator.__iter__") (by kernel_rfl) rfl (by decide +kernel) (by kernel_rfl)
theorem cH(a:Value):argsOk "set_iterator.__iter__" ⟨[a],[]⟩:=by
 unfold argsOk;rw[signature?_of (id:= "set_iterator.__iter__") (n:=['_','_','r','e','t','i','_','_']) (o:=['r','o','t','a','r','e','t','i','_','t','e','s']) (by kernel_rfl) Wz];kernel_rfl
section
variable {prog:Program} {w:World} {A:Around} {E:Value->Shared->Prop} {s:Shared} {It D:Addr} {es:Array (Int×Value)} {ep:Nat} {tb:SetTable}
theorem WE{f:Value}(hit:s.heap.get? It=some (Ev f i n ep D))(q:Q (.ref It) s):wpAny (model prog w) A (pyIter (.ref It)) Q E s:=by
 have a:s.TypeIs (.ref It) "set_iterator" :=⟨_,hit,rfl⟩;refine wpAny_pyIter_slot a WD (wpAny_call_entry WD a cG ?_ (cH _));show wpAny _ _ (ret (.ref It)) _ _ s;exact Au ⟨_,rfl, "set_iterator",_,a,Bx.lookup,q⟩
theorem L1{b:Addr}(h:b∈[It]):b∈[It,D]:=by rw[AY.mp h];exact Bv
theorem WF(p:A.handled=none)(r:It≠D)(f:Nat->Nat)(vs:List Value)(H:vs.length=es.size)
 (t:∀(i:Nat)(v:Value)(s:Shared)(B:Around)(d:Value->Shared->Prop)(c:Option (Value×Nat)->Shared->Prop),vs[i]?=some v->E2 s.heap D es ep tb->c (some (v,f (i+1))) s->wpAny (model prog w) B (setNext D (f i) i ep) c d s)
 (u:∀(s:Shared)(B:Around)(d:Value->Shared->Prop)(c:Option (Value×Nat)->Shared->Prop),E2 s.heap D es ep tb->c none s->wpAny (model prog w) B (setNext D (f es.size) es.size ep) c d s) :
 Walks prog w A It [It,D] [It] es.size (λi v=>vs[i]?=some v) (λi h=>h.get? It=some (Ev (rawInt (f i)) i es.size ep D)/\E2 h D es ep tb) where
 sub:=λb y=>L1 y
 frame:=λi h I⟨a,b⟩k=>⟨k It Bv _ a,b.keep λC e=>k D (by simp) _ e⟩
 item:=λi s Q E J⟨a,b⟩q=>by
  have G:i<vs.length:=(by omega);have m:=AD G;refine cB (v:=vs[i]) a b (λB d c g=>t i _ s B d c m b g) λj F n=>?_;have:=q vs[i] j s.toks m ⟨F,b.keep λC e=>(n.2 D (Ne.symm r)).trans e⟩ λx o l e=>(n.2 x (λz=>l (by rw[z];exact Bv))).trans e;exact this
 done:=λs Q E⟨a,b⟩q=>cC p a b (λB d c g=>u s B d c b g) λj ex=>q j s.toks λx o l e=>ex x o (λz=>l (by rw[z];exact Bv)) e
 self:=λi s Q E⟨a,_⟩q=>WE a q
theorem cI(l:A.handled=none)(m:It≠D)(n:It≠T)(ps:List Nat)(vs:List Value)(G:vs.length=es.size)(hv:∀(i:Nat)(v:Value),vs[i]?=some v->∃(p:Nat)(x:Int),ps[i]?=some p/\es[p]?=some (x,v))(d:ps.length=es.size) :
 Walks prog w A It [It,D,T] [It] es.size (λi v=>vs[i]?=some v) (λi h=>h.get? It=some (Ev (.ref T) i es.size ep D)/\E2 h D es ep tb/\h.IsTuple T (ps.map λp:Nat=>rawInt (p:Int)).toArray) where
 sub:=λb r=>by rw[AY.mp r];exact Bv
 frame:=λi h H⟨a,b,c⟩k=>⟨k It Bv _ a,b.keep λu e=>k D (by simp) _ e,let ⟨o,e,x⟩:=c;⟨o,k T (by simp) _ e,x⟩⟩
 item:=λi s Q E I⟨a,b,c⟩q=>by
  have F:i<vs.length:=(by omega);have j:=AD F;obtain⟨p,x,y,B⟩:=hv i _ j;refine cD (v:=vs[i]) (hv:=x) (t:=0) a b c (by simp[y,rawInt]) B λd C f=>?_;exact q vs[i] d s.toks j ⟨C,b.keep λu e=>(f.2 D (Ne.symm m)).trans e,let ⟨o,e,x⟩:=c;⟨o,(f.2 T (Ne.symm n)).trans e,x⟩⟩ λx o g e=>(f.2 x (λz=>g (by rw[z];exact Bv))).trans e
 done:=λs Q E⟨a,b,c⟩q=>cE l a b c (by simp[d]) λd ex=>q d s.toks λx o g e=>ex x o (λz=>g (by rw[z];exact Bv)) e
 self:=λi s Q E⟨a,_⟩q=>WE a q
structure E3 (prog:Program) (w:World) (A:Around) (h0 hp:Heap) (D It:Addr) (ks:List Int):Prop where
 walk:∃(fp:List Addr)(St:Nat->Heap->Prop),Walks prog w A It fp [It] ks.length (λi v=>∃t,v=.int (ks.getD i 0) t) St/\St 0 hp/\∀b∈fp,b=D\/h0.objs.size<=b
 keep:∀b o,h0.get? b=some o->hp.get? b=some o
 new:h0.objs.size<=It
theorem Walks.weaker{a r:List Addr}{P b:Nat->Value->Prop}{St:Nat->Heap->Prop}(W:Walks prog w A It a r n P St)(h:∀i v,P i v->b i v):Walks prog w A It a r n b St where
 sub:=W.sub
 frame:=W.frame
 item:=λi s Q E c st q=>W.item i s Q E c st λv d tk pv=>q v d tk (h i v pv)
 done:=W.done
 self:=W.self
theorem S7{M:Int->Bool}{vs:List Value}(s:ElemsOf (intKind prog w) es.toList)(u:∀y,M y=true↔∃e∈es.toList,(intKind prog w).is y e.2=true)(f:vs.Perm (es.toList.map (·.2))):∃ks:List Int,ks.length=vs.length/\(∀(i:Nat)(v:Value),vs[i]?=some v->∃t,v=.int (ks.getD i 0) t)/\∀y,M y=true↔y∈ks:=by
 have z:∀v∈vs,∃n t,v=Value.int n t:=λv g=>by
  obtain⟨e,c,rfl⟩:=Br.mp (f.mem_iff.mp g);obtain⟨⟨k,A,_⟩,_⟩:=s e c;obtain⟨t,j⟩:=HP A;exact⟨k,t,j⟩
 have B:∀l:List Value,(∀v∈l,∃n t,v=Value.int n t)->∃ks:List Int,ks.length=l.length/\∀(i:Nat)(v:Value),l[i]?=some v->∃t,v=.int (ks.getD i 0) t:=λl=>by
  induction l with
  |nil=>exact λ_=>⟨[],rfl,λi v h=>by cases h⟩
  |cons x l C =>
    intro q;obtain⟨ks,a,b⟩:=C λv g=>q v (Ch _ g);obtain⟨n,t,e⟩:=q x Bv;refine⟨n::ks,by simp[a],λi v h=>?_⟩
    cases i with
    |zero=>simp at h;subst h;exact⟨t,e⟩
    |succ i=>simpa using b i v (by simpa using h)
 obtain⟨ks,a,b⟩:=B vs z;refine⟨ks,a,b,λy=>?_⟩;rw[u y];constructor;rintro⟨e,c,m⟩;obtain⟨t,j⟩:=HP m;have D:e.2∈vs:=f.mem_iff.mpr (Br.mpr ⟨e,c,rfl⟩);obtain⟨i,o,p⟩:=List.getElem_of_mem D;obtain⟨G,d⟩:=b i _ (AD o);rw[p,j] at d;have E:y=ks.getD i 0:=(by injection d);rw[E,BW,AD (show i<ks.length by omega)];exact EC _;intro m;obtain⟨i,o,p⟩:=List.getElem_of_mem m;have r:i<vs.length:=(by omega);obtain⟨t,d⟩:=b i _ (AD r);obtain⟨e,c,F⟩:=Br.mp (f.mem_iff.mp (EC r));refine⟨e,c,?_⟩;rw[F,d,BW,AD o];show(intKind prog w).is y (.int ks[i] t)=true;rw[p];exact intKind_is _ _ _ _
theorem WG{ks:List Int}:∀{vs:List Value},vs.length=ks.length->(∀(i:Nat)(v:Value),vs[i]?=some v->∃t,v=.int (ks.getD i 0) t)->IntsAre vs ks:=by
 induction ks with
 |nil=>intro vs a _;cases vs with
   |nil=>exact .nil
   |cons _ _=>simp at a
 |cons x r b =>
   intro vs a h
   cases vs with
   |nil=>simp at a
   |cons v vs =>
     obtain⟨t,e⟩:=h 0 v rfl;obtain rfl:v=.int x t:=e;exact .cons _ _ (b (by simpa using a) λi u c=>h (i+1) u (by simpa using c))
theorem E3.of{a c:Heap}{d:List Addr}{m:Nat}{vs:List Value}{St:Nat->Heap->Prop}{ks:List Int}(W:Walks prog w A It d [It] m (λi v=>vs[i]?=some v) St)(e:ks.length=m)(f:∀(i:Nat)(v:Value),vs[i]?=some v->∃t,v=.int (ks.getD i 0) t)(st:St 0 c)(lt:∀b∈d,b=D\/a.objs.size<=b)(g:∀b o,a.get? b=some o->c.get? b=some o)(h:a.objs.size<=It):E3 prog w A a c D It ks:=
 ⟨⟨d,St,by rw[e];exact Walks.weaker W f,st,lt⟩,g,h⟩
theorem S8{f:Value}(b:E2 s.heap D es ep tb)(q:Q (.ref s.heap.objs.size) {s with heap:=s.heap.push (Ev f 0 es.size ep D)}) :
 wpAny (model prog w) A (setEpoch D >>= λe=>newFields "set_iterator" [f,rawInt 0,Value.ref D,rawInt ↑es.size,rawInt ↑e] >>= λv=>ret v) (λg Z=>∃v,g=Fin.done (Flow.ret v)/\∃d r,Z.TypeIs v d/\typeLookup (Value.type d) (Str.ofString "__next__")=pure (some r)/\Q v Z) E s:=by
 obtain⟨h,a,_,c⟩:=b.ex;refine Ad (wpAny_setEpoch_of a c b.fit ?_);refine Ad (wpAny_newObj_type (Au ⟨_,rfl, "set_iterator",_,⟨_,B4 _ rfl,rfl⟩,Bx.lookup,?_⟩));exact q
theorem WH{nx:Nat->Nat}{a:Nat}{v:Option (Value×Nat)}(d:w.params.followText "set-order" = true)(f:w.params.setOrder D ep=nx)(hv:((pickOrder nx es)[i]?).map (λe=>(e.2,a))=v)(b:E2 s.heap D es ep tb){Q:Option (Value×Nat)->Shared->Prop}(q:Q v s):wpAny (model prog w) A (setNext D a i ep) Q E s:=by
 unfold setNext;refine Ad (b.state ?_);dsimp only;unfold setsByText;refine Ad (Ad (wpAny_askSetting (Au ?_)));have c:(model prog w).w.params.followText "set-order" = true:=d;dsimp only;rw[c,Aj rfl];rw[Ak (by simp)];refine Ad ?_;unfold setWalk setsByText;refine Ad (b.state ?_);dsimp only;refine Ad (Ad (wpAny_askSetting (Au ?_)));dsimp only;rw[c,Aj rfl];refine Ad (wpAny_askSetting ?_);refine Au ?_;have g:(model prog w).w.params.setOrder D ep=nx:=f;dsimp only;rw[g,hv];exact Au q
theorem WI{a:Nat}{v:Option (Value×Nat)}(c:w.params.followText "set-order" = false)(d:(!tb.plain && decide (es.size > 1))=false)(e:tb.led=true)(hv:(∃h x j,es[SetTable.below tb.place a]?=some (h,x)/\tb.place[SetTable.below tb.place a]?=some j/\v=some (x,j+1))\/(es[SetTable.below tb.place a]?=none/\v=none))(f:E2 s.heap D es ep tb){Q:Option (Value×Nat)->Shared->Prop}(q:Q v s):wpAny (model prog w) A (setNext D a i ep) Q E s:=by
 unfold setNext;refine Ad (f.state ?_);dsimp only;unfold setsByText;refine Ad (Ad (wpAny_askSetting (Au ?_)));have k:(model prog w).w.params.followText "set-order" = false:=c
 dsimp only;rw[k,Ak Cq];refine wpAny_ite_split (λh=>absurd (show(!tb.plain && decide (es.size > 1))=true from h) (by rw[d];exact Cq)) (λ_=>?_);refine Ad ?_;show wpAny _ _ (if(!tb.led && !es.isEmpty)=true then _ else _) _ _ _;rw[e];simp only[Bool.not_true,Bool.false_and,Fe,↓reduceIte];refine Au ?_
 rcases hv with⟨h,x,j,b,g,rfl⟩|⟨b,rfl⟩;rw[b,g];exact Au q;rw[b];exact Au q
theorem cJ {M:Int->Bool}(I:A.handled=none) (hS:BZ (intKind prog w) (BN w) s.heap D M n)
 (q:∀(It:Addr)(r:Heap)(J:Drawn)(ks:List Int),ks.length=n->(∀y,M y=true↔y∈ks)->E3 prog w A s.heap r D It ks->Q (.ref It) {s with heap:=r,drawn:=J}):wpAny (model prog w) A (pyIter (.ref D)) Q E s:=by
 obtain⟨t,es,ep,tb,K,X,x3,L,N,x6,Y,O,P⟩:=hS;have k:E2 s.heap D es ep tb:=⟨⟨t,K,X,x3⟩,Y⟩;have hT:s.TypeIs (.ref D) "set" :=⟨t,K,X.1⟩;have aa:D<s.heap.objs.size:=A1 K;refine wpAny_pyIter_slot hT F.slot_set_iter (wpAny_call_entry F.slot_set_iter hT cA ?_ (F.args_set_iter_1 _));unfold Builtin.«frozenset.__iter__» Builtin.Frozenset.slot0 slotArgs;simp only[List.isEmpty_nil,Bool.not_true,Fe,↓reduceIte,bind_assoc,Gm,bne_self_eq_false];unfold Builtin.Frozenset.addrOf Builtin.Frozenset.sizeOf;refine Ad (Au ?_);dsimp only;refine Ad (Au ?_);refine Ad (Ad (k.entries (Au ?_)));unfold setDrawn setsByText;refine Ad (Ad (k.state ?_));dsimp only;refine Ad (Ad (wpAny_askSetting (Au ?_)));refine Au ?_;dsimp only;have n0:s.heap.objs.size≠D:=Nat.ne_of_gt aa
 have ab:∀{b:Addr},b∈[s.heap.objs.size,D]->b=D\/s.heap.objs.size<=b:=λ{b}a=>by
  rcases Ce.mp a with rfl|a;exact .inr (AB _);exact .inl (AY.mp a)
 cases C:(model prog w).w.params.followText "set-order" with
 |true =>
   simp only[Bool.not_true,Bool.false_and,Fe,↓reduceIte];refine Ad (Au ?_);refine S8 k ?_
   have R:((pickOrder (w.params.setOrder D ep) es).toList).Perm es.toList:=by
    have:=WB (w.params.setOrder D ep) es.size 0 es.toList #[] (by simp);show(pickOrder.go (w.params.setOrder D ep) es.size 0 es.toList #[]).toList.Perm es.toList;simpa using this
   obtain⟨ks,f,u,z⟩:=S7 L N (R.map (·.2));have c:((pickOrder (w.params.setOrder D ep) es).toList.map (·.2)).length=es.size:=by rw[Al,R.length_eq];simp
   have W:=WF (prog:=prog) (w:=w) (A:=A) (It:=s.heap.objs.size) (D:=D) (es:=es) (ep:=ep) (tb:=tb) I n0 (λ_=>0) _ c
    (λi v Z B S U g l m=>WH (nx:=w.params.setOrder D ep) C rfl (by
     rw[Bh] at g;obtain⟨e,d,rfl⟩:=Gp.mp g
     rw[<-Array.getElem?_toList,d];rfl) l m)
    (λZ B S U l m=>WH (nx:=w.params.setOrder D ep) C rfl (by
     have hz:(pickOrder (w.params.setOrder D ep) es).toList.length=es.size:=by rw[R.length_eq];simp
     rw[<-Array.getElem?_toList,Gk (by omega)];rfl) l m)
   refine q _ _ s.drawn ks (by rw[f,c,O]) z (E3.of W (f.trans c) u ⟨B4 _ rfl,k.keep λt e=>A8 _ e⟩ (λb a=>ab a) (λb o e=>A8 _ e) (AB _))
 |false =>
   have ae:tb.led=true:=by
    rw[P.led];unfold BN;have:w.params.followText "set-order" = false:=C;rw[this];rfl
   simp only[Bool.not_false,Bool.true_and]
   cases H:(!tb.plain && decide (es.size > 1)) with
   |true =>
     refine wpAny_ite_split (λ_=>?_) (λh=>absurd (show(!tb.plain && decide (es.size > 1))=true from H) h);refine Ad (WC es.size _ List.length_range λj J r=>?_)
     have V:j.length=es.size:=by rw[r.length_eq];exact List.length_range
     refine Ad (wpAny_newObj_type ?_ (by show(List.map (λi:Nat=>rawInt (i:Int)) j).toArray.size<=sizeLine;rw[Cp,Al,V];exact fits_of_scanBound x6));have af:E2 (s.heap.push {cls:=.type "tuple",data:=.seq (j.map λi:Nat=>rawInt (i:Int)).toArray}) D es ep tb:=k.keep λt e=>A8 _ e;refine S8 af ?_;have ah:∀p∈j,p<es.size:=λp h=>List.mem_range.mp (r.mem_iff.mp h)
     have vp:(j.map λp=>(es.getD p (0,.none)).2).Perm (es.toList.map (·.2)):=by
      have d:es.toList.map (·.2)=(List.range es.size).map λp=>(es.getD p (0,.none)).2:=by
       refine List.ext_getElem (by simp) λi h1 h2=>?_;simp at h1;simp[h1]
      rw[d];exact r.map _
     obtain⟨ks,f,u,z⟩:=S7 L N vp;have c:(j.map λp=>(es.getD p (0,.none)).2).length=es.size:=(by rw[Al,V])
     have W:=cI (prog:=prog) (w:=w) (A:=A) (It:=(s.heap.push {cls:=.type "tuple",data:=.seq (j.map λi:Nat=>rawInt (i:Int)).toArray}).objs.size) (D:=D) (T:=s.heap.objs.size) (es:=es) (ep:=ep) (tb:=tb) I (by rw[Heap.size_push];exact Nat.ne_of_gt (Nat.lt_succ_of_lt aa)) (by rw[Heap.size_push];exact Nat.succ_ne_self _) j _ c (λi v g=>by
      rw[Bh] at g;obtain⟨p,d,rfl⟩:=Gp.mp g;have ai:=ah p (Bd d);refine⟨p,(es.getD p (0,.none)).1,d,?_⟩
      simp[ai]) V
     refine q _ _ J ks (by rw[f,c,O]) z (E3.of W (f.trans c) u ⟨B4 _ rfl,af.keep λt e=>A8 _ e,⟨_,A8 _ (B4 _ rfl),rfl,_,rfl⟩⟩ (λb a=>?_) (λb o e=>A8 _ (A8 _ e)) (by rw[Heap.size_push];exact Nat.le_succ _));rcases Ce.mp a with rfl|a;rw[Heap.size_push];exact .inr (Nat.le_succ _);rcases Ce.mp a with rfl|a;exact .inl rfl;rw[AY.mp a];exact .inr (AB _)
   |false =>
     refine wpAny_ite_split (λh=>absurd (show(!tb.plain && decide (es.size > 1))=true from h) (by rw[H];exact Cq)) (λ_=>?_);refine Ad (Au ?_);refine S8 k ?_;obtain⟨ks,f,u,z⟩:=S7 L N (List.Perm.refl _)
     have c:(es.toList.map (·.2)).length=es.size:=by simp
     have lp:tb.place.size=es.size:=by
      have:=Y;unfold SetTable.fits at this;simp at this;exact this.1
     have ag:∀i,i<=tb.place.size->SetTable.below tb.place (if i=0 then 0 else tb.place.getD (i-1) 0+1)=i:=λi G=>by
      cases i with
      |zero=>exact Z1 P.ris
      |succ i =>
        have aj:i<tb.place.size:=G;simp only[Nat.add_eq_zero_iff,Nat.one_ne_zero,and_false,↓reduceIte,Nat.add_sub_cancel];refine Z2 P.ris ?_;rw[Array.getD_eq_getD_getElem?,Array.getElem?_eq_getElem aj];rfl
     have W:=WF (prog:=prog) (w:=w) (A:=A) (It:=s.heap.objs.size) (D:=D) (es:=es) (ep:=ep) (tb:=tb) I n0 (λi=>if i=0 then 0 else tb.place.getD (i-1) 0+1) _ c
      (λi v Z B S U g l m=>WI C H ae (.inl (by
       rw[Bh] at g;obtain⟨⟨h,x⟩,d,rfl⟩:=Gp.mp g;rw[Array.getElem?_toList] at d;have G:i<tb.place.size:=by rw[lp];exact(Array.getElem?_eq_some_iff.mp d).1
       have a:=ag i (Dh G);refine⟨h,x,tb.place.getD i 0,by rw[a];exact d,?_,by simp⟩
       rw[a,Array.getD_eq_getD_getElem?,Array.getElem?_eq_getElem G];rfl)) l m)
      (λZ B S U l m=>WI C H ae (.inr ⟨by
       rw[ag es.size (Nat.le_of_eq lp.symm)];simp,rfl⟩) l m)
     refine q _ _ s.drawn ks (by rw[f,c,O]) z (E3.of W (f.trans c) u ⟨B4 _ rfl,k.keep λt e=>A8 _ e⟩ (λb a=>ab a) (λb o e=>A8 _ e) (AB _))
end
section
variable {prog:Program} {w:World} {A:Around} {E:Value->Shared->Prop} {s:Shared} {D:Addr}
theorem cK(a:s.TypeIs (.ref D) "set"){Q:Bool->Shared->Prop}(q:∀b,Q b s):wpAny (model prog w) A (Builtin.List.listLengthHint (.ref D)) Q E s:=by
 unfold Builtin.List.listLengthHint;refine Ad (wpAny_specialOf a F.slot_set_len.lookup ?_);generalize AM:("set.__len__" : String)=c
 wp_delta
 rw[show splitId c=some ("set", "__len__") by subst AM;decide +kernel];subst AM;refine Ad (wpAny_isInstance (T:= "set") (b:=true) a (by rw[isSubtype_type];kernel_rfl) (wpAny_ite_split (λh=>absurd h (by decide)) λ_=>?_));refine wpAny_ite_split (λ_=>Ad (ML a (Au (q _)))) λh=>absurd (by decide +kernel) h
theorem JQ{M:Int->Bool}{R:Result->Shared->Prop}(N:A.handled=none)(r:BZ (intKind prog w) (BN w) s.heap D M n){S:Addr}(u:S≠D)(res:Value)(x:s.heap.get? S=some {cls:=.type "list",data:=.seq #[]})(O:n<=sizeLine)
 (q:∀h' g tk acc c(ks:List Int),(∀b o,b≠S->s.heap.get? b=some o->h'.get? b=some o)->h'.get? S=some {cls:=.type "list",dict:=none,data:=.seq acc c,slots:=#[]}->ItemsOf (λi v=>∃t,v=.int (ks.getD i 0) t) acc ks.length->ks.length=n->(∀y,M y=true↔y∈ks)->R (.ok (.ret res)) {s with heap:=h',drawn:=g,toks:=tk}) :
 wpAny (model prog w) A.in1 (Builtin.List.listExtendWith (.ref S) (.ref D) res)
  (λab Z=>match ab with|.done f=>R (.ok f) Z|.again B=>B.quiet=true/\codeAny (model prog w) A B R Z) (λe Z=>R (.error e) Z) s:=by
 have C:s.TypeIs (.ref D) "set" :=by obtain⟨k,_,_,_,a,b,_⟩:=r;exact⟨k,a,b.1⟩
 have ae:S<s.heap.objs.size:=A1 x;unfold Builtin.List.listExtendWith;refine Ad (ML C ?_);rw[Ak (by simp[Builtin.List.listSameRef,u])];refine Ad (cJ (A:=A.in1) N r λIt l g ks E P Q=>?_);obtain⟨⟨T,St,W,st,af⟩,j,U⟩:=Q;have m:=j _ _ x;have G:S∉T:=λz=>(af S z).elim u λy=>absurd ae (Nat.not_lt_of_le y)
 have K:∀(h:Heap)(p:Nat),St 0 h->(∀b o,b≠S->s.heap.get? b=some o->h.get? b=some o)->h.get? S=some {cls:=.type "list",data:=.seq #[] p} ->
  codeAny (model prog w) A (.builtin "list.extend.loop" ⟨[.ref S,.ref It,res],[]⟩) R {s with heap:=h,drawn:=g}:=λh p ag V X=>by
  refine codeAny_extend_loopS W.toS (by rw[E];exact O) S G res ks.length 0 _ #[] p rfl (Ci _) ag X (ItemsOf.nil _) λZ acc c H Y ah=>?_;rw[Moved.eq_with H];refine q Z.heap g Z.toks acc c ks (λb o I e=>H.heap b o (λz=>?_) (V b o I e)) Y ah E P;rcases Ce.mp z with y|y;exact I y;have:=A1 e;rw[AY.mp y] at this;exact absurd this (Nat.not_lt_of_le U)
 have quiet:(Code.builtin "list.extend.loop" ⟨[.ref S,.ref It,res],[]⟩).quiet=true:=plainId_quiet F.plain_extend_loop _;refine Ad (Ff (cK (s:={s with heap:=l,drawn:=g}) (by obtain⟨k,a,b⟩:=C;exact⟨k,j _ _ a,b⟩) λb=>?_));refine wpAny_ite_split (λ_=>?_) λ_=>Au ⟨quiet,K _ 0 st (λb o _ e=>j b o e) m⟩;refine Ad (G4 (Ad ?_));show wpAny _ _ (updateSeq S (·.push .none) >>= λ_=>updateSeq S (·.pop)) _ _ _;refine Ad (wpAny_updateSeq m rfl ?_);have J:=Heap.get?_update_self (Obj.mapSeq (·.push Value.none)) m rfl;refine wpAny_updateSeq (hz:=by seq_fits) J rfl ?_;have aa:=Heap.get?_update_self (Obj.mapSeq (·.pop)) J rfl;have L:∀b,b≠S->((l.update S (Obj.mapSeq (·.push Value.none))).update S (Obj.mapSeq (·.pop))).get? b=l.get? b:=λb d=>(Heap.get?_update_other _ _ (Ne.symm d)).trans (Heap.get?_update_other _ _ (Ne.symm d));exact Au ⟨quiet,K _ _ (W.frame 0 _ _ st λb d o e=>(L b λz=>G (z▸d)).trans e) (λb o d e=>(L b d).trans (j b o e)) aa⟩
theorem cL{M:Int->Bool}{Q:List Value->Shared->Prop}(t:A.handled=none)(p:BZ (intKind prog w) (BN w) s.heap D M n)(u:n<=sizeLine)
 (q:∀h' d tk acc(ks:List Int),(∀b o,s.heap.get? b=some o->h'.get? b=some o)->IntsAre acc ks->ks.length=n->(∀y,M y=true↔y∈ks)->Q acc {s with heap:=h',drawn:=d,toks:=tk}):wpAny (model prog w) A (collect (.ref D)) Q E s:=by
 have G:D<s.heap.objs.size:=by obtain⟨z,_,_,_,a,_⟩:=p;exact A1 a
 unfold collect;refine Ad (wpAny_runValue (codeAny_builtin entry_proto_collect' ?_));rw[Around.under_plainId F.plain_proto_collect _];show wpAny _ A.in1 (newList [] >>= λl=>again (.builtin "list.__iadd__" ⟨[l,.ref D],[]⟩)) _ _ s;refine Ad (wpAny_newObj_type (Au ⟨plainId_quiet F.plain_list_iadd _,codeAny_builtin entry_list_iadd' ?_⟩));rw[Around.under_plainId F.plain_list_iadd _];show wpAny _ A.in1 (Builtin.List.listExtendWith (.ref s.heap.objs.size) (.ref D) (.ref s.heap.objs.size)) _ _ _
 refine FK (JQ (A:=A) (s:={s with heap:=s.heap.push {cls:=.type "list",data:=.seq ([]:List Value).toArray}}) (S:=s.heap.objs.size)
  (R:=λr Z=>∃h' d tk acc c,∃ks:List Int,r=.ok (.ret (.ref s.heap.objs.size))/\Z={s with heap:=h',drawn:=d,toks:=tk}/\(∀b o,s.heap.get? b=some o->h'.get? b=some o)/\h'.get? s.heap.objs.size=some {cls:=.type "list",dict:=none,data:=.seq acc c,slots:=#[]}/\IntsAre acc.toList ks/\ks.length=n/\∀y,M y=true↔y∈ks)
  t (p.keep λz e=>A8 _ e) (Nat.ne_of_gt G) _ (B4 _ rfl) u λh' d tk acc c ks h j g k m=>⟨h',d,tk,acc,c,ks,rfl,rfl,λb o e=>h b o (CS (A1 e)) (A8 _ e),j,?_,k,m⟩) (λH Z x=>?_) λe Z x=>?_
 exact WG (by rw[Array.length_toList,g.1]) λi v B=>g.2 i v (by rw[<-Array.getElem?_toList];exact B)
 . cases H with
   |done f =>
     obtain⟨h',d,tk,acc,c,ks,e,rfl,h,j,g,k,m⟩:=x;cases e;show wpAny _ A (load s.heap.objs.size >>= _) _ _ _;exact Ad (wpAny_load j (Au (q h' d tk acc.toList ks h g k m)))
   |again I =>
     refine⟨x.1,codeAny_mono x.2 λr J y=>?_⟩;obtain⟨h',d,tk,acc,c,ks,rfl,rfl,h,j,g,k,m⟩:=y;show wpAny _ A (load s.heap.objs.size >>= _) _ _ _;exact Ad (wpAny_load j (Au (q h' d tk acc.toList ks h g k m)))
 obtain⟨_,_,_,_,_,_,C,_⟩:=x;cases C
end
theorem L3{l:List Int}:∀{m:List Int},l.Nodup->(∀x∈l,x∈m)->m.length<=l.length->m.Nodup:=by
 induction l with
 |nil=>intro m _ _ h;rw[List.length_eq_zero_iff.mp (Nat.le_zero.mp h)];exact List.nodup_nil
 |cons a l g =>
   intro m d f i;obtain⟨j,k⟩:=Gj.mp d;have c:=List.perm_cons_erase (f a Bv)
   have n:(m.erase a).length<=l.length:=by
    have:=c.length_eq;simp at this i;omega
   have sub:∀x∈l,x∈m.erase a:=λx b=>by
    have:=c.mem_iff.mp (f x (Ch _ b));rcases Ce.mp this with e|e;exact absurd (e▸b) j;exact e
   refine c.nodup_iff.mpr (Gj.mpr ⟨λo=>?_,g k sub n⟩)
   have:(a::l).length<=(m.erase a).length:=Ord.nodup_sub_length d λx b=>by
    rcases Ce.mp b with e|e;rw[e];exact o;exact sub x e
   simp at this;omega
theorem JR{l:List Int}(h:l.Pairwise (·<=·))(c:l.Nodup):l.Pairwise (· < ·):=(h.and c).imp λ{a b}⟨x,y⟩=>by omega
theorem Op{l:List Int}{x:Int}(h:l.Nodup):(step_dedup l x).Nodup:=by
 unfold step_dedup;split;exact h;rename_i c;refine List.nodup_append.mpr ⟨h,List.pairwise_singleton _ _,λa d b f e=>c ?_⟩;rw[AY.mp f] at e;rw[Go];exact⟨a,d,by rw[e];simp⟩
theorem WJ(f:Nat->Int):∀i,(B0 f i).Nodup
 |0=>List.nodup_nil
 |i+1=>by rw[Oo];exact Op (WJ f i)
def L4 (P:Program) (w:World) (a:Addr) (ns:List Int):HO:=.ext λh=>∃ds:List Int,ds.Nodup/\(∀y,y∈ds↔y∈ns)/\BZ (intKind P w) (BN w) h a (λy=>ds.any (·==y)) ds.length
section
variable {prog:Program} {w:World} {A:Around} {E:Value->Shared->Prop} {s:Shared} {D:Addr}
theorem cM{M:Int->Bool}(p:A.handled=none)(r:BZ (intKind prog w) (BN w) s.heap D M n)(B:n<64)
 (q:∀(R:Addr)h' c tk k out(ks:List Int),(∀b o,s.heap.get? b=some o->h'.get? b=some o)->(∀b o,s.heap.get? b=some o->b≠R)->h'.get? R=some {cls:=.type "list",data:=.seq out k}->IntsAre out.toList ks->ks.length=n->(∀y,M y=true↔y∈ks)->ks.Pairwise (·<=·)->Q (.ref R) {s with heap:=h',drawn:=c,toks:=tk}) :
 wpAny (model prog w) A (call (.builtin "sorted") [.ref D]) Q E s:=by
 refine Calls.call_function_entry kind_sorted plain_sorted entry_sorted (args_sorted1 _) ?_;unfold Builtin.«sorted»;refine Ad (m:=checkCount "sorted" 1 1 _) (Au ?_);refine Ad (cL (A:=A.in1) p r (Dh (BE (by omega))) λd c tk a ks f h i t=>?_);have u:a.length<64:=by rw[h.length,i];exact B
 refine Ad (wpAny_newList ?_ (Dh (BE (by omega))));have g:(d.push {cls:=.type "list",data:=.seq a.toArray}).get? d.objs.size=some (seqObj "list" a.toArray 0):=B4 _ rfl;refine Ad (Ff (wpAny_call_entry slot_list_sort ⟨_,g,rfl⟩ entry_list_sort (list_sort_tree g h u λout C v j x=>⟨_,rfl,?_⟩) (args_list_sort _)));obtain⟨k,z⟩:=sortedHeap_at (vs:=a) (out:=out) g;refine Au ⟨_,rfl,q d.objs.size _ c tk k out C (λb o e=>?_) (λb o e=>CS (A1 (f b o e))) z v (by rw[j.length_eq,i]) (λy=>by rw[t,j.mem_iff]) x⟩;have l:=A1 (f b o e);rw[sortedHeap_old (CS l) (by rw[Heap.size_push];exact Nat.lt_succ_of_lt l)];exact A8 _ (f b o e)
end
section
variable {X:Cx} {pins:List (Addr×Obj)} {σ:L2.St} {H:Hp} {s:Shared}
theorem Inv.drew(I:Inv X pins σ H s)(a:Drawn):Inv X pins σ H {s with drawn:=a}:=
 I.step (h':=s.heap) (H':=H) (g':=s.gens) (t':=s.toks) (d':=a) (ch:=[]) (λ_ z=>nomatch z) (λ_ _ _ _ _ e _=>e) (λ_ o _ _ _ e _=>⟨o.slots,e⟩) (λ_ _ _ _ n=>n) (λ_ o _ e=>⟨o,e⟩) (λ_ _ e=>e) (λ_ _ _ e=>e) (λ_ b e=>⟨#[],by rw[e];simp⟩) (λ_ h=>h) I.hok I.bare
def Oq (P:Program) (w:World) (K:Ah):List V->Hp->VK->Prop:=λvs H Q=>∃(p:Addr)(ns:List Int),vs=[.ref p]/\Ag K H p (ns.map V.int)/\ns.length<=4000/\∀q,H q=none->Q (.ref q) (upd H q (L4 P w q ns))
theorem cN{ns:List Int}{a:List Value}(r:As (ns.map V.int) a):∀(i:Nat)(v:Value),a.toArray[i]?=some v->∃t,v=.int (ns.getD i 0) t:=λi v e=>by
 have d:a[i]?=some v:=(by simpa using e);have f:=r.length;rw[Al] at f;have b:i<ns.length:=by have:=(A7.mp d).1;omega
 obtain⟨u,c,g⟩:=r.get (i:=i) (x:=.int ns[i]) (by rw[Bh,AD b];rfl);rw[d] at c;cases c;rw[BW,AD b];exact g
theorem cO(v:X.calm=true):A5 X (.type "set") (Oq X.prog X.w X.K):=by
 intro pins s σ H M us Q I r h;obtain⟨p,c,rfl,w,N,q⟩:=h;obtain⟨u,rfl,z⟩:=Fj r;obtain rfl:u=Value.ref p:=z;obtain⟨g,l,A,_⟩:=I.list w;have m:=l.length;rw[Al] at m;have t:g.toArray.size=c.length:=(by rw[Cp,m]);refine Z9 (f:=λi=>c.getD i 0) (I.ok.hd v) A.isList (cN l) (by rw[t];unfold scanBound;omega) λB tk n k=>?_;have C:∀b u,s.heap.get? b=some u->B.get? b=some u:=λb u e=>k b u (A1 e) e;refine⟨.ref s.heap.objs.size,upd H s.heap.objs.size (L4 X.prog X.w s.heap.objs.size c),I.laid (t':=tk) C (AB _) ?_,rfl,q _ I.fresh⟩;refine⟨⟨_,WJ _ _,λy=>?_,n⟩,?_,λO P⟨D,E,F,G⟩J=>⟨D,E,F,G.keep λK e=>J K e⟩⟩;have:=Wy (λi=>c.getD i 0) g.toArray.size y;rw[Go] at this;have e:(∃x,x∈B0 (λi=>c.getD i 0) g.toArray.size/\(x==y)=true)↔y∈B0 (λi=>c.getD i 0) g.toArray.size:=⟨λ⟨x,a,b⟩=>by rw[<-eq_of_beq b];exact a,λa=>⟨y,a,by simp⟩⟩;rw[<-e,this,t];constructor;rintro⟨j,d,rfl⟩;rw[BW,AD d];exact EC d;intro L;obtain⟨j,d,e⟩:=List.getElem_of_mem L;exact⟨j,d,by rw[BW,AD d];exact e⟩;obtain⟨o,_,_,_,e,_⟩:=n;exact⟨o,e⟩
def L5 (P:Program) (w:World):List V->Hp->VK->Prop:=λvs H Q=>∃(d:Addr)(ns:List Int),vs=[.ref d]/\H d=some (L4 P w d ns)/\(∀ds:List Int,ds.Nodup->(∀y∈ds,y∈ns)->ds.length<64)/\∀D(ms:List Int),ms.Pairwise (· < ·)->(∀y,y∈ms↔y∈ns)->H D=none->Q (.ref D) (upd H D (.lst (ms.map V.int)))
theorem cP(n:X.calm=true):A5 X (.builtin "sorted") (L5 X.prog X.w):=by
 intro pins s σ H J us Q I r h;obtain⟨d,K,rfl,hd,E,q⟩:=h;obtain⟨u,rfl,o⟩:=Fj r;obtain rfl:u=Value.ref d:=o;obtain⟨⟨f,g,i,p⟩,_,_⟩:=I.hok d _ hd;have t:=E f g λy e=>(i y).mp e;refine cM (I.ok.hd n) p t λR L v tk k F c w j z A l B C=>?_
 have m:∀y,y∈c↔y∈f:=λy=>by
  rw[<-B y,Go];exact⟨λ⟨x,a,b⟩=>by rw[<-eq_of_beq b];exact a,λa=>⟨y,a,by simp⟩⟩
 have D:c.Nodup:=L3 g (λy e=>(m y).mpr e) (Nat.le_of_eq l);have G:(c.map V.int).length<=sizeLine:=by rw[Al,l];exact Dh (BE (by omega))
 exact⟨.ref R,upd H R (.lst (c.map V.int)),(I.drew v).laidN (t':=tk) w j ⟨G,F.toList,k,Ph A,by rw[Array.toArray_toList];exact z⟩,rfl,q R c (JR C D) (λy=>(m y).trans (i y)) (I.freshN j)⟩
end
def E4 (gs:List (Str×Int)) (n:Int):List Int:=match gs[n.toNat]? with
 |some p=>if p.1=("sort" : Str) then[p.2] else[]
 |none=>[]
def Fw (gs:List (Str×Int)) (as:List (Option (Str×Int))) (q:Int):List Int:=match as[q.toNat]? with
 |some (some w)=>if w.1=("thing" : Str) then E4 gs w.2 else[]
 |_=>[]
def FR (W:Wd) (st:Int) (p:Cd):List Int:=if p.2.1=("by" : Str)/\(El (DV W st) p.1).isSome=true then p.2.2::Fw W.gs W.as p.2.2 else[]
def Bq (W:Wd) (b:AQ):List Int:=(BU W b.2.1).flatMap (FR W b.2.2)
def E5 (ss:List Bi) (w:List Ap):List Int:=if(Ck ss w).2.2.1=("by" : Str) then[(Ck ss w).2.2.2] else[]
def FG (W:Wd) (l:Lk):List Int:=l.1.flatMap (Bq W)++l.2.1.flatMap (E5 W.ss)
def CH (W:Wd) (ls:List Lk) (ts:List Int):List Int:=ls.flatMap (FG W)++ts.flatMap (E4 W.gs)
def F4 (as as':List (Option (Str×Int))) (U:List Int):Prop:=∀q∈U,as'[q.toNat]?=as[q.toNat]?
section
variable {ths:List (Str×Int)} {as as':List (Option (Str×Int))}
theorem WK{n:Int}{k:Str×Int}(h:ths[n.toNat]?=some k)(c:F4 as as' (E4 ths n)):Dk ths as' k=Dk ths as k:=by
 unfold Dk;by_cases b:k.1=("part" : Str);rw[Aj b,Aj b];rw[Ak b,Ak b];by_cases a:k.1=("sort" : Str);rw[Aj a,Aj a];have:as'[k.2.toNat]?=as[k.2.toNat]?:=c _ (by unfold E4;rw[h];dsimp only;rw[Aj a];exact AY.mpr rfl);unfold Ed;rw[this];rw[Ak a,Ak a]
theorem cQ{p:Cd}(h:p.2.1=("to" : Str)\/F4 as as' (p.2.2::Fw ths as p.2.2)):BL ths as' p=BL ths as p:=by
 unfold BL;by_cases a:p.2.1=("to" : Str);rw[Aj a,Aj a];rw[Ak a,Ak a];have c:=h.resolve_left a;have d:=c _ Bv;rw[d]
 cases e:as[p.2.2.toNat]? with
 |none=>rfl
 |some o =>
   cases o with
   |none=>rfl
   |some w =>
     dsimp only;by_cases b:w.1=("thing" : Str);rw[Aj b,Aj b]
     cases f:ths[w.2.toNat]? with
     |none=>rfl
     |some k =>
       refine WK f λq g=>c q (Ch _ ?_);unfold Fw;rw[e];dsimp only;rw[Aj b];exact g
     rw[Ak b,Ak b]
end
section
variable {W:Wd} {as':List (Option (Str×Int))} {ord:List (Str×Str)} {sc st:Int}
theorem WL{go:List (Str×Int)}{s:Int}:∀{l:List Cd}{i:Nat},(∀p∈l,(El go p.1).isSome=true->BL W.gs as' p=BL W.gs W.as p)->Em (W.late as') s go l i=Em W s go l i
 |[],i,_=>rfl
 |p::l,i,h=>by
   show EX (W.late as') s go p i++Em (W.late as') s go l (i+1)=EX W s go p i++Em W s go l (i+1);rw[WL λq b=>h q (Ch _ b)];congr 1;unfold EX
   cases e:El go p.1 with
   |none=>rfl
   |some a=>dsimp only;rw[h p Bv (by rw[e];rfl)]
theorem WM(ok:BY W)(f:F4 W.as as' (Bq W b)):Gv (W.late as') b.2.1 b.2.2=Gv W b.2.1 b.2.2:=by
 refine WL λp d g=>cQ ?_
 have h:Fn W.ss.length W.as.length p:=by
  have a:p∈BU W b.2.1:=d;unfold BU at a
  cases e:W.ss[b.2.1.toNat]? with
  |none=>rw[e] at a;cases a
  |some s=>rw[e] at a;exact ok.kst s (Bd e) p a
 rcases h with⟨c,_⟩|⟨c,_⟩;exact .inl c;refine .inr λq i=>f q (List.mem_flatMap.mpr ⟨p,d,?_⟩);unfold FR;rw[Aj ⟨c,g⟩];exact i
theorem JS(ok:BY W){bs:List AQ}(d:∀b,b∈bs↔AR W sc st b)(e:F4 W.as as' (bs.flatMap (Bq W)))(b:AQ):AR (W.late as') sc st b↔AR W sc st b:=by
 have kd:∀c,AR W sc st c->Cv (W.late as') c=Cv W c:=λc f=>by
  unfold Cv;rw[WM ok λq g=>e q (List.mem_flatMap.mpr ⟨c,(d c).mpr f,g⟩)]
 constructor;intro h
 induction h with
 |root=>exact .root
 |@kid b c _ k a=>rw[kd b a] at k;exact .kid a k
 intro h
 induction h with
 |root=>exact .root
 |@kid b c i k a=>rw[<-kd b i] at k;exact .kid a k
theorem WN{b:AQ}{x:Str}:∀(l:List DU)(i:Nat),DI (W.late as') b x l i=DI W b x l i
 |[],_=>rfl
 |q::l,i=>by
   show Fp (W.late as') b x q i++DI (W.late as') b x l (i+1)=Fp W b x q i++DI W b x l (i+1);rw[WN l (i+1)];rfl
theorem cR(bs:List AQ):DW (W.late as') x bs=DW W x bs:=by
 unfold DW;congr 1;funext b;exact WN _ _
theorem WO{α β:Type}{f g:α->List β}:∀{l:List α},(∀a∈l,f a=g a)->l.flatMap f=l.flatMap g
 |[],_=>rfl
 |a::l,h=>by rw[List.flatMap_cons,List.flatMap_cons,h a Bv,WO λb c=>h b (Ch _ c)]
theorem P8(ok:BY W){l:Lk}(h:CF W ord sc st x l os)(a:F4 W.as as' (l.1.flatMap (Bq W))):CF (W.late as') ord sc st x l os:=by
 refine⟨⟨λb=>(h.b.mem b).trans (JS ok h.b.mem a b).symm,h.b.nd,h.b.srt,h.b.few⟩,⟨by rw[cR];exact h.f.perm,h.f.srt⟩,h.s,⟨?_,h.o.srt⟩⟩
 have:F2 (W.late as') l.1=F2 W l.1:=by
  unfold F2;refine WO λb c=>?_;rw[WM ok λq d=>a q (List.mem_flatMap.mpr ⟨b,c,d⟩)]
 rw[this];exact h.o.perm
theorem cS(a:F4 W.as as' (E5 W.ss w)):Ft (W.late as') w=Ft W w:=by
 unfold Ft
 show(if(Ck W.ss w).2.2.1=("by" : Str)/\as'[(Ck W.ss w).2.2.2.toNat]?=some none then some (Ck W.ss w).2.2.2 else none)=_
 by_cases c:(Ck W.ss w).2.2.1=("by" : Str);rw[a _ (by unfold E5;rw[Aj c];exact AY.mpr rfl)];rw[Ak λz=>c z.1,Ak λz=>c z.1]
theorem cT(b:Bf W)(c:Do W.ss w)(d:F4 W.as as' (E5 W.ss w)):Bt (W.late as') w=Bt W w:=by
 unfold Bt
 show(if(Ck W.ss w).2.2.1=("thing" : Str) then some (Ck W.ss w).2.2.2 else match as'[(Ck W.ss w).2.2.2.toNat]? with
  |some (some p)=>if p.1=("thing" : Str) then some p.2 else none
  |_=>none)=_
 rcases M6 b c with⟨a,_⟩|⟨a,_⟩;rw[Aj a,Aj a]
 rw[d _ (by unfold E5;rw[Aj a];exact AY.mpr rfl)]<;>(cases W.as[(Ck W.ss w).2.2.2.toNat]?<;>first|rfl|(rename_i o;cases o<;>rfl))
theorem WP:∀{ws:List (List Ap)},(∀w∈ws,Ft (W.late as') w=Ft W w)->Fu (W.late as') ws=Fu W ws
 |[],_=>rfl
 |w::ws,h=>by
   unfold Fu;rw[h w Bv,WP λv hv=>h v (Ch _ hv)]
theorem P9(ok:BY W)(e:Bf W)(i:0<=sc/\sc<W.ss.length)(j:0<=st/\st<W.sts.length){l:Lk}(h:CF W ord sc st x l os)(f:F4 W.as as' (l.2.1.flatMap (E5 W.ss)))(at_:Int):B7 (W.late as') ord l.2.1 os at_=B7 W ord l.2.1 os at_:=by
 have sub:∀w∈CP W.ss ord l.2.1 l.2.1,w∈l.2.1:=λw a=>PY a;have c:∀w∈l.2.1,F4 W.as as' (E5 W.ss w):=λw a q g=>f q (List.mem_flatMap.mpr ⟨w,a,g⟩)
 have d:Eu (W.late as') ord l.2.1 os=Eu W ord l.2.1 os:=by
  unfold Eu
  show(match FF W.ss ord l.2.1 os with|some o=>some o|none=>Fu (W.late as') (CP W.ss ord l.2.1 l.2.1))=_
  rw[WP λw a=>cS (c w (sub w a))]<;>(cases FF W.ss ord l.2.1 os<;>rfl)
 cases b:Eu W ord l.2.1 os with
 |some o=>rw[M4 b,M4 (d.trans b)]
 |none =>
   rw[JB b,JB (d.trans b)];have:Dc (W.late as') (CP W.ss ord l.2.1 l.2.1) at_=Dc W (CP W.ss ord l.2.1 l.2.1) at_:=Wo at_ λw a=>cT e (JK ok i j h w (sub w a)) (c w (sub w a));rw[<-this]
theorem S9{n:Int}(a:F4 W.as as' (E4 W.gs n)):CG (W.late as') n=CG W n:=by
 unfold CG
 show(match W.gs[n.toNat]? with|some p=>Dk W.gs as' p|none=>(("no" : Str),(0:Int)))=_
 cases e:W.gs[n.toNat]? with
 |none=>rfl
 |some p=>exact WK e a
end
theorem F4.sub{U V:List Int}(h:F4 as as' U)(s:∀q∈V,q∈U):F4 as as' V:=λq a=>h q (s q a)
theorem L6(ok:BY W)(g:Bf W)(v:0<=inn/\inn<W.sts.length){p:List Str}{w:Option Wt}(k:LU W inn ord sc st p at_ a w ls ts) :
 0<=sc/\sc<W.ss.length->0<=st/\st<W.sts.length->F4 W.as as' (CH W ls ts)->LU (W.late as') inn ord sc st p at_ a w ls ts:=by
 have j:∀{l:Lk}{ls:List Lk}{ts:List Int},∀q∈l.1.flatMap (Bq W),q∈CH W (l::ls) ts:=λq b=>D9 _ (List.mem_flatMap.mpr ⟨_,Bv,D9 _ b⟩);have m:∀{l:Lk}{ls:List Lk}{ts:List Int},∀q∈l.2.1.flatMap (E5 W.ss),q∈CH W (l::ls) ts:=λq b=>D9 _ (List.mem_flatMap.mpr ⟨_,Bv,De _ b⟩);have o:∀{n:Int}{ls:List Lk}{ts:List Int},∀q∈E4 W.gs n,q∈CH W ls (n::ts):=λq b=>De _ (List.mem_flatMap.mpr ⟨_,Bv,b⟩)
 induction k with
 |stop h e n=>exact λd f c=>.stop (P8 ok h (c.sub j)) ((P9 ok g d f h (c.sub m) _).trans e) n
 |opn h e i=>exact λd f c=>.opn (P8 ok h (c.sub j)) ((P9 ok g d f h (c.sub m) _).trans e) ((S9 (c.sub o)).trans i)
 |no h e i=>exact λd f c=>.no (P8 ok h (c.sub j)) ((P9 ok g d f h (c.sub m) _).trans e) ((S9 (c.sub o)).trans i)
 |go h e i x t =>
   intro d f c;have u:=KI ok g (JK ok d f h) e;refine .go (P8 ok h (c.sub j)) ((P9 ok g d f h (c.sub m) _).trans e) ((S9 (c.sub o)).trans i) (t (P4 ok u i) v (c.sub λq b=>?_));rcases BB.mp b with b|b;obtain⟨r,s,b⟩:=List.mem_flatMap.mp b;exact D9 _ (List.mem_flatMap.mpr ⟨r,Ch _ s,b⟩);obtain⟨r,s,b⟩:=List.mem_flatMap.mp b;exact De _ (List.mem_flatMap.mpr ⟨r,Ch _ s,b⟩)
section
variable {X:Cx}
def Ot:R2:=λx y H Q=>∃l xs n,x=.ref l/\y=.int n/\H l=some (.lst xs)/\(0<=n/\n<=1000)/\xs.length*n.toNat<=1000/\∀p,H p=none->Q (.ref p) (upd H p (.lst (List.replicate n.toNat xs).flatten))
theorem WQ:∀(n:Nat){xs:List V}{us:List Value},As xs us->As (List.replicate n xs).flatten (List.replicate n us).flatten
 |0,_,_,_=>.nil
 |n+1,xs,us,h=>by
   rw[List.replicate_succ,List.replicate_succ,List.flatten_cons,List.flatten_cons];exact h.append (WQ n h)
theorem WR:DM X (binaryOp .Mult) Ot:=by
 intro w s σ H x y v u Q I i j h;obtain⟨l,xs,n,rfl,rfl,k,p,d,q⟩:=h;obtain rfl:v=Value.ref l:=i;obtain⟨t,rfl⟩:=j;obtain⟨z,b,c,f,e⟩:=(show Az X.prog X.w _ s.heap l (.lst xs) from I.hok l _ k);have g:=f.length
 have r:b.toArray.size*n.toNat<=1000:=by rw[Cp,<-g];exact d
 have A:b.length*n.toNat<=1000:=by rw[<-g];exact d
 refine wpAny_binaryOp_repeat_ref (T:= "list") (U:= "int") (by decide) ⟨_,e,rfl⟩ (λZ=>typeIs_int Z n t) noFill_list_mul F.fills_int_mul F.slot_int_rmul repeat_list F.slot_int_index.lookup
  (call_meets F.slot_int_rmul (typeIs_int s n t) F.entry_int_rmul (F.args_int_rmul_2 _ _) (int___rmul___int_list n t l b.toArray c)
   ⟨e,rfl,⟨_,e,rfl⟩,call_meets F.slot_list_mul ⟨_,e,rfl⟩ F.entry_list_mul (F.args_list_mul_2 _ _) (AutoListH.list___mul___list_int_3 l b.toArray c n t (by simp[Builtin.List.listFitsIndex];omega) (by omega) (by simp[Builtin.List.listTooLong,sizeLine];omega)) ⟨e,?_⟩⟩)
 rw[listMul_foldl_if];have m:=WQ n.toNat f;refine⟨.ref s.heap.objs.size,_,I.laid (a:=s.heap.objs.size) (o:=.lst (List.replicate n.toNat xs).flatten) (t':=s.toks) (λ_ _ q=>A8 _ q) (AB _) ⟨?_,_,0,m,B4 _ rfl⟩,rfl,q _ (I.hok.fresh (AB _))⟩;rw[List.length_flatten,List.map_replicate,List.sum_replicate_nat,Nat.mul_comm];exact Dh (BE (by omega))
def Ou:List V->Hp->VK->Prop:=λvs H Q=>∃n:Int,vs=[.int n]/\∀p,H p=none->Q (.ref p) (upd H p (.rng 0 n))
theorem cU:A5 X (.type "range") Ou:=by
 intro d s σ H c us Q I r h;obtain⟨n,rfl,q⟩:=h;obtain⟨u,rfl,b⟩:=Fj r;obtain⟨t,rfl⟩:=b;refine call_range_1 ⟨.ref s.heap.objs.size,_,I.laid (a:=s.heap.objs.size) (o:=.rng 0 n) (t':=s.toks+1+1) (λ_ _ q=>A8 _ q) (AB _) ⟨_,_,_,B4 _ rfl⟩,rfl,q _ (I.hok.fresh (AB _))⟩
def L7:List V->Hp->VK->Prop:=λvs H Q=>∃(p:Addr)(n:Nat),vs=[.ref p]/\H p=some (.rng 0 (n:Int))/\n<=1000/\∀l,H l=none->Q (.ref l) (upd H l (.lst ((List.range n).map λi:Nat=>V.int i)))
theorem cV(j:X.calm=true):A5 X (.type "list") L7:=by
 intro D s σ H z us Q I r h;obtain⟨p,n,rfl,k,A,q⟩:=h;obtain⟨u,rfl,l⟩:=Fj r;obtain rfl:u=Value.ref p:=l;obtain⟨t,B,v,e⟩:=(show Az X.prog X.w _ s.heap p (.rng 0 (n:Int)) from I.hok p _ k)
 have m:Builtin.Range.rangeSize 0 (n:Int) 1=n:=by rw[rangeSize_one];split<;>omega
 refine call_list_range (n:=n) (I.ok.hd j) e (small_one (by omega) (by omega) (by omega) (by omega)) m (by omega) λC tk d c w x f=>?_
 have y:IntsAre d.toList ((List.range n).map λi:Nat=>(i:Int)):=WG (by simp[f.1]) λi v b=>by
  have g:i<d.size:=by
   have:=(A7.mp b).1;simpa using this
  obtain⟨t,e⟩:=f.2 i v (by rw[<-Array.getElem?_toList];exact b);rw[f.1] at g;refine⟨t,?_⟩;rw[e,BW,Bh,List.getElem?_range g]
  simp
 have b:=Ph y;rw[DF] at b;refine⟨.ref s.heap.objs.size,_,I.laid (a:=s.heap.objs.size) (o:=.lst ((List.range n).map λi:Nat=>V.int i)) (t':=tk) w (AB _) ⟨?_,d.toList,c,b,by rw[Array.toArray_toList];exact x⟩,rfl,q _ (I.hok.fresh (AB _))⟩;rw[Al,List.length_range];exact Dh (BE (by omega))
def L8 (H:Hp) (xs:List V) (ps:List (AO×V)):Prop:=Paired (λx(p:AO×V)=>∃t,x=.ref t/\H t=some (.tup [kV p.1,p.2])) xs ps
theorem cW{pins:List (Addr×Obj)}{R:Result->Shared->Prop}{p l f:Addr}(W:A.in1.handled=none)(k:H p=none)(E:f≠p) :
 ∀(xs:List V)(ps:List (AO×V))(d:List V)(acc:List (AO×V))(s:Shared),L8 H xs ps->H l=some (.lst (d++xs))->acc.length+xs.length<=sizeLine->Inv X pins σ (upd H p (.dK acc)) s ->
 s.heap.IsListIter f l d.length->Eb X pins H f->(∀Z,Inv X pins σ (upd H p (.dK (Ku acc ps))) Z->R (.ok (.ret .none)) Z)->∀n:Int,
 codeAny (model X.prog X.w) A (.builtin "dict.update.loop" ⟨[.ref p,.ref f,rawInt n,.none],[]⟩) R s:=by
 intro xs ps d acc s Y
 induction Y generalizing d acc s with
 |nil =>
   intro g J I st j m n;have F:upd H p (.dK acc) l=some (.lst (d++[])):=(AC (AJ g k)).trans g;obtain⟨r,u,aa,v,w,y⟩:=j;have G:upd H p (.dK acc) f=none:=(AC E).trans r;obtain⟨z,Q,c,B,e⟩:=(show Az X.prog X.w _ s.heap l (.lst (d++[])) from I.hok l _ F);have ai:=B.length;rw[FA] at ai;refine codeAny_builtin PySem.F.entry_upd_loop ?_;rw[Around.under_plainId PySem.F.plain_upd_loop _];show wpAny _ A.in1 (pyNext (.ref f) >>= _) _ _ s;refine Ad (wpAny_pyNext_list_end W st ⟨_,e,rfl,c,rfl⟩ (by simp;omega) λh eb=>?_);exact Ad (Au (Au (m _ (I.turned (t':=s.toks) (λb o C e=>eb b o C e) G u v w y))))
 |@cons x q xs ps hq tl ih =>
   intro g J I st j m n;obtain⟨t,rfl,K⟩:=hq;have F:upd H p (.dK acc) l=some (.lst (d++.ref t::xs)):=(AC (AJ g k)).trans g;have ab:upd H p (.dK acc) t=some (.tup [kV q.1,q.2]):=(AC (AJ K k)).trans K;obtain⟨r,u,aa,v,w,y⟩:=id j;have G:upd H p (.dK acc) f=none:=(AC E).trans r;obtain⟨z,Q,c,B,e⟩:=(show Az X.prog X.w _ s.heap l (.lst (d++.ref t::xs)) from I.hok l _ F);obtain⟨aj,ae,ru⟩:=B.get (i:=d.length) (x:=.ref t) (by simp);cases ru;refine codeAny_builtin PySem.F.entry_upd_loop ?_;rw[Around.under_plainId PySem.F.plain_upd_loop _];show wpAny _ A.in1 (pyNext (.ref f) >>= _) _ _ s;refine Ad (wpAny_pyNext_list_item st (⟨_,e,rfl,c,rfl⟩:s.heap.IsList l Q.toArray) (x:=.ref t) (by simpa using ae) λh af sb=>?_);have D:Inv X pins σ (upd H p (.dK acc)) {s with heap:=h}:=I.turned (t':=s.toks) (λb o C e=>(sb.2 b C).trans e) G u v w y;obtain⟨_,ts,rt,ot,L,ct,nt,dt⟩:=(show Az X.prog X.w _ h t (.tup [kV q.1,q.2]) from D.hok t _ ab);obtain⟨M,N,rfl,r1,r2⟩:=IX rt;obtain⟨zd,hm,es,S,dd⟩:=Ks D.hok (Aa (H:=H) (a:=p) (o:=.dK acc))
   have ag:es.length<=sizeLine:=by rw[<-S.length];exact zd
   have ak:(AX acc q.1 q.2).length<=acc.length+1:=NU acc q.1 q.2;rw[Ej] at J;refine Ad (Ff (Ad (wpAny_tryCatch ?_)));show wpAny _ A.in1 (Builtin.Dict.pairItems (.ref t)) _ _ _;unfold Builtin.Dict.pairItems;refine Ad (ML (s:={s with heap:=h}) (T:= "tuple") ⟨ot,L,ct⟩ ?_);rw[Aj (by decide)];refine Ad (F9 (s:={s with heap:=h}) L dt (Au ?_));show wpAny _ A.in1 (holding [M,N] (dictSet p M N)) _ _ _;have ah:(AX acc q.1 q.2).length<=sizeLine:=(by omega);refine Ff (wpAny_dictSet_pairs (hsz:=ag) (MS r1) dd λO U P=>?_);have he:∃o,O.get? p=some o:=let ⟨o,_,_,ho,_⟩:=U;⟨o,ho⟩
   have I2:∀tk,Inv X pins σ (upd H p (.dK (AX acc q.1 q.2))) {s with heap:=O,toks:=tk}:=λtk=>by
    have:=NV (t':=tk) (ob:=.dK (AX acc q.1 q.2)) D (by rw[Aa];exact True.intro) P he (Hk ah hm (S.put q.1 r2) U);rw[Uo] at this;exact this
   refine Au ⟨plainId_quiet PySem.F.plain_upd_loop _,?_⟩;have:=ih (d++[.ref t]) (AX acc q.1 q.2) _ (by rw[FX];exact g) (by omega) (I2 (s.toks+1)) (by rw[AW];exact af.at λo e=>(P.2 f E).trans e) j m (n+1);exact this
def L9:List V->Hp->VK->Prop:=λvs H Q=>∃l xs ps,vs=[.ref l]/\H l=some (.lst xs)/\xs.length<sizeLine/\L8 H xs ps/\∀p,H p=none->Q (.ref p) (upd H p (.dK (Ku [] ps)))
theorem cX(j:X.calm=true):A5 X (.type "dict") L9:=by
 intro pins s σ H G us Q I r h;obtain⟨l,xs,x,rfl,k,J,y,q⟩:=h;obtain⟨u,rfl,B⟩:=Fj r;cases B;have m:H s.heap.objs.size=none:=I.hok.fresh (AB _);refine callType_codes (Q₁:=λv n=>v=.ref s.heap.objs.size/\n={s with heap:=s.heap.push {cls:=.type "dict",data:=.dict #[]}}) PySem.F.kt_called_dict (PySem.F.kt_typeCall_dict_1 _) PySem.F.entry_dict_init (kt_code_dict_new _ ⟨rfl,rfl⟩) ?_;rintro v n ⟨rfl,rfl⟩;have C:=I.laid (a:=s.heap.objs.size) (o:=.dK []) (t':=s.toks) (h':=s.heap.push {cls:=.type "dict",data:=.dict #[]}) (λ_ _ q=>A8 _ q) (AB _) (UX s.heap I.big)
 obtain⟨z,L,c,K,e⟩:=(show Az X.prog X.w _ s.heap l (.lst xs) from I.hok l _ k)
 have f:=A8 {cls:=.type "dict",data:=.dict #[]} e;have p:Shared.TypeIs {s with heap:=s.heap.push {cls:=.type "dict",data:=.dict #[]}} (.ref s.heap.objs.size) "dict" :=⟨_,B4 _ rfl,rfl⟩;refine⟨p,PySem.F.args_dict_init_2 _ _,?_⟩;unfold Builtin.«dict.__init__»;refine Ad ?_;unfold Builtin.Dict.selfAndRest;refine Ad (wpAny_notOrdered_dict p ?_);show wpAny _ _ (pure (s.heap.objs.size,[Value.ref l])) _ _ _;refine Au ?_;show wpAny _ _ (Builtin.Dict.updateFrom "dict.__init__" s.heap.objs.size (.ref l) [] .none) _ _ _;unfold Builtin.Dict.updateFrom;refine Ad (ML (T:= "list") ⟨_,f,rfl⟩ ?_)
 rw[Aj (by decide)];refine Ad (VL f rfl rfl rfl (I.ok.hd j) λd tk t=>?_);rw[Aj (show(none:Option Value).isNone=true from rfl)];have g:=C.kept (t':=tk) t;refine Ad (G4 (Ad (wpAny_pyIter_list (s:={s with heap:=d,toks:=tk}) ⟨_,t _ _ f,rfl,c,rfl⟩ ?_)))
 have D:=g.kept (t':=tk) (h':=d.push {cls:=.type "list_iterator",data:=.fields #[.ref l,.int 0 0]}) λb o e=>A8 _ e;obtain⟨i,E⟩:=g.fpOk (AB d.objs.size) (g.hok.fresh (AB _));have w:d.objs.size≠s.heap.objs.size:=λz=>by rw[z,Aa] at i;cases i
 refine Au ⟨plainId_quiet PySem.F.plain_upd_loop _,cW (A:=X.A.in1) (X:=X) (pins:=pins) (σ:=σ) (l:=l) (H:=H) (I.ok.hd j) m w xs x [] [] _ y k (by rw[Gm];omega) D ⟨_,B4 _ rfl,rfl,rfl⟩ ⟨(AC w).symm.trans i,E⟩ (λZ F=>⟨rfl,.ref _,_,F,rfl,q _ m⟩) 0⟩
end
abbrev AI:Type:=Option (Str×Int)
def Fd (W:Wd) (inn:Int) (ord:List (Str×Str)) (q:Qu) (as:List AI) (a:AI):Prop:=∃(w:Option Wt)(ls:List Lk)(ts:List Int),LU (W.late as) inn ord q.1 q.2.1 q.2.2 0 a w ls ts
structure G1 (W:Wd) (qs:List Qu) (as:List AI):Prop where
 len:as.length=qs.length
 rng:∀p,some p∈as->p.1=("thing" : Str)->0<=p.2/\p.2<W.gs.length
structure SOk (W:Wd) (qs:List Qu) (inn:Int) (ord:List (Str×Str)):Prop where
 all:∀as,G1 W qs as->P0 (W.late as) qs inn ord
 tr:∀x y z,(x,y)∈ord->(y,z)∈ord->(x,z)∈ord
structure HQ (W:Wd) (qs:List Qu) (inn:Int) (ord:List (Str×Str)) (as as':List AI):Prop where
 len:as'.length=as.length
 old:∀(k:Nat)(p:Str×Int),as[k]?=some (some p)->as'[k]?=some (some p)
 new:∀(k:Nat)(q:Qu),qs[k]?=some q->as[k]?=some none->∃a,Fd W inn ord q as a/\as'[k]?=some a
inductive Run (W:Wd) (qs:List Qu) (inn:Int) (ord:List (Str×Str)):Nat->List AI->List Int->Prop where
 |zero:Run W qs inn ord 0 (List.replicate qs.length none) (List.replicate qs.length 0)
 |succ {n:Nat} {as as':List AI} {ts ts':List Int} (h:Run W qs inn ord n as ts) (e:n=0\/∃k:Nat,ts[k]?=some (n:Int)) (x:HQ W qs inn ord as as') (l:ts'.length=ts.length)
  (t:∀k:Nat,k<qs.length->ts'[k]?=if as[k]?=some none/\as'[k]?≠some none then some ((n:Int)+1) else ts[k]?):Run W qs inn ord (n+1) as' ts'
section
variable {W:Wd} {qs:List Qu} {inn:Int} {ord:List (Str×Str)} {n:Nat} {as as':List AI} {ts:List Int}
theorem HQ.late(h:HQ W qs inn ord as as'):Later as as':=⟨h.len,h.old⟩
theorem HS{V:Wd}(ok:BY V)(g:Bf V)(o:0<=inn/\inn<V.sts.length){p:List Str}{a:AI}{w:Option Wt}(k:LU V inn ord sc st p at_ a w ls ts):(0<=sc/\sc<V.ss.length)->(0<=st/\st<V.sts.length)->∀x,a=some x->x.1=("thing" : Str)->0<=x.2/\x.2<V.gs.length:=by
 induction k with
 |stop h e n =>
   rintro d f ⟨y,m⟩ rfl j;cases(show y=_ from j);exact KI ok g (JK ok d f h) e
 |opn h e i=>intro _ _ x b;cases b
 |no h e i =>
   intro _ _ x b c;cases b
   exact absurd (show("none" : Str)=_ from c) SW
 |go h e i q l=>exact λd f x b c=>l (P4 ok (KI ok g (JK ok d f h) e) i) o x b c
theorem JT{p:Str×Int}{l:List AI}(h:some p∈l):∃k:Nat,l[k]?=some (some p):=List.mem_iff_getElem?.mp h
theorem HQ.aok(G:SOk W qs inn ord)(h:G1 W qs as)(x:HQ W qs inn ord as as'):G1 W qs as':=by
 refine⟨x.len.trans h.len,λp f c=>?_⟩;obtain⟨k,b⟩:=JT f;have n:k<as.length:=by rw[<-x.len];exact(A7.mp b).1
 cases e:as[k]? with
 |none=>rw[List.getElem?_eq_none_iff] at e;omega
 |some o =>
   cases o with
   |some g =>
     have:=x.old k g e;rw[b] at this;cases this;exact h.rng p (Bd e) c
   |none =>
     have i:=AD (show k<qs.length by rw[<-h.len];exact n);obtain⟨a,⟨w,ls,ts,j⟩,d⟩:=x.new k _ i e;have L:=G.all as h;obtain⟨l,m,_⟩:=L.q _ (EC _);rw[b] at d;exact HS L.ok L.sm L.inn j l m p (Bo d).symm c
theorem Run.aok(G:SOk W qs inn ord)(h:Run W qs inn ord n as ts):G1 W qs as/\ts.length=qs.length:=by
 induction h with
 |zero=>exact⟨⟨List.length_replicate,λp b _=>by cases List.eq_of_mem_replicate b⟩,List.length_replicate⟩
 |succ h e x l t a=>exact⟨x.aok G a.1,l.trans a.2⟩
theorem Ta(G:SOk W qs inn ord)(c:G1 W qs as)(d:Later as as'){k:Nat}{q:Qu}(e:qs[k]?=some q){p:Str×Int}{b:AI}(h:Fd W inn ord q as (some p))(h':Fd W inn ord q as' b):b=some p:=by
 obtain⟨w,ls,m,a⟩:=h;obtain⟨l,n,o,j⟩:=h';have L:=G.all as c;obtain⟨f,g,_⟩:=L.q _ (Bd e)
 have i:w=none:=by
  rcases Z0 a with⟨z,_⟩|⟨_,z⟩;cases z;exact z
 exact(JL (W:=W.late as) (as':=as') L.irr G.tr d L.ok L.sm L.inn a i f g j).1
theorem WS{q:Qu}{a b:AI}(h:Fd W inn ord q as a)(h':Fd W inn ord q as b):a=b:=by
 obtain⟨_,_,_,c⟩:=h;obtain⟨_,_,_,d⟩:=h';exact(JE c d).1
theorem Run.found(G:SOk W qs inn ord)(h:Run W qs inn ord n as ts):∀(k:Nat)(q:Qu)(p:Str×Int),qs[k]?=some q->as[k]?=some (some p)->∃B,G1 W qs B/\Later B as/\Fd W inn ord q B (some p):=by
 induction h with
 |zero=>intro k q p _ e;rw[List.getElem?_replicate] at e;split at e<;>cases e
 |@succ n as as' ts z h e x l t i =>
   intro k q p c e;have d:=(h.aok G).1;have y:k<qs.length:=(A7.mp c).1
   cases b:as[k]? with
   |none=>rw[List.getElem?_eq_none_iff,d.len] at b;omega
   |some o =>
     cases o with
     |some m =>
       have:=x.old k m b;rw[e] at this;cases this;obtain⟨B,s,f,u⟩:=i k q p c b;exact⟨B,s,⟨x.len.trans f.len,λj r v=>x.old j r (f.old j r v)⟩,u⟩
     |none =>
       obtain⟨a,w,g⟩:=x.new k q c b;rw[e] at g;cases g;exact⟨as,d,x.late,w⟩
theorem Run.still(G:SOk W qs inn ord)(h:Run W qs inn ord n as ts)(g:HQ W qs inn ord as as){k:Nat}{q:Qu}(c:qs[k]?=some q){b:AI}(d:Fd W inn ord q as b):as[k]?=some b:=by
 have i:=(h.aok G).1;have s:k<as.length:=by rw[i.len];exact(A7.mp c).1
 cases e:as[k]? with
 |none=>rw[List.getElem?_eq_none_iff] at e;omega
 |some o =>
   cases o with
   |none =>
     obtain⟨a,j,f⟩:=g.new k q c e;rw[e] at f;cases f;rw[WS d j]
   |some p =>
     obtain⟨B,l,m,r⟩:=h.found G k q p c e;rw[Ta G l m c r d]
end
def qA (gs:List (Str×Int)):Option (Str×Int)->List Int
 |some w=>if w.1=("thing" : Str) then E4 gs w.2 else[]
 |none=>[]
theorem JU{gs:List (Str×Int)}{k:Nat}{o:Option (Str×Int)}(h:as[k]?=some o):Fw gs as (k:Int)=qA gs o:=by
 unfold Fw;rw[Be,h];cases o<;>rfl
section
variable {F:Addr->Prop} {H:Hp} {v:V} {d e f:Dt}
theorem M7{i:Int}(h:A9 F H v (.int i)):v=.int i:=by cases h;rfl
theorem Ma(h:A9 F H v (.str x)):v=.str x:=by cases h;rfl
theorem Qa(h:A9 F H v (.tup [d,e,f])):∃t x y z,v=.ref t/\H t=some (.tup [x,y,z])/\A9 F H x d/\A9 F H y e/\A9 F H z f:=by
 cases h with
 | tup h t =>
   cases t with
   |cons a t =>
     cases t with
     |cons b t =>
       cases t with
       |cons c t =>
         cases t with
         |nil=>exact⟨_,_,_,_,rfl,h,a,b,c⟩
theorem Tb{b:List Dt}(h:A9 F H v (.lst b)):∃a vs,v=.ref a/\H a=some (.lst vs)/\Ax F H vs b:=by
 cases h with
 |lst h f t=>exact⟨_,_,rfl,h,t⟩
theorem Mb(h:A9 F H v (DP.D b)):∃t x,v=.ref t/\H t=some (.tup [x,.int b.2.1,.int b.2.2]):=by
 obtain⟨t,x,y,z,c,a,_,d,e⟩:=Qa (show A9 F H v (.tup [CC.D b.1,.int b.2.1,.int b.2.2]) from h);rw[M7 d,M7 e] at a;exact⟨t,x,c,a⟩
theorem Ov(h:A9 F H v (PB m)):∃t,v=.ref t/\H t=some (.tup (GK m)):=by
 obtain⟨t,x,y,z,b,a,c,d,e⟩:=Qa h;rw[M7 c,Ma d,M7 e] at a;exact⟨t,b,a⟩
theorem Ax.app_inv:∀{es b:List Dt}{vs:List V},Ax F H vs (es++b)->∃xs ys,vs=xs++ys/\Ax F H ys b
 |[],_,vs,h=>⟨[],vs,rfl,h⟩
 |_::es,_,_,.cons a t=>by
   obtain⟨xs,ys,e,h⟩:=Ax.app_inv (es:=es) t;exact⟨_::xs,ys,by rw[e];rfl,h⟩
theorem JV(h:A9 F H v (CC.D (w++[m]))):∃a vs t,v=.ref a/\H a=some (.lst vs)/\Bz vs (-1)=some (.ref t)/\H t=some (.tup (GK m)):=by
 obtain⟨a,vs,c,d,b⟩:=Tb (show A9 F H v (.lst ((w++[m]).map PB)) from h);rw[Bn] at b;obtain⟨xs,g,rfl,e⟩:=b.app_inv
 cases e with
 |cons a t =>
   cases t with
   |nil =>
     obtain⟨t,rfl,f⟩:=Ov a;exact⟨_,_,t,c,d,Sv _ _,f⟩
theorem M8{f:α->Dt}{l:List α}{vs:List V}(h:Ax F H vs (l.map f))(hv:vs[i]?=some v):∃b,l[i]?=some b/\A9 F H v (f b):=by
 obtain⟨d,a,c⟩:=h.get hv;rw[Bh] at a;obtain⟨b,e,rfl⟩:=Gp.mp a;exact⟨b,e,c⟩
end
theorem Mc(h:n<=9000):n<sizeLine:=Nat.lt_of_le_of_lt h (by decide)
theorem M9{α β:Type}{f:α->List β}{n:Nat}:∀{l:List α},(∀a∈l,(f a).length<=n)->(l.flatMap f).length<=n*l.length
 |[],_=>Ci _
 |a::l,h=>by
   have d:=h a Bv;have e:=M9 λb c=>h b (Ch _ c);rw[List.flatMap_cons,AW,Ej,Nat.mul_succ];omega
theorem Ox{β:Type}{f:α->List β}{l:List α}{a:α}(h:l[i]?=some a):(l.take (i+1)).flatMap f=(l.take i).flatMap f++f a:=by
 rw[DJ,h];show(l.take i++[a]).flatMap f=_;rw[List.flatMap_append]
 simp
theorem Oy{β:Type}{f:α->List β}{l:List α}(i:Nat):((l.take i).flatMap f).length<=(l.flatMap f).length:=by
 have:l.flatMap f=(l.take i).flatMap f++(l.drop i).flatMap f:=(by rw[<-List.flatMap_append,List.take_append_drop]);rw[this,AW];omega
theorem Tc(gs:List (Str×Int))(n:Int):(E4 gs n).length<=1:=by
 unfold E4;split;split<;>simp
 simp
theorem Md(gs:List (Str×Int))(o:Option (Str×Int)):(qA gs o).length<=1:=by
 unfold qA;split;split;exact Tc _ _
 simp
 simp
theorem cY(gs:List (Str×Int))(as:List (Option (Str×Int)))(q:Int):(Fw gs as q).length<=1:=by
 unfold Fw;split;split;exact Tc _ _
 simp
 simp
theorem cZ(W:Wd)(st:Int)(p:Cd):(FR W st p).length<=2:=by
 unfold FR;have:=cY W.gs W.as p.2.2;split;rw[Ej];omega
 simp
theorem dA(ss:List Bi)(w:List Ap):(E5 ss w).length<=1:=by
 unfold E5;split<;>simp
theorem dB{b:Int}{p:Cd}(a:p∈BU W b):∃s∈W.ss,p∈s.1:=by
 unfold BU at a
 cases e:W.ss[b.toNat]? with
 |none=>rw[e] at a;cases a
 |some s=>rw[e] at a;exact⟨s,Bd e,a⟩
theorem dC(a:∀s∈W.ss,s.1.length<=3)(b:AQ):(Bq W b).length<=6:=by
 unfold Bq;have c:=M9 (f:=FR W b.2.2) (n:=2) (l:=BU W b.2.1) λp _=>cZ W b.2.2 p
 have d:(BU W b.2.1).length<=3:=by
  unfold BU
  cases e:W.ss[b.2.1.toNat]? with
  |none=>exact Ci _
  |some s=>exact a s (Bd e)
 omega
structure HU (W:Wd) (l:Lk):Prop where
 b:l.1.length<=62
 f:l.2.1.length<=62
 bo:∀b∈l.1,B5 W b
 en:∀w∈l.2.1,Do W.ss w
theorem Qb(ok:BY W)(d:Bf W){l:Lk}(a:0<=sc/\sc<W.ss.length)(c:0<=st/\st<W.sts.length)(h:CF W ord sc st x l os):HU W l:=by
 refine⟨h.b.few,?_,λb e=>((h.b.mem b).mp e).ok ok a c,JK ok a c h⟩;have f:=h.f.perm.length_eq;have g:=d.fnd x sc st _ a c h.b;omega
theorem dD(ok:BY W)(f:Bf W)(r:0<=inn/\inn<W.sts.length){p:List Str}{w:Option Wt}(k:LU W inn ord sc st p at_ a w ls ts) :
 0<=sc/\sc<W.ss.length->0<=st/\st<W.sts.length->(∀l∈ls,HU W l)/\(∀n∈ts,0<=n/\n<W.gs.length)/\ts.length<=ls.length:=by
 induction k with
 |stop h e n=>exact λb c=>⟨λl d=>by rw[AY.mp d];exact Qb ok f b c h,(λ_ z=>by cases z),Ci _⟩
 |opn h e i=>exact λb c=>⟨λl d=>by rw[AY.mp d];exact Qb ok f b c h,λn g=>by rw[AY.mp g];exact KI ok f (JK ok b c h) e,AB _⟩
 |no h e i=>exact λb c=>⟨λl d=>by rw[AY.mp d];exact Qb ok f b c h,λn g=>by rw[AY.mp g];exact KI ok f (JK ok b c h) e,AB _⟩
 |go h e i s m =>
   intro b c;have g:=KI ok f (JK ok b c h) e;obtain⟨o,q,t⟩:=m (P4 ok g i) r;refine⟨λl d=>?_,λn j=>?_,by rw[Ej,Ej];omega⟩;rcases Ce.mp d with rfl|d;exact Qb ok f b c h;exact o l d;rcases Ce.mp j with rfl|j;exact g;exact q n j
theorem dE(g:∀s∈W.ss,s.1.length<=3)(e:∀l∈ls,HU W l)(i:ls.length<=8)(j:ts.length<=8):(CH W ls ts).length<=4000:=by
 unfold CH;rw[AW]
 have k:=M9 (f:=FG W) (n:=434) (l:=ls) λl h=>by
  unfold FG;rw[AW];have a:=M9 (f:=Bq W) (n:=6) (l:=l.1) λb _=>dC g b;have b:=M9 (f:=E5 W.ss) (n:=1) (l:=l.2.1) λw _=>dA W.ss w;have c:=(e l h).b;have d:=(e l h).f;omega
 have m:=M9 (f:=E4 W.gs) (n:=1) (l:=ts) λn _=>Tc W.gs n;omega
theorem WT(ok:BY W){n:Int}(h:q∈E4 W.gs n):0<=q/\q<W.as.length:=by
 unfold E4 at h
 cases e:W.gs[n.toNat]? with
 |none=>rw[e] at h;cases h
 |some p =>
   rw[e] at h;dsimp only at h;split at h;rename_i a;rw[AY.mp h];exact ok.net.q p (Bd e) a;cases h
theorem WU(ok:BY W)(f:Bf W)(g:∀l∈ls,HU W l)(h:q∈CH W ls ts):0<=q/\q<W.as.length:=by
 unfold CH at h;rcases BB.mp h with h|h;obtain⟨l,i,c⟩:=List.mem_flatMap.mp h;unfold FG at c;rcases BB.mp c with c|c;obtain⟨b,_,d⟩:=List.mem_flatMap.mp c;unfold Bq at d;obtain⟨p,j,a⟩:=List.mem_flatMap.mp d;obtain⟨s,k,m⟩:=dB j;unfold FR at a;split at a;rename_i o;rcases Ce.mp a with rfl|a;exact ok.by_ k m λz=>by rw[o.1] at z;exact absurd z (by decide +kernel)
 unfold Fw at a;split at a;split at a;exact WT ok a;cases a;cases a;cases a;obtain⟨w,r,d⟩:=List.mem_flatMap.mp c;unfold E5 at d;split at d;rename_i t;rw[AY.mp d];rcases M6 f ((g l i).en w r) with⟨e,_⟩|⟨_,e⟩;rw[t] at e;exact absurd e (by decide +kernel);exact e;cases d;obtain⟨n,_,c⟩:=List.mem_flatMap.mp h;exact WT ok c
theorem Td:∀{a:List Int},a.Nodup->(∀y∈a,0<=y/\y<(n:Int))->a.length<=n:=λhd h=>KA n _ hd h
structure LN (K:Ah) (F:Addr->Prop) (H:Hp) (nt t:Addr) (W:Wd) (qs:List Qu) (inn:Int) (ord:List (Str×Str)):Prop where
 net:∃(S T R:Addr)(us Gs Es ts qt:List Addr),H nt=some (.tup [.ref S,.ref T,.ref R])/\Gd H S T R us Gs Es ts qt W.ss W.gs qs
 tab:Gc K F H t W.sts inn ord
section
variable {K:Ah} {F:Addr->Prop} {H H':Hp} {nt A t:Addr} {W:Wd} {qs:List Qu} {inn:Int} {ord:List (Str×Str)} {as:List AI}
theorem LN.same(h:LN K F H nt t W qs inn ord)(e:Ac H H'):LN K F H' nt t W qs inn ord:=by
 obtain⟨⟨S,T,R,us,a,b,ts,d,f,g⟩,c⟩:=h;exact⟨⟨S,T,R,us,a,b,ts,d,e _ _ f,g.same e⟩,c.same e⟩
theorem LN.lc(h:LN K F H nt t W qs inn ord)(a:GZ K H A as):LC K F H nt A t (W.late as) qs inn ord:=⟨h.net,a,h.tab⟩
def Tk (H H':Hp):Prop:=∀a vs,H a=some (.tup vs)->H' a=some (.tup vs)
theorem Ac.tk(s:Ac H H'):Tk H H':=λ_ _ e=>s _ _ e
theorem Oz{x:Addr}{vs:List V}{o:HO}(h:H x=some (.lst vs)):Tk H (upd H x o):=λa us e=>by
 rw[AC λz=>by rw[z,h] at e;cases e];exact e
variable {kvs:List (AO×V)}
theorem JW{x:Addr}{o:HO}(h:H x=some (.dK kvs)):Tk H (upd H x o):=λa us e=>by
 rw[AC λz=>by rw[z,h] at e;cases e];exact e
theorem Tk.trans{c:Hp}(a:Tk H H')(b:Tk H' c):Tk H c:=λx d e=>b _ _ (a _ _ e)
abbrev KJ:Addr->Prop:=λ_=>False
theorem Ax.tk{vs:List V}{a:List Dt}(k:Tk H H')(h:Ax KJ H vs a):Ax KJ H' vs a:=h.go k λ_ _ _ f=>f.elim
def Eg (H:Hp) (A:Addr) (as:List AI):Prop:=∃vs,H A=some (.lst vs)/\Ax KJ H vs (as.map C9)
theorem Eg.ans(h:Eg H A as):GZ K H A as:=by
 obtain⟨a,e,h⟩:=h;exact⟨a,Ag.of e,h.dts⟩
theorem Eg.go(h:Eg H A as)(k:Tk H H')(a:∀vs,H A=some (.lst vs)->H' A=some (.lst vs)):Eg H' A as:=by
 obtain⟨vs,e,h⟩:=h;exact⟨vs,a _ e,h.tk k⟩
theorem A9.noL{a:AI}(h:A9 F H v (C9 a)):A9 KJ H v (C9 a):=by
 cases a with
 |none=>rw[h.ansN];exact .non
 |some p =>
   obtain⟨t,rfl,e⟩:=h.ansS;exact .tup e (.cons (.str _) (.cons (.int _) .nil))
def Qc (W:Wd) (qs:List Qu) (inn:Int) (ord:List (Str×Str)) (H:Hp) (kvs:List (AO×V)) (k:Nat) (B:List AI) (l:Addr) (us:List Int):Prop:=
 AL kvs (.inl (k:Int))=some (.ref l)/\H l=some (.lst (us.map V.int))/\us.length<=1000/\(∀u∈us,0<=u)/\∃(q:Qu)(w:Option Wt)(ls:List Lk)(ts:List Int),qs[k]?=some q/\LU (W.late B) inn ord q.1 q.2.1 q.2.2 0 none w ls ts/\∀x∈CH (W.late B) ls ts,x∈us
def IG (kvs:List (AO×V)) (n:Nat):Prop:=(kvs.map (·.1)).Nodup/\∀x∈kvs.map (·.1),∃i:Nat,i<n/\x=.inl (i:Int)
theorem dG(kvs:List (AO×V))(k:AO)(v:V):((AX kvs k v).map (·.1)=kvs.map (·.1))\/(k∉kvs.map (·.1)/\(AX kvs k v).map (·.1)=kvs.map (·.1)++[k]):=by
 unfold AX;split;left;rw[DF];congr 1;funext a
 show(if a.1=k then(a.1,v) else a).1=a.1
 split<;>rfl;rename_i h;right;refine⟨λm=>h ?_,by rw[Bn];rfl⟩;obtain⟨p,b,e⟩:=Br.mp m;exact Go.mpr ⟨p,b,A4 e⟩
theorem IG.put(h:IG kvs n)(d:i<n)(v:V):IG (AX kvs (.inl (i:Int)) v) n:=by
 unfold IG;rcases dG kvs (.inl (i:Int)) v with e|⟨f,e⟩;rw[e];exact h;rw[e];refine⟨?_,λx c=>?_⟩;rw[List.nodup_append];refine⟨h.1,by simp,λa g b j=>?_⟩;rw[AY.mp j];exact λz=>f (by rw[<-z];exact g);rcases BB.mp c with c|c;exact h.2 x c;exact⟨i,d,AY.mp c⟩
theorem IG.len(h:IG kvs n):kvs.length<=n:=by
 have:((kvs.map (·.1)).map λk:AO=>match k with|.inl i=>i|.inr _=>(0:Int)).Nodup:=by
  rw[List.nodup_iff_pairwise_ne,List.pairwise_map];refine(List.nodup_iff_pairwise_ne.mp h.1).imp_of_mem λ{a b}d e l=>?_;obtain⟨i,_,rfl⟩:=h.2 a d;obtain⟨j,_,rfl⟩:=h.2 b e;exact λz=>l (by dsimp only at z;rw[z])
 have c:=Td (n:=n) this λy f=>by
  obtain⟨x,g,rfl⟩:=Br.mp f;obtain⟨i,m,rfl⟩:=h.2 x g;dsimp only;omega
 rw[Al,Al] at c;exact c
structure FT (W:Wd) (qs:List Qu) (inn:Int) (ord:List (Str×Str)) (as:List AI) (H H':Hp) (kvs kvs':List (AO×V)) (ds:List Int) (fs:List (Int×(Str×Int))):Prop where
 fd:∀f∈fs,∃(k:Nat)(q:Qu),f.1=(k:Int)/\(k:Int)∈ds/\qs[k]?=some q/\Fd W inn ord q as (some f.2)
 al:∀k:Nat,(k:Int)∈ds->(∃p,((k:Int),p)∈fs)\/∃l us,H l=none/\Qc W qs inn ord H' kvs' k as l us
 kp:∀k:Nat,(k:Int)∉ds->AL kvs' (.inl (k:Int))=AL kvs (.inl (k:Int))
 ko:IG kvs' qs.length
variable {H'':Hp} {kvs kvs':List (AO×V)} {ds:List Int} {fs:List (Int×(Str×Int))} {k:Nat} {q:Qu}
theorem FT.hit(h:FT W qs inn ord as H H' kvs kvs' ds fs)(i:∀l vs,H l=none->H' l=some (.lst vs)->H'' l=some (.lst vs))(m:qs[k]?=some q){p:Str×Int}(n:Fd W inn ord q as (some p)):FT W qs inn ord as H H'' kvs kvs' (ds++[(k:Int)]) (fs++[((k:Int),p)]):=by
 refine⟨λf g=>?_,λj e=>?_,λj e=>h.kp j λz=>e (D9 _ z),h.ko⟩;rcases BB.mp g with g|g;obtain⟨j,r,a,b,c,d⟩:=h.fd f g;exact⟨j,r,a,D9 _ b,c,d⟩;rw[AY.mp g];exact⟨k,q,rfl,by simp,m,n⟩;rcases BB.mp e with e|e;rcases h.al j e with⟨p,o⟩|⟨l,us,a,b,c,d⟩;exact .inl ⟨p,D9 _ o⟩;exact .inr ⟨l,us,a,b,i _ _ a c,d⟩;rw[AY.mp e];exact .inl ⟨p,by simp⟩
theorem FT.wait(h:FT W qs inn ord as H H' kvs kvs' ds fs)(m:∀l vs,H l=none->H' l=some (.lst vs)->H'' l=some (.lst vs))(i:qs[k]?=some q){w:Option Wt}(n:LU (W.late as) inn ord q.1 q.2.1 q.2.2 0 none w ls ts){l:Addr}{us:List Int}(o:H l=none)(s:H'' l=some (.lst (us.map V.int)))(t:us.length<=1000)(v:∀u∈us,0<=u)(y:∀x∈CH (W.late as) ls ts,x∈us):FT W qs inn ord as H H'' kvs (AX kvs' (.inl (k:Int)) (.ref l)) (ds++[(k:Int)]) fs:=by
 have A:k<qs.length:=(A7.mp i).1;refine⟨λf D=>?_,λj g=>?_,λj g=>?_,h.ko.put A _⟩;obtain⟨j,r,a,b,c,d⟩:=h.fd f D;exact⟨j,r,a,D9 _ b,c,d⟩;by_cases e:(j:Int)=(k:Int);have:j=k:=(by omega);subst this;exact .inr ⟨l,us,o,by rw[NT,Aj rfl],s,t,v,q,w,ls,ts,i,n,y⟩;rcases BB.mp g with g|g;rcases h.al j g with⟨p,B⟩|⟨C,E,a,b,c,d⟩;exact .inl ⟨p,B⟩;exact .inr ⟨C,E,a,by rw[NT,Ak λz=>e (Sum.inl.inj z)];exact b,m _ _ a c,d⟩;exact absurd (AY.mp g) e;rw[NT,Ak λz=>g (De _ (by rw[Sum.inl.inj z];simp))];exact h.kp j λz=>g (D9 _ z)
end
abbrev fD (f:Int×(Str×Int)):Dt:=.tup [.int f.1,C9 (some f.2)]
structure HV (W:Wd) (qs:List Qu) (inn:Int) (ord:List (Str×Str)):Prop extends SOk W qs inn ord where
 s3:∀s∈W.ss,s.1.length<=3
 lq:qs.length<=40
theorem AM{G:Prop}(h:∀N:Prop,(G->N)->N):G:=h G λz=>z
theorem F5{g:TG}{t:TS}(h:let N:=D.nx;let C:=D.ct;g v σ H λσ2 a=>t {D with nx:=N,ct:=C} σ2 a):g v σ H (λσ2 a=>t D σ2 a):=h
theorem dH{K:Ah}{a:Addr}{k:Nat}{r:List Nat}{g:TG}{te:TE}{Y:Hp}{Q:Addr->Hp->Prop}(Pv:Addr->Nat->List V->Hp->Prop)
 (s:∀D,Y D=none->Pv D 0 [] (upd Y D (.lst []))) (t:∀D i ys c,Pv D i ys c->Ag K c a xs)
 (u:∀D i x T ys c(R:VK),Y D=none->xs[i]?=some x->c T=none->Pv D i ys c->(∀y d,d D=some (.lst ys)->ys.length<sizeLine->Pv D (i+1) (ys++[y]) (upd d D (.lst (ys++[y])))->R y d)->g (.ref T) (EH k r σ) (upd c T (.tup [.int i,x])) λσ4 h=>te σ4 h R)
 (hd:∀D ys c,Y D=none->Pv D xs.length ys c->Q D c) :
 ∀D,Y D=none->∃W:Nat->Nat->List V->Hp->Prop,(∃m,W 0 m [] (upd Y D (.lst [])))/\∀i m ys c,W i m ys c ->
  ((Ky K a).stop i c/\Q D c)\/((Ky K a).go i c/\∀x j,(Ky K a).yld i c x j->g x (EH k r σ) j λσ4 h=>Hm σ4 h λb o =>
   if b=true then te σ4 o λy d=>d D=some (.lst ys)/\ys.length<sizeLine/\∃f,f<m/\W (i+1) f (ys++[y]) (upd d D (.lst (ys++[y]))) else ∃f,f<m/\W (i+1) f ys o):=by
 intro D l;refine⟨λi m ys c=>m=xs.length-i/\i<=xs.length/\Pv D i ys c,⟨xs.length,rfl,Ci _,s D l⟩,?_⟩;rintro i m ys c ⟨rfl,E,p⟩;have n:=t D i ys c p;by_cases q:i<xs.length;refine .inr ⟨⟨xs,xs[i],n,by simp[q]⟩,λx j y=>?_⟩;obtain⟨T,v,w,rfl,rfl,z⟩:=y;exact u D i v T ys c _ l (z xs n) w p λy d A B C=>⟨A,B,xs.length-(i+1),by omega,rfl,q,C⟩;have e:i=xs.length:=(by omega);subst e;exact .inl ⟨⟨xs,n,AB _⟩,hd D ys c l p⟩
abbrev CV:Type:=List (Int×(Str×Int))
def BO (as:List AI) (fs:CV):List AI:=fs.foldl (λa f=>a.set f.1.toNat (some f.2)) as
def Dd (ts:List Int) (n:Int) (fs:CV):List Int:=fs.foldl (λa f=>a.set f.1.toNat n) ts
variable {f:Int×(Str×Int)}
theorem dI{as:List AI}{fs:CV}(h:fs[i]?=some f):BO as (fs.take (i+1))=(BO as (fs.take i)).set f.1.toNat (some f.2):=by
 rw[DJ,h];show BO as (fs.take i++[f])=_;unfold BO;rw[Ki];rfl
theorem dJ{n:Int}{fs:CV}(h:fs[i]?=some f):Dd ts n (fs.take (i+1))=(Dd ts n (fs.take i)).set f.1.toNat n:=by
 rw[DJ,h];show Dd ts n (fs.take i++[f])=_;unfold Dd;rw[Ki];rfl
theorem Qd:∀(fs:CV)(as:List AI),(BO as fs).length=as.length
 |[],_=>rfl
 |f::fs,as=>by show(BO (as.set f.1.toNat (some f.2)) fs).length=_;rw[Qd fs,Fz]
theorem Tf{n:Int}:∀(fs:CV)(ts:List Int),(Dd ts n fs).length=ts.length
 |[],_=>rfl
 |f::fs,ts=>by show(Dd (ts.set f.1.toNat n) n fs).length=_;rw[Tf fs,Fz]
theorem Me{k:Nat}:∀{fs:CV}{as:List AI},(∀f∈fs,f.1.toNat≠k)->(BO as fs)[k]?=as[k]?
 |[],_,_=>rfl
 |f::fs,as,h=>by
   show(BO (as.set f.1.toNat (some f.2)) fs)[k]?=_;rw[Me λg a=>h g (Ch _ a),List.getElem?_set_ne (h f Bv)]
theorem Tg{k:Nat}{n:Int}:∀{fs:CV}{ts:List Int},(∀f∈fs,f.1.toNat≠k)->(Dd ts n fs)[k]?=ts[k]?
 |[],_,_=>rfl
 |f::fs,ts,h=>by
   show(Dd (ts.set f.1.toNat n) n fs)[k]?=_;rw[Tg λg a=>h g (Ch _ a),List.getElem?_set_ne (h f Bv)]
theorem Qe{k:Nat}:∀{fs:CV}{as:List AI},k<as.length->(∃f∈fs,f.1.toNat=k)->∃f∈fs,f.1.toNat=k/\(BO as fs)[k]?=some (some f.2)
 |[],_,_,⟨_,h,_⟩=>by cases h
 |f::fs,as,d,h=>by
   show ∃g∈f::fs,g.1.toNat=k/\(BO (as.set f.1.toNat (some f.2)) fs)[k]?=some (some g.2);by_cases c:∃g∈fs,g.1.toNat=k;obtain⟨g,a,b,e⟩:=Qe (as:=as.set f.1.toNat (some f.2)) (by rw[Fz];exact d) c;exact⟨g,Ch _ a,b,e⟩;obtain⟨g,a,b⟩:=h;rcases Ce.mp a with rfl|a;refine⟨g,Bv,b,?_⟩;rw[Me λx i z=>c ⟨x,i,z⟩,b,List.getElem?_set_self d];exact absurd ⟨g,a,b⟩ c
theorem Ti{k:Nat}{n:Int}:∀{fs:CV}{ts:List Int},k<ts.length->(∃f∈fs,f.1.toNat=k)->(Dd ts n fs)[k]?=some n
 |[],_,_,⟨_,h,_⟩=>by cases h
 |f::fs,ts,b,h=>by
   show(Dd (ts.set f.1.toNat n) n fs)[k]?=some n;by_cases c:∃g∈fs,g.1.toNat=k;exact Ti (by rw[Fz];exact b) c;obtain⟨g,a,d⟩:=h;rcases Ce.mp a with rfl|a;rw[Tg λx e z=>c ⟨x,e,z⟩,d,List.getElem?_set_self b];exact absurd ⟨g,a,d⟩ c
def nn (as:List AI):Nat:=as.countP λa=>a.isNone
theorem Tj(as:List AI)(k:Nat)(p:Str×Int):nn (as.set k (some p))<=nn as/\(as[k]?=some none->nn (as.set k (some p))<nn as):=by
 unfold nn;by_cases b:k<as.length;rw[List.countP_set b];have c:((some p:AI).isNone=true)=False:=(by simp);simp only[Option.isNone_some,Fe,if_false,Nat.add_zero];refine⟨Nat.sub_le _ _,λe=>?_⟩;rw[AD b] at e;rw[Bo e];have:0<as.countP λa=>a.isNone:=List.countP_pos_iff.mpr ⟨none,by rw[<-Bo e];exact EC b,rfl⟩;simp only[Option.isNone_none,if_true];omega;rw[List.set_eq_of_length_le (by omega)];exact⟨AB _,λe=>by rw[Gk (by omega)] at e;cases e⟩
theorem Tl:∀(fs:CV)(as:List AI),nn (BO as fs)<=nn as
 |[],_=>AB _
 |f::fs,as=>Ek (Tl fs (as.set f.1.toNat (some f.2))) (Tj as _ _).1
theorem OA{fs:CV}{as:List AI}(h:as[f.1.toNat]?=some none):nn (BO as (f::fs))<nn as:=Nat.lt_of_le_of_lt (Tl fs _) ((Tj as _ _).2 h)
section
variable {W:Wd} {qs:List Qu} {inn:Int} {ord:List (Str×Str)} {H H':Hp} {kvs kvs':List (AO×V)} {n:Nat} {as:List AI} {ts:List Int} {due:List Int} {fs:CV} {X:Addr->Prop}
structure HW (W:Wd) (qs:List Qu) (inn:Int) (ord:List (Str×Str)) (X:Addr->Prop) (H:Hp) (kvs:List (AO×V)) (n:Nat) (as:List AI) (ts:List Int) (due:List Int):Prop where
 run:Run W qs inn ord n as ts
 du:∀k∈due,∃j:Nat,k=(j:Int)/\j<qs.length/\as[j]?=some none
 la:due=[]\/n=0\/∃k:Nat,ts[k]?=some (n:Int)
 us:∀k:Nat,k<qs.length->as[k]?=some none->(k:Int)∈due\/∃B l us,¬X l/\G1 W qs B/\Qc W qs inn ord H kvs k B l us/\F4 B as us
 ko:IG kvs qs.length
structure Na (W:Wd) (qs:List Qu) (inn:Int) (ord:List (Str×Str)) (X:Addr->Prop) (H:Hp) (kvs:List (AO×V)) (n:Nat) (as:List AI) (ts:List Int) (fs:CV):Prop where
 run:Run W qs inn ord n as ts
 us:∀k:Nat,k<qs.length->as[k]?=some none->∃B l us,¬X l/\G1 W qs B/\Qc W qs inn ord H kvs k B l us/\∀u∈us,(∀f∈fs,f.1≠u)->as[u.toNat]?=B[u.toNat]?
 ko:IG kvs qs.length
 fs:fs=[]\/∃k:Nat,ts[k]?=some (n:Int)
theorem HX(G:SOk W qs inn ord){B:List AI}(b:G1 W qs B)(j:G1 W qs as){k:Nat}{l:Addr}{us:List Int}(h:Qc W qs inn ord H kvs k B l us)(c:F4 B as us):∃q,qs[k]?=some q/\Fd W inn ord q as none:=by
 obtain⟨_,_,_,_,q,w,ls,d,a,e,f⟩:=h;have L:=G.all B b;obtain⟨g,i,_⟩:=L.q q (Bd a);exact⟨q,a,w,ls,d,L6 (W:=W.late B) (as':=as) L.ok L.sm L.inn e g i (c.sub f)⟩
theorem HW.nxt(G:SOk W qs inn ord)(T:HW W qs inn ord X H kvs n as ts due)(F:FT W qs inn ord as H H' kvs kvs' due fs):HQ W qs inn ord as (BO as fs):=by
 have m:=(T.run.aok G).1
 have x:∀f∈fs,∃(k:Nat)(q:Qu),f.1=(k:Int)/\k<qs.length/\as[k]?=some none/\qs[k]?=some q/\Fd W inn ord q as (some f.2):=λf b=>by
  obtain⟨k,q,g,y,i,r⟩:=F.fd f b;obtain⟨j,v,A,C⟩:=T.du _ y;have:k=j:=(by omega);subst this;exact⟨k,q,g,A,C,i,r⟩
 refine⟨Qd _ _,λk p e=>?_,λk q s e=>?_⟩;rw[Me λf b z=>?_];exact e;obtain⟨j,q,g,_,i,_⟩:=x f b;rw[g,Be] at z;rw[z,e] at i;cases i;have w:k<qs.length:=(A7.mp s).1;by_cases c:∃f∈fs,f.1.toNat=k;obtain⟨f,t,o,D⟩:=Qe (as:=as) (by rw[m.len];exact w) c;obtain⟨j,a,g,_,i,r,v⟩:=x f t;have:j=k:=by rw[g,Be] at o;exact o
 subst this;have:a=q:=Bo (r.symm.trans s);subst this;exact⟨_,v,D⟩;rw[Me λf b z=>c ⟨f,b,z⟩];refine⟨none,?_,e⟩
 have K:∃a,qs[k]?=some a/\Fd W inn ord a as none:=by
  by_cases d:(k:Int)∈due;rcases F.al k d with⟨p,E⟩|⟨l,us,_,u⟩;exact absurd ⟨_,E,Be k⟩ c;exact HX G m m u λ_ _=>rfl;rcases T.us k w e with h|⟨B,l,us,_,I,u,J⟩;exact absurd h d;exact HX G I m u J
 obtain⟨a,t,o⟩:=K;have:a=q:=Bo (t.symm.trans s);subst this;exact o
theorem HW.aft(G:SOk W qs inn ord)(T:HW W qs inn ord X H kvs n as ts due)(hd:due≠[])(F:FT W qs inn ord as H H' kvs kvs' due fs)(I:∀l,H l=none->¬X l)(J:∀l vs,¬X l->H l=some (.lst vs)->H' l=some (.lst vs)):Na W qs inn ord X H' kvs' (n+1) (BO as fs) (Dd ts ((n:Int)+1) fs) fs:=by
 have v:=(T.run.aok G).1;have y:=(T.run.aok G).2;have K:=T.nxt G F
 have x:∀f∈fs,∃k:Nat,f.1=(k:Int)/\k<qs.length/\as[k]?=some none:=λf a=>by
  obtain⟨k,q,b,o,A,S⟩:=F.fd f a;obtain⟨j,U,L,M⟩:=T.du _ o;have:k=j:=(by omega);subst this;exact⟨k,b,L,M⟩
 refine⟨.succ T.run (T.la.resolve_left hd) K (Tf _ _) λk i=>?_,λk i e=>?_,F.ko,?_⟩;by_cases c:∃f∈fs,f.1.toNat=k;obtain⟨f,C,w,s⟩:=Qe (as:=as) (by rw[v.len];exact i) c;obtain⟨j,b,o,A⟩:=x f C;have:j=k:=by rw[b,Be] at w;exact w
 subst this;rw[Aj ⟨A,by rw[s];simp⟩];exact Ti (by rw[y];exact i) c;have b:=Me (as:=as) (k:=k) (fs:=fs) λf a z=>c ⟨f,a,z⟩;rw[Tg λf a z=>c ⟨f,a,z⟩,Ak λz=>z.2 (by rw[b];exact z.1)]
 have D:¬∃f∈fs,f.1.toNat=k:=λc=>by
  obtain⟨f,C,w,s⟩:=Qe (as:=as) (by rw[v.len];exact i) c;rw[e] at s;cases s
 have N:as[k]?=some none:=by rw[<-e,Me λf a z=>D ⟨f,a,z⟩]
 have same:∀u:Int,0<=u->(∀f∈fs,f.1≠u)->(BO as fs)[u.toNat]?=as[u.toNat]?:=λu V m=>Me λf a z=>by
  obtain⟨j,b,_⟩:=x f a;exact m f a (by omega)
 by_cases d:(k:Int)∈due;rcases F.al k d with⟨p,O⟩|⟨l,us,P,g⟩;exact absurd ⟨_,O,Be k⟩ D;exact⟨as,l,us,I l P,v,g,λu t m=>same u (g.2.2.2.1 u t) m⟩;rcases T.us k i N with h|⟨B,l,us,E,Q,g,R⟩;exact absurd h d;refine⟨B,l,us,E,Q,⟨by rw[F.kp k d];exact g.1,J _ _ E g.2.1,g.2.2⟩,λu t m=>?_⟩;rw[same u (g.2.2.2.1 u t) m,R u t]
 cases e:fs with
 |nil=>exact .inl rfl
 |cons f r =>
   right;have a:f∈fs:=by rw[e];exact Bv
   obtain⟨k,b,o,_⟩:=x f a;refine⟨k,?_⟩;rw[<-e,Ti (by rw[y];exact o) ⟨f,a,by rw[b,Be]⟩]
   push_cast;rfl
theorem Na.trn(A:Na W qs inn ord X H kvs n as ts fs)(g:∀k∈due,∃j:Nat,k=(j:Int)/\j<qs.length/\as[j]?=some none)(i:fs=[]->due=[])(m:∀k:Nat,k<qs.length->as[k]?=some none->(k:Int)∈due\/∃(l:Addr)(us:List Int),AL kvs (.inl (k:Int))=some (.ref l)/\H l=some (.lst (us.map V.int))/\∀u∈us,∀f∈fs,f.1≠u):HW W qs inn ord X H kvs n as ts due:=by
 refine⟨A.run,g,?_,λk b e=>?_,A.ko⟩;rcases A.fs with h|h;exact .inl (i h);exact .inr (.inr h);rcases m k b e with h|⟨l,us,o,p,q⟩;exact .inl h;right;obtain⟨B,r,d,s,t,a,v⟩:=A.us k b e;have w:l=r:=V.ref.inj (Bo (o.symm.trans a.1));subst w;have x:us.map V.int=d.map V.int:=HO.lst.inj (Bo (p.symm.trans a.2.1));refine⟨B,l,d,s,t,a,λu c=>v u c (q u ?_)⟩;have:V.int u∈us.map V.int:=by rw[x];exact Br.mpr ⟨u,c,rfl⟩
 obtain⟨C,y,z⟩:=Br.mp this;rw[<-V.int.inj z];exact y
theorem HW.end_(G:SOk W qs inn ord)(T:HW W qs inn ord X H kvs n as ts []):HQ W qs inn ord as as:=by
 have b:=(T.run.aok G).1;refine⟨rfl,λ_ _ e=>e,λk q a e=>⟨none,?_,e⟩⟩;rcases T.us k (A7.mp a).1 e with h|⟨B,l,us,_,c,d,f⟩;cases h;obtain⟨g,i,j⟩:=HX G c b d f;have:g=q:=Bo (i.symm.trans a);subst this;exact j
theorem HW.start:HW W qs inn ord X H [] 0 (List.replicate qs.length none) (List.replicate qs.length 0) ((List.range qs.length).map λi:Nat=>(i:Int)):=by
 refine⟨.zero,λk a=>?_,.inr (.inl rfl),λk a _=>.inl (Br.mpr ⟨k,List.mem_range.mpr a,rfl⟩),by simp,λx b=>by cases b⟩;obtain⟨j,c,rfl⟩:=Br.mp a;have:=List.mem_range.mp c;exact⟨j,rfl,this,by rw[List.getElem?_replicate,Aj this]⟩
theorem Na.keep{H'':Hp}(A:Na W qs inn ord X H kvs n as ts fs)(c:∀l vs,¬X l->H l=some (.lst vs)->H'' l=some (.lst vs)):Na W qs inn ord X H'' kvs n as ts fs:=
 ⟨A.run,λk d e=>by
  obtain⟨B,l,us,b,f,a,g⟩:=A.us k d e
  exact⟨B,l,us,b,f,⟨a.1,c _ _ b a.2.1,a.2.2⟩,g⟩,A.ko,A.fs⟩
end
theorem WV:∀(ps acc:List (AO×V))(k:AO),(AL (Ku acc ps) k).isSome=((AL acc k).isSome || ps.any λp=>decide (p.1=k))
 |[],acc,k=>by simp[Ku]
 |p::ps,acc,k=>by
   show(AL (Ku (AX acc p.1 p.2) ps) k).isSome=_;rw[WV ps,NT,List.any_cons];by_cases e:k=p.1;rw[Aj e];simp[e];rw[Ak e];have:decide (p.1=k)=false:=DS λz=>e z.symm;rw[this];simp
theorem Ax.set{F:Addr->Prop}{H:Hp}{v:V}{d:Dt}(h:A9 F H v d):∀{vs:List V}{b:List Dt}(j:Nat),Ax F H vs b->Ax F H (vs.set j v) (b.set j d)
 |_,_,_,.nil=>.nil
 |_,_,0,.cons _ t=>.cons h t
 |_,_,j+1,.cons a t=>.cons a (Ax.set h j t)
theorem HY{H:Hp}:∀{b:List V}{fs:CV},Ax KJ H b (fs.map fD)->∃ps,L8 H b ps/\ps.map (·.1)=fs.map λf=>(.inl f.1:AO)
 |_,[],.nil=>⟨[],.nil,rfl⟩
 | _,f :: fs,.cons a t=>by
   obtain⟨ps,c,d⟩:=HY (fs:=fs) t;have g:A9 KJ H _ (.tup [.int f.1,C9 (some f.2)]):=a
   cases g with
   | tup e u =>
     cases u with
     |cons x u =>
       cases u with
       |cons y u =>
         cases u with
         |nil =>
           rw[M7 x] at e;exact⟨(.inl f.1,_)::ps,.cons ⟨_,rfl,e⟩ c,by rw[D7,d];rfl⟩
theorem WW{ps:List (AO×V)}{fs:CV}(h:ps.map (·.1)=fs.map λf=>(.inl f.1:AO))(u:Int):(AL (Ku [] ps) (.inl u)).isSome=fs.any λf=>decide (f.1=u):=by
 rw[WV];show(false || _)=_;rw[Bool.false_or];have e:(ps.any λp=>decide (p.1=(.inl u:AO)))=(ps.map (·.1)).any λk=>decide (k=(.inl u:AO)):=by rw[List.any_map];rfl
 rw[e,h,List.any_map];congr 1;funext f;show decide ((Sum.inl f.1:AO)=Sum.inl u)=decide (f.1=u);by_cases c:f.1=u;rw[A4 c,A4 (by rw[c])];rw[DS c,DS λz=>c (Sum.inl.inj z)]
theorem WX(n:Nat)(x:α):(List.replicate n [x]).flatten=List.replicate n x:=by
 induction n with
 |zero=>rfl
 |succ n a=>rw[List.replicate_succ,List.flatten_cons,a];rfl
theorem Mf{m:Nat}(h:i<m):Pf (.int (i:Int)) ((List.range m).map λj:Nat=>V.int j)=true:=by
 unfold Pf;exact Go.mpr ⟨.int i,Br.mpr ⟨i,List.mem_range.mpr h,rfl⟩,by simp[Jc]⟩
theorem dL(m:Nat):(((List.range m).map λj:Nat=>V.int j).all Jb)=true:=by
 rw[List.all_map];exact List.all_eq_true.mpr λ_ _=>rfl
theorem Eg.get{A:Addr}{as:List AI}(h:Eg H A as){k:Nat}(f:k<as.length):∃vs v,H A=some (.lst vs)/\Bz vs (k:Int)=some v/\((as[k]?=some none/\v=.non)\/∃p t,as[k]?=some (some p)/\v=.ref t/\H t=some (.tup [.str p.1,.int p.2])):=by
 obtain⟨vs,e,h⟩:=h;have b:k<vs.length:=by rw[h.length,Al];exact f
 obtain⟨a,c,d⟩:=M8 h (AD b);refine⟨vs,_,e,Cf (AD b),?_⟩
 cases a with
 |none=>exact .inl ⟨c,d.ansN⟩
 |some p =>
   obtain⟨t,g,i⟩:=d.ansS;exact .inr ⟨p,t,c,g,i⟩
inductive GN (W:Wd) (qs:List Qu) (inn:Int) (ord:List (Str×Str)):List AI->Prop where
 |nil:GN W qs inn ord (List.replicate qs.length none)
 |put {ks:List AI} {k:Nat} {q:Qu} {p:Str×Int} (h:GN W qs inn ord ks) (hq:qs[k]?=some q) (e:ks[k]?=some none) (f:Fd W inn ord q ks (some p)):GN W qs inn ord (ks.set k (some p))
section
variable {W:Wd} {qs:List Qu} {inn:Int} {ord:List (Str×Str)} {n:Nat} {as K ks:List AI} {ts:List Int}
theorem GN.aok(G:SOk W qs inn ord)(h:GN W qs inn ord ks):G1 W qs ks:=by
 induction h with
 |nil=>exact⟨List.length_replicate,λp d _=>by cases List.eq_of_mem_replicate d⟩
 |@put ks k q p h g e f b =>
   refine⟨by rw[Fz];exact b.len,λx a c=>?_⟩;rcases List.mem_or_eq_of_mem_set a with a|a;exact b.rng x a c;obtain⟨w,ls,m,i⟩:=f;have L:=G.all ks b;obtain⟨j,l,_⟩:=L.q _ (Bd g);have:=Bo a;subst this;exact HS L.ok L.sm L.inn i j l x rfl c
theorem GN.le(G:SOk W qs inn ord)(l:K.length=qs.length)(m:∀(k:Nat)(q:Qu),qs[k]?=some q->∃a,Fd W inn ord q K a/\K[k]?=some a)(h:GN W qs inn ord ks):Later ks K:=by
 induction h with
 |nil=>exact⟨by rw[l,List.length_replicate],λk p e=>by rw[List.getElem?_replicate] at e;split at e<;>cases e⟩
 |@put ks k q p h i e f g =>
   refine⟨by rw[g.len,Fz],λj x d=>?_⟩;by_cases c:k=j;subst c;have n:k<ks.length:=(A7.mp e).1;rw[List.getElem?_set_self n] at d;obtain rfl:=Bo (Bo d);obtain⟨b,o,r⟩:=m k q i;rw[r,Ta G (h.aok G) g i f o];rw[List.getElem?_set_ne c] at d;exact g.old j x d
theorem Later.tr{a b c:List AI}(h:Later a b)(k:Later b c):Later a c:=⟨k.len.trans h.len,λn p e=>k.old n p (h.old n p e)⟩
theorem Later.eq{a b:List AI}(h:Later a b)(k:Later b a):a=b:=by
 refine List.ext_getElem? λj=>?_
 cases e:a[j]? with
 |none =>
   have:=List.getElem?_eq_none_iff.mp e;rw[Gk (by rw[h.len];exact this)]
 |some o =>
   have f:j<b.length:=by rw[h.len];exact(A7.mp e).1
   cases o with
   |some p=>rw[h.old j p e]
   |none =>
     cases c:b[j]? with
     |none=>rw[List.getElem?_eq_none_iff] at c;omega
     |some d =>
       cases d with
       |none=>rfl
       |some p=>rw[k.old j p c] at e;cases e
theorem Run.stuck(G:SOk W qs inn ord)(i:Later ks K)(st:∀(k:Nat)(q:Qu),qs[k]?=some q->ks[k]?=some none->Fd W inn ord q ks none)(h:Run W qs inn ord n as ts):Later as K->Later as ks:=by
 induction h with
 |zero =>
   intro b;refine⟨by rw[<-i.len,b.len],λk p e=>?_⟩;rw[List.getElem?_replicate] at e;split at e<;>cases e
 | @succ n as as' ts y h e x l t s =>
   intro b;have c:=(h.aok G).1;have j:=s (x.late.tr b);refine⟨by rw[<-i.len,b.len],λk p e=>?_⟩;have d:k<qs.length:=by rw[<-c.len,<-x.len];exact(A7.mp e).1
   have z:k<ks.length:=by rw[j.len,c.len];exact d
   cases f:as[k]? with
   |none=>rw[List.getElem?_eq_none_iff,c.len] at f;omega
   |some o =>
     cases o with
     |some u =>
       have:=x.old k u f;rw[e] at this;cases this;exact j.old k p f
     |none =>
       obtain⟨a,v,r⟩:=x.new k _ (AD d) f;rw[e] at r;cases r
       cases m:ks[k]? with
       |none=>rw[List.getElem?_eq_none_iff] at m;omega
       |some w =>
         cases w with
         |none =>
           have g:=Ta G c j (AD d) v (st k _ (AD d) m);cases g
         |some J =>
           have g:=i.old k J m;rw[b.old k p e] at g;exact g.symm
theorem GN.end_(G:SOk W qs inn ord)(r:Run W qs inn ord n K ts)(nx:HQ W qs inn ord K K)(f:∀(k:Nat)(q:Qu),qs[k]?=some q->∃a,Fd W inn ord q K a)(h:GN W qs inn ord ks)(st:∀(k:Nat)(q:Qu),qs[k]?=some q->ks[k]?=some none->Fd W inn ord q ks none):ks=K:=by
 have b:=h.le G (r.aok G).1.len λk q c=>by
  obtain⟨a,d⟩:=f k q c;exact⟨a,d,r.still G nx c d⟩
 exact b.eq (r.stuck G b st ⟨rfl,λ_ _ e=>e⟩)
theorem dM{s j m:Int}(c:0<m)(d:0<=j)(e:j<m):∃k:Nat,(k:Int)<m/\(s+(0+(k:Int)))%m=j:=by
 have a:=EE (j-s) (show m≠0 by omega);have b:=ED (j-s) c;refine⟨((j-s)%m).toNat,by omega,?_⟩;rw[show(((j-s)%m).toNat:Int)=(j-s)%m by omega,Int.zero_add,Int.add_emod,Int.emod_emod,<-Int.add_emod,show s+(j-s)=j by omega];exact Int.emod_eq_of_lt d e
theorem JX{l:List AI}(h:nn l=0)(k:Nat):l[k]?≠some none:=λe=>by
 have:=List.countP_eq_zero.mp h none (Bd e);exact this rfl
end
end L2
theorem L2.new_at{H:L2.Hp}{a:PySem.Addr}{o:L2.HO}(h:H a=none):∃H':L2.Hp,H'=L2.upd H a o/\L2.Ac H H'/\H' a=some o:=⟨_,rfl,L2.Bc h,L2.Aa⟩
variable {α:Type}{i:Nat}
theorem L2.getm{β:Type}{f:α->β}{l:List α}{x:β}(h:(l.map f)[i]?=some x):∃z,l[i]?=some z/\f z=x:=by
 rw[Bh] at h;exact Gp.mp h
namespace K43
open PySem PySem.Spec PyProof.Rows L2 Ord
local macro_rules | `(tactic| trivial) => `(tactic| exact ⟨rfl, rfl, rfl, by decide +kernel, rfl, by decide +kernel, by decide +kernel⟩)
local macro_rules | `(tactic| trivial) => `(tactic| exact ⟨rfl, by decide +kernel, by decide +kernel, by decide +kernel, rfl, by decide +kernel, by decide +kernel⟩)
theorem IH:Af ["_law_cell", "_law_many", "_law_letters", "_law_long", "_law_at", "_law_some", "_law_k", "_law_name", "_law_j", "_law_sign"] ["_law_cell", "_law_many"] (A3 QN):=by trivial
theorem dN:Af ["_law_script", "_law_k"] ["_law_script", "_law_k"] (A3 QO):=by trivial
theorem Qf:Af ["_law_number", "_law_many", "_law_some", "_law_k"] ["_law_number", "_law_many"] (A3 QP):=by trivial
theorem Mg:Af ["_law_cell", "_law_labels", "_law_one", "_law_other", "_law_some", "_law_j", "_law_k"] ["_law_cell", "_law_labels"] (A3 QQ):=by trivial
theorem Mh:Af ["_law_cells", "_law_labels", "_law_states", "_law_cell", "_law_ranks_here", "_law_goes", "_law_ends", "_law_k"] ["_law_cells", "_law_labels"] (A3 QR):=by trivial
theorem To:Af ["_law_cell", "_law_many", "_law_states", "_law_names_here", "_law_mixed", "_law_path"] ["_law_cell", "_law_many", "_law_states", "_law_names_here"] (A3 QS):=by trivial
theorem WY:Af ["_law_cell", "_law_many", "_law_asked", "_law_number"] ["_law_cell", "_law_many", "_law_asked"] (A3 QU):=by trivial
theorem Tp:Af ["_law_cell", "_law_labels", "_law_many", "_law_asked", "_law_label", "_law_number"] ["_law_cell", "_law_labels", "_law_many", "_law_asked"] (A3 QV):=by trivial
theorem Qg:Af ["_law_cell", "_law_labels", "_law_names_here", "_law_things", "_law_asked", "_law_label", "_law_number", "_law_name"] ["_law_cell", "_law_labels", "_law_names_here", "_law_things", "_law_asked"] (A3 QW):=by trivial
theorem Nb:Af ["_law_cells", "_law_labels", "_law_names_here", "_law_many", "_law_sizes", "_law_scopes_here", "_law_most", "_law_cell", "_law_at", "_law_number"] ["_law_cells", "_law_labels", "_law_names_here", "_law_many", "_law_sizes"] (A3 O1):=by trivial
theorem Cm:At (A3 O1) ["_law_cells", "_law_labels", "_law_names_here", "_law_many", "_law_sizes", "_law_scopes_here", "_law_most", "_law_cell", "_law_at", "_law_number"] {kind:=.function,names:=[(".0",.local),("_law_k",.local)],isGenerator:=false,isCoroutine:=false,more:=[]:PySem.Scope} ["_law_k"] 1 []:=by trivial
theorem G2:Af ["_law_script", "_law_names_here", "_law_labels", "_law_table_here", "_law_head", "_law_many", "_law_cells", "_law_things", "_law_questions", "_law_asked", "_law_cell", "_law_scopes_here"] ["_law_script"] (A3 Nl):=by trivial
theorem CY:At (A3 Nl) ["_law_script", "_law_names_here", "_law_labels", "_law_table_here", "_law_head", "_law_many", "_law_cells", "_law_things", "_law_questions", "_law_asked", "_law_cell", "_law_scopes_here"] {kind:=.function,names:=[ (".0",.local),("_law_k",.local),("_law_cell_at",.globalImplicit),("_law_script",.free)],isGenerator:=false,isCoroutine:=false,more:=[]:PySem.Scope} ["_law_k", "_law_script"] 1 [0]:=by trivial
theorem CZ:At (A3 Nl) ["_law_script", "_law_names_here", "_law_labels", "_law_table_here", "_law_head", "_law_many", "_law_cells", "_law_things", "_law_questions", "_law_asked", "_law_cell", "_law_scopes_here"] {kind:=.function,names:=[(".0",.local),("_law_cell",.local)],isGenerator:=false,isCoroutine:=false,more:=[]:PySem.Scope} ["_law_cell"] 1 []:=by trivial
theorem Qh:Af ["table", "state", "label", "goes", "known", "number"] ["table", "state", "label"] (A3 QX):=by trivial
theorem Qi:Af ["net", "answers", "question", "answer", "kind", "number"] ["net", "answers", "question"] (A3 QY):=by trivial
theorem Tq:Af ["net", "answers", "thing", "kind", "number"] ["net", "answers", "thing"] (A3 QZ):=by trivial
theorem OB:Af ["net", "answers", "step", "label", "kind", "number", "answer"] ["net", "answers", "step"] (A3 Q0):=by trivial
theorem Mi:Af ["net", "answers", "table", "scope", "state", "gone", "index", "step", "after", "kind", "number"] ["net", "answers", "table", "scope", "state"] (A3 Q1):=by trivial
theorem II:Af ["net", "answers", "table", "beginning", "marks", "last", "then", "come_to", "longer", "mark", "kind", "number", "after"] ["net", "answers", "table", "beginning"] (A3 O3):=by trivial
theorem BA:At (A3 O3) ["net", "answers", "table", "beginning", "marks", "last", "then", "come_to", "longer", "mark", "kind", "number", "after"] {kind:=.function,names:=[(".0",.local),("mark",.local)],isGenerator:=false,isCoroutine:=false,more:=[]:PySem.Scope} ["mark"] 1 []:=by trivial
theorem Qj:Af ["net", "answers", "table", "scope", "state", "found", "place"] ["net", "answers", "table", "scope", "state"] (A3 Q2):=by trivial
theorem WZ:Af ["table", "state", "label", "ends"] ["table", "state", "label"] (A3 Q3):=by trivial
theorem Mj:Af ["net", "table", "begun", "name", "ways", "marks", "last", "then", "index", "telling"] ["net", "table", "begun", "name"] (A3 Q4):=by trivial
theorem dO:Af ["table"] ["table"] (A3 O4):=by trivial
theorem B8:At (A3 O4) ["table"] {kind:=.function,names:=[(".0",.local),("pair",.local)],isGenerator:=false,isCoroutine:=false,more:=[]:PySem.Scope} ["pair"] 1 []:=by trivial
theorem Mk:Af ["ways", "tree", "number", "way", "branch", "mark"] ["ways"] (A3 Q5):=by trivial
theorem Nc:Af ["net", "mark", "scope", "kind", "index", "steps", "tellings"] ["net", "mark"] (A3 Q6):=by trivial
theorem Ml:Af ["net", "better", "tree", "way", "numbers", "branch", "mark", "label", "beside"] ["net", "better", "tree", "way"] (A3 Q7):=by trivial
theorem Tr:Af ["net", "table", "ways", "better", "tree"] ["net", "table", "ways"] (A3 O5):=by trivial
theorem C0:At (A3 O5) ["net", "table", "ways", "better", "tree"] {kind:=.function,names:=[ (".0",.local),("way",.local),("first_hider",.globalImplicit),("list",.globalImplicit),("better",.free),("net",.free),("tree",.free)],isGenerator:=false,isCoroutine:=false,more:=[]:PySem.Scope} ["way", "net", "better", "tree"] 1 [0,3,4]:=by trivial
theorem W0:Af ["net", "table", "begun", "name", "found"] ["net", "table", "begun", "name"] (A3 Q8):=by trivial
theorem OC:Af ["net", "table", "found", "owed", "better", "tree", "way", "question"] ["net", "table", "found", "owed"] (A3 Q9):=by trivial
theorem OD:Af ["net", "mark", "scope", "kind", "index", "tellings"] ["net", "mark"] (A3 Ra):=by trivial
theorem Nd:Af ["net", "answers", "seen", "way", "label", "name", "kind", "number"] ["net", "answers", "seen"] (A3 Rb):=by trivial
theorem Mm:Af ["net", "answers", "way", "label", "name", "kind", "number"] ["net", "answers", "way"] (A3 Rc):=by trivial
theorem JY:Af ["net", "answers", "table", "owed", "look", "at", "begun", "found", "seen", "waiting", "way", "question", "meanings"] ["net", "answers", "table", "owed", "look", "at"] (A3 MM):=by trivial
theorem Gy:At (A3 MM) ["net", "answers", "table", "owed", "look", "at", "begun", "found", "seen", "waiting", "way", "question", "meanings"] {kind:=.function,names:=[ (".0",.local),("way",.local),("meaning",.globalImplicit),("answers",.free),("net",.free)],isGenerator:=false,isCoroutine:=false,more:=[]:PySem.Scope} ["way", "net", "answers"] 1 [0,1]:=by trivial
theorem Gz:At (A3 MM) ["net", "answers", "table", "owed", "look", "at", "begun", "found", "seen", "waiting", "way", "question", "meanings"] {kind:=.function,names:=[(".0",.local),("thing",.local)],isGenerator:=false,isCoroutine:=false,more:=[]:PySem.Scope} ["thing"] 1 []:=by trivial
theorem GA:At (A3 MM) ["net", "answers", "table", "owed", "look", "at", "begun", "found", "seen", "waiting", "way", "question", "meanings"] {kind:=.function,names:=[ (".0",.local),("thing",.local),("meanings",.free)],isGenerator:=false,isCoroutine:=false,more:=[]:PySem.Scope} ["thing", "meanings"] 1 [12]:=by trivial
theorem JZ:Af ["net", "answers", "table", "begun", "ways", "marks", "last", "then", "mark", "kind", "number", "after"] ["net", "answers", "table", "begun"] (A3 Re):=by trivial
theorem Gg:Af ["net", "answers", "table", "asked", "scope", "state", "path", "looks", "things", "at", "name", "begun", "answer", "wait", "kind", "number"] ["net", "answers", "table", "asked"] (A3 Rf):=by trivial
theorem OE:Af ["net", "answers", "table", "question", "answer", "wait", "looks", "things"] ["net", "answers", "table", "question"] (A3 Rg):=by trivial
theorem Qk:Af ["_law_net", "_law_table_here", "_law_answers", "_law_start", "_law_k", "_law_question_here", "_law_answer"] ["_law_net", "_law_table_here", "_law_answers", "_law_start"] (A3 Rh):=by trivial
theorem Ts:Af ["net", "thing", "kind", "number"] ["net", "thing"] (A3 Ri):=by trivial
theorem dP:Af ["net", "answer"] ["net", "answer"] (A3 Rj):=by trivial
theorem KL:Af ["net", "answers", "table", "begun", "questions", "marks", "last", "then", "label", "kind", "number"] ["net", "answers", "table", "begun"] (A3 Rk):=by trivial
theorem Mn:Af ["net", "found", "questions", "way", "label", "name", "kind", "number"] ["net", "found"] (A3 Rl):=by trivial
theorem Nf:Af ["net", "answers", "table", "looks", "things", "questions", "begun", "found", "seen", "thing"] ["net", "answers", "table", "looks", "things"] (A3 Rm):=by trivial
theorem Mo:Af ["net", "answers", "table", "due", "uses", "found", "question", "answer", "wait", "looks", "things"] ["net", "answers", "table", "due", "uses"] (A3 Rn):=by trivial
theorem dQ:Af ["questions", "new"] ["questions", "new"] (A3 O6):=by trivial
theorem Dp:At (A3 O6) ["questions", "new"] {kind:=.function,names:=[ (".0",.local),("question",.local),("new",.free)],isGenerator:=false,isCoroutine:=false,more:=[]:PySem.Scope} ["question", "new"] 1 [1]:=by trivial
theorem W1:Af ["net", "answers", "table", "answered", "question"] ["net", "answers", "table", "answered"] (A3 Ro):=by trivial
theorem G3:Af ["net", "table", "known", "those", "answers", "turns", "uses", "due", "turn", "found", "question", "answer", "new"] ["net", "table", "known", "those"] (A3 MN):=by trivial
theorem CI:At (A3 MN) ["net", "table", "known", "those", "answers", "turns", "uses", "due", "turn", "found", "question", "answer", "new"] {kind:=.function,names:=[ (".0",.local),("question",.local),("answer",.local),("those",.free)],isGenerator:=false,isCoroutine:=false,more:=[]:PySem.Scope} ["question", "answer", "those"] 2 [3]:=by trivial
theorem DX:At (A3 MN) ["net", "table", "known", "those", "answers", "turns", "uses", "due", "turn", "found", "question", "answer", "new"] {kind:=.function,names:=[ (".0",.local),("question",.local),("uses_one",.globalImplicit),("answers",.free),("new",.free),("uses",.free)],isGenerator:=false,isCoroutine:=false,more:=[]:PySem.Scope} ["question", "new", "answers", "uses"] 1 [12,4,6]:=by trivial
theorem DY:At (A3 MN) ["net", "table", "known", "those", "answers", "turns", "uses", "due", "turn", "found", "question", "answer", "new"] {kind:=.function,names:=[ (".0",.local),("question",.local),("answers",.free)],isGenerator:=false,isCoroutine:=false,more:=[]:PySem.Scope} ["question", "answers"] 1 [4]:=by trivial
theorem W2:Af ["net", "table", "many"] ["net", "table"] (A3 Rp):=by trivial
theorem Tt:Af ["_law_found", "_law_due", "_law_one", "_law_other"] ["_law_found", "_law_due"] (A3 Nm):=by trivial
theorem HZ:Af ["_law_script", "_law_net", "_law_table_here", "_law_many", "_law_answers", "_law_cell", "_law_question_here", "_law_start", "_law_k", "_law_told"] ["_law_script"] (A3 IM):=by trivial
theorem GB:At (A3 IM) ["_law_script", "_law_net", "_law_table_here", "_law_many", "_law_answers", "_law_cell", "_law_question_here", "_law_start", "_law_k", "_law_told"] {kind:=.function,names:=[(".0",.local),("_law_k",.local)],isGenerator:=false,isCoroutine:=false,more:=[]:PySem.Scope} ["_law_k"] 1 []:=by trivial
structure BG (mg:Str->Option Value):Prop where
 b_all:mg "all" = none
 b_any:mg "any" = none
 b_bool:mg "bool" = none
 b_dict:mg "dict" = none
 b_enumerate:mg "enumerate" = none
 b_int:mg "int" = none
 b_isinstance:mg "isinstance" = none
 b_len:mg "len" = none
 b_list:mg "list" = none
 b_min:mg "min" = none
 b_range:mg "range" = none
 b_set:mg "set" = none
 b_sorted:mg "sorted" = none
 b_str:mg "str" = none
 b_tuple:mg "tuple" = none
 b_zip:mg "zip" = none
 c_MOST_BEGINNINGS:∃t,mg "MOST_BEGINNINGS" = some (.int 200 t)
variable {us:List Value}
theorem H1(h:us.length=1):∃a,us=[a]:=by
 cases us with
 |nil=>cases h
 |cons a t=>exact⟨a,by rw[List.length_eq_zero_iff.mp (Nat.succ.inj h)]⟩
theorem Ia(h:us.length=2):∃a b,us=[a,b]:=by
 cases us with
 |nil=>cases h
 |cons a t =>
   obtain⟨b,rfl⟩:=H1 (Nat.succ.inj h);exact⟨a,b,rfl⟩
theorem KN(h:us.length=3):∃a b c,us=[a,b,c]:=by
 cases us with
 |nil=>cases h
 |cons a t =>
   obtain⟨b,c,rfl⟩:=Ia (Nat.succ.inj h);exact⟨a,b,c,rfl⟩
theorem KO(h:us.length=4):∃a b c d,us=[a,b,c,d]:=by
 cases us with
 |nil=>cases h
 |cons a t =>
   obtain⟨b,c,d,rfl⟩:=KN (Nat.succ.inj h);exact⟨a,b,c,d,rfl⟩
theorem KP(h:us.length=5):∃a b c d e,us=[a,b,c,d,e]:=by
 cases us with
 |nil=>cases h
 |cons a t =>
   obtain⟨b,c,d,e,rfl⟩:=KO (Nat.succ.inj h);exact⟨a,b,c,d,e,rfl⟩
theorem KQ(h:us.length=6):∃a b c d e f,us=[a,b,c,d,e,f]:=by
 cases us with
 |nil=>cases h
 |cons a t =>
   obtain⟨b,c,d,e,f,rfl⟩:=KP (Nat.succ.inj h);exact⟨a,b,c,d,e,f,rfl⟩
open PySem PySem.Spec PyProof.Rows L2 in
theorem B1{P:Program}{w:World}{K:Ah}{g:Str->Option Value}{l:Heap}{x e:Str}{st:Stmt}{f:Addr}{i:FuncData}{N ps:List Str}{k:Nat}{sp:Sp}(F:Bp K x e st f i)(m:g x=some (.ref f))(S:Af N ps (A3 st))(len:∀vs H Q E,sp vs H Q E->vs.length=ps.length)
  (u:∀(d:Value)(A:Around)(v:List Env)(s:Shared)(H:Hp)(vs:List V)(Q:VK)(E:XK),BX k (A.deeper (envOfC e (A3 st) s.heap.objs.size f d))->sp vs H Q E -> ∃t,Ga (AG Iy P w K g l N e (A3 st) f d A v s H E).nox (Ip st) t/\t {nx:=λ_ H'=>Q .non H',rt:=Q} (start N vs) H)
  (n:∀(kV r o:Value)(p:Option Addr)(d ct:Value)(us:List Value),us.length=ps.length->bindArgs (PySem.W.fnOf x e (Kj st) (Ip st) (A3 st) .none kV r o p d ct) ⟨us,[]⟩=pure (ps.zip us):=by intro _ _ _ _ _ _ us a;first|(obtain⟨b,rfl⟩:=H1 a;rfl)|(obtain⟨b,c,rfl⟩:=Ia a;rfl)|(obtain⟨b,c,h,rfl⟩:=KN a;rfl)|(obtain⟨b,c,h,j,rfl⟩:=KO a;rfl)|(obtain⟨b,c,h,j,q,rfl⟩:=KP a;rfl)|(obtain⟨b,c,h,j,q,y,rfl⟩:=KQ a;rfl)):BF P w K g l x (k+1) ps sp:=⟨f,i,F.ok S len u,m,F.kp,F.binds n⟩
theorem OF(h:us.length=7):∃a b c d e f g,us=[a,b,c,d,e,f,g]:=by
 cases us with
 |nil=>cases h
 |cons a t =>
   obtain⟨b,c,d,e,f,g,rfl⟩:=KQ (Nat.succ.inj h);exact⟨a,b,c,d,e,f,g,rfl⟩
theorem W3(h:us.length=8):∃a b c d e f g i,us=[a,b,c,d,e,f,g,i]:=by
 cases us with
 |nil=>cases h
 |cons a t =>
   obtain⟨b,c,d,e,f,g,i,rfl⟩:=OF (Nat.succ.inj h);exact⟨a,b,c,d,e,f,g,i,rfl⟩
section
set_option maxHeartbeats 4000000
seal L2.PE L2.PA L2.PS L2.Ga L2.PT L2.PW L2.PC L2.PG L2.NA L2.PI L2.PF L2.IU L2.DM L2.O9 L2.A5 L2.NL L2.Ix L2.RL L2.PO
variable {P:Program} {w:World} {K:Ah} {mg:Str->Option Value} {base:Heap} {f:Addr} {fd:FuncData}
theorem W4:(("abcdefghijklmnopqrstuvwxyz" : Str)).cps.toList.length=26:=by decide +kernel
theorem Ql(w:Str)(c:Nat):(w++(⟨#[c]⟩:Str)).length=w.length+1:=by
 show(w.cps++#[c]).size=w.cps.size+1
 simp
theorem Mp:∀n,n<26->(("abcdefghijklmnopqrstuvwxyz" : Str)).cps.toList[n]?=some (97+n):=by decide +kernel
theorem W5(n:Int):Bz (("abcdefghijklmnopqrstuvwxyz" : Str)).cps.toList (n%26)=some (97+(n%26).toNat):=by
 have a:=EE n (by decide:(26:Int)≠0);have c:=ED n (by decide:(0:Int)<26);obtain⟨k,b⟩:=Df a;rw[b,Be];exact Cf (Mp k (by omega))
theorem dR(w:Str)(c:Nat):(w++(⟨#[c]⟩:Str)).cps.toList=w.cps.toList++[c]:=by
 show(w.cps++#[c]).toList=_
 simp
abbrev GO (n:Int):Str:=⟨#[97+(n%26).toNat]⟩
def Mq (c:Int) (k j:Nat):Int:=c/(64+3*(j:Int))+(j:Int)*(c/64%2)+(k:Int)*(if(j:Int)=c/8%(1+c%8) then 1 else 0)
def EJ (c:Int) (k:Nat):Nat->Str
 |0 => ""
 |j+1=>EJ c k j++GO (Mq c k j)
def F6 (c:Int) (m:Nat):List Str:=(List.range m).map λk=>EJ c k (1+c%8).toNat
def GP (c:Int) (m:Nat):List Str:=if c/128%3=1/\1+c%8<8 then(F6 c m).set 1 (EJ c 0 (1+c%8).toNat++GO (c/384)) else F6 c m
theorem J1(c:Int)(k:Nat):∀j,(EJ c k j).length=j
 |0=>show("" : Str).length=0 by decide +kernel
 |j+1=>by
   show(EJ c k j++GO (Mq c k j)).length=j+1;rw[Ql,J1 c k j]
theorem Tu(c:Int)(k:Nat){a:Nat}:∀{j:Nat},a<j->(EJ c k j).cps.toList[a]?=some (97+(Mq c k a%26).toNat)
 |0,h=>absurd h (Nat.not_lt_zero _)
 |j+1,h=>by
   show(EJ c k j++GO (Mq c k j)).cps.toList[a]?=_;rw[dR];have b:(EJ c k j).cps.toList.length=j:=by rw[Array.length_toList];exact J1 c k j
   by_cases d:a<j;rw[EU (by rw[b];exact d)];exact Tu c k d;have e:a=j:=(by omega);subst e;rw[Fc (by rw[b];exact AB _),b,Nat.sub_self];rfl
theorem OG(c:Int)(m:Nat):(F6 c m).length=m:=by unfold F6;rw[Al,List.length_range]
theorem Ng(c:Int)(m:Nat):(GP c m).length=m:=by
 unfold GP;split;rw[Fz,OG];exact OG c m
variable {c:Int}
theorem Mr{j:Nat}(l:i<26)(m:j<26)(h:EJ c i (1+c%8).toNat=EJ c j (1+c%8).toNat):i=j:=by
 have g:=EE (c/8) (show(1+c%8)≠0 by omega);have n:=ED (c/8) (show 0<1+c%8 by omega);obtain⟨a,k⟩:=Df g;have f:a<(1+c%8).toNat:=(by omega);have e:=Tu c i f;rw[h,Tu c j f] at e;have d:=Bo e;unfold Mq at d;rw[Aj k.symm] at d;generalize c/(64+3*(a:Int))+(a:Int)*(c/64%2)=b at d;omega
variable {m:Nat}
theorem Ib(d:m<=26):(F6 c m).Nodup:=by
 unfold F6;refine List.pairwise_iff_getElem.mpr λi j a b f e=>?_;rw[Al,List.length_range] at a b;rw[List.getElem_map,List.getElem_map,List.getElem_range,List.getElem_range] at e;have:=Mr (by omega) (by omega) e;omega
theorem dS:∀y∈F6 c m,y.length=(1+c%8).toNat:=λy a=>by
 obtain⟨k,_,rfl⟩:=Br.mp a;exact J1 _ _ _
theorem W6(a:m<=26):(GP c m).Nodup:=by
 unfold GP;split;refine List.pairwise_iff_getElem.mpr λi j f g h e=>?_;rw[Fz,OG] at f g;have d:∀(k:Nat)(b:k<(F6 c m).length),(F6 c m)[k].length=(1+c%8).toNat:=λk b=>dS _ (EC b);rw[List.getElem_set,List.getElem_set] at e;split at e;rw[Ak (by omega)] at e;have:=BC Str.length e;rw[Ql,J1,d] at this;omega;split at e;have:=BC Str.length e;rw[Ql,J1,d] at this;omega;exact absurd e ((List.pairwise_iff_getElem.mp (Ib (c:=c) a)) i j _ _ h);exact Ib a
theorem dU{k:Nat}:(EJ c k (1+c%8).toNat).length<=8:=by rw[J1];omega
theorem KR:∀x∈GP c m,x.length<=8:=by
 intro x a;unfold GP at a
 have b:∀y∈F6 c m,y.length<=8:=λy d=>by
  obtain⟨k,_,rfl⟩:=Br.mp d;exact dU
 split at a;rename_i e;rcases List.mem_or_eq_of_mem_set a with h|rfl;exact b x h;rw[Ql,J1];omega;exact b x a
inductive Dq (K:Ah) (vs:List V) (H:Hp) (Q:VK):Prop where
 |mk (c:Int) (m:Nat) (h0:vs=[.int c,.int m]) (h1:2<=m) (h2:m<=26) (h3:∀(L:Addr)(H':Hp),H L=none->Ac H H'->H' L=some (.lst ((GP c m).map V.str))->Q (.ref L) H'):Dq K vs H Q
def dV (K:Ah):Sp:=λvs H Q _=>Dq K vs H Q
variable (P w K mg base) in
abbrev Tv:Prop:=BF P w K mg base "_law_names" 1 ["_law_cell", "_law_many"] (dV K)
theorem dX(B:BG mg)(F:Bp K "_law_names" "_law_names" QN f fd)(N:mg "_law_names" = some (.ref f)):Tv P w K mg base:=by
 refine B1 F N IH (λO H Q E h=>?_) (λae A ag s H O Q E hr h=>?_);obtain⟨c,m,rfl,_⟩:=h;rfl
 . obtain⟨c,m,rfl,m0,m9,q⟩:=h
   refine⟨_,(Ao (AS (i:=2) IH.nd B2)
    (Ao (AS (i:=3) IH.nd (AA Gr Ai (AA Bj (pv 0) Ai)))
    (Ao (AS (i:=4) IH.nd (AA Bj (AA Fi (pv 0) Ai) (pv 3)))
    (Ao (AS (i:=5) IH.nd (CA Ae))
    (Ao (Cw Cr rfl (Iu rfl B.b_range (Ab (pv 1) Ae)) (Ay (i:=6) IH.nd) (Ao (AS (i:=7) IH.nd B2)
     (Ao (Cw Cr rfl (Iu rfl B.b_range (Ab (pv 3) Ae)) (Ay (i:=8) IH.nd) (Ao (AS (i:=9) IH.nd (AA Gr (AA Fi (pv 0) (AA Gr Ai (AA Eo Ai (pv 8)))) (AA Eo (pv 8) (AA Bj (AA Fi (pv 0) Ai) Ai))))
      (Av (AS (i:=7) IH.nd (AA UD (pv 7) (AE AF (pv 2) (AA Bj (AA Gr (pv 9) (AA Eo (pv 6) (Iw UE B.b_int (Ab (Kq Cz (pv 8) (pv 4) (By _)) Ae)))) Ai)))))))
     (Av (Di (DG DK EF EG EI (pv 5) (Ab (pv 7) Ae)))))))
    (Ao (Bk (PW.pt (GI (BI Cz (AA Bj (AA Fi (pv 0) Ai) Ai) Ai (By _)) (GH (BI GJ (pv 3) Ai (By _))))) (Av (DL (AA UD (AE AF (pv 5) Ai) (AE AF (pv 2) (AA Bj (AA Fi (pv 0) Ai) Ai))) (MQ (pv 5) Ai NR))) Bm)
    (Av (AZ (pv 5))))))))),?_⟩
   (try dsimp only[AG,Cx.nox,Cx.wish]);refine R8 ?_;(try dsimp only);refine⟨(by show(0:Int)<8;decide),?_⟩;(try dsimp only);have z0:1<=1+c%8/\1+c%8<=8:=(by omega);refine⟨⟨by decide,by decide⟩,(by show 0<1+c%8;omega),?_⟩;(try dsimp only);refine⟨by decide,λL t=>?_⟩;obtain⟨aa,U,R,W⟩:=new_at (o:=.lst []) t;rw[<-U];refine⟨by omega,by omega,Kp (lo:=0) (n:=m) (λi σ g=>∃u v a d,σ=[some (.int c),some (.int m),some (.str "abcdefghijklmnopqrstuvwxyz"),some (.int (1+c%8)),some (.int (c/8%(1+c%8))),some (.ref L),u,v,a,d]/\Ac H g/\g L=some (.lst ((F6 c i).map V.str))) ⟨none,none,none,none,rfl,R,W⟩ ?_ ?_⟩;rotate_left
   . refine λσ M G=>AM λS r=>?_
     obtain⟨u,v,a,d,rfl,p,l⟩:=G;refine r ?_;clear r;(try dsimp only);refine IC (λσ' g=>σ'=[some (.int c),some (.int m),some (.str "abcdefghijklmnopqrstuvwxyz"),some (.int (1+c%8)),some (.int (c/8%(1+c%8))),some (.ref L),u,v,a,d]/\Ac H g/\g L=some (.lst ((GP c m).map V.str))) ?_ (λab x=>?_)
     case refine_2 =>
      refine⟨⟨by decide,by decide⟩,(by show(0:Int)<3;decide),rfl,rfl,Am (λy=>?_) (λy=>Bs ?_)⟩;rotate_left;have I:¬c/128%3=1:=λe=>y (A4 (by show V.int (c/128%3)=V.int 1;rw[e]));refine x _ _ ⟨rfl,p,?_⟩;unfold GP;rw[Ak λz=>I z.1];exact l;have I:c/128%3=1:=V.int.inj (Bg y);refine⟨rfl,Am (λC=>?_) (λC=>?_)⟩;rotate_left;have J:¬1+c%8<8:=λe=>C (A4 e);refine x _ _ ⟨rfl,p,?_⟩;unfold GP;rw[Ak λz=>J z.2];exact l;have J:1+c%8<8:=Bg C;have hl:(F6 c m).length=m:=OG c m
      have X:(F6 c m)[0]?=some (EJ c 0 (1+c%8).toNat):=by
       unfold F6;rw[Bh,List.getElem?_range (by omega)];rfl
      have Y:Bz ((F6 c m).map V.str) 0=some (V.str (EJ c 0 (1+c%8).toNat)):=Cf (j:=0) (by rw[Bh,X];rfl);refine Or.inl ⟨_,.str (EJ c 0 (1+c%8).toNat),Ag.of l,Y,⟨by decide,by decide⟩,(by show(0:Int)<26;decide),Or.inr (Or.inr ⟨_,_,_,rfl,rfl,by decide +kernel,W5 (c/384),EJ c 0 (1+c%8).toNat,_,rfl,rfl,?_,L,_,_,1,rfl,rfl,l,?_,?_⟩)⟩;show(EJ c 0 (1+c%8).toNat).length+1<=sizeLine;rw[J1];exact Dh (BE (by omega));exact N2 (k:=1) (by decide) (by rw[Al];omega);refine x _ _ ⟨rfl,λb o e=>?_,?_⟩;rw[AC (AJ e t)];exact p _ _ e;unfold GP;rw[Aa,Aj ⟨I,J⟩,List.map_set]
     rintro σ' D ⟨rfl,T,Z⟩;exact q L D t T Z
   refine λi σ M hi G=>AM λS r=>?_;obtain⟨u,v,a,d,rfl,p,l⟩:=G;refine r ?_;clear r;refine R8 ?_;(try dsimp only);refine⟨by omega,by omega,Kp (lo:=0) (n:=(1+c%8).toNat) (λj σ g=>∃(a d:Option V),σ=[some (.int c),some (.int m),some (.str "abcdefghijklmnopqrstuvwxyz"),some (.int (1+c%8)),some (.int (c/8%(1+c%8))),some (.ref L),some (.int (0+(i:Int))),some (.str (EJ c i j)),a,d]/\g=M) ⟨_,_,rfl,rfl⟩ ?_ ?_⟩;rotate_left;rintro σ D ⟨a,d,rfl,rfl⟩;refine⟨Or.inl ⟨rfl,_,Ag.of l⟩,_,l,by rw[Al,OG];exact BE (by omega),?_⟩;refine⟨_,_,_,_,rfl,λb o e=>?_,?_⟩;rw[AC (AJ e t)];exact p _ _ e;rw[Aa];unfold F6;rw[List.range_succ,Bn,Bn];rfl;rintro j σ D hj ⟨a,d,rfl,rfl⟩;have af:j<8:=(by omega);refine⟨Or.inl ⟨by omega,by omega⟩,⟨by omega,by omega⟩,⟨by decide,by decide⟩,(by show(0:Int)<2;decide),Or.inl ⟨by omega,by omega⟩,?_⟩;refine⟨rfl,Or.inr ⟨_,rfl,Or.inl ⟨by omega,by omega⟩,(by show(0:Int)<26;decide),Or.inr (Or.inr ⟨_,_,_,rfl,rfl,by decide +kernel,W5 _,EJ c i j,_,rfl,rfl,?_,?_⟩)⟩⟩;show(EJ c i j).length+1<=sizeLine;rw[J1];exact Dh (BE (by omega));refine⟨some (.int (0+(j:Int))),some (.int (c/(64+3*(0+(j:Int)))+(0+(j:Int))*(c/64%2))),?_,rfl⟩
   have e:EJ c i (j+1)=EJ c i j++GO (c/(64+3*(0+(j:Int)))+(0+(j:Int))*(c/64%2)+(0+(i:Int))*(if decide (V.int (0+(j:Int))=V.int (c/8%(1+c%8)))=true then 1 else 0)):=by
    show EJ c i j++GO (Mq c i j)=_;unfold Mq;simp only[Int.zero_add,decide_eq_true_eq,V.int.injEq]
   rw[e];rfl
variable {ns:List Int}
theorem dY{k:Int}(b:0<=k)(c:k<ns.length):Bz (ns.map V.int) k=some (V.int (Fk ns k)):=by
 obtain⟨n,rfl⟩:=Df b;have a:n<ns.length:=(by omega);refine Cf ?_;rw[Bh,AD a];show some (V.int ns[n])=some (V.int ((ns[((n:Int)).toNat]?).getD 0));rw[Be,AD a];rfl
theorem dZ{k:Int}(a:0<=k)(b:¬k<ns.length):Fk ns k=0:=by
 unfold Fk;rw[Gk (by omega)];rfl
def d3 (K:Ah):Sp:=λvs H Q _=>∃a ns k,vs=[.ref a,.int k]/\0<=k/\Ag K H a (ns.map V.int)/\Q (.int (Fk ns k)) H
variable (P w K mg base) in
abbrev OH:Prop:=BF P w K mg base "_law_cell_at" 1 ["_law_script", "_law_k"] (d3 K)
theorem d4(B:BG mg)(F:Bp K "_law_cell_at" "_law_cell_at" QO f fd)(g:mg "_law_cell_at" = some (.ref f)):OH P w K mg base:=by
 refine B1 F g dN (λi H Q E h=>?_) (λl A m s H i Q E j h=>?_);obtain⟨a,ns,k,rfl,_⟩:=h;rfl;obtain⟨a,ns,k,rfl,d,e,q⟩:=h
 refine⟨_,(Ao (Bk (BI GJ (pv 1) (BS Ec B.b_len (Ab (pv 0) Ae)) (By _)) (Av (AZ (AE AF (pv 0) (pv 1)))) Bm)
  (Av (AZ Ai))),?_⟩
 (try dsimp only[AG,Cx.nox,Cx.wish]);refine⟨_,Or.inl ⟨_,e,rfl⟩,rfl,?_⟩;rw[Al];refine Am (λb=>?_) (λc=>?_);have b:=Bg b;exact Or.inl ⟨_,_,e,dY d b,q⟩;have c:¬k<(ns.length:Int):=λz=>c (A4 z);show Q (.int 0) H;rw[dZ d c] at q;exact q
def OI (n:Int):Nat->Int
 |0=>n
 |k+1=>OI n k/5
def GQ (n:Int) (m:Nat):List Int:=(List.range m).map λk=>OI n k%5
theorem Qm(n:Int)(m:Nat):(GQ n m).length=m:=by unfold GQ;rw[Al,List.length_range]
theorem d5(n:Int)(m:Nat):GQ n (m+1)=GQ n m++[OI n m%5]:=by unfold GQ;rw[List.range_succ,Bn];rfl
theorem Tx(n:Int){k:Nat}(h:k<m):(GQ n m)[k]?=some (OI n k%5):=by unfold GQ;rw[Bh,List.getElem?_range h];rfl
inductive Dr (K:Ah) (vs:List V) (H:Hp) (Q:VK):Prop where
 |mk (n:Int) (m:Nat) (h0:vs=[.int n,.int m]) (h1:m<=100) (h2:∀(D:Addr)(H':Hp),H D=none->Ac H H'->H' D=some (.lst ((GQ n m).map V.int))->Q (.ref D) H'):Dr K vs H Q
def d6 (K:Ah):Sp:=λvs H Q _=>Dr K vs H Q
variable (P w K mg base) in
abbrev Qn:Prop:=BF P w K mg base "_law_ranks" 1 ["_law_number", "_law_many"] (d6 K)
theorem d7(B:BG mg)(F:Bp K "_law_ranks" "_law_ranks" QP f fd)(j:mg "_law_ranks" = some (.ref f)):Qn P w K mg base:=by
 refine B1 F j Qf (λp H Q E h=>?_) (λy A z s H p Q E v h=>?_);obtain⟨n,m,rfl,_⟩:=h;rfl
 . obtain⟨n,m,rfl,j,q⟩:=h
   refine⟨_,(Ao (AS (i:=2) Qf.nd (CA Ae))
    (Ao (Cw Cr rfl (Iu rfl B.b_range (Ab (pv 1) Ae)) (Ay (i:=3) Qf.nd) (Ao (Di (DG DK EF EG EI (pv 2) (Ab (AA Bj (pv 0) Ai) Ae)))
     (Av (AS (i:=0) Qf.nd (AA Fi (pv 0) Ai)))))
    (Av (AZ (pv 2))))),?_⟩
   (try dsimp only[AG,Cx.nox,Cx.wish]);refine⟨by decide,λD c=>?_⟩;obtain⟨Y,t,r,u⟩:=new_at (o:=.lst []) c;rw[<-t];refine⟨by omega,by omega,Kp (lo:=0) (n:=m) (λi σ k=>∃d,σ=[some (.int (OI n i)),some (.int m),some (.ref D),d]/\Ac H k/\k D=some (.lst ((GQ n i).map V.int))) ⟨none,rfl,r,u⟩ ?_ ?_⟩;rotate_left;rintro σ l ⟨d,rfl,g,a⟩;exact q D l c g a;rintro i σ l x ⟨d,rfl,g,a⟩;refine⟨Or.inl ⟨rfl,_,Ag.of a⟩,(by show(0:Int)<5;decide),_,a,by rw[Al,Qm];exact BE (by omega),?_⟩;refine⟨⟨by decide,by decide⟩,?_⟩;refine⟨_,rfl,λb o e=>?_,?_⟩;rw[AC (AJ e c)];exact g _ _ e;rw[Aa,d5,Bn];rfl
def Ew (ls:List Str) (one oth:List Int) (j k:Nat):List (Str×Str):=if one.getD j 0<one.getD k 0/\oth.getD j 0<oth.getD k 0 then[(ls.getD j default,ls.getD k default)] else[]
def FS (ls:List Str) (one oth:List Int) (j n:Nat):List (Str×Str):=(List.range n).flatMap (Ew ls one oth j)
def EQ (ls:List Str) (one oth:List Int) (n:Nat):List (Str×Str):=(List.range n).flatMap λj=>FS ls one oth j ls.length
theorem Qo(ls:List Str)(one a:List Int)(j n:Nat):FS ls one a j (n+1)=FS ls one a j n++Ew ls one a j n:=by unfold FS;rw[List.range_succ,List.flatMap_append];simp
theorem W7(ls:List Str)(one a:List Int)(n:Nat):EQ ls one a (n+1)=EQ ls one a n++FS ls one a n ls.length:=by unfold EQ;rw[List.range_succ,List.flatMap_append];simp
theorem d8(ls:List Str)(one a:List Int)(j k:Nat):(Ew ls one a j k).length<=1:=by unfold Ew;split<;>simp
theorem Tz(ls:List Str)(one a:List Int)(j:Nat):∀n,(FS ls one a j n).length<=n
 |0=>AB _
 |n+1=>by
   rw[Qo,AW];have:=Tz ls one a j n;have:=d8 ls one a j n;omega
theorem Qp(ls:List Str)(one a:List Int):∀n,(EQ ls one a n).length<=n*ls.length
 |0=>by simp[EQ]
 |n+1=>by
   rw[W7,AW,Nat.succ_mul];have:=Qp ls one a n;have:=Tz ls one a n ls.length;omega
def Gh (c:Int) (m:Nat):List Int:=GQ (c*48271%2147483647) m
def FU (c:Int) (m:Nat):List Int:=if c%2=1 then GQ (c*69621%2147483629) m else Gh c m
theorem W8(c:Int)(m:Nat):(Gh c m).length=m:=Qm _ _
theorem J2(c:Int)(m:Nat):(FU c m).length=m:=by unfold FU;split;exact Qm _ _;exact W8 _ _
structure Ex (c:Int) (ls:List Str) (ord:List (Str×Str)):Prop where
 perm:ord.Perm (EQ ls (Gh c ls.length) (FU c ls.length) ls.length)
 srt:ord.Pairwise (BK C7 C7).kle
variable {ls:List Str}{o:List (Str×Str)}
theorem Ex.uniq{u:List (Str×Str)}(h:Ex c ls o)(k:Ex c ls u):o=u:=LD (O:=BK C7 C7) (h.perm.trans k.perm.symm) h.srt k.srt
theorem Ex.len(h:Ex c ls o)(a:ls.length<=6):o.length<=36:=by
 have b:=h.perm.length_eq;have d:=Qp ls (Gh c ls.length) (FU c ls.length) ls.length;have e:ls.length*ls.length<=6*6:=Nat.mul_le_mul a a;omega
theorem Ex.irr(h:Ex c ls o)(g:ls.Nodup)(x:Str):(x,x)∉o:=λi=>by
 have l:=h.perm.mem_iff.mp i;obtain⟨j,b,m⟩:=List.mem_flatMap.mp l;obtain⟨k,d,a⟩:=List.mem_flatMap.mp m;rw[List.mem_range] at b d;unfold Ew at a;split at a;rename_i p;have e:=AY.mp a;have n:x=ls.getD j default:=BC Prod.fst e;have f:x=ls.getD k default:=BC Prod.snd e;rw[n,BW,BW,AD b,AD d] at f
 have:=(List.getElem_inj g).mp (show ls[j]=ls[k] from f)
 subst this;exact absurd p.1 (Int.lt_irrefl _);cases a
variable {x:Str}
theorem Ic{one d:List Int}{y:Str}(h:(x,y)∈EQ ls one d ls.length):∃j k,ls[j]?=some x/\ls[k]?=some y/\one.getD j 0<one.getD k 0/\d.getD j 0<d.getD k 0:=by
 obtain⟨j,b,i⟩:=List.mem_flatMap.mp h;obtain⟨k,c,a⟩:=List.mem_flatMap.mp i;rw[List.mem_range] at b c;unfold Ew at a;split at a;rename_i l;have e:=AY.mp a;have f:x=ls.getD j default:=BC Prod.fst e;have g:y=ls.getD k default:=BC Prod.snd e;rw[BW,AD b] at f;rw[BW,AD c] at g;refine⟨j,k,?_,?_,l⟩;rw[AD b,f];rfl;rw[AD c,g];rfl;cases a
theorem Ms{one a:List Int}{y:Str}{j k:Nat}(b:ls[j]?=some x)(c:ls[k]?=some y)(h:one.getD j 0<one.getD k 0/\a.getD j 0<a.getD k 0):(x,y)∈EQ ls one a ls.length:=by
 refine List.mem_flatMap.mpr ⟨j,List.mem_range.mpr (A7.mp b).1,List.mem_flatMap.mpr ⟨k,List.mem_range.mpr (A7.mp c).1,?_⟩⟩;unfold Ew;rw[Aj h,BW,BW,b,c];exact AY.mpr rfl
theorem Ex.tr(h:Ex c ls o)(b:ls.Nodup)(x y z:Str)(d:(x,y)∈o)(e:(y,z)∈o):(x,z)∈o:=by
 obtain⟨j,k,f,a,n,p⟩:=Ic (h.perm.mem_iff.mp d);obtain⟨g,l,i,m,q,r⟩:=Ic (h.perm.mem_iff.mp e);have:k=g:=(List.getElem?_inj (A7.mp a).1 b).mp (a.trans i.symm);subst this;exact h.perm.mem_iff.mpr (Ms f m ⟨by omega,by omega⟩)
theorem KS{xs:List Int}{v:Int}(h:xs[i]?=some v):xs.getD i 0=v:=by rw[BW,h];rfl
variable {xs:List Str}
theorem W9{v:Str}(h:xs[i]?=some v):xs.getD i default=v:=by rw[BW,h];rfl
inductive Ds (K:Ah) (vs:List V) (H:Hp) (Q:VK):Prop where
 |mk (c:Int) (l:Addr) (ls:List Str) (h0:vs=[.int c,.ref l]) (h1:Ag K H l (ls.map V.str)) (h2:ls.length<=6) (h3:∀(D:Addr)(ts:List Addr)(ord:List (Str×Str))(H':Hp),H D=none->Ac H H'->H' D=some (.lst (ts.map V.ref))->Cu H' ts ord->Ex c ls ord->Q (.ref D) H'):Ds K vs H Q
def d9 (K:Ah):Sp:=λvs H Q _=>Ds K vs H Q
variable (P w K mg base) in
abbrev TD:Prop:=BF P w K mg base "_law_order" 2 ["_law_cell", "_law_labels"] (d9 K)
theorem eA(B:BG mg)(ag:Qn P w K mg base)(F:Bp K "_law_order" "_law_order" QQ f fd)(hm:mg "_law_order" = some (.ref f)):TD P w K mg base:=by
 refine B1 F hm Mg (λvs H a0 a3 h=>?_) (λaK aF aN aG H vs a0 a3 hr h=>?_);obtain⟨c,l,ls,rfl,_⟩:=h;rfl
 . obtain⟨c,l,ls,rfl,E,U,a4⟩:=h
   refine⟨_,(Ao (AS (i:=2) Mg.nd (Ba ag (Ab (AA Bj (AA Eo (pv 0) Ai) Ai) (Ab (BS Ec B.b_len (Ab (pv 1) Ae)) Ae))))
    (Ao (AS (i:=3) Mg.nd (Iw UN B.b_list (Ab (pv 2) Ae)))
    (Ao (Bk (BI Cz (AA Bj (pv 0) Ai) Ai (By _)) (Av (AS (i:=3) Mg.nd (Ba ag (Ab (AA Bj (AA Eo (pv 0) Ai) Ai) (Ab (BS Ec B.b_len (Ab (pv 1) Ae)) Ae))))) Bm)
    (Ao (AS (i:=4) Mg.nd (CA Ae))
    (Ao (Cw Cr rfl (Iu rfl B.b_range (Ab (BS Ec B.b_len (Ab (pv 1) Ae)) Ae)) (Ay (i:=5) Mg.nd) (Av (Cw Cr rfl (Iu rfl B.b_range (Ab (BS Ec B.b_len (Ab (pv 1) Ae)) Ae)) (Ay (i:=6) Mg.nd) (Av (Bk (PW.pt (GI (BI GJ (AE AF (pv 2) (pv 5)) (AE AF (pv 2) (pv 6)) (By _)) (GH (BI GJ (AE AF (pv 3) (pv 5)) (AE AF (pv 3) (pv 6)) (By _))))) (Av (Di (DG DK EF EG EI (pv 4) (Ab (Bw (Ab (AE AF (pv 1) (pv 5)) (Ab (AE AF (pv 1) (pv 6)) Ae))) Ae)))) Bm)))))
    (Av (AZ (BS (Vi EN EN) B.b_sorted (Ab (pv 4) Ae))))))))),?_⟩
   (try dsimp only[AG,Cx.nox,Cx.wish]);refine⟨Or.inr ⟨by decide,by decide⟩,(by show(0:Int)<2147483647;decide),_,Or.inl ⟨_,E,rfl⟩,_,_,rfl,by rw[Al];omega,λy aH a8 s1 G=>?_⟩;rw[Al] at G;refine AN ?_;(try dsimp only);refine⟨y,_,rfl,Or.inl (Ag.of G),λA2 ah=>?_⟩;obtain⟨H2,a9,J,e2⟩:=new_at (o:=.lst ((GQ (c*48271%2147483647) ls.length).map V.int)) ah;rw[<-a9];refine AN ?_;(try dsimp only);have T:=s1.trans J;refine IC (λσ' b=>∃g,σ'=[some (.int c),some (.ref l),some (.ref y),some (.ref g),none,none,none]/\Ac H b/\b y=some (.lst ((Gh c ls.length).map V.int))/\b g=some (.lst ((FU c ls.length).map V.int))) ?_ (λaI hN=>?_);rotate_left;refine⟨(by show(0:Int)<2;decide),rfl,rfl,Am (λp=>?_) (λp=>?_)⟩;have aa:c%2=1:=V.int.inj (Bg p);refine⟨Or.inr ⟨by decide,by decide⟩,(by show(0:Int)<2147483629;decide),_,Or.inl ⟨_,T.seq E,rfl⟩,_,_,rfl,by rw[Al];omega,λg H3 aL I e3=>?_⟩;rw[Al] at e3;refine hN _ _ ⟨g,rfl,T.trans I,I _ _ (J _ _ G),?_⟩;unfold FU;rw[Aj aa];exact e3;have aa:¬c%2=1:=λe=>p (A4 (by show V.int (c%2)=V.int 1;rw[e]));refine hN _ _ ⟨A2,rfl,T,J _ _ G,?_⟩;unfold FU;rw[Ak aa];exact e2;rintro σ' H3 ⟨g,rfl,I,ai,aj⟩;clear G e2 s1 J T a8 ah;refine⟨by decide,λD L=>?_⟩;obtain⟨W,aA,X,ak⟩:=new_at (o:=.lst []) L;rw[<-aA];refine AN ?_;(try dsimp only);have ab:=I.trans X;have al:=I.free L;have l1:=W8 c ls.length;have l2:=J2 c ls.length
   refine⟨_,Or.inl ⟨_,ab.seq E,rfl⟩,by omega,by rw[Al];omega,Kp (lo:=0) (n:=(ls.map V.str).length) (λj σ b=>∃Y r a,σ=[some (.int c),some (.ref l),some (.ref y),some (.ref g),some (.ref D),Y,r]/\Keeps (·=D) W b/\b D=some (.lst (a.map V.ref))/\Cu b a (EQ ls (Gh c ls.length) (FU c ls.length) j))
    ⟨none,none,[],rfl,Keeps.refl λx o m e=>by rw[m,ak] at e;exact⟨_,(Bo e).symm⟩,ak,Cu.nil⟩ ?_ ?_⟩
   rotate_left;refine λσ Z u=>AM λNz d=>?_;obtain⟨Y,r,a,rfl,M,ae,N⟩:=u;refine d ?_;clear d;rw[Al] at N;obtain⟨zs,z1,z2,z3⟩:=VC N
   have lz:zs.length<=36:=by
    have p:=BC List.length z2;rw[Al] at p;have O:=Qp ls (Gh c ls.length) (FU c ls.length) ls.length;have Q:ls.length*ls.length<=6*6:=Nat.mul_le_mul U U;omega
   refine⟨D,zs,rfl,Ag.of (by rw[z1];exact ae),by omega,λz hz=>?_,λO2 af hp hw an=>?_⟩;obtain⟨t,a1,a2⟩:=z3 z hz;exact⟨t,a1,Aq.of a2⟩;have ao:Ac H Z:=λaJ o e=>M.at_ _ _ (ab _ _ e) (AJ e al);have s6:=Bc (o:=.lst (af.map (·.1))) an;obtain⟨aB,t1,t2⟩:=VD (H:=Z) (zs:=af) λz hz=>z3 z (hp.mem_iff.mp hz);refine a4 O2 aB (af.map (·.2)) _ (ao.free an) (ao.trans s6) (by rw[Aa,t1]) (t2.same s6) ⟨?_,hw⟩;rw[<-z2];exact hp.map _;refine λj σ Z R u=>AM λNz d=>?_;obtain⟨Y,r,a,rfl,M,ae,N⟩:=u;refine d ?_;clear d;refine F5 ?_;intro Nx Cy;rw[Al] at R;refine AN ?_;(try dsimp only);have aq:∀{b:Hp},Keeps (·=D) W b->Ac H b:=λk x o e=>k.at_ _ _ (ab _ _ e) (AJ e al);have aC:y≠D:=AJ ai L;have aD:g≠D:=AJ aj L
   refine⟨_,Or.inl ⟨_,(aq M).seq E,rfl⟩,by omega,by rw[Al];omega,Kp (lo:=0) (n:=(ls.map V.str).length) (λk σ b=>∃r a,σ=[some (.int c),some (.ref l),some (.ref y),some (.ref g),some (.ref D),some (.int (0+(j:Int))),r]/\Keeps (·=D) W b/\b D=some (.lst (a.map V.ref))/\Cu b a (EQ ls (Gh c ls.length) (FU c ls.length) j++FS ls (Gh c ls.length) (FU c ls.length) j k))
    ⟨_,a,rfl,M,ae,by unfold FS;simpa using N⟩ ?_ ?_⟩
   rotate_left;refine λσ H6 u=>AM λNz d=>?_;obtain⟨r,a,rfl,q,C,s⟩:=u;refine d ?_;clear d;rw[Al] at s;exact⟨_,_,a,rfl,q,C,by rw[W7];exact s⟩;refine λk σ H6 S u=>AM λNz d=>?_;obtain⟨r,a,rfl,q,C,s⟩:=u;refine d ?_;clear d;refine F5 ?_;intro Nx Cy;rw[Al] at S;refine AN ?_;(try dsimp only)
   have aM:a.length<=100:=by
    rw[s.len,AW];have O:=Qp ls (Gh c ls.length) (FU c ls.length) j;have Q:j*ls.length<=6*6:=Nat.mul_le_mul (by omega) U;have h4:=Tz ls (Gh c ls.length) (FU c ls.length) j k;omega
   have ar:=q.at_ _ _ (X _ _ ai) aC;have au:=q.at_ _ _ (X _ _ aj) aD;have av:∀n,n<ls.length->∃v,(Gh c ls.length)[n]?=some v/\Bz ((Gh c ls.length).map V.int) (0+(n:Int))=some (.int v):=λn A=>⟨_,AD (by omega),by rw[Int.zero_add];exact Cf (by rw[Bh,AD (by omega)];rfl)⟩;have aw:∀n,n<ls.length->∃v,(FU c ls.length)[n]?=some v/\Bz ((FU c ls.length).map V.int) (0+(n:Int))=some (.int v):=λn A=>⟨_,AD (by omega),by rw[Int.zero_add];exact Cf (by rw[Bh,AD (by omega)];rfl)⟩;have ax:∀n,n<ls.length->∃v,ls[n]?=some v/\Bz (ls.map V.str) (0+(n:Int))=some (.str v):=λn A=>⟨_,AD A,by rw[Int.zero_add];exact Cf (by rw[Bh,AD A];rfl)⟩;obtain⟨a1,p,a5⟩:=av j R;obtain⟨a2,O,a6⟩:=av k S;obtain⟨b1,Q,a7⟩:=aw j R;obtain⟨b2,h4,g4⟩:=aw k S;obtain⟨x1,h5,g5⟩:=ax j R;obtain⟨x2,h6,g6⟩:=ax k S
   have skip:¬(a1<a2/\b1<b2)->Ew ls (Gh c ls.length) (FU c ls.length) j k=[]:=λA=>by
    unfold Ew;rw[KS p,KS O,KS Q,KS h4,Ak A]
   refine Or.inl ⟨_,_,Ag.of ar,a5,Or.inl ⟨_,_,Ag.of ar,a6,rfl,Am (λc1=>?_) (λc1=>Bs ?_)⟩⟩;rotate_left;refine⟨_,a,rfl,q,C,?_⟩;rw[Qo,skip λz=>c1 (A4 z.1),FA];exact s;refine Or.inl ⟨_,_,Ag.of au,a7,Or.inl ⟨_,_,Ag.of au,g4,rfl,Am (λc2=>?_) (λc2=>?_)⟩⟩;rotate_left;refine⟨_,a,rfl,q,C,?_⟩;rw[Qo,skip λz=>c2 (A4 z.2),FA];exact s;have ay:=(aq q).seq E;refine⟨Or.inl ⟨rfl,_,Ag.of C⟩,Or.inl ⟨_,.str x1,ay,g5,Or.inl ⟨_,.str x2,ay,g6,Cj,λt ht=>?_⟩⟩⟩;obtain⟨H7,aE,s7,et⟩:=new_at (o:=.tup [.str x1,.str x2]) ht;rw[<-aE];have az:=s7 _ _ C;have k7:Keeps (·=D) H7 (upd H7 D (.lst (a.map V.ref++[.ref t]))):=Keeps.one az;refine⟨_,az,by rw[Al];exact BE (by omega),?_⟩;refine⟨_,a++[t],rfl,(q.same s7).set rfl,by rw[Aa,Bn];rfl,?_⟩
   have eP:Ew ls (Gh c ls.length) (FU c ls.length) j k=[(x1,x2)]:=by
    unfold Ew;rw[KS p,KS O,KS Q,KS h4,Aj ⟨Bg c1,Bg c2⟩,W9 h5,W9 h6]
   rw[Qo,eP,<-FX];exact k7.tups ((s.same s7).snoc et)
def FV (c:Int):List Int:=GQ (c*864691128455135233%2305843009213693951) 20
def Ie (ls:List Str) (n c:Int):Nat->List (Str×Int)
 |0=>[]
 |k+1=>Ie ls n c k++if 0<(FV c).getD k 0 then[(ls.getD k default,(FV c).getD (5+k) 0%n)] else[]
def IJ (ls:List Str) (c:Int):Nat->List Str
 |0=>[]
 |k+1=>IJ ls c k++if 0<(FV c).getD (10+k) 0 then[ls.getD k default] else[]
theorem TF(ls:List Str)(n c:Int):∀k,(Ie ls n c k).length<=k
 |0=>AB _
 |k+1=>by
   have:=TF ls n c k;rw[Ie,AW];split;rw[DE];omega;rw[Gm];omega
theorem TH(ls:List Str)(c:Int):∀k,(IJ ls c k).length<=k
 |0=>AB _
 |k+1=>by
   have:=TH ls c k;rw[IJ,AW];split;rw[DE];omega;rw[Gm];omega
theorem Xa{ls:List Str}{n c:Int}(b:0<n):∀k,∀p∈Ie ls n c k,0<=p.2/\p.2<n
 |0,p,a=>by cases a
 |k+1,p,a=>by
   rw[Ie] at a;rcases BB.mp a with a|a;exact Xa b k p a;split at a;rw[AY.mp a];exact⟨EE _ (by omega),ED _ b⟩;cases a
structure OJ (ls:List Str) (n c:Int) (s:CN):Prop where
 pg:s.1.Perm (Ie ls n c 5)
 og:s.1.Pairwise (BK C7 Jl).kle
 pe:s.2.Perm (IJ ls c 5)
 oe:s.2.Pairwise C7.kle
variable {s:CN}
theorem OJ.uniq{n:Int}{u:CN}(h:OJ ls n c s)(k:OJ ls n c u):s=u:=
 Prod.ext (LD (O:=BK C7 Jl) (h.pg.trans k.pg.symm) h.og k.og) (LD (O:=C7) (h.pe.trans k.pe.symm) h.oe k.oe)
structure OK (cs:List Int) (ls:List Str) (sts:List CN) (inn:Int) (ord:List (Str×Str)):Prop where
 len:sts.length=(1+cs.getD 0 0%3).toNat
 at_:∀(i:Nat)(s:CN),sts[i]?=some s->OJ ls (1+cs.getD 0 0%3) (cs.getD (1+i) 0) s
 inn:inn=cs.getD 0 0/3%(1+cs.getD 0 0%3)
 ord:Ex (cs.getD 4 0) ls ord
theorem OK.uniq{c:List Int}{ls:List Str}{a:List CN}{inn:Int}{ord:List (Str×Str)}{b:List CN}{f:Int}{g:List (Str×Str)}(h:OK c ls a inn ord)(k:OK c ls b f g):a=b/\inn=f/\ord=g:=by
 refine⟨List.ext_getElem? λi=>?_,h.inn.trans k.inn.symm,h.ord.uniq k.ord⟩;have j:=h.len.trans k.len.symm
 cases e:a[i]? with
 |none =>
   rw[List.getElem?_eq_none_iff] at e;exact(List.getElem?_eq_none_iff.mpr (by omega)).symm
 |some s =>
   have d:i<b.length:=by have:=(A7.mp e).1;omega
   rw[AD d,(h.at_ i s e).uniq (k.at_ i _ (AD d))]
theorem OL{xs:List Int}{n:Nat}(h:n<xs.length):Bz (xs.map V.int) (n:Int)=some (.int (xs.getD n 0)):=by
 rw[BW,AD h];exact Cf (by rw[Bh,AD h];rfl)
theorem eF{n:Nat}(h:n<xs.length):Bz (xs.map V.str) (n:Int)=some (.str (xs.getD n default)):=by
 rw[BW,AD h];exact Cf (by rw[Bh,AD h];rfl)
theorem J3(c:Int):(FV c).length=20:=Qm _ _
inductive Du (K:Ah) (vs:List V) (H:Hp) (Q:VK):Prop where
 |mk (C L:Addr) (cs:List Int) (ls:List Str) (h0:vs=[.ref C,.ref L]) (h1:Ag K H C (cs.map V.int)) (h2:cs.length=5) (h3:Ag K H L (ls.map V.str)) (h4:ls.length=5) (h5:∀(t:Addr)(sts:List CN)(inn:Int)(ord:List (Str×Str))(H':Hp),Ac H H'->Gc K (λ_=>True) H' t sts inn ord->OK cs ls sts inn ord->Q (.ref t) H'):Du K vs H Q
def eH (K:Ah):Sp:=λvs H Q _=>Du K vs H Q
variable (P w K mg base) in
abbrev TJ:Prop:=BF P w K mg base "_law_table" 3 ["_law_cells", "_law_labels"] (eH K)
theorem eI (B:BG mg) (aR:Qn P w K mg base) (aS:TD P w K mg base) (F:Bp K "_law_table" "_law_table" QR f fd) (hm:mg "_law_table" = some (.ref f)):TJ P w K mg base:=by
 refine B1 F hm Mh (λvs a6 aO aP h=>?_) (λbw bu b3 s a6 vs aO aP hr h=>?_);obtain⟨C,L,a,ls,rfl,_⟩:=h;rfl
 . obtain⟨C,L,a,ls,rfl,U,c5,hL,l5,aQ⟩:=h
   have z0:=EE (a.getD 0 0) (by decide:(3:Int)≠0);have z1:=ED (a.getD 0 0) (by decide:(0:Int)<3);obtain⟨m,ao⟩:∃m:Nat,(m:Int)=1+a.getD 0 0%3:=⟨(1+a.getD 0 0%3).toNat,by omega⟩;have m0:1<=m/\m<=3:=(by omega);have aq:Bz (a.map V.int) ((0:Nat):Int)=some (.int (a.getD 0 0)):=OL (by omega)
   refine⟨_,(Ao (AS (i:=2) Mh.nd (CA Ae))
    (Ao (Cw Cr rfl (C6 (RM RP (pv 0) (Pe Ai) (Pe (AA Gr Ai (AA Bj (AE AF (pv 0) Ai) Ai))))) (Ay (i:=3) Mh.nd) (Ao (AS (i:=4) Mh.nd (Ba aR (Ab (AA Bj (AA Eo (pv 3) Ai) Ai) (Ab Ai Ae))))
     (Ao (AS (i:=5) Mh.nd (CA Ae))
     (Ao (AS (i:=6) Mh.nd (CA Ae))
     (Ao (Cw Cr rfl (Iu rfl B.b_range (Ab Ai Ae)) (Ay (i:=7) Mh.nd) (Ao (Bk (BI Hc (AE AF (pv 4) (pv 7)) Ai (By _)) (Av (Di (DG DK EF EG EI (pv 5) (Ab (Bw (Ab (AE AF (pv 1) (pv 7)) (Ab (AA Bj (AE AF (pv 4) (AA Gr Ai (pv 7))) (AA Gr Ai (AA Bj (AE AF (pv 0) Ai) Ai))) Ae))) Ae)))) Bm)
      (Av (Bk (BI Hc (AE AF (pv 4) (AA Gr Ai (pv 7))) Ai (By _)) (Av (Di (DG DK EF EG EI (pv 6) (Ab (AE AF (pv 1) (pv 7)) Ae)))) Bm))))
     (Av (Di (DG DK EF EG EI (pv 2) (Ab (Bw (Ab (BS (Vi EN Jm) B.b_sorted (Ab (pv 5) Ae)) (Ab (BS Yz B.b_sorted (Ab (pv 6) Ae)) Ae))) Ae)))))))))
    (Av (AZ (Bw (Ab (pv 2) (Ab (AA Bj (AA Fi (AE AF (pv 0) Ai) Ai) (BS Ec B.b_len (Ab (pv 2) Ae))) (Ab (Ba aS (Ab (AE AF (pv 0) Ai) (Ab (pv 1) Ae))) Ae)))))))),?_⟩
   (try dsimp only[AG,Cx.nox,Cx.wish]);refine⟨by decide,λD a9=>?_⟩;obtain⟨H2,aT,s2,aA⟩:=new_at (o:=.lst []) a9;rw[<-aT];refine AN ?_;(try dsimp only)
   have bq:DN (a.map V.int) (some 1) (some (2+a.getD 0 0%3))=((a.drop 1).take m).map V.int:=by
    rw[show(2+a.getD 0 0%3:Int)=((m+1:Nat):Int) by omega];exact(Yl _ 1 (m+1) (by omega)).trans (by rw[show m+1-1=m by omega,<-List.map_drop,<-List.map_take])
   refine⟨_,rfl,Or.inl ⟨_,.int (a.getD 0 0),s2.seq U,aq,(by show(0:Int)<3;decide),_,rfl,C,_,rfl,s2.seq U,λp0 h0=>?_⟩⟩;rw[bq];obtain⟨H3,aU,s3,aB⟩:=new_at (o:=.lst (((a.drop 1).take m).map V.int)) h0;rw[<-aU];have aC:=s3 _ _ aA;have aV:p0≠D:=λz=>by rw[z,aA] at h0;cases h0
   have aW:=s2.trans s3;have a8:∀{b:Hp},Keeps (·=D) H3 b->Ac a6 b:=λk x o e=>k.at_ _ _ (aW _ _ e) (AJ e a9);have aX:((a.drop 1).take m).length=m:=by rw[FH,Kh];omega
   refine⟨⟨_,Ag.of aB⟩,EL (xs:=((a.drop 1).take m).map V.int) (λi σ b=>∃u3 u4 u5 u6 W us A,σ=[some (.ref C),some (.ref L),some (.ref D),u3,u4,u5,u6,W]/\Keeps (·=D) H3 b/\b D=some (.lst (us.map V.ref))/\A0 K (λ_=>True) b D us A/\A.length=i/\∀(j:Nat)(s:CN),A[j]?=some s->OJ ls (m:Int) (a.getD (1+j) 0) s)
    ⟨none,none,none,none,none,[],[],rfl,Keeps.refl λx o m e=>by rw[m,aC] at e;exact⟨_,(Bo e).symm⟩,aC,A0.nil,rfl,λj s h=>by simp at h⟩ (λi σ b _ aY=>by obtain⟨_,_,_,_,_,_,_,_,k,_⟩:=aY;exact Ag.of (k.at_ _ _ aB aV)) ?_ ?_⟩
   . refine λi y σ H4 hy E=>AM λNz g=>?_
     obtain⟨u3,u4,u5,u6,W,us,A,rfl,Y,aa,ab,M,ar⟩:=E;refine g ?_;clear g;refine F5 ?_;intro Nx Cy;obtain⟨c,hc,rfl⟩:=getm hy;have aZ:i<m:=by have:=(A7.mp hc).1;omega
     have ec:a.getD (1+i) 0=c:=by
      rw[List.getElem?_take_of_lt aZ,List.getElem?_drop] at hc;rw[BW,hc];rfl
     refine AN ?_;(try dsimp only);have N:=a8 Y;refine⟨Or.inr ⟨by decide,by decide⟩,(by show(0:Int)<2305843009213693951;decide),_,20,rfl,by decide,λX H5 hX Z Q=>?_⟩;have Q:H5 X=some (.lst ((FV c).map V.int)):=Q;refine AN ?_;(try dsimp only);refine⟨by decide,λq au=>?_⟩;obtain⟨H6,ba,R,aD⟩:=new_at (o:=.lst []) au;rw[<-ba];refine AN ?_;(try dsimp only);refine⟨by decide,λE0 av=>?_⟩;have s7:=Bc (o:=.lst []) av;have aw:(upd H6 E0 (.lst [])) E0=some (.lst []):=Aa;have ax:=s7 _ _ aD;generalize upd H6 E0 (.lst [])=H7 at s7 aw ax ⊢;refine AN ?_;(try dsimp only);have bb:=R.trans s7;have aE:H5 E0=none:=R.free av;have aF:q≠E0:=AJ aD av;have bx:X≠q:=AJ Q au;have bz:X≠E0:=AJ Q aE;have ay:∀{b:Hp},Keeps (λx=>x=q\/x=E0) H7 b->Ac H5 b:=λk x o e=>k.at_ _ _ (bb _ _ e) λz=>z.elim (AJ e au) (AJ e aE)
     have bc:∀x o,(x=q\/x=E0)->H7 x=some o->∃xs,o=HO.lst xs:=λx o m e=>by
      rcases m with rfl|rfl;rw[ax] at e;exact⟨_,(Bo e).symm⟩;rw[aw] at e;exact⟨_,(Bo e).symm⟩
     refine⟨by decide,by decide,Kp (lo:=0) (n:=5) (λj σ b=>∃W l,σ=[some (.ref C),some (.ref L),some (.ref D),some (.int c),some (.ref X),some (.ref q),some (.ref E0),W]/\Keeps (λx=>x=q\/x=E0) H7 b/\b q=some (.lst (l.map V.ref))/\GT b l (Ie ls (m:Int) c j)/\b E0=some (.lst ((IJ ls c j).map V.str)))
      ⟨_,[],rfl,⟨λx o e _=>e,bc⟩,ax,GT.nil,aw⟩ ?_ ?_⟩
     . refine λj σ H8 I E=>AM λNz g=>?_
       obtain⟨bd,l,rfl,k8,ae,S,ah⟩:=E;refine g ?_;clear g;refine F5 ?_;intro Nx Cy;refine AN ?_;(try dsimp only);have ai:=ay k8;have aG:=N.trans (Z.trans ai);have aH:=ai _ _ Q;have lr:=J3 c;have a1:Bz ((FV c).map V.int) (0+(j:Int))=some (.int ((FV c).getD j 0)):=by rw[Int.zero_add];exact OL (by omega)
       have a2:Bz ((FV c).map V.int) (5+(0+(j:Int)))=some (.int ((FV c).getD (5+j) 0)):=by
        rw[show(5+(0+(j:Int)))=((5+j:Nat):Int) by omega];exact OL (by omega)
       have a3:Bz ((FV c).map V.int) (10+(0+(j:Int)))=some (.int ((FV c).getD (10+j) 0)):=by
        rw[show(10+(0+(j:Int)))=((10+j:Nat):Int) by omega];exact OL (by omega)
       have al:Bz (ls.map V.str) (0+(j:Int))=some (.str (ls.getD j default)):=by rw[Int.zero_add];exact eF (by omega)
       have lG:=TF ls (m:Int) c j;have lE:=TH ls c j;have be:(l.map V.ref).length<sizeLine:=by rw[Al,S.len];exact BE (by omega)
       have bf:((IJ ls c j).map V.str).length<sizeLine:=by rw[Al];exact BE (by omega)
       refine IC (λσ' b=>∃l,σ'=[some (.ref C),some (.ref L),some (.ref D),some (.int c),some (.ref X),some (.ref q),some (.ref E0),some (.int (0+(j:Int)))]/\Keeps (λx=>x=q\/x=E0) H7 b/\b q=some (.lst (l.map V.ref))/\GT b l (Ie ls (m:Int) c (j+1))/\b E0=some (.lst ((IJ ls c j).map V.str))) ?_ (λbv hN=>?_);refine λσ' H9 E=>AM λNz g=>?_;obtain⟨l,rfl,k9,H,T9,aj⟩:=E;refine g ?_;clear g;have aI:=ay k9;refine Or.inl ⟨_,_,Ag.of (aI _ _ Q),a3,rfl,Am (λd=>?_) (λd=>?_)⟩;have J:0<(FV c).getD (10+j) 0:=Bg d;refine⟨Or.inl ⟨rfl,_,Ag.of aj⟩,Or.inl ⟨_,_,(N.trans (Z.trans aI)).seq hL,al,_,aj,bf,?_⟩⟩;refine⟨_,l,rfl,k9.set (.inr rfl),by rw[AC aF];exact H,T9.updL aj,?_⟩;rw[Aa,IJ,Aj J,Bn];rfl;have J:¬0<(FV c).getD (10+j) 0:=λz=>d (A4 z);refine⟨_,l,rfl,k9,H,T9,?_⟩;rw[IJ,Ak J,FA];exact aj;refine Or.inl ⟨_,_,Ag.of aH,a1,rfl,Am (λd=>?_) (λd=>?_)⟩;rotate_left;have J:¬0<(FV c).getD j 0:=λz=>d (A4 z);refine hN _ _ ⟨l,rfl,k8,ae,?_,ah⟩;rw[Ie,Ak J,FA];exact S;have J:0<(FV c).getD j 0:=Bg d;refine⟨Or.inl ⟨rfl,_,Ag.of ae⟩,Or.inl ⟨_,_,aG.seq hL,al,Or.inl ⟨_,_,Ag.of aH,a2,Or.inl ⟨_,.int (a.getD 0 0),aG.seq U,aq,(by show(0:Int)<3;decide),(by show 0<1+a.getD 0 0%3;omega),Cj,λt ht=>?_⟩⟩⟩⟩;(try dsimp only);rw[<-ao];obtain⟨H9,bg,v,et⟩:=new_at (o:=.tup [.str (ls.getD j default),.int ((FV c).getD (5+j) 0%m)]) ht;rw[<-bg];have H:=v _ _ ae;refine⟨_,H,be,?_⟩;refine hN _ _ ⟨l++[t],rfl,(k8.same v).set (.inl rfl),by rw[Aa,Bn];rfl,?_,by rw[AC (Ne.symm aF)];exact v _ _ ah⟩;rw[Ie,Aj J];exact((S.same v).snoc (p:=(ls.getD j default,(FV c).getD (5+j) 0%m)) et).updL H
     refine λσ H8 E=>AM λNz g=>?_;obtain⟨bd,l,rfl,k8,ae,S,ah⟩:=E;refine g ?_;clear g;have ai:=ay k8;have az:=Z.trans ai;have bh:Keeps (·=D) H3 H8:=⟨λx o e n=>az _ _ (Y.at_ x o e n),Y.ls⟩;have ak:=az _ _ aa;have lG:=TF ls (m:Int) c 5;have lE:=TH ls c 5;obtain⟨zs,z1,z2,z3⟩:=Sh (K:=K) S.len S.at_;have b0:zs.length=(Ie ls (m:Int) c 5).length:=(by rw[<-z2,Al]);refine⟨Or.inl ⟨rfl,_,Ag.of ak⟩,q,zs,rfl,Ag.of (by rw[z1];exact ae),by omega,z3,λG u hp hw hG=>?_⟩;have v:=Bc (o:=.lst (u.map (·.1))) hG;have H:(upd H8 G (.lst (u.map (·.1)))) G=some (.lst (u.map (·.1))):=Aa
     have aJ:∀z∈u,Pt K (upd H8 G (.lst (u.map (·.1)))) z:=λz hz=>by
      obtain⟨t,a1,a2⟩:=z3 z (hp.mem_iff.mp hz);exact⟨t,a1,v.seqT a2⟩
     generalize upd H8 G (.lst (u.map (·.1)))=H9 at v H aJ ⊢;refine⟨E0,IJ ls c 5,rfl,Ag.of (v _ _ ah),by omega,λT O bi bj a0=>?_⟩;have af:=Bc (o:=.lst (O.map V.str)) a0;have aM:(upd H9 T (.lst (O.map V.str))) T=some (.lst (O.map V.str)):=Aa
     have z4:∀z∈u,Pt K (upd H9 T (.lst (O.map V.str))) z:=λz hz=>by
      obtain⟨t,a1,a2⟩:=aJ z hz;exact⟨t,a1,af.seqT a2⟩
     generalize upd H9 T (.lst (O.map V.str))=b1 at af aM z4 ⊢;refine⟨Cj,λa7 hu=>?_⟩;obtain⟨bk,br,ag,eu⟩:=new_at (o:=.tup [.ref G,.ref T]) hu;rw[<-br];have a5:=(v.trans af).trans ag;have aN:=a5 _ _ ak;have nG:G≠D:=λy=>by rw[y,ak] at hG;cases hG
     have nE:T≠D:=λy=>by rw[y,v _ _ ak] at a0;cases a0
     have gG:C8 K bk G (u.map (·.2)):=⟨_,Ag.of ((af.trans ag) _ _ H),(Si u z4).same ag⟩;refine⟨_,aN,by rw[Al,ab.len,M];exact BE (by omega),?_⟩;have bs:=((ab.same (az.trans a5)).snoc (r:=(u.map (·.2),O)) eu gG ((af.trans ag) _ _ H) (ag _ _ aM) nG nE True.intro True.intro).updL (o:=.lst (us.map V.ref++[.ref a7])) aN;refine⟨_,_,_,_,_,us++[a7],A++[(u.map (·.2),O)],rfl,(bh.same a5).set rfl,by rw[Aa,Bn];rfl,bs,by rw[AW,M];rfl,λj s I=>?_⟩;rcases Nat.lt_or_ge j A.length with bl|b2;rw[EU bl] at I;exact ar j s I
     have aK:j=A.length:=by
      have:=(A7.mp I).1;rw[AW,DE] at this;omega
     rw[aK,List.getElem?_concat_length] at I;rw[<-Bo I,aK,M,ec];exact⟨by rw[<-z2];exact hp.map _,hw,bi,bj⟩
   refine λσ H4 E=>AM λNz g=>?_;obtain⟨u3,u4,u5,u6,W,us,A,rfl,Y,aa,ab,M,ar⟩:=E;refine g ?_;clear g;rw[Al,aX] at M;have N:=a8 Y;have bm:Bz (a.map V.int) ((4:Nat):Int)=some (.int (a.getD 4 0)):=OL (by omega);have aL:(us.map V.ref).length=m:=(by rw[Al,ab.len,M]);refine Or.inl ⟨_,.int (a.getD 0 0),N.seq U,aq,⟨by decide,by decide⟩,_,Or.inl ⟨_,Ag.of aa,rfl⟩,(by rw[aL];omega),Or.inl ⟨_,.int (a.getD 4 0),N.seq U,bm,_,L,ls,rfl,N.seq hL,by omega,λan bn bo H5 hO Z eO TO bt=>?_⟩⟩;rw[aL];refine⟨Jq,λt ht=>?_⟩;have R:=Bc (o:=.tup [.ref D,.int (a.getD 0 0/3%m),.ref an]) ht;have bp:D≠an:=λy=>by rw[<-y,aa] at hO;cases hO
   have a4:=Z.trans R;refine aQ t A (a.getD 0 0/3%m) bo _ (N.trans a4) ⟨D,an,us,bn,Aa,True.intro,True.intro,bp,a4 _ _ aa,ab.same a4,R _ _ eO,TO.same R⟩ ⟨by rw[M];omega,λj s I=>by rw[<-ao];exact ar j s I,by rw[ao],bt⟩
abbrev GC (c:Int):Int:=c*48271%65521
def Gi (ns:List Str) (c:Int):List Str:=[ns.getD (GC c%3).toNat default]++if GC c/3%2=1 then[ns.getD (GC c/6%3).toNat default] else[]
def KU (ns:List Str) (c:Int):List Str:=Gi ns c++if GC c/18%4=3 then[ns.getD (GC c/72%3).toNat default] else[]
def Dv (ns:List Str) (m s c:Int):Qu:=(c*16807%65519%m,c*69621%65497%s,KU ns c)
theorem J4(ns:List Str)(c:Int):1<=(KU ns c).length/\(KU ns c).length<=3:=by
 unfold KU Gi;split<;>split<;>simp
theorem TK{i:Int}(b:0<=i)(c:i<xs.length):Bz (xs.map V.str) i=some (.str (xs.getD i.toNat default)):=by
 obtain⟨n,rfl⟩:=Df b;have a:n<xs.length:=(by omega);rw[Be,BW,AD a];exact Cf (by rw[Bh,AD a];rfl)
theorem J5:([]:List V).length+1+1+1<=sizeLine:=by decide
theorem GR(x:Int):0<=x%3/\x%3<3:=⟨EE _ (by decide),ED _ (by decide)⟩
inductive Cn (K:Ah) (vs:List V) (H:Hp) (Q:VK):Prop where
 |mk (c:Int) (N:Addr) (ns:List Str) (m s:Nat) (h0:vs=[.int c,.int m,.int s,.ref N]) (h1:Ag K H N (ns.map V.str)) (h2:ns.length=3) (h3:1<=m) (h4:1<=s) (h5:∀(p u:Addr)(H':Hp),Ac H H'->H' p=some (.tup [.int (Dv ns m s c).1,.int (Dv ns m s c).2.1,.ref u])->H' u=some (.tup ((Dv ns m s c).2.2.map V.str))->Q (.ref p) H'):Cn K vs H Q
def eJ (K:Ah):Sp:=λvs H Q _=>Cn K vs H Q
variable (P w K mg base) in
abbrev TL:Prop:=BF P w K mg base "_law_question" 1 ["_law_cell", "_law_many", "_law_states", "_law_names_here"] (eJ K)
theorem eK(B:BG mg)(F:Bp K "_law_question" "_law_question" QS f fd)(z:mg "_law_question" = some (.ref f)):TL P w K mg base:=by
 refine B1 F z To (λC H Q E h=>?_) (λaa A ab s H C Q E T h=>?_);obtain⟨c,N,ns,m,Z,rfl,_⟩:=h;rfl
 . obtain⟨c,N,ns,m,Z,rfl,j,U,W,X,q⟩:=h
   refine⟨_,(Ao (AS (i:=4) To.nd (AA Bj (AA Eo (pv 0) Ai) Ai))
    (Ao (AS (i:=5) To.nd (CA (Ab (AE AF (pv 3) (AA Bj (pv 4) Ai)) Ae)))
    (Ao (Bk (BI Cz (AA Bj (AA Fi (pv 4) Ai) Ai) Ai (By _)) (Av (Di (DG DK EF EG EI (pv 5) (Ab (AE AF (pv 3) (AA Bj (AA Fi (pv 4) Ai) Ai)) Ae)))) Bm)
    (Ao (Bk (BI Cz (AA Bj (AA Fi (pv 4) Ai) Ai) Ai (By _)) (Av (Di (DG DK EF EG EI (pv 5) (Ab (AE AF (pv 3) (AA Bj (AA Fi (pv 4) Ai) Ai)) Ae)))) Bm)
    (Av (AZ (Bw (Ab (AA Bj (AA Bj (AA Eo (pv 0) Ai) Ai) (pv 1)) (Ab (AA Bj (AA Bj (AA Eo (pv 0) Ai) Ai) (pv 2)) (Ab (Iw XX B.b_tuple (Ab (pv 5) Ae)) Ae)))))))))),?_⟩
   (try dsimp only[AG,Cx.nox,Cx.wish]);refine⟨Or.inr ⟨by decide,by decide⟩,(by show(0:Int)<65521;decide),?_⟩;refine AN ?_;(try dsimp only);refine⟨(by show(0:Int)<3;decide),Or.inl ⟨_,_,j,TK (GR _).1 (by have:=(GR (c*48271%65521)).2;omega),Hr,λP t=>?_⟩⟩;obtain⟨Y,O,k,l⟩:=new_at (o:=.lst [.str (ns.getD (GC c%3).toNat default)]) t;rw[<-O];refine AN ?_;(try dsimp only);have y:∀x o,H x=some o->x≠P:=λx o e=>AJ e t;refine IC (λσ' d=>σ'=[some (.int c),some (.int m),some (.int Z),some (.ref N),some (.int (GC c)),some (.ref P)]/\Ac H d/\d P=some (.lst ((Gi ns c).map V.str))) ?_ (λD g=>?_);rotate_left;refine⟨⟨by decide,by decide⟩,(by show(0:Int)<2;decide),rfl,rfl,Am (λa=>?_) (λa=>?_)⟩;have b:GC c/3%2=1:=V.int.inj (Bg a);refine⟨Or.inl ⟨rfl,_,Ag.of l⟩,⟨by decide,by decide⟩,(by show(0:Int)<3;decide),Or.inl ⟨_,_,k.seq j,TK (GR _).1 (by have:=(GR (c*48271%65521/6)).2;omega),_,l,BE (by show 1<=1000;decide),g _ _ ⟨rfl,λx o e=>?_,?_⟩⟩⟩;rw[AC (y x o e)];exact k _ _ e;rw[Aa];unfold Gi;rw[Aj b];rfl;have b:¬GC c/3%2=1:=λe=>a (A4 (by show V.int (GC c/3%2)=V.int 1;rw[e]));refine g _ _ ⟨rfl,k,?_⟩;unfold Gi;rw[Ak b];exact l;rintro σ' H2 ⟨rfl,n,r⟩;refine IC (λσ' d=>σ'=[some (.int c),some (.int m),some (.int Z),some (.ref N),some (.int (GC c)),some (.ref P)]/\Ac H d/\d P=some (.lst ((KU ns c).map V.str))) ?_ (λD g=>?_);rotate_left;have l2:(Gi ns c).length<=2:=by unfold Gi;split<;>simp
   refine⟨⟨by decide,by decide⟩,(by show(0:Int)<4;decide),rfl,rfl,Am (λa=>?_) (λa=>?_)⟩;have b:GC c/18%4=3:=V.int.inj (Bg a);refine⟨Or.inl ⟨rfl,_,Ag.of r⟩,⟨by decide,by decide⟩,(by show(0:Int)<3;decide),Or.inl ⟨_,_,n.seq j,TK (GR _).1 (by have:=(GR (c*48271%65521/72)).2;omega),_,r,BE (by rw[Al];omega),g _ _ ⟨rfl,λx o e=>?_,?_⟩⟩⟩;rw[AC (y x o e)];exact n _ _ e;rw[Aa];unfold KU;rw[Aj b,Bn];rfl;have b:¬GC c/18%4=3:=λe=>a (A4 (by show V.int (GC c/18%4)=V.int 3;rw[e]));refine g _ _ ⟨rfl,n,?_⟩;unfold KU;rw[Ak b,FA];exact r;rintro σ' H3 ⟨rfl,G,R⟩;refine⟨Or.inr ⟨by decide,by decide⟩,(by show(0:Int)<65519;decide),(by show(0:Int)<m;omega),Or.inr ⟨by decide,by decide⟩,(by show(0:Int)<65497;decide),(by show(0:Int)<Z;omega),P,_,rfl,Or.inl ⟨Ag.of R,λu I=>?_⟩⟩;obtain⟨H4,S,J,L⟩:=new_at (o:=.tup ((KU ns c).map V.str)) I;rw[<-S];refine⟨J5,λp M=>?_⟩;have v:=Bc (o:=.tup [.int (c*16807%65519%m),.int (c*69621%65497%Z),.ref u]) M;exact q p u _ ((G.trans J).trans v) Aa (v _ _ L)
def Mt (m a c:Int):Str×Int:=if c*69621%65497%4=0 then("plain",0) else if c*69621%65497%4=1 then("sort",c*48271%65521%a) else("part",c*48271%65521%m)
variable {a:Nat}
theorem Mu(b:1<=m)(d:1<=a)(c:Int):FM m a (Mt m a c):=by
 unfold Mt FM;split;exact .inl ⟨rfl,rfl⟩;split;exact .inr (.inr ⟨rfl,EE _ (by omega),ED _ (by omega)⟩);exact .inr (.inl ⟨rfl,EE _ (by omega),ED _ (by omega)⟩)
inductive Dw (K:Ah) (vs:List V) (H:Hp) (Q:VK):Prop where
 |mk (c:Int) (m a:Nat) (h0:vs=[.int c,.int m,.int a]) (h1:1<=m) (h2:1<=a) (h3:∀(p:Addr)(H':Hp),H p=none->Ac H H'->H' p=some (.tup [.str (Mt m a c).1,.int (Mt m a c).2])->Q (.ref p) H'):Dw K vs H Q
def eQ (K:Ah):Sp:=λvs H Q _=>Dw K vs H Q
variable (P w K mg base) in
abbrev TM:Prop:=BF P w K mg base "_law_thing" 1 ["_law_cell", "_law_many", "_law_asked"] (eQ K)
theorem eR(B:BG mg)(F:Bp K "_law_thing" "_law_thing" QU f fd)(o:mg "_law_thing" = some (.ref f)):TM P w K mg base:=by
 refine B1 F o WY (λr H Q E h=>?_) (λy A z s H r Q E u h=>?_);obtain⟨c,m,a,rfl,_⟩:=h;rfl;obtain⟨c,m,a,rfl,v,x,q⟩:=h
 refine⟨_,(Ao (AS (i:=3) WY.nd (AA Bj (AA Eo (pv 0) Ai) Ai))
  (Ao (Bk (BI Cz (AA Bj (pv 3) Ai) Ai (By _)) (Av (AZ (Bw (Ab B2 (Ab Ai Ae))))) Bm)
  (Ao (Bk (BI Cz (AA Bj (pv 3) Ai) Ai (By _)) (Av (AZ (Bw (Ab B2 (Ab (AA Bj (AA Bj (AA Eo (pv 0) Ai) Ai) (pv 2)) Ae))))) Bm)
  (Av (AZ (Bw (Ab B2 (Ab (AA Bj (AA Bj (AA Eo (pv 0) Ai) Ai) (pv 1)) Ae)))))))),?_⟩
 (try dsimp only[AG,Cx.nox,Cx.wish]);refine⟨Or.inr ⟨by decide,by decide⟩,(by show(0:Int)<65497;decide),?_⟩;have j:∀k,Mt m a c=k->∀p,H p=none->Q (.ref p) (upd H p (.tup [.str k.1,.int k.2])):=λk t p n=>q p _ n (Bc n) (by rw[Aa,<-t]);refine⟨(by show(0:Int)<4;decide),rfl,rfl,Am (λd=>?_) (λd=>?_)⟩;have b:c*69621%65497%4=0:=V.int.inj (Bg d);exact⟨Cj,j (("plain" : Str),0) (Aj b)⟩;have b:¬c*69621%65497%4=0:=λe=>d (A4 (by show V.int (c*69621%65497%4)=V.int 0;rw[e]));refine⟨(by show(0:Int)<4;decide),rfl,rfl,Am (λg=>?_) (λg=>?_)⟩;have l:c*69621%65497%4=1:=V.int.inj (Bg g);exact⟨Or.inr ⟨by decide,by decide⟩,(by show(0:Int)<65521;decide),(by show(0:Int)<a;omega),Cj,j (("sort" : Str),c*48271%65521%a) ((Ak b).trans (Aj l))⟩;have l:¬c*69621%65497%4=1:=λe=>g (A4 (by show V.int (c*69621%65497%4)=V.int 1;rw[e]));exact⟨Or.inr ⟨by decide,by decide⟩,(by show(0:Int)<65521;decide),(by show(0:Int)<m;omega),Cj,j (("part" : Str),c*48271%65521%m) ((Ak b).trans (Ak l))⟩
def Mv (m a c:Int):Str×Int:=if c*69621%65497%2=0 then("by",c*16807%65519%a) else("to",c*16807%65519%m)
def Qq (ls:List Str) (m a c:Int):Cd:=(ls.getD (c*48271%65521%5).toNat default,Mv m a c)
theorem Mw(b:1<=m)(d:1<=a)(ls:List Str)(c:Int):Fn m a (Qq ls m a c):=by
 unfold Qq Fn Mv;dsimp only;split;exact .inr ⟨rfl,EE _ (by omega),ED _ (by omega)⟩;exact .inl ⟨rfl,EE _ (by omega),ED _ (by omega)⟩
theorem eS{i:Int}(b:0<=i)(c:i<xs.length):Bz (xs.map V.str) i=some (.str (xs.getD i.toNat default)):=by
 obtain⟨n,rfl⟩:=Df b;have a:n<xs.length:=(by omega);rw[Be,BW,AD a];exact Cf (by rw[Bh,AD a];rfl)
theorem Xb:([]:List V).length+1+1+1<=sizeLine:=by decide
inductive DZ (K:Ah) (vs:List V) (H:Hp) (Q:VK):Prop where
 |mk (c:Int) (L:Addr) (ls:List Str) (m a:Nat) (h0:vs=[.int c,.ref L,.int m,.int a]) (h1:Ag K H L (ls.map V.str)) (h2:ls.length=5) (h3:1<=m) (h4:1<=a) (h5:∀(p:Addr)(H':Hp),H p=none->Ac H H'->H' p=some (.tup (Hv (Qq ls m a c)))->Q (.ref p) H'):DZ K vs H Q
def eV (K:Ah):Sp:=λvs H Q _=>DZ K vs H Q
variable (P w K mg base) in
abbrev TN:Prop:=BF P w K mg base "_law_step" 1 ["_law_cell", "_law_labels", "_law_many", "_law_asked"] (eV K)
theorem eW(B:BG mg)(F:Bp K "_law_step" "_law_step" QV f fd)(l:mg "_law_step" = some (.ref f)):TN P w K mg base:=by
 refine B1 F l Tp (λn H Q E h=>?_) (λC A D s H n Q E u h=>?_);obtain⟨c,L,ls,m,a,rfl,_⟩:=h;rfl;obtain⟨c,L,ls,m,a,rfl,o,v,x,y,q⟩:=h;have r:=EE (c*48271%65521) (by decide:(5:Int)≠0);have z:=ED (c*48271%65521) (by decide:(0:Int)<5)
 refine⟨_,(Ao (AS (i:=4) Tp.nd (AE AF (pv 1) (AA Bj (AA Bj (AA Eo (pv 0) Ai) Ai) Ai)))
  (Ao (AS (i:=5) Tp.nd (AA Bj (AA Eo (pv 0) Ai) Ai))
  (Ao (Bk (BI Cz (AA Bj (pv 5) Ai) Ai (By _)) (Av (AZ (Bw (Ab (pv 4) (Ab B2 (Ab (AA Bj (AA Bj (AA Eo (pv 0) Ai) Ai) (pv 3)) Ae)))))) Bm)
  (Av (AZ (Bw (Ab (pv 4) (Ab B2 (Ab (AA Bj (AA Bj (AA Eo (pv 0) Ai) Ai) (pv 2)) Ae))))))))),?_⟩
 (try dsimp only[AG,Cx.nox,Cx.wish]);refine⟨Or.inr ⟨by decide,by decide⟩,(by show(0:Int)<65521;decide),(by show(0:Int)<5;decide),Or.inl ⟨_,_,o,eS r (by omega),?_⟩⟩;refine⟨Or.inr ⟨by decide,by decide⟩,(by show(0:Int)<65497;decide),?_⟩;have j:∀k,Mv m a c=k->∀p,H p=none->Q (.ref p) (upd H p (.tup [.str (ls.getD (c*48271%65521%5).toNat default),.str k.1,.int k.2])):=λk t p g=>q p _ g (Bc g) (by rw[Aa,<-t];rfl);refine⟨(by show(0:Int)<2;decide),rfl,rfl,Am (λb=>?_) (λb=>?_)⟩;have d:c*69621%65497%2=0:=V.int.inj (Bg b);exact⟨Or.inr ⟨by decide,by decide⟩,(by show(0:Int)<65519;decide),(by show(0:Int)<a;omega),Xb,j (("by" : Str),c*16807%65519%a) (Aj d)⟩;have d:¬c*69621%65497%2=0:=λe=>b (A4 (by show V.int (c*69621%65497%2)=V.int 0;rw[e]));exact⟨Or.inr ⟨by decide,by decide⟩,(by show(0:Int)<65519;decide),(by show(0:Int)<m;omega),Xb,j (("to" : Str),c*16807%65519%m) (Ak d)⟩
def Mx (t a c:Int):Str×Int:=if c*69621%65497%3=0 then("by",c*16807%65519%a) else("thing",c*16807%65519%t)
def Qr (ns ls:List Str) (t a c:Int):DU:=(ls.getD (c*48271%65521%5).toNat default,ns.getD (c*69621%65497/3%3).toNat default,Mx t a c)
theorem My{t:Nat}(b:1<=t)(d:1<=a)(ns ls:List Str)(c:Int):Fo t a (Qr ns ls t a c):=by
 unfold Qr Fo Mx;dsimp only;split;exact .inr ⟨rfl,EE _ (by omega),ED _ (by omega)⟩;exact .inl ⟨rfl,EE _ (by omega),ED _ (by omega)⟩
theorem Xc{i:Int}(b:0<=i)(c:i<xs.length):Bz (xs.map V.str) i=some (.str (xs.getD i.toNat default)):=by
 obtain⟨n,rfl⟩:=Df b;have a:n<xs.length:=(by omega);rw[Be,BW,AD a];exact Cf (by rw[Bh,AD a];rfl)
theorem Ig:([]:List V).length+1+1+1+1<=sizeLine:=by decide
inductive CJ (K:Ah) (vs:List V) (H:Hp) (Q:VK):Prop where
 |mk (c:Int) (L N:Addr) (ls ns:List Str) (t a:Nat) (h0:vs=[.int c,.ref L,.ref N,.int t,.int a]) (h1:Ag K H L (ls.map V.str)) (h2:ls.length=5) (h3:Ag K H N (ns.map V.str)) (h4:ns.length=3) (h5:1<=t) (h6:1<=a) (h7:∀(p:Addr)(H':Hp),H p=none->Ac H H'->H' p=some (.tup (Hw (Qr ns ls t a c)))->Q (.ref p) H'):CJ K vs H Q
def eX (K:Ah):Sp:=λvs H Q _=>CJ K vs H Q
variable (P w K mg base) in
abbrev TQ:Prop:=BF P w K mg base "_law_telling" 1 ["_law_cell", "_law_labels", "_law_names_here", "_law_things", "_law_asked"] (eX K)
theorem eY(B:BG mg)(F:Bp K "_law_telling" "_law_telling" QW f fd)(l:mg "_law_telling" = some (.ref f)):TQ P w K mg base:=by
 refine B1 F l Qg (λm H Q E h=>?_) (λJ A M s H m Q E x h=>?_);obtain⟨c,L,N,ls,ns,t,a,rfl,_⟩:=h;rfl;obtain⟨c,L,N,ls,ns,t,a,rfl,n,y,o,z,C,D,q⟩:=h;have r:=EE (c*48271%65521) (by decide:(5:Int)≠0);have G:=ED (c*48271%65521) (by decide:(0:Int)<5);have u:=EE (c*69621%65497/3) (by decide:(3:Int)≠0);have I:=ED (c*69621%65497/3) (by decide:(0:Int)<3)
 refine⟨_,(Ao (AS (i:=5) Qg.nd (AE AF (pv 1) (AA Bj (AA Bj (AA Eo (pv 0) Ai) Ai) Ai)))
  (Ao (AS (i:=6) Qg.nd (AA Bj (AA Eo (pv 0) Ai) Ai))
  (Ao (AS (i:=7) Qg.nd (AE AF (pv 2) (AA Bj (AA Fi (pv 6) Ai) Ai)))
  (Ao (Bk (BI Cz (AA Bj (pv 6) Ai) Ai (By _)) (Av (AZ (Bw (Ab (pv 5) (Ab (pv 7) (Ab B2 (Ab (AA Bj (AA Bj (AA Eo (pv 0) Ai) Ai) (pv 4)) Ae))))))) Bm)
  (Av (AZ (Bw (Ab (pv 5) (Ab (pv 7) (Ab B2 (Ab (AA Bj (AA Bj (AA Eo (pv 0) Ai) Ai) (pv 3)) Ae))))))))))),?_⟩
 (try dsimp only[AG,Cx.nox,Cx.wish]);refine⟨Or.inr ⟨by decide,by decide⟩,(by show(0:Int)<65521;decide),(by show(0:Int)<5;decide),Or.inl ⟨_,_,n,Xc r (by omega),?_⟩⟩;refine⟨Or.inr ⟨by decide,by decide⟩,(by show(0:Int)<65497;decide),?_⟩;refine⟨⟨by decide,by decide⟩,(by show(0:Int)<3;decide),Or.inl ⟨_,_,o,Xc u (by omega),?_⟩⟩;have j:∀k,Mx t a c=k->∀p,H p=none->Q (.ref p) (upd H p (.tup [.str (ls.getD (c*48271%65521%5).toNat default),.str (ns.getD (c*69621%65497/3%3).toNat default),.str k.1,.int k.2])):=λk v p g=>q p _ g (Bc g) (by rw[Aa,<-v];rfl);refine⟨(by show(0:Int)<3;decide),rfl,rfl,Am (λb=>?_) (λb=>?_)⟩;have d:c*69621%65497%3=0:=V.int.inj (Bg b);exact⟨Or.inr ⟨by decide,by decide⟩,(by show(0:Int)<65519;decide),(by show(0:Int)<a;omega),Ig,j (("by" : Str),c*16807%65519%a) (Aj d)⟩;have d:¬c*69621%65497%3=0:=λe=>b (A4 (by show V.int (c*69621%65497%3)=V.int 0;rw[e]));exact⟨Or.inr ⟨by decide,by decide⟩,(by show(0:Int)<65519;decide),(by show(0:Int)<t;omega),Ig,j (("thing" : Str),c*16807%65519%t) (Ak d)⟩
def ER (m:Nat):Nat:=if m<4 then 3 else 2
abbrev BP (m:Nat) (c:Int):Int:=c/8*48271%65539%m
abbrev ES (ss:List Bi) (i:Int):Bi:=ss.getD i.toNat ([],[])
def IK (ls:List Str) (m a:Nat) (ss:List Bi) (c:Int):List Bi:=if c%8<3/\(ES ss (BP m c)).1.length<ER m then ss.set (BP m c).toNat ((ES ss (BP m c)).1++[Qq ls m a (c/8)],(ES ss (BP m c)).2) else ss
def Nh (ls ns:List Str) (m t a:Nat) (ss:List Bi) (c:Int):List Bi:=if(2<c%8/\c%8<6)/\(ES ss (BP m c)).2.length<2 then ss.set (BP m c).toNat ((ES ss (BP m c)).1,(ES ss (BP m c)).2++[Qr ns ls t a (c/8)]) else ss
def Qs (ls ns:List Str) (m t a:Nat) (ss:List Bi) (c:Int):List Bi:=Nh ls ns m t a (IK ls m a ss c) c
def Eh (ls ns:List Str) (m t a:Nat) (cs:List Int) (i:Nat):List Bi:=(cs.take i).foldl (Qs ls ns m t a) (List.replicate m ([],[]))
theorem J6(ls:List Str)(m a:Nat)(ss:List Bi)(c:Int):(IK ls m a ss c).length=ss.length:=by unfold IK;split;exact Fz;rfl
theorem Qt(ls ns:List Str)(m t a:Nat)(ss:List Bi)(c:Int):(Nh ls ns m t a ss c).length=ss.length:=by unfold Nh;split;exact Fz;rfl
theorem Xd{ns:List Str}{t:Nat}{b:List Int}(h:b[i]?=some c):Eh ls ns m t a b (i+1)=Qs ls ns m t a (Eh ls ns m t a b i) c:=by
 unfold Eh;rw[DJ,h,Ki];rfl
structure GS (m t a:Nat) (ss:List Bi):Prop where
 len:ss.length=m
 st:∀s∈ss,s.1.length<=ER m
 tl:∀s∈ss,s.2.length<=2
 kst:∀s∈ss,∀p∈s.1,Fn m a p
 ktl:∀s∈ss,∀p∈s.2,Fo t a p
variable {ss:List Bi}
theorem Xe{t:Nat}(h:GS m t a ss)(i:Int):(ES ss i).1.length<=ER m/\(ES ss i).2.length<=2/\(∀p∈(ES ss i).1,Fn m a p)/\∀p∈(ES ss i).2,Fo t a p:=by
 unfold ES;rw[BW]
 cases e:ss[i.toNat]? with
 |none=>exact⟨Ci _,Ci _,λp b=>(by cases b),λp b=>(by cases b)⟩
 |some s =>
   have:=Bd e;exact⟨h.st s this,h.tl s this,h.kst s this,h.ktl s this⟩
theorem GS.setA{t:Nat}(h:GS m t a ss){s:Bi}(c:s.1.length<=ER m)(d:s.2.length<=2)(e:∀p∈s.1,Fn m a p)(f:∀p∈s.2,Fo t a p):GS m t a (ss.set i s):=by
 refine⟨by rw[Fz];exact h.len,λu b=>?_,λu b=>?_,λu b=>?_,λu b=>?_⟩<;>rcases List.mem_or_eq_of_mem_set b with b|rfl;exact h.st u b;exact c;exact h.tl u b;exact d;exact h.kst u b;exact e;exact h.ktl u b;exact f
theorem Qv{ls ns:List Str}{m t a:Nat}(n:1<=m)(o:1<=t)(k:1<=a)(f:List Int):∀i,GS m t a (Eh ls ns m t a f i)
 |0=>by
   have e:∀s∈List.replicate m (([],[]):Bi),s=([],[]):=λs d=>(List.mem_replicate.mp d).2;exact⟨List.length_replicate,(λs d=>by rw[e s d];exact Ci _),(λs d=>by rw[e s d];exact Ci _),(λs d p b=>by rw[e s d] at b;cases b),(λs d p b=>by rw[e s d] at b;cases b)⟩
 | i + 1=>by
   have j:=Qv (ls:=ls) (ns:=ns) n o k f i
   cases e:f[i]? with
   |none =>
     have q:Eh ls ns m t a f (i+1)=Eh ls ns m t a f i:=by unfold Eh;rw[DJ,e];simp
     rw[q];exact j
   |some c =>
     rw[Xd e];generalize Eh ls ns m t a f i=ss at j
     have l:GS m t a (IK ls m a ss c):=by
      have g:=Xe j (BP m c);unfold IK;split;rename_i h;refine j.setA (by rw[AW,DE];exact h.2) g.2.1 (λp b=>?_) g.2.2.2;rcases BB.mp b with b|b;exact g.2.2.1 p b;rw[AY.mp b];exact Mw n k _ _;exact j
     unfold Qs Nh;have g:=Xe l (BP m c);split;rename_i h;refine l.setA g.1 (by rw[AW,DE];exact h.2) g.2.2.1 (λp b=>?_);rcases BB.mp b with b|b;exact g.2.2.2 p b;rw[AY.mp b];exact My o k _ _ _;exact l
theorem e8(a b:V):Bz [a,b] 0=some a:=Cf (j:=0) rfl
theorem e9(a b:V):Bz [a,b] 1=some b:=Cf (j:=1) rfl
inductive C1 (K:Ah) (vs:List V) (H:Hp) (Q:VK):Prop where
 |mk (C L N Z:Addr) (cs:List Int) (ls ns:List Str) (m t a:Nat) (h0:vs=[.ref C,.ref L,.ref N,.int m,.ref Z]) (h1:Ag K H C (cs.map V.int)) (h2:cs.length<=63) (h3:Ag K H L (ls.map V.str)) (h4:ls.length=5) (h5:Ag K H N (ns.map V.str)) (h6:ns.length=3) (h7:Aq K H Z [.int t,.int a]) (h8:1<=m) (h9:m<=5) (h10:1<=t) (h11:1<=a) (h12:∀(S:Addr)(us Gs Es:List Addr)(H':Hp),Ac H H'->Dl H' S us Gs Es (Eh ls ns m t a cs cs.length)->Q (.ref S) H'):C1 K vs H Q
def fA (K:Ah):Sp:=λvs H Q _=>C1 K vs H Q
variable (P w K mg base) in
abbrev TR:Prop:=BF P w K mg base "_law_scopes" 2 ["_law_cells", "_law_labels", "_law_names_here", "_law_many", "_law_sizes"] (fA K)
theorem fB(B:BG mg)(a9:TN P w K mg base)(aA:TQ P w K mg base)(F:Bp K "_law_scopes" "_law_scopes" O1 f fd)(hm:mg "_law_scopes" = some (.ref f)):TR P w K mg base:=by
 refine B1 F hm Nb (λvs H a6 a7 h=>?_) (λaV aS aY s H vs a6 a7 hr h=>?_);obtain⟨af,L,ab,ag,T,ls,ns,m,t,a,rfl,_⟩:=h;rfl
 . obtain⟨af,L,ab,ag,T,ls,ns,m,t,a,rfl,hC,lc,hL,ll,hN,ln,hZ,m1,m5,E,a1,a8⟩:=h
   refine⟨_,(Ao (R6 (i:=5) Nb.nd rfl (Or.inl rfl) rfl Cm (Iu rfl B.b_range (Ab (pv 3) Ae)) (λ_ _ _ _ _=>(Ay (i:=0) Cm.nd)) (λ_ _ _ _ _=>IA) (λ_ _ _ _ _=>(Bw (Ab (CA Ae) (Ab (CA Ae) Ae)))))
    (Ao (AS (i:=6) Nb.nd (AE AF (CA (Ab Ai (Ab Ai Ae))) (Iw UE B.b_int (Ab (Kq GJ (pv 3) Ai (By _)) Ae))))
    (Ao (Cw Cr rfl (C6 (pv 0)) (Ay (i:=7) Nb.nd) (Ao (AS (i:=8) Nb.nd (AA Bj (AA Bj (AA Eo (AA Fi (pv 7) Ai) Ai) Ai) (pv 3)))
     (Ao (AS (i:=9) Nb.nd (AA Fi (pv 7) Ai))
     (Ao (Bk (PW.pt (GI (BI GJ (AA Bj (pv 7) Ai) Ai (By _)) (GH (BI GJ (BS Ec B.b_len (Ab (AE AF (AE AF (pv 5) (pv 8)) Ai) Ae)) (pv 6) (By _))))) (Av (Di (DG DK EF EG EI (AE AF (AE AF (pv 5) (pv 8)) Ai) (Ab (Ba a9 (Ab (pv 9) (Ab (pv 1) (Ab (pv 3) (Ab (AE AF (pv 4) Ai) Ae))))) Ae)))) Bm)
     (Av (Bk (PW.pt (GI (XJ GJ GJ Ai (AA Bj (pv 7) Ai) Ai) (GH (BI GJ (BS Ec B.b_len (Ab (AE AF (AE AF (pv 5) (pv 8)) Ai) Ae)) Ai (By _))))) (Av (Di (DG DK EF EG EI (AE AF (AE AF (pv 5) (pv 8)) Ai) (Ab (Ba aA (Ab (pv 9) (Ab (pv 1) (Ab (pv 2) (Ab (AE AF (pv 4) Ai) (Ab (AE AF (pv 4) Ai) Ae)))))) Ae)))) Bm))))))
    (Av (AZ (pv 5)))))),?_⟩
   try dsimp only[AG,Cx.nox,Cx.wish]
   refine⟨by omega,by omega,Sj (n:=m) (λD i ys r=>∃us d g:List Addr,ys=us.map V.ref/\Ac H r/\Dl r D us d g (List.replicate i (([],[]):Bi))/\(D::(d++g)).Nodup/\∀x∈d++g,H x=none)
    (λD hD=>⟨[],[],[],rfl,Bc hD,Dl.nil Aa,by simp,λx O=>by simp at O⟩) (λD i ys H7 RR hD hi hv k=>?_) (λS ys H7 aW hv=>?_)⟩
   refine AM λU b=>?_;obtain⟨us,d,g,rfl,l,SC,W,ae⟩:=hv;refine b ?_;clear b;have ay:=SC.lu;rw[List.length_replicate] at ay;refine⟨by decide,λG Q=>?_⟩;obtain⟨H8,aB,E,eG⟩:=new_at (o:=.lst []) Q;rw[<-aB];refine⟨by decide,λj A=>?_⟩;obtain⟨H9,aC,p,aD⟩:=new_at (o:=.lst []) A;rw[<-aC];refine⟨Cj,λu hu=>?_⟩;obtain⟨aE,aR,t3,eu⟩:=new_at (o:=.tup [.ref G,.ref j]) hu;rw[<-aR];have az:=(E.trans p).trans t3;have aF:=p.trans t3;have a0:=SC.same az;have al:=SC.alive
   have nG:G∉D::(d++g):=λy=>by
    rcases Ce.mp y with y|y;rw[y,SC.top] at Q;cases Q;obtain⟨xs,e⟩:=al G y;rw[e] at Q;cases Q
   have nE:j∉D::(d++g):=λy=>by
    rcases Ce.mp y with y|y;rw[y,E _ _ SC.top] at A;cases A;obtain⟨xs,e⟩:=al j y;rw[E _ _ e] at A;cases A
   have aG:G≠j:=λy=>by rw[<-y,eG] at A;cases A
   have aH:IE aE u G j ([],[]):=⟨eu,⟨[],aF _ _ eG,RT.nil⟩,⟨[],t3 _ _ aD,RT.nil⟩⟩;have aI:=a0.snoc aH (λz=>nG (z▸Bv)) (λz=>nE (z▸Bv)) (λx O z=>(Gj.mp W).1 (z▸O));refine k _ _ a0.top (by rw[Al,ay];exact BE (by omega)) ⟨us++[u],d++[G],g++[j],by rw[Bn];rfl,λaT o e=>?_,?_,YE W nG nE aG,λx O=>?_⟩;rw[AC (AJ e hD)];exact az _ _ (l _ _ e);rw[List.replicate_succ'];exact aI
   have:x∈d++g\/x=G\/x=j:=by
    simp only[BB,AY] at O ⊢;rcases O with(h|h)|(h|h);exact .inl (.inl h);exact .inr (.inl h);exact .inl (.inr h);exact .inr (.inr h)
   rcases this with h|h|h;exact ae x h;rw[h];exact l.free Q;rw[h];exact(l.trans E).free A;refine AM λU b=>?_;obtain⟨us,d,g,rfl,s4,aJ,W,ae⟩:=hv;refine b ?_;clear b;(try dsimp only);refine⟨Cj,λaU hl=>?_⟩;obtain⟨H5,aK,s5,el⟩:=new_at (o:=.lst [.int 2,.int 3]) hl;rw[<-aK]
   have aL:Bz [V.int 2,V.int 3] (if decide ((m:Int)<4)=true then 1 else 0)=some (.int (ER m)):=by
    unfold ER;by_cases h:m<4;rw[Aj (A4 (by omega)),Aj h];exact e9 _ _;rw[Ak (by rw[DS (by omega)];exact Cq),Ak h];exact e8 _ _
   refine Or.inr ⟨_,rfl,Or.inl ⟨_,.int (ER m),Ag.of el,aL,?_⟩⟩;refine AN ?_;(try dsimp only);have a2:=s4.trans s5;refine⟨⟨_,a2.seq hC⟩,EL (xs:=T.map V.int) (λi σ r=>∃u7 u8 u9,σ=[some (.ref af),some (.ref L),some (.ref ab),some (.int m),some (.ref ag),some (.ref S),some (.int (ER m)),u7,u8,u9]/\Ac H r/\Dl r S us d g (Eh ls ns m t a T i)) ⟨none,none,none,rfl,a2,aJ.same s5⟩ (λi σ r _ aM=>by obtain⟨_,_,_,_,s,_⟩:=aM;exact s.seq hC) ?_ ?_⟩;rotate_left;refine λσ H6 ak=>AM λU b=>?_;obtain⟨u7,u8,u9,rfl,I,q⟩:=ak;refine b ?_;clear b;rw[Al] at q;exact a8 S us d g _ I q;refine λi y σ H6 hy ak=>AM λU b=>?_;obtain⟨u7,u8,u9,rfl,I,q⟩:=ak;refine b ?_;clear b;obtain⟨c,hc,rfl⟩:=getm hy;have a3:=Qv (ls:=ls) (ns:=ns) m1 E a1 T i;rw[Xd hc];generalize Eh ls ns m t a T i=ss at q a3;refine AN ?_;(try dsimp only);refine⟨⟨by decide,by decide⟩,Or.inr ⟨by decide,by decide⟩,(by show(0:Int)<65539;decide),(by show(0:Int)<m;omega),?_⟩;refine AN ?_;(try dsimp only);refine⟨⟨by decide,by decide⟩,?_⟩;refine AN ?_;(try dsimp only);have r0:0<=BP m c:=EE _ (by omega);have r1:BP m c<m:=ED _ (by omega);obtain⟨n,R⟩:=Df r0;have aN:=a3.len;have an:n<ss.length:=(by omega);have a4:ES ss (BP m c)=ss[n]:=by unfold ES;rw[R,Be,BW,AD an];rfl
   have aX:ER m<=3:=by unfold ER;split<;>omega
   refine IC (λσ' r=>σ'=[some (.ref af),some (.ref L),some (.ref ab),some (.int m),some (.ref ag),some (.ref S),some (.int (ER m)),some (.int c),some (.int (BP m c)),some (.int (c/8))]/\Ac H r/\Dl r S us d g (IK ls m a ss c)) ?_ (λNX ao=>?_);rotate_left
   . refine AM λU b=>?_
     obtain⟨u,G,j,ah,ai,aj,g4,⟨X,⟨tG,J,Y⟩,_⟩⟩:=q.get an;refine b ?_;clear b;have aa:Bz (us.map V.ref) (BP m c)=some (.ref u):=by rw[R];exact Cf (by rw[Bh,ah];rfl)
     have aq:(tG.map V.ref).length=(ES ss (BP m c)).1.length:=(by rw[Al,Y.len,a4]);have no:¬(c%8<3/\(ES ss (BP m c)).1.length<ER m)->IK ls m a ss c=ss:=λz=>Ak z;refine⟨(by show(0:Int)<8;decide),rfl,Am (λM=>?_) (λM=>?_)⟩;rotate_left;refine ao _ _ ⟨rfl,I,?_⟩;rw[no λz=>M (A4 z.1)];exact q;have ar:c%8<3:=Bg M;refine Or.inl ⟨_,.ref u,Ag.of q.top,aa,Or.inr (Or.inl ⟨_,.ref G,Aq.of X,rfl,_,Or.inl ⟨_,Ag.of J,rfl⟩,rfl,Am (λN=>?_) (λN=>?_)⟩)⟩;rotate_left;refine ao _ _ ⟨rfl,I,?_⟩;rw[no λz=>N (A4 (by rw[aq];exact Int.ofNat_lt.mpr z.2))];exact q
     have au:(ES ss (BP m c)).1.length<ER m:=by
      have:=Bg N;rw[aq] at this;exact Int.ofNat_lt.mp this
     refine Or.inl ⟨_,.ref u,Ag.of q.top,aa,Or.inr (Or.inl ⟨_,.ref G,Aq.of X,rfl,Or.inl ⟨rfl,_,Ag.of J⟩,Or.inr (Or.inl ⟨_,.int a,I.seqT hZ,rfl,c/8,L,ls,m,a,rfl,I.seq hL,ll,m1,a1,λtp H8 aO p av=>?_⟩)⟩)⟩;have Z:=p _ _ J;have mG:G∈d++g:=D9 _ (Bd ai);refine⟨_,Z,by rw[aq];exact BE (by omega),ao _ _ ⟨rfl,λx o e=>?_,?_⟩⟩;rw[AC (AJ e (ae G mG))];exact p _ _ (I _ _ e);have:=(q.same p).step W an ai Z (Y.same p) av;unfold IK;rw[Aj ⟨ar,au⟩,a4,R,Be];exact this
   rintro σ' H7 ⟨rfl,l,C⟩;have aP:(IK ls m a ss c).length=m:=by rw[J6];exact aN
   show _;unfold Qs;generalize IK ls m a ss c=v at C aP;have ax:n<v.length:=(by omega);have a5:ES v (BP m c)=v[n]:=by unfold ES;rw[R,Be,BW,AD ax];rfl
   refine AM λU b=>?_;obtain⟨u,G,j,ah,ai,aj,g4,⟨X,_,⟨tE,J,Y⟩⟩⟩:=C.get ax;refine b ?_;clear b;have aa:Bz (us.map V.ref) (BP m c)=some (.ref u):=by rw[R];exact Cf (by rw[Bh,ah];rfl)
   have aw:(tE.map V.ref).length=(ES v (BP m c)).2.length:=(by rw[Al,Y.len,a5]);have no:¬((2<c%8/\c%8<6)/\(ES v (BP m c)).2.length<2)->Nh ls ns m t a v c=v:=λz=>Ak z;refine⟨(by show(0:Int)<8;decide),_,rfl,Am (λd0=>?_) (λd0=>?_)⟩;rotate_left;refine⟨rfl,Bs (Bs ⟨_,_,_,rfl,l,?_⟩)⟩;rw[no λz=>d0 (A4 z.1.1)];exact C;have aQ:2<c%8:=Bg d0;refine⟨rfl,Am (λM=>?_) (λM=>?_)⟩;rotate_left;refine⟨_,_,_,rfl,l,?_⟩;rw[no λz=>M (A4 z.1.2)];exact C;have ar:c%8<6:=Bg M;refine Or.inl ⟨_,.ref u,Ag.of C.top,aa,Or.inr (Or.inl ⟨_,.ref j,Aq.of X,rfl,_,Or.inl ⟨_,Ag.of J,rfl⟩,rfl,Am (λN=>?_) (λN=>?_)⟩)⟩;rotate_left;refine⟨_,_,_,rfl,l,?_⟩;rw[no λz=>N (A4 (by rw[aw];exact Int.ofNat_lt.mpr z.2))];exact C
   have au:(ES v (BP m c)).2.length<2:=by
    have:=Bg N;rw[aw] at this;exact Int.ofNat_lt.mp this
   refine Or.inl ⟨_,.ref u,Ag.of C.top,aa,Or.inr (Or.inl ⟨_,.ref j,Aq.of X,rfl,Or.inl ⟨rfl,_,Ag.of J⟩,Or.inr (Or.inl ⟨_,.int t,l.seqT hZ,rfl,Or.inr (Or.inl ⟨_,.int a,l.seqT hZ,rfl,c/8,L,ab,ls,ns,t,a,rfl,l.seq hL,ll,l.seq hN,ln,E,a1,λtp H8 aO p av=>?_⟩)⟩)⟩)⟩;have Z:=p _ _ J;have mE:j∈d++g:=De _ (Bd aj);refine⟨_,Z,by rw[aw];exact BE (by omega),⟨_,_,_,rfl,λx o e=>?_,?_⟩⟩;rw[AC (AJ e (ae j mE))];exact p _ _ (l _ _ e);have:=(C.same p).tell W ax aj Z (Y.same p) av;unfold Nh;rw[Aj ⟨⟨aQ,ar⟩,au⟩,a5,R,Be];exact this
abbrev Ei (ns:List Int):List Str:=GP (Fk ns 0) 3
abbrev Mz (ns:List Int):List Str:=GP (Fk ns 1) 5
def Ih (ns:List Int) (n:Nat):List Int:=(List.range n).map λk:Nat=>Fk ns (2+(k:Int))
abbrev MA (ns:List Int):Int:=Fk ns 7
abbrev Bu (ns:List Int):Nat:=(1+MA ns%5).toNat
abbrev B9 (ns:List Int):List Int:=ns.drop 9
def ET (cs:List Int):Nat:=(cs.filter λc=>decide (c%8=7)).length
def BH (ns:List Int):Nat:=1+min 5 (ET (B9 ns))
abbrev Dx (ns:List Int):Nat:=(1+Fk ns 2%3).toNat
def KW (m a:Nat) (l:List (Str×Int)) (c:Int):List (Str×Int):=if c%8=6/\l.length<6 then l++[Mt m a (c/8)] else l
def BQ (ns:List Int) (i:Nat):List (Str×Int):=((B9 ns).take i).foldl (KW (Bu ns) (BH ns)) [("part",MA ns/5%Bu ns)]
def J7 (nm:List Str) (m s:Nat) (l:List Qu) (c:Int):List Qu:=if c%8=7/\l.length<6 then l++[Dv nm m s (c/8)] else l
def Fy (ns:List Int) (i:Nat):List Qu:=((B9 ns).take i).foldl (J7 (Ei ns) (Bu ns) (Dx ns)) [Dv (Ei ns) (Bu ns) (Dx ns) (MA ns/25)]
theorem OM(ns:List Int):1<=Bu ns/\Bu ns<=5:=by unfold Bu;omega
theorem TU(ns:List Int):1<=Dx ns/\Dx ns<=3:=by unfold Dx;omega
theorem ON(ns:List Int):1<=BH ns/\BH ns<=6:=by unfold BH;omega
theorem Xf(h:(B9 ns)[i]?=some c):BQ ns (i+1)=KW (Bu ns) (BH ns) (BQ ns i) c:=by
 unfold BQ;rw[DJ,h,Ki];rfl
theorem Xg(h:(B9 ns)[i]?=some c):Fy ns (i+1)=J7 (Ei ns) (Bu ns) (Dx ns) (Fy ns i) c:=by
 unfold Fy;rw[DJ,h,Ki];rfl
theorem Qw(ns:List Int)(i:Nat):1<=(BQ ns i).length/\(BQ ns i).length<=6:=by
 unfold BQ;generalize (B9 ns).take i=l
 have:∀(l:List Int)(g:List (Str × Int)),1<=g.length/\g.length<=6->1<=(l.foldl (KW (Bu ns) (BH ns)) g).length/\(l.foldl (KW (Bu ns) (BH ns)) g).length<=6:=by
  intro l
  induction l with
  |nil=>exact λg h=>h
  |cons c l a =>
    intro g h;refine a _ ?_;unfold KW;split;rename_i k;rw[AW,DE];omega;exact h
 exact this l _ ⟨AB _,(by show 1<=6;decide)⟩
theorem J8(ns:List Int)(i:Nat):∀p∈BQ ns i,FM (Bu ns) (BH ns) p:=by
 unfold BQ;generalize (B9 ns).take i=l;have b:=OM ns;have d:=ON ns
 have:∀(l:List Int)(g:List (Str × Int)),(∀p∈g,FM (Bu ns) (BH ns) p) -> ∀p∈l.foldl (KW (Bu ns) (BH ns)) g,FM (Bu ns) (BH ns) p:=by
  intro l
  induction l with
  |nil=>exact λg h=>h
  |cons c l e =>
    intro g h;refine e _ ?_;unfold KW;split;intro p a;rcases BB.mp a with a|a;exact h p a;rw[AY.mp a];exact Mu b.1 d.1 _;exact h
 refine this l _ λp a=>?_;rw[AY.mp a];exact .inr (.inl ⟨rfl,EE _ (by omega),ED _ (by omega)⟩)
theorem Xh(ns:List Int)(i:Nat):(Fy ns i).length=1+min 5 (ET ((B9 ns).take i)):=by
 unfold Fy;generalize (B9 ns).take i=l
 have:∀(l:List Int)(g:List Qu),g.length<=6->(l.foldl (J7 (Ei ns) (Bu ns) (Dx ns)) g).length=min 6 (g.length+ET l):=by
  intro l
  induction l with
  |nil=>intro g h;show g.length=min 6 (g.length+0);omega
  |cons c l d =>
    intro g h;show(l.foldl _ (J7 (Ei ns) (Bu ns) (Dx ns) g c)).length=_
    have e:ET (c::l)=(if c%8=7 then 1 else 0)+ET l:=by
     unfold ET;rw[MJ];by_cases a:c%8=7;rw[Aj (A4 a),Aj a,Ej];omega;rw[Ak (by rw[DS a];exact Cq),Ak a];omega
    rw[e];by_cases k:c%8=7/\g.length<6;have b:J7 (Ei ns) (Bu ns) (Dx ns) g c=g++[Dv (Ei ns) (Bu ns) (Dx ns) (c/8)]:=Aj k;rw[b,d _ (by rw[AW,DE];omega),AW,DE,Aj k.1];omega;have b:J7 (Ei ns) (Bu ns) (Dx ns) g c=g:=Ak k;rw[b,d g h];by_cases a:c%8=7;have:¬g.length<6:=λz=>k ⟨a,z⟩;omega;rw[Ak a];omega
 rw[this l _ (by show 1<=6;decide)];show min 6 (1+ET l)=_;omega
theorem TV(ns:List Int):(Fy ns (B9 ns).length).length=BH ns:=by rw[Xh,D8];rfl
theorem MB(ns:List Int)(i:Nat):∀q∈Fy ns i,(0<=q.1/\q.1<Bu ns)/\(0<=q.2.1/\q.2.1<Dx ns)/\1<=q.2.2.length/\q.2.2.length<=8:=by
 unfold Fy;generalize (B9 ns).take i=l;have d:=OM ns;have e:=TU ns
 have one:∀c,(0<=(Dv (Ei ns) (Bu ns) (Dx ns) c).1/\(Dv (Ei ns) (Bu ns) (Dx ns) c).1<Bu ns)/\(0<=(Dv (Ei ns) (Bu ns) (Dx ns) c).2.1/\(Dv (Ei ns) (Bu ns) (Dx ns) c).2.1<Dx ns)/\1<=(Dv (Ei ns) (Bu ns) (Dx ns) c).2.2.length/\(Dv (Ei ns) (Bu ns) (Dx ns) c).2.2.length<=8:=λc=>by
  have:=J4 (Ei ns) c;exact⟨⟨EE _ (by omega),ED _ (by omega)⟩,⟨EE _ (by omega),ED _ (by omega)⟩,this.1,Ek this.2 (by decide)⟩
 have:∀(l:List Int)(g:List Qu),(∀q∈g,(0<=q.1/\q.1<Bu ns)/\(0<=q.2.1/\q.2.1<Dx ns)/\1<=q.2.2.length/\q.2.2.length<=8) -> ∀q∈l.foldl (J7 (Ei ns) (Bu ns) (Dx ns)) g,(0<=q.1/\q.1<Bu ns)/\(0<=q.2.1/\q.2.1<Dx ns)/\1<=q.2.2.length/\q.2.2.length<=8:=by
  intro l
  induction l with
  |nil=>exact λg h=>h
  |cons c l b =>
    intro g h;refine b _ ?_;unfold J7;split;intro p a;rcases BB.mp a with a|a;exact h p a;rw[AY.mp a];exact one _;exact h
 refine this l _ λp a=>?_;rw[AY.mp a];exact one _
structure Ni (ns:List Int) (ss:List Bi) (gs:List (Str×Int)) (qs:List Qu) (sts:List CN) (inn:Int) (ord:List (Str×Str)):Prop where
 ss:ss=Eh (Mz ns) (Ei ns) (Bu ns) (BQ ns (B9 ns).length).length (BH ns) (B9 ns) (B9 ns).length
 gs:gs=BQ ns (B9 ns).length
 qs:qs=Fy ns (B9 ns).length
 tb:OK (Ih ns 5) (Mz ns) sts inn ord
theorem Ni.uniq{ns:List Int}{ss d:List Bi}{gs e:List (Str×Int)}{qs f:List Qu}{g i:List CN}{inn j:Int}{ord l:List (Str×Str)}(h:Ni ns ss gs qs g inn ord)(k:Ni ns d e f i j l):ss=d/\gs=e/\qs=f/\g=i/\inn=j/\ord=l:=by
 obtain⟨a,b,c⟩:=h.tb.uniq k.tb;exact⟨h.ss.trans k.ss.symm,h.gs.trans k.gs.symm,h.qs.trans k.qs.symm,a,b,c⟩
theorem fC(ns:List Int)(n:Nat):Ih ns (n+1)=Ih ns n++[Fk ns (2+(n:Int))]:=by unfold Ih;rw[List.range_succ,Bn];rfl
theorem Xi(ns:List Int)(n:Nat):(Ih ns n).length=n:=by unfold Ih;rw[Al,List.length_range]
theorem Qx(ns:List Int):(Ih ns 5).getD 0 0=Fk ns 2:=rfl
theorem OO{gs:List (Str×Int)}{qs:List Qu}{f:List CN}{inn:Int}{ord:List (Str×Str)}(h:Ni ns ss gs qs f inn ord){as:List (Option (Str×Int))}(g:as.length=qs.length)(o:∀p,some p∈as->p.1=("thing" : Str)->0<=p.2/\p.2<gs.length):P0 ⟨ss,gs,as,f⟩ qs inn ord:=by
 have j:=OM ns;have r:=ON ns;have t:=Qw ns (B9 ns).length;have F:=TU ns;have eq:qs.length=BH ns:=(by rw[h.qs,TV]);have u:gs.length=(BQ ns (B9 ns).length).length:=(by rw[h.gs]);have a:=Qv (ls:=Mz ns) (ns:=Ei ns) j.1 t.1 r.1 (B9 ns) (B9 ns).length;rw[<-h.ss,<-u] at a;have ls:f.length=Dx ns:=(by rw[h.tb.len,Qx]);have k:(0:Int)<1+Fk ns 2%3:=(by omega);have l:(Dx ns:Int)=1+Fk ns 2%3:=by unfold Dx;omega
 have v:Fv ⟨ss,gs,as,f⟩:=by
  refine⟨λs b=>?_,λs b p d=>?_,λp d=>?_,o,λs b p d=>?_⟩;have:=a.st s b;have:ER (Bu ns)<=3:=by unfold ER;split<;>omega
  omega;show Fn ss.length as.length p;rw[a.len,g,eq];exact a.kst s b p d;show FM ss.length as.length p;rw[a.len,g,eq];exact J8 ns _ p (h.gs▸d);obtain⟨i,w,e⟩:=List.getElem_of_mem b;have x:=h.tb.at_ i s (by rw[AD w,e]);have:=Xa (ls:=Mz ns) (c:=(Ih ns 5).getD (1+i) 0) (n:=1+(Ih ns 5).getD 0 0%3) (by rw[Qx];exact k) 5 p (x.pg.mem_iff.mp d);rw[Qx] at this;show 0<=p.2/\p.2<(f.length:Int);rw[ls,l];exact this
 have y:∀s∈ss,s.1.length<=ER (Bu ns):=a.st
 have z:JD (ER (Bu ns)) ss.length*max 2 (ER (Bu ns))<=62:=by
  rw[a.len];generalize Bu ns=m at j;have:m=1\/m=2\/m=3\/m=4\/m=5:=(by omega);rcases this with e|e|e|e|e<;>subst e<;>decide
 obtain⟨ok,A⟩:=ZJ v (B:=ER (Bu ns)) y (by show ss.length<=100;rw[a.len];omega) z a.tl (λs b p d=>by
  show Fo gs.length as.length p
  rw[g,eq];exact a.ktl s b p d)
 refine⟨ok,A,?_,h.tb.ord.irr (W6 (by decide)),?_,λq C=>?_⟩;have:=h.tb.ord.len (by rw[Ng];decide);omega;rw[h.tb.inn,Qx];show 0<=_/\_<(f.length:Int);have D:=EE (Fk ns 2/3) (show 1+Fk ns 2%3≠0 by omega);have E:=ED (Fk ns 2/3) k;rw[ls,l];exact⟨D,E⟩;have:=MB ns _ q (h.qs▸C);show(0<=q.1/\q.1<(ss.length:Int))/\(0<=q.2.1/\q.2.1<(f.length:Int))/\_;rw[a.len,ls];exact this
inductive D0 (K:Ah) (vs:List V) (H:Hp) (Q:VK):Prop where
 |mk (a:Addr) (ns:List Int) (h0:vs=[.ref a]) (h1:Ag K H a (ns.map V.int)) (h2:ns.length<=63) (h3:∀(r nt t S T R:Addr)(us Gs Es ts qt:List Addr)(ss:List Bi)(gs:List (Str×Int))(qs:List Qu)(sts:List CN)(inn:Int)(ord:List (Str×Str))(H':Hp),Ac H H'->H' r=some (.tup [.ref nt,.ref t])->H' nt=some (.tup [.ref S,.ref T,.ref R])->Gd H' S T R us Gs Es ts qt ss gs qs->Gc K (λ_=>True) H' t sts inn ord->Ni ns ss gs qs sts inn ord->Q (.ref r) H'):D0 K vs H Q
def fE (K:Ah):Sp:=λvs H Q _=>D0 K vs H Q
variable (P w K mg base) in
abbrev Qy:Prop:=BF P w K mg base "_law_made" 4 ["_law_script"] (fE K)
theorem fF (B:BG mg) (aB:Tv P w K mg base) (ah:OH P w K mg base) (bg:TJ P w K mg base) (aC:TL P w K mg base) (bh:TM P w K mg base) (bi:TR P w K mg base) (F:Bp K "_law_made" "_law_made" Nl f fd) (hm:mg "_law_made" = some (.ref f)):Qy P w K mg base:=by
 refine B1 F hm G2 (λvs aq ba bb ar=>?_) (λbH bF bT s aq vs ba bb hr ar=>?_);obtain⟨a,ns,rfl,_⟩:=ar;rfl
 . obtain⟨a,ns,rfl,S,bR,q⟩:=ar
   have U:=OM ns;have z2:=ON ns;have z3:=TU ns
   refine⟨_,(Ao (AS (i:=1) G2.nd (Ba aB (Ab (Ba ah (Ab (pv 0) (Ab Ai Ae))) (Ab Ai Ae))))
    (Ao (AS (i:=2) G2.nd (Ba aB (Ab (Ba ah (Ab (pv 0) (Ab Ai Ae))) (Ab Ai Ae))))
    (Ao (AS (i:=3) G2.nd (Ba bg (Ab (Ho rfl CY (XE rfl B.b_range (Ab Ai (Ab Ai Ae))) (λ_ _ _ _ _=>(Ay (i:=0) CY.nd)) (λ_ _ _ _ _=>IA) (λ_ _ _ _ _=>(Ba ah (Ab (pv 1) (Ab (pv 0) Ae))))) (Ab (pv 2) Ae))))
    (Ao (AS (i:=4) G2.nd (Ba ah (Ab (pv 0) (Ab Ai Ae))))
    (Ao (AS (i:=5) G2.nd (AA Gr Ai (AA Bj (pv 4) Ai)))
    (Ao (AS (i:=6) G2.nd (RM RP (pv 0) (Pe Ai) UK))
    (Ao (AS (i:=7) G2.nd (CA (Ab (Bw (Ab B2 (Ab (AA Bj (AA Fi (pv 4) Ai) (pv 5)) Ae))) Ae)))
    (Ao (AS (i:=8) G2.nd (CA (Ab (Ba aC (Ab (AA Fi (pv 4) Ai) (Ab (pv 5) (Ab (BS Ec B.b_len (Ab (AE AF (pv 3) Ai) Ae)) (Ab (pv 1) Ae))))) Ae)))
    (Ao (AS (i:=9) G2.nd (AA Gr Ai (BS (XN rfl) B.b_min (Ab Ai (Ab (BS Ec B.b_len (Ab (Ho rfl CZ (C6 (pv 6)) (λ_ _ _ _ _=>(Ay (i:=0) CZ.nd)) (λ_ _ _ _ _=>(Po (BI Cz (AA Bj (pv 0) Ai) Ai (By _)))) (λ_ _ _ _ _=>(pv 0))) Ae)) Ae)))))
    (Ao (Cw Cr rfl (C6 (pv 6)) (Ay (i:=10) G2.nd) (Ao (Bk (PW.pt (GI (BI Cz (AA Bj (pv 10) Ai) Ai (By _)) (GH (BI GJ (BS Ec B.b_len (Ab (pv 7) Ae)) Ai (By _))))) (Av (Di (DG DK EF EG EI (pv 7) (Ab (Ba bh (Ab (AA Fi (pv 10) Ai) (Ab (pv 5) (Ab (pv 9) Ae)))) Ae)))) Bm)
     (Av (Bk (PW.pt (GI (BI Cz (AA Bj (pv 10) Ai) Ai (By _)) (GH (BI GJ (BS Ec B.b_len (Ab (pv 8) Ae)) Ai (By _))))) (Av (Di (DG DK EF EG EI (pv 8) (Ab (Ba aC (Ab (AA Fi (pv 10) Ai) (Ab (pv 5) (Ab (BS Ec B.b_len (Ab (AE AF (pv 3) Ai) Ae)) (Ab (pv 1) Ae))))) Ae)))) Bm))))
    (Ao (AS (i:=11) G2.nd (Ba bi (Ab (pv 6) (Ab (pv 2) (Ab (pv 1) (Ab (pv 5) (Ab (Bw (Ab (BS Ec B.b_len (Ab (pv 7) Ae)) (Ab (pv 9) Ae))) Ae)))))))
    (Av (AZ (Bw (Ab (Bw (Ab (pv 11) (Ab (pv 7) (Ab (pv 8) Ae)))) (Ab (pv 3) Ae)))))))))))))))),?_⟩
   (try dsimp only[AG,Cx.nox,Cx.wish]);refine⟨a,ns,0,rfl,by decide,S,_,3,rfl,by decide,by decide,λN bG hN s1 eN=>?_⟩;refine AN ?_;(try dsimp only);refine⟨a,ns,1,rfl,by decide,s1.seq S,_,5,rfl,by decide,by decide,λag H2 hL s2 eL=>?_⟩;have aD:=s1.trans s2;have bj:=s2 _ _ eN;refine AN ?_;(try dsimp only)
   refine⟨_,_,rfl,⟨by decide,by decide,by decide,by decide⟩,Sj (lo:=2) (n:=5) (λD i A b=>Ac H2 b/\b D=some (.lst A)/\A=(Ih ns i).map V.int)
    (λD E=>⟨Bc E,Aa,rfl⟩) (λD i A H3 RR E hi G k=>?_) (λTC A H3 bI G=>?_)⟩
   obtain⟨M,eD,rfl⟩:=G;refine⟨a,ns,2+(i:Int),rfl,by omega,(aD.trans M).seq S,?_⟩;refine k _ _ eD (by rw[Al,Xi];exact BE (by omega)) ⟨λbc o e=>?_,Aa,?_⟩;rw[AC (AJ e E)];exact M _ _ e;rw[fC,Bn];rfl;obtain⟨M,bk,rfl⟩:=G;have bl:=aD.trans M;have aE:=M _ _ eL;have aw:=M _ _ bj;refine⟨TC,ag,Ih ns 5,Mz ns,rfl,Ag.of bk,Xi ns 5,Ag.of aE,Ng _ _,λt bm bn bo H4 W TB aF=>?_⟩;have ai:=bl.trans W;refine AN ?_;(try dsimp only);refine⟨a,ns,7,rfl,by decide,ai.seq S,?_⟩;refine AN ?_;(try dsimp only);refine⟨(by show(0:Int)<5;decide),?_⟩;dsimp only[IW,Iq];rw[show(1+Fk ns 7%5:Int)=(Bu ns:Int) by unfold Bu MA;omega];refine AN ?_;(try dsimp only)
   refine⟨_,rfl,a,_,rfl,ai.seq S,λX h0=>?_⟩;rw[show DN (ns.map V.int) (some 9) none=(B9 ns).map V.int from(Yk _ 9).trans (List.map_drop).symm];obtain⟨H5,bp,s5,ax⟩:=new_at (o:=.lst ((B9 ns).map V.int)) h0;rw[<-bp];refine AN ?_;try dsimp only
   have aG:=ai.trans s5;have bq:(B9 ns).length<=63:=by rw[Kh];omega
   refine⟨⟨by decide,by decide⟩,(by show(0:Int)<Bu ns;omega),Cj,λp1 br=>?_⟩;obtain⟨H6,bs,s6,bt⟩:=new_at (o:=.tup [.str "part",.int (MA ns/5%Bu ns)]) br;rw[<-bs];refine⟨Hr,λT Y=>?_⟩;obtain⟨H7,bu,s7,aH⟩:=new_at (o:=.lst [.ref p1]) Y;rw[<-bu];refine AN ?_;(try dsimp only);have aj:=s6.trans s7;have aI:=aG.trans aj;refine AM λNz u=>?_;obtain⟨a9,tO,tu,bJ,et,_,_,_,aJ,SR,_⟩:=TB.ex;refine u ?_;clear u;have aK:(tu.map V.ref).length=Dx ns:=by rw[Al,SR.len,aF.len];rfl
   have aa:=s5.trans aj;refine⟨⟨by decide,by decide⟩,Or.inr (Or.inl ⟨_,.ref a9,Aq.of (aa _ _ et),rfl,_,Or.inl ⟨_,Ag.of (aa _ _ aJ),rfl⟩,_,N,Ei ns,Bu ns,(tu.map V.ref).length,rfl,Ag.of ((W.trans aa) _ _ aw),Ng _ _,U.1,by omega,λpq pu H8 Z aL aM=>?_⟩)⟩;rw[aK] at aL aM;refine⟨Hr,λR H=>?_⟩;obtain⟨H9,bv,s9,bw⟩:=new_at (o:=.lst [.ref pq]) H;rw[<-bv];refine AN ?_;(try dsimp only);have ab:=Z.trans s9;have a7:=(aj.trans ab) _ _ ax
   refine⟨⟨_,Ag.of a7⟩,Pu (xs:=(B9 ns).map V.int) (λD i A b=>Ac H9 b/\b D=some (.lst A)/\A=(((B9 ns).take i).filter λc=>decide (c%8=7)).map V.int)
    (λD E=>⟨Bc E,Aa,rfl⟩) (λD i A b ay=>by obtain⟨s,_⟩:=ay;exact Ag.of (s _ _ a7)) (λD au bd A ak RR R0 E hy G k k0=>?_) (λCD A ak bK G=>?_)⟩
   obtain⟨v,eD,rfl⟩:=G;obtain⟨c,C,rfl⟩:=getm hy;have bL:au<(B9 ns).length:=(A7.mp C).1;refine⟨(by show(0:Int)<8;decide),rfl,rfl,Am (λav=>?_) (λav=>?_)⟩;have d':c%8=7:=V.int.inj (Bg av);refine k _ _ eD ?_ ⟨λbc o e=>?_,Aa,?_⟩;have h1:(((B9 ns).take au).filter λc=>decide (c%8=7)).length<=((B9 ns).take au).length:=O0 _ _;rw[FH] at h1;rw[Al];exact BE (by omega);rw[AC (AJ e E)];exact v _ _ e;rw[DJ,C,Nk,Bn];congr 1;show _=(List.filter _ [c]).map V.int;rw[MJ,Aj (A4 d')];rfl;have d':¬c%8=7:=λz=>av (A4 (by show V.int (c%8)=V.int 7;rw[z]));refine k0 _ ⟨v,eD,?_⟩;rw[DJ,C,Nk,Bn];show _=_++(List.filter _ [c]).map V.int;rw[MJ,Ak (by rw[DS d'];exact Cq)];exact(FA _).symm;obtain⟨v,aN,rfl⟩:=G;rw[Al,D8] at aN;have bx:(((B9 ns).filter λc=>decide (c%8=7)).map V.int).length=ET (B9 ns):=Al _;refine⟨_,Or.inl ⟨_,Ag.of aN,rfl⟩,_,_,rfl,?_⟩;rw[bx];dsimp only[IW,Iq]
   rw[show(1+(if((ET (B9 ns):Nat):Int)<5 then((ET (B9 ns):Nat):Int) else 5):Int)=(BH ns:Int) by unfold BH;split<;>omega]
   refine AN ?_;(try dsimp only);have aR:=(ab.trans v) _ _ aH;have aS:=v _ _ bw;have bM:aq T=none:=(aG.trans s6).free Y;have bN:aq R=none:=(aI.trans Z).free H;have aO:T≠R:=λz=>by rw[<-z,Z _ _ aH] at H;cases H
   have a8:=v _ _ a7;have aT:X≠T:=λz=>by rw[<-z,s6 _ _ ax] at Y;cases Y
   have aU:X≠R:=λz=>by rw[<-z,(aj.trans Z) _ _ ax] at H;cases H
   have bS:=aI.trans (ab.trans v);have b9:=aa.trans (ab.trans v);have bz:H4 T=none:=(s5.trans s6).free Y;have b0:H4 R=none:=(aa.trans Z).free H;have az:∀{b:Hp},Keeps (λx=>x=T\/x=R) ak b->Ac H4 b:=λk x o e=>k.at_ _ _ (b9 _ _ e) λz=>z.elim (AJ e bz) (AJ e b0)
   refine⟨⟨_,Ag.of a8⟩,EL (xs:=(B9 ns).map V.int) (λi σ b=>∃a0 d g,σ=[some (.ref a),some (.ref N),some (.ref ag),some (.ref t),some (.int (Fk ns 7)),some (.int (Bu ns)),some (.ref X),some (.ref T),some (.ref R),some (.int (BH ns)),a0,none]/\Keeps (λx=>x=T\/x=R) ak b/\b T=some (.lst (d.map V.ref))/\GT b d (BQ ns i)/\b R=some (.lst (g.map V.ref))/\QT b g (Fy ns i))
    ⟨none,[p1],[pq],rfl,Keeps.refl λx o m e=>?_,aR,?_,aS,?_⟩ (λi σ b _ ay=>by obtain⟨_,_,_,_,k,_⟩:=ay;exact Ag.of (k.at_ _ _ a8 λz=>z.elim aT aU)) ?_ ?_⟩
   rcases m with m|m;rw[m,aR] at e;exact⟨_,(Bo e).symm⟩;rw[m,aS] at e;exact⟨_,(Bo e).symm⟩;exact GT.nil.snoc (p:=(("part" : Str),MA ns/5%Bu ns)) ((s7.trans (ab.trans v)) _ _ bt);exact QT.nil.snoc (q:=Dv (Ei ns) (Bu ns) (Dx ns) (MA ns/25)) ((s9.trans v) _ _ aL) ((s9.trans v) _ _ aM)
   . refine λi bd σ b1 hy ae=>AM λNz u=>?_
     obtain⟨a0,d,g,rfl,L,h,j,l,y⟩:=ae;refine u ?_;clear u;refine F5 ?_;intro Nx Cy;obtain⟨c,C,rfl⟩:=getm hy;refine AN ?_;(try dsimp only);have ao:=az L;have af:(d.map V.ref).length=(BQ ns i).length:=(by rw[Al,j.len]);have a1:(g.map V.ref).length=(Fy ns i).length:=(by rw[Al,y.len]);have b6:=(Qw ns i).2;have q6:(Fy ns i).length<=6:=by rw[Xh];omega
     refine IC (λσ' b=>∃d,σ'=[some (.ref a),some (.ref N),some (.ref ag),some (.ref t),some (.int (Fk ns 7)),some (.int (Bu ns)),some (.ref X),some (.ref T),some (.ref R),some (.int (BH ns)),some (.int c),none]/\Keeps (λx=>x=T\/x=R) ak b/\b T=some (.lst (d.map V.ref))/\GT b d (BQ ns (i+1))/\b R=some (.lst (g.map V.ref))/\QT b g (Fy ns i)) ?_ (λNX a2=>?_);rotate_left
     . have no:¬(c%8=6/\(BQ ns i).length<6)->BQ ns (i+1)=BQ ns i:=λz=>by rw[Xf C];exact Ak z
       refine⟨(by show(0:Int)<8;decide),rfl,rfl,Am (λI=>?_) (λI=>?_)⟩;rotate_left;refine a2 _ _ ⟨d,rfl,L,h,?_,l,y⟩;rw[no λz=>I (A4 (by show V.int (c%8)=V.int 6;rw[z.1]))];exact j;have a3:c%8=6:=V.int.inj (Bg I);refine⟨_,Or.inl ⟨_,Ag.of h,rfl⟩,rfl,Am (λJ=>?_) (λJ=>?_)⟩;rotate_left;refine a2 _ _ ⟨d,rfl,L,h,?_,l,y⟩;rw[no λz=>J (A4 (by rw[af];exact Int.ofNat_lt.mpr z.2))];exact j
       have a4:(BQ ns i).length<6:=by
        have:=Bg J;rw[af] at this;exact Int.ofNat_lt.mp this
       refine⟨Or.inl ⟨rfl,_,Ag.of h⟩,⟨by decide,by decide⟩,c/8,Bu ns,BH ns,rfl,U.1,z2.1,λtp al bO r b2=>?_⟩;have aV:=r _ _ h;have kT:Keeps (·=T) al (upd al T (.lst (d.map V.ref++[.ref tp]))):=Keeps.one aV;refine⟨_,aV,by rw[af];exact BE (by omega),a2 _ _ ⟨d++[tp],rfl,(L.same r).set (.inl rfl),by rw[Aa,Bn];rfl,?_,kT.at_ _ _ (r _ _ l) (Ne.symm aO),(y.same r).keeps kT⟩⟩;rw[Xf C,show KW (Bu ns) (BH ns) (BQ ns i) c=BQ ns i++[Mt (Bu ns) (BH ns) (c/8)] from Aj ⟨a3,a4⟩];exact((j.same r).snoc b2).keeps kT
     refine λσ' al ae=>AM λNz u=>?_;obtain⟨d,rfl,an,h,j,l,y⟩:=ae;refine u ?_;clear u;have O:=az an;have no:¬(c%8=7/\(Fy ns i).length<6)->Fy ns (i+1)=Fy ns i:=λz=>by rw[Xg C];exact Ak z
     refine⟨(by show(0:Int)<8;decide),rfl,rfl,Am (λI=>?_) (λI=>?_)⟩;rotate_left;refine⟨_,d,g,rfl,an,h,j,l,?_⟩;rw[no λz=>I (A4 (by show V.int (c%8)=V.int 7;rw[z.1]))];exact y;have a3:c%8=7:=V.int.inj (Bg I);refine⟨_,Or.inl ⟨_,Ag.of l,rfl⟩,rfl,Am (λJ=>?_) (λJ=>?_)⟩;rotate_left;refine⟨_,d,g,rfl,an,h,j,l,?_⟩;rw[no λz=>J (A4 (by rw[a1];exact Int.ofNat_lt.mpr z.2))];exact y
     have a4:(Fy ns i).length<6:=by
      have:=Bg J;rw[a1] at this;exact Int.ofNat_lt.mp this
     refine⟨Or.inl ⟨rfl,_,Ag.of l⟩,⟨by decide,by decide⟩,Or.inr (Or.inl ⟨_,.ref a9,Aq.of (O _ _ et),rfl,_,Or.inl ⟨_,Ag.of (O _ _ aJ),rfl⟩,c/8,N,Ei ns,Bu ns,(tu.map V.ref).length,rfl,Ag.of ((W.trans O) _ _ aw),Ng _ _,U.1,by omega,λaP bP a5 r aW aX=>?_⟩)⟩;rw[aK] at aW aX;have aY:=r _ _ l;have kR:Keeps (·=R) a5 (upd a5 R (.lst (g.map V.ref++[.ref aP]))):=Keeps.one aY;refine⟨_,aY,by rw[a1];exact BE (by omega),⟨_,d,g++[aP],rfl,(an.same r).set (.inr rfl),kR.at_ _ _ (r _ _ h) aO,(j.same r).keeps kR,by rw[Aa,Bn];rfl,?_⟩⟩;rw[Xg C,show J7 (Ei ns) (Bu ns) (Dx ns) (Fy ns i) c=Fy ns i++[Dv (Ei ns) (Bu ns) (Dx ns) (c/8)] from Aj ⟨a3,a4⟩];exact((y.same r).snoc aW aX).keeps kR
   refine λσ b1 ae=>AM λNz u=>?_;obtain⟨a0,d,g,rfl,L,h,j,l,y⟩:=ae;refine u ?_;clear u;rw[Al] at j y;have ao:=az L;have bA:=ai.trans ao;have b3:=Qw ns (B9 ns).length;have af:(d.map V.ref).length=(BQ ns (B9 ns).length).length:=(by rw[Al,j.len]);have bB:=L.at_ _ _ a8 λz=>z.elim aT aU;refine⟨_,Or.inl ⟨_,Ag.of h,rfl⟩,Cj,λbe hZ=>?_⟩;rw[af];obtain⟨al,bC,a6,eZ⟩:=new_at (o:=.tup [.int (BQ ns (B9 ns).length).length,.int (BH ns)]) hZ;rw[<-bC];have O:=ao.trans a6;refine⟨X,ag,N,be,B9 ns,Mz ns,Ei ns,Bu ns,(BQ ns (B9 ns).length).length,BH ns,rfl,Ag.of (a6 _ _ bB),bq,Ag.of ((W.trans O) _ _ aE),Ng _ _,Ag.of ((W.trans O) _ _ aw),Ng _ _,Aq.of eZ,U.1,U.2,b3.1,z2.1,λaA us Gs Es a5 b4 SC=>?_⟩;refine AN ?_;(try dsimp only);have bE:=a6.trans b4;refine⟨Jq,λnt b5=>?_⟩;obtain⟨bQ,bD,b7,b8⟩:=new_at (o:=.tup [.ref aA,.ref T,.ref R]) b5;rw[<-bD];refine⟨Cj,λbf hr=>?_⟩;have aQ:=Bc (o:=.tup [.ref nt,.ref t]) hr;have aZ:=b7.trans aQ;have Q:=bE.trans aZ;exact q bf nt t aA T R us Gs Es d g _ _ _ bm bn bo _ (bA.trans Q) Aa (aQ _ _ b8) ⟨SC.same aZ,Q _ _ h,j.same Q,Q _ _ l,y.same Q⟩ (TB.same (ao.trans Q)) ⟨rfl,rfl,rfl,aF⟩
inductive Dy (K:Ah) (vs:List V) (H:Hp) (Q:VK):Prop where
 |mk (t a o:Addr) (inn:V) (ss:List CN) (n:Int) (k:Nat) (s:CN) (x:Str) (h0:vs=[.ref t,.int n,.str x]) (h1:n=k) (h2:Aq K H t [.ref a,inn,.ref o]) (h3:Hu K H a ss) (h4:ss[k]?=some s) (h5:Q (Ee (El s.1 x)) H):Dy K vs H Q
def fG (K:Ah):Sp:=λvs H Q _=>Dy K vs H Q
variable (P w K mg base) in
abbrev Qz:Prop:=BF P w K mg base "next_state" 1 ["table", "state", "label"] (fG K)
theorem fH(B:BG mg)(F:Bp K "next_state" "next_state" QX f fd)(D:mg "next_state" = some (.ref f)):Qz P w K mg base:=by
 refine B1 F D Qh (λl H Q E h=>?_) (λae A af s H l Q E hr h=>?_);obtain⟨t,a,o,U,ss,n,k,s,x,rfl,_⟩:=h;rfl;obtain⟨t,a,o,U,ss,n,k,s,x,rfl,rfl,G,⟨l,I,J⟩,L,q⟩:=h;obtain⟨aa,M,W⟩:=J.get' (i:=k) (d:=N8 s) (by rw[Bh,L];rfl);obtain⟨N,g,e,rfl,X,⟨O,u,C⟩,he⟩:=FL W;have Y:=C.len_map
 refine⟨_,(Ao (AS (i:=3) Qh.nd (AE AF (AE AF (AE AF (pv 0) Ai) (pv 1)) Ai))
  (Ao (Cw Cr rfl (C6 (pv 3)) (Ct (n:=2) rfl (AK (Ay (i:=4) Qh.nd) (AK (Ay (i:=5) Qh.nd) Cs))) (Av (Bk (BI Cz (pv 4) (pv 2) (By _)) (Av (AZ (pv 5))) Bm)))
  (Av (AZ GG)))),?_⟩
 (try dsimp only[AG,Cx.nox,Cx.wish]);refine Or.inr (Or.inl ⟨_,.ref a,G,rfl,?_⟩);refine Or.inl ⟨l,.ref N,I,Cf M,?_⟩;refine Or.inr (Or.inl ⟨_,.ref g,X,rfl,?_⟩);refine⟨⟨_,u⟩,EL (xs:=O) (λi σ v=>∃m r,σ=[some (.ref t),some (.int k),some (.str x),some (.ref g),m,r]/\v=H/\∀q∈s.1.take i,q.1≠x) ⟨none,none,rfl,rfl,λq b=>by simp at b⟩ (λi σ v _ Z=>by obtain⟨_,_,_,e,_⟩:=Z;exact by rw[e];exact u) ?_ ?_⟩;rintro i ab σ R S ⟨m,r,rfl,rfl,j⟩;obtain⟨p,t',y,rfl,T⟩:=C.goes_get S;refine⟨_,T,rfl,?_⟩;refine⟨rfl,rfl,?_⟩;refine Am (λc=>?_) (λc=>?_);have c:p.1=x:=V.str.inj (Bg c);rw[Hz y c j] at q;exact q;have c:p.1≠x:=λz=>c (A4 (by rw[z]));refine⟨_,_,rfl,rfl,λq b=>?_⟩;rw[DJ,y] at b;rcases BB.mp b with b|b;exact j q b;rw[AY.mp b];exact c;rintro σ R ⟨m,r,rfl,rfl,j⟩;rw[Y,D8] at j;rw[Vt j] at q;exact q
inductive Ca (K:Ah) (vs:List V) (H:Hp) (Q:VK):Prop where
 |mk (t S T R A:Addr) (ths:List (Str×Int)) (as:List (Option (Str×Int))) (n:Int) (k:Nat) (h0:vs=[.ref t,.ref A,.int n]) (h1:n=k) (h2:k<as.length) (h3:Aq K H t [.ref S,.ref T,.ref R]) (h4:C8 K H T ths) (h5:GZ K H A as) (h6:Gu ths as) (h7:∀(r:Addr)(H':Hp),H r=none->Ac H H'->H' r=some (.tup [.str (Ed ths as n).1,.int (Ed ths as n).2])->Q (.ref r) H'):Ca K vs H Q
def fI (K:Ah):Sp:=λvs H Q _=>Ca K vs H Q
variable (P w K mg base) in
abbrev TW:Prop:=BF P w K mg base "inside_of_sort" 1 ["net", "answers", "question"] (fI K)
theorem fJ(B:BG mg)(F:Bp K "inside_of_sort" "inside_of_sort" QY f fd)(c:mg "inside_of_sort" = some (.ref f)):TW P w K mg base:=by
 refine B1 F c Qi (λg H Q E h=>?_) (λaa A ab s H g Q E a h=>?_);obtain⟨t,S,T,R,A,e,x,n,k,rfl,_⟩:=h;rfl;obtain⟨t,S,T,R,A,e,x,n,k,rfl,rfl,y,C,D,G,ok,q⟩:=h;obtain⟨g,v,N,I,L⟩:=G.get y
 refine⟨_,(Ao (AS (i:=3) Qi.nd (AE AF (pv 1) (pv 2)))
  (Ao (Bk (FC (Gb (pv 3))) (Av (AZ (Bw (Ab B2 (Ab (pv 2) Ae))))) Bm)
  (Ao (Bk (BI Cz (AE AF (pv 3) Ai) B2 (By _)) (Ao (DL (AE AF (AE AF (pv 0) Ai) (AE AF (pv 3) Ai)) (Ct (n:=2) rfl (AK (Ay (i:=4) Qi.nd) (AK (Ay (i:=5) Qi.nd) Cs))))
   (Av (Bk (BI Cz (pv 4) B2 (By _)) (Av (AZ (Bw (Ab B2 (Ab (pv 5) Ae))))) Bm))) Bm)
  (Av (AZ (Bw (Ab B2 (Ab Ai Ae)))))))),?_⟩
 (try dsimp only[AG,Cx.nox,Cx.wish]);refine Or.inl ⟨g,v,N,Cf I,?_⟩;rcases L with⟨b,rfl⟩|⟨p,Z,b,rfl,u⟩;refine⟨rfl,Am (λ_=>?_) (λh=>absurd (A4 rfl) h)⟩;refine⟨Cj,λr a=>?_⟩;rw[YA b] at q;exact q r _ a (Bc a) Aa;refine⟨rfl,Am (λh=>absurd (Bg h) (by simp)) (λ_=>?_)⟩;refine Or.inr (Or.inl ⟨_,.str p.1,u,rfl,rfl,rfl,Am (λh=>?_) (λh=>?_)⟩);have d:p.1=("thing" : Str):=V.str.inj (Bg h);obtain⟨M,p1⟩:=ok.t p (Bd b) d;obtain⟨m,c⟩:=Df M;have O:m<e.length:=(by omega);have j:=AD O;obtain⟨J,o,U,W,X⟩:=D.get j;have Y:Bz J p.2=some (.ref o):=by rw[c];exact Cf W
 refine Or.inr (Or.inl ⟨_,.ref T,C,rfl,Or.inr (Or.inl ⟨_,.int p.2,u,rfl,Or.inl ⟨J,.ref o,U,Y,?_⟩⟩)⟩);refine⟨_,X,rfl,?_⟩;refine⟨rfl,rfl,Am (λh=>?_) (λh=>?_)⟩;have l:e[m].1=("part" : Str):=V.str.inj (Bg h);refine⟨Cj,λr a=>?_⟩;rw[YC b d c j l] at q;exact q r _ a (Bc a) Aa;have l:e[m].1≠("part" : Str):=λz=>h (A4 (by rw[z]));refine⟨Cj,λr a=>?_⟩;rw[YD b d c j l] at q;exact q r _ a (Bc a) Aa;have d:p.1≠("thing" : Str):=λz=>h (A4 (by rw[z]));refine⟨Cj,λr a=>?_⟩;rw[YB b d] at q;exact q r _ a (Bc a) Aa
inductive FW (K:Ah) (vs:List V) (H:Hp) (Q:VK):Prop where
 |mk (t S T R A:Addr) (ths:List (Str×Int)) (as:List (Option (Str×Int))) (n:Int) (k:Nat) (p:Str×Int) (h0:vs=[.ref t,.ref A,.int n]) (h1:n=k) (h2:ths[k]?=some p) (h3:Aq K H t [.ref S,.ref T,.ref R]) (h4:C8 K H T ths) (h5:GZ K H A as) (h6:Gu ths as) (h7:∀(r:Addr)(H':Hp),H r=none->Ac H H'->H' r=some (.tup [.str (Dk ths as p).1,.int (Dk ths as p).2])->Q (.ref r) H'):FW K vs H Q
def fK (K:Ah):Sp:=λvs H Q _=>FW K vs H Q
variable (P w K mg base) in
abbrev QA:Prop:=BF P w K mg base "inside" 2 ["net", "answers", "thing"] (fK K)
theorem fL(B:BG mg)(C:TW P w K mg base)(F:Bp K "inside" "inside" QZ f fd)(g:mg "inside" = some (.ref f)):QA P w K mg base:=by
 refine B1 F g Tq (λu H Q E h=>?_) (λM A N s H u Q E a h=>?_);obtain⟨t,S,T,R,A,c,b,n,k,p,rfl,_⟩:=h;rfl;obtain⟨t,S,T,R,A,c,b,n,k,p,rfl,rfl,j,l,o,v,ok,q⟩:=h;obtain⟨J,x,D,G,I⟩:=o.get j
 refine⟨_,(Ao (DL (AE AF (AE AF (pv 0) Ai) (pv 2)) (Ct (n:=2) rfl (AK (Ay (i:=3) Tq.nd) (AK (Ay (i:=4) Tq.nd) Cs))))
  (Ao (Bk (BI Cz (pv 3) B2 (By _)) (Av (AZ (Bw (Ab B2 (Ab (pv 4) Ae))))) Bm)
  (Ao (Bk (BI Cz (pv 3) B2 (By _)) (Av (AZ (Ba C (Ab (pv 0) (Ab (pv 1) (Ab (pv 4) Ae)))))) Bm)
  (Av (AZ (Bw (Ab B2 (Ab Ai Ae)))))))),?_⟩
 (try dsimp only[AG,Cx.nox,Cx.wish]);refine Or.inr (Or.inl ⟨_,.ref T,l,rfl,Or.inl ⟨J,.ref x,D,Cf G,?_⟩⟩);refine⟨_,I,rfl,?_⟩;refine⟨rfl,rfl,Am (λh=>?_) (λh=>?_)⟩;have d:p.1=("part" : Str):=V.str.inj (Bg h);refine⟨Cj,λr a=>?_⟩
 rw[show Dk c b p=(("to" : Str),p.2) from Aj d] at q
 exact q r _ a (Bc a) Aa;have d:p.1≠("part" : Str):=λz=>h (A4 (by rw[z]));refine⟨rfl,rfl,Am (λh=>?_) (λh=>?_)⟩;have e:p.1=("sort" : Str):=V.str.inj (Bg h)
 obtain⟨y,L⟩:=ok.q p (Bd j) e;obtain⟨m,g⟩:=Df y;rw[show Dk c b p=Ed c b p.2 from(Ak d).trans (Aj e)] at q;exact⟨t,S,T,R,A,c,b,p.2,m,rfl,g,by omega,l,o,v,ok,q⟩
 have e:p.1≠("sort" : Str):=λz=>h (A4 (by rw[z]));refine⟨Cj,λr a=>?_⟩
 rw[show Dk c b p=(("no" : Str),0) from(Ak d).trans (Ak e)] at q
 exact q r _ a (Bc a) Aa
inductive Ii (K:Ah) (vs:List V) (H:Hp) (Q:VK):Prop where
 |mk (t S T R A st:Addr) (ths:List (Str×Int)) (as:List (Option (Str×Int))) (p:Cd) (h0:vs=[.ref t,.ref A,.ref st]) (h1:Aq K H t [.ref S,.ref T,.ref R]) (h2:C8 K H T ths) (h3:GZ K H A as) (h4:Gu ths as) (h5:Aq K H st (Hv p)) (h6:(p.2.1≠("to" : Str)->0<=p.2.2/\p.2.2<as.length)) (h7:∀(r:Addr)(H':Hp),H r=none->Ac H H'->H' r=some (.tup [.str (BL ths as p).1,.int (BL ths as p).2])->Q (.ref r) H'):Ii K vs H Q
def J9 (K:Ah):Sp:=λvs H Q _=>Ii K vs H Q
variable (P w K mg base) in
abbrev TX:Prop:=BF P w K mg base "goal" 3 ["net", "answers", "step"] (J9 K)
theorem fM(B:BG mg)(U:QA P w K mg base)(F:Bp K "goal" "goal" Q0 f fd)(e:mg "goal" = some (.ref f)):TX P w K mg base:=by
 refine B1 F e OB (λg H Q E h=>?_) (λaa A ab s H g Q E a h=>?_);obtain⟨t,S,T,R,A,D,o,u,p,rfl,_⟩:=h;rfl;obtain⟨t,S,T,R,A,D,o,u,p,rfl,G,I,x,ok,W,J,q⟩:=h
 refine⟨_,(Ao (DL (pv 2) (Ct (n:=3) rfl (AK (Ay (i:=3) OB.nd) (AK (Ay (i:=4) OB.nd) (AK (Ay (i:=5) OB.nd) Cs)))))
  (Ao (Bk (BI Cz (pv 4) B2 (By _)) (Av (AZ (Bw (Ab B2 (Ab (pv 5) Ae))))) Bm)
  (Ao (AS (i:=6) OB.nd (AE AF (pv 1) (pv 5)))
  (Ao (Bk (FC (Gb (pv 6))) (Av (AZ (Bw (Ab B2 (Ab (pv 5) Ae))))) Bm)
  (Ao (Bk (BI Cz (AE AF (pv 6) Ai) B2 (By _)) (Av (AZ (Ba U (Ab (pv 0) (Ab (pv 1) (Ab (AE AF (pv 6) Ai) Ae)))))) Bm)
  (Av (AZ (Bw (Ab B2 (Ab Ai Ae)))))))))),?_⟩
 (try dsimp only[AG,Cx.nox,Cx.wish]);refine⟨_,W,rfl,?_⟩;refine⟨rfl,rfl,Am (λh=>?_) (λh=>?_)⟩;have b:p.2.1=("to" : Str):=V.str.inj (Bg h);refine⟨Cj,λr a=>?_⟩;rw[YF b] at q;exact q r _ a (Bc a) Aa;have b:p.2.1≠("to" : Str):=λz=>h (A4 (by rw[z]));obtain⟨L,Z⟩:=J b;obtain⟨n,j⟩:=Df L;obtain⟨g,v,X,M,N⟩:=x.get (k:=n) (by omega);have Y:Bz g p.2.2=some v:=by rw[j];exact Cf M
 refine Or.inl ⟨g,v,X,Y,?_⟩;rcases N with⟨d,rfl⟩|⟨c,ta,d,rfl,y⟩;refine⟨rfl,Am (λ_=>?_) (λh=>absurd (A4 rfl) h)⟩;refine⟨Cj,λr a=>?_⟩;rw[YG b j d] at q;exact q r _ a (Bc a) Aa;refine⟨rfl,Am (λh=>absurd (Bg h) (by simp)) (λ_=>?_)⟩;refine Or.inr (Or.inl ⟨_,.str c.1,y,rfl,rfl,rfl,Am (λh=>?_) (λh=>?_)⟩);have l:c.1=("thing" : Str):=V.str.inj (Bg h);obtain⟨O,q1⟩:=ok.t c (Bd d) l;obtain⟨m,e⟩:=Df O;have C:=AD (show m<o.length by omega);rw[YI b j d l e C] at q;exact Or.inr (Or.inl ⟨_,.int c.2,y,rfl,t,S,T,R,A,o,u,c.2,m,_,rfl,e,C,G,I,x,ok,q⟩);have l:c.1≠("thing" : Str):=λz=>h (A4 (by rw[z]));refine⟨Cj,λr a=>?_⟩;rw[YH b j d l] at q;exact q r _ a (Bc a) Aa
theorem Ka:([]:List V).length+1+1+1+1<=sizeLine:=by decide
variable {W:Wd}
theorem fN{k:Nat}(h:W.sts[k]?=some s):DV W (k:Int)=s.1:=by unfold DV;rw[Be,h]
theorem fO{k:Nat}{s:Bi}(h:W.ss[k]?=some s):BU W (k:Int)=s.1:=by unfold BU;rw[Be,h]
theorem fP{b:Int}{go:List (Str×Int)}{p:Cd}{a:Int}(h:El go p.1=some a):EX W b go p i=[((b,("step" : Str),(i:Int)),BL W.gs W.as p,a)]:=by unfold EX;rw[h]
theorem fQ{a:Int}{go:List (Str×Int)}{p:Cd}(h:El go p.1=none):EX W a go p i=[]:=by unfold EX;rw[h]
inductive Dz (K:Ah) (vs:List V) (H:Hp) (Q:VK):Prop where
 |mk (nt A t:Addr) (W:Wd) (sc st:Int) (h0:vs=[.ref nt,.ref A,.ref t,.int sc,.int st]) (h1:Bl K H nt A t W) (h2:BY W) (h3:(0<=sc/\sc<W.ss.length)) (h4:(0<=st/\st<W.sts.length)) (h5:∀(D:Addr)(zs:List (Addr×Gn))(H':Hp),H D=none->Ac H H'->H' D=some (.lst (zs.map λz=>V.ref z.1))->(∀z∈zs,KC H' z.1 z.2)->zs.map (·.2)=Gv W sc st->Q (.ref D) H'):Dz K vs H Q
def fR (K:Ah):Sp:=λvs H Q _=>Dz K vs H Q
variable (P w K mg base) in
abbrev QB:Prop:=BF P w K mg base "steps_gone" 4 ["net", "answers", "table", "scope", "state"] (fR K)
theorem fS(B:BG mg)(a0:Qz P w K mg base)(a1:TX P w K mg base)(F:Bp K "steps_gone" "steps_gone" Q1 f fd)(d:mg "steps_gone" = some (.ref f)):QB P w K mg base:=by
 refine B1 F d Mi (λvs aa an ao h=>?_) (λaN A aP s aa vs an ao hr h=>?_);obtain⟨E,A,t,W,sc,ax,rfl,_⟩:=h;rfl
 . obtain⟨E,A,t,W,sc,ax,rfl,G,ok,a2,a3,aq⟩:=h
   obtain⟨ab,ar,au,us,Gs,Es,ts,qt,qs,eN,y⟩:=G.net;obtain⟨a,o,a4,b1,av,b2,b3⟩:=G.tab;obtain⟨n,hn⟩:=Df a2.1;obtain⟨k,hk⟩:=Df a3.1;subst hn hk;have T:n<W.ss.length:=(by omega);have a5:k<W.sts.length:=(by omega);obtain⟨ae,ag,E1,ay,aL,aM,g4,⟨c0,⟨tG,c1,H⟩,_⟩⟩:=y.sc.get T;have ah:=AD a5;have l:=fO g4;have eG:=fN ah;have a6:Bz (us.map V.ref) (n:Int)=some (.ref ae):=Cf (by rw[Bh,ay];rfl);have aO:=ok.st _ (EC T)
   refine⟨_,(Ao (AS (i:=5) Mi.nd (CA Ae))
    (Ao (Cw Cr rfl (Pw rfl B.b_enumerate (Ab (AE AF (AE AF (AE AF (pv 0) Ai) (pv 3)) Ai) Ae)) (Ct (n:=2) rfl (AK (Ay (i:=6) Mi.nd) (AK (Ay (i:=7) Mi.nd) Cs))) (Ao (AS (i:=8) Mi.nd (Ba a0 (Ab (pv 2) (Ab (pv 4) (Ab (AE AF (pv 7) Ai) Ae)))))
     (Av (Bk (FC (Np (pv 8))) (Ao (DL (Ba a1 (Ab (pv 0) (Ab (pv 1) (Ab (pv 7) Ae)))) (Ct (n:=2) rfl (AK (Ay (i:=9) Mi.nd) (AK (Ay (i:=10) Mi.nd) Cs))))
      (Av (Di (DG DK EF EG EI (pv 5) (Ab (Bw (Ab (Bw (Ab (pv 3) (Ab B2 (Ab (pv 6) Ae)))) (Ab (pv 9) (Ab (pv 10) (Ab (pv 8) Ae))))) Ae))))) Bm))))
    (Av (AZ (pv 5))))),?_⟩
   (try dsimp only[AG,Cx.nox,Cx.wish]);refine⟨by decide,λD I=>?_⟩;obtain⟨aI,a7,q,a8⟩:=new_at (o:=.lst []) I;rw[<-a7];refine Or.inr (Or.inl ⟨_,.ref ab,Aq.of (q _ _ eN),rfl,Or.inl ⟨_,.ref ae,Ag.of (q _ _ y.sc.top),a6,Or.inr (Or.inl ⟨_,.ref ag,Aq.of (q _ _ c0),rfl,ag,rfl,⟨_,q _ _ c1⟩,?_⟩)⟩⟩)
   refine Sk (xs:=tG.map V.ref) (λi σ C=>∃J L M N U c,σ=[some (.ref E),some (.ref A),some (.ref t),some (.int n),some (.int k),some (.ref D),J,L,M,N,U]/\Ac aa C/\C D=some (.lst (c.map λz:Addr×Gn=>V.ref z.1))/\(∀z∈c,KC C z.1 z.2)/\c.map (·.2)=Em W n (DV W k) ((BU W n).take i) 0)
    ⟨none,none,none,none,none,[],rfl,q,a8,λz g=>by simp at g,by rw[En];rfl⟩ (λi σ C a9=>by obtain⟨_,_,_,_,_,_,_,s,_⟩:=a9;exact Ag.of (s _ _ c1)) ?_ ?_
   rotate_left;refine λσ H2 X=>AM λNz u=>?_;obtain⟨J,L,M,N,U,c,rfl,O,v,g,d⟩:=X;refine u ?_;clear u;refine aq D c H2 I O v g ?_;rw[d,Al,H.len,l,D8];unfold Gv;rw[l];refine λi x T' σ H2 hx aA X=>AM λNz u=>?_;obtain⟨J,L,M,N,U,c,rfl,O,v,g,d⟩:=X;refine u ?_;clear u;obtain⟨Q,ai,rfl⟩:=getm hx;have aj:i<W.ss[n].1.length:=by rw[<-H.len];exact(A7.mp ai).1
   have R:=AD aj;have Y:=H.at_ i Q _ ai R;have mp:=EC aj;generalize W.ss[n].1[i]=p at R Y mp;obtain⟨H3,aB,j,aC⟩:=new_at (o:=.tup [.int i,.ref Q]) aA;rw[<-aB];have b:=O.trans j
   have ak:Em W n (DV W k) ((BU W n).take (i+1)) 0=Em W n (DV W k) ((BU W n).take i) 0++EX W n (DV W k) p i:=by
    rw[DJ,l,R];show Em W n (DV W k) (W.ss[n].1.take i++[p]) 0=_;rw[Vu,FH,Nat.zero_add,Nat.min_eq_left (by omega)]
   refine⟨_,Aq.of aC,rfl,?_⟩;refine Or.inr (Or.inl ⟨_,.str p.1,Aq.of (b _ _ Y),rfl,t,a,o,a4,W.sts,k,k,_,p.1,rfl,rfl,b.seqT b1,⟨av,b.seq b2,b3.same b⟩,ah,?_⟩);rw[<-eG]
   cases eg:El (DV W k) p.1 with
   |none =>
     refine⟨rfl,Am (λh=>absurd h (by simp[Ee])) (λ_=>?_)⟩;refine⟨_,_,_,_,_,c,rfl,b,j _ _ v,λz h=>(g z h).same j,?_⟩;rw[ak,fQ eg,FA,d]
   |some af =>
     refine⟨rfl,Am (λ_=>?_) (λh=>absurd (by simp[Ee]) h)⟩;refine⟨E,ab,ar,au,A,Q,W.gs,W.as,p,rfl,Aq.of (b _ _ eN),⟨_,Ag.of (b _ _ y.et),(y.tg.same b).dts⟩,G.ans.same b,ok.net,Aq.of (b _ _ Y),λe=>ok.by_ (EC T) mp e,λaJ H4 hr s4 er=>?_⟩;refine⟨_,Aq.of er,rfl,?_⟩;have aD:=s4 _ _ (j _ _ v);refine⟨Or.inl ⟨rfl,_,Ag.of aD⟩,Jq,λm aE=>?_⟩;obtain⟨H5,aF,s5,az⟩:=new_at (o:=.tup [.int n,.str "step",.int i]) aE;rw[<-aF];refine⟨Ka,λz aG=>?_⟩;obtain⟨H6,aH,s6,ez⟩:=new_at (o:=.tup [.ref m,.str (BL W.gs W.as p).1,.int (BL W.gs W.as p).2,Ee (some af)]) aG;rw[<-aH];have Z:=(s4.trans s5).trans s6;have al:=Z _ _ (j _ _ v);have S:Keeps (·=D) H6 (upd H6 D (.lst (c.map (λz=>V.ref z.1)++[.ref z]))):=Keeps.one al
     have lz:c.length<=8:=by
      have e1:=BC List.length d;have e2:=LL W n (DV W k) ((BU W n).take i) 0;rw[FH,l] at e2;rw[Al] at e1;rw[l] at e1;omega
     refine⟨_,al,by rw[Al];exact BE (by omega),?_⟩;refine⟨_,_,_,_,_,c++[(z,(((n:Int),("step" : Str),(i:Int)),BL W.gs W.as p,af))],rfl,λaK o e=>?_,by rw[Aa,Bn];rfl,λaw r=>?_,?_⟩;rw[AC (AJ e I)];exact Z _ _ (b _ _ e);rcases BB.mp r with r|r;exact((g aw r).same (j.trans Z)).keeps S;rw[AY.mp r];exact⟨m,S.tup ez,S.tup (s6 _ _ az)⟩;rw[ak,fP eg,Bn,d];rfl
variable {b:AQ}
theorem fT{r:Gn}(a:r.2.1.1=("to" : Str))(c:r.2.1.2∉AU b):kid b r=some (b.1++[r.1],r.2.1.2,r.2.2):=Aj ⟨a,c⟩
theorem fU{r:Gn}(h:¬(r.2.1.1=("to" : Str)/\r.2.1.2∉AU b)):kid b r=none:=Ak h
theorem Kb{β:Type}(f:α->Option β)(l:List α)(x:α):(l++[x]).filterMap f=l.filterMap f++(f x).toList:=by
 rw[List.filterMap_append];cases e:f x<;>simp[e]
theorem fV(b:AQ):(AU b).length=b.1.length+1:=by unfold AU;simp
inductive BR (K:Ah) (vs:List V) (H:Hp) (Q:VK):Prop where
 |mk (nt A t bt:Addr) (W:Wd) (b:AQ) (h0:vs=[.ref nt,.ref A,.ref t,.ref bt]) (h1:Bl K H nt A t W) (h2:BY W) (h3:B5 W b) (h4:(∃F,DH F H bt b)) (h5:∀(D:Addr)(zs:List (Addr×AQ))(H':Hp),H D=none->Ac H H'->H' D=some (.lst (zs.map λz=>V.ref z.1))->(∀z∈zs,DH (λl=>H l=none/\l≠D) H' z.1 z.2)->zs.map (·.2)=Cv W b->Q (.ref D) H'):BR K vs H Q
def fW (K:Ah):Sp:=λvs H Q _=>BR K vs H Q
variable (P w K mg base) in
abbrev TY:Prop:=BF P w K mg base "longer_by_a_step" 5 ["net", "answers", "table", "beginning"] (fW K)
theorem fX(B:BG mg)(a2:QB P w K mg base)(F:Bp K "longer_by_a_step" "longer_by_a_step" O3 f fd)(d:mg "longer_by_a_step" = some (.ref f)):TY P w K mg base:=by
 refine B1 F d II (λvs H ax ay h=>?_) (λaK A aO s H vs ax ay hr h=>?_);obtain⟨nt,A,t,bt,W,b,rfl,_⟩:=h;rfl
 . obtain⟨nt,A,t,bt,W,b,rfl,hC,ok,U,⟨F,l,g,E,q,j,_⟩,az⟩:=h
   have aL:g.length<=100:=by
    have:=KA W.ss.length (AU b) U.nd U.rng;rw[fV] at this;have:=ok.s5;rw[j.len];omega
   have a3:=U.rng b.2.1 (by unfold AU;simp)
   refine⟨_,(Ao (DL (pv 3) (Ct (n:=3) rfl (AK (Ay (i:=4) II.nd) (AK (Ay (i:=5) II.nd) (AK (Ay (i:=6) II.nd) Cs)))))
    (Ao (AS (i:=7) II.nd (AA Pg (Ho (te:=Iv (NP K) (CT 0) (tC (.int ((0:Nat):Int)))) rfl BA (C6 (pv 4)) (λ_ _ _ _ _=>(Ay (i:=0) BA.nd)) (λ_ _ _ _ _=>IA) (λ_ _ _ _ _=>(AE AF (pv 0) Ai))) (CA (Ab (pv 5) Ae))))
    (Ao (AS (i:=8) II.nd (CA Ae))
    (Ao (Cw Cr rfl (C6 (Ba a2 (Ab (pv 0) (Ab (pv 1) (Ab (pv 2) (Ab (pv 5) (Ab (pv 6) Ae))))))) (Ct (n:=4) rfl (AK (Ay (i:=9) II.nd) (AK (Ay (i:=10) II.nd) (AK (Ay (i:=11) II.nd) (AK (Ay (i:=12) II.nd) Cs))))) (Av (Bk (PW.pt (GI (BI Cz (pv 10) B2 (By _)) (GH (BI (Yq hr.units) (pv 11) (pv 7) (by with_unfolding_all rfl))))) (Av (Di (DG DK EF EG EI (pv 8) (Ab (Bw (Ab (AA Pg (pv 4) (CA (Ab (pv 9) Ae))) (Ab (pv 11) (Ab (pv 12) Ae)))) Ae)))) Bm)))
    (Av (AZ (pv 8))))))),?_⟩
   (try dsimp only[AG,Cx.nox,Cx.wish]);refine⟨_,Aq.of E,rfl,?_⟩
   refine⟨⟨_,Ag.of q⟩,Sb (xs:=g.map V.ref) (λD i J p=>Ac H p/\p D=some (.lst J)/\J=(b.1.take i).map λm=>V.int m.1)
    (λD r=>⟨Bc r,Aa,by rw[En];rfl⟩) (λD i J p af=>by obtain⟨s,_⟩:=af;exact Ag.of (s _ _ q)) (λD i x J H2 RR r M hv k=>?_) (λa0 J aH aM hv=>?_)⟩
   obtain⟨N,eD,rfl⟩:=hv;obtain⟨tm,ao,rfl⟩:=getm M;have a4:i<b.1.length:=by rw[<-j.len];exact(A7.mp ao).1
   have d:=AD a4;have a5:=j.at_ i tm _ ao d;have aa:b.1.take (i+1)=b.1.take i++[b.1[i]]:=by rw[DJ,d];rfl
   have a6:=j.len;refine Or.inr (Or.inl ⟨_,.int b.1[i].1,Aq.of (N _ _ a5),rfl,?_⟩);refine k _ _ eD (by rw[Al,FH];exact BE (by omega)) ⟨λx o e=>?_,Aa,by rw[aa,Bn];rfl⟩;rw[AC (AJ e r)];exact N _ _ e;obtain⟨s1,eC,rfl⟩:=hv;rw[Al,j.len,D8] at eC;refine⟨Hr,λC2 a7=>?_⟩;obtain⟨H2,a8,N,a9⟩:=new_at (o:=.lst [.int b.2.1]) a7;rw[<-a8];have a6:=j.len;refine⟨a0,C2,_,_,rfl,rfl,N _ _ eC,a9,?_,λB hB=>?_⟩;rw[Al];exact Dh (BE (by show b.1.length+1<=1000;omega));have s3:=Bc (o:=.lst ((b.1.map λm=>V.int m.1)++[.int b.2.1])) hB
   have X:(upd H2 B (.lst ((b.1.map λm=>V.int m.1)++[.int b.2.1]))) B=some (.lst ((AU b).map V.int)):=by
    rw[Aa];unfold AU
    simp
   generalize upd H2 B (.lst ((b.1.map λm=>V.int m.1)++[.int b.2.1]))=H3 at s3 X ⊢;have aq:=(s1.trans N).trans s3;refine⟨by decide,λD r=>?_⟩;have ab:H D=none:=aq.free r;obtain⟨H4,aA,s4,ag⟩:=new_at (o:=.lst []) r;rw[<-aA];have ar:=aq.trans s4;refine⟨nt,A,t,W,b.2.1,b.2.2,rfl,hC.same ar,ok,a3,U.st,λaI u H5 hG Y eG aB au=>⟨⟨_,Ag.of eG⟩,?_⟩⟩;have ae:=ar.trans Y
   have aN:u.length<=8:=by
    have E:=BC List.length au;have q:=LL W b.2.1 (DV W b.2.2) (BU W b.2.1) 0;have j:=Pz ok b.2.1;rw[Al] at E;unfold Gv at E;omega
   refine EL (xs:=u.map λz=>V.ref z.1) (λi σ p=>∃u9 ah ai aj a,σ=[some (.ref nt),some (.ref A),some (.ref t),some (.ref bt),some (.ref l),some (.int b.2.1),some (.int b.2.2),some (.ref B),some (.ref D),u9,ah,ai,aj]/\Keeps (·=D) H5 p/\p D=some (.lst (a.map λz:Addr×AQ=>V.ref z.1))/\(∀z∈a,DH (λl=>H l=none/\l≠D) p z.1 z.2)/\a.map (·.2)=((u.map (·.2)).take i).filterMap (kid b))
    ⟨none,none,none,none,[],rfl,Keeps.refl λx o m e=>by rw[m,Y _ _ ag] at e;exact⟨_,(Bo e).symm⟩,Y _ _ ag,λz v=>by simp at v,by rw[En];rfl⟩ (λi σ p _ af=>by obtain⟨_,_,_,_,_,_,k,_⟩:=af;exact Ag.of (k.at_ _ _ eG λz=>by rw[z,ag] at hG;cases hG)) ?_ ?_
   rotate_left;refine λσ H6 I=>AM λNz S=>?_;obtain⟨u9,ah,ai,aj,a,rfl,c,C,v,d⟩:=I;refine S ?_;clear S;refine az D a H6 ab (λx o e=>?_) C v ?_;exact c.at_ _ _ (ae _ _ e) (AJ e ab);rw[d,Al,<-Al (f:=(·.2)),D8,au];rfl;refine λi x σ H6 M I=>AM λNz S=>?_;obtain⟨u9,ah,ai,aj,a,rfl,c,C,v,d⟩:=I;refine S ?_;clear S;refine F5 ?_;intro Nx Cy;obtain⟨z,I,rfl⟩:=getm M;obtain⟨m,ak,al⟩:=aB z (Bd I);have ak:=c.tup ak;have al:=c.tup al
   have aa:((u.map (·.2)).take (i+1)).filterMap (kid b)=((u.map (·.2)).take i).filterMap (kid b)++(kid b z.2).toList:=by
    rw[DJ,Bh,I];exact Kb _ _ _
   have lz:a.length<=8:=by
    have E:=BC List.length d;have q:=List.length_filterMap_le (kid b) ((u.map (·.2)).take i);rw[FH,Al] at q;rw[Al] at E;omega
   refine⟨_,Aq.of ak,rfl,?_⟩
   have skip:¬(z.2.2.1.1=("to" : Str)/\z.2.2.1.2∉AU b)->a.map (·.2)=((u.map (·.2)).take (i+1)).filterMap (kid b):=λhn=>by
    rw[aa,fU hn,d];simp
   have aC:=c.at_ _ _ ((s4.trans Y) _ _ X) (λz=>by rw[z,r] at X;cases X);refine⟨rfl,rfl,Am (λO=>?_) (λO=>Bs ?_)⟩;rotate_left;exact⟨_,_,_,_,a,rfl,c,C,v,skip λh=>O (A4 (by rw[h.1]))⟩;have O:z.2.2.1.1=("to" : Str):=V.str.inj (Bg O);refine⟨2,.int z.2.2.1.2,(AU b).map Dt.int,B,_,λaJ hd=>?_,by decide,.int _,rfl,Ag.of aC,VE _,rfl,Am (λG=>?_) (λG=>?_)⟩;obtain⟨y,_,rfl⟩:=Br.mp hd;exact .int _ _;rotate_left;refine⟨_,_,_,_,a,rfl,c,C,v,skip λh=>G ?_⟩;rw[F0 λz=>h.2 (Gw.mp z)];rfl
   have G:z.2.2.1.2∉AU b:=λz=>by
    rw[FD (Gw.mpr z)] at G;cases G
   have aD:=c.at_ _ _ (ae _ _ q) (AJ q ab);refine⟨Or.inl ⟨rfl,_,Ag.of C⟩,Hr,λa1 hM=>?_⟩;obtain⟨H7,aE,Z,eM⟩:=new_at (o:=.lst [.ref m]) hM;rw[<-aE];refine⟨l,a1,_,_,rfl,rfl,Z _ _ aD,eM,by rw[Al];exact Dh (BE (by show g.length+1<=1000;omega)),λL hL=>?_⟩
   have aF:H L=none:=by
    have h6:=Z.free hL
    cases e:H L with
    |none=>rfl
    |some o=>rw[c.at_ _ _ (ae _ _ e) (AJ e ab)] at h6;cases h6
   have av:L≠D:=λy=>by rw[y,Z _ _ C] at hL;cases hL
   have s8:=Bc (o:=.lst (g.map V.ref++[.ref m])) hL;have eL:(upd H7 L (.lst (g.map V.ref++[.ref m]))) L=some (.lst ((g++[m]).map V.ref)):=by rw[Aa,Bn];rfl
   generalize upd H7 L (.lst (g.map V.ref++[.ref m]))=H8 at s8 eL ⊢;refine⟨Jq,λan hr=>?_⟩;obtain⟨H9,aG,s9,er⟩:=new_at (o:=.tup [.ref L,.int z.2.2.1.2,.int z.2.2.2]) hr;rw[<-aG];have T:=(Z.trans s8).trans s9;have aw:=T _ _ C;have Q:Keeps (·=D) H9 (upd H9 D (.lst (a.map (λz=>V.ref z.1)++[.ref an]))):=Keeps.one aw;refine⟨_,aw,by rw[Al];exact BE (by omega),?_⟩;refine⟨_,_,_,_,a++[(an,(b.1++[z.2.1],z.2.2.1.2,z.2.2.2))],rfl,⟨λx o e n=>?_,c.ls⟩,by rw[Aa,Bn];rfl,λy R=>?_,?_⟩;rw[AC n];exact T _ _ (c.at_ x o e n);rcases BB.mp R with R|R;exact((v y R).same T).keeps Q λx M=>M.2;rw[AY.mp R];refine⟨L,g++[m],Q.tup er,Q.at_ _ _ (s9 _ _ eL) av,?_,aF,av⟩;refine RT.snoc ?_ (Q.tup ((T) _ _ al));exact((j.same ae).keeps c |>.same T).keeps Q;rw[aa,fT O G,Bn,d];rfl
inductive DA (K:Ah) (vs:List V) (H:Hp) (Q:VK):Prop where
 |mk (nt A t:Addr) (W:Wd) (sc st:Int) (h0:vs=[.ref nt,.ref A,.ref t,.int sc,.int st]) (h1:Bl K H nt A t W) (h2:BY W) (h3:(0<=sc/\sc<W.ss.length)) (h4:(0<=st/\st<W.sts.length)) (h5:∀(D:Addr)(zs:List (Addr×AQ))(H':Hp),H D=none->Ac H H'->H' D=some (.lst (zs.map λz=>V.ref z.1))->(∀z∈zs,DH (λl=>H l=none/\l≠D) H' z.1 z.2)->Db W sc st (zs.map (·.2))->Q (.ref D) H'):DA K vs H Q
def fY (K:Ah):Sp:=λvs H Q _=>DA K vs H Q
variable (P w K mg base) in
abbrev TZ:Prop:=BF P w K mg base "beginnings" 6 ["net", "answers", "table", "scope", "state"] (fY K)
theorem fZ(B:BG mg)(aq:TY P w K mg base)(F:Bp K "beginnings" "beginnings" Q2 f fd)(hm:mg "beginnings" = some (.ref f)):TZ P w K mg base:=by
 refine B1 F hm Qj (λvs H al an h=>?_) (λaB A aD s H vs al an Y h=>?_);obtain⟨L,A,t,W,g,j,rfl,_⟩:=h;rfl
 . obtain⟨L,A,t,W,g,j,rfl,hC,ok,Q,R,ao⟩:=h
   refine⟨_,(Ao (AS (i:=5) Qj.nd (CA (Ab (Bw (Ab (CA Ae) (Ab (pv 3) (Ab (pv 4) Ae)))) Ae)))
    (Ao (AS (i:=6) Qj.nd Ai)
    (Ao (Uu Cr (BI GJ (pv 6) (BS Ec B.b_len (Ab (pv 5) Ae)) (By _)) (Ao (Di (DG DK PySem.F.slot_list_extend PySem.F.type_list_extend N4 (pv 5) (Ab (Ba aq (Ab (pv 0) (Ab (pv 1) (Ab (pv 2) (Ab (AE AF (pv 5) (pv 6)) Ae))))) Ae)))
     (Ao (Bk (BI Hc (BS Ec B.b_len (Ab (pv 5) Ae)) (IS (v:=.int 200) rfl (Classical.choose_spec B.c_MOST_BEGINNINGS) ⟨_,rfl⟩) (By _)) (Av XA) Bm)
     (Av (Vl (i:=6) Qj.nd rfl (Or.inl rfl) Ai Ux)))))
    (Av (AZ (BS (YR M0 FN FN Y.units (by decide) (by decide) (by decide)) B.b_sorted (Ab (pv 5) Ae))))))),?_⟩
   (try dsimp only[AG,Cx.nox,Cx.wish]);refine⟨by decide,λl hl=>?_⟩;obtain⟨a8,ar,s1,el⟩:=new_at (o:=.lst []) hl;rw[<-ar];refine⟨Jq,λaf Y=>?_⟩;obtain⟨H2,au,Z,er⟩:=new_at (o:=.tup [.ref l,.int g,.int j]) Y;rw[<-au];refine⟨Hr,λD hD=>?_⟩;have ag:=s1.trans Z;have av:H D=none:=ag.free hD;have aw:l≠D:=AJ (Z _ _ el) hD;obtain⟨H3,ax,s3,ay⟩:=new_at (o:=.lst [.ref af]) hD;rw[<-ax];have az:=ag.trans s3;refine AN ?_;(try dsimp only);refine R8 ?_;(try dsimp only);refine IC (λσ' d=>∃(u6:V)(a:List (Addr×AQ)),σ'=[some (.ref L),some (.ref A),some (.ref t),some (.int g),some (.int j),some (.ref D),some u6]/\Ac H d/\d D=some (.lst (a.map λz=>V.ref z.1))/\(∀z∈a,DH (λl=>H l=none/\l≠D) d z.1 z.2)/\GL W g j (a.map λz:Addr×AQ=>z.2) (a.map λz:Addr×AQ=>z.2).length) ?_ (λa9 hN=>?_);refine λσ' H4 S=>AM λNz C=>?_;obtain⟨u6,a,rfl,I,E,k,u⟩:=S;refine C ?_;clear C;have hf:=u.few ok Q R;rw[Al] at hf;refine⟨D,a.map λz=>(V.ref z.1,z.2),rfl,?_,by rw[Al];omega,λy M=>?_,λD2 G hp hs U=>?_⟩;rw[DF];exact Ag.of E;obtain⟨z,T,rfl⟩:=Br.mp M;exact(k z T).dt;have n:=Bc (o:=.lst (G.map (·.1))) U
   obtain⟨c,rfl⟩:∃c:List (Addr×AQ),G=c.map λz=>(V.ref z.1,z.2):=by
    have:∀{l:List (DO DP)},(∀y∈l,y∈a.map λz=>((V.ref z.1,z.2):DO DP))->∃c:List (Addr×AQ),l=c.map λz=>(V.ref z.1,z.2):=by
     intro l
     induction l with
     |nil=>exact λ_=>⟨[],rfl⟩
     |cons y l ih =>
       intro h;obtain⟨c,rfl⟩:=ih λz k=>h z (Ch _ k);obtain⟨z,_,rfl⟩:=Br.mp (h y Bv);exact⟨z::c,rfl⟩
    exact this λy M=>hp.mem_iff.mp M
   have N:(c.map λz=>((V.ref z.1,z.2):DO DP)).map (·.2)=c.map (·.2):=by rw[DF];rfl
   have O:(c.map λz=>((V.ref z.1,z.2):DO DP)).map (·.1)=c.map λz=>V.ref z.1:=by rw[DF];rfl
   have a0:(c.map (·.2)).Perm (a.map (·.2)):=by
    have:=hp.map (·.2)
    rwa [N,DF] at this
   rw[N] at hs;rw[O] at n ⊢
   have nm:∀z∈c,z∈a:=λz T=>by
    have:=hp.mem_iff.mp (Br.mpr ⟨z,T,rfl⟩);obtain⟨y,M,e⟩:=Br.mp this;injection e with O N;have:y=z:=Prod.ext (V.ref.inj O) N;rw[<-this];exact M
   refine ao D2 c _ (I.free U) (I.trans n) Aa (λz T=>?_) (u.all ok Q R a0 hs);refine((k z (nm z T)).mono' ?_).same n;intro x o ex q;exact⟨q.1,λy=>by rw[y,U] at ex;cases ex⟩;refine⟨λm σ d=>∃(p:Nat)(a:List (Addr×AQ)),σ=[some (.ref L),some (.ref A),some (.ref t),some (.int g),some (.int j),some (.ref D),some (.int p)]/\Ac H d/\d D=some (.lst (a.map λz=>V.ref z.1))/\(∀z∈a,DH (λl=>H l=none/\l≠D) d z.1 z.2)/\GL W g j (a.map λz:Addr×AQ=>z.2) p/\m=62-p,⟨_,0,[(af,([],g,j))],rfl,az,ay,λz k=>?_,GL.start W g j,rfl⟩,?_⟩;rw[AY.mp k];exact⟨l,[],s3 _ _ er,(Z.trans s3) _ _ el,RT.nil,hl,aw⟩;refine λm σ H4 S=>AM λNz C=>?_;obtain⟨p,a,rfl,I,E,k,u,aA⟩:=S;refine C ?_;clear C;have hf:=u.few ok Q R;have a1:=u.le;rw[Al] at hf a1;refine⟨_,Or.inl ⟨_,Ag.of E,rfl⟩,rfl,?_⟩;by_cases ah:p<a.length;rotate_left;have ep:p=a.length:=(by omega);rw[DS (by rw[Al];omega)];refine Bs (hN _ _ ⟨_,a,rfl,I,E,k,?_⟩);rw[Al,<-ep];exact u;rw[A4 (by rw[Al];omega)];refine CU ?_;have ai:=AD ah;have aj:(a.map (·.2))[p]?=some a[p].2:=by rw[Bh,ai];rfl
   have aa:=u.turn aj;have ib:=(u.is _ (Bd aj)).ok ok Q R;refine⟨λσ' d=>∃(G:List (Addr×AQ)),σ'=[some (.ref L),some (.ref A),some (.ref t),some (.int g),some (.int j),some (.ref D),some (.int ((p+1:Nat):Int))]/\Ac H d/\d D=some (.lst (G.map λz=>V.ref z.1))/\(∀z∈G,DH (λl=>H l=none/\l≠D) d z.1 z.2)/\GL W g j (G.map λz:Addr×AQ=>z.2) (p+1),?_,?_⟩;refine λσ' d S=>AM λNz C=>?_;obtain⟨G,rfl,n,X,a2,a3⟩:=S;refine C ?_;clear C;exact⟨_,by omega,p+1,G,rfl,n,X,a2,a3,rfl⟩;have a4:Bz (a.map λz=>V.ref z.1) (p:Int)=some (.ref a[p].1):=Cf (by rw[Bh,ai];rfl);refine⟨Or.inl ⟨rfl,_,Ag.of E⟩,Or.inl ⟨_,.ref a[p].1,Ag.of E,a4,L,A,t,a[p].1,W,a[p].2,rfl,hC.same I,ok,ib,⟨_,k _ (EC ah)⟩,λD2 r J U n a5 a6 ab=>?_⟩⟩
   have aC:r.length<=8:=by
    have O:=BC List.length ab;have N:=Vx W a[p].2;have e3:=Pz ok a[p].2.2.1;rw[Al] at O;omega
   have X:=n _ _ E;have k5:Keeps (·=D) J (upd J D (.lst (a.map (λz=>V.ref z.1)++r.map λz=>V.ref z.1))):=Keeps.one X;refine⟨D,D2,_,_,rfl,rfl,X,a5,by rw[Al,Al];exact Dh (BE (by omega)),?_⟩;have a7:=aa.few ok Q R;rw[<-ab,<-Bn,Al] at a7;rw[<-ab,<-Bn] at aa;have ae:(upd J D (.lst (a.map (λz=>V.ref z.1)++r.map λz=>V.ref z.1))) D=some (.lst ((a++r).map λz=>V.ref z.1)):=(by rw[Aa,Bn])
   have sn:Ac H (upd J D (.lst (a.map (λz=>V.ref z.1)++r.map λz=>V.ref z.1))):=λb o e=>by
    rw[AC (AJ e av)];exact n _ _ (I _ _ e)
   have ak:∀z∈a++r,DH (λl=>H l=none/\l≠D) (upd J D (.lst (a.map (λz=>V.ref z.1)++r.map λz=>V.ref z.1))) z.1 z.2:=λz h=>by
    rcases BB.mp h with h|h;exact((k z h).same n).keeps k5 λx q=>q.2;refine((a6 z h).mono λx q=>⟨I.free q.1,?_⟩).keeps k5 λx q=>q.2;intro y;rw[y,E] at q;cases q.1
   generalize upd J D (.lst (a.map (λz=>V.ref z.1)++r.map λz=>V.ref z.1))=H6 at ae sn ak ⊢;refine⟨_,Or.inl ⟨_,Ag.of ae,rfl⟩,rfl,?_⟩;rw[DS (by rw[Al];omega)];refine Bs ?_;refine⟨_,rfl,a++r,?_,sn,ae,ak,aa⟩
   simp
inductive E6 (K:Ah) (vs:List V) (H:Hp) (Q:VK):Prop where
 |mk (t a o:Addr) (inn:V) (ss:List CN) (n:Int) (k:Nat) (s:CN) (x:Str) (h0:vs=[.ref t,.int n,.str x]) (h1:n=k) (h2:Aq K H t [.ref a,inn,.ref o]) (h3:Hu K H a ss) (h4:ss[k]?=some s) (h5:Q (.bl (dec (x∈s.2))) H):E6 K vs H Q
def f6 (K:Ah):Sp:=λvs H Q _=>E6 K vs H Q
variable (P w K mg base) in
abbrev T1:Prop:=BF P w K mg base "has_end" 1 ["table", "state", "label"] (f6 K)
theorem f7(B:BG mg)(F:Bp K "has_end" "has_end" Q3 f fd)(c:mg "has_end" = some (.ref f)):T1 P w K mg base:=by
 refine B1 F c WZ (λb H Q E h=>?_) (λO A R s H b Q E j h=>?_);obtain⟨t,a,o,J,ss,n,k,s,x,rfl,_⟩:=h;rfl;obtain⟨t,a,o,J,ss,n,k,s,x,rfl,rfl,l,⟨b,m,p⟩,r,q⟩:=h;obtain⟨v,u,L⟩:=p.get' (i:=k) (d:=N8 s) (by rw[Bh,r];rfl);obtain⟨C,g,e,rfl,M,N,D⟩:=FL L
 refine⟨_,(Ao (AS (i:=3) WZ.nd (AE AF (AE AF (AE AF (pv 0) Ai) (pv 1)) Ai))
  (Av (AZ (Kq (Lz j.units) (pv 2) (pv 3) (by with_unfolding_all rfl))))),?_⟩
 (try dsimp only[AG,Cx.nox,Cx.wish]);refine Or.inr (Or.inl ⟨_,.ref a,l,rfl,?_⟩);refine Or.inl ⟨b,.ref C,m,Cf u,?_⟩;refine Or.inr (Or.inl ⟨_,.ref e,M,rfl,?_⟩);refine⟨2,.str x,s.2.map Dt.str,e,_,λd hd=>?_,by decide,.str x,rfl,D,An.strs _,?_⟩;obtain⟨y,_,rfl⟩:=Br.mp hd;exact .str _ _
 have G:dec (Dt.str x∈s.2.map Dt.str)=dec (x∈s.2):=MW ⟨λh=>by
  obtain⟨y,I,z⟩:=Br.mp h
  rw[<-Dt.str.inj z];exact I,λh=>Br.mpr ⟨x,h,rfl⟩⟩
 rw[G];exact q
theorem Kc{k:Nat}(h:W.sts[k]?=some s):G0 W (k:Int)=s.2:=by unfold G0;rw[Be,h]
theorem f8{k:Nat}{s:Bi}(h:W.ss[k]?=some s):Ge W (k:Int)=s.2:=by unfold Ge;rw[Be,h]
theorem MC{q:DU}(a:q.2.1=x)(c:q.1∈G0 W b.2.2):Fp W b x q i=[b.1++[(b.2.1,("told" : Str),(i:Int))]]:=Aj ⟨a,c⟩
theorem Kd{q:DU}(h:¬(q.2.1=x/\q.1∈G0 W b.2.2)):Fp W b x q i=[]:=Ak h
theorem Xj{bs:List AQ}(h:bs[i]?=some b):DW W x (bs.take (i+1))=DW W x (bs.take i)++DI W b x (Ge W b.2.1) 0:=by
 rw[DJ,h];show(bs.take i++[b]).flatMap _=_;rw[List.flatMap_append];simp[DW]
theorem OP{bs:List AQ}(i:Nat):(DW W x (bs.take i)).length<=(DW W x bs).length:=by
 have:DW W x bs=DW W x (bs.take i)++DW W x (bs.drop i):=by
  unfold DW;rw[<-List.flatMap_append,List.take_append_drop]
 rw[this,AW];omega
theorem Xk(W:Wd)(b:AQ)(x:Str):∀(l:List DU)(j i:Nat),(DI W b x (l.take j) i).length<=(DI W b x l i).length
 |[],j,i=>by rw[List.take_nil];exact AB _
 |q::l,0,i=>Ci _
 |q::l,j+1,i=>by
   show(Fp W b x q i++DI W b x (l.take j) (i+1)).length<=(Fp W b x q i++DI W b x l (i+1)).length;rw[AW,AW];have:=Xk W b x l j (i+1);omega
inductive CK (K:Ah) (vs:List V) (H:Hp) (Q:VK):Prop where
 |mk (nt A t D:Addr) (x:Str) (F:Addr->Prop) (W:Wd) (zs:List (Addr×AQ)) (h0:vs=[.ref nt,.ref t,.ref D,.str x]) (h1:Bl K H nt A t W) (h2:BY W) (h3:H D=some (.lst (zs.map λz=>V.ref z.1))) (h4:(∀z∈zs,DH F H z.1 z.2)) (h5:(∀z∈zs,B5 W z.2)) (h6:(DW W x (zs.map (·.2))).length<=62) (h7:∀(D2:Addr)(ws:List (Addr×List Ap))(H':Hp),H D2=none->Ac H H'->H' D2=some (.lst (ws.map λz=>V.ref z.1))->(∀z∈ws,CO (λl=>H l=none/\l≠D2) H' z.1 z.2)->M1 W x (zs.map (·.2)) (ws.map (·.2))->Q (.ref D2) H'):CK K vs H Q
def f9 (K:Ah):Sp:=λvs H Q _=>CK K vs H Q
variable (P w K mg base) in
abbrev T4:Prop:=BF P w K mg base "found_behind" 2 ["net", "table", "begun", "name"] (f9 K)
theorem gA(B:BG mg)(aC:T1 P w K mg base)(F:Bp K "found_behind" "found_behind" Q4 f fd)(u:mg "found_behind" = some (.ref f)):T4 P w K mg base:=by
 refine B1 F u Mj (λvs H a2 a3 h=>?_) (λbb an bf s H vs a2 a3 hr h=>?_);obtain⟨nt,an,t,D,x,F,W,v,rfl,_⟩:=h;rfl
 . obtain⟨nt,an,t,D,x,F,W,v,rfl,hC,ok,eD,hz,aD,bc,a4⟩:=h
   obtain⟨a5,aW,aX,us,Gs,Es,ts,qt,qs,eN,N3⟩:=hC.net;obtain⟨a,o,aE,b1,a6,b2,b3⟩:=hC.tab
   refine⟨_,(Ao (AS (i:=4) Mj.nd (CA Ae))
    (Ao (Cw Cr rfl (C6 (pv 2)) (Ct (n:=3) rfl (AK (Ay (i:=5) Mj.nd) (AK (Ay (i:=6) Mj.nd) (AK (Ay (i:=7) Mj.nd) Cs)))) (Av (Cw Cr rfl (Pw rfl B.b_enumerate (Ab (AE AF (AE AF (AE AF (pv 0) Ai) (pv 6)) Ai) Ae)) (Ct (n:=2) rfl (AK (Ay (i:=8) Mj.nd) (AK (Ay (i:=9) Mj.nd) Cs))) (Av (Bk (PW.pt (GI (BI Cz (AE AF (pv 9) Ai) (pv 3) (By _)) (GH (GV (Ba aC (Ab (pv 1) (Ab (pv 7) (Ab (AE AF (pv 9) Ai) Ae)))))))) (Av (Di (DG DK EF EG EI (pv 4) (Ab (AA Pg (pv 5) (CA (Ab (Bw (Ab (pv 6) (Ab B2 (Ab (pv 8) Ae)))) Ae))) Ae)))) Bm)))))
    (Av (AZ (BS (YO M0 hr.units (by decide)) B.b_sorted (Ab (pv 4) Ae)))))),?_⟩
   (try dsimp only[AG,Cx.nox,Cx.wish]);refine⟨by decide,λP hP=>?_⟩;obtain⟨Y,aF,s1,aq⟩:=new_at (o:=.lst []) hP;rw[<-aF];have bd:D≠P:=AJ eD hP;have Q:∀{g:Hp},Keeps (·=P) Y g->Ac H g:=λk x o e=>k.at_ _ _ (s1 _ _ e) (AJ e hP)
   refine⟨⟨_,Ag.of (s1 _ _ eD)⟩,EL (xs:=v.map λz=>V.ref z.1) (λi σ g=>∃u5 u6 u7 A C b,σ=[some (.ref nt),some (.ref t),some (.ref D),some (.str x),some (.ref P),u5,u6,u7,A,C]/\Keeps (·=P) Y g/\g P=some (.lst (b.map λz:Addr×List Ap=>V.ref z.1))/\(∀z∈b,CO (λl=>H l=none/\l≠P) g z.1 z.2)/\b.map (·.2)=DW W x ((v.map (·.2)).take i))
    ⟨none,none,none,none,none,[],rfl,Keeps.refl λx o m e=>by rw[m,aq] at e;exact⟨_,(Bo e).symm⟩,aq,λz hz=>by simp at hz,by rw[En];rfl⟩ (λi σ g _ af=>by obtain⟨_,_,_,_,_,_,_,k,_⟩:=af;exact Ag.of (Q k _ _ eD)) ?_ ?_⟩
   rotate_left;refine λσ H2 G=>AM λM d=>?_;obtain⟨u5,u6,u7,A,C,b,rfl,T,ag,U,u⟩:=G;refine d ?_;clear d;rw[Al,<-Al (f:=(·.2)),D8] at u;have lw:b.length<=62:=by have:=BC List.length u;rw[Al] at this;omega
   refine⟨P,b.map λz=>(V.ref z.1,z.2),rfl,?_,by rw[Al];omega,λy q=>?_,λD2 aG N hs ah=>?_⟩;rw[DF];exact Ag.of ag;obtain⟨z,ai,rfl⟩:=Br.mp q;exact(U z ai).dt;obtain⟨vs,r1,r2,r3,r4⟩:=VH (c:=CC) N;have s3:=Bc (o:=.lst (aG.map (·.1))) ah;rw[r1] at s3 ⊢;rw[r2] at hs;have r:=Q T;refine a4 D2 vs _ (r.free ah) (r.trans s3) Aa (λz ai=>?_) ⟨by rw[<-u];exact r3,hs⟩;refine((U z (r4 z ai)).mono' ?_).same s3;intro x o ex hx;exact⟨hx.1,λy=>by rw[y,ah] at ex;cases ex⟩;refine λi y σ H2 q G=>AM λM d=>?_;obtain⟨u5,u6,u7,A,C,b,rfl,T,ag,U,u⟩:=G;refine d ?_;clear d;obtain⟨z,ar,rfl⟩:=getm q;have mz:=Bd ar;have aa:=aD z mz;have r:=Q T;refine AM λM d=>?_;obtain⟨l,E,a8,a9,e3,_⟩:=hz z mz;refine d ?_;clear d;have e1:=r _ _ a8;have aH:=aa.rng z.2.2.1 (by unfold AU;simp);have aI:=aa.st;obtain⟨n,X⟩:=Df aH.1;obtain⟨k,hk⟩:=Df aI.1;have aJ:n<W.ss.length:=(by omega);have aK:k<W.sts.length:=(by omega);refine AM λM d=>?_;obtain⟨ao,aY,E1,aA,aZ,ba,g4,⟨c0,_,⟨tE,c1,c2⟩⟩⟩:=N3.sc.get aJ;refine d ?_;clear d;have au:=AD aK;have eT:Ge W z.2.2.1=W.ss[n].2:=by rw[X];exact f8 g4
   have eE:G0 W z.2.2.2=W.sts[k].2:=by rw[hk];exact Kc au
   have aL:Bz (us.map V.ref) z.2.2.1=some (.ref ao):=by rw[X];exact Cf (by rw[Bh,aA];rfl)
   have av:(v.map (·.2))[i]?=some z.2:=by rw[Bh,ar];rfl
   have be:E.length<=100:=by
    have:=KA W.ss.length (AU z.2) aa.nd aa.rng;rw[show(AU z.2).length=z.2.1.length+1 by unfold AU;simp] at this;have:=ok.s5;rw[e3.len];omega
   have aM:=OP (W:=W) (x:=x) (bs:=v.map (·.2)) (i+1);rw[Xj av,AW] at aM;refine⟨_,Aq.of e1,rfl,?_⟩;refine Or.inr (Or.inl ⟨_,.ref a5,Aq.of (r _ _ eN),rfl,Or.inl ⟨_,.ref ao,Ag.of (r _ _ N3.sc.top),aL,Or.inr (Or.inl ⟨_,.ref E1,Aq.of (r _ _ c0),rfl,E1,rfl,⟨_,r _ _ c1⟩,?_⟩)⟩⟩)
   refine Sk (xs:=tE.map V.ref) (λj σ g=>∃A C b,σ=[some (.ref nt),some (.ref t),some (.ref D),some (.str x),some (.ref P),some (.ref l),some (.int z.2.2.1),some (.int z.2.2.2),A,C]/\Keeps (·=P) Y g/\g P=some (.lst (b.map λz:Addr×List Ap=>V.ref z.1))/\(∀z∈b,CO (λl=>H l=none/\l≠P) g z.1 z.2)/\b.map (·.2)=DW W x ((v.map (·.2)).take i)++DI W z.2 x ((Ge W z.2.2.1).take j) 0)
    ⟨_,_,b,rfl,T,ag,U,by rw[u,En];simp[DI]⟩ (λj σ g af=>by obtain⟨_,_,_,_,k,_⟩:=af;exact Ag.of (Q k _ _ c1)) ?_ ?_
   rotate_left;refine λσ H3 G=>AM λM d=>?_;obtain⟨A,C,b,rfl,Z,aj,ak,R⟩:=G;refine d ?_;clear d;refine⟨_,_,_,_,_,b,rfl,Z,aj,ak,?_⟩;rw[Xj av,R,Al,c2.len,eT,D8];refine λj y T' σ H3 q aN G=>AM λM d=>?_;obtain⟨A,C,b,rfl,Z,aj,ak,R⟩:=G;refine d ?_;clear d;obtain⟨tp,aw,rfl⟩:=getm q;have aO:j<W.ss[n].2.length:=by rw[<-c2.len];exact(A7.mp aw).1
   have N:=AD aO;have ax:=c2.at_ j tp _ aw N;generalize W.ss[n].2[j]=p at N ax;obtain⟨H4,aP,s4,aQ⟩:=new_at (o:=.tup [.int j,.ref tp]) aN;rw[<-aP];have aR:=Q Z;have I:=aR.trans s4;have k4:Keeps (·=P) Y H4:=Z.same s4;have S:=s4 _ _ aj;have al:∀z∈b,CO (λl=>H l=none/\l≠P) H4 z.1 z.2:=λz h=>(ak z h).same s4;have a1:=Aq.of (K:=K) (I _ _ ax)
   have ay:DI W z.2 x ((Ge W z.2.2.1).take (j+1)) 0=DI W z.2 x ((Ge W z.2.2.1).take j) 0++Fp W z.2 x p j:=by
    rw[DJ,eT,N];show DI W z.2 x (W.ss[n].2.take j++[p]) 0=_;rw[VF,FH,Nat.zero_add,Nat.min_eq_left (by omega)]
   have skip:¬(p.2.1=x/\p.1∈G0 W z.2.2.2)->b.map (·.2)=DW W x ((v.map (·.2)).take i)++DI W z.2 x ((Ge W z.2.2.1).take (j+1)) 0:=λX=>by
    rw[ay,Kd X,FA,R]
   have lw:b.length<100:=by
    have:=BC List.length R;rw[Al,AW] at this;have J:=Xk W z.2 x (Ge W z.2.2.1) j 0;omega
   refine⟨_,Aq.of aQ,rfl,?_⟩;refine Or.inr (Or.inl ⟨_,.str p.2.1,a1,rfl,rfl,rfl,Am (λJ=>?_) (λJ=>Bs ?_)⟩);rotate_left;exact⟨_,_,b,rfl,k4,S,al,skip λh=>J (A4 (by rw[h.1]))⟩;have J:p.2.1=x:=V.str.inj (Bg J);refine Or.inr (Or.inl ⟨_,.str p.1,a1,rfl,t,a,o,aE,W.sts,z.2.2.2,k,_,p.1,rfl,hk,I.seqT b1,⟨a6,I.seq b2,b3.same I⟩,au,rfl,Am (λO=>?_) (λO=>?_)⟩);rotate_left;exact⟨_,_,b,rfl,k4,S,al,skip λh=>O (FD (by rw[<-eE];exact h.2))⟩;have O:p.1∈G0 W z.2.2.2:=by rw[eE];exact Fm.mp O
   refine⟨Or.inl ⟨rfl,_,Ag.of S⟩,Jq,λm aS=>?_⟩;obtain⟨H5,aT,s5,aB⟩:=new_at (o:=.tup [.int z.2.2.1,.str "told",.int j]) aS;rw[<-aT];refine⟨Hr,λa7 hM=>?_⟩;obtain⟨H6,aU,s6,eM⟩:=new_at (o:=.lst [.ref m]) hM;rw[<-aU];have ab:=s5.trans s6;refine⟨l,a7,_,_,rfl,rfl,ab _ _ (I _ _ a9),eM,by rw[Al];exact Dh (BE (by show E.length+1<=1000;omega)),λL hL=>?_⟩;have aV:H L=none:=(I.trans ab).free hL;have az:L≠P:=λy=>by rw[y,ab _ _ S] at hL;cases hL
   have s7:=Bc (o:=.lst (E.map V.ref++[.ref m])) hL;have eL:(upd H6 L (.lst (E.map V.ref++[.ref m]))) L=some (.lst ((E++[m]).map V.ref)):=by rw[Aa,Bn];rfl
   generalize upd H6 L (.lst (E.map V.ref++[.ref m]))=H7 at s7 eL ⊢;have ae:=ab.trans s7;have a0:=ae _ _ S;have k7:Keeps (·=P) H7 (upd H7 P (.lst (b.map (λz=>V.ref z.1)++[.ref L]))):=Keeps.one a0;refine⟨_,a0,by rw[Al];exact BE (by omega),?_⟩;refine⟨_,_,b++[(L,z.2.1++[(z.2.2.1,("told" : Str),(j:Int))])],rfl,(k4.same ae).set rfl,by rw[Aa,Bn];rfl,λy q=>?_,?_⟩;rcases BB.mp q with q|q;exact((al y q).same ae).keeps k7 λx hx=>hx.2;rw[AY.mp q];refine⟨E++[m],k7.at_ _ _ eL az,?_,aV,az⟩;exact RT.snoc ((e3.same (I.trans ae)).keeps k7) (k7.tup ((s6.trans s7) _ _ aB));rw[ay,MC J O,Bn,R,FX];rfl
inductive CL (K:Ah) (vs:List V) (H:Hp) (Q:VK):Prop where
 |mk (t:Addr) (F:Addr->Prop) (sts:List CN) (inn:Int) (ord:List (Str×Str)) (h0:vs=[.ref t]) (h1:Gc K F H t sts inn ord) (h2:ord.length<=40) (h3:∀(p:Addr)(H':Hp),H p=none->Ac H H'->HC H' p ord->Q (.ref p) H'):CL K vs H Q
def gB (K:Ah):Sp:=λvs H Q _=>CL K vs H Q
variable (P w K mg base) in
abbrev QC:Prop:=BF P w K mg base "better_pairs" 1 ["table"] (gB K)
theorem gC(B:BG mg)(F:Bp K "better_pairs" "better_pairs" O4 f fd)(J:mg "better_pairs" = some (.ref f)):QC P w K mg base:=by
 refine B1 F J dO (λL H Q E h=>?_) (λak ag an s H L Q E M h=>?_);obtain⟨t,F,X,Y,v,rfl,_⟩:=h;rfl;obtain⟨t,F,X,Y,v,rfl,N,aj,q⟩:=h;obtain⟨ta,o,al,Z,O,_,_,_,_,_,x,TO⟩:=N.ex;refine⟨_,(Av (AZ (Iw (Za rfl (LS M)) B.b_dict (Ab (Ho rfl B8 (C6 (AE AF (pv 0) Ai)) (λ_ _ _ _ _=>(Ay (i:=0) B8.nd)) (λ_ _ _ _ _=>IA) (λ_ _ _ _ _=>(Bw (Ab (pv 0) (Ab Kl Ae))))) Ae)))),?_⟩;(try dsimp only[AG,Cx.nox,Cx.wish])
 refine Or.inr (Or.inl ⟨_,.ref o,Aq.of O,rfl,⟨_,Ag.of x⟩,Sb (xs:=Z.map V.ref) (λP i a g=>Ac H g/\g P=some (.lst a)/\a.length=i/\EZ g a ((v.take i).map λp=>(Fs p,V.bl true)))
  (λP j=>⟨Bc j,Aa,rfl,.nil⟩) (λP i a g aa=>by obtain⟨s,_⟩:=aa;exact Ag.of (s _ _ x)) (λP i ah a R RR j S n k=>?_) (λP a R j n=>?_)⟩)
 obtain⟨c,r,d,m⟩:=n;obtain⟨y,D,rfl⟩:=getm S;have ab:i<v.length:=by rw[<-TO.len];exact(A7.mp D).1
 have G:=AD ab;have ae:=c _ _ (TO.at_ i _ _ D G);refine⟨Cj,λT U=>?_⟩;obtain⟨A,af,l,W⟩:=new_at (o:=.tup [.ref y,.bl true]) U;rw[<-af];have I:=l _ _ r
 have u:∀b xs,A b=some (.tup xs)->(upd A P (.lst (a++[.ref T]))) b=some (.tup xs):=λb xs e=>by
  rw[AC (MP e I (λz=>nomatch z))];exact e
 refine k _ _ I (by rw[d];exact BE (by omega)) ⟨λb ai e=>?_,Aa,by rw[AW,d];rfl,?_⟩;rw[AC (AJ e j)];exact l _ _ (c _ _ e);rw[DJ,G,Bn];exact Paired.snoc ((m.tups λb xs e=>l _ _ e).tups u) ⟨T,y,rfl,u _ _ W,u _ _ (l _ _ ae)⟩;obtain⟨c,r,d,m⟩:=n;rw[Al,TO.len,D8] at m;rw[Al,TO.len] at d;refine⟨P,a,_,rfl,r,by rw[d];exact BE (by omega),m,λp C=>?_⟩;exact q p _ (c.free C) (c.trans (Bc C)) ⟨_,Aa,Zi⟩
inductive E7 (K:Ah) (vs:List V) (H:Hp) (Q:VK):Prop where
 |mk (D:Addr) (F:Addr->Prop) (zs:List (Addr×List Ap)) (h0:vs=[.ref D]) (h1:H D=some (.lst (zs.map λz=>V.ref z.1))) (h2:(∀z∈zs,CO F H z.1 z.2)) (h3:zs.length<=100) (h4:∀(d:List Ap->Addr)(c:List Ap->Ap->Addr)(H':Hp),Ac H H'->Bb dW H' (A6 (zs.map (·.2))) d c->(∀p,Ef (A6 (zs.map (·.2))) p->H (d p)=none)->Q (.ref (d [])) H'):E7 K vs H Q
def gD (K:Ah):Sp:=λvs H Q _=>E7 K vs H Q
variable (P w K mg base) in
abbrev QD:Prop:=BF P w K mg base "tree_of" 1 ["ways"] (gD K)
theorem gE(B:BG mg)(F:Bp K "tree_of" "tree_of" Q5 f fd)(q:mg "tree_of" = some (.ref f)):QD P w K mg base:=by
 refine B1 F q Mk (λvs H an ao h=>?_) (λaA a6 aD s H vs an ao hr h=>?_);obtain⟨D,F,l,rfl,_⟩:=h;rfl
 . obtain⟨D,F,l,rfl,eD,hz,lz,aq⟩:=h
   refine⟨_,(Ao (AS (i:=1) Mk.nd RW)
    (Ao (Cw Cr rfl (Pw rfl B.b_enumerate (Ab (pv 0) Ae)) (Ct (n:=2) rfl (AK (Ay (i:=2) Mk.nd) (AK (Ay (i:=3) Mk.nd) Cs))) (Ao (AS (i:=4) Mk.nd (pv 1))
     (Av (Cw Cr rfl (C6 (pv 3)) (Ay (i:=5) Mk.nd) (Av (AS (i:=4) Mk.nd (AE AF (DG PySem.F.plainAttrs_dict PySem.F.slot_dict_setdefault PySem.F.type_dict_setdefault (Y4 (Lx hr)) (pv 4) (Ab (pv 5) (Ab (Bw (Ab (pv 2) (Ab RW Ae))) Ae))) Ai)))))))
    (Av (AZ (pv 1))))),?_⟩
   (try dsimp only[AG,Cx.nox,Cx.wish]);refine λt ht=>?_;obtain⟨ar,au,s1,et⟩:=new_at (o:=.dT []) ht;rw[<-au]
   refine⟨D,rfl,⟨_,s1 _ _ eD⟩,Sk (xs:=l.map λz=>V.ref z.1) (λi σ A=>∃(W X Y C:Option V)(d:List Ap->Addr)(c:List Ap->Ap->Addr),σ=[some (.ref D),some (.ref t),W,X,Y,C]/\Ac H A/\d []=t/\Bb dW A (A6 ((l.map (·.2)).take i)) d c/\∀p,Ef (A6 ((l.map (·.2)).take i)) p->H (d p)=none)
    ⟨none,none,none,none,λ_=>t,λ_ _=>t,rfl,s1,rfl,?_,λp v=>ht⟩ (λi σ A aa=>by obtain⟨_,_,_,_,_,_,_,s,_⟩:=aa;exact Ag.of (s _ _ eD)) ?_ ?_⟩
   have nil:∀p,Ef (A6 ((l.map (·.2)).take 0)) p->p=[]:=λp v=>by
    rcases v with h|⟨kw,h,_⟩;exact h;rw[En] at h;cases h
   refine⟨λp v=>?_,λp m k q=>?_,λp p' v av _=>(nil p v).trans (nil p' av).symm⟩;show ar t=some (.dT (DQ _ _ p));rw[et,En];rfl;rw[En] at q;cases q;rotate_left;refine λσ H2 I=>AM λO r=>?_;obtain⟨W,X,Y,C,d,c,rfl,Z,rfl,Q,R⟩:=I;refine r ?_;clear r;rw[Al,<-Al (f:=(·.2)),D8] at Q R;exact aq d c H2 Z Q R;refine λi y a7 σ H2 hy hT I=>AM λO r=>?_;obtain⟨W,X,Y,C,d,c,rfl,Z,hd,Q,R⟩:=I;refine r ?_;clear r;refine F5 ?_;intro Nx Cy;obtain⟨z,ab,rfl⟩:=getm hy;have mz:=Bd ab;have aB:=(A7.mp ab).1;have aw:(l.map (·.2))[i]?=some z.2:=by rw[Bh,ab];rfl
   obtain⟨H3,ax,s3,eT⟩:=new_at (o:=.tup [.int (i:Int),.ref z.1]) hT;rw[<-ax];have ai:=Z.trans s3;obtain⟨ms,ag,f3,_⟩:=(hz z mz).same ai;refine⟨_,Aq.of eT,rfl,?_⟩
   refine⟨⟨_,Ag.of ag⟩,EL (xs:=ms.map V.ref) (λj σ A=>∃(C:Option V)(d:List Ap->Addr)(c:List Ap->Ap->Addr),σ=[some (.ref D),some (.ref t),some (.int (i:Int)),some (.ref z.1),some (.ref (d (z.2.take j))),C]/\Ac H A/\RT GK A ms z.2/\A z.1=some (.lst (ms.map V.ref))/\d []=t/\Bb dW A (A6 ((l.map (·.2)).take i)++[(i,z.2.take j)]) d c/\∀p,Ef (A6 ((l.map (·.2)).take i)++[(i,z.2.take j)]) p->H (d p)=none)
    ⟨C,d,c,by rw[En,hd];rfl,ai,f3,ag,hd,by rw[En];exact(Q.sameW s3).begin,λp v=>R p ?_⟩ (λj σ A _ aa=>by obtain⟨_,_,_,_,_,_,e,_⟩:=aa;exact Ag.of e) ?_ ?_⟩
   rw[En] at v;rcases v with h|⟨kw,h1,L⟩;exact .inl h;rcases BB.mp h1 with y|y;exact .inr ⟨kw,y,L⟩;rw[AY.mp y] at L;exact .inl (List.prefix_nil.mp L);rotate_left;refine λσ H4 I=>AM λO r=>?_;obtain⟨C,d,c,rfl,M,_,_,T,E,J⟩:=I;refine r ?_;clear r;rw[Al,f3.len,D8,<-Zk aw] at E J;exact⟨_,_,_,_,d,c,rfl,M,T,E,J⟩;refine λj y σ H4 hy I=>AM λO r=>?_;obtain⟨C,d,c,rfl,M,S,e4,T,E,J⟩:=I;refine r ?_;clear r;refine F5 ?_;intro Nx Cy;obtain⟨mk,aj,rfl⟩:=getm hy;have hj:j<z.2.length:=by rw[<-f3.len];exact(A7.mp aj).1
   have ae:=AD hj;have ah:=S.at_ j _ _ aj ae;have tk:z.2.take (j+1)=z.2.take j++[z.2[j]]:=by rw[DJ,ae];rfl
   generalize z.2[j]=m at ae ah tk;generalize hg:z.2.take j=g at E J tk ⊢;have ak:Ef (A6 ((l.map (·.2)).take i)++[(i,g)]) g:=.inr ⟨_,De _ (AY.mpr rfl),List.prefix_refl g⟩;have eB:=E.dct g ak;have a9:=SH (A6 ((l.map (·.2)).take i)++[(i,g)]) g
   have aC:(A6 ((l.map (·.2)).take i)++[(i,g)]).length<=101:=by
    unfold A6;rw[AW,Al,List.length_zipIdx,FH,Al,DE];omega
   have lr:(DQ (A6 ((l.map (·.2)).take i)++[(i,g)]) c g).length<sizeLine:=by unfold DQ;rw[Al];exact BE (by omega)
   refine⟨Or.inr (Or.inr (Or.inl ⟨rfl,Or.inr ⟨_,eB⟩⟩)),λe he=>?_⟩;have s5:=Bc (o:=.dT []) he;have ee:(upd H4 e (.dT [])) e=some (.dT []):=Aa;have al:=he;generalize upd H4 e (.dT [])=H5 at s5 ee ⊢;refine⟨Cj,λT5 ay=>?_⟩;obtain⟨H6,az,s6,U⟩:=new_at (o:=.tup [.int (i:Int),.ref e]) ay;rw[<-az];have u:=s5.trans s6;refine⟨d g,_,F3 m,mk,.ref T5,rfl,rfl,u _ _ eB,u _ _ ah,lr,λa8 G=>?_,λG=>?_⟩;rw[Oj] at G;by_cases q:m∈(TreeM.keysAt (A6 ((l.map (·.2)).take i)++[(i,g)]) g).map (·.1);rw[Aj q] at G;cases G;obtain⟨⟨m',k⟩,hk,rfl⟩:=Br.mp q;have a0:=E.tup g m' k hk;refine Or.inr (Or.inl ⟨_,.ref (d (g++[m'])),Aq.of (u _ _ a0),rfl,?_⟩);refine⟨some (.ref mk),d,c,by rw[tk];rfl,M.trans u,S.same u,u _ _ e4,T,by rw[tk];exact(E.sameW u).stay q,λp v=>J p ((PL q).mp (by rw[tk] at v;exact v))⟩;rw[Ak q] at G;cases G;have q:m∉(TreeM.keysAt (A6 ((l.map (·.2)).take i)++[(i,g)]) g).map (·.1):=λq=>by rw[Oj,Aj q] at G;cases G
   refine AM λO r=>?_;obtain⟨d',c',T7,a1,a2,a3⟩:=E.grow q al J (M.free al) u (s6 _ _ ee) U;refine r ?_;clear r;have a4:∀{b o},H b=some o->b≠d g:=λ{b o}N z=>by rw[z,J g ak] at N;cases N
   have s7:Ac H (upd H6 (d g) (.dT (AX (DQ (A6 ((l.map (·.2)).take i)++[(i,g)]) c g) (F3 m) (.ref T5)))):=λb o N=>by
    rw[AC (a4 N)];exact u _ _ (M _ _ N)
   have af:=u _ _ eB;have a5:T5≠d g:=λy=>by rw[y,af] at U;cases U
   refine Or.inr (Or.inl ⟨_,.ref e,Aq.of (by rw[AC a5];exact U),rfl,?_⟩);refine⟨some (.ref mk),d',c',by rw[tk,a1];rfl,s7,⟨S.len,λn a b h1 L=>?_⟩,?_,a3.trans T,by rw[tk];exact T7,by rw[tk];exact a2⟩;have x:=u _ _ (S.at_ n a b h1 L);rw[AC (MP x af (λz=>nomatch z))];exact x;have x:=u _ _ e4;rw[AC (MP x af (λz=>nomatch z))];exact x
inductive Ey (K:Ah) (vs:List V) (H:Hp) (Q:VK):Prop where
 |mk (nt S T R mk:Addr) (us Gs Es:List Addr) (ss:List Bi) (m:Ap) (h0:vs=[.ref nt,.ref mk]) (h1:Aq K H nt [.ref S,.ref T,.ref R]) (h2:Dl H S us Gs Es ss) (h3:Aq K H mk (GK m)) (h4:Et ss m) (h5:Q (.str (FO ss m)) H):Ey K vs H Q
def gF (K:Ah):Sp:=λvs H Q _=>Ey K vs H Q
variable (P w K mg base) in
abbrev T6:Prop:=BF P w K mg base "label_at" 1 ["net", "mark"] (gF K)
theorem gH(B:BG mg)(F:Bp K "label_at" "label_at" Q6 f fd)(t:mg "label_at" = some (.ref f)):T6 P w K mg base:=by
 refine B1 F t Nc (λG H Q E h=>?_) (λah ab ai s H G Q E hr h=>?_);obtain⟨I,S,T,R,mk,us,J,L,ss,m,rfl,_⟩:=h;rfl;obtain⟨I,S,T,R,mk,us,J,L,ss,m,rfl,M,A,t,⟨n,k,Z,v,g,j,C⟩,q⟩:=h;have Y:n<ss.length:=(A7.mp j).1;obtain⟨u,ae,E1,N,af,ag,D,⟨O,⟨l,U,o⟩,⟨p,W,r⟩⟩⟩:=A.get Y;rw[j] at D;have X:=Bo D;rw[<-X] at o r;have aa:Bz (us.map V.ref) m.1=some (.ref u):=by rw[v];exact Cf (by rw[Bh,N];rfl)
 refine⟨_,(Ao (DL (pv 1) (Ct (n:=3) rfl (AK (Ay (i:=2) Nc.nd) (AK (Ay (i:=3) Nc.nd) (AK (Ay (i:=4) Nc.nd) Cs)))))
  (Ao (DL (AE AF (AE AF (pv 0) Ai) (pv 2)) (Ct (n:=2) rfl (AK (Ay (i:=5) Nc.nd) (AK (Ay (i:=6) Nc.nd) Cs))))
  (Ao (Bk (BI Cz (pv 3) B2 (By _)) (Av (AZ (AE AF (AE AF (pv 5) (pv 4)) Ai))) Bm)
  (Av (AZ (AE AF (AE AF (pv 6) (pv 4)) Ai)))))),?_⟩
 (try dsimp only[AG,Cx.nox,Cx.wish]);refine⟨_,t,rfl,?_⟩;refine Or.inr (Or.inl ⟨_,.ref S,M,rfl,Or.inl ⟨_,.ref u,Ag.of A.top,aa,?_⟩⟩);refine⟨_,Aq.of O,rfl,?_⟩;refine⟨rfl,rfl,Am (λh=>?_) (λh=>?_)⟩;have b:m.2.1=("step" : Str):=V.str.inj (Bg h);rcases C with⟨_,a⟩|⟨e,_⟩;have c:=AD a;rw[YV v g j b c] at q;have d:l[k]?=some (l[k]'(by rw[o.len];exact a)):=AD _;have x:=o.at_ _ _ _ d c;have y:Bz (l.map V.ref) m.2.2=some (.ref (l[k]'(by rw[o.len];exact a))):=by rw[g];exact Cf (by rw[Bh,d];rfl)
 exact Or.inl ⟨_,_,Ag.of U,y,Or.inr (Or.inl ⟨_,.str Z.1[k].1,Aq.of x,rfl,q⟩)⟩;exact absurd (e.symm.trans b) Sy;have b:m.2.1≠("step" : Str):=λz=>h (A4 (by rw[z]));rcases C with⟨e,_⟩|⟨_,a⟩;exact absurd e b;have c:=AD a;rw[YW v g j b c] at q;have d:p[k]?=some (p[k]'(by rw[r.len];exact a)):=AD _;have x:=r.at_ _ _ _ d c;have y:Bz (p.map V.ref) m.2.2=some (.ref (p[k]'(by rw[r.len];exact a))):=by rw[g];exact Cf (by rw[Bh,d];rfl)
 exact Or.inl ⟨_,_,Ag.of W,y,Or.inr (Or.inl ⟨_,.str Z.2[k].1,Aq.of x,rfl,q⟩)⟩
theorem Xl{bet:Ap->Ap->Bool}{ws:TreeM.Ws Ap}{a:List Ap}{m:Ap}{t:List Ap}:TreeM.gat bet ws a (m::t)=((TreeM.keysAt ws a).filter λb=>bet b.1 m).map (·.2)++TreeM.gat bet ws (a++[m]) t:=rfl
theorem Xm{bet:Ap->Ap->Bool}{ws:TreeM.Ws Ap}:∀{b a:List Ap},(TreeM.gat bet ws a b).length<=b.length*ws.length
 |[],_=>Ci _
 |m::t,a=>by
   rw[Xl,AW,Al,Ej];have d:=O0 (λc:Ap×Nat=>bet c.1 m) (TreeM.keysAt ws a);have e:=SH ws a;have f:=Xm (bet:=bet) (ws:=ws) (b:=t) (a:=a++[m]);rw[Nat.add_mul,Nat.one_mul];omega
inductive C3 (K:Ah) (vs:List V) (H:Hp) (Q:VK):Prop where
 |mk (nt S T R bp l:Addr) (us Gs Es:List Addr) (ss:List Bi) (ord:List (Str×Str)) (ws:TreeM.Ws Ap) (d:List Ap->Addr) (c:List Ap->Ap->Addr) (F:Addr->Prop) (w:List Ap) (h0:vs=[.ref nt,.ref bp,.ref (d []),.ref l]) (h1:H nt=some (.tup [.ref S,.ref T,.ref R])) (h2:Dl H S us Gs Es ss) (h3:HC H bp ord) (h4:Bb dF H ws d c) (h5:ws.length<=100) (h6:(∀kw∈ws,∀m∈kw.2,Et ss m)) (h7:CO F H l w) (h8:M3 ss w) (h9:∀H',Ac H H'->Q (PK ((TreeM.gat (B6 ss ord) ws [] w).map λk:Nat=>(k:Int))) H'):C3 K vs H Q
def gI (K:Ah):Sp:=λvs H Q _=>C3 K vs H Q
variable (P w K mg base) in
abbrev QE:Prop:=BF P w K mg base "first_hider" 2 ["net", "better", "tree", "way"] (gI K)
theorem gJ(B:BG mg)(an:T6 P w K mg base)(F:Bp K "first_hider" "first_hider" Q7 f fd)(A:mg "first_hider" = some (.ref f)):QE P w K mg base:=by
 refine B1 F A Ml (λvs H a1 a2 h=>?_) (λaO aJ aS s H vs a1 a2 hr h=>?_);obtain⟨L,S,T,R,O,l,us,Gs,Es,ss,q,ws,d,c,F,w,rfl,_⟩:=h;rfl
 . obtain⟨L,S,T,R,O,l,us,Gs,Es,ss,q,ws,d,c,F,w,rfl,eN,SC,BD,TT,a5,a6,⟨ms,el,rl,_⟩,ok,a3⟩:=h
   obtain⟨kb,eb,hb⟩:=BD
   refine⟨_,(Ao (AS (i:=4) Ml.nd (CA Ae))
    (Ao (AS (i:=5) Ml.nd (pv 2))
    (Ao (Cw Cr rfl (C6 (pv 3)) (Ay (i:=6) Ml.nd) (Ao (AS (i:=7) Ml.nd (Ba an (Ab (pv 0) (Ab (pv 6) Ae))))
     (Ao (Cw Cr rfl (Jv (pv 5)) (Ay (i:=8) Ml.nd) (Av (Bk (BI (U8 (Lx hr)) (Bw (Ab (Ba an (Ab (pv 0) (Ab (pv 8) Ae))) (Ab (pv 7) Ae))) (pv 1) (by with_unfolding_all rfl)) (Av (Di (DG DK EF EG EI (pv 4) (Ab (AE AF (UW (Lx hr) (pv 5) (pv 8) (λ_ _=>rfl)) Ai) Ae)))) Bm)))
     (Av (AS (i:=5) Ml.nd (AE AF (X5 (Lx hr) (pv 5) (pv 6) (Bw (Ab Ai (Ab RW Ae))) ⟨rfl,rfl,rfl,rfl⟩) Ai))))))
    (Av (AZ (Jw rfl (by rfl) B.b_min (Ab (pv 4) Ae))))))),?_⟩
   (try dsimp only[AG,Cx.nox,Cx.wish]);refine⟨by decide,λN Y=>?_⟩;obtain⟨aK,a7,s1,a8⟩:=new_at (o:=.lst []) Y;rw[<-a7];refine AN ?_;(try dsimp only);refine AN ?_;(try dsimp only)
   refine⟨⟨_,Ag.of (s1 _ _ el)⟩,EL (xs:=ms.map V.ref) (λj σ n=>∃(a:Addr)(u6 u7 C:Option V)(ns:List Nat),σ=[some (.ref L),some (.ref O),some (.ref (d [])),some (.ref l),some (.ref N),some (.ref a),u6,u7,C]/\Ac H n/\n N=some (.lst ((ns.map λk:Nat=>(k:Int)).map V.int))/\ns++TreeM.gat (B6 ss q) ws (w.take j) (w.drop j)=TreeM.gat (B6 ss q) ws [] w/\a≠N/\((Ef ws (w.take j)/\a=d (w.take j))\/(¬Ef ws (w.take j)/\H a=none/\Rd n a (.dT []))))
    ⟨d [],none,none,none,[],rfl,s1,a8,rfl,?_,.inl ⟨.inl rfl,rfl⟩⟩ (λj σ n _ ab=>by obtain⟨_,_,_,_,_,_,s,_⟩:=ab;exact Ag.of (s _ _ el)) ?_ ?_⟩
   obtain⟨o,x⟩:=TT.dct [] (.inl rfl);exact AJ x Y;rotate_left;refine λσ D ae=>AM λNz U=>?_;obtain⟨a,u6,u7,C,ns,rfl,y,af,t,_⟩:=ae;refine U ?_;clear U;rw[Al,rl.len,List.drop_length] at t;have t:ns=_:=(FA ns).symm.trans t;subst t;exact⟨N,_,rfl,af,a3 D y⟩;refine λj aL σ D hy ae=>AM λNz U=>?_;obtain⟨a,u6,u7,C,ns,rfl,y,af,t,ao,ag⟩:=ae;refine U ?_;clear U;refine F5 ?_;intro Nx Cy;obtain⟨mk,aq,rfl⟩:=getm hy;have hj:j<w.length:=by rw[<-rl.len];exact(A7.mp aq).1
   have ah:=AD hj;have aa:=rl.at_ j _ _ aq ah;have ar:=ok.1 _ (EC hj);have tk:w.take (j+1)=w.take j++[w[j]]:=by rw[DJ,ah];rfl
   have dk:w.drop j=w[j]::w.drop (j+1):=MI hj;rw[dk,Xl] at t;generalize w[j]=m at ah aa tk ar t;generalize aP:w.take j=g at tk t ag ⊢;refine⟨L,S,T,R,mk,us,Gs,Es,ss,m,rfl,Aq.of (y _ _ eN),SC.same y,Aq.of (y _ _ aa),ar,?_⟩;refine AN ?_;try dsimp only
   have a9:Rd D a (.dT (DQ ws c g)):=by
    rcases ag with⟨u,p⟩|⟨u,_,p⟩;obtain⟨o,x⟩:=TT.dct g u;rw[p];exact .inr ⟨o,y _ _ x⟩;unfold DQ;rw[VU u];exact p
   refine IC (λσ' n=>∃(C:Option V),σ'=[some (.ref L),some (.ref O),some (.ref (d [])),some (.ref l),some (.ref N),some (.ref a),some (.ref mk),some (.str (FO ss m)),C]/\Ac H n/\n N=some (.lst (((ns++((TreeM.keysAt ws g).filter λE=>B6 ss q E.1 m).map (·.2)).map λk:Nat=>(k:Int)).map V.int))/\Rd n a (.dT (DQ ws c g))) ?_ (λN' aA=>?_)
   case refine_2 =>
    refine⟨a,_,rfl,a9,λo G=>?_⟩
    have Q:Ac H (upd D a (.frz o (.dT (DQ ws c g)))):=λb a4 e=>by
     by_cases au:b=a;subst au;rw[Aa];rcases ag with⟨u,p⟩|⟨_,p,_⟩;obtain⟨o',x⟩:=TT.dct g u;rw[<-p] at x;have x2:=y _ _ x;rcases G with G|G;rw[x2] at G;cases G;rw[x2] at G;cases G;rw[x] at e;exact e;rw[e] at p;cases p;rw[AC au];exact y _ _ e
    have M:(upd D a (.frz o (.dT (DQ ws c g)))) N=_:=(AC (Ne.symm ao)).trans af;have av:(upd D a (.frz o (.dT (DQ ws c g)))) a=some (.frz o (.dT (DQ ws c g))):=Aa;generalize upd D a (.frz o (.dT (DQ ws c g)))=H3 at Q M av ⊢
    refine Y6 (λi σ n=>∃(C:Option V),σ=[some (.ref L),some (.ref O),some (.ref (d [])),some (.ref l),some (.ref N),some (.ref a),some (.ref mk),some (.str (FO ss m)),C]/\Ac H n/\n N=some (.lst (((ns++(((TreeM.keysAt ws g).take i).filter λE=>B6 ss q E.1 m).map (·.2)).map λk:Nat=>(k:Int)).map V.int))/\n a=some (.frz o (.dT (DQ ws c g))))
     ⟨_,rfl,Q,by rw[En];show H3 N=some (.lst (((ns++[]).map _).map _));rw[FA];exact M,av⟩ (λi σ n _ ab=>by obtain⟨_,_,_,_,e⟩:=ab;exact e) ?_ ?_
    rotate_left;rintro σ H4 ⟨ai,rfl,I,J,W⟩;unfold DQ at J;rw[Al,D8] at J;exact aA _ _ ⟨ai,rfl,I,J,.inr ⟨o,W⟩⟩;rintro i k aM b σ H4 hi aw ⟨ai,rfl,I,J,W⟩;unfold DQ at hi;rw[Bh] at hi;obtain⟨⟨x,kk⟩,hx,e⟩:=Gp.mp hi;have e1:=BC Prod.fst e;have e2:=BC Prod.snd e;dsimp only at e1 e2;subst e1 e2;have mx:=Bd hx;have aj:x∈(TreeM.keysAt ws g).map (·.1):=Br.mpr ⟨_,mx,rfl⟩
    have aB:Et ss x:=by
     obtain⟨kw,u,p⟩:=TreeM.keysAt_mem.mp aj;exact a6 kw u x (p.subset (by simp))
    have aC:=TT.tup g x kk mx
    have aQ:Ef ws g:=by
     obtain⟨kw,u,p⟩:=TreeM.keysAt_mem.mp aj;exact .inr ⟨kw,u,(Io g _).trans p⟩
    have ax:(TreeM.keysAt ws g).take (i+1)=(TreeM.keysAt ws g).take i++[(x,kk)]:=by rw[DJ,hx];rfl
    refine⟨L,S,T,R,b,us,Gs,Es,ss,x,rfl,Aq.of (I _ _ eN),SC.same I,Aq.of aw,aB,?_⟩;refine⟨Cj,λaN hp=>?_⟩;obtain⟨H5,ak,r,ep⟩:=new_at (o:=.tup [.str (FO ss x),.str (FO ss m)]) hp;rw[<-ak];have v:=I.trans r;refine⟨O,_,rfl,Dj.t (k:=Fs (FO ss x,FO ss m)) (v _ _ eb) ep,rfl,?_⟩;rw[hb];refine Am (λh=>?_) (λh=>?_);have al:B6 ss q x m=true:=(by simpa [B6] using h);refine⟨Or.inl ⟨rfl,_,Ag.of (r _ _ J)⟩,a,.ref (c g x),rfl,?_,Or.inr (Or.inl ⟨_,.int (kk:Int),Aq.of (v _ _ aC),rfl,_,r _ _ J,?_,?_⟩)⟩;refine .inr ⟨_,F3 x,b,.inr ⟨o,r _ _ W⟩,rfl,r _ _ aw,?_⟩;rw[Oj,Aj aj];rw[Al,Al,AW,Al];have u:=O0 (λE:Ap×Nat=>B6 ss q E.1 m) ((TreeM.keysAt ws g).take i);have p:=SH ws g;have h3:(((TreeM.keysAt ws g).take i)).length<=(TreeM.keysAt ws g).length:=by rw[FH];omega
    have h4:=BC List.length t;have h5:=Xm (bet:=B6 ss q) (ws:=ws) (b:=w) (a:=[]);have h6:w.length*ws.length<=100*100:=Nat.mul_le_mul ok.2 a5;rw[AW] at h4;exact YY (by omega);refine⟨_,rfl,λb' a4 e=>?_,?_,?_⟩;rw[AC (AJ e Y)];exact v _ _ e;rw[Aa,ax,Nk,MJ,Aj al]
    simp
    rw[AC ao];exact r _ _ W;have al:¬B6 ss q x m=true:=(by simpa [B6] using h);refine⟨_,rfl,v,?_,r _ _ W⟩;rw[ax,Nk,MJ,Ak al];simpa using r _ _ J
   rintro σ' H3 ⟨ai,rfl,Q,M,a0⟩;have aR:((DQ ws c g).map (·.1)).length=(DQ ws c g).length:=Al _;refine⟨a,rfl,.inr ⟨_,a0⟩,λe Z=>?_⟩;obtain⟨H4,aD,I,ee⟩:=new_at (o:=.dT []) Z;rw[<-aD];refine⟨Cj,λT5 aE=>?_⟩;obtain⟨H5,ak,r,aF⟩:=new_at (o:=.tup [.int 0,.ref e]) aE;rw[<-ak];have X:=I.trans r;have v:=Q.trans X;have aI:Rd H5 a (.dT (DQ ws c g)):=a0.elim (λz=>.inl (X _ _ z)) λ⟨o,z⟩=>.inr ⟨o,X _ _ z⟩;have aG:e≠N:=λz=>by rw[z,M] at Z;cases Z
   refine⟨_,.inr ⟨_,F3 m,mk,aI,rfl,v _ _ aa,rfl⟩,?_⟩;rw[Oj];have ay:(ns++((TreeM.keysAt ws g).filter λE=>B6 ss q E.1 m).map (·.2))++TreeM.gat (B6 ss q) ws (g++[m]) (w.drop (j+1))=TreeM.gat (B6 ss q) ws [] w:=by rw[FX];exact t
   by_cases A:m∈(TreeM.keysAt ws g).map (·.1);rw[Aj A];obtain⟨⟨m',k⟩,hk,rfl⟩:=Br.mp A;have aH:=TT.tup g m' k hk;have az:=Fq.mpr A;refine Or.inr (Or.inl ⟨_,.ref (d (g++[m'])),Aq.of (v _ _ aH),rfl,?_⟩);refine⟨_,_,_,_,_,rfl,v,X _ _ M,by rw[tk];exact ay,?_,.inl ⟨by rw[tk];exact az,by rw[tk]⟩⟩;obtain⟨o,x⟩:=TT.dct _ az;exact AJ x Y;rw[Ak A];refine Or.inr (Or.inl ⟨_,.ref e,Aq.of aF,rfl,?_⟩);exact⟨_,_,_,_,_,rfl,v,X _ _ M,by rw[tk];exact ay,aG,.inr ⟨λz=>A (Fq.mp (by rw[tk] at z;exact z)),Q.free Z,.inl (r _ _ ee)⟩⟩
inductive D1 (K:Ah) (vs:List V) (H:Hp) (Q:VK):Prop where
 |mk (nt S T R t D:Addr) (us Gs Es:List Addr) (ss:List Bi) (F G:Addr->Prop) (sts:List CN) (inn:Int) (ord:List (Str×Str)) (zs:List (Addr×List Ap)) (h0:vs=[.ref nt,.ref t,.ref D]) (h1:H nt=some (.tup [.ref S,.ref T,.ref R])) (h2:Dl H S us Gs Es ss) (h3:Gc K F H t sts inn ord) (h4:ord.length<=40) (h5:(∀x,(x,x)∉ord)) (h6:H D=some (.lst (zs.map λz=>V.ref z.1))) (h7:(∀z∈zs,CO G H z.1 z.2)) (h8:(∀z∈zs,M3 ss z.2)) (h9:zs.length<=100) (h10:∀(P:Addr)(ys:List (Addr×List Ap))(H':Hp),H P=none->Ac H H'->H' P=some (.lst (ys.map λz=>V.ref z.1))->(∀z∈ys,CO (λl=>H l=none/\l≠P) H' z.1 z.2)->ys.map (·.2)=CP ss ord (zs.map (·.2)) (zs.map (·.2))->Q (.ref P) H'):D1 K vs H Q
def gK (K:Ah):Sp:=λvs H Q _=>D1 K vs H Q
variable (P w K mg base) in
abbrev T8:Prop:=BF P w K mg base "seen_ways" 3 ["net", "table", "ways"] (gK K)
theorem gL(B:BG mg)(ay:QC P w K mg base)(az:QD P w K mg base)(a0:QE P w K mg base)(F:Bp K "seen_ways" "seen_ways" O5 f fd)(L:mg "seen_ways" = some (.ref f)):T8 P w K mg base:=by
 refine B1 F L Tr (λa H aq ar h=>?_) (λa9 a7 aC s H a aq ar hr h=>?_);obtain⟨nt,S,aa,ab,t,ae,us,Gs,Es,ss,F,G,ag,ah,j,d,rfl,_⟩:=h;rfl;obtain⟨nt,S,aa,ab,t,ae,us,Gs,Es,ss,F,G,ag,ah,j,d,rfl,eN,SC,TB,aw,irr,M,p,ai,lz,au⟩:=h
 refine⟨_,(Ao (AS (i:=3) Tr.nd (Ba ay (Ab (pv 1) Ae)))
  (Ao (AS (i:=4) Tr.nd (HB (Ba az (Ab (pv 2) Ae))))
  (Av (AZ (Ho (te:=RK (Jr K) (Pd (CT 0) Li)) rfl C0 (C6 (pv 2)) (λ_ _ _ _ _=>(Ay (i:=0) C0.nd)) (λ_ _ _ _ _=>(Po (FC (Gb (Ba a0 (Ab (pv 1) (Ab (pv 2) (Ab (pv 3) (Ab (pv 0) Ae))))))))) (λ_ _ _ _ _=>(Iw UN B.b_list (Ab (pv 0) Ae)))))))),?_⟩
 (try dsimp only[AG,Cx.nox,Cx.wish]);refine⟨t,F,ag,ah,j,rfl,TB,aw,λbp a8 aA N BD=>?_⟩;refine⟨ae,G,d,rfl,N _ _ M,λz h=>(p z h).same N,lz,λav c H2 s2 T2 aj H3 q f4=>?_⟩;have s3:=q.same s2;have T3:=T2.frz aj q f4;have a1:=BD.same s3;clear T2 aj q f4 s2 BD;have n:=N.trans s3;have lw:(A6 (d.map (·.2))).length<=100:=by unfold A6;rw[Al,List.length_zipIdx,Al];exact lz
 have a2:∀kw∈A6 (d.map (·.2)),∀m∈kw.2,Et ss m:=λkw a3 m L=>by
  obtain⟨z,h1,h2⟩:=Br.mp (Bd (Dm.mp a3));exact(ai z h1).1 m (by rw[h2];exact L)
 refine⟨⟨_,Ag.of (n _ _ M)⟩,Pu (xs:=d.map λz=>V.ref z.1) (λP i r C=>∃a:List (Addr×List Ap),r=(a.map λz=>V.ref z.1)/\Ac H3 C/\C P=some (.lst r)/\(∀z∈a,CO (λl=>H l=none/\l≠P) C z.1 z.2)/\a.map (·.2)=CP ss j (d.map (·.2)) ((d.map (·.2)).take i)/\a.length<=i)
  (λP u=>⟨[],rfl,Bc u,Aa,λz p=>by simp at p,by rw[En];rfl,AB _⟩) (λP i r C a4=>by obtain⟨_,_,s,_⟩:=a4;exact Ag.of (s _ _ (n _ _ M))) (λP i af r H4 RR R0 u hy O k k0=>?_) (λP r H4 u O=>?_)⟩
 refine AM λNz y=>?_;obtain⟨a,rfl,g,Q,J,A,lv⟩:=O;refine y ?_;clear y;obtain⟨z,U,rfl⟩:=getm hy;have aB:i<d.length:=(A7.mp U).1;have R:=Bd U;have ak:(d.map (·.2))[i]?=some z.2:=by rw[Bh,U];rfl
 have W:=n.trans g;refine⟨nt,S,aa,ab,bp,z.1,us,Gs,Es,ss,j,_,av,c,G,z.2,rfl,W _ _ eN,SC.same W,a1.same g,T3.same g,lw,a2,(p z R).same W,ai z R,λH5 D=>?_⟩;have X:=g.trans D;have al:=n.trans X;have Y:=D _ _ Q;refine⟨rfl,Am (λh=>?_) (λh=>?_)⟩;have Z:=(PM irr).mp (CQ.mp (Bg h));obtain⟨ms,ax,q,_⟩:=(p z R).same al;refine⟨z.1,_,rfl,Or.inl (Ag.of ax),λl E=>?_⟩;obtain⟨H6,a5,I,el⟩:=new_at (o:=.lst (ms.map V.ref)) E;rw[<-a5];have an:=I _ _ Y;have ao:l≠P:=λaf=>by rw[af,Y] at E;cases E
 have T:Keeps (·=P) H6 (upd H6 P (.lst (a.map (λz=>V.ref z.1)++[.ref l]))):=Keeps.one an;refine k _ _ an (by rw[Al];exact BE (by omega)) ⟨a++[(l,z.2)],by rw[Bn];rfl,λb o e=>?_,Aa,λw a6=>?_,?_,by rw[AW,DE];omega⟩;rw[AC (AJ e u)];exact I _ _ (X _ _ e);rcases BB.mp a6 with h|h;exact((J w h).same (D.trans I)).keeps T λx hx=>hx.2;rw[AY.mp h];exact⟨ms,T.at_ _ _ el ao,(q.same I).keeps T,al.free E,ao⟩;rw[VY ak,Ak (by rw[Z];exact Cq),Bn,A];rfl
 have Z:((d.map (·.2)).any λv=>Cg ss j v z.2)=true:=by
  cases e:(d.map (·.2)).any λv=>Cg ss j v z.2 with
  |true=>rfl
  |false=>exact absurd (A4 (CQ.mpr ((PM irr).mpr e))) h
 exact k0 _ ⟨a,rfl,X,Y,λw hw=>(J w hw).same D,by rw[VY ak,Aj Z];exact A,by omega⟩;refine AM λNz y=>?_;obtain⟨a,rfl,g,Q,J,A,lv⟩:=O;refine y ?_;clear y;rw[Al,<-Al (f:=(·.2)),D8] at A;exact au P a H4 ((n).free u) (n.trans g) Q J A
inductive Ez (K:Ah) (vs:List V) (H:Hp) (Q:VK):Prop where
 |mk (nt A t D:Addr) (x:Str) (F G:Addr->Prop) (W:Wd) (inn:Int) (ord:List (Str×Str)) (sc st:Int) (zs:List (Addr×AQ)) (h0:vs=[.ref nt,.ref t,.ref D,.str x]) (h1:Bl K H nt A t W) (h2:Gc K F H t W.sts inn ord) (h3:BY W) (h4:Bf W) (h5:ord.length<=40) (h6:(∀x,(x,x)∉ord)) (h7:(0<=sc/\sc<W.ss.length)) (h8:(0<=st/\st<W.sts.length)) (h9:H D=some (.lst (zs.map λz=>V.ref z.1))) (h10:(∀z∈zs,DH G H z.1 z.2)) (h11:Db W sc st (zs.map (·.2))) (h12:∀(r D2 P:Addr)(ws ys:List (Addr×List Ap))(H':Hp),Ac H H'->H' r=some (.tup [.ref D,.ref D2,.ref P])->H D2=none->H' D2=some (.lst (ws.map λz=>V.ref z.1))->(∀z∈ws,CO (λl=>H l=none) H' z.1 z.2)->M1 W x (zs.map (·.2)) (ws.map (·.2))->H P=none->H' P=some (.lst (ys.map λz=>V.ref z.1))->(∀z∈ys,CO (λl=>H l=none) H' z.1 z.2)->ys.map (·.2)=CP W.ss ord (ws.map (·.2)) (ws.map (·.2))->Q (.ref r) H'):Ez K vs H Q
def gM (K:Ah):Sp:=λvs H Q _=>Ez K vs H Q
variable (P w K mg base) in
abbrev Ua:Prop:=BF P w K mg base "look_for" 4 ["net", "table", "begun", "name"] (gM K)
theorem gN(B:BG mg)(aa:T4 P w K mg base)(ab:T8 P w K mg base)(F:Bp K "look_for" "look_for" Q8 f fd)(O:mg "look_for" = some (.ref f)):Ua P w K mg base:=by
 refine B1 F O W0 (λU H Q E h=>?_) (λaj A ak s H U Q E y h=>?_);obtain⟨j,A,t,D,x,F,G,W,L,M,k,l,m,rfl,_⟩:=h;rfl;obtain⟨j,A,t,D,x,F,G,W,L,M,k,l,m,rfl,C,V,ok,I,X,irr,e,g,Y,Z,c,q⟩:=h;obtain⟨S,T,R,us,Gs,Es,ts,qt,qs,eN,N3⟩:=C.net
 refine⟨_,(Ao (AS (i:=4) W0.nd (Ba aa (Ab (pv 0) (Ab (pv 1) (Ab (pv 2) (Ab (pv 3) Ae))))))
  (Av (AZ (Bw (Ab (pv 2) (Ab (pv 4) (Ab (Ba ab (Ab (pv 0) (Ab (pv 1) (Ab (pv 4) Ae)))) Ae))))))),?_⟩
 (try dsimp only[AG,Cx.nox,Cx.wish]);refine⟨j,A,t,D,x,G,W,m,rfl,C,ok,Y,Z,λz ae=>((c.mem _).mp (Br.mpr ⟨z,ae,rfl⟩)).ok ok e g,I.fnd x k l _ e g c,λn d ai af a N J p=>?_⟩;have ag:∀z∈d,z.2∈DW W x (m.map (·.2)):=λz h=>p.perm.mem_iff.mp (Br.mpr ⟨z,h,rfl⟩)
 have lw:d.length<=100:=by
  have h1:=p.perm.length_eq;have h2:=I.fnd x k l _ e g c;rw[Al] at h1;omega
 refine⟨j,S,T,R,t,n,us,Gs,Es,W.ss,F,_,W.sts,L,M,d,rfl,a _ _ eN,N3.sc.same a,V.same a,X,irr,N,J,λz h=>Sz ok e g c (ag z h),lw,λP ys H2 hP u eP hy ah=>?_⟩;refine⟨Jq,λr y=>?_⟩;have b:=Bc (o:=.tup [.ref D,.ref n,.ref P]) y;refine q r n P d ys _ ((a.trans u).trans b) Aa af (b _ _ (u _ _ N)) (λz h=>(((J z h).mono' λ_ _ _ v=>v.1).same u).same b) p (a.free hP) (b _ _ eP) (λz h=>((hy z h).mono' λx o _ v=>a.free v.1).same b) ah
inductive DB (K:Ah) (vs:List V) (H:Hp) (Q:VK):Prop where
 |mk (nt S T R t D O:Addr) (us Gs Es:List Addr) (ss:List Bi) (F G:Addr->Prop) (sts:List CN) (inn:Int) (ord:List (Str×Str)) (ws:List (Addr×List Ap)) (os:List (Addr×Ow)) (h0:vs=[.ref nt,.ref t,.ref D,.ref O]) (h1:H nt=some (.tup [.ref S,.ref T,.ref R])) (h2:Dl H S us Gs Es ss) (h3:Gc K F H t sts inn ord) (h4:ord.length<=40) (h5:(∀x,(x,x)∉ord)) (h6:H D=some (.lst (ws.map λz=>V.ref z.1))) (h7:(∀z∈ws,CO G H z.1 z.2)) (h8:(∀z∈ws,M3 ss z.2)) (h9:ws.length<=100) (h10:H O=some (.lst (os.map λz=>V.ref z.1))) (h11:(∀z∈os,FE G H z.1 z.2)) (h12:(∀z∈os,M3 ss z.2.1)) (h13:∀(v:V)(H':Hp),Ac H H'->SS G H' v (FF ss ord (ws.map (·.2)) (os.map (·.2)))->Q v H'):DB K vs H Q
def gO (K:Ah):Sp:=λvs H Q _=>DB K vs H Q
variable (P w K mg base) in
abbrev Ub:Prop:=BF P w K mg base "first_owed" 3 ["net", "table", "found", "owed"] (gO K)
theorem gP(B:BG mg)(ao:QC P w K mg base)(aq:QD P w K mg base)(ar:QE P w K mg base)(F:Bp K "first_owed" "first_owed" Q9 f fd)(r:mg "first_owed" = some (.ref f)):Ub P w K mg base:=by
 refine B1 F r OC (λvs ai aj ak h=>?_) (λa2 a0 a4 s ai vs aj ak hr h=>?_);obtain⟨u,S,T,R,t,D,O,us,J,L,ss,F,G,aa,ab,b,a,k,rfl,_⟩:=h;rfl
 . obtain⟨u,S,T,R,t,D,O,us,J,L,ss,F,G,aa,ab,b,a,k,rfl,eN,SC,TB,an,irr,eD,hw,au,ae,M,ho,av,q⟩:=h
   refine⟨_,(Ao (AS (i:=4) OC.nd (Ba ao (Ab (pv 1) Ae)))
    (Ao (AS (i:=5) OC.nd (HB (Ba aq (Ab (pv 2) Ae))))
    (Ao (Cw Cr rfl (C6 (pv 3)) (Ct (n:=2) rfl (AK (Ay (i:=6) OC.nd) (AK (Ay (i:=7) OC.nd) Cs))) (Av (Bk (FC (Gb (Ba ar (Ab (pv 0) (Ab (pv 4) (Ab (pv 5) (Ab (pv 6) Ae))))))) (Av (AZ (Bw (Ab (pv 6) (Ab (pv 7) Ae))))) Bm)))
    (Av (AZ GG))))),?_⟩
   (try dsimp only[AG,Cx.nox,Cx.wish]);refine⟨t,F,aa,ab,b,rfl,TB,an,λN a1 a3 y Q=>?_⟩;refine⟨D,G,a,rfl,y _ _ eD,λz h=>(hw z h).same y,ae,λd c H2 U W af H3 A X=>?_⟩;have Y:=A.same U;have T3:=W.frz af A X;have aw:=Q.same Y;clear W af A X U Q;have p:=y.trans Y;have lw:(A6 (a.map (·.2))).length<=100:=by unfold A6;rw[Al,List.length_zipIdx,Al];exact ae
   have ax:∀Z∈A6 (a.map (·.2)),∀m∈Z.2,Et ss m:=λZ ay m r=>by
    obtain⟨z,h1,h2⟩:=Br.mp (Bd (Dm.mp ay));exact(au z h1).1 m (by rw[h2];exact r)
   refine⟨⟨_,Ag.of (p _ _ M)⟩,EL (xs:=k.map λz=>V.ref z.1) (λi σ H'=>∃C E,σ=[some (.ref u),some (.ref t),some (.ref D),some (.ref O),some (.ref N),some (.ref (d [])),C,E]/\Ac H3 H'/\FF ss b (a.map (·.2)) (k.map (·.2))=FF ss b (a.map (·.2)) ((k.map (·.2)).drop i))
    ⟨none,none,rfl,λ_ _ e=>e,rfl⟩ (λi σ H' _ az=>by obtain⟨_,_,_,s,_⟩:=az;exact Ag.of (s _ _ (p _ _ M))) ?_ ?_⟩
   rotate_left;rintro σ H4 ⟨C,E,rfl,g,j⟩;rw[Al,<-Al (f:=(·.2)),List.drop_length] at j;refine q _ _ (p.trans g) ?_;rw[j];rfl;rintro i x σ H4 hx ⟨C,E,rfl,g,j⟩;obtain⟨z,ag,rfl⟩:=getm hx;have mz:=Bd ag;have H:=p.trans g;obtain⟨l,e1,wl⟩:=((ho z mz).same H).way;have hd:=SU (l:=k.map (·.2)) (i:=i) (x:=z.2) (by rw[Bh,ag];rfl);rw[hd] at j;refine⟨_,Aq.of e1,rfl,?_⟩;refine⟨u,S,T,R,N,l,us,J,L,ss,b,_,d,c,G,z.2.1,rfl,H _ _ eN,SC.same H,aw.same g,T3.same g,lw,ax,wl,av z mz,λH5 s5=>?_⟩;have ah:=g.trans s5;refine⟨rfl,Am (λh=>?_) (λh=>?_)⟩;have I:=(PM irr).mp (CQ.mp (Bg h));refine⟨Cj,λal hp=>?_⟩;have s6:=Bc (o:=.tup [.ref l,.int z.2.2]) hp;refine q _ _ ((p.trans ah).trans s6) ?_;rw[j,V3 I];exact⟨al,l,rfl,Aa,(wl.same s5).same s6⟩
   have I:((a.map (·.2)).any λv=>Cg ss b v z.2.1)=true:=by
    cases e:(a.map (·.2)).any λv=>Cg ss b v z.2.1 with
    |true=>rfl
    |false=>exact absurd (A4 (CQ.mpr ((PM irr).mpr e))) h
   exact⟨_,_,rfl,ah,by rw[j,V4 I]⟩
inductive DC (K:Ah) (vs:List V) (H:Hp) (Q:VK):Prop where
 |mk (nt S T R mk:Addr) (us Gs Es:List Addr) (ss:List Bi) (m:Ap) (h0:vs=[.ref nt,.ref mk]) (h1:Aq K H nt [.ref S,.ref T,.ref R]) (h2:Dl H S us Gs Es ss) (h3:Aq K H mk (GK m)) (h4:Et ss m) (h5:m.2.1=("told" : Str)) (h6:∀t,H t=some (.tup (Hw (KH ss m)))->Q (.ref t) H):DC K vs H Q
def gQ (K:Ah):Sp:=λvs H Q _=>DC K vs H Q
variable (P w K mg base) in
abbrev OQ:Prop:=BF P w K mg base "telling_at" 1 ["net", "mark"] (gQ K)
theorem gR(B:BG mg)(F:Bp K "telling_at" "telling_at" Ra f fd)(c:mg "telling_at" = some (.ref f)):OQ P w K mg base:=by
 refine B1 F c OD (λv H Q E h=>?_) (λaf A ag s H v Q E hr h=>?_);obtain⟨x,S,T,R,mk,us,y,z,ss,m,rfl,_⟩:=h;rfl;obtain⟨x,S,T,R,mk,us,y,z,ss,m,rfl,C,j,c,⟨n,k,Z,l,o,d,D⟩,X,q⟩:=h;have U:n<ss.length:=(A7.mp d).1;obtain⟨u,aa,G,I,ab,ae,p,⟨J,⟨tG,b1,L⟩,⟨a,M,b⟩⟩⟩:=j.get U;rw[d] at p;have N:=Bo p;rw[<-N] at L b;have W:Bz (us.map V.ref) m.1=some (.ref u):=by rw[l];exact Cf (by rw[Bh,I];rfl)
 refine⟨_,(Ao (DL (pv 1) (Ct (n:=3) rfl (AK (Ay (i:=2) OD.nd) (AK (Ay (i:=3) OD.nd) (AK (Ay (i:=4) OD.nd) Cs)))))
  (Ao (AS (i:=5) OD.nd (AE AF (AE AF (AE AF (pv 0) Ai) (pv 2)) Ai))
  (Av (AZ (AE AF (pv 5) (pv 4)))))),?_⟩
 (try dsimp only[AG,Cx.nox,Cx.wish]);refine⟨_,c,rfl,?_⟩;refine Or.inr (Or.inl ⟨_,.ref S,C,rfl,Or.inl ⟨_,.ref u,Ag.of j.top,W,Or.inr (Or.inl ⟨_,.ref G,Aq.of J,rfl,?_⟩)⟩⟩);rcases D with⟨e,_⟩|⟨_,g⟩;exact absurd (X.symm.trans e) Sy;have r:=AD g;rw[VZ l o d r] at q;have t:a[k]?=some (a[k]'(by rw[b.len];exact g)):=AD _;have O:=b.at_ _ _ _ t r;have Y:Bz (a.map V.ref) m.2.2=some (.ref (a[k]'(by rw[b.len];exact g))):=by rw[o];exact Cf (by rw[Bh,t];rfl)
 exact Or.inl ⟨_,_,Ag.of M,Y,q _ O⟩
inductive DD (K:Ah) (vs:List V) (H:Hp) (Q:VK):Prop where
 |mk (nt A t P:Addr) (G:Addr->Prop) (W:Wd) (ys:List (Addr×List Ap)) (h0:vs=[.ref nt,.ref A,.ref P]) (h1:Bl K H nt A t W) (h2:Bf W) (h3:H P=some (.lst (ys.map λz=>V.ref z.1))) (h4:(∀z∈ys,CO G H z.1 z.2)) (h5:(∀z∈ys,Do W.ss z.2)) (h6:∀(v:V)(H':Hp),Ac H H'->SS G H' v (Fu W (ys.map (·.2)))->Q v H'):DD K vs H Q
def gS (K:Ah):Sp:=λvs H Q _=>DD K vs H Q
variable (P w K mg base) in
abbrev Uc:Prop:=BF P w K mg base "first_open" 2 ["net", "answers", "seen"] (gS K)
theorem gT(B:BG mg)(ak:OQ P w K mg base)(F:Bp K "first_open" "first_open" Rb f fd)(hm:mg "first_open" = some (.ref f)):Uc P w K mg base:=by
 refine B1 F hm Nd (λvs H aa ab h=>?_) (λao A ar s H vs aa ab hr h=>?_);obtain⟨g,A,t,P,ae,W,c,rfl,_⟩:=h;rfl
 . obtain⟨g,A,t,P,ae,W,c,rfl,J,sm,L,hy,R,q⟩:=h
   obtain⟨af,ag,ah,us,Gs,Es,ts,qt,qs,eN,N3⟩:=J.net
   refine⟨_,(Ao (Cw Cr rfl (C6 (pv 2)) (Ay (i:=3) Nd.nd) (Ao (DL (Ba ak (Ab (pv 0) (Ab (AE AF (pv 3) (Pa Pb Ai)) Ae))) (Ct (n:=4) rfl (AK (Ay (i:=4) Nd.nd) (AK (Ay (i:=5) Nd.nd) (AK (Ay (i:=6) Nd.nd) (AK (Ay (i:=7) Nd.nd) Cs))))))
    (Av (Bk (PW.pt (GI (BI Cz (pv 6) B2 (By _)) (GH (FC (Gb (AE AF (pv 1) (pv 7))))))) (Av (AZ (Bw (Ab (pv 3) (Ab (pv 7) Ae))))) Bm))))
    (Av (AZ GG))),?_⟩
   try dsimp only[AG,Cx.nox,Cx.wish]
   refine⟨⟨_,Ag.of L⟩,EL (xs:=c.map λz=>V.ref z.1) (λi σ M=>∃j r u v y,σ=[some (.ref g),some (.ref A),some (.ref P),j,r,u,v,y]/\Ac H M/\Fu W (c.map (·.2))=Fu W ((c.map (·.2)).drop i))
    ⟨none,none,none,none,none,rfl,λ_ _ e=>e,rfl⟩ (λi σ M _ al=>by obtain⟨_,_,_,_,_,_,s,_⟩:=al;exact Ag.of (s _ _ L)) ?_ ?_⟩
   rotate_left;refine λσ H4 G=>AM λNz d=>?_;obtain⟨j,r,u,v,y,rfl,a,b⟩:=G;refine d ?_;clear d;rw[Al,<-Al (f:=(·.2)),List.drop_length] at b;refine q _ _ a ?_;rw[b];rfl;refine λi x σ H4 hx G=>AM λNz d=>?_;obtain⟨j,r,u,v,y,rfl,a,b⟩:=G;refine d ?_;clear d;obtain⟨z,S,rfl⟩:=getm hx;have C:=Bd S;have hd:=SU (l:=c.map (·.2)) (i:=i) (x:=z.2) (by rw[Bh,S];rfl);rw[hd] at b;have tk:=M6 sm (R z C);have N:=(hy z C).same a;obtain⟨vv,m,O,mo,aj⟩:=R z C;have T:=N;rw[O] at T;obtain⟨ms,mk,l1,l2,l3⟩:=V2 T;refine Or.inl ⟨_,.ref mk,Ag.of l1,l2,g,af,ag,ah,mk,us,Gs,Es,W.ss,m,rfl,Aq.of (a _ _ eN),N3.sc.same a,Aq.of l3,mo,aj,λtp U=>?_⟩;have et:KH W.ss m=Ck W.ss z.2:=(by rw[O,PX]);rw[et] at U;refine⟨_,Aq.of U,rfl,?_⟩;refine⟨rfl,rfl,Am (λh=>?_) (λh=>?_)⟩;rotate_left;have hn:(Ck W.ss z.2).2.2.1≠("by" : Str):=λe=>h (A4 (by rw[e]));refine Bs ?_;refine⟨_,_,_,_,_,rfl,a,?_⟩;rw[b,PZ (Ak λe=>hn e.1)];have X:(Ck W.ss z.2).2.2.1=("by" : Str):=V.str.inj (Bg h);rcases tk with⟨e,_⟩|⟨_,k0,k1⟩;rw[X] at e;exact absurd e (by decide +kernel);obtain⟨k,D⟩:=Df k0;have an:k<W.as.length:=(by omega);obtain⟨I,ai,Y,hv,hc⟩:=(J.ans.same a).get an;have Z:Bz I (Ck W.ss z.2).2.2.2=some ai:=by rw[D];exact Cf hv
   rcases hc with⟨E,rfl⟩|⟨p,ta,E,rfl,aq⟩;refine Or.inl ⟨I,_,Y,Z,rfl,Am (λ_=>?_) (λh=>absurd (A4 rfl) h)⟩;refine⟨Cj,λp hp=>?_⟩;have Q:=Bc (o:=.tup [.ref z.1,.int (Ck W.ss z.2).2.2.2]) hp;refine q _ _ (a.trans Q) ?_;rw[b,V5 (q:=(Ck W.ss z.2).2.2.2) (Aj ⟨X,by rw[D,Be];exact E⟩)];exact⟨p,z.1,rfl,Aa,N.same Q⟩;refine Or.inl ⟨I,_,Y,Z,rfl,Am (λh=>absurd (Bg h) (by simp)) (λ_=>?_)⟩;refine⟨_,_,_,_,_,rfl,a,?_⟩;rw[b,PZ (Ak λe=>by have:=e.2;rw[D,Be,E] at this;cases this)]
inductive E8 (K:Ah) (vs:List V) (H:Hp) (Q:VK):Prop where
 |mk (nt A t l:Addr) (G:Addr->Prop) (W:Wd) (w:List Ap) (h0:vs=[.ref nt,.ref A,.ref l]) (h1:Bl K H nt A t W) (h2:Bf W) (h3:CO G H l w) (h4:Do W.ss w) (h5:Ft W w=none) (h6:Q (Ee (Bt W w)) H):E8 K vs H Q
def gU (K:Ah):Sp:=λvs H Q _=>E8 K vs H Q
variable (P w K mg base) in
abbrev Ud:Prop:=BF P w K mg base "meaning" 2 ["net", "answers", "way"] (gU K)
theorem gW(B:BG mg)(aa:OQ P w K mg base)(F:Bp K "meaning" "meaning" Rc f fd)(D:mg "meaning" = some (.ref f)):Ud P w K mg base:=by
 refine B1 F D Mm (λI H Q E h=>?_) (λai A aj s H I Q E hr h=>?_);obtain⟨g,A,t,l,G,W,w,rfl,_⟩:=h;rfl;obtain⟨g,A,t,l,G,W,w,rfl,j,J,o,r,d,q⟩:=h;obtain⟨S,T,R,us,L,M,ts,qt,qs,N,O⟩:=j.net;have tk:=M6 J r;obtain⟨vv,m,u,U,X⟩:=r;have Y:KH W.ss m=Ck W.ss w:=(by rw[u,PX]);rw[u] at o;obtain⟨ms,mk,Z,l2,l3⟩:=V2 o
 refine⟨_,(Ao (DL (Ba aa (Ab (pv 0) (Ab (AE AF (pv 2) (Pa Pb Ai)) Ae))) (Ct (n:=4) rfl (AK (Ay (i:=3) Mm.nd) (AK (Ay (i:=4) Mm.nd) (AK (Ay (i:=5) Mm.nd) (AK (Ay (i:=6) Mm.nd) Cs))))))
  (Ao (Bk (BI Cz (pv 5) B2 (By _)) (Av (AZ (pv 6))) Bm)
  (Ao (DL (AE AF (pv 1) (pv 6)) (Ct (n:=2) rfl (AK (Ay (i:=5) Mm.nd) (AK (Ay (i:=6) Mm.nd) Cs))))
  (Ao (Bk (BI Cz (pv 5) B2 (By _)) (Av (AZ (pv 6))) Bm)
  (Av (AZ GG)))))),?_⟩
 (try dsimp only[AG,Cx.nox,Cx.wish]);refine Or.inl ⟨_,.ref mk,Ag.of Z,l2,g,S,T,R,mk,us,L,M,W.ss,m,rfl,Aq.of N,O.sc,Aq.of l3,U,X,λtp z=>?_⟩;rw[Y] at z;refine⟨_,Aq.of z,rfl,?_⟩;refine⟨rfl,rfl,Am (λh=>?_) (λh=>?_)⟩;have ht:(Ck W.ss w).2.2.1=("thing" : Str):=V.str.inj (Bg h)
 rw[show Bt W w=some (Ck W.ss w).2.2.2 from Aj ht] at q;exact q
 have x:(Ck W.ss w).2.2.1≠("thing" : Str):=λe=>h (A4 (by rw[e]));rcases tk with⟨e,_⟩|⟨ab,k0,k1⟩;exact absurd e x;obtain⟨k,a⟩:=Df k0;have ae:k<W.as.length:=(by omega);obtain⟨C,v,af,hv,hc⟩:=j.ans.get ae;have ag:Bz C (Ck W.ss w).2.2.2=some v:=by rw[a];exact Cf hv
 rcases hc with⟨b,rfl⟩|⟨p,ta,b,rfl,ah⟩;unfold Ft at d;rw[Aj ⟨ab,by rw[a,Be];exact b⟩] at d;cases d
 have y:Bt W w=if p.1=("thing" : Str) then some p.2 else none:=by
  unfold Bt;rw[Ak x,a,Be,b]
 refine Or.inl ⟨C,_,af,ag,?_⟩;refine⟨_,ah,rfl,?_⟩;refine⟨rfl,rfl,Am (λh=>?_) (λh=>?_)⟩;have c:p.1=("thing" : Str):=V.str.inj (Bg h);rw[y,Aj c] at q;exact q;have c:p.1≠("thing" : Str):=λe=>h (A4 (by rw[e]));rw[y,Ak c] at q;exact q
inductive KX (K:Ah) (vs:List V) (H:Hp) (Q:VK):Prop where
 |mk (nt A t O r D D2 P:Addr) (F G:Addr->Prop) (W:Wd) (inn:Int) (ord:List (Str×Str)) (ws ys:List (Addr×List Ap)) (os:List (Addr×Ow)) (at_:Int) (h0:vs=[.ref nt,.ref A,.ref t,.ref O,.ref r,.int at_]) (h1:Bl K H nt A t W) (h2:Gc K F H t W.sts inn ord) (h3:Bf W) (h4:ord.length<=40) (h5:(∀x,(x,x)∉ord)) (h6:H r=some (.tup [.ref D,.ref D2,.ref P])) (h7:H D2=some (.lst (ws.map λz=>V.ref z.1))) (h8:(∀z∈ws,CO G H z.1 z.2)) (h9:(∀z∈ws,M3 W.ss z.2)) (h10:ws.length<=100) (h11:(∀z∈ws,Do W.ss z.2)) (h12:H P=some (.lst (ys.map λz=>V.ref z.1))) (h13:(∀z∈ys,CO G H z.1 z.2)) (h14:ys.map (·.2)=CP W.ss ord (ws.map (·.2)) (ws.map (·.2))) (h15:H O=some (.lst (os.map λz=>V.ref z.1))) (h16:(∀z∈os,FE G H z.1 z.2)) (h17:(∀z∈os,M3 W.ss z.2.1)) (h18:∀(v:Addr)(a:Option (Str×Int))(w:Option Wt)(H':Hp),Ac H H'->B7 W ord (ws.map (·.2)) (os.map (·.2)) at_=(a,w)->A9 G H' (.ref v) (.tup [C9 a,HH w])->Q (.ref v) H'):KX K vs H Q
def MD (K:Ah):Sp:=λvs H Q _=>KX K vs H Q
variable (P w K mg base) in
abbrev Ij:Prop:=BF P w K mg base "met" 4 ["net", "answers", "table", "owed", "look", "at"] (MD K)
theorem gX(B:BG mg)(a3:Ub P w K mg base)(a4:Uc P w K mg base)(a5:Ud P w K mg base)(F:Bp K "met" "met" MM f fd)(hm:mg "met" = some (.ref f)):Ij P w K mg base:=by
 refine B1 F hm JY (λm ai av aw h=>?_) (λaL A aN s ai m av aw hr h=>?_);obtain⟨R,A,t,af,aj,ak,D2,P,F,G,W,an,ord,a,p,S,at_,rfl,_⟩:=h;rfl
 . obtain⟨R,A,t,af,aj,ak,D2,P,F,G,W,an,ord,a,p,S,at_,rfl,hC,TB,sm,a1,irr,er,a6,hw,a7,lw,a8,eP,hy,N,eO,ho,a9,q⟩:=h
   obtain⟨ax,ay,az,us,Gs,Es,ts,qt,qs,eN,N3⟩:=hC.net
   have ao:∀z∈p,Do W.ss z.2:=λz h=>by
    have g:z.2∈p.map (·.2):=Br.mpr ⟨z,h,rfl⟩;rw[N] at g;obtain⟨aa,r,h3⟩:=Br.mp (PY g);rw[<-h3];exact a8 aa r
   have ly:p.length<=100:=by
    have g:=BC List.length N;have r:=Zm (ss:=W.ss) (ord:=ord) (all:=a.map (·.2)) (l:=a.map (·.2));rw[Al] at g r;omega
   refine⟨_,(Ao (DL (pv 4) (Ct (n:=3) rfl (AK (Ay (i:=6) JY.nd) (AK (Ay (i:=7) JY.nd) (AK (Ay (i:=8) JY.nd) Cs)))))
    (Ao (AS (i:=9) JY.nd (Ba a3 (Ab (pv 0) (Ab (pv 2) (Ab (pv 7) (Ab (pv 3) Ae))))))
    (Ao (Bk (FC (Gb (pv 9))) (Av (AS (i:=9) JY.nd (Ba a4 (Ab (pv 0) (Ab (pv 1) (Ab (pv 8) Ae)))))) Bm)
    (Ao (Bk (FC (Np (pv 9))) (Ao (DL (pv 9) (Ct (n:=2) rfl (AK (Ay (i:=10) JY.nd) (AK (Ay (i:=11) JY.nd) Cs))))
     (Av (AZ (Bw (Ab GG (Ab (Bw (Ab (pv 5) (Ab (pv 10) (Ab (pv 11) Ae)))) Ae)))))) Bm)
    (Ao (AS (i:=12) JY.nd (Ho rfl Gy (C6 (pv 8)) (λ_ _ _ _ _=>(Ay (i:=0) Gy.nd)) (λ_ _ _ _ _=>IA) (λ_ _ _ _ _=>(Ba a5 (Ab (pv 1) (Ab (pv 2) (Ab (pv 0) Ae)))))))
    (Ao (Bk (GV (BS (Yc rfl) B.b_all (Ab (Ho rfl Gz (C6 (pv 12)) (λ_ _ _ _ _=>(Ay (i:=0) Gz.nd)) (λ_ _ _ _ _=>IA) (λ_ _ _ _ _=>(G6 (Gb (pv 0))))) Ae))) (Av (AZ (Bw (Ab (Bw (Ab B2 (Ab (pv 5) Ae))) (Ab GG Ae))))) Bm)
    (Ao (Bk (GV (BS (VN rfl) B.b_any (Ab (Ho (te:=Iv Uy (CT 0) (Iv (NP K) (CT 1) (tC (.int ((0:Nat):Int))))) rfl GA (C6 (pv 12)) (λ_ _ _ _ _=>(Ay (i:=0) GA.nd)) (λ_ _ _ _ _=>IA) (λ_ _ _ _ _=>(Kq Pc (pv 0) (AE AF (pv 1) Ai) (By _)))) Ae))) (Av (AZ (Bw (Ab (Bw (Ab B2 (Ab (pv 5) Ae))) (Ab GG Ae))))) Bm)
    (Av (AZ (Bw (Ab (Bw (Ab B2 (Ab (AE AF (pv 12) Ai) Ae))) (Ab GG Ae)))))))))))),?_⟩
   (try dsimp only[AG,Cx.nox,Cx.wish]);refine⟨_,Aq.of er,rfl,?_⟩;refine⟨R,ax,ay,az,t,D2,af,us,Gs,Es,W.ss,F,G,W.sts,an,ord,a,S,rfl,eN,N3.sc,TB,a1,irr,a6,hw,a7,lw,eO,ho,a9,λa2 aJ T ab=>?_⟩;refine AN ?_;(try dsimp only);refine IC (λσ' H=>∃v,σ'=[some (.ref R),some (.ref A),some (.ref t),some (.ref af),some (.ref aj),some (.int at_),some (.ref ak),some (.ref D2),some (.ref P),some v,none,none,none]/\Ac ai H/\SS G H v (Eu W ord (a.map (·.2)) (S.map (·.2)))) ?_ (λaK hN=>?_);rotate_left
   cases e:FF W.ss ord (a.map (·.2)) (S.map (·.2)) with
   |none =>
     rw[e] at ab;obtain rfl:a2=.non:=ab;refine⟨rfl,Am (λ_=>?_) (λh=>absurd (A4 rfl) h)⟩;refine⟨R,A,t,P,G,W,p,rfl,hC.same T,sm,T _ _ eP,λz h=>(hy z h).same T,ao,λv2 H2 u aq=>?_⟩;refine hN _ _ ⟨v2,rfl,T.trans u,?_⟩;unfold Eu;rw[e];rw[N] at aq;exact aq
   |some o =>
     rw[e] at ab;obtain⟨al,l,rfl,g,r⟩:=ab;refine⟨rfl,Am (λh=>absurd (Bg h) (by simp)) (λ_=>?_)⟩;refine hN _ _ ⟨_,rfl,T,?_⟩;unfold Eu;rw[e];exact⟨al,l,rfl,g,r⟩
   rintro σ' H2 ⟨v,rfl,u,j⟩
   cases e:Eu W ord (a.map (·.2)) (S.map (·.2)) with
   |some o =>
     rw[e] at j;obtain⟨al,l,rfl,g,r⟩:=j;refine⟨rfl,Am (λ_=>?_) (λh=>absurd rfl h)⟩;refine⟨_,Aq.of g,rfl,?_⟩;refine⟨Jq,λJ D=>?_⟩;obtain⟨H3,aA,x,e3⟩:=new_at (o:=.tup [.int at_,.ref l,.int o.2]) D;rw[<-aA];refine⟨Cj,λy E=>?_⟩;have c:=Bc (o:=.tup [.non,.ref J]) E;exact q y _ _ _ ((u.trans x).trans c) (M4 e) (.tup Aa (.cons .non (.cons (.tup (c _ _ e3) (.cons (.int _) (.cons ((r.same x).same c).own (.cons (.int _) .nil)))) .nil)))
   |none =>
     rw[e] at j;obtain rfl:v=.non:=j;refine⟨rfl,Am (λh=>absurd h (by decide)) (λ_=>?_)⟩;have aB:=SV (V0 e)
     refine⟨⟨_,Ag.of (u _ _ eP)⟩,Sb (xs:=p.map λz=>V.ref z.1) (λM i m H=>Ac H2 H/\H M=some (.lst m)/\m=((p.map (·.2)).take i).map λw=>Ee (Bt W w))
      (λM hM=>⟨Bc hM,Aa,by rw[En];rfl⟩) (λM i m H aC=>by obtain⟨s,_⟩:=aC;exact Ag.of (s _ _ (u _ _ eP))) (λM i aa m H3 RR hM aD j k=>?_) (λM m H3 hM j=>?_)⟩
     obtain⟨x,I,rfl⟩:=j;obtain⟨z,ar,rfl⟩:=getm aD;have mz:=Bd ar;have O:=u.trans x;have mo:z.2∈CP W.ss ord (a.map (·.2)) (a.map (·.2)):=by rw[<-N];exact Br.mpr ⟨z,mz,rfl⟩
     refine⟨R,A,t,z.1,G,W,z.2,rfl,hC.same O,sm,(hy z mz).same O,ao z mz,aB _ mo,?_⟩;refine k _ _ I ?_ ⟨λb o e=>?_,Aa,?_⟩;rw[Al,FH,Al];exact BE (by omega);rw[AC (AJ e hM)];exact x _ _ e;rw[DJ,Bh,ar,Bn];rfl
     obtain⟨x,I,rfl⟩:=j;rw[Al,<-Al (f:=(·.2)),D8,N] at I;generalize ag:CP W.ss ord (a.map (·.2)) (a.map (·.2))=d at *
     have ls:d.length<=100:=by rw[<-N,Al];exact ly
     have O:=u.trans x;refine AN ?_;(try dsimp only);refine⟨⟨_,Ag.of I⟩,R7 (xs:=d.map λw=>Ee (Bt W w)) (λv=>V.bl (decide (v=V.non))) (by rw[Al];exact Dh (BE (by omega))) (Ag.of I) (λa0 aa H4 D4 R4 aM c aE k4=>(k4 _ (Ac.refl _))) (λH4 D4 c aE e4=>?_)⟩;refine⟨D4,(d.map λw=>Ee (Bt W w)).map λv=>decide (v=V.non),rfl,Ag.of (by rw[e4,DF (f:=λv=>decide (v=V.non))];rfl),rfl,Am (λh=>?_) (λh=>?_)⟩;refine⟨Cj,λJ D=>?_⟩;obtain⟨H5,aF,C,e5⟩:=new_at (o:=.tup [.str "none",.int at_]) D;rw[<-aF];refine⟨Cj,λy E=>?_⟩;have L:=Bc (o:=.tup [.ref J,.non]) E;refine q y (some ("none",at_)) none _ (((O.trans c).trans C).trans L) ?_ (.tup Aa (.cons (.tup (L _ _ e5) (.cons (.str _) (.cons (.int _) .nil))) (.cons .non .nil)));rw[JB e,ag,SM (FQ.mp h)];have U:¬∀w∈d,Bt W w=none:=λz=>h (FQ.mpr z)
     cases Q:d with
     |nil=>rw[Q] at U;exact absurd (λw hw=>by cases hw) U
     |cons X r0 =>
       have ae:=c _ _ I;have h0:Bz (d.map λw=>Ee (Bt W w)) ((0:Nat):Int)=some (Ee (Bt W X)):=Cf (by rw[Q];rfl);refine⟨⟨_,Ag.of ae⟩,R7 (xs:=d.map λw=>Ee (Bt W w)) (λv=>V.bl (!decide (v=Ee (Bt W X)))) (by rw[Al];exact Dh (BE (by omega))) (Ag.of ae) (λa0 aa H5 D5 R5 aG C aH k5=>?_) (λH5 D5 C aH e5=>?_)⟩;obtain⟨w,_,rfl⟩:=getm aG;exact Or.inl ⟨_,_,Ag.of (C _ _ ae),h0,ZA _ _,k5 _ (Ac.refl _)⟩;refine⟨D5,(d.map λw=>Ee (Bt W w)).map λv=>!decide (v=Ee (Bt W X)),rfl,Ag.of (by rw[e5,DF (f:=λv=>!decide (v=Ee (Bt W X)))];rfl),rfl,Am (λh5=>?_) (λh5=>?_)⟩;refine⟨Cj,λJ D=>?_⟩;obtain⟨H6,ah,L,e6⟩:=new_at (o:=.tup [.str "torn",.int at_]) D;rw[<-ah];refine⟨Cj,λy E=>?_⟩;have Y:=Bc (o:=.tup [.ref J,.non]) E;refine q y (some ("torn",at_)) none _ ((((O.trans c).trans C).trans L).trans Y) ?_ (.tup Aa (.cons (.tup (Y _ _ e6) (.cons (.str _) (.cons (.int _) .nil))) (.cons .non .nil)));have Z:=HI.mp h5;rw[Q] at U Z;rw[JB e,ag,Q,SN U Z];have Z:∀v∈d,Bt W v=Bt W X:=Classical.byContradiction λz=>h5 (HI.mpr z);have au:=U;rw[Q] at au Z;obtain⟨n,en,ea⟩:=SO (at_:=at_) au Z;have aI:=C _ _ ae;rw[en] at h0;refine Or.inl ⟨_,.int n,Ag.of aI,h0,Cj,λJ D=>?_⟩;obtain⟨H6,ah,L,e6⟩:=new_at (o:=.tup [.str "thing",.int n]) D;rw[<-ah];refine⟨Cj,λy E=>?_⟩;have Y:=Bc (o:=.tup [.ref J,.non]) E;refine q y (some ("thing",n)) none _ ((((O.trans c).trans C).trans L).trans Y) ?_ (.tup Aa (.cons (.tup (Y _ _ e6) (.cons (.str _) (.cons (.int _) .nil))) (.cons .non .nil)));rw[JB e,ag,Q,ea]
inductive C4 (K:Ah) (vs:List V) (H:Hp) (Q:VK):Prop where
 |mk (nt A t D:Addr) (F:Addr->Prop) (W:Wd) (zs:List (Addr×AQ)) (h0:vs=[.ref nt,.ref A,.ref t,.ref D]) (h1:Bl K H nt A t W) (h2:BY W) (h3:H D=some (.lst (zs.map λz=>V.ref z.1))) (h4:(∀z∈zs,DH F H z.1 z.2)) (h5:(∀z∈zs,B5 W z.2)) (h6:zs.length<=62) (h7:(F2 W (zs.map (·.2))).length<=62) (h8:∀(D2:Addr)(ws:List (Addr×Ow))(H':Hp),H D2=none->Ac H H'->H' D2=some (.lst (ws.map λz=>V.ref z.1))->(∀z∈ws,FE (λl=>H l=none/\l≠D2) H' z.1 z.2)->Od W (zs.map (·.2)) (ws.map (·.2))->Q (.ref D2) H'):C4 K vs H Q
def gY (K:Ah):Sp:=λvs H Q _=>C4 K vs H Q
variable (P w K mg base) in
abbrev Ue:Prop:=BF P w K mg base "owed_behind" 5 ["net", "answers", "table", "begun"] (gY K)
theorem gZ(B:BG mg)(a6:QB P w K mg base)(F:Bp K "owed_behind" "owed_behind" Re f fd)(D:mg "owed_behind" = some (.ref f)):Ue P w K mg base:=by
 refine B1 F D JZ (λa H a0 a1 h=>?_) (λaK A aT s H a a0 a1 hr h=>?_);obtain⟨Z,A,t,af,F,W,E,rfl,_⟩:=h;rfl
 . obtain⟨Z,A,t,af,F,W,E,rfl,hC,ok,eD,hz,a7,aL,aM,a2⟩:=h
   refine⟨_,(Ao (AS (i:=4) JZ.nd (CA Ae))
    (Ao (Cw Cr rfl (C6 (pv 3)) (Ct (n:=3) rfl (AK (Ay (i:=5) JZ.nd) (AK (Ay (i:=6) JZ.nd) (AK (Ay (i:=7) JZ.nd) Cs)))) (Av (Cw Cr rfl (C6 (Ba a6 (Ab (pv 0) (Ab (pv 1) (Ab (pv 2) (Ab (pv 6) (Ab (pv 7) Ae))))))) (Ct (n:=4) rfl (AK (Ay (i:=8) JZ.nd) (AK (Ay (i:=9) JZ.nd) (AK (Ay (i:=10) JZ.nd) (AK (Ay (i:=11) JZ.nd) Cs))))) (Av (Bk (BI Cz (pv 9) B2 (By _)) (Av (Di (DG DK EF EG EI (pv 4) (Ab (Bw (Ab (AA Pg (pv 5) (CA (Ab (pv 8) Ae))) (Ab (pv 10) Ae))) Ae)))) Bm)))))
    (Av (AZ (BS (YQ M0 FN hr.units (by decide) (by decide)) B.b_sorted (Ab (pv 4) Ae)))))),?_⟩
   (try dsimp only[AG,Cx.nox,Cx.wish]);refine⟨by decide,λP hP=>?_⟩;obtain⟨aq,a8,s1,av⟩:=new_at (o:=.lst []) hP;rw[<-a8];have ag:∀{p:Hp},Keeps (·=P) aq p->Ac H p:=λk x o e=>k.at_ _ _ (s1 _ _ e) (AJ e hP)
   refine⟨⟨_,Ag.of (s1 _ _ eD)⟩,EL (xs:=E.map λz=>V.ref z.1) (λi σ p=>∃u5 u6 u7 J M N O u,σ=[some (.ref Z),some (.ref A),some (.ref t),some (.ref af),some (.ref P),u5,u6,u7,J,M,N,O]/\Keeps (·=P) aq p/\p P=some (.lst (u.map λz:Addr×Ow=>V.ref z.1))/\(∀z∈u,FE (λl=>H l=none/\l≠P) p z.1 z.2)/\u.map (·.2)=F2 W ((E.map (·.2)).take i))
    ⟨none,none,none,none,none,none,none,[],rfl,Keeps.refl λx o m e=>by rw[m,av] at e;exact⟨_,(Bo e).symm⟩,av,λz hz=>by simp at hz,by rw[En];rfl⟩ (λi σ p _ ah=>by obtain⟨_,_,_,_,_,_,_,_,_,k,_⟩:=ah;exact Ag.of (ag k _ _ eD)) ?_ ?_⟩
   rotate_left;refine λσ H2 Q=>AM λNz d=>?_;obtain⟨u5,u6,u7,J,M,N,O,u,rfl,T,X,hw,D⟩:=Q;refine d ?_;clear d;rw[Al,<-Al (f:=(·.2)),D8] at D;have lw:u.length<=62:=by have:=BC List.length D;rw[Al] at this;omega
   refine⟨P,u.map λz=>(V.ref z.1,z.2),rfl,?_,by rw[Al];omega,λy r=>?_,λD2 a9 hp hs ai=>?_⟩;rw[DF];exact Ag.of X;obtain⟨z,aj,rfl⟩:=Br.mp r;exact(hw z aj).dt;obtain⟨a,r1,r2,r3,r4⟩:=VH (c:=PD) hp;have q:=Bc (o:=.lst (a9.map (·.1))) ai;rw[r1] at q ⊢;rw[r2] at hs;have I:=ag T;refine a2 D2 a _ (I.free ai) (I.trans q) Aa (λz aj=>?_) ⟨by rw[<-D];exact r3,hs⟩;refine((hw z (r4 z aj)).mono' ?_).same q;intro x o ex hx;exact⟨hx.1,λy=>by rw[y,ai] at ex;cases ex⟩;refine λi y σ H2 r Q=>AM λNz d=>?_;obtain⟨u5,u6,u7,J,M,N,O,u,rfl,T,X,hw,D⟩:=Q;refine d ?_;clear d;obtain⟨z,ak,rfl⟩:=getm r;have aN:i<E.length:=(A7.mp ak).1;have mz:=Bd ak;have aa:=a7 z mz;have I:=ag T;refine AM λNz d=>?_;obtain⟨l,v,a5,au,e3,_⟩:=hz z mz;refine d ?_;clear d;have e1:=I _ _ a5;have aA:=aa.rng z.2.2.1 (by unfold AU;simp);have aB:(E.map (·.2))[i]?=some z.2:=by rw[Bh,ak];rfl
   have aO:v.length<=100:=by
    have:=KA W.ss.length (AU z.2) aa.nd aa.rng;rw[show(AU z.2).length=z.2.1.length+1 by unfold AU;simp] at this;have:=ok.s5;rw[e3.len];omega
   have aC:u.length<=8*i:=by
    have G:=BC List.length D;rw[Al] at G;have h2:=Sx (f:=λb=>(Gv W b.2.1 b.2.2).filterMap (ow b)) (k:=8) ((E.map (·.2)).take i) λb=>Ek (List.length_filterMap_le _ _) (Ek (LL W b.2.1 (DV W b.2.2) (BU W b.2.1) 0) (Pz ok b.2.1));rw[FH,Al] at h2;unfold F2 at G;have h3:min i E.length=i:=(by omega);rw[h3] at h2;omega
   refine⟨_,Aq.of e1,rfl,?_⟩;refine⟨Z,A,t,W,z.2.2.1,z.2.2.2,rfl,hC.same I,ok,aA,aa.st,λa3 R H3 hG q eG aD aw=>⟨⟨_,Ag.of eG⟩,?_⟩⟩;have aE:a3≠P:=λy=>by rw[y,X] at hG;cases hG
   have aP:R.length<=8:=by
    have e1:=BC List.length aw;have e2:=LL W z.2.2.1 (DV W z.2.2.2) (BU W z.2.2.1) 0;have e3:=Pz ok z.2.2.1;rw[Al] at e1;unfold Gv at e1;omega
   refine EL (xs:=R.map λz=>V.ref z.1) (λj σ p=>∃J M N O a,σ=[some (.ref Z),some (.ref A),some (.ref t),some (.ref af),some (.ref P),some (.ref l),some (.int z.2.2.1),some (.int z.2.2.2),J,M,N,O]/\Keeps (·=P) H3 p/\p P=some (.lst (a.map λz:Addr×Ow=>V.ref z.1))/\(∀z∈a,FE (λl=>H l=none/\l≠P) p z.1 z.2)/\a.map (·.2)=F2 W ((E.map (·.2)).take i)++((R.map (·.2)).take j).filterMap (ow z.2)/\a.length<=8*i+j)
    ⟨_,_,_,_,u,rfl,Keeps.refl λx o m e=>by rw[m,q _ _ X] at e;exact⟨_,(Bo e).symm⟩,q _ _ X,λz h=>(hw z h).same q,by rw[D,En];simp,aC⟩ (λj σ p _ ah=>by obtain⟨_,_,_,_,_,_,k,_⟩:=ah;exact Ag.of (k.at_ _ _ eG aE)) ?_ ?_
   rotate_left;refine λσ H4 Q=>AM λNz d=>?_;obtain⟨J,M,N,O,a,rfl,C,S,ab,ae,_⟩:=Q;refine d ?_;clear d;refine⟨_,_,_,_,_,_,_,a,rfl,⟨λx o e n=>C.at_ _ _ (q _ _ (T.at_ x o e n)) n,T.ls⟩,S,ab,?_⟩;rw[YU aB,ae,Al,<-Al (f:=(·.2)),D8,aw];refine λj y σ H4 r Q=>AM λNz d=>?_;obtain⟨J,M,N,O,a,rfl,C,S,ab,ae,aQ⟩:=Q;refine d ?_;clear d;obtain⟨g,al,rfl⟩:=getm r;have aR:j<R.length:=(A7.mp al).1;obtain⟨m,an,ao⟩:=aD g (Bd al);have an:=C.tup an;have ao:=C.tup ao
   have ax:((R.map (·.2)).take (j+1)).filterMap (ow z.2)=((R.map (·.2)).take j).filterMap (ow z.2)++(ow z.2 g.2).toList:=by
    rw[DJ,Bh,al];exact LO _ _ _
   refine⟨_,Aq.of an,rfl,?_⟩;refine⟨rfl,rfl,Am (λG=>?_) (λG=>?_)⟩;rotate_left;refine⟨_,_,_,_,a,rfl,C,S,ab,?_,by omega⟩;rw[ax,Ju (λe=>G (A4 (by rw[e]))),ae];simp;have G:g.2.2.1.1=("open" : Str):=V.str.inj (Bg G);have aS:Ac H2 H3:=q;have aF:H4 l=some (.lst (v.map V.ref)):=C.at_ _ _ (q _ _ (I _ _ au)) (AJ au hP);have aG:RT GK H4 v z.2.1:=(e3.same (I.trans q)).keeps C;refine⟨Or.inl ⟨rfl,_,Ag.of S⟩,Hr,λa4 hM=>?_⟩;obtain⟨H5,aH,s5,eM⟩:=new_at (o:=.lst [.ref m]) hM;rw[<-aH];refine⟨l,a4,_,_,rfl,rfl,s5 _ _ aF,eM,by rw[Al];exact Dh (BE (by show v.length+1<=1000;omega)),λL hL=>?_⟩
   have aI:H L=none:=by
    have h4:=s5.free hL
    cases e:H L with
    |none=>rfl
    |some o=>rw[C.at_ _ _ (q _ _ (I _ _ e)) (AJ e hP)] at h4;cases h4
   have ay:L≠P:=λy=>by rw[y,s5 _ _ S] at hL;cases hL
   have s6:=Bc (o:=.lst (v.map V.ref++[.ref m])) hL;have eL:(upd H5 L (.lst (v.map V.ref++[.ref m]))) L=some (.lst ((v++[m]).map V.ref)):=by rw[Aa,Bn];rfl
   generalize upd H5 L (.lst (v.map V.ref++[.ref m]))=H6 at s6 eL ⊢;refine⟨Cj,λar hr=>?_⟩;obtain⟨H7,aJ,s7,er⟩:=new_at (o:=.tup [.ref L,.int g.2.2.1.2]) hr;rw[<-aJ];have Y:=(s5.trans s6).trans s7;have az:=Y _ _ S;have U:Keeps (·=P) H7 (upd H7 P (.lst (a.map (λz=>V.ref z.1)++[.ref ar]))):=Keeps.one az;refine⟨_,az,by rw[Al];exact BE (by omega),?_⟩;refine⟨_,_,_,_,a++[(ar,(z.2.1++[g.2.1],g.2.2.1.2))],rfl,(C.same Y).set rfl,by rw[Aa,Bn];rfl,λy r=>?_,?_,by rw[AW,DE];omega⟩;rcases BB.mp r with r|r;exact((ab y r).same Y).keeps U λx hx=>hx.2;rw[AY.mp r];refine⟨L,v++[m],U.tup er,U.at_ _ _ (s7 _ _ eL) ay,?_,aI,ay⟩;exact RT.snoc ((aG.same Y).keeps U) (U.tup (Y _ _ ao));rw[ax,Jt G,Bn,ae,FX];rfl
theorem both{A G:Prop}(k:A->G)(a:A):G:=k a
theorem OR:([]:List V).length+1+1+1+1<=sizeLine:=by decide
inductive E9 (K:Ah) (vs:List V) (H:Hp) (Q:VK):Prop where
 |mk (nt A t ask u:Addr) (F:Addr->Prop) (W:Wd) (inn:Int) (ord:List (Str×Str)) (q:Qu) (h0:vs=[.ref nt,.ref A,.ref t,.ref ask]) (h1:Bl K H nt A t W) (h2:Gc K F H t W.sts inn ord) (h3:BY W) (h4:Bf W) (h5:ord.length<=40) (h6:(∀x,(x,x)∉ord)) (h7:(0<=inn/\inn<W.sts.length)) (h8:H ask=some (.tup [.int q.1,.int q.2.1,.ref u])) (h9:H u=some (.tup (q.2.2.map V.str))) (h10:(0<=q.1/\q.1<W.ss.length)) (h11:(0<=q.2.1/\q.2.1<W.sts.length)) (h12:1<=q.2.2.length) (h13:q.2.2.length<=8) (h14:∀(r L T:Addr)(av wv:V)(lv:List V)(a:Option (Str×Int))(w:Option Wt)(ls:List Lk)(ts:List Int)(H':Hp),Ac H H'->H' r=some (.tup [av,wv,.ref L,.ref T])->H L=none->H' L=some (.lst lv)->H' T=some (.lst (ts.map V.int))->A9 (λx=>H x=none) H' av (C9 a)->A9 (λx=>H x=none) H' wv (HH w)->Ax (λx=>H x=none/\x≠L) H' lv (ls.map M5)->LU W inn ord q.1 q.2.1 q.2.2 0 a w ls ts->Q (.ref r) H'):E9 K vs H Q
def g0 (K:Ah):Sp:=λvs H Q _=>E9 K vs H Q
variable (P w K mg base) in
abbrev OS:Prop:=BF P w K mg base "look_up" 7 ["net", "answers", "table", "asked"] (g0 K)
theorem g8(B:BG mg)(b8:TZ P w K mg base)(b9:Ua P w K mg base)(bA:Ij P w K mg base)(bB:Ue P w K mg base)(bC:QA P w K mg base)(F:Bp K "look_up" "look_up" Rf f fd)(hm:mg "look_up" = some (.ref f)):OS P w K mg base:=by
 refine B1 F hm Gg (λvs H aP bx h=>?_) (λcl A cx s H vs aP bx hr h=>?_);obtain⟨X,A,t,aS,a0,F,W,Z,aa,q,rfl,_⟩:=h;rfl
 . obtain⟨X,A,t,aS,a0,F,W,Z,aa,q,rfl,hC,TB,ok,sm,aR,irr,ca,eq,eu,bD,bE,cm,cn,qk⟩:=h
   obtain⟨bz,Tn,b0,us,Gs,Es,cp,qt,qs,eN,N3⟩:=hC.net
   refine⟨_,(Ao (DL (pv 3) (Ct (n:=3) rfl (AK (Ay (i:=4) Gg.nd) (AK (Ay (i:=5) Gg.nd) (AK (Ay (i:=6) Gg.nd) Cs)))))
    (Ao (AS (i:=7) Gg.nd (CA Ae))
    (Ao (AS (i:=8) Gg.nd (CA Ae))
    (Av (Cw Cr rfl (Zq rfl B.b_enumerate (Ab (pv 6) Ae)) (Ct (n:=2) rfl (AK (Ay (i:=9) Gg.nd) (AK (Ay (i:=10) Gg.nd) Cs))) (Ao (AS (i:=11) Gg.nd (Ba b8 (Ab (pv 0) (Ab (pv 1) (Ab (pv 2) (Ab (pv 4) (Ab (pv 5) Ae)))))))
     (Ao (Di (DG DK EF EG EI (pv 7) (Ab (Ba b9 (Ab (pv 0) (Ab (pv 2) (Ab (pv 11) (Ab (pv 10) Ae))))) Ae)))
     (Ao (DL (Ba bA (Ab (pv 0) (Ab (pv 1) (Ab (pv 2) (Ab (Ba bB (Ab (pv 0) (Ab (pv 1) (Ab (pv 2) (Ab (pv 11) Ae))))) (Ab (AE AF (pv 7) (Pa Pb Ai)) (Ab (pv 9) Ae))))))) (Ct (n:=2) rfl (AK (Ay (i:=12) Gg.nd) (AK (Ay (i:=13) Gg.nd) Cs))))
     (Ao (Bk (PW.pt (G8 (FC (Gb (pv 12))) (G8 (BI Pc (AE AF (pv 12) Ai) B2 (By _)) (G7 (BI Cz (pv 9) (AA Le (BS Ec B.b_len (Ab (pv 6) Ae)) Ai) (By _)))))) (Av (AZ (Bw (Ab (pv 12) (Ab (pv 13) (Ab (pv 7) (Ab (pv 8) Ae))))))) Bm)
     (Ao (Di (DG DK EF EG EI (pv 8) (Ab (AE AF (pv 12) Ai) Ae)))
     (Ao (DL (Ba bC (Ab (pv 0) (Ab (pv 1) (Ab (AE AF (pv 12) Ai) Ae)))) (Ct (n:=2) rfl (AK (Ay (i:=14) Gg.nd) (AK (Ay (i:=15) Gg.nd) Cs))))
     (Ao (Bk (BI Cz (pv 14) B2 (By _)) (Av (AZ (Bw (Ab GG (Ab (Bw (Ab (pv 9) (Ab (CA Ae) (Ab (pv 15) Ae)))) (Ab (pv 7) (Ab (pv 8) Ae))))))) Bm)
     (Ao (Bk (BI Cz (pv 14) B2 (By _)) (Av (AZ (Bw (Ab (Bw (Ab B2 (Ab (AA Gr (pv 9) Ai) Ae))) (Ab GG (Ab (pv 7) (Ab (pv 8) Ae))))))) Bm)
     (Ao (AS (i:=4) Gg.nd (pv 15))
     (Av (AS (i:=5) Gg.nd (AE AF (pv 2) Ai))))))))))))))))),?_⟩
   (try dsimp only[AG,Cx.nox,Cx.wish]);refine⟨_,Aq.of eq,rfl,?_⟩;refine⟨by decide,λL hL=>?_⟩;obtain⟨aQ,bF,s1,a2⟩:=new_at (o:=.lst []) hL;rw[<-bF];refine AN ?_;(try dsimp only);refine⟨by decide,λT hT=>?_⟩;have s2:=Bc (o:=.lst []) hT;have aT:(upd aQ T (.lst [])) T=some (.lst []):=Aa;have aU:=s2 _ _ a2;generalize upd aQ T (.lst [])=H2 at s2 aT aU ⊢;have aV:L≠T:=λz=>by rw[z,hT] at a2;cases a2
   have bG:H T=none:=s1.free hT;refine AN ?_;try dsimp only
   refine⟨a0,rfl,⟨_,Aq.of ((s1.trans s2) _ _ eu)⟩,Zr (xs:=q.2.2.map V.str) (λi σ H'=>∃(C D:Int)(u9 aW aX aY aZ ba bb:Option V)(d:List V)(ls:List Lk)(l:List Int),σ=[some (.ref X),some (.ref A),some (.ref t),some (.ref aS),some (.int C),some (.int D),some (.ref a0),some (.ref L),some (.ref T),u9,aW,aX,aY,aZ,ba,bb]/\Ac H H'/\H' L=some (.lst d)/\H' T=some (.lst (l.map V.int))/\Ax (λx=>H x=none/\x≠L/\x≠T) H' d (ls.map M5)/\d.length=i/\l.length=i/\i<q.2.2.length/\(0<=C/\C<W.ss.length)/\(0<=D/\D<W.sts.length)/\∀a w ak al,LU W Z aa C D (q.2.2.drop i) i a w ak al->LU W Z aa q.1 q.2.1 q.2.2 0 a w (ls++ak) (l++al))
    ⟨_,_,none,none,none,none,none,none,none,[],[],[],rfl,s1.trans s2,aU,aT,.nil,rfl,rfl,by omega,bD,bE,λa w ak al z=>z⟩ (λi σ H' bH=>by obtain⟨_,_,_,_,_,_,_,_,_,_,_,_,_,s,_⟩:=bH;exact Aq.of (s _ _ eu)) ?_ ?_⟩
   rotate_left;refine λσ H' a3=>AM λNz Q=>?_;obtain⟨_,_,_,_,_,_,_,_,_,_,_,_,_,_,_,_,_,_,_,hi,_⟩:=a3;refine Q ?_;clear Q;rw[Al] at hi;exact absurd hi (F7 _);refine λi xv Te σ H3 hx bI a3=>AM λNz Q=>?_;obtain⟨C,D,u9,aW,aX,aY,aZ,ba,bb,d,ls,l,rfl,s3,bJ,bK,bL,bM,bN,hi,R,S,ay⟩:=a3;refine Q ?_;clear Q;refine F5 ?_;intro Nx Cy;obtain⟨x,bO,rfl⟩:=getm hx;have ag:=SU bO;obtain⟨H4,bP,s4,bQ⟩:=new_at (o:=.tup [.int i,.str x]) bI;rw[<-bP];have an:=s3.trans s4;have ao:=s4 _ _ bJ;have a4:=s4 _ _ bK;refine⟨_,Aq.of bQ,rfl,?_⟩;refine⟨X,A,t,W,C,D,rfl,hC.same an,ok,R,S,λaj g H5 hD s5 eD hz E=>?_⟩;refine AN ?_;(try dsimp only);have ab:=an.trans s5;have U:=s5 _ _ ao;have ah:=s5 _ _ a4;have EV:∀{Hn:Hp}{x:Addr},Ac H Hn->Hn L=some (.lst d)->Hn T=some (.lst (l.map V.int))->Hn x=none->H x=none/\x≠L/\x≠T:=λ{Hn x}s Y e2 h=>⟨s.free h,λz=>(by rw[z,Y] at h;cases h),λz=>(by rw[z,e2] at h;cases h)⟩;refine⟨Or.inl ⟨rfl,_,Ag.of U⟩,X,A,t,aj,x,F,_,W,Z,aa,C,D,g,rfl,hC.same ab,TB.same ab,ok,sm,aR,irr,R,S,eD,hz,E,λr D2 P e u H6 s6 er a5 bc hw hF hP eP c bd=>?_⟩;have bR:=ab.trans s6;have be:=s6 _ _ U;have bS:=s6 _ _ ah;have v:Keeps (·=L) H6 (upd H6 L (.lst (d++[.ref r]))):=Keeps.one be;have aq:Ac H (upd H6 L (.lst (d++[.ref r]))):=λb o af=>by rw[AC (AJ af hL)];exact bR _ _ af
   have a6:(upd H6 L (.lst (d++[.ref r]))) L=some (.lst (d++[.ref r])):=Aa;refine⟨_,be,BE (by omega),?_⟩;generalize upd H6 L (.lst (d++[.ref r]))=N at v aq a6 ⊢;have nD:aj≠L:=λz=>by rw[z,ao] at hD;cases hD
   have bT:D2≠L:=λz=>by rw[z,U] at a5;cases a5
   have nP:P≠L:=λz=>by rw[z,U] at hP;cases hP
   have bf:=v.at_ _ _ bS (Ne.symm aV);have a7:=v.tup er;have a8:=v.at_ _ _ (s6 _ _ eD) nD;have aK:=v.at_ _ _ bc bT;have a9:=v.at_ _ _ eP nP;have aA:∀z∈g,DH (λx=>H x=none/\x≠L/\x≠T) N z.1 z.2:=λz h=>(((hz z h).mono' λy o _ c=>EV an ao a4 c.1).same s6).keeps v λy c=>c.2.1;have aB:∀z∈e,CO (λx=>H x=none/\x≠L/\x≠T) N z.1 z.2:=λz h=>((hw z h).mono' λy o _ c=>EV ab U ah c).keeps v λy c=>c.2.1;have aC:∀z∈u,CO (λx=>H x=none/\x≠L/\x≠T) N z.1 z.2:=λz h=>((c z h).mono' λy o _ c=>EV ab U ah c).keeps v λy c=>c.2.1;have bs:Ax (λx=>H x=none/\x≠L/\x≠T) N d (ls.map M5):=(((bL.same s4).same s5).same s6).keeps v λy c=>c.2.1;have cq:=E;have bg:=E.few;rw[Al] at bg;refine⟨X,A,t,aj,_,W,g,rfl,hC.same aq,ok,a8,aA,λz bU=>((E.mem _).mp (Br.mpr ⟨z,bU,rfl⟩)).ok ok R S,bg,sm.owd C D _ R S E,λb1 a1 H8 hO G eO ho bh=>?_⟩;have aD:=aq.trans G;have bi:=G _ _ a6;have bV:=G _ _ bf;have bj:∀z∈e,z.2∈DW W x (g.map (·.2)):=λz h=>hF.perm.mem_iff.mp (Br.mpr ⟨z,h,rfl⟩)
   have lw:e.length<=100:=by
    have h1:=hF.perm.length_eq;have h2:=sm.fnd x C D _ R S E;rw[Al] at h1;omega
   have bk:∀z∈e,Do W.ss z.2:=λz h=>SQ ok R S E (bj z h);have cb:∀{x:Addr},N x=none->H x=none/\x≠L/\x≠T:=λ{x}h=>⟨aq.free h,λz=>(by rw[z,a6] at h;cases h),λz=>(by rw[z,bf] at h;cases h)⟩;refine Or.inl ⟨_,.ref r,Ag.of bi,Sv _ _,X,A,t,b1,r,aj,D2,P,F,(λx=>H x=none/\x≠L/\x≠T),W,Z,aa,e,u,a1,(i:Int),rfl,hC.same aD,TB.same aD,sm,aR,irr,G _ _ a7,G _ _ aK,λz h=>(aB z h).same G,λz h=>Sz ok R S E (bj z h),lw,bk,G _ _ a9,λz h=>(aC z h).same G,bd,eO,λz h=>(ho z h).mono' λy o _ c=>cb c.1,λz h=>YX ok R S E (bh.perm.mem_iff.mp (Br.mpr ⟨z,h,rfl⟩)),λm a w I s9 bt hm=>?_⟩;have aE:=aD.trans s9;have bl:=s9 _ _ bi;have ar:=s9 _ _ bV;obtain⟨av,wv,b2,ha,bW⟩:=hm.two;have LK:CF W aa C D x (g.map (·.2),e.map (·.2),u.map (·.2)) (a1.map (·.2)):=⟨E,hF,bd,bh⟩
   have bm:A9 (λx=>H x=none/\x≠L/\x≠T) I (.ref r) (M5 (g.map (·.2),e.map (·.2),u.map (·.2))):=by
    have b3:=EV an ao a4 hD;have b4:=EV ab U ah a5;have b5:=EV ab U ah hP
    have b6:Ax (λx=>H x=none/\x≠L/\x≠T) N (g.map λz=>V.ref z.1) ((g.map (·.2)).map DP.D):=by
     rw[DF];exact Ax.of_all λz h=>(aA z h).own
    have b7:Ax (λx=>H x=none/\x≠L/\x≠T) N (e.map λz=>V.ref z.1) ((e.map (·.2)).map CC.D):=by
     rw[DF];exact Ax.of_all λz h=>(aB z h).own
    have f3:Ax (λx=>H x=none/\x≠L/\x≠T) N (u.map λz=>V.ref z.1) ((u.map (·.2)).map CC.D):=by
     rw[DF];exact Ax.of_all λz h=>(aC z h).own
    exact((A9.tup a7 (.cons (.lst a8 b3 b6) (.cons (.lst aK b4 b7) (.cons (.lst a9 b5 f3) .nil)))).same G).same s9
   have bu:Ax (λx=>H x=none/\x≠L/\x≠T) I (d++[.ref r]) ((ls++[(g.map (·.2),e.map (·.2),u.map (·.2))]).map M5):=by
    rw[Bn];exact((bs.same G).same s9).snoc bm
   clear aB aC aA bs bm hw c hz ho eD bc eP er a8 aK a9 a7 v;refine⟨_,Aq.of b2,rfl,?_⟩
   have au:((∀k,a≠some (("thing" : Str),k))\/q.2.2.drop (i+1)=[])->∀O,I O=none->aP (.ref O) (upd I O (.tup [av,wv,.ref L,.ref T])):=λcg O bX=>by
    have j:=Bc (o:=.tup [av,wv,.ref L,.ref T]) bX;refine qk O L T av wv (d++[.ref r]) a w _ l _ (aE.trans j) Aa hL (j _ _ bl) (j _ _ ar) ((ha.mono λ_ _ _ h=>h.1).same j) ((bW.mono λ_ _ _ h=>h.1).same j) ((bu.mono λ_ _ _ h=>⟨h.1,h.2.1⟩).same j) ?_;have:=ay a w [(g.map (·.2),e.map (·.2),u.map (·.2))] [] (by rw[ag];exact .stop LK bt cg);rw[FA] at this;exact this
   cases a with
   |none =>
     obtain rfl:=ha.ansN;exact⟨rfl,Am (λ_=>CU ⟨OR,au (.inl λk z=>(by cases z))⟩) (λh=>absurd (A4 rfl) h)⟩
   |some p =>
     obtain⟨pa,rfl,aF⟩:=ha.ansS;refine⟨rfl,Am (λh=>absurd (Bg h) (by simp)) (λ_=>?_)⟩;refine Or.inr (Or.inl ⟨_,.str p.1,Aq.of aF,rfl,rfl,rfl,Am (λh=>?_) (λh=>?_)⟩);refine CU ⟨OR,au (.inl λk z=>?_)⟩;have:p.1=("thing" : Str):=BC Prod.fst (Bo z);rw[this] at h;simp at h
     have hp:p.1=("thing" : Str):=Classical.byContradiction λz=>h (by
      have:decide (V.str p.1=V.str "thing")=false:=DS λy=>z (V.str.inj y)
      rw[this];rfl)
     have az:B7 W aa (e.map (·.2)) (a1.map (·.2)) i=(some (("thing" : Str),p.2),w):=(by rw[bt,<-hp]);refine⟨_,Or.inr ⟨_,Aq.of (aE _ _ eu),rfl⟩,rfl,rfl,Am (λh2=>?_) (λh2=>?_)⟩;have e2:(i:Int)=((q.2.2.map V.str).length:Nat)-1:=V.int.inj (Bg h2);rw[Al] at e2;exact⟨OR,au (.inr (List.drop_eq_nil_of_le (by omega)))⟩
     have bn:i+1<q.2.2.length:=by
      refine Classical.byContradiction λz=>h2 (A4 ?_);rw[Al];congr 1;omega
     clear au;have rng:=KI ok sm (λck hv=>by obtain⟨z,h1,rfl⟩:=Br.mp hv;exact bk z h1) az;obtain⟨n,hn⟩:=Df rng.1;have bo:n<W.gs.length:=(by omega);have hg:=AD bo;have aw:Keeps (·=T) I (upd I T (.lst (l.map V.int++[.int p.2]))):=Keeps.one ar;have j:Ac H (upd I T (.lst (l.map V.int++[.int p.2]))):=λb o af=>by rw[AC (AJ af bG)];exact aE _ _ af
     have bv:(upd I T (.lst (l.map V.int++[.int p.2]))) T=some (.lst ((l++[p.2]).map V.int)):=by rw[Aa,Bn];rfl
     refine⟨Or.inl ⟨rfl,_,Ag.of ar⟩,Or.inr (Or.inl ⟨_,.int p.2,Aq.of aF,rfl,_,ar,by rw[Al];exact BE (by omega),?_⟩)⟩;generalize upd I T (.lst (l.map V.int++[.int p.2]))=cs at aw j bv ⊢;have cc:=aw.at_ _ _ bl aV;have ch:=aw.tup aF;have cj:=bu.keeps aw λy c=>c.2.2;have cd:=hC.same j;refine Or.inr (Or.inl ⟨_,.int p.2,Aq.of ch,rfl,X,bz,Tn,b0,A,W.gs,W.as,p.2,n,W.gs[n],rfl,hn,hg,Aq.of (j _ _ eN),⟨_,Ag.of (j _ _ N3.et),(N3.tg.same j).dts⟩,cd.ans,ok.net,λb ct hb ax eb=>?_⟩);have ai:=j.trans ax;have aL:=ax _ _ cc;have aM:=ax _ _ bv;have aO:=cj.same ax
     have ei:CG W p.2=Dk W.gs W.as W.gs[n]:=by
      show(match W.gs[p.2.toNat]? with|some p=>Dk W.gs W.as p|none=>("no",0))=_
      rw[hn,Be,hg]
     obtain⟨y2,O,bw⟩:∃y2 O,q.2.2.drop (i+1)=y2::O:=⟨_,_,MI bn⟩;rw[bw] at ag;refine⟨_,Aq.of eb,rfl,?_⟩;generalize bp:Dk W.gs W.as W.gs[n]=J at *;refine⟨rfl,rfl,Am (λh3=>?_) (λh3=>?_)⟩
     have e3:J.1=("open" : Str):=V.str.inj (Bg h3);refine⟨by decide,λe0 bq=>?_⟩;obtain⟨bY,aN,aG,bZ⟩:=new_at (o:=.lst []) bq;rw[<-aN];refine⟨Jq,λY aH=>?_⟩;obtain⟨cu,cf,br,aI⟩:=new_at (o:=.tup [.int i,.ref e0,.int J.2]) aH;rw[<-cf];refine⟨OR,λr3 aJ=>?_⟩;have ae:=Bc (o:=.tup [.non,.ref Y,.ref L,.ref T]) aJ;have M:=(aG.trans br).trans ae;refine qk r3 L T .non (.ref Y) (d++[.ref r]) none (some ((i:Int),[],J.2)) _ _ _ (ai.trans M) Aa hL (M _ _ aL) (M _ _ aM) .non (.tup (ae _ _ aI) (.cons (.int _) (.cons (.lst ((br.trans ae) _ _ bZ) (ai.free bq) .nil) (.cons (.int _) .nil)))) ((aO.mono λ_ _ _ h=>⟨h.1,h.2.1⟩).same M) ?_;exact ay none (some ((i:Int),[],J.2)) [(g.map (·.2),e.map (·.2),u.map (·.2))] [p.2] (by rw[ag];exact .opn LK az (ei.trans (Prod.ext e3 rfl)));have e3:J.1≠("open" : Str):=λz=>h3 (A4 (by rw[z]));refine⟨rfl,rfl,Am (λh4=>?_) (λh4=>?_)⟩;have e4:J.1=("no" : Str):=V.str.inj (Bg h4);refine⟨Cj,λY aH=>?_⟩;obtain⟨bY,aN,aG,aI⟩:=new_at (o:=.tup [.str "none",.int ((i:Int)+1)]) aH;rw[<-aN];refine⟨OR,λr3 aJ=>?_⟩;have ae:=Bc (o:=.tup [.ref Y,.non,.ref L,.ref T]) aJ;have M:=aG.trans ae;refine qk r3 L T (.ref Y) .non (d++[.ref r]) (some (("none" : Str),(i:Int)+1)) none _ _ _ (ai.trans M) Aa hL (M _ _ aL) (M _ _ aM) (.tup (ae _ _ aI) (.cons (.str _) (.cons (.int _) .nil))) .non ((aO.mono λ_ _ _ h=>⟨h.1,h.2.1⟩).same M) ?_;exact ay (some (("none" : Str),(i:Int)+1)) none [(g.map (·.2),e.map (·.2),u.map (·.2))] [p.2] (by rw[ag];exact .no LK az (ei.trans (Prod.ext e4 rfl)));have e4:J.1≠("no" : Str):=λz=>h4 (A4 (by rw[z]))
     have e5:J.1=("to" : Str):=by
      have:=ZE W.gs W.as W.gs[n];rw[bp] at this;rcases this with h|h|h;exact h;exact absurd h e3;exact absurd h e4
     have rg:=Su ok (EC bo) bp e5;refine AM λNz Q=>?_;obtain⟨ta,o,cv,cw,et,_⟩:=TB.ex;refine Q ?_;clear Q;refine AN ?_;(try dsimp only);refine Or.inr (Or.inl ⟨_,.int Z,Aq.of (ai _ _ et),rfl,?_⟩);refine⟨J.2,Z,_,_,_,_,_,_,_,d++[.ref r],ls++[(g.map (·.2),e.map (·.2),u.map (·.2))],l++[p.2],rfl,ai,aL,aM,aO,by simp[bM],by simp[bN],bn,rg,ca,λa w ak al z=>?_⟩;rw[FX,FX];refine ay a w _ _ ?_;rw[ag];rw[bw] at z;exact .go LK az (ei.trans (Prod.ext e5 rfl)) z
inductive Ik (K:Ah) (vs:List V) (H:Hp) (Q:VK):Prop where
 |mk (nt A t:Addr) (F:Addr->Prop) (W:Wd) (qs:List Qu) (inn:Int) (ord:List (Str×Str)) (n:Int) (k:Nat) (q:Qu) (h0:vs=[.ref nt,.ref A,.ref t,.int n]) (h1:n=k) (h2:qs[k]?=some q) (h3:LC K F H nt A t W qs inn ord) (h4:P0 W qs inn ord) (h5:∀(v:V)(a:Option (Str×Int))(w:Option Wt)(ls:List Lk)(ts:List Int)(H':Hp),Ac H H'->A9 (λx=>H x=none) H' v (.tup [C9 a,HH w])->LU W inn ord q.1 q.2.1 q.2.2 0 a w ls ts->Q v H'):Ik K vs H Q
def Ke (K:Ah):Sp:=λvs H Q _=>Ik K vs H Q
variable (P w K mg base) in
abbrev OT:Prop:=BF P w K mg base "find" 8 ["net", "answers", "table", "question"] (Ke K)
theorem g9(B:BG mg)(Z:OS P w K mg base)(F:Bp K "find" "find" Rg f fd)(x:mg "find" = some (.ref f)):OT P w K mg base:=by
 refine B1 F x OE (λy H Q E h=>?_) (λal A ao s H y Q E hr h=>?_);obtain⟨j,A,t,F,W,l,p,r,n,k,q,rfl,_⟩:=h;rfl;obtain⟨j,A,t,F,W,l,p,r,n,k,q,rfl,rfl,c,d,ok,z⟩:=h;obtain⟨ag,T,R,us,Gs,Es,m,b,C,e⟩:=d.net;have aa:k<l.length:=(A7.mp c).1;have ab:k<b.length:=by rw[e.tq.len];exact aa
 have v:=AD ab;obtain⟨u,eq,D⟩:=e.tq.at_ k _ q v c;have ae:Bz (b.map V.ref) (k:Int)=some (.ref b[k]):=Cf (by rw[Bh,v];rfl);obtain⟨G,I,J,L⟩:=ok.q q (Bd c)
 refine⟨_,(Ao (DL (Ba Z (Ab (pv 0) (Ab (pv 1) (Ab (pv 2) (Ab (AE AF (AE AF (pv 0) Ai) (pv 3)) Ae))))) (Ct (n:=4) rfl (AK (Ay (i:=4) OE.nd) (AK (Ay (i:=5) OE.nd) (AK (Ay (i:=6) OE.nd) (AK (Ay (i:=7) OE.nd) Cs))))))
  (Av (AZ (Bw (Ab (pv 4) (Ab (pv 5) Ae)))))),?_⟩
 (try dsimp only[AG,Cx.nox,Cx.wish]);refine Or.inr (Or.inl ⟨_,.ref R,Aq.of C,rfl,Or.inl ⟨_,.ref b[k],Ag.of e.er,ae,j,A,t,b[k],u,F,W,p,r,q,rfl,d.caseH,d.tab,ok.ok,ok.sm,ok.ol,ok.irr,ok.inn,eq,D,G,I,J,L,λah ai T M N lv a w ls m aj O S hL eL eT U X an af=>?_⟩⟩);refine⟨_,Aq.of S,rfl,?_⟩;refine⟨Cj,λak Y=>?_⟩;have g:=Bc (o:=.tup [M,N]) Y;exact z _ a w ls m _ (O.trans g) (.tup Aa (.cons (U.same g) (.cons (X.same g) .nil))) af
variable {H:Hp}{v:V}{d:Dt}
theorem Xn{F:Addr->Prop}{e:Dt}(h:A9 F H v (.tup [d,e])):∃p x y,v=.ref p/\H p=some (.tup [x,y])/\A9 F H x d/\A9 F H y e:=by
 cases v with
 |ref m =>
   obtain⟨x,y,a,b,c⟩:=h.two;exact⟨m,x,y,rfl,a,b,c⟩
 |_=>cases h
inductive Cb (K:Ah) (vs:List V) (H:Hp) (Q:VK):Prop where
 |mk (nt t A:Addr) (F:Addr->Prop) (W:Wd) (qs:List Qu) (inn:Int) (ord:List (Str×Str)) (ks:List AI) (s:Int) (H0:Hp) (h0:vs=[.ref nt,.ref t,.ref A,.int s]) (h1:Ac H0 H) (h2:H0 A=none) (h3:LN K F H0 nt t W qs inn ord) (h4:HV W qs inn ord) (h5:1<=qs.length) (h6:Eg H A ks) (h7:GN W qs inn ord ks) (h8:∀(b:Bool)(ks':List AI)(H':Hp),Ac H0 H'->Eg H' A ks'->GN W qs inn ord ks'->(b=true->nn ks'<nn ks/\∃(k:Nat)(q:Qu)(p:Str×Int),qs[k]?=some q/\ks[k]?=some none/\Fd W inn ord q ks (some p))->(b=false->ks'=ks/\∀(k:Nat)(q:Qu),qs[k]?=some q->ks[k]?=some none->Fd W inn ord q ks none)->Q (.bl b) H'):Cb K vs H Q
def hE (K:Ah):Sp:=λvs H Q _=>Cb K vs H Q
variable (P w K mg base) in
abbrev QF:Prop:=BF P w K mg base "_law_next_open" 9 ["_law_net", "_law_table_here", "_law_answers", "_law_start"] (hE K)
theorem hH(B:BG mg)(an:OT P w K mg base)(F:Bp K "_law_next_open" "_law_next_open" Rh f fd)(hm:mg "_law_next_open" = some (.ref f)):QF P w K mg base:=by
 refine B1 F hm Qk (λJ H aj ak h=>?_) (λay A a1 s H J aj ak hr h=>?_);obtain⟨L,t,A,F,W,a,C,D,b,s,H0,rfl,_⟩:=h;rfl
 . obtain⟨L,t,A,F,W,a,C,D,b,l,H0,rfl,M,ao,hN,G,l1,N,O,q⟩:=h
   have hK:=O.aok G.toSOk;have lq:=G.lq;have al:=hK.len;obtain⟨r,Q,af⟩:=id N;have ag:r.length=a.length:=by rw[af.length,Al];exact al
   refine⟨_,(Ao (Cw Cr rfl (Iu rfl B.b_range (Ab (BS Ec B.b_len (Ab (pv 2) Ae)) Ae)) (Ay (i:=4) Qk.nd) (Ao (AS (i:=5) Qk.nd (AA Bj (AA Gr (pv 3) (pv 4)) (BS Ec B.b_len (Ab (pv 2) Ae))))
    (Av (Bk (FC (Gb (AE AF (pv 2) (pv 5)))) (Ao (AS (i:=6) Qk.nd (AE AF (Ba an (Ab (pv 0) (Ab (pv 2) (Ab (pv 1) (Ab (pv 5) Ae))))) Ai))
     (Av (Bk (FC (Np (pv 6))) (Ao (DL (pv 6) (MQ (pv 2) (pv 5) NR))
      (Av (AZ Kl))) Bm))) Bm))))
    (Av (AZ Kl))),?_⟩
   (try dsimp only[AG,Cx.nox,Cx.wish]);refine⟨_,Or.inl ⟨_,Ag.of Q,rfl⟩,(by omega),(by omega),Kp (lo:=0) (n:=r.length) (λi σ H'=>∃(R S T:Option V),σ=[some (.ref L),some (.ref t),some (.ref A),some (.int l),R,S,T]/\Ac H H'/\∀j:Nat,j<i->∀(k:Nat)(q:Qu),(k:Int)=(l+(0+(j:Int)))%(a.length:Int)->a[k]?=some q->b[k]?=some none->Fd W C D q b none) ⟨none,none,none,rfl,Ac.refl _,λj hj=>absurd hj (Nat.not_lt_zero _)⟩ ?_ ?_⟩;rotate_left;refine λσ U Y=>AM λNz g=>?_;obtain⟨R,S,T,rfl,d,Z⟩:=Y;refine g ?_;clear g;refine q false b U (M.trans d) (N.go d.tk λ_ e=>d _ _ e) O (λz=>by cases z) λ_=>⟨rfl,λk u hq e=>?_⟩;have hk:k<a.length:=(A7.mp hq).1;obtain⟨j,h1,h2⟩:=dM (s:=l) (j:=(k:Int)) (m:=(a.length:Int)) (by omega) (by omega) (by omega);exact Z j (by omega) k u h2.symm hq e;refine λi σ U hi Y=>AM λNz g=>?_;obtain⟨R,S,T,rfl,d,Z⟩:=Y;refine g ?_;clear g;refine AN ?_;(try dsimp only);have aq:=d _ _ Q;have h0:=EE (l+(0+(i:Int))) (show(a.length:Int)≠0 by omega);have h1:=ED (l+(0+(i:Int))) (show(0:Int)<a.length by omega);obtain⟨k,hk⟩:=Df h0;refine⟨_,Or.inl ⟨_,Ag.of aq,rfl⟩,(by show(0:Int)<(r.length:Int);omega),?_⟩;refine AN ?_;(try dsimp only);have ar:(l+(0+(i:Int)))%((r.length:Nat):Int)=(k:Int):=by rw[ag];exact hk
   rw[ar];have au:k<a.length:=(by omega);have E:=AD au;generalize a[k]=u at E;have ah:Eg U A b:=N.go d.tk λ_ e=>d _ _ e;obtain⟨J,v,e1,e2,hc⟩:=ah.get (k:=k) (by omega)
   have nxt:∀{P:Prop},(b[k]?=some none->Fd W C D u b none)->(∀j:Nat,j<i+1->∀(k:Nat)(q:Qu),(k:Int)=(l+(0+(j:Int)))%(a.length:Int)->a[k]?=some q->b[k]?=some none->Fd W C D q b none):=λ{P}hf j hj k' q' h3 h4 h5=>by
    by_cases c:j=i;subst c;have:k'=k:=(by omega);subst this;obtain rfl:=Bo (h4.symm.trans E);exact hf h5;exact Z j (by omega) k' q' h3 h4 h5
   refine Or.inl ⟨J,v,Ag.of e1,e2,rfl,?_⟩;rcases hc with⟨y,rfl⟩|⟨p,tt,y,rfl,_⟩;rotate_left;exact Am (λh=>absurd (Bg h) (by simp)) (λ_=>⟨_,_,_,rfl,d,nxt (P:=True) λz=>by rw[y] at z;cases z⟩);refine Am (λ_=>?_) (λh=>absurd (A4 rfl) h);refine⟨L,A,t,F,W.late b,a,C,D,_,k,u,rfl,rfl,E,((hN.same M).same d).lc ah.ans,G.all b hK,λev ea X ls aa H3 s3 av ab=>?_⟩;have ax:=av;refine AM λNz g=>?_;obtain⟨ep,ex,ey,rfl,aw,ae,az⟩:=Xn ax;refine g ?_;clear g;refine Or.inr (Or.inl ⟨_,ex,Aq.of aw,rfl,?_⟩);refine AN ?_;(try dsimp only);have I:=d.trans s3
   cases ea with
   |none =>
     obtain rfl:=ae.ansN;exact⟨rfl,Am (λh=>absurd h (by simp)) (λ_=>⟨_,_,_,rfl,I,nxt (P:=True) λ_=>⟨X,ls,aa,ab⟩⟩)⟩
   |some p =>
     obtain⟨tp,rfl,a0⟩:=ae.ansS;refine⟨rfl,Am (λ_=>?_) (λh=>absurd (by simp) h)⟩;have ai:=I _ _ Q;refine⟨A,r,(k:Int),k,rfl,rfl,ai,?_,?_⟩;rw[ag,N2 (by omega) (by omega),Be];have tk:=Oz (o:=.lst (r.set k (.ref tp))) ai;refine q true (b.set k (some p)) _ (λx o e=>?_) ⟨r.set k (.ref tp),Aa,?_⟩ (O.put E y ⟨X,ls,aa,ab⟩) (λ_=>⟨(Tj b k p).2 y,k,u,p,E,y,X,ls,aa,ab⟩) (λz=>by cases z);rw[AC λz=>by rw[z,ao] at e;cases e];exact I _ _ (M _ _ e);rw[List.map_set];exact(((af.same I).set ae.noL k)).tk tk
inductive Fa (K:Ah) (vs:List V) (H:Hp) (Q:VK):Prop where
 |mk (nt A t:Addr) (W:Wd) (n:Int) (h0:vs=[.ref nt,.int n]) (h1:Bl K H nt A t W) (h2:(0<=n/\n<W.gs.length)) (h3:∀(D:Addr)(H':Hp),H D=none->Ac H H'->H' D=some (.lst ((E4 W.gs n).map V.int))->Q (.ref D) H'):Fa K vs H Q
def hJ (K:Ah):Sp:=λvs H Q _=>Fa K vs H Q
variable (P w K mg base) in
abbrev QG:Prop:=BF P w K mg base "of_sort" 1 ["net", "thing"] (hJ K)
theorem hQ(B:BG mg)(F:Bp K "of_sort" "of_sort" Ri f fd)(b:mg "of_sort" = some (.ref f)):QG P w K mg base:=by
 refine B1 F b Ts (λr H Q E h=>?_) (λM A N s H r Q E C h=>?_);obtain⟨u,A,t,W,n,rfl,_⟩:=h;rfl;obtain⟨u,A,t,W,n,rfl,v,x,q⟩:=h;obtain⟨S,T,R,us,G,I,c,J,L,y,d⟩:=v.net;obtain⟨m,b⟩:=Df x.1;have j:m<W.gs.length:=(by omega);have o:m<c.length:=by rw[d.tg.len];exact j
 have k:W.gs[n.toNat]?=some W.gs[m]:=by rw[b,Be];exact AD j
 have g:=d.tg.at_ m _ _ (AD o) (AD j);have l:Bz (c.map V.ref) n=some (.ref c[m]):=by rw[b];exact Cf (by rw[Bh,AD o];rfl)
 generalize W.gs[m]=p at k g;generalize c[m]=z at l g
 have eq:E4 W.gs n=if p.1=("sort" : Str) then[p.2] else[]:=by unfold E4;rw[k]
 refine⟨_,(Ao (DL (AE AF (AE AF (pv 0) Ai) (pv 1)) (Ct (n:=2) rfl (AK (Ay (i:=2) Ts.nd) (AK (Ay (i:=3) Ts.nd) Cs))))
  (Ao (Bk (BI Cz (pv 2) B2 (By _)) (Av (AZ (CA (Ab (pv 3) Ae)))) Bm)
  (Av (AZ (CA Ae))))),?_⟩
 (try dsimp only[AG,Cx.nox,Cx.wish]);refine Or.inr (Or.inl ⟨_,.ref T,Aq.of y,rfl,Or.inl ⟨_,.ref z,Ag.of d.et,l,?_⟩⟩);refine⟨_,Aq.of g,rfl,?_⟩;refine⟨rfl,rfl,Am (λh=>?_) (λh=>?_)⟩;have e:p.1=("sort" : Str):=V.str.inj (Bg h);refine⟨Hr,λD a=>q D _ a (Bc a) ?_⟩;rw[Aa,eq,Aj e];rfl;have e:p.1≠("sort" : Str):=λe=>h (A4 (by rw[e]));refine⟨by decide,λD a=>q D _ a (Bc a) ?_⟩;rw[Aa,eq,Ak e];rfl
inductive D6 (K:Ah) (vs:List V) (H:Hp) (Q:VK):Prop where
 |mk (nt A t:Addr) (W:Wd) (v:V) (o:Option (Str×Int)) (h0:vs=[.ref nt,v]) (h1:Bl K H nt A t W) (h2:((o=none/\v=.non)\/∃p ta,o=some p/\v=.ref ta/\Aq K H ta [.str p.1,.int p.2])) (h3:(∀p,o=some p->p.1=("thing" : Str)->0<=p.2/\p.2<W.gs.length)) (h4:∀(D:Addr)(H':Hp),H D=none->Ac H H'->H' D=some (.lst ((qA W.gs o).map V.int))->Q (.ref D) H'):D6 K vs H Q
def hV (K:Ah):Sp:=λvs H Q _=>D6 K vs H Q
variable (P w K mg base) in
abbrev Uf:Prop:=BF P w K mg base "of_answer" 2 ["net", "answer"] (hV K)
theorem hW(B:BG mg)(n:QG P w K mg base)(F:Bp K "of_answer" "of_answer" Rj f fd)(i:mg "of_answer" = some (.ref f)):Uf P w K mg base:=by
 refine B1 F i dP (λj H Q E h=>?_) (λC A G s H j Q E u h=>?_);obtain⟨b,A,t,W,v,o,rfl,_⟩:=h;rfl;obtain⟨b,A,t,W,v,o,rfl,k,l,r,q⟩:=h;have d:qA W.gs o=[]->∀D,H D=none->Q (.ref D) (upd H D (.lst [])):=λe D a=>q D _ a (Bc a) (by rw[Aa,e];rfl)
 refine⟨_,(Ao (Bk (PW.pt (G8 (FC (Gb (pv 1))) (G7 (BI Pc (AE AF (pv 1) Ai) B2 (By _))))) (Av (AZ (CA Ae))) Bm)
  (Av (AZ (Ba n (Ab (pv 0) (Ab (AE AF (pv 1) Ai) Ae)))))),?_⟩
 (try dsimp only[AG,Cx.nox,Cx.wish]);rcases l with⟨rfl,rfl⟩|⟨p,x,rfl,rfl,g⟩;exact⟨rfl,Am (λ_=>CU ⟨by decide,d rfl⟩) (λh=>absurd (A4 rfl) h)⟩;refine⟨rfl,Am (λh=>absurd (Bg h) (by simp)) (λ_=>?_)⟩;refine Or.inr (Or.inl ⟨_,.str p.1,g,rfl,rfl,rfl,Am (λh=>?_) (λh=>?_)⟩);refine⟨by decide,d ?_⟩;refine Ak λe=>?_;rw[e] at h;simp at h
 have c:p.1=("thing" : Str):=Classical.byContradiction λz=>h (by
  have:decide (V.str p.1=V.str "thing")=false:=DS λy=>z (V.str.inj y)
  rw[this];rfl)
 refine Or.inr (Or.inl ⟨_,.int p.2,g,rfl,b,A,t,W,p.2,rfl,k,r p rfl c,λD m a s e=>q D m a s ?_⟩);rw[e]
 show some (HO.lst ((E4 W.gs p.2).map V.int))=some (HO.lst ((if p.1=("thing" : Str) then E4 W.gs p.2 else[]).map V.int))
 rw[Aj c]
theorem iA{k:Nat}{s:Bi}(h:W.ss[k]?=some s):BU W (k:Int)=s.1:=by unfold BU;rw[Be,h]
theorem Kf{k:Nat}(h:W.sts[k]?=some s):DV W (k:Int)=s.1:=by unfold DV;rw[Be,h]
inductive EA (K:Ah) (vs:List V) (H:Hp) (Q:VK):Prop where
 |mk (nt A t:Addr) (W:Wd) (v:V) (F:Addr->Prop) (bs:List AQ) (h0:vs=[.ref nt,.ref A,.ref t,v]) (h1:Bl K H nt A t W) (h2:BY W) (h3:A9 F H v (.lst (bs.map DP.D))) (h4:(∀b∈bs,B5 W b)) (h5:(bs.flatMap (Bq W)).length<=4000) (h6:∀(D:Addr)(H':Hp),H D=none->Ac H H'->H' D=some (.lst ((bs.flatMap (Bq W)).map V.int))->Q (.ref D) H'):EA K vs H Q
def iB (K:Ah):Sp:=λvs H Q _=>EA K vs H Q
variable (P w K mg base) in
abbrev Ug:Prop:=BF P w K mg base "of_steps" 3 ["net", "answers", "table", "begun"] (iB K)
theorem iC(B:BG mg)(a7:Qz P w K mg base)(a8:Uf P w K mg base)(F:Bp K "of_steps" "of_steps" Rk f fd)(E:mg "of_steps" = some (.ref f)):Ug P w K mg base:=by
 refine B1 F E KL (λvs H a0 a1 h=>?_) (λaV A aY s H vs a0 a1 hr h=>?_);obtain⟨L,A,t,W,v,F,bs,rfl,_⟩:=h;rfl
 . obtain⟨L,A,t,W,v,F,bs,rfl,M,ok,hv,a9,hl,a2⟩:=h
   obtain⟨a3,aQ,aR,us,Gs,Es,ts,qt,qs,eN,N3⟩:=M.net;obtain⟨a,o,aA,b1,a4,b2,b3⟩:=M.tab;obtain⟨P,bv,rfl,eP,hb⟩:=Tb hv
   refine⟨_,(Ao (AS (i:=4) KL.nd (CA Ae))
    (Ao (Cw Cr rfl (C6 (pv 3)) (Ct (n:=3) rfl (AK (Ay (i:=5) KL.nd) (AK (Ay (i:=6) KL.nd) (AK (Ay (i:=7) KL.nd) Cs)))) (Av (Cw Cr rfl (C6 (AE AF (AE AF (AE AF (pv 0) Ai) (pv 6)) Ai)) (Ct (n:=3) rfl (AK (Ay (i:=8) KL.nd) (AK (Ay (i:=9) KL.nd) (AK (Ay (i:=10) KL.nd) Cs)))) (Av (Bk (PW.pt (GI (BI Cz (pv 9) B2 (By _)) (GH (FC (Np (Ba a7 (Ab (pv 2) (Ab (pv 7) (Ab (pv 8) Ae))))))))) (Ao (Di (DG DK EF EG EI (pv 4) (Ab (pv 10) Ae)))
          (Av (Di (DG DK PySem.F.slot_list_extend PySem.F.type_list_extend N4 (pv 4) (Ab (Ba a8 (Ab (pv 0) (Ab (AE AF (pv 1) (pv 10)) Ae))) Ae))))) Bm)))))
    (Av (AZ (pv 4))))),?_⟩
   (try dsimp only[AG,Cx.nox,Cx.wish]);refine⟨by decide,λD N=>?_⟩;obtain⟨aS,aB,s1,aC⟩:=new_at (o:=.lst []) N;rw[<-aB]
   refine⟨⟨_,Ag.of (s1 _ _ eP)⟩,EL (xs:=bv) (λi σ q=>∃T U X r u y,σ=[some (.ref L),some (.ref A),some (.ref t),some (.ref P),some (.ref D),T,U,X,r,u,y]/\Ac H q/\q D=some (.lst (((bs.take i).flatMap (Bq W)).map V.int)))
    ⟨none,none,none,none,none,none,rfl,s1,by rw[aC,En];rfl⟩ (λi σ q _ aa=>by obtain⟨_,_,_,_,_,_,_,s,_⟩:=aa;exact Ag.of (s _ _ eP)) ?_ ?_⟩
   rotate_left;refine λσ H2 z=>AM λO c=>?_;obtain⟨T,U,X,r,u,y,rfl,g,Q⟩:=z;refine c ?_;clear c;rw[hb.length,Al,D8] at Q;exact a2 D _ N g Q;refine λi x σ H2 hx z=>AM λO c=>?_;obtain⟨T,U,X,r,u,y,rfl,g,Q⟩:=z;refine c ?_;clear c;refine F5 ?_;intro Nx Cy;obtain⟨b,ak,aD⟩:=M8 (hb.same g) hx;have al:=a9 b (Bd ak);obtain⟨tb,x0,rfl,aE⟩:=Mb aD;have aF:=al.rng b.2.1 (by unfold AU;simp);have aG:=al.st;obtain⟨n,hn⟩:=Df aF.1;obtain⟨k,hk⟩:=Df aG.1;have an:n<W.ss.length:=(by omega);have aH:k<W.sts.length:=(by omega);refine AM λO c=>?_;obtain⟨ah,a5,E1,a6,aT,aU,g4,⟨c0,⟨tG,c1,Y⟩,_⟩⟩:=N3.sc.get an;refine c ?_;clear c;have ao:=AD aH;have Z:BU W b.2.1=W.ss[n].1:=by rw[hn];exact iA g4
   have eG:DV W b.2.2=W.sts[k].1:=by rw[hk];exact Kf ao
   have aI:Bz (us.map V.ref) b.2.1=some (.ref ah):=by rw[hn];exact Cf (by rw[Bh,a6];rfl)
   have aq:=Ox (f:=Bq W) ak;have aO:=Oy (f:=Bq W) (l:=bs) (i+1);rw[aq,AW] at aO;refine⟨_,Aq.of aE,rfl,?_⟩;refine Or.inr (Or.inl ⟨_,.ref a3,Aq.of (g _ _ eN),rfl,Or.inl ⟨_,.ref ah,Ag.of (g _ _ N3.sc.top),aI,Or.inr (Or.inl ⟨_,.ref a5,Aq.of (g _ _ c0),rfl,⟨_,Ag.of (g _ _ c1)⟩,?_⟩)⟩⟩)
   refine EL (xs:=tG.map V.ref) (λj σ q=>∃r u y,σ=[some (.ref L),some (.ref A),some (.ref t),some (.ref P),some (.ref D),some x0,some (.int b.2.1),some (.int b.2.2),r,u,y]/\Ac H q/\q D=some (.lst (((bs.take i).flatMap (Bq W)++((BU W b.2.1).take j).flatMap (FR W b.2.2)).map V.int)))
    ⟨_,_,_,rfl,g,by rw[Q,En];simp⟩ (λj σ q _ aa=>by obtain⟨_,_,_,_,s,_⟩:=aa;exact Ag.of (s _ _ c1)) ?_ ?_
   rotate_left;refine λσ G z=>AM λO c=>?_;obtain⟨r,u,y,rfl,d,J⟩:=z;refine c ?_;clear c;refine⟨_,_,_,_,_,_,rfl,d,?_⟩;rw[J,aq,Al,Y.len,Z,D8,<-Z];rfl;refine λj ai σ G hy z=>AM λO c=>?_;obtain⟨r,u,y,rfl,d,J⟩:=z;refine c ?_;clear c;refine F5 ?_;intro Nx Cy;obtain⟨tp,ar,rfl⟩:=getm hy;have au:j<W.ss[n].1.length:=by rw[<-Y.len];exact(A7.mp ar).1
   have hp:=AD au;have aw:=Y.at_ j tp _ ar hp;have mp:=EC au;generalize W.ss[n].1[j]=p at hp aw mp;have ab:=Ox (f:=FR W b.2.2) (show(BU W b.2.1)[j]?=some p by rw[Z];exact hp);have ae:=Oy (f:=FR W b.2.2) (l:=BU W b.2.1) (j+1);rw[ab,AW] at ae;have aW:(Bq W b).length=((BU W b.2.1).flatMap (FR W b.2.2)).length:=rfl
   have skip:¬(p.2.1=("by" : Str)/\(El (DV W b.2.2) p.1).isSome=true)->G D=some (.lst (((bs.take i).flatMap (Bq W)++((BU W b.2.1).take (j+1)).flatMap (FR W b.2.2)).map V.int)):=λaJ=>by
    have:FR W b.2.2 p=[]:=Ak aJ;rw[J,ab,this,FA]
   refine⟨_,Aq.of (d _ _ aw),rfl,?_⟩;refine⟨rfl,rfl,Am (λC=>?_) (λC=>Bs ?_)⟩;rotate_left;exact⟨_,_,_,rfl,d,skip λh=>C (A4 (by rw[h.1]))⟩;have C:p.2.1=("by" : Str):=V.str.inj (Bg C);refine⟨t,a,o,aA,W.sts,b.2.2,k,_,p.1,rfl,hk,d.seqT b1,⟨a4,d.seq b2,b3.same d⟩,ao,?_⟩;rw[<-eG]
   cases eg:El (DV W b.2.2) p.1 with
   |none =>
     refine⟨rfl,Am (λh=>absurd h (by simp[Ee])) (λ_=>?_)⟩;exact⟨_,_,_,rfl,d,skip λh=>by rw[eg] at h;cases h.2⟩
   |some af =>
     refine⟨rfl,Am (λ_=>?_) (λh=>absurd (by simp[Ee]) h)⟩;have ax:FR W b.2.2 p=p.2.2::Fw W.gs W.as p.2.2:=Aj ⟨C,by rw[eg];rfl⟩;have aK:=ok.by_ (EC an) mp λaj=>by rw[C] at aj;exact absurd aj (by decide +kernel)
     obtain⟨m,E⟩:=Df aK.1;have R:m<W.as.length:=(by omega);have ay:=JU (gs:=W.gs) (AD R);rw[ax,Ej] at ae;have S:Ac H (upd G D (.lst (((bs.take i).flatMap (Bq W)++((BU W b.2.1).take j).flatMap (FR W b.2.2)).map V.int++[.int p.2.2]))):=λai o e=>by rw[AC (AJ e N)];exact d _ _ e
     have ag:(upd G D (.lst (((bs.take i).flatMap (Bq W)++((BU W b.2.1).take j).flatMap (FR W b.2.2)).map V.int++[.int p.2.2]))) D=some (.lst (((bs.take i).flatMap (Bq W)++((BU W b.2.1).take j).flatMap (FR W b.2.2)).map V.int++[.int p.2.2])):=Aa;refine⟨Or.inl ⟨rfl,_,Ag.of J⟩,_,J,by rw[Al,AW];exact Mc (by omega),?_⟩;generalize upd G D (.lst (((bs.take i).flatMap (Bq W)++((BU W b.2.1).take j).flatMap (FR W b.2.2)).map V.int++[.int p.2.2]))=H4 at S ag ⊢;obtain⟨az,av,aL,aM,hc⟩:=(M.same S).ans.get R;have aP:Bz az p.2.2=some av:=by rw[E];exact Cf aM
     refine⟨Or.inl ⟨rfl,_,Ag.of ag⟩,Or.inl ⟨az,av,aL,aP,L,A,t,W,av,W.as[m],rfl,M.same S,?_,λpp e I=>ok.net.t pp (by rw[<-e];exact EC R) I,λD2 H5 aX s5 aN=>?_⟩⟩;rw[AD R] at hc;rcases hc with⟨e1,I⟩|⟨pp,ta,e1,I,e3⟩;exact .inl ⟨Bo e1,I⟩;exact .inr ⟨pp,ta,Bo e1,I,e3⟩;refine⟨D,D2,_,_,rfl,rfl,s5 _ _ ag,aN,?_,?_⟩;have:=Md W.gs W.as[m];rw[E,ay] at ae;rw[AW,Al,Al,AW,DE];exact Dh (Mc (by omega));refine⟨_,_,_,rfl,λai o e=>?_,?_⟩;rw[AC (AJ e N)];exact s5 _ _ (S _ _ e);rw[Aa,ab,ax,E,ay]
     simp
inductive C5 (K:Ah) (vs:List V) (H:Hp) (Q:VK):Prop where
 |mk (nt A t:Addr) (W:Wd) (v:V) (F:Addr->Prop) (ws:List (List Ap)) (h0:vs=[.ref nt,v]) (h1:Bl K H nt A t W) (h2:A9 F H v (.lst (ws.map CC.D))) (h3:(∀w∈ws,Do W.ss w)) (h4:(ws.flatMap (E5 W.ss)).length<=4000) (h5:∀(D:Addr)(H':Hp),H D=none->Ac H H'->H' D=some (.lst ((ws.flatMap (E5 W.ss)).map V.int))->Q (.ref D) H'):C5 K vs H Q
def iD (K:Ah):Sp:=λvs H Q _=>C5 K vs H Q
variable (P w K mg base) in
abbrev Uh:Prop:=BF P w K mg base "of_tellings" 2 ["net", "found"] (iD K)
theorem iE(B:BG mg)(ab:OQ P w K mg base)(F:Bp K "of_tellings" "of_tellings" Rl f fd)(hm:mg "of_tellings" = some (.ref f)):Uh P w K mg base:=by
 refine B1 F hm Mn (λvs H Q E h=>?_) (λai A ak s H vs Q E hr h=>?_);obtain⟨g,A,t,W,v,F,j,rfl,_⟩:=h;rfl
 . obtain⟨g,A,t,W,v,F,j,rfl,hC,hv,he,hl,q⟩:=h
   obtain⟨S,T,R,us,Gs,Es,ts,qt,qs,eN,N3⟩:=hC.net;obtain⟨P,wv,rfl,J,L⟩:=Tb hv
   refine⟨_,(Ao (AS (i:=2) Mn.nd (CA Ae))
    (Ao (Cw Cr rfl (C6 (pv 1)) (Ay (i:=3) Mn.nd) (Ao (DL (Ba ab (Ab (pv 0) (Ab (AE AF (pv 3) (Pa Pb Ai)) Ae))) (Ct (n:=4) rfl (AK (Ay (i:=4) Mn.nd) (AK (Ay (i:=5) Mn.nd) (AK (Ay (i:=6) Mn.nd) (AK (Ay (i:=7) Mn.nd) Cs))))))
     (Av (Bk (BI Cz (pv 6) B2 (By _)) (Av (Di (DG DK EF EG EI (pv 2) (Ab (pv 7) Ae)))) Bm))))
    (Av (AZ (pv 2))))),?_⟩
   (try dsimp only[AG,Cx.nox,Cx.wish]);refine⟨by decide,λD k=>?_⟩;obtain⟨ah,ae,M,af⟩:=new_at (o:=.lst []) k;rw[<-ae]
   refine⟨⟨_,Ag.of (M _ _ J)⟩,EL (xs:=wv) (λi σ p=>∃r u y z C,σ=[some (.ref g),some (.ref P),some (.ref D),r,u,y,z,C]/\Ac H p/\p D=some (.lst (((j.take i).flatMap (E5 W.ss)).map V.int)))
    ⟨none,none,none,none,none,rfl,M,by rw[af,En];rfl⟩ (λi σ p _ ag=>by obtain⟨_,_,_,_,_,_,s,_⟩:=ag;exact Ag.of (s _ _ J)) ?_ ?_⟩
   rotate_left;refine λσ H2 I=>AM λN a=>?_;obtain⟨r,u,y,z,C,rfl,c,d⟩:=I;refine a ?_;clear a;rw[L.length,Al,D8] at d;exact q D _ k c d;refine λi x σ H2 hx I=>AM λN a=>?_;obtain⟨r,u,y,z,C,rfl,c,d⟩:=I;refine a ?_;clear a;obtain⟨w,O,U⟩:=M8 (L.same c) hx;have ew:=he w (Bd O);obtain⟨vv,m,X,mo,aa⟩:=ew;rw[X] at U;refine AM λN a=>?_;obtain⟨l,ms,mk,rfl,l1,l2,l3⟩:=JV U;refine a ?_;clear a;have et:KH W.ss m=Ck W.ss w:=(by rw[X,PX]);have aj:=Oy (f:=E5 W.ss) (l:=j) i;have Y:=Ox (f:=E5 W.ss) O;refine Or.inl ⟨_,.ref mk,Ag.of l1,l2,g,S,T,R,mk,us,Gs,Es,W.ss,m,rfl,Aq.of (c _ _ eN),N3.sc.same c,Aq.of l3,mo,aa,λtp Z=>?_⟩;rw[et] at Z;refine⟨_,Aq.of Z,rfl,?_⟩;refine⟨rfl,rfl,Am (λh=>?_) (λh=>?_)⟩;have G:(Ck W.ss w).2.2.1=("by" : Str):=V.str.inj (Bg h);refine⟨Or.inl ⟨rfl,_,Ag.of d⟩,_,d,by rw[Al];exact Mc (by omega),?_⟩;refine⟨_,_,_,_,_,rfl,λb o e=>?_,?_⟩;rw[AC (AJ e k)];exact c _ _ e;rw[Aa,Y,Bn];unfold E5;rw[Aj G];rfl;have G:(Ck W.ss w).2.2.1≠("by" : Str):=λe=>h (A4 (by rw[e]));refine⟨_,_,_,_,_,rfl,c,?_⟩;rw[d,Y];have:E5 W.ss w=[]:=Ak G;rw[this,FA]
inductive CM (K:Ah) (vs:List V) (H:Hp) (Q:VK):Prop where
 |mk (nt A t L T:Addr) (F:Addr->Prop) (W:Wd) (lv:List V) (ls:List Lk) (ts:List Int) (h0:vs=[.ref nt,.ref A,.ref t,.ref L,.ref T]) (h1:Bl K H nt A t W) (h2:BY W) (h3:H L=some (.lst lv)) (h4:Ax F H lv (ls.map M5)) (h5:(∀l∈ls,HU W l)) (h6:H T=some (.lst (ts.map V.int))) (h7:(∀n∈ts,0<=n/\n<W.gs.length)) (h8:(CH W ls ts).length<=4000) (h9:(∀q∈CH W ls ts,0<=q/\q<((40:Nat):Int))) (h10:∀(D:Addr)(us:List Int)(H':Hp),H D=none->Ac H H'->H' D=some (.lst (us.map V.int))->(∀q,q∈us↔q∈CH W ls ts)->us.length<=40->Q (.ref D) H'):CM K vs H Q
def iF (K:Ah):Sp:=λvs H Q _=>CM K vs H Q
variable (P w K mg base) in
abbrev Ui:Prop:=BF P w K mg base "questions_of" 4 ["net", "answers", "table", "looks", "things"] (iF K)
theorem iG(B:BG mg)(ar:Ug P w K mg base)(au:Uh P w K mg base)(av:QG P w K mg base)(F:Bp K "questions_of" "questions_of" Rm f fd)(E:mg "questions_of" = some (.ref f)):Ui P w K mg base:=by
 refine B1 F E Nf (λvs H ak al h=>?_) (λa6 A aA s H vs ak al hr h=>?_);obtain⟨k,A,t,L,T,F,W,lv,ls,m,rfl,_⟩:=h;rfl;obtain⟨k,A,t,L,T,F,W,lv,ls,m,rfl,Q,ok,eL,U,aw,eT,ax,O,ae,an⟩:=h;have a7:(ls.flatMap (FG W)).length<=4000:=by unfold CH at O;rw[AW] at O;omega
 refine⟨_,(Ao (AS (i:=5) Nf.nd (CA Ae))
  (Ao (Cw Cr rfl (C6 (pv 3)) (Ct (n:=3) rfl (AK (Ay (i:=6) Nf.nd) (AK (Ay (i:=7) Nf.nd) (AK (Ay (i:=8) Nf.nd) Cs)))) (Ao (Di (DG DK PySem.F.slot_list_extend PySem.F.type_list_extend N4 (pv 5) (Ab (Ba ar (Ab (pv 0) (Ab (pv 1) (Ab (pv 2) (Ab (pv 6) Ae))))) Ae)))
   (Av (Di (DG DK PySem.F.slot_list_extend PySem.F.type_list_extend N4 (pv 5) (Ab (Ba au (Ab (pv 0) (Ab (pv 7) Ae))) Ae))))))
  (Ao (Cw Cr rfl (C6 (pv 4)) (Ay (i:=9) Nf.nd) (Av (Di (DG DK PySem.F.slot_list_extend PySem.F.type_list_extend N4 (pv 5) (Ab (Ba av (Ab (pv 0) (Ab (pv 9) Ae))) Ae)))))
  (Av (AZ (BS (cP rfl) B.b_sorted (Ab (Iw (cO rfl) B.b_set (Ab (pv 5) Ae)) Ae))))))),?_⟩
 (try dsimp only[AG,Cx.nox,Cx.wish]);refine⟨by decide,λD hD=>?_⟩;obtain⟨a5,ay,s1,az⟩:=new_at (o:=.lst []) hD;rw[<-ay];have R:∀{c:Hp}{zs:List V},Ac H c->Ac H (upd c D (.lst zs)):=λs b o ab=>by rw[AC (AJ ab hD)];exact s _ _ ab
 refine⟨⟨_,Ag.of (s1 _ _ eL)⟩,EL (xs:=lv) (λi σ c=>∃G I J p,σ=[some (.ref k),some (.ref A),some (.ref t),some (.ref L),some (.ref T),some (.ref D),G,I,J,p]/\Ac H c/\c D=some (.lst (((ls.take i).flatMap (FG W)).map V.int)))
  ⟨none,none,none,none,rfl,s1,by rw[az,En];rfl⟩ (λi σ c _ X=>by obtain⟨_,_,_,_,_,s,_⟩:=X;exact Ag.of (s _ _ eL)) ?_ ?_⟩
 refine λi x σ H2 M Y=>AM λNz e=>?_;obtain⟨G,I,J,p,rfl,q,u⟩:=Y;refine e ?_;clear e;obtain⟨l,Z,a0⟩:=M8 (U.same q) M;have af:=aw l (Bd Z);refine AM λNz e=>?_;obtain⟨ao,x1,x2,x3,rfl,er,h1,h2,_⟩:=Qa a0;refine e ?_;clear e;have z:=Ox (f:=FG W) Z;have aa:=Oy (f:=FG W) (l:=ls) (i+1);rw[z,AW] at aa;have hq:(FG W l).length=(l.1.flatMap (Bq W)).length+(l.2.1.flatMap (E5 W.ss)).length:=by unfold FG;rw[AW]
 refine⟨_,Aq.of er,rfl,?_⟩;refine⟨Or.inl ⟨rfl,_,Ag.of u⟩,k,A,t,W,x1,F,l.1,rfl,Q.same q,ok,h1,af.bo,by omega,λv r N d j=>?_⟩;refine⟨D,v,_,_,rfl,rfl,d _ _ u,j,by rw[Al,Al];exact Dh (Mc (by omega)),?_⟩;have g:=R (zs:=((ls.take i).flatMap (FG W)).map V.int++(l.1.flatMap (Bq W)).map V.int) (q.trans d);have C:(upd r D (.lst (((ls.take i).flatMap (FG W)).map V.int++(l.1.flatMap (Bq W)).map V.int))) D=some (.lst (((ls.take i).flatMap (FG W)).map V.int++(l.1.flatMap (Bq W)).map V.int)):=Aa
 have ag:A9 F (upd r D (.lst (((ls.take i).flatMap (FG W)).map V.int++(l.1.flatMap (Bq W)).map V.int))) x2 (.lst (l.2.1.map CC.D)):=by
  obtain⟨r',y1,y2,y3,e',ah,_,a1,_⟩:=Qa ((M8 (U.same g) M).elim λl' h=>by
   have:l'=l:=Bo (h.1.symm.trans Z)
   rw[this] at h;exact h.2)
  have:ao=r':=V.ref.inj e';subst this;have a2:=(Keeps.one (H:=r) (o:=.lst (((ls.take i).flatMap (FG W)).map V.int++(l.1.flatMap (Bq W)).map V.int)) (d _ _ u)).tup (d _ _ er);rw[a2] at ah;have e2:=HO.tup.inj (Bo ah);cases e2;exact a1
 generalize upd r D (.lst (((ls.take i).flatMap (FG W)).map V.int++(l.1.flatMap (Bq W)).map V.int))=H4 at g C ag ⊢;refine⟨Or.inl ⟨rfl,_,Ag.of C⟩,k,A,t,W,x2,F,l.2.1,rfl,Q.same g,ag,af.en,by omega,λD3 H5 a8 s5 a3=>?_⟩;refine⟨D,D3,_,_,rfl,rfl,s5 _ _ C,a3,by rw[AW,Al,Al,Al];exact Dh (Mc (by omega)),?_⟩;refine⟨_,_,_,_,rfl,R (g.trans s5),?_⟩;rw[Aa,z];unfold FG;rw[Bn,Bn,FX];refine λσ H2 Y=>AM λNz e=>?_;obtain⟨G,I,J,p,rfl,q,u⟩:=Y;refine e ?_;clear e;rw[U.length,Al,D8] at u
 refine⟨⟨_,Ag.of (q _ _ eT)⟩,EL (xs:=m.map V.int) (λi σ c=>∃p,σ=[some (.ref k),some (.ref A),some (.ref t),some (.ref L),some (.ref T),some (.ref D),G,I,J,p]/\Ac H c/\c D=some (.lst ((ls.flatMap (FG W)++(m.take i).flatMap (E4 W.gs)).map V.int)))
  ⟨_,rfl,q,by rw[u,En];simp⟩ (λi σ c _ X=>by obtain⟨_,_,s,_⟩:=X;exact Ag.of (s _ _ eT)) ?_ ?_⟩
 rintro i x σ r M ⟨p,rfl,d,j⟩;obtain⟨n,ai,rfl⟩:=getm M;have z:=Ox (f:=E4 W.gs) ai;have aa:=Oy (f:=E4 W.gs) (l:=m) (i+1);rw[z,AW] at aa;have aj:=O;unfold CH at aj;rw[AW] at aj;refine⟨Or.inl ⟨rfl,_,Ag.of j⟩,k,A,t,W,n,rfl,Q.same d,ax n (Bd ai),λv H4 N g C=>?_⟩;refine⟨D,v,_,_,rfl,rfl,g _ _ j,C,by rw[Al,Al,AW];exact Dh (Mc (by omega)),?_⟩;refine⟨_,rfl,R (d.trans g),?_⟩;rw[Aa,z]
 simp
 rintro σ r ⟨a9,rfl,d,j⟩;rw[Al,D8] at j;refine⟨D,CH W ls m,rfl,Ag.of j,O,λaq hz=>?_⟩;refine⟨aq,CH W ls m,rfl,Aa,λds hd hs=>?_,λv ms a4 E N=>?_⟩;have:=Td hd λy S=>ae y (hs y S);omega;exact an v ms _ (d.free ((Bc hz).free N)) ((d.trans (Bc hz)).trans (Bc N)) Aa E (Td (a4.imp λ{a b}h=>by omega) λy S=>ae y ((E y).mp S))
inductive Co (K:Ah) (vs:List V) (H:Hp) (Q:VK):Prop where
 |mk (nt A t P U:Addr) (F:Addr->Prop) (W:Wd) (qs:List Qu) (inn:Int) (ord:List (Str×Str)) (as:List AI) (due:List Int) (kvs:List (AO×V)) (H0:Hp) (h0:vs=[.ref nt,.ref A,.ref t,.ref P,.ref U]) (h1:Ac H0 H) (h2:H0 U=none) (h3:LN K F H0 nt t W qs inn ord) (h4:HV W qs inn ord) (h5:G1 W qs as) (h6:Eg H A as) (h7:H U=some (.dK kvs)) (h8:IG kvs qs.length) (h9:H P=some (.lst (due.map V.int))) (h10:(∀k∈due,0<=k/\k<qs.length)) (h11:due.length<=40) (h12:∀(R:Addr)(rv:List V)(fs:List (Int×(Str×Int)))(kvs':List (AO×V))(H':Hp),H R=none->(∀x o,H x=some o->x≠U->H' x=some o)->H' U=some (.dK kvs')->H' R=some (.lst rv)->Ax KJ H' rv (fs.map fD)->fs.length<=40->FT W qs inn ord as H H' kvs kvs' due fs->Q (.ref R) H'):Co K vs H Q
def iH (K:Ah):Sp:=λvs H Q _=>Co K vs H Q
variable (P w K mg base) in
abbrev Uj:Prop:=BF P w K mg base "found_in_turn" 8 ["net", "answers", "table", "due", "uses"] (iH K)
theorem iI(B:BG mg)(aG:OS P w K mg base)(aH:Ui P w K mg base)(F:Bp K "found_in_turn" "found_in_turn" Rn f fd)(hm:mg "found_in_turn" = some (.ref f)):Uj P w K mg base:=by
 refine B1 F hm Mo (λL H a8 a9 h=>?_) (λbc A bj s H L a8 a9 hr h=>?_);obtain⟨nt,A,t,P,U,F,W,M,ai,aj,j,E,ak,H0,rfl,_⟩:=h;rfl
 . obtain⟨nt,A,t,P,U,F,W,M,ai,aj,j,E,ak,H0,rfl,s0,aI,hN,ab,hA,an,eU,hK,N,aY,bi,aA⟩:=h
   obtain⟨aZ,ba,R0,bd,Gs,Es,be,O,eN,N3⟩:=hN.net;have ok:=ab.all j hA;have aJ:A≠U:=λz=>by obtain⟨_,e,_⟩:=an;rw[z,eU] at e;cases e
   have aK:P≠U:=λz=>by rw[z,eU] at N;cases N
   refine⟨_,(Ao (AS (i:=5) Mo.nd (CA Ae))
    (Ao (Cw Cr rfl (C6 (pv 3)) (Ay (i:=6) Mo.nd) (Ao (DL (Ba aG (Ab (pv 0) (Ab (pv 1) (Ab (pv 2) (Ab (AE AF (AE AF (pv 0) Ai) (pv 6)) Ae))))) (Ct (n:=4) rfl (AK (Ay (i:=7) Mo.nd) (AK (Ay (i:=8) Mo.nd) (AK (Ay (i:=9) Mo.nd) (AK (Ay (i:=10) Mo.nd) Cs))))))
     (Av (Bk (FC (Gb (pv 7))) (Av (DL (Ba aH (Ab (pv 0) (Ab (pv 1) (Ab (pv 2) (Ab (pv 9) (Ab (pv 10) Ae)))))) (MQ (pv 4) (pv 6) (Yn (Lx hr))))) (Av (Di (DG DK EF EG EI (pv 5) (Ab (Bw (Ab (pv 6) (Ab (pv 7) Ae))) Ae))))))))
    (Av (AZ (pv 5))))),?_⟩
   (try dsimp only[AG,Cx.nox,Cx.wish]);refine⟨by decide,λR u=>?_⟩;obtain⟨ah,aL,p,ae⟩:=new_at (o:=.lst []) u;rw[<-aL];have ax:=p _ _ eU;have ay:R≠U:=λz=>by rw[z,ax] at ae;cases ae
   have aM:H0 R=none:=s0.free u
   refine⟨⟨_,Ag.of (p _ _ N)⟩,EL (xs:=E.map V.int) (λi σ v=>∃u6 u7 u8 u9 al d fs r,σ=[some (.ref nt),some (.ref A),some (.ref t),some (.ref P),some (.ref U),some (.ref R),u6,u7,u8,u9,al]/\(∀x o,ah x=some o->x≠U->x≠R->v x=some o)/\v U=some (.dK r)/\v R=some (.lst d)/\Ax KJ v d (fs.map fD)/\fs.length<=i/\FT W M ai aj j ah v ak r (E.take i) fs)
    ⟨none,none,none,none,none,[],[],ak,rfl,λx o e _ _=>e,ax,ae,.nil,AB _,⟨λf hf=>by simp at hf,λk Q=>by simp at Q,λk _=>rfl,hK⟩⟩ (λi σ v _ aN=>by obtain⟨_,_,_,_,_,_,_,_,_,b,_⟩:=aN;exact Ag.of (b _ _ (p _ _ N) aK (AJ N u))) ?_ ?_⟩
   rotate_left;refine λσ C ao=>AM λNz X=>?_;obtain⟨u6,u7,u8,u9,al,d,fs,r,rfl,q,G,I,Y,az,g⟩:=ao;refine X ?_;clear X;rw[Al,D8] at g;refine aA R d fs r C u (λx o e n=>q _ _ (p _ _ e) n (AJ e u)) G I Y (by rw[Al] at az;omega) ⟨g.fd,λk Q=>?_,g.kp,g.ko⟩;rcases g.al k Q with h|⟨l,us,a,b⟩;exact .inl h;exact .inr ⟨l,us,p.free a,b⟩;refine λi x σ C hx ao=>AM λNz X=>?_;obtain⟨u6,u7,u8,u9,al,d,fs,r,rfl,q,G,I,Y,az,g⟩:=ao;refine X ?_;clear X;refine F5 ?_;intro Nx Cy;obtain⟨n,aq,rfl⟩:=getm hx;have bf:i<E.length:=(A7.mp aq).1;have hn:=aY n (Bd aq);obtain⟨k,Q⟩:=Df hn.1;subst Q;have a0:k<M.length:=(by omega);have aO:k<O.length:=by rw[N3.tq.len];exact a0
   have a1:=AD aO;have af:=AD a0;obtain⟨aB,eq,eu⟩:=N3.tq.at_ k _ _ a1 af;have aP:Bz (O.map V.ref) (k:Int)=some (.ref O[k]):=Cf (by rw[Bh,a1];rfl);have aQ:=ok.q _ (Bd af);obtain⟨au,aw,aE,g4⟩:=aQ;generalize M[k]=qk at *
   have a2:E.take (i+1)=E.take i++[(k:Int)]:=by rw[DJ,aq];rfl
   have Z:Ac H0 C:=λy o e=>q _ _ (p _ _ (s0 _ _ e)) (λz=>by rw[z,aI] at e;cases e) (λz=>by rw[z,aM] at e;cases e)
   have aR:Eg C A j:=by
    refine an.go (λa L e=>q _ _ (p _ _ e) (λz=>by rw[z,eU] at e;cases e) (AJ e u)) λL e=>q _ _ (p _ _ e) aJ (AJ e u)
   have ar:=(hN.same Z).lc (K:=K) aR.ans;refine Or.inr (Or.inl ⟨_,.ref R0,Aq.of (Z _ _ eN),rfl,Or.inl ⟨_,.ref O[k],Ag.of (Z _ _ N3.er),aP,nt,A,t,O[k],aB,F,W.late j,ai,aj,qk,rfl,ar.caseH,ar.tab,ok.ok,ok.sm,ok.ol,ok.irr,ok.inn,Z _ _ eq,Z _ _ eu,au,aw,aE,g4,λbb aC T2 av wv lv a w ls ts H3 S er hL eL eT ha hw aS ag=>?_⟩⟩);refine⟨_,Aq.of er,rfl,?_⟩;have aa:=dD ok.ok ok.sm ok.inn ag au aw;have bg:=LY ag
   cases a with
   |none =>
     obtain rfl:=ha.ansN;refine⟨rfl,Am (λ_=>?_) (λh=>absurd (A4 rfl) h)⟩;have aT:=ar.same S;refine⟨nt,A,t,aC,T2,_,W.late j,lv,ls,ts,rfl,aT.caseH,ok.ok,eL,aS,aa.1,eT,aa.2.1,dE (W:=W.late j) ab.s3 aa.1 (by omega) (by omega),λy T=>?_,λD us H4 hD s4 eD a3 bh=>?_⟩;have h1:=WU ok.ok ok.sm aa.1 T;have h2:(W.late j).as.length=M.length:=hA.len;have:=ab.lq;omega;have c:=S.trans s4;have a4:=c _ _ G;refine⟨U,_,rfl,Hj.k (k:=.inl (k:Int)) a4 (Mc (by have:=g.ko.len;have:=ab.lq;omega)),?_⟩;have J:C D=none:=S.free hD;have a5:D≠U:=λz=>by rw[z,G] at J;cases J
     have tk:Tk C (upd H4 U (.dK (AX r (.inl (k:Int)) (.ref D)))):=c.tk.trans (JW a4);refine⟨_,_,_,_,_,d,fs,AX r (.inl (k:Int)) (.ref D),rfl,λy o e n1 n2=>?_,Aa,?_,Y.tk tk,by omega,?_⟩;rw[AC n1];exact c _ _ (q _ _ e n1 n2);rw[AC ay];exact c _ _ I;rw[a2];refine g.wait (λl L hl e=>?_) af ag (l:=D) (us:=us) ?_ ?_ (by omega) (λy T=>(WU ok.ok ok.sm aa.1 ((a3 y).mp T)).1) λy T=>(a3 y).mpr T;rw[AC λz=>by rw[z,G] at e;cases e];exact c _ _ e;refine Classical.byContradiction λz=>?_
     cases e:ah D with
     |none=>exact z e
     |some o =>
       by_cases a6:D=R;rw[a6,I] at J;cases J;rw[q _ _ e a5 a6] at J;cases J
     rw[AC a5];exact eD
   |some aD =>
     obtain⟨pa,rfl,aU⟩:=ha.ansS;refine⟨rfl,Am (λh=>absurd (Bg h) (by simp)) (λ_=>?_)⟩;have aV:=S _ _ I;refine⟨Or.inl ⟨rfl,_,Ag.of aV⟩,Cj,λm hm=>?_⟩;obtain⟨H4,aW,s4,aF⟩:=new_at (o:=.tup [.int k,.ref pa]) hm;rw[<-aW];have c:=S.trans s4;have a7:=c _ _ I;have aX:d.length<=1000:=by have:=Y.length;rw[Al] at this;omega
     refine⟨_,a7,BE aX,?_⟩;have tk:Tk H4 (upd H4 R (.lst (d++[.ref m]))):=Oz a7;refine⟨_,_,_,_,_,d++[.ref m],fs++[((k:Int),aD)],r,rfl,λy o e n1 n2=>?_,?_,Aa,?_,by rw[AW,DE];omega,?_⟩;rw[AC n2];exact c _ _ (q _ _ e n1 n2);rw[AC (Ne.symm ay)];exact c _ _ G;rw[Bn];exact(Y.tk (c.tk.trans tk)).snoc (.tup (tk _ _ aF) (.cons (.int _) (.cons (.tup (tk _ _ (s4 _ _ aU)) (.cons (.str _) (.cons (.int _) .nil))) .nil)));rw[a2];refine g.hit (λl L hl e=>?_) af ⟨w,ls,ts,ag⟩;rw[AC λz=>by rw[z,ae] at hl;cases hl];exact c _ _ e
inductive EB (K:Ah) (vs:List V) (H:Hp) (Q:VK):Prop where
 |mk (l N:Addr) (us:List Int) (kvs:List (AO×V)) (h0:vs=[.ref l,.ref N]) (h1:H l=some (.lst (us.map V.int))) (h2:us.length<=1000) (h3:H N=some (.dK kvs)) (h4:∀H',Ac H H'->Q (.bl (us.any λu=>(AL kvs (.inl u)).isSome)) H'):EB K vs H Q
def Xo (K:Ah):Sp:=λvs H Q _=>EB K vs H Q
variable (P w K mg base) in
abbrev Uk:Prop:=BF P w K mg base "uses_one" 1 ["questions", "new"] (Xo K)
theorem iJ(B:BG mg)(F:Bp K "uses_one" "uses_one" O6 f fd)(e:mg "uses_one" = some (.ref f)):Uk P w K mg base:=by
 refine B1 F e dQ (λg H Q E h=>?_) (λC A D s H g Q E m h=>?_);obtain⟨l,N,us,b,rfl,_⟩:=h;rfl;obtain⟨l,N,us,b,rfl,c,n,o,q⟩:=h;refine⟨_,(Av (AZ (BS (VN rfl) B.b_any (Ab (Ho rfl Dp (C6 (pv 0)) (λ_ _ _ _ _=>(Ay (i:=0) Dp.nd)) (λ_ _ _ _ _=>IA) (λ_ _ _ _ _=>(Kq (U8 (Lx m)) (pv 0) (pv 1) (by with_unfolding_all rfl)))) Ae)))),?_⟩;(try dsimp only[AG,Cx.nox,Cx.wish])
 refine⟨⟨_,Ag.of c⟩,R7 (xs:=us.map V.int) (λv=>match v with|.int u=>V.bl (AL b (.inl u)).isSome|_=>V.bl false) (by rw[Al];exact Dh (BE n)) (Ag.of c) (λj y p d R2 r a z t=>?_) (λp d a z x=>?_)⟩
 obtain⟨u,_,rfl⟩:=getm r;refine⟨N,_,rfl,Dj.k (k:=.inl u) (a _ _ o),?_⟩;have:=t _ (Ac.refl _);simpa using this;refine⟨d,us.map λu=>(AL b (.inl u)).isSome,rfl,Ag.of (by rw[x,DF,DF];rfl),?_⟩;have:=q _ a;rw[List.any_map];exact this
inductive Cc (K:Ah) (vs:List V) (H:Hp) (Q:VK):Prop where
 |mk (nt A t P:Addr) (F:Addr->Prop) (W:Wd) (qs:List Qu) (inn:Int) (ord:List (Str×Str)) (ks:List Int) (h0:vs=[.ref nt,.ref A,.ref t,.ref P]) (h1:LC K F H nt A t W qs inn ord) (h2:P0 W qs inn ord) (h3:H P=some (.lst (ks.map V.int))) (h4:(∀k∈ks,0<=k/\k<qs.length)) (h5:∀H',Ac H H'->(∀k∈ks,∃(q:Qu)(b:AI)(w:Option Wt)(ls:List Lk)(ts:List Int),qs[k.toNat]?=some q/\LU W inn ord q.1 q.2.1 q.2.2 0 b w ls ts)->Q .non H'):Cc K vs H Q
def iK (K:Ah):Sp:=λvs H Q _=>Cc K vs H Q
variable (P w K mg base) in
abbrev Ul:Prop:=BF P w K mg base "refuse_tangled" 8 ["net", "answers", "table", "answered"] (iK K)
theorem iL(B:BG mg)(af:OS P w K mg base)(F:Bp K "refuse_tangled" "refuse_tangled" Ro f fd)(S:mg "refuse_tangled" = some (.ref f)):Ul P w K mg base:=by
 refine B1 F S W1 (λU H Q E h=>?_) (λaq A ar s H U Q E hr h=>?_);obtain⟨p,A,t,P,F,W,g,z,C,r,rfl,_⟩:=h;rfl
 . obtain⟨p,A,t,P,F,W,g,z,C,r,rfl,G,ok,I,ag,q⟩:=h
   obtain⟨al,T,R,us,Gs,Es,l,e,X,v⟩:=G.net;refine⟨_,(Av (Cw Cr rfl (C6 (pv 3)) (Ay (i:=4) W1.nd) (Av (Di (Ba af (Ab (pv 0) (Ab (pv 1) (Ab (pv 2) (Ab (AE AF (AE AF (pv 0) Ai) (pv 4)) Ae))))))))),?_⟩;try dsimp only[AG,Cx.nox,Cx.wish]
   refine⟨⟨_,Ag.of I⟩,EL (xs:=r.map V.int) (λi σ J=>∃y,σ=[some (.ref p),some (.ref A),some (.ref t),some (.ref P),y]/\Ac H J/\(∀k∈r.take i,∃(q:Qu)(b:AI)(w:Option Wt)(ls:List Lk)(l:List Int),g[k.toNat]?=some q/\LU W z C q.1 q.2.1 q.2.2 0 b w ls l))
    ⟨none,rfl,Ac.refl _,λk m=>by simp at m⟩ (λi σ J _ ah=>by obtain⟨_,_,s,_⟩:=ah;exact Ag.of (s _ _ I)) ?_ ?_⟩
   rotate_left;rintro σ Y ⟨y,rfl,c,o⟩;rw[Al,D8] at o;exact q _ c o;rintro i x σ Y Z ⟨y,rfl,c,o⟩;obtain⟨n,L,rfl⟩:=getm Z;have hn:=ag n (Bd L);obtain⟨k,m⟩:=Df hn.1;have M:k<g.length:=(by omega);have ai:k<e.length:=by rw[v.tq.len];exact M
   have N:=AD ai;have D:=AD M;obtain⟨u,eq,eu⟩:=v.tq.at_ k _ _ N D;have aj:Bz (e.map V.ref) n=some (.ref e[k]):=by rw[m];exact Cf (by rw[Bh,N];rfl)
   obtain⟨aa,ab,ae,g4⟩:=ok.q _ (Bd D);have O:=G.same c;refine Or.inr (Or.inl ⟨_,.ref R,Aq.of (c _ _ X),rfl,Or.inl ⟨_,.ref e[k],Ag.of (c _ _ v.er),aj,p,A,t,e[k],u,F,W,z,C,g[k],rfl,O.caseH,O.tab,ok.ok,ok.sm,ok.ol,ok.irr,ok.inn,c _ _ eq,c _ _ eu,aa,ab,ae,g4,λan ao T av wv lv a w ls l H3 s3 _ _ _ _ _ _ _ ak=>?_⟩⟩);refine⟨_,rfl,c.trans s3,λj d=>?_⟩;rw[DJ,L] at d;rcases BB.mp d with d|d;exact o j d;have:j=n:=(by simpa using d);subst this;exact⟨_,a,w,ls,l,by rw[m,Be];exact D,ak⟩
theorem OU(m:Nat):((List.range m).map λj:Nat=>V.int j)=((List.range m).map λj:Nat=>(j:Int)).map V.int:=by rw[DF];rfl
theorem FL(h:i<m):((List.range m).map λj:Nat=>V.int j)[i]?=some (.int i):=by rw[Bh,List.getElem?_range h];rfl
theorem ME{F:Addr->Prop}{e:Dt}(h:A9 F H v (.tup [d,e])):∃m x y,v=.ref m/\H m=some (.tup [x,y])/\A9 F H x d/\A9 F H y e:=by
 cases h with
 | tup h t =>
   cases t with
   |cons a t =>
     cases t with
     |cons b t =>
       cases t with
       |nil=>exact⟨_,_,_,rfl,h,a,b⟩
inductive Fb (K:Ah) (vs:List V) (H:Hp) (Q:VK):Prop where
 |mk (nt t Kn Th:Addr) (F:Addr->Prop) (W:Wd) (qs:List Qu) (inn:Int) (ord:List (Str×Str)) (h0:vs=[.ref nt,.ref t,.ref Kn,.ref Th]) (h1:LN K F H nt t W qs inn ord) (h2:HV W qs inn ord) (h3:H Kn=some (.lst (List.replicate qs.length .non))) (h4:H Th=some (.lst ((List.range qs.length).map λj:Nat=>V.int j))) (h5:∀(r A Tn:Addr)(n:Nat)(as:List AI)(ts:List Int)(H':Hp),Ac H H'->H A=none->H Tn=none->A≠Tn->H' r=some (.tup [.ref A,.ref Tn])->Eg H' A as->H' Tn=some (.lst (ts.map V.int))->Run W qs inn ord n as ts->HQ W qs inn ord as as->(∀(k:Nat)(q:Qu),qs[k]?=some q->∃a,Fd W inn ord q as a)->Q (.ref r) H'):Fb K vs H Q
def iM (K:Ah):Sp:=λvs H Q _=>Fb K vs H Q
variable (P w K mg base) in
abbrev Um:Prop:=BF P w K mg base "settled" 9 ["net", "table", "known", "those"] (iM K)
theorem iN(B:BG mg)(bm:Uj P w K mg base)(bn:Uk P w K mg base)(bo:Ul P w K mg base)(F:Bp K "settled" "settled" MN f fd)(hm:mg "settled" = some (.ref f)):Um P w K mg base:=by
 refine B1 F hm G3 (λq H bg bh h=>?_) (λbN A bR s H q bg bh hr h=>?_);obtain⟨nt,t,Kn,Th,F,W,qs,inn,ord,rfl,_⟩:=h;rfl;obtain⟨nt,t,Kn,Th,F,W,qs,inn,ord,rfl,hN,aa,a7,ab,bi⟩:=h
 have lq:=aa.lq;generalize hm:qs.length=m at *
 refine⟨_,(Ao (AS (i:=4) G3.nd (Ho (g:=NC K 2 (G9 (Ko 0) (G9 (Ko 1) NB))) (te:=Ut (tB (Iv (UM K false) (CT 0) (CT 2))) (tC .non) (CT 1)) rfl CI (Pw rfl B.b_enumerate (Ab (pv 2) Ae)) (λ_ _ _ _ _=>(Ct (n:=2) rfl (AK (Ay (i:=0) CI.nd) (AK (Ay (i:=1) CI.nd) Cs)))) (λ_ _ _ _ _=>IA) (λ_ _ _ _ _=>(Xz (BI XW (pv 0) (pv 2) (by with_unfolding_all rfl)) GG (pv 1)))))
  (Ao (AS (i:=5) G3.nd (AA WR (CA (Ab Ai Ae)) (BS Ec B.b_len (Ab (pv 4) Ae))))
  (Ao (AS (i:=6) G3.nd X4)
  (Ao (AS (i:=7) G3.nd (pv 3))
  (Ao (AS (i:=8) G3.nd Ai)
  (Ao (Uu Cr (Jj (pv 7)) (Ao (Vl (i:=8) G3.nd rfl (Or.inl rfl) Ai Ux)
   (Ao (AS (i:=9) G3.nd (Ba bm (Ab (pv 0) (Ab (pv 4) (Ab (pv 1) (Ab (pv 7) (Ab (pv 6) Ae)))))))
   (Ao (Cw Cr rfl (C6 (pv 9)) (Ct (n:=2) rfl (AK (Ay (i:=10) G3.nd) (AK (Ay (i:=11) G3.nd) Cs))) (Ao (DL (pv 11) (MQ (pv 4) (pv 10) NR))
    (Av (DL (pv 8) (MQ (pv 5) (pv 10) NR)))))
   (Ao (AS (i:=12) G3.nd (Iw (cX rfl) B.b_dict (Ab (pv 9) Ae)))
   (Av (R6 (i:=7) G3.nd rfl (Or.inl rfl) (tc:=Nq (tB (No (Iv (NP K) (CT 2) (CT 0)))) (tB (He (Xo K) [] E0 (Pd (Kt (CT 3) (CT 0)) (Pd (CT 1) Li))))) rfl DX (C6 (pv 3)) (λ_ _ _ _ _=>(Ay (i:=0) DX.nd)) (λ_ _ _ _ _=>(Po (PW.pt (GI (FC (Gb (AE AF (pv 2) (pv 0)))) (GH (GV (Ba bn (Ab (UW (Lx hr) (pv 3) (pv 0) (λ_ _=>rfl)) (Ab (pv 1) Ae))))))))) (λ_ _ _ _ _=>(pv 0)))))))))
  (Ao (Di (Ba bo (Ab (pv 0) (Ab (pv 4) (Ab (pv 1) (Ab (Ho (tc:=tB (Km (Iv (NP K) (CT 1) (CT 0)))) rfl DY (C6 (pv 3)) (λ_ _ _ _ _=>(Ay (i:=0) DY.nd)) (λ_ _ _ _ _=>(Po (FC (Np (AE AF (pv 1) (pv 0)))))) (λ_ _ _ _ _=>(pv 0))) Ae))))))
  (Av (AZ (Bw (Ab (pv 4) (Ab (pv 5) Ae)))))))))))),?_⟩
 (try dsimp only[AG,Cx.nox,Cx.wish]);refine⟨Kn,rfl,⟨_,a7⟩,dH (xs:=List.replicate m .non) (λD i C r=>Ac H r/\r D=some (.lst C)/\C=List.replicate i .non) (λD G=>⟨Bc G,Aa,rfl⟩) (λD i C H2 p=>Ag.of (p.1 _ _ a7)) (λD i x bL C H2 ah G u hT p k=>?_) (λA C bM aI p=>?_)⟩;obtain⟨s2,bp,rfl⟩:=p;rw[List.getElem?_replicate] at u;have hi:i<m:=Classical.byContradiction λz=>by rw[Ak z] at u;cases u
 have O:=Bc (o:=.tup [.int i,x]) hT;refine⟨_,Aq.of Aa,rfl,?_⟩;refine⟨Th,_,rfl,Or.inl (Ag.of ((s2.trans O) _ _ ab)),rfl,dL m,rfl,Am (λ_=>?_) (λh=>absurd (Mf hi) h)⟩;refine k _ _ (O _ _ bp) (by rw[List.length_replicate];exact BE (by omega)) ⟨λb o e=>?_,Aa,?_⟩;rw[AC (AJ e G)];exact O _ _ (s2 _ _ e);rw[List.replicate_succ'];obtain⟨s1,a8,rfl⟩:=p;rw[List.length_replicate] at a8;refine⟨Hr,λbj hZ=>?_⟩;obtain⟨H2,bq,s2,eZ⟩:=new_at (o:=.lst [.int 0]) hZ;rw[<-bq];have an:=s2 _ _ a8;refine⟨_,Or.inl ⟨_,Ag.of an,rfl⟩,bj,_,_,rfl,rfl,eZ,?_,?_,λy a9=>?_⟩;rw[List.length_replicate];omega;rw[List.length_replicate,Be];show 1*m<=1000;omega;have O:=Bc (o:=.lst (List.replicate (((List.replicate m V.non).length:Nat):Int).toNat [V.int 0]).flatten) a9
 have a4:(upd H2 y (.lst (List.replicate (((List.replicate m V.non).length:Nat):Int).toNat [V.int 0]).flatten)) y=some (.lst ((List.replicate m (0:Int)).map V.int)):=by
  rw[Aa,List.length_replicate,Be,WX,List.map_replicate]
 generalize upd H2 y (.lst (List.replicate (((List.replicate m V.non).length:Nat):Int).toNat [V.int 0]).flatten)=H3 at O a4 ⊢;intro U hU;obtain⟨H4,br,s4,bs⟩:=new_at (o:=.dK []) hU;rw[<-br];have aJ:=s4 _ _ (O _ _ an);have bb:=s4 _ _ a4;have aK:=((s1.trans s2).trans O).trans s4;have bc:H y=none:=s1.free (s2.free a9);have aL:H U=none:=s1.free (s2.free (O.free hU));have ax:A≠y:=AJ an a9;have aA:A≠U:=AJ (O _ _ an) hU;have aM:y≠U:=AJ a4 hU;have a6:=HW.start (W:=W) (qs:=qs) (inn:=inn) (ord:=ord) (X:=λl=>l=A\/l=y) (H:=H4);rw[hm] at a6
 have bt:Eg H4 A (List.replicate m none):=⟨_,aJ,by
  rw[List.map_replicate];clear aJ an a8 a6 hm bb a4 a7 ab hN lq
  induction m with
  |zero=>exact .nil
  |succ m ih=>exact .cons .non (ih)⟩
 refine⟨λmm σ r=>∃(n:Nat)(as:List AI)(Q:List Int)(Z:List Int)(P:Addr)(ay:List (AO×V))(u9 ai aj aB:Option V),σ=[some (.ref nt),some (.ref t),some (.ref Kn),some (.ref Th),some (.ref A),some (.ref y),some (.ref U),some (.ref P),some (.int n),u9,ai,aj,aB]/\Ac H r/\r P=some (.lst (Z.map V.int))/\Eg r A as/\r y=some (.lst (Q.map V.int))/\r U=some (.dK ay)/\HW W qs inn ord (λl=>l=A\/l=y) r ay n as Q Z/\Z.length<=40/\mm=nn as+(if Z=[] then 0 else 1),⟨_,0,_,_,_,Th,[],none,none,none,none,rfl,aK,by rw[<-OU];exact aK _ _ ab,bt,bb,bs,a6,by rw[Al,List.length_range];exact lq,rfl⟩,?_⟩;refine λmm σ H5 M=>AM λNz c=>?_;obtain⟨n,as,Q,Z,P,ay,u9,ai,aj,aB,rfl,s5,aC,ae,au,az,T5,bk,bu⟩:=M;refine c ?_;clear c;have hA:=(T5.run.aok aa.toSOk).1;have bd:as.length=m:=hA.len.trans hm;refine⟨P,_,rfl,Ag.of aC,?_⟩
 by_cases hd:Z=[];subst hd;refine Bs ?_;have nx:=T5.end_ aa.toSOk;refine⟨⟨_,Ag.of (s5 _ _ ab)⟩,Pu (xs:=(List.range m).map λj:Nat=>V.int j) (λD i C r=>∃d:List Int,C=d.map V.int/\Ac H5 r/\r D=some (.lst C)/\d.length<=i/\(∀k∈d,0<=k/\k<(m:Int))/\∀k:Nat,k<i->as[k]?≠some none->(k:Int)∈d) (λD G=>⟨[],rfl,Bc G,Aa,AB _,(λk I=>by cases I),λk I=>absurd I (Nat.not_lt_zero _)⟩) (λD i C r p=>?_) (λD i x C R ah R0 G u p k k0=>?_) (λD C R G p=>?_)⟩;obtain⟨d,_,s,_⟩:=p;exact Ag.of (s _ _ (s5 _ _ ab));refine AM λNz c=>?_;obtain⟨d,rfl,S,a0,lz,N,J⟩:=p;refine c ?_;clear c;have hi:i<m:=by have:=(A7.mp u).1;rw[Al,List.length_range] at this;exact this
 rw[FL hi] at u;cases u;have ak:Eg R A as:=ae.go S.tk λ_ e=>S _ _ e;obtain⟨q,v,e1,e2,hc⟩:=ak.get (k:=i) (by omega);refine Or.inl ⟨q,v,Ag.of e1,e2,rfl,Am (λ_=>?_) (λh=>?_)⟩;refine k _ _ a0 (by rw[Al];exact BE (by omega)) ⟨d++[(i:Int)],by rw[Bn];rfl,λb o e=>?_,Aa,by rw[AW,DE];omega,λa5 L=>?_,λj hj e=>?_⟩;rw[AC (AJ e G)];exact S _ _ e;rcases BB.mp L with L|L;exact N a5 L;rw[AY.mp L];omega;by_cases T:j=i;subst T;simp;exact D9 _ (J j (by omega) e);refine k0 _ ⟨d,rfl,S,a0,by omega,N,λj hj e=>?_⟩;by_cases T:j=i;subst T;rcases hc with⟨ho,_⟩|⟨p,tt,ho,hv,_⟩;exact absurd ho e;rw[hv] at h;exact absurd (by simp) h;exact J j (by omega) e;refine AM λNz c=>?_;obtain⟨d,rfl,S,a0,_,N,J⟩:=p;refine c ?_;clear c;rw[Al,List.length_range] at J;have ak:Eg R A as:=ae.go S.tk λ_ e=>S _ _ e;refine⟨nt,A,t,D,F,W.late as,qs,inn,ord,d,rfl,(hN.same (s5.trans S)).lc ak.ans,aa.all as hA,a0,λk I=>by rw[hm];exact N k I,λH7 s7 bv=>?_⟩;refine⟨Cj,λav bw=>?_⟩;have s8:=Bc (o:=.tup [.ref A,.ref y]) bw;have a1:=(S.trans s7).trans s8;refine bi av A y n as Q _ (s5.trans a1) aI bc ax Aa (ae.go a1.tk λ_ e=>a1 _ _ e) (a1 _ _ au) T5.run nx λk qk hq=>?_;by_cases e:as[k]?=some none;obtain⟨b,hb,_⟩:=nx.new k qk hq e;exact⟨b,hb⟩;obtain⟨q',b,w,ls,tt,h1,h2⟩:=bv k (J k (by rw[<-hm];exact(A7.mp hq).1) e);rw[Be,hq] at h1;obtain rfl:=Bo h1;exact⟨b,w,ls,tt,h2⟩;refine Am (λ_=>?_) (λh=>absurd (by cases Z with|nil=>exact absurd rfl hd|cons a av=>rfl) h);refine⟨_,λ_ _ h=>h,?_⟩;refine⟨_,rfl,?_⟩;(try dsimp only)
 have bH:∀k∈Z,0<=k/\k<qs.length:=λk I=>by
  obtain⟨j,rfl,h1,_⟩:=T5.du k I;omega
 refine⟨nt,A,t,P,U,F,W,qs,inn,ord,as,Z,ay,H,rfl,s5,aL,hN,aa,hA,ae,az,T5.ko,aC,bH,bk,λah rv fs be R hR b6 bx aD aE bO ft=>?_⟩;have ao:∃q,H5 A=some (.lst q):=by obtain⟨q,e,_⟩:=ae;exact⟨q,e⟩
 obtain⟨bQ,ao⟩:=ao;have aN:ah≠A:=λz=>by rw[z,ao] at hR;cases hR
 have aO:ah≠y:=λz=>by rw[z,au] at hR;cases hR
 have bz:Ac H R:=λx o e=>b6 _ _ (s5 _ _ e) (λz=>by rw[z,aL] at e;cases e);have ak:Eg R A as:=ae.go (λa q e=>b6 _ _ e (λz=>by rw[z,az] at e;cases e)) λq e=>b6 _ _ e aA;have aP:=b6 _ _ ao aA;have aH:=b6 _ _ au aM
 have af:=T5.aft aa.toSOk hd ft (λl hl u=>by
  rcases u with rfl|rfl;rw[ao] at hl;cases hl
  rw[au] at hl;cases hl) (λl q u e=>b6 _ _ e (λz=>by rw[z,az] at e;cases e))
 have opn:∀f∈fs,∃k:Nat,f.1=(k:Int)/\k<m/\as[k]?=some none:=λf hf=>by
  refine AM λNz c=>?_;obtain⟨k,_,e1,e2,_,_⟩:=ft.fd f hf;refine c ?_;clear c;obtain⟨j,e5,e6,e7⟩:=T5.du _ e2;have:k=j:=(by omega);subst this;exact⟨k,e1,by omega,e7⟩
 have b0:Q.length=m:=(T5.run.aok aa.toSOk).2.trans hm;clear ae au az aC
 refine⟨⟨_,Ag.of aD⟩,EL (xs:=rv) (λi σ r=>∃ai aj,σ=[some (.ref nt),some (.ref t),some (.ref Kn),some (.ref Th),some (.ref A),some (.ref y),some (.ref U),some (.ref P),some (.int ((n:Int)+1)),some (.ref ah),ai,aj,aB]/\(∀x o,R x=some o->x≠A->x≠y->r x=some o)/\Eg r A (BO as (fs.take i))/\r y=some (.lst ((Dd Q ((n:Int)+1) (fs.take i)).map V.int)))
  ⟨_,_,rfl,λ_ _ e _ _=>e,by rw[En];exact ak,by rw[En];exact aH⟩ (λi σ r _ b1=>by obtain⟨_,_,_,b,_⟩:=b1;exact Ag.of (b _ _ aD aN aO)) ?_ ?_⟩
 refine λi x σ H7 u M=>AM λNz c=>?_;obtain⟨ai,aj,rfl,Y,aq,al⟩:=M;refine c ?_;clear c;refine F5 ?_;intro Nx Cy;have a2:Tk R H7:=λa q e=>Y _ _ e (λz=>by rw[z,aP] at e;cases e) (λz=>by rw[z,aH] at e;cases e);obtain⟨f,aF,b2⟩:=M8 (aE.tk a2) u;refine AM λNz c=>?_;obtain⟨fm,x1,y1,rfl,bl,b3,b4⟩:=ME b2;refine c ?_;clear c;obtain rfl:=M7 b3;obtain⟨k,ek,I,_⟩:=opn f (Bd aF);have aQ:f.1.toNat=k:=(by rw[ek,Be]);obtain⟨q,aR,aS⟩:=aq;have b5:q.length=m:=by rw[aS.length,Al,Qd];exact bd
 have b7:((Dd Q ((n:Int)+1) (fs.take i)).map V.int).length=m:=by rw[Al,Tf];exact b0
 refine⟨_,Aq.of bl,rfl,?_⟩;refine⟨A,q,f.1,k,rfl,rfl,aR,?_,?_⟩;rw[ek,b5,N2 (by omega) (by omega),Be];refine⟨y,_,f.1,k,rfl,rfl,(AC (Ne.symm ax)).trans al,?_,?_⟩;rw[ek,b7,N2 (by omega) (by omega),Be];have b8:Tk H7 (upd (upd H7 A (.lst (q.set k y1))) y (.lst (((Dd Q ((n:Int)+1) (fs.take i)).map V.int).set k (.int ((n:Int)+1))))):=(Oz aR).trans (Oz ((AC (Ne.symm ax)).trans al));refine⟨_,_,rfl,λx o e n1 n2=>?_,⟨q.set k y1,?_,?_⟩,?_⟩;rw[AC n2,AC n1];exact Y _ _ e n1 n2;rw[AC ax,Aa];rw[dI aF,aQ,List.map_set];exact(aS.set b4 k).tk b8;rw[Aa,dJ aF,aQ,List.map_set];refine λσ H7 M=>AM λNz c=>?_;obtain⟨ai,aj,rfl,Y,aq,al⟩:=M;refine c ?_;clear c;have aT:rv.length=fs.length:=(by rw[aE.length,Al]);rw[aT,D8] at aq al;have a2:Tk R H7:=λa q e=>Y _ _ e (λz=>by rw[z,aP] at e;cases e) (λz=>by rw[z,aH] at e;cases e);have b9:Ac H H7:=λx o e=>Y _ _ (bz _ _ e) (λz=>by rw[z,aI] at e;cases e) (λz=>by rw[z,bc] at e;cases e);have aU:=Y _ _ bx (Ne.symm aA) (Ne.symm aM);have aV:=af.keep (H'':=H7) λl q u e=>Y _ _ e (λz=>u (.inl z)) (λz=>u (.inr z));obtain⟨ps,bA,bf⟩:=HY (aE.tk a2);refine⟨ah,rv,ps,rfl,Y _ _ aD aN aO,by rw[aT];exact BE (by omega),bA,λNw bB=>?_⟩;obtain⟨H8,bC,s8,bD⟩:=new_at (o:=.dK (Ku [] ps)) bB;rw[<-bC];have aG:=b9.trans s8;have aW:=aV.keep (H'':=H8) λl q _ e=>s8 _ _ e;have aX:Eg H8 A (BO as fs):=aq.go s8.tk λ_ e=>s8 _ _ e;have aY:=s8 _ _ aU;have bI:=s8 _ _ al;have lA:(BO as fs).length=m:=by rw[Qd];exact bd
 clear af aV aq ak a2 aU al Y
 refine⟨⟨_,Ag.of (aG _ _ ab)⟩,Pu (xs:=(List.range m).map λj:Nat=>V.int j) (λD i C r=>∃d:List Int,C=d.map V.int/\Ac H8 r/\r D=some (.lst C)/\d.length<=i/\(∀k∈d,∃j:Nat,k=(j:Int)/\j<qs.length/\(BO as fs)[j]?=some none)/\(fs=[]->d=[])/\∀k:Nat,k<i->(BO as fs)[k]?=some none->(k:Int)∈d\/∃(l:Addr)(us:List Int),AL be (.inl (k:Int))=some (.ref l)/\H8 l=some (.lst (us.map V.int))/\∀aw∈us,∀f∈fs,f.1≠aw)
  (λD G=>⟨[],rfl,Bc G,Aa,AB _,(λk I=>by cases I),λ_=>rfl,λk I=>absurd I (Nat.not_lt_zero _)⟩) (λD i C r p=>?_) (λD i x C H9 RR R0 G u p k k0=>?_) (λD C H9 G p=>?_)⟩
 obtain⟨d,_,s,_⟩:=p;exact Ag.of (s _ _ (aG _ _ ab));refine AM λNz c=>?_;obtain⟨d,rfl,E,ar,lz,N,M,J⟩:=p;refine c ?_;clear c;have hi:i<m:=by have:=(A7.mp u).1;rw[Al,List.length_range] at this;exact this
 rw[FL hi] at u;cases u;have bE:Eg H9 A (BO as fs):=aX.go E.tk λ_ e=>E _ _ e;obtain⟨q,v,e1,e2,hc⟩:=bE.get (k:=i) (by omega);refine Or.inl ⟨q,v,Ag.of e1,e2,rfl,?_⟩;rcases hc with⟨ho,rfl⟩|⟨p,tt,ho,rfl,_⟩;refine Am (λ_=>?_) (λh=>absurd (A4 rfl) h);obtain⟨B,l,us,u,hB,hu,ag⟩:=aW.us i (by omega) ho;refine⟨U,.ref l,rfl,by rw[<-hu.1];exact Dj.k (k:=.inl (i:Int)) (E _ _ aY),l,Nw,us,Ku [] ps,rfl,E _ _ hu.2.1,hu.2.2.1,E _ _ bD,λbP a3=>⟨rfl,Am (λhb=>?_) (λhb=>?_)⟩⟩;obtain⟨aw,_,aZ⟩:=Go.mp hb;rw[WW bf] at aZ;obtain⟨f,hf,_⟩:=Go.mp aZ;have bJ:=E.trans a3;refine k _ _ (a3 _ _ ar) (by rw[Al];exact BE (by omega)) ⟨d++[(i:Int)],by rw[Bn];rfl,λb o e=>?_,Aa,by rw[AW,DE];omega,λa5 L=>?_,λe=>(by rw[e] at hf;cases hf),λj hj e=>?_⟩;rw[AC (AJ e G)];exact bJ _ _ e;rcases BB.mp L with L|L;exact N a5 L;exact⟨i,AY.mp L,by omega,ho⟩;by_cases T:j=i;subst T;exact .inl (by simp);rcases J j (by omega) e with h|h;exact .inl (D9 _ h);exact .inr h;refine k0 _ ⟨d,rfl,E.trans a3,a3 _ _ ar,by omega,N,M,λj hj e=>?_⟩;by_cases T:j=i;subst T;refine .inr ⟨l,us,hu.1,hu.2.1,λaw bF f hf z=>hb (Go.mpr ⟨aw,bF,?_⟩)⟩;rw[WW bf];exact Go.mpr ⟨f,hf,A4 z⟩;exact J j (by omega) e;refine Am (λh=>absurd (Bg h) (by simp)) (λ_=>Bs (k0 _ ⟨d,rfl,E,ar,by omega,N,M,λj hj e=>?_⟩));by_cases T:j=i;subst T;rw[ho] at e;cases e;exact J j (by omega) e;refine AM λNz c=>?_;obtain⟨d,rfl,E,ar,lz,N,M,J⟩:=p;refine c ?_;clear c;rw[Al,List.length_range] at lz J;have bK:((n+1:Nat):Int)=(n:Int)+1:=by push_cast;rfl
 have bG:=aW.keep (H'':=H9) λl q _ e=>E _ _ e;refine⟨nn (BO as fs)+(if d=[] then 0 else 1),?_,n+1,BO as fs,Dd Q ((n:Int)+1) fs,d,D,be,_,_,_,_,by rw[bK];rfl,aG.trans E,ar,aX.go E.tk λ_ e=>E _ _ e,E _ _ bI,E _ _ aY,bG.trn N M λk I e=>?_,by omega,rfl⟩
 rw[bu,Ak hd]
 cases ba:fs with
 |nil =>
   rw[Aj (M ba)];exact Nat.lt_succ_of_le (Tl [] as)
 |cons f av =>
   obtain⟨k,e1,e2,e3⟩:=opn f (by rw[ba];exact Bv);have:=OA (f:=f) (fs:=av) (as:=as) (by rw[e1,Be];exact e3);by_cases z0:d=[];rw[Aj z0];omega;rw[Ak z0];omega
 rcases J k (by omega) e with h|⟨l,us,h1,h2,h3⟩;exact .inl h;exact .inr ⟨l,us,h1,E _ _ h2,h3⟩
inductive GD (K:Ah) (vs:List V) (H:Hp) (Q:VK):Prop where
 |mk (nt t:Addr) (F:Addr->Prop) (W:Wd) (qs:List Qu) (inn:Int) (ord:List (Str×Str)) (h0:vs=[.ref nt,.ref t]) (h1:LN K F H nt t W qs inn ord) (h2:HV W qs inn ord) (h3:∀(r A Tn:Addr)(n:Nat)(as:List AI)(ts:List Int)(H':Hp),Ac H H'->H A=none->H Tn=none->A≠Tn->H' r=some (.tup [.ref A,.ref Tn])->Eg H' A as->H' Tn=some (.lst (ts.map V.int))->Run W qs inn ord n as ts->HQ W qs inn ord as as->(∀(k:Nat)(q:Qu),qs[k]?=some q->∃a,Fd W inn ord q as a)->Q (.ref r) H'):GD K vs H Q
def iO (K:Ah):Sp:=λvs H Q _=>GD K vs H Q
variable (P w K mg base) in
abbrev QH:Prop:=BF P w K mg base "still" 10 ["net", "table"] (iO K)
theorem iP(B:BG mg)(aa:Um P w K mg base)(F:Bp K "still" "still" Rp f fd)(v:mg "still" = some (.ref f)):QH P w K mg base:=by
 refine B1 F v W2 (λx H Q E h=>?_) (λan A aq s H x Q E hr h=>?_);obtain⟨d,t,F,W,a,l,m,rfl,_⟩:=h;rfl;obtain⟨d,t,F,W,a,l,m,rfl,e,G,q⟩:=h;obtain⟨aj,ak,R,us,Gs,Es,ao,y,z,g⟩:=e.net;have lq:=G.lq;have ai:(((y.map V.ref).length:Nat):Int)=((a.length:Nat):Int):=(by rw[Al,g.tq.len])
 refine⟨_,(Ao (AS (i:=2) W2.nd (BS Ec B.b_len (Ab (AE AF (pv 0) Ai) Ae)))
  (Av (AZ (Ba aa (Ab (pv 0) (Ab (pv 1) (Ab (AA WR (CA (Ab GG Ae)) (pv 2)) (Ab (Iw (cV rfl) B.b_list (Ab (Iw cU B.b_range (Ab (pv 2) Ae)) Ae)) Ae)))))))),?_⟩
 (try dsimp only[AG,Cx.nox,Cx.wish]);refine Or.inr (Or.inl ⟨_,.ref R,Aq.of z,rfl,_,Or.inl ⟨_,Ag.of g.er,rfl⟩,?_⟩);rw[ai];refine⟨Hr,λZ C=>?_⟩;have D:=Bc (o:=.lst [.non]) C;refine⟨Z,_,_,rfl,rfl,Aa,by omega,?_,λb ab=>?_⟩;show 1*_<=1000;rw[Be];omega;have u:(upd (upd H Z (.lst [.non])) b (.lst (List.replicate ((a.length:Nat):Int).toNat [V.non]).flatten)) b=some (.lst (List.replicate a.length .non)):=(by rw[Aa,Be,WX]);have j:=D.trans (Bc (o:=.lst (List.replicate ((a.length:Nat):Int).toNat [V.non]).flatten) ab);generalize upd (upd H Z (.lst [.non])) b (.lst (List.replicate ((a.length:Nat):Int).toNat [V.non]).flatten)=H2 at u j ⊢;refine⟨_,rfl,λp I=>⟨p,a.length,rfl,Aa,by omega,λJ ae=>?_⟩⟩;have L:=Bc (o:=.rng 0 ((a.length:Nat):Int)) I;have k:=L.trans (Bc (o:=.lst ((List.range a.length).map λi:Nat=>V.int i)) ae);have c:=j.trans k;exact⟨d,t,b,J,F,W,a,l,m,rfl,e.same c,G,k _ _ u,Aa,λr A M n N O S T U af ag X Y ah ru nx al=>q r A M n N O S (c.trans T) (c.free U) (c.free af) ag X Y ah ru nx al⟩
theorem Xp{b:List Dt}(h:Ar K H v (.lst b)):∃a vs,v=.ref a/\Ag K H a vs/\An K H vs b:=by cases h with|lst h t=>exact⟨_,_,rfl,h,t⟩
theorem Xq{b:List Dt}(h:Ar K H v (.tup b)):∃a vs,v=.ref a/\Aq K H a vs/\An K H vs b:=by cases h with|tup h t=>exact⟨_,_,rfl,h,t⟩
def OV:Dt->Ty
 |.non=>.non
 |.bl _=>.bool
 |.int _=>.int
 |.str _=>.str
 |.tup _=>.tup
 |.lst _=>.lst
theorem QI(h:Ar K H v d):Jg K H v (OV d):=by
 cases h with
 |non=>exact .non
 |bl b=>exact .bl b
 |int i=>exact .int i
 |str x=>exact .str x
 |tup h t=>exact .tup h
 |lst h t=>exact .lst h
theorem Kg(h:Ar K H v d):v=.non↔d=.non:=by
 cases h<;>simp
def QJ (K:Ah) (n:Nat):Sp:=λvs H Q _=>∃(x y:V)(d e:Dt),vs=[x,y]/\Ar K H x d/\Ar K H y e/\Dn n d/\Dn n e/\∀(b:Bool)(H':Hp),Ac H H'->(b=true↔d=e)->Q (.bl b) H'
abbrev iQ (K:Ah):Sp:=QJ K 8
theorem iR(B:BG mg)(n:Nat)(ai:BF P w K mg base "_law_same" (0+n) ["_law_found", "_law_due"] (QJ K n))(F:Bp K "_law_same" "_law_same" Nm f fd):Ep P w K mg base Iy (0+n+1) f fd ["_law_found", "_law_due"] (QJ K (n+1)):=by
 refine F.ok Tt (λvs H ag ah h=>?_) (λak aj al s H vs ag ah hr h=>?_);obtain⟨x,y,d,af,rfl,_⟩:=h;rfl;obtain⟨x,y,d,af,rfl,g,G,hd,U,q⟩:=h
 refine⟨_,(Ao (Bk (FC (Gb (pv 1))) (Av (AZ (G6 (Gb (pv 0))))) Bm)
  (Ao (Bk (GV (BS Iz B.b_isinstance (Ab (pv 1) (Ab (IB "str" rfl B.b_str (by decide +kernel)) Ae)))) (Av (AZ (Nu (BS Iz B.b_isinstance (Ab (pv 0) (Ab (IB "str" rfl B.b_str (by decide +kernel)) Ae))) (Rv (Kq Cz (pv 0) (pv 1) (By _)))))) Bm)
  (Ao (Bk (GV (BS Iz B.b_isinstance (Ab (pv 1) (Ab (IB "int" rfl B.b_int (by decide +kernel)) Ae)))) (Av (AZ (Nu (BS Iz B.b_isinstance (Ab (pv 0) (Ab (IB "int" rfl B.b_int (by decide +kernel)) Ae))) (Nu (K4 (BS Iz B.b_isinstance (Ab (pv 0) (Ab (IB "bool" rfl B.b_bool (by decide +kernel)) Ae)))) (Rv (Kq Cz (pv 0) (pv 1) (By _))))))) Bm)
  (Ao (Bk (PW.pt (GI (GV (BS Iz B.b_isinstance (Ab (pv 1) (Ab (IB "list" rfl B.b_list (by decide +kernel)) Ae)))) (GH (Ru (GV (BS Iz B.b_isinstance (Ab (pv 0) (Ab (IB "list" rfl B.b_list (by decide +kernel)) Ae)))))))) (Av (AZ Kl)) Bm)
  (Ao (Bk (PW.pt (GI (GV (BS Iz B.b_isinstance (Ab (pv 1) (Ab (IB "tuple" rfl B.b_tuple (by decide +kernel)) Ae)))) (GH (Ru (GV (BS Iz B.b_isinstance (Ab (pv 0) (Ab (IB "tuple" rfl B.b_tuple (by decide +kernel)) Ae)))))))) (Av (AZ Kl)) Bm)
  (Ao (Bk (BI Pc (BS Ec B.b_len (Ab (pv 0) Ae)) (BS Ec B.b_len (Ab (pv 1) Ae)) (By _)) (Av (AZ Kl)) Bm)
  (Ao (Cw Cr rfl (JA rfl B.b_zip (Ab (pv 0) (Ab (pv 1) Ae))) (Ct (n:=2) rfl (AK (Ay (i:=2) Tt.nd) (AK (Ay (i:=3) Tt.nd) Cs))) (Av (Bk (Ru (GV (Ba ai (Ab (pv 2) (Ab (pv 3) Ae)) (hr.mono (by omega))))) (Av (AZ Kl)) Bm)))
  (Av (AZ Kl))))))))),?_⟩
 try dsimp only[AG,Cx.nox,Cx.wish]
 cases af with
 |non =>
   cases G;refine⟨rfl,Am (λ_=>?_) (λh=>absurd (A4 rfl) h)⟩;exact q _ _ (Ac.refl _) ((decide_eq_true_iff).trans (Kg g))
 |bl b=>exact False.elim U
 |int s =>
   cases G;refine⟨rfl,Am (λh=>absurd (Bg h) (by simp)) (λ_=>?_)⟩;refine⟨_,.str,.int,rfl,.int s,rfl,Bs ?_⟩;refine⟨_,.int,.int,rfl,.int s,rfl,CU ?_⟩;refine⟨_,.int,OV d,rfl,QI g,_,rfl,?_⟩
   cases d with
   |bl _=>exact False.elim hd
   |int Z =>
     cases g;refine CU ⟨_,.bool,.int,rfl,.int _,_,rfl,_,rfl,CU ⟨rfl,?_⟩⟩;refine q _ _ (Ac.refl _) ⟨λz=>?_,λz=>?_⟩;rw[V.int.inj (Bg z)];cases z;exact A4 rfl
   |_=>exact Bs (q false _ (Ac.refl _) ⟨λz=>(by cases z),λz=>(by cases z)⟩)
 |str s =>
   cases G;refine⟨rfl,Am (λh=>absurd (Bg h) (by simp)) (λ_=>?_)⟩;refine⟨_,.str,.str,rfl,.str s,rfl,CU ?_⟩;refine⟨_,.str,OV d,rfl,QI g,_,rfl,?_⟩
   cases d with
   |bl _=>exact False.elim hd
   |str Z =>
     cases g;refine CU ⟨rfl,?_⟩;refine q _ _ (Ac.refl _) ⟨λz=>?_,λz=>?_⟩;rw[V.str.inj (Bg z)];cases z;exact A4 rfl
   |_=>exact Bs (q false _ (Ac.refl _) ⟨λz=>(by cases z),λz=>(by cases z)⟩)
 | lst k =>
   obtain⟨b,W,rfl,e,I⟩:=Xp G;have p:=I.length;refine⟨rfl,Am (λh=>absurd (Bg h) (by simp)) (λ_=>?_)⟩;refine⟨_,.str,.lst,rfl,.lst e,rfl,Bs ?_⟩;refine⟨_,.int,.lst,rfl,.lst e,rfl,Bs ?_⟩;refine⟨_,.lst,.lst,rfl,.lst e,rfl,CU ⟨_,.lst,OV d,rfl,QI g,rfl,?_⟩⟩
   cases d with
   |lst r =>
     obtain⟨a,us,rfl,t,J⟩:=Xp g;have u:=J.length;refine Bs ⟨_,.tup,.lst,rfl,.lst e,rfl,Bs (Bs ?_)⟩;refine⟨_,Or.inl ⟨_,t,rfl⟩,_,Or.inl ⟨_,e,rfl⟩,rfl,rfl,Am (λh=>?_) (λh=>?_)⟩;refine q false _ (Ac.refl _) ⟨λz=>(by cases z),λz=>?_⟩;cases z;rw[u,p] at h;simp at h
     have X:r.length=k.length:=by
      rw[u,p] at h;simp at h;omega
     refine⟨a,b,rfl,Or.inl ⟨⟨_,t⟩,⟨_,e⟩,Jh (xs:=us) (ys:=W) (λi σ L=>∃v A,σ=[some (.ref a),some (.ref b),v,A]/\Ac H L/\∀j:Nat,j<i->r[j]?=k[j]?) ⟨none,none,rfl,Ac.refl _,λj M=>absurd M (Nat.not_lt_zero _)⟩ (λi σ L aa=>by obtain⟨_,_,_,s,_⟩:=aa;exact⟨s.seq t,s.seq e⟩) ?_ ?_⟩⟩;rintro i x y T σ Y ab ae hT ⟨v,A,rfl,C,D⟩;obtain⟨N,l,t1⟩:=J.get ab;obtain⟨O,E,t2⟩:=I.get ae;have Q:=Bc (o:=.tup [x,y]) hT;refine⟨_,Aq.of Aa,rfl,?_⟩;generalize upd Y T (.tup [x,y])=H2 at Q ⊢;have m:=C.trans Q;refine⟨x,y,N,O,rfl,t1.same m,t2.same m,hd N (Bd l),U O (Bd E),λbb H3 R S=>⟨rfl,?_⟩⟩
     cases bb with
     |false =>
       refine CU (q false _ (m.trans R) ⟨λz=>(by cases z),λz=>?_⟩);have e1:r=k:=by cases z;rfl
       rw[e1,E] at l;have:=S.mpr (Bo l).symm;cases this
     |true =>
       refine Bs ⟨_,_,rfl,m.trans R,λj M=>?_⟩;by_cases c:j=i;rw[c,l,E,S.mp rfl];exact D j (by omega)
     rintro σ Y ⟨v,A,rfl,C,D⟩;refine q true _ C ⟨λ_=>?_,λ_=>rfl⟩;congr 1;refine List.ext_getElem? λj=>?_;by_cases c:j<k.length
     exact D j (by simp only[p,u,X,Nat.min_self] at *;omega)
     rw[Gk (by omega),Gk (by omega)]
   |bl _=>exact False.elim hd
   |_=>exact CU (q false _ (Ac.refl _) ⟨λz=>(by cases z),λz=>(by cases z)⟩)
 | tup k =>
   obtain⟨b,W,rfl,e,I⟩:=Xq G;have p:=I.length;refine⟨rfl,Am (λh=>absurd (Bg h) (by simp)) (λ_=>?_)⟩;refine⟨_,.str,.tup,rfl,.tup e,rfl,Bs ?_⟩;refine⟨_,.int,.tup,rfl,.tup e,rfl,Bs ?_⟩;refine⟨_,.lst,.tup,rfl,.tup e,rfl,Bs (Bs ?_)⟩;refine⟨_,.tup,.tup,rfl,.tup e,rfl,CU ⟨_,.tup,OV d,rfl,QI g,rfl,?_⟩⟩
   cases d with
   |tup r =>
     obtain⟨a,us,rfl,t,J⟩:=Xq g;have u:=J.length;refine Bs ?_;refine⟨_,Or.inr ⟨_,t,rfl⟩,_,Or.inr ⟨_,e,rfl⟩,rfl,rfl,Am (λh=>?_) (λh=>?_)⟩;refine q false _ (Ac.refl _) ⟨λz=>(by cases z),λz=>?_⟩;cases z;rw[u,p] at h;simp at h
     have X:r.length=k.length:=by
      rw[u,p] at h;simp at h;omega
     refine⟨a,b,rfl,Or.inr ⟨⟨_,t⟩,⟨_,e⟩,Zz (xs:=us) (ys:=W) (λi σ L=>∃v A,σ=[some (.ref a),some (.ref b),v,A]/\Ac H L/\∀j:Nat,j<i->r[j]?=k[j]?) ⟨none,none,rfl,Ac.refl _,λj M=>absurd M (Nat.not_lt_zero _)⟩ (λi σ L aa=>by obtain⟨_,_,_,s,_⟩:=aa;exact⟨s.seqT t,s.seqT e⟩) ?_ ?_⟩⟩;rintro i x y T σ Y ab ae hT ⟨v,A,rfl,C,D⟩;obtain⟨N,l,t1⟩:=J.get ab;obtain⟨O,E,t2⟩:=I.get ae;have Q:=Bc (o:=.tup [x,y]) hT;refine⟨_,Aq.of Aa,rfl,?_⟩;generalize upd Y T (.tup [x,y])=H2 at Q ⊢;have m:=C.trans Q;refine⟨x,y,N,O,rfl,t1.same m,t2.same m,hd N (Bd l),U O (Bd E),λbb H3 R S=>⟨rfl,?_⟩⟩
     cases bb with
     |false =>
       refine CU (q false _ (m.trans R) ⟨λz=>(by cases z),λz=>?_⟩);have e1:r=k:=by cases z;rfl
       rw[e1,E] at l;have:=S.mpr (Bo l).symm;cases this
     |true =>
       refine Bs ⟨_,_,rfl,m.trans R,λj M=>?_⟩;by_cases c:j=i;rw[c,l,E,S.mp rfl];exact D j (by omega)
     rintro σ Y ⟨v,A,rfl,C,D⟩;refine q true _ C ⟨λ_=>?_,λ_=>rfl⟩;congr 1;refine List.ext_getElem? λj=>?_;by_cases c:j<k.length
     exact D j (by simp only[p,u,X,Nat.min_self] at *;omega)
     rw[Gk (by omega),Gk (by omega)]
   |bl _=>exact False.elim hd
   |_=>exact CU (q false _ (Ac.refl _) ⟨λz=>(by cases z),λz=>(by cases z)⟩)
theorem iS(B:BG mg)(F:Bp K "_law_same" "_law_same" Nm f fd)(a:mg "_law_same" = some (.ref f))(n:Nat):BF P w K mg base "_law_same" (0+n) ["_law_found", "_law_due"] (QJ K n):=by
 have b:Binds K fd ["_law_found", "_law_due"] []:=F.binds λ_ _ _ _ _ _ us c=>(by obtain⟨g,i,rfl⟩:=Ia c;rfl)
 induction n with
 |zero=>exact⟨f,fd,⟨λd H Q E h=>(by obtain⟨_,_,_,_,_,_,_,h,_⟩:=h;exact False.elim h),λA k s H j us d Q E _ _ _ _ h=>(by obtain⟨_,_,_,_,_,_,_,h,_⟩:=h;exact False.elim h)⟩,a,F.kp,b⟩
 |succ n e=>exact⟨f,fd,iR B n e F,a,F.kp,b⟩
variable (P w K mg base) in
abbrev QK:Prop:=BF P w K mg base "_law_same" 8 ["_law_found", "_law_due"] (iQ K)
theorem iT(B:BG mg)(F:Bp K "_law_same" "_law_same" Nm f fd)(a:mg "_law_same" = some (.ref f)):QK P w K mg base:=
 iS B F a 8
theorem MF{gs:List (Str×Int)}{qs:List Qu}{c:List CN}{inn:Int}{ord:List (Str×Str)}(h:Ni ns ss gs qs c inn ord):HV ⟨ss,gs,[],c⟩ qs inn ord:=by
 have d:=OM ns;have e:=ON ns;have f:=Qw ns (B9 ns).length;have eq:qs.length=BH ns:=(by rw[h.qs,TV]);have a:=Qv (ls:=Mz ns) (ns:=Ei ns) d.1 f.1 e.1 (B9 ns) (B9 ns).length;rw[<-h.ss] at a;refine {all:=λi b=>OO h b.len b.rng,tr:=h.tb.ord.tr (W6 (by decide)),s3:=λs g=>?_,lq:=by omega};have:=a.st s g;have:ER (Bu ns)<=3:=by unfold ER;split<;>omega
 omega
theorem iU(n:Nat):∀a:Option (Str×Int),Dn (n+2) (C9 a)
 |none=>True.intro
 |some p=>λd hd=>by
   rcases Ce.mp hd with rfl|hd;exact True.intro;rw[AY.mp hd];exact True.intro
theorem Il(l:List AI):Dn 8 (.lst (l.map C9)):=λd hd=>by
 obtain⟨a,_,rfl⟩:=Br.mp hd;exact iU 5 a
theorem iV{l:List α}{k:Nat}{x:α}(h:l[k]?=some x):l.set k x=l:=by
 refine List.ext_getElem? λj=>?_;by_cases c:k=j;subst c;rw[List.getElem?_set_self (A7.mp h).1,h];rw[List.getElem?_set_ne c]
inductive KY (K:Ah) (vs:List V) (H:Hp) (Q:VK):Prop where
 |mk (a:Addr) (ns:List Int) (h0:vs=[.ref a]) (h1:Ag K H a (ns.map V.int)) (h2:ns.length<=63) (h3:∀H',Q (.bl true) H'):KY K vs H Q
def OW (K:Ah):Sp:=λvs H Q _=>KY K vs H Q
theorem Im(B:BG mg)(a0:Qy P w K mg base)(a1:OT P w K mg base)(a2:OH P w K mg base)(a3:QF P w K mg base)(aJ:QH P w K mg base)(a4:QK P w K mg base)(F:Bp K "law" "law" IM f fd):Ep P w K mg base Iy 11 f fd ["_law_script"] (OW K):=by
 refine F.ok HZ (λvs H au av h=>?_) (λaO A aW s H vs au av hr h=>?_);obtain⟨a,ns,rfl,_⟩:=h;rfl
 . obtain⟨a,ns,rfl,hS,aK,kq⟩:=h
   refine⟨_,(Ao (DL (Ba a0 (Ab (pv 0) Ae)) (Ct (n:=2) rfl (AK (Ay (i:=1) HZ.nd) (AK (Ay (i:=2) HZ.nd) Cs))))
    (Ao (AS (i:=3) HZ.nd (BS Ec B.b_len (Ab (AE AF (pv 1) Ai) Ae)))
    (Ao (R6 (i:=4) HZ.nd rfl (Or.inl rfl) rfl GB (Iu rfl B.b_range (Ab (pv 3) Ae)) (λ_ _ _ _ _=>(Ay (i:=0) GB.nd)) (λ_ _ _ _ _=>IA) (λ_ _ _ _ _=>GG))
    (Ao (Cw Cr rfl (C6 (RM RP (pv 0) UK (Pe Ai))) (Ay (i:=5) HZ.nd) (Ao (AS (i:=6) HZ.nd (AA Bj (AA Bj (AA Eo (AA Fi (pv 5) Ai) Ai) Ai) (pv 3)))
     (Av (Bk (FC (Gb (AE AF (pv 4) (pv 6)))) (Av (DL (AE AF (Ba a1 (Ab (pv 1) (Ab (pv 4) (Ab (pv 2) (Ab (pv 6) Ae))))) Ai) (MQ (pv 4) (pv 6) NR))) Bm))))
    (Ao (AS (i:=7) HZ.nd (Ba a2 (Ab (pv 0) (Ab Ai Ae))))
    (Ao (Cw Cr rfl (Iu rfl B.b_range (Ab (pv 3) Ae)) (Ay (i:=8) HZ.nd) (Av (Bk (GV (Ba a3 (Ab (pv 1) (Ab (pv 2) (Ab (pv 4) (Ab (AA Gr (pv 7) (AA Eo (pv 8) (pv 8))) Ae)))))) (Av (AS (i:=7) HZ.nd (AA Gr (pv 7) Ai))) Bm)))
    (Ao (AS (i:=9) HZ.nd (Ba aJ (Ab (pv 1) (Ab (pv 2) Ae))))
    (Av (AZ (Nu (BS Iz B.b_isinstance (Ab (pv 9) (Ab (IB "tuple" rfl B.b_tuple (by decide +kernel)) Ae))) (Nu (Kq Cz (BS Ec B.b_len (Ab (pv 9) Ae)) Ai (By _)) (Rv (Ba a4 (Ab (AE AF (pv 9) Ai) (Ab (pv 4) Ae))))))))))))))),?_⟩
   (try dsimp only[AG,Cx.nox,Cx.wish]);refine⟨a,ns,rfl,hS,aK,λaL L t aw ax ah us Gs Es ts qt ss C d D E I Y s1 er eN N3 TB md=>?_⟩;refine⟨_,Aq.of er,rfl,?_⟩;(try dsimp only);have G:=MF md;have ae:LN K (λ_=>True) Y L t ⟨ss,C,[],D⟩ d E I:=⟨⟨aw,ax,ah,us,Gs,Es,ts,qt,eN,N3⟩,TB⟩;have aP:d.length=BH ns:=(by rw[md.qs,TV]);have zA:=ON ns;have a5:(((qt.map V.ref).length:Nat):Int)=((d.length:Nat):Int):=(by rw[Al,N3.tq.len]);refine Or.inr (Or.inl ⟨_,.ref ah,Aq.of eN,rfl,_,Or.inl ⟨_,Ag.of N3.er,rfl⟩,?_⟩);refine AN ?_;(try dsimp only);rw[a5];refine⟨(by omega),(by omega),Sj (lo:=0) (n:=d.length) (λaa i Q l=>Ac Y l/\l aa=some (.lst Q)/\Q=List.replicate i .non) (λaa hD=>⟨Bc hD,Aa,rfl⟩) (λaa i Q H2 RR hD hi hv k=>?_) (λA Q H2 hA hv=>?_)⟩;obtain⟨R,eD,rfl⟩:=hv;refine k _ _ eD (by rw[List.length_replicate];exact BE (by omega)) ⟨λb o e=>?_,Aa,by rw[List.replicate_succ']⟩;rw[AC (AJ e hD)];exact R _ _ e;obtain⟨R,aj,rfl⟩:=hv;(try dsimp only)
   have a6:Eg H2 A (List.replicate d.length none):=⟨_,aj,by
    generalize d.length=m
    induction m with
    |zero=>exact .nil
    |succ m ih=>exact .cons .non ih⟩
   have setA:∀{l:Hp}{zs:List V},Ac Y l->Ac Y (upd l A (.lst zs)):=λs b o e=>by rw[AC (AJ e hA)];exact s _ _ e
   refine⟨_,rfl,a,_,rfl,(s1.trans R).seq hS,λp0 h0=>?_⟩;rw[show DN (ns.map V.int) none (some 40)=(ns.take 40).map V.int from(Yj _ 40).trans (List.map_take).symm];obtain⟨H3,a7,s3,e0⟩:=new_at (o:=.lst ((ns.take 40).map V.int)) h0;rw[<-a7]
   have az:p0≠A:=λay=>by rw[ay,aj] at h0;cases h0
   refine⟨⟨_,Ag.of e0⟩,EL (xs:=(ns.take 40).map V.int) (λi σ l=>∃(S T:Option V)(g:List AI),σ=[some (.ref a),some (.ref L),some (.ref t),some (.int ((d.length:Nat):Int)),some (.ref A),S,T,none,none,none]/\Ac Y l/\l p0=some (.lst ((ns.take 40).map V.int))/\Eg l A g/\GN ⟨ss,C,[],D⟩ d E I g) ⟨none,none,_,rfl,R.trans s3,e0,a6.go s3.tk λ_ e=>s3 _ _ e,.nil⟩ (λi σ l _ a8=>by obtain⟨_,_,_,_,_,e,_⟩:=a8;exact Ag.of e) ?_ ?_⟩
   . refine λi x σ M hx J=>AM λN j=>?_
     obtain⟨S,T,g,rfl,r,U,u,p⟩:=J;refine j ?_;clear j;refine F5 ?_;intro Nx Cy;obtain⟨c,_,rfl⟩:=getm hx;refine AN ?_;(try dsimp only);refine⟨⟨by decide,by decide⟩,Or.inr ⟨by decide,by decide⟩,(by show(0:Int)<65521;decide),(by show(0:Int)<((d.length:Nat):Int);omega),?_⟩;refine AN ?_;(try dsimp only);have q0:=EE (c/8*48271%65521) (show((d.length:Nat):Int)≠0 by omega);have q1:=ED (c/8*48271%65521) (show(0:Int)<((d.length:Nat):Int) by omega);generalize c/8*48271%65521%((d.length:Nat):Int)=e at q0 q1 ⊢;obtain⟨k,rfl⟩:=Df q0;have ak:k<d.length:=(by omega);have hK:=p.aok G.toSOk;have af:=AD ak;generalize d[k]=qk at af;obtain⟨vs,v,e1,e2,hc⟩:=u.get (k:=k) (by rw[hK.len];exact ak);refine Or.inl ⟨vs,v,Ag.of e1,e2,rfl,?_⟩;rcases hc with⟨ho,rfl⟩|⟨ai,tt,ho,rfl,_⟩;rotate_left;exact Am (λh=>absurd (Bg h) (by simp)) (λ_=>⟨_,_,g,rfl,r,U,u,p⟩);refine Am (λ_=>?_) (λh=>absurd (A4 rfl) h);refine⟨L,A,t,λ_=>True,⟨ss,C,g,D⟩,d,E,I,_,k,qk,rfl,rfl,af,(ae.same r).lc u.ans,G.all g hK,λev ea ew ls a9 H5 y aA aB=>?_⟩;refine AM λN j=>?_;obtain⟨ep,ex,ey,rfl,aC,aD,aQ⟩:=Xn aA;refine j ?_;clear j;obtain⟨W,aE,an⟩:=u;have ao:=y _ _ aE;have aF:W.length=d.length:=by rw[an.length,Al];exact hK.len
     refine Or.inr (Or.inl ⟨_,ex,Aq.of aC,rfl,A,W,(k:Int),k,rfl,rfl,ao,?_,?_⟩);rw[aF,N2 (by omega) (by omega),Be];have tk:=Oz (o:=.lst (W.set k ex)) ao;refine⟨_,_,g.set k ea,rfl,setA (r.trans y),(AC az).trans (y _ _ U),⟨W.set k ex,Aa,?_⟩,?_⟩;rw[List.map_set];exact((an.same y).set aD.noL k).tk tk
     cases ea with
     |none=>rw[iV ho];exact p
     |some ai=>exact p.put af ho ⟨ew,ls,a9,aB⟩
   refine λσ M J=>AM λN j=>?_;obtain⟨S,T,g,rfl,r,U,u,p⟩:=J;refine j ?_;clear j;clear U;refine⟨a,ns,8,rfl,by decide,(s1.trans r).seq hS,?_⟩;refine AN ?_;(try dsimp only);refine⟨(by omega),(by omega),Kp (lo:=0) (n:=d.length) (λi σ l=>∃(g:List AI)(ab:Int)(u8:Option V),σ=[some (.ref a),some (.ref L),some (.ref t),some (.int ((d.length:Nat):Int)),some (.ref A),S,T,some (.int ab),u8,none]/\Ac Y l/\Eg l A g/\GN ⟨ss,C,[],D⟩ d E I g/\((∀(k:Nat)(q:Qu),d[k]?=some q->g[k]?=some none->Fd ⟨ss,C,[],D⟩ E I q g none)\/nn g+i<=d.length)) ⟨g,_,none,rfl,r,u,p,.inr ?_⟩ ?_ ?_⟩;have:nn g<=g.length:=List.countP_le_length;have:=(p.aok G.toSOk).len;omega;clear p u r g M;refine λi σ M hi J=>AM λN j=>?_;obtain⟨g,ab,u8,rfl,r,u,p,z⟩:=J;refine j ?_;clear j;refine F5 ?_;intro Nx Cy;refine AN ?_;(try dsimp only);refine⟨Or.inl ⟨by omega,by omega⟩,L,t,A,λ_=>True,⟨ss,C,[],D⟩,d,E,I,g,_,Y,rfl,r,hA,ae,G,by omega,u,p,λb aq H5 y Z ar aG aH=>⟨rfl,Am (λO=>?_) (λO=>?_)⟩⟩;refine AM λN j=>?_;obtain⟨X,k,q,ai,h2,h3,h4⟩:=aG O;refine j ?_;clear j;refine⟨aq,_,_,rfl,y,Z,ar,.inr ?_⟩;rcases z with z|z;have:=WS (z k q h2 h3) h4;cases this;omega
   cases b with
   |true=>exact absurd rfl O
   |false =>
     obtain⟨rfl,X⟩:=aH rfl;exact⟨aq,_,_,rfl,y,Z,ar,.inl X⟩
   clear p u r g M;refine λσ M J=>AM λN j=>?_;obtain⟨g,ab,u8,rfl,r,u,p,z⟩:=J;refine j ?_;clear j
   have stuck:∀(k:Nat)(q:Qu),d[k]?=some q->g[k]?=some none->Fd ⟨ss,C,[],D⟩ E I q g none:=by
    rcases z with z|z;exact z;intro k q _ e;exact absurd e (JX (by omega) k)
   refine⟨L,t,λ_=>True,⟨ss,C,[],D⟩,d,E,I,rfl,ae.same r,G,λr2 A2 Tn n aM aR H5 y aS aT aU ag Z aV ru nx al=>?_⟩;refine AN ?_;(try dsimp only);have aI:=p.end_ G.toSOk ru nx al stuck;subst aI;obtain⟨aN,e1,X⟩:=Z;obtain⟨v2,e2,h2⟩:=u;refine⟨_,.tup,.tup,rfl,.tup (Aq.of ag),_,rfl,CU ⟨_,Or.inr ⟨_,Aq.of ag,rfl⟩,rfl,_,rfl,Am (λ_=>?_) (λh=>absurd (A4 rfl) h)⟩⟩;refine Or.inr (Or.inl ⟨_,.ref A2,Aq.of ag,rfl,_,_,_,_,rfl,.lst (Ag.of e1) X.dts,.lst (Ag.of (y _ _ e2)) (h2.same y).dts,Il _,Il _,λb H6 s6 O=>?_⟩);rw[O.mpr rfl];exact kq _
variable (P w K mg base) in
abbrev OX:Prop:=BF P w K mg base "law" 11 ["_law_script"] (OW K)
theorem OY(B:BG mg)(c:Qy P w K mg base)(d:OT P w K mg base)(e:OH P w K mg base)(g:QF P w K mg base)(i:QH P w K mg base)(h:QK P w K mg base)(F:Bp K "law" "law" IM f fd)(a:mg "law" = some (.ref f)):OX P w K mg base:=
 ⟨f,fd,Im B c d e g i h F,a,F.kp,F.binds λ_ _ _ _ _ _ us b=>(by obtain⟨j,rfl⟩:=H1 b;rfl)⟩
end
abbrev Fin (K:Ah) (mg:Str->Option Value) (x:Str) (st:Stmt):Prop:=∃f fd,Bp K x x st f fd/\mg x=some (.ref f)
theorem BV{K:Ah}{h:Heap}{b:Str->Option Value}(X:K.In h)(G:h.Ns mainGlobals b){x:Str}{st:Stmt}(q:Fx K x st):Fin K b x st:=by
 obtain⟨f,d,e,g,m,kV,n,i,o,j,a,l,c,k⟩:=q;exact⟨f,_,Hl l c k,PySem.W.mg_of X G a⟩
theorem all_mk{l:PySem.W.OpenLaw}{w:World}{K:Ah}{h:Heap}{a:Str->Option Value}{f:Addr}(X:K.In h)(G:h.Ns mainGlobals a)(V:a "law" = some (.ref f))(q:Kk K)
 : ∃g:FuncData,(∀(s:Shared)(v:Value),BindsTo s g ⟨[v],[]⟩ [("_law_script",v)])/\∀b:Heap,K.In b->b.Ns mainGlobals a->Ep l.prog w K a b Iy 11 f g ["_law_script"] (OW K):=by
 obtain⟨bX,bY,bZ,bs,ca,bt,bu,bv,bw,bx,W,Y,Z,aa⟩:=q.q46;have e:=V.symm.trans (PySem.W.mg_of X G W);cases e;have B:BG a:=⟨FY X G q.z_all,FY X G q.z_any,FY X G q.z_bool,FY X G q.z_dict,FY X G q.z_enumerate,FY X G q.z_int,FY X G q.z_isinstance,FY X G q.z_len,FY X G q.z_list,FY X G q.z_min,FY X G q.z_range,FY X G q.z_set,FY X G q.z_sorted,FY X G q.z_str,FY X G q.z_tuple,FY X G q.z_zip,q.y_MOST_BEGINNINGS.imp λ_ y=>PySem.W.mg_of X G y⟩;obtain⟨_,_,x,z⟩:=BV X G q.q0;obtain⟨_,_,A,C⟩:=BV X G q.q1;obtain⟨_,_,D,E⟩:=BV X G q.q2;obtain⟨_,_,F,H⟩:=BV X G q.q3;obtain⟨_,_,I,J⟩:=BV X G q.q4;obtain⟨_,_,L,M⟩:=BV X G q.q5;obtain⟨_,_,N,O⟩:=BV X G q.q6;obtain⟨_,_,P,Q⟩:=BV X G q.q7;obtain⟨_,_,R,S⟩:=BV X G q.q8;obtain⟨_,_,T,U⟩:=BV X G q.q9;obtain⟨_,_,ab,ae⟩:=BV X G q.q10;obtain⟨_,_,af,ag⟩:=BV X G q.q11;obtain⟨_,_,ah,ai⟩:=BV X G q.q12;obtain⟨_,_,aj,ak⟩:=BV X G q.q13;obtain⟨_,_,al,an⟩:=BV X G q.q14;obtain⟨_,_,ao,aq⟩:=BV X G q.q15;obtain⟨_,_,ar,au⟩:=BV X G q.q16;obtain⟨_,_,av,aw⟩:=BV X G q.q17;obtain⟨_,_,ax,ay⟩:=BV X G q.q18;obtain⟨_,_,az,a0⟩:=BV X G q.q19;obtain⟨_,_,a1,a2⟩:=BV X G q.q20;obtain⟨_,_,a3,a4⟩:=BV X G q.q21;obtain⟨_,_,a5,a6⟩:=BV X G q.q22;obtain⟨_,_,a7,a8⟩:=BV X G q.q23;obtain⟨_,_,a9,aA⟩:=BV X G q.q24;obtain⟨_,_,aB,aC⟩:=BV X G q.q25;obtain⟨_,_,aD,aE⟩:=BV X G q.q26;obtain⟨_,_,aF,aG⟩:=BV X G q.q27;obtain⟨_,_,aH,aI⟩:=BV X G q.q28;obtain⟨_,_,aJ,aK⟩:=BV X G q.q29;obtain⟨_,_,aL,aM⟩:=BV X G q.q30;obtain⟨_,_,aN,aO⟩:=BV X G q.q31;obtain⟨_,_,aP,aQ⟩:=BV X G q.q32;obtain⟨_,_,aR,aS⟩:=BV X G q.q33;obtain⟨_,_,aT,aU⟩:=BV X G q.q34;obtain⟨_,_,aV,aW⟩:=BV X G q.q35;obtain⟨_,_,aX,aY⟩:=BV X G q.q36;obtain⟨_,_,aZ,ba⟩:=BV X G q.q37;obtain⟨_,_,bb,bc⟩:=BV X G q.q38;obtain⟨_,_,bd,be⟩:=BV X G q.q39;obtain⟨_,_,bf,bg⟩:=BV X G q.q40;obtain⟨_,_,bh,bi⟩:=BV X G q.q41;obtain⟨_,_,bj,bk⟩:=BV X G q.q42;obtain⟨_,_,bl,bm⟩:=BV X G q.q43;obtain⟨_,_,bn,bo⟩:=BV X G q.q44;obtain⟨_,_,bp,bq⟩:=BV X G q.q45;have br:=Hl (st:=IM) Y Z aa;refine⟨PySem.W.fnOf "law" "law" (Kj IM) (Ip IM) (A3 IM) .none bt bu bv bs bw bx,λs v=>.of_eq rfl,λb _ _=>?_⟩;have bz:Tv l.prog w K a b:=dX B x z;have i:OH l.prog w K a b:=d4 B A C;have j:Qn l.prog w K a b:=d7 B D E;have b0:TD l.prog w K a b:=eA B j F H;have b1:TJ l.prog w K a b:=eI B j b0 I J;have b2:TL l.prog w K a b:=eK B L M;have b3:TM l.prog w K a b:=eR B N O;have b4:TN l.prog w K a b:=eW B P Q;have b5:TQ l.prog w K a b:=eY B R S;have b6:TR l.prog w K a b:=fB B b4 b5 T U;have b7:Qy l.prog w K a b:=fF B bz i b1 b2 b3 b6 ab ae;have k:Qz l.prog w K a b:=fH B af ag;have b8:TW l.prog w K a b:=fJ B ah ai;have m:QA l.prog w K a b:=fL B b8 aj ak;have b9:TX l.prog w K a b:=fM B m al an;have n:QB l.prog w K a b:=fS B k b9 ao aq;have bA:TY l.prog w K a b:=fX B n ar au;have bB:TZ l.prog w K a b:=fZ B bA av aw;have bC:T1 l.prog w K a b:=f7 B ax ay;have bD:T4 l.prog w K a b:=gA B bC az a0;have o:QC l.prog w K a b:=gC B a1 a2;have p:QD l.prog w K a b:=gE B a3 a4;have bE:T6 l.prog w K a b:=gH B a5 a6;have r:QE l.prog w K a b:=gJ B bE a7 a8;have bF:T8 l.prog w K a b:=gL B o p r a9 aA;have bG:Ua l.prog w K a b:=gN B bD bF aB aC;have bH:Ub l.prog w K a b:=gP B o p r aD aE;have c:OQ l.prog w K a b:=gR B aF aG;have bI:Uc l.prog w K a b:=gT B c aH aI;have bJ:Ud l.prog w K a b:=gW B c aJ aK;have bK:Ij l.prog w K a b:=gX B bH bI bJ aL aM;have bL:Ue l.prog w K a b:=gZ B n aN aO;have d:OS l.prog w K a b:=g8 B bB bG bK bL m aP aQ;have t:OT l.prog w K a b:=g9 B d aR aS;have bM:QF l.prog w K a b:=hH B t aT aU;have u:QG l.prog w K a b:=hQ B aV aW;have bN:Uf l.prog w K a b:=hW B u aX aY;have bO:Ug l.prog w K a b:=iC B k bN aZ ba;have bP:Uh l.prog w K a b:=iE B c bb bc;have bQ:Ui l.prog w K a b:=iG B bO bP u bd be;have bR:Uj l.prog w K a b:=iI B d bQ bf bg;have bS:Uk l.prog w K a b:=iJ B bh bi;have bT:Ul l.prog w K a b:=iL B d bj bk;have bU:Um l.prog w K a b:=iN B bR bS bT bl bm;have bV:QH l.prog w K a b:=iP B bU bn bo;have bW:QK l.prog w K a b:=iT B bp bq;exact Im B b7 t i bM bV bW br
theorem walk{l:PySem.W.OpenLaw}{q:Program}{loose:List Str}{XP:(Str->Option Value)->Heap->Prop}{YP:World->Heap->Prop}{d:DefRec}{K:Params->Ah}(i:l.most=some 63)(r:d.params.defaults=[])
 (j:∀(w:World)(h:Heap),YP w h->(K w.params).In h)
 (F:∀(w:World)(b:Str->Option Value)(e:Addr)(h:Heap),(K w.params).In h->h.Ns mainGlobals b->b d.name=some (.ref e) ->
  ∃g:FuncData,(∀(s:Shared)(u:Value),BindsTo s g ⟨[u],[]⟩ [("_law_script",u)])/\∀c:Heap,(K w.params).In c->c.Ns mainGlobals b->Ep l.prog w (K w.params) b c Iy 11 e g ["_law_script"] (OW (K w.params))) :
 PySem.W.WalkO q loose XP YP l.row.toRowW d [] (λf vs=>PySem.call f vs):=
 L2.Jf (n:=63) (k:=11) (x:= "_law_script") (CX:=λ_=>Iy) (sp:=λw=>OW (K w.params)) i (by decide) r ⟨rfl,by decide,by decide⟩ j F (λ_ _ a m o _ p=>⟨a,m,rfl,p,o,λ_=>rfl⟩) λ_ _ _ _ _ z=>z
end K43
open PySem PySem.W PyProof.Rows in
theorem PySem.Challenge.cw_namepaths_k43_in_any_order_holds : PySem.Challenge.rw_namepaths_k43_in_any_order.Holds :=
 K43.hd λK q YP d h1 h2 hY=>K43.walk (l:=PySem.Challenge.rw_namepaths_k43_in_any_order) rfl h1 hY λw mg fa h X G hm=>K43.all_mk X G (h2▸hm) (q w)
