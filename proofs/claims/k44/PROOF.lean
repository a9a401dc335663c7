import PyProof.Rows.All
import Wide.All
import OpenK.AllK
import Wide.FinOn
import Lean
import PyProof.EqAt
import PyProof.EqKinds
import PyProof.TupleCall
import PySem.Challenge.RW_namepaths_k44_least_of_all
set_option Elab.async false
set_option linter.all false
set_option maxRecDepth 100000
set_option maxHeartbeats 1000000
abbrev Ah:=PySem.W.Frag
def Al:=@List.length_map
def AC:=@List.getElem?_eq_getElem
def AV:=@List.length_append
def Bk:=@List.map_append
def A9:=@List.getElem?_eq_some_iff
def BF:=@List.mem_append
def Bh:=@List.getElem?_map
def Bd:=@List.mem_of_getElem?
def Bn:=@List.mem_map
def AY:=@List.mem_singleton
def Cu:=@List.size_toArray
def Bz:=@List.mem_cons_self
def Ch:=@List.mem_cons
def De:=@List.mem_append_right
def DN:=@List.map_cons
def Cj:=@List.mem_cons_of_mem
def BY:=@List.getD_eq_getElem?_getD
def DS:=@List.take_succ
def Ei:=@List.take_length
def EJ:=@List.getElem?_append_left
def Dh:=@List.length_singleton
def D9:=@List.getElem_mem
def FG:=@List.length_take
def DG:=@List.map_map
def EY:=@List.getElem?_append_right
def Eo:=@List.take_zero
def Ej:=@List.mem_append_left
def Ek:=@List.length_cons
def Go:=@List.nodup_cons
def FW:=@List.length_set
def FX:=@List.append_assoc
def Kr:=@List.length_drop
def O8:=@List.mem_iff_getElem
def FC:=@List.append_nil
def MM:=@List.lookup_cons
def GK:=@List.getElem?_eq_none
def MN:=@List.mem_filter
def MO:=@List.drop_eq_getElem_cons
def MP:=@List.filter_cons
def Gp:=@List.length_nil
def Nq:=@List.map_nil
def IB:=@List.prefix_append
def Gq:=@List.any_eq_true
def MQ:=@List.find?_cons
def Nr:=@List.filter_append
def Ks:=@List.foldl_append
def O9:=@List.length_filter_le
def Gr:=@Option.map_eq_some_iff
def AB:=@Nat.le_refl
def F7:=@Nat.lt_irrefl
def Di:=@Nat.le_of_lt
def CU:=@Nat.ne_of_lt
def QW:=@Nat.lt_succ_self
def Ck:=@Nat.zero_le
def EZ:=@Int.emod_lt_of_pos
def EK:=@Int.emod_nonneg
def DH:=@Int.eq_ofNat_of_zero_le
def Bl:=@Int.toNat_natCast
def A5:=@decide_eq_true
def DT:=@decide_eq_false
def Bi:=@of_decide_eq_true
def DI:=@PySem.F.plainAttrs_list
def Ep:=@PySem.F.slot_list_append
def Er:=@PySem.F.type_list_append
def Cv:=@Bool.false_ne_true
def Bv:=@Option.some.inj
def Aj:=@if_neg
def Ak:=@if_pos
def FH:=@Nat.lt_of_lt_of_le
def El:=@Nat.le_trans
def Fi:=@Bool.false_eq_true
def QX:=@List.filterMap_cons
def BI:=@congrArg
open PySem PySem.Spec PyProof.Rows in
def Ad:=@wpAny_bind
open PySem PySem.Spec PyProof.Rows in
def Aw:=@wpAny_pure
open PySem PySem.Spec PyProof.Rows in
def Fj:=@wpAny_holding
open PySem PySem.Spec PyProof.Rows in
def FI:=@wpAny_truthy_bool
open PySem PySem.Spec PyProof.Rows in
def Ba:=@Heap.get?_push_of_some
open PySem PySem.Spec PyProof.Rows in
def A1:=@Heap.lt_size
open PySem PySem.Spec PyProof.Rows in
def B8:=@Heap.get?_push_size
open PySem PySem.Spec PyProof.Rows in
def Cm:=@PassesOwn.never
open PySem PySem.Spec PyProof.Rows in
def FY:=@PySem.W.mg_none_of
open PySem PySem.Spec PyProof.Rows in
def F8:=@PySem.mem_of_lookup
open PySem PySem.Spec PyProof.Rows in
def MR:=@wpAny_typeOf
open PySem PySem.Spec PyProof.Rows in
def FJ:=@wpAny_mono
open PySem PySem.Spec PyProof.Rows in
def F9:=@wpAny_seqItems
open PySem PySem.Spec PyProof.Rows in
def Ha:=@wpAny_rule
noncomputable section
noncomputable def PySem.W.Fast.tw6624931968590499922:PySem.Program:=PySem.Challenge.pw_namepaths_k44_least_of_all
theorem PySem.W.Fast.te6624931968590499922:PySem.Challenge.pw_namepaths_k44_least_of_all=PySem.W.Fast.tw6624931968590499922:=rfl
namespace L2
open PySem PySem.Spec PyProof.Rows
noncomputable def Kt (s:Stmt):Arguments:=match s with
 |.FunctionDef _ a _ _ _ _ _ _ _ _=>a
 |_=>{posonlyargs:=[],args:=[],vararg:=none,kwonlyargs:=[],kw_defaults:=[],kwarg:=none,defaults:=[]}
noncomputable def IC (s:Stmt):List Stmt:=match s with
 |.FunctionDef _ _ b _ _ _ _ _ _ _=>b
 |_=>[]
noncomputable def A3 (s:Stmt):Scope:=match s with
 |.FunctionDef _ _ _ _ _ _ sc _ _ _=>sc
 |_=>{kind:=.function,names:=[],isGenerator:=false,isCoroutine:=false}
section
open PySem.W PySem.W.Fast
noncomputable def GL (p:Program) (w:World) (N:Nat):Option Shared:=((tw10274390034422433532 tw14364793385576792824 (opening p) w N (PySem.start (opening p)).1 (PySem.start (opening p)).2).bind (tw14289696077712309145 p)).bind λs₀ =>
 match s₀.heap.isNs mainGlobals && s₀.gens.size==0 with
 |true=>(tw14082659384304107361 tw14364793385576792824 p w s₀.heap.objs.size (s₀.heap.nsMap mainGlobals "__annotations__") N s₀ (topStub p)).bind λs₁=>match staticsOk (tw5923862056798008813 p.main.body) s₀.heap s₁.heap && namesBound p s₁.heap && gensDone s₁ && laidKept s₀.heap s₁.heap with
   |true=>some s₁
   |false=>none
 |false=>none
theorem IT{p q:Program}{loose:List Str}{Xt:Shared->Bool}{α:Type}{Yf:Shared->α}{Ya:World->α}{N:Nat}
 (A:∀w:World,Option.map (λs=>tw4187177175401517315 q loose (tw5923862056798008813 p.main.body) Xt true s) (GL p w N)=some (openGood q loose))
 (B:∀w:World,Option.map Yf (GL p w N)=some (Ya w)):LeftO p q loose Xt Yf Ya N:=by
 intro w;have a:=A w;have b:=B w
 have h:Option.map (λs=>(tw4187177175401517315 q loose (tw5923862056798008813 p.main.body) Xt true s,Yf s)) (GL p w N)=some (openGood q loose,Ya w):=by
  cases e:GL p w N with
  |none=>rw[e] at a;cases a
  |some s =>
    rw[e] at a b;simp only[Option.map_some] at a b ⊢;rw[Bv a,Bv b]
 unfold GL at h;rw[<-te14082659384304107361,<-te10274390034422433532,<-te14364793385576792824,<-te4187177175401517315,<-te5923862056798008813,<-te14289696077712309145] at h;exact h
end
end L2
namespace K44
open PySem PySem.Spec PyProof.Rows PySem.W L2
noncomputable def top (i:Nat):Stmt:=PySem.Challenge.pw_namepaths_k44_least_of_all.main.body.getD i (.Pass ⟨0,0,0,0⟩)
abbrev QY:Stmt:=top 48
abbrev QZ:Stmt:=top 47
abbrev Q0:Stmt:=top 49
abbrev Q1:Stmt:=top 50
abbrev Q2:Stmt:=top 51
abbrev Q3:Stmt:=top 52
abbrev Q4:Stmt:=top 53
abbrev Q5:Stmt:=top 54
abbrev Q6:Stmt:=top 55
abbrev Pa:Stmt:=top 56
abbrev Nt:Stmt:=top 57
abbrev Q7:Stmt:=top 11
abbrev Q8:Stmt:=top 3
abbrev Q9:Stmt:=top 1
abbrev Ra:Stmt:=top 2
abbrev Rb:Stmt:=top 19
abbrev Pb:Stmt:=top 18
abbrev Rc:Stmt:=top 15
abbrev Re:Stmt:=top 12
abbrev Rf:Stmt:=top 16
abbrev Pc:Stmt:=top 22
abbrev Rg:Stmt:=top 23
abbrev Rh:Stmt:=top 8
abbrev Ri:Stmt:=top 24
abbrev Pd:Stmt:=top 21
abbrev Rj:Stmt:=top 27
abbrev Rk:Stmt:=top 29
abbrev Rl:Stmt:=top 9
abbrev Rm:Stmt:=top 30
abbrev Rn:Stmt:=top 31
abbrev MS:Stmt:=top 28
abbrev Ro:Stmt:=top 17
abbrev Rp:Stmt:=top 26
abbrev Rq:Stmt:=top 37
abbrev Rr:Stmt:=top 36
abbrev Rs:Stmt:=top 34
abbrev Rt:Stmt:=top 35
abbrev Ru:Stmt:=top 33
abbrev Rv:Stmt:=top 41
abbrev Pe:Stmt:=top 42
abbrev Rw:Stmt:=top 43
abbrev MT:Stmt:=top 40
abbrev Rx:Stmt:=top 39
abbrev Ry:Stmt:=top 58
abbrev Rz:Stmt:=top 45
abbrev Nu:Stmt:=top 59
abbrev RA:Stmt:=top 60
abbrev ID:Stmt:=top 61
noncomputable def own:Stmt->Bool
 |.Assign [.Name x _] _ _=>x != "__name__"
 |_=>true
noncomputable def view:Program:={PySem.Challenge.pw_namepaths_k44_least_of_all with main:={PySem.Challenge.pw_namepaths_k44_least_of_all.main with body:=PySem.Challenge.pw_namepaths_k44_least_of_all.main.body.filter own}}
noncomputable abbrev Fx (K:Frag) (x:Str) (st:Stmt):Prop:=∃(f:Addr)(oc:Value)(od an:Option Addr)(osl:Array (Option Value))(kV doc pm cdv ct:Value),nsIn K mainGlobals x=some (some (.ref f))/\K.lookup f=some ⟨oc,od,.func (fnOf x x (Kt st) (IC st) (A3 st) .none kV doc pm an cdv ct),osl⟩/\codeIn K cdv x=true/\keepIn K (.ref f)=true
theorem Av{K:Frag}{x:Str}{st:Stmt}{f:Addr}{d:Value}{e g:Option Addr}{i:Array (Option Value)}{kV j h b ct:Value}(a:nsIn K mainGlobals x=some (some (.ref f)))(l:K.lookup f=some ⟨d,e,.func (fnOf x x (Kt st) (IC st) (A3 st) .none kV j h g b ct),i⟩)(c:codeIn K b x=true)(k:keepIn K (.ref f)=true):Fx K x st:=⟨f,d,e,g,i,kV,j,h,b,ct,a,l,c,k⟩
theorem RB{K:Frag}{x:Str}{v:Int}{t:Tok}(h:nsIn K mainGlobals x=some (some (.int v t))):∃t,nsIn K mainGlobals x=some (some (.int v t)):=⟨t,h⟩
structure Ku (K:Frag):Prop where
 q0:Fx K "_law_names" QY
 q1:Fx K "_law_cell_at" QZ
 q2:Fx K "_law_ranks" Q0
 q3:Fx K "_law_order" Q1
 q4:Fx K "_law_table" Q2
 q5:Fx K "_law_question" Q3
 q6:Fx K "_law_thing" Q4
 q7:Fx K "_law_step" Q5
 q8:Fx K "_law_telling" Q6
 q9:Fx K "_law_scopes" Pa
 q10:Fx K "_law_made" Nt
 q11:Fx K "next_state" Q7
 q12:Fx K "inside_of_sort" Q8
 q13:Fx K "inside" Q9
 q14:Fx K "goal" Ra
 q15:Fx K "steps_gone" Rb
 q16:Fx K "longer_by_a_step" Pb
 q17:Fx K "beginnings" Rc
 q18:Fx K "has_end" Re
 q19:Fx K "found_behind" Rf
 q20:Fx K "better_pairs" Pc
 q21:Fx K "tree_of" Rg
 q22:Fx K "label_at" Rh
 q23:Fx K "first_hider" Ri
 q24:Fx K "seen_ways" Pd
 q25:Fx K "look_for" Rj
 q26:Fx K "first_owed" Rk
 q27:Fx K "telling_at" Rl
 q28:Fx K "first_open" Rm
 q29:Fx K "meaning" Rn
 q30:Fx K "met" MS
 q31:Fx K "owed_behind" Ro
 q32:Fx K "look_up" Rp
 q33:Fx K "of_sort" Rq
 q34:Fx K "of_answer" Rr
 q35:Fx K "of_steps" Rs
 q36:Fx K "of_tellings" Rt
 q37:Fx K "questions_of" Ru
 q38:Fx K "found_in_turn" Rv
 q39:Fx K "uses_one" Pe
 q40:Fx K "refuse_tangled" Rw
 q41:Fx K "settled" MT
 q42:Fx K "still" Rx
 q43:Fx K "_law_answers" Ry
 q44:Fx K "find" Rz
 q45:Fx K "_law_same" Nu
 q46:Fx K "_law_holds" RA
 q47:Fx K "law" ID
 z_all:nsIn K mainGlobals "all" = some none
 z_any:nsIn K mainGlobals "any" = some none
 z_bool:nsIn K mainGlobals "bool" = some none
 z_dict:nsIn K mainGlobals "dict" = some none
 z_enumerate:nsIn K mainGlobals "enumerate" = some none
 z_int:nsIn K mainGlobals "int" = some none
 z_isinstance:nsIn K mainGlobals "isinstance" = some none
 z_len:nsIn K mainGlobals "len" = some none
 z_list:nsIn K mainGlobals "list" = some none
 z_min:nsIn K mainGlobals "min" = some none
 z_range:nsIn K mainGlobals "range" = some none
 z_set:nsIn K mainGlobals "set" = some none
 z_sorted:nsIn K mainGlobals "sorted" = some none
 z_str:nsIn K mainGlobals "str" = some none
 z_tuple:nsIn K mainGlobals "tuple" = some none
 z_zip:nsIn K mainGlobals "zip" = some none
 y_MOST_BEGINNINGS:∃t,nsIn K mainGlobals "MOST_BEGINNINGS" = some (some (.int 200 t))
theorem Hb(w:World):Option.map (λs=>Fast.tw4187177175401517315 view [] (Fast.tw5923862056798008813 PySem.Challenge.pw_namepaths_k44_least_of_all.main.body) (λs=>xlAt view [] s && recOk [] s) true s) (GL PySem.Challenge.pw_namepaths_k44_least_of_all w 40000)=some (openGood view []):=by kernel_rfl
end K44
set_option tactic.hygienic false
section
open PySem PySem.W PyProof.Rows
local macro_rules | `(tactic| o_head $H:term) => `(tactic| refine holds_open (q := K44.view) (loose := []) (Xt := fun s => xlAt K44.view [] s && recOk [] s) (XP := XL K44.view []) (Yf := Hook.obs $H) (Ya := Hook.val $H) (YP := Hook.says $H) (N := 40000) ?hl (Hook.of $H) (Hook.keeps $H) (fun s e => xl_of s (Bool.and_eq_true_iff.mp e).1) XL.keeps (by rfl) (by rfl) (by rfl) (fun s e => recFacts_of (Bool.and_eq_true_iff.mp e).2) (by rfl) (by first | assumption | decide +kernel) (by decide +kernel) ⟨rfl, rfl, rfl, rfl, rfl, by decide +kernel⟩ ?hw ?hc)
set_option maxHeartbeats 0 in
theorem K44.hd(a:∀K:Params->Frag,(∀w:World,K44.Ku (K w.params))->∀(YP:World->Heap->Prop)(d:DefRec),d.params.defaults=[]->d.name = "law" -> (∀(w:World)(h:Heap),YP w h->(K w.params).In h)->WalkO K44.view [] (XL K44.view []) YP PySem.Challenge.rw_namepaths_k44_least_of_all.row.toRowW d [] (λf vs=>PySem.call f vs)):PySem.Challenge.rw_namepaths_k44_least_of_all.Holds:=by
 w_on;o_law;k_head
 case hl =>
  refine L2.IT K44.Hb λw=>?_
  kernel_rfl
 case hw=>w_witness2
 k_fill
 refine a _ (λw=>?fx) _ _ rfl rfl (λw h Y=>PySem.W.kIn_of Y)
 case fx =>
  refine' ⟨K44.Av ?a0 ?l0 ?c0 ?k0,K44.Av ?a1 ?l1 ?c1 ?k1,K44.Av ?a2 ?l2 ?c2 ?k2,K44.Av ?a3 ?l3 ?c3 ?k3,K44.Av ?a4 ?l4 ?c4 ?k4,K44.Av ?a5 ?l5 ?c5 ?k5,K44.Av ?a6 ?l6 ?c6 ?k6,K44.Av ?a7 ?l7 ?c7 ?k7,K44.Av ?a8 ?l8 ?c8 ?k8,K44.Av ?a9 ?l9 ?c9 ?k9,K44.Av ?a10 ?l10 ?c10 ?k10,K44.Av ?a11 ?l11 ?c11 ?k11,K44.Av ?a12 ?l12 ?c12 ?k12,K44.Av ?a13 ?l13 ?c13 ?k13,K44.Av ?a14 ?l14 ?c14 ?k14,K44.Av ?a15 ?l15 ?c15 ?k15,K44.Av ?a16 ?l16 ?c16 ?k16,K44.Av ?a17 ?l17 ?c17 ?k17,K44.Av ?a18 ?l18 ?c18 ?k18,K44.Av ?a19 ?l19 ?c19 ?k19,K44.Av ?a20 ?l20 ?c20 ?k20,K44.Av ?a21 ?l21 ?c21 ?k21,K44.Av ?a22 ?l22 ?c22 ?k22,K44.Av ?a23 ?l23 ?c23 ?k23,K44.Av ?a24 ?l24 ?c24 ?k24,K44.Av ?a25 ?l25 ?c25 ?k25,K44.Av ?a26 ?l26 ?c26 ?k26,K44.Av ?a27 ?l27 ?c27 ?k27,K44.Av ?a28 ?l28 ?c28 ?k28,K44.Av ?a29 ?l29 ?c29 ?k29,K44.Av ?a30 ?l30 ?c30 ?k30,K44.Av ?a31 ?l31 ?c31 ?k31,K44.Av ?a32 ?l32 ?c32 ?k32,K44.Av ?a33 ?l33 ?c33 ?k33,K44.Av ?a34 ?l34 ?c34 ?k34,K44.Av ?a35 ?l35 ?c35 ?k35,K44.Av ?a36 ?l36 ?c36 ?k36,K44.Av ?a37 ?l37 ?c37 ?k37,K44.Av ?a38 ?l38 ?c38 ?k38,K44.Av ?a39 ?l39 ?c39 ?k39,K44.Av ?a40 ?l40 ?c40 ?k40,K44.Av ?a41 ?l41 ?c41 ?k41,K44.Av ?a42 ?l42 ?c42 ?k42,K44.Av ?a43 ?l43 ?c43 ?k43,K44.Av ?a44 ?l44 ?c44 ?k44,K44.Av ?a45 ?l45 ?c45 ?k45,K44.Av ?a46 ?l46 ?c46 ?k46,K44.Av ?a47 ?l47 ?c47 ?k47,?z_all,?z_any,?z_bool,?z_dict,?z_enumerate,?z_int,?z_isinstance,?z_len,?z_list,?z_min,?z_range,?z_set,?z_sorted,?z_str,?z_tuple,?z_zip,K44.RB ?y_MOST_BEGINNINGS⟩
  case a0|l0|c0|k0|a1|l1|c1|k1|a2|l2|c2|k2|a3|l3|c3|k3|a4|l4|c4|k4|a5|l5|c5|k5|a6|l6|c6|k6|a7|l7|c7|k7|a8|l8|c8|k8|a9|l9|c9|k9|a10|l10|c10|k10|a11|l11|c11|k11|a12|l12|c12|k12|a13|l13|c13|k13|a14|l14|c14|k14|a15|l15|c15|k15|a16|l16|c16|k16|a17|l17|c17|k17|a18|l18|c18|k18|a19|l19|c19|k19|a20|l20|c20|k20|a21|l21|c21|k21|a22|l22|c22|k22|a23|l23|c23|k23|a24|l24|c24|k24|a25|l25|c25|k25|a26|l26|c26|k26|a27|l27|c27|k27|a28|l28|c28|k28|a29|l29|c29|k29|a30|l30|c30|k30|a31|l31|c31|k31|a32|l32|c32|k32|a33|l33|c33|k33|a34|l34|c34|k34|a35|l35|c35|k35|a36|l36|c36|k36|a37|l37|c37|k37|a38|l38|c38|k38|a39|l39|c39|k39|a40|l40|c40|k40|a41|l41|c41|k41|a42|l42|c42|k42|a43|l43|c43|k43|a44|l44|c44|k44|a45|l45|c45|k45|a46|l46|c46|k46|a47|l47|c47|k47|z_all|z_any|z_bool|z_dict|z_enumerate|z_int|z_isinstance|z_len|z_list|z_min|z_range|z_set|z_sorted|z_str|z_tuple|z_zip|y_MOST_BEGINNINGS=>k_is
end
set_option Elab.async false
set_option linter.all false
set_option maxRecDepth 100000
namespace L2
open PySem PySem.Spec PyProof.Rows
abbrev AN:=Sum Int Str
def MU:AN->Value->Bool
 |.inl k,v=>Value.isInt k v
 |.inr x,v=>Value.isStrOf x v
def RC (w:World):AN->Int
 |.inl k=>hashInt k
 |.inr x=>hashStr w x
theorem IU:∀{k:AN}{v:Value},MU k v=true->(∃i t,k=Sum.inl i/\v=Value.int i t)\/(∃x t,k=Sum.inr x/\v=Value.str x t)
 |.inl i,v,h=>by
   obtain⟨t,e⟩:=Value.isInt_shape (k:=i) (v:=v) h;exact .inl ⟨i,t,rfl,e⟩
 |.inr x,v,h=>by
   obtain⟨t,e⟩:=Value.isStrOf_shape (x:=x) (v:=v) h;exact .inr ⟨x,t,rfl,e⟩
theorem XM(i:Int)(t:Tok):MU (.inl i) (.int i t)=true:=by simp[MU,Value.isInt]
theorem XN(x:Str)(t:Tok):MU (.inr x) (.str x t)=true:=by simp[MU,Value.isStrOf]
theorem K4(a b:Int):decide ((Sum.inl a:AN)=Sum.inl b)=(a==b):=by
 by_cases e:a=b;subst e;simp;have h:¬(Sum.inl a:AN)=Sum.inl b:=λq=>e (Sum.inl.inj q);rw[DT h];exact(beq_eq_false_iff_ne.mpr e).symm
theorem K5(a b:Str):decide ((Sum.inr a:AN)=Sum.inr b)=decide (a=b):=by
 by_cases e:a=b;subst e;simp;have h:¬(Sum.inr a:AN)=Sum.inr b:=λq=>e (Sum.inr.inj q);rw[DT h,DT e]
theorem K6(a:Int)(b:Str):decide ((Sum.inl a:AN)=Sum.inr b)=false:=DT (λq=>nomatch q)
theorem K7(a:Str)(b:Int):decide ((Sum.inr a:AN)=Sum.inl b)=false:=DT (λq=>nomatch q)
def EL (prog:Program) (w:World):PySem.KeyKind prog w AN where
 is:=MU
 hash:=RC w
 inj:=λv a b ha hb=>by
  rcases IU ha with⟨i,t,rfl,rfl⟩|⟨x,t,rfl,rfl⟩;rcases IU hb with⟨j,u,rfl,e⟩|⟨y,u,rfl,e⟩;injection e with e1 _;rw[e1];exact nomatch e;rcases IU hb with⟨j,u,rfl,e⟩|⟨y,u,rfl,e⟩;exact nomatch e;injection e with e1 _;rw[e1]
 byValue:=λk v h=>by
  rcases IU h with⟨i,t,rfl,rfl⟩|⟨x,t,rfl,rfl⟩<;>rfl
 pyHash:=λhv h=>by
  rcases IU hv with⟨i,t,rfl,rfl⟩|⟨x,t,rfl,rfl⟩;exact wpAny_pyHash_int h;exact wpAny_pyHash_str h
 eqBool:=λhu hv h=>by
  rcases IU hu with⟨i,t,rfl,rfl⟩|⟨x,t,rfl,rfl⟩;rcases IU hv with⟨j,u,rfl,rfl⟩|⟨y,u,rfl,rfl⟩;rw[K4] at h;exact wpAny_eqBool_int h;rw[K6] at h;exact SeqAt.EqAt.int_str i t y u _ _ _ _ h;rcases IU hv with⟨j,u,rfl,rfl⟩|⟨y,u,rfl,rfl⟩;rw[K7] at h;exact SeqAt.EqAt.str_int x t j u _ _ _ _ h;rw[K5] at h;exact wpAny_eqBool_str h
 «strs»:=λk x t v h=>by
  rcases IU h with⟨i,u,rfl,e⟩|⟨y,u,rfl,e⟩;exact nomatch e;injection e with e1 _;subst e1;cases v<;>rfl
theorem XO(prog:Program)(w:World)(i:Int)(t:Tok):(EL prog w).is (.inl i) (.int i t)=true:=XM i t
theorem XQ(prog:Program)(w:World)(x:Str)(t:Tok):(EL prog w).is (.inr x) (.str x t)=true:=XN x t
inductive V where
 |non|bl (b:Bool)|int (i:Int)|str (x:Str)|byt (b:Array UInt8)|flt (b:UInt64)|ref (a:Addr)|ty (n:String)
 deriving DecidableEq
def RelV:V->Value->Prop
 |.non,u=>u=Value.none
 |.bl b,u=>u=Value.bool b
 |.int i,u=>∃t,u=Value.int i t
 |.str x,u=>∃t,u=Value.str x t
 |.byt b,u=>∃t,u=Value.bytes b t
 |.flt b,u=>∃t,u=Value.float b t
 |.ref a,u=>u=Value.ref a
 |.ty n,u=>u=Value.type n
abbrev As:List V->List Value->Prop:=Paired RelV
theorem As.length{xs:List V}{us:List Value}(r:As xs us):xs.length=us.length:=Paired.length r
theorem As.get:∀{xs:List V}{us:List Value}{i:Nat}{x:V},As xs us->xs[i]?=some x->∃u,us[i]?=some u/\RelV x u
 |_,_,_,_,.nil,e=>by simp at e
 |_,_,0,_,.cons r _,e=>by simp at e;subst e;exact⟨_,rfl,r⟩
 |_,_,i+1,x,.cons _ t,e=>by
   obtain⟨u,a,b⟩:=As.get (i:=i) (x:=x) t (by simpa using e);exact⟨u,by simpa using a,b⟩
theorem As.set{x:V}{u:Value}(r:RelV x u):∀{xs:List V}{us:List Value}(i:Nat),As xs us->As (xs.set i x) (us.set i u)
 |_,_,_,.nil=>.nil
 |_,_,0,.cons _ t=>.cons r t
 |_,_,i+1,.cons q t=>.cons q (As.set r i t)
theorem As.append:∀{xs ys:List V}{us ws:List Value},As xs us->As ys ws->As (xs++ys) (us++ws)
 |_,_,_,_,.nil,s=>s
 |_,_,_,_,.cons r t,s=>.cons r (As.append t s)
theorem As.take:∀{xs:List V}{us:List Value}(n:Nat),As xs us->As (xs.take n) (us.take n)
 |_,_,0,_=>.nil
 |_,_,_+1,.nil=>.nil
 |_,_,n+1,.cons r t=>.cons r (As.take n t)
theorem As.drop:∀{xs:List V}{us:List Value}(n:Nat),As xs us->As (xs.drop n) (us.drop n)
 |_,_,0,r=>r
 |_,_,_+1,.nil=>.nil
 |_,_,n+1,.cons _ t=>As.drop n t
def Ea:Option V->Option Value->Prop
 |some v,some u=>RelV v u
 |none,none=>True
 |_,_=>False
def KV {κ:Type}:List (κ×V)->List (κ×Value)->Prop:=Paired λ(p:κ×V)(q:κ×Value)=>p.1=q.1/\RelV p.2 q.2
def kV:AN->V
 |.inl i=>.int i
 |.inr x=>.str x
inductive HO where
 |lst (xs:List V)
 |tup (xs:List V)
 |dK (kvs:List (AN×V))|dT (kvs:List (List AN×V))
 |set (S:Int->Bool) (n:Nat)
 |ins (C dx:Addr) (fs:List (Str×V))
 |own (x:Addr)
 |xd (fs:List (Str×V))
 |met (f x:Addr)
 |rng (lo hi:Int)
 |frz (o:Obj) (u:HO)
 |tbl (ps:Array Value)
 |ext (φ:Heap->Prop)
abbrev Hp:=Addr->Option HO
def upd (H:Hp) (a:Addr) (o:HO):Hp:=λb=>if b=a then some o else H b
variable {H:Hp}{a:Addr}{o:HO}
theorem Aa:upd H a o a=some o:=by unfold upd;rw[Ak rfl]
variable {b:Addr}
theorem AD(h:b≠a):upd H a o b=H b:=by unfold upd;rw[Aj h]
variable {u:HO}
theorem UB:upd (upd H a o) a u=upd H a u:=by
 funext b;unfold upd;split<;>rfl
theorem MV(h:H a=some o)(h':H b=some u)(d:o≠u):a≠b:=by
 intro e;subst e;rw[h] at h';exact d (Bv h')
theorem AH(h:H a=some o)(h':H b=none):a≠b:=by
 intro e;subst e;rw[h] at h';cases h'
section
variable (P:Program) (w:World)
def Az (H:Hp) (h:Heap) (a:Addr):HO->Prop
 |.lst xs=>xs.length<=sizeLine/\∃(its:List Value)(n:Nat),As xs its/\h.get? a=some {cls:=.type "list",data:=.seq its.toArray n}
 |.tup xs=>xs.length<=sizeLine/\∃its:List Value,As xs its/\IsTup h a its.toArray
 |.dK kvs=>kvs.length<=sizeLine/\(a==sysModules)=false/\∃vs,KV kvs vs/\h.DictOf (EL P w) a vs
 |.dT kvs=>kvs.length<=sizeLine/\(a==sysModules)=false/\∃xs:List (List AN×Addr×Value),
  Paired (λ(p:List AN×V)(q:List AN×Addr×Value)=>p.1=q.1/\H q.2.1=some (.tup (p.1.map kV))/\RelV p.2 q.2.2) kvs xs /\
  ∃o es ep,h.get? a=some o/\o.ExactDict/\o.data=.dict es ep/\es.toList=xs.map (entryOfKey (tupleKind (EL P w)))/\(xs.map (·.1)).Nodup
 |.set S n=>h.SetOf (intKind P w) a S n
 |.ins C dx fs=>H dx=some (.own a)/\fs.length<=1000/\dx≠a/\h.get? a=some (PySem.W.instObj C dx) /\
  ∃mA,h.Ns1 dx mA/\(∀f,Ea (fs.lookup f) (mA f))/\PySem.Within mA (fs.map (·.1))
 |.own _=>∃o,h.get? a=some o
 |.xd fs=>∃mA,h.Ns1 a mA/\∀f,Ea (fs.lookup f) (mA f)
 |.rng lo hi=>∃t u v,h.get? a=some {cls:=.type "range",data:=.fields #[.int lo t,.int hi u,.int 1 v]}
 |.frz o u=>h.get? a=some o/\Az H h a u
 |.tbl ps=>h.get? a=some {cls:=.none,data:=.fields ps}
 |.met f x=>h.get? a=some (PySem.W.methodObj (.ref f) (.ref x))
 |.ext φ=>φ h/\(∃o,h.get? a=some o)/\∀h1 h2:Heap,φ h1->(∀o,h1.get? a=some o->h2.get? a=some o)->φ h2
def CW (H:Hp) (h:Heap):Prop:=∀a o,H a=some o->Az P w H h a o
end
section
variable {P:Program} {w:World} {H H':Hp} {h h':Heap} {a:Addr} {o:HO}
theorem Az.lt(x:Az P w H h a o):a<h.objs.size:=by
 cases o with
 |lst b=>obtain⟨_,_,_,_,e⟩:=x;exact A1 e
 |tup b=>obtain⟨_,_,_,p⟩:=x;exact p.lt
 |dK c=>obtain⟨_,_,_,_,o,_,_,e,_⟩:=x;exact A1 e
 |dT c=>obtain⟨_,_,_,_,o,_,_,e,_⟩:=x;exact A1 e
 |set S n=>obtain⟨o,_,_,_,e,_⟩:=x;exact A1 e
 |ins C d fs=>obtain⟨_,_,_,e,_⟩:=x;exact A1 e
 |own y=>obtain⟨_,e⟩:=x;exact A1 e
 |xd fs=>obtain⟨_,⟨_,_,_,e,_⟩,_⟩:=x;exact A1 e
 |rng lo g=>obtain⟨_,_,_,e⟩:=x;exact A1 e
 |frz i u=>obtain⟨e,_⟩:=x;exact A1 e
 |tbl j=>exact A1 (show h.get? a=some _ from x)
 |met f y=>exact A1 (show h.get? a=some _ from x)
 |ext φ=>obtain⟨_,⟨_,e⟩,_⟩:=x;exact A1 e
theorem Paired.mapP{α β:Type}{F G:α->β->Prop}:∀{c:List α}{d:List β},Paired F c d->(∀a b,F a b->G a b)->Paired G c d
 |_,_,.nil,_=>.nil
 |_,_,.cons r t,f=>.cons (f _ _ r) (Paired.mapP t f)
theorem Az.stay(x:Az P w H h a o)(k:∀b u,(b=a\/H b=some (.own a))->h.get? b=some u->h'.get? b=some u)
 (B:∀b,H b=some (.own a)->H' b=some (.own a)) (D:∀b xs,H b=some (.tup xs)->H' b=some (.tup xs)):Az P w H' h' a o:=by
 induction o with
 |lst xs=>obtain⟨z,m,n,r,e⟩:=x;exact⟨z,m,n,r,k _ _ (.inl rfl) e⟩
 |tup xs=>obtain⟨z,m,r,g,e,c⟩:=x;exact⟨z,m,r,g,k _ _ (.inl rfl) e,c⟩
 |dK I=>obtain⟨z,y,E,r,g,i,j,e,c⟩:=x;exact⟨z,y,E,r,g,i,j,k _ _ (.inl rfl) e,c⟩
 |dT I =>
   obtain⟨z,y,xs,r,g,i,j,e,c⟩:=x;exact⟨z,y,xs,Paired.mapP r λp q z=>⟨z.1,D _ _ z.2.1,z.2.2⟩,g,i,j,k _ _ (.inl rfl) e,c⟩
 |set S n=>obtain⟨g,i,j,t,e,c⟩:=x;exact⟨g,i,j,t,k _ _ (.inl rfl) e,c⟩
 |ins C J fs =>
   obtain⟨d,z,ne,e,mA,⟨l,i,j,F,c⟩,r⟩:=x;exact⟨B _ d,z,ne,k _ _ (.inl rfl) e,mA,⟨l,i,j,k _ _ (.inr d) F,c⟩,r⟩
 |own y=>obtain⟨g,e⟩:=x;exact⟨g,k _ _ (.inl rfl) e⟩
 |xd fs=>obtain⟨mA,⟨l,i,j,e,c⟩,r⟩:=x;exact⟨mA,⟨l,i,j,k _ _ (.inl rfl) e,c⟩,r⟩
 |rng lo K=>obtain⟨t,u,v,e⟩:=x;exact⟨t,u,v,k _ _ (.inl rfl) e⟩
 |frz g u G=>obtain⟨e,q⟩:=x;exact⟨k _ _ (.inl rfl) e,G q⟩
 |tbl s =>
   have e:h.get? a=some {cls:=.none,data:=.fields s}:=x;show h'.get? a=some {cls:=.none,data:=.fields s};exact k a _ (.inl rfl) e
 |met f y =>
   have e:h.get? a=some (PySem.W.methodObj (.ref f) (.ref y)):=x;show h'.get? a=some (PySem.W.methodObj (.ref f) (.ref y));exact k a _ (.inl rfl) e
 |ext φ=>obtain⟨p,⟨o,e⟩,A⟩:=x;exact⟨A _ _ p λo q=>k _ _ (.inl rfl) q,⟨o,k _ _ (.inl rfl) e⟩,A⟩
theorem CW.lt(x:CW P w H h)(e:H a=some o):a<h.objs.size:=(x a o e).lt
theorem CW.fresh(x:CW P w H h)(e:h.objs.size<=a):H a=none:=by
 cases q:H a with
 |none=>rfl
 |some u=>exact absurd (FH (x.lt q) e) (F7 _)
theorem CW.kept(x:CW P w H h)(k:∀b u,h.get? b=some u->h'.get? b=some u):CW P w H h':=λa o e =>
 (x a o e).stay (λb u _ q=>k b u q) (λ_ q=>q) λ_ _ q=>q
theorem CW.laid(x:CW P w H h)(k:∀b u,h.get? b=some u->h'.get? b=some u)(g:h.objs.size<=a)(i:Az P w (upd H a o) h' a o):CW P w (upd H a o) h':=λb u e=>by
 have d:=x.fresh g;by_cases f:b=a;subst f;rw[Aa] at e;cases e;exact i;rw[AD f] at e;exact(x b u e).stay (λc v _ q=>k c v q) (λc q=>by rw[AD (AH q d)];exact q) λc j q=>by rw[AD (AH q d)];exact q
end
def Rd (H:Hp) (a:Addr) (u:HO):Prop:=H a=some u\/∃o,H a=some (.frz o u)
variable {P:Program}{w:World}{h:Heap}
theorem Rd.ok(r:Rd H a u)(x:CW P w H h):Az P w H h a u:=by
 rcases r with r|⟨o,r⟩;exact x a u r;obtain⟨_,q⟩:=x a _ r;exact q
def Nv:Option HO->Prop
 |some (.lst _)=>True
 |some (.dK _)=>True
 |some (.dT _)=>True
 |some (.set _ _)=>True
 |some (.ins _ _ _)=>True
 |some (.ext _)=>True
 |_=>False
section
variable {P:Program} {w:World} {H:Hp} {h h':Heap} {x e:Addr} {o':HO}
theorem CW.write(ok:CW P w H h)(a:Nv (H x))(j:e=x\/H e=some (.own x))(k:∀b u,b≠e->h.get? b=some u->h'.get? b=some u)(o:∃u,h'.get? e=some u)
 (p:Az P w (upd H x o') h' x o'):CW P w (upd H x o') h':=λb u q=>by
 have m:∀c y,H c=some (.own y)->c≠x:=λc y r z=>by subst z;rw[r] at a;exact a
 have s:∀c d,H c=some (.tup d)->c≠x:=λc d r z=>by subst z;rw[r] at a;exact a
 by_cases f:b=x;subst f;rw[Aa] at q;cases q;exact p;rw[AD f] at q;by_cases i:b=e
 have l:H b=some (.own x):=by
  rcases j with z|z;exact absurd (i.trans z) f;rw[i];exact z
 rw[q] at l;cases l;obtain⟨v,n⟩:=o;exact⟨v,by rw[i];exact n⟩;refine(ok b u q).stay (λc v g r=>k c v ?_ r) (λc r=>by rw[AD (m c b r)];exact r) λc d r=>by rw[AD (s c d r)];exact r
 rcases g with rfl|g;exact i;rintro rfl;rcases j with z|z;exact m c b g z;rw[g] at z;cases z;exact f rfl
end
structure Un (fs ex:List Addr) (H H':Hp) (h h':Heap):Prop where
 keep:∀b o,h.get? b=some o->H b=none->b∉fs->b∉ex->h'.get? b=some o
 slot:∀b o,h.get? b=some o->H b=none->b∈fs->b∉ex->∃sl,h'.get? b=some {o with slots:=sl}
 free:∀b o,h.get? b=some o->H b=none->b∉ex->H' b=none
 there:∀b o,h.get? b=some o->b∉ex->∃o',h'.get? b=some o'
 tups:∀b xs,H b=some (.tup xs)->H' b=some (.tup xs)
 frzs:∀b o u,H b=some (.frz o u)->H' b=some (.frz o u)
 tbls:∀b ps,H b=some (.tbl ps)->∃more,H' b=some (.tbl (ps++more))
section
variable {fs fs' ex ex':List Addr} {H Y H2:Hp} {h h1 h2 h':Heap} {a x e:Addr} {o:HO}
theorem Un.any(u:Un fs ex H Y h h1){ob:Obj}(q:h.get? b=some ob)(n:H b=none)(a:b∉ex):∃d,h1.get? b=some {ob with slots:=d}:=by
 by_cases c:b∈fs;exact u.slot b ob q n c a;exact⟨ob.slots,u.keep b ob q n c a⟩
theorem Un.kept(k:∀b u,h.get? b=some u->h'.get? b=some u):Un fs ex H H h h':=
 ⟨λb a q _ _ _=>k b a q,λb a q _ _ _=>⟨a.slots,k b a q⟩,λ_ _ _ n _=>n,λb a q _=>⟨a,k b a q⟩,λ_ _ q=>q,λ_ _ _ q=>q,λ_ c q=>⟨#[],by rw[q];simp⟩⟩
theorem Un.refl:Un fs ex H H h h:=Un.kept λ_ _ q=>q
theorem Un.laid(k:∀b u,h.get? b=some u->h'.get? b=some u)(d:h.objs.size<=a)(c:H a=none):Un fs ex H (upd H a o) h h' where
 keep:=λb u q _ _ _=>k b u q
 slot:=λb u q _ _ _=>⟨u.slots,k b u q⟩
 free:=λb u q n _=>by rw[AD (CU (FH (A1 q) d))];exact n
 there:=λb u q _=>⟨u,k b u q⟩
 tups:=λb e q=>by rw[AD (AH q c)];exact q
 frzs:=λb u e q=>by rw[AD (AH q c)];exact q
 tbls:=λb f q=>⟨#[],by rw[AD (AH q c),q];simp⟩
theorem Un.write(a:Nv (H x))(i:e=x\/H e=some (.own x))(k:∀b u,b≠e->h.get? b=some u->h'.get? b=some u)(m:∃u,h'.get? e=some u):Un fs ex H (upd H x o) h h':=by
 have d:∀b,H b=none->b≠x:=λb n z=>by subst z;rw[n] at a;exact a
 have f:∀b,H b=none->b≠e:=λb n z=>by
  subst z;rcases i with r|r;exact d b n r;rw[n] at r;cases r
 have c:∀b u,H b=some u->¬Nv (some u)->b≠x:=λb u q j z=>by subst z;rw[q] at a;exact j a
 refine⟨λb u q n _ _=>k b u (f b n) q,λb u q n _ _=>⟨u.slots,k b u (f b n) q⟩,λb u q n _=>by rw[AD (d b n)];exact n,λb u q _=>?_,
  λb l q=>by rw[AD (c b _ q λz=>z)];exact q,λb u l q=>by rw[AD (c b _ q λz=>z)];exact q,λb p q=>⟨#[],by rw[AD (c b _ q λz=>z),q];simp⟩⟩
 by_cases g:b=e;subst g;exact m;exact⟨u,k b u g q⟩
end
def G0 (h:Heap) (H:Hp):List Addr:=(List.range h.objs.size).filter λa=>(H a).isSome
def Fk (h:Heap) (H:Hp):Heap:=PySem.W.hideAll h (G0 h H)
theorem XR(h:Heap)(H:Hp):(Fk h H).objs.size=h.objs.size:=PySem.W.hideAll_size _ _
theorem XS{o:Obj}(e:h.get? b=some o)(n:H b=none):(Fk h H).get? b=some o:=
 PySem.W.hideAll_get _ e λa=>by
  have q:(H b).isSome=true:=(MN.mp a).2;rw[n] at q;simp at q
theorem IV{o:Obj}(e:(Fk h H).get? b=some o):h.get? b=some o/\H b=none:=by
 have a:h.get? b=some o:=PySem.W.of_hideAll (G0 h H) e;refine⟨a,?_⟩
 cases q:H b with
 |none=>rfl
 |some x =>
   have c:b∈G0 h H:=MN.mpr ⟨List.mem_range.mpr (A1 a),by simp[q]⟩;have z:(Fk h H).get? b=none:=PySem.W.hideAll_none (G0 h H) c;rw[z] at e;cases e
structure Mod (K:Ah) (mg:Str->Option Value) (base:Heap):Prop where
 kin:K.In base
 glob:base.Ns mainGlobals mg
 blt:∃mb,base.Ns builtinsNs mb/\∀x:Str,x ≠ "__name__" -> mb x=bootBuiltins x
 nolimit:base.NoLimit
structure Cx where
 prog:Program
 w:World
 K:Ah
 mg:Str->Option Value
 base:Heap
 A:Around
 N:List Str
 s₀:Shared
 H₀:Hp
 env:Env
 outer:List Env
 stack:List Env
 ex:List Addr
 fn:Str->Bool
 calm:Bool
 pn:List (Addr×Obj)
 xe:Value->Shared->Prop
def E2 (l:List Env):List Addr:=l.filterMap (·.frame)
abbrev Cx.fs (X:Cx):List Addr:=E2 X.outer
def Pf (sc:Scope) (x:Str):Prop:=sc.names.lookup x=some .local\/sc.names.lookup x=some .cell\/sc.names.lookup x=some .free
def Loc (sc:Scope) (x:Str):Prop:=sc.names.lookup x=some .local\/sc.names.lookup x=some .cell
def Look (env:Env) (h:Heap) (m:Str->Option Value) (x:Str) (u:Value):Prop:=
 (env.kindOf x=some .local/\m x=some u)\/((env.kindOf x=some .cell\/env.kindOf x=some .free)/\∃c,env.cells.lookup x=some c/\h.IsCell c (some u))
structure Cx.Ok (X:Cx):Prop where
 mod:Mod X.K X.mg X.base
 kind:X.env.scope.kind=.function
 glob:X.env.globals=mainGlobals
 blt:X.env.builtins=builtinsNs
 above:X.s₀.heap.objs.size<=X.env.locals
 inj:∀x y c,X.env.cells.lookup x=some c->X.env.cells.lookup y=some c->x=y
 has:∀x,(X.env.kindOf x=some .cell\/X.env.kindOf x=some .free)->∃c,X.env.cells.lookup x=some c
 cab:∀x c,X.fn x=true->X.env.cells.lookup x=some c->X.s₀.heap.objs.size<=c
 hd:X.calm=true->X.A.handled=none
 frames:X.A.frames=some X.stack
 stk:X.stack=X.outer\/(X.stack=X.env::X.outer/\X.env.frame=some X.env.locals)
 exf:∀b∈X.ex,b≠X.env.locals/\∀x c,X.env.cells.lookup x=some c->c≠b
 bs:∀b o,X.base.get? b=some o->X.s₀.heap.get? b=some o/\X.H₀ b=none
 bsz:X.base.objs.size<=X.s₀.heap.objs.size
 noex:∀b o,X.base.get? b=some o->b∉X.ex
 exfs:∀b∈X.ex,b∉X.fs
 funs:X.s₀.heap.FunFrames X.base X.outer
 frf:∀b∈X.fs,X.H₀ b=none
structure Inv (X:Cx) (pins:List (Addr×Obj)) (σ:List (Option V)) (H:Hp) (s:Shared):Prop where
 ok:X.Ok
 os:s.os=X.s₀.os
 bare:AllBare s.gens
 base:Un X.fs X.ex X.H₀ H X.s₀.heap s.heap
 loc:∃m,s.heap.Ns X.env.locals m/\∀(i:Nat)(x:Str)(v:V),X.N[i]?=some x->σ[i]?=some (some v)->Pf X.env.scope x->∃u,RelV v u/\Look X.env s.heap m x u
 cell:∀x c,X.env.cells.lookup x=some c->∃v,s.heap.IsCell c v
 free:H X.env.locals=none
 freeC:∀x c,X.env.cells.lookup x=some c->H c=none
 pin:∀p∈X.pn++pins,s.heap.get? p.1=some p.2/\H p.1=none/\p.1≠X.env.locals/\p.1∉X.fs/\∀v,p.2.data≠.cell v
 hok:CW X.prog X.w H s.heap
 len:σ.length=X.N.length
section
variable {X:Cx} {pins:List (Addr×Obj)} {σ:List (Option V)} {H H':Hp} {s:Shared} {h':Heap}
theorem Cx.Ok.nofr(ok:X.Ok){o:Obj}(e:X.base.get? b=some o):b∉X.fs:=λa=>by
 have:=(ok.funs.mem a).1;rw[e] at this;cases this
theorem Inv.bs(I:Inv X pins σ H s):∀b o,X.base.get? b=some o->s.heap.get? b=some o/\H b=none:=λb o e =>
 ⟨I.base.keep b o (I.ok.bs b o e).1 (I.ok.bs b o e).2 (I.ok.nofr e) (I.ok.noex b o e),I.base.free b o (I.ok.bs b o e).1 (I.ok.bs b o e).2 (I.ok.noex b o e)⟩
theorem Inv.bk(I:Inv X pins σ H s):∀b o,X.base.get? b=some o->s.heap.get? b=some o:=λb o e=>(I.bs b o e).1
theorem Inv.mod(I:Inv X pins σ H s):Mod X.K X.mg X.base:=I.ok.mod
theorem Inv.kIn(I:Inv X pins σ H s):X.K.In s.heap:=I.ok.mod.kin.keeps I.bk
theorem Inv.lt(I:Inv X pins σ H s):X.env.locals<s.heap.objs.size:=let ⟨_,a,_⟩:=I.loc;a.lt
theorem Inv.sz(I:Inv X pins σ H s):X.s₀.heap.objs.size<=s.heap.objs.size:=El I.ok.above (Di I.lt)
theorem Inv.nofs(I:Inv X pins σ H s)(h:s.heap.objs.size<=a):a∉X.fs:=λb=>by
 obtain⟨_,o,c,_⟩:=I.ok.funs.mem b;exact absurd (FH (A1 c) (El I.sz h)) (F7 _)
theorem Inv.cne(I:Inv X pins σ H s):∀x c,X.env.cells.lookup x=some c->c≠X.env.locals:=λx c e z=>by
 obtain⟨v,o,a,hd⟩:=I.cell x c e;obtain⟨m,⟨f,g,h,b,d,_⟩,_⟩:=I.loc;rw[z,b] at a;cases a;rw[d] at hd;cases hd
theorem Inv.funs(I:Inv X pins σ H s):s.heap.FunFrames X.base X.outer:=by
 have all:∀(l:List Env),(∀b∈E2 l,b∈X.fs)->X.s₀.heap.FunFrames X.base l->s.heap.FunFrames X.base l:=by
  intro l
  induction l with
  |nil=>intro _ _;trivial
  |cons p r g =>
    intro f h;obtain⟨i,⟨L,o,a,j,k,hd⟩,m⟩:=h;have c:L∈X.fs:=f L (by unfold E2;rw[QX,a];exact Bz);obtain⟨n,e⟩:=I.base.slot L o k (I.ok.frf L c) c λz=>I.ok.exfs L z c;exact⟨i,⟨L,_,a,j,e,hd⟩,g (λb d=>f b (by unfold E2;rw[QX,a];exact Cj _ d)) m⟩
 exact all X.outer (λ_ d=>d) I.ok.funs
theorem Inv.stack(I:Inv X pins σ H s):s.heap.FunFrames X.base X.stack:=by
 rcases I.ok.stk with e|⟨e,a⟩;rw[e];exact I.funs;rw[e];obtain⟨m,b,_⟩:=I.loc;refine .cons (by rw[I.ok.kind];decide) a b ?_ I.funs;exact Heap.get?_none_of_le (El I.ok.bsz I.ok.above)
theorem Inv.stkSub(I:Inv X pins σ H s):∀b∈E2 X.stack,b∈X.env.locals::X.fs:=λb a=>by
 rcases I.ok.stk with e|⟨e,c⟩;rw[e] at a;exact Cj _ a;rw[e] at a;unfold E2 at a;rw[QX,c] at a;exact a
theorem Inv.stkFree(I:Inv X pins σ H s):∀b∈E2 X.stack,H b=none:=λb a=>by
 rcases Ch.mp (I.stkSub b a) with e|a;rw[e];exact I.free;obtain⟨_,o,c,_⟩:=I.ok.funs.mem a;exact I.base.free b o c (I.ok.frf b a) λz=>I.ok.exfs b z a
variable {t':Nat}{ch:List Addr}
theorem Inv.step{g':Array GenState}{d':Drawn}(I:Inv X pins σ H s)
 (w:∀b∈ch,(b∈X.ex\/X.s₀.heap.objs.size<=b)/\b≠X.env.locals/\(∀x c,X.env.cells.lookup x=some c->c≠b)/\∀p∈X.pn++pins,p.1≠b)
 (keep:∀b o,b≠X.env.locals->b∉X.fs->b∉ch->s.heap.get? b=some o->H b=none->h'.get? b=some o)
 (G:∀b o,b≠X.env.locals->b∈X.fs->b∉ch->s.heap.get? b=some o->H b=none->∃B,h'.get? b=some {o with slots:=B}) (free:∀b o,b∉ch->s.heap.get? b=some o->H b=none->H' b=none)
 (there:∀b o,b∉ch->s.heap.get? b=some o->∃j,h'.get? b=some j)
 (tups:∀b xs,H b=some (.tup xs)->H' b=some (.tup xs)) (S:∀b o u,H b=some (.frz o u)->H' b=some (.frz o u)) (T:∀b ps,H b=some (.tbl ps)->∃more,H' b=some (.tbl (ps++more)))
 (ns:∀m,s.heap.Ns X.env.locals m->h'.Ns X.env.locals m) (Q:CW X.prog X.w H' h') (K:AllBare g') :
 Inv X pins σ H' {s with heap:=h',gens:=g',drawn:=d',toks:=t'}:=by
 have F:∀b o,X.s₀.heap.get? b=some o->b≠X.env.locals:=λb o e=>CU (FH (A1 e) I.ok.above)
 have A:∀b o,X.s₀.heap.get? b=some o->b∉X.ex->b∉ch:=λb o e a g=>by
  rcases(w b g).1 with z|z;exact a z;exact absurd (FH (A1 e) z) (F7 _)
 have J:∀x c,X.env.cells.lookup x=some c->∀v,s.heap.IsCell c v->h'.IsCell c v:=λx c e v⟨o,h,hd⟩=>by
  have y:c∉ch:=λz=>(w c z).2.2.1 x c e rfl;by_cases C:c∈X.fs;obtain⟨B,q⟩:=G c o (I.cne x c e) C y h (I.freeC x c e);exact⟨_,q,hd⟩;exact⟨o,keep c o (I.cne x c e) C y h (I.freeC x c e),hd⟩
 refine⟨I.ok,I.os,K,⟨λb o e n g a=>?_,λb o e n g a=>?_,λb o e n a=>?_,λb o e a=>?_,λb xs e=>tups b xs (I.base.tups b xs e),λb o xs e=>S b o xs (I.base.frzs b o xs e),λb ps e=>?_⟩,?_,λx c e=>?_,?_,λx c e=>?_,λp D=>?_,Q,I.len⟩;exact keep b o (F b o e) g (A b o e a) (I.base.keep b o e n g a) (I.base.free b o e n a);obtain⟨B,f⟩:=I.base.slot b o e n g a;obtain⟨R,t⟩:=G b _ (F b o e) g (A b o e a) f (I.base.free b o e n a);exact⟨R,t⟩;obtain⟨j,f⟩:=I.base.there b o e a;exact free b j (A b o e a) f (I.base.free b o e n a);obtain⟨j,f⟩:=I.base.there b o e a;exact there b j (A b o e a) f;obtain⟨L,f⟩:=I.base.tbls b ps e;obtain⟨M,t⟩:=T b _ f;exact⟨L++M,by rw[t,Array.append_assoc]⟩;obtain⟨m,N,O⟩:=I.loc;refine⟨m,ns m N,λi x v f t P=>?_⟩;obtain⟨u,r,l⟩:=O i x v f t P;refine⟨u,r,?_⟩;rcases l with l|⟨k,c,e,z⟩;exact .inl l;exact .inr ⟨k,c,e,J x c e _ z⟩;obtain⟨v,z⟩:=I.cell x c e;exact⟨v,J x c e v z⟩;obtain⟨m,⟨o,_,_,h,_⟩,_⟩:=I.loc;exact free _ o (λz=>(w _ z).2.1 rfl) h I.free;obtain⟨v,o,h,hd⟩:=I.cell x c e;exact free c o (λz=>(w c z).2.2.1 x c e rfl) h (I.freeC x c e);obtain⟨e,n,ne,E,d⟩:=I.pin p D;have y:p.1∉ch:=λz=>(w p.1 z).2.2.2 p D rfl;exact⟨keep p.1 p.2 ne E y e n,free p.1 p.2 y e n,ne,E,d⟩
theorem Inv.un(I:Inv X pins σ H s)(u:Un X.fs [] H H' s.heap h')(i:CW X.prog X.w H' h'):Inv X pins σ H' {s with heap:=h',toks:=t'}:=by
 obtain⟨m,⟨o,l,p,c,r⟩,_⟩:=id I.loc;obtain⟨q,f⟩:=u.any c I.free (by simp)
 exact I.step (g':=s.gens) (d':=s.drawn) (ch:=[]) (λ_ z=>nomatch z) (λb o _ a _ e n=>u.keep b o e n a (by simp)) (λb o _ a _ e n=>u.slot b o e n a (by simp)) (λb o _ e n=>u.free b o e n (by simp)) (λb o _ e=>u.there b o e (by simp)) u.tups u.frzs u.tbls (λt g=>by
  obtain⟨v,j,k,d,h⟩:=g;rw[c] at d;cases d
  exact⟨_,j,k,f,h⟩) i I.bare
theorem Inv.call{g':Array GenState}{d':Drawn}(I:Inv X pins σ H s)(u:Un (E2 X.stack) ch H H' s.heap h')(q:CW X.prog X.w H' h')(i:AllBare g')
 (g:∀b∈ch,(b∈X.ex\/X.s₀.heap.objs.size<=b)/\b≠X.env.locals/\(∀x c,X.env.cells.lookup x=some c->c≠b)/\∀p∈X.pn++pins,p.1≠b) :
 Inv X pins σ H' {s with heap:=h',gens:=g',drawn:=d',toks:=t'}:=by
 obtain⟨m,⟨o,w,y,f,r⟩,_⟩:=id I.loc;obtain⟨A,d⟩:=u.any f I.free λz=>(g _ z).2.1 rfl
 exact I.step (ch:=ch) g (λb o d j a e n=>u.keep b o e n (λz=>(Ch.mp (I.stkSub b z)).elim d j) a) (λb o _ _ a e n=>u.any e n a) (λb o a e n=>u.free b o e n a) (λb o a e=>u.there b o e a) u.tups u.frzs u.tbls (λB k=>by
  obtain⟨C,t,v,h,l⟩:=k;rw[f] at h;cases h
  exact⟨_,t,v,d,l⟩) q i
theorem Inv.turned{a:Addr}(I:Inv X pins σ H s)(k:∀b o,b≠a->s.heap.get? b=some o->h'.get? b=some o)(h:H a=none)(f:a≠X.env.locals)
 (i:a∈X.ex\/X.s₀.heap.objs.size<=a) (j:∀x c,X.env.cells.lookup x=some c->c≠a) (l:∀p∈X.pn++pins,p.1≠a):Inv X pins σ H {s with heap:=h',toks:=t'}:=by
 have g:∀b u,H b=some u->b≠a:=λb u e z=>by rw[z,h] at e;cases e
 refine I.step (g':=s.gens) (d':=s.drawn) (ch:=[a]) (λb t=>?_) (λb o _ _ d e _=>k b o (λz=>d (by simp[z])) e) (λb o _ _ d e _=>⟨o.slots,k b o (λz=>d (by simp[z])) e⟩) (λ_ _ _ _ n=>n)
  (λb o d e=>⟨o,k b o (λz=>d (by simp[z])) e⟩) (λ_ _ e=>e) (λ_ _ _ e=>e) (λb C e=>⟨#[],by rw[e];simp⟩) (λm w=>?_) (λb u e=>?_) I.bare
 have e:b=a:=(by simpa using t);subst e;exact⟨i,f,j,l⟩;obtain⟨o,y,A,B,r⟩:=w;exact⟨o,y,A,k _ o (Ne.symm f) B,r⟩;refine(I.hok b u e).stay (λc v d q=>k c v ?_ q) (λ_ q=>q) λ_ _ q=>q;rcases d with z|z;rw[z];exact g b u e;exact g c _ z
theorem Inv.tok(I:Inv X pins σ H s)(t:Nat):Inv X pins σ H {s with toks:=t}:=I.un (h':=s.heap) (t':=t) Un.refl I.hok
theorem Inv.kept{t':Nat}(I:Inv X pins σ H s)(k:∀b u,s.heap.get? b=some u->h'.get? b=some u):Inv X pins σ H {s with heap:=h',toks:=t'}:=I.un (Un.kept k) (I.hok.kept k)
theorem Inv.laid{a:Addr}{o:HO}{t':Nat}(I:Inv X pins σ H s)(k:∀b u,s.heap.get? b=some u->h'.get? b=some u)(c:s.heap.objs.size<=a)(d:Az X.prog X.w (upd H a o) h' a o) :
 Inv X pins σ (upd H a o) {s with heap:=h',toks:=t'}:=I.un (Un.laid k c (I.hok.fresh c)) (I.hok.laid k c d)
theorem Inv.write{x e:Addr}{o:HO}{t':Nat}(I:Inv X pins σ H s)(a:Nv (H x))(c:e=x\/H e=some (.own x))(k:∀b u,b≠e->s.heap.get? b=some u->h'.get? b=some u)(d:∃u,h'.get? e=some u)
 (f:Az X.prog X.w (upd H x o) h' x o):Inv X pins σ (upd H x o) {s with heap:=h',toks:=t'}:=I.un (Un.write a c k d) (I.hok.write a c k d f)
theorem Inv.pins_of{a:List (Addr×Obj)}(I:Inv X pins σ H s)(h:∀p∈a,s.heap.get? p.1=some p.2/\H p.1=none/\p.1≠X.env.locals/\p.1∉X.fs/\∀v,p.2.data≠.cell v):Inv X a σ H s:=
 ⟨I.ok,I.os,I.bare,I.base,I.loc,I.cell,I.free,I.freeC,λp b=>(BF.mp b).elim (λz=>I.pin p (Ej _ z)) (h p),I.hok,I.len⟩
variable {i:Nat}{x:Str}
theorem UC{N:List Str}(c:N.Nodup){j:Nat}(a:N[i]?=some x)(b:N[j]?=some x):i=j:=by
 obtain⟨f,d⟩:=A9.mp a;obtain⟨g,e⟩:=A9.mp b;exact(List.getElem_inj c).mp (d.trans e.symm)
theorem UD{ai:Model}{A:Around}{E:Value->Shared->Prop}{v:V}{u:Value}{Q:Unit->Shared->Prop}(I:Inv X pins σ H s)(U:X.N.Nodup)(D:X.N[i]?=some x)(m:Loc X.env.scope x)(r:RelV v u)
 (h:∀Z,Inv X pins (σ.set i (some v)) H Z->(∃a,Heap.SameBut a s.heap Z.heap/\(a=X.env.locals\/X.env.cells.lookup x=some a))->Q () Z) (hf:X.fn x=true\/X.env.scope.names.lookup x=some .local:=by first|exact .inl rfl|exact .inr rfl|assumption):wpAny ai A (storeName X.env x u) Q E s:=by
 obtain⟨aj,J,W⟩:=id I.loc;have an:(X.env.scope.kind==.class || (X.env.scope.kind==.module && X.env.locals != X.env.globals))=false:=by rw[I.ok.kind];rfl
 have aa:i<σ.length:=by rw[I.len];exact(A9.mp D).1
 have cne:=I.cne
 have ah:∀{a:Addr}{h':Heap},(∃o,s.heap.get? a=some o/\H a=none)->Heap.SameBut a s.heap h'->CW X.prog X.w H h':=λ{a h'}ha f b ob e=>by
  obtain⟨_,_,ag⟩:=ha;refine(I.hok b ob e).stay (λc F l q=>(f.2 c ?_).trans q) (λ_ q=>q) λ_ _ q=>q;rintro rfl;rcases l with rfl|l;rw[ag] at e;cases e;rw[ag] at l;cases l
 rcases m with w|w;refine wpAny_storeName_local w J (λh' ak f=>?_) an;obtain⟨oL,_,_,al,_⟩:=id J;refine h _ ⟨I.ok,I.os,I.bare,⟨λb o e n B m=>?_,λb o e n B m=>?_,I.base.free,λb o e m=>?_,I.base.tups,I.base.frzs,I.base.tbls⟩,⟨_,ak,λj y K g t L=>?_⟩,λy c e=>?_,I.free,I.freeC,λp M=>?_,ah ⟨oL,al,I.free⟩ f,by simpa using I.len⟩ ⟨_,f,.inl rfl⟩;exact(f.2 b (CU (FH (A1 e) I.ok.above))).trans (I.base.keep b o e n B m);obtain⟨N,g⟩:=I.base.slot b o e n B m;exact⟨N,(f.2 b (CU (FH (A1 e) I.ok.above))).trans g⟩;obtain⟨O,g⟩:=I.base.there b o e m;exact⟨O,(f.2 b (CU (FH (A1 e) I.ok.above))).trans g⟩;by_cases C:j=i;subst C;rw[D] at g;cases g;rw[List.getElem?_set_self aa] at t;cases t;exact⟨u,r,.inl ⟨w,by simp⟩⟩;rw[List.getElem?_set_ne (Ne.symm C)] at t;obtain⟨P,R,q⟩:=W j y K g t L;refine⟨P,R,?_⟩;rcases q with⟨k,e⟩|⟨k,c,e,z⟩;refine .inl ⟨k,?_⟩;have:y≠x:=λe=>C (UC U g (e▸D));simp[this,e];exact .inr ⟨k,c,e,z.sameBut f (cne y c e)⟩;obtain⟨F,z⟩:=I.cell y c e;exact⟨F,z.sameBut f (cne y c e)⟩;obtain⟨e,n,ne,S,d⟩:=I.pin p M;exact⟨(f.2 p.1 ne).trans e,n,ne,S,d⟩
 have T:X.fn x=true:=by
  rcases hf with z|z;exact z;rw[z] at w;cases w
 obtain⟨c,l⟩:=I.ok.has x (.inl w);obtain⟨F,z⟩:=I.cell x c l;refine wpAny_storeName_cell I.ok.kind w l z (λh' ab f=>?_);obtain⟨Y,ae,ao⟩:=id z;refine h {s with heap:=h'} ⟨I.ok,I.os,I.bare,⟨λb o e n B m=>?_,λb o e n B m=>?_,I.base.free,λb o e m=>?_,I.base.tups,I.base.frzs,I.base.tbls⟩,⟨aj,J.sameBut f (Ne.symm (cne x c l)),λj y K g t L=>?_⟩,λy G e=>?_,I.free,I.freeC,λp M=>?_,ah ⟨Y,ae,I.freeC x c l⟩ f,by simpa using I.len⟩ ⟨c,f,.inr l⟩;exact(f.2 b (CU (FH (A1 e) (I.ok.cab x c T l)))).trans (I.base.keep b o e n B m);obtain⟨N,g⟩:=I.base.slot b o e n B m;exact⟨N,(f.2 b (CU (FH (A1 e) (I.ok.cab x c T l)))).trans g⟩;obtain⟨O,g⟩:=I.base.there b o e m;exact⟨O,(f.2 b (CU (FH (A1 e) (I.ok.cab x c T l)))).trans g⟩;by_cases C:j=i;subst C;rw[D] at g;cases g;rw[List.getElem?_set_self aa] at t;cases t;exact⟨u,r,.inr ⟨.inl w,c,l,ab⟩⟩;rw[List.getElem?_set_ne (Ne.symm C)] at t;obtain⟨P,R,q⟩:=W j y K g t L;refine⟨P,R,?_⟩;rcases q with q|⟨k,G,e,z'⟩;exact .inl q;refine .inr ⟨k,G,e,z'.sameBut f ?_⟩;rintro rfl;exact C (UC U g (I.ok.inj _ _ _ e l▸D));by_cases af:G=c;subst af;exact⟨_,ab⟩;obtain⟨w2,z2⟩:=I.cell y G e;exact⟨w2,z2.sameBut f af⟩;obtain⟨e,n,ne,S,d⟩:=I.pin p M;refine⟨(f.2 p.1 ?_).trans e,n,ne,S,d⟩;intro q;rw[q,ae] at e;have q':Y=p.2:=Bv e;exact d F (by rw[<-q'];exact ao)
theorem RD{M:Model}{A:Around}{E:Value->Shared->Prop}{v:V}{u:Value}{Q:Unit->Shared->Prop}(I:Inv X pins σ H s)(a:X.N.Nodup)(b:X.N[i]?=some x)(c:Loc X.env.scope x)(r:RelV v u)
 (h:∀Z,Inv X pins (σ.set i (some v)) H Z->Q () Z) (d:X.fn x=true\/X.env.scope.names.lookup x=some .local:=by first|exact .inl rfl|exact .inr rfl|assumption):wpAny M A (storeName X.env x u) Q E s:=
 UD I a b c r (λZ e _=>h Z e) d
theorem Inv.call'{Z:Shared}(I:Inv X pins σ H s)(a:Z.os=s.os)(u:Un (E2 X.stack) ch H H' s.heap Z.heap)(g:CW X.prog X.w H' Z.heap)(d:AllBare Z.gens)
 (h:∀b∈ch,(b∈X.ex\/X.s₀.heap.objs.size<=b)/\b≠X.env.locals/\(∀x c,X.env.cells.lookup x=some c->c≠b)/\∀p∈X.pn++pins,p.1≠b):Inv X pins σ H' Z:=by
 obtain⟨h',g',d',t',f⟩:=Z;have e:f=s.os:=a;subst e;exact I.call (g':=g') (t':=t') (d':=d') u g d h
end
abbrev XK:=Value->Option Addr->Hp->Prop
abbrev St:=List (Option V)
abbrev VK:=V->Hp->Prop
abbrev TE:=St->Hp->VK->Prop
abbrev TT:=St->Hp->(Bool->Hp->Prop)->Prop
abbrev TA:=St->Hp->(List V->Hp->Prop)->Prop
structure Ends where
 nx:St->Hp->Prop
 rt:VK
 bk:St->Hp->Prop:=λ_ _=>False
 ct:St->Hp->Prop:=λ_ _=>False
abbrev TS:=Ends->St->Hp->Prop
def EP (X:Cx) (pins:List (Addr×Obj)) (σ:St) (Q:VK) (u:Value) (Z:Shared):Prop:=∃v H',Inv X pins σ H' Z/\RelV v u/\Q v H'
def TP (X:Cx) (pins:List (Addr×Obj)) (σ:St) (Q:Bool->Hp->Prop) (b:Bool) (Z:Shared):Prop:=∃H',Inv X pins σ H' Z/\Q b H'
def AP (X:Cx) (pins:List (Addr×Obj)) (σ:St) (Q:List V->Hp->Prop) (us:List Value) (Z:Shared):Prop:=∃vs H',Inv X pins σ H' Z/\As vs us/\Q vs H'
def SP (X:Cx) (pins:List (Addr×Obj)) (D:Ends) (f:Flow) (Z:Shared):Prop:=
 match f with
 |.next=>∃σ' H',Inv X pins σ' H' Z/\D.nx σ' H'
 |.brk=>∃σ' H',Inv X pins σ' H' Z/\D.bk σ' H'
 |.cont=>∃σ' H',Inv X pins σ' H' Z/\D.ct σ' H'
 |.ret u=>∃v σ' H',Inv X pins σ' H' Z/\RelV v u/\D.rt v H'
def PE (X:Cx) (e:Expr) (t:TE):Prop:=
 ∀(pins:List (Addr×Obj))(s:Shared)(σ:St)(H:Hp)(Q:VK),Inv X pins σ H s->t σ H Q->wpAny (model X.prog X.w) X.A (eval e X.env) (EP X pins σ Q) X.xe s
def PT (X:Cx) (e:Expr) (t:TT):Prop:=
 ∀(pins:List (Addr×Obj))(s:Shared)(σ:St)(H:Hp)(Q:Bool->Hp->Prop),Inv X pins σ H s->t σ H Q->wpAny (model X.prog X.w) X.A (isTrue e X.env (eval e X.env)) (TP X pins σ Q) X.xe s
def PW (X:Cx) (e:Expr) (t:TT):Prop:=
 ∀(whole:Sem Value)(pins:List (Addr×Obj))(s:Shared)(σ:St)(H:Hp)(Q:Bool->Hp->Prop),Inv X pins σ H s->t σ H Q->wpAny (model X.prog X.w) X.A (isTrue e X.env whole) (TP X pins σ Q) X.xe s
variable {X:Cx}{e:Expr}
theorem PW.pt{t:TT}(h:PW X e t):PT X e t:=h _
def PA (X:Cx) (es:List Expr) (t:TA):Prop:=
 ∀(L:Pos)(pins:List (Addr×Obj))(s:Shared)(σ:St)(H:Hp)(Q:List V->Hp->Prop),Inv X pins σ H s->t σ H Q->wpAny (model X.prog X.w) X.A (spliced (backTo L (starEach es X.env))) (AP X pins σ Q) X.xe s
def PS (X:Cx) (st:Stmt) (t:TS):Prop:=
 ∀(pins:List (Addr×Obj))(s:Shared)(σ:St)(H:Hp)(D:Ends),Inv X pins σ H s->t D σ H->wpAny (model X.prog X.w) X.A (exec st X.env) (SP X pins D) X.xe s
def Ga (X:Cx) (st:List Stmt) (t:TS):Prop:=
 ∀(pins:List (Addr×Obj))(s:Shared)(σ:St)(H:Hp)(D:Ends),Inv X pins σ H s->t D σ H->wpAny (model X.prog X.w) X.A (execs st X.env) (SP X pins D) X.xe s
variable {A:Around}{E:Value->Shared->Prop}{s:Shared}
theorem AW{α:Type}{t:Sem α}{Q b:α->Shared->Prop}{M:Model}(h:wpAny M A t Q E s)(c:∀a s,Q a s->b a s):wpAny M A t b E s:=FJ h c λ_ _ x=>x
section
variable {X:Cx}
def mV:Option (Option V)->(V->Prop)->Prop|some (some v),q=>q v|_,_=>(λ_=>False) Nat.repr
def mB:V->(Bool->Prop)->Prop|.bl c,q=>0=0/\q c|_,_=>(λ_=>False) Nat.repr
def mI:V->(Int->Prop)->Prop|.int i,q=>q i|_,_=>(λ_=>False) Nat.repr
def IE:V->V->(Int->Int->Prop)->Prop|.int i,.int j,q=>q i j|_,_,_=>(λ_=>False) Nat.repr
def mR:V->(Addr->Prop)->Prop|.ref a,q=>q a|_,_=>(λ_=>False) Nat.repr
def mT:V->(Addr->List V->Prop)->Prop|.ref a,q=>∃xs,q a xs|_,_=>(λ_=>False) Nat.repr
def mX:V->V->(Addr->List V->Int->V->Prop)->Prop|.ref p,.int i,q=>∃xs v,q p xs i v|_,_,_=>(λ_=>False) Nat.repr
def mC:List V->(V->List V->Prop)->Prop|v::r,q=>q v r|_,_=>(λ_=>False) Nat.repr
def mN:List V->Prop->Prop|[],q=>q|_,_=>(λ_=>False) Nat.repr
def mL:List V->(V->Nat->Prop)->Prop|[x],q=>∃n,q x n|_,_=>(λ_=>False) Nat.repr
def mA:V->List V->(Addr->List V->V->Prop)->Prop|.ref l,[y],q=>∃xs,q l xs y|_,_,_=>(λ_=>False) Nat.repr
def mJ:List V->(Int->Prop)->Prop|[.int j],q=>q j|_,_=>(λ_=>False) Nat.repr
theorem mV.ex{o:Option (Option V)}{q:V->Prop}(h:mV o q):∃v,o=some (some v)/\q v:=by
 unfold mV at h;split at h;exact⟨_,rfl,h⟩;exact False.elim h
variable {x:V}
theorem mB.ex{q:Bool->Prop}(h:mB x q):∃c,x=.bl c/\q c:=by
 unfold mB at h;split at h;exact⟨_,rfl,h.2⟩;exact False.elim h
theorem mI.ex{q:Int->Prop}(h:mI x q):∃i,x=.int i/\q i:=by
 unfold mI at h;split at h;exact⟨_,rfl,h⟩;exact False.elim h
theorem IE.ex{y:V}{q:Int->Int->Prop}(h:IE x y q):∃i j,x=.int i/\y=.int j/\q i j:=by
 unfold IE at h;split at h;exact⟨_,_,rfl,rfl,h⟩;exact False.elim h
theorem mR.ex{q:Addr->Prop}(h:mR x q):∃a,x=.ref a/\q a:=by
 unfold mR at h;split at h;exact⟨_,rfl,h⟩;exact False.elim h
theorem mT.ex{q:Addr->List V->Prop}(h:mT x q):∃a xs,x=.ref a/\q a xs:=by
 unfold mT at h;split at h;exact⟨_,h.choose,rfl,h.choose_spec⟩;exact False.elim h
theorem mX.ex{y:V}{q:Addr->List V->Int->V->Prop}(h:mX x y q):∃p xs i v,x=.ref p/\y=.int i/\q p xs i v:=by
 unfold mX at h;split at h;obtain⟨xs,v,h⟩:=h;exact⟨_,xs,_,v,rfl,rfl,h⟩;exact False.elim h
variable {vs:List V}
theorem mC.ex{q:V->List V->Prop}(h:mC vs q):∃v r,vs=v::r/\q v r:=by
 unfold mC at h;split at h;exact⟨_,_,rfl,h⟩;exact False.elim h
theorem mN.ex{q:Prop}(h:mN vs q):vs=[]/\q:=by
 unfold mN at h;split at h;exact⟨rfl,h⟩;exact False.elim h
theorem mL.ex{q:V->Nat->Prop}(h:mL vs q):∃x n,vs=[x]/\q x n:=by
 unfold mL at h;split at h;exact⟨_,h.choose,rfl,h.choose_spec⟩;exact False.elim h
theorem mA.ex{q:Addr->List V->V->Prop}(h:mA x vs q):∃l xs y,x=.ref l/\vs=[y]/\q l xs y:=by
 unfold mA at h;split at h;exact⟨_,h.choose,_,rfl,rfl,h.choose_spec⟩;exact False.elim h
theorem mJ.ex{q:Int->Prop}(h:mJ vs q):∃j,vs=[.int j]/\q j:=by
 unfold mJ at h;split at h;exact⟨_,rfl,h⟩;exact False.elim h
def BB (i:Nat):TE:=λσ H Q=>mV σ[i]? λv=>Q v H
def tC (v:V):TE:=λ_ H Q=>Q v H
variable {L:Pos}
theorem K8{i:Nat}{x:Str}(g:X.N[i]?=some x)(hv:Pf X.env.scope x)(hd:(x==("__debug__" : Str))=false:=by decide)(o:(x==("__classdict__" : Str))=false:=by decide):PE X (.Name x L) (BB i):=by
 intro p s σ H Q I h
 replace h:=mV.ex h
 obtain⟨v,e,h⟩:=h;obtain⟨m,j,k⟩:=I.loc;obtain⟨u,r,l⟩:=k i x v g e hv;have b:EP X p σ Q u s:=⟨v,H,I,r,h⟩;rcases l with⟨a,n⟩|⟨a,c,d,f⟩;exact wpAny_Name (wpAny_loadName_local I.ok.kind a j n b) hd;rcases a with a|a;exact wpAny_Name (wpAny_loadName_cell I.ok.kind a d f b) hd;exact wpAny_Name (wpAny_loadName_free I.ok.kind a d f b o) hd
theorem Ai{i j L}:PE X (.Constant (.int i) j L) (tC (.int i)):=λ_ _ _ H _ I h=>wpAny_Constant_int ⟨.int i,H,I.tok _,⟨_,rfl⟩,h⟩
theorem IW{b j L}:PE X (.Constant (.bool b) j L) (tC (.bl b)):=λ_ _ _ H _ I h=>Constant_bool ⟨.bl b,H,I,rfl,h⟩
theorem Gu{j L}:PE X (.Constant .none j L) (tC .non):=λ_ _ _ H _ I h=>Constant_none ⟨.non,H,I,rfl,h⟩
theorem BZ{x j L}:PE X (.Constant (.str x) j L) (tC (.str x)):=λ_ _ _ H _ I h=>Calls.Constant_str ⟨.str x,H,I.tok _,⟨_,rfl⟩,h⟩
def Gl (X:Cx) (x:Str):Prop:=X.env.kindOf x=some .globalImplicit
theorem UE{pins:List (Addr×Obj)}{σ:St}{x:Str}{u:Value}{Q:Value->Shared->Prop}(I:Inv X pins σ H s)(a:Gl X x)(b:X.mg x=some u)(h:Q u s)
 (hd:(x==("__debug__" : Str))=false:=by decide):wpAny (model X.prog X.w) X.A (eval (.Name x L) X.env) Q E s:=
 Calls.Name_function_global I.ok.kind a (Calls.loadGlobal_global (by rw[I.ok.glob];exact I.mod.glob.keeps I.bk) b h) hd
theorem IX{pins:List (Addr×Obj)}{σ:St}{x:Str}{u:Value}{Q:Value->Shared->Prop}(I:Inv X pins σ H s)(a:Gl X x)(b:X.mg x=none)(hv:bootBuiltins x=some u)(h:Q u s)
 (c:x ≠ "__name__" :=by decide) (hd:(x==("__debug__" : Str))=false:=by decide):wpAny (model X.prog X.w) X.A (eval (.Name x L) X.env) Q E s:=by
 obtain⟨f,d,e⟩:=I.mod.blt;exact Calls.Name_function_global I.ok.kind a (Calls.loadGlobal_builtin (by rw[I.ok.glob];exact I.mod.glob.keeps I.bk) b (by rw[I.ok.blt];exact d.keeps I.bk) ((e x c).trans hv) h) hd
theorem IY{x:Str}{v:V}{u:Value}(a:Gl X x)(b:X.mg x=some u)(r:RelV v u)(hd:(x==("__debug__" : Str))=false:=by decide):PE X (.Name x L) (tC v):=
 λ_ _ _ H _ I h=>UE I a b ⟨v,H,I,r,h⟩ hd
theorem IZ{x:Str}{v:V}{u:Value}(a:Gl X x)(b:X.mg x=none)(hv:bootBuiltins x=some u)(r:RelV v u)(c:x ≠ "__name__" :=by decide)(hd:(x==("__debug__" : Str))=false:=by decide):PE X (.Name x L) (tC v):=
 λ_ _ _ H _ I h=>IX I a b hv ⟨v,H,I,r,h⟩ c hd
variable {a b:Expr} {ta tb:TE} {L:Pos}
def PC (X:Cx) (op:CmpOp) (a b:Expr) (t:TE):Prop:=
 ∀(pins:List (Addr×Obj))(s:Shared)(σ:St)(H:Hp)(Q:VK),Inv X pins σ H s->t σ H Q ->
  wpAny (model X.prog X.w) X.A (eval a X.env) (λv s₁=>wpAny (model X.prog X.w) X.A (eval b X.env) (λu s₂=>wpAny (model X.prog X.w) X.A (compareOp op v u) (EP X pins σ Q) X.xe s₂) X.xe s₁) X.xe s
variable {op:CmpOp}
theorem UF(b:Expr)(h:op≠.In)(a:op≠.NotIn):behindInMarks op b=false:=by
 have c:(op==CmpOp.In)=false:=by cases op<;>first|rfl|exact absurd rfl h
 have d:(op==CmpOp.NotIn)=false:=by cases op<;>first|rfl|exact absurd rfl a
 cases b<;>simp[behindInMarks,c,d]
def Ny (ta:TE):TE:=λσ H Q=>ta σ H λx Y=>Q (.bl (decide (x=.non))) Y
def Hc (ta:TE):TE:=λσ H Q=>ta σ H λx Y=>Q (.bl (!decide (x=.non))) Y
theorem RelV.none_iff{v:Value}(r:RelV x v):(v==Value.none)=decide (x=.non):=by
 cases x with
 |non=>cases r;rfl
 |bl _=>cases r;rfl
 |int _=>obtain⟨t,rfl⟩:=r;rfl
 |str _=>obtain⟨t,rfl⟩:=r;rfl
 |byt _=>obtain⟨t,rfl⟩:=r;rfl
 |flt _=>obtain⟨t,rfl⟩:=r;rfl
 |ref _=>cases r;rfl
 |ty _=>cases r;rfl
theorem GN{j t}(b:PE X a ta):PC X .Is a (.Constant .none j t) (Ny ta):=by
 intro f s σ H Q I h;refine AW (b f s σ H _ I h) λv g⟨x,Y,c,d,e⟩=>?_;exact Constant_none (is_none_gen ⟨.bl _,Y,c,by rw[d.none_iff];rfl,e⟩)
theorem MW{j t}(b:PE X a ta):PC X .IsNot a (.Constant .none j t) (Hc ta):=by
 intro f s σ H Q I h;refine AW (b f s σ H _ I h) λv g⟨x,Y,c,d,e⟩=>?_;exact Constant_none (isnot_none_gen ⟨.bl _,Y,c,by rw[d.none_iff];rfl,e⟩)
def tB (t:TE):TT:=λσ H Q=>t σ H λx Y=>mB x λc=>Q c Y
theorem RE{t:TE}(h:PC X op a b t)(c:behindInMarks op b=false:=by first|exact UF _ (by decide) (by decide)|rfl):PE X (.Compare a [op] [b] L) t:=λe s σ H Q I d=>wpAny_Compare1 (h e s σ H Q I d) c
theorem FZ{t:TE}(h:PC X op a b t)(e:behindInMarks op b=false:=by first|exact UF _ (by decide) (by decide)|rfl):PT X (.Compare a [op] [b] L) (tB t):=by
 intro l s σ H Q I g;refine wpAny_isTrue_Compare1 (AW (h l s σ H _ I g) λv m e=>AW e λu n i=>AW i λc o⟨x,Y,j,k,f⟩=>?_) e
 replace f:=mB.ex f
 obtain⟨d,rfl,q⟩:=f;cases k;exact FI ⟨Y,j,q⟩
theorem Gb{t:TE}(h:PE X e t)(b:∀whole,isTrue e X.env whole=(do let v <-whole;standAt e.pos;holding [v] (truthy v)):=by intro _;rfl):PT X e (tB t):=by
 intro i s σ H Q I c;refine isTrue_plain (AW (h i s σ H _ I c) λv j⟨x,Y,f,g,a⟩=>?_) (b _)
 replace a:=mB.ex a
 obtain⟨d,rfl,q⟩:=a;cases g;exact FI ⟨Y,f,q⟩
variable {g tB':TT} {j:List Expr}
def NA (t u:TT):TT:=λσ H Q=>t σ H λc Y=>if c=true then u σ Y Q else Q false Y
def XT (t u:TT):TT:=λσ H Q=>t σ H λc Y=>if c=true then Q true Y else u σ Y Q
def RF (t:TT):TT:=λσ H Q=>t σ H λc Y=>Q (!c) Y
theorem Gv(b:PT X a g):PW X (.BoolOp .And [a] L) g:=by
 intro f d s σ H Q I h;refine isTrue_and (AW (b d s σ H Q I h) λc i e=>?_)
 cases c with
 |true=>exact isTrue_and_nil e
 |false=>exact e
theorem Hd(b:PT X a g):PW X (.BoolOp .Or [a] L) g:=by
 intro f d s σ H Q I h;refine isTrue_or (AW (b d s σ H Q I h) λc i e=>?_)
 cases c with
 |false=>exact isTrue_or_nil e
 |true=>exact e
theorem Gw(i:PT X a g)(k:PW X (.BoolOp .And (b::j) L) tB'):PW X (.BoolOp .And (a::b::j) L) (NA g tB'):=by
 intro l f s σ H Q I h;refine isTrue_and (AW (i f s σ H _ I h) λc m⟨Y,d,e⟩=>?_)
 cases c with
 |true=>exact k l f m σ Y Q d e
 |false=>exact⟨Y,d,e⟩
theorem He(i:PT X a g)(k:PW X (.BoolOp .Or (b::j) L) tB'):PW X (.BoolOp .Or (a::b::j) L) (XT g tB'):=by
 intro l f s σ H Q I h;refine isTrue_or (AW (i f s σ H _ I h) λc m⟨Y,d,e⟩=>?_)
 cases c with
 |true=>exact⟨Y,d,e⟩
 |false=>exact k l f m σ Y Q d e
theorem MX(b:PT X a g):PT X (.UnaryOp .Not a L) (RF g):=by
 intro d s σ H Q I h;exact isTrue_not (b d s σ H (λc Y=>Q (!c) Y) I h)
def NB (ta tb:TE):TE:=λσ H Q=>ta σ H λx Y=>∃c,x=.bl c/\if c=true then tb σ Y Q else Q (.bl false) Y
def NC (ta:TE):TE:=λσ H Q=>ta σ H λx Y=>∃c,x=.bl c/\Q (.bl (!c)) Y
theorem Hf{op}{t:TE}(h:PE X a t):PE X (.BoolOp op [a] L) t:=λc s σ H Q I b=>BoolOp_one (h c s σ H Q I b)
theorem RG(g:PE X a ta)(i:PE X (.BoolOp .And (b::j) L) tb):PE X (.BoolOp .And (a::b::j) L) (NB ta tb):=by
 intro f s σ H Q I h;refine BoolOp_and (AW (g f s σ H _ I h) λv k⟨x,Y,e,l,d⟩=>?_);obtain⟨c,rfl,d⟩:=d;cases l;refine FI ?_
 cases c with
 |true=>exact i f k σ Y Q e d
 |false=>exact⟨.bl false,Y,e,rfl,d⟩
theorem K9(d:PE X a ta):PE X (.UnaryOp .Not a L) (NC ta):=by
 intro g s σ H Q I h;refine UnaryOp_ (AW (d g s σ H _ I h) λv i⟨x,Y,e,f,b⟩=>?_);obtain⟨c,rfl,b⟩:=b;cases f;exact not_of (FI ⟨.bl (!c),Y,e,rfl,b⟩)
def UG (t:TT) (ta tb:TE):TE:=λσ H Q=>t σ H λc Y=>if c=true then ta σ Y Q else tb σ Y Q
theorem XU{c:Expr}(k:PT X c g)(l:PE X a ta)(m:PE X b tb):PE X (.IfExp c a b L) (UG g ta tb):=by
 intro e s σ H Q I h;refine wpAny_IfExp (AW (k e s σ H _ I h) λd f⟨Y,i,j⟩=>?_)
 cases d with
 |true=>exact l e f σ Y Q i j
 |false=>exact m e f σ Y Q i j
end
def Af (K:Ah) (H:Hp) (a:Addr) (xs:List V):Prop:=
 Rd H a (.lst xs) \/
  ∃(o:Obj)(its:Array Value)(n:Nat),K.lookup a=some o/\o.cls=.type "list" /\ o.dict=none/\o.data=.seq its n/\its.size<=sizeLine/\As xs its.toList
def Aq (K:Ah) (H:Hp) (a:Addr) (xs:List V):Prop:=
 Rd H a (.tup xs) \/
  ∃(o:Obj)(its:Array Value)(n:Nat),K.lookup a=some o/\o.cls=.type "tuple" /\ o.data=.seq its n/\its.size<=sizeLine/\As xs its.toList
def RH:Value->Option V
 |.none=>some .non
 |.bool b=>some (.bl b)
 |.int i _=>some (.int i)
 |.str x _=>some (.str x)
 |.bytes b _=>some (.byt b)
 |.float b _=>some (.flt b)
 |.ref a=>some (.ref a)
 |.type n=>some (.ty n)
 |_=>none
variable {x:V}
theorem RelV.abs{u:Value}(r:RelV x u):RH u=some x:=by
 cases x with
 |non=>cases r;rfl
 |bl _=>cases r;rfl
 |int _=>obtain⟨t,rfl⟩:=r;rfl
 |str _=>obtain⟨t,rfl⟩:=r;rfl
 |byt _=>obtain⟨t,rfl⟩:=r;rfl
 |flt _=>obtain⟨t,rfl⟩:=r;rfl
 |ref _=>cases r;rfl
 |ty _=>cases r;rfl
theorem RelV.inj{y:V}{u:Value}(r:RelV x u)(q:RelV y u):x=y:=Bv (r.abs.symm.trans q.abs)
theorem As.inj:∀{xs ys:List V}{us:List Value},As xs us->As ys us->xs=ys
 |_,_,_,.nil,.nil=>rfl
 |_,_,_,.cons r t,.cons a t'=>by rw[r.inj a,As.inj t t']
section
variable {X:Cx} {pins:List (Addr×Obj)} {σ:St} {H:Hp} {s:Shared} {a:Addr} {xs ys:List V}
theorem Af.of{K:Ah}(h:H a=some (.lst xs)):Af K H a xs:=.inl (.inl h)
theorem Aq.of{K:Ah}(h:H a=some (.tup xs)):Aq K H a xs:=.inl (.inl h)
theorem Inv.list(I:Inv X pins σ H s)(h:Af X.K H a xs):∃b:List Value,As xs b/\PlainL s.heap a b.toArray/\xs.length<=sizeLine:=by
 rcases h with h|⟨o,b,n,c,d,hd,f,g,r⟩;obtain⟨z,b,n,r,e⟩:=h.ok I.hok;exact⟨b,r,⟨_,n,e,rfl,rfl,rfl⟩,z⟩;refine⟨b.toList,r,⟨o,n,I.kIn a o c,d,hd,by simpa using f⟩,?_⟩;have e:=r.length;simp only[Array.length_toList] at e;omega
theorem Inv.tuple(I:Inv X pins σ H s)(h:Aq X.K H a xs):∃b:List Value,As xs b/\IsTup s.heap a b.toArray/\xs.length<=sizeLine:=by
 rcases h with h|⟨o,b,n,c,d,f,g,r⟩;obtain⟨z,b,r,p⟩:=h.ok I.hok;exact⟨b,r,p,z⟩;refine⟨b.toList,r,⟨o,I.kIn a o c,d,n,by simpa using f⟩,?_⟩;have e:=r.length;simp only[Array.length_toList] at e;omega
theorem Inv.list_inj(I:Inv X pins σ H s)(h:Af X.K H a xs)(h':Af X.K H a ys):xs=ys:=by
 obtain⟨i,r,⟨o,n,e,_,_,d⟩,_⟩:=I.list h;obtain⟨j,f,⟨k,l,b,_,_,c⟩,_⟩:=I.list h';rw[e] at b;cases b;rw[d] at c;injection c with g _;have:i=j:=(by simpa using BI Array.toList g);subst this;exact r.inj f
theorem Inv.tuple_inj(I:Inv X pins σ H s)(h:Aq X.K H a xs)(h':Aq X.K H a ys):xs=ys:=by
 obtain⟨i,r,⟨o,e,_,n,d⟩,_⟩:=I.tuple h;obtain⟨j,f,⟨k,b,_,l,c⟩,_⟩:=I.tuple h';rw[e] at b;cases b;rw[d] at c;injection c with g _;have:i=j:=(by simpa using BI Array.toList g);subst this;exact r.inj f
end
abbrev Cx.wish (X:Cx) (E:Value->Shared->Prop):Cx:={X with xe:=E}
abbrev Cx.nox (X:Cx):Cx:=X.wish λ_ _=>False
theorem Cx.Ok.wish{X:Cx}(ok:X.Ok)(E:Value->Shared->Prop):(X.wish E).Ok:=
 ⟨ok.mod,ok.kind,ok.glob,ok.blt,ok.above,ok.inj,ok.has,ok.cab,ok.hd,ok.frames,ok.stk,ok.exf,ok.bs,ok.bsz,ok.noex,ok.exfs,ok.funs,ok.frf⟩
theorem Cx.Ok.unwish(ok:(X.wish E).Ok):X.Ok:=
 ⟨ok.mod,ok.kind,ok.glob,ok.blt,ok.above,ok.inj,ok.has,ok.cab,ok.hd,ok.frames,ok.stk,ok.exf,ok.bs,ok.bsz,ok.noex,ok.exfs,ok.funs,ok.frf⟩
section
variable {X:Cx} {pins:List (Addr×Obj)} {σ:St} {H:Hp} {s:Shared} {E:Value->Shared->Prop}
theorem Inv.wish(I:Inv X pins σ H s)(E:Value->Shared->Prop):Inv (X.wish E) pins σ H s:=⟨I.ok.wish E,I.os,I.bare,I.base,I.loc,I.cell,I.free,I.freeC,I.pin,I.hok,I.len⟩
theorem Inv.unwish(I:Inv (X.wish E) pins σ H s):Inv X pins σ H s:=⟨I.ok.unwish,I.os,I.bare,I.base,I.loc,I.cell,I.free,I.freeC,I.pin,I.hok,I.len⟩
theorem SP.unwish{D:Ends}{f:Flow}{Z:Shared}(h:SP (X.wish E) pins D f Z):SP X pins D f Z:=by
 cases f with
 |next=>obtain⟨σ',a,I,q⟩:=h;exact⟨σ',a,I.unwish,q⟩
 |brk=>obtain⟨σ',a,I,q⟩:=h;exact⟨σ',a,I.unwish,q⟩
 |cont=>obtain⟨σ',a,I,q⟩:=h;exact⟨σ',a,I.unwish,q⟩
 |ret u=>obtain⟨v,σ',a,I,r,q⟩:=h;exact⟨v,σ',a,I.unwish,r,q⟩
theorem Ga.nox{st:List Stmt}{t:TS}(h:Ga X.nox st t):Ga X st t:=λpins s σ H D I a =>
 FJ (h pins s σ H D (I.wish _) a) (λ_ _ q=>q.unwish) λ_ _ z=>False.elim z
end
section
variable {X:Cx} {st:Stmt} {j:List Stmt} {t u:TS} {e:Expr} {te:TE} {L:Pos}
def ND:TS:=λD σ H=>D.nx σ H
def La (t u:TS):TS:=λD σ H=>(λ_=>t {D with nx:=u D} σ H) Nat.repr
theorem Bo:Ga X [] ND:=λ_ _ σ H _ I h=>wpAny_execs_nil ⟨σ,H,I,h⟩
theorem Am(b:PS X st t)(c:Ga X j u):Ga X (st::j) (La t u):=by
 intro a s σ H D I h;refine wpAny_execs_cons (AW (b a s σ H {D with nx:=u D} I h) λf d q=>?_)
 cases f with
 |next =>
   obtain⟨σ',e,g,q⟩:=q;exact c a d σ' e D g q
 |ret v=>exact q
 |brk=>exact q
 |cont=>exact q
theorem Au(a:PS X st t):Ga X [st] t:=by
 intro b s σ H D I h;refine wpAny_execs_cons (AW (a b s σ H D I h) λf c q=>?_)
 cases f with
 |next=>exact wpAny_execs_nil q
 |ret v=>exact q
 |brk=>exact q
 |cont=>exact q
theorem Inv.quiet{pins:List (Addr×Obj)}{σ:St}(I:Inv X pins σ H s):interactive X.env=false:=by simp[interactive,I.ok.kind]
def NE (te:TE):TS:=λD σ H=>te σ H λ_ Y=>D.nx σ Y
theorem Df(a:PE X e te)(b:swapsWith e none L.line X.env=pure false:=by rfl):PS X (.Expr e L) (NE te):=by
 intro f s σ H D I h;exact wpAny_Expr_any (AW (a f s σ H _ I h) λv g⟨x,Y,c,i,d⟩=>⟨σ,Y,c,d⟩) I.quiet b
def RI (te:TE):TS:=λD σ H=>te σ H D.rt
theorem AX(a:PE X e te):PS X (.Return (some e) L) (RI te):=by
 intro f s σ H D I h;exact wpAny_Return_some (AW (a f s σ H _ I h) λv g⟨x,Y,b,c,d⟩=>⟨x,σ,Y,b,c,d⟩)
def RJ (c:TT) (t u:TS):TS:=λD σ H=>c σ H λb Y=>if b=true then t D σ Y else u D σ Y
theorem Bm{c:Expr}{a b:List Stmt}{tc:TT}(j:PT X c tc)(k:Ga X a t)(l:Ga X b u):PS X (.If c a b L) (RJ tc t u):=by
 intro e s σ H D I h;refine wpAny_If (AW (j e s σ H _ I h) λd f⟨Y,g,i⟩=>?_)
 cases d with
 |true=>exact k e f σ Y D g i
 |false=>exact l e f σ Y D g i
def Lb:TS:=λ_ _ _=>False
theorem XV:PS X st Lb:=λ_ _ _ _ _ _ h=>h.elim
end
abbrev TG:=V->St->Hp->(St->Hp->Prop)->Prop
abbrev Lc:=List V->St->Hp->(St->Hp->Prop)->Prop
def PG (X:Cx) (target:Expr) (t:TG):Prop:=
 ∀(pins:List (Addr×Obj))(s:Shared)(σ:St)(H:Hp)(v:V)(u:Value)(Q:St->Hp->Prop),Inv X pins σ H s->RelV v u->t v σ H Q ->
  wpAny (model X.prog X.w) X.A (assign target X.env u) (λ_ Z=>∃σ' H',Inv X pins σ' H' Z/\Q σ' H') X.xe s
def NF (X:Cx) (ts:List Expr) (t:Lc):Prop:=
 ∀(pins:List (Addr×Obj))(s:Shared)(σ:St)(H:Hp)(vs:List V)(us:List Value)(Q:St->Hp->Prop),Inv X pins σ H s->As vs us->t vs σ H Q ->
  wpAny (model X.prog X.w) X.A (assignInOrder ((assignEach ts X.env).map (·.2)) us) (λ_ Z=>∃σ' H',Inv X pins σ' H' Z/\Q σ' H') X.xe s
abbrev Ld:=V->V->V->Hp->(Hp->Prop)->Prop
def I0 (X:Cx) (t:Ld):Prop:=
 ∀(pins:List (Addr×Obj))(s:Shared)(σ:St)(H:Hp)(o i v:V)(ov iv u:Value)(Q:Hp->Prop),Inv X pins σ H s->RelV o ov->RelV i iv->RelV v u->t o i v H Q ->
  wpAny (model X.prog X.w) X.A (setItem ov iv u) (λ_ Z=>∃H',Inv X pins σ H' Z/\Q H') X.xe s
abbrev RK:=V->V->Hp->VK->Prop
def XW (X:Cx) (op:Operator) (t:RK):Prop:=
 ∀(pins:List (Addr×Obj))(s:Shared)(σ:St)(H:Hp)(x y:V)(v u:Value)(Q:VK),Inv X pins σ H s->RelV x v->RelV y u->t x y H Q ->
  wpAny (model X.prog X.w) X.A (inplaceOp op v u) (EP X pins σ Q) X.xe s
section
variable {X:Cx} {L:Pos}
def Kv (i:Nat):TG:=λv σ H Q=>Q (σ.set i (some v)) H
variable {i:Nat}
theorem Ay{x:Str}(a:X.N.Nodup)(b:X.N[i]?=some x:=by rfl)(c:Loc X.env.scope x:=by first|exact .inl rfl|exact .inr rfl)(d:X.fn x=true\/X.env.scope.names.lookup x=some .local:=by first|exact .inl rfl|exact .inr rfl|assumption):PG X (.Name x L) (Kv i):=by
 intro f s σ H v u Q I r h;exact wpAny_assign_Name (RD I a b c r (λZ e=>⟨_,H,e,h⟩) d)
def NG:Lc:=λvs σ H Q=>mN vs (Q σ H)
def Hg (t:TG) (u:Lc):Lc:=λvs σ H Q=>mC vs λv r=>t v σ H λσ' H'=>u r σ' H' Q
theorem Cn:NF X [] NG:=by
 intro c s σ H a b Q I r h
 replace h:=mN.ex h
 obtain⟨e,h⟩:=h;subst e;cases r;exact assignInOrder_nil ⟨σ,H,I,h⟩
theorem AI{es:List Expr}{t:TG}{u:Lc}(b:PG X e t)(c:NF X es u)
 (d:(assignEach (e::es) X.env).map (·.2)=assign e X.env::(assignEach es X.env).map (·.2):=by rfl):NF X (e::es) (Hg t u):=by
 intro a s σ H l m Q I r h
 replace h:=mC.ex h
 obtain⟨v,n,f,h⟩:=h;subst f
 cases r with
 |cons r g =>
   rw[d];refine assignInOrder_cons (AW (b a s σ H _ _ _ I r h) λ_ i⟨σ1,Y,j,k⟩=>?_);exact c a i σ1 Y _ _ Q j g k
def NH (K:Ah) (n:Nat) (t:Lc):TG:=λv σ H Q=>mT v λa xs=>Aq K H a xs/\xs.length=n/\t xs σ H Q
theorem Co{es:List Expr}{k:Nat}{t:Lc}{n:Nat}(g:X.calm=true)(h:NF X es t)
 (i:(assignEach es X.env).length=n:=by rfl) (z:(assignEach es X.env).findIdx? (·.1)=none:=by rfl):PG X (.Tuple es k L) (NH X.K n t):=by
 intro f s σ H v u Q I r c
 replace c:=mT.ex c
 obtain⟨a,j,l,m,p,c⟩:=c;subst l;cases r;obtain⟨B,d,q,A⟩:=I.tuple m;refine assign_Tuple_tuple (I.ok.hd g) q (by simp[i,<-p,d.length]) z λw x=>?_;have y:Inv X f σ H {s with heap:=w}:=I.kept (t':=s.toks) λb o e=>x b o (CU (A1 e)) e;exact h f _ σ H j _ Q y (by simpa using d) c
def RL (to ti:TE) (t:Ld):TG:=λv σ H Q=>to σ H λo Y=>ti σ Y λi H2=>t o i v H2 λH3=>Q σ H3
theorem Pg{o i:Expr}{d e:TE}{t:Ld}(f:PE X o d)(g:PE X i e)(j:I0 X t)
 (k:∀v,assign (.Subscript o i L) X.env v=(do
  let a <-holding [v] (eval o X.env)
  let b <-holding [v,a] (eval i X.env)
  standAt L
  holding [v,a,b] (setItem a b v)
  release [v,a,b] []):=by intro _;rfl):PG X (.Subscript o i L) (RL d e t):=by
 intro c s σ H v u Q I r h;rw[k];refine Ad (Fj (AW (f c s σ H _ I h) λa l⟨x,Y,m,n,p⟩=>?_));refine Ad (Fj (AW (g c l σ Y _ m p) λb q⟨y,w,z,A,B⟩=>?_));refine Ad (wpAny_standAt (Ad (Fj (AW (j c q σ w x y v a b u _ z n A r B) λ_ F⟨C,D,E⟩=>?_))));exact wpAny_release ⟨σ,C,D,E⟩
def I7 (te:TE) (g:TG):TS:=λD σ H=>(λ_=>te σ H λx Y=>g x σ Y D.nx) Nat.repr
variable {te:TE}
theorem Eb{a:Expr}{g:TG}(c:PE X e te)(d:PG X a g)(f:swapsWithSole [a] e L.line X.env=pure false:=by rfl)(i:swappedStores [a] e X.env=pure none:=by rfl)
 (j:(assignEach [a] X.env).map (·.2)=[assign a X.env]:=by rfl):PS X (.Assign [a] e L) (I7 te g):=by
 intro b s σ H D I h;refine wpAny_Assign_stores (AW (c b s σ H _ I h) λv k⟨x,Y,l,m,n⟩=>?_) f i;rw[j];exact AW (d b k σ Y x v _ l m n) λ_ o q=>q
theorem AQ{x:Str}{t:Pos}(a:X.N.Nodup)(b:PE X e te)(c:X.N[i]?=some x:=by rfl)(d:Loc X.env.scope x:=by first|exact .inl rfl|exact .inr rfl)(f:swapsWith e (some (.Name x t)) L.line X.env=pure false:=by rfl)(g:X.fn x=true\/X.env.scope.names.lookup x=some .local:=by first|exact .inl rfl|exact .inr rfl|assumption) :
 PS X (.Assign [.Name x t] e L) (I7 te (Kv i)):=by
 intro n s σ H D I h;refine wpAny_Assign_Name (AW (b n s σ H _ I h) λv o⟨y,Y,j,k,l⟩=>?_) f;exact RD j a c d k (λp m=>⟨_,Y,m,l⟩) g
def NI (i:Nat) (te:TE) (ti:RK):TS:=λD σ H=>∃x,σ[i]?=some (some x)/\te σ H λy Y=>ti x y Y λz H2=>D.nx (σ.set i (some z)) H2
theorem Le{x:Str}{op:Operator}{f:RK}{t:Pos}(j:X.N.Nodup)(g:X.N[i]?=some x)(b:Loc X.env.scope x)(n:PE X e te)(o:XW X op f)(p:X.fn x=true\/X.env.scope.names.lookup x=some .local:=by first|exact .inl rfl|exact .inr rfl|assumption) :
 PS X (.AugAssign (.Name x t) op e L) (NI i te f):=by
 intro d s σ H D I h;obtain⟨v,q,h⟩:=h;obtain⟨m,A,B⟩:=I.loc;have T:Pf X.env.scope x:=by rcases b with k|k;exact .inl k;exact .inr (.inl k)
 obtain⟨u,r,l⟩:=B i x v g q T;refine wpAny_AugAssign_Name ?_
 have go:wpAny (model X.prog X.w) X.A (eval e X.env) (λw C=>wpAny (model X.prog X.w) X.A (inplaceOp op u w) (λr E=>wpAny (model X.prog X.w) X.A (storeName X.env x r) (λ_=>SP X d D .next) X.xe E) X.xe C) X.xe s:=by
  refine AW (n d s σ H _ I h) λw F⟨y,Y,G,J,K⟩=>?_;refine AW (o d F σ Y v y u w _ G r J K) λz V⟨W,M,N,O,P⟩=>?_;exact RD N j g b O (λZ Q=>⟨_,M,Q,P⟩) p
 rcases l with⟨a,R⟩|⟨a,c,S,U⟩;exact wpAny_loadName_local I.ok.kind a A R go;rcases a with a|a;exact wpAny_loadName_cell I.ok.kind a S U go;rcases b with k|k;have:X.env.scope.names.lookup x=some .free:=a;rw[k] at this;cases this;have:X.env.scope.names.lookup x=some .free:=a;rw[k] at this;cases this
end
section
variable {X:Cx} {L:Pos}
def Lf (c:TT) (tb:TS):TS:=λD σ H=>∃W:Nat->St->Hp->Prop,(∃m,W m σ H)/\∀m σ H,W m σ H ->
 c σ H λb Y=>if b=true then ∃N:St->Hp->Prop,(∀σ' H',N σ' H'->∃m',m'<m/\W m' σ' H')/\tb {D with nx:=N,ct:=N,bk:=D.nx} σ Y else D.nx σ Y
theorem UH{c:Expr}{body:List Stmt}{tc:TT}{tb:TS}(o:PassesOwn (model X.prog X.w) X.A X.env X.xe)(u:PT X c tc)(w:Ga X body tb):PS X (.While c body [] L) (Lf tc tb):=by
 intro m s σ H D I h;obtain⟨W,⟨x,y⟩,turn⟩:=h;refine wpAny_While (codeAny_whileLoop (λn Z=>∃σ' p,Inv X m σ' p Z/\W n σ' p) ?_ x ⟨σ,H,I,y⟩);rintro n z ⟨σ1,Y,A,B⟩;refine wpAny_passesOwn o (AW (u m z σ1 Y _ A (turn n σ1 Y B)) λb C⟨q,r,d⟩=>?_)
 cases b with
 |true =>
   obtain⟨N,t,d⟩:=d;rw[Ak rfl];refine wpAny_passesOwn o (AW (w m C σ1 q _ r d) λf E e=>?_)
   cases f with
   |next =>
     obtain⟨σ3,a,g,i⟩:=e;obtain⟨j,k,l⟩:=t σ3 a i;exact⟨j,k,σ3,a,g,l⟩
   |cont =>
     obtain⟨σ3,a,g,i⟩:=e;obtain⟨j,k,l⟩:=t σ3 a i;exact⟨j,k,σ3,a,g,l⟩
   |brk=>exact e
   |ret v=>exact e
 |false =>
   rw[Aj Cv];exact wpAny_execs_nil ⟨σ1,q,r,d⟩
end
structure It where
 go:Nat->Hp->Prop
 yld:Nat->Hp->V->Hp->Prop
 stop:Nat->Hp->Prop
def Ec (X:Cx) (pins:List (Addr×Obj)) (H:Hp) (b:Addr):Prop:=
 H b=none/\b≠X.env.locals/\b∉X.fs/\(b∈X.ex\/X.s₀.heap.objs.size<=b)/\(∀x c,X.env.cells.lookup x=some c->c≠b)/\∀p∈X.pn++pins,p.1≠b
variable {pins:List (Addr×Obj)}{σ:St}
theorem Inv.fpOk{H':Hp}(I:Inv X pins σ H s)(a:s.heap.objs.size<=b)(d:H' b=none):Ec X pins H' b:=by
 refine⟨d,Nat.ne_of_gt (FH I.lt a),I.nofs a,.inr (El I.sz a),λx c e z=>?_,λp f z=>?_⟩;obtain⟨v,q⟩:=I.cell x c e;exact absurd (FH q.lt (by rw[z];exact a)) (F7 _);exact absurd (FH (A1 (I.pin p f).1) (by rw[z];exact a)) (F7 _)
structure Fl (P:Program) (w:World) (K:Ah) (tg:Expr) (J:It) (fp:List Addr) (it:Addr) (tn:Nat->Heap->Prop):Prop where
 mem:it∈fp
 obj:∀i h,tn i h->∀b∈fp,∃o,h.get? b=some o/\∀v,o.data≠.cell v
 keep:∀i h h',tn i h->(∀b∈fp,∀o,h.get? b=some o->h'.get? b=some o)->tn i h'
 item:∀(X:Cx),X.prog=P->X.w=w->X.K=K->X.calm=true->∀(i:Nat)(pins:List (Addr×Obj))(s:Shared)(σ:St)(H:Hp)(E:Value->Shared->Prop),Inv X pins σ H s->(∀b∈fp,Ec X pins H b)->tn i s.heap->J.go i H ->
  wpAny (model P w) X.A (pyNext (.ref it)) (λr s1=>∃u,r=some u /\
   wpAny (model P w) X.A (letOwnedTupleGo tg (.ref it) u) (λ_ s2=>∃x H',Inv X pins σ H' s2/\RelV x u/\J.yld i H x H'/\tn (i+1) s2.heap/\∀b∈fp,H' b=none) E s1) E s
 done:∀(X:Cx),X.prog=P->X.w=w->X.K=K->X.calm=true->∀(i:Nat)(pins:List (Addr×Obj))(s:Shared)(σ:St)(H:Hp)(E:Value->Shared->Prop),Inv X pins σ H s->(∀b∈fp,Ec X pins H b)->tn i s.heap->J.stop i H ->
  wpAny (model P w) X.A (pyNext (.ref it)) (λr s1=>r=none/\Inv X pins σ H s1) E s
 self:∀(A:Around)(i:Nat)(s:Shared)(Q:Value->Shared->Prop)(E:Value->Shared->Prop),tn i s.heap->Q (.ref it) s->wpAny (model P w) A (pyIter (.ref it)) Q E s
abbrev TI:=St->Hp->(It->Hp->Prop)->Prop
def UI (X:Cx) (pins:List (Addr×Obj)) (σ:St) (tg:Expr) (R:It->Hp->Prop) (itv:Value) (s2:Shared):Prop:=
 ∃(it:Addr)(fp:List Addr)(tn:Nat->Heap->Prop)(J:It)(H':Hp),itv=.ref it/\Inv X pins σ H' s2/\Fl X.prog X.w X.K tg J fp it tn/\tn 0 s2.heap/\(∀b∈fp,Ec X pins H' b)/\R J H'
def PI (X:Cx) (tg j:Expr) (wi:TI):Prop:=
 ∀(pins:List (Addr×Obj))(s:Shared)(σ:St)(H:Hp)(R:It->Hp->Prop),Inv X pins σ H s->wi σ H R ->
  wpAny (model X.prog X.w) X.A (eval j X.env) (λv s1=>wpAny (model X.prog X.w) X.A (pyIter v) (UI X pins σ tg R) X.xe s1) X.xe s
variable {tg:Expr}
theorem Hh{M:Model}{b:Addr}{u:Value}{o:Obj}{n:String}{vs:Array Value}{Q:Unit->Shared->Prop}(c:s.heap.get? b=some o)(d:o.cls=.type n)(hd:o.data=.fields vs)
 (e:["enumerate", "zip", "dict_itemiterator", "dict_reverseitemiterator", "odict_iterator", "itertools.zip_longest", "itertools.pairwise"].contains n=false) (a:Q () s):wpAny M A (letOwnedTupleGo tg (.ref b) u) Q E s:=by
 unfold letOwnedTupleGo
 cases tg<;>first
  |exact Aw a
  |(cases u<;>first
   |exact Aw a
   | (refine Ad (wpAny_load c ?_)
      rw[d,hd]
      show wpAny M A (if(["enumerate", "zip", "dict_itemiterator", "dict_reverseitemiterator", "odict_iterator", "itertools.zip_longest", "itertools.pairwise"].contains n && vs[0]?==some (rawInt _))=true then _ else _) Q E s
      rw[Aj (by intro h;rw[e,Bool.false_and] at h;cases h)]
      exact Aw a))
def Gx (K:Ah) (a:Addr):It:=
 ⟨λi H=>∃xs x,Af K H a xs/\xs[i]?=some x,λi H x H'=>H'=H/\∀xs,Af K H a xs->xs[i]?=some x,λi H=>∃xs,Af K H a xs/\xs.length<=i⟩
def IF (lo:Int) (n:Nat):It:=⟨λi _=>i<n,λi H x H'=>H'=H/\x=.int (lo+i),λi _=>n<=i⟩
theorem XX{K:Ah}(a g:Addr):Fl P w K tg (Gx K a) [g] g (λi h=>h.IsListIter g a i) where
 mem:=by simp
 obj:=λi h f b j=>by
  have e:b=g:=(by simpa using j);subst e;obtain⟨o,e,c,d⟩:=f;exact⟨o,e,λv z=>by rw[d] at z;cases z⟩
 keep:=λi h l f k=>f.at λo e=>k g (by simp) o e
 item:=by
  intro X q r t L i pins s σ H E I m f y;subst q r t;obtain⟨N,x,n,A⟩:=y;obtain⟨Y,B,p,O⟩:=I.list n;obtain⟨u,Q,R⟩:=B.get A;obtain⟨C,D,S,F,G,J⟩:=m g (by simp);refine wpAny_pyNext_list_item f p.isList (x:=u) (by simpa using Q) λl M T=>?_;have U:Inv X pins σ H {s with heap:=l}:=I.turned (t':=s.toks) (λb o j e=>(T.2 b j).trans e) C D F G J;obtain⟨o,e,c,d⟩:=id M;exact⟨u,rfl,Hh (s:={s with heap:=l}) e c d (by decide) ⟨x,H,U,R,⟨rfl,λZ V=>by rw[I.list_inj V n];exact A⟩,M,λb j=>(m b j).1⟩⟩
 done:=by
  intro X q r t L i pins s σ H E I m f y;subst q r t;obtain⟨N,n,A⟩:=y;obtain⟨Y,B,p,O⟩:=I.list n;obtain⟨C,D,S,F,G,J⟩:=m g (by simp);have hl:=B.length;exact wpAny_pyNext_list_end (I.ok.hd L) f p.isList (by simp;omega) λl W=>⟨rfl,I.turned (t':=s.toks) (λb o j e=>W b o j e) C D F G J⟩
 self:=λ_ _ _ _ _ f h=>wpAny_pyIter_listiter f h
theorem XY{K:Ah}(c:Addr)(lo:Int)(n:Nat):Fl P w K tg (IF lo n) [c] c (λi h=>IsRangeIter h c (lo+(i:Nat)*1) ((n:Int)-(i:Nat)) 1) where
 mem:=by simp
 obj:=λi h a b d=>by
  have e:b=c:=(by simpa using d);subst e
  exact⟨_,a,λv z=>by
   have C:Data.fields _=Data.cell v:=z
   cases C⟩
 keep:=λi h f a k=>k c (by simp) _ a
 item:=by
  intro X j l m p i pins s σ H E I g a q;subst j l m;obtain⟨r,u,D,x,y,A⟩:=g c (by simp);have W:=Walks.range (prog:=X.prog) (w:=X.w) (I.ok.hd p) c lo 1 n;refine W.item i s _ _ q a λv f tk F B G=>?_;obtain⟨t,rfl⟩:=F;have J:Inv X pins σ H {s with heap:=f,toks:=tk}:=I.turned (λb o d e=>G b o (by simpa using d) e) r u x y A;refine⟨_,rfl,Hh (s:={s with heap:=f,toks:=tk}) (n:= "range_iterator") B rfl rfl (by decide) ⟨.int (lo+i),H,J,⟨t,?_⟩,⟨rfl,rfl⟩,B,λb d=>(g b d).1⟩⟩;rw[Int.mul_one]
 done:=by
  intro X j l m p i pins s σ H E I g a q;subst j l m;obtain⟨r,u,D,x,y,A⟩:=g c (by simp);exact wpAny_pyNext_range_end (I.ok.hd p) a (by have:n<=i:=q;omega) λf L=>⟨rfl,I.turned (t':=s.toks) (λb o d e=>L b o d e) r u x y A⟩
 self:=λ_ _ _ _ _ a h=>wpAny_pyIter_rangeiter a h
section
variable {X:Cx} {tg:Expr}
def NJ (K:Ah) (tl:TE):TI:=λσ H R=>tl σ H λx Y=>mR x λa=>(∃xs,Af K Y a xs)/\R (Gx K a) Y
theorem C6{l:Expr}{g:TE}(i:PE X l g):PI X tg l (NJ X.K g):=by
 intro pins s σ H R I h;refine AW (i pins s σ H _ I h) λv c⟨x,Y,d,j,f⟩=>?_
 replace f:=mR.ex f
 obtain⟨a,e,⟨n,k⟩,q⟩:=f;subst e;cases j;obtain⟨u,r,p,t⟩:=d.list k;refine wpAny_pyIter_list p.isList ?_;refine⟨c.heap.objs.size,[c.heap.objs.size],_,_,Y,rfl,d.kept (t':=c.toks) λb o e=>Ba _ e,XX a _,⟨_,B8 _ rfl,rfl,rfl⟩,λb m=>?_,q⟩;have e:b=c.heap.objs.size:=(by simpa using m);subst e;exact d.fpOk (AB _) (d.hok.fresh (AB _))
theorem UJ{R:It->Hp->Prop}{lo a:Int}{t u v:Tok}{tk:Nat}(I:Inv X pins σ H s)(d:-(2 ^ 62)<=lo)(f:lo<2 ^ 62)(g:-(2 ^ 62)<=a)(h:a<2 ^ 62)
 (q:R (IF lo (a-lo).toNat) H):wpAny (model X.prog X.w) X.A (pyIter (.ref s.heap.objs.size)) (UI X pins σ tg R) E {s with heap:=s.heap.push {cls:=.type "range",data:=.fields #[.int lo t,.int a u,.int 1 v]},toks:=tk}:=by
 refine wpAny_pyIter_range (IsRange.new ..) (small_one d f g h) ?_;have c:Inv X pins σ H {s with heap:=s.heap.push {cls:=.type "range",data:=.fields #[.int lo t,.int a u,.int 1 v]},toks:=tk}:=I.kept λb o e=>Ba _ e
 refine⟨(s.heap.push {cls:=.type "range",data:=.fields #[.int lo t,.int a u,.int 1 v]}).objs.size,[(s.heap.push {cls:=.type "range",data:=.fields #[.int lo t,.int a u,.int 1 v]}).objs.size],_,_,H,rfl,
  c.kept (t':=tk) λb o e=>Ba _ e,XY _ lo (a-lo).toNat,?_,λb i=>?_,q⟩
 have j:lo+((0:Nat):Int)*1=lo:=(by simp);have k:(((a-lo).toNat:Nat):Int)-((0:Nat):Int)=Builtin.Range.rangeSize lo a 1:=by rw[rangeSize_one];split<;>omega
 show IsRangeIter _ _ (lo+((0:Nat):Int)*1) ((((a-lo).toNat:Nat):Int)-((0:Nat):Int)) 1;rw[j,k];exact B8 _ rfl;have e:b=(s.heap.push {cls:=.type "range",data:=.fields #[.int lo t,.int a u,.int 1 v]}).objs.size:=(by simpa using i);subst e;exact c.fpOk (AB _) (c.hok.fresh (AB _))
def NK (ta:TA):TI:=λσ H R=>ta σ H λvs Y=>mJ vs λj=>-(2 ^ 62)<=j/\j<2 ^ 62/\R (IF 0 j.toNat) Y
def NL (ta:TA):TI:=λσ H R=>ta σ H λvs Y=>∃i j:Int,vs=[.int i,.int j]/\(-(2 ^ 62)<=i/\i<2 ^ 62/\-(2 ^ 62)<=j/\j<2 ^ 62)/\R (IF i (j-i).toNat) Y
variable {L:Pos}
theorem Hi{a:Expr}{c:TA}{p:Pos}(d:Gl X "range")(f:X.mg "range" = none)(g:PA X [a] c)(i:starEach [a] X.env=[(false,eval a X.env)]:=by rfl):PI X tg (.Call (.Name "range" p) [a] [] L) (NK c):=by
 intro pins s σ H R I h;refine Call_ (IX I d f boot_range (PyProof.Rows.callWith_type1 (AW (g L pins s σ H _ I h) λo u⟨v,Y,k,l,b⟩=>?_) i rfl))
 replace b:=mJ.ex b
 obtain⟨j,e,b,m,q⟩:=b;subst e
 cases l with
 |cons r n =>
   cases n;obtain⟨t,rfl⟩:=r;exact call_range_1 (UJ k (by omega) (by omega) b m (by simpa using q))
theorem XZ{a b:Expr}{f:TA}{p:Pos}(k:Gl X "range")(l:X.mg "range" = none)(m:PA X [a,b] f)(n:starEach [a,b] X.env=[(false,eval a X.env),(false,eval b X.env)]:=by rfl)(g:starEach [b] X.env=[(false,eval b X.env)]:=by rfl) :
 PI X tg (.Call (.Name "range" p) [a,b] [] L) (NL f):=by
 intro pins s σ H R I h;refine Call_ (IX I k l boot_range (PyProof.Rows.callWith_type1 (AW (m L pins s σ H _ I h) λz A⟨B,Y,o,u,c⟩=>?_) (by rw[n,g]) (by rw[g];rfl)));obtain⟨i,j,e,⟨c,v,w,x⟩,q⟩:=c;subst e
 cases u with
 |cons r d =>
   cases d with
   |cons y d =>
     cases d;obtain⟨t,rfl⟩:=r;obtain⟨C,rfl⟩:=y;exact call_range_2 (UJ o c v w x q)
def RM (wi:TI) (g:TG) (tb:TS):TS:=λD σ H=>wi σ H λJ Y=>∃W:Nat->Nat->St->Hp->Prop,(∃m,W 0 m σ Y)/\∀i m σ H,W i m σ H ->
 (J.stop i H/\D.nx σ H)\/(J.go i H/\∃N:St->Hp->Prop,(∀σ' H',N σ' H'->∃m',m'<m/\W (i+1) m' σ' H')/\∀x H',J.yld i H x H'->g x σ H' λσ2 H2=>tb {D with nx:=N,ct:=N,bk:=D.nx} σ2 H2)
def NM (fp:List Addr) (h:Heap):List (Addr×Obj):=fp.filterMap λb=>(h.get? b).map λo=>(b,o)
variable {fp:List Addr}
theorem Ph{o:Obj}(a:b∈fp)(e:h.get? b=some o):(b,o)∈NM fp h:=List.mem_filterMap.mpr ⟨b,a,by rw[e];rfl⟩
theorem X0{p:Addr×Obj}(a:p∈NM fp h):p.1∈fp/\h.get? p.1=some p.2:=by
 obtain⟨b,c,e⟩:=List.mem_filterMap.mp a
 cases q:h.get? b with
 |none=>rw[q] at e;cases e
 |some o =>
   rw[q] at e;have d:(b,o)=p:=Bv e;subst d;exact⟨c,q⟩
theorem Inv.pinned(I:Inv X pins σ H s)(f:∀b∈fp,Ec X pins H b)(g:∀b∈fp,∃o,s.heap.get? b=some o/\∀v,o.data≠.cell v):Inv X (pins++NM fp s.heap) σ H s:=
 I.pins_of λp h=>(BF.mp h).elim (λz=>I.pin p (De _ z)) λz=>by
  obtain⟨a,e⟩:=X0 z;obtain⟨i,j,k,_⟩:=f p.1 a;obtain⟨o,c,d⟩:=g p.1 a;rw[e] at c;cases c;exact⟨e,i,j,k,d⟩
theorem Inv.unpinned{a:List (Addr×Obj)}(I:Inv X (pins++a) σ H s):Inv X pins σ H s:=I.pins_of λp b=>I.pin p (De _ (Ej _ b))
theorem CB{j:Expr}{body:List Stmt}{B:TI}{g:TG}{tb:TS}(p:PassesOwn (model X.prog X.w) X.A X.env X.xe)(C:X.calm=true)(P:PI X tg j B)(Q:PG X tg g)(a:Ga X body tb)
 (R:∀x,foldedSetIterable j X.env x=pure x:=by intro _;rfl):PS X (.For tg j body [] L) (RM B g tb):=by
 intro pins s σ H af I h;refine wpAny_For (AW (P pins s σ H _ I h) λv s1 S=>AW S λai s2 U=>?_) R;obtain⟨it,fp,D,ag,V,e,Y,T,aa,E,W,⟨m0,w0⟩,turn⟩:=U;subst e;have A:∀{k:Hp},(∀b∈fp,k b=none)->∀b∈fp,Ec X pins k b:=λhn b a=>⟨hn b a,(E b a).2⟩;refine codeAny_forLoop_any (λn Z=>∃i σ' k,Inv X pins σ' k Z/\D i Z.heap/\(∀b∈fp,k b=none)/\W i n σ' k) ?_ m0 ⟨0,σ,V,Y,aa,λb a=>(E b a).1,w0⟩;rintro n F ⟨i,σ3,t,G,M,O,w3⟩;rcases turn i n σ3 t w3 with⟨stop,qn⟩|⟨go,N,hN,step⟩
 . refine wpAny_passesOwn p (AW (T.done X rfl rfl rfl C i pins F σ3 t X.xe G (A O) M stop) λr s4⟨w,I4⟩=>?_)
   subst w;exact wpAny_execs_nil ⟨σ3,t,I4,qn⟩
 . refine wpAny_passesOwn p (AW (T.item X rfl rfl rfl C i pins F σ3 t X.xe G (A O) M go) λr s4⟨u,w,h4⟩=>?_)
   subst w;refine wpAny_passesOwn p (AW h4 λ_ J⟨x,K,I5,r5,y5,z,ab⟩=>?_);have ae:=I5.pinned (A ab) (T.obj _ _ z);refine wpAny_passesOwn p (AW (Q _ J σ3 K x u _ ae r5 (step x K y5)) λ_ s6⟨σ6,H6,I6,q6⟩=>?_);refine wpAny_passesOwn p (AW (a _ s6 σ6 H6 _ I6 q6) λf y l=>?_)
   have again:∀{σ7:St}{c:Hp},Inv X (pins++NM fp J.heap) σ7 c y->N σ7 c->∃m,m<n/\∃i σ' k,Inv X pins σ' k y/\D i y.heap/\(∀b∈fp,k b=none)/\W i m σ' k:=λ{σ7 c}d q=>by
    obtain⟨m',hm,w7⟩:=hN σ7 c q;refine⟨m',hm,i+1,σ7,c,d.unpinned,T.keep _ _ _ z λb a o e=>(d.pin (b,o) (De _ (De _ (Ph a e)))).1,λb a=>?_,w7⟩;obtain⟨o,e,ah⟩:=T.obj _ _ z b a;exact(d.pin (b,o) (De _ (De _ (Ph a e)))).2.1
   cases f with
   |next=>obtain⟨σ7,c,d,q⟩:=l;exact again d q
   |cont=>obtain⟨σ7,c,d,q⟩:=l;exact again d q
   |brk=>obtain⟨σ7,c,d,l⟩:=l;exact⟨σ7,c,d.unpinned,l⟩
   |ret v=>obtain⟨x7,σ7,c,d,r7,l⟩:=l;exact⟨x7,σ7,c,d.unpinned,r7,l⟩
end
theorem EM{K:Ah}{xs:List V}{g:TG}{tb:TS}{D:Ends}(Pv:Nat->St->Hp->Prop)(f:Pv 0 σ H)(h:∀i σ H,i<=xs.length->Pv i σ H->Af K H a xs)
 (j:∀i x σ H,xs[i]?=some x->Pv i σ H->g x σ H λσ2 b=>tb {D with nx:=Pv (i+1),ct:=Pv (i+1),bk:=D.nx} σ2 b) (hd:∀σ H,Pv xs.length σ H->D.nx σ H) :
 ∃W:Nat->Nat->St->Hp->Prop,(∃m,W 0 m σ H)/\∀i m σ H,W i m σ H ->
  ((Gx K a).stop i H/\D.nx σ H)\/((Gx K a).go i H/\∃N:St->Hp->Prop,(∀σ' H',N σ' H'->∃c,c<m/\W (i+1) c σ' H')/\∀x H',(Gx K a).yld i H x H'->g x σ H' λσ2 b=>tb {D with nx:=N,ct:=N,bk:=D.nx} σ2 b):=by
 refine⟨λi m σ H=>m=xs.length-i/\i<=xs.length/\Pv i σ H,⟨xs.length,by simp,Ck _,f⟩,?_⟩;rintro i m σ H ⟨rfl,k,p⟩;have q:=h i σ H k p;by_cases d:i<xs.length;refine .inr ⟨⟨xs,xs[i],q,by simp[d]⟩,Pv (i+1),λσ' H' l=>⟨xs.length-(i+1),by omega,rfl,d,l⟩,λx H' y=>?_⟩;obtain⟨e,y⟩:=y;subst e;exact j i x σ _ (y xs q) p;have e:i=xs.length:=(by omega);subst e;exact .inl ⟨⟨xs,q,AB _⟩,hd σ H p⟩
theorem Kw{lo:Int}{n:Nat}{g:TG}{tb:TS}{D:Ends}(Pv:Nat->St->Hp->Prop)(d:Pv 0 σ H)
 (f:∀i σ H,i<n->Pv i σ H->g (.int (lo+i)) σ H λσ2 a=>tb {D with nx:=Pv (i+1),ct:=Pv (i+1),bk:=D.nx} σ2 a) (hd:∀σ H,Pv n σ H->D.nx σ H) :
 ∃W:Nat->Nat->St->Hp->Prop,(∃m,W 0 m σ H)/\∀i m σ H,W i m σ H ->
  ((IF lo n).stop i H/\D.nx σ H)\/((IF lo n).go i H/\∃N:St->Hp->Prop,(∀σ' H',N σ' H'->∃c,c<m/\W (i+1) c σ' H')/\∀x H',(IF lo n).yld i H x H'->g x σ H' λσ2 a=>tb {D with nx:=N,ct:=N,bk:=D.nx} σ2 a):=by
 refine⟨λi m σ H=>m=n-i/\i<=n/\Pv i σ H,⟨n,by simp,Ck _,d⟩,?_⟩;rintro i m σ H ⟨rfl,j,p⟩;by_cases b:i<n;refine .inr ⟨b,Pv (i+1),λσ' H' h=>⟨n-(i+1),by omega,rfl,b,h⟩,λx H' y=>?_⟩;obtain⟨e,y⟩:=y;subst e y;exact f i σ _ b p;have e:i=n:=(by omega);subst e;exact .inl ⟨AB _,hd σ H p⟩
abbrev R2:=V->V->Hp->VK->Prop
def DJ (X:Cx) (f:Value->Value->Sem Value) (r:R2):Prop:=
 ∀(pins:List (Addr×Obj))(s:Shared)(σ:St)(H:Hp)(x y:V)(v u:Value)(Q:VK),Inv X pins σ H s->RelV x v->RelV y u->r x y H Q ->
  wpAny (model X.prog X.w) X.A (f v u) (EP X pins σ Q) X.xe s
def Pj (X:Cx) (f:Value->Sem Value) (r:V->Hp->VK->Prop):Prop:=
 ∀(pins:List (Addr×Obj))(s:Shared)(σ:St)(H:Hp)(x:V)(v:Value)(Q:VK),Inv X pins σ H s->RelV x v->r x H Q ->
  wpAny (model X.prog X.w) X.A (f v) (EP X pins σ Q) X.xe s
def A7 (X:Cx) (f:Value) (r:List V->Hp->VK->Prop):Prop:=
 ∀(pins:List (Addr×Obj))(s:Shared)(σ:St)(H:Hp)(xs:List V)(us:List Value)(Q:VK),Inv X pins σ H s->As xs us->r xs H Q ->
  wpAny (model X.prog X.w) X.A (call f us) (EP X pins σ Q) X.xe s
def RN (X:Cx) (r:V->Hp->(Bool->Hp->Prop)->Prop):Prop:=
 ∀(pins:List (Addr×Obj))(s:Shared)(σ:St)(H:Hp)(x:V)(v:Value)(Q:Bool->Hp->Prop),Inv X pins σ H s->RelV x v->r x H Q ->
  wpAny (model X.prog X.w) X.A (truthy v) (TP X pins σ Q) X.xe s
def Gc (r:R2) (ta tb:TE):TE:=λσ H Q=>ta σ H λx Y=>tb σ Y λy H2=>r x y H2 Q
def X1 (r:V->Hp->VK->Prop) (ta:TE):TE:=λσ H Q=>ta σ H λx Y=>r x Y Q
def rI (C:Int->Int->Prop) (g:Int->Int->V):R2:=λx y H Q=>IE x y λi j=>C i j/\Q (g i j) H
def Ja (g:Int->Int->V):R2:=λx y H Q=>IE x y λi j=>Q (g i j) H
def rU (g:Int->V):V->Hp->VK->Prop:=λx H Q=>mI x λi=>Q (g i) H
section
variable {X:Cx} {a b c:Expr} {ta tb tc:TE} {L:Pos}
variable {f:Value->Value->Sem Value}
theorem Lg(e:PE X a ta)(g:PE X b tb){R:V->V->Hp->Prop}(I:Inv X pins σ H s)
 (h:ta σ H λx Y=>tb σ Y λy c=>R x y c) {Q:Value->Shared->Prop} (i:∀v u d x y c,Inv X pins σ c d->RelV x v->RelV y u->R x y c->wpAny (model X.prog X.w) X.A (f v u) Q X.xe d) :
 wpAny (model X.prog X.w) X.A (eval a X.env) (λv j=>wpAny (model X.prog X.w) X.A (eval b X.env) (λu k=>wpAny (model X.prog X.w) X.A (f v u) Q X.xe k) X.xe j) X.xe s:=by
 refine AW (e pins s σ H _ I h) λv l⟨x,Y,m,n,o⟩=>?_;refine AW (g pins l σ Y _ m o) λu d⟨y,c,p,q,r⟩=>?_;exact i v u d x y c p n q r
theorem AA{op:Operator}{r:R2}(c:DJ X (binaryOp op) r)(d:PE X a ta)(e:PE X b tb):PE X (.BinOp a op b L) (Gc r ta tb):=by
 intro pins s σ H Q I h;exact wpAny_BinOp (Lg d e I h λv u f x y g i j k q=>c pins f σ g x y v u Q i j k q)
theorem Pk{op:UnaryOp}{r:V->Hp->VK->Prop}(b:Pj X (unaryOp op) r)(c:PE X a ta):PE X (.UnaryOp op a L) (X1 r ta):=by
 intro pins s σ H Q I h;exact UnaryOp_ (AW (c pins s σ H _ I h) λv d⟨x,Y,e,f,g⟩=>b pins d σ Y x v Q e f g)
theorem RO{C:Int->Int->Prop}{g:Int->Int->Int}
 (e:∀(i j:Int)(t u:Tok)(s:Shared)(Q:Value->Shared->Prop)(E:Value->Shared->Prop),C i j->Q (.int (g i j) s.toks) {s with toks:=s.toks+1}->wpAny (model X.prog X.w) X.A (f (.int i t) (.int j u)) Q E s) :
 DJ X f (rI C λi j=>.int (g i j)):=by
 intro pins s σ H x y v u Q I a b h
 replace h:=IE.ex h
 obtain⟨i,j,rfl,rfl,c,q⟩:=h;obtain⟨t,rfl⟩:=a;obtain⟨d,rfl⟩:=b;exact e i j t d s _ _ c ⟨.int (g i j),H,I.tok _,⟨_,rfl⟩,q⟩
theorem Lh{g:Int->Int->Int}
 (d:∀(i j:Int)(t u:Tok)(s:Shared)(Q:Value->Shared->Prop)(E:Value->Shared->Prop),Q (.int (g i j) s.toks) {s with toks:=s.toks+1}->wpAny (model X.prog X.w) X.A (f (.int i t) (.int j u)) Q E s) :
 DJ X f (Ja λi j=>.int (g i j)):=by
 intro pins s σ H x y v u Q I a b h
 replace h:=IE.ex h
 obtain⟨i,j,rfl,rfl,q⟩:=h;obtain⟨t,rfl⟩:=a;obtain⟨c,rfl⟩:=b;exact d i j t c s _ _ ⟨.int (g i j),H,I.tok _,⟨_,rfl⟩,q⟩
theorem NN{g:Int->Int->Bool}
 (d:∀(i j:Int)(t u:Tok)(s:Shared)(Q:Value->Shared->Prop)(E:Value->Shared->Prop),Q (.bool (g i j)) s->wpAny (model X.prog X.w) X.A (f (.int i t) (.int j u)) Q E s) :
 DJ X f (Ja λi j=>.bl (g i j)):=by
 intro pins s σ H x y v u Q I a b h
 replace h:=IE.ex h
 obtain⟨i,j,rfl,rfl,q⟩:=h;obtain⟨t,rfl⟩:=a;obtain⟨c,rfl⟩:=b;exact d i j t c s _ _ ⟨.bl (g i j),H,I,rfl,q⟩
def RP (i j:Int):Prop:=0<j/\j<1073741824
def Li (i j:Int):Prop:=(-(2 ^ 64)<i/\i<2 ^ 64)\/(-(2 ^ 64)<j/\j<2 ^ 64)
theorem Li.ok{i j:Int}(h:Li i j):IntMulOk i j:=by
 rcases h with⟨a,b⟩|⟨a,b⟩;exact .of_left (intBits_le_64 a b);exact .of_right (intBits_le_64 a b)
theorem Hj:DJ X (binaryOp .Add) (Ja λi j=>.int (i+j)):=Lh λ_ _ _ _ _ _ _ q=>add_int q
theorem Lj:DJ X (binaryOp .Sub) (Ja λi j=>.int (i-j)):=Lh λ_ _ _ _ _ _ _ q=>sub_int q
theorem EG:DJ X (binaryOp .Mult) (rI Li λi j=>.int (i*j)):=RO λ_ _ _ _ _ _ _ a q=>mul_int q a.ok
theorem EN:DJ X (binaryOp .FloorDiv) (rI RP λi j=>.int (i/j)):=RO λi j _ _ _ _ _ a q=>by
 have b:(0:Int)<j:=a.1;have c:j<1073741824:=a.2;exact floordiv_int (by omega) (by rw[Int.fdiv_eq_ediv_of_nonneg i (by omega)];exact q) (.inl (PyProof.noPylong_small (by omega)))
theorem Bf:DJ X (binaryOp .Mod) (rI (λ_ j=>0<j) λi j=>.int (i%j)):=RO λi j _ _ _ _ _ a q=>by
 have b:(0:Int)<j:=a;exact mod_int' (by omega) (by rw[Int.fmod_eq_emod_of_nonneg i (by omega)];exact q)
theorem UK:DJ X (inplaceOp .Add) (Ja λi j=>.int (i+j)):=Lh λ_ _ _ _ _ _ _ q=>iadd_int q
theorem X2{f:Value->Sem Value}{g:Int->Int}
 (b:∀(i:Int)(t:Tok)(s:Shared)(Q:Value->Shared->Prop)(E:Value->Shared->Prop),Q (.int (g i) s.toks) {s with toks:=s.toks+1}->wpAny (model X.prog X.w) X.A (f (.int i t)) Q E s) :
 Pj X f (rU λi=>.int (g i)):=by
 intro pins s σ H x v Q I a h
 replace h:=mI.ex h
 obtain⟨i,rfl,q⟩:=h;obtain⟨t,rfl⟩:=a;exact b i t s _ _ ⟨.int (g i),H,I.tok _,⟨_,rfl⟩,q⟩
theorem Pl:Pj X (unaryOp .USub) (rU λi=>.int (-i)):=X2 λ_ _ _ _ _ q=>neg_int q
end
def Ll:V->V->Bool
 |.non,.non=>true|.non,.int _=>true|.int _,.non=>true|.non,.bl _=>true|.bl _,.non=>true|.non,.str _=>true|.str _,.non=>true
 |.int _,.int _=>true|.bl _,.bl _=>true|.str _,.str _=>true|.byt _,.byt _=>true
 |.int _,.str _=>true|.str _,.int _=>true|.bl _,.str _=>true|.str _,.bl _=>true
 |_,_=>false
def X3:R2:=λx y H Q=>Ll x y=true/\Q (.bl (decide (x=y))) H
def UL:R2:=λx y H Q=>Ll x y=true/\Q (.bl (!decide (x=y))) H
theorem UM{i j:Int}:decide (V.int i=V.int j)=(i==j):=by
 rw[Bool.eq_iff_iff]
 simp
theorem Hk{i j:Bool}:decide (V.bl i=V.bl j)=(i==j):=by
 rw[Bool.eq_iff_iff]
 simp
theorem UN{i j:Str}:decide (V.str i=V.str j)=(i==j):=by
 rw[Bool.eq_iff_iff]
 simp
theorem UO{i j:Array UInt8}:decide (V.byt i=V.byt j)=(i.toList==j.toList):=by
 rw[Bool.eq_iff_iff];cases i;cases j
 simp
section
variable {X:Cx} {a b c:Expr} {ta tb tc:TE} {L:Pos}
theorem Dg{Q:VK}{k a:Bool}(I:Inv X pins σ H s)(q:Q (.bl k) H)(e:k=a):EP X pins σ Q (.bool a) s:=by
 subst e;exact⟨.bl k,H,I,rfl,q⟩
theorem CC:DJ X (compareOp .Eq) X3:=by
 intro pins s σ H x y v u Q I d a h;obtain⟨c,q⟩:=h
 cases x with
 |non =>
   cases d
   cases y with
   |non=>cases a;exact PySem.EqNone.eq_none_none (Dg I q (by simp))
   |bl j=>cases a;exact PySem.EqNone.eq_none_bool (Dg I q (by simp))
   |int j=>obtain⟨b,rfl⟩:=a;exact PySem.EqNone.eq_none_int (Dg I q (by simp))
   |str j=>obtain⟨b,rfl⟩:=a;exact PySem.EqNone.eq_none_str (Dg I q (by simp))
   |_=>exact absurd (show false=true from c) Cv
 |bl i =>
   cases d
   cases y with
   |non=>cases a;exact PySem.EqNone.eq_bool_none (Dg I q (by simp))
   |bl j=>cases a;exact eq_bool (Dg I q Hk)
   |str j=>obtain⟨b,rfl⟩:=a;exact PySem.EqMixed.eq_bool_str (Dg I q (by simp))
   |_=>exact absurd (show false=true from c) Cv
 |int i =>
   obtain⟨t,rfl⟩:=d
   cases y with
   |non=>cases a;exact PySem.EqNone.eq_int_none (Dg I q (by simp))
   |int j=>obtain⟨b,rfl⟩:=a;exact eq_int (Dg I q UM)
   |str j=>obtain⟨b,rfl⟩:=a;exact PySem.EqMixed.eq_int_str (Dg I q (by simp))
   |_=>exact absurd (show false=true from c) Cv
 |str i =>
   obtain⟨t,rfl⟩:=d
   cases y with
   |non=>cases a;exact PySem.EqNone.eq_str_none (Dg I q (by simp))
   |bl j=>cases a;exact PySem.EqMixed.eq_str_bool (Dg I q (by simp))
   |int j=>obtain⟨b,rfl⟩:=a;exact PySem.EqMixed.eq_str_int (Dg I q (by simp))
   |str j=>obtain⟨b,rfl⟩:=a;exact eq_str (Dg I q UN)
   |_=>exact absurd (show false=true from c) Cv
 |byt i =>
   obtain⟨t,rfl⟩:=d
   cases y with
   |byt j=>obtain⟨b,rfl⟩:=a;exact PySem.W.eq_bytes (Dg I q UO)
   |_=>exact absurd (show false=true from c) Cv
 |_=>cases y<;>exact absurd (show false=true from c) Cv
theorem Po:DJ X (compareOp .NotEq) UL:=by
 intro pins s σ H x y v u Q I d a h;obtain⟨c,q⟩:=h
 cases x with
 |non =>
   cases d
   cases y with
   |non=>cases a;exact PySem.EqNone.ne_none_none (Dg I q (by simp))
   |bl j=>cases a;exact PySem.EqNone.ne_none_bool (Dg I q (by simp))
   |int j=>obtain⟨b,rfl⟩:=a;exact PySem.EqNone.ne_none_int (Dg I q (by simp))
   |str j=>obtain⟨b,rfl⟩:=a;exact PySem.EqNone.ne_none_str (Dg I q (by simp))
   |_=>exact absurd (show false=true from c) Cv
 |bl i =>
   cases d
   cases y with
   |non=>cases a;exact PySem.EqNone.ne_bool_none (Dg I q (by simp))
   |bl j=>cases a;exact ne_bool (Dg I q (BI not Hk))
   |str j=>obtain⟨b,rfl⟩:=a;exact PySem.EqMixed.ne_bool_str (Dg I q (by simp))
   |_=>exact absurd (show false=true from c) Cv
 |int i =>
   obtain⟨t,rfl⟩:=d
   cases y with
   |non=>cases a;exact PySem.EqNone.ne_int_none (Dg I q (by simp))
   |int j=>obtain⟨b,rfl⟩:=a;exact ne_int (Dg I q (BI not UM))
   |str j=>obtain⟨b,rfl⟩:=a;exact PySem.EqMixed.ne_int_str (Dg I q (by simp))
   |_=>exact absurd (show false=true from c) Cv
 |str i =>
   obtain⟨t,rfl⟩:=d
   cases y with
   |non=>cases a;exact PySem.EqNone.ne_str_none (Dg I q (by simp))
   |bl j=>cases a;exact PySem.EqMixed.ne_str_bool (Dg I q (by simp))
   |int j=>obtain⟨b,rfl⟩:=a;exact PySem.EqMixed.ne_str_int (Dg I q (by simp))
   |str j=>obtain⟨b,rfl⟩:=a;exact ne_str (Dg I q (BI not UN))
   |_=>exact absurd (show false=true from c) Cv
 |byt i =>
   obtain⟨t,rfl⟩:=d
   cases y with
   |byt j=>obtain⟨b,rfl⟩:=a;exact PySem.W.ne_bytes (Dg I q (BI not UO))
   |_=>exact absurd (show false=true from c) Cv
 |_=>cases y<;>exact absurd (show false=true from c) Cv
theorem GO:DJ X (compareOp .Lt) (Ja λi j=>.bl (decide (i<j))):=NN λ_ _ _ _ _ _ _ q=>lt_int q
theorem Hl:DJ X (compareOp .Gt) (Ja λi j=>.bl (decide (j<i))):=NN λ_ _ _ _ _ _ _ q=>gt_int q
variable {op:CmpOp}
theorem Bw(b:Expr)(h:op≠.In:=by decide)(a:op≠.NotIn:=by decide):behindInMarks op b=false:=by
 have c:(op==CmpOp.In)=false:=by cases op<;>first|rfl|exact absurd rfl h
 have d:(op==CmpOp.NotIn)=false:=by cases op<;>first|rfl|exact absurd rfl a
 cases b<;>simp[behindInMarks,c,d]
variable {r:R2}
theorem Jb(c:DJ X (compareOp op) r)(d:PE X a ta)(e:PE X b tb)(f:behindInMarks op b=false):PE X (.Compare a [op] [b] L) (Gc r ta tb):=by
 intro pins s σ H Q I h;exact wpAny_Compare1 (Lg d e I h λv u g x y i j k l q=>c pins g σ i x y v u Q j k l q) f
def Kx (t:TE):TT:=λσ H Q=>t σ H λx H'=>mB x λk=>Q k H'
theorem BJ(f:DJ X (compareOp op) r)(g:PE X a ta)(i:PE X b tb)(j:behindInMarks op b=false):PT X (.Compare a [op] [b] L) (Kx (Gc r ta tb)):=by
 intro pins s σ H Q I h
 refine wpAny_isTrue_Compare1 (AW (g pins s σ H _ I h) λv l⟨x,Y,m,n,o⟩=>AW (i pins l σ Y _ m o) λu p⟨y,q,t,w,A⟩ =>
  AW (f pins p σ q x y v u _ t n w A) λc E⟨z,B,C,D,d⟩=>?_) j
 replace d:=mB.ex d
 obtain⟨k,e,d⟩:=d;subst e;cases D;exact FI ⟨B,C,d⟩
def Lm (r r':R2) (ta tb tc:TE):TE:=λσ H Q=>ta σ H λx Y=>tb σ Y λy H2=>r x y H2 λz H3=>∃k,z=.bl k /\
 (if k=true then tc σ H3 λw' H4=>r' y w' H4 Q else Q (.bl false) H3)
theorem X4{i:CmpOp}{j:R2}(o:DJ X (compareOp op) r)(aa:DJ X (compareOp i) j)(p:PE X a ta)(q:PE X b tb)(t:PE X c tc)
 (w:lastMarks [op,i] [b,c]=false:=by with_unfolding_all rfl):PT X (.Compare a [op,i] [b,c] L) (Kx (Lm r j ta tb tc)):=by
 intro pins s σ H Q I h
 refine isTrue_chain (AW (p pins s σ H _ I h) λv z⟨x,Y,A,B,C⟩=>test_link (AW (q pins z σ Y _ A C) λu D⟨y,E,F,l,G⟩ =>
  AW (o pins D σ E x y v u _ F B l G) λab J⟨ae,g,m,K,k,e,n⟩=>?_)) w
 subst e;cases K;refine FI ?_
 cases k with
 |false =>
   have d:mB (.bl false) (λk=>Q k g):=n
   replace d:=mB.ex d
   obtain⟨k',M,N⟩:=d;cases M;exact ite_ff ⟨g,m,N⟩
 |true =>
   refine ite_tt (test_last (AW (t pins J σ g _ m n) λO P⟨R,S,T,U,d⟩=>AW (aa pins P σ S y R u O _ T l U d) λd' s5⟨z2,V,W,Z,f⟩=>?_))
   replace f:=mB.ex f
   obtain⟨k2,e2,f⟩:=f;subst e2;cases Z;exact FI ⟨V,W,f⟩
def RQ (K:Ah) (x:V) (H:Hp) (k:Bool):Prop:=
 match x with
 |.non=>k=false
 |.bl b=>k=b
 |.int i=>k=(i != 0)
 |.str y=>y.length<=sizeLine/\k=((y.length:Int) != 0)
 |.byt y=>y.size<=sizeLine/\k=((y.size:Int) != 0)
 |.ref p=>(∃xs,Af K H p xs/\k=!xs.isEmpty)\/(∃xs,Aq K H p xs/\k=!xs.isEmpty)\/∃kvs,H p=some (.dK kvs)/\k=!kvs.isEmpty
 |_=>False
theorem X5{κ:Type}{a:List (κ×V)}{vs:List (κ×Value)}(r:KV a vs):(!vs.isEmpty)=!a.isEmpty:=by
 cases r<;>rfl
theorem UP{xs:List V}{a:List Value}(r:As xs a):(!a.toArray.isEmpty)=!xs.isEmpty:=by
 cases r<;>simp
theorem MY:(sizeLine:Nat)<2 ^ 63:=by rw[sizeLine_eq];decide
theorem Ln:RN X (λx H Q=>∃k,RQ X.K x H k/\Q k H):=by
 intro pins s σ H x v Q I d h;obtain⟨k,e,q⟩:=h;have A:=MY;have B:sizeLine=16777216:=sizeLine_eq
 cases x with
 |non =>
   cases d;have a:k=false:=e;subst a;exact truthy_none ⟨H,I,q⟩
 |bl b =>
   cases d;have a:k=b:=e;subst a;exact FI ⟨H,I,q⟩
 |int i =>
   obtain⟨t,rfl⟩:=d;have a:k=(i != 0):=e;subst a;exact PySem.P.truthy_int ⟨H,I,q⟩
 |str y =>
   obtain⟨t,rfl⟩:=d;obtain⟨u,a⟩:y.length<=sizeLine/\k=((y.length:Int) != 0):=e;subst a;exact PySem.P.truthy_str (by omega) ⟨H,I.tok _,q⟩
 |byt y =>
   obtain⟨t,rfl⟩:=d;obtain⟨u,a⟩:y.size<=sizeLine/\k=((y.size:Int) != 0):=e;subst a;exact PySem.W.truthy_bytes (by omega) ⟨H,I.tok _,q⟩
 |ref p =>
   cases d;have a:(∃c,Af X.K H p c/\k=!c.isEmpty)\/(∃c,Aq X.K H p c/\k=!c.isEmpty)\/∃f,H p=some (.dK f)/\k=!f.isEmpty:=e;rcases a with⟨c,g,a⟩|⟨c,g,a⟩|⟨f,g,a⟩;subst a;obtain⟨z,r,l,n⟩:=I.list g;have o:=r.length;exact wpAny_truthy_list l.isList (by simp only[Cu];omega) ⟨H,I.tok _,by rw[UP r];exact q⟩;subst a;obtain⟨z,r,l,n⟩:=I.tuple g;have o:=r.length;exact truthy_tuple l (by simp only[Cu];omega) ⟨H,I.tok _,by rw[UP r];exact q⟩;subst a;obtain⟨n,w,j,r,m⟩:f.length<=sizeLine/\(p==sysModules)=false/\∃j,KV f j/\s.heap.DictOf (EL X.prog X.w) p j:=I.hok p _ g;have o:f.length=j.length:=Paired.length r;exact wpAny_truthy_dict w m (by omega) ⟨H,I.tok _,by rw[X5 r];exact q⟩
 |_=>exact(show False from e).elim
theorem UQ:DJ X (binaryOp .Add) (λx y H Q=>∃i j,x=.str i/\y=.str j/\i.length+j.length<=sizeLine/\Q (.str (i++j)) H):=by
 intro pins s σ H x y v u Q I a b h;obtain⟨i,j,rfl,rfl,c,q⟩:=h;obtain⟨t,rfl⟩:=a;obtain⟨d,rfl⟩:=b;exact add_str (λd tk=>⟨.str (i++j),H,I.tok _,⟨_,rfl⟩,q⟩) c
theorem Fm{us:List Value}(r:As [x] us):∃u,us=[u]/\RelV x u:=by
 cases r with
 |cons a b=>cases b;exact⟨_,rfl,a⟩
theorem Jc{y:V}{us:List Value}(r:As [x,y] us):∃u a,us=[u,a]/\RelV x u/\RelV y a:=by
 cases r with
 |cons b c =>
   cases c with
   |cons d e=>cases e;exact⟨_,_,rfl,b,d⟩
theorem UR(b:X.calm=true):A7 X (.builtin "min") (λxs H Q=>∃i j,xs=[.int i,.int j]/\Q (.int (if j<i then j else i)) H):=by
 intro pins s σ H xs c Q I r h;obtain⟨i,j,rfl,q⟩:=h;obtain⟨u,d,rfl,⟨t,rfl⟩,⟨e,rfl⟩⟩:=Jc r;refine min_two_ints (I.ok.hd b) λf tk k=>⟨_,H,I.kept k,?_,q⟩;by_cases a:j<i;rw[Ak a,Ak a];exact⟨_,rfl⟩;rw[Aj a,Aj a];exact⟨_,rfl⟩
theorem RS:A7 X (.type "int") (λxs H Q=>(∃i,xs=[.int i]/\Q (.int i) H)\/∃k,xs=[.bl k]/\Q (.int (if k then 1 else 0)) H):=by
 intro pins s σ H xs b Q I r h;rcases h with⟨i,rfl,q⟩|⟨k,rfl,q⟩;obtain⟨u,rfl,t,rfl⟩:=Fm r;exact call_int_int ⟨.int i,H,I,⟨_,rfl⟩,q⟩;obtain⟨u,rfl,a⟩:=Fm r
 cases a;exact call_int_bool ⟨.int (if k then 1 else 0),H,I.tok _,⟨_,rfl⟩,q⟩
def RU (K:Ah) (x:V) (H:Hp) (n:Nat):Prop:=
 match x with
 |.str y=>y.length<=sizeLine/\n=y.length
 |.byt y=>y.size<=sizeLine/\n=y.size
 |.ref p=>(∃xs,Af K H p xs/\n=xs.length)\/∃xs,Aq K H p xs/\n=xs.length
 |_=>False
theorem DK:A7 X (.builtin "len") (λxs H Q=>mL xs λx n=>RU X.K x H n/\Q (.int n) H):=by
 intro pins s σ H xs l Q I r h
 replace h:=mL.ex h
 obtain⟨x,n,rfl,e,q⟩:=h;obtain⟨u,rfl,b⟩:=Fm r;have m:=MY;have o:sizeLine=16777216:=sizeLine_eq
 cases x with
 |str y =>
   obtain⟨t,rfl⟩:=b;obtain⟨i,a⟩:y.length<=sizeLine/\n=y.length:=e;subst a;exact len_str (by omega) ⟨.int _,H,I.tok _,⟨_,rfl⟩,q⟩
 |byt y =>
   obtain⟨t,rfl⟩:=b;obtain⟨i,a⟩:y.size<=sizeLine/\n=y.size:=e;subst a;exact PySem.W.len_bytes (by omega) ⟨.int _,H,I.tok _,⟨_,rfl⟩,q⟩
 |ref p =>
   cases b;have a:(∃xs,Af X.K H p xs/\n=xs.length)\/∃xs,Aq X.K H p xs/\n=xs.length:=e;rcases a with⟨xs,c,a⟩|⟨xs,c,a⟩;subst a;obtain⟨k,d,f,j⟩:=I.list c;have g:=d.length;exact Calls.call_len_list f.isList (by simp only[Cu];omega) ⟨.int xs.length,H,I.tok _,⟨_,by simp only[Cu];rw[g]⟩,q⟩;subst a;obtain⟨k,d,f,j⟩:=I.tuple c;have g:=d.length;exact len_tuple f (by simp only[Cu];omega) ⟨.int xs.length,H,I.tok _,⟨_,by simp only[Cu];rw[g]⟩,q⟩
 |_=>exact(show False from e).elim
end
section
variable {prog:Program} {w:World} {A:Around} {E:Value->Shared->Prop} {s:Shared} {K:Ah} {x dx C f:Addr} {mA:Str->Option Value} {name:Str} {v:Value}
end
theorem Ea.some_of{v:V}{o:Option Value}(r:Ea (some v) o):∃u,o=some u/\RelV v u:=by
 cases o with
 |none=>exact(show False from r).elim
 |some u=>exact⟨u,rfl,r⟩
section
variable {P:Program} {w:World} {H H':Hp} {h h':Heap} {a C dx:Addr} {fs fs':List (Str×V)}
end
section
variable {X:Cx} {pins:List (Addr×Obj)} {σ:St} {H:Hp} {s:Shared} {a C dx:Addr} {fs:List (Str×V)} {f:Str} {v:V} {A:Around} {E:Value->Shared->Prop}
end
section
variable {X:Cx} {o e d:Expr} {f:Str} {L t j:Pos} {ta J:TE}
end
section
variable {X:Cx} {pins:List (Addr×Obj)} {σ:St} {H:Hp} {s:Shared} {A:Around} {E:Value->Shared->Prop} {Q:Value->Shared->Prop} {c:Value} {b:Bool}
end
structure B2 (k:Nat) (A:Around):Prop where
 hd:A.handled=none
 dp:A.depth+3*k+5<recursionLimit
 un:A.units+16*k+200<cLine
theorem B2.mono{j k:Nat}(r:B2 k A)(h:j<=k):B2 j A:=⟨r.hd,by have:=r.dp;omega,by have:=r.un;omega⟩
theorem B2.deeper{k:Nat}{A:Around}(r:B2 (k+1) A)(env:Env):B2 k (A.deeper env):=
 ⟨r.hd,by have:=r.dp;show A.depth+1+3*k+5<_;omega,by have:=r.un;show A.units+3+16*k+200<_;omega⟩
theorem B2.depth{k:Nat}{A:Around}(r:B2 k A):A.depth<recursionLimit:=by have:=r.dp;omega
theorem B2.units{k:Nat}{A:Around}(r:B2 k A):A.units+64<cLine:=by have:=r.un;omega
def GP:TA:=λ_ H Q=>Q [] H
def Hm (ta:TE) (tr:TA):TA:=λσ H Q=>ta σ H λx Y=>tr σ Y λxs H2=>Q (x::xs) H2
section
variable {X:Cx} {e:Expr} {es:List Expr} {te:TE} {t:TA} {L:Pos}
theorem Ae:PA X [] GP:=λ_ _ _ _ H Q I h=>Calls.spliced_nil ⟨[],H,I,.nil,h⟩
theorem Ab(a:PE X e te)(b:PA X es t)(c:starEach (e::es) X.env=(false,eval e X.env)::starEach es X.env:=by rfl):PA X (e::es) (Hm te t):=by
 intro L pins s σ H Q I h;rw[c];show wpAny _ _ (spliced ((false,eval e X.env)::backTo L (starEach es X.env))) _ _ s;refine Calls.spliced_cons (AW (a pins s σ H _ I h) λu d⟨x,Y,f,g,i⟩=>?_);exact AW (b L pins d σ Y _ f i) λo p⟨j,k,l,m,n⟩=>⟨x::j,k,l,.cons g m,n⟩
def RV (t:TA):TE:=λσ H Q=>t σ H λxs Y=>xs.length<=sizeLine/\∀p,Y p=none->Q (.ref p) (upd Y p (.tup xs))
def NO (t:TA):TE:=λσ H Q=>t σ H λxs Y=>xs.length<=sizeLine/\∀p,Y p=none->Q (.ref p) (upd Y p (.lst xs))
theorem Bs{d}(h:PA X es t):PE X (.Tuple es d L) (RV t):=by
 intro pins s σ H Q I f;refine wpAny_Tuple_spliced (AW (h L pins s σ H _ I f) λg a⟨i,Y,c,r,z,q⟩=>⟨by rw[<-r.length];exact z,?_⟩);have j:Y a.heap.objs.size=none:=c.hok.fresh (AB _);refine⟨.ref a.heap.objs.size,upd Y a.heap.objs.size (.tup i),c.laid (t':=a.toks) (λb u e=>Ba _ e) (AB _) ?_,rfl,q _ j⟩;exact⟨z,g,r,⟨_,B8 _ rfl,rfl,_,rfl⟩⟩
theorem Cp(h:PA X es t):PE X (.List es L) (NO t):=by
 intro pins s σ H Q I d;refine wpAny_List_spliced (AW (h L pins s σ H _ I d) λf a⟨g,Y,c,r,z,q⟩=>⟨by rw[<-r.length];exact z,?_⟩);have i:Y a.heap.objs.size=none:=c.hok.fresh (AB _);refine⟨.ref a.heap.objs.size,upd Y a.heap.objs.size (.lst g),c.laid (t':=a.toks) (λb u e=>Ba _ e) (AB _) ?_,rfl,q _ i⟩;exact⟨z,f,0,r,B8 _ rfl⟩
end
abbrev Sp:=List V->Hp->VK->XK->Prop
abbrev Ho:=List Env->Hp->Shared->XK->Value->Shared->Prop
structure Jd (P:Program) (w:World) (K:Ah) (mg:Str->Option Value) (base:Heap) (A:Around) (outer:List Env) (s:Shared) (H:Hp):Prop where
 frames:A.frames=some outer
 mod:Mod K mg base
 bs:∀b o,base.get? b=some o->s.heap.get? b=some o/\H b=none
 bsz:base.objs.size<=s.heap.objs.size
 funs:s.heap.FunFrames base outer
 frf:∀b∈E2 outer,H b=none
 hok:CW P w H s.heap
 bare:AllBare s.gens
def CE (outer:List Env) (P:Program) (w:World) (H:Hp) (s:Shared) (Q:VK) (u:Value) (Z:Shared):Prop:=
 ∃v H',Z.os=s.os/\AllBare Z.gens/\Un (E2 outer) [] H H' s.heap Z.heap/\CW P w H' Z.heap/\RelV v u/\Q v H'
def CR (CX:Ho) (outer:List Env) (P:Program) (w:World) (H:Hp) (s:Shared) (Q:VK) (E:XK) (r:Result) (Z:Shared):Prop:=
 match r with
 |.ok (.ret u)=>CE outer P w H s Q u Z
 |.ok _=>False
 |.error e=>CX outer H s E e Z
structure Et (P:Program) (w:World) (K:Ah) (mg:Str->Option Value) (base:Heap) (CX:Ho) (k:Nat) (f:Addr) (fd:FuncData) (ps:List Str) (sp:Sp):Prop where
 len:∀vs H Q E,sp vs H Q E->vs.length=ps.length
 run:∀(A:Around)(outer:List Env)(s:Shared)(H:Hp)(args:Args)(us:List Value)(vs:List V)(Q:VK)(E:XK),B2 k A->Jd P w K mg base A outer s H->BindsTo s fd args (ps.zip us)->As vs us->sp vs H Q E ->
  codeAny (model P w) A (.call (.ref f) args) (CR CX outer P w H s Q E) s
section
variable {X:Cx} {pins:List (Addr×Obj)} {σ:St} {H:Hp} {s Z:Shared}
theorem Inv.env0(I:Inv X pins σ H s):Jd X.prog X.w X.K X.mg X.base X.A X.stack s H:=
 ⟨I.ok.frames,I.ok.mod,I.bs,El I.ok.bsz I.sz,I.stack,I.stkFree,I.hok,I.bare⟩
theorem Inv.after{Q:VK}{u:Value}(I:Inv X pins σ H s)(h:CE X.stack X.prog X.w H s Q u Z):EP X pins σ Q u Z:=by
 obtain⟨v,a,c,j,un,f,r,q⟩:=h;obtain⟨e,g,d,t,i⟩:=Z;obtain rfl:i=s.os:=c;exact⟨v,a,I.call (h':=e) (g':=g) (d':=d) (t':=t) (ch:=[]) un f j (λb z=>absurd z (by simp)),r,q⟩
end
def Pp (sp:Sp) (c:List V) (E:XK) (t:TA):TE:=λσ H Q=>t σ H λvs Y=>sp (vs++c) Y Q E
def Binds (K:Ah) (fd:FuncData) (ps:List Str) (ds:List Value):Prop:=
 ∀(s:Shared)(us:List Value),K.In s.heap->(us++ds).length=ps.length->BindsTo s fd ⟨us,[]⟩ (ps.zip (us++ds))
variable {ps:List Str}
theorem Binds.all{K:Ah}{a:FuncData}(h:∀us:List Value,us.length=ps.length->bindArgs a ⟨us,[]⟩=pure (ps.zip us)):Binds K a ps []:=λs us _ b=>by
 rw[FC] at b ⊢;exact .of_eq (h us b)
def RW (CX:Ho) (X:Cx) (E:XK):Prop:=∀(pins:List (Addr×Obj))(σ:St)(H:Hp)(s:Shared)(e:Value)(Z:Shared),Inv X pins σ H s->CX X.stack H s E e Z->X.xe e Z
section
variable {X:Cx} {CX:Ho} {k:Nat} {f C:Addr} {fd:FuncData} {ps:List Str} {sp:Sp} {c:List V} {ds:List Value} {E:XK} {x m:Str} {p L apos:Pos} {e o:Expr} {es:List Expr} {ta:TE} {t:TA}
theorem Lo{Q:VK}{us:List Value}{vs:List V}(F:Et X.prog X.w X.K X.mg X.base CX k f fd ps sp)(d:B2 k X.A)(g:Binds X.K fd ps ds)(hd:As c ds)(i:RW CX X E)
 (I:Inv X pins σ H s) (r:As vs us) (h:sp (vs++c) H Q E):wpAny (model X.prog X.w) X.A (call (.ref f) us) (EP X pins σ Q) X.xe s:=by
 have b:As (vs++c) (us++ds):=r.append hd;have j:(us++ds).length=ps.length:=by rw[<-b.length];exact F.len _ _ _ _ h
 refine wpAny_call (codeAny_mono (F.run X.A X.stack s H ⟨us,[]⟩ (us++ds) (vs++c) Q E d I.env0 (g s us I.kIn j) b h) λr Z a=>?_)
 cases r with
 |error e=>exact i pins σ H s e Z I a
 |ok l =>
   cases l with
   |ret u=>exact I.after a
   |next=>exact False.elim a
   |brk=>exact False.elim a
   |cont=>exact False.elim a
theorem Je(F:Et X.prog X.w X.K X.mg X.base CX k f fd ps sp)(b:B2 k X.A)(d:Gl X x)(g:X.mg x=some (.ref f))(i:PySem.W.keepIn X.K (.ref f)=true)(j:Binds X.K fd ps ds)(hd:As c ds)(l:RW CX X E)
 (m:PA X (e::es) t) (o:(x==("__debug__" : Str))=false:=by decide) (n:starEach (e::es) X.env=(false,eval e X.env)::starEach es X.env:=by rfl) (u:(backTo L (starEach es X.env)).any (·.1)=false:=by rfl) :
 PE X (.Call (.Name x p) (e::es) [] L) (Pp sp c E t):=by
 intro pins s σ H Q I h;refine wpAny_Call_Name_kw (UE I d g ?_ o);refine PySem.W.callWith_K (h₀:=X.base) I.ok.mod.kin i (AW (m L pins s σ H _ I h) λv w⟨y,Y,a,r,q⟩=>⟨a.kIn,?_⟩) n u;exact Lo F b j hd l a r q
end
section
variable {X:Cx} {CX:Ho} {k:Nat} {f C:Addr} {fd:FuncData} {ps ks:List Str} {sp:Sp} {E:XK} {x m:Str} {p L apos kpos:Pos} {e o:Expr} {es:List Expr} {kws:List Keyword} {te ta:TE} {t tk:TA} {nm:Option Str}
variable {g:List Value->List Value->List Value} {gV:List V->List V->List V}
end
structure Ag (N P:List Str) (sc:Scope):Prop where
 kind:sc.kind=.function
 co:sc.isCoroutine=false
 gen:sc.isGenerator=false
 nd:N.Nodup
 pre:N.take P.length=P
 par:∀x∈P,sc.names.lookup x=some .local\/sc.names.lookup x=some .cell
 nofree:∀y∈sc.names,y.2≠.free
theorem US{kindOf:Str->Option NameKind}{x:Str}:∀{binds:List (Str×Value)}{m:Str->Option Value},(∀v,(x,v)∉binds)->bindL kindOf binds m x=m x
 |[],_,_=>rfl
 |(n,v)::r,m,h=>by
   unfold bindL;rw[US λw a=>h w (Cj _ a)];split;have:x≠n:=by rintro rfl;exact h v Bz
   simp[this];rfl
theorem UT{kindOf:Str->Option NameKind}{x:Str}:∀{binds:List (Str×Value)}{m:Str->Option Value},(∀v,(x,v)∉binds)->bindC kindOf binds m x=m x
 |[],_,_=>rfl
 |(n,v)::r,m,h=>by
   unfold bindC;rw[UT λw a=>h w (Cj _ a)];split;rfl;have:x≠n:=by rintro rfl;exact h v Bz
   simp[this]
theorem UU{kindOf:Str->Option NameKind}{x:Str}{v:Value}:∀{P:List Str}{vs:List Value}{i:Nat}{m:Str->Option Value},P.Nodup->P[i]?=some x->vs[i]?=some v->kindOf x=some .local ->
 bindL kindOf (P.zip vs) m x=some v
 |[],_,_,_,_,h,_,_=>by simp at h
 |_::_,[],_,_,_,_,h,_=>by simp at h
 |p::P,w::vs,0,m,c,a,b,d=>by
   simp at a b;subst a;subst b;show bindL kindOf ((p,w)::P.zip vs) m p=_;unfold bindL;rw[US λv hv=>(Go.mp c).1 (List.of_mem_zip hv).1,Ak d]
   simp
 |p::P,w::vs,i+1,m,c,a,b,d=>by
   show bindL kindOf ((p,w)::P.zip vs) m x=_;unfold bindL;exact UU (i:=i) (Go.mp c).2 (by simpa using a) (by simpa using b) d
theorem UV{kindOf:Str->Option NameKind}{x:Str}{v:Value}:∀{P:List Str}{vs:List Value}{i:Nat}{m:Str->Option Value},P.Nodup->P[i]?=some x->vs[i]?=some v->kindOf x≠some .local ->
 bindC kindOf (P.zip vs) m x=some v
 |[],_,_,_,_,h,_,_=>by simp at h
 |_::_,[],_,_,_,_,h,_=>by simp at h
 |p::P,w::vs,0,m,c,a,b,d=>by
   simp at a b;subst a;subst b;show bindC kindOf ((p,w)::P.zip vs) m p=_;unfold bindC;rw[UT λv hv=>(Go.mp c).1 (List.of_mem_zip hv).1,Aj d]
   simp
 |p::P,w::vs,i+1,m,c,a,b,d=>by
   show bindC kindOf ((p,w)::P.zip vs) m x=_;unfold bindC;exact UV (i:=i) (Go.mp c).2 (by simpa using a) (by simpa using b) d
def start (N:List Str) (vs:List V):St:=vs.map some++List.replicate (N.length-vs.length) none
def AG (CX:Ho) (P:Program) (w:World) (K:Ah) (mg:Str->Option Value) (base:Heap) (N:List Str) (qual:Str) (scope:Scope) (f:Addr) (cd:Value) (A:Around) (outer:List Env) (s:Shared) (H:Hp) (E:XK):Cx where
 prog:=P
 w:=w
 K:=K
 mg:=mg
 base:=base
 A:=A.deeper (envOfC qual scope s.heap.objs.size f cd)
 N:=N
 s₀:=s
 H₀:=H
 env:=envOfC qual scope s.heap.objs.size f cd
 outer:=outer
 stack:=envOfC qual scope s.heap.objs.size f cd::outer
 ex:=[]
 calm:=true
 fn:=λ_=>true
 pn:=[]
 xe:=λe Z=>wpAny (model P w) (A.deeper (envOfC qual scope s.heap.objs.size f cd)) (leaving (envOfC qual scope s.heap.objs.size f cd) e) (λ_ s''=>CX outer H s E e s'') (λe' s''=>CX outer H s E e' s'') Z
theorem UW{a:Scope}{n:Nat}{x:Str}(h:a.names.lookup x=some .cell):∃c,(cellsFrom n a.names []).lookup x=some c:=by
 have q:=PySem.W.cellsFrom_some a.names n [] (.inl h);exact Option.isSome_iff_exists.mp q
theorem X6{CX:Ho}{K:Ah}{C:Str->Option Value}{F:Heap}{N:List Str}{B:Str}{scope:Scope}{f:Addr}{m:Value}{G:List Env}{I:Shared}{E:XK}{us:List Value}{vs:List V}
 (S:Ag N ps scope) (hd:A.handled=none) (g:Jd P w K C F A G s H) (R:vs.length=ps.length) (r:As vs us)
 (x:InCallC s s.heap.objs.size (bindL (envOfC B scope s.heap.objs.size f m).kindOf (ps.zip us) λ_=>none) (cellsFrom (s.heap.objs.size+1) scope.names []) (bindC (envOfC B scope s.heap.objs.size f m).kindOf (ps.zip us) λ_=>none) I) :
 Inv (AG CX P w K C F N B scope f m A G s H E) [] (start N vs) H I:=by
 have U:ps.length<=N.length:=by have:=BI List.length S.pre;rw[FG] at this;omega
 obtain⟨o,tk,rfl,J⟩:=x.done;have D:∀b:Addr,b∉(AG CX P w K C F N B scope f m A G s H E).ex:=λb z=>absurd (show b∈([]:List Addr) from z) (by simp)
 refine⟨⟨g.mod,S.kind,rfl,rfl,AB _,λy z c o d=>?_,λy j=>?_,λy c _ h=>?_,λ_=>hd,Around.frames_deeper g.frames,.inr ⟨rfl,rfl⟩,λb z=>absurd z (D b),g.bs,g.bsz,λb _ _=>D b,λb z=>absurd z (D b),g.funs,g.frf⟩,
  rfl,g.bare,Un.kept J,⟨_,x.toInCall.ns,λi y v o d T=>?_⟩,λy c h=>⟨_,x.cell y c h⟩,g.hok.fresh (AB _),λy c h=>?_,λp l=>absurd (show p∈([]:List (Addr×Obj)) from l) (by simp),g.hok.kept J,?_⟩
 exact name_of_addr x.apart (F8 o) (F8 d);have j:scope.names.lookup y=some .cell\/scope.names.lookup y=some .free:=j;rcases j with j|j;exact UW j;exact absurd rfl (S.nofree _ (F8 j));exact Di (x.above y c (F8 h))
 have t:i<vs.length:=by
  unfold start at d;by_cases t:i<vs.length;exact t;rw[EY (by simpa using t)] at d;rw[List.getElem?_replicate] at d;split at d<;>cases d
 have O:vs[i]?=some v:=by
  unfold start at d;rw[EJ (by simpa using t),Bh] at d
  cases e:vs[i]? with
  |none=>rw[e] at d;cases d
  |some a=>rw[e] at d;cases d;rfl
 obtain⟨u,L,Q⟩:=r.get O
 have l:ps[i]?=some y:=by
  rw[<-S.pre,List.getElem?_take_of_lt (by omega)];exact o
 have M:ps.Nodup:=by rw[<-S.pre];exact S.nd.sublist (List.take_sublist _ _)
 refine⟨u,Q,?_⟩;rcases S.par y (Bd l) with k|k;exact .inl ⟨k,UU M l L k⟩;obtain⟨c,e⟩:=UW (n:=s.heap.objs.size+1) k;refine .inr ⟨.inl k,c,e,?_⟩;have q:=x.cell y c e;rw[UV M l L (by show scope.names.lookup y≠_;rw[k];decide)] at q;exact q;exact g.hok.fresh (Di (x.above y c (F8 h)));unfold start;show _=N.length;rw[AV,Al,List.length_replicate];omega
theorem NP{CX:Ho}{K:Ah}{i:Str->Option Value}{j:Heap}{k:Nat}{f:Addr}{name c:Str}{M:Arguments}{body:List Stmt}{scope:Scope}{p kV F z a ct O:Value}{B R:Option Addr}
 {aa:Array (Option Value)} {N:List Str} {sp:Sp} (T:K.lookup f=some ⟨O,R,.func (PySem.W.fnOf name c M body scope p kV F z B a ct),aa⟩) (ab:PySem.W.codeIn K a c=true) (S:Ag N ps scope)
 (len:∀vs H Q E,sp vs H Q E->vs.length=ps.length)
 (af:∀(A:Around)(g:List Env)(s:Shared)(H:Hp)(vs:List V)(Q:VK)(E:XK),B2 k (A.deeper (envOfC c scope s.heap.objs.size f a))->sp vs H Q E ->
  ∃t,Ga (AG CX P w K i j N c scope f a A g s H E) body t/\t {nx:=λ_ H'=>Q .non H',rt:=Q} (start N vs) H) :
 Et P w K i j CX (k+1) f (PySem.W.fnOf name c M body scope p kV F z B a ct) ps sp:=by
 refine⟨len,λA g s H ai U vs Q E l h W r G=>?_⟩;have X:=len _ _ _ _ G;have C:K.In s.heap:=h.mod.kin.keeps λb o e=>(h.bs b o e).1;have ae:s.heap.NoLimit:=h.mod.nolimit.keeps λb o e=>(h.bs b o e).1
 have ag:∀y∈ps.zip U,scope.names.lookup y.1=some .local\/(scope.names.lookup y.1=some .cell/\((cellsFrom (s.heap.objs.size+1) scope.names []).lookup y.1).isSome=true):=λ⟨n,v⟩Y=>by
  rcases S.par n (List.of_mem_zip Y).1 with q|q;exact .inl q;exact .inr ⟨q,PySem.W.cellsFrom_some _ _ _ (.inl q)⟩
 refine codeAny_call_function l.depth (C _ _ T) rfl S.co S.gen rfl (PySem.W.codeRec_of C ab) (W _ _ _ _ ?_);refine wpAny_newFunctionEnv_cells S.kind ag λah he D x=>?_;subst he;refine⟨ae.keeps x.toInCall.keep,codeAny_func ?_⟩;obtain⟨t,ht,hq⟩:=af A g s H vs Q E (l.deeper _) G;have I:Inv (AG CX P w K i j N c scope f a A g s H E) [] (start N vs) H D:=X6 S l.hd h X r x;refine FJ (ht [] D (start N vs) H _ I hq) (λfl Z d=>?_) λe Z d=>d
 have L:∀{σ':St}{H':Hp}{v:V}{u:Value},Inv (AG CX P w K i j N c scope f a A g s H E) [] σ' H' Z->RelV v u->Q v H'->CE g P w H s Q u Z:=
  λ{σ' H' v u}J m q=>⟨v,H',J.os,J.bare,J.base,J.hok,m,q⟩
 cases fl with
 |ret u =>
   obtain⟨v,σ',H',J,m,q⟩:=d;exact L J m q
 |next =>
   obtain⟨σ',H',J,q⟩:=d;exact L (v:=V.non) (u:=Value.none) J rfl q
 |brk =>
   obtain⟨_,_,_,q⟩:=d;exact False.elim q
 |cont =>
   obtain⟨_,_,_,q⟩:=d;exact False.elim q
section
variable {X:Cx} {x:Str} {p L:Pos} {e:Expr} {es:List Expr} {t:TA} {id T:String} {r:List V->Hp->VK->Prop}
def Pq (r:List V->Hp->VK->Prop) (t:TA):TE:=λσ H Q=>t σ H λvs Y=>r vs Y Q
theorem BM(a:A7 X (.builtin id) r)(b:X.mg x=none)(c:PA X (e::es) t)(d:Gl X x:=by rfl)(hv:bootBuiltins x=some (.builtin id):=by decide +kernel)(f:x ≠ "__name__" :=by decide)(o:(x==("__debug__" : Str))=false:=by decide)
 (g:starEach (e::es) X.env=(false,eval e X.env)::starEach es X.env:=by rfl) (q:(backTo L (starEach es X.env)).any (·.1)=false:=by rfl):PE X (.Call (.Name x p) (e::es) [] L) (Pq r t):=by
 intro pins s σ H Q I h;refine wpAny_Call_Name_kw (IX I d b hv ?_ f o);exact PyProof.Rows.callWith_builtin1 (AW (c L pins s σ H _ I h) λi j⟨k,Y,l,m,n⟩=>a pins j σ Y k i Q l m n) g q
theorem G1(a:A7 X (.type T) r)(b:X.mg x=none)(c:PA X (e::es) t)(d:Gl X x:=by rfl)(hv:bootBuiltins x=some (.type T):=by decide +kernel)(f:x ≠ "__name__" :=by decide)(o:(x==("__debug__" : Str))=false:=by decide)
 (g:starEach (e::es) X.env=(false,eval e X.env)::starEach es X.env:=by rfl) (q:(backTo L (starEach es X.env)).any (·.1)=false:=by rfl):PE X (.Call (.Name x p) (e::es) [] L) (Pq r t):=by
 intro pins s σ H Q I h;refine wpAny_Call_Name_kw (IX I d b hv ?_ f o);exact PyProof.Rows.callWith_type1 (AW (c L pins s σ H _ I h) λi j⟨k,Y,l,m,n⟩=>a pins j σ Y k i Q l m n) g q
end
end L2
namespace HT
open PySem PyProof.Rows
section
open PySem.SeqAt
open PySem.AutoSeq1 (wpAny_loadPart')
open PySem.MeetsSeq PySem.MeetsSeq2 PySem.MeetsSeq3
end
section
variable {prog:Program} {w:World} {A:Around} {E:Value->Shared->Prop} {s:Shared}
def sIx (n d:Nat):Option Int->Nat
 |none=>d
 |some v=>if v<0 then(v+(n:Int)).toNat else min v.toNat n
theorem sIx_none(n d:Nat):sIx n d none=d:=rfl
theorem sIx_nat(n d k:Nat):sIx n d (some (k:Int))=min k n:=by
 show(if(k:Int)<0 then((k:Int)+(n:Int)).toNat else min (k:Int).toNat n)=min k n;rw[Aj (by omega),Bl]
end
end HT
namespace L2
open PySem PySem.Spec PyProof.Rows
abbrev TO:=St->Hp->(Option Int->Hp->Prop)->Prop
def PO (X:Cx) (e:Option Expr) (t:TO):Prop:=
 ∀(pins:List (Addr×Obj))(s:Shared)(σ:St)(H:Hp)(Q:Option Int->Hp->Prop),Inv X pins σ H s->t σ H Q ->
  wpAny (model X.prog X.w) X.A (evalPart e X.env) (λu Z=>∃o H',Inv X pins σ H' Z/\IsPart u o/\Q o H') X.xe s
def Jf:TO:=λ_ H Q=>Q none H
def NQ (t:TE):TO:=λσ H Q=>t σ H λx Y=>∃i,x=.int i/\Q (some i) Y
theorem X7{ns:List Int}:∀{us:List Value},As (ns.map V.int) us->IntsAre us ns:=by
 induction ns with
 |nil=>intro us r;rw[Nq] at r;cases r;exact .nil
 |cons n ns a =>
   intro us r;rw[DN] at r
   cases r with
   |cons b c =>
     obtain⟨t,e⟩:=b;subst e;exact .cons n t (a c)
section
variable {X:Cx} {e:Expr} {te:TE} {lo hi:Option Expr} {tl g:TO} {L J:Pos}
theorem Jg:PO X none Jf:=by
 intro a s σ H Q I h;rw[evalPart_none];exact Aw ⟨none,H,I,.none,h⟩
theorem RX(h:PE X e te):PO X (some e) (NQ te):=by
 intro f s σ H Q I a;rw[evalPart_some];refine AW (h f s σ H _ I a) λu g⟨x,Y,b,c,d⟩=>?_;obtain⟨i,rfl,q⟩:=d;obtain⟨t,rfl⟩:=c;exact⟨some i,Y,b,.int i t,q⟩
def RY (X:Cx) (r:V->Option Int->Option Int->Hp->VK->Prop):Prop:=
 ∀(pins:List (Addr×Obj))(s:Shared)(σ:St)(H:Hp)(x:V)(v vl vu:Value)(lo hi:Option Int)(sl:Addr)(Q:VK),Inv X pins σ H s->RelV x v->s.heap.IsSliceOf sl vl vu .none->IsPart vl lo->IsPart vu hi->r x lo hi H Q ->
  ∃T id,typeLookup (.type T) "__getitem__" = pure (some (.builtin id))/\s.TypeIs v T/\wpAny (model X.prog X.w) X.A (getItem v (.ref sl)) (EP X pins σ Q) X.xe s
def X8 (r:V->Option Int->Option Int->Hp->VK->Prop) (te:TE) (tl g:TO):TE:=λσ H Q=>te σ H λx Y=>tl σ Y λl H2=>g σ H2 λu H3=>r x l u H3 Q
theorem UX{r:V->Option Int->Option Int->Hp->VK->Prop}(j:RY X r)(k:PE X e te)(m:PO X lo tl)(n:PO X hi g):PE X (.Subscript e (.Slice lo hi none J) L) (X8 r te tl g):=by
 intro c s σ H Q I h;refine Subscript_ (AW (k c s σ H _ I h) λv o⟨x,Y,p,t,w⟩=>?_);refine wpAny_Slice (AW (m c o σ Y _ p w) λd y⟨l,z,A,B,C⟩=>AW (n c y σ z _ A C) λf a⟨u,i,D,E,F⟩=>?_);rw[evalPart_none];refine Aw ?_;have G:Inv X c σ i {a with heap:=a.heap.push {cls:=.type "slice",data:=.fields #[d,f,.none]}}:=D.kept (t':=a.toks) λb O q=>Ba _ q;obtain⟨T,id,K,M,N⟩:=j c {a with heap:=a.heap.push {cls:=.type "slice",data:=.fields #[d,f,.none]}} σ i x v d f l u a.heap.objs.size Q G t (Heap.IsSliceOf.new ..) B E F;show wpAny (model X.prog X.w) X.A (subscriptTail e (.Slice lo hi none J) v (.ref a.heap.objs.size)) (EP X c σ Q) X.xe {a with heap:=a.heap.push {cls:=.type "slice",data:=.fields #[d,f,.none]}};exact tail_any (ops:=[.ref a.heap.objs.size,v]) M K N (by with_unfolding_all rfl)
def EO (xs:List V) (lo hi:Option Int):List V:=(xs.drop (HT.sIx xs.length 0 lo)).take (HT.sIx xs.length xs.length hi-HT.sIx xs.length 0 lo)
theorem X9(xs:List V)(lo hi:Option Int):(EO xs lo hi).length<=xs.length:=by
 unfold EO;rw[FG,Kr];omega
end
def Hq (n:Nat) (i:Int):Option Nat:=if 0<=i then(if i<n then some i.toNat else none) else if -(n:Int)<=i then some (i+n).toNat else none
def Bt {α:Type} (xs:List α) (i:Int):Option α:=(Hq xs.length i).bind λj=>xs[j]?
variable {n:Nat}
theorem UY{i:Int}{j:Nat}(h:Hq n i=some j):seqIndex? i n=some j/\j<n/\-(n:Int)<=i/\i<n:=by
 unfold Hq at h;by_cases b:0<=i;rw[Ak b] at h;by_cases a:i<n;rw[Ak a] at h;have e:i.toNat=j:=Bv h;exact⟨by rw[seqIndex_of b a,e],by omega,by omega,a⟩;rw[Aj a] at h;cases h;rw[Aj b] at h;by_cases a:-(n:Int)<=i;rw[Ak a] at h;have e:(i+n).toNat=j:=Bv h;exact⟨by rw[seqIndex_neg (by omega) a,e],by omega,a,by omega⟩;rw[Aj a] at h;cases h
theorem RZ{α:Type}{xs:List α}{i:Int}{v:α}(h:Bt xs i=some v):∃j,seqIndex? i xs.length=some j/\xs[j]?=some v/\j<xs.length/\-(xs.length:Int)<=i/\i<xs.length:=by
 unfold Bt at h
 cases e:Hq xs.length i with
 |none=>rw[e] at h;cases h
 |some j =>
   rw[e] at h;obtain⟨a,b,c,d⟩:=UY e;exact⟨j,a,h,b,c,d⟩
theorem BN{α:Type}{xs:List α}{j:Nat}{v:α}(h:xs[j]?=some v):Bt xs (j:Int)=some v:=by
 have a:j<xs.length:=(A9.mp h).1
 have e:Hq xs.length (j:Int)=some j:=by
  unfold Hq;rw[Ak (by omega),Ak (by omega)];simp
 unfold Bt;rw[e];exact h
def Jh (b:Expr):Prop:=∀o i,subscripted b false o i=operate [o,i] (getItem o i)
def IG (X:Cx) (r:R2):Prop:=
 ∀(d slice:Expr)(pins:List (Addr×Obj))(s:Shared)(σ:St)(H:Hp)(x y:V)(v u:Value)(Q:VK),Inv X pins σ H s->RelV x v->RelV y u->r x y H Q ->
  subscripted slice false v u=operate [v,u] (getItem v u)->wpAny (model X.prog X.w) X.A (subscriptTail d slice v u) (EP X pins σ Q) X.xe s
def NR (X:Cx) (id:String) (r:V->List V->Hp->VK->Prop):Prop:=
 ∀(pins:List (Addr×Obj))(s:Shared)(σ:St)(H:Hp)(x:V)(xs:List V)(v:Value)(us:List Value)(Q:VK),Inv X pins σ H s->RelV x v->As xs us->r x xs H Q ->
  wpAny (model X.prog X.w) X.A (call (.builtin id) (v::us)) (EP X pins σ Q) X.xe s
section
variable {X:Cx} {a b:Expr} {ta tb:TE} {L:Pos}
theorem IG.or{r a:R2}(h:IG X r)(h':IG X a):IG X (λx y H Q=>r x y H Q\/a x y H Q):=by
 intro d slice f s σ H x y v u Q I b c q e;rcases q with q|q;exact h d slice f s σ H x y v u Q I b c q e;exact h' d slice f s σ H x y v u Q I b c q e
theorem AE{r:R2}(c:IG X r)(d:PE X a ta)(e:PE X b tb)(f:Jh b:=by exact λ_ _=>rfl):PE X (.Subscript a b L) (Gc r ta tb):=by
 intro m s σ H Q I h;exact Subscript_ (Lg d e I h λv u g x y i j k l q=>c a b m g σ i x y v u Q j k l q (f _ _))
def NS (K:Ah):R2:=λx y H Q=>mX x y λp xs i v=>Af K H p xs/\Bt xs i=some v/\Q v H
def NT (K:Ah):R2:=λx y H Q=>mX x y λp xs i v=>Aq K H p xs/\Bt xs i=some v/\Q v H
def NU:R2:=λx y H Q=>∃z i c,x=.str z/\y=.int i/\z.length<=sizeLine/\Bt z.cps.toList i=some c/\Q (.str ⟨#[c]⟩) H
theorem Ji:IG X (NS X.K):=by
 intro d slice l s σ H x y v u Q I m n h e
 replace h:=mX.ex h
 obtain⟨p,J,i,z,rfl,rfl,o,A,q⟩:=h;cases m;obtain⟨t,rfl⟩:=n;obtain⟨F,r,b,K⟩:=I.list o;obtain⟨j,a,B,L,C,D⟩:=RZ A;obtain⟨w,f,G⟩:=r.get B;have E:=r.length;have M:=MY;have k:EP X l σ Q w s:=⟨z,H,I,G,q⟩;by_cases g:0<=i
 have c:i.toNat=j:=by
  rw[seqIndex_of g D] at a;exact Bv a
 exact item_listR b.isList g (by omega) (by rw[c];simpa using f) k e
 have c:(i+(F.toArray.size:Int)).toNat=j:=by
  rw[seqIndex_neg (by omega) C] at a;rw[Cu,<-E];exact Bv a
 exact subscriptTail_builtinR (x:=w) b.isList.typeIs slot_list_getitem.lookup
  (wpAny_getItem_list_neg (Q:=λr Z=>r=w/\EP X l σ Q r Z) b.isList (by omega) (by rw[Cu]<;>omega) (by omega) (by rw[c];simpa using f) ⟨rfl,k⟩) e
theorem Lp:IG X (NT X.K):=by
 intro d slice b s σ H x y v u Q I c e h f
 replace h:=mX.ex h
 obtain⟨p,C,i,z,rfl,rfl,g,k,q⟩:=h;cases c;obtain⟨t,rfl⟩:=e;obtain⟨K,r,a,D⟩:=I.tuple g;obtain⟨j,l,m,E,F,G⟩:=RZ k;obtain⟨w,n,A⟩:=r.get m;have o:=r.length;have J:=MY;have B:EP X b σ Q w s:=⟨z,H,I,A,q⟩
 exact subscriptTail_builtinR (x:=w) a.typeIs slot_tuple_getitem.lookup
  (getItem_tuple (j:=j) (Q:=λr Z=>r=w/\EP X b σ Q r Z) a (by omega) (by omega) (by rw[Cu,<-o];exact l) (by simpa using n) ⟨rfl,B⟩) f
theorem Lq:IG X NU:=by
 intro d slice C s σ H x y v u Q I b e h f;obtain⟨z,i,c,rfl,rfl,r,g,q⟩:=h;obtain⟨t,rfl⟩:=b;obtain⟨w,rfl⟩:=e;obtain⟨j,a,k,A,l,m⟩:=RZ g;have n:z.cps.toList.length=z.length:=(by simp[Str.length]);rw[n] at a l m;have B:=MY
 exact tail_any (typeIs_str s z t) slot_str_getitem.lookup (getItem_str (c:=c) (by
  have o:decide (i < -(2 ^ 63:Int))=false:=DT (by omega);have p:decide (i ≥ 2 ^ 63)=false:=DT (by omega)
  rw[o,p,Bool.or_false]) (by rw[a];simpa using k) ⟨.str ⟨#[c]⟩,H,I.tok _,⟨_,rfl⟩,q⟩) f
def Hr (K:Ah):R2:=λx y H Q=>NS K x y H Q\/NT K x y H Q\/NU x y H Q
theorem AF:IG X (Hr X.K):=Ji.or (Lp.or Lq)
theorem Yb(a:List Value)(n j:Nat)(u:Value):Obj.mapSeq (·.setIfInBounds j u) {cls:=.type "list",data:=.seq a.toArray n}={cls:=.type "list",data:=.seq (a.set j u).toArray n}:=by
 simp[Obj.mapSeq]
theorem Inv.lst{pins:List (Addr×Obj)}{σ:St}{H:Hp}{s:Shared}{p:Addr}{xs:List V}(I:Inv X pins σ H s)(h:H p=some (.lst xs)) :
 ∃(a:List Value)(n:Nat),As xs a/\s.heap.get? p=some {cls:=.type "list",data:=.seq a.toArray n}/\xs.length<=sizeLine:=by
 obtain⟨z,a,n,r,e⟩:=I.hok p _ h;exact⟨a,n,r,e,z⟩
variable {s:Shared}
theorem Inv.lstUpd{pins:List (Addr×Obj)}{σ:St}{H:Hp}{p:Addr}{xs ys:List V}{d its':List Value}{a:Nat}{f:Obj->Obj}(I:Inv X pins σ H s)(h:H p=some (.lst xs))
 (g:s.heap.get? p=some {cls:=.type "list",data:=.seq d.toArray n}) (c:f {cls:=.type "list",data:=.seq d.toArray n}={cls:=.type "list",data:=.seq its'.toArray a}) (r:As ys its') (hz:ys.length<=sizeLine) (t:Nat) :
 Inv X pins σ (upd H p (.lst ys)) {s with heap:=s.heap.update p f,toks:=t}:=by
 have e:(s.heap.update p f).get? p=some {cls:=.type "list",data:=.seq its'.toArray a}:=by
  rw[Heap.get?_update_self f g (by rw[c]<;>rfl),c]
 refine I.write (x:=p) (e:=p) (by rw[h];trivial) (.inl rfl) (λb u i q=>(Heap.get?_update_other _ _ (Ne.symm i)).trans q) ⟨_,e⟩ ?_;exact⟨hz,its',a,r,e⟩
def NV:V->V->V->Hp->(Hp->Prop)->Prop:=λo i v H Q=>∃p xs k j,o=.ref p/\i=.int k/\H p=some (.lst xs)/\Hq xs.length k=some j/\Q (upd H p (.lst (xs.set j v)))
theorem R1:I0 X NV:=by
 intro D s σ H o i v E F u Q I x y z h;obtain⟨p,A,k,j,rfl,rfl,e,B,q⟩:=h;cases x;obtain⟨t,rfl⟩:=y;obtain⟨w,n,r,b,C⟩:=I.lst e;obtain⟨a,G,f,g⟩:=UY B;have c:=r.length;have J:=MY
 have l:Inv X D σ (upd H p (.lst (A.set j v))) {s with heap:=s.heap.update p (Obj.mapSeq (·.setIfInBounds j u))}:=
  I.lstUpd e b (Yb w n j u) (r.set z j) (by rw[FW];exact C) s.toks
 by_cases m:0<=k
 have d:k.toNat=j:=by
  rw[seqIndex_of m g] at a;exact Bv a
 exact PySem.W.ki_setAt b m (by omega) (by rw[Cu,<-c];exact g) (by rw[d];exact⟨_,l,q⟩)
 have d:(k+(w.toArray.size:Int)).toNat=j:=by
  rw[seqIndex_neg (by omega) f] at a;rw[Cu,<-c];exact Bv a
 exact PySem.W.ki_setBack b (by omega) (by rw[Cu,<-c];exact f) (by omega) (by rw[d];exact⟨_,l,q⟩)
theorem Yc(lo a:Option Int)(n:Nat):(sliceBounds lo a none n).1=((HT.sIx n 0 lo:Nat):Int)/\(sliceBounds lo a none n).2.1=((HT.sIx n n a:Nat):Int)/\(sliceBounds lo a none n).2.2=1:=by
 refine⟨?_,?_,rfl⟩
 cases lo with
 |none=>simp[sliceBounds,HT.sIx]
 |some i =>
   simp only[sliceBounds,HT.sIx,Option.getD_none,show(1:Int) > 0 by decide,if_true];by_cases h:i<0;simp only[h,if_true]<;>omega;simp only[h,if_false]<;>omega
 cases a with
 |none=>simp[sliceBounds,HT.sIx]
 |some i =>
   simp only[sliceBounds,HT.sIx,Option.getD_none,show(1:Int) > 0 by decide,if_true];by_cases h:i<0;simp only[h,if_true]<;>omega;simp only[h,if_false]<;>omega
theorem Yd(a:List Value)(lo b:Option Int):slicePick a.toArray lo b none=((a.drop (HT.sIx a.length 0 lo)).take (HT.sIx a.length a.length b-HT.sIx a.length 0 lo)).toArray:=by
 obtain⟨c,d,e⟩:=Yc lo b a.toArray.size;unfold slicePick;rw[c,d,e];simp only[sliceRange_one,pick_run,Cu]<;>rfl
def R3 (K:Ah):V->Option Int->Option Int->Hp->VK->Prop:=λx lo hi H Q=>∃a xs,x=.ref a/\Af K H a xs/\∀p,H p=none->Q (.ref p) (upd H p (.lst (EO xs lo hi)))
theorem UZ:RY X (R3 X.K):=by
 intro z s σ H x v p t d e u Q I g i j k h;obtain⟨a,c,rfl,l,q⟩:=h;cases g;obtain⟨y,r,f,m⟩:=I.list l;have n:=r.length;refine⟨"list",_,slot_list_getitem.lookup,f.isList.typeIs,?_⟩;refine wpAny_getItem_list_slice f.isList i j k .none (by simp) ?_ (by rw[Cu]<;>omega);rw[Yd,<-n];refine⟨.ref s.heap.objs.size,_,I.laid (t':=s.toks) (o:=.lst (EO c d e)) (λb w q=>Ba _ q) (AB _) ?_,rfl,q _ (I.hok.fresh (AB _))⟩;exact⟨El (X9 c d e) m,_,0,(r.drop (HT.sIx c.length 0 d)).take (HT.sIx c.length c.length e-HT.sIx c.length 0 d),B8 _ rfl⟩
def Jj:V->Bool
 |.non=>true
 |.bl _=>true
 |.int _=>true
 |.str _=>true
 |_=>false
def Jk:V->V->Bool
 |.non,.non=>true
 |.bl a,.bl b=>a==b
 |.bl a,.int b=>(if a then 1 else 0)==b
 |.int a,.bl b=>a==(if b then 1 else 0)
 |.int a,.int b=>a==b
 |.str a,.str b=>a==b
 |_,_=>false
variable {x:V}
theorem Lr{A:Around}{y:V}{u v:Value}(e:RelV y u)(c:RelV x v)(g:Jj y=true)(f:Jj x=true):SeqAt.EqAt A s u v (Jk y x):=by
 cases y with
 |non =>
   cases e
   cases x with
   |non=>cases c;exact SeqAt.EqAt.same _
   |bl b=>cases c;exact SeqAt.EqAt.none_bool b
   |int b=>obtain⟨t,rfl⟩:=c;exact SeqAt.EqAt.none_int b t
   |str b=>obtain⟨t,rfl⟩:=c;exact SeqAt.EqAt.none_str b t
   |_=>exact absurd (show false=true from f) Cv
 |bl a =>
   cases e
   cases x with
   |non=>cases c;exact SeqAt.EqAt.bool_none a
   |bl b=>cases c;exact SeqAt.EqAt.bool_bool a b
   |int b=>obtain⟨t,rfl⟩:=c;exact SeqAt.EqAt.bool_int a b t
   |str b=>obtain⟨t,rfl⟩:=c;exact SeqAt.EqAt.bool_str a b t
   |_=>exact absurd (show false=true from f) Cv
 |int a =>
   obtain⟨d,rfl⟩:=e
   cases x with
   |non=>cases c;exact SeqAt.EqAt.int_none a d
   |bl b=>cases c;exact SeqAt.EqAt.int_bool a d b
   |int b=>obtain⟨t,rfl⟩:=c;exact SeqAt.EqAt.int_int a d b t
   |str b=>obtain⟨t,rfl⟩:=c;exact SeqAt.EqAt.int_str a d b t
   |_=>exact absurd (show false=true from f) Cv
 |str a =>
   obtain⟨d,rfl⟩:=e
   cases x with
   |non=>cases c;exact SeqAt.EqAt.str_none a d
   |bl b=>cases c;exact SeqAt.EqAt.str_bool a d b
   |int b=>obtain⟨t,rfl⟩:=c;exact SeqAt.EqAt.str_int a d b t
   |str b=>obtain⟨t,rfl⟩:=c;exact SeqAt.EqAt.str_str a d b t
   |_=>exact absurd (show false=true from f) Cv
 |_=>exact absurd (show false=true from g) Cv
def Jl (x:V) (u:Value):Bool:=match u with
 |.none=>Jk .non x
 |.bool b=>Jk (.bl b) x
 |.int i _=>Jk (.int i) x
 |.str z _=>Jk (.str z) x
 |_=>false
theorem Hs{y:V}{u:Value}(r:RelV y u)(f:Jj y=true):Jl x u=Jk y x:=by
 cases y with
 |non=>cases r;rfl
 |bl b=>cases r;rfl
 |int i=>obtain⟨t,rfl⟩:=r;rfl
 |str z=>obtain⟨t,rfl⟩:=r;rfl
 |_=>exact absurd (show false=true from f) Cv
theorem R6{x:V}:∀{xs:List V}{us:List Value},As xs us->xs.all Jj=true->us.any (Jl x)=xs.any λy=>Jk y x
 |_,_,.nil,_=>rfl
 |y::xs,u::us,.cons r t,f=>by
   rw[List.all_cons,Bool.and_eq_true] at f;rw[List.any_cons,List.any_cons,Hs r f.1,R6 t f.2]
theorem R7{A:Around}{s:Shared}{x:V}{v:Value}(b:RelV x v)(c:Jj x=true):∀{xs:List V}{us:List Value},As xs us->xs.all Jj=true->∀u∈us,SeqAt.EqAt A s u v (Jl x u)
 |_,_,.nil,_=>λu a=>by cases a
 |y::xs,u::us,.cons r t,f=>λd a=>by
   rw[List.all_cons,Bool.and_eq_true] at f;rcases Ch.mp a with rfl|a;rw[Hs r f.1];exact Lr r b f.1 c;exact R7 b c t f.2 d a
def Pr (x:V) (xs:List V):Bool:=xs.any λy=>Jk y x
def U0 (K:Ah) (neg:Bool):R2:=λx y H Q=>∃p xs,y=.ref p/\(Af K H p xs\/Aq K H p xs)/\Jj x=true/\xs.all Jj=true/\Q (.bl (if neg then !Pr x xs else Pr x xs)) H
theorem Ye:DJ X (compareOp .In) (U0 X.K false):=by
 intro k s σ H x y v u Q I e g h;obtain⟨p,j,rfl,a,f,fs,q⟩:=h;cases g;rcases a with a|a;obtain⟨b,r,c,i⟩:=I.list a;refine SeqAt.in_listAt (Jl x) c.isList (λw d=>R7 e f r fs w (by simpa using d)) ⟨.bl _,H,I,rfl,?_⟩;rw[show b.toArray.any (Jl x)=b.any (Jl x) by simp,R6 r fs];exact q;obtain⟨b,r,c,i⟩:=I.tuple a;refine SeqAt.in_tupleAt (Jl x) c (λw d=>R7 e f r fs w (by simpa using d)) ⟨.bl _,H,I,rfl,?_⟩;rw[show b.toArray.any (Jl x)=b.any (Jl x) by simp,R6 r fs];exact q
theorem R8:A7 X (.type "list") (λxs H Q=>∃p ys,xs=[.ref p]/\(Af X.K H p ys\/Aq X.K H p ys)/\∀l,H l=none->Q (.ref l) (upd H l (.lst ys))):=by
 intro y s σ H xs A Q I r h;obtain⟨p,ys,rfl,g,q⟩:=h;obtain⟨u,rfl,x⟩:=Fm r;cases x
 have w:∀(c:List Value),As ys c->ys.length<=sizeLine->∀(a:Heap)(d:Nat),(∀b v,s.heap.get? b=some v->a.get? b=some v) ->
  a.get? s.heap.objs.size=some {cls:=.type "list",dict:=none,data:=.seq c.toArray d,slots:=#[]}->EP X y σ Q (.ref s.heap.objs.size) {s with heap:=a}:=λc f i a d j e =>
  ⟨.ref s.heap.objs.size,_,I.laid (t':=s.toks) j (AB _) (show Az X.prog X.w _ a _ (.lst ys) from⟨i,c,d,f,e⟩),rfl,q _ (I.hok.fresh (AB _))⟩
 rcases g with g|g;obtain⟨c,f,k,i⟩:=I.list g;have z:=f.length;obtain⟨o,m,t,n,hd⟩:=k.isList;exact call_list_seq p (.inl rfl) m t hd (λa d j e=>w c f i a d j e) (by simp only[Cu]<;>omega);obtain⟨c,f,k,i⟩:=I.tuple g;have z:=f.length;obtain⟨o,m,t,n,hd⟩:=k;exact call_list_seq p (.inr rfl) m t hd (λa d j e=>w c f i a d j e) (by simp only[Cu]<;>omega)
theorem Yg:A7 X (.type "tuple") (λxs H Q=>∃p ys,xs=[.ref p]/\((Af X.K H p ys/\∀l,H l=none->Q (.ref l) (upd H l (.tup ys)))\/(Aq X.K H p ys/\Q (.ref p) H))):=by
 intro k s σ H xs v Q I r h;obtain⟨p,ys,rfl,h⟩:=h;obtain⟨u,rfl,m⟩:=Fm r;cases m;rcases h with⟨c,q⟩|⟨c,q⟩;obtain⟨g,d,f,i⟩:=I.list c;have w:=d.length;refine call_tuple_list f.isList (λa n=>?_) (by simp only[Cu]<;>omega);have j:Inv X k σ H {s with heap:=a}:=I.kept (t':=s.toks) n
 have t:Inv X k σ (upd H a.objs.size (.tup ys)) {s with heap:=a.push {cls:=.type "tuple",data:=.seq g.toArray}}:=
  j.laid (t':=s.toks) (λb o e=>Ba _ e) (AB _) (show Az X.prog X.w _ _ _ (.tup ys) from⟨i,g,d,IsTup.new _ _⟩)
 exact⟨.ref a.objs.size,_,t,rfl,q _ (j.hok.fresh (AB _))⟩;obtain⟨g,d,f,i⟩:=I.tuple c;exact call_tuple_same f ⟨.ref p,H,I,rfl,q⟩
def U1 (K:Ah) (T:String) (x:V) (H:Hp):Prop:=match x with
 |.str _=>T = "str"
 |.int _=>T = "int"
 |.ref p=>(T = "list" /\ ∃xs,Af K H p xs)\/(T = "tuple" /\ ∃o,K.lookup p=some o/\o.cls=.type "tuple" /\ o.dict=none) \/
  (T = "dict" /\ ((∃kvs,H p=some (.dK kvs))\/∃kvs,H p=some (.dT kvs)))\/(T = "set" /\ ∃S n,H p=some (.set S n))
 |_=>False
theorem Ls{pins:List (Addr × Obj)}{σ:St}{H:Hp}{T:String}{v:Value}(I:Inv X pins σ H s)(r:RelV x v)(ty:U1 X.K T x H) :
 s.TypeIs v T/\∀a,v=.ref a->∃ob,s.heap.get? a=some ob/\ob.dict=none:=by
 cases x with
 |str z =>
   obtain⟨t,rfl⟩:=r
   cases(show T = "str" from ty)
   exact⟨typeIs_str s z t,λ_ e=>nomatch e⟩
 |int i =>
   obtain⟨t,rfl⟩:=r
   cases(show T = "int" from ty)
   exact⟨typeIs_int s i t,λ_ e=>nomatch e⟩
 |ref p =>
   cases r;rcases ty with⟨rfl,k,g⟩|⟨rfl,o,b,h,hd⟩|⟨rfl,b⟩|⟨rfl,S,n,b⟩;obtain⟨l,_,f,_⟩:=I.list g;refine⟨f.isList.typeIs,λa e=>?_⟩;cases e;obtain⟨o,n,e,c,hd,_⟩:=f;exact⟨o,e,hd⟩;refine⟨⟨o,I.kIn p o b,h⟩,λa e=>?_⟩;cases e;exact⟨o,I.kIn _ o b,hd⟩
   have z:∃o,s.heap.get? p=some o/\o.ExactDict:=by
    rcases b with⟨j,b⟩|⟨j,b⟩;obtain⟨_,_,_,_,o,_,_,e,ex,_⟩:=I.hok p _ b;exact⟨o,e,ex⟩;obtain⟨_,_,_,_,o,_,_,e,ex,_⟩:=I.hok p _ b;exact⟨o,e,ex⟩
   obtain⟨o,e,ex⟩:=z;refine⟨⟨o,e,ex.1⟩,λa d=>?_⟩;cases d;exact⟨o,e,ex.2.1⟩;obtain⟨o,_,_,_,e,ex,_⟩:=I.hok p _ b;refine⟨⟨o,e,ex.1⟩,λa d=>?_⟩;cases d;exact⟨o,e,ex.2.1⟩
 |_=>exact False.elim ty
def Yh (K:Ah) (T:String) (r:V->List V->Hp->VK->Prop) (to:TE) (t:TA):TE:=λσ H Q=>to σ H λx Y=>U1 K T x Y/\t σ Y λxs H2=>r x xs H2 Q
variable {o e:Expr} {es:List Expr} {to:TE} {t:TA} {name:Str} {apos cpos:Pos} {T id:String} {r:V->List V->Hp->VK->Prop}
theorem Dj(f:PlainAttrs T)(D:Slot T name id)(C:typeOf (.builtin id)=pure (.type "method_descriptor"))(g:NR X id r)(i:PE X o to)(j:PA X (e::es) t)
 (F:attributeBase o name X.env (eval o X.env)=eval o X.env:=by rfl)
 (E:((backTo cpos (starEach (e::es) X.env)).all (λx=>!x.1) && (backToKw cpos (keywordEach [] X.env)).all (λx=>x.1.isSome)
  && decide ((e::es).length+([]:List Keyword).length+(if([]:List Keyword).isEmpty then 0 else 1)<30))=true:=by rfl)
 (G:(apos.endLine==cpos.line)=true:=by rfl) (k:starEach (e::es) X.env=(false,eval e X.env)::starEach es X.env:=by rfl) (J:(backTo cpos (starEach es X.env)).any (·.1)=false:=by rfl) :
 PE X (.Call (.Attribute o name apos) (e::es) [] cpos) (Yh X.K T r to t):=by
 intro a s σ H Q I h;refine wpAny_Call_method_late F E G rfl (AW (i a s σ H _ I h) λv l⟨x,Y,b,c,ty,m⟩=>?_);obtain⟨n,p⟩:=Ls b c ty;refine⟨T,id,f,D,C,n,p,?_⟩;have d:=j cpos a l σ Y _ b m;rw[k] at d ⊢;refine Calls.callWith_builtin (by show(false || (backTo cpos (starEach es X.env)).any (·.1))=false;rw[J]<;>rfl) (Calls.evalArgs_plain ?_);exact AW d λq u⟨w,y,z,A,B⟩=>g a u σ y x w v q Q z c A B
end
def U2 (X:Cx) (id:String) (r:V->List V->Hp->VK->Prop):Prop:=
 ∀(pins:List (Addr×Obj))(s:Shared)(σ:St)(H:Hp)(x:V)(xs:List V)(v:Value)(us:List Value)(Q:VK),Inv X pins σ H s->RelV x v->As xs us->r x xs H Q ->
  wpAny (model X.prog X.w) X.A (call (.builtin id) (v::us)) (EP X pins σ Q) X.xe s
theorem As.one:∀{x:V}{us:List Value},As [x] us->∃u,us=[u]/\RelV x u
 |_,_,.cons r .nil=>⟨_,rfl,r⟩
section
variable {X:Cx} {pins:List (Addr×Obj)} {σ:St} {H:Hp} {s:Shared} {l b:Addr} {xs ys zs:List V}
theorem Inv.lset{a its':List Value}{f:Array Value->Array Value}{t':Nat}(I:Inv X pins σ H s)(b:H l=some (.lst xs))
 (e:s.heap.get? l=some {cls:=.type "list",data:=.seq a.toArray n}) (c:f a.toArray=its'.toArray) (hv:As ys its') (hz:ys.length<=sizeLine) :
 Inv X pins σ (upd H l (.lst ys)) {s with heap:=s.heap.update l (Obj.mapSeq f),toks:=t'}:=by
 have q:=PySem.IsL.update e f;rw[c] at q;refine I.write (x:=l) (e:=l) (by rw[b];exact trivial) (.inl rfl) (λh u d g=>(Heap.get?_update_other s.heap (Obj.mapSeq f) (Ne.symm d)).trans g) ⟨_,q⟩ ?_;exact⟨hz,its',_,hv,q⟩
theorem Inv.lnew{a:List Value}{t':Nat}(I:Inv X pins σ H s)(hv:As ys a)(hz:ys.length<=sizeLine) :
 Inv X pins σ (upd H s.heap.objs.size (.lst ys)) {s with heap:=s.heap.push {cls:=.type "list",data:=.seq a.toArray},toks:=t'}:=
 I.laid (λ_ _ q=>Ba _ q) (AB _) ⟨hz,a,0,hv,B8 _ rfl⟩
theorem Inv.fresh(I:Inv X pins σ H s):H s.heap.objs.size=none:=I.hok.fresh (AB _)
theorem Inv.lstM(I:Inv X pins σ H s)(b:H l=some (.lst xs)):xs.length<=sizeLine/\∃(a:List Value)(n:Nat),As xs a/\xs.length=a.length/\s.heap.get? l=some {cls:=.type "list",data:=.seq a.toArray n}:=by
 obtain⟨z,a,n,r,e⟩:=I.hok l _ b;exact⟨z,a,n,r,r.length,e⟩
theorem Yi(h:n<=sizeLine):Builtin.List.listTooLong n=false:=by
 unfold Builtin.List.listTooLong;exact DT (by omega)
end
section
variable {X:Cx}
def U3:V->List V->Hp->VK->Prop:=λx vs H Q=>mA x vs λl xs y=>H l=some (.lst xs)/\xs.length<sizeLine/\Q .non (upd H l (.lst (xs++[y])))
theorem U4:U2 X "list.append" U3:=by
 intro o s σ H x g v i Q I c d h
 replace h:=mA.ex h
 obtain⟨l,j,y,rfl,rfl,a,k,q⟩:=h;cases c;obtain⟨u,rfl,f⟩:=d.one;obtain⟨z,b,n,r,m,e⟩:=I.lstM a;refine call_meets F.slot_list_append ⟨_,e,rfl⟩ F.entry_list_append (F.args_list_append_2 _ _) (PySem.list_append l b.toArray n u (by rw[Cu];omega)) ⟨e,?_⟩;refine⟨.non,_,I.lset (its':=b++[u]) a e (by simp) (r.append (.cons f .nil)) ?_,rfl,q⟩;rw[AV,Dh];omega
def U5:V->List V->Hp->VK->Prop:=λx vs H Q=>∃l b xs zs,x=.ref l/\vs=[.ref b]/\H l=some (.lst xs)/\H b=some (.lst zs)/\xs.length+zs.length<=sizeLine/\Q .non (upd H l (.lst (xs++zs)))
theorem Yj:U2 X "list.extend" U5:=by
 intro J s σ H x w v y Q I f g h;obtain⟨l,b,A,B,rfl,rfl,d,i,C,q⟩:=h;cases f;obtain⟨u,rfl,j⟩:=g.one;cases j;obtain⟨z,a,n,r,D,e⟩:=I.lstM d;obtain⟨E,c,k,m,G,o⟩:=I.lstM i;have p:a.toArray.size+c.toArray.size<=sizeLine:=by rw[Cu,Cu];omega
 have t:¬(!a.toArray.isEmpty && Builtin.List.listTooLong (a.toArray.size+c.toArray.size))=true:=by
  rw[Yi p,Bool.and_false];exact Cv
 refine call_meets F.slot_list_extend ⟨_,e,rfl⟩ F.entry_list_extend (F.args_list_extend_2 _ _)
  (AutoSeq1.list_extend_list_list_0 l a.toArray n b c.toArray k t (by rw[Cu];omega) (by omega)) ⟨e,o,?_⟩
 refine⟨.non,_,I.lset (its':=a++c) d e (by simp) (r.append m) ?_,rfl,q⟩;rw[AV];omega
def R9:R2:=λx y H Q=>∃l b xs zs,x=.ref l/\y=.ref b/\H l=some (.lst xs)/\H b=some (.lst zs)/\xs.length+zs.length<=sizeLine/\∀p,H p=none->Q (.ref p) (upd H p (.lst (xs++zs)))
theorem Ps:DJ X (binaryOp .Add) R9:=by
 intro D s σ H x y v u Q I d f h;obtain⟨l,b,o,p,rfl,rfl,g,i,t,q⟩:=h;cases d;cases f;obtain⟨z,a,n,r,w,e⟩:=I.lstM g;obtain⟨A,c,B,j,C,k⟩:=I.lstM i;refine PySem.P.add_list e k ?_ (by rw[Cu,Cu];omega);have m:a.toArray++c.toArray=(a++c).toArray:=(by simp);rw[m];exact⟨.ref _,_,I.lnew (t':=s.toks) (r.append j) (by rw[AV];omega),rfl,q _ I.fresh⟩
end
section
variable {prog:Program} {w:World} {A:Around} {E:Value->Shared->Prop} {s:Shared}
end
section
variable {X:Cx}
end
section
variable {κ:Type} [DecidableEq κ]
def AK (kvs:List (κ×V)) (k:κ):Option V:=(kvs.find? λkv=>decide (kv.1=k)).map (·.2)
def AZ (kvs:List (κ×V)) (k:κ) (v:V):List (κ×V):=
 if(kvs.any λkv=>decide (kv.1=k))=true then kvs.map (λkv=>if kv.1=k then(kv.1,v) else kv) else kvs++[(k,v)]
theorem G2{p:κ×V}{r:List (κ×V)}{k:κ}(e:p.1=k):AK (p::r) k=some p.2:=by simp[AK,MQ,e]
theorem G3{p:κ×V}{r:List (κ×V)}{k:κ}(e:¬p.1=k):AK (p::r) k=AK r k:=by simp[AK,MQ,e]
theorem NW(k:κ):∀a:List (κ×V),(a.any λb=>decide (b.1=k))=(AK a k).isSome
 |[]=>rfl
 |p::r=>by
   rw[List.any_cons];by_cases e:p.1=k;simp only[G2 e,A5 e,Bool.true_or,Option.isSome_some];rw[G3 e,DT e,Bool.false_or];exact NW k r
theorem U6(k j:κ)(y:V):∀c:List (κ×V),AK (c.map λa=>if a.1=k then(a.1,y) else a) j=(AK c j).map λx=>if j=k then y else x
 |[]=>rfl
 |p::r=>by
   have b:=U6 k j y r;rw[DN];by_cases h:p.1=k;rw[Ak h];by_cases e:p.1=j;rw[G2 (p:=(p.1,y)) e,G2 e,Option.map_some,Ak (e.symm.trans h)];rw[G3 (p:=(p.1,y)) e,G3 e,b];rw[Aj h];by_cases e:p.1=j;rw[G2 (p:=p) e,G2 e,Option.map_some,Aj (λz=>h (e.trans z))];rw[G3 (p:=p) e,G3 e,b]
theorem U7(k j:κ)(y:V):∀b:List (κ×V),AK b k=none->AK (b++[(k,y)]) j=if j=k then some y else AK b j
 |[],_=>by
   by_cases e:k=j;rw[Ak e.symm];exact G2 (p:=(k,y)) e;rw[Aj (λz=>e z.symm)];exact G3 (p:=(k,y)) e
 |p::r,a=>by
   rw[List.cons_append];have c:¬p.1=k:=λz=>by rw[G2 z] at a;cases a
   rw[G3 c] at a;have d:=U7 k j y r a;by_cases e:p.1=j;rw[G2 e,G2 e,Aj (λz=>c (e.trans z))];rw[G3 e,G3 e,d]
theorem NY(b:List (κ×V))(k j:κ)(y:V):AK (AZ b k y) j=if j=k then some y else AK b j:=by
 unfold AZ;by_cases a:(b.any λc=>decide (c.1=k))=true;rw[Ak a,U6];rw[NW] at a;by_cases e:j=k;obtain⟨x,d⟩:=Option.isSome_iff_exists.mp a;rw[Ak e,e,d,Option.map_some,Ak rfl];rw[Aj e]
 cases AK b j with
 |none=>rfl
 |some x=>rw[Option.map_some,Aj e]
 rw[Aj a];refine U7 k j y b ?_;rw[NW] at a
 cases q:AK b k with
 |none=>rfl
 |some x=>rw[q] at a;exact(a rfl).elim
theorem NZ(a:List (κ×V))(k:κ)(v:V):(AZ a k v).length<=a.length+1:=by
 unfold AZ;split;rw[Al];omega;rw[AV,Ek,Gp];omega
theorem Ea.isSome_eq{o:Option V}{u:Option Value}(r:Ea o u):o.isSome=u.isSome:=by
 cases o with
 |none=>cases u with
   |none=>rfl
   |some _=>exact(show False from r).elim
 |some _=>cases u with
   |none=>exact(show False from r).elim
   |some _=>rfl
theorem Ea.getD{o:Option V}{u:Option Value}{d:V}{d':Value}(r:Ea o u)(a:RelV d d'):RelV (o.getD d) (u.getD d'):=by
 cases o with
 |none=>cases u with
   |none=>exact a
   |some _=>exact(show False from r).elim
 |some _=>cases u with
   |none=>exact(show False from r).elim
   |some _=>exact r
variable {kvs:List (κ×V)}{vs:List (κ×Value)}
theorem KV.val(r:KV kvs vs)(k:κ):Ea (AK kvs k) (valueAt vs k):=by
 unfold KV at r
 induction r with
 |nil=>exact True.intro
 |@cons p q i a h t f =>
   obtain⟨d,g⟩:=h;by_cases e:p.1=k;have c:q.1=k:=d.symm.trans e;have b:valueAt (q::a) k=some q.2:=(by simp[valueAt,MQ,c]);rw[G2 e,b];exact g;have c:¬q.1=k:=λz=>e (d.trans z);have b:valueAt (q::a) k=valueAt a k:=(by simp[valueAt,MQ,c]);rw[G3 e,b];exact f
theorem KV.any{kvs:List (κ×V)}{vs:List (κ×Value)}(r:KV kvs vs)(k:κ):(kvs.any λa=>decide (a.1=k))=vs.any λa=>decide (a.1=k):=by
 unfold KV at r
 induction r with
 |nil=>rfl
 |cons h t b=>rw[List.any_cons,List.any_cons,b,h.1]
theorem KV.repl(r:KV kvs vs)(k:κ){y:V}{u:Value}(c:RelV y u) :
 KV (kvs.map λa=>if a.1=k then(a.1,y) else a) (vs.map λa=>if a.1=k then(a.1,u) else a):=by
 unfold KV at r ⊢
 induction r with
 |nil=>exact .nil
 |@cons p q g i h t d =>
   rw[DN,DN];refine .cons ?_ d;obtain⟨b,f⟩:=h;by_cases e:p.1=k;rw[Ak e,Ak (b.symm.trans e)];exact⟨b,c⟩;rw[Aj e,Aj (λz=>e (b.trans z))];exact⟨b,f⟩
theorem KV.put(r:KV kvs vs)(k:κ){y:V}{u:Value}(a:RelV y u):KV (AZ kvs k y) (stored vs k u):=by
 unfold AZ stored;rw[r.any k];by_cases e:(vs.any λb=>decide (b.1=k))=true;rw[Ak e,Ak e];exact r.repl k a;rw[Aj e,Aj e];exact Paired.snoc r ⟨rfl,a⟩
theorem KV.length{kvs:List (κ×V)}{vs:List (κ×Value)}(r:KV kvs vs):kvs.length=vs.length:=Paired.length r
end
variable {P:Program}{w:World}{u:Value}
theorem MZ{k:AN}(r:RelV (kV k) u):(EL P w).is k u=true:=by
 cases k with
 |inl i=>obtain⟨t,e⟩:=(show ∃t,u=Value.int i t from r);subst e;exact XO P w i t
 |inr x=>obtain⟨t,e⟩:=(show ∃t,u=Value.str x t from r);subst e;exact XQ P w x t
theorem U8{P:Program}{w:World}:∀{ks:List AN}{us:List Value},As (ks.map kV) us->ItemsAre (EL P w) ks us
 |[],_,r=>by rw[Nq] at r;cases r;exact .nil
 |k::ks,_,r=>by
   rw[DN] at r
   cases r with
   |cons h t=>exact .cons (MZ h) (U8 t)
abbrev KT (H:Hp):List (List AN×V)->List (List AN×Addr×Value)->Prop:=Paired λp q=>p.1=q.1/\H q.2.1=some (.tup (p.1.map kV))/\RelV p.2 q.2.2
variable {H:Hp}{kvs:List (List AN×V)}{xs:List (List AN×Addr×Value)}
theorem KT.val(r:KT H kvs xs)(k:List AN):Ea (AK kvs k) ((atKey xs k).map (·.2)):=by
 induction r with
 |nil=>exact True.intro
 |@cons p q i a h t f =>
   obtain⟨d,_,g⟩:=h;by_cases e:p.1=k;have c:q.1=k:=d.symm.trans e;have b:atKey (q::a) k=some q.2:=(by simp[atKey,MQ,c]);rw[G2 e,b];exact g;have c:¬q.1=k:=λz=>e (d.trans z);have b:atKey (q::a) k=atKey a k:=(by simp[atKey,MQ,c]);rw[G3 e,b];exact f
variable {y:V}
theorem KT.repl(r:KT H kvs xs)(k:List AN)(d:RelV y u) :
 KT H (kvs.map λb=>if b.1=k then(b.1,y) else b) (xs.map (putAt k u)):=by
 induction r with
 |nil=>exact .nil
 |@cons p q i j h t f =>
   rw[DN,DN];refine .cons ?_ f;obtain⟨a,c,g⟩:=h;unfold putAt;by_cases e:p.1=k;rw[Ak e,Ak (a.symm.trans e)];exact⟨a,c,d⟩;rw[Aj e,Aj (λz=>e (a.trans z))];exact⟨a,c,g⟩
theorem KT.put(r:KT H kvs xs)(k:List AN){b:Addr}(c:H b=some (.tup (k.map kV)))(a:RelV y u) :
 KT H (AZ kvs k y) (storedH xs k b u):=by
 have e:(kvs.any λd=>decide (d.1=k))=(atKey xs k).isSome:=by
  rw[NW,(r.val k).isSome_eq,Option.isSome_map]
 unfold AZ storedH;rw[e];by_cases q:(atKey xs k).isSome=true;rw[Ak q,Ak q];exact r.repl k a;rw[Aj q,Aj q];exact Paired.snoc r ⟨rfl,c,a⟩
variable {H':Hp}
theorem KT.keeps(r:KT H kvs xs)(a:∀b ys,H b=some (.tup ys)->H' b=some (.tup ys)):KT H' kvs xs:=
 Paired.mapP r λ_ _ z=>⟨z.1,a _ _ z.2.1,z.2.2⟩
section
variable {P:Program} {w:World} {H:Hp} {h:Heap} {a:Addr}
theorem Ht{u:HO}(ok:CW P w H h)(e:Rd H a u):Az P w H h a u:=e.ok ok
theorem M0{kvs:List (AN×V)}(ok:CW P w H h)(e:Rd H a (.dK kvs)):kvs.length<=sizeLine/\(a==sysModules)=false/\∃vs,KV kvs vs/\h.DictOf (EL P w) a vs:=
 show Az P w H h a (.dK kvs) from Ht ok e
theorem Ky{kvs:List (AN×V)}(ok:CW P w H h)(e:H a=some (.dK kvs)):kvs.length<=sizeLine/\(a==sysModules)=false/\∃vs,KV kvs vs/\h.DictOf (EL P w) a vs:=M0 ok (.inl e)
theorem Lu{ks:List AN}(ok:CW P w H h)(e:H a=some (.tup (ks.map kV))):(tupleKind (EL P w)).is h ks a:=by
 obtain⟨_,f,r,o,b,c,n,d⟩:=(show Az P w H h a (.tup (ks.map kV)) from ok a _ e);exact⟨o,f.toArray,n,b,c,d,by simpa using U8 r⟩
theorem M1(ok:CW P w H h)(e:Rd H a (.dT kvs)):kvs.length<=sizeLine/\(a==sysModules)=false /\
 ∃xs,KT H kvs xs/\h.DictOfH (tupleKind (EL P w)) a xs:=by
 obtain⟨z,y,xs,r,o,d,f,g,i,j,k,n⟩:=(show Az P w H h a (.dT kvs) from Ht ok e);refine⟨z,y,xs,r,o,d,f,g,i,j,k,λx b=>?_,n⟩
 have all:∀{l:List (List AN × V)}{m:List (List AN × Addr × Value)},KT H l m -> ∀x∈m,(tupleKind (EL P w)).is h x.1 x.2.1:=by
  intro l m q
  induction q with
  |nil=>intro x b;exact nomatch b
  |@cons p q u v c t s =>
    intro x b;rcases Ch.mp b with e|b;subst e;exact Lu ok (by rw[<-c.1];exact c.2.1);exact s x b
 exact all r x b
theorem Hu(ok:CW P w H h)(e:H a=some (.dT kvs)):kvs.length<=sizeLine/\(a==sysModules)=false /\
 ∃xs,KT H kvs xs/\h.DictOfH (tupleKind (EL P w)) a xs:=M1 ok (.inl e)
end
def Dk (H:Hp) (a:Addr) (y:V) (r:Option V):Prop:=
 (∃kvs k,Rd H a (.dK kvs)/\y=kV k/\r=AK kvs k)\/∃kvs k b,Rd H a (.dT kvs)/\y=.ref b/\H b=some (.tup (k.map kV))/\r=AK kvs k
def Hv (H:Hp) (a:Addr) (y v:V) (H':Hp):Prop:=
 (∃kvs k,H a=some (.dK kvs)/\y=kV k/\kvs.length<sizeLine/\H'=upd H a (.dK (AZ kvs k v))) \/
 ∃kvs k b,H a=some (.dT kvs)/\y=.ref b/\H b=some (.tup (k.map kV))/\kvs.length<sizeLine/\H'=upd H a (.dT (AZ kvs k v))
theorem Dk.k{H:Hp}{a:Addr}{kvs:List (AN×V)}{k:AN}(e:H a=some (.dK kvs)):Dk H a (kV k) (AK kvs k):=.inl ⟨kvs,k,.inl e,rfl,rfl⟩
variable {a:Addr}
theorem Dk.t{b:Addr}{k:List AN}(e:H a=some (.dT kvs))(c:H b=some (.tup (k.map kV))):Dk H a (.ref b) (AK kvs k):=.inr ⟨kvs,k,b,.inl e,rfl,c,rfl⟩
theorem Hv.k{H:Hp}{a:Addr}{kvs:List (AN×V)}{k:AN}{v:V}(e:H a=some (.dK kvs))(b:kvs.length<sizeLine):Hv H a (kV k) v (upd H a (.dK (AZ kvs k v))):=.inl ⟨kvs,k,e,rfl,b,rfl⟩
section
variable {X:Cx} {pins:List (Addr×Obj)} {σ:St} {H:Hp} {s:Shared} {a:Addr} {y v:V} {u r:Value} {o:Option V} {A:Around} {E:Value->Shared->Prop}
theorem Inv.big(I:Inv X pins σ H s):sysModules<s.heap.objs.size:=by
 have h:mainGlobals<s.heap.objs.size:=(I.mod.glob.keeps I.bk).lt;exact Nat.lt_trans (by decide) h
theorem Yk{Q:Value->Shared->Prop}(q:A.units+1<cLine)(I:Inv X pins σ H s)(g:Dk H a y (some v))(n:RelV y u)(h:∀c Z,Inv X pins σ H Z->RelV v c->Q c Z) :
 wpAny (model X.prog X.w) A (getItem (.ref a) u) Q E s:=by
 rcases g with⟨kvs,k,e,d,l⟩|⟨kvs,k,b,e,d,r,l⟩;subst d;obtain⟨z,hd,t,j,f⟩:=M0 I.hok e;obtain⟨c,i,m⟩:=Ea.some_of (v:=v) (o:=valueAt t k) (by rw[l];exact j.val k);exact wpAny_getItem_of (MZ n) f.mapOf i (h c _ (I.tok _) m);subst d
 cases(show u=Value.ref b from n);obtain⟨z,hd,xs,j,f⟩:=M1 I.hok e;obtain⟨c,i,m⟩:=Ea.some_of (v:=v) (o:=(atKey xs k).map (·.2)) (by rw[l];exact j.val k);obtain⟨p,w,x⟩:=Gr.mp i;refine wpAny_getItem_heap (tupleKind_room_in1 q) (Lu I.hok r) f w ?_;rw[x];exact h c _ (I.tok _) m
theorem Sa{Q:Value->Shared->Prop}(j:A.units+1<cLine)(I:Inv X pins σ H s)(g:Dk H a y o)(i:RelV y u)(h:∀Z,Inv X pins σ H Z->Q (.bool o.isSome) Z) :
 wpAny (model X.prog X.w) A (compareOp .In u (.ref a)) Q E s:=by
 rcases g with⟨kvs,k,e,c,l⟩|⟨kvs,k,b,e,c,m,l⟩;subst c;obtain⟨z,hd,n,f,d⟩:=M0 I.hok e;refine wpAny_in_of (MZ i) hd d.mapOf ?_;rw[<-(f.val k).isSome_eq,<-l];exact h _ (I.tok _);subst c
 cases(show u=Value.ref b from i);obtain⟨z,hd,xs,f,d⟩:=M1 I.hok e;refine wpAny_in_heap (tupleKind_room_in1 j) (Lu I.hok m) hd d ?_;have q:=(f.val k).isSome_eq;rw[Option.isSome_map] at q;rw[<-q,<-l];exact h _ (I.tok _)
theorem N0{h':Heap}{t':Nat}{ob:HO}(I:Inv X pins σ H s)(c:Nv (H a))(d:Heap.SameBut a s.heap h')(f:∃q,h'.get? a=some q)(h:Az X.prog X.w (upd H a ob) h' a ob) :
 Inv X pins σ (upd H a ob) {s with heap:=h',toks:=t'}:=
 I.write (x:=a) (e:=a) c (.inl rfl) (λb q g z=>(d.2 b g).trans z) f h
theorem Hw{h':Heap}{kvs:List (AN×V)}{vs:List (AN×Value)}(z:kvs.length<=sizeLine)(hd:(a==sysModules)=false)(c:KV kvs vs)(b:h'.DictOf (EL P w) a vs) :
 Az P w H' h' a (.dK kvs):=⟨z,hd,vs,c,b⟩
theorem Yl{Q:Unit->Shared->Prop}(F:A.units+1<cLine)(I:Inv X pins σ H s)(g:Hv H a y v H')(w:RelV y u)(x:RelV v r)(h:∀Z,Inv X pins σ H' Z->Q () Z) :
 wpAny (model X.prog X.w) A (setItem (.ref a) u r) Q E s:=by
 rcases g with⟨kvs,k,e,j,l,m⟩|⟨kvs,k,b,e,j,B,l,m⟩;subst j m;obtain⟨z,hd,G,d,n⟩:=Ky I.hok e;have o:G.length<=sizeLine:=by rw[<-d.length];exact z
 have p:(AZ kvs k v).length<=sizeLine:=by have:=NZ kvs k v;omega
 refine wpAny_setItem_pairs (hsz:=o) (MZ w) n λC i t=>h _ ?_;have J:∃q,C.get? a=some q:=let ⟨q,_,_,f,_⟩:=i;⟨q,f⟩;exact N0 I (by rw[e];exact True.intro) t J (Hw p hd (d.put k x) i);subst j m
 cases(show u=Value.ref b from w);obtain⟨z,hd,xs,d,n⟩:=Hu I.hok e
 have o:xs.length<=sizeLine:=by rw[<-Paired.length d];exact z
 have p:(AZ kvs k v).length<=sizeLine:=by have:=NZ kvs k v;omega
 refine wpAny_setItem_heap (hsz:=o) (tupleKind_room_in1 F) (Lu I.hok B) n λC i t=>h _ ?_;obtain⟨q,K,L,f,M,N,O,_,P⟩:=i;refine N0 I (by rw[e];exact True.intro) t ⟨q,f⟩ ⟨p,hd,_,(d.put k B x).keeps λc R D=>?_,q,K,L,f,M,N,O,P⟩;rw[AD (MV D e (λz=>nomatch z))];exact D
end
section
variable {X:Cx} {pins:List (Addr×Obj)} {σ:St} {H:Hp} {s:Shared} {a:Addr} {kvs:List (AN×V)} {k:AN} {u:Value} {A:Around} {E:Value->Shared->Prop}
end
def N1 (i:Expr):Prop:=∀ov iv,subscripted i false ov iv=operate [ov,iv] (getItem ov iv)
variable {s:Shared}
theorem Jm{prog:Program}{A:Around}{E:Value->Shared->Prop}{env:Env}{d slice:Expr}{L:Pos}{T id:String}{Q:Value->Shared->Prop}
 (j:typeLookup (.type T) "__getitem__" = pure (some (.builtin id))) (k:N1 slice)
 (h:wpAny (model prog w) A (eval d env) (λo e=>wpAny (model prog w) A (eval slice env) (λi a=>a.TypeIs o T/\wpAny (model prog w) A (getItem o i) Q E a) E e) E s) :
 wpAny (model prog w) A (eval (.Subscript d slice L) env) Q E s:=by
 refine Subscript_ (FJ h (λo e l=>FJ l (λi a b=>?_) λ_ _ x=>x) λ_ _ x=>x);obtain⟨f,b⟩:=b;unfold subscriptTail;refine Ad ?_;rw[getitemInPython_of_ne f.not_modules];refine Ad (wpAny_specialOf f j ?_)
 have c:wpAny (model prog w) A (subscripted slice false o i) (λr g=>wpAny (model prog w) A (letTemporaryGo d o r >>= λ_=>pure r) Q E g) E a:=by
  rw[k o i];exact wpAny_operating (FJ b (λr g m=>Ad (wpAny_letTemporaryGo (Aw m))) λ_ _ x=>x)
 first
  |exact Aw (Ad c)
  |exact Ad (Aw (Ad c))
  |exact Ad c
theorem Ym{X:Cx}{pins:List (Addr×Obj)}{σ:St}{o:Option V}(I:Inv X pins σ H s)(g:Dk H a y o):s.TypeIs (.ref a) "dict" :=by
 rcases g with⟨kvs,k,e,_,_⟩|⟨kvs,k,b,e,_,_,_⟩;obtain⟨_,_,d,_,c⟩:=M0 I.hok e;exact c.typeIs;obtain⟨_,_,xs,_,c⟩:=M1 I.hok e;exact c.typeIs
def Kz (k ty:TE):TE:=λσ H Q=>k σ H λx Y=>ty σ Y λy H2=>∃a v,x=.ref a/\Dk H2 a y (some v)/\Q v H2
section
variable {X:Cx} {o i e d:Expr} {L t j:Pos} {k ty J:TE}
theorem U9(d:X.A.units+1<cLine)(e:PE X o k)(f:PE X i ty)(j:N1 i):PE X (.Subscript o i L) (Kz k ty):=by
 intro c s σ H Q I h;refine Jm PySem.F.slot_dict_getitem.lookup j (AW (e c s σ H _ I h) λu l⟨x,Y,m,n,p⟩=>AW (f c l σ Y _ m p) λA B⟨y,q,b,r,a,v,ex,g,t⟩=>?_);subst ex;obtain rfl:u=Value.ref a:=n;exact⟨Ym b g,Yk d b g r λC D w z=>⟨v,q,w,z,t⟩⟩
end
theorem Va(h:Heap)(a:sysModules<h.objs.size):Az P w H (h.push {cls:=.type "dict",data:=.dict #[]}) h.objs.size (.dK []):=
 ⟨Ck _,beq_eq_false_iff_ne.mpr (Ne.symm (CU a)),[],.nil,Heap.DictOf.new h⟩
theorem Vb(h:Heap)(a:sysModules<h.objs.size):Az P w H (h.push {cls:=.type "dict",data:=.dict #[]}) h.objs.size (.dT []):=
 ⟨Ck _,beq_eq_false_iff_ne.mpr (Ne.symm (CU a)),[],.nil,_,#[],0,B8 _ rfl,⟨rfl,rfl,rfl⟩,rfl,rfl,List.nodup_nil⟩
def Lv:TE:=λ_ H Q=>∀p,H p=none->Q (.ref p) (upd H p (.dK []))
def Lw:TE:=λ_ H Q=>∀p,H p=none->Q (.ref p) (upd H p (.dT []))
section
variable {X:Cx} {L:Pos}
theorem Yn:PE X (.Dict [] [] L) Lv:=λb s σ H Q I h =>
 wpAny_Dict_empty ⟨.ref s.heap.objs.size,_,I.laid (a:=s.heap.objs.size) (o:=.dK []) (t':=s.toks) (λ_ _ q=>Ba _ q) (AB _) (Va s.heap I.big),rfl,h _ (I.hok.fresh (AB _))⟩
theorem Sb:PE X (.Dict [] [] L) Lw:=λb s σ H Q I h =>
 wpAny_Dict_empty ⟨.ref s.heap.objs.size,_,I.laid (a:=s.heap.objs.size) (o:=.dT []) (t':=s.toks) (λ_ _ q=>Ba _ q) (AB _) (Vb s.heap I.big),rfl,h _ (I.hok.fresh (AB _))⟩
end
def KA (kvs more:List (AN×V)):List (AN×V):=more.foldl (λacc kv=>AZ acc kv.1 kv.2) kvs
structure M2 (X:Cx) (o:Expr) (m:Str) (apos:Pos) (e f:Expr) (cpos:Pos):Prop where
 base:attributeBase o m X.env (eval o X.env)=eval o X.env
 few:((backTo cpos (starEach [e,f] X.env)).all (λx=>!x.1) && (backToKw cpos (keywordEach [] X.env)).all (λx=>x.1.isSome)
  && decide (([e,f]:List Expr).length+([]:List Keyword).length+(if([]:List Keyword).isEmpty then 0 else 1)<30))=true
 line:(apos.endLine==cpos.line)=true
 trees:backTo cpos (starEach [e,f] X.env)=[(false,eval e X.env),(false,eval f X.env)]
def Vc (H:Hp) (a:Addr):Prop:=(∃kvs,Rd H a (.dK kvs))\/∃kvs,Rd H a (.dT kvs)
theorem Lx{X:Cx}{pins:List (Addr×Obj)}{σ:St}(I:Inv X pins σ H s)(d:Vc H a) :
 s.TypeIs (.ref a) "dict" /\ (∀b,Value.ref a=.ref b->∃ob,s.heap.get? b=some ob/\ob.dict=none)/\(a==sysModules)=false:=by
 rcases d with⟨kvs,e⟩|⟨kvs,e⟩;obtain⟨_,hd,h,_,c⟩:=M0 I.hok e;refine⟨c.typeIs,λb q=>?_,hd⟩;cases q;obtain⟨ob,_,_,f,g,_⟩:=c;exact⟨ob,f,g.2.1⟩;obtain⟨_,hd,xs,_,c⟩:=M1 I.hok e;refine⟨c.typeIs,λb q=>?_,hd⟩;cases q;obtain⟨ob,_,_,f,g,_⟩:=c;exact⟨ob,f,g.2.1⟩
section
variable {X:Cx} {pins:List (Addr×Obj)} {σ:St} {H:Hp} {s:Shared} {a:Addr} {y d:V} {u r:Value} {o:Option V} {A:Around} {E:Value->Shared->Prop}
theorem Ly{Q:Value->Shared->Prop}(p:A.units+1<cLine)(I:Inv X pins σ H s)(g:Dk H a y o)(j:RelV y u)(m:RelV d r)(h:∀n Z,Inv X pins σ H Z->RelV (o.getD d) n->Q n Z) :
 wpAny (model X.prog X.w) A (call (.builtin "dict.get") [.ref a,u,r]) Q E s:=by
 rcases g with⟨kvs,k,e,f,l⟩|⟨kvs,k,b,e,f,q,l⟩;subst f;obtain⟨z,hd,t,i,c⟩:=M0 I.hok e;refine call_meetsIn PySem.F.slot_dict_get c.typeIs PySem.F.entry_dict_get (PySem.F.args_dict_get_3 _ _ _) (meets_dict_get_default (EL X.prog X.w) a (MZ j) hd r) ⟨_,c.mapOf,h _ _ (I.tok _) ?_⟩;rw[l];exact(i.val k).getD m;subst f
 cases(show u=Value.ref b from j);obtain⟨z,hd,xs,i,c⟩:=M1 I.hok e;refine call_meetsIn PySem.F.slot_dict_get c.typeIs PySem.F.entry_dict_get (PySem.F.args_dict_get_3 _ _ _) (meetsH_dict_get_default (tupleKind (EL X.prog X.w)) a b hd r) ⟨tupleKind_room_in1 p,k,xs,Lu I.hok q,c,h _ _ (I.tok _) ?_⟩;rw[l];exact(i.val k).getD m
end
def Lz (k ty tx:TE):TE:=λσ H Q=>k σ H λx Y=>∃a,x=.ref a/\Vc Y a/\ty σ Y λy H2=>tx σ H2 λz H3=>∃o,Dk H3 a y o/\Q (o.getD z) H3
section
variable {X:Cx} {o e f:Expr} {apos cpos:Pos} {k ty tx:TE}
theorem Yo(i:X.A.units+1<cLine)(j:PE X o k)(l:PE X e ty)(n:PE X f tx)(m:M2 X o "get" apos e f cpos):PE X (.Call (.Attribute o "get" apos) [e,f] [] cpos) (Lz k ty tx):=by
 intro b s σ H Q I h;refine wpAny_Call_method m.base m.few m.line PySem.F.plainAttrs_dict PySem.F.slot_dict_get PySem.F.type_dict_get (AW (j b s σ H _ I h) λu p⟨x,Y,c,q,a,ex,d,r⟩=>?_);subst ex;obtain rfl:u=Value.ref a:=q;obtain⟨t,v,_⟩:=Lx c d;refine⟨t,v,?_⟩;rw[m.trees]
 refine Calls.callWith_builtin rfl (Calls.evalArgs_plain (Calls.spliced_cons (AW (l b p σ Y _ c r) λM w⟨y,A,B,C,D⟩ =>
  Calls.spliced_cons (AW (n b w σ A _ B D) λN O⟨z,E,F,G,P,g,J⟩=>Calls.spliced_nil ?_))))
 exact Ly i F g C G λR S K L=>⟨_,E,K,L,J⟩
end
section
variable {X:Cx} {pins:List (Addr×Obj)} {σ:St} {H:Hp} {s:Shared} {a:Addr} {kvs:List (AN×V)} {A:Around} {E:Value->Shared->Prop}
end
section
variable {X:Cx} {pins:List (Addr×Obj)} {σ:St} {H:Hp} {s:Shared} {a:Addr} {y:V} {u:Value} {A:Around} {E:Value->Shared->Prop}
end
end L2
namespace Att
open PySem PySem.W PySem.Calls PyProof.Rows
theorem Yp{P:Params}{h:Heap}:∀(ns:List Int)(vs:List Value),WellAll P h vs (ns.map WData.int)->IntsAre vs ns:=by
 intro ns
 induction ns with
 |nil =>
   intro vs w;rw[Nq] at w;cases w;exact .nil
 |cons n ns c =>
   intro vs w;rw[DN] at w
   cases w with
   |cons a b =>
     cases a;exact .cons _ _ (c _ b)
theorem Yq{l:OpenLaw}{n:Nat}(i:l.most=some n){P:Params}{h:Heap}{args:List WData}{f:List Value}
 (g:l.row.toRowW.claim.pre args=true) (u:WellAll P h f args) :
 ∃a vs ns,f=[Value.ref a]/\args=[WData.list (ns.map WData.int)]/\h.get? a=some {cls:=.type "list",data:=.seq vs.toArray}/\IntsAre vs ns/\ns.length<=n:=by
 have v:WShape.hasAll [] args [.list .int]=true:=(pre_splitW g).1;have e:l.pre.holds [] {args:=args}=true:=(pre_splitW g).2;obtain⟨d,r,rfl,j,k⟩:=hasAllW_cons v;obtain rfl:=hasAllW_nil k;obtain⟨y,rfl,m⟩:=hasW_list j;obtain⟨ns,rfl⟩:=items_int m
 have w:ns.length<=n:=by
  unfold OpenLaw.pre at e
  have b:(WTm.not (.lt (.lit (.int (n:Int))) (.len (.arg 0)))).holds [] {args:=[.list (ns.map .int)]}=true:=by
   have b:=(holds_andW e).1;rw[i] at b;exact b
  have c:=condW_of b (w_not (w_lt w_lit (w_len_list (w_arg rfl))));rw[Al] at c;refine Nat.le_of_not_lt λq=>?_;have o:(n:Int)<((ns.length:Nat):Int):=(by omega)
  first
   |(rw[A5 o] at c;exact absurd c (by decide))
   |(simp at c;omega)
 cases u with
 |cons p s =>
   cases s
   cases p with
   |list t x=>exact⟨_,_,ns,rfl,rfl,t,Yp ns _ x,w⟩
theorem Yr(l:OpenLaw)(args:List WData):l.row.toRowW.claim.post args (.bool true) args=true:=
 postW_of (r:=l.row.toRowW) (X:=(true==true))
  (show WShape.has [] (.bool true) .bool=true by first|rfl|decide|simp[WShape.has,WShape.arms,WShape.armsAll])
  (show(WTm.eq .res (.lit (.bool true))).value [] {args:=args,res:=some (.bool true),after:=args}=some (.bool (true==true)) from w_eq_bool (w_res rfl) w_lit) rfl
theorem attach_call{l:OpenLaw}{n:Nat}{q:Program}{loose:List Str}{XP:(Str->Option Value)->Heap->Prop}{YP:World->Heap->Prop}{d:DefRec}
 (p:l.most=some n) (B:d.params.defaults=[])
 (call:∀(w:World)(h b:Shared)(e i:Str->Option Value)(c:Addr)(o:Obj)(j g k:Value)(a:Addr)(vs:List Value)(ns:List Int),
  Ground q loose [] XP w h e i b.heap->YP w b.heap ->
  b.heap.get? c=some o->o.data=.func (docDef d.name d.params d.body d.scope j g k)->b.heap.CodeRec g d.name->e d.name=some (.ref c) ->
  b.heap.get? a=some {cls:=.type "list",data:=.seq vs.toArray}->IntsAre vs ns->ns.length<=n->b.gens=#[] ->
  codeAny (model l.prog w) callerA (.call (.ref c) ⟨[.ref a],[]⟩) (λr Z=>r=.ok (.ret (.bool true))/\OldK b.heap Z.heap/\Z.os=b.os/\AllBare Z.gens) b) :
 WalkO q loose XP YP l.row.toRowW d [] (λf vs=>PySem.call f vs):=by
 intro w h b e i G Y c o j g k s kV t hd C m D u N O K F P L E M;obtain rfl:s=.none:=Dflts.none m B;obtain rfl:kV=.none:=Dflts.noKw m;obtain⟨a,vs,ns,rfl,rfl,H,J,I⟩:=Yq p F E;refine enter_call (codeAny_mono (call w h b e i c o j g k a vs ns G Y t (fd_plain hd) C D H J I u) λr Z v=>?_);obtain⟨rfl,x,y,z⟩:=v;exact⟨.inl ⟨.bool true,.bool true,[],rfl,λ_=>rfl,.bool true,Yr l _,λ_=>⟨List.Pairwise.nil,λ_ A=>(nomatch A)⟩⟩,x,y,z⟩
section
variable {prog:Program} {w:World} {A:Around} {E:Value->Shared->Prop} {s:Shared} {K:Frag}
end
end Att
namespace L2
open PySem PySem.Spec PyProof.Rows
theorem Pt:∀{vs:List Value}{ns:List Int},IntsAre vs ns->As (ns.map V.int) vs
 |_,_,.nil=>.nil
 |_,_,.cons n t h=>.cons ⟨t,rfl⟩ (Pt h)
def LA (H:Hp):Prop:=∀b,H b=none\/∃o xs,H b=some (.frz o (.lst xs))
variable {P:Program}{w:World}{a:Addr}{fd:FuncData}{x:Str}
theorem Ys {K:Ah} {g y:Str->Option Value} {CX:Ho} {k:Nat} {A:Addr} {sp:Sp} {c:Shared} {vs:List Value} {ns:List Int}
 (E:K.In c.heap) (O:c.heap.Ns mainGlobals g) (f:c.heap.Ns builtinsNs y) (ab:∀x:Str,x ≠ "__name__" -> y x=bootBuiltins x) (ah:c.heap.NoLimit) (U:c.gens=#[])
 (p:c.heap.get? a=some {cls:=.type "list",data:=.seq vs.toArray}) (G:IntsAre vs ns) (I:ns.length<=sizeLine) (W:B2 k callerA)
 (F:∀D:Heap,K.In D->D.Ns mainGlobals g->Et P w K g D CX k A fd [x] sp) (al:∀(s:Shared)(u:Value),BindsTo s fd ⟨[u],[]⟩ [(x,u)])
 (ae:∀H:Hp,LA H->Af K H a (ns.map V.int)->sp [.ref a] H (λv _=>v=.bl true) λ_ _ _=>False)
 (af:∀H e Z,CX [] H c (λ_ _ _=>False) e Z->False) :
 codeAny (model P w) callerA (.call (.ref A) ⟨[.ref a],[]⟩) (λr Z=>r=.ok (.ret (.bool true))/\OldK c.heap Z.heap/\Z.os=c.os/\AllBare Z.gens) c:=by
 have J:=Pt G;have ai:=G.length
 have S:∀ H:Hp,LA H->Af K H a (ns.map V.int)->CW P w H c.heap->(∀ b,H b≠none->b=a)->(H a≠none->K.lookup a=none) ->
  codeAny (model P w) callerA (.call (.ref A) ⟨[.ref a],[]⟩) (λr Z=>r=.ok (.ret (.bool true))/\OldK c.heap Z.heap/\Z.os=c.os/\AllBare Z.gens) c:=by
  intro H L X Q M Y;have T:∀{b:Addr}{o:Obj},c.heap.get? b=some o->H b=none->(Fk c.heap H).get? b=some o:=λe n=>XS e n
  have ag:∀{b:Addr}{o:Obj}{i:Array DictEntry}{j:Nat},c.heap.get? b=some o->o.data=.dict i j->H b=none:=λ{b o i j}e d=>by
   cases q:H b with
   |none=>rfl
   |some u =>
     have B:b=a:=M b (by rw[q];simp);subst B;rw[p] at e;cases e;have d':Data.seq vs.toArray _=Data.dict i j:=d;cases d'
  have t:∀{b:Addr}{m:Str->Option Value},c.heap.Ns b m->(Fk c.heap H).Ns b m:=λ{b m}⟨o,i,j,e,d,r⟩=>⟨o,i,j,T e (ag e d),d,r⟩
  have R:K.In (Fk c.heap H):=λb o e=>T (E b o e) (by
   cases q:H b with
   |none=>rfl
   |some u =>
     have B:b=a:=M b (by rw[q];simp);subst B
     rw[Y (by rw[q];simp)] at e;cases e)
  have hM:Mod K g (Fk c.heap H):=⟨R,t O,⟨y,t f,ab⟩,let ⟨mc,h1,h2⟩:=ah;⟨mc,t h1,h2⟩⟩;have e0:Jd P w K g (Fk c.heap H) callerA [] c H:=⟨rfl,hM,λb o e=>IV e,Nat.le_of_eq (XR _ _),trivial,λb f=>absurd (show b∈([]:List Addr) from f) (by simp),Q,.of_eq U⟩;refine codeAny_mono ((F _ R (t O)).run callerA [] c H ⟨[.ref a],[]⟩ [.ref a] [.ref a] _ _ W e0 (al c (.ref a)) (.cons rfl .nil) (ae H L X)) λr Z h=>?_
  cases r with
  |error e=>exact(af H e Z h).elim
  |ok fl =>
    cases fl with
    |next=>exact False.elim h
    |brk=>exact False.elim h
    |cont=>exact False.elim h
    |ret u =>
      obtain⟨v,H',aa,aj,un,ak,r',q⟩:=h;have q':v=.bl true:=q;subst q';obtain rfl:u=Value.bool true:=r';refine⟨rfl,OldK.of_keep λb o e=>?_,aa,aj⟩
      cases q:H b with
      |none=>exact un.keep b o e q (by intro z;exact absurd (show b∈([]:List Addr) from z) (by simp)) (by simp)
      |some u =>
        rcases L b with z|⟨ob,xs,z⟩;rw[q] at z;cases z;have z2:=un.frzs b ob _ z;obtain⟨N,_⟩:=Q b _ z;obtain⟨e2,_⟩:=ak b _ z2;rw[e] at N;cases N;exact e2
 cases C:K.lookup a with
 |some o =>
   have e:=E a o C;rw[p] at e;cases e;refine S (λ_=>none) (λ_=>.inl rfl) (.inr ⟨_,vs.toArray,_,C,rfl,rfl,rfl,by rw[Cu,ai];exact I,by simpa using J⟩) (λb u z=>by have l:(none:Option HO)=some u:=z;cases l) (λb z=>absurd rfl z) λz=>absurd rfl z
 |none =>
   refine S (λb=>if b=a then some (.frz {cls:=.type "list",data:=.seq vs.toArray} (.lst (ns.map V.int))) else none) (λb=>?_) (.inl (.inr ⟨{cls:=.type "list",data:=.seq vs.toArray},Ak rfl⟩)) (λb u z=>?_) (λb z=>?_) λ_=>C
   by_cases f:b=a;exact .inr ⟨_,_,Ak f⟩;exact .inl (Aj f);by_cases f:b=a;have l:=(Ak f).symm.trans z;cases l;subst f;exact⟨p,by rw[Al];exact I,vs,_,J,p⟩;have l:=(Aj f).symm.trans z;cases l;by_cases f:b=a;exact f;exact absurd (Aj f) z
variable {n:Nat}
theorem Jn{l:PySem.W.OpenLaw}{k:Nat}{q:Program}{loose:List Str}{XP:(Str->Option Value)->Heap->Prop}{YP:World->Heap->Prop}{d:DefRec}{K:Params->Ah}{CX:World->Ho}{sp:World->Sp}(m:l.most=some n)(D:n<=sizeLine)(E:d.params.defaults=[])(p:B2 k callerA)
 (r:∀(w:World)(h:Heap),YP w h->(K w.params).In h)
 (F:∀(w:World)(b:Str->Option Value)(c:Addr)(h:Heap),(K w.params).In h->h.Ns mainGlobals b->b d.name=some (.ref c) ->
  ∃fd:FuncData,(∀(s:Shared)(u:Value),BindsTo s fd ⟨[u],[]⟩ [(x,u)]) /\
   ∀g:Heap,(K w.params).In g->g.Ns mainGlobals b->Et l.prog w (K w.params) b g (CX w) k c fd [x] (sp w))
 (I:∀(w:World)(H:Hp)(a:Addr)(ns:List Int),ns.length<=n->LA H->Af (K w.params) H a (ns.map V.int)->sp w [.ref a] H (λv _=>v=.bl true) λ_ _ _=>False)
 (J:∀(w:World)(H:Hp)(s:Shared)(e:Value)(Z:Shared),CX w [] H s (λ_ _ _=>False) e Z->False) :
 PySem.W.WalkO q loose XP YP l.row.toRowW d [] (λf vs=>PySem.call f vs):=by
 refine Att.attach_call m E λw O t b P c o Q R T a vs ns G Y S hd U L M N j y=>?_;have i:=r w _ Y;obtain⟨fd,z,A⟩:=F w b c _ i G.T.g L;exact Ys i G.T.g G.T.b G.T.builtins G.T.nolimit y M N (El j D) p A z (λH B C=>I w H a ns j B C) λH e Z=>J w H t e Z
abbrev IH:Ho:=λ_ _ _ _ _ _=>False
abbrev E0:XK:=λ_ _ _=>False
variable {X:Cx}
theorem N2:RW IH X E0:=λ_ _ _ _ _ _ _ h=>h.elim
structure Br (K:Ah) (x qual:Str) (st:Stmt) (f:Addr) (fd:FuncData):Prop where
 ex:∃(oc:Value)(od:Option Addr)(kV doc pm:Value)(an:Option Addr)(cdv ct:Value)(osl:Array (Option Value)),
  fd=PySem.W.fnOf x qual (Kt st) (IC st) (A3 st) .none kV doc pm an cdv ct/\K.lookup f=some ⟨oc,od,.func fd,osl⟩/\PySem.W.codeIn K cdv qual=true
 kp:PySem.W.keepIn K (.ref f)=true
section
variable {P:Program} {w:World} {K:Ah} {mg:Str->Option Value} {base:Heap}
variable {qual:Str}{st:Stmt}{f:Addr}
theorem Br.ok{N ps:List Str}{k:Nat}{sp:Sp}(F:Br K x qual st f fd)(S:Ag N ps (A3 st))(len:∀vs H Q E,sp vs H Q E->vs.length=ps.length)
 (i:∀(a:Value)(A:Around)(b:List Env)(s:Shared)(H:Hp)(vs:List V)(Q:VK)(E:XK),B2 k (A.deeper (envOfC qual (A3 st) s.heap.objs.size f a))->sp vs H Q E ->
  ∃t,Ga (AG IH P w K mg base N qual (A3 st) f a A b s H E).nox (IC st) t/\t {nx:=λ_ H'=>Q .non H',rt:=Q} (start N vs) H):Et P w K mg base IH (k+1) f fd ps sp:=by
 obtain⟨j,l,kV,p,m,n,a,o,r,rfl,c,e⟩:=F.ex;refine NP c e S len λA b s H vs Q E d g=>?_;obtain⟨t,h,q⟩:=i a A b s H vs Q E d g;exact⟨t,h.nox,q⟩
theorem Br.binds{ps:List Str}(F:Br K x qual st f fd)
 (h:∀(kV c a:Value)(b:Option Addr)(d ct:Value)(us:List Value),us.length=ps.length->bindArgs (PySem.W.fnOf x qual (Kt st) (IC st) (A3 st) .none kV c a b d ct) ⟨us,[]⟩=pure (ps.zip us)):Binds K fd ps []:=by
 obtain⟨e,g,kV,c,a,b,d,ct,j,rfl,i,k⟩:=F.ex;exact .all (h kV c a b d ct)
theorem Hx{g:Value}{h b:Option Addr}{i:Array (Option Value)}{kV e d a ct:Value}(l:K.lookup f=some ⟨g,h,.func (PySem.W.fnOf x qual (Kt st) (IC st) (A3 st) .none kV e d b a ct),i⟩)
 (c:PySem.W.codeIn K a qual=true) (k:PySem.W.keepIn K (.ref f)=true):Br K x qual st f (PySem.W.fnOf x qual (Kt st) (IC st) (A3 st) .none kV e d b a ct):=⟨⟨g,h,kV,e,d,b,a,ct,i,rfl,l,c⟩,k⟩
end
variable {A:Around}
theorem LB{k:Nat}(a:B2 k A):A.units+1<cLine:=Nat.lt_of_le_of_lt (Nat.add_le_add_left (by decide:1<=64) _) a.units
theorem BC(h:n<=1000):n<sizeLine:=Nat.lt_of_le_of_lt h (by decide)
section
variable {X:Cx}
theorem pv(i:Nat){L:Pos}(a:X.N[i]?=some x:=by rfl)(hv:Pf X.env.scope x:=by first|exact Or.inl rfl|exact Or.inr (Or.inl rfl)|exact Or.inr (Or.inr rfl))(hd:(x==("__debug__" : Str))=false:=by decide)
 (b:(x==("__classdict__" : Str))=false:=by decide):PE X (.Name x L) (BB i):=K8 a hv hd b
end
variable {B:Prop}
theorem Bg{A:Prop}(h:B):if false=true then A else B:=by
 rw[Aj Cv];exact h
theorem C7{A:Prop}(h:A):if true=true then A else B:=by
 rw[Ak rfl];exact h
theorem Ao{c A:Prop} [Decidable c](a:c->A)(b:¬c->B):if c then A else B:=by
 by_cases h:c;rw[Ak h];exact a h;rw[Aj h];exact b h
def Ac (H H':Hp):Prop:=∀b o,H b=some o->H' b=some o
theorem Ac.refl(H:Hp):Ac H H:=λ_ _ h=>h
variable {H:Hp}
theorem Ac.trans{Y d:Hp}(a:Ac H Y)(b:Ac Y d):Ac H d:=λc o h=>b c o (a c o h)
variable {H':Hp}
theorem Ac.free(e:Ac H H'){l:Addr}(h:H' l=Option.none):H l=Option.none:=by
 cases q:H l with
 |none=>rfl
 |some o =>
   rw[e l o q] at h;cases h
variable {xs:List V}
theorem Ac.seq{K:Ah}(e:Ac H H')(h:Af K H a xs):Af K H' a xs:=by
 rcases h with(h|⟨o,h⟩)|h;exact .inl (.inl (e _ _ h));exact .inl (.inr ⟨o,e _ _ h⟩);exact .inr h
section
variable {κ:Type} [DecidableEq κ]
end
inductive Ty where
 |int|bool|str|non|lst|tup|dct
 deriving DecidableEq
def Ty.name:Ty->String
 |.int => "int"|.bool => "bool"|.str => "str"|.non => "NoneType"|.lst => "list"|.tup => "tuple"|.dct => "dict"
inductive Jo (K:Ah) (H:Hp):V->Ty->Prop where
 |int (i:Int):Jo K H (.int i) .int
 |bl (b:Bool):Jo K H (.bl b) .bool
 |str (x:Str):Jo K H (.str x) .str
 |non:Jo K H .non .non
 |lst {a:Addr} {xs:List V} (h:Af K H a xs):Jo K H (.ref a) .lst
 |tup {a:Addr} {xs:List V} (h:Aq K H a xs):Jo K H (.ref a) .tup
 |dk {a:Addr} {kvs:List (AN×V)} (h:H a=some (.dK kvs)):Jo K H (.ref a) .dct
def Sc:Ty->Ty->Bool
 |.int,.int=>true|.bool,.bool=>true|.bool,.int=>true|.str,.str=>true|.non,.non=>true|.lst,.lst=>true|.tup,.tup=>true|.dct,.dct=>true|_,_=>false
def Sd (K:Ah):List V->Hp->VK->Prop:=λvs H Q=>∃x T T',vs=[x,.ty (Ty.name T)]/\Jo K H x T'/\Q (.bl (Sc T' T)) H
theorem Jp:A7 X (.builtin "isinstance") (Sd X.K):=by
 intro F s σ H g w Q I r h;obtain⟨x,T,z,rfl,ty,q⟩:=h;obtain⟨u,j,rfl,c,p⟩:=Jc r;have k:j=Value.type (Ty.name T):=p;subst k
 cases ty with
 |int i =>
   obtain⟨t,rfl⟩:=c
   cases T with
   |int=>exact IsiPair.int_int ⟨.bl true,H,I,rfl,q⟩
   |bool=>exact IsiPair.int_bool ⟨.bl false,H,I.tok _,rfl,q⟩
   |str=>exact IsiPair.int_str ⟨.bl false,H,I.tok _,rfl,q⟩
   |non=>exact IsiPair.int_NoneType ⟨.bl false,H,I.tok _,rfl,q⟩
   |lst=>exact IsiPair.int_list ⟨.bl false,H,I.tok _,rfl,q⟩
   |tup=>exact IsiPair.int_tuple ⟨.bl false,H,I.tok _,rfl,q⟩
   |dct=>exact IsiPair.int_dict ⟨.bl false,H,I.tok _,rfl,q⟩
 |bl b =>
   obtain rfl:u=Value.bool b:=c
   cases T with
   |int=>exact IsiPair.bool_int ⟨.bl true,H,I,rfl,q⟩
   |bool=>exact IsiPair.bool_bool ⟨.bl true,H,I,rfl,q⟩
   |str=>exact IsiPair.bool_str ⟨.bl false,H,I.tok _,rfl,q⟩
   |non=>exact IsiPair.bool_NoneType ⟨.bl false,H,I.tok _,rfl,q⟩
   |lst=>exact IsiPair.bool_list ⟨.bl false,H,I.tok _,rfl,q⟩
   |tup=>exact IsiPair.bool_tuple ⟨.bl false,H,I.tok _,rfl,q⟩
   |dct=>exact IsiPair.bool_dict ⟨.bl false,H,I.tok _,rfl,q⟩
 |str y =>
   obtain⟨t,rfl⟩:=c
   cases T with
   |int=>exact IsiPair.str_int ⟨.bl false,H,I.tok _,rfl,q⟩
   |bool=>exact IsiPair.str_bool ⟨.bl false,H,I.tok _,rfl,q⟩
   |str=>exact IsiPair.str_str ⟨.bl true,H,I,rfl,q⟩
   |non=>exact IsiPair.str_NoneType ⟨.bl false,H,I.tok _,rfl,q⟩
   |lst=>exact IsiPair.str_list ⟨.bl false,H,I.tok _,rfl,q⟩
   |tup=>exact IsiPair.str_tuple ⟨.bl false,H,I.tok _,rfl,q⟩
   |dct=>exact IsiPair.str_dict ⟨.bl false,H,I.tok _,rfl,q⟩
 |non =>
   obtain rfl:u=Value.none:=c
   cases T with
   |int=>exact IsiPair.NoneType_int ⟨.bl false,H,I.tok _,rfl,q⟩
   |bool=>exact IsiPair.NoneType_bool ⟨.bl false,H,I.tok _,rfl,q⟩
   |str=>exact IsiPair.NoneType_str ⟨.bl false,H,I.tok _,rfl,q⟩
   |non=>exact IsiPair.NoneType_NoneType ⟨.bl true,H,I,rfl,q⟩
   |lst=>exact IsiPair.NoneType_list ⟨.bl false,H,I.tok _,rfl,q⟩
   |tup=>exact IsiPair.NoneType_tuple ⟨.bl false,H,I.tok _,rfl,q⟩
   |dct=>exact IsiPair.NoneType_dict ⟨.bl false,H,I.tok _,rfl,q⟩
 |lst d =>
   obtain rfl:u=Value.ref _:=c;obtain⟨v,l,⟨o,n,e,a,hd,m⟩,f⟩:=I.list d
   cases T with
   |int=>exact IsiPair.list_int e a ⟨.bl false,H,I.tok _,rfl,q⟩
   |bool=>exact IsiPair.list_bool e a ⟨.bl false,H,I.tok _,rfl,q⟩
   |str=>exact IsiPair.list_str e a ⟨.bl false,H,I.tok _,rfl,q⟩
   |non=>exact IsiPair.list_NoneType e a ⟨.bl false,H,I.tok _,rfl,q⟩
   |lst=>exact IsiPair.list_list e a ⟨.bl true,H,I,rfl,q⟩
   |tup=>exact IsiPair.list_tuple e a ⟨.bl false,H,I.tok _,rfl,q⟩
   |dct=>exact IsiPair.list_dict e a ⟨.bl false,H,I.tok _,rfl,q⟩
 |tup d =>
   obtain rfl:u=Value.ref _:=c;obtain⟨v,l,⟨o,e,a,n,m⟩,f⟩:=I.tuple d
   cases T with
   |int=>exact IsiPair.tuple_int e a ⟨.bl false,H,I.tok _,rfl,q⟩
   |bool=>exact IsiPair.tuple_bool e a ⟨.bl false,H,I.tok _,rfl,q⟩
   |str=>exact IsiPair.tuple_str e a ⟨.bl false,H,I.tok _,rfl,q⟩
   |non=>exact IsiPair.tuple_NoneType e a ⟨.bl false,H,I.tok _,rfl,q⟩
   |lst=>exact IsiPair.tuple_list e a ⟨.bl false,H,I.tok _,rfl,q⟩
   |tup=>exact IsiPair.tuple_tuple e a ⟨.bl true,H,I,rfl,q⟩
   |dct=>exact IsiPair.tuple_dict e a ⟨.bl false,H,I.tok _,rfl,q⟩
 |dk d =>
   obtain rfl:u=Value.ref _:=c;obtain⟨f,A,g,E,o,B,C,e,ex,D⟩:=I.hok _ _ d;have a:=ex.1
   cases T with
   |int=>exact IsiPair.dict_int e a ⟨.bl false,H,I.tok _,rfl,q⟩
   |bool=>exact IsiPair.dict_bool e a ⟨.bl false,H,I.tok _,rfl,q⟩
   |str=>exact IsiPair.dict_str e a ⟨.bl false,H,I.tok _,rfl,q⟩
   |non=>exact IsiPair.dict_NoneType e a ⟨.bl false,H,I.tok _,rfl,q⟩
   |lst=>exact IsiPair.dict_list e a ⟨.bl false,H,I.tok _,rfl,q⟩
   |tup=>exact IsiPair.dict_tuple e a ⟨.bl false,H,I.tok _,rfl,q⟩
   |dct=>exact IsiPair.dict_dict e a ⟨.bl true,H,I,rfl,q⟩
theorem Vd{bs:List Bool}{a:List Value}(r:As (bs.map V.bl) a):TruthOf P w A (λi v=>a.toArray[i]?=some v) (λi=>bs.getD i false):=by
 intro i v s Q E d f;have c:a[i]?=some v:=(by simpa using d);have g:=r.length;rw[Al] at g;have k:i<a.length:=(A9.mp c).1
 have h:(bs.map V.bl)[i]?=some (V.bl (bs.getD i false)):=by
  rw[Bh,BY];have:bs[i]?=some bs[i]:=AC (by omega);rw[this];rfl
 obtain⟨u,b,j⟩:=r.get h;rw[c] at b;cases b;have e:v=Value.bool (bs.getD i false):=j;subst e;exact FI f
theorem Yt{bs:List Bool}:(List.range bs.length).all (λi=>bs.getD i false)=bs.all id:=by
 rw[Bool.eq_iff_iff,List.all_eq_true,List.all_eq_true];constructor;intro h b d;obtain⟨i,a,e⟩:=O8.mp d;have:=h i (List.mem_range.mpr a);rw[BY,AC a] at this;rw[<-e];exact this;intro h i a;have c:=List.mem_range.mp a;rw[BY,AC c];exact h _ (D9 c)
def Se (K:Ah):List V->Hp->VK->Prop:=λvs H Q=>∃(a:Addr)(bs:List Bool),vs=[.ref a]/\Af K H a (bs.map V.bl)/\Q (.bl (bs.all id)) H
theorem Yu(g:X.calm=true):A7 X (.builtin "all") (Se X.K):=by
 intro B s σ H t w Q I r h;obtain⟨a,bs,rfl,j,q⟩:=h;obtain⟨u,rfl,k⟩:=Fm r;obtain rfl:u=Value.ref a:=k;obtain⟨c,d,p,x⟩:=I.list j;have f:=d.length;rw[Al] at f;have n:a<s.heap.objs.size:=by obtain⟨_,e,_⟩:=p.isList;exact A1 e
 refine call_all_walk (wpAny_pyIter_list p.isList ?_);refine⟨s.heap.objs.size,[s.heap.objs.size,a],[s.heap.objs.size],c.toArray.size,(λi v=>c.toArray[i]?=some v),(λi h=>h.IsListIter s.heap.objs.size a i/\h.IsList a c.toArray),(λi=>bs.getD i false),rfl,Walks.list (A:=X.A.in1) (I.ok.hd g) s.heap.objs.size a (CU n) c.toArray,⟨⟨_,B8 _ rfl,rfl,rfl⟩,p.isList.push _⟩,Vd d,λy tk l=>?_⟩;refine⟨.bl (bs.all id),H,I.kept λb o e=>l b o (λz=>?_) (Ba _ e),?_,q⟩;have m:b=s.heap.objs.size:=(by simpa using z);exact absurd (A1 e) (by rw[m];exact F7 _);have e:c.toArray.size=bs.length:=(by rw[Cu,f]);show Value.bool _=Value.bool _;rw[e,Yt]
variable {pins:List (Addr×Obj)}{σ:St}{s:Shared}
theorem Inv.track{T:Addr}{o:HO}(I:Inv X pins σ H s)(f:Ec X pins H T)(p:∃ob,s.heap.get? T=some ob)(l:Az X.prog X.w (upd H T o) s.heap T o):Inv X pins σ (upd H T o) s:=by
 obtain⟨d,g,r,h,i,j⟩:=f;refine I.step (g':=s.gens) (t':=s.toks) (d':=s.drawn) (h':=s.heap) (ch:=[T]) (λb a=>?_) (λb ob _ _ _ e _=>e) (λb ob _ _ _ e _=>⟨ob.slots,e⟩) (λb ob a e n=>?_) (λb ob _ e=>⟨ob,e⟩) (λb xs e=>?_) (λb ob u e=>?_) (λb t e=>?_) (λm k=>k) (λb u e=>?_) I.bare;have e:b=T:=(by simpa using a);subst e;exact⟨h,g,i,j⟩;rw[AD (by simpa using a)];exact n;rw[AD (AH e d)];exact e;rw[AD (AH e d)];exact e;exact⟨#[],by rw[AD (AH e d),e];simp⟩;by_cases a:b=T;subst a;rw[Aa] at e;cases e;exact l;rw[AD a] at e;exact(I.hok b u e).stay (λc v _ q=>q) (λc q=>by rw[AD (AH q d)];exact q) λc xs q=>by rw[AD (AH q d)];exact q
def N4 (K:Ah) (l1 l2:Addr):It:=
 ⟨λi H=>∃xs ys x y,Af K H l1 xs/\Af K H l2 ys/\xs[i]?=some x/\ys[i]?=some y,
  λi H v H'=>∃T x y,H T=none/\v=.ref T/\H'=upd H T (.tup [x,y])/\(∀xs,Af K H l1 xs->xs[i]?=some x)/\∀ys,Af K H l2 ys->ys[i]?=some y,
  λi H=>∃xs ys,Af K H l1 xs/\Af K H l2 ys/\(xs.length<=i\/ys.length<=i)⟩
def N5 (z TI TO i1 i2 l1 l2:Addr) (i:Nat) (h:Heap):Prop:=IsZip h z TI TO .none/\IsPair h TI (.ref i1) (.ref i2)/\(∃a b,IsPair h TO a b)/\h.IsListIter i1 l1 i/\h.IsListIter i2 l2 i
variable {L:Pos}
theorem Yv{K:Ah}{es:List Expr}{k:Nat}{z TI TO g j l1 l2:Addr}(D:ZipApart z TI TO g j l1 l2) :
 Fl P w K (.Tuple es k L) (N4 K l1 l2) [z,TI,TO,g,j] z (N5 z TI TO g j l1 l2) where
 mem:=by simp
 obj:=λi h C b d=>by
  obtain⟨E,F,⟨a,c,J⟩,⟨o1,e1,c1,d1⟩,⟨o2,e2,c2,d2⟩⟩:=C;simp at d;rcases d with rfl|rfl|rfl|rfl|rfl;exact⟨_,E,λv q=>by cases q⟩;exact⟨_,F,λv q=>by cases q⟩;exact⟨_,J,λv q=>by cases q⟩;exact⟨_,e1,λv q=>by rw[d1] at q;cases q⟩;exact⟨_,e2,λv q=>by rw[d2] at q;cases q⟩
 keep:=λi h h' C S=>by
  obtain⟨E,F,⟨a,c,J⟩,M,N⟩:=C;exact⟨S z (by simp) _ E,S TI (by simp) _ F,⟨a,c,S TO (by simp) _ J⟩,M.at λo e=>S g (by simp) o e,N.at λo e=>S j (by simp) o e⟩
 item:=by
  intro X hP hw hK A i pins s σ H ak I B C hg;subst hP hw hK;obtain⟨xs,ys,x,y,Y,Z,hx,hy⟩:=hg;obtain⟨E,F,⟨a,c,J⟩,M,N⟩:=C;obtain⟨az,ae,p1,an⟩:=I.list Y;obtain⟨a0,af,aa,ao⟩:=I.list Z;obtain⟨U,aq,ar⟩:=ae.get hx;obtain⟨V,au,av⟩:=af.get hy;refine wpAny_pyNext_zip_item D E F J M N p1.isList aa.isList (x:=U) (y:=V) (by simpa using aq) (by simpa using au) λh' a1 a2 a3 a4 a5 a6 G=>?_;refine⟨_,rfl,wpAny_letOwnedTupleGo_zip (s:={s with heap:=h'}) a1 λT a7 R=>?_⟩;have m:=B z (by simp);have t:=B TO (by simp);have p:=B g (by simp);have r:=B j (by simp);have G0:∀b u,H b=some u->b≠z/\b≠TO/\b≠g/\b≠j:=λb u e=>⟨AH e m.1,AH e t.1,AH e p.1,AH e r.1⟩;have keep:∀b o,b≠z->b≠TO->b≠g->b≠j->s.heap.get? b=some o->T.get? b=some o:=λb o W n2 n3 n4 e=>(R.2 b W).trans (G b o W n2 n3 n4 e);have f:∀{b:Addr},b∉[z,TO,g,j]->b≠z/\b≠TO/\b≠g/\b≠j:=λ{b}d=>by simpa using d
  have I1:Inv X pins σ H {s with heap:=T}:=by
   refine I.step (g':=s.gens) (t':=s.toks) (d':=s.drawn) (h':=T) (ch:=[z,TO,g,j]) (λb d=>?_) (λb l _ _ d e _=>keep b l (f d).1 (f d).2.1 (f d).2.2.1 (f d).2.2.2 e) (λb l _ _ d e _=>⟨l.slots,keep b l (f d).1 (f d).2.1 (f d).2.2.1 (f d).2.2.2 e⟩)
    (λ_ _ _ _ n=>n) (λb l d e=>⟨l,keep b l (f d).1 (f d).2.1 (f d).2.2.1 (f d).2.2.2 e⟩) (λ_ _ e=>e) (λ_ _ _ e=>e) (λb ps e=>⟨#[],by rw[e];simp⟩) (λal hm=>?_) (λb u e=>?_) I.bare
   have:b=z\/b=TO\/b=g\/b=j:=(by simpa using d);rcases this with rfl|rfl|rfl|rfl;exact⟨m.2.2.2.1,m.2.1,m.2.2.2.2.1,m.2.2.2.2.2⟩;exact⟨t.2.2.2.1,t.2.1,t.2.2.2.2.1,t.2.2.2.2.2⟩;exact⟨p.2.2.2.1,p.2.1,p.2.2.2.2.1,p.2.2.2.2.2⟩;exact⟨r.2.2.2.1,r.2.1,r.2.2.2.2.1,r.2.2.2.2.2⟩;obtain⟨o,es,ep,ho,ab⟩:=hm;exact⟨o,es,ep,keep _ o (Ne.symm m.2.1) (Ne.symm t.2.1) (Ne.symm p.2.1) (Ne.symm r.2.1) ho,ab⟩;refine(I.hok b u e).stay (λc v A q=>?_) (λ_ q=>q) λ_ _ q=>q
   have ag:∃O,H c=some O:=by
    rcases A with rfl|A;exact⟨_,e⟩;exact⟨_,A⟩
   obtain⟨O,Q⟩:=ag;obtain⟨W,n2,n3,n4⟩:=G0 c O Q;exact keep c v W n2 n3 n4 q
  have aw:s.heap.objs.size≠z:=Nat.ne_of_gt (A1 E);have ai:H s.heap.objs.size=none:=I.hok.fresh (AB _);have aj:T.get? s.heap.objs.size=some {cls:=.type "tuple",data:=.seq #[U,V]}:=(R.2 _ aw).trans a5
  have I2:Inv X pins σ (upd H s.heap.objs.size (.tup [x,y])) {s with heap:=T}:=by
   refine I1.track (I.fpOk (AB _) ai) ⟨_,aj⟩ ?_;exact⟨by show 2<=sizeLine;decide,[U,V],.cons ar (.cons av .nil),⟨_,aj,rfl,_,rfl⟩⟩
  refine⟨.ref s.heap.objs.size,_,I2,rfl,⟨s.heap.objs.size,x,y,ai,rfl,rfl,λzs ah=>by rw[I.list_inj ah Y];exact hx,λzs ah=>by rw[I.list_inj ah Z];exact hy⟩,?_,λb d=>?_⟩;refine⟨a7,R.extBut _ _ D.TIz (G _ _ D.TIz D.TITO D.TIi1 D.TIi2 F),⟨U,V,R.extBut _ _ D.TOz a2⟩,a3.extBut R.extBut D.i1z,a4.extBut R.extBut D.i2z⟩;have ax:=(B b d).1;rw[AD (λq=>?_)];exact ax;have ay:b=z\/b=TI\/b=TO\/b=g\/b=j:=(by simpa using d);obtain⟨o1,e1,_⟩:=M;obtain⟨o2,e2,_⟩:=N
  have lt:b<s.heap.objs.size:=by
   rcases ay with rfl|rfl|rfl|rfl|rfl;exact A1 E;exact A1 F;exact A1 J;exact A1 e1;exact A1 e2
  rw[q] at lt;exact absurd lt (F7 _)
 done:=by
  intro X hP hw hK A i pins s σ H ak I B C hg;subst hP hw hK;obtain⟨xs,ys,Y,Z,aA⟩:=hg;obtain⟨E,F,⟨a,c,J⟩,M,N⟩:=C;obtain⟨az,ae,p1,an⟩:=I.list Y;obtain⟨a0,af,aa,ao⟩:=I.list Z;have a8:=ae.length;have a9:=af.length;refine wpAny_pyNext_zip_end (I.ok.hd A) D E F J M N p1.isList aa.isList (by simp;omega) λh' G=>⟨rfl,?_⟩;have m:=B z (by simp);have t:=B TO (by simp);have p:=B g (by simp);have r:=B j (by simp);have f:∀{b:Addr},b∉[z,TO,g,j]->b≠z/\b≠TO/\b≠g/\b≠j:=λ{b}d=>by simpa using d
  refine I.step (g':=s.gens) (t':=s.toks) (d':=s.drawn) (h':=h') (ch:=[z,TO,g,j]) (λb d=>?_) (λb l _ _ d e _=>G b l (f d).1 (f d).2.1 (f d).2.2.1 (f d).2.2.2 e) (λb l _ _ d e _=>⟨l.slots,G b l (f d).1 (f d).2.1 (f d).2.2.1 (f d).2.2.2 e⟩)
   (λ_ _ _ _ n=>n) (λb l d e=>⟨l,G b l (f d).1 (f d).2.1 (f d).2.2.1 (f d).2.2.2 e⟩) (λ_ _ e=>e) (λ_ _ _ e=>e) (λb ps e=>⟨#[],by rw[e];simp⟩) (λal hm=>?_) (λb u e=>?_) I.bare
  have:b=z\/b=TO\/b=g\/b=j:=(by simpa using d);rcases this with rfl|rfl|rfl|rfl;exact⟨m.2.2.2.1,m.2.1,m.2.2.2.2.1,m.2.2.2.2.2⟩;exact⟨t.2.2.2.1,t.2.1,t.2.2.2.2.1,t.2.2.2.2.2⟩;exact⟨p.2.2.2.1,p.2.1,p.2.2.2.2.1,p.2.2.2.2.2⟩;exact⟨r.2.2.2.1,r.2.1,r.2.2.2.2.1,r.2.2.2.2.2⟩;obtain⟨o,es,ep,ho,ab⟩:=hm;exact⟨o,es,ep,G _ o (Ne.symm m.2.1) (Ne.symm t.2.1) (Ne.symm p.2.1) (Ne.symm r.2.1) ho,ab⟩;refine(I.hok b u e).stay (λc v A q=>?_) (λ_ q=>q) λ_ _ q=>q
  have ag:∃O,H c=some O:=by
   rcases A with rfl|A;exact⟨_,e⟩;exact⟨_,A⟩
  obtain⟨O,Q⟩:=ag;exact G c v (AH Q m.1) (AH Q t.1) (AH Q p.1) (AH Q r.1) q
 self:=λ_ _ _ _ _ C h=>wpAny_pyIter_zip C.1 h
variable {g:TG}{D:Ends}
theorem Ve{K:Ah}{a b:Addr}{ys:List V}{tb:TS}(Pv:Nat->St->Hp->Prop)(j:Pv 0 σ H)(k:∀i σ H,Pv i σ H->Af K H a xs/\Af K H b ys)
 (l:∀i x y T σ H,xs[i]?=some x->ys[i]?=some y->H T=none->Pv i σ H->g (.ref T) σ (upd H T (.tup [x,y])) λσ2 c=>tb {D with nx:=Pv (i+1),ct:=Pv (i+1),bk:=D.nx} σ2 c) (hd:∀σ H,Pv (min xs.length ys.length) σ H->D.nx σ H) :
 ∃W:Nat->Nat->St->Hp->Prop,(∃m,W 0 m σ H)/\∀i m σ H,W i m σ H ->
  ((N4 K a b).stop i H/\D.nx σ H)\/((N4 K a b).go i H/\∃N:St->Hp->Prop,(∀σ' H',N σ' H'->∃h,h<m/\W (i+1) h σ' H')/\∀x H',(N4 K a b).yld i H x H'->g x σ H' λσ2 c=>tb {D with nx:=N,ct:=N,bk:=D.nx} σ2 c):=by
 refine⟨λi m σ H=>m=min xs.length ys.length-i/\i<=min xs.length ys.length/\Pv i σ H,⟨_,rfl,Ck _,j⟩,?_⟩;rintro i m σ H ⟨rfl,z,p⟩;obtain⟨d,f⟩:=k i σ H p;by_cases w:i<min xs.length ys.length;have n:i<xs.length:=(by omega);have o:i<ys.length:=(by omega);refine .inr ⟨⟨xs,ys,xs[i],ys[i],d,f,by simp[n],by simp[o]⟩,Pv (i+1),λσ' H' q=>⟨min xs.length ys.length-(i+1),by omega,rfl,w,q⟩,λv H' y=>?_⟩;obtain⟨T,x,r,s,rfl,rfl,t,u⟩:=y;exact l i x r T σ H (t xs d) (u ys f) s p;have e:i=min xs.length ys.length:=(by omega);refine .inl ⟨⟨xs,ys,d,f,by omega⟩,?_⟩;rw[e] at p;exact hd σ H p
def F0 (env:Env):List (Str×NameKind)->List (Str×Addr)->List (Str×Addr)
 |[],acc=>acc
 |(n,k)::r,acc=>if k==.free then F0 env r ((n,(env.cells.lookup n).getD 0)::acc) else F0 env r acc
theorem Sf{env:Env}(f:Str×NameKind->List (Str×Addr)->Sem (ForInStep (List (Str×Addr))))
 (d:∀n k g,f (n,k) g=if(k==NameKind.free)=true then(cellOf env n >>= λa=>pure (.yield ((n,a)::g))) else pure (.yield g)) :
 ∀(names:List (Str×NameKind))(acc:List (Str×Addr)),(∀x∈names,x.2=.free->∃c,env.cells.lookup x.1=some c)->forIn names acc f=pure (F0 env names acc)
 |[],acc,_=>by rw[List.forIn_nil];rfl
 |(n,k)::r,acc,h=>by
   rw[List.forIn_cons,d];unfold F0;by_cases b:(k==NameKind.free)=true;rw[Ak b,Ak b];obtain⟨c,j⟩:=h (n,k) Bz (beq_iff_eq.mp b);have e:cellOf env n=pure c:=by unfold cellOf;rw[j]
   rw[e,j];exact Sf f d r _ λx i=>h x (Cj _ i);rw[Aj b,Aj b];exact Sf f d r _ λx i=>h x (Cj _ i)
variable {scope:Scope}{env:Env}
theorem Vf(h:∀x∈scope.names,x.2=.free->∃c,env.cells.lookup x.1=some c):closureFor scope env=pure (F0 env scope.names []):=by
 simp only[closureFor];rw[Sf (env:=env) _ (λn k b=>by cases a:k==NameKind.free<;>simp[a]) scope.names [] h];rfl
theorem Pu{env:Env}:∀{names:List (Str×NameKind)}{acc:List (Str×Addr)}{x:Str}{c:Addr},(x,c)∈F0 env names acc->(x,c)∈acc\/((x,NameKind.free)∈names/\c=(env.cells.lookup x).getD 0)
 |[],_,_,_,h=>.inl h
 |(n,k)::r,acc,x,c,h=>by
   unfold F0 at h;by_cases a:(k==NameKind.free)=true;rw[Ak a] at h;rcases Pu h with h|⟨h,e⟩;rcases Ch.mp h with h|h;cases h;rw[beq_iff_eq.mp a];exact .inr ⟨Bz,rfl⟩;exact .inl h;exact .inr ⟨Cj _ h,e⟩;rw[Aj a] at h;rcases Pu h with h|⟨h,e⟩;exact .inl h;exact .inr ⟨Cj _ h,e⟩
theorem Sg{env:Env}:∀{names:List (Str×NameKind)}{acc:List (Str×Addr)}{p:Str×Addr},p∈acc->p∈F0 env names acc
 |[],_,_,h=>h
 |(n,k)::r,acc,p,h=>by
   unfold F0;by_cases a:(k==NameKind.free)=true;rw[Ak a];exact Sg (Cj _ h);rw[Aj a];exact Sg h
theorem N6{env:Env}:∀{names:List (Str×NameKind)}{acc:List (Str×Addr)}{x:Str},(x,NameKind.free)∈names->∃c,(x,c)∈F0 env names acc
 |(n,k)::r,acc,x,h=>by
   unfold F0;rcases Ch.mp h with h|h;cases h;rw[Ak (show(NameKind.free==NameKind.free)=true by rfl)];exact⟨_,Sg Bz⟩;by_cases a:(k==NameKind.free)=true;rw[Ak a];exact N6 h;rw[Aj a];exact N6 h
theorem M3{α:Type}:∀{l:List (Str×α)}{x:Str}{c:α},(x,c)∈l->∃a,l.lookup x=some a
 |(n,d)::r,x,c,h=>by
   rw[MM]
   cases b:x==n with
   |true=>exact⟨d,rfl⟩
   |false =>
     rcases Ch.mp h with h|h;cases h;simp at b;exact M3 h
theorem KC:∀(names:List (Str×NameKind))(n:Nat)(acc:List (Str×Addr)),cellsFrom n names acc=cellsFrom n names []++acc
 |[],_,_=>rfl
 |(x,k)::r,n,acc=>by
   unfold cellsFrom;by_cases a:(k==NameKind.cell)=true;rw[Ak a,Ak a,KC r (n+1) ((x,n)::acc),KC r (n+1) [(x,n)],FX];rfl;rw[Aj a,Aj a];exact KC r n acc
theorem Pw:∀{names:List (Str×NameKind)}{n:Nat}{acc:List (Str×Addr)}{x:Str}{c:Addr},(x,c)∈cellsFrom n names acc->(x,c)∈acc\/(x,NameKind.cell)∈names
 |[],_,_,_,_,h=>.inl h
 |(y,k)::r,n,acc,x,c,h=>by
   unfold cellsFrom at h;by_cases a:(k==NameKind.cell)=true;rw[Ak a] at h;rcases Pw h with h|h;rcases Ch.mp h with h|h;cases h;rw[beq_iff_eq.mp a];exact .inr Bz;exact .inl h;exact .inr (Cj _ h);rw[Aj a] at h;rcases Pw h with h|h;exact .inl h;exact .inr (Cj _ h)
section
variable {M:Model} {A:Around} {E:Value->Shared->Prop} {s:Shared}
theorem Yw{a:List (Str×Addr)}{Q:Env->Shared->Prop}
 (b:Q (newEnv scope s.heap.objs.size env.globals (cellsFrom (s.heap.objs.size+1) scope.names a) env.qual none .none (some env) builtinsNs) {s with heap:=pushCells (s.heap.push {cls:=.type "dict",data:=.dict #[]}) scope.names}) :
 wpAny M A (newFunctionEnv scope env.globals a [] env.qual none .none (some env)) Q E s:=by
 simp only[newFunctionEnv,Option.isSome_some,if_true];refine Ad (wpAny_alloc ?_);refine Ad (wpAny_layCells _ (λname d e=>by cases c:d==NameKind.cell<;>simp[c]) _ _ _ _ ?_)
 rw[show({s with heap:=s.heap.push {cls:=.type "dict",data:=.dict #[]}}:Shared).heap.objs.size=s.heap.objs.size+1 from Heap.size_push ..]
 exact Ad (Aw (Aw b))
end
abbrev EQ (X:Cx) (N:List Str) (scope:Scope) (cs:List (Str×Addr)) (C:Addr) (s:Shared) (H:Hp) (ex:List Addr):Cx where
 prog:=X.prog
 w:=X.w
 K:=X.K
 mg:=X.mg
 base:=X.base
 A:=X.A
 N:=N
 s₀:=s
 H₀:=H
 env:=compEnvC scope cs C X.env
 outer:=X.stack
 stack:=X.stack
 ex:=ex
 fn:=λx=>decide (scope.names.lookup x≠some .free)
 calm:=X.calm
 pn:=[]
 xe:=λ_ _=>False
structure At (psc:Scope) (PN:List Str) (scope:Scope) (N:List Str) (k:Nat) (caps:List Nat):Prop where
 kind:scope.kind=.function
 loc:∀x∈scope.names,x.2=.local->scope.names.lookup x.1=some .local
 ndn:(scope.names.map (·.1)).Nodup
 nd:N.Nodup
 len:N.length=k+caps.length
 free:∀x∈scope.names,x.2=.free->psc.names.lookup x.1=some .cell\/psc.names.lookup x.1=some .free
 cap:∀p∈(N.drop k).zip caps,PN[p.2]?=some p.1/\scope.names.lookup p.1=some .free
def EH (k:Nat) (caps:List Nat) (σ:St):St:=List.replicate k none++caps.map λj=>(σ[j]?).getD none
variable {caps:List Nat}{i:Nat}{v:V}
theorem Vg{k:Nat}(h:(EH k caps σ)[i]?=some (some v)):∃j,k<=i/\caps[i-k]?=some j/\σ[j]?=some (some v):=by
 unfold EH at h;by_cases b:i<k;rw[EJ (by simpa using b),List.getElem?_replicate,Ak b] at h;cases h;rw[EY (by simpa using b),List.length_replicate,Bh] at h
 cases e:caps[i-k]? with
 |none=>rw[e] at h;cases h
 |some j =>
   rw[e] at h;have a:(σ[j]?).getD none=some v:=Bv h;refine⟨j,by omega,rfl,?_⟩
   cases q:σ[j]? with
   |none=>rw[q] at a;cases a
   |some o=>rw[q] at a;exact BI some a
theorem Vh{a:NameKind}(h:(relabel scope env).names.lookup x=some a):∃k,(x,k)∈scope.names/\(a=k\/(k=.free/\a=.cell)):=by
 have e:=F8 h;have f:(x,a)∈scope.names.map (λ(n,k)=>if(k==NameKind.free && env.scope.kind==.function && env.kindOf n==some .cell) then(n,NameKind.cell) else(n,k)):=e;obtain⟨⟨n,k⟩,d,b⟩:=Bn.mp f;dsimp only at b
 by_cases c:(k==NameKind.free && env.scope.kind==.function && env.kindOf n==some .cell)=true;rw[Ak c] at b;cases b;simp only[Bool.and_eq_true,beq_iff_eq] at c;exact⟨k,d,.inr ⟨c.1.1,rfl⟩⟩;rw[Aj c] at b;cases b;exact⟨a,d,.inl rfl⟩
theorem Vi{f:Str×NameKind->Str×NameKind}(b:∀n k,f (n,k)=(n,k)\/(k=.free/\f (n,k)=(n,NameKind.cell))):∀{names:List (Str×NameKind)}{x:Str},names.lookup x=some .free->(names.map f).lookup x=some .cell\/(names.map f).lookup x=some .free
 |[],_,h=>by simp at h
 |(n,k)::r,x,h=>by
   have d:=@Vi f b r x;rw[MM] at h;rw[DN]
   cases a:x==n with
   |true =>
     rw[a] at h;cases h;rcases b n .free with e|⟨_,e⟩;right;rw[e,MM,a];left;rw[e,MM,a]
   |false =>
     rw[a] at h;have c:=d h;rcases b n k with e|⟨_,e⟩;rw[e,MM,a];exact c;rw[e,MM,a];exact c
theorem Vj(h:scope.names.lookup x=some .free):(relabel scope env).names.lookup x=some .cell\/(relabel scope env).names.lookup x=some .free:=by
 refine Vi (λn k=>?_) h;by_cases a:(k==NameKind.free && env.scope.kind==.function && env.kindOf n==some .cell)=true;right;refine⟨?_,Ak a⟩;simp only[Bool.and_eq_true,beq_iff_eq] at a;exact a.1.1;left;exact Aj a
theorem Px{names:List (Str×NameKind)}(h:(names.map (·.1)).Nodup){k d:NameKind}(a:(x,k)∈names)(b:(x,d)∈names):k=d:=by
 induction names with
 |nil=>simp at a
 |cons p r g =>
   rw[DN] at h;obtain⟨e,i⟩:=Go.mp h;rcases Ch.mp a with f|a<;>rcases Ch.mp b with c|b;rw[<-f] at c;exact(Prod.mk.inj c).2.symm;exact absurd (Bn.mpr ⟨_,b,by rw[<-f]⟩) e;exact absurd (Bn.mpr ⟨_,a,by rw[<-c]⟩) e;exact g i a b
variable {h1:Heap}{C:Addr}
theorem Un.but{fs ex:List Addr}{h f:Heap}(u:Un fs ex H H' h h1)(c:Heap.SameBut C h1 f)(g:h.objs.size<=C):Un fs ex H H' h f:=by
 have ne:∀b o,h.get? b=some o->b≠C:=λb o e=>CU (FH (A1 e) g);refine⟨λb o e n d a=>(c.2 b (ne b o e)).trans (u.keep b o e n d a),λb o e n d a=>?_,u.free,λb o e a=>?_,u.tups,u.frzs,u.tbls⟩;obtain⟨i,q⟩:=u.slot b o e n d a;exact⟨i,(c.2 b (ne b o e)).trans q⟩;obtain⟨j,q⟩:=u.there b o e a;exact⟨j,(c.2 b (ne b o e)).trans q⟩
theorem CW.but{d:Heap}(x:CW P w H h1)(g:Heap.SameBut C h1 d)(f:H C=none):CW P w H d:=λb u e=>by
 refine(x b u e).stay (λc v a q=>(g.2 c ?_).trans q) (λ_ q=>q) λ_ _ q=>q;rintro rfl;rcases a with rfl|a;rw[f] at e;cases e;rw[f] at a;cases a
section
variable {X:Cx} {scope:Scope} {N:List Str} {k:Nat} {caps:List Nat} {psc:Scope} {PN:List Str} {pins:List (Addr×Obj)} {σ:St} {H:Hp} {s:Shared}
abbrev DU (X:Cx) (scope:Scope) (C:Addr):List (Str×Addr):=cellsFrom (C+1) scope.names (F0 X.env scope.names [])
theorem Vk(I:Inv X pins σ H s)(S:At X.env.scope X.N scope N k caps){c:Addr}(h:(x,c)∈DU X scope C) :
 (x,c)∈cellsFrom (C+1) scope.names []\/X.env.cells.lookup x=some c:=by
 unfold DU at h;rw[KC] at h;rcases BF.mp h with h|h;exact .inl h;rcases Pu h with h|⟨h,e⟩;simp at h;obtain⟨b,a⟩:=I.ok.has x (S.free _ h rfl);rw[a] at e;exact .inr (by rw[a];exact BI some e.symm)
theorem Yx{t:List Addr}(I:Inv X pins σ H s)(S:At X.env.scope X.N scope N k caps)(B:∀b∈t,Ec X pins H b)(ae:∀b∈t,∃o,s.heap.get? b=some o){D C:Nat}{t':Nat}(g:D=s.heap.objs.size)(J:C=D+1)
 (E:h1=pushCells ((s.heap.push {cls:=.type "list",data:=.seq #[]}).push {cls:=.type "dict",data:=.dict #[]}) scope.names) :
 Inv (EQ X N scope (DU X scope C) C s H t) [] (EH k caps σ) (upd H D (.lst [])) {s with heap:=h1,toks:=t'}:=by
 have Z:(s.heap.push {cls:=.type "list",data:=.seq #[]}).objs.size=C:=(by rw[Heap.size_push,J,g]);have aa:((s.heap.push {cls:=.type "list",data:=.seq #[]}).push {cls:=.type "dict",data:=.dict #[]}).objs.size=C+1:=(by rw[Heap.size_push,Z])
 have G:∀b o,s.heap.get? b=some o->h1.get? b=some o:=λb o e=>by
  rw[E];exact pushCells_keeps _ _ b o (Ba _ (Ba _ e))
 have ak:h1.get? D=some {cls:=.type "list",data:=.seq #[]}:=by
  rw[E,g];exact pushCells_keeps _ _ _ _ (Ba _ (B8 _ rfl))
 have af:h1.Ns C (λ_=>none):=by
  rw[E,<-Z];exact(Heap.Ns.new _ (.type "dict")).keeps (pushCells_keeps _ _)
 have ok:=cellsFrom_ok scope.names ((s.heap.push {cls:=.type "list",data:=.seq #[]}).push {cls:=.type "dict",data:=.dict #[]}) (C+1) [] ⟨λ_ _ d=>(nomatch d),List.Pairwise.nil⟩ (by rw[aa];exact AB _);rw[aa] at ok;have own:∀x c,(x,c)∈cellsFrom (C+1) scope.names []->h1.IsCell c none/\C+1<=c:=λx c h=>by rw[E];exact ok.empty x c h
 have P:∀x c,X.env.cells.lookup x=some c->c<D:=λx c e=>by
  obtain⟨v,q⟩:=I.cell x c e;rw[g];exact q.lt
 have Y:∀b∈t,b<D:=λb f=>by
  obtain⟨o,e⟩:=ae b f;rw[g];exact A1 e
 have ao:H C=none:=I.hok.fresh (by rw[J,g];exact Nat.le_succ _);have split:=λx c(h:(DU X scope C).lookup x=some c)=>Vk (C:=C) I S (F8 h);have T:∀b,b≠D->H b=none->(upd H D (.lst [])) b=none:=λb f e=>by rw[AD f];exact e
 have al:∀x,scope.names.lookup x=some .free->∃c,X.env.cells.lookup x=some c/\(DU X scope C).lookup x=some c:=λx w=>by
  have d:=F8 w;obtain⟨F,K⟩:=N6 (env:=X.env) (acc:=[]) d;obtain⟨c,U⟩:=M3 (l:=DU X scope C) (x:=x) (c:=F) (by unfold DU;rw[KC];exact De _ K);refine⟨c,?_,U⟩;rcases split x c U with q|q;rcases Pw q with z|z;simp at z;have:=Px S.ndn d z;cases this;exact q
 have ag:(EQ X N scope (DU X scope C) C s H t).Ok:=by
  refine⟨I.ok.mod,S.kind,I.ok.glob,I.ok.blt,?above,?inj,?has,?cab,I.ok.hd,I.ok.frames,.inl rfl,?exf,λb o e=>I.bs b o e,El I.ok.bsz I.sz,?noex,?exfs,I.stack,I.stkFree⟩
  case above =>
   show s.heap.objs.size<=C;rw[J,g];exact Nat.le_succ _
  case inj =>
   intro x y c L M;rcases split x c L with n|n<;>rcases split y c M with r|r;exact name_of_addr ok.apart n r;have h1:@LE.le Nat _ (C+1) c:=(own x c n).2;have a:@LT.lt Nat _ c D:=P y c r;exfalso;omega;have h1:@LE.le Nat _ (C+1) c:=(own y c r).2;have a:@LT.lt Nat _ c D:=P x c n;exfalso;omega;exact I.ok.inj x y c n r
  case has =>
   intro x w;have Q:(relabel scope X.env).names.lookup x=some .cell\/(relabel scope X.env).names.lookup x=some .free:=w
   have p:∃m,(x,m)∈scope.names/\(m=.cell\/m=.free):=by
    rcases Q with q|q;obtain⟨m,h1,a⟩:=Vh q;rcases a with a|⟨a,_⟩;exact⟨m,h1,.inl a.symm⟩;exact⟨m,h1,.inr a⟩;obtain⟨m,h1,a⟩:=Vh q;rcases a with a|⟨_,a⟩;exact⟨m,h1,.inr a.symm⟩;cases a
   obtain⟨m,d,p|p⟩:=p;subst p
   have q:=PySem.W.cellsFrom_some scope.names (C+1) (F0 X.env scope.names []) (x:=x) (.inl (by
    obtain⟨k2,A⟩:=M3 d
    rw[A,Px S.ndn (F8 A) d]))
   exact Option.isSome_iff_exists.mp q;subst p;obtain⟨F,K⟩:=N6 (env:=X.env) (acc:=[]) d;exact M3 (c:=F) (by show(x,F)∈DU X scope C;unfold DU;rw[KC];exact De _ K)
  case cab =>
   intro x c w e;have Q:decide (scope.names.lookup x≠some .free)=true:=w;have ah:=Bi Q;show s.heap.objs.size<=c;have e':(DU X scope C).lookup x=some c:=e;have d:=F8 e';unfold DU at d;rw[KC] at d;rcases BF.mp d with z|z;have h1:@LE.le Nat _ (C+1) c:=(own x c z).2;have a:@LE.le Nat _ s.heap.objs.size c:=(by omega);exact a;rcases Pu z with z|⟨z,_⟩;simp at z;obtain⟨k2,A⟩:=M3 z;exact absurd (by rw[A,Px S.ndn (F8 A) z]) ah
  case exf =>
   intro b f;refine⟨?_,λx c e z=>?_⟩;have h1:@LT.lt Nat _ b D:=Y b f;exact CU (show @LT.lt Nat _ b C by omega);rcases split x c e with q|q;have h1:@LE.le Nat _ (C+1) c:=(own x c q).2;have a:@LT.lt Nat _ b D:=Y b f;have V:@Eq Nat c b:=z;omega;exact(B b f).2.2.2.2.1 x c q z
  case noex =>
   intro b o e f;rcases(B b f).2.2.2.1 with q|q;exact I.ok.noex b o e q;exact absurd (FH (A1 e) (El I.ok.bsz q)) (F7 _)
  case exfs =>
   intro b f z;have V:b∈E2 X.stack:=z;rcases Ch.mp (I.stkSub b V) with q|q;exact(B b f).2.1 q;exact(B b f).2.2.1 q
 refine⟨ag,rfl,I.bare,Un.laid G (by rw[g];exact AB _) (I.hok.fresh (by rw[g];exact AB _)),⟨_,af,?loc⟩,?cell,T _ (show @Ne Nat C D by omega) ao,?freeC,λaq O=>absurd O (by simp),?hok,?len⟩
 case loc =>
  intro i x v L M e3;obtain⟨j,hi,hj,hv⟩:=Vg M
  have hz:(x,j)∈(N.drop k).zip caps:=by
   refine List.mem_iff_getElem?.mpr ⟨i-k,?_⟩;rw[List.getElem?_zip_eq_some];refine⟨?_,hj⟩;rw[List.getElem?_drop,show k+(i-k)=i by omega];exact L
  obtain⟨O,R⟩:=S.cap (x,j) hz;have p:=S.free (x,.free) (F8 R) rfl;obtain⟨ar,hn,hl⟩:=I.loc;obtain⟨u,ab,l⟩:=hl j x v O hv (by rcases p with q|q;exact .inr (.inl q);exact .inr (.inr q));refine⟨u,ab,?_⟩;obtain⟨c,ai,aj⟩:=al x R
  have an:s.heap.IsCell c (some u):=by
   rcases l with⟨q,_⟩|⟨_,c',n,r⟩;have W:X.env.scope.names.lookup x=some .local:=q;rcases p with z|z;rw[W] at z;cases z;rw[W] at z;cases z;rw[ai] at n;cases n;exact r
  exact .inr ⟨Vj R,c,aj,an.keeps G⟩
 case cell =>
  intro x c e;rcases split x c e with q|q;exact⟨_,(own x c q).1⟩;obtain⟨v,z⟩:=I.cell x c q;exact⟨v,z.keeps G⟩
 case freeC =>
  intro x c e;rcases split x c e with q|q;have h1:@LE.le Nat _ (C+1) c:=(own x c q).2;have a:@LE.le Nat _ s.heap.objs.size c:=(by omega);exact T c (show @Ne Nat c D by omega) (I.hok.fresh a);exact T c (CU (P x c q)) (I.freeC x c q)
 case hok =>
  exact I.hok.laid G (by rw[g];exact AB _) ⟨Ck _,[],0,.nil,ak⟩
 case len =>
  show(EH k caps σ).length=N.length;unfold EH;rw[AV,List.length_replicate,Al,S.len]
theorem Yy{a:List Addr}(I:Inv X pins σ H s)(S:At X.env.scope X.N scope N k caps){p:List (Addr×Obj)}{σ':St}{Z:Shared}(P:∀x c,X.env.cells.lookup x=some c->c∉a)(T:s.heap.objs.size<=C)
 (J:Inv (EQ X N scope (DU X scope C) C s H a) p σ' H' Z):Inv (EQ X N scope (DU X scope C) C s H a) p (EH k caps σ) H' Z:=by
 obtain⟨m,t,_⟩:=id J.loc;refine⟨J.ok,J.os,J.bare,J.base,⟨m,t,λi x v w y U=>?_⟩,J.cell,J.free,J.freeC,J.pin,J.hok,?_⟩;obtain⟨j,V,A,B⟩:=Vg y
 have D:(x,j)∈(N.drop k).zip caps:=by
  refine List.mem_iff_getElem?.mpr ⟨i-k,?_⟩;rw[List.getElem?_zip_eq_some];refine⟨?_,A⟩;rw[List.getElem?_drop,show k+(i-k)=i by omega];exact w
 obtain⟨E,b⟩:=S.cap (x,j) D;have e:=S.free (x,.free) (F8 b) rfl;obtain⟨W,aa,F⟩:=I.loc;obtain⟨u,r,l⟩:=F j x v E B (by rcases e with q|q;exact .inr (.inl q);exact .inr (.inr q));refine⟨u,r,?_⟩
 have R:∃c,X.env.cells.lookup x=some c/\s.heap.IsCell c (some u):=by
  rcases l with⟨q,_⟩|⟨_,f,G,K⟩;have g:X.env.scope.names.lookup x=some .local:=q;rcases e with z|z;rw[g] at z;cases z;rw[g] at z;cases z;exact⟨f,G,K⟩
 obtain⟨c,d,o,L,hd⟩:=R
 have Q:(DU X scope C).lookup x=some c:=by
  have h:=F8 b;obtain⟨M,O⟩:=N6 (env:=X.env) (acc:=[]) h;obtain⟨f,n⟩:=M3 (l:=DU X scope C) (x:=x) (c:=M) (by unfold DU;rw[KC];exact De _ O);rcases Vk (C:=C) I S (F8 n) with q|q;rcases Pw q with z|z;simp at z;have:=Px S.ndn h z;cases this;rw[d] at q;cases q;exact n
 obtain⟨Y,q⟩:=J.base.any L (I.freeC x c d) (P x c d);exact .inr ⟨Vj b,c,Q,_,q,hd⟩;show(EH k caps σ).length=N.length;unfold EH;rw[AV,List.length_replicate,Al,S.len]
end
def PF (X:Cx) (f:List Expr) (t:TT):Prop:=
 ∀(pins:List (Addr×Obj))(s:Shared)(σ:St)(H:Hp)(Q:Bool->Hp->Prop),Inv X pins σ H s->t σ H Q ->
  wpAny (model X.prog X.w) X.A (forIn f true λc r=>if r=true then do let ok <-isTrue c X.env (eval c X.env);pure (ForInStep.yield ok) else pure (ForInStep.yield r)) (TP X pins σ Q) X.xe s
def Hy:TT:=λ_ H Q=>Q true H
theorem Hz:PF X [] Hy:=λ_ _ _ H _ I h=>wpAny_tests_nil ⟨H,I,h⟩
theorem Py{c:Expr}{t:TT}(h:PT X c t):PF X [c] t:=λpins s σ H Q I a=>wpAny_tests_one (h pins s σ H Q I a)
variable {l j:Expr}{f:List Expr}
theorem Yz{prog:Program}{R:Result->Shared->Prop}{target:Expr}{d acc:Value}(I:Nat->Shared->Prop)
 (turn:∀n s,I n s->wpAny (model prog w) A (pyNext d) (λr b=>match r with
  |none=>R (.ok .next) b
  |some v=>wpAny (model prog w) A (letOwnedTupleGo target d v) (λ_ b=>wpAny (model prog w) A (assign target env v) (λ_ i =>
   wpAny (model prog w) A (forIn f true λc r=>if r=true then do let ok <-isTrue c env (eval c env);pure (ForInStep.yield ok) else pure (ForInStep.yield r)) (λok g =>
    if ok=true then wpAny (model prog w) A (eval l env) (λx k =>
     wpAny (model prog w) A (call (.builtin "list.append") [acc,x]) (λ_ o=>∃m,m<n/\I m o) (λ_ _=>False) k) (λ_ _=>False) g
    else ∃m,m<n/\I m g) (λ_ _=>False) i) (λ_ _=>False) b) (λ_ _=>False) b) (λ_ _=>False) s)
 (n:Nat) (h:I n s) :
 codeAny (model prog w) A (.compLoop (.ListComp l [⟨target,j,f,0⟩] scope L) 0 d acc env) R s:=by
 refine codeAny_loop rfl I (λn s q=>?_) n h
 show wpAny _ A ((compTurn (.ListComp l [⟨target,j,f,0⟩] scope L) 0 d acc env).onRaise (λx=>do noteFrame x env;theTreesLotGoes x)) _ _ s
 refine wpAny_noted ?_;rw[compTurn_list];refine Ad (wpAny_standAt (Ad (FJ (turn n s q) (λr b e=>?_) λ_ _ a=>a.elim)))
 cases r with
 |none=>exact Aw e
 |some v =>
   refine Ad (FJ e (λ_ b e=>?_) λ_ _ a=>a.elim);refine Ad (FJ e (λ_ i t=>Ad (FJ t (λok g p=>?_) λ_ _ a=>a.elim)) λ_ _ a=>a.elim)
   cases ok with
   |false=>exact Aw ⟨rfl,p⟩
   |true =>
     exact Ad (Ad (FJ p (λx k u=>Ad (FJ u (λ_ o y=>Aw (Aw ⟨rfl,y⟩)) λ_ _ a=>a.elim)) λ_ _ a=>a.elim))
def KD (k:Nat) (caps:List Nat) (wi:TI) (g:TG) (tc:TT) (te:TE):TE:=λσ H Q=>wi σ H λJ Y=>∀D,Y D=none->∃W:Nat->Nat->List V->Hp->Prop,(∃m,W 0 m [] (upd Y D (.lst [])))/\∀i m ys H2,W i m ys H2 ->
 (J.stop i H2/\Q (.ref D) H2)\/(J.go i H2/\∀x H3,J.yld i H2 x H3->g x (EH k caps σ) H3 λσ4 H4=>tc σ4 H4 λb H5 =>
  if b=true then te σ4 H5 λy H6=>H6 D=some (.lst ys)/\ys.length<sizeLine/\∃m',m'<m/\W (i+1) m' (ys++[y]) (upd H6 D (.lst (ys++[y]))) else ∃m',m'<m/\W (i+1) m' ys H5)
variable {tg:Expr}{N:List Str}{tc:TT}{te:TE}
theorem Vl{k:Nat}{E:Value->Shared->Prop}{Q:VK}
 {it:Addr} {d:List Addr} {G:Nat->Heap->Prop} {J:It} {R:Value->Addr->Result->Shared->Prop} (hc:X.calm=true) (S:At X.env.scope X.N scope N k caps) (I:Inv X pins σ H s)
 (T:Fl X.prog X.w X.K tg J d it G) (st:G 0 s.heap) (r:∀b∈d,Ec X pins H b)
 (hg:∀K C s H ex,PG (EQ X N scope K C s H ex) tg g) (ht:∀K C s H ex,PF (EQ X N scope K C s H ex) f tc) (he:∀K C s H ex,PE (EQ X N scope K C s H ex) l te)
 (q:∀D,H D=none->∃W:Nat->Nat->List V->Hp->Prop,(∃m,W 0 m [] (upd H D (.lst [])))/\∀i m ys M,W i m ys M ->
  (J.stop i M/\Q (.ref D) M)\/(J.go i M/\∀x t,J.yld i M x t->g x (EH k caps σ) t λσ4 H4=>tc σ4 H4 λb O =>
   if b=true then te σ4 O λy U=>U D=some (.lst ys)/\ys.length<sizeLine/\∃h,h<m/\W (i+1) h (ys++[y]) (upd U D (.lst (ys++[y]))) else ∃h,h<m/\W (i+1) h ys O))
 (an:∀D C H' Z m,C≠X.env.locals->(∀x c,X.env.cells.lookup x=some c->c≠C)->Z.heap.Ns C m->(∀h',Heap.SameBut C Z.heap h'->Inv X pins σ H' {Z with heap:=h'})->H' C=none->s.heap.objs.size<=C->Q (.ref D) H'->R (.ref D) C (.ok .next) Z) :
 wpAny (model X.prog X.w) X.A (newList []) (λacc s₃=>wpAny (model X.prog X.w) X.A (newFunctionEnv scope X.env.globals (F0 X.env scope.names []) [] X.env.qual none .none (some X.env)) (λai s₄ =>
  codeAny (model X.prog X.w) X.A (.compStart (.ListComp l [⟨tg,j,f,0⟩] scope L) 0 (.ref it) acc {ai with scope:=relabel scope X.env}) (R acc ai.locals) s₄) E s₃) E s:=by
 refine wpAny_newObj_type (Yw ?_);generalize p:s.heap.objs.size=D;have a0:(s.heap.push {cls:=.type "list",dict:=none,data:=.seq ([]:List Value).toArray}).objs.size=D+1:=(by rw[Heap.size_push,p]);dsimp only;rw[a0];have aa:∀b∈d,∃o,s.heap.get? b=some o:=λb a=>let ⟨o,e,_⟩:=T.obj 0 _ st b a;⟨o,e⟩;have ao:H D=none:=I.hok.fresh (by rw[p];exact AB _);have J0:=Yx (t':=s.toks) I S r aa (D:=D) (C:=D+1) p.symm rfl rfl;have aq:∀x c,X.env.cells.lookup x=some c->c∉d:=λx c e a=>(r c a).2.2.2.2.1 x c e rfl
 have ab:∀{F:List (Addr×Obj)}{H':Hp},(∀b∈d,H' b=none)->F=[]->∀b∈d,Ec (EQ X N scope (DU X scope (D+1)) (D+1) s H d) F H' b:=λ{F H'}hn hp b a=>by
  obtain⟨o,e⟩:=aa b a;have ar:@LT.lt Nat _ b D:=by rw[<-p];exact A1 e
  subst hp;refine⟨hn b a,?_,λz=>?_,.inl a,λx c e=>(J0.ok.exf b a).2 x c e,λa1 hp=>absurd hp (by simp)⟩;show @Ne Nat b (D+1);omega;have z':b∈E2 X.stack:=z;rcases Ch.mp (I.stkSub b z') with w|w;exact(r b a).2.1 w;exact(r b a).2.2.1 w
 obtain⟨W,⟨m0,w0⟩,turn⟩:=q D ao;have af:G 0 (pushCells ((s.heap.push {cls:=.type "list",data:=.seq #[]}).push {cls:=.type "dict",data:=.dict #[]}) scope.names):=T.keep 0 _ _ st λb a o e=>pushCells_keeps _ _ b o (Ba _ (Ba _ e))
 have au:∀b∈d,(upd H D (.lst [])) b=none:=λb a=>by
  obtain⟨o,e⟩:=aa b a;have ar:@LT.lt Nat _ b D:=by rw[<-p];exact A1 e
  rw[AD (show @Ne Nat b D by omega)];exact(r b a).1
 have av:∀{H':Hp}{Z:Shared}{σ':St}{F:List (Addr×Obj)},Inv (EQ X N scope (DU X scope (D+1)) (D+1) s H d) F σ' H' Z->Q (.ref D) H'->R (.ref D) (D+1) (.ok .next) Z:=λ{H' Z σ' F}J q=>by
  obtain⟨m,hn,_⟩:=id J.loc;refine an D (D+1) H' Z m (λz=>?_) (λx c e z=>?_) hn (λh' hs=>?_) J.free (by rw[p];exact Nat.le_succ _) q;have h1:@LT.lt Nat _ X.env.locals D:=by rw[<-p];exact I.lt
  have z':@Eq Nat (D+1) X.env.locals:=z;omega;obtain⟨v,y⟩:=I.cell x c e;have h1:@LT.lt Nat _ c D:=by rw[<-p];exact y.lt
  have z':@Eq Nat c (D+1):=z;omega;refine I.call' (ch:=d) J.os (J.base.but hs (by rw[p];exact Nat.le_succ _)) (J.hok.but hs J.free) J.bare λb a=>?_;exact⟨(r b a).2.2.2.1,(r b a).2.1,(r b a).2.2.2.2.1,(r b a).2.2.2.2.2⟩
 have aj:codeAny (model X.prog X.w) X.A (.compLoop (.ListComp l [⟨tg,j,f,0⟩] scope L) 0 (.ref it) (.ref D) (compEnvC scope (DU X scope (D+1)) (D+1) X.env)) (R (.ref D) (D+1))
  {s with heap:=pushCells ((s.heap.push {cls:=.type "list",data:=.seq #[]}).push {cls:=.type "dict",data:=.dict #[]}) scope.names}:=by
  refine Yz (λn Z=>∃i ys H',Inv (EQ X N scope (DU X scope (D+1)) (D+1) s H d) [] (EH k caps σ) H' Z/\G i Z.heap/\(∀b∈d,H' b=none)/\W i n ys H') ?_ m0 ⟨0,[],_,J0,af,au,w0⟩;rintro n s3 ⟨i,ys,t,I3,ag,ah,w3⟩;rcases turn i n ys t w3 with⟨stop,qn⟩|⟨go,step⟩
  . refine AW (T.done (EQ X N scope (DU X scope (D+1)) (D+1) s H d) rfl rfl rfl hc i [] s3 _ t _ I3 (ab ah rfl) ag stop) λak s4⟨hr,I4⟩=>?_
    subst hr;exact av I4 qn
  refine AW (T.item (EQ X N scope (DU X scope (D+1)) (D+1) s H d) rfl rfl rfl hc i [] s3 _ t _ I3 (ab ah rfl) ag go) λak s4⟨al,hr,h4⟩=>?_;subst hr;refine AW h4 λ_ s5⟨x,O,I5,r5,y5,ae,aw⟩=>?_;have ax:=I5.pinned (ab aw rfl) (T.obj _ _ ae)
  have again:∀{σ7:St}{u:Hp}{A:Shared}{h:Nat}{zs:List V},Inv (EQ X N scope (DU X scope (D+1)) (D+1) s H d) ([]++NM d s5.heap) σ7 u A->h<n->W (i+1) h zs u ->
   ∃m,m<n/\∃i ys H',Inv (EQ X N scope (DU X scope (D+1)) (D+1) s H d) [] (EH k caps σ) H' A/\G i A.heap/\(∀b∈d,H' b=none)/\W i m ys H':=λ{σ7 u A h zs}B P w7=>by
   refine⟨h,P,i+1,zs,u,Yy I S aq (by rw[p];exact Nat.le_succ _) B.unpinned,T.keep _ _ _ ae λb a o e=>(B.pin (b,o) (De _ (De _ (Ph a e)))).1,λb a=>?_,w7⟩;obtain⟨o,e,a2⟩:=T.obj _ _ ae b a;exact(B.pin (b,o) (De _ (De _ (Ph a e)))).2.1
  refine AW (hg _ _ _ _ _ _ s5 _ O x al _ ax r5 (step x O y5)) λ_ s6⟨σ6,U,I6,q6⟩=>?_;refine AW (ht _ _ _ _ _ _ s6 σ6 U _ I6 q6) λb A⟨u,B,Y⟩=>?_
  cases b with
  |false =>
    rw[Aj Cv] at Y ⊢;obtain⟨h,P,w7⟩:=Y;exact again B P w7
  |true =>
    rw[Ak rfl] at Y ⊢;refine AW (he _ _ _ _ _ _ A σ6 u _ B Y) λy s8⟨yv,H8,I8,r8,ay,az,h,P,w8⟩=>?_;refine AW (U4 (X:=EQ X N scope (DU X scope (D+1)) (D+1) s H d) _ s8 σ6 H8 (.ref D) [yv] (.ref D) [y] (λ_ H9=>W (i+1) h (ys++[yv]) H9) I8 rfl (.cons r8 .nil) ⟨ys,ay,az,w8⟩) λ_ s9⟨_,H9,I9,_,w9⟩=>?_;exact again I9 P w9
 exact codeAny_compStart_list aj (T.self _ 0 _ _ _ af aj)
theorem G4{k:Nat}{b:TI}(c:X.calm=true)(S:At X.env.scope X.N scope N k caps)(d:PI X tg j b)
 (i:∀a C s H ex,PG (EQ X N scope a C s H ex) tg g) (n:∀a C s H ex,PF (EQ X N scope a C s H ex) f tc) (o:∀a C s H ex,PE (EQ X N scope a C s H ex) l te)
 (p:∀x,foldedSetIterable j X.env x=pure x:=by intro _;rfl):PE X (.ListComp l [⟨tg,j,f,0⟩] scope L) (KD k caps b g tc te):=by
 intro pins s σ H Q I h;have E:closureFor scope X.env=pure (F0 X.env scope.names []):=Vf λx r F=>I.ok.has x.1 (S.free x r F);rw[eval_ListComp];refine wpAny_comprehension_free (use:=none) rfl p E S.kind S.loc (AW (d pins s σ H _ I h) λv M h1=>AW h1 λW O t=>?_);obtain⟨P,R,U,J,V,e,u,T,G,w,q⟩:=t;subst e;refine Vl (Q:=Q) c S u T G w i n o q ?_;intro D C H' Z m _ _ y z _ _ A;exact⟨m,y,λB K=>⟨.ref D,H',z B K,rfl,A⟩⟩
theorem Sh{E:Pos}{k:Nat}{t:Pos}{u:TI}(F:X.N.Nodup)(aa:X.N[i]?=some x)(n:Loc X.env.scope x)
 (G:X.calm=true) (S:At X.env.scope X.N scope N k caps) (J:PI X tg j u)
 (K:∀c C s H ex,PG (EQ X N scope c C s H ex) tg g) (M:∀c C s H ex,PF (EQ X N scope c C s H ex) f tc) (O:∀c C s H ex,PE (EQ X N scope c C s H ex) l te)
 (ab:swapsWith (.ListComp l [⟨tg,j,f,0⟩] scope L) (some (.Name x t)) E.line X.env=pure true:=by rfl)
 (P:∀x,foldedSetIterable j X.env x=pure x:=by intro _;rfl) (ae:X.fn x=true\/X.env.scope.names.lookup x=some .local:=by first|exact .inl rfl|exact .inr rfl|assumption) :
 PS X (.Assign [.Name x t] (.ListComp l [⟨tg,j,f,0⟩] scope L) E) (I7 (KD k caps u g tc te) (Kv i)):=by
 intro pins s σ H D I h;have af:closureFor scope X.env=pure (F0 X.env scope.names []):=Vf λx n ag=>I.ok.has x.1 (S.free x n ag);rw[exec_Assign_Name_used _ _ _ _ ab];refine Ad (wpAny_standAt (Ad ?_))
 show wpAny _ _ (do let _ <-comprehension (.ListComp l [⟨tg,j,f,0⟩] scope L) scope X.env _ (newList []) false (eval j X.env) (some (assign (.Name x t) X.env))) _ _ s
 refine Ad (FJ (wpAny_comprehension_free (use:=some (assign (.Name x t) X.env)) (Q:=λ_ Z=>SP X pins D .next Z) rfl P af S.kind S.loc
  (AW (J pins s σ H _ I h) λv s1 h1=>AW h1 λau s2 R=>?_)) (λ_ Z o=>Aw (Aw o)) λ_ _ e=>e)
 obtain⟨it,fp,tn,aq,H2,e,r,T,ah,U,q⟩:=R;subst e;refine Vl (Q:=λx Y=>Kv i x σ Y D.nx) G S r T ah U K M O q ?_;intro w C H' Z m y A W hI ai B o;have I3:=hI Z.heap (.refl ..);have aj:Inv X pins σ H' Z:=I3;refine wpAny_assign_Name (UD aj F aa n (show RelV (V.ref w) (.ref w) from rfl) (λak I4⟨a,al,d⟩=>?_) ae)
 have an:C≠a:=by
  rcases d with d|d;rw[d];exact y;exact Ne.symm (A x a d)
 refine⟨m,W.sameBut al an,λh' ao=>?_⟩;refine⟨_,H',?_,o⟩
 exact I4.turned (t':=ak.toks) (λb ar hb e=>(ao.2 b hb).trans e) ai y (.inr (El r.sz B)) A λp hp z=>by
  have:=A1 (r.pin p hp).1;rw[z] at this;exact absurd (FH this B) (F7 _)
def BG (P:Program) (w:World) (K:Ah) (mg:Str->Option Value) (base:Heap) (x:Str) (k:Nat) (ps:List Str) (sp:Sp):Prop:=
 ∃f fd,Et P w K mg base IH k f fd ps sp/\mg x=some (.ref f)/\PySem.W.keepIn K (.ref f)=true/\Binds K fd ps []
section
variable {X:Cx} {x:Str} {k:Nat} {ps:List Str} {sp:Sp} {e:Expr} {es:List Expr} {t:TA} {p L:Pos}
theorem A6(C:BG X.prog X.w X.K X.mg X.base x k ps sp)(a:PA X (e::es) t)(b:B2 k X.A:=by exact B2.mono (by assumption) (by decide))(c:Gl X x:=by rfl)(j:(x==("__debug__" : Str))=false:=by decide)
 (d:starEach (e::es) X.env=(false,eval e X.env)::starEach es X.env:=by rfl) (l:(backTo L (starEach es X.env)).any (·.1)=false:=by rfl):PE X (.Call (.Name x p) (e::es) [] L) (Pp sp [] E0 t):=by
 obtain⟨f,fd,F,g,h,i⟩:=C;exact Je F b c g h i .nil N2 a j d l
end
theorem Jq(n:String)(a:Gl X x)(b:X.mg x=none)(hv:bootBuiltins x=some (.type n))(c:x ≠ "__name__" :=by decide)(hd:(x==("__debug__" : Str))=false:=by decide):PE X (.Name x L) (tC (.ty n)):=IZ (v:=.ty n) a b hv rfl c hd
theorem HA{t u:TS}{σ:L2.St}(P:L2.St->Hp->Prop)(a:∀σ' H',P σ' H'->u D σ' H')(b:∀N:L2.St->Hp->Prop,(∀σ' H',P σ' H'->N σ' H')->t {D with nx:=N} σ H):La t u D σ H:=b (u D) a
theorem Ac.upd{H H':Hp}{D:Addr}{o:HO}(h:Ac H H')(a:H D=none):Ac H (upd H' D o):=λb u e=>by
 rw[AD (AH e a)];exact h b u e
theorem Ac.seqT{K:Ah}(e:Ac H H')(h:Aq K H a xs):Aq K H' a xs:=by
 rcases h with(h|⟨o,h⟩)|h;exact .inl (.inl (e _ _ h));exact .inl (.inr ⟨o,e _ _ h⟩);exact .inr h
theorem Si{K:Ah}{k:Nat}{Y:Hp}{Q:Addr->Hp->Prop}(f:V->V)(z:xs.length<=sizeLine)(v:Af K Y a xs)
 (w:∀(i:Nat)(x:V)(c:Hp)(D:Addr)(R:VK),xs[i]?=some x->Ac Y c->Y D=none->(∀d,Ac c d->R (f x) d)->g x (EH k caps σ) c λσ4 j=>te σ4 j R)
 (hd:∀(c:Hp)(D:Addr),Ac Y c->Y D=none->c D=some (.lst (xs.map f))->Q D c) :
 ∀D,Y D=none->∃W:Nat->Nat->List V->Hp->Prop,(∃m,W 0 m [] (upd Y D (.lst [])))/\∀i m ys c,W i m ys c ->
  ((Gx K a).stop i c/\Q D c)\/((Gx K a).go i c/\∀x d,(Gx K a).yld i c x d->g x (EH k caps σ) d λσ4 j=>Hy σ4 j λb q =>
   if b=true then te σ4 q λy r=>r D=some (.lst ys)/\ys.length<sizeLine/\∃h,h<m/\W (i+1) h (ys++[y]) (upd r D (.lst (ys++[y]))) else ∃h,h<m/\W (i+1) h ys q):=by
 intro D l;refine⟨λi m ys c=>m=xs.length-i/\i<=xs.length/\ys=(xs.take i).map f/\Ac Y c/\c D=some (.lst ys),⟨xs.length,rfl,Ck _,rfl,(Ac.refl _).upd l,Aa⟩,?_⟩;rintro i m ys c ⟨rfl,A,rfl,n,o⟩;have p:=n.seq v;by_cases u:i<xs.length;refine .inr ⟨⟨xs,xs[i],p,by simp[u]⟩,λx d y=>?_⟩;obtain⟨rfl,y⟩:=y;have s:=y xs p;refine w i x d D _ s n l λj t=>?_;refine⟨t _ _ o,by rw[Al,FG];omega,xs.length-(i+1),by omega,rfl,u,?_,(n.trans t).upd l,Aa⟩;rw[DS,s,Bk];rfl;have e:i=xs.length:=(by omega);subst e;rw[Ei] at o;exact .inl ⟨⟨xs,p,AB _⟩,hd c D n l o⟩
def ER (ns:List Int) (k:Int):Int:=(ns[k.toNat]?).getD 0
theorem Sj{u:TS}(h:u D (σ.set i (some v)) H):La (I7 (tC v) (Kv i)) u D σ H:=h
theorem Sk{k:Int}(a:0<=k)(h1:k<n):Hq n k=some k.toNat:=by
 unfold Hq;rw[Ak a,Ak h1]
theorem YA(xs:List V)(n:Nat):EO xs (some (n:Int)) none=xs.drop n:=by
 unfold EO;rw[HT.sIx_none,HT.sIx_nat];by_cases h:n<=xs.length;rw[Nat.min_eq_left h,List.take_of_length_le (by rw[Kr];exact AB _)];rw[Nat.min_eq_right (by omega),List.drop_of_length_le (AB _),List.drop_of_length_le (by omega)]
 simp
theorem YB(xs:List V)(a b:Nat)(e:a<=b):EO xs (some (a:Int)) (some (b:Int))=(xs.drop a).take (b-a):=by
 unfold EO;rw[HT.sIx_nat,HT.sIx_nat];by_cases c:a<=xs.length;rw[Nat.min_eq_left c];by_cases d:b<=xs.length;rw[Nat.min_eq_left d];rw[Nat.min_eq_right (show xs.length<=b by omega),List.take_of_length_le (by rw[Kr];exact AB _),List.take_of_length_le (by rw[Kr];omega)];rw[Nat.min_eq_right (show xs.length<=a by omega),List.drop_of_length_le (AB _),List.drop_of_length_le (show xs.length<=a by omega)]
 simp
theorem Bb{p:Addr}{o:HO}(h:H p=none):Ac H (upd H p o):=(Ac.refl H).upd h
theorem AO{σ:L2.St}{N:L2.St->Hp->Prop}(h:N (σ.set i (some v)) H):Kv i v σ H N:=h
section
variable {X:Cx}
theorem Eu:NR X "list.append" U3:=U4
theorem N7:NR X "list.extend" U5:=Yj
end
section
variable {X:Cx}
def Jr (neg:Bool):R2:=λx y H Q=>∃a o,y=.ref a/\Dk H a x o/\Q (.bl (o.isSome != neg)) H
theorem Vm(b:X.A.units+1<cLine):DJ X (compareOp .In) (Jr false):=by
 intro pins s σ H x y v u Q I c d h;obtain⟨a,o,rfl,g,q⟩:=h;cases d;refine Sa b I g c λZ e=>⟨.bl _,H,e,?_,q⟩;cases o<;>rfl
def YC:V->V->V->Hp->(Hp->Prop)->Prop:=λo i v H Q=>∃a H',o=.ref a/\Hv H a i v H'/\Q H'
theorem YD(b:X.A.units+1<cLine):I0 X YC:=by
 intro pins s σ H o i v j k u Q I c d e h;obtain⟨a,H',rfl,g,q⟩:=h;cases c;exact Yl b I g d e λZ f=>⟨H',f,q⟩
theorem Js{a:Expr}{b:TE}(c:PE X a b)(d:∀whole,isTrue a X.env whole=(do let v <-whole;standAt a.pos;holding [v] (truthy v)):=by intro _;rfl) :
 PT X a (λσ H Q=>b σ H λx Y=>∃p xs,x=.ref p/\Af X.K Y p xs/\Q (!xs.isEmpty) Y):=by
 intro pins s σ H Q I e;refine isTrue_plain (AW (c pins s σ H _ I e) λv f⟨x,Y,g,h,i⟩=>?_) (d _);obtain⟨p,xs,rfl,j,q⟩:=i;exact Ln pins f σ Y _ v Q g h ⟨_,Or.inl ⟨xs,j,rfl⟩,q⟩
end
section
variable {prog:Program} {w:World} {A:Around} {R:Result->Shared->Prop} {It:Addr} {fp r:List Addr} {G:Array GenState->Array GenState->Prop} {n:Nat} {Pn:Nat->Value->Prop} {Sn:Nat->Shared->Prop}
end
section
variable {prog:Program} {w:World} {A:Around} {E:Value->Shared->Prop} {s:Shared}
end
section
variable {X:Cx}
end
open PySem.SeqAt
inductive Dt where
 |non|bl (b:Bool)|int (i:Int)|str (x:Str)|tup (l:List Dt)|lst (l:List Dt)
mutual
inductive Ar (K:Ah) (H:Hp):V->Dt->Prop where
 | non:Ar K H .non .non
 | bl (b:Bool):Ar K H (.bl b) (.bl b)
 | int (i:Int):Ar K H (.int i) (.int i)
 | str (x:Str):Ar K H (.str x) (.str x)
 | tup {a:Addr} {vs:List V} {ds:List Dt} (h:Aq K H a vs) (t:An K H vs ds):Ar K H (.ref a) (.tup ds)
 | lst {a:Addr} {vs:List V} {ds:List Dt} (h:Af K H a vs) (t:An K H vs ds):Ar K H (.ref a) (.lst ds)
inductive An (K:Ah) (H:Hp):List V->List Dt->Prop where
 | nil:An K H [] []
 | cons {v:V} {d:Dt} {vs:List V} {ds:List Dt} (h:Ar K H v d) (t:An K H vs ds):An K H (v :: vs) (d :: ds)
end
mutual
theorem Ar.same {K:Ah}{H H':Hp} (e:Ac H H') {v:V} {d:Dt} (h:Ar K H v d):Ar K H' v d:=by
 cases h with
 | non=>exact .non
 | bl b=>exact .bl b
 | int i=>exact .int i
 | str x=>exact .str x
 | tup h t=>exact .tup (e.seqT h) (An.same e t)
 | lst h t=>exact .lst (e.seq h) (An.same e t)
theorem An.same {K:Ah}{H H':Hp} (e:Ac H H') {vs:List V} {a:List Dt} (h:An K H vs a):An K H' vs a:=by
 cases h with
 | nil=>exact .nil
 | cons h t=>exact .cons (Ar.same e h) (An.same e t)
end
theorem An.length{K:Ah}{H:Hp}:∀{vs:List V}{a:List Dt},An K H vs a->vs.length=a.length
 |_,_,.nil=>rfl
 |_,_,.cons _ t=>BI (·+1) t.length
theorem An.get{K:Ah}{H:Hp}:∀{vs:List V}{a:List Dt}{i:Nat}{v:V},An K H vs a->vs[i]?=some v->∃d,a[i]?=some d/\Ar K H v d
 |_,_,_,_,.nil,e=>by simp at e
 |_,_,0,_,.cons h _,e=>by simp at e;subst e;exact⟨_,rfl,h⟩
 |_,_,i+1,v,.cons _ t,e=>by
   obtain⟨d,h1,b⟩:=An.get (i:=i) (v:=v) t (by simpa using e);exact⟨d,by simpa using h1,b⟩
theorem An.get'{K:Ah}{H:Hp}:∀{vs:List V}{a:List Dt}{i:Nat}{d:Dt},An K H vs a->a[i]?=some d->∃v,vs[i]?=some v/\Ar K H v d
 |_,_,_,_,.nil,e=>by simp at e
 |_,_,0,_,.cons h _,e=>by simp at e;subst e;exact⟨_,rfl,h⟩
 |_,_,i+1,v,.cons _ t,e=>by
   obtain⟨d,h1,b⟩:=An.get' (i:=i) (d:=v) t (by simpa using e);exact⟨d,by simpa using h1,b⟩
theorem An.strs{K:Ah}{H:Hp}:∀(xs:List Str),An K H (xs.map V.str) (xs.map Dt.str)
 |[]=>.nil
 |x::xs=>.cons (.str x) (An.strs xs)
section
variable {X:Cx} {pins:List (Addr×Obj)} {σ:St} {H:Hp} {s:Shared}
theorem Inv.not_both(I:Inv X pins σ H s){ys:List V}(h:Af X.K H a xs)(h':Aq X.K H a ys):False:=by
 obtain⟨_,_,⟨o,n,e,c,_⟩,_⟩:=I.list h;obtain⟨_,_,⟨f,b,d,_⟩,_⟩:=I.tuple h';rw[e] at b;cases b;rw[c] at d;exact absurd d (by decide)
mutual
theorem Ar.inj (I:Inv X pins σ H s) {v:V} {d e:Dt} (h:Ar X.K H v d) (h':Ar X.K H v e):d=e:=by
 cases h with
 | non=>cases h';rfl
 | bl _=>cases h';rfl
 | int _=>cases h';rfl
 | str _=>cases h';rfl
 | tup h t=>cases h' with
   | tup h' a =>
     have e:=I.tuple_inj h h';subst e;rw[An.inj I t a]
   | lst h' _=>exact(I.not_both h' h).elim
 | lst h t=>cases h' with
   | lst h' a =>
     have e:=I.list_inj h h';subst e;rw[An.inj I t a]
   | tup h' _=>exact(I.not_both h h').elim
theorem An.inj (I:Inv X pins σ H s) {vs:List V} {a es:List Dt} (h:An X.K H vs a) (h':An X.K H vs es):a=es:=by
 cases h with
 | nil=>cases h';rfl
 | cons h t=>cases h' with
   | cons h' b=>rw[Ar.inj I h h',An.inj I t b]
end
end
def Dt.kd:Dt->Nat
 |.non=>0|.bl _=>1|.int _=>2|.str _=>3|.tup _=>4|.lst _=>5
def G5 (a b:Nat):Bool:=a != b && !(a==1 && b==2) && !(a==2 && b==1)
mutual
inductive Ev:Nat->Dt->Dt->Prop where
 | non {n:Nat}:Ev n .non .non
 | bl {n:Nat} (a b:Bool):Ev n (.bl a) (.bl b)
 | int {n:Nat} (a b:Int):Ev n (.int a) (.int b)
 | str {n:Nat} (a b:Str):Ev n (.str a) (.str b)
 | tup {n:Nat} {ds es:List Dt} (t:Cw n ds es):Ev (n+1) (.tup ds) (.tup es)
 | lst {n:Nat} {ds es:List Dt} (t:Cw n ds es):Ev (n+1) (.lst ds) (.lst es)
 | apart {n:Nat} {d e:Dt} (h:G5 d.kd e.kd=true):Ev (n+1) d e
inductive Cw:Nat->List Dt->List Dt->Prop where
 | nil {n:Nat} (es:List Dt):Cw n [] es
 | nil' {n:Nat} (ds:List Dt):Cw n ds []
 | cons {n:Nat} {d e:Dt} {ds es:List Dt} (h:Ev n d e) (t:Cw n ds es):Cw n (d :: ds) (e :: es)
end
theorem Cw.of{n:Nat}:∀{a es:List Dt},(∀d∈a,∀e∈es,Ev n d e)->Cw n a es
 |[],es,_=>.nil es
 |d::a,[],_=>.nil' _
 |d::a,e::es,h=>.cons (h d (by simp) e (by simp)) (Cw.of λx b y c=>h x (by simp[b]) y (by simp[c]))
open Classical in
noncomputable def dec (p:Prop):Bool:=decide p
variable {p:Prop}
theorem Fn(h:p):dec p=true:=@A5 p (Classical.propDecidable p) h
theorem F1(h:¬p):dec p=false:=@DT p (Classical.propDecidable p) h
theorem Fo:dec p=true↔p:=⟨λh=>@Bi p (Classical.propDecidable p) h,Fn⟩
theorem M4{q:Prop}(h:p↔q):dec p=dec q:=by rw[propext h]
theorem Sl{α:Type} [BEq α] [LawfulBEq α]{a b:α}(h:p↔a=b):(a==b)=dec p:=by
 by_cases e:a=b;subst e;rw[Fn (h.mpr rfl)];exact beq_self_eq_true _;rw[F1 λq=>e (h.mp q)];exact beq_false_of_ne e
variable {ds es:List Dt}
theorem YE(b:ds.length=es.length)(h:∀i,i<ds.length->ds[i]?=es[i]?):ds=es:=List.ext_getElem? λi=>by
 by_cases a:i<ds.length;exact h i a;rw[GK (by omega),GK (by omega)]
section
variable {X:Cx} {pins:List (Addr×Obj)} {σ:St} {H:Hp} {s:Shared}
theorem HB(A:Around):A.in1.units=A.units+1:=rfl
theorem Vn(I:Inv X pins σ H s){vs us:List V}{a b:List Value}(c:As vs a)(f:As us b)(J:An X.K H vs ds)(n:An X.K H us es)
 (o:∀(i:Nat)(d e:Dt)(v u:V)(x y:Value),ds[i]?=some d->es[i]?=some e->RelV v x->RelV u y->Ar X.K H v d->Ar X.K H u e->EqAt A s x y (dec (d=e))) :
 ∀j(h1:j<a.toArray.size)(g:j<b.toArray.size),EqAt A s a.toArray[j] b.toArray[j] (dec (ds[j]?=es[j]?)):=by
 intro j h1 g;have C:=c.length;have D:=f.length;have z:j<a.length:=(by simpa using h1);have B:j<b.length:=(by simpa using g);obtain⟨x,h,r⟩:=c.get (i:=j) (x:=vs[j]'(by omega)) (AC (by omega));obtain⟨y,l,t⟩:=f.get (i:=j) (x:=us[j]'(by omega)) (AC (by omega));obtain⟨d,hd,k⟩:=J.get (i:=j) (v:=vs[j]'(by omega)) (AC (by omega));obtain⟨e,m,te⟩:=n.get (i:=j) (v:=us[j]'(by omega)) (AC (by omega))
 have ex:a.toArray[j]=x:=by
  rw[AC z] at h;simpa using h
 have w:b.toArray[j]=y:=by
  rw[AC B] at l;simpa using l
 rw[ex,w,hd,m];have:=o j d e _ _ x y hd m r t k te;rw[M4 (p:=some d=some e) (q:=d=e) (by simp)];exact this
theorem Vo(a:n=ds.length)(b:ds.length=es.length):(List.range n).all (λj=>dec (ds[j]?=es[j]?))=dec (ds=es):=by
 subst a;by_cases h:ds=es;subst h;rw[Fn rfl,List.all_eq_true];exact λi _=>Fn rfl;rw[F1 h,Bool.eq_false_iff];intro q;rw[List.all_eq_true] at q;exact h (YE b λi c=>Fo.mp (q i (List.mem_range.mpr c)))
variable {d e:Dt}{u:V}{y:Value}
theorem YF(I:Inv X pins σ H s){x:Value}(h:G5 d.kd e.kd=true)(k:Ar X.K H v d)(te:Ar X.K H u e)(j:RelV v x)(f:RelV u y)(c:A.units<cLine):EqAt A s x y false/\RcAt A s x y false/\RcNeAt A s x y true:=by
 cases k with
 |non =>
   cases j
   cases te with
   |non=>exact absurd h (by simp[G5,Dt.kd])
   |bl b =>
     cases f;exact⟨EqAt.none_bool _,RcAt.none_bool _,RcNeAt.none_bool _⟩
   |int b =>
     obtain⟨i,rfl⟩:=f;exact⟨EqAt.none_int _ _,RcAt.none_int _ _,RcNeAt.none_int _ _⟩
   |str b =>
     obtain⟨i,rfl⟩:=f;exact⟨EqAt.none_str _ _,RcAt.none_str _ _,RcNeAt.none_str _ _⟩
   |tup g i =>
     cases f;obtain⟨_,_,J,_⟩:=I.tuple g;exact⟨EqAt.none_tuple J c,RcAt.none_tuple J c,RcNeAt.none_tuple J c⟩
   |lst g i =>
     cases f;obtain⟨_,_,J,_⟩:=I.list g;have J:=J.isList;exact⟨EqAt.none_list J c,RcAt.none_list J c,RcNeAt.none_list J c⟩
 |bl a =>
   cases j
   cases te with
   |non =>
     cases f;exact⟨EqAt.bool_none _,RcAt.bool_none _,RcNeAt.bool_none _⟩
   |bl b=>exact absurd h (by simp[G5,Dt.kd])
   |int b=>exact absurd h (by simp[G5,Dt.kd])
   |str b =>
     obtain⟨i,rfl⟩:=f;exact⟨EqAt.bool_str _ _ _,RcAt.bool_str _ _ _,RcNeAt.bool_str _ _ _⟩
   |tup g i =>
     cases f;obtain⟨_,_,J,_⟩:=I.tuple g;exact⟨EqAt.bool_tuple _ J c,RcAt.bool_tuple _ J c,RcNeAt.bool_tuple _ J c⟩
   |lst g i =>
     cases f;obtain⟨_,_,J,_⟩:=I.list g;have J:=J.isList;exact⟨EqAt.bool_list _ J c,RcAt.bool_list _ J c,RcNeAt.bool_list _ J c⟩
 |int a =>
   obtain⟨t,rfl⟩:=j
   cases te with
   |non =>
     cases f;exact⟨EqAt.int_none _ _,RcAt.int_none _ _,RcNeAt.int_none _ _⟩
   |bl b=>exact absurd h (by simp[G5,Dt.kd])
   |int b=>exact absurd h (by simp[G5,Dt.kd])
   |str b =>
     obtain⟨i,rfl⟩:=f;exact⟨EqAt.int_str _ _ _ _,RcAt.int_str _ _ _ _,RcNeAt.int_str _ _ _ _⟩
   |tup g i =>
     cases f;obtain⟨_,_,J,_⟩:=I.tuple g;exact⟨EqAt.int_tuple _ _ J c,RcAt.int_tuple _ _ J c,RcNeAt.int_tuple _ _ J c⟩
   |lst g i =>
     cases f;obtain⟨_,_,J,_⟩:=I.list g;have J:=J.isList;exact⟨EqAt.int_list _ _ J c,RcAt.int_list _ _ J c,RcNeAt.int_list _ _ J c⟩
 |str a =>
   obtain⟨t,rfl⟩:=j
   cases te with
   |non =>
     cases f;exact⟨EqAt.str_none _ _,RcAt.str_none _ _,RcNeAt.str_none _ _⟩
   |bl b =>
     cases f;exact⟨EqAt.str_bool _ _ _,RcAt.str_bool _ _ _,RcNeAt.str_bool _ _ _⟩
   |int b =>
     obtain⟨i,rfl⟩:=f;exact⟨EqAt.str_int _ _ _ _,RcAt.str_int _ _ _ _,RcNeAt.str_int _ _ _ _⟩
   |str b=>exact absurd h (by simp[G5,Dt.kd])
   |tup g i =>
     cases f;obtain⟨_,_,J,_⟩:=I.tuple g;exact⟨EqAt.str_tuple _ _ J c,RcAt.str_tuple _ _ J c,RcNeAt.str_tuple _ _ J c⟩
   |lst g i =>
     cases f;obtain⟨_,_,J,_⟩:=I.list g;have J:=J.isList;exact⟨EqAt.str_list _ _ J c,RcAt.str_list _ _ J c,RcNeAt.str_list _ _ J c⟩
 |tup h1 l =>
   cases j;obtain⟨_,_,p,_⟩:=I.tuple h1
   cases te with
   |non =>
     cases f;exact⟨EqAt.tuple_none p c,RcAt.tuple_none p c,RcNeAt.tuple_none p c⟩
   |bl b =>
     cases f;exact⟨EqAt.tuple_bool _ p c,RcAt.tuple_bool _ p c,RcNeAt.tuple_bool _ p c⟩
   |int b =>
     obtain⟨i,rfl⟩:=f;exact⟨EqAt.tuple_int _ _ p c,RcAt.tuple_int _ _ p c,RcNeAt.tuple_int _ _ p c⟩
   |str b =>
     obtain⟨i,rfl⟩:=f;exact⟨EqAt.tuple_str _ _ p c,RcAt.tuple_str _ _ p c,RcNeAt.tuple_str _ _ p c⟩
   |tup g i=>exact absurd h (by simp[G5,Dt.kd])
   |lst g i =>
     cases f;obtain⟨_,_,J,_⟩:=I.list g;have J:=J.isList;exact⟨EqAt.tuple_list p J c,RcAt.tuple_list p J c,RcNeAt.tuple_list p J c⟩
 |lst h1 l =>
   cases j;obtain⟨_,_,p,_⟩:=I.list h1;have p:=p.isList
   cases te with
   |non =>
     cases f;exact⟨EqAt.list_none p c,RcAt.list_none p c,RcNeAt.list_none p c⟩
   |bl b =>
     cases f;exact⟨EqAt.list_bool _ p c,RcAt.list_bool _ p c,RcNeAt.list_bool _ p c⟩
   |int b =>
     obtain⟨i,rfl⟩:=f;exact⟨EqAt.list_int _ _ p c,RcAt.list_int _ _ p c,RcNeAt.list_int _ _ p c⟩
   |str b =>
     obtain⟨i,rfl⟩:=f;exact⟨EqAt.list_str _ _ p c,RcAt.list_str _ _ p c,RcNeAt.list_str _ _ p c⟩
   |tup g i =>
     cases f;obtain⟨_,_,J,_⟩:=I.tuple g;exact⟨EqAt.list_tuple p J c,RcAt.list_tuple p J c,RcNeAt.list_tuple p J c⟩
   |lst g i=>exact absurd h (by simp[G5,Dt.kd])
theorem Vp(I:Inv X pins σ H s){x:Value}(k:Ar X.K H v d)(te:Ar X.K H u e)(b:RelV v x)(i:RelV u y)(h:RcAt A s x y (dec (d=e))):EqAt A s x y (dec (d=e)):=by
 by_cases g:x=y;subst g;have j:=b.inj i;subst j;rw[Fn (Ar.inj I k te)];exact EqAt.same _;intro f w E Q c;unfold eqBool;refine Fj ?_;refine wpAny_ite_split (λl=>absurd (eq_of_beq l) g) (λ_=>?_)
 cases k with
 |non=>cases b;exact Ad (h f w E _ (FI c))
 |bl a=>cases b;exact Ad (h f w E _ (FI c))
 |int a=>obtain⟨t,rfl⟩:=b;exact Ad (h f w E _ (FI c))
 |str a=>obtain⟨t,rfl⟩:=b;exact Ad (h f w E _ (FI c))
 |tup _ _=>cases b;exact Ad (h f w E _ (FI c))
 |lst _ _=>cases b;exact Ad (h f w E _ (FI c))
theorem N8(h:G5 d.kd e.kd=true):¬d=e:=λz=>by
 subst z;simp[G5] at h
set_option tactic.hygienic true in
mutual
theorem Sm (I:Inv X pins σ H s) {n:Nat} {d e:Dt} {v u:V} {x y:Value} {A:Around} (c:Ev n d e) (k:Ar X.K H v d) (te:Ar X.K H u e) (g:RelV v x) (i:RelV u y) (O:A.units+n<cLine):RcAt A s x y (dec (d=e))/\RcNeAt A s x y (!dec (d=e)):=by
 cases c with
 | non =>
   cases k;cases te;cases g;cases i;rw[Fn rfl];exact⟨RcAt.none_none,RcNeAt.none_none⟩
 | bl a b =>
   cases k;cases te;cases g;cases i;rw[<-Sl (a:=a) (b:=b) (by simp)];exact⟨RcAt.bool_bool a b,RcNeAt.bool_bool a b⟩
 | int a b =>
   cases k;cases te;obtain⟨t,rfl⟩:=g;obtain⟨f,rfl⟩:=i;rw[<-Sl (a:=a) (b:=b) (by simp)];exact⟨RcAt.int_int a t b f,RcNeAt.int_int a t b f⟩
 | str a b =>
   cases k;cases te;obtain⟨t,rfl⟩:=g;obtain⟨f,rfl⟩:=i;rw[<-Sl (a:=a) (b:=b) (by simp)];exact⟨RcAt.str_str a t b f,RcNeAt.str_str a t b f⟩
 | @tup n ds es c =>
   cases k;cases te;rename_i a F h t b G D f;cases g;cases i;obtain⟨m,r,p,_⟩:=I.tuple h;obtain⟨o,w,l,_⟩:=I.tuple D;have J:=r.length;have K:=w.length;have L:=t.length;have M:=f.length;have B:=Vn (A:=A.in1) I r w t f (LD I c (by rw[HB];omega))
   have e:dec (Dt.tup ds=Dt.tup es)=((List.range (min m.toArray.size o.toArray.size)).all (fun j=>dec (ds[j]?=es[j]?)) && m.toArray.size == o.toArray.size):=by
    rw[M4 (p:=Dt.tup ds=Dt.tup es) (q:=ds=es) (by simp)];simp only[Cu];by_cases C:ds.length=es.length
    rw[show(m.length == o.length)=true from beq_iff_eq.mpr (by omega),Bool.and_true,Vo (by omega) C]
    rw[show(m.length == o.length)=false from beq_false_of_ne (by omega),Bool.and_false,F1 fun z=>C (by rw[z])]
   rw[e];exact⟨RcAt.tuples (A:=A) p l (by omega) B,RcNeAt.tuples (A:=A) p l (by omega) B⟩
 | @lst n ds es c =>
   cases k;cases te;rename_i a F h t b G D f;cases g;cases i;obtain⟨m,r,p,_⟩:=I.list h;obtain⟨o,w,l,_⟩:=I.list D;have J:=r.length;have K:=w.length;have L:=t.length;have M:=f.length;by_cases C:ds.length=es.length;have B:=Vn (A:=A.in1) I r w t f (LD I c (by rw[HB];omega));rw[M4 (p:=Dt.lst ds=Dt.lst es) (q:=ds=es) (by simp),<-Vo (n:=m.toArray.size) (by simp only[Cu];omega) C];exact⟨RcAt.lists (A:=A) p.isList l.isList (by simp only[Cu];omega) (by omega) B,RcNeAt.lists (A:=A) p.isList l.isList (by simp only[Cu];omega) (by omega) B⟩
   rw[F1 (show ¬Dt.lst ds=Dt.lst es from fun z=>C (by cases z;rfl))]
   have E:(m.toArray.size != o.toArray.size)=true:=by simp only[Cu];rw[bne_iff_ne];omega
   exact⟨RcAt.lists_lengths p.isList l.isList E (by omega),RcNeAt.lists_lengths p.isList l.isList E (by omega)⟩
 | apart h =>
   obtain⟨_,h1,N⟩:=YF (A:=A) I h k te g i (by omega);rw[F1 (N8 h)];exact⟨h1,N⟩
theorem LD (I:Inv X pins σ H s) {n:Nat} {ds es:List Dt} {A:Around} (c:Cw n ds es) (f:A.units+n<cLine)
 (i:Nat) (d e:Dt) (v u:V) (x y:Value) (h:ds[i]?=some d) (h':es[i]?=some e) (a:RelV v x) (b:RelV u y) (k:Ar X.K H v d) (te:Ar X.K H u e):EqAt A s x y (dec (d=e)):=by
 cases c with
 | nil=>simp at h
 | nil'=>simp at h'
 | cons c t=>cases i with
   | zero =>
     simp at h h';subst h;subst h';have g:=Sm (A:=A) I c k te a b f;exact Vp I k te a b g.1
   | succ i=>exact LD I t f i d e v u x y (by simpa using h) (by simpa using h') a b k te
end
theorem Vq(I:Inv X pins σ H s){x:Value}(c:Ev n d e)(k:Ar X.K H v d)(te:Ar X.K H u e)(a:RelV v x)(b:RelV u y)(f:A.units+n<cLine):EqAt A s x y (dec (d=e)):=
 Vp I k te a b (Sm I c k te a b f).1
end
section
variable {X:Cx}
def So (K:Ah):R2:=λx y H Q=>∃n d e,Ev n d e/\n<=60/\Ar K H x d/\Ar K H y e/\Q (.bl (dec (d=e))) H
theorem LF(f:X.A.units+64<cLine):DJ X (compareOp .Eq) (So X.K):=by
 intro pins s σ H x y v u Q I a b h;obtain⟨n,d,e,c,g,k,te,q⟩:=h;exact(Sm (A:=X.A) I c k te a b (by omega)).1 _ _ _ _ ⟨.bl _,H,I,rfl,q⟩
def Sq (K:Ah):R2:=λx y H Q=>∃n d ds a vs,(∀e∈ds,Ev n e d)/\n<=60/\Ar K H x d/\y=.ref a/\Af K H a vs/\An K H vs ds/\Q (.bl (dec (d∈ds))) H
def Jt (K:Ah):R2:=λx y H Q=>∃n d ds a vs,(∀e∈ds,Ev n e d)/\n<=60/\Ar K H x d/\y=.ref a/\Af K H a vs/\An K H vs ds/\Q (.bl (!dec (d∈ds))) H
theorem Vr(I:Inv X pins σ H s){d:Dt}{vs:List V}{b:List Value}{x:Value}(r:As vs b)(t:An X.K H vs ds)(C:∀e∈ds,Ev n e d)(k:Ar X.K H v d)(D:RelV v x)(E:A.units+n<cLine) :
 (∀y,y∈b.toArray->EqAt A s y x (dec (∃u,RelV u y/\Ar X.K H u d)))/\b.toArray.any (λy=>dec (∃u,RelV u y/\Ar X.K H u d))=dec (d∈ds):=by
 have L:=r.length;have lt:=t.length
 have one:∀y,y∈b->∃e∈ds,∃u,RelV u y/\Ar X.K H u e:=λy a=>by
  obtain⟨i,g,e⟩:=O8.mp a;obtain⟨M,B,j⟩:=r.get (i:=i) (x:=vs[i]'(by omega)) (AC (by omega));obtain⟨F,c,te⟩:=t.get (i:=i) (v:=vs[i]'(by omega)) (AC (by omega));rw[AC g,e] at B;cases B;exact⟨F,Bd c,_,j,te⟩
 refine⟨λy a=>?_,?_⟩;obtain⟨e,c,u,f,te⟩:=one y (by simpa using a);have:=Vq (A:=A) I (C e c) te k f D E
 rw[M4 (p:=∃u,RelV u y/\Ar X.K H u d) (q:=e=d) ⟨λ⟨G,m,o⟩=>by
  have l:=f.inj m;subst l
  exact Ar.inj I te o,λz=>⟨u,f,by rw[<-z];exact te⟩⟩]
 exact this;by_cases h:d∈ds;rw[Fn h,Array.any_eq_true];obtain⟨i,g,e⟩:=O8.mp h;obtain⟨u,K,te⟩:=t.get' (i:=i) (d:=d) (by rw[AC g,e]);obtain⟨y,a,j⟩:=r.get K;have w:i<b.length:=(A9.mp a).1;refine⟨i,by simpa using w,?_⟩
 have:b.toArray[i]'(by simpa using w)=y:=by
  rw[AC w] at a;simpa using a
 rw[this];exact Fn ⟨u,j,te⟩;rw[F1 h,Bool.eq_false_iff];intro q;obtain⟨i,g,q⟩:=Array.any_eq_true.mp q;obtain⟨u,f,te⟩:=Fo.mp q;obtain⟨e,c,G,m,o⟩:=one (b.toArray[i]) (by simp);have l:=f.inj m;subst l;have J:=Ar.inj I te o;subst J;exact h c
theorem LG(i:X.A.units+64<cLine):DJ X (compareOp .In) (Sq X.K):=by
 intro pins s σ H x y v u Q I b c h;obtain⟨n,d,ds,a,j,e,l,k,rfl,f,t,q⟩:=h;cases c;obtain⟨m,r,p,_⟩:=I.list f;obtain⟨h1,g⟩:=Vr (A:=X.A.in1) I r t e k b (by rw[HB];omega);exact in_listAt _ p.isList h1 (by rw[g];exact⟨.bl _,H,I,rfl,q⟩)
theorem YG(i:X.A.units+64<cLine):DJ X (compareOp .NotIn) (Jt X.K):=by
 intro pins s σ H x y v u Q I b c h;obtain⟨n,d,ds,a,j,e,l,k,rfl,f,t,q⟩:=h;cases c;obtain⟨m,r,p,_⟩:=I.list f;obtain⟨h1,g⟩:=Vr (A:=X.A.in1) I r t e k b (by rw[HB];omega);exact notIn_listAt _ p.isList h1 (by rw[g];exact⟨.bl _,H,I,rfl,q⟩)
end
end L2
namespace Ord
variable {α:Type} [DecidableEq α]
theorem nodup_sub_length{l m:List α}(h:l.Nodup)(a:∀x∈l,x∈m):l.length<=m.length:=by
 induction l generalizing m with
 |nil=>simp
 |cons x r f =>
   have b:=a x (by simp);have c:=(Go.mp h)
   have:r.length<=(m.erase x).length:=f c.2 (λy d=>by
    have g:=a y (by simp[d]);have ne:y≠x:=λe=>c.1 (e▸d)
    exact(List.mem_erase_of_ne ne).mpr g)
   rw[List.length_erase_of_mem b] at this;have i:0<m.length:=List.length_pos_of_mem b
   simp;omega
end Ord
namespace War
end War
namespace Ord
variable {α:Type} [DecidableEq α]
end Ord
namespace L2
open PySem PySem.Spec PyProof.Rows Ord
theorem HC:([]:List V).length+1<=sizeLine:=by decide
theorem B7:([]:List V).length+1+1<=sizeLine:=by decide
theorem An.of_get{K:Ah}{H:Hp}:∀{vs:List V}{a:List Dt},vs.length=a.length->(∀(n:Nat)v d,vs[n]?=some v->a[n]?=some d->Ar K H v d)->An K H vs a
 |[],[],_,_=>.nil
 |v::vs,d::a,b,h=>.cons (h 0 v d rfl rfl) (An.of_get (by simpa using b) λn x y c e=>h (n+1) x y (by simpa using c) (by simpa using e))
structure Cz (H:Hp) (ts:List Addr) (ps:List (Str×Str)):Prop where
 len:ts.length=ps.length
 at_:∀(n:Nat)t p,ts[n]?=some t->ps[n]?=some p->H t=some (.tup [.str p.1,.str p.2])
variable {H:Hp}
theorem Cz.nil:Cz H [] []:=⟨rfl,λn t p h=>by simp at h⟩
theorem Cz.same{H':Hp}{ts:List Addr}{ps:List (Str×Str)}(e:Ac H H')(h:Cz H ts ps):Cz H' ts ps:=⟨h.len,λn t p a b=>e _ _ (h.at_ n t p a b)⟩
theorem Cz.snoc{t:Addr}{ts:List Addr}{ps:List (Str×Str)}{p:Str×Str}(h:Cz H ts ps)(e:H t=some (.tup [.str p.1,.str p.2])):Cz H (ts++[t]) (ps++[p]):=by
 refine⟨by rw[AV,AV,h.len];rfl,λn d f a b=>?_⟩;by_cases c:n<ts.length;rw[EJ c] at a;rw[EJ (by rw[<-h.len];exact c)] at b;exact h.at_ n d f a b
 have g:n=ts.length:=by
  have:=(A9.mp a).1;rw[AV,Dh] at this;omega
 subst g;rw[EY (AB _)] at a;rw[EY (by rw[h.len];exact AB _)] at b;simp at a;simp[h.len] at b;subst a;subst b;exact e
variable {a:Addr}
theorem Sr{K:Ah}{xs:List V}{k:Nat}{r:List Nat}{g:TG}{te:TE}{σ:St}{Y:Hp}{Q:Addr->Hp->Prop}(Pv:Addr->Nat->List V->Hp->Prop)
 (s:∀D,Y D=none->Pv D 0 [] (upd Y D (.lst []))) (t:∀D i ys c,Pv D i ys c->Af K c a xs)
 (u:∀D i x ys c(R:VK),Y D=none->xs[i]?=some x->Pv D i ys c->(∀y d,d D=some (.lst ys)->ys.length<sizeLine->Pv D (i+1) (ys++[y]) (upd d D (.lst (ys++[y])))->R y d)->g x (EH k r σ) c λσ4 j=>te σ4 j R)
 (hd:∀D ys c,Y D=none->Pv D xs.length ys c->Q D c) :
 ∀D,Y D=none->∃W:Nat->Nat->List V->Hp->Prop,(∃m,W 0 m [] (upd Y D (.lst [])))/\∀i m ys c,W i m ys c ->
  ((Gx K a).stop i c/\Q D c)\/((Gx K a).go i c/\∀x h,(Gx K a).yld i c x h->g x (EH k r σ) h λσ4 j=>Hy σ4 j λb o =>
   if b=true then te σ4 o λy d=>d D=some (.lst ys)/\ys.length<sizeLine/\∃f,f<m/\W (i+1) f (ys++[y]) (upd d D (.lst (ys++[y]))) else ∃f,f<m/\W (i+1) f ys o):=by
 intro D l;refine⟨λi m ys c=>m=xs.length-i/\i<=xs.length/\Pv D i ys c,⟨xs.length,rfl,Ck _,s D l⟩,?_⟩;rintro i m ys c ⟨rfl,C,p⟩;have n:=t D i ys c p;by_cases q:i<xs.length;refine .inr ⟨⟨xs,xs[i],n,by simp[q]⟩,λx h y=>?_⟩;obtain⟨rfl,y⟩:=y;have w:=y xs n;refine u D i x ys h _ l w p λv d z A B=>?_;exact⟨z,A,xs.length-(i+1),by omega,rfl,q,B⟩;have e:i=xs.length:=(by omega);subst e;exact .inl ⟨⟨xs,n,AB _⟩,hd D ys c l p⟩
theorem Az.ex{P:Program}{w:World}{h:Heap}{o:HO}(x:Az P w H h a o):∃u,h.get? a=some u:=by
 cases o with
 |lst b=>obtain⟨_,_,_,_,e⟩:=x;exact⟨_,e⟩
 |tup b=>obtain⟨_,_,_,u,e,_⟩:=x;exact⟨u,e⟩
 |dK c=>obtain⟨_,_,_,_,u,_,_,e,_⟩:=x;exact⟨u,e⟩
 |dT c=>obtain⟨_,_,_,_,u,_,_,e,_⟩:=x;exact⟨u,e⟩
 |set S n=>obtain⟨u,_,_,_,e,_⟩:=x;exact⟨u,e⟩
 |ins C d fs=>obtain⟨_,_,_,e,_⟩:=x;exact⟨_,e⟩
 |own y=>exact x
 |xd fs=>obtain⟨_,⟨u,_,_,e,_⟩,_⟩:=x;exact⟨u,e⟩
 |rng lo g=>obtain⟨_,_,_,e⟩:=x;exact⟨_,e⟩
 |frz i u=>obtain⟨e,_⟩:=x;exact⟨_,e⟩
 |tbl j=>exact⟨_,(show h.get? a=some _ from x)⟩
 |met f y=>exact⟨_,(show h.get? a=some _ from x)⟩
 |ext φ=>exact x.2.1
theorem Inv.freshN{X:Cx}{pins:List (Addr×Obj)}{σ:L2.St}{s:Shared}(I:Inv X pins σ H s)(d:∀b u,s.heap.get? b=some u->b≠a):H a=none:=by
 cases e:H a with
 |none=>rfl
 |some o =>
   obtain⟨u,c⟩:=(I.hok a o e).ex;exact absurd rfl (d a u c)
theorem Inv.laidN{X:Cx}{pins:List (Addr×Obj)}{σ:L2.St}{s:Shared}{h':Heap}{o:HO}{t':Nat}(I:Inv X pins σ H s)(k:∀b u,s.heap.get? b=some u->h'.get? b=some u)(h:∀b u,s.heap.get? b=some u->b≠a)(i:Az X.prog X.w (upd H a o) h' a o) :
 Inv X pins σ (upd H a o) {s with heap:=h',toks:=t'}:=by
 have d:=I.freshN h;refine I.un ⟨λb u q _ _ _=>k b u q,λb u q _ _ _=>⟨u.slots,k b u q⟩,λb u q n _=>by rw[AD (h b u q)];exact n,λb u q _=>⟨u,k b u q⟩,λb f q=>by rw[AD (AH q d)];exact q,λb u f q=>by rw[AD (AH q d)];exact q,λb j q=>⟨#[],by rw[AD (AH q d),q];simp⟩⟩ λb u e=>?_;by_cases g:b=a;subst g;rw[Aa] at e;cases e;exact i;rw[AD g] at e;exact(I.hok b u e).stay (λc v _ q=>k c v q) (λc q=>by rw[AD (AH q d)];exact q) λc f q=>by rw[AD (AH q d)];exact q
section
variable {prog:Program} {w:World} {A:Around} {E:Value->Shared->Prop} {s:Shared}
end
section
variable {X:Cx}
end
end L2
namespace HT
open PySem PyProof.Rows
section
open PySem.SeqAt
open PySem.AutoSeq1 (wpAny_loadPart')
open PySem.MeetsSeq PySem.MeetsSeq2 PySem.MeetsSeq3
end
section
variable {prog:Program} {w:World} {A:Around} {E:Value->Shared->Prop} {s:Shared}
end
end HT
namespace L2
open PySem PySem.Spec PyProof.Rows
section
variable {X:Cx}
theorem YH{ss:List Str}:∀{us:List Value},As (ss.map V.str) us->StrsAre us ss:=by
 induction ss with
 |nil=>intro us h;cases h;exact .nil
 |cons x r c =>
   intro us h
   cases h with
   |cons a b =>
     obtain⟨t,rfl⟩:=a;exact .cons _ _ (c b)
end
end L2
namespace L2
end L2
namespace KasM
open PySem PySem.W PyProof.Rows
set_option autoImplicit false
def Tw {α:Type} (lt:Nat->Nat->Bool) (n:Nat):KasT α->(α->Prop)->Prop
 |.ret a,Q=>Q a
 |.ask i j k,Q=>i<n/\j<n/\Tw lt n (k (lt i j)) Q
theorem M5{α β:Type}{lt:Nat->Nat->Bool}{n:Nat}{f:α->KasT β}{Q:β->Prop}:∀(t:KasT α),Tw lt n t (λa=>Tw lt n (f a) Q)->Tw lt n (t.bind f) Q
 |.ret _,h=>h
 |.ask _ _ k,⟨b,c,d⟩=>⟨b,c,M5 (k _) d⟩
theorem Tw_mono{α:Type}{lt:Nat->Nat->Bool}{n:Nat}{Q b:α->Prop}(c:∀a,Q a->b a):∀(t:KasT α),Tw lt n t Q->Tw lt n t b
 |.ret a,h=>c a h
 |.ask _ _ k,⟨d,e,f⟩=>⟨d,e,Tw_mono c (k _) f⟩
theorem Tw_wp{α:Type}{lt:Nat->Nat->Bool}{n:Nat}{c:Nat->Nat->(Bool->Shared->Prop)->Shared->Prop}{s:Shared}{Q:α->Shared->Prop}(b:∀i j C,i<n->j<n->C (lt i j) s->c i j C s) :
 ∀(t:KasT α),Tw lt n t (λa=>Q a s)->t.kasWp c Q s
 |.ret _,h=>h
 |.ask _ _ k,⟨d,e,f⟩=>b _ _ _ d e (Tw_wp b (k _) f)
section
variable {O:KeyOrd} {key:Nat->O.α} {n:Nat}
def K (key:Nat->O.α) (p:Array Nat) (i:Nat):O.α:=key (p.getD i 0)
def Asc (key:Nat->O.α) (p:Array Nat) (k:Nat):Prop:=∀i,i+1<k->O.kle (K key p i) (K key p (i+1))
def N9 (key:Nat->O.α) (p:Array Nat) (k:Nat):Prop:=∀i,i+1<k->O.kle (K key p (i+1)) (K key p i)
def Pm (n:Nat) (p:Array Nat):Prop:=p.Perm (List.range n).toArray
theorem Pm.size{p:Array Nat}(h:Pm n p):p.size=n:=by have:=h.size_eq;simpa using this
variable {p:Array Nat}
theorem Pm.lt(h:Pm n p)(b:0<n)(i:Nat):p.getD i 0<n:=by
 by_cases a:i<p.size;have e:p.getD i 0=p[i]:=(by simp[Array.getD,a]);rw[e];have:p[i]∈p:=Array.getElem_mem a;have c:=h.mem_iff.mp this;simpa using c;have e:p.getD i 0=0:=(by simp[Array.getD,a]);rw[e];exact b
variable {i j:Nat}
theorem YI(a:j<=p.size)(k:Nat):(kas_rev p i j).getD k 0=if i<=k/\k<j then p.getD (i+j-1-k) 0 else p.getD k 0:=by
 unfold kas_rev;simp only[Array.getD_eq_getD_getElem?];rw[getElem?_mirror_all a];split<;>rfl
theorem YJ{k l:Nat}(a:k<p.size)(b:l<=k)(t:Nat):(bubble p k (k-l)).getD t 0=if t=l then p.getD k 0 else if l<t/\t<=k then p.getD (t-1) 0 else p.getD t 0:=by
 simp only[Array.getD_eq_getD_getElem?];rw[getElem?_bubble a _ (by omega)];rw[show k-(k-l)=l by omega];split;rfl;split<;>rfl
theorem Pm.rev(h:Pm n p)(i j:Nat):Pm n (kas_rev p i j):=(mirror_perm _ _ _ _).trans h
theorem Pm.bub(h:Pm n p)(i j:Nat):Pm n (bubble p i j):=(bubble_perm _ _ _).trans h
theorem Vs(a:j<=p.size)(k:Nat):K key (kas_rev p i j) k=if i<=k/\k<j then K key p (i+j-1-k) else K key p k:=by
 unfold K;rw[YI a];split<;>rfl
theorem Ss(b:j<=p.size)(a:∀k,i<=k->k<j->K key p k=K key p (j-1))(k:Nat):K key (kas_rev p i j) k=K key p k:=by
 rw[Vs b];split;rw[a _ (by omega) (by omega),a k (by omega) (by omega)];rfl
theorem YK{k l:Nat}(a:k<p.size)(b:l<=k)(t:Nat):K key (bubble p k (k-l)) t=if t=l then K key p k else if l<t/\t<=k then K key p (t-1) else K key p t:=by
 unfold K;rw[YJ a b];split;rfl;split<;>rfl
theorem Asc.le{p:Array Nat}{k:Nat}(h:Asc key p k){i:Nat}:∀(d:Nat),i+d<k->O.kle (K key p i) (K key p (i+d))
 |0,_=>KeyOrd.kle_refl _
 |d+1,hd=>KeyOrd.kle_trans (h.le d (by omega)) (h (i+d) (by omega))
theorem Asc.le'{k:Nat}(h:Asc key p k)(b:i<=j)(a:j<k):O.kle (K key p i) (K key p j):=by
 have:=h.le (i:=i) (j-i) (by omega)
 rwa [show i+(j-i)=j by omega] at this
abbrev lt (O:KeyOrd) (key:Nat->O.α) (i j:Nat):Bool:=O.blt (key i) (key j)
theorem Su{p:Array Nat}(b:Pm n p)(c:0<n):∀(f a:Nat),1<=a->Tw (lt O key) n (kas_asc p f a) λm=>a<=m/\m<=a+f/\(∀i,a-1<=i->i+1<m->O.kle (K key p i) (K key p (i+1)))/\(m<a+f->O.klt (K key p m) (K key p (m-1)))
 |0,a,_=>⟨AB _,AB _,λi d g=>by omega,λh=>by omega⟩
 | f + 1,a,q=>by
   refine⟨b.lt c _,b.lt c _,?_⟩
   cases j:lt O key (p.getD a 0) (p.getD (a-1) 0) with
   |true =>
     simp only[if_true];exact⟨AB _,by omega,λi d g=>by omega,λ_=>j⟩
   |false =>
     simp only[Fi,if_false];refine Tw_mono ?_ _ (Su b c f (a+1) (by omega));rintro m ⟨d,g,k,l⟩;refine⟨by omega,by omega,λi r o=>?_,λh=>l (by omega)⟩;by_cases e:i=a-1;subst e;rw[show a-1+1=a by omega];exact j;exact k i (by omega) o
theorem Pz(c:0<n):∀(f:Nat)(p:Array Nat)(a q:Nat),Pm n p->a+f<=n->N9 key p a->q+1<=a->(∀k,a-(q+1)<=k->k<a->K key p k=K key p (a-1)) ->
 Tw (lt O key) n (kas_desc f p a q) λr=>Pm n r.1/\a<=r.2.1/\r.2.1<=a+f/\N9 key r.1 r.2.1/\r.2.2+1<=r.2.1/\(∀k,r.2.1-(r.2.2+1)<=k->k<r.2.1->K key r.1 k=K key r.1 (r.2.1-1))
 |0,p,a,q,b,_,hd,o,d=>⟨b,AB _,AB _,hd,o,d⟩
 | f + 1,p,a,q,b,F,hd,o,d=>by
   have hz:=b.size;refine⟨b.lt c _,b.lt c _,?_⟩
   cases u:lt O key (p.getD a 0) (p.getD (a-1) 0) with
   |true =>
     have t:O.klt (K key p a) (K key p (a-1)):=u
     have A:N9 key p (a+1):=λi s=>by
      by_cases e:i+1=a;rw[e];have:i=a-1:=by omega
      rw[this];exact KeyOrd.kle_of_klt t;exact hd i (by omega)
     simp only[if_true];by_cases B:q > 0;rw[Ak B];have v:=Ss (key:=key) (p:=p) (i:=a-(q+1)) (j:=a) (by omega) d;refine Tw_mono ?_ _ (Pz c f _ (a+1) 0 (b.rev _ _) (by omega) (λi s=>by rw[v,v];exact A i s) (by omega) (λk w x=>by rw[show k=a+1-1 by omega]));rintro r ⟨g,y,z,h,l,m⟩;exact⟨g,by omega,by omega,h,l,m⟩;rw[Aj B];refine Tw_mono ?_ _ (Pz c f _ (a+1) 0 b (by omega) A (by omega) (λk w x=>by rw[show k=a+1-1 by omega]));rintro r ⟨g,y,z,h,l,m⟩;exact⟨g,by omega,by omega,h,l,m⟩
   |false =>
     have t:O.kle (K key p (a-1)) (K key p a):=u;simp only[Fi,if_false];refine⟨b.lt c _,b.lt c _,?_⟩
     cases E:lt O key (p.getD (a-1) 0) (p.getD a 0) with
     |true =>
       simp only[if_true];exact⟨b,AB _,Nat.le_add_right _ _,hd,o,d⟩
     |false =>
       have C:O.kle (K key p a) (K key p (a-1)):=E;have D:K key p a=K key p (a-1):=KeyOrd.kle_antisymm C t;simp only[Fi,if_false];refine Tw_mono ?_ _ (Pz c f _ (a+1) (q+1) b (by omega) (λi s=>?_) (by omega) (λk w x=>?_));rintro r ⟨g,y,z,h,l,m⟩;exact⟨g,by omega,by omega,h,l,m⟩;by_cases e:i+1=a;rw[e];have:i=a-1:=by omega
       rw[this];exact C;exact hd i (by omega);rw[show a+1-1=a by omega];by_cases e:k=a;rw[e];rw[d k (by omega) (by omega),D]
abbrev Sv (key:Nat->O.α) (n:Nat) (r:Nat×Array Nat):Prop:=Pm n r.2/\1<=r.1/\r.1<=n/\Asc key r.2 r.1
theorem Vt(d:0<n){a:Nat}(b:Pm n p)(f:1<=a)(l:a<=n)(hd:N9 key p a):Tw (lt O key) n (kas_tail3 a n p) (Sv key n):=by
 unfold kas_tail3;have o:=b.size;have c:=Vs (key:=key) (p:=p) (i:=0) (j:=a) (by omega);refine M5 _ (Tw_mono ?_ _ (Su (O:=O) (key:=key) (b.rev 0 a) d (n-a) a f));rintro m ⟨q,r,g,_⟩;refine⟨b.rev _ _,by show 1<=m;omega,by show m<=n;omega,λi h=>?_⟩;have k:i+1<m:=h;by_cases e:a-1<=i;exact g i e k;show O.kle (K key (kas_rev p 0 a) i) (K key (kas_rev p 0 a) (i+1));rw[c,c,Ak (by omega),Ak (by omega)];have:=hd (0+a-1-(i+1)) (by omega)
 rwa [show 0+a-1-(i+1)+1=0+a-1-i by omega] at this
theorem Vu(c:0<n){a:Nat}(g:Pm n p)(h:1<=a)(u:a+1<=n)(hd:N9 key p (a+1)):Tw (lt O key) n (kas_descPart a n p) (Sv key n):=by
 unfold kas_descPart;refine M5 _ (Tw_mono ?_ _ (Pz (O:=O) (key:=key) c (n-(a+1)) p (a+1) 0 g (by omega) hd (by omega) (λk h v=>by rw[show k=a+1-1 by omega])));rintro⟨l,m,q⟩ ⟨b,o,r,d,s,e⟩;dsimp only at b o r d s e ⊢;have w:=b.size;split;have f:=Ss (key:=key) (p:=l) (i:=m-(q+1)) (j:=m) (by omega) e;exact Vt c (b.rev _ _) (by omega) (by omega) λi t=>by rw[f,f];exact d i t
 exact Vt c b (by omega) (by omega) d
theorem YL(b:0<n)(a:Pm n p):Tw (lt O key) n (kas_count n p) (Sv key n):=by
 unfold kas_count;have x:=a.size;refine M5 _ (Tw_mono ?_ _ (Su (O:=O) (key:=key) a b (n-1) 1 (AB _)));rintro m ⟨c,y,s,t⟩;have d:Asc key p m:=λi f=>s i (by omega) f;by_cases g:(m==n)=true;rw[Ak g];exact⟨a,c,by show m<=n;omega,d⟩;rw[Aj g]
 have z:m<n:=by
  have:m≠n:=λq=>g (by rw[q];exact beq_self_eq_true _);omega
 have l:=t (by omega);by_cases o:m > 1;rw[Ak o];refine⟨a.lt b _,a.lt b _,?_⟩
 cases u:lt O key (p.getD 0 0) (p.getD (m-1) 0) with
 |true =>
   simp only[if_true];exact⟨a,c,by show m<=n;omega,d⟩
 |false =>
   have w:O.kle (K key p (m-1)) (K key p 0):=u;simp only[Fi,if_false]
   have h:∀k,0<=k->k<m->K key p k=K key p (m-1):=λk _ v =>
    KeyOrd.kle_antisymm (d.le' (by omega) (by omega)) (KeyOrd.kle_trans w (d.le' (by omega) v))
   have r:=Ss (key:=key) (p:=p) (i:=0) (j:=m) (by omega) h;refine Vu b (a.rev _ _) c (by omega) λi f=>?_;rw[r,r];by_cases e:i+1=m;rw[e,show i=m-1 by omega];exact KeyOrd.kle_of_klt l;rw[h i (by omega) (by omega),h (i+1) (by omega) (by omega)];exact KeyOrd.kle_refl _
 rw[Aj o];refine Vu b a c (by omega) λi f=>?_;have:m=1:=(by omega);subst this;obtain rfl:i=0:=by omega
 exact KeyOrd.kle_of_klt l
theorem Sw(c:0<n){p:Array Nat}{k:Nat}(d:Pm n p)(g:Asc key p k):∀(f l r:Nat),r-l<=f->l<=r->r<=k->(∀i,i<l->O.kle (K key p i) (K key p k))->(∀i,r<=i->i<k->O.klt (K key p k) (K key p i)) ->
 Tw (lt O key) n (kas_place p k f l r) λm=>m<=k/\(∀i,i<m->O.kle (K key p i) (K key p k))/\(∀i,m<=i->i<k->O.klt (K key p k) (K key p i))
 |0,l,r,t,u,q,h,j=>⟨by omega,h,λi a b=>j i (by omega) b⟩
 | f + 1,l,r,t,u,q,h,j=>by
   unfold kas_place;by_cases e:l ≥ r;rw[Ak e];exact⟨by omega,h,λi a b=>j i (by omega) b⟩;rw[Aj e];refine⟨d.lt c _,d.lt c _,?_⟩
   cases s:lt O key (p.getD k 0) (p.getD ((l+r)/2) 0) with
   |true =>
     have o:O.klt (K key p k) (K key p ((l+r)/2)):=s;simp only[if_true];exact Sw c d g f l ((l+r)/2) (by omega) (by omega) (by omega) h λi a b=>KeyOrd.klt_of_klt_of_kle o (g.le' a b)
   |false =>
     have o:O.kle (K key p ((l+r)/2)) (K key p k):=s;simp only[Fi,if_false];exact Sw c d g f ((l+r)/2+1) r (by omega) (by omega) q (λi a=>KeyOrd.kle_trans (g.le' (by omega) (by omega)) o) j
theorem HD (h0:0<n):∀ (f:Nat) (p:Array Nat) (k:Nat),Pm n p->k+f=n->Asc key p k->Tw (lt O key) n (kas_bin f p k) fun p'=>Pm n p'/\Asc key p' n
 | 0, p, k, hp, hk, ha => ⟨hp, by have : k = n := by omega
                                  rw[<-this];exact ha⟩
 |f+1,p,k,hp,hk,ha=>by
   have hz:=hp.size;unfold kas_bin;refine M5 _ (Tw_mono ?_ _ (Sw (O:=O) (key:=key) h0 hp ha k 0 k (by omega) (by omega) (AB _) (λi h=>by omega) λi a b=>by omega));rintro l ⟨b1,b2,b3⟩;have kk:=YK (key:=key) (p:=p) (k:=k) (l:=l) (by omega) b1;refine HD h0 f _ (k+1) (hp.bub _ _) (by omega) λi hi=>?_;rw[kk,kk];by_cases e1:i=l;rw[Ak e1,Aj (by omega)];by_cases e2:i+1<=k;rw[Ak (by omega)];exact KeyOrd.kle_of_klt (b3 (i+1-1) (by omega) (by omega));omega;rw[Aj e1];by_cases e2:i+1=l;rw[Ak e2,Aj (by omega)];exact b2 i (by omega);rw[Aj e2];by_cases e3:l<i;rw[Ak (by omega),Ak (by omega)];have:=ha (i-1) (by omega)
   rwa [show i-1+1=i+1-1 by omega] at this
   rw[Aj (by omega),Aj (by omega)];exact ha i (by omega)
theorem sort_ok(h0:0<n):Tw (lt O key) n (kas_sort n) λp=>Pm n p/\Asc key p n:=by
 unfold kas_sort;refine M5 _ (Tw_mono ?_ _ (YL (O:=O) (key:=key) h0 (Array.Perm.refl _)));rintro⟨m,p⟩ ⟨b1,b2,b3,b4⟩;dsimp only at b1 b2 b3 b4 ⊢;split;rw[show max m 1=m by omega];exact HD h0 _ _ _ b1 (by omega) b4
 exact ⟨b1, by have : m = n := by omega
               rw[<-this];exact b4⟩
end
end KasM
namespace L2
open PySem PySem.Spec PyProof.Rows
section
variable {prog:Program} {w:World} {A:Around} {E:Value->Shared->Prop} {s:Shared}
theorem YM{O:KeyOrd}{key:Nat->O.α}{κ:SortKind}{a:Addr}{vs:List Value}{n:Nat}{P:PySem.Fin->Shared->Prop}(f:s.heap.get? a=some (seqObj "list" vs.toArray n))(L:vs.length<64)
 (T:2<=vs.length->∀(h':Heap),(∀b o,b≠a->s.heap.get? b=some o->h'.get? b=some o)->∀(Q:SortKind->Shared->Prop),Q κ {s with heap:=h'}->wpAny (model prog w) A (keyKind' vs.toArray) Q (λ_ _=>False) {s with heap:=h'})
 (N:∀(h':Heap),(∀b o,b≠a->s.heap.get? b=some o->h'.get? b=some o)->∀(i j:Nat)(C:Bool->Shared->Prop),i<vs.length->j<vs.length->C (O.blt (key i) (key j)) {s with heap:=h'}->PySem.W.kas_ask prog w A κ vs i j C {s with heap:=h'})
 (h:∀d:List Nat,d.Perm (List.range vs.length)->(∀i,i+1<d.length->O.kle (key (d.getD i 0)) (key (d.getD (i+1) 0)))->P (.done (.ret .none)) {s with heap:=sortedHeap s.heap a vs (d.map λi=>vs.getD i Value.none).toArray}) :
 wpAny (model prog w) A (Builtin.«list.sort» ⟨[.ref a],[]⟩) P E s:=by
 rw[list_sort_plain];have v:a<s.heap.objs.size:=A1 f;have V:vs.toArray.size=vs.length:=(by simp);refine Ad (listItems_at f rfl ?_);refine Ad (listUpdate_at f rfl ?_ (by rw[Cu,sizeLine_eq];omega) (Ck _));obtain⟨r,z⟩:∃r,(s.heap.update a (Obj.mapSeq λ_=>#[])).get? a=some (seqObj "list" #[] r):=⟨_,get?_update_seq f (λ_=>#[])⟩;refine Ad (seqEpoch_at z rfl ?_);refine Ad (wpAny_newTuple ?_ (by show vs.length<=_;rw[sizeLine_eq];omega));refine Ad (wpAny_newList ?_ (Ck _));refine Fj ?_
 have l:(((s.heap.update a (Obj.mapSeq λ_=>#[])).push (seqObj "tuple" vs.toArray 0)).push (seqObj "list" #[] 0)).get? a=some (seqObj "list" #[] r):=by
  rw[Heap.get?_push_ne _ _ _ (by rw[size_push',Heap.size_update];exact CU (Nat.lt_succ_of_lt v)),Heap.get?_push_ne _ _ _ (by rw[Heap.size_update];exact CU v)];exact z
 have keep:∀b o,b≠a->s.heap.get? b=some o->(((s.heap.update a (Obj.mapSeq λ_=>#[])).push (seqObj "tuple" vs.toArray 0)).push (seqObj "list" #[] 0)).get? b=some o:=λb o D q=>by
  refine Ba _ (Ba _ ?_);rw[Heap.get?_update_ne _ _ _ _ D];exact q
 show wpAny (model prog w) A _ P E {s with heap:=((s.heap.update a (Obj.mapSeq λ_=>#[])).push (seqObj "tuple" vs.toArray 0)).push (seqObj "list" #[] 0)};dsimp only;by_cases g:vs.toArray.size<2;rw[Ak g,Ak g];refine Ad (Aw ?_);rw[StateT.run_pure];refine Ad (Aw ?_);dsimp only;refine Ad (seqEpoch_at l rfl ?_);refine Ad (listUpdate_at l rfl ?_ (Ck _) (by rw[Array.size_map];show(pairsOf vs).size<=_;rw[pairsOf_size,sizeLine_eq];omega));simp only[bne_self_eq_false,Fi,if_false];have:=h (List.range vs.length) (List.Perm.refl _) (λi t=>by rw[List.length_range] at t;omega)
 have e:((List.range vs.length).map λi=>vs.getD i Value.none).toArray=(arrOf (SortSt.mk' general' (vs.toArray.zip vs.toArray) #[] 7 none)).map (·.2):=by
  apply Array.toList_inj.mp;show(List.range vs.length).map (λi=>vs.getD i Value.none)=((vs.toArray.zip vs.toArray).map (·.2)).toList;apply List.ext_getElem?;intro k;by_cases y:k<vs.length;simp[y,BY];simp[y]
 rw[e] at this;exact Aw this;rw[Aj g,Aj g];have B:2<=vs.length:=(by omega);refine Ad (FJ (T B _ keep (λκ' Z=>κ'=κ/\Z=_) ⟨rfl,rfl⟩) ?_ λ_ _ x=>x.elim);rintro κ' Z ⟨rfl,rfl⟩
 refine Ad (FJ (PySem.W.kat_run (Q:=λm Z=>∃p:Array Nat,arrOf m=p.map (PySem.W.kas_item (vs.toArray.zip vs.toArray))/\failedOf m=none/\KasM.Pm vs.length p/\KasM.Asc key p vs.length/\Z={s with heap:=((s.heap.update a (Obj.mapSeq λ_=>#[])).push (seqObj "tuple" vs.toArray 0)).push (seqObj "list" #[] 0)})
  (G:=λp Z=>KasM.Pm vs.length p/\KasM.Asc key p vs.length/\Z={s with heap:=((s.heap.update a (Obj.mapSeq λ_=>#[])).push (seqObj "tuple" vs.toArray 0)).push (seqObj "list" #[] 0)})
  rfl B L (λF m Z U H I u=>⟨F,H,I,u.1,u.2.1,u.2.2⟩)
  (KasM.Tw_wp (lt:=KasM.lt O key) (n:=vs.length) (N _ keep) _ (KasM.Tw_mono (λp c=>⟨c.1,c.2,rfl⟩) _ (KasM.sort_ok (O:=O) (key:=key) (by omega))))) ?_ λ_ _ e=>e)
 rintro⟨⟨⟩,m⟩ Z ⟨p,M,J,c,R,rfl⟩;dsimp only;have S:=PySem.W.kat_snds (ks:=vs) (vs:=vs) rfl M;rw[S];refine Ad (seqEpoch_at l rfl ?_);refine Ad (listUpdate_at l rfl ?_ (Ck _) (by rw[Cu,Al,Array.length_toList,c.size,sizeLine_eq];omega));rw[J];simp only[bne_self_eq_false,Fi,if_false];refine Aw (h p.toList (by have:=Array.perm_iff_toList_perm.mp c;simpa using this) λi t=>?_);have K:=c.size;have:=R i (by simpa [K] using t);simpa [KasM.K,Array.getD_eq_getD_getElem?,BY] using this
theorem Sx{O:KeyOrd}{key:Nat->O.α}{κ:SortKind}{l:Addr}{vs:List Value}{Q:Value->Shared->Prop}(g:s.heap.IsList l vs.toArray)(v:vs.length<64)
 (y:2<=vs.length->∀(h':Heap),(∀b o,s.heap.get? b=some o->h'.get? b=some o)->∀(Q:SortKind->Shared->Prop),Q κ {s with heap:=h'}->wpAny (model prog w) A.in1.in1 (keyKind' vs.toArray) Q (λ_ _=>False) {s with heap:=h'})
 (x:∀(h':Heap),(∀b o,s.heap.get? b=some o->h'.get? b=some o)->∀(i j:Nat)(C:Bool->Shared->Prop),i<vs.length->j<vs.length->C (O.blt (key i) (key j)) {s with heap:=h'}->PySem.W.kas_ask prog w A.in1.in1 κ vs i j C {s with heap:=h'})
 (h:∀(D:Addr)(h':Heap)(n:Nat)(a:List Nat),(∀b o,s.heap.get? b=some o->h'.get? b=some o)->(∀b o,s.heap.get? b=some o->b≠D)->a.Perm (List.range vs.length)->(∀i,i+1<a.length->O.kle (key (a.getD i 0)) (key (a.getD (i+1) 0))) ->
  h'.get? D=some (seqObj "list" (a.map λi=>vs.getD i Value.none).toArray n)->Q (.ref D) {s with heap:=h'}) :
 wpAny (model prog w) A (call (.builtin "sorted") [.ref l]) Q E s:=by
 refine Calls.call_function_entry kind_sorted plain_sorted entry_sorted (args_sorted1 _) ?_;unfold Builtin.«sorted»;refine Ad (m:=checkCount "sorted" 1 1 _) (Aw ?_);refine Ad (collect_list g ?_ (by rw[sizeLine_eq];omega));refine Ad (wpAny_newList ?_ (by rw[sizeLine_eq];omega))
 have d:((s.heap.push (seqObj "list" #[] 0)).update s.heap.objs.size (Obj.mapSeq (·++vs.toArray))).objs.size=s.heap.objs.size+1:=by
  rw[Heap.size_update,size_push']
 have e:(((s.heap.push (seqObj "list" #[] 0)).update s.heap.objs.size (Obj.mapSeq (·++vs.toArray))).push (seqObj "list" vs.toArray 0)).get? (s.heap.objs.size+1)=some (seqObj "list" vs.toArray 0):=by
  rw[<-d];exact B8 _ rfl
 have keep:∀b o,s.heap.get? b=some o->(((s.heap.push (seqObj "list" #[] 0)).update s.heap.objs.size (Obj.mapSeq (·++vs.toArray))).push (seqObj "list" vs.toArray 0)).get? b=some o:=λb o q=>by
  have f:b<s.heap.objs.size:=A1 q;rw[Heap.get?_push_ne _ _ _ (by rw[d];exact CU (Nat.lt_succ_of_lt f)),Heap.get?_update_ne _ _ _ _ (CU f),Heap.get?_push_ne _ _ _ (CU f)];exact q
 have c:∀b o,s.heap.get? b=some o->b≠s.heap.objs.size+1:=λb o q=>CU (Nat.lt_succ_of_lt (A1 q));show wpAny _ _ _ _ _ {s with heap:=((s.heap.push (seqObj "list" #[] 0)).update s.heap.objs.size (Obj.mapSeq (·++vs.toArray))).push (seqObj "list" vs.toArray 0)};rw[d];refine Ad (Fj (wpAny_call_entry slot_list_sort ⟨_,e,rfl⟩ entry_list_sort ?body (args_list_sort _)))
 case body =>
  refine YM (s:={s with heap:=((s.heap.push (seqObj "list" #[] 0)).update s.heap.objs.size (Obj.mapSeq (·++vs.toArray))).push (seqObj "list" vs.toArray 0)}) (key:=key) (κ:=κ) e v
   (λp h' k=>y p h' λb o q=>k b o (c b o q) (keep b o q)) (λh' k=>x h' λb o q=>k b o (c b o q) (keep b o q)) λa r t=>?_
  obtain⟨n,u⟩:=sortedHeap_at (vs:=vs) (out:=(a.map λi=>vs.getD i Value.none).toArray) e;refine⟨_,rfl,Aw ⟨_,rfl,h (s.heap.objs.size+1) _ n a (λb o q=>?_) c r t u⟩⟩;show(sortedHeap (((s.heap.push (seqObj "list" #[] 0)).update s.heap.objs.size (Obj.mapSeq (·++vs.toArray))).push (seqObj "list" vs.toArray 0)) (s.heap.objs.size+1) vs _).get? b=some o;rw[sortedHeap_old (c b o q) (A1 (keep b o q))];exact keep b o q
end
@[reducible] def BO (O P:KeyOrd):KeyOrd where
 α:=O.α×P.α
 blt x y:=O.blt x.1 y.1 || (!O.blt y.1 x.1 && P.blt x.2 y.2)
 irrefl x:=by simp[O.irrefl,P.irrefl]
 trans x y z h1 h2:=by
  simp only[Bool.or_eq_true,Bool.and_eq_true,Bool.not_eq_true'] at h1 h2 ⊢;rcases h1 with h1|⟨h1,k1⟩<;>rcases h2 with h2|⟨h2,k2⟩;exact .inl (O.trans _ _ _ h1 h2);exact .inl (KeyOrd.klt_of_klt_of_kle h1 h2);exact .inl (KeyOrd.klt_of_kle_of_klt h1 h2);exact .inr ⟨KeyOrd.kle_trans (O:=O) h1 h2,P.trans _ _ _ k1 k2⟩
 negTrans x y z h:=by
  simp only[Bool.or_eq_true,Bool.and_eq_true,Bool.not_eq_true'] at h ⊢;rcases h with h|⟨h,k⟩;rcases O.negTrans _ y.1 _ h with h|h;exact .inl (.inl h);exact .inr (.inl h)
  cases e1:O.blt x.1 y.1 with
  |true=>exact .inl (.inl rfl)
  |false =>
    cases e2:O.blt y.1 z.1 with
    |true=>exact .inr (.inl rfl)
    |false =>
      have a1:O.kle y.1 x.1:=e1;have a2:O.kle z.1 y.1:=e2;have a3:O.kle x.1 z.1:=h;have b1:O.blt y.1 x.1=false:=KeyOrd.kle_trans (O:=O) a3 a2;have b2:O.blt z.1 y.1=false:=KeyOrd.kle_trans (O:=O) a1 a3;rcases P.negTrans _ y.2 _ k with k|k;exact .inl (.inr ⟨b1,k⟩);exact .inr (.inr ⟨b2,k⟩)
 total x y h1 h2:=by
  simp only[Bool.or_eq_false_iff,Bool.and_eq_false_iff,Bool.not_eq_false'] at h1 h2;have e1:x.1=y.1:=O.total _ _ h1.1 h2.1;have e2:x.2=y.2:=P.total _ _ (by rcases h1.2 with z|z;exact absurd (h2.1.symm.trans z) (by simp);exact z) (by rcases h2.2 with z|z;exact absurd (h1.1.symm.trans z) (by simp);exact z);exact Prod.ext e1 e2
@[reducible] def C8:KeyOrd where
 α:=Str
 blt a b:=decide (a.cps.toList<b.cps.toList)
 irrefl a:=by simpa using List.lt_irrefl a.cps.toList
 trans a b c h1 h2:=by simp only[decide_eq_true_eq] at *;exact List.lt_trans h1 h2
 negTrans a b c h:=by
  simp only[decide_eq_true_eq] at *
  by_cases hab:a.cps.toList<b.cps.toList;exact .inl hab;exact .inr (List.lt_of_le_of_lt (List.not_lt.mp hab) h)
 total a b h1 h2:=by simp only[decide_eq_false_iff_not] at *;exact ext_toList (List.le_antisymm (List.not_lt.mp h2) (List.not_lt.mp h1))
@[reducible] def Ju:KeyOrd where
 α:=Int
 blt a b:=decide (a<b)
 irrefl a:=by simp
 trans a b c h1 h2:=by simp only[decide_eq_true_eq] at *;omega
 negTrans a b c h:=by simp only[decide_eq_true_eq] at *;omega
 total a b h1 h2:=by simp only[decide_eq_false_iff_not] at *;omega
structure II where
 O:KeyOrd
 val:O.α->V
 dflt:O.α
 T:Value
 tT:(T==T)=true
 tN:(T != Value.type "tuple")=true
 look:∀(M:Model)(h:Heap)(a:O.α)(u:Value),RelV (val a) u->PySem.W.Looks M h (typeOf u) T
 eqB:∀(prog:Program)(w:World)(A:Around)(E:Value->Shared->Prop)(s:Shared)(a b:O.α)(u v:Value)(Q:Bool->Shared->Prop),RelV (val a) u->RelV (val b) v->(∀e:Bool,(e=true↔a=b)->Q e s)->wpAny (model prog w) A (eqBool u v) Q E s
 ltB:∀(prog:Program)(w:World)(A:Around)(E:Value->Shared->Prop)(s:Shared)(a b:O.α)(u v:Value)(Q:Bool->Shared->Prop),RelV (val a) u->RelV (val b) v->Q (O.blt a b) s->wpAny (model prog w) A (oneLt' true u v) Q E s
 ltC:∀(prog:Program)(w:World)(A:Around)(E:Value->Shared->Prop)(s:Shared)(a b:O.α)(u v:Value)(Q:Bool->Shared->Prop),RelV (val a) u->RelV (val b) v->Q (O.blt a b) s->wpAny (model prog w) A (oneLt' false u v) Q E s
@[reducible] def ES:II where
 O:=C8
 val:=V.str
 dflt:=default
 T:=.type "str"
 tT:=by decide
 tN:=by decide
 look M h a u r:=by obtain⟨t,rfl⟩:=r;exact PySem.W.Looks.of_pure rfl
 eqB prog w A E s a b u v Q r r' h:=by
  obtain⟨t,rfl⟩:=r;obtain⟨t',rfl⟩:=r';exact eqBool_str (h _ (by simp))
 ltB prog w A E s a b u v Q r r' h:=by
  obtain⟨t,rfl⟩:=r;obtain⟨t',rfl⟩:=r';exact oneLt_str h
 ltC prog w A E s a b u v Q r r' h:=by
  obtain⟨t,rfl⟩:=r;obtain⟨t',rfl⟩:=r';exact PySem.W.kat_one _ _ (PySem.P.lt_str h)
@[reducible] def Jv:II where
 O:=Ju
 val:=V.int
 dflt:=0
 T:=.type "int"
 tT:=by decide
 tN:=by decide
 look M h a u r:=by obtain⟨t,rfl⟩:=r;exact PySem.W.Looks.of_pure rfl
 eqB prog w A E s a b u v Q r r' h:=by
  obtain⟨t,rfl⟩:=r;obtain⟨t',rfl⟩:=r';exact wpAny_eqBool_int (h _ (by simp))
 ltB prog w A E s a b u v Q r r' h:=by
  obtain⟨t,rfl⟩:=r;obtain⟨t',rfl⟩:=r';exact oneLt_int h
 ltC prog w A E s a b u v Q r r' h:=by
  obtain⟨t,rfl⟩:=r;obtain⟨t',rfl⟩:=r';exact PySem.W.kat_one _ _ (PySem.P.lt_int h)
variable {c d:II}
theorem Jw(x y:(BO c.O d.O).α)(e:x.1=y.1):(BO c.O d.O).blt x y=d.O.blt x.2 y.2:=by
 show(c.O.blt x.1 y.1 || (!c.O.blt y.1 x.1 && d.O.blt x.2 y.2))=_;rw[e,c.O.irrefl];rfl
theorem Jx(x y:(BO c.O d.O).α)(e:x.1≠y.1):(BO c.O d.O).blt x y=c.O.blt x.1 y.1:=by
 show(c.O.blt x.1 y.1 || (!c.O.blt y.1 x.1 && d.O.blt x.2 y.2))=_
 cases a:c.O.blt x.1 y.1 with
 |true=>rfl
 |false =>
   cases b:c.O.blt y.1 x.1 with
   |true=>rfl
   |false=>exact absurd (c.O.total _ _ a b) e
section
variable {prog:Program} {w:World} {A:Around} {E:Value->Shared->Prop} {s:Shared}
theorem YN(c d:II){x y:Addr}{p q:(BO c.O d.O).α}{b f g i:Value}{Q:Bool->Shared->Prop}(r:IsTup s.heap x #[b,f])(t:IsTup s.heap y #[g,i])(j:RelV (c.val p.1) b)(k:RelV (d.val p.2) f)(l:RelV (c.val q.1) g)(o:RelV (d.val q.2) i)
 (h:Q ((BO c.O d.O).blt p q) s):wpAny (model prog w) A (keyLt' (tuples' true) (.ref x) (.ref y)) Q E s:=by
 obtain⟨F,B,_,n,u⟩:=r;obtain⟨G,C,_,m,v⟩:=t;refine PySem.W.kat_lt B u C v (PySem.W.kat_cons (c.eqB _ _ _ _ _ _ _ _ _ _ j l λe a=>?_))
 cases e with
 |false =>
   have D:p.1≠q.1:=λz=>Cv (a.mpr z);rw[Jx _ _ D] at h;exact PySem.W.kat_no (c.ltB _ _ _ _ _ _ _ _ _ _ j l h)
 |true =>
   rw[Jw _ _ (a.mp rfl)] at h;refine PySem.W.kat_yes (PySem.W.kat_cons (d.eqB _ _ _ _ _ _ _ _ _ _ k o λe a=>?_))
   cases e with
   |false=>exact PySem.W.kat_no (d.ltC _ _ _ _ _ _ _ _ _ _ k o h)
   |true =>
     refine PySem.W.kat_yes (PySem.W.kat_nil ?_);rw[a.mp rfl,d.O.irrefl] at h;exact h
end
theorem PB{α:Type}{R:α->α->Prop}(tr:∀a b c,R a b->R b c->R a c):∀(l:List α),(∀i a b,l[i]?=some a->l[i+1]?=some b->R a b)->l.Pairwise R
 |[],_=>.nil
 |[x],_=>by simp
 |x::y::r,h=>by
   have f:=PB tr (y::r) λi a b j k=>h (i+1) a b (by simpa using j) (by simpa using k);have g:R x y:=h 0 x y rfl rfl;refine List.pairwise_cons.mpr ⟨λz d=>?_,f⟩;rcases Ch.mp d with e|d;rw[e];exact g;exact tr _ _ _ g ((List.pairwise_cons.mp f).1 z d)
section
variable {X:Cx}
abbrev Row (c d:II):Type:=V×(BO c.O d.O).α
def LH (X:Cx) (c d:II):List V->Hp->VK->Prop:=λvs H Q=>∃(l:Addr)(zs:List (Row c d)),vs=[.ref l]/\Af X.K H l (zs.map (·.1))/\zs.length<64 /\
 (∀z∈zs,∃t,z.1=.ref t/\Aq X.K H t [c.val z.2.1,d.val z.2.2])/\∀(D:Addr)(zs':List (Row c d)),zs'.Perm zs->(zs'.map (·.2)).Pairwise (BO c.O d.O).kle->H D=none->Q (.ref D) (upd H D (.lst (zs'.map (·.1))))
def HR (c d:II) (h:Heap) (z:Row c d) (v:Value):Prop:=∃t u1 u2,z.1=.ref t/\v=.ref t/\IsTup h t #[u1,u2]/\RelV (c.val z.2.1) u1/\RelV (d.val z.2.2) u2
theorem HR.keeps{c d:II}{h h':Heap}{z:Row c d}{v:Value}(k:∀b o,h.get? b=some o->h'.get? b=some o)(x:HR c d h z v):HR c d h' z v:=by
 obtain⟨t,a,e,f,g,i,j⟩:=x;exact⟨t,a,e,f,g,i.keeps k,j⟩
theorem Jy{h:Heap}(zs:List (Row c d))(f:List Value)(g:Paired (HR c d h) zs f):∃fs,PySem.W.KatTups h f fs/\fs.length=zs.length/\∀v∈fs,∃a,RelV (c.val a) v:=by
 induction g with
 |nil=>exact⟨[],.nil,rfl,λ_ x=>by cases x⟩
 |cons i r j =>
   obtain⟨t,k,z,A,l,⟨o,m,p,n,q⟩,s,B⟩:=i;obtain⟨fs,u,w,y⟩:=j;subst l;refine⟨k::fs,.cons m p q rfl u,by simp[w],λv b=>?_⟩;rcases Ch.mp b with e|b;exact⟨_,e▸s⟩;exact y v b
theorem Oa{α β:Type}{R:α->β->Prop}{xs:List α}{ys:List β}(h:Paired R xs ys):∀(i:Nat)(b:α)(c:β),i<xs.length->R (xs.getD i b) (ys.getD i c):=by
 induction h with
 |nil=>intro i b c h;simp at h
 |cons a r d =>
   intro i b c h
   cases i with
   |zero=>exact a
   |succ i=>simpa using d i b c (by simpa using h)
theorem PD{α β γ:Type}{R:α->β->Prop}{f:γ->α}{g:γ->β}:∀(l:List γ),(∀x∈l,R (f x) (g x))->Paired R (l.map f) (l.map g)
 |[],_=>.nil
 |x::l,h=>.cons (h x Bz) (PD l λy a=>h y (Cj _ a))
theorem KE{c d:II}{pins:List (Addr×Obj)}{σ:L2.St}{H:Hp}{s:Shared}(I:Inv X pins σ H s):∀(zs:List (Row c d))(f:List Value),As (zs.map (·.1)) f->(∀z∈zs,∃t,z.1=.ref t/\Aq X.K H t [c.val z.2.1,d.val z.2.2])->Paired (HR c d s.heap) zs f
 |[],f,r,_=>by cases r;exact .nil
 | z :: zs,f,r,h=>by
   cases r with
   |cons a b =>
     obtain⟨t,e,j⟩:=h z Bz;obtain⟨n,g,k,_⟩:=I.tuple j
     cases g with
     |cons g i =>
       cases i with
       |cons i l =>
         cases l;dsimp only at a;rw[e] at a;exact .cons ⟨t,_,_,e,a,k,g,i⟩ (KE I zs _ b λy m=>h y (Cj _ m))
theorem Vv(c d:II):A7 X (.builtin "sorted") (LH X c d):=by
 intro ar s σ H vs us ak I r h;obtain⟨l,b,rfl,Q,aq,R,q⟩:=h;obtain⟨u,rfl,S⟩:=Fm r;obtain rfl:u=Value.ref l:=S;obtain⟨g,U,W,_⟩:=I.list Q;have m:=KE I b g U R;have N:b.length=g.length:=m.length
 let e:Row c d:=(V.non,(c.dflt,d.dflt))
 refine Sx (O:=BO c.O d.O) (key:=λi=>(b.getD i e).2) (κ:=tuples' true) (vs:=g) (by obtain⟨o,n,w,p,F,A⟩:=W;exact⟨o,w,p,n,A⟩) (by omega) (λB C k Q' Y=>?_) (λC k i j al z hj Z=>?_) λD C n f kk G M ae hg=>?_;have af:Paired (HR c d C) b g:=Paired.mapP m λ_ _ x=>x.keeps k;obtain⟨fs,k1,k2,k3⟩:=Jy _ _ af;refine PySem.W.kat_kind (T:=c.T) k1 (by omega) (λv E=>?_) c.tT (by rw[c.tN];exact Y);obtain⟨a,ha⟩:=k3 v E;exact c.look _ _ a v ha;obtain⟨t,u1,u2,w,p,F,A,a5⟩:=(Oa m i e Value.none (by omega)).keeps k;obtain⟨t',ao,v2,b1,b2,b3,b4,b5⟩:=(Oa m j e Value.none (by omega)).keeps k;unfold PySem.W.kas_ask;rw[p,b2];exact YN c d F b3 A a5 b4 b5 Z
 have ag:∀i∈f,i<b.length:=λi z=>by
  have:=M.mem_iff.mp z;rw[N];simpa using this
 have aj:(List.range b.length).map (λi=>b.getD i e)=b:=by
  apply List.ext_getElem?;intro k;by_cases J:k<b.length;simp[J,BY];simp[J]
 have P:(f.map λi=>b.getD i e).Perm b:=by
  have:=M.map (λi=>b.getD i e)
  rwa [<-N,aj] at this
 have E:As ((f.map λi=>b.getD i e).map (·.1)) (f.map λi=>g.getD i Value.none):=by
  rw[DG];refine PD f λi z=>?_;obtain⟨t,u1,u2,w,p,_⟩:=Oa m i e Value.none (ag i z);show RelV (b.getD i e).1 (g.getD i Value.none);rw[w,p];exact rfl
 have ah:((f.map λi=>b.getD i e).map (·.2)).Pairwise (BO c.O d.O).kle:=by
  refine PB (λ_ _ _=>KeyOrd.kle_trans) _ λi a an K B=>?_;rw[DG,Bh,Gr] at K B;obtain⟨x,e1,rfl⟩:=K;obtain⟨y,L,rfl⟩:=B;obtain⟨ai,_⟩:=A9.mp L;have:=ae i ai;have aa:f.getD i 0=x:=by rw[BY,e1];rfl
  have ab:f.getD (i+1) 0=y:=by rw[BY,L];rfl
  rw[aa,ab] at this;exact this
 exact⟨.ref D,upd H D (.lst ((f.map λi=>b.getD i e).map (·.1))),I.laidN (t':=s.toks) kk G ⟨by rw[Al,P.length_eq];exact Di (BC (by omega)),_,n,E,hg⟩,rfl,q D _ P ah (I.freshN G)⟩
end
open Ord
abbrev GQ (p:Str×Int):Dt:=.tup [.str p.1,.int p.2]
abbrev CP:Type:=List (Str×Int)×List Str
abbrev Ob (s:CP):Dt:=.tup [.lst (s.1.map GQ),.lst (s.2.map Dt.str)]
def C9 (K:Ah) (H:Hp) (a:Addr) (gs:List (Str×Int)):Prop:=∃vs,Af K H a vs/\An K H vs (gs.map GQ)
def HE (K:Ah) (H:Hp) (a:Addr) (ss:List CP):Prop:=∃vs,Af K H a vs/\An K H vs (ss.map Ob)
theorem C9.same{K:Ah}{H H':Hp}{a:Addr}{gs:List (Str×Int)}(e:Ac H H')(h:C9 K H a gs):C9 K H' a gs:=by
 obtain⟨b,c,d⟩:=h;exact⟨b,e.seq c,d.same e⟩
theorem Vw{K:Ah}{H:Hp}:∀{vs:List V}{xs:List Str},An K H vs (xs.map Dt.str)->vs=xs.map V.str
 |_,[],.nil=>rfl
 |_,_::_,.cons h t=>by cases h;rw[Vw t];rfl
variable {H:Hp}{v:V}{p:Str×Int}
theorem PH{K:Ah}(h:Ar K H v (GQ p)):∃t,v=.ref t/\Aq K H t [.str p.1,.int p.2]:=by
 cases h with
 | tup h t =>
   cases t with
   |cons a t =>
     cases t with
     |cons b t =>
       cases t;cases a;cases b;exact⟨_,rfl,h⟩
variable {vs:List V}{gs:List (Str×Int)}{i:Nat}
theorem An.goes_get{K:Ah}(h:An K H vs (gs.map GQ))(hv:vs[i]?=some v):∃p t,gs[i]?=some p/\v=.ref t/\Aq K H t [.str p.1,.int p.2]:=by
 obtain⟨d,hd,a⟩:=h.get hv;rw[Bh] at hd
 cases e:gs[i]? with
 |none=>rw[e] at hd;cases hd
 |some p =>
   rw[e] at hd;cases hd;obtain⟨t,b,c⟩:=PH a;exact⟨p,t,rfl,b,c⟩
theorem FK{K:Ah}{s:CP}(h:Ar K H v (Ob s)):∃t g e,v=.ref t/\Aq K H t [.ref g,.ref e]/\C9 K H g s.1/\Af K H e (s.2.map V.str):=by
 cases h with
 | tup h t =>
   cases t with
   |cons b t =>
     cases t with
     |cons c t =>
       cases t
       cases b with
       |lst d f =>
         cases c with
         |lst a i =>
           rw[Vw i] at a;exact⟨_,_,_,rfl,h,⟨_,d,f⟩,a⟩
variable {α:Type}
theorem An.len_map{K:Ah}{f:α->Dt}{xs:List α}(h:An K H vs (xs.map f)):vs.length=xs.length:=by
 have:=h.length
 rwa [Al] at this
theorem YO{b:List Value}{ss:List Str}(c:StrsAre b ss)(a:2<=b.length):keyKind' b.toArray=pure oneType':=by
 match b,c,a with
 |[],_,a=>simp at a
 |[_],_,a=>simp at a
 |d::e::j,c,_=>exact keyKind_strs c
section
variable {X:Cx}
def LI (X:Cx):List V->Hp->VK->Prop:=λvs H Q=>∃(l:Addr)(ss:List Str),vs=[.ref l]/\Af X.K H l (ss.map V.str)/\ss.length<64/\∀(D:Addr)(ss':List Str),ss'.Perm ss->ss'.Pairwise C8.kle->H D=none->Q (.ref D) (upd H D (.lst (ss'.map V.str)))
theorem YQ:A7 X (.builtin "sorted") (LI X):=by
 intro ai s σ H vs us ab I r h;obtain⟨l,a,rfl,F,ah,q⟩:=h;obtain⟨u,rfl,G⟩:=Fm r;obtain rfl:u=Value.ref l:=G;obtain⟨g,m,J,_⟩:=I.list F;have K:=YH m;have C:a.length=g.length:=by have:=m.length;rwa [Al] at this
 have p:∀i,i<a.length->∃t,g.getD i Value.none=.str (a.getD i default) t:=λi c=>by
  have:=Oa m i V.non Value.none (by rw[Al];exact c)
  have e:(a.map V.str).getD i V.non=V.str (a.getD i default):=by
   rw[BY,Bh,BY,AC c];rfl
  rw[e] at this;exact this
 refine Sx (O:=C8) (key:=λi=>a.getD i default) (κ:=oneType') (vs:=g) J.isList (by omega) (λd v k Q' L=>?_) (λv k i j ae c hj M=>?_) λD v n b N w B U P=>?_;rw[YO K d];exact Aw L;obtain⟨t,o⟩:=p i (by omega);obtain⟨t',f⟩:=p j (by omega);unfold PySem.W.kas_ask;rw[o,f,keyLt'_oneType];exact oneLt_str M
 have W:∀i∈b,i<a.length:=λi c=>by
  have:=B.mem_iff.mp c;rw[C];simpa using this
 have aa:(List.range a.length).map (λi=>a.getD i default)=a:=by
  apply List.ext_getElem?;intro k;by_cases z:k<a.length;simp[z,BY];simp[z]
 have E:(b.map λi=>a.getD i default).Perm a:=by
  have:=B.map (λi=>a.getD i default)
  rwa [<-C,aa] at this
 have Q:As ((b.map λi=>a.getD i default).map V.str) (b.map λi=>g.getD i Value.none):=by
  rw[DG];exact PD b λi c=>p i (W i c)
 have Y:(b.map λi=>a.getD i default).Pairwise C8.kle:=by
  refine PB (R:=C8.kle) (λ_ _ _ h k=>KeyOrd.kle_trans (O:=C8) h k) _ λi af ag A d=>?_;rw[Bh,Gr] at A d;obtain⟨x,o,rfl⟩:=A;obtain⟨y,f,rfl⟩:=d;obtain⟨Z,_⟩:=A9.mp f;have:=U i Z;have S:b.getD i 0=x:=by rw[BY,o];rfl
  have T:b.getD (i+1) 0=y:=by rw[BY,f];rfl
  rw[S,T] at this;exact this
 exact⟨.ref D,upd H D (.lst ((b.map λi=>a.getD i default).map V.str)),I.laidN (t':=s.toks) N w ⟨by rw[Al,E.length_eq];exact Di (BC (by omega)),_,n,Q,P⟩,rfl,q D _ E Y (I.freshN w)⟩
end
abbrev PJ (K:Ah) (H:Hp) (z:Row ES Jv):Prop:=∃t,z.1=.ref t/\Aq K H t [V.str z.2.1,V.int z.2.2]
theorem Sy{K:Ah}{H:Hp}:∀{ts:List Addr}{gs:List (Str×Int)},ts.length=gs.length->(∀(n:Nat)(a:Addr)(p:Str×Int),ts[n]?=some a->gs[n]?=some p->H a=some (.tup [.str p.1,.int p.2])) ->
 ∃zs:List (Row ES Jv),zs.map (·.1)=ts.map V.ref/\zs.map (·.2)=gs/\∀z∈zs,PJ K H z
 |[],[],_,_=>⟨[],rfl,rfl,λz hz=>by cases hz⟩
 |[],_::_,h,_=>by simp at h
 |_::_,[],h,_=>by simp at h
 |a::ts,p::gs,h,k=>by
   obtain⟨zs,b,c,d⟩:=Sy (K:=K) (H:=H) (ts:=ts) (gs:=gs) (by simpa using h) λn a p b c=>k (n+1) a p (by simpa using b) (by simpa using c);refine⟨(V.ref a,p)::zs,by rw[DN,b];rfl,by rw[DN,c],λz hz=>?_⟩;rcases Ch.mp hz with e|hz;rw[e];exact⟨a,rfl,Aq.of (k 0 a p rfl rfl)⟩;exact d z hz
theorem Sz{K:Ah}{H:Hp}:∀(zs:List (Row ES Jv)),(∀z∈zs,PJ K H z)->An K H (zs.map (·.1)) ((zs.map (·.2)).map GQ)
 |[],_=>.nil
 |z::zs,h=>by
   obtain⟨t,e,a⟩:=h z Bz;refine .cons ?_ (Sz zs λy b=>h y (Cj _ b));show Ar K H z.1 (GQ z.2);rw[e];exact .tup a (.cons (.str _) (.cons (.int _) .nil))
variable {a D:Addr}{o:HO}{xs:List V}
theorem Af.updN{K:Ah}(b:a≠D)(h:Af K H a xs):Af K (upd H D o) a xs:=by
 rcases h with(h|⟨u,h⟩)|h;exact .inl (.inl (by rw[AD b];exact h));exact .inl (.inr ⟨u,by rw[AD b];exact h⟩);exact .inr h
theorem Aq.updL{K:Ah}{ys:List V}(b:H D=some (.lst ys))(h:Aq K H a xs):Aq K (upd H D o) a xs:=by
 rcases h with(h|⟨u,h⟩)|h;exact .inl (.inl (by rw[AD λz=>by rw[z,b] at h;cases h];exact h));exact .inl (.inr ⟨u,by rw[AD λz=>by rw[z,b] at h;cases h];exact h⟩);exact .inr h
theorem Vx{K:Ah}{H:Hp}{D:Addr}{o:HO}{ys:List V}(b:H D=some (.lst ys)):∀{vs:List V}{gs:List (Str×Int)},An K H vs (gs.map GQ)->An K (upd H D o) vs (gs.map GQ)
 |_,[],.nil=>.nil
 |_,p::gs,.cons h t=>by
   obtain⟨a,e,c⟩:=PH h;subst e;exact .cons (.tup (c.updL b) (.cons (.str _) (.cons (.int _) .nil))) (Vx b t)
theorem C9.updL{K:Ah}{ys:List V}(b:H D=some (.lst ys))(c:a≠D)(h:C9 K H a gs):C9 K (upd H D o) a gs:=by
 obtain⟨vs,d,e⟩:=h;exact⟨vs,d.updN c,Vx b e⟩
structure A0 (K:Ah) (F:Addr->Prop) (H:Hp) (D:Addr) (us:List Addr) (rs:List CP):Prop where
 len:us.length=rs.length
 at_:∀(i:Nat)(u:Addr)(r:CP),us[i]?=some u->rs[i]?=some r->∃G E xs,H u=some (.tup [.ref G,.ref E])/\C9 K H G r.1/\H G=some (.lst xs)/\H E=some (.lst (r.2.map V.str))/\G≠D/\E≠D/\F G/\F E
variable {F:Addr->Prop}
theorem A0.nil{K:Ah}:A0 K F H D [] []:=⟨rfl,λi u r h=>by simp at h⟩
theorem A0.same{K:Ah}{F:Addr->Prop}{H H':Hp}{D:Addr}{us:List Addr}{a:List CP}(e:Ac H H')(h:A0 K F H D us a):A0 K F H' D us a:=by
 refine⟨h.len,λi u r b c=>?_⟩;obtain⟨G,E,xs,d,f,g,j,k,l,m⟩:=h.at_ i u r b c;exact⟨G,E,xs,e _ _ d,f.same e,e _ _ g,e _ _ j,k,l,m⟩
theorem A0.updL{K:Ah}{F:Addr->Prop}{H:Hp}{D:Addr}{o:HO}{ys:List V}{us:List Addr}{c:List CP}(d:H D=some (.lst ys))(h:A0 K F H D us c):A0 K F (upd H D o) D us c:=by
 refine⟨h.len,λi u r f g=>?_⟩;obtain⟨G,E,xs,a,j,k,l,b,e,m⟩:=h.at_ i u r f g;exact⟨G,E,xs,by rw[AD λz=>by rw[z,d] at a;cases a];exact a,j.updL d b,by rw[AD b];exact k,by rw[AD e];exact l,b,e,m⟩
variable {u G E:Addr}{us:List Addr}{rs:List CP}
theorem A0.snoc{K:Ah}{r:CP}(h:A0 K F H D us rs)(d:H u=some (.tup [.ref G,.ref E]))(f:C9 K H G r.1)(g:H G=some (.lst xs))(j:H E=some (.lst (r.2.map V.str)))(k:G≠D)(l:E≠D)(m:F G)(n:F E):A0 K F H D (us++[u]) (rs++[r]):=by
 refine⟨by rw[AV,AV,h.len];rfl,λi v q a b=>?_⟩;rcases Nat.lt_or_ge i us.length with c|p;rw[EJ c] at a;rw[EJ (by rw[<-h.len];exact c)] at b;exact h.at_ i v q a b;have o:i<(us++[u]).length:=(A9.mp a).1;rw[AV,Dh] at o;have e:i=us.length:=(by omega);subst e;rw[EY (AB _),Nat.sub_self] at a;rw[EY (by rw[h.len];exact AB _),h.len,Nat.sub_self] at b;cases a;cases b;exact⟨G,E,xs,d,f,g,j,k,l,m,n⟩
theorem Jz:([]:List V).length+1+1+1<=sizeLine:=by decide
theorem A0.dts{K:Ah}{F:Addr->Prop}{H:Hp}{D:Addr}:∀{us:List Addr}{rs:List CP},A0 K F H D us rs->An K H (us.map V.ref) (rs.map Ob)
 |[],[],_=>.nil
 |[],_::_,h=>by have:=h.len;simp at this
 |_::_,[],h=>by have:=h.len;simp at this
 |u::us,r::rs,h=>by
   obtain⟨G,E,xs,a,⟨g,b,f⟩,j,c,_⟩:=h.at_ 0 u r rfl rfl;refine .cons (.tup (Aq.of a) (.cons (.lst b f) (.cons (.lst (Af.of c) (An.strs _)) .nil))) ?_;exact A0.dts (D:=D) ⟨by simpa using h.len,λi v q d e=>h.at_ (i+1) v q (by simpa using d) (by simpa using e)⟩
theorem A0.stts{K:Ah}(e:H a=some (.lst (us.map V.ref)))(h:A0 K F H a us rs):HE K H a rs:=⟨_,Af.of e,h.dts⟩
variable {O:KeyOrd}
theorem LJ{l m:List O.α}(h:l.Perm m)(c:l.Pairwise O.kle)(d:m.Pairwise O.kle):l=m:=
 h.eq_of_pairwise (λa b _ _ x y=>KeyOrd.kle_antisymm x y) c d
theorem LL(p q:Str×Int):Ev 2 (GQ p) (GQ q):=.tup (.cons (.str _ _) (.cons (.int _ _) (.nil _)))
structure GT (H:Hp) (ts:List Addr) (gs:List (Str×Int)):Prop where
 len:ts.length=gs.length
 at_:∀(n:Nat)(t:Addr)(p:Str×Int),ts[n]?=some t->gs[n]?=some p->H t=some (.tup [.str p.1,.int p.2])
theorem GT.nil:GT H [] []:=⟨rfl,λn t p h=>by simp at h⟩
variable {H':Hp}{ts:List Addr}
theorem GT.same(e:Ac H H')(h:GT H ts gs):GT H' ts gs:=⟨h.len,λn t p a b=>e _ _ (h.at_ n t p a b)⟩
theorem GT.updL(b:H a=some (.lst xs))(h:GT H ts gs):GT (upd H a o) ts gs:=⟨h.len,λn t p c d=>by
 have:=h.at_ n t p c d;rw[AD λz=>by rw[z,b] at this;cases this]
 exact this⟩
theorem GT.snoc{t:Addr}(h:GT H ts gs)(e:H t=some (.tup [.str p.1,.int p.2])):GT H (ts++[t]) (gs++[p]):=by
 refine⟨by rw[AV,AV,h.len];rfl,λn v q a b=>?_⟩;rcases Nat.lt_or_ge n ts.length with c|g;rw[EJ c] at a;rw[EJ (by rw[<-h.len];exact c)] at b;exact h.at_ n v q a b;have f:n<(ts++[t]).length:=(A9.mp a).1;rw[AV,Dh] at f;have d:n=ts.length:=(by omega);subst d;rw[EY (AB _),Nat.sub_self] at a;rw[EY (by rw[h.len];exact AB _),h.len,Nat.sub_self] at b;cases a;cases b;exact e
theorem GT.dts{K:Ah}(h:GT H ts gs):An K H (ts.map V.ref) (gs.map GQ):=by
 obtain⟨a,b,c,d⟩:=Sy (K:=K) h.len h.at_;rw[<-b,<-c];exact Sz a d
variable {g:TG}{te:TE}{σ:St}{n:Nat}
theorem PK{k:Nat}{q:List Nat}{Y:Hp}{Q:Addr->Hp->Prop}{lo:Int}(Pv:Addr->Nat->List V->Hp->Prop)
 (r:∀D,Y D=none->Pv D 0 [] (upd Y D (.lst [])))
 (s:∀(D:Addr)(i:Nat)(ys:List V)(a:Hp)(R:VK),Y D=none->i<n->Pv D i ys a->(∀y c,c D=some (.lst ys)->ys.length<sizeLine->Pv D (i+1) (ys++[y]) (upd c D (.lst (ys++[y])))->R y c)->g (.int (lo+i)) (EH k q σ) a λσ4 h=>te σ4 h R)
 (hd:∀D ys a,Y D=none->Pv D n ys a->Q D a) :
 ∀D,Y D=none->∃W:Nat->Nat->List V->Hp->Prop,(∃m,W 0 m [] (upd Y D (.lst [])))/\∀i m ys a,W i m ys a ->
  ((IF lo n).stop i a/\Q D a)\/((IF lo n).go i a/\∀x f,(IF lo n).yld i a x f->g x (EH k q σ) f λσ4 h=>Hy σ4 h λb o =>
   if b=true then te σ4 o λy c=>c D=some (.lst ys)/\ys.length<sizeLine/\∃d,d<m/\W (i+1) d (ys++[y]) (upd c D (.lst (ys++[y]))) else ∃d,d<m/\W (i+1) d ys o):=by
 intro D j;refine⟨λi m ys a=>m=n-i/\i<=n/\Pv D i ys a,⟨n,rfl,Ck _,r D j⟩,?_⟩;rintro i m ys a ⟨rfl,z,p⟩;by_cases l:i<n;refine .inr ⟨l,λx f y=>?_⟩;obtain⟨rfl,rfl⟩:=y;refine s D i ys f _ j l p λv c t u w=>?_;exact⟨t,u,n-(i+1),by omega,rfl,l,w⟩;have e:i=n:=(by omega);subst e;exact .inl ⟨AB _,hd D ys a j p⟩
structure Keeps (M:Addr->Prop) (H H':Hp):Prop where
 at_:∀x o,H x=some o->¬M x->H' x=some o
 ls:∀x o,M x->H x=some o->∃xs,o=HO.lst xs
section
variable {K:Ah} {M:Addr->Prop} {H H':Hp}
theorem Keeps.refl(h:∀x o,M x->H x=some o->∃xs,o=HO.lst xs):Keeps M H H:=⟨λ_ _ e _=>e,h⟩
theorem Keeps.set(k:Keeps M H H')(a:M D):Keeps M H (upd H' D o):=⟨λx u e n=>by
 have b:x≠D:=λz=>n (by rw[z];exact a)
 rw[AD b];exact k.at_ x u e n,k.ls⟩
theorem Keeps.one(a:H D=some (.lst xs)):Keeps (·=D) H (upd H D o):=
 ⟨λx u e n=>by rw[AD n];exact e,λx u m e=>by rw[m,a] at e;exact⟨xs,(Bv e).symm⟩⟩
theorem Keeps.same{a:Hp}(k:Keeps M H H')(s:Ac H' a):Keeps M H a:=⟨λx o e n=>s _ _ (k.at_ x o e n),k.ls⟩
theorem Keeps.noT(k:Keeps M H H')(h:H a=some (.tup xs)):¬M a:=λm=>by
 obtain⟨_,e⟩:=k.ls _ _ m h;cases e
theorem Keeps.tup(k:Keeps M H H'){a:Addr}{xs:List V}(h:H a=some (.tup xs)):H' a=some (.tup xs):=k.at_ _ _ h (k.noT h)
theorem Keeps.tups(k:Keeps M H H'){ps:List (Str×Str)}(h:Cz H ts ps):Cz H' ts ps:=⟨h.len,λn t p a b=>k.tup (h.at_ n t p a b)⟩
end
theorem PL{K:Ah}{k:Nat}{s:List Nat}{tc:TT}{Y:Hp}{Q:Addr->Hp->Prop}(Pv:Addr->Nat->List V->Hp->Prop)
 (t:∀D,Y D=none->Pv D 0 [] (upd Y D (.lst []))) (u:∀D i ys c,Pv D i ys c->Af K c a xs)
 (w:∀D i x ys c(R:VK)(r:Hp->Prop),Y D=none->xs[i]?=some x->Pv D i ys c->(∀y f,f D=some (.lst ys)->ys.length<sizeLine->Pv D (i+1) (ys++[y]) (upd f D (.lst (ys++[y])))->R y f)->(∀d,Pv D (i+1) ys d->r d)->g x (EH k s σ) c λσ4 l=>tc σ4 l λb d=>if b=true then te σ4 d R else r d)
 (hd:∀D ys c,Y D=none->Pv D xs.length ys c->Q D c) :
 ∀D,Y D=none->∃W:Nat->Nat->List V->Hp->Prop,(∃m,W 0 m [] (upd Y D (.lst [])))/\∀i m ys c,W i m ys c ->
  ((Gx K a).stop i c/\Q D c)\/((Gx K a).go i c/\∀x j,(Gx K a).yld i c x j->g x (EH k s σ) j λσ4 l=>tc σ4 l λb d =>
   if b=true then te σ4 d λy f=>f D=some (.lst ys)/\ys.length<sizeLine/\∃h,h<m/\W (i+1) h (ys++[y]) (upd f D (.lst (ys++[y]))) else ∃h,h<m/\W (i+1) h ys d):=by
 intro D n;refine⟨λi m ys c=>m=xs.length-i/\i<=xs.length/\Pv D i ys c,⟨xs.length,rfl,Ck _,t D n⟩,?_⟩;rintro i m ys c ⟨rfl,F,p⟩;have o:=u D i ys c p;by_cases q:i<xs.length;refine .inr ⟨⟨xs,xs[i],o,by simp[q]⟩,λx j y=>?_⟩;obtain⟨rfl,y⟩:=y;have z:=y xs o;refine w D i x ys j _ _ n z p (λv f A B C=>?_) (λd E=>?_);exact⟨A,B,xs.length-(i+1),by omega,rfl,q,C⟩;exact⟨xs.length-(i+1),by omega,rfl,q,E⟩;have e:i=xs.length:=(by omega);subst e;exact .inl ⟨⟨xs,o,AB _⟩,hd D ys c n p⟩
structure Gd (K:Ah) (F:Addr->Prop) (H:Hp) (t:Addr) (rs:List CP) (n:Int) (ord:List (Str×Str)):Prop where
 ex:∃(a o:Addr)(us:List Addr)(ts:List Addr),H t=some (.tup [.ref a,.int n,.ref o])/\F a/\F o/\a≠o/\H a=some (.lst (us.map V.ref))/\A0 K F H a us rs/\H o=some (.lst (ts.map V.ref))/\Cz H ts ord
theorem Gd.same{K:Ah}{F:Addr->Prop}{H H':Hp}{t:Addr}{rs:List CP}{n:Int}{ord:List (Str×Str)}(s:Ac H H')(h:Gd K F H t rs n ord):Gd K F H' t rs n ord:=by
 obtain⟨a,o,us,ts,b,c,d,e,f,g,i,j⟩:=h.ex;exact⟨a,o,us,ts,s _ _ b,c,d,e,s _ _ f,g.same s,s _ _ i,j.same s⟩
section
variable {X:Cx}
end
abbrev Bp:Option (Str×Int)->Dt
 |none=>.non
 |some p=>GQ p
def G6 (K:Ah) (H:Hp) (a:Addr) (as:List (Option (Str×Int))):Prop:=∃vs,Af K H a vs/\An K H vs (as.map Bp)
abbrev Qu:Type:=Int×Int×List Str
section
variable {K:Ah} {H H':Hp} {a:Addr}
theorem G6.same{as:List (Option (Str×Int))}(e:Ac H H')(h:G6 K H a as):G6 K H' a as:=by
 obtain⟨vs,b,c⟩:=h;exact⟨vs,e.seq b,c.same e⟩
theorem LM{o:Option (Str×Int)}(h:Ar K H v (Bp o)):(o=none/\v=.non)\/∃p t,o=some p/\v=.ref t/\Aq K H t [.str p.1,.int p.2]:=by
 cases o with
 |none=>cases h;exact .inl ⟨rfl,rfl⟩
 |some p =>
   obtain⟨t,e,a⟩:=PH h;exact .inr ⟨p,t,rfl,e,a⟩
theorem G6.get{as:List (Option (Str×Int))}(h:G6 K H a as){k:Nat}(f:k<as.length):∃vs v,Af K H a vs/\vs[k]?=some v/\((as[k]?=some none/\v=.non)\/∃p t,as[k]?=some (some p)/\v=.ref t/\Aq K H t [.str p.1,.int p.2]):=by
 obtain⟨vs,g,j⟩:=h;have b:=AC f;obtain⟨v,l,hd⟩:=j.get' (i:=k) (d:=Bp as[k]) (by rw[Bh,b];rfl);refine⟨vs,v,g,l,?_⟩;rcases LM hd with⟨c,e⟩|⟨p,t,c,e,m⟩;exact .inl ⟨by rw[b,c],e⟩;exact .inr ⟨p,t,by rw[b,c],e,m⟩
theorem C9.get(h:C9 K H a gs){k:Nat}(b:gs[k]?=some p):∃vs t,Af K H a vs/\vs[k]?=some (.ref t)/\Aq K H t [.str p.1,.int p.2]:=by
 obtain⟨vs,c,e⟩:=h;obtain⟨v,f,hd⟩:=e.get' (i:=k) (d:=GQ p) (by rw[Bh,b];rfl);obtain⟨t,rfl,g⟩:=PH hd;exact⟨vs,t,c,f,g⟩
end
structure QT (H:Hp) (ts:List Addr) (qs:List Qu):Prop where
 len:ts.length=qs.length
 at_:∀(n:Nat)(t:Addr)(q:Qu),ts[n]?=some t->qs[n]?=some q->∃u,H t=some (.tup [.int q.1,.int q.2.1,.ref u])/\H u=some (.tup (q.2.2.map V.str))
theorem QT.nil:QT H [] []:=⟨rfl,λn t p h=>by simp at h⟩
variable {qs:List Qu}
theorem QT.same(e:Ac H H')(h:QT H ts qs):QT H' ts qs:=⟨h.len,λn t p a b=>by
 obtain⟨u,c,d⟩:=h.at_ n t p a b
 exact⟨u,e _ _ c,e _ _ d⟩⟩
variable {M:Addr->Prop}
theorem QT.keeps(k:Keeps M H H')(h:QT H ts qs):QT H' ts qs:=⟨h.len,λn t p a b=>by
 obtain⟨u,c,d⟩:=h.at_ n t p a b
 exact⟨u,k.tup c,k.tup d⟩⟩
theorem GT.keeps(k:Keeps M H H')(h:GT H ts gs):GT H' ts gs:=⟨h.len,λn t p a b=>k.tup (h.at_ n t p a b)⟩
theorem QT.snoc{t:Addr}{q:Qu}(h:QT H ts qs)(e:H t=some (.tup [.int q.1,.int q.2.1,.ref u]))(d:H u=some (.tup (q.2.2.map V.str))):QT H (ts++[t]) (qs++[q]):=by
 refine⟨by rw[AV,AV,h.len];rfl,λn v f a b=>?_⟩;rcases Nat.lt_or_ge n ts.length with c|j;rw[EJ c] at a;rw[EJ (by rw[<-h.len];exact c)] at b;exact h.at_ n v f a b;have i:n<(ts++[t]).length:=(A9.mp a).1;rw[AV,Dh] at i;have g:n=ts.length:=(by omega);subst g;rw[EY (AB _),Nat.sub_self] at a;rw[EY (by rw[h.len];exact AB _),h.len,Nat.sub_self] at b;cases a;cases b;exact⟨u,e,d⟩
def Ed (ths:List (Str×Int)) (as:List (Option (Str×Int))) (q:Int):Str×Int:=match as[q.toNat]? with
 |some (some p)=>if p.1=("thing" : Str) then(match ths[p.2.toNat]? with
   |some k=>if k.1=("part" : Str) then("to",k.2) else("no",0)
   |none=>("no",0)) else("no",0)
 |some none=>("open",q)
 |none=>("no",0)
def Dl (ths:List (Str×Int)) (as:List (Option (Str×Int))) (p:Str×Int):Str×Int:=
 if p.1=("part" : Str) then("to",p.2) else if p.1=("sort" : Str) then Ed ths as p.2 else("no",0)
structure Gy (ths:List (Str×Int)) (as:List (Option (Str×Int))):Prop where
 q:∀p∈ths,p.1=("sort" : Str)->0<=p.2/\p.2<as.length
 t:∀p,some p∈as->p.1=("thing" : Str)->0<=p.2/\p.2<ths.length
variable {ths:List (Str×Int)}{as:List (Option (Str×Int))}
theorem YR(h:as[n]?=some none):Ed ths as (n:Int)=(("open" : Str),(n:Int)):=by
 unfold Ed;rw[Bl,h]
theorem YS(h:as[n]?=some (some p))(a:p.1≠("thing" : Str)):Ed ths as (n:Int)=(("no" : Str),0):=by
 unfold Ed;rw[Bl,h];exact Aj a
variable {m:Nat}
theorem YT{k:Str×Int}(h:as[n]?=some (some p))(a:p.1=("thing" : Str))(b:p.2=(m:Int))(c:ths[m]?=some k)(d:k.1=("part" : Str)):Ed ths as (n:Int)=(("to" : Str),k.2):=by
 unfold Ed;rw[Bl,h]
 show(if p.1=("thing" : Str) then _ else _)=_
 rw[Ak a,b,Bl,c];exact Ak d
theorem YU{k:Str×Int}(h:as[n]?=some (some p))(a:p.1=("thing" : Str))(b:p.2=(m:Int))(c:ths[m]?=some k)(d:k.1≠("part" : Str)):Ed ths as (n:Int)=(("no" : Str),0):=by
 unfold Ed;rw[Bl,h]
 show(if p.1=("thing" : Str) then _ else _)=_
 rw[Ak a,b,Bl,c];exact Aj d
variable {L:Pos}{x:Str}
theorem Vy{X:Cx}{e:Expr}{op:Operator}{a:R2}{t:Pos}(b:X.N.Nodup)(c:X.N[i]?=some x)(d:Loc X.env.scope x)(f:PE X e te)(g:DJ X (inplaceOp op) a)(h:X.fn x=true\/X.env.scope.names.lookup x=some .local:=by first|exact .inl rfl|exact .inr rfl|assumption) :
 PS X (.AugAssign (.Name x t) op e L) (NI i te a):=Le b c d f g h
abbrev Cg:Type:=Str×Str×Int
abbrev HF (p:Cg):List V:=[.str p.1,.str p.2.1,.int p.2.2]
abbrev DV:Type:=Str×Str×Str×Int
abbrev HG (p:DV):List V:=[.str p.1,.str p.2.1,.str p.2.2.1,.int p.2.2.2]
section
variable {α:Type} {f:α->List V} {H H':Hp} {ts:List Addr} {rs:List α}
structure RT (f:α->List V) (H:Hp) (ts:List Addr) (rs:List α):Prop where
 len:ts.length=rs.length
 at_:∀(n:Nat)(t:Addr)(r:α),ts[n]?=some t->rs[n]?=some r->H t=some (.tup (f r))
theorem RT.nil:RT f H [] []:=⟨rfl,λn t p h=>by simp at h⟩
theorem RT.same(e:Ac H H')(h:RT f H ts rs):RT f H' ts rs:=⟨h.len,λn t p a b=>e _ _ (h.at_ n t p a b)⟩
theorem RT.keeps(k:Keeps M H H')(h:RT f H ts rs):RT f H' ts rs:=⟨h.len,λn t p a b=>k.tup (h.at_ n t p a b)⟩
theorem RT.snoc{t:Addr}{r:α}(h:RT f H ts rs)(e:H t=some (.tup (f r))):RT f H (ts++[t]) (rs++[r]):=by
 refine⟨by rw[AV,AV,h.len];rfl,λn v q a b=>?_⟩;rcases Nat.lt_or_ge n ts.length with c|i;rw[EJ c] at a;rw[EJ (by rw[<-h.len];exact c)] at b;exact h.at_ n v q a b;have g:n<(ts++[t]).length:=(A9.mp a).1;rw[AV,Dh] at g;have d:n=ts.length:=(by omega);subst d;rw[EY (AB _),Nat.sub_self] at a;rw[EY (by rw[h.len];exact AB _),h.len,Nat.sub_self] at b;cases a;cases b;exact e
theorem RT.dts{K:Ah}{g:α->Dt}(c:∀(r:α)(t:Addr),H t=some (.tup (f r))->Ar K H (.ref t) (g r))(h:RT f H ts rs):An K H (ts.map V.ref) (rs.map g):=by
 refine An.of_get (by simpa using h.len) λn v d a b=>?_;rw[Bh] at a b;obtain⟨t,e,rfl⟩:=Gr.mp a;obtain⟨q,i,rfl⟩:=Gr.mp b;exact c q t (h.at_ n t q e i)
end
abbrev Bj:Type:=List Cg×List DV
structure IJ (H:Hp) (u G E:Addr) (s:Bj):Prop where
 u:H u=some (.tup [.ref G,.ref E])
 g:∃ts:List Addr,H G=some (.lst (ts.map V.ref))/\RT HF H ts s.1
 e:∃ts:List Addr,H E=some (.lst (ts.map V.ref))/\RT HG H ts s.2
theorem IJ.same{H H':Hp}{u G E:Addr}{s:Bj}(e:Ac H H')(h:IJ H u G E s):IJ H' u G E s:=by
 obtain⟨a,⟨ts,b,c⟩,⟨us,d,f⟩⟩:=h;exact⟨e _ _ a,⟨ts,e _ _ b,c.same e⟩,⟨us,e _ _ d,f.same e⟩⟩
theorem IJ.keeps{M:Addr->Prop}{H H':Hp}{u G E:Addr}{s:Bj}(k:Keeps M H H')(b:¬M G)(c:¬M E)(h:IJ H u G E s):IJ H' u G E s:=by
 obtain⟨a,⟨ts,d,e⟩,⟨us,f,g⟩⟩:=h;exact⟨k.tup a,⟨ts,k.at_ _ _ d b,e.keeps k⟩,⟨us,k.at_ _ _ f c,g.keeps k⟩⟩
structure Dm (H:Hp) (D:Addr) (us Gs Es:List Addr) (ss:List Bj):Prop where
 top:H D=some (.lst (us.map V.ref))
 lu:us.length=ss.length
 lg:Gs.length=ss.length
 le:Es.length=ss.length
 at_:∀(i:Nat)(u G E:Addr)(s:Bj),us[i]?=some u->Gs[i]?=some G->Es[i]?=some E->ss[i]?=some s->IJ H u G E s
theorem Dm.same{H H':Hp}{D:Addr}{us a b:List Addr}{ss:List Bj}(e:Ac H H')(h:Dm H D us a b ss):Dm H' D us a b ss:=
 ⟨e _ _ h.top,h.lu,h.lg,h.le,λi u G E s c d f g=>(h.at_ i u G E s c d f g).same e⟩
variable {Gs Es:List Addr}{ss:List Bj}
theorem Dm.get(h:Dm H D us Gs Es ss)(a:i<ss.length) :
 ∃u G E,us[i]?=some u/\Gs[i]?=some G/\Es[i]?=some E/\ss[i]?=some ss[i]/\IJ H u G E ss[i]:=by
 have b:us[i]?=some (us[i]'(by rw[h.lu];exact a)):=AC _;have c:Gs[i]?=some (Gs[i]'(by rw[h.lg];exact a)):=AC _;have d:Es[i]?=some (Es[i]'(by rw[h.le];exact a)):=AC _;exact⟨_,_,_,b,c,d,AC a,h.at_ i _ _ _ _ b c d (AC a)⟩
theorem Dm.step(h:Dm H D us Gs Es ss)(q:(D::(Gs++Es)).Nodup){t:Addr}{p:Cg}(g:i<ss.length)(b:Gs[i]?=some G)(r:H G=some (.lst (ts.map V.ref)))(T:RT HF H ts ss[i].1)(v:H t=some (.tup (HF p))) :
 Dm (upd H G (.lst (ts.map V.ref++[.ref t]))) D us Gs Es (ss.set i (ss[i].1++[p],ss[i].2)):=by
 have k:Keeps (·=G) H (upd H G (.lst (ts.map V.ref++[.ref t]))):=Keeps.one r;obtain⟨w,I⟩:=Go.mp q;obtain⟨x,ne,J⟩:=List.nodup_append.mp I;have l:G∈Gs:=Bd b;refine⟨k.at_ _ _ h.top λz=>w (z▸Ej _ l),by rw[FW];exact h.lu,by rw[FW];exact h.lg,by rw[FW];exact h.le,λj u m E s n c f d=>?_⟩;have o:E≠G:=λz=>J G l E (Bd f) z.symm;by_cases e:i=j;subst e;rw[b] at c;cases c;rw[List.getElem?_set_self g] at d;cases d;obtain⟨a,_,⟨y,A,B⟩⟩:=h.at_ i u G E _ n b f (AC g);exact⟨k.tup a,⟨ts++[t],by rw[Aa,Bk];rfl,(T.keeps k).snoc (k.tup v)⟩,⟨y,k.at_ _ _ A o,B.keeps k⟩⟩;rw[List.getElem?_set_ne e] at d
 have K:m≠G:=λz=>by
  subst z;obtain⟨L,C⟩:=A9.mp c;obtain⟨M,F⟩:=A9.mp b;exact e ((List.getElem_inj x).mp (F.trans C.symm))
 exact(h.at_ j u m E s n c f d).keeps k K o
theorem Dm.alive(h:Dm H D us Gs Es ss):∀x∈Gs++Es,∃xs,H x=some (.lst xs):=λx a=>by
 rcases BF.mp a with a|a;obtain⟨j,b⟩:=List.getElem?_of_mem a;have f:j<ss.length:=by rw[<-h.lg];exact(A9.mp b).1
 obtain⟨g,i,k,l,c,d,m,⟨_,⟨n,e,_⟩,_⟩⟩:=h.get f;rw[b] at c;cases c;exact⟨_,e⟩;obtain⟨j,b⟩:=List.getElem?_of_mem a;have f:j<ss.length:=by rw[<-h.le];exact(A9.mp b).1
 obtain⟨g,i,k,l,c,d,m,⟨_,_,⟨n,e,_⟩⟩⟩:=h.get f;rw[b] at d;cases d;exact⟨_,e⟩
theorem Dm.nil(h:H D=some (.lst [])):Dm H D [] [] [] []:=⟨h,rfl,rfl,rfl,λi u G E s a=>by simp at a⟩
variable {s:Bj}
theorem Dm.snoc(h:Dm H D us Gs Es ss)(g:IJ H u G E s)(j:G≠D)(l:E≠D)(f:∀x∈Gs++Es,x≠D) :
 Dm (upd H D (.lst (us.map V.ref++[.ref u]))) D (us++[u]) (Gs++[G]) (Es++[E]) (ss++[s]):=by
 have k:Keeps (·=D) H (upd H D (.lst (us.map V.ref++[.ref u]))):=Keeps.one h.top;refine⟨by rw[Aa,Bk];rfl,by simp[h.lu],by simp[h.lg],by simp[h.le],λi m n o Z d a b c=>?_⟩;rcases Nat.lt_or_ge i ss.length with e|r;rw[EJ (by rw[h.lu];exact e)] at d;rw[EJ (by rw[h.lg];exact e)] at a;rw[EJ (by rw[h.le];exact e)] at b;rw[EJ e] at c;exact(h.at_ i m n o Z d a b c).keeps k (f _ (Ej _ (Bd a))) (f _ (De _ (Bd b)));have q:i<(ss++[s]).length:=(A9.mp c).1;rw[AV,Dh] at q;have p:i=ss.length:=(by omega);subst p;rw[EY (by rw[h.lu];exact AB _),h.lu,Nat.sub_self] at d;rw[EY (by rw[h.lg];exact AB _),h.lg,Nat.sub_self] at a;rw[EY (by rw[h.le];exact AB _),h.le,Nat.sub_self] at b;rw[EY (AB _),Nat.sub_self] at c;cases d;cases a;cases b;cases c;exact g.keeps k j l
theorem YV(a:(D::(Gs++Es)).Nodup)(b:G∉D::(Gs++Es))(c:E∉D::(Gs++Es))(d:G≠E):(D::((Gs++[G])++(Es++[E]))).Nodup:=by
 have p:(D::((Gs++[G])++(Es++[E]))).Perm (G::E::(D::(Gs++Es))):=by
  have e:(D::((Gs++[G])++(Es++[E]))).Perm (E::(D::((Gs++[G])++Es))):=by
   have:(D::((Gs++[G])++(Es++[E])))=(D::((Gs++[G])++Es))++[E]:=(by simp);rw[this];exact List.perm_append_singleton _ _
  have J:(D::((Gs++[G])++Es)).Perm (G::(D::(Gs++Es))):=by
   have:(D::((Gs++[G])++Es))=(D::Gs)++G::Es:=(by simp);rw[this];exact List.perm_middle
  exact(e.trans (J.cons E)).trans (List.Perm.swap _ _ _)
 rw[p.nodup_iff,Go,Go];refine⟨λz=>?_,c,a⟩;rcases Ch.mp z with z|z;exact d z;exact b z
def BP (ths:List (Str×Int)) (as:List (Option (Str×Int))) (p:Cg):Str×Int:=
 if p.2.1=("to" : Str) then("to",p.2.2) else match as[p.2.2.toNat]? with
 |some (some w)=>if w.1=("thing" : Str) then(match ths[w.2.toNat]? with
   |some k=>Dl ths as k
   |none=>("no",0)) else("no",0)
 |some none=>("open",p.2.2)
 |none=>("no",0)
theorem YW{p:Cg}(h:p.2.1=("to" : Str)):BP ths as p=(("to" : Str),p.2.2):=Ak h
theorem YX{p:Cg}(h:p.2.1≠("to" : Str))(a:p.2.2=(n:Int))(b:as[n]?=some none):BP ths as p=(("open" : Str),p.2.2):=by
 unfold BP;rw[Aj h,a,Bl,b]
theorem YY{p:Cg}{w:Str×Int}(h:p.2.1≠("to" : Str))(a:p.2.2=(n:Int))(b:as[n]?=some (some w))(c:w.1≠("thing" : Str)):BP ths as p=(("no" : Str),0):=by
 unfold BP;rw[Aj h,a,Bl,b];exact Aj c
theorem YZ{p:Cg}{w k:Str×Int}(h:p.2.1≠("to" : Str))(a:p.2.2=(n:Int))(b:as[n]?=some (some w))(c:w.1=("thing" : Str))(d:w.2=(m:Int))(e:ths[m]?=some k):BP ths as p=Dl ths as k:=by
 unfold BP;rw[Aj h,a,Bl,b]
 show(if w.1=("thing" : Str) then _ else _)=_
 rw[Ak c,d,Bl,e]
section
variable {X:Cx}
end
def FL (s q:Int) (p:Str×Int):Prop:=(p.1=("plain" : Str)/\p.2=0)\/(p.1=("part" : Str)/\0<=p.2/\p.2<s)\/(p.1=("sort" : Str)/\0<=p.2/\p.2<q)
def Fp (s q:Int) (p:Cg):Prop:=(p.2.1=("to" : Str)/\0<=p.2.2/\p.2.2<s)\/(p.2.1=("by" : Str)/\0<=p.2.2/\p.2.2<q)
def Fq (t q:Int) (p:DV):Prop:=(p.2.2.1=("thing" : Str)/\0<=p.2.2.2/\p.2.2.2<t)\/(p.2.2.1=("by" : Str)/\0<=p.2.2.2/\p.2.2.2<q)
structure Ge (H:Hp) (S T R:Addr) (us Gs Es ts qt:List Addr) (ss:List Bj) (gs:List (Str×Int)) (qs:List Qu):Prop where
 sc:Dm H S us Gs Es ss
 et:H T=some (.lst (ts.map V.ref))
 tg:GT H ts gs
 er:H R=some (.lst (qt.map V.ref))
 tq:QT H qt qs
theorem Ge.same{H H':Hp}{S T R:Addr}{us Gs Es ts a:List Addr}{ss:List Bj}{gs:List (Str×Int)}{qs:List Qu}(e:Ac H H')(h:Ge H S T R us Gs Es ts a ss gs qs):Ge H' S T R us Gs Es ts a ss gs qs:=
 ⟨h.sc.same e,e _ _ h.et,h.tg.same e,e _ _ h.er,h.tq.same e⟩
abbrev JA (K:Ah):List V->Hp->VK->Prop:=λxs H Q=>∃p ys,xs=[V.ref p]/\(Af K H p ys\/Aq K H p ys)/\∀l,H l=none->Q (V.ref l) (upd H l (HO.lst ys))
theorem Dm.tell(h:Dm H D us Gs Es ss)(q:(D::(Gs++Es)).Nodup){t:Addr}{p:DV}(g:i<ss.length)(b:Es[i]?=some E)(r:H E=some (.lst (ts.map V.ref)))(T:RT HG H ts ss[i].2)(v:H t=some (.tup (HG p))) :
 Dm (upd H E (.lst (ts.map V.ref++[.ref t]))) D us Gs Es (ss.set i (ss[i].1,ss[i].2++[p])):=by
 have k:Keeps (·=E) H (upd H E (.lst (ts.map V.ref++[.ref t]))):=Keeps.one r;obtain⟨w,C⟩:=Go.mp q;obtain⟨K,ne,F⟩:=List.nodup_append.mp C;have l:E∈Es:=Bd b;refine⟨k.at_ _ _ h.top λz=>w (z▸De _ l),by rw[FW];exact h.lu,by rw[FW];exact h.lg,by rw[FW];exact h.le,λj u G m s n f c d=>?_⟩;have o:G≠E:=λz=>F G (Bd f) E l z;by_cases e:i=j;subst e;rw[b] at c;cases c;rw[List.getElem?_set_self g] at d;cases d;obtain⟨a,⟨I,x,y⟩,_⟩:=h.at_ i u G E _ n f b (AC g);exact⟨k.tup a,⟨I,k.at_ _ _ x o,y.keeps k⟩,⟨ts++[t],by rw[Aa,Bk];rfl,(T.keeps k).snoc (k.tup v)⟩⟩;rw[List.getElem?_set_ne e] at d
 have J:m≠E:=λz=>by
  subst z;obtain⟨L,A⟩:=A9.mp c;obtain⟨M,B⟩:=A9.mp b;exact e ((List.getElem_inj ne).mp (B.trans A.symm))
 exact(h.at_ j u G m s n f c d).keeps k o J
def KG (K:Ah) (l:Addr):It:=
 ⟨λi H=>∃xs x,Af K H l xs/\xs[i]?=some x,
  λi H v H'=>∃T x,H T=none/\v=.ref T/\H'=upd H T (.tup [.int i,x])/\∀xs,Af K H l xs->xs[i]?=some x,
  λi H=>∃xs,Af K H l xs/\xs.length<=i⟩
def LO (e it l:Addr) (i:Nat) (h:Heap):Prop:=(∃old,IsEnum h e it i old)/\h.IsListIter it l i
variable {w:World}{l:Addr}
theorem Y0{af:Program}{K:Ah}{es:List Expr}{k:Nat}{e d:Addr}(aa:e≠d) :
 Fl af w K (.Tuple es k L) (KG K l) [e,d] e (LO e d l) where
 mem:=by simp
 obj:=λi h g b a=>by
  obtain⟨⟨C,f⟩,⟨o1,M,c1,d1⟩⟩:=g;simp at a;rcases a with rfl|rfl;exact⟨_,f,λv q=>by cases q⟩;exact⟨_,M,λv q=>by rw[d1] at q;cases q⟩
 keep:=λi h h' g Y=>by
  obtain⟨⟨C,f⟩,p⟩:=g;exact⟨⟨C,Y e (by simp) _ f⟩,p.at λo x=>Y d (by simp) o x⟩
 item:=by
  intro X N O P r i V s σ H E I B g Q;subst N O P;obtain⟨xs,x,J,Z⟩:=Q;obtain⟨⟨C,f⟩,p⟩:=g;obtain⟨au,U,R,ai⟩:=I.list J;obtain⟨F,aj,ak⟩:=U.get Z;refine wpAny_pyNext_enum_item f p R.isList (x:=F) (by simpa using aj) aa λh' a1 a2 a3 a4 hk=>?_;refine⟨_,rfl,wpAny_letOwnedTupleGo_enum (s:={s with heap:=h',toks:=s.toks+1}) a1 λD av W=>?_⟩;have t:=B e (by simp);have y:=B d (by simp);have G0:∀b u,H b=some u->b≠e/\b≠d:=λb u z=>⟨AH z t.1,AH z y.1⟩;have keep:∀b o,b≠e->b≠d->s.heap.get? b=some o->D.get? b=some o:=λb o G S z=>(W.2 b G).trans (hk b o G S z);have A:∀{b:Addr},b∉[e,d]->b≠e/\b≠d:=λ{b}a=>by simpa using a
  have I1:Inv X V σ H {s with heap:=D,toks:=s.toks+1}:=by
   refine I.step (g':=s.gens) (t':=s.toks+1) (d':=s.drawn) (h':=D) (ch:=[e,d]) (λb a=>?_) (λb j _ _ a z _=>keep b j (A a).1 (A a).2 z) (λb j _ _ a z _=>⟨j.slots,keep b j (A a).1 (A a).2 z⟩)
    (λ_ _ _ _ n=>n) (λb j a z=>⟨j,keep b j (A a).1 (A a).2 z⟩) (λ_ _ z=>z) (λ_ _ _ z=>z) (λb ps z=>⟨#[],by rw[z];simp⟩) (λm hm=>?_) (λb u z=>?_) I.bare
   have:b=e\/b=d:=(by simpa using a);rcases this with rfl|rfl;exact⟨t.2.2.2.1,t.2.1,t.2.2.2.2.1,t.2.2.2.2.2⟩;exact⟨y.2.2.2.1,y.2.1,y.2.2.2.2.1,y.2.2.2.2.2⟩;obtain⟨o,es,ep,ho,ag⟩:=hm;exact⟨o,es,ep,keep _ o (Ne.symm t.2.1) (Ne.symm y.2.1) ho,ag⟩;refine(I.hok b u z).stay (λc v r q=>?_) (λ_ q=>q) λ_ _ q=>q
   have al:∃T,H c=some T:=by
    rcases r with rfl|r;exact⟨_,z⟩;exact⟨_,r⟩
   obtain⟨T,e'⟩:=al;obtain⟨G,S⟩:=G0 c T e';exact keep c v G S q
  have an:s.heap.objs.size≠e:=Nat.ne_of_gt (A1 f);have ab:H s.heap.objs.size=none:=I.hok.fresh (AB _);have ae:D.get? s.heap.objs.size=some {cls:=.type "tuple",data:=.seq #[.int i s.toks,F]}:=(W.2 _ an).trans a3
  have I2:Inv X V σ (upd H s.heap.objs.size (.tup [.int i,x])) {s with heap:=D,toks:=s.toks+1}:=by
   refine I1.track (I.fpOk (AB _) ab) ⟨_,ae⟩ ?_;exact⟨by show 2<=sizeLine;decide,[.int i s.toks,F],.cons ⟨_,rfl⟩ (.cons ak .nil),⟨_,ae,rfl,_,rfl⟩⟩
  refine⟨.ref s.heap.objs.size,_,I2,rfl,⟨s.heap.objs.size,x,ab,rfl,rfl,λzs ao=>by rw[I.list_inj ao J];exact Z⟩,?_,λb a=>?_⟩;refine⟨⟨F,by simpa using av⟩,a2.extBut W.extBut (Ne.symm aa)⟩;have aq:=(B b a).1;rw[AD (λq=>?_)];exact aq;have ar:b=e\/b=d:=(by simpa using a);obtain⟨o1,M,_⟩:=p
  have lt:b<s.heap.objs.size:=by
   rcases ar with rfl|rfl;exact A1 f;exact A1 M
  rw[q] at lt;exact absurd lt (F7 _)
 done:=by
  intro X N O P r i V s σ H E I B g Q;subst N O P;obtain⟨xs,J,ay⟩:=Q;obtain⟨⟨C,f⟩,p⟩:=g;obtain⟨au,U,R,ai⟩:=I.list J;have ax:=U.length;obtain⟨f0,ah,aw,f3,f4,f5⟩:=B d (by simp);exact wpAny_pyNext_enum_end (I.ok.hd r) f p R.isList (by simp;omega) λh' eb=>⟨rfl,I.turned (t':=s.toks) (λb o a z=>eb b o a z) f0 ah f3 f4 f5⟩
 self:=λ_ _ _ _ _ g h=>by
  obtain⟨⟨C,f⟩,_⟩:=g;exact wpAny_pyIter_enum f h
def Oc (K:Ah) (ta:TA):TI:=λσ H R=>ta σ H λvs Y=>∃l,vs=[.ref l]/\(∃xs,Y l=some (.lst xs))/\R (KG K l) Y
theorem PM{X:Cx}{es:List Expr}{k:Nat}{j:Pos}{a:Expr}{f:TA}{p:Pos}(m:Gl X "enumerate")(o:X.mg "enumerate" = none)(r:PA X [a] f)(t:starEach [a] X.env=[(false,eval a X.env)]:=by rfl) :
 PI X (.Tuple es k j) (.Call (.Name "enumerate" p) [a] [] L) (Oc X.K f):=by
 intro G s σ H R I h;refine Call_ (IX I m o (u:=.type "enumerate") (by decide +kernel) (PyProof.Rows.callWith_type1 (AW (r L G s σ H _ I h) λus c⟨vs,Y,d,v,w⟩=>?_) (by rw[t];rfl) (by rfl)));obtain⟨l,rfl,⟨xs,x⟩,q⟩:=w;obtain⟨y,rfl,E⟩:=Fm v;obtain rfl:y=Value.ref l:=E;obtain⟨z,M,n,J,e⟩:=d.hok l _ x;have K:l<c.heap.objs.size:=A1 e;refine call_enumerate_1 e λA g B N C=>?_;refine wpAny_pyIter_enum (s:={c with heap:=A}) g ?_;refine⟨_,[c.heap.objs.size+1,c.heap.objs.size],_,_,Y,rfl,d.kept (t':=c.toks) C,Y0 (Nat.succ_ne_self _),⟨⟨_,g⟩,B⟩,λb D=>?_,q⟩
 have i:c.heap.objs.size<=b:=by
  have F:b=c.heap.objs.size+1\/b=c.heap.objs.size:=(by simpa using D);rcases F with rfl|rfl;exact Nat.le_add_right _ _;exact AB _
 exact d.fpOk i (d.hok.fresh i)
theorem SA{K:Ah}{tb:TS}{D:Ends}(Pv:Nat->St->Hp->Prop)(f:Pv 0 σ H)(h:∀i σ H,Pv i σ H->Af K H l xs)
 (j:∀i x T σ H,xs[i]?=some x->H T=none->Pv i σ H->g (.ref T) σ (upd H T (.tup [.int i,x])) λσ2 a=>tb {D with nx:=Pv (i+1),ct:=Pv (i+1),bk:=D.nx} σ2 a) (hd:∀σ H,Pv xs.length σ H->D.nx σ H) :
 ∃W:Nat->Nat->St->Hp->Prop,(∃m,W 0 m σ H)/\∀i m σ H,W i m σ H ->
  ((KG K l).stop i H/\D.nx σ H)\/((KG K l).go i H/\∃N:St->Hp->Prop,(∀σ' H',N σ' H'->∃c,c<m/\W (i+1) c σ' H')/\∀x H',(KG K l).yld i H x H'->g x σ H' λσ2 a=>tb {D with nx:=N,ct:=N,bk:=D.nx} σ2 a):=by
 refine⟨λi m σ H=>m=xs.length-i/\i<=xs.length/\Pv i σ H,⟨_,rfl,Ck _,f⟩,?_⟩;rintro i m σ H ⟨rfl,q,p⟩;have b:=h i σ H p;by_cases d:i<xs.length;refine .inr ⟨⟨xs,xs[i],b,by simp[d]⟩,Pv (i+1),λσ' H' k=>⟨xs.length-(i+1),by omega,rfl,d,k⟩,λv H' y=>?_⟩;obtain⟨T,x,n,rfl,rfl,o⟩:=y;exact j i x T σ H (o xs b) n p;have e:i=xs.length:=(by omega);refine .inl ⟨⟨xs,b,by omega⟩,?_⟩;rw[e] at p;exact hd σ H p
open PySem.SeqAt
open PySem.AutoSeq1 (wpAny_loadPart')
open PySem.MeetsSeq PySem.MeetsSeq2 PySem.MeetsSeq3
def B6 (A:Around) (s:Shared) (x y:Value) (b:Bool):Prop:=
 ∀(prog:Program)(w:World)(E:Value->Shared->Prop)(Q:Value->Shared->Prop),Q (.bool b) s->wpAny (model prog w) A (richCompare .Lt x y) Q E s
inductive BL (A:Around) (s:Shared):List Value->List Value->Bool->Prop where
 |nil:BL A s [] [] false
 |lt (w:Value) (ws:List Value):BL A s [] (w::ws) true
 |gt (v:Value) (vs:List Value):BL A s (v::vs) [] false
 |eq {v w:Value} {vs ws:List Value} {b:Bool} (h:EqAt A s v w true) (t:BL A s vs ws b):BL A s (v::vs) (w::ws) b
 |ne {v w:Value} {vs ws:List Value} {b:Bool} (h:EqAt A s v w false) (l:B6 A s v w b):BL A s (v::vs) (w::ws) b
theorem Y1(l b:Addr)(f e:Array Value)(n C:Nat)(D K:Option Addr)(E L:Array (Option Value))(c:Bool) :
 Meets (Builtin.«tuple.__lt__» ⟨[.ref l,.ref b],[]⟩)
  (λA R s=>s.heap.get? l=some {cls:=.type "tuple",dict:=D,data:=.seq f n,slots:=E}/\s.heap.get? b=some {cls:=.type "tuple",dict:=K,data:=.seq e C,slots:=L} /\
   BL A.in1 s f.toList e.toList c/\R (.ok (.ret (.bool c))) s):=
 .of_wp λu w A R s h=>by
  obtain⟨v,g,d,tk,z⟩:=s;obtain⟨F,G,i,h⟩:=h;have N:=AutoSeq1.sub_tuple_tuple
  wp_walk using wpAny_loadPart' F,wpAny_loadPart' G,wpAny_forIn_list _ (λj b Z=>b.1=none/\Z=⟨v,g,d,tk,z⟩/\∃(vs k:List Value),j=vs.zip k /\
   BL A.in1 ⟨v,g,d,tk,z⟩ vs k c/\vs.length+e.size=k.length+f.size) _
  case turn =>
   rintro⟨y,x⟩ j b Z ⟨q,rfl,vs,k,a,r,m⟩
   cases r with
   |nil=>rw[List.zip_nil_left] at a;cases a
   |lt=>rw[List.zip_nil_left] at a;cases a
   |gt=>rw[List.zip_nil_right] at a;cases a
   |eq o H =>
     rw[List.zip_cons_cons] at a;injection a with t B;injection t with p i;subst p i;simp only[Ek] at m;refine Ad (o u w _ _ ?_)
     wp_walk
     exact⟨rfl,rfl,_,_,B,H,by omega⟩
   |ne o I =>
     rw[List.zip_cons_cons] at a;injection a with t B;injection t with p i;subst p i;refine Ad (o u w _ _ ?_);have M:=I u w
     wp_walk using M
     exact⟨_,rfl,by simpa using h⟩
  case fin =>
   rintro⟨O,P⟩ Z ⟨q,rfl,vs,k,a,r,m⟩;simp only at q;subst q
   have J:c=decide (f.size<e.size):=by
    cases r with
    |nil =>
      simp only[Gp] at m;exact(DT (by omega)).symm
    |lt =>
      simp only[Gp,Ek] at m;exact(A5 (by omega)).symm
    |gt =>
      simp only[Gp,Ek] at m;exact(DT (by omega)).symm
    |eq=>rw[List.zip_cons_cons] at a;cases a
    |ne=>rw[List.zip_cons_cons] at a;cases a
   rw[J] at h
   wp_walk
   exact⟨_,rfl,by simpa [Builtin.Tuple.tupleCompareSizes] using h⟩
  case h =>
   exact⟨rfl,rfl,f.toList,e.toList,rfl,i,by simp[Nat.add_comm]⟩
theorem Y2(l b:Addr)(f e:Array Value)(n C:Nat)(D N:Option Addr)(E O:Array (Option Value))(c:Bool)(k:Nat) :
 ∀i:Nat,f.size-i=k->i<=f.size->i<=e.size->Meets (Builtin.«list.__eq__.loop» ⟨[.ref l,.ref b,rawInt i,rawInt 0],[]⟩)
  (λA R s=>s.heap.get? l=some {cls:=.type "list",dict:=D,data:=.seq f n,slots:=E}/\s.heap.get? b=some {cls:=.type "list",dict:=N,data:=.seq e C,slots:=O} /\
   BL A.in1 s (f.toList.drop i) (e.toList.drop i) c/\R (.ok (.ret (.bool c))) s):=by
 induction k with
 |zero =>
   intro i F G P q w A R s h;obtain⟨H,g,d,tk,I⟩:=s;obtain⟨j,m,a,h⟩:=h;have u:f.toList.drop i=[]:=by simp;omega
   rw[u] at a
   have v:c=decide (f.size<e.size):=by
    generalize o:e.toList.drop i=r at a;have x:=BI List.length o;simp only[Kr,Array.length_toList] at x
    cases a with
    |nil=>simp only[Gp] at x;exact(DT (by omega)).symm
    |lt=>simp only[Ek] at x;exact(A5 (by omega)).symm
   wp_walk using wpAny_loadPart' j,wpAny_loadPart' m
   have p:f[((i:Nat):Int).toNat]?=none:=by simp;omega
   rw[p]
   wp_walk using wpAny_loadPart' j,wpAny_loadPart' m
   show R (.ok (.ret (.bool (decide (f.size<e.size))))) _;rw[<-v];exact h
 |succ k J =>
   intro i F G P q w A R s h;obtain⟨H,g,d,tk,I⟩:=s;obtain⟨j,m,a,h⟩:=h;have z:i<f.size:=(by omega);have p:f[((i:Nat):Int).toNat]?=some f[i]:=(by simp[z]);have u:f.toList.drop i=f[i]::f.toList.drop (i+1):=(by simp[MO,z]);rw[u] at a
   wp_walk using wpAny_loadPart' j,wpAny_loadPart' m
   by_cases B:i<e.size;have t:e[((i:Nat):Int).toNat]?=some e[i]:=(by simp[B]);have o:e.toList.drop i=e[i]::e.toList.drop (i+1):=(by simp[MO,B]);have K:((i:Int)+1)=((i+1:Nat):Int):=by push_cast;rfl
   rw[o] at a;rw[p,t]
   cases a with
   |eq y L =>
     refine Ad (y q w _ _ ?_)
     wp_walk
     rw[K]
     exact⟨plainId_quiet plain_eq_loop _,codeAny_builtin entry_eq_loop (by
      rw[Around.under_plainId plain_eq_loop _]
      exact J (i+1) (by omega) (by omega) (by omega) q w A R _ ⟨j,m,L,h⟩)⟩
   |ne y M =>
     refine Ad (y q w _ _ ?_);have Q:=M q w
     wp_walk using wpAny_loadPart' j,wpAny_loadPart' m
     rw[p,t]
     wp_walk using Q
     exact h
   have t:e[((i:Nat):Int).toNat]?=none:=by simp;omega
   have o:e.toList.drop i=[]:=by simp;omega
   rw[o] at a
   have v:c=decide (f.size<e.size):=by
    cases a;exact(DT (by omega)).symm
   rw[p,t]
   wp_walk using wpAny_loadPart' j,wpAny_loadPart' m
   show R (.ok (.ret (.bool (decide (f.size<e.size))))) _;rw[<-v];exact h
theorem Vz(l b:Addr)(f e:Array Value)(n a:Nat)(i o:Option Addr)(j p:Array (Option Value))(c:Bool) :
 Meets (Builtin.«list.__lt__» ⟨[.ref l,.ref b],[]⟩)
  (λA R s=>s.heap.get? l=some {cls:=.type "list",dict:=i,data:=.seq f n,slots:=j}/\s.heap.get? b=some {cls:=.type "list",dict:=o,data:=.seq e a,slots:=p} /\
   BL A.in1 s f.toList e.toList c/\R (.ok (.ret (.bool c))) s):=by
 intro r w A R s h;obtain⟨t,g,d,tk,u⟩:=s;obtain⟨k,m,q,h⟩:=h;have v:=AutoSeq1.sub_list_list
 wp_walk using wpAny_loadPart' k,wpAny_loadPart' m
 exact⟨plainId_quiet plain_eq_loop _,codeAny_builtin entry_eq_loop (by
  rw[Around.under_plainId plain_eq_loop _]
  exact Y2 l b f e n a i o j p c _ 0 rfl (Ck _) (Ck _) r w A R _ ⟨k,m,by simpa using q,h⟩)⟩
section
variable {A:Around} {s:Shared}
variable {b:Addr}{f e:Array Value}
theorem B6.tuples{c:Bool}(k:IsTup s.heap l f)(m:IsTup s.heap b e)(o:BL A.in1 s f.toList e.toList c)(p:A.units<cLine):B6 A s (.ref l) (.ref b) c:=λz w E Q h=>by
 obtain⟨⟨y,q,B,r⟩,a,d,n,hd⟩:=id k;obtain⟨⟨C,u,data2,v⟩,g,i,t,j⟩:=id m;simp only at d hd i j;subst d hd i j
 exact richCompare_meets_room (op:=.Lt) ⟨_,a,rfl⟩ ⟨_,g,rfl⟩ PySem.F.slot_tuple_lt PySem.F.entry_tuple_lt (PySem.F.args_tuple_lt_2 _ _) (Y1 l b f e n t q u r v c)
  ⟨a,g,o,show Value.bool c≠Value.notImplemented/\Q (.bool c) s from⟨(λx=>nomatch x),h⟩⟩ p
theorem B6.lists{c:Bool}(k:s.heap.IsList l f)(m:s.heap.IsList b e)(o:BL A.in1 s f.toList e.toList c)(p:A.units<cLine):B6 A s (.ref l) (.ref b) c:=λz w E Q h=>by
 obtain⟨⟨y,q,B,r⟩,a,d,n,hd⟩:=id k;obtain⟨⟨C,u,data2,v⟩,g,i,t,j⟩:=id m;simp only at d hd i j;subst d hd i j
 exact richCompare_meets_room (op:=.Lt) ⟨_,a,rfl⟩ ⟨_,g,rfl⟩ PySem.F.slot_list_lt PySem.F.entry_list_lt (PySem.F.args_list_lt_2 _ _) (Vz l b f e n t q u r v c)
  ⟨a,g,o,show Value.bool c≠Value.notImplemented/\Q (.bool c) s from⟨(λx=>nomatch x),h⟩⟩ p
theorem VA{prog:Program}{E:Value->Shared->Prop}{c:Bool}{Q:Bool->Shared->Prop}(j:s.heap.IsList l f)(k:s.heap.IsList b e)(m:BL A.in1 s f.toList e.toList c)(o:A.units<cLine)(h:Q c s) :
 wpAny (model prog w) A (oneLt' true (.ref l) (.ref b)) Q E s:=by
 obtain⟨⟨x,p,y,q⟩,a,d,n,hd⟩:=id j;obtain⟨⟨z,t,data2,u⟩,v,g,r,i⟩:=id k;simp only at d hd g i;subst d hd g i;rw[oneLt'_eq];simp only[if_true];refine Ad (wpAny_cRoomFor o ?_);refine Ad (wpAny_callSpecialIfBound?_slot (T:= "list") ⟨_,a,rfl⟩ PySem.F.slot_list_lt (call_meets PySem.F.slot_list_lt ⟨_,a,rfl⟩ PySem.F.entry_list_lt (PySem.F.args_list_lt_2 _ _) (Vz l b f e n r p t q u c) ⟨a,v,m,?_⟩));exact FI h
end
def E3 (O:KeyOrd):List O.α->List O.α->Bool
 |[],[]=>false
 |[],_::_=>true
 |_::_,[]=>false
 |x::xs,y::ys=>O.blt x y || (!O.blt y x && E3 O xs ys)
theorem LP(O:KeyOrd)(x y:O.α)(xs ys:List O.α):E3 O (x::xs) (y::ys)=(O.blt x y || (!O.blt y x && E3 O xs ys)):=rfl
theorem VB(O:KeyOrd):∀xs,E3 O xs xs=false
 |[]=>rfl
 |x::xs=>by rw[LP,O.irrefl,VB O xs];rfl
theorem VC(O:KeyOrd):∀xs ys zs,E3 O xs ys=true->E3 O ys zs=true->E3 O xs zs=true
 |[],[],_,h,_=>by cases h
 |[],_::_,[],_,k=>by cases k
 |[],_::_,_::_,_,_=>rfl
 |_::_,[],_,h,_=>by cases h
 |_::_,_::_,[],_,k=>by cases k
 |x::xs,y::ys,z::zs,a,b=>by
   rw[LP] at *;simp only[Bool.or_eq_true,Bool.and_eq_true,Bool.not_eq_true'] at a b ⊢
   rcases a with a|⟨a,c⟩<;>rcases b with b|⟨b,d⟩;exact .inl (O.trans _ _ _ a b);exact .inl (KeyOrd.klt_of_klt_of_kle a b);exact .inl (KeyOrd.klt_of_kle_of_klt a b);exact .inr ⟨KeyOrd.kle_trans (O:=O) a b,VC O xs ys zs c d⟩
theorem VD(O:KeyOrd):∀xs ys zs,E3 O xs zs=true->E3 O xs ys=true\/E3 O ys zs=true
 |[],[],[],h=>by cases h
 |[],[],_::_,_=>.inr rfl
 |[],_::_,_,_=>.inl rfl
 |_::_,_,[],h=>by cases h
 |_::_,[],_::_,_=>.inr rfl
 | x :: xs,y :: ys,z :: zs,h=>by
   rw[LP] at *;rw[LP];simp only[Bool.or_eq_true,Bool.and_eq_true,Bool.not_eq_true'] at h ⊢
   rcases h with h|⟨h,k⟩;rcases O.negTrans _ y _ h with h|h;exact .inl (.inl h);exact .inr (.inl h)
   cases b:O.blt x y with
   |true=>exact .inl (.inl rfl)
   |false =>
     cases c:O.blt y z with
     |true=>exact .inr (.inl rfl)
     |false =>
       have d:O.kle y x:=b;have e:O.kle z y:=c;have a:O.kle x z:=h;have f:O.blt y x=false:=KeyOrd.kle_trans (O:=O) a e;have g:O.blt z y=false:=KeyOrd.kle_trans (O:=O) d a;rcases VD O xs ys zs k with k|k;exact .inl (.inr ⟨f,k⟩);exact .inr (.inr ⟨g,k⟩)
theorem VE(O:KeyOrd):∀xs ys,E3 O xs ys=false->E3 O ys xs=false->xs=ys
 |[],[],_,_=>rfl
 |[],_::_,h,_=>by cases h
 |_::_,[],_,k=>by cases k
 |x::xs,y::ys,a,b=>by
   rw[LP] at a b;simp only[Bool.or_eq_false_iff,Bool.and_eq_false_iff,Bool.not_eq_false'] at a b;have c:x=y:=O.total _ _ a.1 b.1;have d:xs=ys:=VE O xs ys (by rcases a.2 with z|z;exact absurd (b.1.symm.trans z) (by simp);exact z) (by rcases b.2 with z|z;exact absurd (a.1.symm.trans z) (by simp);exact z);rw[c,d]
@[reducible] def Od (O:KeyOrd):KeyOrd where
 α:=List O.α
 blt:=E3 O
 irrefl:=VB O
 trans:=VC O
 negTrans:=VD O
 total:=VE O
theorem M6{P:KeyOrd}(x y:(BO O P).α)(e:x.1=y.1):(BO O P).blt x y=P.blt x.2 y.2:=by
 show(O.blt x.1 y.1 || (!O.blt y.1 x.1 && P.blt x.2 y.2))=_;rw[e,O.irrefl];rfl
theorem M7{P:KeyOrd}(x y:(BO O P).α)(e:x.1≠y.1):(BO O P).blt x y=O.blt x.1 y.1:=by
 show(O.blt x.1 y.1 || (!O.blt y.1 x.1 && P.blt x.2 y.2))=_
 cases a:O.blt x.1 y.1 with
 |true=>rfl
 |false =>
   cases b:O.blt y.1 x.1 with
   |true=>rfl
   |false=>exact absurd (O.total _ _ a b) e
theorem Y3(x:O.α)(xs ys:List O.α):E3 O (x::xs) (x::ys)=E3 O xs ys:=by
 rw[LP,O.irrefl];rfl
theorem Y4{x y:O.α}(xs ys:List O.α)(e:x≠y):E3 O (x::xs) (y::ys)=O.blt x y:=by
 rw[LP]
 cases a:O.blt x y with
 |true=>rfl
 |false =>
   cases b:O.blt y x with
   |true=>rfl
   |false=>exact absurd (O.total _ _ a b) e
mutual
theorem Ev.mono {n m:Nat}{d e:Dt} (c:Ev n d e) (h:n<=m):Ev m d e:=by
 cases c with
 | non=>exact .non
 | bl a b=>exact .bl a b
 | int a b=>exact .int a b
 | str a b=>exact .str a b
 | tup t=>cases m with
   | zero=>exact absurd h (Nat.not_succ_le_zero _)
   | succ m=>exact .tup (Cw.mono t (Nat.le_of_succ_le_succ h))
 | lst t=>cases m with
   | zero=>exact absurd h (Nat.not_succ_le_zero _)
   | succ m=>exact .lst (Cw.mono t (Nat.le_of_succ_le_succ h))
 | apart a=>cases m with
   | zero=>exact absurd h (Nat.not_succ_le_zero _)
   | succ m=>exact .apart a
theorem Cw.mono {n m:Nat}{a es:List Dt} (c:Cw n a es) (h:n<=m):Cw m a es:=by
 cases c with
 | nil=>exact .nil _
 | nil'=>exact .nil' _
 | cons c t=>exact .cons (Ev.mono c h) (Cw.mono t h)
end
structure Enc where
 O:KeyOrd
 D:O.α->Dt
 dflt:O.α
 dep:Nat
 cmp:∀a b,Ev dep (D a) (D b)
 inj:∀a b,D a=D b->a=b
 lt:∀{X:Cx}{pins:List (Addr×Obj)}{σ:St}{H:Hp}{s:Shared},Inv X pins σ H s->∀{a b:O.α}{v u:V}{x y:Value}{A:Around},Ar X.K H v (D a)->Ar X.K H u (D b)->RelV v x->RelV u y->A.units+dep<cLine->B6 A s x y (O.blt a b)
section
variable {X:Cx} {pins:List (Addr×Obj)} {σ:St} {H:Hp} {s:Shared}
theorem Enc.eq(c:Enc)(I:Inv X pins σ H s){a b:c.O.α}{u:V}{x y:Value}{A:Around}(hv:Ar X.K H v (c.D a))(d:Ar X.K H u (c.D b))(e:RelV v x)(f:RelV u y)(g:A.units+c.dep<cLine):EqAt A s x y (dec (a=b)):=by
 have:=Vq (A:=A) I (c.cmp a b) hv d e f g
 rwa [M4 (p:=c.D a=c.D b) (q:=a=b) ⟨c.inj a b,λz=>by rw[z]⟩] at this
theorem Enc.lex(c:Enc)(I:Inv X pins σ H s){a b:c.O.α}{u:V}{x y:Value}{A:Around}{vs ws:List Value}{e f:Bool}(hv:Ar X.K H v (c.D a))(h:Ar X.K H u (c.D b))(i:RelV v x)(j:RelV u y)(k:A.units+c.dep<cLine)(l:a=b->BL A s vs ws e/\f=e)(m:a≠b->f=c.O.blt a b):BL A s (x::vs) (y::ws) f:=by
 have d:=c.eq (A:=A) I hv h i j k;by_cases g:a=b;rw[Fn g] at d;obtain⟨t,rfl⟩:=l g;exact .eq d t;rw[F1 g] at d;rw[m g];exact .ne d (c.lt I hv h i j k)
end
@[reducible] def FM:Enc where
 O:=Ju
 D:=Dt.int
 dflt:=(0:Int)
 dep:=0
 cmp a b:=.int a b
 inj a b h:=Dt.int.inj h
 lt {X pins σ H s} I {a b v u x y A} hv hu rx ry _:=by
  cases hv;cases hu;obtain⟨t,rfl⟩:=rx;obtain⟨t',rfl⟩:=ry;exact λprog w E Q h=>(PySem.P.lt_int h:wpAny (model prog w) _ (compareOp .Lt _ _) Q E _)
@[reducible] def SD:Enc where
 O:=C8
 D:=Dt.str
 dflt:=(default:Str)
 dep:=0
 cmp a b:=.str a b
 inj a b h:=Dt.str.inj h
 lt {X pins σ H s} I {a b v u x y A} hv hu rx ry _:=by
  cases hv;cases hu;obtain⟨t,rfl⟩:=rx;obtain⟨t',rfl⟩:=ry;exact λprog w E Q h=>(PySem.P.lt_str h:wpAny (model prog w) _ (compareOp .Lt _ _) Q E _)
section
variable {X:Cx} {pins:List (Addr×Obj)} {σ:St} {H:Hp} {s:Shared}
theorem Enc.lexL(c:Enc)(I:Inv X pins σ H s){A:Around}(j:A.units+c.dep<cLine):∀{as bs:List c.O.α}{vs us:List V}{xs ys:List Value},An X.K H vs (as.map c.D)->An X.K H us (bs.map c.D)->As vs xs->As us ys->BL A s xs ys (E3 c.O as bs):=by
 intro as
 induction as with
 |nil =>
   intro bs vs us xs ys g d i f;cases g;cases i
   cases bs with
   |nil=>cases d;cases f;exact .nil
   |cons b bs=>cases d;cases f;exact .lt _ _
 |cons a as k =>
   intro bs vs us xs ys g d i f
   cases g with
   |cons h t=>cases i with
     |cons r q=>cases bs with
       |nil=>cases d;cases f;exact .gt _ _
       |cons b bs=>cases d with
         |cons l m=>cases f with
           |cons n o=>exact c.lex I h l r n j (λe=>⟨k t m q o,by subst e;exact Y3 a as bs⟩) (λe=>Y4 as bs e)
end
theorem VF(c:Enc):∀{a b:List c.O.α},a.map c.D=b.map c.D->a=b
 |[],[],_=>rfl
 |[],_::_,h=>by cases h
 |_::_,[],h=>by cases h
 |x::a,y::b,h=>by
   rw[DN,DN] at h;injection h with d e;rw[c.inj x y d,VF c e]
@[reducible] def Ew (c:Enc):Enc where
 O:=Od c.O
 D l:=Dt.lst (l.map c.D)
 dflt:=([]:List c.O.α)
 dep:=c.dep+1
 cmp a b:=.lst (Cw.of λd hd e he=>by
  obtain⟨x,_,rfl⟩:=Bn.mp hd;obtain⟨y,_,rfl⟩:=Bn.mp he
  exact c.cmp x y)
 inj a b h:=VF c (Dt.lst.inj h)
 lt {X pins σ H s} I {a b v u x y A} hv hu rx ry hA:=by
  cases hv with
  |lst h t =>
    cases hu with
    |lst h' t' =>
      cases rx;cases ry;obtain⟨its,r,p,_⟩:=I.list h;obtain⟨its',r',p',_⟩:=I.list h';exact B6.lists p.isList p'.isList (c.lexL (A:=A.in1) I (by rw[HB];omega) t t' r r') (by omega)
theorem LQ{K:Ah}{d e:Dt}(h:An K H vs [d,e]):∃a b,vs=[a,b]/\Ar K H a d/\Ar K H b e:=by
 cases h with
 |cons c t=>cases t with
   |cons f t=>cases t;exact⟨_,_,rfl,c,f⟩
theorem Oe{K:Ah}{d e f:Dt}(h:An K H vs [d,e,f]):∃a b c,vs=[a,b,c]/\Ar K H a d/\Ar K H b e/\Ar K H c f:=by
 cases h with
 |cons g t=>obtain⟨a,b,rfl,i,j⟩:=LQ t;exact⟨_,_,_,rfl,g,i,j⟩
theorem HH{x y z:V}{us:List Value}(r:As [x,y,z] us):∃u w v,us=[u,w,v]/\RelV x u/\RelV y w/\RelV z v:=by
 cases r with
 |cons c d=>obtain⟨a,b,rfl,e,f⟩:=Jc d;exact⟨_,_,_,rfl,c,e,f⟩
@[reducible] def LR (c d:Enc):Enc where
 O:=BO c.O d.O
 D p:=Dt.tup [c.D p.1,d.D p.2]
 dflt:=(c.dflt,d.dflt)
 dep:=max c.dep d.dep+1
 cmp a b:=.tup (.cons ((c.cmp a.1 b.1).mono (Nat.le_max_left _ _)) (.cons ((d.cmp a.2 b.2).mono (Nat.le_max_right _ _)) (.nil _)))
 inj a b h:=by
  injection h with h;injection h with h1 h2;injection h2 with h2 _;exact Prod.ext (c.inj _ _ h1) (d.inj _ _ h2)
 lt {X pins σ H s} I {a b v u x y A} hv hu rx ry hA:=by
  have m1:=Nat.le_max_left c.dep d.dep;have m2:=Nat.le_max_right c.dep d.dep
  cases hv with
  |tup h t =>
    cases hu with
    |tup h' t' =>
      cases rx;cases ry;obtain⟨its,r,p,_⟩:=I.tuple h;obtain⟨its',r',p',_⟩:=I.tuple h';obtain⟨v1,v2,rfl,t1,t2⟩:=LQ t;obtain⟨u1,u2,rfl,s1,s2⟩:=LQ t';obtain⟨x1,x2,rfl,r1,r2⟩:=Jc r;obtain⟨y1,y2,rfl,q1,q2⟩:=Jc r';refine B6.tuples p p' (c.lex (A:=A.in1) I t1 s1 r1 q1 (by rw[HB];omega) (λe=>⟨d.lex (A:=A.in1) I t2 s2 r2 q2 (by rw[HB];omega) (λe'=>⟨.nil,?_⟩) λe'=>rfl,M6 a b e⟩) λe=>M7 a b e) (by omega);rw[e',d.O.irrefl]
@[reducible] def KH (c d e:Enc):Enc where
 O:=BO c.O (BO d.O e.O)
 D p:=Dt.tup [c.D p.1,d.D p.2.1,e.D p.2.2]
 dflt:=(c.dflt,d.dflt,e.dflt)
 dep:=max c.dep (max d.dep e.dep)+1
 cmp a b:=.tup (.cons ((c.cmp a.1 b.1).mono (Nat.le_max_left _ _)) (.cons ((d.cmp a.2.1 b.2.1).mono (by omega)) (.cons ((e.cmp a.2.2 b.2.2).mono (by omega)) (.nil _))))
 inj a b h:=by
  injection h with h;injection h with h1 h2;injection h2 with h2 h3;injection h3 with h3 _;exact Prod.ext (c.inj _ _ h1) (Prod.ext (d.inj _ _ h2) (e.inj _ _ h3))
 lt {X pins σ H s} I {a b v u x y A} hv hu rx ry hA:=by
  have m1:=Nat.le_max_left c.dep (max d.dep e.dep);have m2:=Nat.le_max_right c.dep (max d.dep e.dep);have m3:=Nat.le_max_left d.dep e.dep;have m4:=Nat.le_max_right d.dep e.dep
  cases hv with
  |tup h t =>
    cases hu with
    |tup h' t' =>
      cases rx;cases ry;obtain⟨its,r,p,_⟩:=I.tuple h;obtain⟨its',r',p',_⟩:=I.tuple h';obtain⟨v1,v2,v3,rfl,t1,t2,t3⟩:=Oe t;obtain⟨u1,u2,u3,rfl,s1,s2,s3⟩:=Oe t';obtain⟨x1,x2,x3,rfl,r1,r2,r3⟩:=HH r;obtain⟨y1,y2,y3,rfl,q1,q2,q3⟩:=HH r';refine B6.tuples p p' (c.lex (A:=A.in1) I t1 s1 r1 q1 (by rw[HB];omega) (λg=>⟨d.lex (A:=A.in1) I t2 s2 r2 q2 (by rw[HB];omega) (λg'=>⟨e.lex (A:=A.in1) I t3 s3 r3 q3 (by rw[HB];omega) (λg''=>⟨.nil,?_⟩) λ_=>rfl,M6 a.2 b.2 g'⟩) λg'=>M7 a.2 b.2 g',M6 a b g⟩) λg=>M7 a b g) (by omega);rw[g'',e.O.irrefl]
section
variable {X:Cx}
abbrev DO (c:Enc):Type:=V×c.O.α
def PP (X:Cx) (c:Enc):List V->Hp->VK->Prop:=λvs H Q=>∃(l:Addr)(zs:List (DO c)),vs=[.ref l]/\Af X.K H l (zs.map (·.1))/\zs.length<64 /\
 (∀z∈zs,Ar X.K H z.1 (c.D z.2))/\∀(D:Addr)(zs':List (DO c)),zs'.Perm zs->(zs'.map (·.2)).Pairwise c.O.kle->H D=none->Q (.ref D) (upd H D (.lst (zs'.map (·.1))))
theorem SE(c:Enc)(κ:SortKind)
 (aj:∀(pins:List (Addr×Obj))(σ:St)(H:Hp)(s:Shared)(zs:List (DO c))(g:List Value)(Q:SortKind->Shared->Prop),Inv X pins σ H s->As (zs.map (·.1)) g->(∀z∈zs,Ar X.K H z.1 (c.D z.2))->2<=g.length->Q κ s->wpAny (model X.prog X.w) X.A.in1.in1 (keyKind' g.toArray) Q (λ_ _=>False) s)
 (ai:∀(pins:List (Addr×Obj))(σ:St)(H:Hp)(s:Shared)(z m:DO c)(x y:Value)(C:Bool->Shared->Prop),Inv X pins σ H s->Ar X.K H z.1 (c.D z.2)->Ar X.K H m.1 (c.D m.2)->RelV z.1 x->RelV m.1 y->C (c.O.blt z.2 m.2) s->wpAny (model X.prog X.w) X.A.in1.in1 (keyLt' κ x y) C (λ_ _=>False) s) :
 A7 X (.builtin "sorted") (PP X c):=by
 intro pins s σ H vs us Q I r h;obtain⟨l,zs,rfl,L,an,v,q⟩:=h;obtain⟨u,rfl,M⟩:=Fm r;obtain rfl:u=Value.ref l:=M;obtain⟨g,p,N,_⟩:=I.list L;have J:zs.length=g.length:=by have:=p.length;rwa [Al] at this
 let b:DO c:=(V.non,c.dflt)
 have t:∀i,i<zs.length->RelV (zs.getD i b).1 (g.getD i Value.none)/\Ar X.K H (zs.getD i b).1 (c.D (zs.getD i b).2):=λi d=>by
  have:=Oa p i V.non Value.none (by rw[Al];exact d)
  have e:(zs.map (·.1)).getD i V.non=(zs.getD i b).1:=by
   rw[BY,Bh,BY,AC d];rfl
  rw[e] at this;refine⟨this,v _ ?_⟩;rw[BY,AC d];exact D9 d
 refine Sx (O:=c.O) (key:=λi=>(zs.getD i b).2) (κ:=κ) (vs:=g) N.isList (by omega) (λo w k P R=>?_) (λw k i j C d hj S=>?_) λD w n f T A G ae U=>?_;exact aj pins σ H _ zs g P (I.kept (t':=s.toks) k) p v o R;obtain⟨W,Y⟩:=t i (by omega);obtain⟨Z,b2⟩:=t j (by omega);unfold PySem.W.kas_ask;exact ai pins σ H _ _ _ _ _ C (I.kept (t':=s.toks) k) Y b2 W Z S
 have af:∀i∈f,i<zs.length:=λi d=>by
  have:=G.mem_iff.mp d;rw[J];simpa using this
 have ak:(List.range zs.length).map (λi=>zs.getD i b)=zs:=by
  apply List.ext_getElem?;intro k;by_cases B:k<zs.length;simp[B,BY];simp[B]
 have K:(f.map λi=>zs.getD i b).Perm zs:=by
  have:=G.map (λi=>zs.getD i b)
  rwa [<-J,ak] at this
 have hv:As ((f.map λi=>zs.getD i b).map (·.1)) (f.map λi=>g.getD i Value.none):=by
  rw[DG];exact PD f λi d=>(t i (af i d)).1
 have ag:((f.map λi=>zs.getD i b).map (·.2)).Pairwise c.O.kle:=by
  refine PB (λ_ _ _=>KeyOrd.kle_trans) _ λi a al E o=>?_;rw[DG,Bh,Gr] at E o;obtain⟨x,e1,rfl⟩:=E;obtain⟨y,F,rfl⟩:=o;obtain⟨ah,_⟩:=A9.mp F;have:=ae i ah;have aa:f.getD i 0=x:=by rw[BY,e1];rfl
  have ab:f.getD (i+1) 0=y:=by rw[BY,F];rfl
  rw[aa,ab] at this;exact this
 exact⟨.ref D,upd H D (.lst ((f.map λi=>zs.getD i b).map (·.1))),I.laidN (t':=s.toks) T A ⟨by rw[Al,K.length_eq];exact Di (BC (by omega)),_,n,hv,U⟩,rfl,q D _ K ag (I.freshN A)⟩
theorem SF{pins:List (Addr×Obj)}{s:Shared}{M:Model}(I:Inv X pins σ H s){a:List Dt}{x:Value}(h:Ar X.K H v (.lst a))(r:RelV v x):PySem.W.Looks M s.heap (typeOf x) (.type "list"):=by
 cases h with
 |lst h t =>
   cases r;obtain⟨d,_,p,_⟩:=I.list h;obtain⟨o,b,c,_⟩:=p.isList;rw[<-c];exact(PySem.W.Looks.ld b).andThen .now
theorem Y5(c:Enc)(J:X.A.units+64<cLine)(hd:c.dep<=50):A7 X (.builtin "sorted") (PP X (Ew c)):=by
 refine SE (Ew c) oneType' (λG σ H s f E Q I b g j k=>?_) λG σ H s z l x y C I h a r m n=>?_;refine PySem.W.kas_kind (T:=.type "list") j (λv o=>?_) (by decide) (by decide) k;obtain⟨i,d⟩:=List.getElem?_of_mem o;have K:=(A9.mp d).1;have q:=b.length;rw[Al] at q;obtain⟨x,e,w⟩:=b.get (i:=i) (x:=(f[i]'(by omega)).1) (by rw[Bh,AC (by omega)];rfl);rw[d] at e;cases e;exact SF I (g _ (D9 (by omega))) w;rw[keyLt'_oneType];obtain⟨v,as⟩:=z;obtain⟨u,bs⟩:=l
 cases h with
 |lst h t =>
   cases a with
   |lst a A =>
     cases r;cases m;obtain⟨E,B,p,_⟩:=I.list h;obtain⟨L,F,D,_⟩:=I.list a;exact VA p.isList D.isList (c.lexL I (by show _+1+1+1+_<_;omega) t A B F) (by show _+1+1<_;omega) n
theorem SG(c:Enc){pins:List (Addr×Obj)}{σ:St}{H:Hp}{s:Shared}(I:Inv X pins σ H s){g:c.O.α->List Dt}:∀{zs:List (V×c.O.α)}{f:List Value}{k:c.O.α->List Dt},As (zs.map (·.1)) f->(∀z∈zs,∃b,k z.2=Dt.lst b::g z.2/\Ar X.K H z.1 (.tup (k z.2))) ->
 ∃fs,PySem.W.KatTups s.heap f fs/\fs.length=zs.length/\∀v∈fs,∃(u:V)(b:List Dt),Ar X.K H u (.lst b)/\RelV u v
 |[],_,_,.nil,_=>⟨[],.nil,rfl,λ_ x=>by cases x⟩
 | z :: zs,_,k,.cons r i,h=>by
   obtain⟨fs,j,l,m⟩:=SG c I (zs:=zs) i λy p=>h y (Cj _ p);obtain⟨b,e,hd⟩:=h z Bz;rw[e] at hd;obtain⟨v,a⟩:=z;dsimp only at r hd
   cases hd with
   | tup q t =>
     cases r;obtain⟨f,A,⟨o,B,C,n,D⟩,_⟩:=I.tuple q
     cases t with
     |cons E G =>
       cases A with
       |cons F J =>
         refine⟨_::fs,.cons B C D rfl j,by simp[l],λw d=>?_⟩;rcases Ch.mp d with e|d;exact⟨_,b,E,e▸F⟩;exact m w d
theorem SH{A:Around}{s:Shared}{prog:Program}{E:Value->Shared->Prop}{x y:Value}{b:Bool}{Q:Bool->Shared->Prop}(h:B6 A s x y b)(q:Q b s):wpAny (model prog w) A (oneLt' false x y) Q E s:=
 PySem.W.kat_one _ _ (h prog w E _ q)
theorem HI(c:Enc){pins:List (Addr×Obj)}{s:Shared}(I:Inv X pins σ H s){A:Around}{as bs:List c.O.α}{u:V}{x y:Value}{prog:Program}{E:Value->Shared->Prop}{Q:Bool->Shared->Prop}(h:Ar X.K H v ((Ew c).D as))(h':Ar X.K H u ((Ew c).D bs))(r:RelV v x)(a:RelV u y)(g:A.units+(c.dep+1)<cLine)(q:Q (E3 c.O as bs) s):wpAny (model prog w) A (oneLt' true x y) Q E s:=by
 cases h with
 |lst h t =>
   cases h' with
   |lst h' b =>
     cases r;cases a;obtain⟨i,d,p,_⟩:=I.list h;obtain⟨j,f,e,_⟩:=I.list h';exact VA p.isList e.isList (c.lexL I (by rw[HB];omega) t b d f) (by omega) q
theorem Y6 (c d:Enc) (hu:X.A.units + 64 < cLine) (h1:c.dep<=50) (h2:d.dep<=50):A7 X (.builtin "sorted") (PP X (LR (Ew c) d)):=by
 refine SE (LR (Ew c) d) (tuples' true) (λah σ H s zs Z ai I o M hl N=>?_) λah σ H s z O x aj C I h w r y a=>?_;obtain⟨fs,P,k2,Q⟩:=SG (LR (Ew c) d) I (k:=λp=>[(Ew c).D p.1,d.D p.2]) (g:=λp=>[d.D p.2]) o λz aa=>⟨_,rfl,M z aa⟩;have ab:=o.length;rw[Al] at ab;refine PySem.W.kat_kind (T:=.type "list") P (by omega) (λv R=>?_) (by decide) N;obtain⟨u,ds,S,U⟩:=Q v R;exact SF I S U;obtain⟨v,p⟩:=z;obtain⟨u,q⟩:=O;dsimp only at h w r y
 change C ((LR (Ew c) d).O.blt p q) s at a
 have j:X.A.in1.in1.units=X.A.units+1+1:=rfl
 cases h with
 | tup V t =>
   cases w with
   | tup ae b =>
     cases r;cases y;obtain⟨Z,e,⟨ox,af,_,n,W⟩,_⟩:=I.tuple V;obtain⟨ak,f,⟨oy,ag,_,m,Y⟩,_⟩:=I.tuple ae
     cases t with
     | cons B t=>cases t with
       | cons D t=>cases t; cases b with
         | cons E b=>cases b with
           | cons F b=>cases b; cases e with
             |cons G e=>cases e with
               |cons J e=>cases e; cases f with
                 |cons K f=>cases f with
                   |cons L f =>
                     cases f;refine PySem.W.kat_lt af W ag Y (PySem.W.kat_cons ((Ew c).eq (A:=X.A.in1.in1) I B E G K (by rw[j];show _+(c.dep+1)<_;omega) _ _ _ _ ?_));by_cases i:p.1=q.1;rw[Fn i]
                     rw[show(LR (Ew c) d).O.blt p q=d.O.blt p.2 q.2 from M6 p q i] at a;refine PySem.W.kat_yes (PySem.W.kat_cons (d.eq (A:=X.A.in1.in1) I D F J L (by rw[j];omega) _ _ _ _ ?_))
                     by_cases l:p.2=q.2;rw[Fn l];refine PySem.W.kat_yes (PySem.W.kat_nil ?_);rw[l,d.O.irrefl] at a;exact a;rw[F1 l];exact PySem.W.kat_no (SH (d.lt I D F J L (by rw[j];omega)) a);rw[F1 i]
                     rw[show(LR (Ew c) d).O.blt p q=E3 c.O p.1 q.1 from M7 p q i] at a;exact PySem.W.kat_no (HI c I B E G K (by rw[j];omega) a)
theorem Y7 (c d e:Enc) (hu:X.A.units + 64 < cLine) (h1:c.dep<=50) (h2:d.dep<=50) (h3:e.dep<=50):A7 X (.builtin "sorted") (PP X (KH (Ew c) d e)):=by
 refine SE (KH (Ew c) d e) (tuples' true) (λai σ H s zs aa aj I y S hl U=>?_) λai σ H s z V x ak C I h B r D a=>?_;obtain⟨fs,W,k2,Y⟩:=SG (KH (Ew c) d e) I (k:=λp=>[(Ew c).D p.1,d.D p.2.1,e.D p.2.2]) (g:=λp=>[d.D p.2.1,e.D p.2.2]) y λz ab=>⟨_,rfl,S z ab⟩;have ae:=y.length;rw[Al] at ae;refine PySem.W.kat_kind (T:=.type "list") W (by omega) (λv Z=>?_) (by decide) U;obtain⟨u,ds,a1,a2⟩:=Y v Z;exact SF I a1 a2;obtain⟨v,p⟩:=z;obtain⟨u,q⟩:=V;dsimp only at h B r D
 change C ((KH (Ew c) d e).O.blt p q) s at a
 have j:X.A.in1.in1.units=X.A.units+1+1:=rfl
 cases h with
 | tup hs t =>
   cases B with
   | tup af b =>
     cases r;cases D;obtain⟨aa,f,⟨ox,ag,_,n,dx⟩,_⟩:=I.tuple hs;obtain⟨al,i,⟨oy,ah,_,m,dy⟩,_⟩:=I.tuple af
     cases t with
     | cons E t=>cases t with
       | cons F t=>cases t with
         | cons G t=>cases t; cases b with
           | cons J b=>cases b with
             | cons K b=>cases b with
               | cons L b=>cases b; cases f with
                 | cons M f=>cases f with
                   | cons N f=>cases f with
                     |cons O f=>cases f; cases i with
                       |cons P i=>cases i with
                         |cons Q i=>cases i with
                           |cons R i =>
                             cases i;refine PySem.W.kat_lt ag dx ah dy (PySem.W.kat_cons ((Ew c).eq (A:=X.A.in1.in1) I E J M P (by rw[j];show _+(c.dep+1)<_;omega) _ _ _ _ ?_));by_cases l:p.1=q.1;rw[Fn l]
                             rw[show(KH (Ew c) d e).O.blt p q=(BO d.O e.O).blt p.2 q.2 from M6 p q l] at a;refine PySem.W.kat_yes (PySem.W.kat_cons (d.eq (A:=X.A.in1.in1) I F K N Q (by rw[j];omega) _ _ _ _ ?_))
                             by_cases o:p.2.1=q.2.1;rw[Fn o]
                             rw[show(BO d.O e.O).blt p.2 q.2=e.O.blt p.2.2 q.2.2 from M6 p.2 q.2 o] at a;refine PySem.W.kat_yes (PySem.W.kat_cons (e.eq (A:=X.A.in1.in1) I G L O R (by rw[j];omega) _ _ _ _ ?_))
                             by_cases w:p.2.2=q.2.2;rw[Fn w];refine PySem.W.kat_yes (PySem.W.kat_nil ?_);rw[w,e.O.irrefl] at a;exact a;rw[F1 w];exact PySem.W.kat_no (SH (e.lt I G L O R (by rw[j];omega)) a);rw[F1 o]
                             rw[show(BO d.O e.O).blt p.2 q.2=d.O.blt p.2.1 q.2.1 from M7 p.2 q.2 o] at a;exact PySem.W.kat_no (SH (d.lt I F K N Q (by rw[j];omega)) a)
                             rw[F1 l]
                             rw[show(KH (Ew c) d e).O.blt p q=E3 c.O p.1 q.1 from M7 p q l] at a;exact PySem.W.kat_no (HI c I E J M P (by rw[j];omega) a)
end
def Em:List (Str×Int)->Str->Option Int
 |[],_=>none
 |(y,n)::r,x=>if y=x then some n else Em r x
def Ee:Option Int->V
 |some n=>.int n
 |none=>.non
theorem HJ:∀{gs:List (Str×Int)}{i:Nat}{p:Str×Int}{x:Str},gs[i]?=some p->p.1=x->(∀q∈gs.take i,q.1≠x)->Em gs x=some p.2
 |[],_,_,_,h,_,_=>by simp at h
 |q::r,0,p,x,h,e,_=>by
   simp at h;subst h;obtain⟨y,n⟩:=q;exact Ak e
 |q::r,i+1,p,x,h,e,k=>by
   obtain⟨y,n⟩:=q;have a:y≠x:=k (y,n) (by simp);show(if y=x then some n else Em r x)=_;rw[Aj a];exact HJ (i:=i) (by simpa using h) e λq b=>k q (by simp[b])
theorem VG:∀{gs:List (Str×Int)}{x:Str},(∀q∈gs,q.1≠x)->Em gs x=none
 |[],_,_=>rfl
 |(y,n)::r,x,k=>by
   show(if y=x then some n else Em r x)=_;rw[Aj (k (y,n) (by simp))];exact VG λq a=>k q (by simp[a])
theorem SI:∀{gs:List (Str×Int)}{x:Str}{n:Int},Em gs x=some n->(x,n)∈gs
 |[],_,_,h=>by cases h
 |(y,m)::r,x,n,h=>by
   have h':(if y=x then some m else Em r x)=some n:=h
   by_cases e:y=x;rw[Ak e] at h';rw[<-e,<-Bv h'];exact Bz;rw[Aj e] at h';exact Cj _ (SI h')
abbrev Ap:Type:=Int×Str×Int
abbrev GR (m:Ap):List V:=[.int m.1,.str m.2.1,.int m.2.2]
abbrev AR:Type:=List Ap×Int×Int
structure Wd where
 ss:List Bj
 gs:List (Str×Int)
 as:List (Option (Str×Int))
 sts:List CP
abbrev Gn:Type:=Ap×(Str×Int)×Int
def E4 (W:Wd) (sc:Int) (go:List (Str×Int)) (p:Cg) (i:Nat):List Gn:=match Em go p.1 with
 |some a=>[((sc,("step" : Str),(i:Int)),BP W.gs W.as p,a)]
 |none=>[]
def En (W:Wd) (sc:Int) (go:List (Str×Int)):List Cg->Nat->List Gn
 |[],_=>[]
 |p::r,i=>E4 W sc go p i++En W sc go r (i+1)
def B0 (W:Wd) (sc:Int):List Cg:=match W.ss[sc.toNat]? with
 |some s=>s.1
 |none=>[]
def DW (W:Wd) (st:Int):List (Str×Int):=match W.sts[st.toNat]? with
 |some s=>s.1
 |none=>[]
def Gz (W:Wd) (sc st:Int):List Gn:=En W sc (DW W st) (B0 W sc) 0
theorem VH(W:Wd)(a:Int)(go:List (Str×Int))(p:Cg):∀(l:List Cg)(i:Nat),En W a go (l++[p]) i=En W a go l i++E4 W a go p (i+l.length)
 |[],i=>by simp[En]
 |q::l,i=>by
   show E4 W a go q i++En W a go (l++[p]) (i+1)=(E4 W a go q i++En W a go l (i+1))++_;rw[VH W a go p l (i+1),FX,Ek,show i+1+l.length=i+(l.length+1) by omega]
variable {W:Wd}{sc:Int}{r:Gn}
theorem E5{go:List (Str×Int)}{p:Cg}:r∈E4 W sc go p i↔∃a,Em go p.1=some a/\r=((sc,("step" : Str),(i:Int)),BP W.gs W.as p,a):=by
 unfold E4
 cases e:Em go p.1 with
 |none=>simp
 |some a=>simp
theorem BQ{W:Wd}{sc:Int}{go:List (Str×Int)}{r:Gn}:∀{l:List Cg}{i:Nat},r∈En W sc go l i↔∃(j:Nat)(p:Cg)(a:Int),l[j]?=some p/\Em go p.1=some a/\r=((sc,("step" : Str),((i+j:Nat):Int)),BP W.gs W.as p,a)
 |[],i=>by simp[En]
 | q :: l,i=>by
   show r∈E4 W sc go q i++En W sc go l (i+1)↔_;rw[BF,E5,BQ (l:=l) (i:=i+1)];constructor;rintro(⟨a,b,c⟩|⟨j,p,a,b,c,d⟩);exact⟨0,q,a,rfl,b,by rw[c];rfl⟩;exact⟨j+1,p,a,by simpa using b,c,by rw[d,show i+1+j=i+(j+1) by omega]⟩;rintro⟨j,p,a,b,c,d⟩
   cases j with
   |zero =>
     simp at b;subst b;exact .inl ⟨a,c,by rw[d];rfl⟩
   |succ j=>exact .inr ⟨j,p,a,by simpa using b,c,by rw[d,show i+1+j=i+(j+1) by omega]⟩
theorem VI(W:Wd)(sc:Int)(go:List (Str×Int)):∀(l:List Cg)(i:Nat),(En W sc go l i).Pairwise (λr b=>r.1≠b.1)
 |[],i=>List.Pairwise.nil
 |q::l,i=>by
   show(E4 W sc go q i++En W sc go l (i+1)).Pairwise _;refine List.pairwise_append.mpr ⟨?_,VI W sc go l (i+1),λr c b d e=>?_⟩;unfold E4;split;exact List.pairwise_singleton _ _;exact List.Pairwise.nil;obtain⟨a,_,rfl⟩:=E5.mp c;obtain⟨j,p,f,_,_,rfl⟩:=BQ.mp d;have:=BI (λm:Ap=>m.2.2) e;simp only at this;omega
theorem LS(W:Wd)(sc:Int)(go:List (Str×Int)):∀(l:List Cg)(i:Nat),(En W sc go l i).length<=l.length
 |[],i=>AB _
 |q::l,i=>by
   show(E4 W sc go q i++En W sc go l (i+1)).length<=_;have a:(E4 W sc go q i).length<=1:=by unfold E4;split<;>simp
   have b:=LS W sc go l (i+1);rw[AV,Ek];omega
theorem VJ{go:List (Str×Int)}{l:List Cg}{b:Gn}(h:r∈En W sc go l i)(h':b∈En W sc go l i)(e:r.1=b.1):r=b:=by
 obtain⟨j,p,a,f,g,rfl⟩:=BQ.mp h;obtain⟨k,o,q,c,d,rfl⟩:=BQ.mp h';have:=BI (λm:Ap=>m.2.2) e;simp only at this;have n:j=k:=(by omega);subst n;rw[f] at c;cases c;rw[g] at d;cases d;rfl
def AU (b:AR):List Int:=b.1.map (·.1)++[b.2.1]
def kid (b:AR) (r:Gn):Option AR:=if r.2.1.1=("to" : Str)/\r.2.1.2∉AU b then some (b.1++[r.1],r.2.1.2,r.2.2) else none
def CA (W:Wd) (b:AR):List AR:=(Gz W b.2.1 b.2.2).filterMap (kid b)
variable {b:AR}
set_option tactic.hygienic true in
theorem AJ{c:AR}:c∈CA W b↔∃r∈Gz W b.2.1 b.2.2,r.2.1.1=("to" : Str)/\r.2.1.2∉AU b/\c=(b.1++[r.1],r.2.1.2,r.2.2):=by
 unfold CA kid;rw[List.mem_filterMap];constructor;rintro⟨r,a,e⟩;split at e;rename_i h;exact⟨r,a,h.1,h.2,(Bv e).symm⟩;cases e;rintro⟨r,a,d,f,e⟩;exact⟨r,a,by rw[Ak ⟨d,f⟩,e]⟩
theorem VL(W:Wd)(b:AR):(CA W b).length<=(B0 W b.2.1).length:=El (List.length_filterMap_le _ _) (LS _ _ _ _ _)
theorem JB(W:Wd)(b:AR):(CA W b).Nodup:=by
 refine List.Pairwise.filterMap (kid b) (λr g f c a h d e=>?_) (VI W b.2.1 (DW W b.2.2) (B0 W b.2.1) 0);unfold kid at a d;split at a;split at d;cases a;cases d;have:=BI Prod.fst e;simp only at this;have:=(List.append_inj' this rfl).2;exact f (by simpa using this);cases d;cases a
inductive AS (W:Wd) (sc st:Int):AR->Prop where
 |root:AS W sc st ([],sc,st)
 |kid {b c:AR} (h:AS W sc st b) (k:c∈CA W b):AS W sc st c
structure B3 (W:Wd):Prop where
 s5:W.ss.length<=100
 st:∀s∈W.ss,s.1.length<=8
 kst:∀s∈W.ss,∀p∈s.1,Fp W.ss.length W.as.length p
 kth:∀p∈W.gs,FL W.ss.length W.as.length p
 an:∀p,some p∈W.as->p.1=("thing" : Str)->0<=p.2/\p.2<W.gs.length
 go:∀s∈W.sts,∀p∈s.1,0<=p.2/\p.2<W.sts.length
 few:∀(sc st:Int)(F:List AR),(0<=sc/\sc<W.ss.length)->(0<=st/\st<W.sts.length)->F.Nodup->(∀b∈F,AS W sc st b)->F.length<=62
theorem B3.net(h:B3 W):Gy W.gs W.as:=⟨λp b e=>by
 rcases h.kth p b with⟨a,_⟩|⟨a,_⟩|⟨_,c⟩;rw[e] at a;exact absurd a (by decide +kernel);rw[e] at a;exact absurd a (by decide +kernel)
 exact c,h.an⟩
theorem B3.by_(h:B3 W)(a:s∈W.ss){p:Cg}(b:p∈s.1)(c:p.2.1≠("to" : Str)):0<=p.2.2/\p.2.2<W.as.length:=by
 rcases h.kst s a p b with⟨e,_⟩|⟨_,e⟩;exact absurd e c;exact e
theorem F2:(("no" : Str),(0:Int)).1≠("to" : Str):=by decide +kernel
theorem PQ:("open" : Str)≠("to" : Str):=by decide +kernel
theorem VM(h:B3 W){k:Str×Int}(c:k∈W.gs)(b:k.1=("part" : Str)):0<=k.2/\k.2<W.ss.length:=by
 rcases h.kth k c with⟨a,_⟩|⟨_,d⟩|⟨a,_⟩;rw[b] at a;exact absurd a (by decide +kernel);exact d;rw[b] at a;exact absurd a (by decide +kernel)
set_option tactic.hygienic true in
theorem Y8(h:B3 W){q:Int}{g:Str×Int}(e:Ed W.gs W.as q=g)(a:g.1=("to" : Str)):0<=g.2/\g.2<W.ss.length:=by
 unfold Ed at e;split at e;split at e;split at e;rename_i k b;split at e;rename_i c;subst e;exact VM (k:=k) h (Bd b) c;subst e;exact absurd a F2;subst e;exact absurd a F2;subst e;exact absurd a F2;subst e;exact absurd a PQ;subst e;exact absurd a F2
set_option tactic.hygienic true in
theorem SJ(h:B3 W)(b:p∈W.gs){g:Str×Int}(e:Dl W.gs W.as p=g)(a:g.1=("to" : Str)):0<=g.2/\g.2<W.ss.length:=by
 unfold Dl at e;split at e;rename_i c;subst e;exact VM (k:=p) h b c;split at e;exact Y8 h e a;subst e;exact absurd a F2
set_option tactic.hygienic true in
theorem Y9(h:B3 W)(c:s∈W.ss){p:Cg}(d:p∈s.1){g:Str×Int}(e:BP W.gs W.as p=g)(a:g.1=("to" : Str)):0<=g.2/\g.2<W.ss.length:=by
 unfold BP at e;split at e;rename_i j;subst e;rcases h.kst s c p d with⟨_,f⟩|⟨b,_⟩;exact f;rw[j] at b;exact absurd b (by decide +kernel);split at e;split at e;split at e;rename_i k i;exact SJ h (Bd i) e a;subst e;exact absurd a F2;subst e;exact absurd a F2;subst e;exact absurd a PQ;subst e;exact absurd a F2
structure B9 (W:Wd) (b:AR):Prop where
 nd:(AU b).Nodup
 rng:∀x∈AU b,0<=x/\x<W.ss.length
 st:0<=b.2.2/\b.2.2<W.sts.length
set_option tactic.hygienic true in
theorem VN{p:Cg}(h:p∈B0 W sc):∃s∈W.ss,p∈s.1:=by
 unfold B0 at h;split at h;rename_i s a;exact⟨s,Bd a,h⟩;cases h
variable {st:Int}
set_option tactic.hygienic true in
theorem VO(h:p∈DW W st):∃s∈W.sts,p∈s.1:=by
 unfold DW at h;split at h;rename_i s a;exact⟨s,Bd a,h⟩;cases h
theorem LV(h:r∈Gz W sc st):∃(j:Nat)(p:Cg)(a:Int),(B0 W sc)[j]?=some p/\Em (DW W st) p.1=some a/\r=((sc,("step" : Str),(j:Int)),BP W.gs W.as p,a):=by
 obtain⟨j,p,a,b,c,d⟩:=BQ.mp h;exact⟨j,p,a,b,c,by rw[d,Nat.zero_add]⟩
theorem VP(h:r∈Gz W b.2.1 b.2.2):AU (b.1++[r.1],r.2.1.2,r.2.2)=AU b++[r.2.1.2]:=by
 obtain⟨j,p,a,_,_,rfl⟩:=LV h;unfold AU
 simp
theorem B9.kid(ok:B3 W){c:AR}(h:B9 W b)(k:c∈CA W b):B9 W c:=by
 obtain⟨r,e,g,i,rfl⟩:=AJ.mp k;have f:=VP e;obtain⟨j,p,a,l,m,rfl⟩:=LV e;obtain⟨s,n,o⟩:=VN (Bd l);refine⟨?_,?_,?_⟩;rw[f,List.nodup_append]
 exact⟨h.nd,by simp,λx d y q=>by
  rw[AY.mp q]
  exact λz=>i (z▸d)⟩
 rw[f];intro x d;rcases BF.mp d with d|d;exact h.rng x d;rw[AY.mp d];exact Y9 ok n o rfl g;obtain⟨t,u,v⟩:=VO (SI m);exact ok.go t u _ v
theorem AS.ok{W:Wd}(ok:B3 W){sc st:Int}(d:0<=sc/\sc<W.ss.length)(e:0<=st/\st<W.sts.length){b:AR}(h:AS W sc st b):B9 W b:=by
 induction h with
 |root=>exact⟨by simp[AU],λx a=>by simp[AU] at a;rw[a];exact d,e⟩
 |kid _ k c=>exact c.kid ok k
theorem AS.uniq(h:AS W sc st b):∀{c:AR},AS W sc st c->b.1=c.1->b=c:=by
 induction h with
 |root =>
   intro c a e
   cases a with
   |root=>rfl
   |kid _ k =>
     obtain⟨r,_,_,_,rfl⟩:=AJ.mp k;simp at e
 |@kid o p q k d =>
   intro c a e;obtain⟨r,f,s,t,rfl⟩:=AJ.mp k
   cases a with
   |root=>simp at e
   |@kid u _ m g =>
     obtain⟨v,n,w,x,rfl⟩:=AJ.mp g;simp only at e;obtain⟨i,j⟩:=List.append_inj' e rfl;have l:=d m i;subst l;have:=VJ f n (by simpa using j);subst this;rfl
theorem KI:∀(n:Nat)(l:List Int),l.Nodup->(∀x∈l,0<=x/\x<(n:Int))->l.length<=n
 |0,[],_,_=>AB _
 |0,x::l,_,h=>by have:=h x Bz;omega
 |n+1,l,b,h=>by
   have e:(l.erase (n:Int)).Nodup:=b.erase _
   have c:∀x∈l.erase (n:Int),0<=x/\x<(n:Int):=λx d=>by
    obtain⟨f,a⟩:=(b.mem_erase_iff).mp d;have:=h x a;omega
   have:=KI n _ e c
   have g:l.length<=(l.erase (n:Int)).length+1:=by
    by_cases a:(n:Int)∈l;rw[List.length_erase_of_mem a];omega;rw[List.erase_of_not_mem a];omega
   omega
set_option tactic.hygienic true in
theorem PR(ok:B3 W)(sc:Int):(B0 W sc).length<=8:=by
 unfold B0;split;rename_i s a;exact ok.st s (Bd a);exact Ck _
structure GS (W:Wd) (sc st:Int) (F:List AR) (p:Nat):Prop where
 root:([],sc,st)∈F
 is:∀b∈F,AS W sc st b
 nd:F.Nodup
 done:∀(j:Nat)(b:AR),j<p->F[j]?=some b->∀c∈CA W b,c∈F
 src:∀c∈F,c=([],sc,st)\/∃(j:Nat)(b:AR),j<p/\F[j]?=some b/\c∈CA W b
 le:p<=F.length
theorem GS.start(W:Wd)(sc st:Int):GS W sc st [([],sc,st)] 0 where
 root:=Bz
 is b a:=by rw[AY.mp a];exact .root
 nd:=by simp
 done j b e:=by omega
 src c d:=.inl (AY.mp d)
 le:=Ck _
theorem GS.turn{F:List AR}{p:Nat}(h:GS W sc st F p)(g:F[p]?=some b):GS W sc st (F++CA W b) (p+1):=by
 have x:p<F.length:=(A9.mp g).1;have y:=Bd g;have q:=h.is b y;have o:∀(j:Nat),j<F.length->(F++CA W b)[j]?=F[j]?:=λj f=>EJ f
 have one:∀(j:Nat)(c:AR),j<p+1->(F++CA W b)[j]?=some c->(j<p/\F[j]?=some c)\/c=b:=λj c f e=>by
  rw[o j (by omega)] at e;by_cases z:j<p;exact .inl ⟨z,e⟩;have:j=p:=(by omega);subst this;rw[g] at e;exact .inr (Bv e).symm
 refine⟨Ej _ h.root,λc a=>?_,?_,λj c f e d hd=>?_,λc a=>?_,by rw[AV];omega⟩;rcases BF.mp a with a|a;exact h.is c a;exact .kid q a;refine List.nodup_append.mpr ⟨h.nd,JB W b,λc a d hd e=>?_⟩;subst e;obtain⟨r,C,_,_,l⟩:=AJ.mp hd;rcases h.src c a with m|⟨j,i,f,k,n⟩;rw[m] at l;have:=BI Prod.fst l;simp at this;obtain⟨D,H,_,_,A⟩:=AJ.mp n
 have s:i.1=b.1:=by
  have:=BI Prod.fst (A.symm.trans l);simp only at this;exact(List.append_inj' this rfl).1
 have t:=(h.is i (Bd k)).uniq q s;subst t;obtain⟨E,u⟩:=A9.mp k;obtain⟨G,v⟩:=A9.mp g;have:=(List.getElem_inj h.nd).mp (u.trans v.symm);omega;rcases one j c f e with⟨B,w⟩|rfl;exact Ej _ (h.done j c B w d hd);exact De _ hd;rcases BF.mp a with a|a;rcases h.src c a with m|⟨j,i,f,k,n⟩;exact .inl m;exact .inr ⟨j,i,by omega,by rw[o j (by omega)];exact k,n⟩;exact .inr ⟨p,b,by omega,by rw[o p x];exact g,a⟩
theorem GS.few{W:Wd}(ok:B3 W){sc st:Int}(a:0<=sc/\sc<W.ss.length)(b:0<=st/\st<W.sts.length){F:List AR}{p:Nat}(h:GS W sc st F p):F.length<=62:=ok.few sc st F a b h.nd h.is
abbrev M8:Enc:=KH FM SD FM
abbrev DP:Enc:=KH (Ew M8) FM FM
structure Db (W:Wd) (sc st:Int) (bs:List AR):Prop where
 mem:∀b,b∈bs↔AS W sc st b
 nd:bs.Nodup
 srt:bs.Pairwise DP.O.kle
 few:bs.length<=62
theorem Db.uniq{l m:List AR}(h:Db W sc st l)(k:Db W sc st m):l=m:=
 LJ (O:=DP.O) ((List.perm_ext_iff_of_nodup h.nd k.nd).mpr λb=>(h.mem b).trans (k.mem b).symm) h.srt k.srt
theorem GS.all(ok:B3 W)(g:0<=sc/\sc<W.ss.length)(i:0<=st/\st<W.sts.length){F l:List AR}(h:GS W sc st F F.length)(a:l.Perm F)(d:l.Pairwise DP.O.kle):Db W sc st l:=by
 refine⟨λb=>?_,a.nodup_iff.mpr h.nd,d,by rw[a.length_eq];exact h.few ok g i⟩;rw[a.mem_iff];refine⟨h.is b,λe=>?_⟩
 induction e with
 |root=>exact h.root
 |kid _ k f =>
   obtain⟨j,c⟩:=List.getElem?_of_mem f;exact h.done j _ (A9.mp c).1 c _ k
def DL (F:Addr->Prop) (H:Hp) (t:Addr) (b:AR):Prop:=∃(l:Addr)(ms:List Addr),H t=some (.tup [.ref l,.int b.2.1,.int b.2.2])/\H l=some (.lst (ms.map V.ref))/\RT GR H ms b.1/\F l
theorem DL.same{F:Addr->Prop}{H H':Hp}{t:Addr}{b:AR}(e:Ac H H')(h:DL F H t b):DL F H' t b:=by
 obtain⟨l,a,c,d,f,g⟩:=h;exact⟨l,a,e _ _ c,e _ _ d,f.same e,g⟩
theorem DL.mono{G:Addr->Prop}{t:Addr}(e:∀x,F x->G x)(h:DL F H t b):DL G H t b:=by
 obtain⟨l,a,c,d,f,g⟩:=h;exact⟨l,a,c,d,f,e _ g⟩
theorem DL.keeps{M F:Addr->Prop}{H H':Hp}{t:Addr}{b:AR}(k:Keeps M H H')(c:∀x,F x->¬M x)(h:DL F H t b):DL F H' t b:=by
 obtain⟨l,d,e,f,g,a⟩:=h;exact⟨l,d,k.tup e,k.at_ _ _ f (c _ a),g.keeps k,a⟩
abbrev PU (m:Ap):Dt:=.tup [.int m.1,.str m.2.1,.int m.2.2]
theorem HK{K:Ah}(r:Ap)(t:Addr)(h:H t=some (.tup (GR r))):Ar K H (.ref t) (PU r):=.tup (Aq.of h) (.cons (.int _) (.cons (.str _) (.cons (.int _) .nil)))
theorem DL.dt{K:Ah}{t:Addr}(h:DL F H t b):Ar K H (.ref t) (DP.D b):=by
 obtain⟨l,e,a,c,d,f⟩:=h;exact .tup (Aq.of a) (.cons (.lst (Af.of c) (d.dts HK)) (.cons (.int _) (.cons (.int _) .nil)))
def KJ (H:Hp) (t:Addr) (r:Gn):Prop:=∃m,H t=some (.tup [.ref m,.str r.2.1.1,.int r.2.1.2,.int r.2.2])/\H m=some (.tup (GR r.1))
theorem KJ.same{t:Addr}(e:Ac H H')(h:KJ H t r):KJ H' t r:=by
 obtain⟨m,a,b⟩:=h;exact⟨m,e _ _ a,e _ _ b⟩
theorem KJ.keeps{t:Addr}(k:Keeps M H H')(h:KJ H t r):KJ H' t r:=by
 obtain⟨m,a,b⟩:=h;exact⟨m,k.tup a,k.tup b⟩
structure Bq (K:Ah) (H:Hp) (nt A t:Addr) (W:Wd):Prop where
 net:∃(S T R:Addr)(us Gs Es ts qt:List Addr)(qs:List Qu),H nt=some (.tup [.ref S,.ref T,.ref R])/\Ge H S T R us Gs Es ts qt W.ss W.gs qs
 ans:G6 K H A W.as
 tab:∃(a o:Addr)(inn:V),Aq K H t [.ref a,inn,.ref o]/\HE K H a W.sts
theorem Bq.same{K:Ah}{H H':Hp}{b A t:Addr}{W:Wd}(e:Ac H H')(h:Bq K H b A t W):Bq K H' b A t W:=by
 obtain⟨S,T,R,us,Gs,Es,ts,c,qs,d,f⟩:=h.net;obtain⟨a,o,k,g,vs,i,j⟩:=h.tab;exact⟨⟨S,T,R,us,Gs,Es,ts,c,qs,e _ _ d,f.same e⟩,h.ans.same e,⟨a,o,k,e.seqT g,vs,e.seq i,j.same e⟩⟩
theorem DL.mono'{G:Addr->Prop}{t:Addr}(e:∀x o,H x=some o->F x->G x)(h:DL F H t b):DL G H t b:=by
 obtain⟨l,c,d,a,f,g⟩:=h;exact⟨l,c,d,a,f,e _ _ a g⟩
theorem VQ{H:Hp}:∀{ts:List Addr}{ps:List (Str×Str)},Cz H ts ps->∃zs:List (Row ES ES),zs.map (·.1)=ts.map V.ref/\zs.map (·.2)=ps/\∀z∈zs,∃t,z.1=.ref t/\H t=some (.tup [.str z.2.1,.str z.2.2])
 |[],[],_=>⟨[],rfl,rfl,λz hz=>by cases hz⟩
 |[],_::_,h=>by have:=h.len;simp at this
 |_::_,[],h=>by have:=h.len;simp at this
 |a::ts,p::ps,h=>by
   obtain⟨zs,b,c,d⟩:=VQ (ts:=ts) (ps:=ps) ⟨by simpa using h.len,λn t p f g=>h.at_ (n+1) t p (by simpa using f) (by simpa using g)⟩;refine⟨(V.ref a,p)::zs,by rw[DN,b];rfl,by rw[DN,c],λz hz=>?_⟩;rcases Ch.mp hz with e|hz;rw[e];exact⟨a,rfl,h.at_ 0 a p rfl rfl⟩;exact d z hz
theorem VR{H:Hp}:∀{zs:List (Row ES ES)},(∀z∈zs,∃t,z.1=.ref t/\H t=some (.tup [.str z.2.1,.str z.2.2]))->∃ts:List Addr,zs.map (·.1)=ts.map V.ref/\Cz H ts (zs.map (·.2))
 |[],_=>⟨[],rfl,Cz.nil⟩
 |z::zs,h=>by
   obtain⟨ts,d,c⟩:=VR (zs:=zs) λy f=>h y (Cj _ f);obtain⟨t,e,g⟩:=h z Bz;refine⟨t::ts,by rw[DN,d,e];rfl,by simp[c.len],λn u p a b=>?_⟩
   cases n with
   |zero=>simp at a b;subst a;subst b;exact g
   |succ n=>exact c.at_ n u p (by simpa using a) (by simpa using b)
theorem Gd.caseT{K:Ah}{t:Addr}{n:Int}{ord:List (Str×Str)}(h:Gd K F H t rs n ord):∃(a o:Addr)(inn:V),Aq K H t [.ref a,inn,.ref o]/\HE K H a rs:=by
 obtain⟨a,o,us,ts,b,_,_,_,c,d,_⟩:=h.ex;exact⟨a,o,_,Aq.of b,d.stts c⟩
theorem GA{x:Int}{l:List Int}:Dt.int x∈l.map Dt.int↔x∈l:=⟨λh=>by
 obtain⟨y,a,z⟩:=Bn.mp h
 rw[<-Dt.int.inj z];exact a,λh=>Bn.mpr ⟨x,h,rfl⟩⟩
theorem VS{K:Ah}{H:Hp}:∀(l:List Int),An K H (l.map V.int) (l.map Dt.int)
 |[]=>.nil
 |x::l=>.cons (.int x) (VS l)
theorem SK(xs:List α)(x:α):Bt (xs++[x]) (-1)=some x:=by
 have e:Hq (xs++[x]).length (-1)=some xs.length:=by
  unfold Hq;rw[Aj (by decide),Ak (by rw[AV,Dh];omega),AV,Dh];congr 1;omega
 unfold Bt;rw[e];show(xs++[x])[xs.length]?=some x
 simp
theorem Za(x y:Option (Str×Int)):Ev 2 (Bp x) (Bp y):=by
 cases x with
 |none=>cases y with
   |none=>exact .non
   |some q=>exact .apart rfl
 |some p=>cases y with
   |none=>exact .apart rfl
   |some q=>exact LL p q
theorem Zb(l m:List (Option (Str×Int))):Ev 3 (Dt.lst (l.map Bp)) (Dt.lst (m.map Bp)):=.lst (Cw.of λd hd e a=>by
 obtain⟨b,_,rfl⟩:=Bn.mp hd;obtain⟨c,_,rfl⟩:=Bn.mp a
 exact Za b c)
abbrev CF:Enc:=Ew M8
def Gf (W:Wd) (sc:Int):List DV:=match W.ss[sc.toNat]? with
 |some s=>s.2
 |none=>[]
def G7 (W:Wd) (st:Int):List Str:=match W.sts[st.toNat]? with
 |some s=>s.2
 |none=>[]
def Fs (W:Wd) (b:AR) (x:Str) (q:DV) (i:Nat):List (List Ap):=if q.2.1=x/\q.1∈G7 W b.2.2 then[b.1++[(b.2.1,("told" : Str),(i:Int))]] else[]
def DM (W:Wd) (b:AR) (x:Str):List DV->Nat->List (List Ap)
 |[],_=>[]
 |q::r,i=>Fs W b x q i++DM W b x r (i+1)
def DX (W:Wd) (x:Str) (bs:List AR):List (List Ap):=bs.flatMap λb=>DM W b x (Gf W b.2.1) 0
theorem VT(W:Wd)(b:AR)(x:Str)(q:DV):∀(l:List DV)(i:Nat),DM W b x (l++[q]) i=DM W b x l i++Fs W b x q (i+l.length)
 |[],i=>by simp[DM]
 |p::l,i=>by
   show Fs W b x p i++DM W b x (l++[q]) (i+1)=(Fs W b x p i++DM W b x l (i+1))++_;rw[VT W b x q l (i+1),FX,Ek,show i+1+l.length=i+(l.length+1) by omega]
theorem VU(W:Wd)(b:AR)(x:Str):∀(l:List DV)(i:Nat),(DM W b x l i).length<=l.length
 |[],i=>AB _
 |q::l,i=>by
   show(Fs W b x q i++DM W b x l (i+1)).length<=_;have a:(Fs W b x q i).length<=1:=by unfold Fs;split<;>simp
   have c:=VU W b x l (i+1);rw[AV,Ek];omega
set_option tactic.hygienic true in
theorem Of{W:Wd}{b:AR}{x:Str}{w:List Ap}:∀{l:List DV}{i:Nat},w∈DM W b x l i->∃(j:Nat)(q:DV),l[j]?=some q/\q.2.1=x/\q.1∈G7 W b.2.2/\w=b.1++[(b.2.1,("told" : Str),((i+j:Nat):Int))]
 |[],i,h=>by cases h
 |q::l,i,h=>by
   rcases BF.mp (show w∈Fs W b x q i++DM W b x l (i+1) from h) with h|h
   unfold Fs at h;split at h;rename_i a;exact⟨0,q,rfl,a.1,a.2,AY.mp h⟩;cases h;obtain⟨j,c,d,e,f,g⟩:=Of h;exact⟨j+1,c,by simpa using d,e,f,by rw[g,show i+1+j=i+(j+1) by omega]⟩
theorem SM{bs:List AR}{w:List Ap}(h:w∈DX W x bs):∃b∈bs,∃(j:Nat)(q:DV),(Gf W b.2.1)[j]?=some q/\q.2.1=x/\q.1∈G7 W b.2.2/\w=b.1++[(b.2.1,("told" : Str),(j:Int))]:=by
 obtain⟨b,a,c⟩:=List.mem_flatMap.mp h;obtain⟨j,q,d,e,f,g⟩:=Of c;exact⟨b,a,j,q,d,e,f,by rw[g,Nat.zero_add]⟩
theorem SN{α:Type}{f:AR->List α}{k:Nat}:∀(bs:List AR),(∀b,(f b).length<=k)->(bs.flatMap f).length<=bs.length*k
 |[],_=>by simp
 |b::bs,h=>by
   rw[List.flatMap_cons,AV,Ek,Nat.succ_mul];have:=h b;have:=SN bs h;omega
structure M9 (W:Wd) (x:Str) (bs:List AR) (ws:List (List Ap)):Prop where
 perm:ws.Perm (DX W x bs)
 srt:ws.Pairwise CF.O.kle
theorem M9.uniq{bs:List AR}{l m:List (List Ap)}(h:M9 W x bs l)(k:M9 W x bs m):l=m:=LJ (O:=CF.O) (h.perm.trans k.perm.symm) h.srt k.srt
def CQ (F:Addr->Prop) (H:Hp) (l:Addr) (w:List Ap):Prop:=∃ms:List Addr,H l=some (.lst (ms.map V.ref))/\RT GR H ms w/\F l
theorem CQ.same{F:Addr->Prop}{H H':Hp}{t:Addr}{b:List Ap}(e:Ac H H')(h:CQ F H t b):CQ F H' t b:=by
 obtain⟨a,c,d,f⟩:=h;exact⟨a,e _ _ c,d.same e,f⟩
theorem CQ.mono'{G:Addr->Prop}{t:Addr}{b:List Ap}(e:∀x o,H x=some o->F x->G x)(h:CQ F H t b):CQ G H t b:=by
 obtain⟨c,a,d,f⟩:=h;exact⟨c,a,d,e _ _ a f⟩
theorem CQ.keeps{M F:Addr->Prop}{H H':Hp}{t:Addr}{b:List Ap}(k:Keeps M H H')(c:∀x,F x->¬M x)(h:CQ F H t b):CQ F H' t b:=by
 obtain⟨d,e,f,a⟩:=h;exact⟨d,k.at_ _ _ e (c _ a),f.keeps k,a⟩
theorem CQ.dt{K:Ah}{t:Addr}{b:List Ap}(h:CQ F H t b):Ar K H (.ref t) (CF.D b):=by
 obtain⟨d,a,c,_⟩:=h;exact .lst (Af.of a) (c.dts HK)
theorem VV{c:Enc}{zs:List (Addr×c.O.α)}{d:List (DO c)}(a:d.Perm (zs.map λz=>((V.ref z.1,z.2):DO c))) :
 ∃ws:List (Addr×c.O.α),d.map (·.1)=(ws.map λz=>V.ref z.1)/\d.map (·.2)=ws.map (·.2)/\(ws.map (·.2)).Perm (zs.map (·.2))/\∀z∈ws,z∈zs:=by
 have:∀{l:List (DO c)},(∀y∈l,y∈zs.map λz=>((V.ref z.1,z.2):DO c))->∃ws:List (Addr×c.O.α),l=ws.map λz=>(V.ref z.1,z.2):=by
  intro l
  induction l with
  |nil=>exact λ_=>⟨[],rfl⟩
  |cons y l f =>
    intro h;obtain⟨ws,rfl⟩:=f λz g=>h z (Cj _ g);obtain⟨z,_,rfl⟩:=Bn.mp (h y Bz);exact⟨z::ws,rfl⟩
 obtain⟨ws,rfl⟩:=this λy b=>a.mem_iff.mp b;refine⟨ws,by rw[DG];rfl,by rw[DG];rfl,?_,λz k=>?_⟩;have:=a.map (·.2);rw[DG,DG] at this;exact this;have:=a.mem_iff.mp (Bn.mpr ⟨z,k,rfl⟩);obtain⟨y,b,e⟩:=Bn.mp this;injection e with i j;have:y=z:=Prod.ext (V.ref.inj i) j;rw[<-this];exact b
abbrev PV:Enc:=LR (Ew M8) FM
abbrev Ow:Type:=List Ap×Int
def ow (b:AR) (r:Gn):Option Ow:=if r.2.1.1=("open" : Str) then some (b.1++[r.1],r.2.1.2) else none
def F3 (W:Wd) (bs:List AR):List Ow:=bs.flatMap λb=>(Gz W b.2.1 b.2.2).filterMap (ow b)
set_option tactic.hygienic true in
theorem VW{bs:List AR}{w:Ow}(h:w∈F3 W bs):∃b∈bs,∃(j:Nat)(p:Cg)(a:Int),(B0 W b.2.1)[j]?=some p/\Em (DW W b.2.2) p.1=some a/\(BP W.gs W.as p).1=("open" : Str)/\w=(b.1++[(b.2.1,("step" : Str),(j:Int))],(BP W.gs W.as p).2):=by
 obtain⟨b,c,d⟩:=List.mem_flatMap.mp h;obtain⟨r,f,e⟩:=List.mem_filterMap.mp d;obtain⟨j,p,a,g,i,rfl⟩:=LV f;unfold ow at e;split at e;rename_i k;exact⟨b,c,j,p,a,g,i,k,(Bv e).symm⟩;cases e
structure Og (W:Wd) (bs:List AR) (ws:List Ow):Prop where
 perm:ws.Perm (F3 W bs)
 srt:ws.Pairwise PV.O.kle
theorem Og.uniq{bs:List AR}{l m:List Ow}(h:Og W bs l)(k:Og W bs m):l=m:=LJ (O:=PV.O) (h.perm.trans k.perm.symm) h.srt k.srt
def FD (F:Addr->Prop) (H:Hp) (t:Addr) (p:Ow):Prop:=∃(l:Addr)(ms:List Addr),H t=some (.tup [.ref l,.int p.2])/\H l=some (.lst (ms.map V.ref))/\RT GR H ms p.1/\F l
theorem FD.same{F:Addr->Prop}{H H':Hp}{t:Addr}{b:Ow}(e:Ac H H')(h:FD F H t b):FD F H' t b:=by
 obtain⟨l,a,c,d,f,g⟩:=h;exact⟨l,a,e _ _ c,e _ _ d,f.same e,g⟩
theorem FD.mono'{G:Addr->Prop}{t:Addr}{b:Ow}(e:∀x o,H x=some o->F x->G x)(h:FD F H t b):FD G H t b:=by
 obtain⟨l,c,d,a,f,g⟩:=h;exact⟨l,c,d,a,f,e _ _ a g⟩
theorem FD.keeps{M F:Addr->Prop}{H H':Hp}{t:Addr}{b:Ow}(k:Keeps M H H')(c:∀x,F x->¬M x)(h:FD F H t b):FD F H' t b:=by
 obtain⟨l,d,e,f,g,a⟩:=h;exact⟨l,d,k.tup e,k.at_ _ _ f (c _ a),g.keeps k,a⟩
theorem FD.dt{K:Ah}{t:Addr}{b:Ow}(h:FD F H t b):Ar K H (.ref t) (PV.D b):=by
 obtain⟨l,e,a,c,d,_⟩:=h;exact .tup (Aq.of a) (.cons (.lst (Af.of c) (d.dts HK)) (.cons (.int _) .nil))
theorem Zc{bs:List AR}(h:bs[i]?=some b):F3 W (bs.take (i+1))=F3 W (bs.take i)++(Gz W b.2.1 b.2.2).filterMap (ow b):=by
 rw[DS,h];show(bs.take i++[b]).flatMap _=_;rw[List.flatMap_append];simp[F3]
theorem LW{β:Type}(f:α->Option β)(l:List α)(x:α):(l++[x]).filterMap f=l.filterMap f++(f x).toList:=by
 rw[List.filterMap_append];cases e:f x<;>simp[e]
theorem JC(h:r.2.1.1=("open" : Str)):ow b r=some (b.1++[r.1],r.2.1.2):=Ak h
theorem JD(h:r.2.1.1≠("open" : Str)):ow b r=none:=Aj h
structure Be (W:Wd):Prop where
 tl:∀s∈W.ss,∀p∈s.2,Fq W.gs.length W.as.length p
 fnd:∀(x:Str)(sc st:Int)(bs:List AR),(0<=sc/\sc<W.ss.length)->(0<=st/\st<W.sts.length)->Db W sc st bs->(DX W x bs).length<=62
 owd:∀(sc st:Int)(bs:List AR),(0<=sc/\sc<W.ss.length)->(0<=st/\st<W.sts.length)->Db W sc st bs->(F3 W bs).length<=62
def FN (ss:List Bj) (m:Ap):Str:=match ss[m.1.toNat]? with
 |some s=>if m.2.1=("step" : Str) then(match s.1[m.2.2.toNat]? with
   |some p=>p.1
   |none=>default) else(match s.2[m.2.2.toNat]? with
   |some p=>p.1
   |none=>default)
 |none=>default
def Ex (ss:List Bj) (m:Ap):Prop:=∃(n k:Nat)(s:Bj),m.1=(n:Int)/\m.2.2=(k:Int)/\ss[n]?=some s/\((m.2.1=("step" : Str)/\k<s.1.length)\/(m.2.1=("told" : Str)/\k<s.2.length))
theorem Zd{m:Ap}{k:Nat}{p:Cg}(a:m.1=(n:Int))(b:m.2.2=(k:Int))(c:ss[n]?=some s)(d:m.2.1=("step" : Str))(e:s.1[k]?=some p):FN ss m=p.1:=by
 unfold FN;rw[a,b,Bl,Bl,c];dsimp only;rw[Ak d,e]
theorem Ze{m:Ap}{k:Nat}{p:DV}(a:m.1=(n:Int))(b:m.2.2=(k:Int))(c:ss[n]?=some s)(d:m.2.1≠("step" : Str))(e:s.2[k]?=some p):FN ss m=p.1:=by
 unfold FN;rw[a,b,Bl,Bl,c];dsimp only;rw[Aj d,e]
theorem SO:("told" : Str)≠("step" : Str):=by decide +kernel
open Classical in
noncomputable def Ci (ss:List Bj) (ord:List (Str×Str)):List Ap->List Ap->Bool
 |m::ms,q::qs=>if m=q then Ci ss ord ms qs else dec ((FN ss m,FN ss q)∈ord)
 |_,_=>false
theorem Oh(ss:List Bj)(ord:List (Str×Str))(m:Ap)(a qs:List Ap):Ci ss ord (m::a) (m::qs)=Ci ss ord a qs:=by
 rw[Ci];exact Ak rfl
theorem KL(ss:List Bj)(ord:List (Str×Str)){m q:Ap}(a qs:List Ap)(h:m≠q):Ci ss ord (m::a) (q::qs)=dec ((FN ss m,FN ss q)∈ord):=by
 rw[Ci];exact Aj h
theorem LX(ss:List Bj)(ord:List (Str×Str)):∀{l m:List Ap},l=[]\/m=[]->Ci ss ord l m=false
 |[],_,_=>by rw[Ci];intros;simp at *
 |_::_,[],_=>by rw[Ci];intros;simp at *
 |_::_,_::_,h=>by simp at h
theorem VX(ok:B3 W)(u:0<=sc/\sc<W.ss.length)(v:0<=st/\st<W.sts.length)(h:AS W sc st b):∀m∈b.1,Ex W.ss m:=by
 induction h with
 |root=>intro m c;cases c
 |@kid d x i k l =>
   obtain⟨r,o,_,_,rfl⟩:=AJ.mp k;intro m c;rcases BF.mp c with c|c;exact l m c;rw[AY.mp c];have q:=i.ok ok u v;have s:=q.rng d.2.1 (by unfold AU;simp);obtain⟨j,p,a,e,_,rfl⟩:=LV o;obtain⟨n,f⟩:=DH s.1;have w:n<W.ss.length:=(by omega);have g:=AC w;have t:B0 W d.2.1=W.ss[n].1:=by unfold B0;rw[f,Bl,g]
   rw[t] at e;exact⟨n,j,_,f,rfl,g,.inl ⟨rfl,(A9.mp e).1⟩⟩
theorem SQ(ok:B3 W)(h:0<=sc/\sc<W.ss.length)(i:0<=st/\st<W.sts.length){bs:List AR}(k:Db W sc st bs){w:List Ap}(l:w∈DX W x bs):(∀m∈w,Ex W.ss m)/\w.length<=100:=by
 obtain⟨b,o,j,q,d,_,_,rfl⟩:=SM l;have e:=(k.mem b).mp o;have c:=e.ok ok h i;have p:=c.rng b.2.1 (by unfold AU;simp);refine⟨λm a=>?_,?_⟩;rcases BF.mp a with a|a;exact VX ok h i e m a;rw[AY.mp a];obtain⟨n,f⟩:=DH p.1;have s:n<W.ss.length:=(by omega);have g:=AC s;have r:Gf W b.2.1=W.ss[n].2:=by unfold Gf;rw[f,Bl,g]
 rw[r] at d;exact⟨n,j,_,f,rfl,g,.inr ⟨rfl,(A9.mp d).1⟩⟩;have:=KI W.ss.length (AU b) c.nd c.rng;rw[show(AU b).length=b.1.length+1 by unfold AU;simp] at this;have:=ok.s5;rw[AV,Dh];omega
theorem Zf(ok:B3 W)(i:0<=sc/\sc<W.ss.length)(k:0<=st/\st<W.sts.length){bs:List AR}(l:Db W sc st bs){w:Ow}(o:w∈F3 W bs):(∀m∈w.1,Ex W.ss m)/\w.1.length<=100:=by
 obtain⟨b,q,j,p,a,e,_,_,rfl⟩:=VW o;have f:=(l.mem b).mp q;have d:=f.ok ok i k;have r:=d.rng b.2.1 (by unfold AU;simp);refine⟨λm c=>?_,?_⟩;rcases BF.mp c with c|c;exact VX ok i k f m c;rw[AY.mp c];obtain⟨n,g⟩:=DH r.1;have t:n<W.ss.length:=(by omega);have h:=AC t;have s:B0 W b.2.1=W.ss[n].1:=by unfold B0;rw[g,Bl,h]
 rw[s] at e;exact⟨n,j,_,g,rfl,h,.inl ⟨rfl,(A9.mp e).1⟩⟩;have:=KI W.ss.length (AU b) d.nd d.rng;rw[show(AU b).length=b.1.length+1 by unfold AU;simp] at this;have:=ok.s5;show(b.1++[(b.2.1,("step" : Str),(j:Int))]).length<=100;rw[AV,Dh];omega
theorem Zg(h:n<=40000):n<sizeLine:=Nat.lt_of_le_of_lt h (by decide)
def Na (ss:List Bj) (w:List Ap):Prop:=(∀m∈w,Ex ss m)/\w.length<=100
end L2
namespace PySem
section
variable {prog:Program} {w:World} {K:Type} [DecidableEq K] {knd:HeapKind prog w K} {A:Around} {E:Value->Shared->Prop} {s:Shared}
theorem Zh{d a:Addr}{xs:List (K×Addr×Value)}{k:K}{v:Value}{Q:Value->Shared->Prop}(l:knd.room A)(i:knd.is s.heap k a)(r:s.heap.DictOfH knd d xs)
 (t:∀p,atKey xs k=some p->Q p.2 {s with toks:=s.toks+knd.draws k})
 (u:atKey xs k=none->∀h',h'.DictOfH knd d (storedH xs k a v)->Heap.SameBut d s.heap h'->Q v {s with heap:=h',toks:=s.toks+knd.draws k})
 (hsz:xs.length<=sizeLine:=by size_fits) :
 wpAny (model prog w) A (dictSetDefault d (.ref a) v) Q E s:=by
 obtain⟨o,D,z,c,B,hd,g,q,h⟩:=r;unfold dictSetDefault
 try with_reducible refine Fj ?_
 refine Ad (knd.pyHash l i ?_);refine Ad (wpAny_dictFind_heap (s:={s with toks:=s.toks+knd.draws k}) l i c hd g q h ?_ ?_);intro f;have C:k∉xs.map (·.1):=not_mem_keys_of_get f
 refine Ad (Ha (Ad (wpAny_updateDictKeys (hz:=by have e:=size_of_entries g;omega) (s:={s with toks:=s.toks+knd.draws k}) c hd (Aw (u (atKey_none_of_get f) _ ⟨_,_,z+1,Heap.get?_update_self _ c (Obj.isFreed_of_dict (Obj.data_mapDictKeys hd _)),
  B.mapDictKeys _,Obj.data_mapDictKeys hd _,?_,?_,?_⟩ (Heap.SameBut.update ..))))))
 rw[storedH_new (atKey_none_of_get f)];simp[g,entryOfKey];rw[storedH_new (atKey_none_of_get f)];intro x b;rcases BF.mp b with b|b;exact knd.keeps (q x b) c hd (Heap.SameBut.update ..);simp only[AY] at b;subst b;exact knd.keeps i c hd (Heap.SameBut.update ..);rw[storedH_new (atKey_none_of_get f)];rw[Bk,List.nodup_append];refine⟨h,by simp,?_⟩;intro x b y m;simp only[DN,Nq,AY] at m;subst m;exact λe=>C (e▸b);intro j p n;refine Ad (wpAny_dictEntries (s:={s with toks:=s.toks+knd.draws k}) c hd ?_);rw[entry_at g j,n];exact Ad (Ha (Aw (t p (atKey_of_get h n))))
theorem Zi(d a:Addr)(hd:(d==sysModules)=false)(b:Value) :
 MeetsIn prog w (Builtin.«dict.setdefault» ⟨[.ref d,.ref a,b],[]⟩) (λA R s=>knd.room A.in1/\∃k xs,knd.is s.heap k a/\s.heap.DictOfH knd d xs/\xs.length<=sizeLine /\
  (∀p,atKey xs k=some p->R (.ok (.ret p.2)) {s with toks:=s.toks+knd.draws k}) /\
  (atKey xs k=none->∀h',h'.DictOfH knd d (storedH xs k a b)->Heap.SameBut d s.heap h'->R (.ok (.ret b)) {s with heap:=h',toks:=s.toks+knd.draws k})):=
 .of_wp λA R s l=>by
  obtain⟨e,k,xs,o,c,f,g,h⟩:=l;unfold Builtin.«dict.setdefault»;refine Ad ?_;unfold Builtin.Dict.keyAndDefault;refine Ad (wpAny_notOrdered_dict c.typeIs ?_);show wpAny _ _ (pure (d,Value.ref a,some b)) _ _ s;refine Aw ?_;show wpAny _ _ (if(d==sysModules)=true then _ else(dictSetDefault d (.ref a) b >>= _)) _ _ s;rw[Aj (by rw[hd];exact Cv)];exact Ad (Zh (hsz:=f) e o c (λp i=>Aw ⟨p.2,rfl,g p i⟩) λj h' m n=>Aw ⟨b,rfl,h j h' m n⟩)
end
section
variable {prog:Program} {w:World} {A:Around} {E:Value->Shared->Prop} {s:Shared}
variable {d:Addr}{es:Array DictEntry}{ep:Nat}
theorem Zj{o:Obj}{Q:Value->Shared->Prop}(hd:(d==sysModules)=false)(a:s.heap.get? d=some o)(e:o.ExactDict)(c:o.data=.dict es ep)
 (f:Q (.ref s.heap.objs.size) {s with heap:=s.heap.push {cls:=.type "dict_keyiterator",data:=.fields #[.ref d,.int 0 0,.int es.size 0,.int ep 0]}}) :
 wpAny (model prog w) A (pyIter (.ref d)) Q E s:=by
 have b:s.TypeIs (.ref d) "dict" :=⟨o,a,e.1⟩;refine wpAny_pyIter_slot b F.slot_dict_iter (wpAny_call_entry F.slot_dict_iter b F.entry_dict_iter ?_ (F.args_dict_iter_1 _));unfold Builtin.«dict.__iter__»;refine Ad ?_;unfold Builtin.Dict.dictSlotNone;refine Ad (wpAny_notOrdered_dict b ?_);show wpAny _ _ (pure (Value.ref d)) _ _ s;refine Aw ?_;show wpAny _ _ (Builtin.Dict.showsAll d >>= _) _ _ s;unfold Builtin.Dict.showsAll;rw[Aj (by rw[hd];exact Cv)];refine Ad (Aw ?_);refine Ad (wpAny_dictEntries a c ?_);refine Ad (wpAny_dictEpoch a c ?_);refine Ad (wpAny_newObj_type (Aw ⟨_,rfl, "dict_keyiterator",_,⟨_,B8 _ rfl,rfl⟩,F.slot_dict_keyiterator_next.lookup,?_⟩));simpa [rawInt] using f
theorem Zk{a:Addr}{i:Nat}{c:Obj}{Q:Option Value->Shared->Prop}(hit:s.heap.IsKeyIter a d i es.size ep)
 (e:s.heap.get? d=some c) (f:c.data=.dict es ep) (k:i<es.size)
 (h:∀h',h'.IsKeyIter a d (i+1) es.size ep->Heap.SameBut a s.heap h'->Q (some es[i].key) {s with heap:=h'}) :
 wpAny (model prog w) A (pyNext (.ref a)) Q E s:=by
 obtain⟨o,b,j,hd⟩:=id hit;unfold pyNext
 refine Ad (wpAny_attempt (wpAny_callSpecial?_slot (name:=Str.ofString "__next__") hit.typeIs F.slot_dict_keyiterator_next
  (wpAny_call_entry F.slot_dict_keyiterator_next hit.typeIs F.entry_dict_keyiterator_next ?_ (F.args_dict_keyiterator_next_1 _))))
 refine Ad (Aw ?_);refine Ad ?_;refine Ad ?_
 first|refine Ad (wpAny_typeNameOfWhole_keyiter hit.typeIs (Aw ?_))|refine Ad (wpAny_typeNameOf_keyiter hit.typeIs (Aw ?_))
 refine Ad (wpAny_fieldsOf b hd ?_);have l:Builtin.Dict_items.ownsTuple "dict_keyiterator" = false:=(by decide)
 simp only[l,Fi,if_false];show wpAny _ _ (if(Value.ref d==Value.none)=true then _ else _) _ _ s;rw[Aj (show ¬((Value.ref d==Value.none)=true) from Cv)];refine Ad (Aw ?_);refine Ad (wpAny_dictEntries e f ?_);rw[Aj (by simp)];refine Ad (Aw ?_);refine Ad (wpAny_dictEpoch e f ?_);rw[Aj (by simp)];refine Aw ?_;simp only[show ¬((i:Int)<0) from by omega,if_false,Bl,Array.getElem?_eq_getElem k];refine Ad ?_
 first|refine Ad (wpAny_typeNameOfWhole_keyiter hit.typeIs (Aw ?_))|refine Ad (wpAny_typeNameOf_keyiter hit.typeIs (Aw ?_))
 refine Ad (wpAny_isOneOf_keyiter hit.typeIs ?_);show wpAny _ _ (setField (.ref a) 1 (rawInt ((i:Int)+1)) >>= _) _ _ s;refine Ad (wpAny_setField b hd (by simp) ?_)
 have g:(s.heap.update a (Obj.mapFields (·.setIfInBounds 1 (rawInt ((i:Int)+1))))).IsKeyIter a d (i+1) es.size ep:=
  ⟨_,Heap.get?_update_self _ b (Obj.isFreed_of_fields (Obj.data_mapFields hd _)),(Obj.cls_mapFields ..).trans j,by rw[Obj.data_mapFields hd];simp[rawInt]⟩
 refine Ad (Fj ?_);refine Ad (wpAny_isOneOf_keyiter (s:={s with heap:=s.heap.update a (Obj.mapFields (·.setIfInBounds 1 (rawInt ((i:Int)+1))))}) g.typeIs ?_);show wpAny _ _ (pure es[i].key) _ _ _;exact Aw (Aw ⟨_,rfl,Aw (h _ g (Heap.SameBut.update ..))⟩)
theorem Zl{c:Addr}{i:Nat}{e:Obj}{Q:Option Value->Shared->Prop}(j:A.handled=none)(hit:s.heap.IsKeyIter c d i es.size ep)
 (g:s.heap.get? d=some e) (h:e.data=.dict es ep) (l:es.size<=i)
 (k:∀h',Heap.ExtBut c s.heap h'->Q none {s with heap:=h'}):wpAny (model prog w) A (pyNext (.ref c)) Q E s:=by
 obtain⟨o,f,p,hd⟩:=id hit;unfold pyNext
 refine Ad (wpAny_attempt (wpAny_callSpecial?_slot (name:=Str.ofString "__next__") hit.typeIs F.slot_dict_keyiterator_next
  (wpAny_call_entry F.slot_dict_keyiterator_next hit.typeIs F.entry_dict_keyiterator_next ?_ (F.args_dict_keyiterator_next_1 _))))
 refine Ad (Aw ?_);refine Ad ?_;refine Ad ?_
 first|refine Ad (wpAny_typeNameOfWhole_keyiter hit.typeIs (Aw ?_))|refine Ad (wpAny_typeNameOf_keyiter hit.typeIs (Aw ?_))
 refine Ad (wpAny_fieldsOf f hd ?_);have n:Builtin.Dict_items.ownsTuple "dict_keyiterator" = false:=(by decide)
 simp only[n,Fi,if_false];show wpAny _ _ (if(Value.ref d==Value.none)=true then _ else _) _ _ s;rw[Aj (show ¬((Value.ref d==Value.none)=true) from Cv)];refine Ad (Aw ?_);refine Ad (wpAny_dictEntries g h ?_);rw[Aj (by simp)];refine Ad (Aw ?_);refine Ad (wpAny_dictEpoch g h ?_);rw[Aj (by simp)];refine Aw ?_;simp only[show ¬((i:Int)<0) from by omega,if_false,Bl,Array.getElem?_eq_none l];refine Ad ?_
 first|refine Ad (wpAny_typeNameOfWhole_keyiter hit.typeIs (Aw ?_))|refine Ad (wpAny_typeNameOf_keyiter hit.typeIs (Aw ?_))
 show wpAny _ _ (setField (.ref c) 0 .none >>= _) _ _ s;refine Ad (wpAny_setField f hd (by simp) ?_);show wpAny _ _ (newExc (.type "StopIteration") [] >>= _) _ _ _
 refine Ad ?_;simp only[newExc,newTuple];refine Ad (wpAny_newObj_type ?_ (by size_fits));refine Ad (m:=firstArgMember _ _) (wpAny_of_eq (a:=Value.none) (by first|rfl|(simp only[firstArgMember];rfl)) ?_);refine wpAny_newObj_type ?_ (by size_fits);simp only[raiseNew];refine Ad (wpAny_handled ?_);rw[show A.in1.handled=none from j];refine Ad (Aw (wpAny_throw ?_))
 refine Ad (wpAny_isInstance (T:= "StopIteration") (b:=true) ⟨_,B8 _ rfl,rfl⟩ isSubtype_stop ?_);exact Aw (k _ (((Heap.SameBut.update ..).extBut.push _).push _))
end
end PySem
namespace L2
open PySem PySem.Spec PyProof.Rows
section
variable {X:Cx}
def Oi:V->List V->Hp->VK->Prop:=λx vs H Q=>∃a kvs k b d,x=.ref a/\vs=[.ref b,d]/\H a=some (.dT kvs)/\H b=some (.tup (k.map kV))/\kvs.length<sizeLine/\(∀v,AK kvs k=some v->Q v H)/\(AK kvs k=none->Q d (upd H a (.dT (AZ kvs k d))))
theorem Zm(A:X.A.units+1<cLine):NR X "dict.setdefault" Oi:=by
 intro Z s σ H x T v U Q I B C h;obtain⟨a,g,k,b,d,rfl,rfl,hd,l,V,D,E⟩:=h;cases B;obtain⟨u,r,rfl,F,m⟩:=Jc C;cases(show u=Value.ref b from F);obtain⟨z,n,o,j,p⟩:=Hu I.hok hd
 have i:o.length<=sizeLine:=by rw[<-Paired.length j];exact z
 have f:=j.val k
 refine call_meetsIn PySem.F.slot_dict_setdefault p.typeIs PySem.F.entry_dict_setdefault (PySem.F.args_dict_setdefault_3 _ _ _) (Zi (knd:=tupleKind (EL X.prog X.w)) a b n r)
  ⟨tupleKind_room_in1 A,k,o,Lu I.hok l,p,i,λy G=>?_,λJ W S K=>?_⟩
 rw[G] at f
 cases e:AK g k with
 |none=>rw[e] at f;exact False.elim f
 |some v0 =>
   rw[e] at f;exact⟨v0,H,I.tok _,f,D v0 e⟩
 rw[J] at f
 cases e:AK g k with
 |some v0=>rw[e] at f;exact False.elim f
 |none =>
   have i:(AZ g k d).length<=sizeLine:=by have:=NZ g k d;omega
   obtain⟨q,L,M,t,N,O,P,_,R⟩:=S;refine⟨d,_,N0 (ob:=.dT (AZ g k d)) I (by rw[hd];exact True.intro) K ⟨q,t⟩ ⟨i,n,_,(j.put k l m).keeps λc Y w=>?_,q,L,M,t,N,O,P,R⟩,m,E e⟩;rw[AD (MV w hd (λz=>nomatch z))];exact w
def PX (H Y H2:Hp):Prop:=∀b,H2 b=Y b\/H b=none/\∃kvs o,Y b=some (.dT kvs)/\H2 b=some (.frz o (.dT kvs))
theorem Inv.frz{pins:List (Addr×Obj)}{s:Shared}{σ:St}{H d:Hp}(I:Inv X pins σ H s)(h:∀b,d b=H b\/∃a o,s.heap.get? b=some o/\H b=some (.dT a)/\d b=some (.frz o (.dT a))):Inv X pins σ d s:=by
 have same:∀b u,H b=some u->(∀a,u≠.dT a)->d b=some u:=λb u e n=>by
  rcases h b with z|⟨a,o,_,z,_⟩;rw[z];exact e;rw[e] at z;cases z;exact absurd rfl (n a)
 refine I.step (g':=s.gens) (t':=s.toks) (d':=s.drawn) (h':=s.heap) (ch:=[]) (λb i=>nomatch i) (λb o _ _ _ z _=>z) (λb o _ _ _ z _=>⟨o.slots,z⟩) (λb o _ _ n=>?_) (λb o _ z=>⟨o,z⟩)
  (λb j z=>same b _ z λ_ q=>nomatch q) (λb o u z=>same b _ z λ_ q=>nomatch q) (λb p z=>⟨#[],by rw[same b _ z λ_ q=>nomatch q];simp⟩) (λm k=>k) (λb u z=>?_) I.bare
 rcases h b with z|⟨a,o,_,z,_⟩;rw[z];exact n;rw[n] at z;cases z;have f:∀{v:HO},H b=some v->Az X.prog X.w d s.heap b v:=λ{v}e=>(I.hok b v e).stay (λ_ _ _ q=>q) (λc q=>same c _ q λ_ q=>nomatch q) λc j q=>same c _ q λ_ q=>nomatch q;rcases h b with y|⟨a,o,g,y,l⟩;rw[y] at z;exact f z;rw[l] at z;cases z;exact⟨g,f y⟩
def SS (t:TE):TE:=λσ H Q=>t σ H λv Y=>∀H2,PX H Y H2->(∀b kvs,H b=none->Y b=some (.dT kvs)->∃o,H2 b=some (.frz o (.dT kvs)))->Q v H2
set_option tactic.hygienic true in
theorem HL{e:Expr}{t:TE}(n:PE X e t):PE X e (SS t):=by
 intro v s σ H Q I h;refine AW (n v s σ H _ I h) λu j⟨x,Y,l,p,q⟩=>?_
 classical
 let d:Hp:=λb=>if H b=none then(match Y b,j.heap.get? b with
  |some (.dT a),some o=>some (.frz o (.dT a))
  |z,_=>z) else Y b
 have k:∀b,d b=Y b\/H b=none /\ ∃a o,j.heap.get? b=some o/\Y b=some (.dT a)/\d b=some (.frz o (.dT a)):=λb=>by
  by_cases c:H b=none
  have e:d b=(match Y b,j.heap.get? b with
   |some (.dT a),some o=>some (.frz o (.dT a))
   |z,_=>z):=Ak c
  by_cases hd:∃a o,Y b=some (.dT a)/\j.heap.get? b=some o;obtain⟨a,o,f,i⟩:=hd;rw[f,i] at e;exact .inr ⟨c,a,o,i,f,e⟩;refine .inl ?_;rw[e];split;rename_i a o f i;exact absurd ⟨a,o,f,i⟩ hd;rfl;exact .inl (Aj c)
 refine⟨x,d,l.frz λb=>(k b).imp id λ⟨_,z⟩=>z,p,q d (λb=>(k b).imp id λ⟨c,a,o,_,f,i⟩=>⟨c,a,o,f,i⟩) λb a c z=>?_⟩;rcases k b with y|⟨_,w,o,_,m,r⟩;exfalso
 obtain⟨_,_,_,_,o,A,B,g,_⟩:=(show Az X.prog X.w Y j.heap b (.dT a) from l.hok b _ z)
 have e:d b=some (.frz o (.dT a)):=by
  show(if H b=none then _ else _)=_;rw[Ak c,z,g]
 rw[e,z] at y;cases y;rw[z] at m;cases m;exact⟨o,r⟩
def Oj (a:Addr) (o:Obj) (kvs:List (List AN×V)):It:=
 ⟨λi H=>H a=some (.frz o (.dT kvs))/\i<kvs.length,λi H x H'=>H'=H/\∃k v b,kvs[i]?=some (k,v)/\x=.ref b/\H b=some (.tup (k.map kV)),λi H=>H a=some (.frz o (.dT kvs))/\kvs.length<=i⟩
theorem LY{α β:Type}{F:α->β->Prop}{l:List α}{m:List β}(h:Paired F l m):∀{i:Nat}(a:i<l.length),∃y,m[i]?=some y/\F l[i] y:=by
 induction h with
 |nil=>intro i a;exact absurd a (Nat.not_lt_zero _)
 |cons r t b =>
   intro i a
   cases i with
   |zero=>exact⟨_,rfl,r⟩
   |succ i=>exact b (i:=i) (by simpa using a)
theorem Zn{P:Program}{w:World}{K:Ah}{T:Expr}{a j:Addr}{o:Obj}{p:List (List AN×V)}{es:Array DictEntry}{ep:Nat}(hd:o.data=.dict es ep) :
 Fl P w K T (Oj a o p) [j] j (λi h=>h.IsKeyIter j a i es.size ep) where
 mem:=by simp
 obj:=λi h f b l=>by
  have e:b=j:=(by simpa using l);subst e;obtain⟨o,e,c,d⟩:=f;exact⟨o,e,λah z=>by rw[d] at z;cases z⟩
 keep:=λi h r f k=>f.at λo e=>k j (by simp) o e
 item:=by
  intro X u v x O i S s σ H E I t f A;subst u v x;obtain⟨B,C⟩:=A;obtain⟨m,z,y,U,N,W,ab,ae,g,Y,n,D,Z⟩:=(show Az X.prog X.w H s.heap a (.frz o (.dT p)) from I.hok a _ B);rw[m] at g;cases g;rw[hd] at n;cases n;obtain⟨q,hx,e1,e2,e3⟩:=LY N C;have Q:=entry_at (knd:=tupleKind (EL X.prog X.w)) D i;rw[hx] at Q;obtain⟨af,ag⟩:=Array.getElem?_eq_some_iff.mp Q;obtain⟨F,G,aa,J,L,M⟩:=t j (by simp);refine Zk f m hd af λr R sb=>?_;have I1:Inv X S σ H {s with heap:=r}:=I.turned (t':=s.toks) (λb o l e=>(sb.2 b l).trans e) F G J L M;obtain⟨oi,e,c,d⟩:=id R;refine⟨_,rfl,Hh (s:={s with heap:=r}) e c d (by decide) ⟨.ref q.2.1,H,I1,?_,⟨rfl,p[i].1,p[i].2,q.2.1,by simp[C],rfl,e2⟩,R,λb l=>(t b l).1⟩⟩;rw[ag];rfl
 done:=by
  intro X u v x O i S s σ H E I t f A;subst u v x;obtain⟨B,C⟩:=A;obtain⟨m,z,y,U,N,W,ab,ae,g,Y,n,D,Z⟩:=(show Az X.prog X.w H s.heap a (.frz o (.dT p)) from I.hok a _ B);rw[m] at g;cases g;rw[hd] at n;cases n;have ai:=size_of_entries D;have hl:=Paired.length N;obtain⟨F,G,aa,J,L,M⟩:=t j (by simp);exact Zl (I.ok.hd O) f m hd (by omega) λr eb=>⟨rfl,I.turned (t':=s.toks) (λb o l e=>eb b o l e) F G J L M⟩
 self:=λ_ _ _ _ _ f h=>wpAny_pyIter_keyiter f h
def Ol (tl:TE):TI:=λσ H R=>tl σ H λx Y=>∃a kvs,x=.ref a/\Rd Y a (.dT kvs)/\∀o,(Y a=some (.dT kvs)\/Y a=some (.frz o (.dT kvs)))->R (Oj a o kvs) (upd Y a (.frz o (.dT kvs)))
theorem JE{r l:Expr}{k:TE}(t:PE X l k):PI X r l (Ol k):=by
 intro p s σ H R I h;refine AW (t p s σ H _ I h) λv c⟨x,Y,i,u,w⟩=>?_;obtain⟨a,d,e,m,q⟩:=w;subst e;cases u;obtain⟨_,y,C,_,o,D,E,g,A,n,_⟩:=(show Az X.prog X.w Y c.heap a (.dT d) from Ht i.hok m)
 have f:Y a=some (.dT d)\/Y a=some (.frz o (.dT d)):=by
  rcases m with z|⟨B,z⟩;exact .inl z
  have:=(show Az X.prog X.w Y c.heap a (.frz B (.dT d)) from i.hok a _ z).1
  rw[g] at this;cases this;exact .inr z
 have j:Inv X p σ (upd Y a (.frz o (.dT d))) c:=i.frz λb=>by
  by_cases e:b=a;subst e;rcases f with z|z;exact .inr ⟨d,o,g,z,Aa⟩;exact .inl (Aa.trans z.symm);exact .inl (AD e)
 refine Zj y g A n ?_;refine⟨c.heap.objs.size,[c.heap.objs.size],_,_,_,rfl,j.kept (t':=c.toks) λb o e=>Ba _ e,Zn n,⟨_,B8 _ rfl,rfl,rfl⟩,λb f=>?_,q o f⟩;have e:b=c.heap.objs.size:=(by simpa using f);subst e;exact j.fpOk (AB _) (j.hok.fresh (AB _))
theorem Zo{a:Addr}{o:Obj}{c:List (List AN×V)}{g:TG}{tb:TS}{D:Ends}{σ:St}{H:Hp}(Pv:Nat->St->Hp->Prop)(j:Pv 0 σ H)(l:∀i σ H,i<=c.length->Pv i σ H->H a=some (.frz o (.dT c)))
 (n:∀i k v b σ H,c[i]?=some (k,v)->H b=some (.tup (k.map kV))->Pv i σ H->g (.ref b) σ H λσ2 d=>tb {D with nx:=Pv (i+1),ct:=Pv (i+1),bk:=D.nx} σ2 d) (hd:∀σ H,Pv c.length σ H->D.nx σ H) :
 ∃W:Nat->Nat->St->Hp->Prop,(∃m,W 0 m σ H)/\∀i m σ H,W i m σ H ->
  ((Oj a o c).stop i H/\D.nx σ H)\/((Oj a o c).go i H/\∃N:St->Hp->Prop,(∀σ' H',N σ' H'->∃f,f<m/\W (i+1) f σ' H')/\∀x H',(Oj a o c).yld i H x H'->g x σ H' λσ2 d=>tb {D with nx:=N,ct:=N,bk:=D.nx} σ2 d):=by
 refine⟨λi m σ H=>m=c.length-i/\i<=c.length/\Pv i σ H,⟨c.length,by simp,Ck _,j⟩,?_⟩;rintro i m σ H ⟨rfl,r,p⟩;have q:=l i σ H r p;by_cases h:i<c.length;refine .inr ⟨⟨q,h⟩,Pv (i+1),λσ' H' s=>⟨c.length-(i+1),by omega,rfl,h,s⟩,λx H' y=>?_⟩;obtain⟨e,k,v,b,t,u,w⟩:=y;subst e u;exact n i k v b σ _ t w p;have e:i=c.length:=(by omega);subst e;exact .inl ⟨⟨q,AB _⟩,hd σ H p⟩
end
end L2
namespace PySem
section
variable {prog:Program} {w:World} {A:Around} {E:Value->Shared->Prop} {s:Shared}
theorem VY{a:Addr}{o:Obj}{xs:Array Value}{k:Nat}{Q:Option Value->Shared->Prop}
 (f:s.heap.get? a=some o) (i:o.cls=.type "list") (n:o.data=.seq xs k) (hd:o.dict=none) (p:A.handled=none)
 (h:∀h' tk,(∀b o,s.heap.get? b=some o->h'.get? b=some o)->Q none {s with heap:=h',toks:=tk}):wpAny (model prog w) A (getAttr? (.ref a) "keys") Q E s:=by
 obtain⟨c,dct,G,q⟩:=o;simp only at i n hd;subst i n hd;obtain⟨r,g,d,tk,t⟩:=s;have j:∀l,(⟨r,g,d,l,t⟩:Shared).TypeIs (.ref a) "list" :=λ_=>⟨_,f,rfl⟩;have v:=sub_AttributeError;have x:=F.slot_list_getattribute.lookup;have y:=F.slot_list_getattribute.bind (.ref a);have z:=am_list_getattr_none;have u:typeLookup (.type "list") "keys" = pure none:=by rw[typeLookup_type,builtinLookup_eq_fast];kernel_rfl
 unfold getAttr? getAttrBy? getAttrBy
 repeat (any_goals (first|assumption|exact j _|((with_reducible show wpAny _ _ (call (Value.builtin "list.__getattribute__") _ _) _ _ _);refine call_meets F.slot_list_getattribute (j _) am_entry_list_getattribute (F.args_list_getattribute_2 _ _) (meets_getattribute_miss_list a xs k q "keys" _ u (by decide) (by size_fits)) ⟨f,p,λh' l e m=>?_⟩)|wp_step))
 obtain⟨B,C,D⟩:=m.there;show wpAny _ _ (getattributeRaised _ _ _ _ _ _ _) _ _ _;unfold getattributeRaised
 repeat (any_goals (first|assumption|wp_step))
 exact h _ _ m.keeps
namespace F
theorem args_minD(a v:Value):argsOk "min" ⟨[a],[(Str.ofString "default",v)]⟩:=by unfold argsOk;kernel_rfl
theorem entry_upd_loop:entryFor table "dict.update.loop" = some Builtin.«dict.update.loop»:=entryFor_of_tree (by kernel_rfl)
theorem plain_upd_loop:plainId "dict.update.loop" = true:=by decide +kernel
end F
variable {R:Result->Shared->Prop} {I:Addr} {fp r:List Addr} {n:Nat} {P:Nat->Value->Prop} {St:Nat->Heap->Prop}
theorem PY:(toString "min" ++ toString ".loop" : String) = "min.loop" :=by decide
theorem SU(W:Walks prog w A.in1 I fp r n P St)(d:Nat->Nat->Bool)(E:CmpOf prog w A.in1 .Lt P d)(S:Addr)(m:S∉fp)(t:List (Str×Value)) :
 ∀(k j:Nat)(s:Shared)(a:Value)(c:Nat),n=j+1+k->St (j+1) s.heap->P (argBest d j) a->s.heap.get? S=some {cls:=.type "list",data:=.seq #[a,a] c} ->
 (∀v h' tk,P (argBest d (n-1)) v->(∀b o,b∉r->b≠S->s.heap.get? b=some o->h'.get? b=some o)->R (.ok (.ret v)) {s with heap:=h',toks:=tk}) ->
 codeAny (model prog w) A (.builtin "min.loop" ⟨[.ref I,.none,.ref S],t⟩) R s
 |0,j,s,a,c,G,y,q,l,p=>by
   subst G;refine codeAny_builtin F.entry_min_loop ?_;rw[Around.under_plainId F.plain_min_loop _];show wpAny _ A.in1 (seqItems? (.ref S) >>= _) _ _ s;refine Ad (F9 l rfl ?_);show wpAny _ A.in1 (tryCatch (pyNext (.ref I)) _ >>= _) _ _ s;refine Ad (wpAny_tryCatch (W.done s _ _ y λh' tk g=>?_));show wpAny _ A.in1 (updateSeq S (λ_=>#[]) >>= _) _ _ _;refine Ad (wpAny_updateSeq (g S _ (λh=>m (W.sub _ h)) l) rfl (Ad (wpAny_letGo (Aw (p a _ tk q λb o f i e=>?_)))));exact(Heap.get?_update_other _ _ (Ne.symm i)).trans (g b o f e)
 | k + 1,j,s,a,c,G,y,q,l,p=>by
   refine codeAny_builtin F.entry_min_loop ?_;rw[Around.under_plainId F.plain_min_loop _];show wpAny _ A.in1 (seqItems? (.ref S) >>= _) _ _ s;refine Ad (F9 l rfl ?_);show wpAny _ A.in1 (tryCatch (pyNext (.ref I)) _ >>= _) _ _ s;refine Ad (wpAny_tryCatch (W.item (j+1) s _ _ (by omega) y λv h' tk H K g=>?_));have z:=g S _ (λh=>m (W.sub _ h)) l;show wpAny _ A.in1 (tryCatch (holding [v,v] (richCompare .Lt v a >>= _)) _ >>= _) _ _ _;refine Ad (wpAny_tryCatch (Fj (Ad (E (j+1) (argBest d j) v a _ _ _ H q (Ad (Fj (FI (Ad (wpAny_letGo (Aw ?_))))))))))
   cases J:d (j+1) (argBest d j) with
   |true =>
     simp only[if_true];refine Ad (wpAny_updateSeq z rfl (Ad (wpAny_letGo ?_)));rw[PY];refine Aw ⟨plainId_quiet F.plain_min_loop _,SU W d E S m t k (j+1) _ v _ (by omega) (W.frame _ _ _ K λb L o e=>?_) (by simp only[argBest,J,if_true];exact H) (Heap.get?_update_self _ z rfl) λu x B C D=>?_⟩;exact(Heap.get?_update_other _ _ (λh:S=b=>m (by rw[h];exact L))).trans e;exact p u x B C λb o f i e=>D b o f i ((Heap.get?_update_other _ _ (Ne.symm i)).trans (g b o f e))
   |false =>
     simp only[Fi,if_false];refine Ad (wpAny_letGo ?_);rw[PY]
     exact Aw ⟨plainId_quiet F.plain_min_loop _,SU W d E S m t k (j+1) _ a c (by omega) K (by simp only[argBest,J,Fi,if_false];exact q) z λu x B C D =>
      p u x B C λb o f i e=>D b o f i (g b o f e)⟩
theorem Zp{x d:Value}{Q:Value->Shared->Prop}
 (h:wpAny (model prog w) A.in1 (pyIter x) (λl c=>∃I fp r n P St f,l=.ref I/\Walks prog w A.in1 I fp r n P St/\St 0 c.heap/\(∀b∈fp,b<c.heap.objs.size)/\CmpOf prog w A.in1 .Lt P f /\
  ∀v h' tk,(if n=0 then v=d else P (argBest f (n-1)) v)->(∀b o,b∉r->c.heap.get? b=some o->h'.get? b=some o)->Q v {c with heap:=h',toks:=tk}) E s) :
 wpAny (model prog w) A (call (.builtin "min") [x] [(Str.ofString "default",d)]) Q E s:=by
 refine wpAny_call (codeAny_call_builtin F.plain_min F.entry_min (wpAny_of_eq (a:=()) (by
  have j:=F.args_minD x d;simp only[checkBuiltinCall,F.kind_min];unfold argsOk at j
  cases O:Manifest.signature? "min" with
  |none=>rfl
  |some T=>rw[O] at j;exact j) ?_))
 show wpAny _ A.in1 (Builtin.Builtins.bindParams "min" ["key", "default"] 0 ⟨[],[(Str.ofString "default",d)]⟩ >>= _) _ _ s
 refine Ad (wpAny_of_eq (show Builtin.Builtins.bindParams "min" ["key", "default"] 0 ⟨[],[(Str.ofString "default",d)]⟩=pure [none,some d] from rfl) ?_)
 refine Ad (Aw ?_);refine Ad (FJ h (λl c y=>?_) λ_ _ e=>e);obtain⟨I,fp,r,n,P,St,f,rfl,W,G,H,R,m⟩:=y;refine Ad (wpAny_newObj_type ?_);have k:c.heap.objs.size∉fp:=λz=>F7 _ (H _ z);have J:c.heap.objs.size∉r:=λh=>k (W.sub _ h);rw[PY];have p:(c.heap.push {cls:=.type "list",data:=.seq #[]}).get? c.heap.objs.size=some {cls:=.type "list",data:=.seq #[]}:=B8 _ rfl;have u:=W.frame _ _ (c.heap.push {cls:=.type "list",data:=.seq #[]}) G λb _ o e=>Ba _ e;refine Aw ⟨plainId_quiet F.plain_min_loop _,codeAny_builtin F.entry_min_loop ?_⟩;rw[Around.under_plainId F.plain_min_loop _];show wpAny _ A.in1 (seqItems? (.ref c.heap.objs.size) >>= _) _ _ _;refine Ad (F9 p rfl ?_);show wpAny _ A.in1 (tryCatch (pyNext (.ref I)) _ >>= _) _ _ _
 cases n with
 |zero =>
   refine Ad (wpAny_tryCatch (W.done _ _ _ u λh' tk g=>?_));exact Ad (Ha (Aw (m d _ tk (by rw[Ak rfl]) λb o i e=>g b o i (Ba _ e))))
 |succ n =>
   refine Ad (wpAny_tryCatch (W.item 0 _ _ _ (Nat.succ_pos _) u λv h' tk B S g=>?_));have t:=g _ _ J p;show wpAny _ A.in1 (updateSeq c.heap.objs.size (λ_=>#[v,v]) >>= _) _ _ _;refine Ad (wpAny_updateSeq t rfl ?_);rw[PY];refine Aw ⟨plainId_quiet F.plain_min_loop _,SU W f R _ k _ n 0 _ v _ (by omega) (W.frame _ _ _ S λb K o e=>?_) B (Heap.get?_update_self _ t rfl) λC D L M N=>?_⟩;exact(Heap.get?_update_other _ _ (λh:c.heap.objs.size=b=>k (by rw[h];exact K))).trans e;refine m C D L (by rw[Aj (Nat.succ_ne_zero n)];exact M) λb o i e=>?_;have q:b≠c.heap.objs.size:=CU (A1 e);exact N b o i q ((Heap.get?_update_other _ _ (Ne.symm q)).trans (g b o i (Ba _ e)))
end
end PySem
namespace L2
open PySem PySem.Spec PyProof.Rows
section
variable {X:Cx}
def PZ:List Int->V
 |[]=>.non
 |n::ns=>.int (ns.foldl min n)
theorem VZ(f:Nat->Int):∀n,f (argBest (λi j=>decide (f i<f j)) n)=((List.range n).map λi=>f (i+1)).foldl min (f 0)
 |0=>rfl
 |n+1=>by
   have a:=VZ f n;rw[List.range_succ,Bk,Ks];show f (if _ then _ else _)=min _ (f (n+1));rw[<-a]
   by_cases h:f (n+1)<f (argBest (λi j=>decide (f i<f j)) n);rw[Ak (A5 h)];omega;rw[Aj (by simpa using h)];omega
theorem Zq(n:Int)(ns:List Int):((List.range ns.length).map λi=>(n::ns).getD (i+1) 0)=ns:=by
 apply List.ext_getElem?;intro i;rw[Bh];by_cases h:i<ns.length;rw[List.getElem?_range h,Option.map_some,BY,List.getElem?_cons_succ,AC h];rfl;rw[GK (by simpa using h),GK (by omega)];rfl
def Om (ta:TA):TE:=λσ H Q=>ta σ H λvs Y=>∃p ns,vs=[.ref p]/\Y p=some (.lst (ns.map V.int))/\Q (PZ ns) Y
theorem JF{e:Expr}{r:TA}{p L B J:Pos}{j:Nat}(C:X.calm=true)(D:Gl X "min")(E:X.mg "min" = none)(F:PA X [e] r)
 (f:backTo L (starEach [e] X.env)=(false,eval e X.env)::backTo L (starEach [] X.env):=by rfl) (R:(backTo L (starEach [e] X.env)).any (·.1)=false:=by rfl) :
 PE X (.Call (.Name "min" p) [e] [⟨some "default",.Constant .none j B,J⟩] L) (Om r):=by
 intro T s σ H Q I h;refine wpAny_Call_Name_kw (IX I D E (u:=.builtin "min") (by decide +kernel) (callWith_kw (AW (F L T s σ H _ I h) λW c⟨Z,Y,k,G,K⟩=>kws_cons (Constant_none (kws_nil ?_))) f R))
 obtain⟨l,a,rfl,M,q⟩:=K;obtain⟨u,rfl,N⟩:=Fm G;cases N;obtain⟨z,g,n,w,e⟩:=(show Az X.prog X.w Y c.heap l (.lst (a.map V.int)) from k.hok l _ M);have x:=X7 w;have y:c.heap.IsList l g.toArray:=⟨_,e,rfl,n,rfl⟩
 have U:g.length=a.length:=by have:=w.length;rw[Al] at this;exact this.symm
 refine Zp (wpAny_pyIter_list y ⟨_,[c.heap.objs.size,l],[c.heap.objs.size],_,λi v=>g.toArray[i]?=some v,λi h=>h.IsListIter c.heap.objs.size l i/\h.IsList l g.toArray,λi j=>decide (a.getD i 0<a.getD j 0),rfl,Walks.list (A:=X.A.in1) (k.ok.hd C) c.heap.objs.size l (CU (A1 e)) g.toArray,
  ⟨⟨_,B8 _ rfl,rfl,rfl⟩,y.push _⟩,λb f=>?_,CmpOf.ints_lt (λi=>a.getD i 0) (λi v d=>x.int_at i v (by simpa using d)),λv O tk d P=>?_⟩)
 show b<(c.heap.push _).objs.size;rw[Heap.size_push];rcases Ch.mp f with rfl|f;exact QW _;rw[AY.mp f];exact Nat.lt_succ_of_lt (A1 e);have S:∀b o,c.heap.get? b=some o->O.get? b=some o:=λb o z=>P b o (by simpa using CU (A1 z)) (Ba _ z);refine⟨PZ a,Y,k.kept S,?_,q⟩;rw[Cu,U] at d
 cases a with
 |nil=>exact d
 |cons m a =>
   rw[Ek,Aj (Nat.succ_ne_zero _),Nat.add_sub_cancel] at d;obtain⟨t,rfl⟩:=x.int_at (argBest (λi j=>decide ((m::a).getD i 0<(m::a).getD j 0)) a.length) v (by rw[<-List.getElem?_toArray];exact d);refine⟨t,?_⟩;rw[VZ λi=>(m::a).getD i 0,Zq];rfl
def KN (acc:List (List AN×V)) (ps:List (List AN×V)):List (List AN×V):=ps.foldl (λa kv=>AZ a kv.1 kv.2) acc
def E6 (H:Hp) (xs:List V) (ps:List (List AN×V)):Prop:=Paired (λx(p:List AN×V)=>∃t b,x=.ref t/\H t=some (.tup [.ref b,p.2])/\H b=some (.tup (p.1.map kV))) xs ps
theorem Zr{pins:List (Addr×Obj)}{σ:St}{A:Around}{R:Result->Shared->Prop}{H:Hp}{p l f:Addr}(hu:A.units+1<cLine)(hh:A.in1.handled=none)(k:H p=none)(F:f≠p) :
 ∀(xs:List V)(ps:List (List AN×V))(d:List V)(acc:List (List AN×V))(s:Shared),E6 H xs ps->H l=some (.lst (d++xs))->acc.length+xs.length<=sizeLine->Inv X pins σ (upd H p (.dT acc)) s ->
 s.heap.IsListIter f l d.length->Ec X pins H f->(∀Z,Inv X pins σ (upd H p (.dT (KN acc ps))) Z->R (.ok (.ret .none)) Z)->∀n:Int,
 codeAny (model X.prog X.w) A (.builtin "dict.update.loop" ⟨[.ref p,.ref f,rawInt n,.none],[]⟩) R s:=by
 intro xs ps d acc s hx
 induction hx generalizing d acc s with
 |nil =>
   intro g K I u m v n;have G:upd H p (.dT acc) l=some (.lst (d++[])):=(AD (AH g k)).trans g;obtain⟨w,y,aa,B,C,D⟩:=m;have J:upd H p (.dT acc) f=none:=(AD F).trans w;obtain⟨z,U,c,E,e⟩:=(show Az X.prog X.w _ s.heap l (.lst (d++[])) from I.hok l _ G);have an:=E.length;rw[FC] at an;refine codeAny_builtin PySem.F.entry_upd_loop ?_;rw[Around.under_plainId PySem.F.plain_upd_loop _];show wpAny _ A.in1 (pyNext (.ref f) >>= _) _ _ s;refine Ad (wpAny_pyNext_list_end hh u ⟨_,e,rfl,c,rfl⟩ (by simp;omega) λj eb=>?_);exact Ad (Aw (Aw (v _ (I.turned (t':=s.toks) (λb o h e=>eb b o h e) J y B C D))))
 |@cons x q xs ps hq tl ih =>
   intro g K I u m v n;obtain⟨t,b,rfl,L,h⟩:=hq;have G:upd H p (.dT acc) l=some (.lst (d++.ref t::xs)):=(AD (AH g k)).trans g;have af:upd H p (.dT acc) t=some (.tup [.ref b,q.2]):=(AD (AH L k)).trans L;have W:upd H p (.dT acc) b=some (.tup (q.1.map kV)):=(AD (AH h k)).trans h;obtain⟨w,y,aa,B,C,D⟩:=id m;have J:upd H p (.dT acc) f=none:=(AD F).trans w;obtain⟨z,U,c,E,e⟩:=(show Az X.prog X.w _ s.heap l (.lst (d++.ref t::xs)) from I.hok l _ G);obtain⟨ao,ag,ru⟩:=E.get (i:=d.length) (x:=.ref t) (by simp);cases ru;refine codeAny_builtin PySem.F.entry_upd_loop ?_;rw[Around.under_plainId PySem.F.plain_upd_loop _];show wpAny _ A.in1 (pyNext (.ref f) >>= _) _ _ s;refine Ad (wpAny_pyNext_list_item u (⟨_,e,rfl,c,rfl⟩:s.heap.IsList l U.toArray) (x:=.ref t) (by simpa using ag) λj ah sb=>?_);have r:Inv X pins σ (upd H p (.dT acc)) {s with heap:=j}:=I.turned (t':=s.toks) (λb o h e=>(sb.2 b h).trans e) J y B C D;obtain⟨_,ts,rt,ot,M,ct,nt,dt⟩:=(show Az X.prog X.w _ j t (.tup [.ref b,q.2]) from r.hok t _ af);obtain⟨u1,N,rfl,r1,r2⟩:=Jc rt;cases(show u1=Value.ref b from r1);obtain⟨zd,hm,es,Y,dd⟩:=Hu r.hok (Aa (H:=H) (a:=p) (o:=.dT acc))
   have ai:es.length<=sizeLine:=by rw[<-Paired.length Y];exact zd
   have aq:(AZ acc q.1 q.2).length<=acc.length+1:=NZ acc q.1 q.2;rw[Ek] at K;refine Ad (Fj (Ad (wpAny_tryCatch ?_)));show wpAny _ A.in1 (Builtin.Dict.pairItems (.ref t)) _ _ _;unfold Builtin.Dict.pairItems;refine Ad (MR (s:={s with heap:=j}) (T:= "tuple") ⟨ot,M,ct⟩ ?_);rw[Ak (by decide)];refine Ad (F9 (s:={s with heap:=j}) M dt (Aw ?_));show wpAny _ A.in1 (holding [Value.ref b,N] (dictSet p (.ref b) N)) _ _ _;refine Fj (wpAny_dictSet_heap (hsz:=ai) (knd:=tupleKind (EL X.prog X.w)) (tupleKind_room_in1 hu) (Lu r.hok W) dd λh2 aj O=>?_);obtain⟨P,ak,al,Q,ab,ae,g4,_,g5⟩:=aj
   have I2:Inv X pins σ (upd H p (.dT (AZ acc q.1 q.2))) {s with heap:=h2,toks:=s.toks+(tupleKind (EL X.prog X.w)).draws q.1}:=by
    have:=N0 (t':=s.toks+(tupleKind (EL X.prog X.w)).draws q.1) (ob:=.dT (AZ acc q.1 q.2)) r (by rw[Aa];exact True.intro) O ⟨P,Q⟩ ⟨by omega,hm,_,(Y.put q.1 W r2).keeps λc ys S=>?_,P,ak,al,Q,ab,ae,g4,g5⟩;rw[UB] at this;exact this;rw[AD (MV S Aa (λz=>nomatch z))];exact S
   refine Aw ⟨plainId_quiet PySem.F.plain_upd_loop _,?_⟩;have:=ih (d++[.ref t]) (AZ acc q.1 q.2) _ (by rw[FX];exact g) (by omega) I2 (by rw[AV];exact ah.at λo e=>(O.2 f F).trans e) m v (n+1);exact this
def JG:List V->Hp->VK->Prop:=λvs H Q=>∃l xs ps,vs=[.ref l]/\H l=some (.lst xs)/\xs.length<sizeLine/\E6 H xs ps/\∀p,H p=none->Q (.ref p) (upd H p (.dT (KN [] ps)))
theorem Zs(j:X.calm=true)(y:X.A.units+2<cLine):A7 X (.type "dict") JG:=by
 intro pins s σ H K L Q I r h;obtain⟨l,k,B,rfl,m,M,C,q⟩:=h;obtain⟨u,rfl,D⟩:=Fm r;cases D;have n:H s.heap.objs.size=none:=I.hok.fresh (AB _);refine callType_codes (Q₁:=λw p=>w=.ref s.heap.objs.size/\p={s with heap:=s.heap.push {cls:=.type "dict",data:=.dict #[]}}) PySem.F.kt_called_dict (PySem.F.kt_typeCall_dict_1 _) PySem.F.entry_dict_init (kt_code_dict_new _ ⟨rfl,rfl⟩) ?_;rintro w p ⟨rfl,rfl⟩;have E:=I.laid (a:=s.heap.objs.size) (o:=.dT []) (t':=s.toks) (h':=s.heap.push {cls:=.type "dict",data:=.dict #[]}) (λ_ _ q=>Ba _ q) (AB _) (Vb s.heap I.big)
 obtain⟨z,O,c,N,e⟩:=(show Az X.prog X.w _ s.heap l (.lst k) from I.hok l _ m)
 have f:=Ba {cls:=.type "dict",data:=.dict #[]} e;have t:Shared.TypeIs {s with heap:=s.heap.push {cls:=.type "dict",data:=.dict #[]}} (.ref s.heap.objs.size) "dict" :=⟨_,B8 _ rfl,rfl⟩;refine⟨t,PySem.F.args_dict_init_2 _ _,?_⟩;unfold Builtin.«dict.__init__»;refine Ad ?_;unfold Builtin.Dict.selfAndRest;refine Ad (wpAny_notOrdered_dict t ?_);show wpAny _ _ (pure (s.heap.objs.size,[Value.ref l])) _ _ _;refine Aw ?_;show wpAny _ _ (Builtin.Dict.updateFrom "dict.__init__" s.heap.objs.size (.ref l) [] .none) _ _ _;unfold Builtin.Dict.updateFrom;refine Ad (MR (T:= "list") ⟨_,f,rfl⟩ ?_)
 rw[Ak (by decide)];refine Ad (VY f rfl rfl rfl (I.ok.hd j) λd tk v=>?_);rw[Ak (show(none:Option Value).isNone=true from rfl)];have g:=E.kept (t':=tk) v;refine Ad (Ha (Ad (wpAny_pyIter_list (s:={s with heap:=d,toks:=tk}) ⟨_,v _ _ f,rfl,c,rfl⟩ ?_)))
 have F:=g.kept (t':=tk) (h':=d.push {cls:=.type "list_iterator",data:=.fields #[.ref l,.int 0 0]}) λb o e=>Ba _ e;obtain⟨i,G⟩:=g.fpOk (AB d.objs.size) (g.hok.fresh (AB _));have x:d.objs.size≠s.heap.objs.size:=λz=>by rw[z,Aa] at i;cases i
 refine Aw ⟨plainId_quiet PySem.F.plain_upd_loop _,Zr (A:=X.A.in1) (X:=X) (pins:=pins) (σ:=σ) (l:=l) (H:=H) y (I.ok.hd j) n x k B [] [] _ C m (by rw[Gp];omega) F ⟨_,B8 _ rfl,rfl,rfl⟩ ⟨(AD x).symm.trans i,G⟩ (λZ J=>⟨rfl,.ref _,_,J,rfl,q _ n⟩) 0⟩
end
open Ord
theorem Zt{bs:List Bool}:(List.range bs.length).any (λi=>bs.getD i false)=bs.any id:=by
 rw[Bool.eq_iff_iff,Gq,Gq];constructor;rintro⟨i,a,h⟩;have c:=List.mem_range.mp a;rw[BY,AC c] at h;exact⟨_,D9 c,h⟩;rintro⟨b,d,h⟩;obtain⟨i,a,e⟩:=O8.mp d;refine⟨i,List.mem_range.mpr a,?_⟩;rw[BY,AC a,e];exact h
def SV (K:Ah):List V->Hp->VK->Prop:=λvs H Q=>∃(a:Addr)(bs:List Bool),vs=[.ref a]/\Af K H a (bs.map V.bl)/\Q (.bl (bs.any id)) H
theorem V0{X:Cx}(g:X.calm=true):A7 X (.builtin "any") (SV X.K):=by
 intro B s σ H t w Q I r h;obtain⟨a,bs,rfl,j,q⟩:=h;obtain⟨u,rfl,k⟩:=Fm r;obtain rfl:u=Value.ref a:=k;obtain⟨c,d,p,x⟩:=I.list j;have f:=d.length;rw[Al] at f;have n:a<s.heap.objs.size:=by obtain⟨_,e,_⟩:=p.isList;exact A1 e
 refine call_any_walk (wpAny_pyIter_list p.isList ?_);refine⟨s.heap.objs.size,[s.heap.objs.size,a],[s.heap.objs.size],c.toArray.size,(λi v=>c.toArray[i]?=some v),(λi h=>h.IsListIter s.heap.objs.size a i/\h.IsList a c.toArray),(λi=>bs.getD i false),rfl,Walks.list (A:=X.A.in1) (I.ok.hd g) s.heap.objs.size a (CU n) c.toArray,⟨⟨_,B8 _ rfl,rfl,rfl⟩,p.isList.push _⟩,Vd d,λy tk l=>?_⟩;refine⟨.bl (bs.any id),H,I.kept λb o e=>l b o (λz=>?_) (Ba _ e),?_,q⟩;have m:b=s.heap.objs.size:=(by simpa using z);exact absurd (A1 e) (by rw[m];exact F7 _);have e:c.toArray.size=bs.length:=(by rw[Cu,f]);show Value.bool _=Value.bool _;rw[e,Zt]
section
variable {prog:Program} {w:World} {A:Around} {E:Value->Shared->Prop} {s:Shared}
end
section
variable {X:Cx}
end
end L2
namespace TreeM
theorem SW{β:Type}{P:List β->Prop}(nil:P [])(snoc:∀l x,P l->P (l++[x]))(l:List β):P l:=by
 have:∀l:List β,P l.reverse:=λl=>by
  induction l with
  |nil=>exact nil
  |cons x l a=>rw[List.reverse_cons];exact snoc _ _ a
 rw[<-List.reverse_reverse l];exact this _
variable {α:Type} [DecidableEq α]
abbrev Ws (α:Type):=List (Nat×List α)
def nxt (p:List α) (w:List α):Option α:=if p <+: w then w[p.length]? else none
def keysAt (ws:Ws α) (p:List α):List (α×Nat):=ws.foldl (λks kw=>match nxt p kw.2 with
 |some m=>if m∈ks.map (·.1) then ks else ks++[(m,kw.1)]
 |none=>ks) []
theorem KO(ws:Ws α)(k:Nat)(w p:List α):keysAt (ws++[(k,w)]) p=match nxt p w with
 |some m=>if m∈(keysAt ws p).map (·.1) then keysAt ws p else keysAt ws p++[(m,k)]
 |none=>keysAt ws p:=by
 unfold keysAt;rw[Ks];rfl
theorem JH(p:List α):nxt p p=none:=by
 unfold nxt;rw[Ak (List.prefix_refl p)];exact GK (AB _)
theorem Zu(p:List α)(m:α):nxt p (p++[m])=some m:=by
 unfold nxt;rw[Ak (IB p [m]),EY (AB _),Nat.sub_self];rfl
variable {p:List α}{m:α}
theorem Zv{q:List α}(h:p≠q):nxt p (q++[m])=nxt p q:=by
 unfold nxt;by_cases a:p <+: q;rw[Ak a,Ak (a.trans (IB q [m]))]
 have l:p.length<q.length:=by
  rcases Nat.lt_or_ge p.length q.length with x|x;exact x;exact absurd (a.eq_of_length_le x) h
 exact EJ l;rw[Aj a];by_cases b:p <+: q++[m];rw[Ak b];rcases List.prefix_concat_iff.mp b with e|e;rw[e];exact GK (AB _);exact absurd e a;rw[Aj b]
theorem Zw(ws:Ws α)(k:Nat)(p:List α):keysAt (ws++[(k,[])]) p=keysAt ws p:=by
 rw[KO]
 have:nxt p ([]:List α)=none:=by
  unfold nxt;by_cases a:p <+: [];rw[Ak a];rfl;rw[Aj a]
 rw[this]
variable {ws:Ws α}
theorem SX{k:Nat}{q:List α}(h:p≠q):keysAt (ws++[(k,q++[m])]) p=keysAt (ws++[(k,q)]) p:=by
 rw[KO,KO,Zv h]
theorem V1(ws:Ws α)(k:Nat)(q:List α)(m:α):keysAt (ws++[(k,q++[m])]) q =
 if m∈(keysAt (ws++[(k,q)]) q).map (·.1) then keysAt (ws++[(k,q)]) q else keysAt (ws++[(k,q)]) q++[(m,k)]:=by
 rw[KO,KO,Zu,JH]
theorem FO{w:List α}:nxt p w=some m↔p++[m] <+: w:=by
 unfold nxt;by_cases a:p <+: w;rw[Ak a];obtain⟨t,rfl⟩:=a;rw[EY (AB _),Nat.sub_self]
 cases t with
 |nil =>
   refine⟨λe=>(nomatch e),λe=>?_⟩;have:=e.length_le;rw[FC,AV] at this;exact absurd this (by show ¬p.length+1<=p.length;omega)
 |cons x t =>
   refine⟨λe=>?_,λe=>?_⟩;cases e;exact⟨t,by simp⟩;obtain⟨u,e⟩:=e;rw[FX] at e;have:=List.append_cancel_left e;simp at this;rw[this.1];rfl
 rw[Aj a];exact⟨λe=>(nomatch e),λe=>absurd ((IB p [m]).trans e) a⟩
theorem keysAt_mem:m∈(keysAt ws p).map (·.1)↔∃a∈ws,p++[m] <+: a.2:=by
 induction ws using SW with
 |nil=>exact⟨λh=>(nomatch h),λ⟨_,h,_⟩=>(nomatch h)⟩
 |snoc ws a c =>
   obtain⟨k,w⟩:=a;rw[KO]
   have both:(∃a∈ws++[(k,w)],p++[m] <+: a.2)↔(∃a∈ws,p++[m] <+: a.2)\/p++[m] <+: w:=by
    constructor;rintro⟨x,b,e⟩;rcases BF.mp b with y|y;exact .inl ⟨x,y,e⟩;rw[AY.mp y] at e;exact .inr e;rintro(⟨x,b,e⟩|e);exact⟨x,Ej _ b,e⟩;exact⟨_,De _ (AY.mpr rfl),e⟩
   rw[both,<-c,<-FO]
   cases b:nxt p w with
   |none=>exact⟨.inl,λz=>z.elim id λe=>(nomatch e)⟩
   |some x =>
     dsimp only;by_cases d:x∈(keysAt ws p).map (·.1);rw[Ak d];exact⟨.inl,λz=>z.elim id λe=>by cases e;exact d⟩;rw[Aj d,Bk,BF];refine or_congr Iff.rfl ?_;simp[eq_comm]
theorem V2{k:Nat}(l:(ws.map (·.1)).Pairwise (· < ·))(h:(m,k)∈keysAt ws p):(∃w,(k,w)∈ws/\p++[m] <+: w)/\∀j w,(j,w)∈ws->p++[m] <+: w->k<=j:=by
 induction ws using SW with
 |nil=>cases h
 |snoc ws o q =>
   obtain⟨n,v⟩:=o;rw[Bk,List.pairwise_append] at l;obtain⟨r,-,s⟩:=l;have z:∀j w,(j,w)∈ws->j<n:=λj w e=>s j (Bn.mpr ⟨_,e,rfl⟩) n (AY.mpr rfl);rw[KO] at h
   have i:(m,k)∈keysAt ws p->(∃w,(k,w)∈ws++[(n,v)]/\p++[m] <+: w)/\∀j w,(j,w)∈ws++[(n,v)]->p++[m] <+: w->k<=j:=λt=>by
    obtain⟨⟨w,a,b⟩,c⟩:=q r t;refine⟨⟨w,Ej _ a,b⟩,λj u e f=>?_⟩;rcases BF.mp e with y|y;exact c j u y f;cases AY.mp y;exact Di (z _ _ a)
   cases g:nxt p v with
   |none=>rw[g] at h;exact i h
   |some x =>
     rw[g] at h;dsimp only at h;by_cases d:x∈(keysAt ws p).map (·.1);rw[Ak d] at h;exact i h;rw[Aj d] at h;rcases BF.mp h with y|y;exact i y;cases AY.mp y;refine⟨⟨v,De _ (AY.mpr rfl),FO.mp g⟩,λj u e f=>?_⟩;rcases BF.mp e with y|y;exact absurd (keysAt_mem.mpr ⟨_,y,f⟩) d;cases AY.mp y;exact AB _
section
variable (bet:α->α->Bool)
def AL:List α->List α->Bool
 |x::s,m::t=>if x=m then AL s t else bet x m
 |_,_=>false
def gat (ws:Ws α):List α->List α->List Nat
 |_,[]=>[]
 |a,m::t=>((keysAt ws a).filter λxk=>bet xk.1 m).map (·.2)++gat ws (a++[m]) t
end
variable {bet:α->α->Bool}
theorem LZ{a b:List α}{x:α}{t:List α}(h:a++[x] <+: b)(c:x≠m):AL bet b (a++m::t)=bet x m:=by
 obtain⟨u,rfl⟩:=h
 induction a with
 |nil=>show(if x=m then _ else bet x m)=_;rw[Aj c]
 |cons y a d=>show(if y=y then _ else _)=_;rw[Ak rfl];exact d
theorem V3{ws:Ws α}(g:(ws.map (·.1)).Pairwise (· < ·))(irr:∀m,bet m m=false):∀(b a:List α)(k:Nat),k∈gat bet ws a b->∃w,(k,w)∈ws/\AL bet w (a++b)=true
 |[],_,_,h=>nomatch h
 |m::t,a,k,h=>by
   rcases BF.mp h with y|y;obtain⟨⟨x,j⟩,z,rfl⟩:=Bn.mp y;obtain⟨i,d⟩:=MN.mp z;obtain⟨⟨w,f,c⟩,-⟩:=V2 g i;refine⟨w,f,?_⟩;rw[LZ c (λe=>?_)];exact d;rw[e,irr] at d;cases d;obtain⟨w,f,c⟩:=V3 g irr t (a++[m]) k y;refine⟨w,f,?_⟩;rw[FX] at c;exact c
theorem V4:∀{b w:List α},AL bet w b=true->∃a x m t,b=a++m::t/\a++[x] <+: w/\x≠m/\bet x m=true
 |m::t,x::s,h=>by
   by_cases e:x=m;subst e;have h':AL bet s t=true:=(by simpa [AL] using h);obtain⟨a,y,n,u,rfl,c,d,f⟩:=V4 h';exact⟨x::a,y,n,u,rfl,List.cons_prefix_cons.mpr ⟨rfl,c⟩,d,f⟩;have h':bet x m=true:=(by simpa [AL,e] using h);exact⟨[],x,m,t,rfl,List.cons_prefix_cons.mpr ⟨rfl,List.nil_prefix⟩,e,h'⟩
 |[],[],h=>nomatch h
 |[],_::_,h=>nomatch h
 |_::_,[],h=>nomatch h
theorem V5{ws:Ws α}:∀{a b c:List α}{m x:α}{t:List α}{k:Nat},(x,k)∈keysAt ws (c++a)->bet x m=true->b=a++m::t->k∈gat bet ws c b
 |[],b,c,m,x,t,k,d,e,f=>by
   subst f;rw[FC] at d;exact Ej _ (Bn.mpr ⟨_,MN.mpr ⟨d,e⟩,rfl⟩)
 |y::a,b,c,m,x,t,k,d,e,f=>by
   subst f;refine De _ (V5 (a:=a) (m:=m) (x:=x) (t:=t) ?_ e rfl);rw[FX];exact d
theorem Zx(i:(ws.map (·.1)).Pairwise (· < ·)){b w:List α}{j:Nat}(h:(j,w)∈ws)(l:AL bet w b=true):∃k∈gat bet ws [] b,k<=j:=by
 obtain⟨a,x,m,t,e,d,-,n⟩:=V4 l;obtain⟨⟨y,k⟩,f,g⟩:=Bn.mp (keysAt_mem.mpr ⟨_,h,d⟩);dsimp only at g;subst g;exact⟨k,V5 (a:=a) (c:=[]) f n e,(V2 i f).2 j w h d⟩
end TreeM
namespace L2
open PySem PySem.Spec PyProof.Rows Ord TreeM
variable {A:Around}
theorem L0{k:Nat}(a:B2 k A):A.units+2<cLine:=Nat.lt_of_le_of_lt (Nat.add_le_add_left (by decide:2<=64) _) a.units
abbrev F4 (m:Ap):List AN:=[.inl m.1,.inr m.2.1,.inl m.2.2]
theorem Zy{a b:Ap}(h:F4 a=F4 b):a=b:=by
 obtain⟨c,d,e⟩:=a;obtain⟨f,g,i⟩:=b;simp only[F4,List.cons.injEq,Sum.inl.injEq,Sum.inr.injEq,and_true] at h;rw[h.1,h.2.1,h.2.2]
def DQ (ws:Ws Ap) (c:List Ap->Ap->Addr) (p:List Ap):List (List AN×V):=(keysAt ws p).map λmk=>(F4 mk.1,V.ref (c p mk.1))
theorem V6{c:Ap->Addr}{m:Ap}:∀{ks:List (Ap×Nat)},AK (ks.map λmk=>(F4 mk.1,V.ref (c mk.1))) (F4 m)=if m∈ks.map (·.1) then some (.ref (c m)) else none
 |[]=>rfl
 | (x,k) :: ks=>by
   rw[DN];by_cases h:x=m;subst h;rw[G2 rfl,Ak (by simp)];rw[G3 (λz=>h (Zy z)),V6]
   have:(m∈List.map (·.1) ((x,k)::ks))↔m∈ks.map (·.1):=by
    rw[DN,Ch];exact⟨λz=>z.elim (λe=>absurd e.symm h) id,.inr⟩
   by_cases a:m∈ks.map (·.1);rw[Ak a,Ak (this.mpr a)];rw[Aj a,Aj (λz=>a (this.mp z))]
variable {ws:Ws Ap}{c:List Ap->Ap->Addr}{p:List Ap}{m:Ap}
theorem Oo:AK (DQ ws c p) (F4 m)=if m∈(keysAt ws p).map (·.1) then some (.ref (c p m)) else none:=V6 (c:=c p)
def Ef (ws:Ws Ap) (p:List Ap):Prop:=p=[]\/∃kw∈ws,p <+: kw.2
theorem V7(h:¬Ef ws p):keysAt ws p=[]:=by
 cases e:keysAt ws p with
 |nil=>rfl
 |cons x l =>
   exfalso;obtain⟨a,b,c⟩:=keysAt_mem.mp (show x.1∈(keysAt ws p).map (·.1) by rw[e];simp);exact h (.inr ⟨a,b,(IB p _).trans c⟩)
theorem Ft:Ef ws (p++[m])↔m∈(keysAt ws p).map (·.1):=by
 rw[keysAt_mem];exact⟨λh=>h.elim (λe=>absurd e (by simp)) id,.inr⟩
structure Bc (φ:Hp->Addr->List (List AN×V)->Prop) (H:Hp) (ws:Ws Ap) (d:List Ap->Addr) (c:List Ap->Ap->Addr):Prop where
 dct:∀p,Ef ws p->φ H (d p) (DQ ws c p)
 tup:∀p m k,(m,k)∈keysAt ws p->H (c p m)=some (.tup [.int (k:Int),.ref (d (p++[m]))])
 inj:∀p q,Ef ws p->Ef ws q->d p=d q->p=q
abbrev dW:Hp->Addr->List (List AN×V)->Prop:=λH a kvs=>H a=some (.dT kvs)
abbrev dF:Hp->Addr->List (List AN×V)->Prop:=λH a kvs=>∃o,H a=some (.frz o (.dT kvs))
variable {H H':Hp}{d:List Ap->Addr}
theorem Bc.same(e:Ac H H')(h:Bc dF H ws d c):Bc dF H' ws d c:=
 ⟨λp a=>let ⟨o,x⟩:=h.dct p a;⟨o,e _ _ x⟩,λp m k b=>e _ _ (h.tup p m k b),h.inj⟩
theorem Bc.sameW(e:Ac H H')(h:Bc dW H ws d c):Bc dW H' ws d c:=
 ⟨λp a=>e _ _ (h.dct p a),λp m k b=>e _ _ (h.tup p m k b),h.inj⟩
variable {n:Nat}{g:List Ap}
theorem P0(d:m∈(keysAt (ws++[(n,g)]) g).map (·.1)):Ef (ws++[(n,g++[m])]) p↔Ef (ws++[(n,g)]) p:=by
 constructor;rintro(h|⟨b,c,a⟩);exact .inl h;rcases BF.mp c with y|y;exact .inr ⟨b,Ej _ y,a⟩;rw[AY.mp y] at a;rcases List.prefix_concat_iff.mp a with e|e;rw[e];exact Ft.mpr d;exact .inr ⟨_,De _ (AY.mpr rfl),e⟩;rintro(h|⟨b,c,a⟩);exact .inl h;rcases BF.mp c with y|y;exact .inr ⟨b,Ej _ y,a⟩;rw[AY.mp y] at a;exact .inr ⟨_,De _ (AY.mpr rfl),a.trans (IB g [m])⟩
theorem Bc.stay{φ:Hp->Addr->List (List AN×V)->Prop}(h:Bc φ H (ws++[(n,g)]) d c)(a:m∈(keysAt (ws++[(n,g)]) g).map (·.1)):Bc φ H (ws++[(n,g++[m])]) d c:=by
 have f:∀p,keysAt (ws++[(n,g++[m])]) p=keysAt (ws++[(n,g)]) p:=λp=>by
  by_cases e:p=g;subst e;rw[V1,Ak a];exact SX e
 refine⟨λp b=>?_,λp x k i=>h.tup p x k (by rw[<-f];exact i),λp q b j=>h.inj p q ((P0 a).mp b) ((P0 a).mp j)⟩;have:=h.dct p ((P0 a).mp b);unfold DQ at this ⊢;rw[f];exact this
variable {v:V}
theorem Zz{a:List (List AN×V)}{k:List AN}(h:AK a k=none):AZ a k v=a++[(k,v)]:=by
 unfold AZ;rw[Aj (by rw[NW,h];simp)]
variable {T:Addr}
theorem Bc.grow{u:Hp}{e:Addr}(h:Bc dW H (ws++[(n,g)]) d c)(j:m∉(keysAt (ws++[(n,g)]) g).map (·.1))
 (G:H e=none) (I:∀p,Ef (ws++[(n,g)]) p->u (d p)=none) (U:u e=none) (s:Ac H H') (J:H' e=some (.dT [])) (C:H' T=some (.tup [.int (n:Int),.ref e])) :
 ∃d' K,Bc dW (upd H' (d g) (.dT (AZ (DQ (ws++[(n,g)]) c g) (F4 m) (.ref T)))) (ws++[(n,g++[m])]) d' K/\d' (g++[m])=e/\(∀p,Ef (ws++[(n,g++[m])]) p->u (d' p)=none)/\d' []=d []:=by
 have r:Ef (ws++[(n,g)]) g:=.inr ⟨_,De _ (AY.mpr rfl),List.prefix_refl g⟩;have L:AK (DQ (ws++[(n,g)]) c g) (F4 m)=none:=(by rw[Oo,Aj j])
 have w:∀{p},Ef (ws++[(n,g++[m])]) p->p=g++[m]\/p≠g++[m]/\Ef (ws++[(n,g)]) p:=λ{p}a=>by
  by_cases e:p=g++[m];exact .inl e;refine .inr ⟨e,?_⟩;rcases a with z|⟨M,N,A⟩;exact .inl z;rcases BF.mp N with y|y;exact .inr ⟨M,Ej _ y,A⟩;rw[AY.mp y] at A;rcases List.prefix_concat_iff.mp A with z|z;exact absurd z e;exact .inr ⟨_,De _ (AY.mpr rfl),z⟩
 have B:∀p,Ef (ws++[(n,g)]) p->d p≠e:=λp a z=>by have this:H (d p)=some _:=h.dct p a;rw[z,G] at this;cases this
 have W:T≠d g:=λz=>by
  have:=s _ _ (h.dct g r);rw[<-z,C] at this;cases this
 have O:¬Ef (ws++[(n,g)]) (g++[m]):=λz=>j (Ft.mp z)
 have P:keysAt (ws++[(n,g++[m])]) (g++[m])=[]:=by
  rw[SX (by simp)];exact V7 O
 have D:∀p,p≠g->keysAt (ws++[(n,g++[m])]) p=keysAt (ws++[(n,g)]) p:=λp a=>SX a;have F:keysAt (ws++[(n,g++[m])]) g=keysAt (ws++[(n,g)]) g++[(m,n)]:=(by rw[V1,Aj j])
 refine⟨λp=>if p=g++[m] then e else d p,λp x=>if p=g/\x=m then T else c p x,⟨λp a=>?_,λp x k o=>?_,λp q a Q X=>?_⟩,Ak rfl,λp a=>?_,Aj (by simp)⟩
 show upd _ _ _ (if p=g++[m] then e else d p)=some _
 rcases w a with z|⟨z,f⟩;subst z;rw[Ak rfl,AD (Ne.symm (B g r)),J];unfold DQ;rw[P];rfl;rw[Aj z];by_cases b:p=g;subst b;rw[Aa,Zz L];unfold DQ;rw[F,Bk]
 have:∀l:List (Ap×Nat),m∉l.map (·.1)->(l.map λmk=>(F4 mk.1,V.ref (c p mk.1)))=l.map λmk=>(F4 mk.1,V.ref (if p=p/\mk.1=m then T else c p mk.1)):=λl R=>List.map_congr_left λmk Y=>by
  rw[Aj (λz=>R (Bn.mpr ⟨mk,Y,z.2⟩))]
 rw[this _ j,DN,Nq];dsimp only;rw[Ak ⟨rfl,rfl⟩];rw[AD (λS=>b (h.inj p g f r S))];have:=s _ _ (h.dct p f);unfold DQ at this ⊢;rw[D p b,this]
 congr 2
 exact List.map_congr_left λmk _=>by
  show _=(F4 mk.1,V.ref (if p=g/\mk.1=m then T else c p mk.1));rw[Aj (λz=>b z.1)]
 show upd _ _ _ (if p=g/\x=m then T else c p x)=some (.tup [_,.ref (if p++[x]=g++[m] then e else d (p++[x]))])
 by_cases b:p=g;subst b;rw[F] at o;by_cases v:x=m;subst v;rw[Ak ⟨rfl,rfl⟩,Ak rfl,AD W,C];rcases BF.mp o with y|y;exact absurd (Bn.mpr ⟨_,y,rfl⟩) j;cases AY.mp y;rfl;rcases BF.mp o with y|y;rw[Aj (λz=>v z.2),Aj (λz=>v (by simpa using z))];have t:=h.tup p x k y;rw[AD (λz=>by have this:H (d p)=some _:=h.dct p r;rw[<-z,t] at this;cases this)];exact s _ _ t;cases AY.mp y;exact absurd rfl v;rw[D p b] at o
 rw[Aj (λz=>b z.1),Aj (show ¬(p++[x]=g++[m]) from λz=>b (List.append_inj_left' z rfl))];have t:=h.tup p x k o;rw[AD (λz=>by have this:H (d g)=some _:=h.dct g r;rw[<-z,t] at this;cases this)];exact s _ _ t
 have i:(if p=g++[m] then e else d p)=(if q=g++[m] then e else d q):=X
 rcases w a with z|⟨z,f⟩<;>rcases w Q with y|⟨y,E⟩;rw[z,y];rw[Ak z,Aj y] at i;exact absurd i.symm (B q E);rw[Aj z,Ak y] at i;exact absurd i (B p f);rw[Aj z,Aj y] at i;exact h.inj p q f E i
 show u (if p=g++[m] then e else d p)=none
 rcases w a with z|⟨z,f⟩;rw[Ak z];exact U;rw[Aj z];exact I p f
theorem V8(ws:Ws Ap)(n:Nat)(p:List Ap):keysAt (ws++[(n,[])]) p=keysAt ws p:=Zw ws n p
theorem Bc.begin{φ:Hp->Addr->List (List AN×V)->Prop}(h:Bc φ H ws d c):Bc φ H (ws++[(n,[])]) d c:=by
 have i:∀{p},Ef (ws++[(n,[])]) p->Ef ws p:=λ{p}a=>by
  rcases a with z|⟨e,f,b⟩;exact .inl z;rcases BF.mp f with y|y;exact .inr ⟨e,y,b⟩;rw[AY.mp y] at b;exact .inl (List.prefix_nil.mp b)
 refine⟨λp a=>?_,λp m k g=>h.tup p m k (by rw[<-V8];exact g),λp q a j=>h.inj p q (i a) (i j)⟩;have:=h.dct p (i a);unfold DQ at this ⊢;rw[V8];exact this
theorem Bc.frz{H Y a:Hp}{ws:Ws Ap}{d:List Ap->Addr}{c:List Ap->Ap->Addr}(h:Bc dW Y ws d c)(i:∀p,Ef ws p->H (d p)=none)(f:PX H Y a)(j:∀b e,H b=none->Y b=some (.dT e)->∃o,a b=some (.frz o (.dT e))):Bc dF a ws d c:=by
 refine⟨λp g=>j _ _ (i p g) (h.dct p g),λp m k l=>?_,h.inj⟩;have t:=h.tup p m k l;rcases f (c p m) with z|⟨_,e,o,z,_⟩;rw[z];exact t;rw[t] at z;cases z
theorem PX.same{Y a:Hp}(s:Ac H Y)(f:PX H Y a):Ac H a:=λb o e=>by
 rcases f b with z|⟨z,_⟩;rw[z];exact s _ _ e;rw[e] at z;cases z
theorem SY(ws:Ws Ap)(p:List Ap):(keysAt ws p).length<=ws.length:=by
 induction ws using SW with
 |nil=>exact AB _
 |snoc ws a b =>
   obtain⟨k,w⟩:=a;rw[KO,AV];split;split;omega;rw[AV];simp;exact b;omega
abbrev Fu (p:Str×Str):List AN:=[.inr p.1,.inr p.2]
theorem E6.tups(e:∀b xs,H b=some (.tup xs)->H' b=some (.tup xs)):∀{xs:List V}{ps:List (List AN×V)},E6 H xs ps->E6 H' xs ps:=λh =>
 Paired.mapP h λ_ _⟨t,b,a,c,d⟩=>⟨t,b,a,e _ _ c,e _ _ d⟩
theorem V9{k:List AN}:∀{ps acc:List (List AN×V)},(AK (KN acc ps) k).isSome=true↔(AK acc k).isSome=true\/k∈ps.map (·.1)
 |[],acc=>by simp[KN]
 |p::ps,acc=>by
   show(AK (KN (AZ acc p.1 p.2) ps) k).isSome=true↔_;rw[V9,NY,DN,Ch];by_cases h:k=p.1;rw[Ak h];simp[h];rw[Aj h];simp[h]
def HM (H:Hp) (p:Addr) (ord:List (Str×Str)):Prop:=∃kvs,H p=some (.dT kvs)/\∀a b,(AK kvs (Fu (a,b))).isSome=dec ((a,b)∈ord)
variable {ord:List (Str×Str)}
theorem HM.same{p:Addr}(e:Ac H H')(h:HM H p ord):HM H' p ord:=let ⟨k,a,b⟩:=h;⟨k,e _ _ a,b⟩
theorem ZA(a b:Str):(AK (KN [] (ord.map λp=>(Fu p,V.bl true))) (Fu (a,b))).isSome=dec ((a,b)∈ord):=by
 have:(AK (KN [] (ord.map λp=>(Fu p,V.bl true))) (Fu (a,b))).isSome=true ↔ (a,b)∈ord:=by
  rw[V9];constructor;rintro(h|h);simp[AK] at h;rw[DG] at h;obtain⟨q,c,e⟩:=Bn.mp h;obtain⟨d,f⟩:=q;simp at e;rw[<-e.1,<-e.2];exact c;intro h;refine .inr ?_;rw[DG];exact Bn.mpr ⟨_,h,rfl⟩
 by_cases h:(a,b)∈ord;rw[Fn h];exact this.mpr h;rw[F1 h]
 cases e:(AK (KN [] (ord.map λp=>(Fu p,V.bl true))) (Fu (a,b))).isSome with
 |false=>rfl
 |true=>exact absurd (this.mp e) h
def A8 (l:List (List Ap)):Ws Ap:=l.zipIdx.map λp=>(p.2,p.1)
theorem ZB(l:List (List Ap))(w:List Ap):A8 (l++[w])=A8 l++[(l.length,w)]:=by
 unfold A8;rw[List.zipIdx_append,Bk]
 simp
variable {l:List (List Ap)}{i:Nat}{w:List Ap}
theorem ZC(h:l[i]?=some w):A8 (l.take (i+1))=A8 (l.take i)++[(i,w)]:=by
 have a:=(A9.mp h).1;rw[DS,h];show A8 (l.take i++[w])=_;rw[ZB,FG,Nat.min_eq_left (Di a)]
theorem Wa(l:List (List Ap)):((A8 l).map (·.1)).Pairwise (· < ·):=by
 have:(A8 l).map (·.1)=List.range l.length:=by
  unfold A8;rw[DG,List.range_eq_range'];exact List.zipIdx_map_snd 0 l
 rw[this];exact List.pairwise_lt_range
theorem Do{k:Nat}:(k,w)∈A8 l↔l[k]?=some w:=by
 unfold A8;rw[Bn];constructor;rintro⟨⟨a,b⟩,h,e⟩;cases e;exact List.mem_zipIdx_iff_getElem?.mp h;intro h;exact⟨(w,k),List.mem_zipIdx_iff_getElem?.mpr h,rfl⟩
noncomputable def Ca (ss:List Bj) (ord:List (Str×Str)) (x m:Ap):Bool:=dec ((FN ss x,FN ss m)∈ord)
variable {ss:List Bj}
theorem ZD(h:∀x,(x,x)∉ord)(m:Ap):Ca ss ord m m=false:=F1 (h _)
theorem S0(ss:List Bj)(ord:List (Str×Str)):∀(a b:List Ap),AL (Ca ss ord) a b=Ci ss ord a b
 |x::s,m::t=>by
   show(if x=m then _ else Ca ss ord x m)=_
   by_cases e:x=m;subst e;rw[Ak rfl,Oh];exact S0 ss ord s t;rw[Aj e,KL ss ord s t e];rfl
 |[],m=>by rw[LX ss ord (.inl rfl)];rfl
 |_::_,[]=>by rw[LX ss ord (.inr rfl)];rfl
theorem JI(h:∀x,(x,x)∉ord):gat (Ca ss ord) (A8 l) [] w=[]↔∀v∈l,Ci ss ord v w=false:=by
 constructor;intro e v b;obtain⟨k,d⟩:=List.mem_iff_getElem?.mp b
 cases a:Ci ss ord v w with
 |false=>rfl
 |true =>
   obtain⟨j,c,_⟩:=Zx (Wa l) (Do.mpr d) (by rw[S0];exact a);rw[e] at c;cases c
 intro f
 cases e:gat (Ca ss ord) (A8 l) [] w with
 |nil=>rfl
 |cons k g =>
   exfalso;obtain⟨v,b,a⟩:=V3 (Wa l) (ZD h) w [] k (by rw[e];simp);rw[List.nil_append,S0] at a;rw[f v (List.mem_iff_getElem?.mpr ⟨k,Do.mp b⟩)] at a;cases a
noncomputable def CS (ss:List Bj) (ord:List (Str×Str)) (all l:List (List Ap)):List (List Ap):=l.filter λw=>!all.any λv=>Ci ss ord v w
theorem Wb{all:List (List Ap)}(h:l[i]?=some w):CS ss ord all (l.take (i+1))=if(all.any λv=>Ci ss ord v w)=true then CS ss ord all (l.take i) else CS ss ord all (l.take i)++[w]:=by
 unfold CS;rw[DS,h,Nr];show _++List.filter _ [w]=_;rw[MP]
 cases all.any λv=>Ci ss ord v w with
 |true=>rw[Ak rfl];simp
 |false=>simp
theorem ZE{all:List (List Ap)}:(CS ss ord all l).length<=l.length:=O9 _ _
theorem CT{ks:List Nat}:PZ (ks.map λk:Nat=>(k:Int))=.non↔ks=[]:=by
 cases ks with
 |nil=>exact⟨λ_=>rfl,λ_=>rfl⟩
 |cons k ks=>exact⟨λh=>(nomatch h),λh=>(nomatch h)⟩
theorem P1(h:∀x,(x,x)∉ord):gat (Ca ss ord) (A8 l) [] w=[]↔(l.any λv=>Ci ss ord v w)=false:=by
 rw[JI h,List.any_eq_false];exact⟨λz v a=>by rw[z v a];simp,λz v a=>by have:=z v a;simpa using this⟩
section
variable {prog:Program} {w:World} {A:Around} {E:Value->Shared->Prop} {s:Shared}
theorem P2{j p:Addr}{k:Nat}{vs:Array Value}{y:Value}{Q:Value->Shared->Prop}(c:s.heap.IsTupleIter j p k)(d:s.heap.IsTuple p vs)(e:vs[k]?=some y)
 (q:∀g,g.IsTupleIter j p (k+1)->Heap.SameBut j s.heap g->Q y {s with heap:=g}):wpAny (model prog w) A (Builtin.SmallTypes.nextOf (.ref j)) Q E s:=by
 obtain⟨l,b,f,a⟩:=id c;obtain⟨m,h,_,_,i⟩:=d;unfold Builtin.SmallTypes.nextOf;refine Ad (wpAny_callSpecial?_slot (name:=Str.ofString "__next__") c.typeIs F.slot_tuple_iterator_next (wpAny_call_entry F.slot_tuple_iterator_next c.typeIs F.entry_tuple_iterator_next ?_ (F.args_tuple_iterator_next_1 _)))
 show wpAny _ _ (field (.ref j) 0 >>= _) _ _ s;refine Ad (wpAny_field b a (x:=.ref p) rfl ?_);show wpAny _ _ (if(Value.ref p==Value.none)=true then _ else _) _ _ s;rw[Aj (show ¬((Value.ref p==Value.none)=true) from Cv)];show wpAny _ _ (field (.ref j) 1 >>= _) _ _ s;refine Ad (wpAny_field b a (x:=.int k 0) rfl ?_);show wpAny _ _ (seqItems? (.ref p) >>= _) _ _ s;refine Ad (F9 h i ?_);simp only[Bl,e];refine Ad (wpAny_setField b a (by simp) (Aw ⟨y,rfl,Aw (q _ ⟨_,Heap.get?_update_self _ b (Obj.isFreed_of_fields (Obj.data_mapFields a _)),(Obj.cls_mapFields ..).trans f,by rw[Obj.data_mapFields a];simp[rawInt]⟩ (Heap.SameBut.update ..))⟩))
theorem S1{j p:Addr}{k:Nat}{vs:Array Value}{Q:Value->Shared->Prop}(e:A.handled=none)(b:s.heap.IsTupleIter j p k)(f:s.heap.IsTuple p vs)(h:vs[k]?=none)
 (q:∀g x,Heap.ExtBut j s.heap g->(∃o,g.get? x=some o/\o.cls=.type "StopIteration")->E (.ref x) {s with heap:=g}):wpAny (model prog w) A (Builtin.SmallTypes.nextOf (.ref j)) Q E s:=by
 obtain⟨n,c,r,d⟩:=id b;obtain⟨t,i,_,_,l⟩:=f;unfold Builtin.SmallTypes.nextOf;refine Ad (wpAny_callSpecial?_slot (name:=Str.ofString "__next__") b.typeIs F.slot_tuple_iterator_next (wpAny_call_entry F.slot_tuple_iterator_next b.typeIs F.entry_tuple_iterator_next ?_ (F.args_tuple_iterator_next_1 _)))
 show wpAny _ _ (field (.ref j) 0 >>= _) _ _ s;refine Ad (wpAny_field c d (x:=.ref p) rfl ?_);show wpAny _ _ (if(Value.ref p==Value.none)=true then _ else _) _ _ s;rw[Aj (show ¬((Value.ref p==Value.none)=true) from Cv)];show wpAny _ _ (field (.ref j) 1 >>= _) _ _ s;refine Ad (wpAny_field c d (x:=.int k 0) rfl ?_);show wpAny _ _ (seqItems? (.ref p) >>= _) _ _ s;refine Ad (F9 i l ?_);simp only[Bl,h];refine Ad (Ha (Ad (wpAny_setField c d (by simp) ?_)))
 show wpAny _ _ (newExc (.type "StopIteration") [] >>= _) _ _ _
 refine Ad ?_;simp only[newExc,newTuple];refine Ad (wpAny_newObj_type (Ad (m:=firstArgMember _ _) (wpAny_of_eq (a:=Value.none) (by first|rfl|(simp only[firstArgMember];rfl)) (wpAny_newObj_type ?_ (by size_fits)))) (by size_fits));simp only[raiseNew];refine Ad (wpAny_handled ?_)
 first|rw[show A.in1.handled=none from e]|rw[e]
 exact Ad (Aw (wpAny_throw (q _ _ (((Heap.SameBut.update ..).extBut.push _).push _) ⟨_,B8 _ rfl,rfl⟩)))
end
variable {prog:Program}
theorem HN{w:World}(c:A.handled=none)(j p:Addr)(d:p≠j)(vs:Array Value):Draws prog w A j [j,p] vs.size (λi v=>vs[i]?=some v) (λi h=>h.IsTupleIter j p i/\h.IsTuple p vs) where
 live _ _ st:=let ⟨o,e,_⟩:=st.1;⟨o,e⟩
 frame _ _ _ st k:=by
  obtain⟨⟨o,f,l⟩,u,m,n⟩:=st;exact⟨⟨o,k j (by simp) _ f,l⟩,u,k p (by simp) _ m,n⟩
 item i s Q E a st q:=P2 st.1 st.2 (y:=vs[i]) (by simp[a]) λg r b=>q _ g s.toks (by simp[a]) ⟨r,st.2.extBut b.extBut d⟩ b
 done s Q E st q:=S1 c st.1 st.2 (by simp) q
set_option tactic.hygienic true in
theorem ZF(p:Addr)(vs:Array Value)(n:Nat)(dct:Option Addr)(e:Array (Option Value)) :
 Meets (Builtin.«enumerate.__new__» ⟨[.type "enumerate",.ref p],[]⟩) (λ_ R s=>s.heap.get? p=some {cls:=.type "tuple",dict:=dct,data:=.seq vs n,slots:=e}/\R (.ok (.ret (.ref (s.heap.push {cls:=.type "tuple_iterator",data:=.fields #[.ref p,.int 0 0]}).objs.size))) {s with heap:=(s.heap.push {cls:=.type "tuple_iterator",data:=.fields #[.ref p,.int 0 0]}).push {cls:=.type "enumerate",data:=.fields #[.none,.bool false,.ref s.heap.objs.size,rawInt 0,.none,.none]}}):=
 .of_wp λprog w A R s h=>by
  obtain⟨f,g,d,tk,i⟩:=s;obtain⟨a,h⟩:=h;have k:=sub_enumerate;have b:Heap.IsTuple (Shared.heap ⟨f,g,d,tk,i⟩) p vs:=⟨_,a,rfl,n,rfl⟩
  wp_walk using AutoSeq1.wpAny_loadPart' a
  refine wpAny_stack_any λj=>Aw ?_;split;rename_i c _ _ _ _ _;cases(c==Value.type "enumerate")<;>(wp_walk using AutoSeq1.wpAny_loadPart' a,wpAny_pyIter_tuple b;exact⟨_,rfl,h⟩)
  wp_walk using AutoSeq1.wpAny_loadPart' a,wpAny_pyIter_tuple b
  exact⟨_,rfl,h⟩
variable {E Q:Value->Shared->Prop}{s:Shared}
theorem ZG{w:World}{p:Addr}{vs:Array Value}(i:s.heap.IsTuple p vs)
 (h:∀g,IsEnum g (s.heap.objs.size+1) s.heap.objs.size 0 .none->g.IsTupleIter s.heap.objs.size p 0->g.objs.size=s.heap.objs.size+2->(∀b o,s.heap.get? b=some o->g.get? b=some o)->Q (.ref (s.heap.objs.size+1)) {s with heap:=g}) :
 wpAny (model prog w) A (call (.type "enumerate") [.ref p]) Q E s:=by
 obtain⟨⟨c,dct,dt,j⟩,k,a,n,hd⟩:=i
 replace a:c=.type "tuple" :=a
 replace hd:dt=.seq vs n:=hd
 subst a hd;refine callType_new F.called_enumerate (by decide) (F.typeCall_enumerate_1 _) (F.newCall_enumerate_1 _) (λl=>F.args_object_init_2 l _) F.entry_enumerate_new (ZF p vs n dct j) ⟨k,?_⟩;have d:(s.heap.push {cls:=.type "tuple_iterator",data:=.fields #[.ref p,.int 0 0]}).objs.size=s.heap.objs.size+1:=Heap.size_push ..;show _/\_;rw[d]
 have f:IsEnum ((s.heap.push {cls:=.type "tuple_iterator",data:=.fields #[.ref p,.int 0 0]}).push {cls:=.type "enumerate",data:=.fields #[.none,.bool false,.ref s.heap.objs.size,rawInt 0,.none,.none]}) (s.heap.objs.size+1) s.heap.objs.size 0 .none:=by
  have e:=B8 (s.heap.push {cls:=.type "tuple_iterator",data:=.fields #[.ref p,.int 0 0]}) (o:={cls:=.type "enumerate",data:=.fields #[.none,.bool false,.ref s.heap.objs.size,rawInt 0,.none,.none]}) rfl
  rwa [d] at e
 exact⟨⟨_,f,rfl⟩,h _ f ⟨_,Ba _ (B8 _ rfl),rfl,rfl⟩ (by rw[Heap.size_push,d]) λb o x=>Ba _ (Ba _ x)⟩
def HP (K:Ah) (l:Addr):It:=
 ⟨λi H=>∃xs x,Aq K H l xs/\xs[i]?=some x,
  λi H v H'=>∃T x,H T=none/\v=.ref T/\H'=upd H T (.tup [.int i,x])/\∀xs,Aq K H l xs->xs[i]?=some x,
  λi H=>∃xs,Aq K H l xs/\xs.length=i⟩
def L1 (e it l:Addr) (i:Nat) (h:Heap):Prop:=(∃old,IsEnum h e it i old)/\h.IsTupleIter it l i
variable {es:List Expr}{L:Pos}
theorem ZH{ak:Program}{w:World}{K:Ah}{k:Nat}{e d l:Addr}(Y:e≠d)(ao:e≠l)(ag:l≠d) :
 Fl ak w K (.Tuple es k L) (HP K l) [e,d] e (L1 e d l) where
 mem:=by simp
 obj:=λi h g b a=>by
  obtain⟨⟨F,f⟩,⟨O,C,c1,P⟩⟩:=g;simp at a;rcases a with rfl|rfl;exact⟨_,f,λv q=>by cases q⟩;exact⟨_,C,λv q=>by rw[P] at q;cases q⟩
 keep:=λi h h' g kk=>by
  obtain⟨⟨F,f⟩,⟨O,C,c1,P⟩⟩:=g;exact⟨⟨F,kk e (by simp) _ f⟩,⟨O,kk d (by simp) _ C,c1,P⟩⟩
 item:=by
  intro X Q R S p i ab s σ H E I D g T;subst Q R S;obtain⟨xs,af,N,hx⟩:=T;obtain⟨⟨F,f⟩,J⟩:=g;obtain⟨j,Z,U,aq⟩:=I.tuple N;obtain⟨u1,ah,ar⟩:=Z.get hx;have aa:s.heap.IsTuple l j.toArray:=U;have au:i<j.toArray.size:=by have:=(A9.mp ah).1;simpa using this
  refine wpAny_pyNext_enum_itemD (HN (A:=X.A.in1) (by exact I.ok.hd p) d l ag j.toArray) f ⟨J,aa⟩ au Y (by simp;exact⟨Y,ao⟩) λy h' tk hy a1 a2 a3 a4 hk=>?_
  have ey:y=u1:=by
   have h2:j.toArray[i]?=some u1:=(by simpa using ah);rw[h2] at hy;exact(Bv hy).symm
  subst ey;refine⟨_,rfl,wpAny_letOwnedTupleGo_enum (s:={s with heap:=h',toks:=tk+1}) a1 λG a0 ae=>?_⟩;have t:=D e (by simp);have x:=D d (by simp);have G0:∀b u,H b=some u->b≠e/\b≠d:=λb u z=>⟨AH z t.1,AH z x.1⟩;have keep:∀b o,b≠e->b≠d->s.heap.get? b=some o->G.get? b=some o:=λb o M V z=>(ae.2 b M).trans (hk b o M V z);have B:∀{b:Addr},b∉[e,d]->b≠e/\b≠d:=λ{b}a=>by simpa using a
  have I1:Inv X ab σ H {s with heap:=G,toks:=tk+1}:=by
   refine I.step (g':=s.gens) (t':=tk+1) (d':=s.drawn) (h':=G) (ch:=[e,d]) (λb a=>?_) (λb r _ _ a z _=>keep b r (B a).1 (B a).2 z) (λb r _ _ a z _=>⟨r.slots,keep b r (B a).1 (B a).2 z⟩)
    (λ_ _ _ _ n=>n) (λb r a z=>⟨r,keep b r (B a).1 (B a).2 z⟩) (λ_ _ z=>z) (λ_ _ _ z=>z) (λb ps z=>⟨#[],by rw[z];simp⟩) (λm hm=>?_) (λb u z=>?_) I.bare
   have:b=e\/b=d:=(by simpa using a);rcases this with rfl|rfl;exact⟨t.2.2.2.1,t.2.1,t.2.2.2.2.1,t.2.2.2.2.2⟩;exact⟨x.2.2.2.1,x.2.1,x.2.2.2.2.1,x.2.2.2.2.2⟩;obtain⟨o,es,ep,ho,al⟩:=hm;exact⟨o,es,ep,keep _ o (Ne.symm t.2.1) (Ne.symm x.2.1) ho,al⟩;refine(I.hok b u z).stay (λc v p q=>?_) (λ_ q=>q) λ_ _ q=>q
   have av:∃W,H c=some W:=by
    rcases p with rfl|p;exact⟨_,z⟩;exact⟨_,p⟩
   obtain⟨W,e'⟩:=av;obtain⟨M,V⟩:=G0 c W e';exact keep c v M V q
  have aw:s.heap.objs.size≠e:=Nat.ne_of_gt (A1 f);have ai:H s.heap.objs.size=none:=I.hok.fresh (AB _);have aj:G.get? s.heap.objs.size=some {cls:=.type "tuple",data:=.seq #[.int i tk,y]}:=(ae.2 _ aw).trans a3
  have I2:Inv X ab σ (upd H s.heap.objs.size (.tup [.int i,af])) {s with heap:=G,toks:=tk+1}:=by
   refine I1.track (I.fpOk (AB _) ai) ⟨_,aj⟩ ?_;exact⟨by show 2<=sizeLine;decide,[.int i tk,y],.cons ⟨_,rfl⟩ (.cons ar .nil),⟨_,aj,rfl,_,rfl⟩⟩
  refine⟨.ref s.heap.objs.size,_,I2,rfl,⟨s.heap.objs.size,af,ai,rfl,rfl,λzs ax=>by rw[I.tuple_inj ax N];exact hx⟩,?_,λb a=>?_⟩;refine⟨⟨y,by simpa using a0⟩,a2.1.extBut ae.extBut (Ne.symm Y)⟩;have ay:=(D b a).1;rw[AD (λq=>?_)];exact ay;have az:b=e\/b=d:=(by simpa using a);obtain⟨O,C,_⟩:=J
  have lt:b<s.heap.objs.size:=by
   rcases az with rfl|rfl;exact A1 f;exact A1 C
  rw[q] at lt;exact absurd lt (F7 _)
 done:=by
  intro X Q R S p i ab s σ H E I D g T;subst Q R S;obtain⟨xs,N,a7⟩:=T;obtain⟨⟨F,f⟩,J⟩:=g;obtain⟨j,Z,U,aq⟩:=I.tuple N;have a6:=Z.length;have aa:s.heap.IsTuple l j.toArray:=U;have ei:i=j.toArray.size:=by simp;omega
  obtain⟨f0,an,a5,f3,f4,f5⟩:=D d (by simp);refine wpAny_pyNext_enum_endD (HN (A:=X.A.in1) (by exact I.ok.hd p) d l ag j.toArray) f ⟨by rw[<-ei];exact J,aa⟩ λh' eb=>⟨rfl,I.turned (t':=s.toks) (λb o a z=>eb b o a z) f0 an f3 f4 f5⟩
 self:=λ_ _ _ _ _ g h=>by
  obtain⟨⟨F,f⟩,_⟩:=g;exact wpAny_pyIter_enum f h
def L3 (K:Ah) (ta:TA):TI:=λσ H R=>ta σ H λvs Y=>∃l,vs=[.ref l]/\(∃xs,Aq K Y l xs)/\R (HP K l) Y
theorem ZI{X:Cx}{k:Nat}{j:Pos}{a:Expr}{f:TA}{p:Pos}(o:Gl X "enumerate")(r:X.mg "enumerate" = none)(t:PA X [a] f)(v:starEach [a] X.env=[(false,eval a X.env)]:=by rfl) :
 PI X (.Tuple es k j) (.Call (.Name "enumerate" p) [a] [] L) (L3 X.K f):=by
 intro M s σ H R I h;refine Call_ (IX I o r (u:=.type "enumerate") (by decide +kernel) (PyProof.Rows.callWith_type1 (AW (t L M s σ H _ I h) λN c⟨O,Y,d,w,x⟩=>?_) (by rw[v];rfl) (by rfl)));obtain⟨l,rfl,⟨P,y⟩,q⟩:=x;obtain⟨A,rfl,G⟩:=Fm w;obtain rfl:A=Value.ref l:=G;obtain⟨J,Q,e,z⟩:=d.tuple y;have g:c.heap.IsTuple l J.toArray:=e;obtain⟨S,B,_⟩:=id g;have i:l<c.heap.objs.size:=A1 B;refine ZG g λC m D T E=>?_;refine wpAny_pyIter_enum (s:={c with heap:=C}) m ?_;refine⟨_,[c.heap.objs.size+1,c.heap.objs.size],_,_,Y,rfl,d.kept (t':=c.toks) E,ZH (Nat.succ_ne_self _) (Nat.ne_of_gt (Nat.lt_succ_of_lt i)) (CU i),⟨⟨_,m⟩,D⟩,λb F=>?_,q⟩
 have n:c.heap.objs.size<=b:=by
  have K:b=c.heap.objs.size+1\/b=c.heap.objs.size:=(by simpa using F);rcases K with rfl|rfl;exact Nat.le_add_right _ _;exact AB _
 exact d.fpOk n (d.hok.fresh n)
variable {xs:List V}{D:Ends}{σ:St}
theorem ZJ{K:Ah}{l:Addr}{g:TG}{tb:TS}(Pv:Nat->St->Hp->Prop)(f:Pv 0 σ H)(h:∀i σ H,Pv i σ H->Aq K H l xs)
 (j:∀i x T σ H,xs[i]?=some x->H T=none->Pv i σ H->g (.ref T) σ (upd H T (.tup [.int i,x])) λσ2 a=>tb {D with nx:=Pv (i+1),ct:=Pv (i+1),bk:=D.nx} σ2 a) (hd:∀σ H,Pv xs.length σ H->D.nx σ H) :
 ∃W:Nat->Nat->St->Hp->Prop,(∃m,W 0 m σ H)/\∀i m σ H,W i m σ H ->
  ((HP K l).stop i H/\D.nx σ H)\/((HP K l).go i H/\∃N:St->Hp->Prop,(∀σ' H',N σ' H'->∃c,c<m/\W (i+1) c σ' H')/\∀x H',(HP K l).yld i H x H'->g x σ H' λσ2 a=>tb {D with nx:=N,ct:=N,bk:=D.nx} σ2 a):=by
 refine⟨λi m σ H=>m=xs.length-i/\i<=xs.length/\Pv i σ H,⟨_,rfl,Ck _,f⟩,?_⟩;rintro i m σ H ⟨rfl,q,p⟩;have b:=h i σ H p;by_cases d:i<xs.length;refine .inr ⟨⟨xs,xs[i],b,by simp[d]⟩,Pv (i+1),λσ' H' k=>⟨xs.length-(i+1),by omega,rfl,d,k⟩,λv H' y=>?_⟩;obtain⟨T,x,n,rfl,rfl,o⟩:=y;exact j i x T σ H (o xs b) n p;have e:i=xs.length:=(by omega);refine .inl ⟨⟨xs,b,by omega⟩,?_⟩;rw[e] at p;exact hd σ H p
section
variable {X:Cx}
end
section
variable {prog:Program} {w:World} {A:Around} {E:Value->Shared->Prop} {s:Shared}
variable {z a o j q:Addr}{ys:Array Value}{u:Value}
theorem ZK{i p:Addr}{k m:Nat}{xs:Array Value}{x y v:Value}(D:ZipApart z a o i j p q)(B:IsZip s.heap z a o .none)(ea:IsPair s.heap a (.ref i) (.ref j))(eo:IsPair s.heap o u v)
 (ei:s.heap.IsTupleIter i p k) (ej:s.heap.IsTupleIter j q m) (tp:s.heap.IsTuple p xs) (tq:s.heap.IsTuple q ys) (hx:xs[k]?=some x) (hy:ys[m]?=some y)
 (ah:∀g,IsZip g z a o (rawInt s.heap.objs.size)->IsPair g o x y->g.IsTupleIter i p (k+1)->g.IsTupleIter j q (m+1)->IsPair g s.heap.objs.size x y->g.objs.size=s.heap.objs.size+1->(∀c d,c≠z->c≠o->c≠i->c≠j->s.heap.get? c=some d->g.get? c=some d)->Q (.ref s.heap.objs.size) {s with heap:=g}) :
 wpAny (model prog w) A (Builtin.«zip.__next__» ⟨[.ref z],[]⟩) (λf t=>∃v,f=.done (.ret v)/\Q v t) E s:=by
 show wpAny _ _ (field (.ref z) 2 >>= _) _ _ _;refine Ad (wpAny_field B rfl (x:=.bool false) rfl ?_);show wpAny _ _ (field (.ref z) 3 >>= _) _ _ _;refine Ad (wpAny_field B rfl (x:=.ref a) rfl (Ad (F9 ea rfl ?_)));show wpAny _ _ (Builtin.SmallTypes.ownedTupleIsFree (.ref z) >>= _) _ _ _;refine Ad ?_;unfold Builtin.SmallTypes.ownedTupleIsFree;refine Ad (wpAny_field B rfl (x:=.none) rfl (Aw ?_));simp only[if_true];refine Ad (Ha (Ad (wpAny_field B rfl (x:=.ref o) rfl (Ad (wpAny_setField_rec B (by simp) λaa M h=>?_)))))
 replace M:IsZip aa z a o .ellipsis:=M
 refine Ad ?_;simp only[List.zipIdx_cons,List.zipIdx_nil,List.forIn_cons,List.forIn_nil];refine Ad (Ad (wpAny_onRaise ?_));show wpAny _ _ (Builtin.SmallTypes.nextOf (.ref i) >>= _) _ _ _;refine Ad (P2 (ei.extBut h.extBut D.i1z) (tp.extBut h.extBut D.l1z) hx λab i2 l=>Aw ?_);have U:IsPair ab o u v:=l.extBut _ _ D.TOi1 (h.extBut _ _ D.TOz eo);refine Ad (F9 U rfl (Ad (wpAny_updateSeq_pair U λae N r=>Ad (wpAny_letGo (Aw ?_)))))
 replace N:IsPair ae o x v:=N
 refine Ad (Ad (wpAny_onRaise ?_));show wpAny _ _ (Builtin.SmallTypes.nextOf (.ref j) >>= _) _ _ _;refine Ad (P2 (((ej.extBut h.extBut D.i2z).extBut l.extBut D.i12.symm).extBut r.extBut D.TOi2.symm) (((tq.extBut h.extBut D.l2z).extBut l.extBut D.l2i1).extBut r.extBut D.l2TO) hy λg4 j4 C=>Aw ?_);have V:IsPair g4 o x v:=C.extBut _ _ D.TOi2 N;refine Ad (F9 V rfl (Ad (wpAny_updateSeq_pair V λb H F=>Ad (wpAny_letGo (Aw (Aw ?_))))))
 replace H:IsPair b o x y:=H
 refine Ad (F9 H rfl (Ad (wpAny_newTuple ?_)));have sz:b.objs.size=s.heap.objs.size:=(by rw[F.1,C.1,r.1,l.1,h.1]);have W:IsZip b z a o .ellipsis:=F.extBut _ _ D.TOz.symm (C.extBut _ _ D.i2z.symm (r.extBut _ _ D.TOz.symm (l.extBut _ _ D.i1z.symm M)));have k5:∀c d,c≠z->c≠o->c≠i->c≠j->s.heap.get? c=some d->b.get? c=some d:=λc d I J O P e=>F.extBut _ _ J (C.extBut _ _ P (r.extBut _ _ J (l.extBut _ _ O (h.extBut _ _ I e))));have i5:b.IsTupleIter i p (k+1):=((i2.extBut r.extBut D.TOi1.symm).extBut C.extBut D.i12).extBut F.extBut D.TOi1.symm;have j5:b.IsTupleIter j q (m+1):=j4.extBut F.extBut D.TOi2.symm;have X:z<b.objs.size:=A1 W;show wpAny _ _ (Builtin.SmallTypes.ownedTupleHandOut (.ref z) (.ref b.objs.size) >>= _) _ _ _;refine Ad ?_;unfold Builtin.SmallTypes.ownedTupleHandOut;have z6:IsZip (b.push {cls:=.type "tuple",data:=.seq #[x,y]}) z a o .ellipsis:=Ba _ W;refine Ad (wpAny_setField_rec z6 (by simp) λg7 R S=>?_)
 replace R:IsZip g7 z a o (rawInt b.objs.size):=R
 refine wpAny_setField_rec R (by simp) λG K T=>?_
 replace K:IsZip G z a o (rawInt b.objs.size):=K
 have L:∀c d,c≠z->b.get? c=some d->G.get? c=some d:=λc d n e=>T.extBut _ _ n (S.extBut _ _ n (Ba _ e));have Y:IsPair G b.objs.size x y:=T.extBut _ _ (Nat.ne_of_gt X) (S.extBut _ _ (Nat.ne_of_gt X) (B8 _ rfl));have Z:G.objs.size=b.objs.size+1:=(by rw[T.1,S.1,Heap.size_push]);rw[sz] at K Y Z;refine Aw ⟨_,rfl,?_⟩;show Q (.ref b.objs.size) _;rw[sz];obtain⟨oi,e1,e2⟩:=i5;obtain⟨oj,af,ag⟩:=j5;exact ah G K (L _ _ D.TOz H) ⟨oi,L _ _ D.i1z e1,e2⟩ ⟨oj,L _ _ D.i2z af,ag⟩ Y Z λc d I J O P e=>L c d I (k5 c d I J O P e)
theorem ZL{i p:Addr}{k m:Nat}{xs:Array Value}{v:Value}{Q:PySem.Fin->Shared->Prop}(J:A.handled=none)(D:ZipApart z a o i j p q)(r:IsZip s.heap z a o .none)(U:IsPair s.heap a (.ref i) (.ref j))(V:IsPair s.heap o u v)
 (K:s.heap.IsTupleIter i p k) (W:s.heap.IsTupleIter j q m) (L:s.heap.IsTuple p xs) (X:s.heap.IsTuple q ys) (aa:xs[k]?=none\/ys[m]?=none)
 (T:∀g e,(∀c d,c≠z->c≠o->c≠i->c≠j->s.heap.get? c=some d->g.get? c=some d)->(∃d,g.get? e=some d/\d.cls=.type "StopIteration")->E (.ref e) {s with heap:=g}) :
 wpAny (model prog w) A (Builtin.«zip.__next__» ⟨[.ref z],[]⟩) Q E s:=by
 show wpAny _ _ (field (.ref z) 2 >>= _) _ _ _;refine Ad (wpAny_field r rfl (x:=.bool false) rfl ?_);show wpAny _ _ (field (.ref z) 3 >>= _) _ _ _;refine Ad (wpAny_field r rfl (x:=.ref a) rfl (Ad (F9 U rfl ?_)));show wpAny _ _ (Builtin.SmallTypes.ownedTupleIsFree (.ref z) >>= _) _ _ _;refine Ad ?_;unfold Builtin.SmallTypes.ownedTupleIsFree;refine Ad (wpAny_field r rfl (x:=.none) rfl (Aw ?_));simp only[if_true];refine Ad (Ha (Ad (wpAny_field r rfl (x:=.ref o) rfl (Ad (wpAny_setField_rec r (by simp) λY C b=>?_)))))
 replace C:IsZip Y z a o .ellipsis:=C
 refine Ad ?_;simp only[List.zipIdx_cons,List.zipIdx_nil,List.forIn_cons,List.forIn_nil];refine Ad (Ad (wpAny_onRaise ?_));show wpAny _ _ (Builtin.SmallTypes.nextOf (.ref i) >>= _) _ _ _
 cases F:xs[k]? with
 |none =>
   refine Ad (S1 J (K.extBut b.extBut D.i1z) (L.extBut b.extBut D.l1z) F λG e f H=>?_);obtain⟨d,l,y⟩:=H;have M:IsZip G z a o .ellipsis:=f _ _ D.i1z.symm C;have ne:e≠z:=λt=>by subst t;rw[M] at l;cases l;simp at y
   exact wpAny_setField_rec M (by simp) λN _ n=>T N e (λc d B _ I _ t=>n.extBut _ _ B (f _ _ I (b.extBut _ _ B t))) ⟨d,n.extBut _ _ ne l,y⟩
 |some x =>
   have Z:ys[m]?=none:=by
    rcases aa with h|h;rw[F] at h;cases h;exact h
   refine Ad (P2 (K.extBut b.extBut D.i1z) (L.extBut b.extBut D.l1z) F λG i2 f=>Aw ?_);have O:IsPair G o u v:=f.extBut _ _ D.TOi1 (b.extBut _ _ D.TOz V);refine Ad (F9 O rfl (Ad (wpAny_updateSeq_pair O λN o3 n=>Ad (wpAny_letGo (Aw ?_)))));refine Ad (Ad (wpAny_onRaise ?_));show wpAny _ _ (Builtin.SmallTypes.nextOf (.ref j) >>= _) _ _ _;refine Ad (S1 J (((W.extBut b.extBut D.i2z).extBut f.extBut D.i12.symm).extBut n.extBut D.TOi2.symm) (((X.extBut b.extBut D.l2z).extBut f.extBut D.l2i1).extBut n.extBut D.l2TO) Z λg4 e P H=>?_);obtain⟨d,l,y⟩:=H;have R:IsZip g4 z a o .ellipsis:=P _ _ D.i2z.symm (n.extBut _ _ D.TOz.symm (f.extBut _ _ D.i1z.symm C));have ne:e≠z:=λt=>by subst t;rw[R] at l;cases l;simp at y
   exact wpAny_setField_rec R (by simp) λg5 _ S=>T g5 e (λc d B n2 I n4 t=>S.extBut _ _ B (P _ _ n4 (n.extBut _ _ n2 (f.extBut _ _ I (b.extBut _ _ B t))))) ⟨d,S.extBut _ _ ne l,y⟩
theorem ZM{i p:Addr}{k m:Nat}{xs:Array Value}{x y v:Value}{Q:Option Value->Shared->Prop}(D:ZipApart z a o i j p q)(b:IsZip s.heap z a o .none)(f:IsPair s.heap a (.ref i) (.ref j))(h:IsPair s.heap o u v)
 (l:s.heap.IsTupleIter i p k) (n:s.heap.IsTupleIter j q m) (r:s.heap.IsTuple p xs) (t:s.heap.IsTuple q ys) (B:xs[k]?=some x) (C:ys[m]?=some y)
 (N:∀g,IsZip g z a o (rawInt s.heap.objs.size)->IsPair g o x y->g.IsTupleIter i p (k+1)->g.IsTupleIter j q (m+1)->IsPair g s.heap.objs.size x y->g.objs.size=s.heap.objs.size+1->(∀c d,c≠z->c≠o->c≠i->c≠j->s.heap.get? c=some d->g.get? c=some d)->Q (some (.ref s.heap.objs.size)) {s with heap:=g}):wpAny (model prog w) A (pyNext (.ref z)) Q E s:=by
 have e:s.TypeIs (.ref z) "zip" :=⟨_,b,rfl⟩;unfold pyNext;exact Ad (wpAny_attempt (wpAny_callSpecial?_slot (name:=Str.ofString "__next__") e F.slot_zip_next (wpAny_call_entry F.slot_zip_next e F.entry_zip_next (ZK D b f h l n r t B C λg G H I J K L M=>Aw (N g G H I J K L M)) (F.args_zip_next_1 _))))
theorem ZN{i p:Addr}{k m:Nat}{xs:Array Value}{v:Value}{Q:Option Value->Shared->Prop}(l:A.handled=none)(D:ZipApart z a o i j p q)(f:IsZip s.heap z a o .none)(n:IsPair s.heap a (.ref i) (.ref j))(r:IsPair s.heap o u v)
 (t:s.heap.IsTupleIter i p k) (x:s.heap.IsTupleIter j q m) (y:s.heap.IsTuple p xs) (B:s.heap.IsTuple q ys) (K:xs[k]?=none\/ys[m]?=none)
 (J:∀g,(∀c d,c≠z->c≠o->c≠i->c≠j->s.heap.get? c=some d->g.get? c=some d)->Q none {s with heap:=g}):wpAny (model prog w) A (pyNext (.ref z)) Q E s:=by
 have h:s.TypeIs (.ref z) "zip" :=⟨_,f,rfl⟩;unfold pyNext;refine Ad (wpAny_attempt (wpAny_callSpecial?_slot (name:=Str.ofString "__next__") h F.slot_zip_next (wpAny_call_entry F.slot_zip_next h F.entry_zip_next (ZL l D f n r t x y B K λg e C G=>?_) (F.args_zip_next_1 _))));obtain⟨d,H,I⟩:=G;exact Ad (wpAny_isInstance (T:= "StopIteration") (b:=true) ⟨d,H,I⟩ isSubtype_stop (Aw (J _ C)))
end
abbrev P4 (h:Heap) (p:Addr):Heap:=h.push {cls:=.type "tuple_iterator",data:=.fields #[.ref p,.int 0 0]}
abbrev P5 (h:Heap) (p q:Addr):Heap:=(P4 h p).push {cls:=.type "tuple_iterator",data:=.fields #[.ref q,.int 0 0]}
abbrev P6 (h:Heap) (p q:Addr):Heap:=(P5 h p q).push {cls:=.type "tuple",data:=.seq #[.ref h.objs.size,.ref (P4 h p).objs.size]}
abbrev P7 (h:Heap) (p q:Addr):Heap:=(P6 h p q).push {cls:=.type "tuple",data:=.seq #[.none,.none]}
abbrev L4 (h:Heap) (p q:Addr):Heap:=(P7 h p q).push {cls:=.type "zip",data:=.fields #[.none,.bool false,.bool false,.ref (P5 h p q).objs.size,.ref (P6 h p q).objs.size]}
theorem ZO(p q:Addr)(xs ys:Array Value):Meets (Builtin.«zip.__new__» ⟨[.type "zip",.ref p,.ref q],[]⟩) (λ_ R s=>s.heap.IsTuple p xs/\s.heap.IsTuple q ys/\R (.ok (.ret (.ref (P7 s.heap p q).objs.size))) {s with heap:=L4 s.heap p q}):=
 .of_wp λprog w A R s h=>by
  obtain⟨a,g,d,tk,b⟩:=s;obtain⟨c,e,h⟩:=h;have j:=sub_zip;have f:Heap.IsTuple (Shared.heap ⟨a,g,d,tk,b⟩) p xs:=c;have i:Heap.IsTuple (Shared.heap ⟨a.push {cls:=.type "tuple_iterator",data:=.fields #[.ref p,.int 0 0]},g,d,tk,b⟩) q ys:=Heap.IsTuple.push e _
  wp_walk using wpAny_pyIter_tuple f,wpAny_pyIter_tuple i
  exact⟨_,rfl,h⟩
theorem ZP{w:World}{p q:Addr}{xs ys:Array Value}(m:s.heap.IsTuple p xs)(n:s.heap.IsTuple q ys)
 (h:∀g,IsZip g (s.heap.objs.size+4) (s.heap.objs.size+2) (s.heap.objs.size+3) .none->IsPair g (s.heap.objs.size+2) (.ref s.heap.objs.size) (.ref (s.heap.objs.size+1))->IsPair g (s.heap.objs.size+3) .none .none->g.IsTupleIter s.heap.objs.size p 0->g.IsTupleIter (s.heap.objs.size+1) q 0->g.objs.size=s.heap.objs.size+5->(∀c o,s.heap.get? c=some o->g.get? c=some o)->Q (.ref (s.heap.objs.size+4)) {s with heap:=g}) :
 wpAny (model prog w) A (call (.type "zip") [.ref p,.ref q]) Q E s:=by
 refine callType_new F.called_zip (by decide) (F.typeCall_zip_2 _ _) (F.newCall_zip_2 _ _) (λu=>F.args_object_init_3 u _ _) F.entry_zip_new (ZO p q xs ys) ⟨m,n,?_⟩;have a:(P4 s.heap p).objs.size=s.heap.objs.size+1:=Heap.size_push ..;have b:(P5 s.heap p q).objs.size=s.heap.objs.size+2:=(by rw[Heap.size_push,a]);have d:(P6 s.heap p q).objs.size=s.heap.objs.size+3:=(by rw[Heap.size_push,b]);have f:(P7 s.heap p q).objs.size=s.heap.objs.size+4:=(by rw[Heap.size_push,d]);have r:(L4 s.heap p q).objs.size=s.heap.objs.size+5:=(by rw[Heap.size_push,f]);have i:(L4 s.heap p q).get? (P7 s.heap p q).objs.size=some _:=B8 _ rfl;have j:(L4 s.heap p q).get? (P6 s.heap p q).objs.size=some _:=Ba _ (B8 _ rfl);have k:(L4 s.heap p q).get? (P5 s.heap p q).objs.size=some _:=Ba _ (Ba _ (B8 _ rfl));have l:(L4 s.heap p q).get? (P4 s.heap p).objs.size=some _:=Ba _ (Ba _ (Ba _ (B8 _ rfl)));have t:(L4 s.heap p q).get? s.heap.objs.size=some _:=Ba _ (Ba _ (Ba _ (Ba _ (B8 _ rfl))));show _/\_;rw[b,d,f] at i;rw[a,b] at k;rw[d] at j;rw[a] at l;rw[f];exact⟨⟨_,i,rfl⟩,h _ i k j ⟨_,t,rfl,rfl⟩ ⟨_,l,rfl,rfl⟩ r λc o e=>Ba _ (Ba _ (Ba _ (Ba _ (Ba _ e))))⟩
def HQ (K:Ah) (l1 l2:Addr):It:=
 ⟨λi H=>∃xs ys x y,Aq K H l1 xs/\Aq K H l2 ys/\xs[i]?=some x/\ys[i]?=some y,
  λi H v H'=>∃T x y,H T=none/\v=.ref T/\H'=upd H T (.tup [x,y])/\(∀xs,Aq K H l1 xs->xs[i]?=some x)/\∀ys,Aq K H l2 ys->ys[i]?=some y,
  λi H=>∃xs ys,Aq K H l1 xs/\Aq K H l2 ys/\(xs.length<=i\/ys.length<=i)⟩
def Op (z TI TO i1 i2 l1 l2:Addr) (i:Nat) (h:Heap):Prop:=IsZip h z TI TO .none/\IsPair h TI (.ref i1) (.ref i2)/\(∃a b,IsPair h TO a b)/\h.IsTupleIter i1 l1 i/\h.IsTupleIter i2 l2 i
theorem ZQ{an:Program}{w:World}{K:Ah}{k:Nat}{z TI TO g j l1 l2:Addr}(D:ZipApart z TI TO g j l1 l2) :
 Fl an w K (.Tuple es k L) (HQ K l1 l2) [z,TI,TO,g,j] z (Op z TI TO g j l1 l2) where
 mem:=by simp
 obj:=λi h F b d=>by
  obtain⟨G,J,⟨a,c,N⟩,⟨o1,e1,c1,d1⟩,⟨o2,e2,c2,d2⟩⟩:=F;simp at d;rcases d with rfl|rfl|rfl|rfl|rfl;exact⟨_,G,λv q=>by cases q⟩;exact⟨_,J,λv q=>by cases q⟩;exact⟨_,N,λv q=>by cases q⟩;exact⟨_,e1,λv q=>by rw[d1] at q;cases q⟩;exact⟨_,e2,λv q=>by rw[d2] at q;cases q⟩
 keep:=λi h h' F T=>by
  obtain⟨G,J,⟨a,c,N⟩,O,P⟩:=F;exact⟨T z (by simp) _ G,T TI (by simp) _ J,⟨a,c,T TO (by simp) _ N⟩,O.at λo e=>T g (by simp) o e,P.at λo e=>T j (by simp) o e⟩
 item:=by
  intro aa hP hw hK B i aj s σ H E I C F hg;subst hP hw hK;obtain⟨xs,ys,x,y,Y,Z,hx,hy⟩:=hg;obtain⟨G,J,⟨a,c,N⟩,O,P⟩:=F;obtain⟨a0,af,p1,ao⟩:=I.tuple Y;obtain⟨a7,ag,ab,aq⟩:=I.tuple Z;obtain⟨V,ar,au⟩:=af.get hx;obtain⟨W,av,aw⟩:=ag.get hy;refine ZM D G J N O P p1 ab (x:=V) (y:=W) (by simpa using ar) (by simpa using av) λh' a1 a2 a3 a4 a5 a6 M=>?_;refine⟨_,rfl,wpAny_letOwnedTupleGo_zip (s:={s with heap:=h'}) a1 λU a8 S=>?_⟩;have p:=C z (by simp);have A:=C TO (by simp);have r:=C g (by simp);have t:=C j (by simp);have G0:∀b u,H b=some u->b≠z/\b≠TO/\b≠g/\b≠j:=λb u e=>⟨AH e p.1,AH e A.1,AH e r.1,AH e t.1⟩;have keep:∀b o,b≠z->b≠TO->b≠g->b≠j->s.heap.get? b=some o->U.get? b=some o:=λb o X n2 n3 n4 e=>(S.2 b X).trans (M b o X n2 n3 n4 e);have f:∀{b:Addr},b∉[z,TO,g,j]->b≠z/\b≠TO/\b≠g/\b≠j:=λ{b}d=>by simpa using d
  have I1:Inv aa aj σ H {s with heap:=U}:=by
   refine I.step (g':=s.gens) (t':=s.toks) (d':=s.drawn) (h':=U) (ch:=[z,TO,g,j]) (λb d=>?_) (λb l _ _ d e _=>keep b l (f d).1 (f d).2.1 (f d).2.2.1 (f d).2.2.2 e) (λb l _ _ d e _=>⟨l.slots,keep b l (f d).1 (f d).2.1 (f d).2.2.1 (f d).2.2.2 e⟩)
    (λ_ _ _ _ n=>n) (λb l d e=>⟨l,keep b l (f d).1 (f d).2.1 (f d).2.2.1 (f d).2.2.2 e⟩) (λ_ _ e=>e) (λ_ _ _ e=>e) (λb ps e=>⟨#[],by rw[e];simp⟩) (λm hm=>?_) (λb u e=>?_) I.bare
   have:b=z\/b=TO\/b=g\/b=j:=(by simpa using d);rcases this with rfl|rfl|rfl|rfl;exact⟨p.2.2.2.1,p.2.1,p.2.2.2.2.1,p.2.2.2.2.2⟩;exact⟨A.2.2.2.1,A.2.1,A.2.2.2.2.1,A.2.2.2.2.2⟩;exact⟨r.2.2.2.1,r.2.1,r.2.2.2.2.1,r.2.2.2.2.2⟩;exact⟨t.2.2.2.1,t.2.1,t.2.2.2.2.1,t.2.2.2.2.2⟩;obtain⟨o,es,ep,ho,ae⟩:=hm;exact⟨o,es,ep,keep _ o (Ne.symm p.2.1) (Ne.symm A.2.1) (Ne.symm r.2.1) (Ne.symm t.2.1) ho,ae⟩;refine(I.hok b u e).stay (λc v B q=>?_) (λ_ q=>q) λ_ _ q=>q
   have ah:∃Q,H c=some Q:=by
    rcases B with rfl|B;exact⟨_,e⟩;exact⟨_,B⟩
   obtain⟨Q,R⟩:=ah;obtain⟨X,n2,n3,n4⟩:=G0 c Q R;exact keep c v X n2 n3 n4 q
  have ax:s.heap.objs.size≠z:=Nat.ne_of_gt (A1 G);have ak:H s.heap.objs.size=none:=I.hok.fresh (AB _);have al:U.get? s.heap.objs.size=some {cls:=.type "tuple",data:=.seq #[V,W]}:=(S.2 _ ax).trans a5
  have I2:Inv aa aj σ (upd H s.heap.objs.size (.tup [x,y])) {s with heap:=U}:=by
   refine I1.track (I.fpOk (AB _) ak) ⟨_,al⟩ ?_;exact⟨by show 2<=sizeLine;decide,[V,W],.cons au (.cons aw .nil),⟨_,al,rfl,_,rfl⟩⟩
  refine⟨.ref s.heap.objs.size,_,I2,rfl,⟨s.heap.objs.size,x,y,ak,rfl,rfl,λzs ai=>by rw[I.tuple_inj ai Y];exact hx,λzs ai=>by rw[I.tuple_inj ai Z];exact hy⟩,?_,λb d=>?_⟩;refine⟨a8,S.extBut _ _ D.TIz (M _ _ D.TIz D.TITO D.TIi1 D.TIi2 J),⟨V,W,S.extBut _ _ D.TOz a2⟩,a3.extBut S.extBut D.i1z,a4.extBut S.extBut D.i2z⟩;have ay:=(C b d).1;rw[AD (λq=>?_)];exact ay;have az:b=z\/b=TI\/b=TO\/b=g\/b=j:=(by simpa using d);obtain⟨o1,e1,_⟩:=O;obtain⟨o2,e2,_⟩:=P
  have lt:b<s.heap.objs.size:=by
   rcases az with rfl|rfl|rfl|rfl|rfl;exact A1 G;exact A1 J;exact A1 N;exact A1 e1;exact A1 e2
  rw[q] at lt;exact absurd lt (F7 _)
 done:=by
  intro aa hP hw hK B i aj s σ H E I C F hg;subst hP hw hK;obtain⟨xs,ys,Y,Z,aB⟩:=hg;obtain⟨G,J,⟨a,c,N⟩,O,P⟩:=F;obtain⟨a0,af,p1,ao⟩:=I.tuple Y;obtain⟨a7,ag,ab,aq⟩:=I.tuple Z;have a9:=af.length;have aA:=ag.length;refine ZN (I.ok.hd B) D G J N O P p1 ab (by simp;omega) λh' M=>⟨rfl,?_⟩;have p:=C z (by simp);have A:=C TO (by simp);have r:=C g (by simp);have t:=C j (by simp);have f:∀{b:Addr},b∉[z,TO,g,j]->b≠z/\b≠TO/\b≠g/\b≠j:=λ{b}d=>by simpa using d
  refine I.step (g':=s.gens) (t':=s.toks) (d':=s.drawn) (h':=h') (ch:=[z,TO,g,j]) (λb d=>?_) (λb l _ _ d e _=>M b l (f d).1 (f d).2.1 (f d).2.2.1 (f d).2.2.2 e) (λb l _ _ d e _=>⟨l.slots,M b l (f d).1 (f d).2.1 (f d).2.2.1 (f d).2.2.2 e⟩)
   (λ_ _ _ _ n=>n) (λb l d e=>⟨l,M b l (f d).1 (f d).2.1 (f d).2.2.1 (f d).2.2.2 e⟩) (λ_ _ e=>e) (λ_ _ _ e=>e) (λb ps e=>⟨#[],by rw[e];simp⟩) (λm hm=>?_) (λb u e=>?_) I.bare
  have:b=z\/b=TO\/b=g\/b=j:=(by simpa using d);rcases this with rfl|rfl|rfl|rfl;exact⟨p.2.2.2.1,p.2.1,p.2.2.2.2.1,p.2.2.2.2.2⟩;exact⟨A.2.2.2.1,A.2.1,A.2.2.2.2.1,A.2.2.2.2.2⟩;exact⟨r.2.2.2.1,r.2.1,r.2.2.2.2.1,r.2.2.2.2.2⟩;exact⟨t.2.2.2.1,t.2.1,t.2.2.2.2.1,t.2.2.2.2.2⟩;obtain⟨o,es,ep,ho,ae⟩:=hm;exact⟨o,es,ep,M _ o (Ne.symm p.2.1) (Ne.symm A.2.1) (Ne.symm r.2.1) (Ne.symm t.2.1) ho,ae⟩;refine(I.hok b u e).stay (λc v B q=>?_) (λ_ q=>q) λ_ _ q=>q
  have ah:∃Q,H c=some Q:=by
   rcases B with rfl|B;exact⟨_,e⟩;exact⟨_,B⟩
  obtain⟨Q,R⟩:=ah;exact M c v (AH R p.1) (AH R A.1) (AH R r.1) (AH R t.1) q
 self:=λ_ _ _ _ _ F h=>wpAny_pyIter_zip F.1 h
theorem ZR{K:Ah}{a b:Addr}{ys:List V}{g:TG}{tb:TS}(Pv:Nat->St->Hp->Prop)(j:Pv 0 σ H)(k:∀i σ H,Pv i σ H->Aq K H a xs/\Aq K H b ys)
 (l:∀i x y T σ H,xs[i]?=some x->ys[i]?=some y->H T=none->Pv i σ H->g (.ref T) σ (upd H T (.tup [x,y])) λσ2 c=>tb {D with nx:=Pv (i+1),ct:=Pv (i+1),bk:=D.nx} σ2 c) (hd:∀σ H,Pv (min xs.length ys.length) σ H->D.nx σ H) :
 ∃W:Nat->Nat->St->Hp->Prop,(∃m,W 0 m σ H)/\∀i m σ H,W i m σ H ->
  ((HQ K a b).stop i H/\D.nx σ H)\/((HQ K a b).go i H/\∃N:St->Hp->Prop,(∀σ' H',N σ' H'->∃h,h<m/\W (i+1) h σ' H')/\∀x H',(HQ K a b).yld i H x H'->g x σ H' λσ2 c=>tb {D with nx:=N,ct:=N,bk:=D.nx} σ2 c):=by
 refine⟨λi m σ H=>m=min xs.length ys.length-i/\i<=min xs.length ys.length/\Pv i σ H,⟨_,rfl,Ck _,j⟩,?_⟩;rintro i m σ H ⟨rfl,z,p⟩;obtain⟨d,f⟩:=k i σ H p;by_cases w:i<min xs.length ys.length;have n:i<xs.length:=(by omega);have o:i<ys.length:=(by omega);refine .inr ⟨⟨xs,ys,xs[i],ys[i],d,f,by simp[n],by simp[o]⟩,Pv (i+1),λσ' H' q=>⟨min xs.length ys.length-(i+1),by omega,rfl,w,q⟩,λv H' y=>?_⟩;obtain⟨T,x,r,s,rfl,rfl,t,u⟩:=y;exact l i x r T σ H (t xs d) (u ys f) s p;have e:i=min xs.length ys.length:=(by omega);refine .inl ⟨⟨xs,ys,d,f,by omega⟩,?_⟩;rw[e] at p;exact hd σ H p
def Oq (K:Ah) (ta:TA):TI:=λσ H R=>ta σ H λvs Y=>∃l1 l2,vs=[.ref l1,.ref l2]/\(((∃xs,Af K Y l1 xs)/\(∃ys,Af K Y l2 ys)/\R (N4 K l1 l2) Y)\/((∃xs,Aq K Y l1 xs)/\(∃ys,Aq K Y l2 ys)/\R (HQ K l1 l2) Y))
theorem Wc{X:Cx}{k:Nat}{j:Pos}{a b:Expr}{D:TA}{p:Pos}(F:Gl X "zip")(G:X.mg "zip" = none)(K:PA X [a,b] D)(M:starEach [a,b] X.env=[(false,eval a X.env),(false,eval b X.env)]:=by rfl)(E:starEach [b] X.env=[(false,eval b X.env)]:=by rfl) :
 PI X (.Tuple es k j) (.Call (.Name "zip" p) [a,b] [] L) (Oq X.K D):=by
 intro ae s σ H ah I h;refine Call_ (IX I F G (u:=.type "zip") (by decide +kernel) (PyProof.Rows.callWith_type1 (AW (K L ae s σ H _ I h) λus c⟨vs,Y,d,N,O⟩=>?_) (by rw[M,E]) (by rw[E];rfl)));obtain⟨l,m,rfl,P⟩:=O;obtain⟨Q,R,rfl,T,U⟩:=Jc N;obtain rfl:Q=Value.ref l:=T;obtain rfl:R=Value.ref m:=U;rcases P with⟨⟨xs,w⟩,⟨S,x⟩,q⟩|⟨⟨xs,w⟩,⟨S,x⟩,q⟩;obtain⟨af,V,f,W⟩:=d.list w;obtain⟨ag,Z,J,aa⟩:=d.list x;have n:l<c.heap.objs.size:=by obtain⟨_,e,_⟩:=f.isList;exact A1 e
 have o:m<c.heap.objs.size:=by obtain⟨_,e,_⟩:=J.isList;exact A1 e
 refine call_zip_2 f.isList J.isList λr g y z A B ab t=>?_;refine wpAny_pyIter_zip (s:={c with heap:=r}) g ?_;refine⟨_,[c.heap.objs.size+4,c.heap.objs.size+2,c.heap.objs.size+3,c.heap.objs.size,c.heap.objs.size+1],_,_,Y,rfl,d.kept (t':=c.toks) t,Yv (zipApart_new n o),⟨g,y,⟨_,_,z⟩,A,B⟩,λb v=>?_,q⟩
 have i:c.heap.objs.size<=b:=by
  have C:b=c.heap.objs.size+4\/b=c.heap.objs.size+2\/b=c.heap.objs.size+3\/b=c.heap.objs.size\/b=c.heap.objs.size+1:=(by simpa using v);rcases C with rfl|rfl|rfl|rfl|rfl;exact Nat.le_add_right _ _;exact Nat.le_add_right _ _;exact Nat.le_add_right _ _;exact AB _;exact Nat.le_add_right _ _
 exact d.fpOk i (d.hok.fresh i);obtain⟨af,V,f,W⟩:=d.tuple w;obtain⟨ag,Z,J,aa⟩:=d.tuple x;have n:l<c.heap.objs.size:=by obtain⟨_,e,_⟩:=f;exact A1 e
 have o:m<c.heap.objs.size:=by obtain⟨_,e,_⟩:=J;exact A1 e
 refine ZP f J λr g y z A B ab t=>?_;refine wpAny_pyIter_zip (s:={c with heap:=r}) g ?_;refine⟨_,[c.heap.objs.size+4,c.heap.objs.size+2,c.heap.objs.size+3,c.heap.objs.size,c.heap.objs.size+1],_,_,Y,rfl,d.kept (t':=c.toks) t,ZQ (zipApart_new n o),⟨g,y,⟨_,_,z⟩,A,B⟩,λb v=>?_,q⟩
 have i:c.heap.objs.size<=b:=by
  have C:b=c.heap.objs.size+4\/b=c.heap.objs.size+2\/b=c.heap.objs.size+3\/b=c.heap.objs.size\/b=c.heap.objs.size+1:=(by simpa using v);rcases C with rfl|rfl|rfl|rfl|rfl;exact Nat.le_add_right _ _;exact Nat.le_add_right _ _;exact Nat.le_add_right _ _;exact AB _;exact Nat.le_add_right _ _
 exact d.fpOk i (d.hok.fresh i)
mutual
inductive A4 (F:Addr->Prop) (H:Hp):V->Dt->Prop where
 | non:A4 F H .non .non
 | bl (b:Bool):A4 F H (.bl b) (.bl b)
 | int (i:Int):A4 F H (.int i) (.int i)
 | str (x:Str):A4 F H (.str x) (.str x)
 | tup {a:Addr} {vs:List V} {ds:List Dt} (h:H a=some (.tup vs)) (t:Ax F H vs ds):A4 F H (.ref a) (.tup ds)
 | lst {a:Addr} {vs:List V} {ds:List Dt} (h:H a=some (.lst vs)) (f:F a) (t:Ax F H vs ds):A4 F H (.ref a) (.lst ds)
inductive Ax (F:Addr->Prop) (H:Hp):List V->List Dt->Prop where
 | nil:Ax F H [] []
 | cons {v:V} {d:Dt} {vs:List V} {ds:List Dt} (h:A4 F H v d) (t:Ax F H vs ds):Ax F H (v :: vs) (d :: ds)
end
mutual
theorem A4.go {F G:Addr->Prop}{H H':Hp} (e:∀ a vs,H a=some (.tup vs)->H' a=some (.tup vs)) (l:∀ a vs,H a=some (.lst vs)->F a->H' a=some (.lst vs)/\G a) {v:V} {d:Dt} (h:A4 F H v d):A4 G H' v d:=by
 cases h with
 | non=>exact .non
 | bl b=>exact .bl b
 | int i=>exact .int i
 | str x=>exact .str x
 | tup h t=>exact .tup (e _ _ h) (Ax.go e l t)
 | lst h f t=>exact .lst (l _ _ h f).1 (l _ _ h f).2 (Ax.go e l t)
theorem Ax.go {F G:Addr->Prop}{H H':Hp} (e:∀ a vs,H a=some (.tup vs)->H' a=some (.tup vs)) (l:∀ a vs,H a=some (.lst vs)->F a->H' a=some (.lst vs)/\G a) {vs:List V} {b:List Dt} (h:Ax F H vs b):Ax G H' vs b:=by
 cases h with
 | nil=>exact .nil
 | cons h t=>exact .cons (A4.go e l h) (Ax.go e l t)
end
mutual
theorem A4.dt {K:Ah}{F:Addr->Prop}{H:Hp}{v:V}{d:Dt} (h:A4 F H v d):Ar K H v d:=by
 cases h with
 | non=>exact .non
 | bl b=>exact .bl b
 | int i=>exact .int i
 | str x=>exact .str x
 | tup h t=>exact .tup (Aq.of h) (Ax.dts t)
 | lst h f t=>exact .lst (Af.of h) (Ax.dts t)
theorem Ax.dts {K:Ah}{F:Addr->Prop}{H:Hp}{vs:List V}{a:List Dt} (h:Ax F H vs a):An K H vs a:=by
 cases h with
 | nil=>exact .nil
 | cons h t=>exact .cons (A4.dt h) (Ax.dts t)
end
section
variable {F G M:Addr->Prop} {H H':Hp} {v:V} {d:Dt} {vs us:List V} {ds es:List Dt}
theorem A4.same(s:Ac H H')(h:A4 F H v d):A4 F H' v d:=h.go (λ_ _ q=>s _ _ q) λ_ _ q f=>⟨s _ _ q,f⟩
theorem Ax.same(s:Ac H H')(h:Ax F H vs ds):Ax F H' vs ds:=h.go (λ_ _ q=>s _ _ q) λ_ _ q f=>⟨s _ _ q,f⟩
theorem A4.keeps(k:Keeps M H H')(a:∀x,F x->¬M x)(h:A4 F H v d):A4 F H' v d:=h.go (λ_ _ q=>k.tup q) λ_ _ q f=>⟨k.at_ _ _ q (a _ f),f⟩
theorem Ax.keeps(k:Keeps M H H')(a:∀x,F x->¬M x)(h:Ax F H vs ds):Ax F H' vs ds:=h.go (λ_ _ q=>k.tup q) λ_ _ q f=>⟨k.at_ _ _ q (a _ f),f⟩
theorem A4.mono(e:∀x o,H x=some o->F x->G x)(h:A4 F H v d):A4 G H v d:=h.go (λ_ _ q=>q) λ_ _ q f=>⟨q,e _ _ q f⟩
theorem Ax.mono(e:∀x o,H x=some o->F x->G x)(h:Ax F H vs ds):Ax G H vs ds:=h.go (λ_ _ q=>q) λ_ _ q f=>⟨q,e _ _ q f⟩
theorem Ax.length:∀{vs:List V}{ds:List Dt},Ax F H vs ds->vs.length=ds.length
 |_,_,.nil=>rfl
 |_,_,.cons _ t=>by rw[Ek,Ek,Ax.length t]
theorem Ax.snoc:∀{vs:List V}{ds:List Dt},Ax F H vs ds->A4 F H v d->Ax F H (vs++[v]) (ds++[d])
 |_,_,.nil,h=>.cons h .nil
 |_,_,.cons a t,h=>.cons a (Ax.snoc t h)
theorem Ax.get:∀{vs:List V}{ds:List Dt}{i:Nat}{v:V},Ax F H vs ds->vs[i]?=some v->∃d,ds[i]?=some d/\A4 F H v d
 |_,_,i,v,.nil,e=>by simp at e
 |_,_,0,v,.cons a t,e=>by simp at e;subst e;exact⟨_,rfl,a⟩
 |_,_,i+1,v,.cons a t,e=>by
   obtain⟨d,b,c⟩:=Ax.get (i:=i) t (by simpa using e);exact⟨d,by simpa using b,c⟩
theorem Ax.of_all{α:Type}{f:α->V}{g:α->Dt}:∀{l:List α},(∀x∈l,A4 F H (f x) (g x))->Ax F H (l.map f) (l.map g)
 |[],_=>.nil
 |x::l,h=>.cons (h x Bz) (Ax.of_all λy a=>h y (Cj _ a))
end
theorem S2{α:Type}{f:α->List V}{D:α->Dt}{F:Addr->Prop}{H:Hp}(d:∀(r:α)(t:Addr),H t=some (.tup (f r))->A4 F H (.ref t) (D r)):∀{ts:List Addr}{c:List α},RT f H ts c->Ax F H (ts.map V.ref) (c.map D)
 |[],[],_=>.nil
 |[],_::_,h=>by have:=h.len;simp at this
 |_::_,[],h=>by have:=h.len;simp at this
 |t::ts,r::c,h=>.cons (d r t (h.at_ 0 t r rfl rfl)) (S2 d ⟨by simpa using h.len,λn a b e g=>h.at_ (n+1) a b (by simpa using e) (by simpa using g)⟩)
variable {F:Addr->Prop}
theorem HS(r:Ap)(t:Addr)(h:H t=some (.tup (GR r))):A4 F H (.ref t) (PU r):=.tup h (.cons (.int _) (.cons (.str _) (.cons (.int _) .nil)))
theorem CQ.own{t:Addr}(h:CQ F H t w):A4 F H (.ref t) (CF.D w):=by
 obtain⟨d,a,b,c⟩:=h;exact .lst a c (S2 HS b)
variable {b:AR}
theorem DL.own{t:Addr}(h:DL F H t b):A4 F H (.ref t) (DP.D b):=by
 obtain⟨l,f,a,c,d,e⟩:=h;exact .tup a (.cons (.lst c e (S2 HS d)) (.cons (.int _) (.cons (.int _) .nil)))
def KP (ss:List Bj) (m:Ap):DV:=match ss[m.1.toNat]? with
 |some s=>(match s.2[m.2.2.toNat]? with
   |some p=>p
   |none=>default)
 |none=>default
theorem We{k:Nat}{s:Bj}{p:DV}(a:m.1=(n:Int))(b:m.2.2=(k:Int))(c:ss[n]?=some s)(d:s.2[k]?=some p):KP ss m=p:=by
 unfold KP;rw[a,b,Bl,Bl,c];dsimp only;rw[d]
def Cq (ss:List Bj) (w:List Ap):DV:=match w.getLast? with
 |some m=>KP ss m
 |none=>default
def Dp (ss:List Bj) (w:List Ap):Prop:=∃(v:List Ap)(m:Ap),w=v++[m]/\Ex ss m/\m.2.1=("told" : Str)
theorem P8(ss:List Bj)(v:List Ap)(m:Ap):Cq ss (v++[m])=KP ss m:=by
 unfold Cq;rw[List.getLast?_concat]
def Fv (W:Wd) (w:List Ap):Option Int:=if(Cq W.ss w).2.2.1=("by" : Str)/\W.as[(Cq W.ss w).2.2.2.toNat]?=some none then some (Cq W.ss w).2.2.2 else none
def Fw (W:Wd):List (List Ap)->Option Ow
 |[]=>none
 |w::ws=>match Fv W w with
   |some q=>some (w,q)
   |none=>Fw W ws
def Bx (W:Wd) (w:List Ap):Option Int:=if(Cq W.ss w).2.2.1=("thing" : Str) then some (Cq W.ss w).2.2.2 else match W.as[(Cq W.ss w).2.2.2.toNat]? with
 |some (some p)=>if p.1=("thing" : Str) then some p.2 else none
 |_=>none
noncomputable def FE (ss:List Bj) (ord:List (Str×Str)) (ws:List (List Ap)):List Ow->Option Ow
 |[]=>none
 |o::os=>if(ws.any λv=>Ci ss ord v o.1)=true then FE ss ord ws os else some o
abbrev Wt:Type:=Int×List Ap×Int
abbrev HU:Option Wt->Dt
 |none=>.non
 |some p=>.tup [.int p.1,CF.D p.2.1,.int p.2.2]
noncomputable def Ey (W:Wd) (ord:List (Str×Str)) (ws:List (List Ap)) (os:List Ow):Option Ow:=match FE W.ss ord ws os with
 |some o=>some o
 |none=>Fw W (CS W.ss ord ws ws)
def Dc (W:Wd) (seen:List (List Ap)) (at_:Int):Str×Int:=if ∀w∈seen,Bx W w=none then("none",at_) else match seen with
 |[]=>("none",at_)
 |w::_=>(match Bx W w with
   |some n=>if ∀v∈seen,Bx W v=some n then("thing",n) else("torn",at_)
   |none=>("torn",at_))
noncomputable def Cb (W:Wd) (ord:List (Str×Str)) (ws:List (List Ap)) (os:List Ow) (at_:Int):Option (Str×Int)×Option Wt:=match Ey W ord ws os with
 |some o=>(none,some (at_,o.1,o.2))
 |none=>(some (Dc W (CS W.ss ord ws ws) at_),none)
variable {W:Wd}{os:List Ow}{at_:Int}{o:Ow}
theorem Nb{ws:List (List Ap)}(h:Ey W ord ws os=some o):Cb W ord ws os at_=(none,some (at_,o.1,o.2)):=by unfold Cb;rw[h]
theorem JJ{ws:List (List Ap)}(h:Ey W ord ws os=none):Cb W ord ws os at_=(some (Dc W (CS W.ss ord ws ws) at_),none):=by unfold Cb;rw[h]
theorem Wf{ws:List (List Ap)}(h:Ey W ord ws os=none):Fw W (CS W.ss ord ws ws)=none:=by
 unfold Ey at h
 cases e:FE W.ss ord ws os with
 |some o=>rw[e] at h;cases h
 |none=>rw[e] at h;exact h
theorem S3{a:List (List Ap)}(h:∀w∈a,Bx W w=none):Dc W a at_=(("none" : Str),at_):=Ak h
theorem S4{r:List (List Ap)}(h:¬∀v∈w::r,Bx W v=none)(k:¬∀v∈w::r,Bx W v=Bx W w):Dc W (w::r) at_=(("torn" : Str),at_):=by
 unfold Dc;rw[Aj h];dsimp only
 cases e:Bx W w with
 |none=>rfl
 |some n =>
   rw[e] at k;exact Aj k
theorem S5{r:List (List Ap)}(h:¬∀v∈w::r,Bx W v=none)(k:∀v∈w::r,Bx W v=Bx W w):∃n,Bx W w=some n/\Dc W (w::r) at_=(("thing" : Str),n):=by
 cases e:Bx W w with
 |none=>exact absurd (λv a=>by rw[k v a,e]) h
 |some n =>
   refine⟨n,rfl,?_⟩;unfold Dc;rw[Aj h];dsimp only;rw[e];exact Ak λv a=>by rw[k v a,e]
theorem Wg{a b:Option Int}(h:Ee a=Ee b):a=b:=by
 cases a<;>cases b<;>first|rfl|(cases h;rfl)|cases h
theorem JK{a:Option Int}:Ee a=.non↔a=none:=⟨λh=>Wg (b:=none) h,λh=>by rw[h];rfl⟩
theorem ZS(a b:Option Int):Ll (Ee a) (Ee b)=true:=by cases a<;>cases b<;>rfl
theorem FP:(((l.map λw=>Ee (Bx W w)).map λv=>decide (v=V.non)).all id=true)↔∀w∈l,Bx W w=none:=by
 simp only[List.all_map,List.all_eq_true,Function.comp,id,decide_eq_true_eq,JK]
theorem HV:(((l.map λw=>Ee (Bx W w)).map λv=>!decide (v=Ee (Bx W w))).any id=true)↔¬∀v∈l,Bx W v=Bx W w:=by
 simp only[List.any_map,Gq,Function.comp,id,Bool.not_eq_true',decide_eq_false_iff_not];refine⟨λ⟨v,a,b⟩h=>b (by rw[h v a]),λh=>?_⟩;refine Classical.byContradiction λn=>h λv c=>?_;exact Classical.byContradiction λm=>n ⟨v,c,λz=>m (Wg z)⟩
abbrev Lk:Type:=List AR×List (List Ap)×List (List Ap)
abbrev Nc (l:Lk):Dt:=.tup [.lst (l.1.map DP.D),.lst (l.2.1.map CF.D),.lst (l.2.2.map CF.D)]
structure CG (W:Wd) (ord:List (Str×Str)) (sc st:Int) (x:Str) (l:Lk) (os:List Ow):Prop where
 b:Db W sc st l.1
 f:M9 W x l.1 l.2.1
 s:l.2.2=CS W.ss ord l.2.1 l.2.1
 o:Og W l.1 os
abbrev CH (W:Wd) (n:Int):Str×Int:=match W.gs[n.toNat]? with
 |some p=>Dl W.gs W.as p
 |none=>("no",0)
inductive LU (W:Wd) (inn:Int) (ord:List (Str×Str)):Int->Int->List Str->Int->Option (Str×Int)->Option Wt->List Lk->List Int->Prop where
 |stop {sc st:Int} {x:Str} {r:List Str} {at_:Int} {l:Lk} {os:List Ow} {a:Option (Str×Int)} {w:Option Wt} (h:CG W ord sc st x l os) (e:Cb W ord l.2.1 os at_=(a,w)) (n:(∀k,a≠some (("thing" : Str),k))\/r=[]):LU W inn ord sc st (x::r) at_ a w [l] []
 |opn {sc st:Int} {x y:Str} {r:List Str} {at_:Int} {l:Lk} {os:List Ow} {n q:Int} {w:Option Wt} (h:CG W ord sc st x l os) (e:Cb W ord l.2.1 os at_=(some (("thing" : Str),n),w)) (i:CH W n=(("open" : Str),q)):LU W inn ord sc st (x::y::r) at_ none (some (at_,[],q)) [l] [n]
 |no {sc st:Int} {x y:Str} {r:List Str} {at_:Int} {l:Lk} {os:List Ow} {n q:Int} {w:Option Wt} (h:CG W ord sc st x l os) (e:Cb W ord l.2.1 os at_=(some (("thing" : Str),n),w)) (i:CH W n=(("no" : Str),q)):LU W inn ord sc st (x::y::r) at_ (some ("none",at_+1)) none [l] [n]
 |go {sc st:Int} {x y:Str} {r:List Str} {at_:Int} {l:Lk} {os:List Ow} {n q:Int} {w w':Option Wt} {a:Option (Str×Int)} {ls:List Lk} {ts:List Int} (h:CG W ord sc st x l os) (e:Cb W ord l.2.1 os at_=(some (("thing" : Str),n),w)) (i:CH W n=(("to" : Str),q)) (k:LU W inn ord q inn (y::r) (at_+1) a w' ls ts):LU W inn ord sc st (x::y::r) at_ a w' (l::ls) (n::ts)
variable {sc st:Int}{x:Str}
theorem S6(ok:B3 W)(e:0<=sc/\sc<W.ss.length)(f:0<=st/\st<W.sts.length){bs:List AR}(c:Db W sc st bs)(a:w∈DX W x bs):Dp W.ss w:=by
 have d:=(SQ ok e f c a).1;obtain⟨b,g,j,q,h,_,_,rfl⟩:=SM a;exact⟨b.1,_,rfl,d _ (by simp),rfl⟩
theorem P9{all:List (List Ap)}(h:w∈CS ss ord all l):w∈l:=(MN.mp h).1
theorem Nd(c:Be W)(h:Dp W.ss w):Fq W.gs.length W.as.length (Cq W.ss w):=by
 obtain⟨v,m,rfl,⟨n,k,s,d,f,a,g⟩,i⟩:=h;rcases g with⟨e,_⟩|⟨_,b⟩;exact absurd (i.symm.trans e) SO;rw[P8,We d f a (AC b)];exact c.tl s (Bd a) _ (D9 b)
theorem Wh{l:Addr}{v:List Ap}(h:CQ F H l (v++[m])):∃(a:List Addr)(t:Addr),H l=some (.lst (a.map V.ref))/\Bt (a.map V.ref) (-1)=some (.ref t)/\H t=some (.tup (GR m)):=by
 obtain⟨a,f,b,_⟩:=h;have g:=b.len;rw[AV,Dh] at g;have d:v.length<a.length:=(by omega);have i:=AC d;refine⟨a,a[v.length],f,?_,b.at_ v.length _ m i (by simp)⟩
 have e:a.map V.ref=(a.take v.length).map V.ref++[V.ref a[v.length]]:=by
  have:a=a.take v.length++[a[v.length]]:=by
   have c:=List.take_append_drop v.length a;rw[MO d,List.drop_eq_nil_of_le (by omega)] at c;exact c.symm
  conv=>lhs;rw[this]
  rw[Bk];rfl
 rw[e];exact SK _ _
def S7 (F:Addr->Prop) (H:Hp) (v:V):Option Ow->Prop
 |none=>v=.non
 |some o=>∃p l,v=.ref p/\H p=some (.tup [.ref l,.int o.2])/\CQ F H l o.1
theorem FD.way{t:Addr}{p:Ow}(h:FD F H t p):∃l,H t=some (.tup [.ref l,.int p.2])/\CQ F H l p.1:=by
 obtain⟨l,a,b,c,d,e⟩:=h;exact⟨l,b,a,c,d,e⟩
variable {α:Type}
theorem S8{l:List α}{x:α}(h:l[i]?=some x):l.drop i=x::l.drop (i+1):=by
 obtain⟨a,rfl⟩:=A9.mp h;exact MO a
theorem Wi{ws:List (List Ap)}(h:(ws.any λv=>Ci ss ord v o.1)=false):FE ss ord ws (o::os)=some o:=by
 unfold FE;rw[h,Aj Cv]
theorem Wj{ws:List (List Ap)}(h:(ws.any λv=>Ci ss ord v o.1)=true):FE ss ord ws (o::os)=FE ss ord ws os:=by
 conv=>lhs;unfold FE
 rw[h,Ak rfl]
variable {q:Int}
theorem Wk{ws:List (List Ap)}(h:Fv W w=some q):Fw W (w::ws)=some (w,q):=by
 unfold Fw;rw[h]
theorem Qa{ws:List (List Ap)}(h:Fv W w=none):Fw W (w::ws)=Fw W ws:=by
 conv=>lhs;unfold Fw
 rw[h]
theorem S9{W:Wd}:∀{ws:List (List Ap)},Fw W ws=none->∀w∈ws,Fv W w=none
 |[],_,w,h=>by cases h
 | x :: ws,e,w,h=>by
   cases ex:Fv W x with
   |some q=>rw[Wk ex] at e;cases e
   |none =>
     rw[Qa ex] at e;rcases Ch.mp h with rfl|h;exact ex;exact S9 e w h
theorem A4.two{m:Addr}{d e:Dt}(h:A4 F H (.ref m) (.tup [d,e])):∃x y,H m=some (.tup [x,y])/\A4 F H x d/\A4 F H y e:=by
 cases h with
 | tup h t =>
   cases t with
   |cons a t =>
     cases t with
     |cons b t =>
       cases t with
       |nil=>exact⟨_,_,h,a,b⟩
theorem A4.ansN(h:A4 F H v (Bp none)):v=.non:=by cases h;rfl
theorem A4.ansS{p:Str×Int}(h:A4 F H v (Bp (some p))):∃t,v=.ref t/\H t=some (.tup [.str p.1,.int p.2]):=by
 have c:A4 F H v (.tup [.str p.1,.int p.2]):=h
 cases v with
 |ref m =>
   obtain⟨x,y,e,a,b⟩:=c.two;cases a;cases b;exact⟨m,rfl,e⟩
 |_=>cases c
theorem Qb:("none" : Str)≠("thing" : Str):=by decide +kernel
theorem Ta:("torn" : Str)≠("thing" : Str):=by decide +kernel
set_option tactic.hygienic true in
theorem ZT{a:List (List Ap)}{n:Int}(h:Dc W a at_=(("thing" : Str),n)):∃w∈a,Bx W w=some n:=by
 unfold Dc at h;split at h;exact absurd (BI Prod.fst h) Qb;split at h;exact absurd (BI Prod.fst h) Qb;rename_i w r _;split at h;rename_i m b;split at h;refine⟨w,Bz,?_⟩;have e:m=n:=BI Prod.snd h;rw[b,e];exact absurd (BI Prod.fst h) Ta;exact absurd (BI Prod.fst h) Ta
set_option tactic.hygienic true in
theorem ZU(ok:B3 W)(b:Be W)(c:Dp W.ss w){n:Int}(h:Bx W w=some n):0<=n/\n<W.gs.length:=by
 have tk:=Nd b c;unfold Bx at h;split at h;rename_i d;have e:=Bv h;rcases tk with⟨_,f⟩|⟨a,_⟩;rw[<-e];exact f;rw[d] at a;exact absurd a (by decide +kernel);split at h;rename_i p g;split at h;rename_i i;rw[<-Bv h];exact ok.an p (Bd g) i;cases h;cases h
theorem KQ(ok:B3 W)(a:Be W){ws:List (List Ap)}{n:Int}{w:Option Wt}(b:∀w∈ws,Dp W.ss w)(h:Cb W ord ws os at_=(some (("thing" : Str),n),w)):0<=n/\n<W.gs.length:=by
 unfold Cb at h;split at h;cases BI Prod.fst h;obtain⟨w,c,d⟩:=ZT (Bv (BI Prod.fst h));exact ZU ok a (b w (P9 c)) d
theorem ZV(ths:List (Str×Int))(as:List (Option (Str×Int)))(q:Int):(Ed ths as q).1=("to" : Str)\/(Ed ths as q).1=("open" : Str)\/(Ed ths as q).1=("no" : Str):=by
 unfold Ed;split;split;split;split;exact .inl rfl;exact .inr (.inr rfl);exact .inr (.inr rfl);exact .inr (.inr rfl);exact .inr (.inl rfl);exact .inr (.inr rfl)
theorem ZW(ths:List (Str×Int))(as:List (Option (Str×Int)))(p:Str×Int):(Dl ths as p).1=("to" : Str)\/(Dl ths as p).1=("open" : Str)\/(Dl ths as p).1=("no" : Str):=by
 unfold Dl;split;exact .inl rfl;split;exact ZV ths as p.2;exact .inr (.inr rfl)
structure LC (K:Ah) (F:Addr->Prop) (H:Hp) (nt A t:Addr) (W:Wd) (qs:List Qu) (inn:Int) (ord:List (Str×Str)):Prop where
 net:∃(S T R:Addr)(us Gs Es ts qt:List Addr),H nt=some (.tup [.ref S,.ref T,.ref R])/\Ge H S T R us Gs Es ts qt W.ss W.gs qs
 ans:G6 K H A W.as
 tab:Gd K F H t W.sts inn ord
structure Qc (W:Wd) (qs:List Qu) (inn:Int) (ord:List (Str×Str)):Prop where
 ok:B3 W
 sm:Be W
 ol:ord.length<=40
 irr:∀x,(x,x)∉ord
 inn:0<=inn/\inn<W.sts.length
 q:∀q∈qs,(0<=q.1/\q.1<W.ss.length)/\(0<=q.2.1/\q.2.1<W.sts.length)/\1<=q.2.2.length/\q.2.2.length<=8
theorem LC.same{K:Ah}{F:Addr->Prop}{H H':Hp}{a A t:Addr}{W:Wd}{qs:List Qu}{inn:Int}{ord:List (Str×Str)}(e:Ac H H')(h:LC K F H a A t W qs inn ord):LC K F H' a A t W qs inn ord:=by
 obtain⟨⟨S,T,R,d,f,g,i,j,k,l⟩,b,c⟩:=h;exact⟨⟨S,T,R,d,f,g,i,j,e _ _ k,l.same e⟩,b.same e,c.same e⟩
variable {inn:Int}
theorem LC.caseH{K:Ah}{a A t:Addr}{qs:List Qu}(h:LC K F H a A t W qs inn ord):Bq K H a A t W:=by
 obtain⟨⟨S,T,R,d,e,f,g,i,j,k⟩,b,c⟩:=h;exact⟨⟨S,T,R,d,e,f,g,i,qs,j,k⟩,b,c.caseT⟩
variable {a:Option (Str×Int)}{ls:List Lk}{ts:List Int}
theorem L5{p:List Str}{w:Option Wt}(h:LU W inn ord sc st p at_ a w ls ts):ls.length<=p.length:=by
 induction h with
 |stop=>simp
 |opn=>simp
 |no=>simp
 |go _ _ _ _ b=>simpa using b
def Dn:Nat->Dt->Prop
 |0,_=>False
 |_+1,.non=>True
 |_+1,.bl _=>False
 |_+1,.int _=>True
 |_+1,.str _=>True
 |n+1,.tup l=>∀d∈l,Dn n d
 |n+1,.lst l=>∀d∈l,Dn n d
structure Fy (W:Wd):Prop where
 st:∀s∈W.ss,s.1.length<=8
 kst:∀s∈W.ss,∀p∈s.1,Fp W.ss.length W.as.length p
 kth:∀p∈W.gs,FL W.ss.length W.as.length p
 an:∀p,some p∈W.as->p.1=("thing" : Str)->0<=p.2/\p.2<W.gs.length
 go:∀s∈W.sts,∀p∈s.1,0<=p.2/\p.2<W.sts.length
theorem Wl(h:Fy W){k:Str×Int}(c:k∈W.gs)(b:k.1=("part" : Str)):0<=k.2/\k.2<W.ss.length:=by
 rcases h.kth k c with⟨a,_⟩|⟨_,d⟩|⟨a,_⟩;rw[b] at a;exact absurd a (by decide +kernel);exact d;rw[b] at a;exact absurd a (by decide +kernel)
set_option tactic.hygienic true in
theorem ZX(h:Fy W){g:Str×Int}(e:Ed W.gs W.as q=g)(a:g.1=("to" : Str)):0<=g.2/\g.2<W.ss.length:=by
 unfold Ed at e;split at e;split at e;split at e;rename_i k b;split at e;rename_i c;subst e;exact Wl (k:=k) h (Bd b) c;subst e;exact absurd a F2;subst e;exact absurd a F2;subst e;exact absurd a F2;subst e;exact absurd a PQ;subst e;exact absurd a F2
set_option tactic.hygienic true in
theorem ZY(h:Fy W){p:Str×Int}(b:p∈W.gs){g:Str×Int}(e:Dl W.gs W.as p=g)(a:g.1=("to" : Str)):0<=g.2/\g.2<W.ss.length:=by
 unfold Dl at e;split at e;rename_i c;subst e;exact Wl (k:=p) h b c;split at e;exact ZX h e a;subst e;exact absurd a F2
set_option tactic.hygienic true in
theorem ZZ(h:Fy W){s:Bj}(c:s∈W.ss){p:Cg}(d:p∈s.1){g:Str×Int}(e:BP W.gs W.as p=g)(a:g.1=("to" : Str)):0<=g.2/\g.2<W.ss.length:=by
 unfold BP at e;split at e;rename_i j;subst e;rcases h.kst s c p d with⟨_,f⟩|⟨b,_⟩;exact f;rw[j] at b;exact absurd b (by decide +kernel);split at e;split at e;split at e;rename_i k i;exact ZY h (Bd i) e a;subst e;exact absurd a F2;subst e;exact absurd a F2;subst e;exact absurd a PQ;subst e;exact absurd a F2
theorem B9.kid0(ok:Fy W){c:AR}(h:B9 W b)(k:c∈CA W b):B9 W c:=by
 obtain⟨r,e,g,i,rfl⟩:=AJ.mp k;have f:=VP e;obtain⟨j,p,a,l,m,rfl⟩:=LV e;obtain⟨s,n,o⟩:=VN (Bd l);refine⟨?_,?_,?_⟩;rw[f,List.nodup_append]
 exact⟨h.nd,by simp,λx d y q=>by
  rw[AY.mp q]
  exact λz=>i (z▸d)⟩
 rw[f];intro x d;rcases BF.mp d with d|d;exact h.rng x d;rw[AY.mp d];exact ZZ ok n o rfl g;obtain⟨t,u,v⟩:=VO (SI m);exact ok.go t u _ v
theorem AS.ok0(ok:Fy W)(d:0<=sc/\sc<W.ss.length)(e:0<=st/\st<W.sts.length)(h:AS W sc st b):B9 W b:=by
 induction h with
 |root=>exact⟨by simp[AU],λx a=>by simp[AU] at a;rw[a];exact d,e⟩
 |kid _ k c=>exact c.kid0 ok k
def ET (W:Wd) (sc st:Int):Nat->List AR
 |0=>[([],sc,st)]
 |d+1=>(ET W sc st d).flatMap (CA W)
theorem Z0(h:AS W sc st b):b∈ET W sc st b.1.length:=by
 induction h with
 |root=>exact Bz
 |@kid a c h k d =>
   obtain⟨r,_,_,_,rfl⟩:=AJ.mp k;show _∈ET W sc st (a.1++[r.1]).length;rw[AV,Dh];exact List.mem_flatMap.mpr ⟨a,d,k⟩
variable {B:Nat}
set_option tactic.hygienic true in
theorem Wm(h:∀s∈W.ss,s.1.length<=B)(sc:Int):(B0 W sc).length<=B:=by
 unfold B0;split;rename_i s a;exact h s (Bd a);exact Ck _
theorem Wn{W:Wd}{B:Nat}(h:∀s∈W.ss,s.1.length<=B)(sc st:Int):∀d,(ET W sc st d).length<=B ^ d
 |0=>by show 1<=_;rw[Nat.pow_zero];exact AB _
 |d+1=>by
   have a:((ET W sc st d).flatMap (CA W)).length<=(ET W sc st d).length*B:=SN _ λb=>El (VL W b) (Wm h _);have c:=Nat.mul_le_mul_right B (Wn h sc st d);rw[Nat.pow_succ];exact El a c
def JL (B:Nat):Nat->Nat
 |0=>0
 |n+1=>JL B n+B ^ n
theorem Wo{α:Type} [DecidableEq α]:∀{F l:List α},F.Nodup->(∀x∈F,x∈l)->F.length<=l.length
 |[],_,_,_=>Ck _
 |x::F,l,c,h=>by
   have a:=h x Bz;obtain⟨d,f⟩:=Go.mp c
   have:=Wo (l:=l.erase x) f λy b=>by
    have g:y≠x:=λe=>d (e▸b);exact(List.mem_erase_of_ne g).mpr (h y (Cj _ b))
   rw[List.length_erase_of_mem a] at this;have i:0<l.length:=List.length_pos_of_mem a;rw[Ek];omega
theorem Wp{W:Wd}{B:Nat}(h:∀s∈W.ss,s.1.length<=B)(sc st:Int):∀n,((List.range n).flatMap (ET W sc st)).length<=JL B n
 |0=>AB _
 |n+1=>by
   rw[List.range_succ,List.flatMap_append,AV];have a:=Wp h sc st n;have b:=Wn h sc st n;have c:([n].flatMap (ET W sc st)).length=(ET W sc st n).length:=(by simp);show _<=JL B n+B ^ n;omega
theorem HW(ok:Fy W)(h:∀s∈W.ss,s.1.length<=B)(sc st:Int)(F:List AR)(g:0<=sc/\sc<W.ss.length)(i:0<=st/\st<W.sts.length)(e:F.Nodup)(a:∀b∈F,AS W sc st b):F.length<=JL B W.ss.length:=by
 refine El (Wo (l:=(List.range W.ss.length).flatMap (ET W sc st)) e λb c=>?_) (Wp h sc st _);have d:=(a b c).ok0 ok g i;have f:=KI W.ss.length (AU b) d.nd d.rng;rw[show(AU b).length=b.1.length+1 by unfold AU;simp] at f;exact List.mem_flatMap.mpr ⟨b.1.length,List.mem_range.mpr (by omega),Z0 (a b c)⟩
theorem Tb{α:Type}{f:AR->List α}{k:Nat}:∀(bs:List AR),(∀b∈bs,(f b).length<=k)->(bs.flatMap f).length<=bs.length*k
 |[],_=>by simp
 |b::bs,h=>by
   rw[List.flatMap_cons,AV,Ek,Nat.succ_mul];have:=h b Bz;have:=Tb bs λc a=>h c (Cj _ a);omega
set_option tactic.hygienic true in
theorem Z1(ok:Fy W)(h:∀s∈W.ss,s.1.length<=B)(e:W.ss.length<=100)(i:JL B W.ss.length*max 2 B<=62)(k:∀s∈W.ss,s.2.length<=2)(l:∀s∈W.ss,∀p∈s.2,Fq W.gs.length W.as.length p):B3 W/\Be W:=by
 have q:JL B W.ss.length*2<=62:=El (Nat.mul_le_mul_left _ (Nat.le_max_left _ _)) i;have r:JL B W.ss.length*B<=62:=El (Nat.mul_le_mul_left _ (Nat.le_max_right _ _)) i;have j:∀(sc st:Int)(bs:List AR),(0<=sc/\sc<W.ss.length)->(0<=st/\st<W.sts.length)->Db W sc st bs->bs.length<=JL B W.ss.length:=λsc st bs a c d=>HW ok h sc st bs a c d.nd λb f=>(d.mem b).mp f;refine⟨⟨e,ok.st,ok.kst,ok.kth,ok.an,ok.go,λsc st F a c m n=>?_⟩,⟨l,λx sc st bs a c d=>?_,λsc st bs a c d=>?_⟩⟩;have:=HW ok h sc st F a c m n;omega;have g:=j sc st bs a c d
 have o:(DX W x bs).length<=bs.length*2:=Tb _ λb f=>El (VU W b x _ 0) (by
  unfold Gf;split;rename_i s e;exact k s (Bd e)
  exact Ck _)
 have:=Nat.mul_le_mul_right 2 g;omega;have g:=j sc st bs a c d;have o:(F3 W bs).length<=bs.length*B:=Tb _ λb f=>El (List.length_filterMap_le _ _) (El (LS _ _ _ _ _) (Wm h _));have:=Nat.mul_le_mul_right B g;omega
variable {us:List Ow}
theorem Qd{l m:Lk}(h:CG W ord sc st x l os)(k:CG W ord sc st x m us):l=m/\os=us:=by
 have a:=h.b.uniq k.b;have b:=h.f;have c:=h.o;rw[a] at b c;have d:=b.uniq k.f;have e:l.2.2=m.2.2:=(by rw[h.s,k.s,d]);exact⟨Prod.ext a (Prod.ext d e),c.uniq k.o⟩
theorem LU.inv{r:List Str}{w:Option Wt}(k:LU W inn ord sc st (x::r) at_ a w ls ts):∃l os,CG W ord sc st x l os /\
 (∀b d,Cb W ord l.2.1 os at_=(b,d)->((∀k,b≠some (("thing" : Str),k))\/r=[])->b=a/\d=w/\ls=[l]/\ts=[]) /\
 ∀n d,Cb W ord l.2.1 os at_=(some (("thing" : Str),n),d)->r≠[]->∀s q,CH W n=(s,q)->(s=("open" : Str)->a=none/\w=some (at_,[],q)/\ls=[l]/\ts=[n])/\(s=("no" : Str)->a=some (("none" : Str),at_+1)/\w=none/\ls=[l]/\ts=[n])/\(s=("to" : Str)->∃p t,LU W inn ord q inn r (at_+1) a w p t/\ls=l::p/\ts=n::t):=by
 have g:("open" : Str)≠("no" : Str):=(by decide +kernel);have j:("open" : Str)≠("to" : Str):=(by decide +kernel);have o:("no" : Str)≠("to" : Str):=(by decide +kernel)
 cases k with
 |stop h e n=>exact⟨_,_,h,λb d c _=>(by rw[e] at c;cases c;exact⟨rfl,rfl,rfl,rfl⟩),λm d c u=>(by rw[e] at c;cases c;exact(n.elim (λn=>n _ rfl) u).elim)⟩
 |opn h e i=>exact⟨_,_,h,λb d c n=>(by rw[e] at c;cases c;exact(n.elim (λn=>n _ rfl) nofun).elim),λm d c _ s q f=>(by rw[e] at c;cases c;rw[i] at f;cases f;exact⟨λ_=>⟨rfl,rfl,rfl,rfl⟩,λz=>absurd z g,λz=>absurd z j⟩)⟩
 |no h e i=>exact⟨_,_,h,λb d c n=>(by rw[e] at c;cases c;exact(n.elim (λn=>n _ rfl) nofun).elim),λm d c _ s q f=>(by rw[e] at c;cases c;rw[i] at f;cases f;exact⟨λz=>absurd z.symm g,λ_=>⟨rfl,rfl,rfl,rfl⟩,λz=>absurd z o⟩)⟩
 |go h e i k=>exact⟨_,_,h,λb d c n=>(by rw[e] at c;cases c;exact(n.elim (λn=>n _ rfl) nofun).elim),λm d c _ s q f=>(by rw[e] at c;cases c;rw[i] at f;cases f;exact⟨λz=>absurd z.symm j,λz=>absurd z.symm o,λ_=>⟨_,_,k,rfl,rfl⟩⟩)⟩
theorem JM{p:List Str}{w:Option Wt}(h:LU W inn ord sc st p at_ a w ls ts):∀{d:Option (Str×Int)}{f:Option Wt}{g:List Lk}{j:List Int},LU W inn ord sc st p at_ d f g j->a=d/\w=f/\ls=g/\ts=j:=by
 induction h with
 |stop h e n =>
   intro d f g j k;obtain⟨l,os,b,c,_⟩:=k.inv;obtain⟨rfl,rfl⟩:=Qd h b;obtain⟨rfl,rfl,rfl,rfl⟩:=c _ _ e n;exact⟨rfl,rfl,rfl,rfl⟩
 |opn h e i =>
   intro d f g j k;obtain⟨l,os,b,_,c⟩:=k.inv;obtain⟨rfl,rfl⟩:=Qd h b;obtain⟨rfl,rfl,rfl,rfl⟩:=(c _ _ e nofun _ _ i).1 rfl;exact⟨rfl,rfl,rfl,rfl⟩
 |no h e i =>
   intro d f g j k;obtain⟨l,os,b,_,c⟩:=k.inv;obtain⟨rfl,rfl⟩:=Qd h b;obtain⟨rfl,rfl,rfl,rfl⟩:=(c _ _ e nofun _ _ i).2.1 rfl;exact⟨rfl,rfl,rfl,rfl⟩
 |go h e i u m =>
   intro d f g j k;obtain⟨l,os,b,_,c⟩:=k.inv;obtain⟨rfl,rfl⟩:=Qd h b;obtain⟨_,_,o,rfl,rfl⟩:=(c _ _ e nofun _ _ i).2.2 rfl;obtain⟨q,r,s,t⟩:=m o;exact⟨q,r,by rw[s],by rw[t]⟩
section
variable {ss:List Bj} {ord:List (Str×Str)}
theorem HX{p:Prop}(h:dec p=true):p:=by
 by_cases e:p;exact e;rw[F1 e] at h;cases h
theorem Wq(irr:∀x,(x,x)∉ord)(tr:∀x y z,(x,y)∈ord->(y,z)∈ord->(x,z)∈ord):∀(a b c:List Ap),Ci ss ord a b=true->Ci ss ord b c=true->Ci ss ord a c=true
 |x::s,y::t,z::u,d,f=>by
   by_cases h:x=y;subst h;rw[Oh] at d;by_cases g:x=z;subst g;rw[Oh] at f ⊢;exact Wq irr tr s t u d f;rw[KL ss ord _ _ g] at f ⊢;exact f;rw[KL ss ord _ _ h] at d;by_cases g:y=z;subst g;rw[KL ss ord _ _ h];exact d;rw[KL ss ord _ _ g] at f;have i:=tr _ _ _ (HX d) (HX f);have j:x≠z:=λe=>irr _ (by rw[<-e] at i;exact i);rw[KL ss ord _ _ j];exact Fn i
 |[],_,_,d,_=>by rw[LX ss ord (.inl rfl)] at d;cases d
 |_::_,[],_,d,_=>by rw[LX ss ord (.inr rfl)] at d;cases d
 |_::_,_::_,[],_,f=>by rw[LX ss ord (.inr rfl)] at f;cases f
end
structure Later (as as':List (Option (Str×Int))):Prop where
 len:as'.length=as.length
 old:∀(n:Nat)(p:Str×Int),as[n]?=some (some p)->as'[n]?=some (some p)
section
variable {ths:List (Str×Int)} {as as':List (Option (Str×Int))}
theorem Qe(h:Later as as')(e:as[n]?=none):as'[n]?=none:=by
 rw[List.getElem?_eq_none_iff] at e ⊢;rw[h.len];exact e
theorem Z2(h:Later as as')(a:(Ed ths as q).1≠("open" : Str)):Ed ths as' q=Ed ths as q:=by
 unfold Ed at a ⊢
 cases e:as[q.toNat]? with
 |none=>rw[Qe h e]
 |some o =>
   cases o with
   |none=>rw[e] at a;exact absurd rfl a
   |some p=>rw[h.old _ _ e]
theorem Wr(h:Later as as'){k:Str×Int}(c:(Dl ths as k).1≠("open" : Str)):Dl ths as' k=Dl ths as k:=by
 unfold Dl at c ⊢;by_cases a:k.1=("part" : Str);rw[Ak a,Ak a];rw[Aj a] at c;rw[Aj a,Aj a];by_cases b:k.1=("sort" : Str);rw[Ak b] at c;rw[Ak b,Ak b];exact Z2 h c;rw[Aj b,Aj b]
theorem Tc(h:Later as as'){p:Cg}(a:(BP ths as p).1≠("open" : Str)):BP ths as' p=BP ths as p:=by
 unfold BP at a ⊢;by_cases b:p.2.1=("to" : Str);rw[Ak b,Ak b];rw[Aj b] at a;rw[Aj b,Aj b]
 cases e:as[p.2.2.toNat]? with
 |none=>rw[Qe h e]
 |some o =>
   cases o with
   |none=>rw[e] at a;exact absurd rfl a
   |some w =>
     rw[h.old _ _ e];rw[e] at a;dsimp only at a ⊢;by_cases c:w.1=("thing" : Str);rw[Ak c] at a;rw[Ak c,Ak c]
     cases d:ths[w.2.toNat]? with
     |none=>rfl
     |some k=>rw[d] at a;exact Wr h a
     rw[Aj c,Aj c]
theorem Z3(h:Later as as'){p:Cg}(a:(BP ths as' p).1=("open" : Str)):(BP ths as p).1=("open" : Str):=by
 by_cases e:(BP ths as p).1=("open" : Str);exact e;rw[Tc h e] at a;exact a
end
abbrev Wd.late (W:Wd) (as':List (Option (Str×Int))):Wd:=⟨W.ss,W.gs,as',W.sts⟩
def IK (W:Wd) (sc st:Int) (o:List Ap):Prop:=∃b,AS W sc st b/\∃(j:Nat)(p:Cg)(a:Int),(B0 W b.2.1)[j]?=some p/\Em (DW W b.2.2) p.1=some a/\(BP W.gs W.as p).1=("open" : Str)/\o=b.1++[(b.2.1,("step" : Str),(j:Int))]
section
variable {W:Wd} {as':List (Option (Str×Int))} {sc st:Int}
theorem JN:("to" : Str)≠("open" : Str):=by decide +kernel
theorem Td{j:Nat}{p:Cg}{a:Int}{s t:Int}(b:(B0 W s)[j]?=some p)(c:Em (DW W t) p.1=some a):((s,("step" : Str),(j:Int)),BP W.gs W.as p,a)∈Gz W s t:=
 BQ.mpr ⟨j,p,a,b,c,by rw[Nat.zero_add]⟩
theorem Z4(h:Later W.as as')(f:AS W sc st b):AS (W.late as') sc st b:=by
 induction f with
 |root=>exact .root
 |@kid b c _ k g =>
   obtain⟨r,i,d,l,rfl⟩:=AJ.mp k;obtain⟨j,p,a,m,n,rfl⟩:=LV i;have e:=Tc h (p:=p) (ths:=W.gs) (by rw[show(BP W.gs W.as p).1=_ from d];exact JN);refine .kid g (AJ.mpr ⟨_,Td (W:=W.late as') m n,?_⟩);show(BP W.gs as' p).1=_/\(BP W.gs as' p).2∉_/\_=(_,(BP W.gs as' p).2,_);rw[e];exact⟨d,l,rfl⟩
theorem Wu(h:Later W.as as')(m:AS (W.late as') sc st b):AS W sc st b\/∃o,IK W sc st o/\o <+: b.1:=by
 induction m with
 |root=>exact .inl .root
 |@kid b c _ k d =>
   obtain⟨r,n,q,s,rfl⟩:=AJ.mp k;obtain⟨j,p,a,f,g,rfl⟩:=LV n;rcases d with d|⟨o,t,u⟩;by_cases e:(BP W.gs W.as p).1=("open" : Str);exact .inr ⟨_,⟨b,d,j,p,a,f,g,e,rfl⟩,List.prefix_refl _⟩;have v:=Tc h e;refine .inl (.kid d (AJ.mpr ⟨_,Td f g,?_⟩));show(BP W.gs W.as p).1=_/\(BP W.gs W.as p).2∉_/\(_,(BP W.gs as' p).2,_)=(_,(BP W.gs W.as p).2,_);have i:(BP W.gs as' p).1=("to" : Str):=q;have l:(BP W.gs as' p).2∉AU b:=s;rw[v] at i l ⊢;exact⟨i,l,rfl⟩;exact .inr ⟨o,t,u.trans (IB _ _)⟩
theorem Z5(h:Later W.as as'){o:List Ap}(e:IK (W.late as') sc st o):∃c,IK W sc st c/\c <+: o:=by
 obtain⟨b,d,j,p,a,f,g,i,rfl⟩:=e;rcases Wu h d with d|⟨c,k,l⟩;exact⟨_,⟨b,d,j,p,a,f,g,Z3 h i,rfl⟩,List.prefix_refl _⟩;exact⟨c,k,l.trans (IB _ _)⟩
def JO (W:Wd) (sc st:Int) (x:Str) (w:List Ap):Prop:=∃b,AS W sc st b/\∃(j:Nat)(q:DV),(Gf W b.2.1)[j]?=some q/\q.2.1=x/\q.1∈G7 W b.2.2/\w=b.1++[(b.2.1,("told" : Str),(j:Int))]
theorem Wv(h:Later W.as as')(a:JO W sc st x w):JO (W.late as') sc st x w:=by
 obtain⟨b,c,r⟩:=a;exact⟨b,Z4 h c,r⟩
theorem Z6(h:Later W.as as')(c:JO (W.late as') sc st x w):JO W sc st x w\/∃o,IK W sc st o/\o <+: w:=by
 obtain⟨b,a,j,q,d,e,f,rfl⟩:=c;rcases Wu h a with a|⟨g,i,k⟩;exact .inl ⟨b,a,j,q,d,e,f,rfl⟩;exact .inr ⟨g,i,k.trans (IB _ _)⟩
theorem Tf{ss:List Bj}{ord:List (Str×Str)}:∀{f o w:List Ap},Ci ss ord f o=true->o <+: w->Ci ss ord f w=true
 |x::f,y::o,w,h,a=>by
   obtain⟨u,rfl⟩:=a;by_cases e:x=y;subst e;rw[Oh] at h;show Ci ss ord (x::f) (x::(o++u))=true;rw[Oh];exact Tf h (IB o u);rw[KL ss ord _ _ e] at h;show Ci ss ord (x::f) (y::(o++u))=true;rw[KL ss ord _ _ e];exact h
 |[],_,_,h,_=>by rw[LX ss ord (.inl rfl)] at h;cases h
 |_::_,[],_,h,_=>by rw[LX ss ord (.inr rfl)] at h;cases h
theorem Z7(irr:∀x,(x,x)∉ord)(tr:∀x y z,(x,y)∈ord->(y,z)∈ord->(x,z)∈ord)(h:Later W.as as'){ws i:List (List Ap)}
 (n:∀w,w∈ws↔JO W sc st x w) (p:∀w,w∈i↔JO (W.late as') sc st x w) (s:∀o,IK W sc st o->∃f∈ws,Ci ss ord f o=true) (w:List Ap):w∈CS ss ord i i↔w∈CS ss ord ws ws:=by
 have sub:∀v∈ws,v∈i:=λv m=>(p v).mpr (Wv h ((n v).mp m))
 have r:∀v∈i,v∈ws\/∃f∈ws,Ci ss ord f v=true:=λv m=>by
  rcases Z6 h ((p v).mp m) with e|⟨o,j,c⟩;exact .inl ((n v).mpr e);obtain⟨f,k,g⟩:=s o j;exact .inr ⟨f,k,Tf g c⟩
 have q:∀(l:List (List Ap))v,v∈CS ss ord l l↔v∈l/\∀u∈l,Ci ss ord u v=false:=λl v=>by
  unfold CS;rw[MN,Bool.not_eq_true',List.any_eq_false];exact⟨λ⟨a,b⟩=>⟨a,λu d=>by have:=b u d;simpa using this⟩,λ⟨a,b⟩=>⟨a,λu d=>by rw[b u d];simp⟩⟩
 rw[q,q];constructor;rintro⟨j,c⟩;rcases r w j with e|⟨f,k,g⟩;exact⟨e,λu d=>c u (sub u d)⟩;rw[c f (sub f k)] at g;cases g;rintro⟨j,c⟩;refine⟨sub w j,λu d=>?_⟩;rcases r u d with e|⟨f,k,g⟩;exact c u e
 cases e:Ci ss ord u w with
 |false=>rfl
 |true =>
   have:=Wq irr tr f u w g e;rw[c f k] at this;cases this
theorem Z8(h:Later W.as as'){ws a:List (List Ap)}(sub:∀v∈ws,v∈a)(b:∀o,IK W sc st o->∃f∈ws,Ci ss ord f o=true):∀o,IK (W.late as') sc st o->∃f∈a,Ci ss ord f o=true:=λo c=>by
 obtain⟨d,e,g⟩:=Z5 h c;obtain⟨f,i,j⟩:=b d e;exact⟨f,sub f i,Tf j g⟩
end
section
variable {W:Wd} {sc st:Int}
theorem JP(h:AS W sc st b)(e:b.1=[]):b=([],sc,st):=by
 cases h with
 |root=>rfl
 |kid _ k =>
   obtain⟨r,_,_,_,rfl⟩:=AJ.mp k;simp at e
theorem JQ(h:AS W sc st b):∀{c:AR},AS W sc st c->b.1=c.1->b=c:=by
 induction h with
 |root=>intro c a e;exact(JP a e.symm).symm
 |@kid b p q k i =>
   intro c a e;obtain⟨r,j,_,_,rfl⟩:=AJ.mp k
   cases a with
   |root=>simp at e
   |@kid d _ hd l =>
     obtain⟨f,o,_,_,rfl⟩:=AJ.mp l;have g:b.1++[r.1]=d.1++[f.1]:=e;have m:=List.append_inj_left' g rfl;have n:r.1=f.1:=(by simpa using List.append_inj_right' g rfl);have:=i hd m;subst this;rw[VJ j o n]
theorem Ww{b:AR}{x:Str}:∀{l:List DV}{i j:Nat}{q:DV},l[j]?=some q->q.2.1=x->q.1∈G7 W b.2.2->b.1++[(b.2.1,("told" : Str),((i+j:Nat):Int))]∈DM W b x l i
 |p::l,i,0,q,a,c,d=>by
   cases a;refine Ej _ ?_;unfold Fs;rw[Ak ⟨c,d⟩];exact AY.mpr rfl
 |p::l,i,j+1,q,a,c,d=>by
   refine De _ ?_;rw[show i+(j+1)=i+1+j by omega];exact Ww (by simpa using a) c d
theorem Wx{bs:List AR}(c:∀b,b∈bs↔AS W sc st b)(w:List Ap):w∈DX W x bs↔JO W sc st x w:=by
 constructor;intro h;obtain⟨b,a,r⟩:=SM h;exact⟨b,(c b).mp a,r⟩;rintro⟨b,a,j,q,d,e,f,rfl⟩;refine List.mem_flatMap.mpr ⟨b,(c b).mpr a,?_⟩;have:=Ww (b:=b) (i:=0) d e f;rw[Nat.zero_add] at this;exact this
theorem Wy{b:AR}{x:Str}:∀{l:List DV}{i:Nat},(DM W b x l i).Nodup
 |[],_=>List.nodup_nil
 |q::l,i=>by
   refine List.nodup_append.mpr ⟨?_,Wy,λv hv c a e=>?_⟩;unfold Fs;split;exact List.pairwise_singleton _ _;exact List.nodup_nil;subst e;unfold Fs at hv;split at hv;rw[AY.mp hv] at a;obtain⟨j,d,_,_,_,e⟩:=Of a;have:=List.append_inj_right' e rfl;simp at this;omega;cases hv
theorem Wz{α β:Type}{f:α->List β}:∀{l:List α},(∀a∈l,(f a).Nodup)->l.Pairwise (λa b=>∀x∈f a,x∉f b)->(l.flatMap f).Nodup
 |[],_,_=>List.nodup_nil
 |a::l,g,h=>by
   rw[List.flatMap_cons];obtain⟨i,j⟩:=List.pairwise_cons.mp h;refine List.nodup_append.mpr ⟨g a Bz,Wz (λb c=>g b (Cj _ c)) j,λx k y d e=>?_⟩;subst e;obtain⟨b,c,d⟩:=List.mem_flatMap.mp d;exact i b c x k d
theorem WA{bs:List AR}(c:Db W sc st bs):(DX W x bs).Nodup:=by
 refine Wz (λb _=>Wy) ?_;refine c.nd.imp_of_mem λ{a b}d e i v f k=>?_;obtain⟨j,q,_,_,_,g⟩:=Of f;obtain⟨l,m,_,_,_,h⟩:=Of k;exact i (JQ ((c.mem a).mp d) ((c.mem b).mp e) (List.append_inj_left' (g.symm.trans h) rfl))
theorem WB{bs:List AR}(h:Db W sc st bs)(o:List Ap):IK W sc st o↔∃r∈F3 W bs,r.1=o:=by
 constructor;rintro⟨b,c,j,p,a,d,f,g,rfl⟩;refine⟨(_,(BP W.gs W.as p).2),List.mem_flatMap.mpr ⟨b,(h.mem b).mpr c,List.mem_filterMap.mpr ⟨_,Td d f,?_⟩⟩,rfl⟩;unfold ow;exact Ak g;rintro⟨r,i,rfl⟩;obtain⟨b,c,j,p,a,d,f,g,e⟩:=VW i;exact⟨b,(h.mem b).mp c,j,p,a,d,f,g,by rw[e]⟩
theorem JR{ws a:List (List Ap)}(b:ws.Nodup)(c:a.Nodup)(d:ws.Pairwise CF.O.kle)(e:a.Pairwise CF.O.kle)(h:∀w,w∈CS ss ord a a↔w∈CS ss ord ws ws):CS ss ord a a=CS ss ord ws ws:=
 LJ (O:=CF.O) ((List.perm_ext_iff_of_nodup (c.filter _) (b.filter _)).mpr h) (e.filter _) (d.filter _)
end
theorem DR{ss:List Bj}{ord:List (Str×Str)}{ws:List (List Ap)}:∀{os:List Ow},FE ss ord ws os=none↔∀o∈os,(ws.any λv=>Ci ss ord v o.1)=true
 |[]=>⟨λ_ o b=>(by cases b),λ_=>rfl⟩
 | o :: os=>by
   cases e:ws.any λv=>Ci ss ord v o.1 with
   |true =>
     rw[Wj e,DR];refine⟨λh p a=>?_,λh p a=>h p (Cj _ a)⟩;rcases Ch.mp a with rfl|a;exact e;exact h p a
   |false =>
     rw[Wi e];refine⟨λh=>(by cases h),λh=>?_⟩;have:=h o Bz;rw[e] at this;cases this
theorem WC{W:Wd}:∀{ws:List (List Ap)},(∀w∈ws,Fv W w=none)->Fw W ws=none
 |[],_=>rfl
 |w::ws,h=>by rw[Qa (h w Bz)];exact WC λv hv=>h v (Cj _ hv)
theorem Z9{ws:List (List Ap)}(h:Ey W ord ws os=none):FE W.ss ord ws os=none:=by
 unfold Ey at h
 cases e:FE W.ss ord ws os with
 |some o=>rw[e] at h;cases h
 |none=>rfl
theorem cA{ws:List (List Ap)}(a:FE W.ss ord ws os=none)(b:Fw W (CS W.ss ord ws ws)=none):Ey W ord ws os=none:=by
 unfold Ey;rw[a];exact b
variable {as as':List (Option (Str×Int))}
theorem cB(h:Later as as')(e:as'[n]?=some none):as[n]?=some none:=by
 cases c:as[n]? with
 |none=>rw[Qe h c] at e;cases e
 |some o =>
   cases o with
   |none=>rfl
   |some p=>rw[h.old n p c] at e;cases e
section
variable {W:Wd} {as':List (Option (Str×Int))} {ord:List (Str×Str)} {sc st:Int}
theorem cC(h:Later W.as as')(e:Fv W w=none):Fv (W.late as') w=none:=by
 unfold Fv at e ⊢;refine Aj λc=>?_;rw[Ak ⟨c.1,cB h c.2⟩] at e;cases e
theorem cD(h:Later W.as as')(d:Be W)(f:Dp W.ss w)(e:Fv W w=none):Bx (W.late as') w=Bx W w:=by
 unfold Bx
 show(if(Cq W.ss w).2.2.1=("thing" : Str) then some (Cq W.ss w).2.2.2 else match as'[(Cq W.ss w).2.2.2.toNat]? with
  |some (some p)=>if p.1=("thing" : Str) then some p.2 else none
  |_=>none)=_
 rcases Nd d f with⟨a,_⟩|⟨a,_⟩;rw[Ak a,Ak a];by_cases b:(Cq W.ss w).2.2.1=("thing" : Str);rw[Ak b,Ak b];rw[Aj b,Aj b];unfold Fv at e
 cases c:W.as[(Cq W.ss w).2.2.2.toNat]? with
 |none=>rw[Qe h c]
 |some o =>
   cases o with
   |none=>rw[Ak ⟨a,c⟩] at e;cases e
   |some p=>rw[h.old _ p c]
theorem cE(irr:∀x,(x,x)∉ord)(tr:∀x y z,(x,y)∈ord->(y,z)∈ord->(x,z)∈ord)(h:Later W.as as')(ok:B3 W)(q:Be W)(A:0<=sc/\sc<W.ss.length)(B:0<=st/\st<W.sts.length){l m:Lk}(a:CG W ord sc st x l os)(b:CG (W.late as') ord sc st x m us)(g:Ey W ord l.2.1 os=none) :
 m.2.2=l.2.2/\Ey (W.late as') ord m.2.1 us=none/\∀w∈l.2.2,Bx (W.late as') w=Bx W w:=by
 have i:∀w,w∈l.2.1↔JO W sc st x w:=λw=>a.f.perm.mem_iff.trans (Wx a.b.mem w);have j:∀w,w∈m.2.1↔JO (W.late as') sc st x w:=λw=>b.f.perm.mem_iff.trans (Wx b.b.mem w)
 have k:∀o,IK W sc st o->∃f∈l.2.1,Ci W.ss ord f o=true:=λo d=>by
  obtain⟨r,s,e⟩:=(WB a.b o).mp d;have:=DR.mp (Z9 g) r (a.o.perm.mem_iff.mpr s);rw[e] at this;exact Gq.mp this
 have C:=Z7 (ss:=W.ss) irr tr h i j k
 have n:m.2.2=l.2.2:=by
  rw[b.s,a.s];exact JR (a.f.perm.nodup_iff.mpr (WA a.b)) (b.f.perm.nodup_iff.mpr (WA b.b)) a.f.srt b.f.srt C
 have p:∀w∈l.2.2,Fv W w=none:=by
  have:=S9 (Wf g);rw[<-a.s] at this;exact this
 refine⟨n,cA ?_ ?_,λw c=>?_⟩;refine DR.mpr λo d=>?_;have t:IK (W.late as') sc st o.1:=(WB b.b o.1).mpr ⟨o,b.o.perm.mem_iff.mp d,rfl⟩;exact Gq.mpr (Z8 (ss:=W.ss) h (λv u=>(j v).mpr (Wv h ((i v).mp u))) k o.1 t);have:Fw (W.late as') m.2.2=none:=WC λw c=>cC h (p w (by rw[<-n];exact c));rw[b.s] at this;exact this;refine cD h q ?_ (p w c);rw[a.s] at c;exact S6 ok A B a.b (a.f.perm.mem_iff.mp (P9 c))
theorem WD:∀{b:List (List Ap)}(at_:Int),(∀w∈b,Bx (W.late as') w=Bx W w)->Dc (W.late as') b at_=Dc W b at_:=λ{b}at_ h=>by
 by_cases c:∀w∈b,Bx W w=none;rw[S3 c,S3 λw d=>by rw[h w d];exact c w d]
 cases b with
 |nil=>exact absurd (λw d=>by cases d) c
 |cons w r =>
   have f:¬∀v∈w::r,Bx (W.late as') v=none:=λz=>c λv a=>by rw[<-h v a];exact z v a
   by_cases e:∀v∈w::r,Bx W v=Bx W w;have m:∀v∈w::r,Bx (W.late as') v=Bx (W.late as') w:=λv a=>by rw[h v a,h w Bz];exact e v a
   obtain⟨n,i,j⟩:=S5 (at_:=at_) c e;obtain⟨k,g,l⟩:=S5 (at_:=at_) f m;rw[h w Bz,i] at g;rw[j,l,Bv g];rw[S4 c e,S4 f λz=>e λv a=>by rw[<-h v a,<-h w Bz];exact z v a]
theorem cF{ws:List (List Ap)}(h:Cb W ord ws os at_=(a,none)):Ey W ord ws os=none/\a=some (Dc W (CS W.ss ord ws ws) at_):=by
 cases e:Ey W ord ws os with
 |some o=>rw[Nb e] at h;cases BI Prod.snd h
 |none=>rw[JJ e] at h;exact⟨rfl,(BI Prod.fst h).symm⟩
theorem WE{ws:List (List Ap)}{n:Int}{w:Option Wt}(h:Cb W ord ws os at_=(some (("thing" : Str),n),w)):w=none:=by
 cases e:Ey W ord ws os with
 |some o=>rw[Nb e] at h;cases BI Prod.fst h
 |none=>rw[JJ e] at h;exact(BI Prod.snd h).symm
theorem Tg(irr:∀x,(x,x)∉ord)(tr:∀x y z,(x,y)∈ord->(y,z)∈ord->(x,z)∈ord)(h:Later W.as as')(ok:B3 W)(g:Be W)(o:0<=sc/\sc<W.ss.length)(p:0<=st/\st<W.sts.length){l m:Lk}(b:CG W ord sc st x l os)(d:CG (W.late as') ord sc st x m us)(e:Cb W ord l.2.1 os at_=(a,none)) :
 m.2.2=l.2.2/\Cb (W.late as') ord m.2.1 us at_=(a,none):=by
 obtain⟨c,i⟩:=cF e;obtain⟨f,j,k⟩:=cE irr tr h ok g o p b d c;refine⟨f,?_⟩;rw[JJ j,i];show(some (Dc (W.late as') (CS W.ss ord m.2.1 m.2.1) at_),none)=_
 have n:CS W.ss ord m.2.1 m.2.1=CS W.ss ord l.2.1 l.2.1:=by
  have:=d.s;rw[<-b.s,<-f,this]
 rw[n,WD at_ λw c=>k w (by rw[b.s];exact c)]
theorem WF(h:Later W.as as'){n:Int}(a:(CH W n).1≠("open" : Str)):CH (W.late as') n=CH W n:=by
 unfold CH at a ⊢
 show(match W.gs[n.toNat]? with
  |some p=>Dl W.gs as' p
  |none=>(("no" : Str),(0:Int)))=_
 cases e:W.gs[n.toNat]? with
 |none=>rfl
 |some p =>
   rw[e] at a;exact Wr h a
theorem Qf(ok:B3 W){n:Int}(b:0<=n/\n<W.gs.length)(h:CH W n=(("to" : Str),q)):0<=q/\q<W.ss.length:=by
 obtain⟨j,c⟩:=DH b.1;have a:j<W.gs.length:=(by omega);have d:CH W n=Dl W.gs W.as W.gs[j]:=by unfold CH;rw[c,Bl,AC a]
 rw[d] at h;have:=SJ ok (D9 a) rfl (BI Prod.fst h);rw[BI Prod.snd h] at this;exact this
theorem JS(ok:B3 W)(c:0<=sc/\sc<W.ss.length)(d:0<=st/\st<W.sts.length){l:Lk}(a:CG W ord sc st x l os):∀w∈l.2.1,Dp W.ss w:=λw b=>S6 ok c d a.b (a.f.perm.mem_iff.mp b)
end
theorem cG:("no" : Str)≠("open" : Str):=by decide +kernel
theorem cH:("to" : Str)≠("open" : Str):=by decide +kernel
theorem WG(irr:∀x,(x,x)∉ord)(tr:∀x y z,(x,y)∈ord->(y,z)∈ord->(x,z)∈ord)(h:Later W.as as')(ok:B3 W)(u:Be W)(J:0<=inn/\inn<W.sts.length){p:List Str}{w:Option Wt}(k:LU W inn ord sc st p at_ a w ls ts) :
 w=none->0<=sc/\sc<W.ss.length->0<=st/\st<W.sts.length->∀{g:Option (Str×Int)}{j:Option Wt}{s:List Lk}{v:List Int},LU (W.late as') inn ord sc st p at_ g j s v->g=a/\j=none/\s.map (·.2.2)=ls.map (·.2.2):=by
 induction k with
 |stop b e n =>
   intro l d f g j s v m;subst l;obtain⟨B,C,t,c,_⟩:=m.inv;obtain⟨o,q⟩:=Tg irr tr h ok u d f b t e;obtain⟨rfl,rfl,rfl,_⟩:=c _ _ q n;exact⟨rfl,rfl,by rw[List.map_singleton,List.map_singleton,o]⟩
 |opn b e i=>intro l;cases l
 |no b e i =>
   intro _ d f g j s v m;have A:=WE e;subst A;have r:=WF h (n:=_) (show(CH W _).1≠("open" : Str) by rw[i];exact cG);rw[i] at r;obtain⟨B,C,t,_,c⟩:=m.inv;obtain⟨o,q⟩:=Tg irr tr h ok u d f b t e;obtain⟨rfl,rfl,rfl,_⟩:=(c _ _ q nofun _ _ r).2.1 rfl;exact⟨rfl,rfl,by rw[List.map_singleton,List.map_singleton,o]⟩
 |go b e i K D =>
   intro l d f g j s v m;have A:=WE e;subst A;have r:=WF h (n:=_) (show(CH W _).1≠("open" : Str) by rw[i];exact cH);rw[i] at r;obtain⟨B,C,t,_,c⟩:=m.inv;obtain⟨o,q⟩:=Tg irr tr h ok u d f b t e;obtain⟨_,_,E,rfl,rfl⟩:=(c _ _ q nofun _ _ r).2.2 rfl;have F:=KQ ok u (JS ok d f b) e;obtain⟨G,H,I⟩:=D l (Qf ok F i) J E;exact⟨G,H,by rw[DN,DN,o,I]⟩
section
variable {ths:List (Str×Int)} {as:List (Option (Str×Int))}
end
section
variable {W:Wd} {ord:List (Str×Str)} {sc st:Int}
end
set_option tactic.hygienic true in
theorem WH{p:List Str}{w:Option Wt}(k:LU W inn ord sc st p at_ a w ls ts):(a=none/\∃t,w=some t)\/(∃x,a=some x)/\w=none:=by
 induction k with
 |stop h e n =>
   rename_i os _ _
   cases b:Ey W ord _ os with
   |some o=>rw[Nb b] at e;cases e;exact .inl ⟨rfl,_,rfl⟩
   |none=>rw[JJ b] at e;cases e;exact .inr ⟨⟨_,rfl⟩,rfl⟩
 |opn=>exact .inl ⟨rfl,_,rfl⟩
 |no=>exact .inr ⟨⟨_,rfl⟩,rfl⟩
 |go _ _ _ _ c=>exact c
def Gg (xs:Array Nat):Prop:=xs.toList.Pairwise (· < ·)
theorem Gg.lt{xs:Array Nat}(h:Gg xs){a b:Nat}(e:a<b)(c:b<xs.size):xs.getD a 0<xs.getD b 0:=by
 have d:a<xs.size:=(by omega);have:=(List.pairwise_iff_getElem.mp h) a b (by simpa using d) (by simpa using c) e;rw[Array.getD_eq_getD_getElem?,Array.getD_eq_getD_getElem?,Array.getElem?_eq_getElem d,Array.getElem?_eq_getElem c];simpa using this
theorem Gg.le{xs:Array Nat}(h:Gg xs){a b:Nat}(d:a<=b)(c:b<xs.size):xs.getD a 0<=xs.getD b 0:=by
 rcases Nat.lt_or_eq_of_le d with e|e;exact Di (h.lt e c);rw[e];exact AB _
theorem JT{xs:Array Nat}{d:Nat}(h:i<xs.size):xs.getD i d=xs.getD i 0:=by
 rw[Array.getD_eq_getD_getElem?,Array.getD_eq_getD_getElem?,Array.getElem?_eq_getElem h];rfl
theorem Ti{xs:Array Nat}(e:Gg xs)(j:Nat):∀(b lo a:Nat),a<=xs.size->lo<=a->a-lo<=b->(∀i,i<lo->xs.getD i 0<j)->(∀i,a<=i->i<xs.size->j<=xs.getD i 0) ->
 SetTable.below.go xs j b lo a<=xs.size/\(∀i,i<SetTable.below.go xs j b lo a->xs.getD i 0<j)/\∀i,SetTable.below.go xs j b lo a<=i->i<xs.size->j<=xs.getD i 0
 |0,lo,a,f,m,n,g,h=>by
   have:lo=a:=(by omega);subst this;exact⟨f,g,h⟩
 |b+1,lo,a,f,m,n,g,h=>by
   unfold SetTable.below.go;by_cases c:lo<a;rw[Ak c];dsimp only;have k:(lo+a)/2<xs.size:=(by omega);rw[JT k];by_cases d:xs.getD ((lo+a)/2) 0<j;rw[Ak d];exact Ti e j b _ a f (by omega) (by omega) (λi l=>Nat.lt_of_le_of_lt (e.le (by omega) k) d) h;rw[Aj d];exact Ti e j b lo _ (by omega) (by omega) (by omega) g (λi l o=>El (Nat.le_of_not_lt d) (e.le l o));rw[Aj c];have:lo=a:=(by omega);subst this;exact⟨f,g,h⟩
theorem Tj{xs:Array Nat}(a:Gg xs)(j:Nat):SetTable.below xs j<=xs.size/\(∀i,i<SetTable.below xs j->xs.getD i 0<j)/\∀i,SetTable.below xs j<=i->i<xs.size->j<=xs.getD i 0:=
 Ti a j xs.size 0 xs.size (AB _) (Ck _) (by omega) (λi h=>by omega) (λi b c=>by omega)
theorem cI{xs:Array Nat}(a:Gg xs):SetTable.below xs 0=0:=by
 obtain⟨_,b,_⟩:=Tj a 0
 cases e:SetTable.below xs 0 with
 |zero=>rfl
 |succ n=>have:=b 0 (by omega);omega
variable {j:Nat}
theorem cJ{xs:Array Nat}(a:Gg xs)(h:xs[i]?=some j):SetTable.below xs (j+1)=i+1:=by
 obtain⟨f,b,d⟩:=Tj a (j+1);have e:i<xs.size:=(Array.getElem?_eq_some_iff.mp h).1;have g:xs.getD i 0=j:=by rw[Array.getD_eq_getD_getElem?,h];rfl
 rcases Nat.lt_trichotomy (SetTable.below xs (j+1)) (i+1) with c|c|c;have:=d i (by omega) e;omega;exact c;have k:=b (i+1) c;have l:xs.getD i 0<xs.getD (i+1) 0:=a.lt (QW i) (show i+1<xs.size by omega);omega
theorem cK(xs:Array α)(p:Nat)(x:α)(a:p<=xs.size):(SetTable.insertAt xs p x).toList=xs.toList.take p++[x]++xs.toList.drop p:=by
 unfold SetTable.insertAt;simp[Array.toList_extract];exact List.take_of_length_le (by simp)
theorem cL{xs:Array Nat}(e:Gg xs)(n:xs[SetTable.below xs j]?≠some j):Gg (SetTable.insertAt xs (SetTable.below xs j) j):=by
 obtain⟨o,f,q⟩:=Tj e j;generalize SetTable.below xs j=p at o f q n;unfold Gg;rw[cK xs p j o]
 have g:∀{i:Nat}(c:i<xs.toList.length),xs.toList[i]=xs.getD i 0:=λ{i}c=>by
  have m:i<xs.size:=(by simpa using c);rw[Array.getD_eq_getD_getElem?,Array.getElem?_eq_getElem m];simp
 refine List.pairwise_append.mpr ⟨List.pairwise_append.mpr ⟨e.sublist (List.take_sublist _ _),List.pairwise_singleton _ _,λa d b h=>?_⟩,e.sublist (List.drop_sublist _ _),λa d b h=>?_⟩;rw[AY.mp h];obtain⟨i,c,rfl⟩:=List.getElem_of_mem d;rw[FG] at c;rw[List.getElem_take,g (by omega)];exact f i (by omega);obtain⟨i,c,rfl⟩:=List.getElem_of_mem h;rw[Kr] at c;rw[List.getElem_drop,g (by omega)];have m:p+i<xs.size:=by simp at c;omega
 have s:j<xs.getD p 0:=by
  have l:p<xs.size:=(by omega);have:=q p (AB _) l;have ne:xs.getD p 0≠j:=λz=>n (by rw[Array.getElem?_eq_getElem l];rw[Array.getD_eq_getD_getElem?,Array.getElem?_eq_getElem l] at z;exact BI some z);omega
 have t:=e.le (show p<=p+i by omega) m;rcases BF.mp d with d|d;obtain⟨k,r,rfl⟩:=List.getElem_of_mem d;rw[FG] at r;rw[List.getElem_take,g (by omega)];have:=f k (by omega);omega;rw[AY.mp d];omega
structure GB (led:Bool) (t:SetTable):Prop where
 ris:Gg t.place
 dum:t.dummies=#[]
 led:t.led=led
theorem WI{t:SetTable}{hashAt:Nat->Int}{h:Int}(hd:t.dummies=#[]):∀(a:Nat)(p:SetTable.Probe){j:Nat}{d:Option Nat},p.dummy=none->SetTable.probe.go t hashAt h a p=some (.empty j d)->t.slot j=.empty/\d=none
 |0,p,j,d,_,e=>by cases e
 |a+1,p,j,d,b,e=>by
   unfold SetTable.probe.go at e
   have l:∀q:SetTable.Probe,q.dummy=none->(t.advance q).dummy=none:=λq f=>by
    unfold SetTable.advance;split;exact f;exact f
   cases c:t.slot p.j with
   |empty=>rw[c] at e;cases e;exact⟨c,b⟩
   |dummy =>
     exfalso;have k:SetTable.has t.dummies p.j=false:=by rw[hd];unfold SetTable.has;simp
     unfold SetTable.slot at c;dsimp only at c;rw[k] at c;by_cases g:(t.place[SetTable.below t.place p.j]?==some p.j)=true;rw[Ak g] at c;cases c;rw[Aj g] at c;cases c
   |live i =>
     rw[c] at e;dsimp only at e;split at e;cases e;exact WI hd a _ (l p b) e
theorem cM{t:SetTable}(h:t.slot j=.empty):t.place[SetTable.below t.place j]?≠some j:=λe=>by
 unfold SetTable.slot at h;simp only[e] at h;simp at h
variable {led:Bool}
theorem Qg{t:SetTable}(h:GB led t)(n:Nat):GB led (t.standIn n):=⟨by
 show Gg (Array.range n);unfold Gg;rw[Array.toList_range]
 exact List.pairwise_lt_range,rfl,h.led⟩
theorem L6{t:SetTable}(h:GB led t)(a:t.slot j=.empty):GB led (t.put j).1:=by
 refine⟨cL h.ris (cM a),?_,h.led⟩;show(if SetTable.has t.dummies j then SetTable.eraseAt t.dummies (SetTable.below t.dummies j) else t.dummies)=#[];rw[h.dum]
 have:SetTable.has #[] j=false:=by unfold SetTable.has;simp
 rw[this];rfl
theorem cN {t:SetTable} (h:GB led t) (es:Array (Int × Value)) (k:Int) (x:Value):GB led (layNew t es k x).2.1:=by
 unfold layNew
 cases e:t.freeSlot k with
 |none=>exact Qg h _
 | some r =>
   obtain⟨i,l⟩:=r;dsimp only
   have b:t.slot i=.empty:=by
    unfold SetTable.freeSlot at e
    cases c:t.probe (λ_=>k+1) k (t.probeStart k) with
    |none=>rw[c] at e;cases e
    |some m =>
      rw[c] at e
      cases m with
      |candidate=>cases e
      |empty j d =>
        obtain⟨f,g⟩:=WI h.dum _ _ rfl c;subst g;cases e;exact f
   have a:=L6 h b;unfold SetTable.orStandIn;split;exact a;exact Qg a _
theorem JU{e l k:Nat}{plain:Bool}{f:Array Int}{r:SetTable×Array Nat}(h:SetTable.laid e l k led plain f=some r):GB led r.1:=by
 unfold SetTable.laid at h
 cases c:SetTable.layClean e f with
 |none=>rw[c] at h;cases h
 |some owner =>
   rw[c] at h;cases h;refine⟨?_,rfl,rfl⟩;unfold Gg;dsimp only
   have:(List.map (λx=>x.1) (List.filterMap (λj=>Option.map (λx=>(j,x)) (owner.getD j none)) (List.range (e+1)))).Pairwise (· < ·):=by
    rw[List.pairwise_map];refine List.Pairwise.filterMap _ (λa b i c g d hd=>?_) (List.pairwise_lt_range (n:=e+1));obtain⟨x,_,rfl⟩:=Gr.mp g;obtain⟨y,_,rfl⟩:=Gr.mp hd;exact i
   exact this
theorem cO{t:SetTable}(h:GB led t)(es:Array (Int×Value))(a:Nat):GB led (relayAll t es a).2.1:=by
 unfold relayAll
 cases c:t.relaid (es.map (·.1)) a with
 |none=>exact Qg h _
 |some r =>
   obtain⟨b,order⟩:=r;dsimp only;split;have:=JU c;rw[h.led] at this;exact this;exact Qg h _
section
variable {prog:Program} {w:World} {α:Type} [DecidableEq α] [BEq α] [LawfulBEq α]
def B4 (knd:KeyKind prog w α) (C:Bool) (hp:Heap) (D:Addr) (M:α->Bool) (n:Nat):Prop:=
 ∃(ob:Obj)(es:Array (Int×Value))(ep:Nat)(tb:SetTable),hp.get? D=some ob/\ob.ExactSet/\ob.data=.set es ep tb/\ElemsOf knd es.toList/\(∀y,M y=true↔∃e∈es.toList,knd.is y e.2=true)/\es.size<scanBound/\tb.fits es.size=true/\es.size=n/\GB C tb
variable {knd:KeyKind prog w α} {C:Bool} {A:Around} {E:Value->Shared->Prop} {s:Shared} {D:Addr}
variable {M:α->Bool}
theorem B4.keep{a b:Heap}(x:B4 knd C a D M n)(k:∀ob,a.get? D=some ob->b.get? D=some ob):B4 knd C b D M n:=by
 obtain⟨ob,es,c,d,e,x⟩:=x;exact⟨ob,es,c,d,k _ e,x⟩
theorem B4.cong{a:Heap}{b:α->Bool}{c:Nat}(x:B4 knd C a D M n)(d:∀y,b y=M y)(e:c=n):B4 knd C a D b c:=by
 obtain⟨f,es,g,h,i,j,k,l,m,o,p,q,r⟩:=x;exact⟨f,es,g,h,i,j,k,l,λy=>by rw[d];exact m y,o,p,by rw[e];exact q,r⟩
variable {tb:SetTable}
theorem L7(x:GB C tb):GB C {tb with plain:=false}:=⟨x.ris,x.dum,x.led⟩
theorem WJ{ob:Obj}{es a:Array (Int×Value)}{ep:Nat}{b:SetTable}(h:s.heap.get? D=some ob)(d:ob.ExactSet)(i:ob.data=.set es ep tb)(j:ElemsOf knd a.toList)(k:∀y,M y=true↔∃e∈a.toList,knd.is y e.2=true)(f:a.size<scanBound)(l:b.fits a.size=true)(n:GB C b){Q:Unit->Shared->Prop}
 (q:∀c,Heap.SameBut D s.heap c->(∃g,c.get? D=some g/\g.ExactSet/\g.data=.set a (ep+1) b)->B4 knd C c D M a.size->Q () {s with heap:=c}):wpAny (model prog w) A (storeSet D a b) Q E s:=by
 obtain⟨m,_⟩:=SetOf_store (knd:=knd) h d i j k f l;exact wpAny_storeSet_of h i (q _ (Heap.SameBut.update ..) ⟨_,m,d,rfl⟩ ⟨_,a,ep+1,b,m,d,rfl,j,k,f,l,rfl,n⟩) (fits_of_scanBound f)
theorem WK{l:Array (Int×Value)}{m:List (Int×Value)}(p:l.toList.Perm m):l.size=m.length:=by rw[<-Array.length_toList,p.length_eq]
theorem Tl(b:Bool){u:Shared}{Q:Unit->Shared->Prop}(q:Q () u):wpAny (model prog w) A (match b with|true=>rule "set.scan.the-table-gave-way"|false=>pure ()) Q E u:=by
 cases b;exact Aw q;exact Ha q
theorem WL{ob:Obj}{es c:Array (Int×Value)}{ep:Nat}{d:SetTable}(r:s.heap.get? D=some ob)(t:ob.ExactSet)(v:ob.data=.set es ep tb)(i:ElemsOf knd c.toList)(j:∀y,M y=true↔∃e∈c.toList,knd.is y e.2=true)(k:c.size<scanBound)(x:d.fits c.size=true)(l:GB C d){z:Bool}{Q:Option Bool->Shared->Prop}
 {g:Bool->Sem Unit} (B:∀(b:Bool)(u:Shared)(m:Unit->Shared->Prop),m () u->wpAny (model prog w) A (g b) m E u)
 (q:∀f,Heap.SameBut D s.heap f->B4 knd C f D M c.size->Q (some true) {s with heap:=f}) :
 wpAny (model prog w) A (storeSet D c d >>= λ_=>if(!z && d.tooFull)=true then g (relayAll d c (SetTable.grown c.size)).2.2 >>= λ_=>storeSet D (relayAll d c (SetTable.grown c.size)).1 (relayAll d c (SetTable.grown c.size)).2.1 >>= λ_=>pure (some true) else pure (some true)) Q E s:=by
 refine Ad (WJ r t v i j k x l λf n⟨S,F,G,H⟩I=>?_);split;have h:=relayAll_perm d c (SetTable.grown c.size);have o:=relayAll_fits d c (SetTable.grown c.size);have tk:=cO l c (SetTable.grown c.size);generalize relayAll d c (SetTable.grown c.size)=J at h o tk;obtain⟨K,P,R⟩:=J;have p:K.size=c.size:=(WK h).trans (Array.length_toList ..);refine Ad (B _ _ _ (Ad ?_));refine WJ (s:={s with heap:=f}) F G H (i.perm h) (λy=>(j y).trans ⟨λ⟨e,a,b⟩=>⟨e,h.mem_iff.mpr a,b⟩,λ⟨e,a,b⟩=>⟨e,h.mem_iff.mp a,b⟩⟩) (by rw[p];exact k) o tk λL N _ O=>?_;exact Aw (q L (n.trans N) (O.cong (λ_=>rfl) p.symm));exact Aw (q f n I)
theorem JV{y:α}{x:Value}{Q:Bool->Shared->Prop}(r:knd.is y x=true)(t:x.scannable=true)(R:B4 knd C s.heap D M n)(aa:n+1<scanBound)
 (q:∀a,Heap.SameBut D s.heap a->B4 knd C a D (λz=>M z || decide (z=y)) (if M y then n else n+1)->Q (!M y) {s with heap:=a}):wpAny (model prog w) A (setAddHashed D x (knd.hash y)) Q E s:=by
 obtain⟨S,es,T,tb,f,v,g,m,o,G,B,H,I⟩:=R;unfold setAddHashed setAddHashedIn;refine Fj (Ad (wpAny_setState_of f g B ?_));dsimp only;rw[byScan_of t G m,Ak rfl];unfold setAddByScan;refine Ad (Ad (Ha (Ad (wpAny_setScan_of r f g B m ?_))))
 cases fd:List.findIdx? (λe=>knd.is y e.2) es.toList with
 |some j =>
   obtain⟨U,V,_⟩:=List.findIdx?_eq_some_iff_getElem.mp fd;have h:M y=true:=(o y).mpr ⟨_,D9 U,V⟩;dsimp only;refine Aw (Aw ?_)
   have O:=q s.heap (Heap.SameBut.refl ..) ⟨S,es,T,tb,f,v,g,m,λz=>by
    rw[<-o z,Bool.or_eq_true,decide_eq_true_eq];refine⟨λc=>?_,.inl⟩;rcases c with c|c;exact c;rw[c];exact h,G,B,by rw[h];exact H,I⟩
   rw[h] at O;exact O
 |none =>
   have h:M y=false:=by
    cases c:M y with
    |false=>rfl
    |true =>
      obtain⟨e,W,X⟩:=(o y).mp c;have:=List.findIdx?_eq_none_iff.mp fd e W;rw[X] at this;cases this
   dsimp only;have d:=layNew_perm tb es (knd.hash y) x;have i:=layNew_fits tb es (knd.hash y) x;have tk:=cN I es (knd.hash y) x;generalize layNew tb es (knd.hash y) x=Y at d i tk;obtain⟨p,t1,wd,gv⟩:=Y;dsimp only at d i tk;rw[Array.toList_push] at d;have J:p.size=n+1:=by rw[WK d,AV,Array.length_toList,H];rfl
   have K:ElemsOf knd p.toList:=(m.push r t).perm d;have L:=mem_push_iff r o d;have N:p.size<scanBound:=by rw[J];exact aa
   have P:∀a,Heap.SameBut D s.heap a->B4 knd C a D (λz=>M z || decide (z=y)) p.size->Q true {s with heap:=a}:=λa k l=>by
    have:=q a k;rw[h] at this;exact this (l.cong (λ_=>rfl) J.symm)
   refine Ad (Tl _ ?_);split;rw[hashByValue_scannable 8 t];refine Ad (Aw ?_);refine WL f v g K L N (by split;exact i;exact SetTable.fits_plain_off i) (by split;exact tk;exact L7 tk) (λb u Z F=>Tl b F) λa k l=>?_;exact Aw (P a k l);refine Ad (Aw ?_);rw[Ak rfl];exact WL f v g K L N i tk (λb u Z F=>Tl b F) λa k l=>Aw (P a k l)
end
abbrev BR (w:World):Bool:=!(w.params.followText "set-order")
abbrev HY (b:Bool):Obj:={cls:=.type "set",dict:=none,data:=.set #[] 0 (.fresh 0 0 b)}
section
variable {prog:Program} {w:World} {A:Around} {E:Value->Shared->Prop} {s:Shared}
theorem JW(x:Value)(q:Q (.ref s.heap.objs.size) {s with heap:=s.heap.push (HY (BR w))}) :
 codeAny (model prog w) A (.call (.builtin "set.__new__") ⟨[.type "set",x],[]⟩) (wants Q E) s:=by
 refine codeAny_of_tree ?_;show wpAny _ A.in1 (checkBuiltinCall "set.__new__" ⟨[.type "set",x],[]⟩ >>= λ_=>again (.builtin "set.__new__" ⟨[.type "set",x],[]⟩)) _ _ s;refine Ad (wpAny_of_eq (F.newCall_set_1 x) (Aw ⟨plainId_quiet F.plain_set_new _,codeAny_builtin F.entry_set_new ?_⟩));rw[Around.under_plainId F.plain_set_new _];have a:=sub_set_self;unfold Builtin.«set.__new__» Builtin.Frozenset.newClass
 cases s with
 |mk b g d tk os =>
   dsimp only at q ⊢
   wp_walk
   refine wpAny_askSetting (Aw ?_);dsimp only;simp only[newObj];exact Ad (wpAny_alloc (Aw (Aw q)))
end
def B5 (f:Nat->Int) (i:Nat):List Int:=((List.range i).map f).foldl step_dedup []
theorem Ot(f:Nat->Int)(i:Nat):B5 f (i+1)=step_dedup (B5 f i) (f i):=by
 unfold B5;rw[List.range_succ,Bk,Ks];rfl
theorem HZ(l:List Int)(x:Int):(step_dedup l x).length=if l.any (·==x) then l.length else l.length+1:=by
 unfold step_dedup;split<;>simp
theorem H1(l:List Int)(x y:Int):(step_dedup l x).any (·==y)=(l.any (·==y) || decide (y=x)):=by
 unfold step_dedup;by_cases h:l.any (·==x)=true;rw[Ak h];by_cases e:y=x;subst e;rw[h];rfl;rw[DT e,Bool.or_false];rw[Aj h,List.any_append];congr 1;by_cases e:y=x;subst e;simp;rw[DT e]
 simp
 exact λz=>e z.symm
theorem WM(f:Nat->Int):∀i,(B5 f i).length<=i
 |0=>AB _
 |i+1=>by
   have:=WM f i;rw[Ot,HZ];split<;>omega
theorem WN(f:Nat->Int):∀(i:Nat)(y:Int),(B5 f i).any (·==y)=true↔∃j,j<i/\f j=y
 |0,y=>by
   constructor;intro h;cases h;rintro⟨j,h,_⟩;omega
 |i+1,y=>by
   rw[Ot,H1,Bool.or_eq_true,WN f i y,decide_eq_true_iff];constructor;rintro(⟨j,h,e⟩|e);exact⟨j,by omega,e⟩;exact⟨i,by omega,e.symm⟩;rintro⟨j,h,e⟩;by_cases a:j=i;subst a;exact .inr e.symm;exact .inl ⟨j,by omega,e⟩
section
variable {prog:Program} {w:World} {A:Around} {R:Result->Shared->Prop} {It:Addr} {fp r:List Addr} {G:Array GenState->Array GenState->Prop} {n:Nat} {Pn:Nat->Value->Prop} {Sn:Nat->Shared->Prop}
theorem cP(c:WalksS prog w A.in1 It fp r G n Pn Sn)(D:Addr)(l:D∉fp)(f:Nat->Int)(u:∀i v,Pn i v->∃t,v=.int (f i) t)(Q:n+1<scanBound) :
 ∀(k i:Nat)(s:Shared),n-i=k->i<=n->Sn i s->B4 (intKind prog w) (BR w) s.heap D (λy=>(B5 f i).any (·==y)) (B5 f i).length ->
  (∀Z,Moved (D::r) G s Z->B4 (intKind prog w) (BR w) Z.heap D (λy=>(B5 f n).any (·==y)) (B5 f n).length->R (.ok (.ret .none)) Z) ->
  codeAny (model prog w) A (.builtin "set.update.loop" ⟨[.ref D,.ref It],[]⟩) R s:=by
 have p:D∉r:=λz=>l (c.sub _ z);have sub:∀b∈r,b∈D::r:=λb z=>Cj _ z;intro k
 induction k with
 |zero =>
   intro i s x B st g j;obtain rfl:i=n:=by omega
   refine codeAny_builtin F.entry_set_update_loop ?_;rw[Around.under_plainId F.plain_set_update_loop _];show wpAny _ A.in1 (pyNext (.ref It) >>= _) _ _ s;refine Ad (c.done s _ _ st λa d=>?_);show wpAny _ A.in1 (ret Value.none) _ _ a;refine Aw (j a (d.mono sub) ?_);exact g.keep λC e=>d.heap D _ p e
 |succ k E =>
   intro i s x B st g j;have lt:i<n:=(by omega);refine codeAny_builtin F.entry_set_update_loop ?_;rw[Around.under_plainId F.plain_set_update_loop _];show wpAny _ A.in1 (pyNext (.ref It) >>= _) _ _ s;refine Ad (c.item i s _ _ lt st λv a pv J d=>?_);obtain⟨t,rfl⟩:=u i v pv;have K:B4 (intKind prog w) (BR w) a.heap D (λy=>(B5 f i).any (·==y)) (B5 f i).length:=g.keep λC e=>d.heap D _ p e;show wpAny _ A.in1 (holding [Value.int (f i) t] (setAdd D (.int (f i) t)) >>= _) _ _ a;refine Ad (Fj ?_);unfold setAdd;refine Fj ?_;have q:(intKind prog w).is (f i) (.int (f i) t)=true:=intKind_is _ _ _ _;refine Ad ((intKind prog w).pyHash (k:=f i) q ?_);have P:(B5 f i).length+1<scanBound:=by have:=WM f i;omega
   refine JV (knd:=intKind prog w) (s:={a with toks:=a.toks+1}) q rfl K P λH m L=>?_
   have M:B4 (intKind prog w) (BR w) H D (λy=>(B5 f (i+1)).any (·==y)) (B5 f (i+1)).length:=
    L.cong (λy=>by rw[Ot,H1]) (by rw[Ot,HZ])
   refine Aw ⟨plainId_quiet F.plain_set_update_loop _,E (i+1) _ (by omega) lt (c.frame _ a _ _ J (Nat.le_succ _) λb h o e=>?_) M λI N O=>?_⟩;rw[m.2 b λz:b=D=>l (by rw[<-z];exact h)];exact e;refine j I (Moved.trans c.gtrans ((d.mono sub).then_heap (Nat.le_succ _) λb o h e=>?_) N) O;rw[m.2 b λz:b=D=>h (by rw[z];exact Bz)];exact e
end
section
variable {prog:Program} {w:World} {A:Around} {E:Value->Shared->Prop} {s:Shared}
set_option maxRecDepth 100000 in
set_option maxHeartbeats 3200000 in
theorem cQ {l:Addr} {a:Array Value} {f:Nat->Int} {Q:Value->Shared->Prop} (J:A.handled=none) (K:s.heap.IsList l a) (L:∀ (i:Nat) (v:Value),a[i]? = some v -> ∃ t,v=.int (f i) t) (d:a.size + 1 < scanBound)
 (h:∀(h':Heap)(tk:Nat),B4 (intKind prog w) (BR w) h' s.heap.objs.size (λy=>(B5 f a.size).any (·==y)) (B5 f a.size).length ->
  (∀b o,b<s.heap.objs.size->s.heap.get? b=some o->h'.get? b=some o)->Q (.ref s.heap.objs.size) {s with heap:=h',toks:=tk}) :
 wpAny (model prog w) A (call (.type "set") [.ref l]) Q E s:=by
 obtain⟨c,tl,ao⟩:=F.called_set.mro;have av:=F.called_set.made;have aq:=F.called_set.sub;refine wpAny_call (codeAny_of_tree ?_);show wpAny _ _ (callAny (.type "set") _) _ _ _;refine Aw ⟨Code.quiet_builtin _ (by decide +kernel),codeAny_builtin F.entry_type_call ?_⟩;rw[Around.under_plain (weight_type_call_type "set" [.ref l] []) rfl];have h1:=F.called_set.notType;have h2:=F.called_set.canCreate;have ai:=F.typeCall_set_1 (.ref l)
 repeat (any_goals (first|assumption|wp_step))
 refine codeAny_mono (JW (.ref l) (E:=E) (Q:=λn p=>n=.ref s.heap.objs.size/\p={s with heap:=s.heap.push (HY (BR w))}) ⟨rfl,rfl⟩) λr p j=>?_
 cases r with
 |error e=>exact j
 | ok M =>
   cases M with
   | ret n =>
     obtain⟨rfl,rfl⟩:=j;have q:(s.heap.push (HY (BR w))).get? s.heap.objs.size=some (HY (BR w)):=B8 _ rfl;have N:Shared.TypeIs {s with heap:=s.heap.push (HY (BR w))} (.ref s.heap.objs.size) "set" :=⟨_,q,rfl⟩;have aj:=F.called_set.init.lookup;have ak:=F.called_set.init.bind (.ref s.heap.objs.size)
     repeat (any_goals (first|assumption|wp_step))
     refine codeAny_mono (codeAny_call_builtin (R:=wants (λr u=>r=.none/\∃h' tk,u={s with heap:=h',toks:=tk}/\B4 (intKind prog w) (BR w) h' s.heap.objs.size (λy=>(B5 f a.size).any (·==y)) (B5 f a.size).length /\
      (∀b o,b<s.heap.objs.size->s.heap.get? b=some o->h'.get? b=some o)) E) F.called_set.init.plain F.entry_set_init (check_set_init_1 N ?_)) λO u k=>?_
     . obtain⟨⟨oc,P,al,W⟩,C,D,x,G⟩:=K
       simp only at D G;subst D;subst G;have ah:(s.heap.push (HY (BR w))).get? l=some {cls:=.type "list",dict:=P,data:=.seq a x,slots:=W}:=Ba _ C;have ar:=F.sub_list_set;have au:=F.sub_list_frozenset;have an:(Value.type "list" == Value.type "dict")=false:=(by decide);have H:(s.heap.push (HY (BR w))).IsList l a:=⟨_,ah,rfl,x,rfl⟩;unfold Builtin.«set.__init__» noKeywords Builtin.Frozenset.updateFrom;generalize X:pyIter=PI
       wp_walk
       subst X;refine wpAny_pyIter_list H (Ad (wpAny_runValue ?_));have I:l<s.heap.objs.size:=A1 C;have Y:A.in1.in1.in1.handled=none:=(by simp[J])
       have Z:l≠(s.heap.push (HY (BR w))).objs.size:=by
        rw[Heap.size_push];exact CU (Nat.lt_succ_of_lt I)
       have aa:s.heap.objs.size∉[(s.heap.push (HY (BR w))).objs.size,l]:=by
        rw[Heap.size_push];intro z;rcases Ch.mp z with z|z;exact absurd z (CU (QW _));exact absurd (AY.mp z) (Nat.ne_of_gt I)
       refine cP ((Walks.list Y _ l Z a).toS) s.heap.objs.size aa f L d (a.size-0) 0 _ (by omega) (Ck _) ⟨⟨_,B8 _ rfl,rfl,rfl⟩,(H.push _)⟩ ?hS0 ?hR
       case hS0 =>
        have S:((s.heap.push (HY (BR w))).push {cls:=.type "list_iterator",data:=.fields #[.ref l,.int 0 0]}).get? s.heap.objs.size=some (HY (BR w)):=Ba _ q;exact⟨_,#[],0,_,S,⟨rfl,rfl,rfl⟩,rfl,(λe T=>by simp at T),(λy=>by simp[B5]),by decide,rfl,rfl,⟨List.Pairwise.nil,rfl,rfl⟩⟩
       case hR =>
        rintro⟨h',U,V,ab,ae⟩ g m;obtain rfl:U=s.gens:=g.gens;obtain rfl:V=s.drawn:=g.drawn;obtain rfl:ae=s.os:=g.os;show wpAny _ _ _ _ _ _;refine Aw ?_;show wpAny _ _ (ret Value.none) _ _ _;refine Aw ⟨rfl,h',ab,rfl,m,λb o d e=>?_⟩;refine g.heap b o (λz=>?_) (Ba _ (Ba _ e));rcases Ch.mp z with z|z;exact absurd z (CU d);have B:=AY.mp z;rw[Heap.size_push] at B;exact absurd B (CU (Nat.lt_succ_of_lt d))
     . cases O with
       |error e=>exact k
       |ok af =>
         cases af with
         |ret r =>
           obtain⟨rfl,h',tk,rfl,m,ag⟩:=k
           repeat (any_goals (first|assumption|wp_step))
           exact h _ _ m ag
         |_=>exact k.elim
   |_=>exact j.elim
end
theorem cR:entryFor table "set.__iter__" = some Builtin.«frozenset.__iter__»:=entryFor_alias (id':= "frozenset.__iter__") (by kernel_rfl) rfl (by decide +kernel) (by kernel_rfl)
theorem BA:Slot "set_iterator" "__next__" "set_iterator.__next__" :=.of (owner:= "set_iterator") (n:= "__next__") (by rw[typeLookup_type,builtinLookup_eq_fast];kernel_rfl) (by decide +kernel) (by decide +kernel) (by decide +kernel) (by first|exact .inl (by decide +kernel)|exact .inr (by decide +kernel)) (by rw[isSubtype_type];kernel_rfl)
theorem Qh:entryFor table "set_iterator.__next__" = some Builtin.«set_iterator.__next__»:=entryFor_of_tree (by kernel_rfl)
theorem WO:Manifest.owners.lookup (String.ofList ['r','o','t','a','r','e','t','i','_','t','e','s'].reverse)=some Manifest.sig_set_iterator:=by kernel_rfl
theorem Qi(a:Value):argsOk "set_iterator.__next__" ⟨[a],[]⟩:=by
 unfold argsOk;rw[signature?_of (id:= "set_iterator.__next__") (n:=['_','_','t','x','e','n','_','_']) (o:=['r','o','t','a','r','e','t','i','_','t','e','s']) (by kernel_rfl) WO];kernel_rfl
abbrev Ez (f:Value) (i n ep:Nat) (D:Addr):Obj:={cls:=.type "set_iterator",data:=.fields #[f,rawInt i,.ref D,rawInt n,rawInt ep]}
structure E7 (hp:Heap) (D:Addr) (es:Array (Int×Value)) (ep:Nat) (tb:SetTable):Prop where
 ex:∃ob,hp.get? D=some ob/\ob.ExactSet/\ob.data=.set es ep tb
 fit:tb.fits es.size=true
section
variable {prog:Program} {w:World} {A:Around} {E:Value->Shared->Prop} {s:Shared} {It D:Addr} {es:Array (Int×Value)} {ep:Nat} {tb:SetTable}
theorem E7.entries(x:E7 s.heap D es ep tb){Q:Array (Int×Value)->Shared->Prop}(q:Q es s):wpAny (model prog w) A (setEntries D) Q E s:=by
 obtain⟨b,a,_,c⟩:=x.ex;exact wpAny_setEntries_of a c x.fit q
theorem E7.state(x:E7 s.heap D es ep tb){Q:(Array (Int×Value)×Nat×SetTable)->Shared->Prop}(q:Q (es,ep,tb) s):wpAny (model prog w) A (setState D) Q E s:=by
 obtain⟨b,a,_,c⟩:=x.ex;exact wpAny_setState_of a c x.fit q
theorem E7.keep{c d:Heap}(x:E7 c D es ep tb)(k:∀ob,c.get? D=some ob->d.get? D=some ob):E7 d D es ep tb:=by
 obtain⟨ob,a,b⟩:=x.ex;exact⟨⟨ob,k _ a,b⟩,x.fit⟩
theorem cS{c a:Nat}{v:Value}{Q:Option Value->Shared->Prop}(hit:s.heap.get? It=some (Ez (rawInt c) i es.size ep D))(g:E7 s.heap D es ep tb)
 (h:∀(B:Around)(j:Value->Shared->Prop)(d:Option (Value×Nat)->Shared->Prop),d (some (v,a)) s->wpAny (model prog w) B (setNext D c i ep) d j s)
 (q:∀b,b.get? It=some (Ez (rawInt a) (i+1) es.size ep D)->Heap.SameBut It s.heap b->Q (some v) {s with heap:=b}):wpAny (model prog w) A (pyNext (.ref It)) Q E s:=by
 have e:s.TypeIs (.ref It) "set_iterator" :=⟨_,hit,rfl⟩;unfold pyNext;refine Ad (wpAny_attempt (wpAny_callSpecial?_slot (name:=Str.ofString "__next__") e BA (wpAny_call_entry BA e Qh ?_ (Qi _))));unfold Builtin.«set_iterator.__next__» slotArgs;simp only[List.isEmpty_nil,Bool.not_true,Fi,↓reduceIte,Gp,bne_self_eq_false];refine Ad (Aw ?_);refine Ad (wpAny_fieldsOf hit rfl ?_);show wpAny _ _ (setEntries D >>= _) _ _ s;refine Ad (g.entries ?_);rw[Aj (by simp)];refine Ad (h _ _ _ ?_);show wpAny _ _ (setField (Value.ref It) 0 (rawInt a) >>= _) _ _ s;refine Ad (wpAny_setField hit rfl (by simp) ?_);have f:(s.heap.update It (Obj.mapFields (·.setIfInBounds 0 (rawInt a)))).get? It=some (Ez (rawInt a) i es.size ep D):=Heap.get?_update_self _ hit rfl;refine Ad (wpAny_setField f rfl (by simp) ?_);have k:=Heap.get?_update_self (Obj.mapFields (·.setIfInBounds 1 (rawInt ((i:Int)+1)))) f rfl;exact Aw ⟨_,rfl,Aw (q _ k ((Heap.SameBut.update ..).trans (Heap.SameBut.update ..)))⟩
theorem WP{vs:Array Value}{ob:Obj}{Q:Option Value->Shared->Prop}(d:A.handled=none)(hit:s.heap.get? It=some ob)(hd:ob.data=.fields vs)(hz:2<vs.size)
 (q:∀c,Heap.ExtBut It s.heap c->Q none {s with heap:=c}):wpAny (model prog w) A.in1 (setField (Value.ref It) 2 Value.none >>= λ_=>newExc (Value.type "StopIteration") [] >>= λe=>raiseNew (α:=Fin) e) (λf Z=>∃v,f=Fin.done (Flow.ret v)/\wpAny (model prog w) A (pure (some v)) Q E Z)
  (λe Z=>wpAny (model prog w) A (isInstance e (Value.type "StopIteration") >>= λb=>if b=true then pure none else throw e) Q E Z) s:=by
 refine Ad (wpAny_setField hit hd hz ?_);refine Ad ?_;simp only[newExc,newTuple];refine Ad (wpAny_newObj_type ?_ (by size_fits));refine Ad (m:=firstArgMember _ _) (wpAny_of_eq (a:=Value.none) (by first|rfl|(simp only[firstArgMember];rfl)) ?_);refine wpAny_newObj_type ?_ (by size_fits);simp only[raiseNew];refine Ad (wpAny_handled ?_);rw[show A.in1.handled=none from d];refine Ad (Aw (wpAny_throw ?_))
 refine Ad (wpAny_isInstance (T:= "StopIteration") (b:=true) ⟨_,B8 _ rfl,rfl⟩ isSubtype_stop ?_);exact Aw (q _ (((Heap.SameBut.update ..).extBut.push _).push _))
theorem cT{a:Nat}{Q:Option Value->Shared->Prop}(e:A.handled=none)(hit:s.heap.get? It=some (Ez (rawInt a) i es.size ep D))(f:E7 s.heap D es ep tb)
 (g:∀(B:Around)(h:Value->Shared->Prop)(b:Option (Value×Nat)->Shared->Prop),b none s->wpAny (model prog w) B (setNext D a i ep) b h s)
 (q:∀c,Heap.ExtBut It s.heap c->Q none {s with heap:=c}):wpAny (model prog w) A (pyNext (.ref It)) Q E s:=by
 have d:s.TypeIs (.ref It) "set_iterator" :=⟨_,hit,rfl⟩;unfold pyNext;refine Ad (wpAny_attempt (wpAny_callSpecial?_slot (name:=Str.ofString "__next__") d BA (wpAny_call_entry BA d Qh ?_ (Qi _))));unfold Builtin.«set_iterator.__next__» slotArgs;simp only[List.isEmpty_nil,Bool.not_true,Fi,↓reduceIte,Gp,bne_self_eq_false];refine Ad (Aw ?_);refine Ad (wpAny_fieldsOf hit rfl ?_);show wpAny _ _ (setEntries D >>= _) _ _ s;refine Ad (f.entries ?_);rw[Aj (by simp)];refine Ad (g _ _ _ ?_);exact WP e hit rfl (by simp) q
theorem cU{ps:Array Value}{p:Nat}{t:Tok}{v:Value}{hv:Int}{Q:Option Value->Shared->Prop}(hit:s.heap.get? It=some (Ez (.ref T) i es.size ep D))(b:E7 s.heap D es ep tb)(f:s.heap.IsTuple T ps)(a:ps[i]?=some (.int p t))(hv:es[p]?=some (hv,v))
 (q:∀a,a.get? It=some (Ez (.ref T) (i+1) es.size ep D)->Heap.SameBut It s.heap a->Q (some v) {s with heap:=a}):wpAny (model prog w) A (pyNext (.ref It)) Q E s:=by
 have c:s.TypeIs (.ref It) "set_iterator" :=⟨_,hit,rfl⟩;obtain⟨g,d,h,nn,dt⟩:=f;unfold pyNext;refine Ad (wpAny_attempt (wpAny_callSpecial?_slot (name:=Str.ofString "__next__") c BA (wpAny_call_entry BA c Qh ?_ (Qi _))));unfold Builtin.«set_iterator.__next__» slotArgs;simp only[List.isEmpty_nil,Bool.not_true,Fi,↓reduceIte,Gp,bne_self_eq_false];refine Ad (Aw ?_);refine Ad (wpAny_fieldsOf hit rfl ?_);show wpAny _ _ (setEntries D >>= _) _ _ s;refine Ad (b.entries ?_);rw[Aj (by simp)];show wpAny _ _ (seqItems? (.ref T) >>= _) _ _ s;refine Ad (F9 d dt ?_)
 show wpAny _ _ (match ps[i]? with|some (Value.int place tok)=>_|some val=>_|none=>_) _ _ s
 rw[a];show wpAny _ _ (setNextDrawn D p ep >>= _) _ _ s;refine Ad ?_;unfold setNextDrawn;refine Ad (b.state ?_);dsimp only;rw[Aj (by simp)];rw[hv];refine Aw ?_;show wpAny _ _ (setField (Value.ref It) 1 (rawInt ((i:Int)+1)) >>= _) _ _ s;refine Ad (wpAny_setField hit rfl (by simp) ?_);have e:=Heap.get?_update_self (Obj.mapFields (·.setIfInBounds 1 (rawInt ((i:Int)+1)))) hit rfl;exact Aw ⟨_,rfl,Aw (q _ e (Heap.SameBut.update ..))⟩
theorem cV{ps:Array Value}{Q:Option Value->Shared->Prop}(c:A.handled=none)(hit:s.heap.get? It=some (Ez (.ref T) i es.size ep D))(d:E7 s.heap D es ep tb)(g:s.heap.IsTuple T ps)(a:ps[i]?=none)
 (q:∀a,Heap.ExtBut It s.heap a->Q none {s with heap:=a}):wpAny (model prog w) A (pyNext (.ref It)) Q E s:=by
 have b:s.TypeIs (.ref It) "set_iterator" :=⟨_,hit,rfl⟩;obtain⟨h,e,j,nn,dt⟩:=g;unfold pyNext;refine Ad (wpAny_attempt (wpAny_callSpecial?_slot (name:=Str.ofString "__next__") b BA (wpAny_call_entry BA b Qh ?_ (Qi _))));unfold Builtin.«set_iterator.__next__» slotArgs;simp only[List.isEmpty_nil,Bool.not_true,Fi,↓reduceIte,Gp,bne_self_eq_false];refine Ad (Aw ?_);refine Ad (wpAny_fieldsOf hit rfl ?_);show wpAny _ _ (setEntries D >>= _) _ _ s;refine Ad (d.entries ?_);rw[Aj (by simp)];show wpAny _ _ (seqItems? (.ref T) >>= _) _ _ s;refine Ad (F9 e dt ?_)
 show wpAny _ _ (match ps[i]? with|some (Value.int place tok)=>_|some val=>_|none=>_) _ _ s
 rw[a];show wpAny _ _ (setField (Value.ref It) 0 (rawInt 0) >>= _) _ _ s;refine Ad (wpAny_setField hit rfl (by simp) ?_);have f:=Heap.get?_update_self (Obj.mapFields (·.setIfInBounds 0 (rawInt 0))) hit rfl;exact WP c f rfl (by simp) λa ex=>q a ((Heap.SameBut.update ..).extBut.trans ex)
theorem Ia{v:Value}{n:Int}(h:(intKind prog w).is n v=true):∃t,v=.int n t:=by
 have a:Value.isInt n v=true:=h;cases v<;>simp[Value.isInt] at a;subst a;exact⟨_,rfl⟩
theorem To{α:Type}:∀{l:List α}{i:Nat}(h:i<l.length),(l[i]::l.eraseIdx i).Perm l
 |x::l,0,_=>List.Perm.refl _
 |x::l,i+1,h=>(List.Perm.swap x _ _).trans (List.Perm.cons x (To (l:=l) (i:=i) (by simpa using h)))
theorem WQ{α:Type}(nx:Nat->Nat):∀(a k:Nat)(left:List α)(out:Array α),left.length=a->(pickOrder.go nx a k left out).toList.Perm (out.toList++left)
 |0,k,left,out,h=>by
   rw[List.length_eq_zero_iff.mp h];unfold pickOrder.go
   simp
 |a+1,k,left,out,h=>by
   have b:nx k%left.length<left.length:=Nat.mod_lt _ (by omega);unfold pickOrder.go;rw[AC b];dsimp only;refine(WQ nx a (k+1) _ _ (by rw[List.length_eraseIdx,Ak b];omega)).trans ?_;rw[Array.toList_push,FX];refine List.Perm.append_left _ ?_;exact To b
theorem cW{c:Source}{Q:Nat->Shared->Prop}(a:n≠0)(q:∀i b,i<n->Q i {s with drawn:=b}):wpAny (model prog w) A (choose c n) Q E s:=
 λ_ _ _=>⟨a,q _ _ (Nat.mod_lt _ (Nat.pos_of_ne_zero a))⟩
theorem WR{α:Type}:∀(n:Nat)(xs:List α){A:Around}{E:Value->Shared->Prop}{s:Shared}{Q:List α->Shared->Prop},xs.length=n->(∀ys b,ys.Perm xs->Q ys {s with drawn:=b})->wpAny (model prog w) A (drawOrder n xs) Q E s
 |0,xs,A,E,s,Q,h,q=>by
   have e:=List.length_eq_zero_iff.mp h;subst e;unfold drawOrder;exact Aw (q [] s.drawn (List.Perm.refl _))
 |n+1,[],A,E,s,Q,h,q=>by cases h
 |n+1,x::xs,A,E,s,Q,h,q=>by
   unfold drawOrder;refine Ad (cW (by simp) λi b a=>?_);rw[AC a];dsimp only;refine Ad (WR n _ (by rw[List.length_eraseIdx,Ak a];omega) λys d c=>?_);exact Aw (q _ d ((List.Perm.cons _ c).trans (To a)))
end
theorem WS:Slot "set_iterator" "__iter__" "set_iterator.__iter__" :=.of (owner:= "set_iterator") (n:= "__iter__") (by rw[typeLookup_type,builtinLookup_eq_fast];kernel_rfl) (by decide +kernel) (by decide +kernel) (by decide +kernel) (by first|exact .inl (by decide +kernel)|exact .inr (by decide +kernel)) (by rw[isSubtype_type];kernel_rfl)
theorem cX:entryFor table "set_iterator.__iter__" = some Builtin.«dict_keyiterator.__iter__»:=entryFor_alias (id':= "dict_keyiterator.__iter__") (by kernel_rfl) rfl (by decide +kernel) (by kernel_rfl)
theorem cY(a:Value):argsOk "set_iterator.__iter__" ⟨[a],[]⟩:=by
 unfold argsOk;rw[signature?_of (id:= "set_iterator.__iter__") (n:=['_','_','r','e','t','i','_','_']) (o:=['r','o','t','a','r','e','t','i','_','t','e','s']) (by kernel_rfl) WO];kernel_rfl
section
variable {prog:Program} {w:World} {A:Around} {E:Value->Shared->Prop} {s:Shared} {It D:Addr} {es:Array (Int×Value)} {ep:Nat} {tb:SetTable}
theorem WT{f:Value}(hit:s.heap.get? It=some (Ez f i n ep D))(q:Q (.ref It) s):wpAny (model prog w) A (pyIter (.ref It)) Q E s:=by
 have a:s.TypeIs (.ref It) "set_iterator" :=⟨_,hit,rfl⟩;refine wpAny_pyIter_slot a WS (wpAny_call_entry WS a cX ?_ (cY _));show wpAny _ _ (ret (.ref It)) _ _ s;exact Aw ⟨_,rfl, "set_iterator",_,a,BA.lookup,q⟩
theorem L8{b:Addr}(h:b∈[It]):b∈[It,D]:=by rw[AY.mp h];exact Bz
theorem WU(p:A.handled=none)(r:It≠D)(f:Nat->Nat)(vs:List Value)(H:vs.length=es.size)
 (t:∀(i:Nat)(v:Value)(s:Shared)(B:Around)(d:Value->Shared->Prop)(c:Option (Value×Nat)->Shared->Prop),vs[i]?=some v->E7 s.heap D es ep tb->c (some (v,f (i+1))) s->wpAny (model prog w) B (setNext D (f i) i ep) c d s)
 (u:∀(s:Shared)(B:Around)(d:Value->Shared->Prop)(c:Option (Value×Nat)->Shared->Prop),E7 s.heap D es ep tb->c none s->wpAny (model prog w) B (setNext D (f es.size) es.size ep) c d s) :
 Walks prog w A It [It,D] [It] es.size (λi v=>vs[i]?=some v) (λi h=>h.get? It=some (Ez (rawInt (f i)) i es.size ep D)/\E7 h D es ep tb) where
 sub:=λb y=>L8 y
 frame:=λi h I⟨a,b⟩k=>⟨k It Bz _ a,b.keep λC e=>k D (by simp) _ e⟩
 item:=λi s Q E J⟨a,b⟩q=>by
  have G:i<vs.length:=(by omega);have m:=AC G;refine cS (v:=vs[i]) a b (λB d c g=>t i _ s B d c m b g) λj F n=>?_;have:=q vs[i] j s.toks m ⟨F,b.keep λC e=>(n.2 D (Ne.symm r)).trans e⟩ λx o l e=>(n.2 x (λz=>l (by rw[z];exact Bz))).trans e;exact this
 done:=λs Q E⟨a,b⟩q=>cT p a b (λB d c g=>u s B d c b g) λj ex=>q j s.toks λx o l e=>ex x o (λz=>l (by rw[z];exact Bz)) e
 self:=λi s Q E⟨a,_⟩q=>WT a q
theorem cZ(l:A.handled=none)(m:It≠D)(n:It≠T)(ps:List Nat)(vs:List Value)(G:vs.length=es.size)(hv:∀(i:Nat)(v:Value),vs[i]?=some v->∃(p:Nat)(x:Int),ps[i]?=some p/\es[p]?=some (x,v))(d:ps.length=es.size) :
 Walks prog w A It [It,D,T] [It] es.size (λi v=>vs[i]?=some v) (λi h=>h.get? It=some (Ez (.ref T) i es.size ep D)/\E7 h D es ep tb/\h.IsTuple T (ps.map λp:Nat=>rawInt (p:Int)).toArray) where
 sub:=λb r=>by rw[AY.mp r];exact Bz
 frame:=λi h H⟨a,b,c⟩k=>⟨k It Bz _ a,b.keep λu e=>k D (by simp) _ e,let ⟨o,e,x⟩:=c;⟨o,k T (by simp) _ e,x⟩⟩
 item:=λi s Q E I⟨a,b,c⟩q=>by
  have F:i<vs.length:=(by omega);have j:=AC F;obtain⟨p,x,y,B⟩:=hv i _ j;refine cU (v:=vs[i]) (hv:=x) (t:=0) a b c (by simp[y,rawInt]) B λd C f=>?_;exact q vs[i] d s.toks j ⟨C,b.keep λu e=>(f.2 D (Ne.symm m)).trans e,let ⟨o,e,x⟩:=c;⟨o,(f.2 T (Ne.symm n)).trans e,x⟩⟩ λx o g e=>(f.2 x (λz=>g (by rw[z];exact Bz))).trans e
 done:=λs Q E⟨a,b,c⟩q=>cV l a b c (by simp[d]) λd ex=>q d s.toks λx o g e=>ex x o (λz=>g (by rw[z];exact Bz)) e
 self:=λi s Q E⟨a,_⟩q=>WT a q
structure E8 (prog:Program) (w:World) (A:Around) (h0 hp:Heap) (D It:Addr) (ks:List Int):Prop where
 walk:∃(fp:List Addr)(St:Nat->Heap->Prop),Walks prog w A It fp [It] ks.length (λi v=>∃t,v=.int (ks.getD i 0) t) St/\St 0 hp/\∀b∈fp,b=D\/h0.objs.size<=b
 keep:∀b o,h0.get? b=some o->hp.get? b=some o
 new:h0.objs.size<=It
theorem Walks.weaker{a r:List Addr}{P b:Nat->Value->Prop}{St:Nat->Heap->Prop}(W:Walks prog w A It a r n P St)(h:∀i v,P i v->b i v):Walks prog w A It a r n b St where
 sub:=W.sub
 frame:=W.frame
 item:=λi s Q E c st q=>W.item i s Q E c st λv d tk pv=>q v d tk (h i v pv)
 done:=W.done
 self:=W.self
theorem Tp{M:Int->Bool}{vs:List Value}(s:ElemsOf (intKind prog w) es.toList)(u:∀y,M y=true↔∃e∈es.toList,(intKind prog w).is y e.2=true)(f:vs.Perm (es.toList.map (·.2))):∃ks:List Int,ks.length=vs.length/\(∀(i:Nat)(v:Value),vs[i]?=some v->∃t,v=.int (ks.getD i 0) t)/\∀y,M y=true↔y∈ks:=by
 have z:∀v∈vs,∃n t,v=Value.int n t:=λv g=>by
  obtain⟨e,c,rfl⟩:=Bn.mp (f.mem_iff.mp g);obtain⟨⟨k,A,_⟩,_⟩:=s e c;obtain⟨t,j⟩:=Ia A;exact⟨k,t,j⟩
 have B:∀l:List Value,(∀v∈l,∃n t,v=Value.int n t)->∃ks:List Int,ks.length=l.length/\∀(i:Nat)(v:Value),l[i]?=some v->∃t,v=.int (ks.getD i 0) t:=λl=>by
  induction l with
  |nil=>exact λ_=>⟨[],rfl,λi v h=>by cases h⟩
  |cons x l C =>
    intro q;obtain⟨ks,a,b⟩:=C λv g=>q v (Cj _ g);obtain⟨n,t,e⟩:=q x Bz;refine⟨n::ks,by simp[a],λi v h=>?_⟩
    cases i with
    |zero=>simp at h;subst h;exact⟨t,e⟩
    |succ i=>simpa using b i v (by simpa using h)
 obtain⟨ks,a,b⟩:=B vs z;refine⟨ks,a,b,λy=>?_⟩;rw[u y];constructor;rintro⟨e,c,m⟩;obtain⟨t,j⟩:=Ia m;have D:e.2∈vs:=f.mem_iff.mpr (Bn.mpr ⟨e,c,rfl⟩);obtain⟨i,o,p⟩:=List.getElem_of_mem D;obtain⟨G,d⟩:=b i _ (AC o);rw[p,j] at d;have E:y=ks.getD i 0:=(by injection d);rw[E,BY,AC (show i<ks.length by omega)];exact D9 _;intro m;obtain⟨i,o,p⟩:=List.getElem_of_mem m;have r:i<vs.length:=(by omega);obtain⟨t,d⟩:=b i _ (AC r);obtain⟨e,c,F⟩:=Bn.mp (f.mem_iff.mp (D9 r));refine⟨e,c,?_⟩;rw[F,d,BY,AC o];show(intKind prog w).is y (.int ks[i] t)=true;rw[p];exact intKind_is _ _ _ _
theorem WV{ks:List Int}:∀{vs:List Value},vs.length=ks.length->(∀(i:Nat)(v:Value),vs[i]?=some v->∃t,v=.int (ks.getD i 0) t)->IntsAre vs ks:=by
 induction ks with
 |nil=>intro vs a _;cases vs with
   |nil=>exact .nil
   |cons _ _=>simp at a
 |cons x r b =>
   intro vs a h
   cases vs with
   |nil=>simp at a
   |cons v vs =>
     obtain⟨t,e⟩:=h 0 v rfl;obtain rfl:v=.int x t:=e;exact .cons _ _ (b (by simpa using a) λi u c=>h (i+1) u (by simpa using c))
theorem E8.of{a c:Heap}{d:List Addr}{m:Nat}{vs:List Value}{St:Nat->Heap->Prop}{ks:List Int}(W:Walks prog w A It d [It] m (λi v=>vs[i]?=some v) St)(e:ks.length=m)(f:∀(i:Nat)(v:Value),vs[i]?=some v->∃t,v=.int (ks.getD i 0) t)(st:St 0 c)(lt:∀b∈d,b=D\/a.objs.size<=b)(g:∀b o,a.get? b=some o->c.get? b=some o)(h:a.objs.size<=It):E8 prog w A a c D It ks:=
 ⟨⟨d,St,by rw[e];exact Walks.weaker W f,st,lt⟩,g,h⟩
theorem Tq{f:Value}(b:E7 s.heap D es ep tb)(q:Q (.ref s.heap.objs.size) {s with heap:=s.heap.push (Ez f 0 es.size ep D)}) :
 wpAny (model prog w) A (setEpoch D >>= λe=>newFields "set_iterator" [f,rawInt 0,Value.ref D,rawInt ↑es.size,rawInt ↑e] >>= λv=>ret v) (λg Z=>∃v,g=Fin.done (Flow.ret v)/\∃d r,Z.TypeIs v d/\typeLookup (Value.type d) (Str.ofString "__next__")=pure (some r)/\Q v Z) E s:=by
 obtain⟨h,a,_,c⟩:=b.ex;refine Ad (wpAny_setEpoch_of a c b.fit ?_);refine Ad (wpAny_newObj_type (Aw ⟨_,rfl, "set_iterator",_,⟨_,B8 _ rfl,rfl⟩,BA.lookup,?_⟩));exact q
theorem WW{nx:Nat->Nat}{a:Nat}{v:Option (Value×Nat)}(d:w.params.followText "set-order" = true)(f:w.params.setOrder D ep=nx)(hv:((pickOrder nx es)[i]?).map (λe=>(e.2,a))=v)(b:E7 s.heap D es ep tb){Q:Option (Value×Nat)->Shared->Prop}(q:Q v s):wpAny (model prog w) A (setNext D a i ep) Q E s:=by
 unfold setNext;refine Ad (b.state ?_);dsimp only;unfold setsByText;refine Ad (Ad (wpAny_askSetting (Aw ?_)));have c:(model prog w).w.params.followText "set-order" = true:=d;dsimp only;rw[c,Ak rfl];rw[Aj (by simp)];refine Ad ?_;unfold setWalk setsByText;refine Ad (b.state ?_);dsimp only;refine Ad (Ad (wpAny_askSetting (Aw ?_)));dsimp only;rw[c,Ak rfl];refine Ad (wpAny_askSetting ?_);refine Aw ?_;have g:(model prog w).w.params.setOrder D ep=nx:=f;dsimp only;rw[g,hv];exact Aw q
theorem WX{a:Nat}{v:Option (Value×Nat)}(c:w.params.followText "set-order" = false)(d:(!tb.plain && decide (es.size > 1))=false)(e:tb.led=true)(hv:(∃h x j,es[SetTable.below tb.place a]?=some (h,x)/\tb.place[SetTable.below tb.place a]?=some j/\v=some (x,j+1))\/(es[SetTable.below tb.place a]?=none/\v=none))(f:E7 s.heap D es ep tb){Q:Option (Value×Nat)->Shared->Prop}(q:Q v s):wpAny (model prog w) A (setNext D a i ep) Q E s:=by
 unfold setNext;refine Ad (f.state ?_);dsimp only;unfold setsByText;refine Ad (Ad (wpAny_askSetting (Aw ?_)));have k:(model prog w).w.params.followText "set-order" = false:=c
 dsimp only;rw[k,Aj Cv];refine wpAny_ite_split (λh=>absurd (show(!tb.plain && decide (es.size > 1))=true from h) (by rw[d];exact Cv)) (λ_=>?_);refine Ad ?_;show wpAny _ _ (if(!tb.led && !es.isEmpty)=true then _ else _) _ _ _;rw[e];simp only[Bool.not_true,Bool.false_and,Fi,↓reduceIte];refine Aw ?_
 rcases hv with⟨h,x,j,b,g,rfl⟩|⟨b,rfl⟩;rw[b,g];exact Aw q;rw[b];exact Aw q
theorem dA {M:Int->Bool}(I:A.handled=none) (hS:B4 (intKind prog w) (BR w) s.heap D M n)
 (q:∀(It:Addr)(r:Heap)(J:Drawn)(ks:List Int),ks.length=n->(∀y,M y=true↔y∈ks)->E8 prog w A s.heap r D It ks->Q (.ref It) {s with heap:=r,drawn:=J}):wpAny (model prog w) A (pyIter (.ref D)) Q E s:=by
 obtain⟨t,es,ep,tb,K,X,x3,L,N,x6,Y,O,P⟩:=hS;have k:E7 s.heap D es ep tb:=⟨⟨t,K,X,x3⟩,Y⟩;have hT:s.TypeIs (.ref D) "set" :=⟨t,K,X.1⟩;have aa:D<s.heap.objs.size:=A1 K;refine wpAny_pyIter_slot hT F.slot_set_iter (wpAny_call_entry F.slot_set_iter hT cR ?_ (F.args_set_iter_1 _));unfold Builtin.«frozenset.__iter__» Builtin.Frozenset.slot0 slotArgs;simp only[List.isEmpty_nil,Bool.not_true,Fi,↓reduceIte,bind_assoc,Gp,bne_self_eq_false];unfold Builtin.Frozenset.addrOf Builtin.Frozenset.sizeOf;refine Ad (Aw ?_);dsimp only;refine Ad (Aw ?_);refine Ad (Ad (k.entries (Aw ?_)));unfold setDrawn setsByText;refine Ad (Ad (k.state ?_));dsimp only;refine Ad (Ad (wpAny_askSetting (Aw ?_)));refine Aw ?_;dsimp only;have n0:s.heap.objs.size≠D:=Nat.ne_of_gt aa
 have ab:∀{b:Addr},b∈[s.heap.objs.size,D]->b=D\/s.heap.objs.size<=b:=λ{b}a=>by
  rcases Ch.mp a with rfl|a;exact .inr (AB _);exact .inl (AY.mp a)
 cases C:(model prog w).w.params.followText "set-order" with
 |true =>
   simp only[Bool.not_true,Bool.false_and,Fi,↓reduceIte];refine Ad (Aw ?_);refine Tq k ?_
   have R:((pickOrder (w.params.setOrder D ep) es).toList).Perm es.toList:=by
    have:=WQ (w.params.setOrder D ep) es.size 0 es.toList #[] (by simp);show(pickOrder.go (w.params.setOrder D ep) es.size 0 es.toList #[]).toList.Perm es.toList;simpa using this
   obtain⟨ks,f,u,z⟩:=Tp L N (R.map (·.2));have c:((pickOrder (w.params.setOrder D ep) es).toList.map (·.2)).length=es.size:=by rw[Al,R.length_eq];simp
   have W:=WU (prog:=prog) (w:=w) (A:=A) (It:=s.heap.objs.size) (D:=D) (es:=es) (ep:=ep) (tb:=tb) I n0 (λ_=>0) _ c
    (λi v Z B S U g l m=>WW (nx:=w.params.setOrder D ep) C rfl (by
     rw[Bh] at g;obtain⟨e,d,rfl⟩:=Gr.mp g
     rw[<-Array.getElem?_toList,d];rfl) l m)
    (λZ B S U l m=>WW (nx:=w.params.setOrder D ep) C rfl (by
     have hz:(pickOrder (w.params.setOrder D ep) es).toList.length=es.size:=by rw[R.length_eq];simp
     rw[<-Array.getElem?_toList,GK (by omega)];rfl) l m)
   refine q _ _ s.drawn ks (by rw[f,c,O]) z (E8.of W (f.trans c) u ⟨B8 _ rfl,k.keep λt e=>Ba _ e⟩ (λb a=>ab a) (λb o e=>Ba _ e) (AB _))
 |false =>
   have ae:tb.led=true:=by
    rw[P.led];unfold BR;have:w.params.followText "set-order" = false:=C;rw[this];rfl
   simp only[Bool.not_false,Bool.true_and]
   cases H:(!tb.plain && decide (es.size > 1)) with
   |true =>
     refine wpAny_ite_split (λ_=>?_) (λh=>absurd (show(!tb.plain && decide (es.size > 1))=true from H) h);refine Ad (WR es.size _ List.length_range λj J r=>?_)
     have V:j.length=es.size:=by rw[r.length_eq];exact List.length_range
     refine Ad (wpAny_newObj_type ?_ (by show(List.map (λi:Nat=>rawInt (i:Int)) j).toArray.size<=sizeLine;rw[Cu,Al,V];exact fits_of_scanBound x6));have af:E7 (s.heap.push {cls:=.type "tuple",data:=.seq (j.map λi:Nat=>rawInt (i:Int)).toArray}) D es ep tb:=k.keep λt e=>Ba _ e;refine Tq af ?_;have ah:∀p∈j,p<es.size:=λp h=>List.mem_range.mp (r.mem_iff.mp h)
     have vp:(j.map λp=>(es.getD p (0,.none)).2).Perm (es.toList.map (·.2)):=by
      have d:es.toList.map (·.2)=(List.range es.size).map λp=>(es.getD p (0,.none)).2:=by
       refine List.ext_getElem (by simp) λi h1 h2=>?_;simp at h1;simp[h1]
      rw[d];exact r.map _
     obtain⟨ks,f,u,z⟩:=Tp L N vp;have c:(j.map λp=>(es.getD p (0,.none)).2).length=es.size:=(by rw[Al,V])
     have W:=cZ (prog:=prog) (w:=w) (A:=A) (It:=(s.heap.push {cls:=.type "tuple",data:=.seq (j.map λi:Nat=>rawInt (i:Int)).toArray}).objs.size) (D:=D) (T:=s.heap.objs.size) (es:=es) (ep:=ep) (tb:=tb) I (by rw[Heap.size_push];exact Nat.ne_of_gt (Nat.lt_succ_of_lt aa)) (by rw[Heap.size_push];exact Nat.succ_ne_self _) j _ c (λi v g=>by
      rw[Bh] at g;obtain⟨p,d,rfl⟩:=Gr.mp g;have ai:=ah p (Bd d);refine⟨p,(es.getD p (0,.none)).1,d,?_⟩
      simp[ai]) V
     refine q _ _ J ks (by rw[f,c,O]) z (E8.of W (f.trans c) u ⟨B8 _ rfl,af.keep λt e=>Ba _ e,⟨_,Ba _ (B8 _ rfl),rfl,_,rfl⟩⟩ (λb a=>?_) (λb o e=>Ba _ (Ba _ e)) (by rw[Heap.size_push];exact Nat.le_succ _));rcases Ch.mp a with rfl|a;rw[Heap.size_push];exact .inr (Nat.le_succ _);rcases Ch.mp a with rfl|a;exact .inl rfl;rw[AY.mp a];exact .inr (AB _)
   |false =>
     refine wpAny_ite_split (λh=>absurd (show(!tb.plain && decide (es.size > 1))=true from h) (by rw[H];exact Cv)) (λ_=>?_);refine Ad (Aw ?_);refine Tq k ?_;obtain⟨ks,f,u,z⟩:=Tp L N (List.Perm.refl _)
     have c:(es.toList.map (·.2)).length=es.size:=by simp
     have lp:tb.place.size=es.size:=by
      have:=Y;unfold SetTable.fits at this;simp at this;exact this.1
     have ag:∀i,i<=tb.place.size->SetTable.below tb.place (if i=0 then 0 else tb.place.getD (i-1) 0+1)=i:=λi G=>by
      cases i with
      |zero=>exact cI P.ris
      |succ i =>
        have aj:i<tb.place.size:=G;simp only[Nat.add_eq_zero_iff,Nat.one_ne_zero,and_false,↓reduceIte,Nat.add_sub_cancel];refine cJ P.ris ?_;rw[Array.getD_eq_getD_getElem?,Array.getElem?_eq_getElem aj];rfl
     have W:=WU (prog:=prog) (w:=w) (A:=A) (It:=s.heap.objs.size) (D:=D) (es:=es) (ep:=ep) (tb:=tb) I n0 (λi=>if i=0 then 0 else tb.place.getD (i-1) 0+1) _ c
      (λi v Z B S U g l m=>WX C H ae (.inl (by
       rw[Bh] at g;obtain⟨⟨h,x⟩,d,rfl⟩:=Gr.mp g;rw[Array.getElem?_toList] at d;have G:i<tb.place.size:=by rw[lp];exact(Array.getElem?_eq_some_iff.mp d).1
       have a:=ag i (Di G);refine⟨h,x,tb.place.getD i 0,by rw[a];exact d,?_,by simp⟩
       rw[a,Array.getD_eq_getD_getElem?,Array.getElem?_eq_getElem G];rfl)) l m)
      (λZ B S U l m=>WX C H ae (.inr ⟨by
       rw[ag es.size (Nat.le_of_eq lp.symm)];simp,rfl⟩) l m)
     refine q _ _ s.drawn ks (by rw[f,c,O]) z (E8.of W (f.trans c) u ⟨B8 _ rfl,k.keep λt e=>Ba _ e⟩ (λb a=>ab a) (λb o e=>Ba _ e) (AB _))
end
section
variable {prog:Program} {w:World} {A:Around} {E:Value->Shared->Prop} {s:Shared} {D:Addr}
theorem dB(a:s.TypeIs (.ref D) "set"){Q:Bool->Shared->Prop}(q:∀b,Q b s):wpAny (model prog w) A (Builtin.List.listLengthHint (.ref D)) Q E s:=by
 unfold Builtin.List.listLengthHint;refine Ad (wpAny_specialOf a F.slot_set_len.lookup ?_);generalize AL:("set.__len__" : String)=c
 wp_delta
 rw[show splitId c=some ("set", "__len__") by subst AL;decide +kernel];subst AL;refine Ad (wpAny_isInstance (T:= "set") (b:=true) a (by rw[isSubtype_type];kernel_rfl) (wpAny_ite_split (λh=>absurd h (by decide)) λ_=>?_));refine wpAny_ite_split (λ_=>Ad (MR a (Aw (q _)))) λh=>absurd (by decide +kernel) h
theorem JX{M:Int->Bool}{R:Result->Shared->Prop}(N:A.handled=none)(r:B4 (intKind prog w) (BR w) s.heap D M n){S:Addr}(u:S≠D)(res:Value)(x:s.heap.get? S=some {cls:=.type "list",data:=.seq #[]})(O:n<=sizeLine)
 (q:∀h' g tk acc c(ks:List Int),(∀b o,b≠S->s.heap.get? b=some o->h'.get? b=some o)->h'.get? S=some {cls:=.type "list",dict:=none,data:=.seq acc c,slots:=#[]}->ItemsOf (λi v=>∃t,v=.int (ks.getD i 0) t) acc ks.length->ks.length=n->(∀y,M y=true↔y∈ks)->R (.ok (.ret res)) {s with heap:=h',drawn:=g,toks:=tk}) :
 wpAny (model prog w) A.in1 (Builtin.List.listExtendWith (.ref S) (.ref D) res)
  (λab Z=>match ab with|.done f=>R (.ok f) Z|.again B=>B.quiet=true/\codeAny (model prog w) A B R Z) (λe Z=>R (.error e) Z) s:=by
 have C:s.TypeIs (.ref D) "set" :=by obtain⟨k,_,_,_,a,b,_⟩:=r;exact⟨k,a,b.1⟩
 have ae:S<s.heap.objs.size:=A1 x;unfold Builtin.List.listExtendWith;refine Ad (MR C ?_);rw[Aj (by simp[Builtin.List.listSameRef,u])];refine Ad (dA (A:=A.in1) N r λIt l g ks E P Q=>?_);obtain⟨⟨T,St,W,st,af⟩,j,U⟩:=Q;have m:=j _ _ x;have G:S∉T:=λz=>(af S z).elim u λy=>absurd ae (Nat.not_lt_of_le y)
 have K:∀(h:Heap)(p:Nat),St 0 h->(∀b o,b≠S->s.heap.get? b=some o->h.get? b=some o)->h.get? S=some {cls:=.type "list",data:=.seq #[] p} ->
  codeAny (model prog w) A (.builtin "list.extend.loop" ⟨[.ref S,.ref It,res],[]⟩) R {s with heap:=h,drawn:=g}:=λh p ag V X=>by
  refine codeAny_extend_loopS W.toS (by rw[E];exact O) S G res ks.length 0 _ #[] p rfl (Ck _) ag X (ItemsOf.nil _) λZ acc c H Y ah=>?_;rw[Moved.eq_with H];refine q Z.heap g Z.toks acc c ks (λb o I e=>H.heap b o (λz=>?_) (V b o I e)) Y ah E P;rcases Ch.mp z with y|y;exact I y;have:=A1 e;rw[AY.mp y] at this;exact absurd this (Nat.not_lt_of_le U)
 have quiet:(Code.builtin "list.extend.loop" ⟨[.ref S,.ref It,res],[]⟩).quiet=true:=plainId_quiet F.plain_extend_loop _;refine Ad (Fj (dB (s:={s with heap:=l,drawn:=g}) (by obtain⟨k,a,b⟩:=C;exact⟨k,j _ _ a,b⟩) λb=>?_));refine wpAny_ite_split (λ_=>?_) λ_=>Aw ⟨quiet,K _ 0 st (λb o _ e=>j b o e) m⟩;refine Ad (Ha (Ad ?_));show wpAny _ _ (updateSeq S (·.push .none) >>= λ_=>updateSeq S (·.pop)) _ _ _;refine Ad (wpAny_updateSeq m rfl ?_);have J:=Heap.get?_update_self (Obj.mapSeq (·.push Value.none)) m rfl;refine wpAny_updateSeq (hz:=by seq_fits) J rfl ?_;have aa:=Heap.get?_update_self (Obj.mapSeq (·.pop)) J rfl;have L:∀b,b≠S->((l.update S (Obj.mapSeq (·.push Value.none))).update S (Obj.mapSeq (·.pop))).get? b=l.get? b:=λb d=>(Heap.get?_update_other _ _ (Ne.symm d)).trans (Heap.get?_update_other _ _ (Ne.symm d));exact Aw ⟨quiet,K _ _ (W.frame 0 _ _ st λb d o e=>(L b λz=>G (z▸d)).trans e) (λb o d e=>(L b d).trans (j b o e)) aa⟩
theorem dC{M:Int->Bool}{Q:List Value->Shared->Prop}(t:A.handled=none)(p:B4 (intKind prog w) (BR w) s.heap D M n)(u:n<=sizeLine)
 (q:∀h' d tk acc(ks:List Int),(∀b o,s.heap.get? b=some o->h'.get? b=some o)->IntsAre acc ks->ks.length=n->(∀y,M y=true↔y∈ks)->Q acc {s with heap:=h',drawn:=d,toks:=tk}):wpAny (model prog w) A (collect (.ref D)) Q E s:=by
 have G:D<s.heap.objs.size:=by obtain⟨z,_,_,_,a,_⟩:=p;exact A1 a
 unfold collect;refine Ad (wpAny_runValue (codeAny_builtin entry_proto_collect' ?_));rw[Around.under_plainId F.plain_proto_collect _];show wpAny _ A.in1 (newList [] >>= λl=>again (.builtin "list.__iadd__" ⟨[l,.ref D],[]⟩)) _ _ s;refine Ad (wpAny_newObj_type (Aw ⟨plainId_quiet F.plain_list_iadd _,codeAny_builtin entry_list_iadd' ?_⟩));rw[Around.under_plainId F.plain_list_iadd _];show wpAny _ A.in1 (Builtin.List.listExtendWith (.ref s.heap.objs.size) (.ref D) (.ref s.heap.objs.size)) _ _ _
 refine FJ (JX (A:=A) (s:={s with heap:=s.heap.push {cls:=.type "list",data:=.seq ([]:List Value).toArray}}) (S:=s.heap.objs.size)
  (R:=λr Z=>∃h' d tk acc c,∃ks:List Int,r=.ok (.ret (.ref s.heap.objs.size))/\Z={s with heap:=h',drawn:=d,toks:=tk}/\(∀b o,s.heap.get? b=some o->h'.get? b=some o)/\h'.get? s.heap.objs.size=some {cls:=.type "list",dict:=none,data:=.seq acc c,slots:=#[]}/\IntsAre acc.toList ks/\ks.length=n/\∀y,M y=true↔y∈ks)
  t (p.keep λz e=>Ba _ e) (Nat.ne_of_gt G) _ (B8 _ rfl) u λh' d tk acc c ks h j g k m=>⟨h',d,tk,acc,c,ks,rfl,rfl,λb o e=>h b o (CU (A1 e)) (Ba _ e),j,?_,k,m⟩) (λH Z x=>?_) λe Z x=>?_
 exact WV (by rw[Array.length_toList,g.1]) λi v B=>g.2 i v (by rw[<-Array.getElem?_toList];exact B)
 . cases H with
   |done f =>
     obtain⟨h',d,tk,acc,c,ks,e,rfl,h,j,g,k,m⟩:=x;cases e;show wpAny _ A (load s.heap.objs.size >>= _) _ _ _;exact Ad (wpAny_load j (Aw (q h' d tk acc.toList ks h g k m)))
   |again I =>
     refine⟨x.1,codeAny_mono x.2 λr J y=>?_⟩;obtain⟨h',d,tk,acc,c,ks,rfl,rfl,h,j,g,k,m⟩:=y;show wpAny _ A (load s.heap.objs.size >>= _) _ _ _;exact Ad (wpAny_load j (Aw (q h' d tk acc.toList ks h g k m)))
 obtain⟨_,_,_,_,_,_,C,_⟩:=x;cases C
end
theorem L9{l:List Int}:∀{m:List Int},l.Nodup->(∀x∈l,x∈m)->m.length<=l.length->m.Nodup:=by
 induction l with
 |nil=>intro m _ _ h;rw[List.length_eq_zero_iff.mp (Nat.le_zero.mp h)];exact List.nodup_nil
 |cons a l g =>
   intro m d f i;obtain⟨j,k⟩:=Go.mp d;have c:=List.perm_cons_erase (f a Bz)
   have n:(m.erase a).length<=l.length:=by
    have:=c.length_eq;simp at this i;omega
   have sub:∀x∈l,x∈m.erase a:=λx b=>by
    have:=c.mem_iff.mp (f x (Cj _ b));rcases Ch.mp this with e|e;exact absurd (e▸b) j;exact e
   refine c.nodup_iff.mpr (Go.mpr ⟨λo=>?_,g k sub n⟩)
   have:(a::l).length<=(m.erase a).length:=Ord.nodup_sub_length d λx b=>by
    rcases Ch.mp b with e|e;rw[e];exact o;exact sub x e
   simp at this;omega
theorem JY{l:List Int}(h:l.Pairwise (·<=·))(c:l.Nodup):l.Pairwise (· < ·):=(h.and c).imp λ{a b}⟨x,y⟩=>by omega
set_option tactic.hygienic true in
theorem Ou{l:List Int}{x:Int}(h:l.Nodup):(step_dedup l x).Nodup:=by
 unfold step_dedup;split;exact h;rename_i c;refine List.nodup_append.mpr ⟨h,List.pairwise_singleton _ _,λa d b f e=>c ?_⟩;rw[AY.mp f] at e;rw[Gq];exact⟨a,d,by rw[e];simp⟩
theorem WY(f:Nat->Int):∀i,(B5 f i).Nodup
 |0=>List.nodup_nil
 |i+1=>by rw[Ot];exact Ou (WY f i)
def Ma (P:Program) (w:World) (a:Addr) (ns:List Int):HO:=.ext λh=>∃ds:List Int,ds.Nodup/\(∀y,y∈ds↔y∈ns)/\B4 (intKind P w) (BR w) h a (λy=>ds.any (·==y)) ds.length
section
variable {prog:Program} {w:World} {A:Around} {E:Value->Shared->Prop} {s:Shared} {D:Addr}
theorem dD{M:Int->Bool}(p:A.handled=none)(r:B4 (intKind prog w) (BR w) s.heap D M n)(B:n<64)
 (q:∀(R:Addr)h' c tk k out(ks:List Int),(∀b o,s.heap.get? b=some o->h'.get? b=some o)->(∀b o,s.heap.get? b=some o->b≠R)->h'.get? R=some {cls:=.type "list",data:=.seq out k}->IntsAre out.toList ks->ks.length=n->(∀y,M y=true↔y∈ks)->ks.Pairwise (·<=·)->Q (.ref R) {s with heap:=h',drawn:=c,toks:=tk}) :
 wpAny (model prog w) A (call (.builtin "sorted") [.ref D]) Q E s:=by
 refine Calls.call_function_entry kind_sorted plain_sorted entry_sorted (args_sorted1 _) ?_;unfold Builtin.«sorted»;refine Ad (m:=checkCount "sorted" 1 1 _) (Aw ?_);refine Ad (dC (A:=A.in1) p r (Di (BC (by omega))) λd c tk a ks f h i t=>?_);have u:a.length<64:=by rw[h.length,i];exact B
 refine Ad (wpAny_newList ?_ (Di (BC (by omega))));have g:(d.push {cls:=.type "list",data:=.seq a.toArray}).get? d.objs.size=some (seqObj "list" a.toArray 0):=B8 _ rfl;refine Ad (Fj (wpAny_call_entry slot_list_sort ⟨_,g,rfl⟩ entry_list_sort (list_sort_tree g h u λout C v j x=>⟨_,rfl,?_⟩) (args_list_sort _)));obtain⟨k,z⟩:=sortedHeap_at (vs:=a) (out:=out) g;refine Aw ⟨_,rfl,q d.objs.size _ c tk k out C (λb o e=>?_) (λb o e=>CU (A1 (f b o e))) z v (by rw[j.length_eq,i]) (λy=>by rw[t,j.mem_iff]) x⟩;have l:=A1 (f b o e);rw[sortedHeap_old (CU l) (by rw[Heap.size_push];exact Nat.lt_succ_of_lt l)];exact Ba _ (f b o e)
end
section
variable {X:Cx} {pins:List (Addr×Obj)} {σ:L2.St} {H:Hp} {s:Shared}
theorem Inv.drew(I:Inv X pins σ H s)(a:Drawn):Inv X pins σ H {s with drawn:=a}:=
 I.step (h':=s.heap) (H':=H) (g':=s.gens) (t':=s.toks) (d':=a) (ch:=[]) (λ_ z=>nomatch z) (λ_ _ _ _ _ e _=>e) (λ_ o _ _ _ e _=>⟨o.slots,e⟩) (λ_ _ _ _ n=>n) (λ_ o _ e=>⟨o,e⟩) (λ_ _ e=>e) (λ_ _ _ e=>e) (λ_ b e=>⟨#[],by rw[e];simp⟩) (λ_ h=>h) I.hok I.bare
def Ov (P:Program) (w:World) (K:Ah):List V->Hp->VK->Prop:=λvs H Q=>∃(p:Addr)(ns:List Int),vs=[.ref p]/\Af K H p (ns.map V.int)/\ns.length<=4000/\∀q,H q=none->Q (.ref q) (upd H q (Ma P w q ns))
theorem dE{ns:List Int}{a:List Value}(r:As (ns.map V.int) a):∀(i:Nat)(v:Value),a.toArray[i]?=some v->∃t,v=.int (ns.getD i 0) t:=λi v e=>by
 have d:a[i]?=some v:=(by simpa using e);have f:=r.length;rw[Al] at f;have b:i<ns.length:=by have:=(A9.mp d).1;omega
 obtain⟨u,c,g⟩:=r.get (i:=i) (x:=.int ns[i]) (by rw[Bh,AC b];rfl);rw[d] at c;cases c;rw[BY,AC b];exact g
theorem dG(v:X.calm=true):A7 X (.type "set") (Ov X.prog X.w X.K):=by
 intro pins s σ H M us Q I r h;obtain⟨p,c,rfl,w,N,q⟩:=h;obtain⟨u,rfl,z⟩:=Fm r;obtain rfl:u=Value.ref p:=z;obtain⟨g,l,A,_⟩:=I.list w;have m:=l.length;rw[Al] at m;have t:g.toArray.size=c.length:=(by rw[Cu,m]);refine cQ (f:=λi=>c.getD i 0) (I.ok.hd v) A.isList (dE l) (by rw[t];unfold scanBound;omega) λB tk n k=>?_;have C:∀b u,s.heap.get? b=some u->B.get? b=some u:=λb u e=>k b u (A1 e) e;refine⟨.ref s.heap.objs.size,upd H s.heap.objs.size (Ma X.prog X.w s.heap.objs.size c),I.laid (t':=tk) C (AB _) ?_,rfl,q _ I.fresh⟩;refine⟨⟨_,WY _ _,λy=>?_,n⟩,?_,λO P⟨D,E,F,G⟩J=>⟨D,E,F,G.keep λK e=>J K e⟩⟩;have:=WN (λi=>c.getD i 0) g.toArray.size y;rw[Gq] at this;have e:(∃x,x∈B5 (λi=>c.getD i 0) g.toArray.size/\(x==y)=true)↔y∈B5 (λi=>c.getD i 0) g.toArray.size:=⟨λ⟨x,a,b⟩=>by rw[<-eq_of_beq b];exact a,λa=>⟨y,a,by simp⟩⟩;rw[<-e,this,t];constructor;rintro⟨j,d,rfl⟩;rw[BY,AC d];exact D9 d;intro L;obtain⟨j,d,e⟩:=List.getElem_of_mem L;exact⟨j,d,by rw[BY,AC d];exact e⟩;obtain⟨o,_,_,_,e,_⟩:=n;exact⟨o,e⟩
def Mb (P:Program) (w:World):List V->Hp->VK->Prop:=λvs H Q=>∃(d:Addr)(ns:List Int),vs=[.ref d]/\H d=some (Ma P w d ns)/\(∀ds:List Int,ds.Nodup->(∀y∈ds,y∈ns)->ds.length<64)/\∀D(ms:List Int),ms.Pairwise (· < ·)->(∀y,y∈ms↔y∈ns)->H D=none->Q (.ref D) (upd H D (.lst (ms.map V.int)))
theorem dH(n:X.calm=true):A7 X (.builtin "sorted") (Mb X.prog X.w):=by
 intro pins s σ H J us Q I r h;obtain⟨d,K,rfl,hd,E,q⟩:=h;obtain⟨u,rfl,o⟩:=Fm r;obtain rfl:u=Value.ref d:=o;obtain⟨⟨f,g,i,p⟩,_,_⟩:=I.hok d _ hd;have t:=E f g λy e=>(i y).mp e;refine dD (I.ok.hd n) p t λR L v tk k F c w j z A l B C=>?_
 have m:∀y,y∈c↔y∈f:=λy=>by
  rw[<-B y,Gq];exact⟨λ⟨x,a,b⟩=>by rw[<-eq_of_beq b];exact a,λa=>⟨y,a,by simp⟩⟩
 have D:c.Nodup:=L9 g (λy e=>(m y).mpr e) (Nat.le_of_eq l);have G:(c.map V.int).length<=sizeLine:=by rw[Al,l];exact Di (BC (by omega))
 exact⟨.ref R,upd H R (.lst (c.map V.int)),(I.drew v).laidN (t':=tk) w j ⟨G,F.toList,k,Pt A,by rw[Array.toArray_toList];exact z⟩,rfl,q R c (JY C D) (λy=>(m y).trans (i y)) (I.freshN j)⟩
end
def E9 (gs:List (Str×Int)) (n:Int):List Int:=match gs[n.toNat]? with
 |some p=>if p.1=("sort" : Str) then[p.2] else[]
 |none=>[]
def Fz (gs:List (Str×Int)) (as:List (Option (Str×Int))) (q:Int):List Int:=match as[q.toNat]? with
 |some (some w)=>if w.1=("thing" : Str) then E9 gs w.2 else[]
 |_=>[]
def FQ (W:Wd) (st:Int) (p:Cg):List Int:=if p.2.1=("by" : Str)/\(Em (DW W st) p.1).isSome=true then p.2.2::Fz W.gs W.as p.2.2 else[]
def Bu (W:Wd) (b:AR):List Int:=(B0 W b.2.1).flatMap (FQ W b.2.2)
def Fa (ss:List Bj) (w:List Ap):List Int:=if(Cq ss w).2.2.1=("by" : Str) then[(Cq ss w).2.2.2] else[]
def FF (W:Wd) (l:Lk):List Int:=l.1.flatMap (Bu W)++l.2.1.flatMap (Fa W.ss)
def CI (W:Wd) (ls:List Lk) (ts:List Int):List Int:=ls.flatMap (FF W)++ts.flatMap (E9 W.gs)
def F5 (as as':List (Option (Str×Int))) (U:List Int):Prop:=∀q∈U,as'[q.toNat]?=as[q.toNat]?
section
variable {ths:List (Str×Int)} {as as':List (Option (Str×Int))}
theorem WZ{n:Int}{k:Str×Int}(h:ths[n.toNat]?=some k)(c:F5 as as' (E9 ths n)):Dl ths as' k=Dl ths as k:=by
 unfold Dl;by_cases b:k.1=("part" : Str);rw[Ak b,Ak b];rw[Aj b,Aj b];by_cases a:k.1=("sort" : Str);rw[Ak a,Ak a];have:as'[k.2.toNat]?=as[k.2.toNat]?:=c _ (by unfold E9;rw[h];dsimp only;rw[Ak a];exact AY.mpr rfl);unfold Ed;rw[this];rw[Aj a,Aj a]
theorem dI{p:Cg}(h:p.2.1=("to" : Str)\/F5 as as' (p.2.2::Fz ths as p.2.2)):BP ths as' p=BP ths as p:=by
 unfold BP;by_cases a:p.2.1=("to" : Str);rw[Ak a,Ak a];rw[Aj a,Aj a];have c:=h.resolve_left a;have d:=c _ Bz;rw[d]
 cases e:as[p.2.2.toNat]? with
 |none=>rfl
 |some o =>
   cases o with
   |none=>rfl
   |some w =>
     dsimp only;by_cases b:w.1=("thing" : Str);rw[Ak b,Ak b]
     cases f:ths[w.2.toNat]? with
     |none=>rfl
     |some k =>
       refine WZ f λq g=>c q (Cj _ ?_);unfold Fz;rw[e];dsimp only;rw[Ak b];exact g
     rw[Aj b,Aj b]
end
section
variable {W:Wd} {as':List (Option (Str×Int))} {ord:List (Str×Str)} {sc st:Int}
theorem W0{go:List (Str×Int)}{s:Int}:∀{l:List Cg}{i:Nat},(∀p∈l,(Em go p.1).isSome=true->BP W.gs as' p=BP W.gs W.as p)->En (W.late as') s go l i=En W s go l i
 |[],i,_=>rfl
 |p::l,i,h=>by
   show E4 (W.late as') s go p i++En (W.late as') s go l (i+1)=E4 W s go p i++En W s go l (i+1);rw[W0 λq b=>h q (Cj _ b)];congr 1;unfold E4
   cases e:Em go p.1 with
   |none=>rfl
   |some a=>dsimp only;rw[h p Bz (by rw[e];rfl)]
theorem W1(ok:B3 W)(f:F5 W.as as' (Bu W b)):Gz (W.late as') b.2.1 b.2.2=Gz W b.2.1 b.2.2:=by
 refine W0 λp d g=>dI ?_
 have h:Fp W.ss.length W.as.length p:=by
  have a:p∈B0 W b.2.1:=d;unfold B0 at a
  cases e:W.ss[b.2.1.toNat]? with
  |none=>rw[e] at a;cases a
  |some s=>rw[e] at a;exact ok.kst s (Bd e) p a
 rcases h with⟨c,_⟩|⟨c,_⟩;exact .inl c;refine .inr λq i=>f q (List.mem_flatMap.mpr ⟨p,d,?_⟩);unfold FQ;rw[Ak ⟨c,g⟩];exact i
theorem JZ(ok:B3 W){bs:List AR}(d:∀b,b∈bs↔AS W sc st b)(e:F5 W.as as' (bs.flatMap (Bu W)))(b:AR):AS (W.late as') sc st b↔AS W sc st b:=by
 have kd:∀c,AS W sc st c->CA (W.late as') c=CA W c:=λc f=>by
  unfold CA;rw[W1 ok λq g=>e q (List.mem_flatMap.mpr ⟨c,(d c).mpr f,g⟩)]
 constructor;intro h
 induction h with
 |root=>exact .root
 |@kid b c _ k a=>rw[kd b a] at k;exact .kid a k
 intro h
 induction h with
 |root=>exact .root
 |@kid b c i k a=>rw[<-kd b i] at k;exact .kid a k
theorem W2{b:AR}{x:Str}:∀(l:List DV)(i:Nat),DM (W.late as') b x l i=DM W b x l i
 |[],_=>rfl
 |q::l,i=>by
   show Fs (W.late as') b x q i++DM (W.late as') b x l (i+1)=Fs W b x q i++DM W b x l (i+1);rw[W2 l (i+1)];rfl
theorem dJ(bs:List AR):DX (W.late as') x bs=DX W x bs:=by
 unfold DX;congr 1;funext b;exact W2 _ _
theorem W3{α β:Type}{f g:α->List β}:∀{l:List α},(∀a∈l,f a=g a)->l.flatMap f=l.flatMap g
 |[],_=>rfl
 |a::l,h=>by rw[List.flatMap_cons,List.flatMap_cons,h a Bz,W3 λb c=>h b (Cj _ c)]
theorem Qj(ok:B3 W){l:Lk}(h:CG W ord sc st x l os)(a:F5 W.as as' (l.1.flatMap (Bu W))):CG (W.late as') ord sc st x l os:=by
 refine⟨⟨λb=>(h.b.mem b).trans (JZ ok h.b.mem a b).symm,h.b.nd,h.b.srt,h.b.few⟩,⟨by rw[dJ];exact h.f.perm,h.f.srt⟩,h.s,⟨?_,h.o.srt⟩⟩
 have:F3 (W.late as') l.1=F3 W l.1:=by
  unfold F3;refine W3 λb c=>?_;rw[W1 ok λq d=>a q (List.mem_flatMap.mpr ⟨b,c,d⟩)]
 rw[this];exact h.o.perm
theorem dL(a:F5 W.as as' (Fa W.ss w)):Fv (W.late as') w=Fv W w:=by
 unfold Fv
 show(if(Cq W.ss w).2.2.1=("by" : Str)/\as'[(Cq W.ss w).2.2.2.toNat]?=some none then some (Cq W.ss w).2.2.2 else none)=_
 by_cases c:(Cq W.ss w).2.2.1=("by" : Str);rw[a _ (by unfold Fa;rw[Ak c];exact AY.mpr rfl)];rw[Aj λz=>c z.1,Aj λz=>c z.1]
set_option tactic.hygienic true in
theorem dM(b:Be W)(c:Dp W.ss w)(d:F5 W.as as' (Fa W.ss w)):Bx (W.late as') w=Bx W w:=by
 unfold Bx
 show(if(Cq W.ss w).2.2.1=("thing" : Str) then some (Cq W.ss w).2.2.2 else match as'[(Cq W.ss w).2.2.2.toNat]? with
  |some (some p)=>if p.1=("thing" : Str) then some p.2 else none
  |_=>none)=_
 rcases Nd b c with⟨a,_⟩|⟨a,_⟩;rw[Ak a,Ak a]
 rw[d _ (by unfold Fa;rw[Ak a];exact AY.mpr rfl)]<;>(cases W.as[(Cq W.ss w).2.2.2.toNat]?<;>first|rfl|(rename_i o;cases o<;>rfl))
theorem W4:∀{ws:List (List Ap)},(∀w∈ws,Fv (W.late as') w=Fv W w)->Fw (W.late as') ws=Fw W ws
 |[],_=>rfl
 |w::ws,h=>by
   unfold Fw;rw[h w Bz,W4 λv hv=>h v (Cj _ hv)]
theorem Qk(ok:B3 W)(e:Be W)(i:0<=sc/\sc<W.ss.length)(j:0<=st/\st<W.sts.length){l:Lk}(h:CG W ord sc st x l os)(f:F5 W.as as' (l.2.1.flatMap (Fa W.ss)))(at_:Int):Cb (W.late as') ord l.2.1 os at_=Cb W ord l.2.1 os at_:=by
 have sub:∀w∈CS W.ss ord l.2.1 l.2.1,w∈l.2.1:=λw a=>P9 a;have c:∀w∈l.2.1,F5 W.as as' (Fa W.ss w):=λw a q g=>f q (List.mem_flatMap.mpr ⟨w,a,g⟩)
 have d:Ey (W.late as') ord l.2.1 os=Ey W ord l.2.1 os:=by
  unfold Ey
  show(match FE W.ss ord l.2.1 os with|some o=>some o|none=>Fw (W.late as') (CS W.ss ord l.2.1 l.2.1))=_
  rw[W4 λw a=>dL (c w (sub w a))]<;>(cases FE W.ss ord l.2.1 os<;>rfl)
 cases b:Ey W ord l.2.1 os with
 |some o=>rw[Nb b,Nb (d.trans b)]
 |none =>
   rw[JJ b,JJ (d.trans b)];have:Dc (W.late as') (CS W.ss ord l.2.1 l.2.1) at_=Dc W (CS W.ss ord l.2.1 l.2.1) at_:=WD at_ λw a=>dM e (JS ok i j h w (sub w a)) (c w (sub w a));rw[<-this]
theorem Tr{n:Int}(a:F5 W.as as' (E9 W.gs n)):CH (W.late as') n=CH W n:=by
 unfold CH
 show(match W.gs[n.toNat]? with|some p=>Dl W.gs as' p|none=>(("no" : Str),(0:Int)))=_
 cases e:W.gs[n.toNat]? with
 |none=>rfl
 |some p=>exact WZ e a
end
theorem F5.sub{U V:List Int}(h:F5 as as' U)(s:∀q∈V,q∈U):F5 as as' V:=λq a=>h q (s q a)
theorem Mc(ok:B3 W)(g:Be W)(v:0<=inn/\inn<W.sts.length){p:List Str}{w:Option Wt}(k:LU W inn ord sc st p at_ a w ls ts) :
 0<=sc/\sc<W.ss.length->0<=st/\st<W.sts.length->F5 W.as as' (CI W ls ts)->LU (W.late as') inn ord sc st p at_ a w ls ts:=by
 have j:∀{l:Lk}{ls:List Lk}{ts:List Int},∀q∈l.1.flatMap (Bu W),q∈CI W (l::ls) ts:=λq b=>Ej _ (List.mem_flatMap.mpr ⟨_,Bz,Ej _ b⟩);have m:∀{l:Lk}{ls:List Lk}{ts:List Int},∀q∈l.2.1.flatMap (Fa W.ss),q∈CI W (l::ls) ts:=λq b=>Ej _ (List.mem_flatMap.mpr ⟨_,Bz,De _ b⟩);have o:∀{n:Int}{ls:List Lk}{ts:List Int},∀q∈E9 W.gs n,q∈CI W ls (n::ts):=λq b=>De _ (List.mem_flatMap.mpr ⟨_,Bz,b⟩)
 induction k with
 |stop h e n=>exact λd f c=>.stop (Qj ok h (c.sub j)) ((Qk ok g d f h (c.sub m) _).trans e) n
 |opn h e i=>exact λd f c=>.opn (Qj ok h (c.sub j)) ((Qk ok g d f h (c.sub m) _).trans e) ((Tr (c.sub o)).trans i)
 |no h e i=>exact λd f c=>.no (Qj ok h (c.sub j)) ((Qk ok g d f h (c.sub m) _).trans e) ((Tr (c.sub o)).trans i)
 |go h e i x t =>
   intro d f c;have u:=KQ ok g (JS ok d f h) e;refine .go (Qj ok h (c.sub j)) ((Qk ok g d f h (c.sub m) _).trans e) ((Tr (c.sub o)).trans i) (t (Qf ok u i) v (c.sub λq b=>?_));rcases BF.mp b with b|b;obtain⟨r,s,b⟩:=List.mem_flatMap.mp b;exact Ej _ (List.mem_flatMap.mpr ⟨r,Cj _ s,b⟩);obtain⟨r,s,b⟩:=List.mem_flatMap.mp b;exact De _ (List.mem_flatMap.mpr ⟨r,Cj _ s,b⟩)
section
variable {X:Cx}
def Ox:R2:=λx y H Q=>∃l xs n,x=.ref l/\y=.int n/\H l=some (.lst xs)/\(0<=n/\n<=1000)/\xs.length*n.toNat<=1000/\∀p,H p=none->Q (.ref p) (upd H p (.lst (List.replicate n.toNat xs).flatten))
theorem W5:∀(n:Nat){xs:List V}{us:List Value},As xs us->As (List.replicate n xs).flatten (List.replicate n us).flatten
 |0,_,_,_=>.nil
 |n+1,xs,us,h=>by
   rw[List.replicate_succ,List.replicate_succ,List.flatten_cons,List.flatten_cons];exact h.append (W5 n h)
theorem W6:DJ X (binaryOp .Mult) Ox:=by
 intro w s σ H x y v u Q I i j h;obtain⟨l,xs,n,rfl,rfl,k,p,d,q⟩:=h;obtain rfl:v=Value.ref l:=i;obtain⟨t,rfl⟩:=j;obtain⟨z,b,c,f,e⟩:=(show Az X.prog X.w _ s.heap l (.lst xs) from I.hok l _ k);have g:=f.length
 have r:b.toArray.size*n.toNat<=1000:=by rw[Cu,<-g];exact d
 have A:b.length*n.toNat<=1000:=by rw[<-g];exact d
 refine wpAny_binaryOp_repeat_ref (T:= "list") (U:= "int") (by decide) ⟨_,e,rfl⟩ (λZ=>typeIs_int Z n t) noFill_list_mul F.fills_int_mul F.slot_int_rmul repeat_list F.slot_int_index.lookup
  (call_meets F.slot_int_rmul (typeIs_int s n t) F.entry_int_rmul (F.args_int_rmul_2 _ _) (int___rmul___int_list n t l b.toArray c)
   ⟨e,rfl,⟨_,e,rfl⟩,call_meets F.slot_list_mul ⟨_,e,rfl⟩ F.entry_list_mul (F.args_list_mul_2 _ _) (AutoListH.list___mul___list_int_3 l b.toArray c n t (by simp[Builtin.List.listFitsIndex];omega) (by omega) (by simp[Builtin.List.listTooLong,sizeLine];omega)) ⟨e,?_⟩⟩)
 rw[listMul_foldl_if];have m:=W5 n.toNat f;refine⟨.ref s.heap.objs.size,_,I.laid (a:=s.heap.objs.size) (o:=.lst (List.replicate n.toNat xs).flatten) (t':=s.toks) (λ_ _ q=>Ba _ q) (AB _) ⟨?_,_,0,m,B8 _ rfl⟩,rfl,q _ (I.hok.fresh (AB _))⟩;rw[List.length_flatten,List.map_replicate,List.sum_replicate_nat,Nat.mul_comm];exact Di (BC (by omega))
def Oy:List V->Hp->VK->Prop:=λvs H Q=>∃n:Int,vs=[.int n]/\∀p,H p=none->Q (.ref p) (upd H p (.rng 0 n))
theorem dN:A7 X (.type "range") Oy:=by
 intro d s σ H c us Q I r h;obtain⟨n,rfl,q⟩:=h;obtain⟨u,rfl,b⟩:=Fm r;obtain⟨t,rfl⟩:=b;refine call_range_1 ⟨.ref s.heap.objs.size,_,I.laid (a:=s.heap.objs.size) (o:=.rng 0 n) (t':=s.toks+1+1) (λ_ _ q=>Ba _ q) (AB _) ⟨_,_,_,B8 _ rfl⟩,rfl,q _ (I.hok.fresh (AB _))⟩
def Md:List V->Hp->VK->Prop:=λvs H Q=>∃(p:Addr)(n:Nat),vs=[.ref p]/\H p=some (.rng 0 (n:Int))/\n<=1000/\∀l,H l=none->Q (.ref l) (upd H l (.lst ((List.range n).map λi:Nat=>V.int i)))
theorem dO(j:X.calm=true):A7 X (.type "list") Md:=by
 intro D s σ H z us Q I r h;obtain⟨p,n,rfl,k,A,q⟩:=h;obtain⟨u,rfl,l⟩:=Fm r;obtain rfl:u=Value.ref p:=l;obtain⟨t,B,v,e⟩:=(show Az X.prog X.w _ s.heap p (.rng 0 (n:Int)) from I.hok p _ k)
 have m:Builtin.Range.rangeSize 0 (n:Int) 1=n:=by rw[rangeSize_one];split<;>omega
 refine call_list_range (n:=n) (I.ok.hd j) e (small_one (by omega) (by omega) (by omega) (by omega)) m (by omega) λC tk d c w x f=>?_
 have y:IntsAre d.toList ((List.range n).map λi:Nat=>(i:Int)):=WV (by simp[f.1]) λi v b=>by
  have g:i<d.size:=by
   have:=(A9.mp b).1;simpa using this
  obtain⟨t,e⟩:=f.2 i v (by rw[<-Array.getElem?_toList];exact b);rw[f.1] at g;refine⟨t,?_⟩;rw[e,BY,Bh,List.getElem?_range g]
  simp
 have b:=Pt y;rw[DG] at b;refine⟨.ref s.heap.objs.size,_,I.laid (a:=s.heap.objs.size) (o:=.lst ((List.range n).map λi:Nat=>V.int i)) (t':=tk) w (AB _) ⟨?_,d.toList,c,b,by rw[Array.toArray_toList];exact x⟩,rfl,q _ (I.hok.fresh (AB _))⟩;rw[Al,List.length_range];exact Di (BC (by omega))
def Me (H:Hp) (xs:List V) (ps:List (AN×V)):Prop:=Paired (λx(p:AN×V)=>∃t,x=.ref t/\H t=some (.tup [kV p.1,p.2])) xs ps
theorem dP{pins:List (Addr×Obj)}{R:Result->Shared->Prop}{p l f:Addr}(W:A.in1.handled=none)(k:H p=none)(E:f≠p) :
 ∀(xs:List V)(ps:List (AN×V))(d:List V)(acc:List (AN×V))(s:Shared),Me H xs ps->H l=some (.lst (d++xs))->acc.length+xs.length<=sizeLine->Inv X pins σ (upd H p (.dK acc)) s ->
 s.heap.IsListIter f l d.length->Ec X pins H f->(∀Z,Inv X pins σ (upd H p (.dK (KA acc ps))) Z->R (.ok (.ret .none)) Z)->∀n:Int,
 codeAny (model X.prog X.w) A (.builtin "dict.update.loop" ⟨[.ref p,.ref f,rawInt n,.none],[]⟩) R s:=by
 intro xs ps d acc s Y
 induction Y generalizing d acc s with
 |nil =>
   intro g J I st j m n;have F:upd H p (.dK acc) l=some (.lst (d++[])):=(AD (AH g k)).trans g;obtain⟨r,u,aa,v,w,y⟩:=j;have G:upd H p (.dK acc) f=none:=(AD E).trans r;obtain⟨z,Q,c,B,e⟩:=(show Az X.prog X.w _ s.heap l (.lst (d++[])) from I.hok l _ F);have ai:=B.length;rw[FC] at ai;refine codeAny_builtin PySem.F.entry_upd_loop ?_;rw[Around.under_plainId PySem.F.plain_upd_loop _];show wpAny _ A.in1 (pyNext (.ref f) >>= _) _ _ s;refine Ad (wpAny_pyNext_list_end W st ⟨_,e,rfl,c,rfl⟩ (by simp;omega) λh eb=>?_);exact Ad (Aw (Aw (m _ (I.turned (t':=s.toks) (λb o C e=>eb b o C e) G u v w y))))
 |@cons x q xs ps hq tl ih =>
   intro g J I st j m n;obtain⟨t,rfl,K⟩:=hq;have F:upd H p (.dK acc) l=some (.lst (d++.ref t::xs)):=(AD (AH g k)).trans g;have ab:upd H p (.dK acc) t=some (.tup [kV q.1,q.2]):=(AD (AH K k)).trans K;obtain⟨r,u,aa,v,w,y⟩:=id j;have G:upd H p (.dK acc) f=none:=(AD E).trans r;obtain⟨z,Q,c,B,e⟩:=(show Az X.prog X.w _ s.heap l (.lst (d++.ref t::xs)) from I.hok l _ F);obtain⟨aj,ae,ru⟩:=B.get (i:=d.length) (x:=.ref t) (by simp);cases ru;refine codeAny_builtin PySem.F.entry_upd_loop ?_;rw[Around.under_plainId PySem.F.plain_upd_loop _];show wpAny _ A.in1 (pyNext (.ref f) >>= _) _ _ s;refine Ad (wpAny_pyNext_list_item st (⟨_,e,rfl,c,rfl⟩:s.heap.IsList l Q.toArray) (x:=.ref t) (by simpa using ae) λh af sb=>?_);have D:Inv X pins σ (upd H p (.dK acc)) {s with heap:=h}:=I.turned (t':=s.toks) (λb o C e=>(sb.2 b C).trans e) G u v w y;obtain⟨_,ts,rt,ot,L,ct,nt,dt⟩:=(show Az X.prog X.w _ h t (.tup [kV q.1,q.2]) from D.hok t _ ab);obtain⟨M,N,rfl,r1,r2⟩:=Jc rt;obtain⟨zd,hm,es,S,dd⟩:=Ky D.hok (Aa (H:=H) (a:=p) (o:=.dK acc))
   have ag:es.length<=sizeLine:=by rw[<-S.length];exact zd
   have ak:(AZ acc q.1 q.2).length<=acc.length+1:=NZ acc q.1 q.2;rw[Ek] at J;refine Ad (Fj (Ad (wpAny_tryCatch ?_)));show wpAny _ A.in1 (Builtin.Dict.pairItems (.ref t)) _ _ _;unfold Builtin.Dict.pairItems;refine Ad (MR (s:={s with heap:=h}) (T:= "tuple") ⟨ot,L,ct⟩ ?_);rw[Ak (by decide)];refine Ad (F9 (s:={s with heap:=h}) L dt (Aw ?_));show wpAny _ A.in1 (holding [M,N] (dictSet p M N)) _ _ _;have ah:(AZ acc q.1 q.2).length<=sizeLine:=(by omega);refine Fj (wpAny_dictSet_pairs (hsz:=ag) (MZ r1) dd λO U P=>?_);have he:∃o,O.get? p=some o:=let ⟨o,_,_,ho,_⟩:=U;⟨o,ho⟩
   have I2:∀tk,Inv X pins σ (upd H p (.dK (AZ acc q.1 q.2))) {s with heap:=O,toks:=tk}:=λtk=>by
    have:=N0 (t':=tk) (ob:=.dK (AZ acc q.1 q.2)) D (by rw[Aa];exact True.intro) P he (Hw ah hm (S.put q.1 r2) U);rw[UB] at this;exact this
   refine Aw ⟨plainId_quiet PySem.F.plain_upd_loop _,?_⟩;have:=ih (d++[.ref t]) (AZ acc q.1 q.2) _ (by rw[FX];exact g) (by omega) (I2 (s.toks+1)) (by rw[AV];exact af.at λo e=>(P.2 f E).trans e) j m (n+1);exact this
def Mf:List V->Hp->VK->Prop:=λvs H Q=>∃l xs ps,vs=[.ref l]/\H l=some (.lst xs)/\xs.length<sizeLine/\Me H xs ps/\∀p,H p=none->Q (.ref p) (upd H p (.dK (KA [] ps)))
theorem dQ(j:X.calm=true):A7 X (.type "dict") Mf:=by
 intro pins s σ H G us Q I r h;obtain⟨l,xs,x,rfl,k,J,y,q⟩:=h;obtain⟨u,rfl,B⟩:=Fm r;cases B;have m:H s.heap.objs.size=none:=I.hok.fresh (AB _);refine callType_codes (Q₁:=λv n=>v=.ref s.heap.objs.size/\n={s with heap:=s.heap.push {cls:=.type "dict",data:=.dict #[]}}) PySem.F.kt_called_dict (PySem.F.kt_typeCall_dict_1 _) PySem.F.entry_dict_init (kt_code_dict_new _ ⟨rfl,rfl⟩) ?_;rintro v n ⟨rfl,rfl⟩;have C:=I.laid (a:=s.heap.objs.size) (o:=.dK []) (t':=s.toks) (h':=s.heap.push {cls:=.type "dict",data:=.dict #[]}) (λ_ _ q=>Ba _ q) (AB _) (Va s.heap I.big)
 obtain⟨z,L,c,K,e⟩:=(show Az X.prog X.w _ s.heap l (.lst xs) from I.hok l _ k)
 have f:=Ba {cls:=.type "dict",data:=.dict #[]} e;have p:Shared.TypeIs {s with heap:=s.heap.push {cls:=.type "dict",data:=.dict #[]}} (.ref s.heap.objs.size) "dict" :=⟨_,B8 _ rfl,rfl⟩;refine⟨p,PySem.F.args_dict_init_2 _ _,?_⟩;unfold Builtin.«dict.__init__»;refine Ad ?_;unfold Builtin.Dict.selfAndRest;refine Ad (wpAny_notOrdered_dict p ?_);show wpAny _ _ (pure (s.heap.objs.size,[Value.ref l])) _ _ _;refine Aw ?_;show wpAny _ _ (Builtin.Dict.updateFrom "dict.__init__" s.heap.objs.size (.ref l) [] .none) _ _ _;unfold Builtin.Dict.updateFrom;refine Ad (MR (T:= "list") ⟨_,f,rfl⟩ ?_)
 rw[Ak (by decide)];refine Ad (VY f rfl rfl rfl (I.ok.hd j) λd tk t=>?_);rw[Ak (show(none:Option Value).isNone=true from rfl)];have g:=C.kept (t':=tk) t;refine Ad (Ha (Ad (wpAny_pyIter_list (s:={s with heap:=d,toks:=tk}) ⟨_,t _ _ f,rfl,c,rfl⟩ ?_)))
 have D:=g.kept (t':=tk) (h':=d.push {cls:=.type "list_iterator",data:=.fields #[.ref l,.int 0 0]}) λb o e=>Ba _ e;obtain⟨i,E⟩:=g.fpOk (AB d.objs.size) (g.hok.fresh (AB _));have w:d.objs.size≠s.heap.objs.size:=λz=>by rw[z,Aa] at i;cases i
 refine Aw ⟨plainId_quiet PySem.F.plain_upd_loop _,dP (A:=X.A.in1) (X:=X) (pins:=pins) (σ:=σ) (l:=l) (H:=H) (I.ok.hd j) m w xs x [] [] _ y k (by rw[Gp];omega) D ⟨_,B8 _ rfl,rfl,rfl⟩ ⟨(AD w).symm.trans i,E⟩ (λZ F=>⟨rfl,.ref _,_,F,rfl,q _ m⟩) 0⟩
end
abbrev AM:Type:=Option (Str×Int)
def Fd (W:Wd) (inn:Int) (ord:List (Str×Str)) (q:Qu) (as:List AM) (a:AM):Prop:=∃(w:Option Wt)(ls:List Lk)(ts:List Int),LU (W.late as) inn ord q.1 q.2.1 q.2.2 0 a w ls ts
structure Gh (W:Wd) (qs:List Qu) (as:List AM):Prop where
 len:as.length=qs.length
 rng:∀p,some p∈as->p.1=("thing" : Str)->0<=p.2/\p.2<W.gs.length
structure SOk (W:Wd) (qs:List Qu) (inn:Int) (ord:List (Str×Str)):Prop where
 all:∀as,Gh W qs as->Qc (W.late as) qs inn ord
 tr:∀x y z,(x,y)∈ord->(y,z)∈ord->(x,z)∈ord
structure IL (W:Wd) (qs:List Qu) (inn:Int) (ord:List (Str×Str)) (as as':List AM):Prop where
 len:as'.length=as.length
 old:∀(k:Nat)(p:Str×Int),as[k]?=some (some p)->as'[k]?=some (some p)
 new:∀(k:Nat)(q:Qu),qs[k]?=some q->as[k]?=some none->∃a,Fd W inn ord q as a/\as'[k]?=some a
inductive Run (W:Wd) (qs:List Qu) (inn:Int) (ord:List (Str×Str)):Nat->List AM->List Int->Prop where
 |zero:Run W qs inn ord 0 (List.replicate qs.length none) (List.replicate qs.length 0)
 |succ {n:Nat} {as as':List AM} {ts ts':List Int} (h:Run W qs inn ord n as ts) (e:n=0\/∃k:Nat,ts[k]?=some (n:Int)) (x:IL W qs inn ord as as') (l:ts'.length=ts.length)
  (t:∀k:Nat,k<qs.length->ts'[k]?=if as[k]?=some none/\as'[k]?≠some none then some ((n:Int)+1) else ts[k]?):Run W qs inn ord (n+1) as' ts'
section
variable {W:Wd} {qs:List Qu} {inn:Int} {ord:List (Str×Str)} {n:Nat} {as as':List AM} {ts:List Int}
theorem IL.late(h:IL W qs inn ord as as'):Later as as':=⟨h.len,h.old⟩
theorem Ib{V:Wd}(ok:B3 V)(g:Be V)(o:0<=inn/\inn<V.sts.length){p:List Str}{a:AM}{w:Option Wt}(k:LU V inn ord sc st p at_ a w ls ts):(0<=sc/\sc<V.ss.length)->(0<=st/\st<V.sts.length)->∀x,a=some x->x.1=("thing" : Str)->0<=x.2/\x.2<V.gs.length:=by
 induction k with
 |stop h e n =>
   rintro d f ⟨y,m⟩ rfl j;cases(show y=_ from j);exact KQ ok g (JS ok d f h) e
 |opn h e i=>intro _ _ x b;cases b
 |no h e i =>
   intro _ _ x b c;cases b
   exact absurd (show("none" : Str)=_ from c) Qb
 |go h e i q l=>exact λd f x b c=>l (Qf ok (KQ ok g (JS ok d f h) e) i) o x b c
theorem W7{p:Str×Int}{l:List AM}(h:some p∈l):∃k:Nat,l[k]?=some (some p):=List.mem_iff_getElem?.mp h
theorem IL.aok(G:SOk W qs inn ord)(h:Gh W qs as)(x:IL W qs inn ord as as'):Gh W qs as':=by
 refine⟨x.len.trans h.len,λp f c=>?_⟩;obtain⟨k,b⟩:=W7 f;have n:k<as.length:=by rw[<-x.len];exact(A9.mp b).1
 cases e:as[k]? with
 |none=>rw[List.getElem?_eq_none_iff] at e;omega
 |some o =>
   cases o with
   |some g =>
     have:=x.old k g e;rw[b] at this;cases this;exact h.rng p (Bd e) c
   |none =>
     have i:=AC (show k<qs.length by rw[<-h.len];exact n);obtain⟨a,⟨w,ls,ts,j⟩,d⟩:=x.new k _ i e;have L:=G.all as h;obtain⟨l,m,_⟩:=L.q _ (D9 _);rw[b] at d;exact Ib L.ok L.sm L.inn j l m p (Bv d).symm c
theorem Run.aok(G:SOk W qs inn ord)(h:Run W qs inn ord n as ts):Gh W qs as/\ts.length=qs.length:=by
 induction h with
 |zero=>exact⟨⟨List.length_replicate,λp b _=>by cases List.eq_of_mem_replicate b⟩,List.length_replicate⟩
 |succ h e x l t a=>exact⟨x.aok G a.1,l.trans a.2⟩
theorem Run.least (G:SOk W qs inn ord) (h:Run W qs inn ord n as ts) {K:List AM} (g:K.length=qs.length) (r:∀ (k:Nat) (q:Qu),qs[k]? = some q -> ∃ a,Fd W inn ord q K a/\K[k]? = some a):Later as K:=by
 induction h with
 |zero=>exact⟨by rw[g,List.length_replicate],λk p e=>by rw[List.getElem?_replicate] at e;split at e<;>cases e⟩
 |@succ n as as' ts C h e x l t i =>
   have c:=(h.aok G).1;refine⟨by rw[g,x.len,c.len],λk p e=>?_⟩;have f:k<qs.length:=by rw[<-c.len,<-x.len];exact(A9.mp e).1
   cases d:as[k]? with
   |none=>rw[List.getElem?_eq_none_iff,c.len] at d;omega
   |some o =>
     cases o with
     |some s =>
       have:=x.old k s d;rw[e] at this;cases this;exact i.old k p d
     |none =>
       obtain⟨a,⟨w,ls,F,j⟩,m⟩:=x.new k _ (AC f) d;rw[e] at m;cases m;obtain⟨b,⟨E,H,C,D⟩,u⟩:=r k _ (AC f);have L:=G.all as c;obtain⟨v,y,_⟩:=L.q _ (D9 f)
       have A:w=none:=by
        rcases WH j with⟨z,_⟩|⟨_,z⟩;cases z;exact z
       obtain⟨B,_⟩:=WG (W:=W.late as) (as':=K) L.irr G.tr i L.ok L.sm L.inn j A v y D;rw[u,B]
theorem J1(G:SOk W qs inn ord)(c:Gh W qs as)(d:Later as as'){k:Nat}{q:Qu}(e:qs[k]?=some q){p:Str×Int}{b:AM}(h:Fd W inn ord q as (some p))(h':Fd W inn ord q as' b):b=some p:=by
 obtain⟨w,ls,m,a⟩:=h;obtain⟨l,n,o,j⟩:=h';have L:=G.all as c;obtain⟨f,g,_⟩:=L.q _ (Bd e)
 have i:w=none:=by
  rcases WH a with⟨z,_⟩|⟨_,z⟩;cases z;exact z
 exact(WG (W:=W.late as) (as':=as') L.irr G.tr d L.ok L.sm L.inn a i f g j).1
theorem J2{q:Qu}{a b:AM}(h:Fd W inn ord q as a)(h':Fd W inn ord q as b):a=b:=by
 obtain⟨_,_,_,c⟩:=h;obtain⟨_,_,_,d⟩:=h';exact(JM c d).1
theorem Run.found(G:SOk W qs inn ord)(h:Run W qs inn ord n as ts):∀(k:Nat)(q:Qu)(p:Str×Int),qs[k]?=some q->as[k]?=some (some p)->∃B,Gh W qs B/\Later B as/\Fd W inn ord q B (some p):=by
 induction h with
 |zero=>intro k q p _ e;rw[List.getElem?_replicate] at e;split at e<;>cases e
 |@succ n as as' ts z h e x l t i =>
   intro k q p c e;have d:=(h.aok G).1;have y:k<qs.length:=(A9.mp c).1
   cases b:as[k]? with
   |none=>rw[List.getElem?_eq_none_iff,d.len] at b;omega
   |some o =>
     cases o with
     |some m =>
       have:=x.old k m b;rw[e] at this;cases this;obtain⟨B,s,f,u⟩:=i k q p c b;exact⟨B,s,⟨x.len.trans f.len,λj r v=>x.old j r (f.old j r v)⟩,u⟩
     |none =>
       obtain⟨a,w,g⟩:=x.new k q c b;rw[e] at g;cases g;exact⟨as,d,x.late,w⟩
theorem Run.still(G:SOk W qs inn ord)(h:Run W qs inn ord n as ts)(g:IL W qs inn ord as as){k:Nat}{q:Qu}(c:qs[k]?=some q){b:AM}(d:Fd W inn ord q as b):as[k]?=some b:=by
 have i:=(h.aok G).1;have s:k<as.length:=by rw[i.len];exact(A9.mp c).1
 cases e:as[k]? with
 |none=>rw[List.getElem?_eq_none_iff] at e;omega
 |some o =>
   cases o with
   |none =>
     obtain⟨a,j,f⟩:=g.new k q c e;rw[e] at f;cases f;rw[J2 d j]
   |some p =>
     obtain⟨B,l,m,r⟩:=h.found G k q p c e;rw[J1 G l m c r d]
end
def qA (gs:List (Str×Int)):Option (Str×Int)->List Int
 |some w=>if w.1=("thing" : Str) then E9 gs w.2 else[]
 |none=>[]
theorem J3{gs:List (Str×Int)}{k:Nat}{o:Option (Str×Int)}(h:as[k]?=some o):Fz gs as (k:Int)=qA gs o:=by
 unfold Fz;rw[Bl,h];cases o<;>rfl
section
variable {F:Addr->Prop} {H:Hp} {v:V} {d e f:Dt}
theorem Nf{i:Int}(h:A4 F H v (.int i)):v=.int i:=by cases h;rfl
theorem Mg(h:A4 F H v (.str x)):v=.str x:=by cases h;rfl
theorem Ql(h:A4 F H v (.tup [d,e,f])):∃t x y z,v=.ref t/\H t=some (.tup [x,y,z])/\A4 F H x d/\A4 F H y e/\A4 F H z f:=by
 cases h with
 | tup h t =>
   cases t with
   |cons a t =>
     cases t with
     |cons b t =>
       cases t with
       |cons c t =>
         cases t with
         |nil=>exact⟨_,_,_,_,rfl,h,a,b,c⟩
theorem Ts{b:List Dt}(h:A4 F H v (.lst b)):∃a vs,v=.ref a/\H a=some (.lst vs)/\Ax F H vs b:=by
 cases h with
 |lst h f t=>exact⟨_,_,rfl,h,t⟩
theorem Mh(h:A4 F H v (DP.D b)):∃t x,v=.ref t/\H t=some (.tup [x,.int b.2.1,.int b.2.2]):=by
 obtain⟨t,x,y,z,c,a,_,d,e⟩:=Ql (show A4 F H v (.tup [CF.D b.1,.int b.2.1,.int b.2.2]) from h);rw[Nf d,Nf e] at a;exact⟨t,x,c,a⟩
theorem Oz(h:A4 F H v (PU m)):∃t,v=.ref t/\H t=some (.tup (GR m)):=by
 obtain⟨t,x,y,z,b,a,c,d,e⟩:=Ql h;rw[Nf c,Mg d,Nf e] at a;exact⟨t,b,a⟩
theorem Ax.app_inv:∀{es b:List Dt}{vs:List V},Ax F H vs (es++b)->∃xs ys,vs=xs++ys/\Ax F H ys b
 |[],_,vs,h=>⟨[],vs,rfl,h⟩
 |_::es,_,_,.cons a t=>by
   obtain⟨xs,ys,e,h⟩:=Ax.app_inv (es:=es) t;exact⟨_::xs,ys,by rw[e];rfl,h⟩
theorem J4(h:A4 F H v (CF.D (w++[m]))):∃a vs t,v=.ref a/\H a=some (.lst vs)/\Bt vs (-1)=some (.ref t)/\H t=some (.tup (GR m)):=by
 obtain⟨a,vs,c,d,b⟩:=Ts (show A4 F H v (.lst ((w++[m]).map PU)) from h);rw[Bk] at b;obtain⟨xs,g,rfl,e⟩:=b.app_inv
 cases e with
 |cons a t =>
   cases t with
   |nil =>
     obtain⟨t,rfl,f⟩:=Oz a;exact⟨_,_,t,c,d,SK _ _,f⟩
theorem Ic{f:α->Dt}{l:List α}{vs:List V}(h:Ax F H vs (l.map f))(hv:vs[i]?=some v):∃b,l[i]?=some b/\A4 F H v (f b):=by
 obtain⟨d,a,c⟩:=h.get hv;rw[Bh] at a;obtain⟨b,e,rfl⟩:=Gr.mp a;exact⟨b,e,c⟩
end
theorem Mi(h:n<=9000):n<sizeLine:=Nat.lt_of_le_of_lt h (by decide)
theorem Ng{α β:Type}{f:α->List β}{n:Nat}:∀{l:List α},(∀a∈l,(f a).length<=n)->(l.flatMap f).length<=n*l.length
 |[],_=>Ck _
 |a::l,h=>by
   have d:=h a Bz;have e:=Ng λb c=>h b (Cj _ c);rw[List.flatMap_cons,AV,Ek,Nat.mul_succ];omega
theorem OA{β:Type}{f:α->List β}{l:List α}{a:α}(h:l[i]?=some a):(l.take (i+1)).flatMap f=(l.take i).flatMap f++f a:=by
 rw[DS,h];show(l.take i++[a]).flatMap f=_;rw[List.flatMap_append]
 simp
theorem OB{β:Type}{f:α->List β}{l:List α}(i:Nat):((l.take i).flatMap f).length<=(l.flatMap f).length:=by
 have:l.flatMap f=(l.take i).flatMap f++(l.drop i).flatMap f:=(by rw[<-List.flatMap_append,List.take_append_drop]);rw[this,AV];omega
theorem Tt(gs:List (Str×Int))(n:Int):(E9 gs n).length<=1:=by
 unfold E9;split;split<;>simp
 simp
theorem Mj(gs:List (Str×Int))(o:Option (Str×Int)):(qA gs o).length<=1:=by
 unfold qA;split;split;exact Tt _ _
 simp
 simp
theorem dR(gs:List (Str×Int))(as:List (Option (Str×Int)))(q:Int):(Fz gs as q).length<=1:=by
 unfold Fz;split;split;exact Tt _ _
 simp
 simp
theorem dS(W:Wd)(st:Int)(p:Cg):(FQ W st p).length<=2:=by
 unfold FQ;have:=dR W.gs W.as p.2.2;split;rw[Ek];omega
 simp
theorem dU(ss:List Bj)(w:List Ap):(Fa ss w).length<=1:=by
 unfold Fa;split<;>simp
theorem dV{b:Int}{p:Cg}(a:p∈B0 W b):∃s∈W.ss,p∈s.1:=by
 unfold B0 at a
 cases e:W.ss[b.toNat]? with
 |none=>rw[e] at a;cases a
 |some s=>rw[e] at a;exact⟨s,Bd e,a⟩
theorem dX(a:∀s∈W.ss,s.1.length<=3)(b:AR):(Bu W b).length<=6:=by
 unfold Bu;have c:=Ng (f:=FQ W b.2.2) (n:=2) (l:=B0 W b.2.1) λp _=>dS W b.2.2 p
 have d:(B0 W b.2.1).length<=3:=by
  unfold B0
  cases e:W.ss[b.2.1.toNat]? with
  |none=>exact Ck _
  |some s=>exact a s (Bd e)
 omega
structure Ie (W:Wd) (l:Lk):Prop where
 b:l.1.length<=62
 f:l.2.1.length<=62
 bo:∀b∈l.1,B9 W b
 en:∀w∈l.2.1,Dp W.ss w
theorem Qm(ok:B3 W)(d:Be W){l:Lk}(a:0<=sc/\sc<W.ss.length)(c:0<=st/\st<W.sts.length)(h:CG W ord sc st x l os):Ie W l:=by
 refine⟨h.b.few,?_,λb e=>((h.b.mem b).mp e).ok ok a c,JS ok a c h⟩;have f:=h.f.perm.length_eq;have g:=d.fnd x sc st _ a c h.b;omega
theorem dY(ok:B3 W)(f:Be W)(r:0<=inn/\inn<W.sts.length){p:List Str}{w:Option Wt}(k:LU W inn ord sc st p at_ a w ls ts) :
 0<=sc/\sc<W.ss.length->0<=st/\st<W.sts.length->(∀l∈ls,Ie W l)/\(∀n∈ts,0<=n/\n<W.gs.length)/\ts.length<=ls.length:=by
 induction k with
 |stop h e n=>exact λb c=>⟨λl d=>by rw[AY.mp d];exact Qm ok f b c h,(λ_ z=>by cases z),Ck _⟩
 |opn h e i=>exact λb c=>⟨λl d=>by rw[AY.mp d];exact Qm ok f b c h,λn g=>by rw[AY.mp g];exact KQ ok f (JS ok b c h) e,AB _⟩
 |no h e i=>exact λb c=>⟨λl d=>by rw[AY.mp d];exact Qm ok f b c h,λn g=>by rw[AY.mp g];exact KQ ok f (JS ok b c h) e,AB _⟩
 |go h e i s m =>
   intro b c;have g:=KQ ok f (JS ok b c h) e;obtain⟨o,q,t⟩:=m (Qf ok g i) r;refine⟨λl d=>?_,λn j=>?_,by rw[Ek,Ek];omega⟩;rcases Ch.mp d with rfl|d;exact Qm ok f b c h;exact o l d;rcases Ch.mp j with rfl|j;exact g;exact q n j
theorem dZ(g:∀s∈W.ss,s.1.length<=3)(e:∀l∈ls,Ie W l)(i:ls.length<=8)(j:ts.length<=8):(CI W ls ts).length<=4000:=by
 unfold CI;rw[AV]
 have k:=Ng (f:=FF W) (n:=434) (l:=ls) λl h=>by
  unfold FF;rw[AV];have a:=Ng (f:=Bu W) (n:=6) (l:=l.1) λb _=>dX g b;have b:=Ng (f:=Fa W.ss) (n:=1) (l:=l.2.1) λw _=>dU W.ss w;have c:=(e l h).b;have d:=(e l h).f;omega
 have m:=Ng (f:=E9 W.gs) (n:=1) (l:=ts) λn _=>Tt W.gs n;omega
set_option tactic.hygienic true in
theorem W8(ok:B3 W){n:Int}(h:q∈E9 W.gs n):0<=q/\q<W.as.length:=by
 unfold E9 at h
 cases e:W.gs[n.toNat]? with
 |none=>rw[e] at h;cases h
 |some p =>
   rw[e] at h;dsimp only at h;split at h;rename_i a;rw[AY.mp h];exact ok.net.q p (Bd e) a;cases h
set_option tactic.hygienic true in
theorem W9(ok:B3 W)(f:Be W)(g:∀l∈ls,Ie W l)(h:q∈CI W ls ts):0<=q/\q<W.as.length:=by
 unfold CI at h;rcases BF.mp h with h|h;obtain⟨l,i,c⟩:=List.mem_flatMap.mp h;unfold FF at c;rcases BF.mp c with c|c;obtain⟨b,_,d⟩:=List.mem_flatMap.mp c;unfold Bu at d;obtain⟨p,j,a⟩:=List.mem_flatMap.mp d;obtain⟨s,k,m⟩:=dV j;unfold FQ at a;split at a;rename_i o;rcases Ch.mp a with rfl|a;exact ok.by_ k m λz=>by rw[o.1] at z;exact absurd z (by decide +kernel)
 unfold Fz at a;split at a;split at a;exact W8 ok a;cases a;cases a;cases a;obtain⟨w,r,d⟩:=List.mem_flatMap.mp c;unfold Fa at d;split at d;rename_i t;rw[AY.mp d];rcases Nd f ((g l i).en w r) with⟨e,_⟩|⟨_,e⟩;rw[t] at e;exact absurd e (by decide +kernel);exact e;cases d;obtain⟨n,_,c⟩:=List.mem_flatMap.mp h;exact W8 ok c
theorem Tu:∀{a:List Int},a.Nodup->(∀y∈a,0<=y/\y<(n:Int))->a.length<=n:=λhd h=>KI n _ hd h
structure LN (K:Ah) (F:Addr->Prop) (H:Hp) (nt t:Addr) (W:Wd) (qs:List Qu) (inn:Int) (ord:List (Str×Str)):Prop where
 net:∃(S T R:Addr)(us Gs Es ts qt:List Addr),H nt=some (.tup [.ref S,.ref T,.ref R])/\Ge H S T R us Gs Es ts qt W.ss W.gs qs
 tab:Gd K F H t W.sts inn ord
section
variable {K:Ah} {F:Addr->Prop} {H H':Hp} {nt A t:Addr} {W:Wd} {qs:List Qu} {inn:Int} {ord:List (Str×Str)} {as:List AM}
theorem LN.same(h:LN K F H nt t W qs inn ord)(e:Ac H H'):LN K F H' nt t W qs inn ord:=by
 obtain⟨⟨S,T,R,us,a,b,ts,d,f,g⟩,c⟩:=h;exact⟨⟨S,T,R,us,a,b,ts,d,e _ _ f,g.same e⟩,c.same e⟩
theorem LN.lc(h:LN K F H nt t W qs inn ord)(a:G6 K H A as):LC K F H nt A t (W.late as) qs inn ord:=⟨h.net,a,h.tab⟩
def Tk (H H':Hp):Prop:=∀a vs,H a=some (.tup vs)->H' a=some (.tup vs)
theorem Ac.tk(s:Ac H H'):Tk H H':=λ_ _ e=>s _ _ e
theorem OC{x:Addr}{vs:List V}{o:HO}(h:H x=some (.lst vs)):Tk H (upd H x o):=λa us e=>by
 rw[AD λz=>by rw[z,h] at e;cases e];exact e
variable {kvs:List (AN×V)}
theorem J5{x:Addr}{o:HO}(h:H x=some (.dK kvs)):Tk H (upd H x o):=λa us e=>by
 rw[AD λz=>by rw[z,h] at e;cases e];exact e
theorem Tk.trans{c:Hp}(a:Tk H H')(b:Tk H' c):Tk H c:=λx d e=>b _ _ (a _ _ e)
abbrev GU:Addr->Prop:=λ_=>False
theorem A4.tk{d:Dt}(k:Tk H H')(h:A4 GU H v d):A4 GU H' v d:=h.go k λ_ _ _ f=>f.elim
theorem Ax.tk{vs:List V}{a:List Dt}(k:Tk H H')(h:Ax GU H vs a):Ax GU H' vs a:=h.go k λ_ _ _ f=>f.elim
def DY (H:Hp) (A:Addr) (as:List AM):Prop:=∃vs,H A=some (.lst vs)/\Ax GU H vs (as.map Bp)
theorem DY.ans(h:DY H A as):G6 K H A as:=by
 obtain⟨a,e,h⟩:=h;exact⟨a,Af.of e,h.dts⟩
theorem DY.go(h:DY H A as)(k:Tk H H')(a:∀vs,H A=some (.lst vs)->H' A=some (.lst vs)):DY H' A as:=by
 obtain⟨vs,e,h⟩:=h;exact⟨vs,a _ e,h.tk k⟩
theorem A4.noL{a:AM}(h:A4 F H v (Bp a)):A4 GU H v (Bp a):=by
 cases a with
 |none=>rw[h.ansN];exact .non
 |some p =>
   obtain⟨t,rfl,e⟩:=h.ansS;exact .tup e (.cons (.str _) (.cons (.int _) .nil))
def Qn (W:Wd) (qs:List Qu) (inn:Int) (ord:List (Str×Str)) (H:Hp) (kvs:List (AN×V)) (k:Nat) (B:List AM) (l:Addr) (us:List Int):Prop:=
 AK kvs (.inl (k:Int))=some (.ref l)/\H l=some (.lst (us.map V.int))/\us.length<=1000/\(∀u∈us,0<=u)/\∃(q:Qu)(w:Option Wt)(ls:List Lk)(ts:List Int),qs[k]?=some q/\LU (W.late B) inn ord q.1 q.2.1 q.2.2 0 none w ls ts/\∀x∈CI (W.late B) ls ts,x∈us
def IM (kvs:List (AN×V)) (n:Nat):Prop:=(kvs.map (·.1)).Nodup/\∀x∈kvs.map (·.1),∃i:Nat,i<n/\x=.inl (i:Int)
set_option tactic.hygienic true in
theorem d3(kvs:List (AN×V))(k:AN)(v:V):((AZ kvs k v).map (·.1)=kvs.map (·.1))\/(k∉kvs.map (·.1)/\(AZ kvs k v).map (·.1)=kvs.map (·.1)++[k]):=by
 unfold AZ;split;left;rw[DG];congr 1;funext a
 show(if a.1=k then(a.1,v) else a).1=a.1
 split<;>rfl;rename_i h;right;refine⟨λm=>h ?_,by rw[Bk];rfl⟩;obtain⟨p,b,e⟩:=Bn.mp m;exact Gq.mpr ⟨p,b,A5 e⟩
theorem IM.put(h:IM kvs n)(d:i<n)(v:V):IM (AZ kvs (.inl (i:Int)) v) n:=by
 unfold IM;rcases d3 kvs (.inl (i:Int)) v with e|⟨f,e⟩;rw[e];exact h;rw[e];refine⟨?_,λx c=>?_⟩;rw[List.nodup_append];refine⟨h.1,by simp,λa g b j=>?_⟩;rw[AY.mp j];exact λz=>f (by rw[<-z];exact g);rcases BF.mp c with c|c;exact h.2 x c;exact⟨i,d,AY.mp c⟩
theorem IM.len(h:IM kvs n):kvs.length<=n:=by
 have:((kvs.map (·.1)).map λk:AN=>match k with|.inl i=>i|.inr _=>(0:Int)).Nodup:=by
  rw[List.nodup_iff_pairwise_ne,List.pairwise_map];refine(List.nodup_iff_pairwise_ne.mp h.1).imp_of_mem λ{a b}d e l=>?_;obtain⟨i,_,rfl⟩:=h.2 a d;obtain⟨j,_,rfl⟩:=h.2 b e;exact λz=>l (by dsimp only at z;rw[z])
 have c:=Tu (n:=n) this λy f=>by
  obtain⟨x,g,rfl⟩:=Bn.mp f;obtain⟨i,m,rfl⟩:=h.2 x g;dsimp only;omega
 rw[Al,Al] at c;exact c
structure FT (W:Wd) (qs:List Qu) (inn:Int) (ord:List (Str×Str)) (as:List AM) (H H':Hp) (kvs kvs':List (AN×V)) (ds:List Int) (fs:List (Int×(Str×Int))):Prop where
 fd:∀f∈fs,∃(k:Nat)(q:Qu),f.1=(k:Int)/\(k:Int)∈ds/\qs[k]?=some q/\Fd W inn ord q as (some f.2)
 al:∀k:Nat,(k:Int)∈ds->(∃p,((k:Int),p)∈fs)\/∃l us,H l=none/\Qn W qs inn ord H' kvs' k as l us
 kp:∀k:Nat,(k:Int)∉ds->AK kvs' (.inl (k:Int))=AK kvs (.inl (k:Int))
 ko:IM kvs' qs.length
variable {H'':Hp} {kvs kvs':List (AN×V)} {ds:List Int} {fs:List (Int×(Str×Int))} {k:Nat} {q:Qu}
theorem FT.hit(h:FT W qs inn ord as H H' kvs kvs' ds fs)(i:∀l vs,H l=none->H' l=some (.lst vs)->H'' l=some (.lst vs))(m:qs[k]?=some q){p:Str×Int}(n:Fd W inn ord q as (some p)):FT W qs inn ord as H H'' kvs kvs' (ds++[(k:Int)]) (fs++[((k:Int),p)]):=by
 refine⟨λf g=>?_,λj e=>?_,λj e=>h.kp j λz=>e (Ej _ z),h.ko⟩;rcases BF.mp g with g|g;obtain⟨j,r,a,b,c,d⟩:=h.fd f g;exact⟨j,r,a,Ej _ b,c,d⟩;rw[AY.mp g];exact⟨k,q,rfl,by simp,m,n⟩;rcases BF.mp e with e|e;rcases h.al j e with⟨p,o⟩|⟨l,us,a,b,c,d⟩;exact .inl ⟨p,Ej _ o⟩;exact .inr ⟨l,us,a,b,i _ _ a c,d⟩;rw[AY.mp e];exact .inl ⟨p,by simp⟩
theorem FT.wait(h:FT W qs inn ord as H H' kvs kvs' ds fs)(m:∀l vs,H l=none->H' l=some (.lst vs)->H'' l=some (.lst vs))(i:qs[k]?=some q){w:Option Wt}(n:LU (W.late as) inn ord q.1 q.2.1 q.2.2 0 none w ls ts){l:Addr}{us:List Int}(o:H l=none)(s:H'' l=some (.lst (us.map V.int)))(t:us.length<=1000)(v:∀u∈us,0<=u)(y:∀x∈CI (W.late as) ls ts,x∈us):FT W qs inn ord as H H'' kvs (AZ kvs' (.inl (k:Int)) (.ref l)) (ds++[(k:Int)]) fs:=by
 have A:k<qs.length:=(A9.mp i).1;refine⟨λf D=>?_,λj g=>?_,λj g=>?_,h.ko.put A _⟩;obtain⟨j,r,a,b,c,d⟩:=h.fd f D;exact⟨j,r,a,Ej _ b,c,d⟩;by_cases e:(j:Int)=(k:Int);have:j=k:=(by omega);subst this;exact .inr ⟨l,us,o,by rw[NY,Ak rfl],s,t,v,q,w,ls,ts,i,n,y⟩;rcases BF.mp g with g|g;rcases h.al j g with⟨p,B⟩|⟨C,E,a,b,c,d⟩;exact .inl ⟨p,B⟩;exact .inr ⟨C,E,a,by rw[NY,Aj λz=>e (Sum.inl.inj z)];exact b,m _ _ a c,d⟩;exact absurd (AY.mp g) e;rw[NY,Aj λz=>g (De _ (by rw[Sum.inl.inj z];simp))];exact h.kp j λz=>g (Ej _ z)
end
abbrev fD (f:Int×(Str×Int)):Dt:=.tup [.int f.1,Bp (some f.2)]
structure J6 (W:Wd) (qs:List Qu) (inn:Int) (ord:List (Str×Str)):Prop extends SOk W qs inn ord where
 s3:∀s∈W.ss,s.1.length<=3
 lq:qs.length<=40
theorem AL{G:Prop}(h:∀N:Prop,(G->N)->N):G:=h G λz=>z
theorem Gi{g:TG}{t:TS}(h:let N:=D.nx;let C:=D.ct;g v σ H λσ2 a=>t {D with nx:=N,ct:=C} σ2 a):g v σ H (λσ2 a=>t D σ2 a):=h
theorem d4{K:Ah}{a:Addr}{k:Nat}{r:List Nat}{g:TG}{te:TE}{Y:Hp}{Q:Addr->Hp->Prop}(Pv:Addr->Nat->List V->Hp->Prop)
 (s:∀D,Y D=none->Pv D 0 [] (upd Y D (.lst []))) (t:∀D i ys c,Pv D i ys c->Af K c a xs)
 (u:∀D i x T ys c(R:VK),Y D=none->xs[i]?=some x->c T=none->Pv D i ys c->(∀y d,d D=some (.lst ys)->ys.length<sizeLine->Pv D (i+1) (ys++[y]) (upd d D (.lst (ys++[y])))->R y d)->g (.ref T) (EH k r σ) (upd c T (.tup [.int i,x])) λσ4 h=>te σ4 h R)
 (hd:∀D ys c,Y D=none->Pv D xs.length ys c->Q D c) :
 ∀D,Y D=none->∃W:Nat->Nat->List V->Hp->Prop,(∃m,W 0 m [] (upd Y D (.lst [])))/\∀i m ys c,W i m ys c ->
  ((KG K a).stop i c/\Q D c)\/((KG K a).go i c/\∀x j,(KG K a).yld i c x j->g x (EH k r σ) j λσ4 h=>Hy σ4 h λb o =>
   if b=true then te σ4 o λy d=>d D=some (.lst ys)/\ys.length<sizeLine/\∃f,f<m/\W (i+1) f (ys++[y]) (upd d D (.lst (ys++[y]))) else ∃f,f<m/\W (i+1) f ys o):=by
 intro D l;refine⟨λi m ys c=>m=xs.length-i/\i<=xs.length/\Pv D i ys c,⟨xs.length,rfl,Ck _,s D l⟩,?_⟩;rintro i m ys c ⟨rfl,E,p⟩;have n:=t D i ys c p;by_cases q:i<xs.length;refine .inr ⟨⟨xs,xs[i],n,by simp[q]⟩,λx j y=>?_⟩;obtain⟨T,v,w,rfl,rfl,z⟩:=y;exact u D i v T ys c _ l (z xs n) w p λy d A B C=>⟨A,B,xs.length-(i+1),by omega,rfl,q,C⟩;have e:i=xs.length:=(by omega);subst e;exact .inl ⟨⟨xs,n,AB _⟩,hd D ys c l p⟩
abbrev CV:Type:=List (Int×(Str×Int))
def BS (as:List AM) (fs:CV):List AM:=fs.foldl (λa f=>a.set f.1.toNat (some f.2)) as
def Dd (ts:List Int) (n:Int) (fs:CV):List Int:=fs.foldl (λa f=>a.set f.1.toNat n) ts
variable {f:Int×(Str×Int)}
theorem d5{as:List AM}{fs:CV}(h:fs[i]?=some f):BS as (fs.take (i+1))=(BS as (fs.take i)).set f.1.toNat (some f.2):=by
 rw[DS,h];show BS as (fs.take i++[f])=_;unfold BS;rw[Ks];rfl
theorem d6{n:Int}{fs:CV}(h:fs[i]?=some f):Dd ts n (fs.take (i+1))=(Dd ts n (fs.take i)).set f.1.toNat n:=by
 rw[DS,h];show Dd ts n (fs.take i++[f])=_;unfold Dd;rw[Ks];rfl
theorem Qo:∀(fs:CV)(as:List AM),(BS as fs).length=as.length
 |[],_=>rfl
 |f::fs,as=>by show(BS (as.set f.1.toNat (some f.2)) fs).length=_;rw[Qo fs,FW]
theorem Tv{n:Int}:∀(fs:CV)(ts:List Int),(Dd ts n fs).length=ts.length
 |[],_=>rfl
 |f::fs,ts=>by show(Dd (ts.set f.1.toNat n) n fs).length=_;rw[Tv fs,FW]
theorem Mk{k:Nat}:∀{fs:CV}{as:List AM},(∀f∈fs,f.1.toNat≠k)->(BS as fs)[k]?=as[k]?
 |[],_,_=>rfl
 |f::fs,as,h=>by
   show(BS (as.set f.1.toNat (some f.2)) fs)[k]?=_;rw[Mk λg a=>h g (Cj _ a),List.getElem?_set_ne (h f Bz)]
theorem Tx{k:Nat}{n:Int}:∀{fs:CV}{ts:List Int},(∀f∈fs,f.1.toNat≠k)->(Dd ts n fs)[k]?=ts[k]?
 |[],_,_=>rfl
 |f::fs,ts,h=>by
   show(Dd (ts.set f.1.toNat n) n fs)[k]?=_;rw[Tx λg a=>h g (Cj _ a),List.getElem?_set_ne (h f Bz)]
theorem Qp{k:Nat}:∀{fs:CV}{as:List AM},k<as.length->(∃f∈fs,f.1.toNat=k)->∃f∈fs,f.1.toNat=k/\(BS as fs)[k]?=some (some f.2)
 |[],_,_,⟨_,h,_⟩=>by cases h
 |f::fs,as,d,h=>by
   show ∃g∈f::fs,g.1.toNat=k/\(BS (as.set f.1.toNat (some f.2)) fs)[k]?=some (some g.2);by_cases c:∃g∈fs,g.1.toNat=k;obtain⟨g,a,b,e⟩:=Qp (as:=as.set f.1.toNat (some f.2)) (by rw[FW];exact d) c;exact⟨g,Cj _ a,b,e⟩;obtain⟨g,a,b⟩:=h;rcases Ch.mp a with rfl|a;refine⟨g,Bz,b,?_⟩;rw[Mk λx i z=>c ⟨x,i,z⟩,b,List.getElem?_set_self d];exact absurd ⟨g,a,b⟩ c
theorem Tz{k:Nat}{n:Int}:∀{fs:CV}{ts:List Int},k<ts.length->(∃f∈fs,f.1.toNat=k)->(Dd ts n fs)[k]?=some n
 |[],_,_,⟨_,h,_⟩=>by cases h
 |f::fs,ts,b,h=>by
   show(Dd (ts.set f.1.toNat n) n fs)[k]?=some n;by_cases c:∃g∈fs,g.1.toNat=k;exact Tz (by rw[FW];exact b) c;obtain⟨g,a,d⟩:=h;rcases Ch.mp a with rfl|a;rw[Tx λx e z=>c ⟨x,e,z⟩,d,List.getElem?_set_self b];exact absurd ⟨g,a,d⟩ c
def nn (as:List AM):Nat:=as.countP λa=>a.isNone
theorem Ig(as:List AM)(k:Nat)(p:Str×Int):nn (as.set k (some p))<=nn as/\(as[k]?=some none->nn (as.set k (some p))<nn as):=by
 unfold nn;by_cases b:k<as.length;rw[List.countP_set b];have c:((some p:AM).isNone=true)=False:=(by simp);simp only[Option.isNone_some,Fi,if_false,Nat.add_zero];refine⟨Nat.sub_le _ _,λe=>?_⟩;rw[AC b] at e;rw[Bv e];have:0<as.countP λa=>a.isNone:=List.countP_pos_iff.mpr ⟨none,by rw[<-Bv e];exact D9 b,rfl⟩;simp only[Option.isNone_none,if_true];omega;rw[List.set_eq_of_length_le (by omega)];exact⟨AB _,λe=>by rw[GK (by omega)] at e;cases e⟩
theorem TD:∀(fs:CV)(as:List AM),nn (BS as fs)<=nn as
 |[],_=>AB _
 |f::fs,as=>El (TD fs (as.set f.1.toNat (some f.2))) (Ig as _ _).1
theorem OD{fs:CV}{as:List AM}(h:as[f.1.toNat]?=some none):nn (BS as (f::fs))<nn as:=Nat.lt_of_le_of_lt (TD fs _) ((Ig as _ _).2 h)
section
variable {W:Wd} {qs:List Qu} {inn:Int} {ord:List (Str×Str)} {H H':Hp} {kvs kvs':List (AN×V)} {n:Nat} {as:List AM} {ts:List Int} {due:List Int} {fs:CV} {X:Addr->Prop}
structure Ih (W:Wd) (qs:List Qu) (inn:Int) (ord:List (Str×Str)) (X:Addr->Prop) (H:Hp) (kvs:List (AN×V)) (n:Nat) (as:List AM) (ts:List Int) (due:List Int):Prop where
 run:Run W qs inn ord n as ts
 du:∀k∈due,∃j:Nat,k=(j:Int)/\j<qs.length/\as[j]?=some none
 la:due=[]\/n=0\/∃k:Nat,ts[k]?=some (n:Int)
 us:∀k:Nat,k<qs.length->as[k]?=some none->(k:Int)∈due\/∃B l us,¬X l/\Gh W qs B/\Qn W qs inn ord H kvs k B l us/\F5 B as us
 ko:IM kvs qs.length
structure Nh (W:Wd) (qs:List Qu) (inn:Int) (ord:List (Str×Str)) (X:Addr->Prop) (H:Hp) (kvs:List (AN×V)) (n:Nat) (as:List AM) (ts:List Int) (fs:CV):Prop where
 run:Run W qs inn ord n as ts
 us:∀k:Nat,k<qs.length->as[k]?=some none->∃B l us,¬X l/\Gh W qs B/\Qn W qs inn ord H kvs k B l us/\∀u∈us,(∀f∈fs,f.1≠u)->as[u.toNat]?=B[u.toNat]?
 ko:IM kvs qs.length
 fs:fs=[]\/∃k:Nat,ts[k]?=some (n:Int)
theorem Ii(G:SOk W qs inn ord){B:List AM}(b:Gh W qs B)(j:Gh W qs as){k:Nat}{l:Addr}{us:List Int}(h:Qn W qs inn ord H kvs k B l us)(c:F5 B as us):∃q,qs[k]?=some q/\Fd W inn ord q as none:=by
 obtain⟨_,_,_,_,q,w,ls,d,a,e,f⟩:=h;have L:=G.all B b;obtain⟨g,i,_⟩:=L.q q (Bd a);exact⟨q,a,w,ls,d,Mc (W:=W.late B) (as':=as) L.ok L.sm L.inn e g i (c.sub f)⟩
theorem Ih.nxt(G:SOk W qs inn ord)(T:Ih W qs inn ord X H kvs n as ts due)(F:FT W qs inn ord as H H' kvs kvs' due fs):IL W qs inn ord as (BS as fs):=by
 have m:=(T.run.aok G).1
 have x:∀f∈fs,∃(k:Nat)(q:Qu),f.1=(k:Int)/\k<qs.length/\as[k]?=some none/\qs[k]?=some q/\Fd W inn ord q as (some f.2):=λf b=>by
  obtain⟨k,q,g,y,i,r⟩:=F.fd f b;obtain⟨j,v,A,C⟩:=T.du _ y;have:k=j:=(by omega);subst this;exact⟨k,q,g,A,C,i,r⟩
 refine⟨Qo _ _,λk p e=>?_,λk q s e=>?_⟩;rw[Mk λf b z=>?_];exact e;obtain⟨j,q,g,_,i,_⟩:=x f b;rw[g,Bl] at z;rw[z,e] at i;cases i;have w:k<qs.length:=(A9.mp s).1;by_cases c:∃f∈fs,f.1.toNat=k;obtain⟨f,t,o,D⟩:=Qp (as:=as) (by rw[m.len];exact w) c;obtain⟨j,a,g,_,i,r,v⟩:=x f t;have:j=k:=by rw[g,Bl] at o;exact o
 subst this;have:a=q:=Bv (r.symm.trans s);subst this;exact⟨_,v,D⟩;rw[Mk λf b z=>c ⟨f,b,z⟩];refine⟨none,?_,e⟩
 have K:∃a,qs[k]?=some a/\Fd W inn ord a as none:=by
  by_cases d:(k:Int)∈due;rcases F.al k d with⟨p,E⟩|⟨l,us,_,u⟩;exact absurd ⟨_,E,Bl k⟩ c;exact Ii G m m u λ_ _=>rfl;rcases T.us k w e with h|⟨B,l,us,_,I,u,J⟩;exact absurd h d;exact Ii G I m u J
 obtain⟨a,t,o⟩:=K;have:a=q:=Bv (t.symm.trans s);subst this;exact o
theorem Ih.aft(G:SOk W qs inn ord)(T:Ih W qs inn ord X H kvs n as ts due)(hd:due≠[])(F:FT W qs inn ord as H H' kvs kvs' due fs)(I:∀l,H l=none->¬X l)(J:∀l vs,¬X l->H l=some (.lst vs)->H' l=some (.lst vs)):Nh W qs inn ord X H' kvs' (n+1) (BS as fs) (Dd ts ((n:Int)+1) fs) fs:=by
 have v:=(T.run.aok G).1;have y:=(T.run.aok G).2;have K:=T.nxt G F
 have x:∀f∈fs,∃k:Nat,f.1=(k:Int)/\k<qs.length/\as[k]?=some none:=λf a=>by
  obtain⟨k,q,b,o,A,S⟩:=F.fd f a;obtain⟨j,U,L,M⟩:=T.du _ o;have:k=j:=(by omega);subst this;exact⟨k,b,L,M⟩
 refine⟨.succ T.run (T.la.resolve_left hd) K (Tv _ _) λk i=>?_,λk i e=>?_,F.ko,?_⟩;by_cases c:∃f∈fs,f.1.toNat=k;obtain⟨f,C,w,s⟩:=Qp (as:=as) (by rw[v.len];exact i) c;obtain⟨j,b,o,A⟩:=x f C;have:j=k:=by rw[b,Bl] at w;exact w
 subst this;rw[Ak ⟨A,by rw[s];simp⟩];exact Tz (by rw[y];exact i) c;have b:=Mk (as:=as) (k:=k) (fs:=fs) λf a z=>c ⟨f,a,z⟩;rw[Tx λf a z=>c ⟨f,a,z⟩,Aj λz=>z.2 (by rw[b];exact z.1)]
 have D:¬∃f∈fs,f.1.toNat=k:=λc=>by
  obtain⟨f,C,w,s⟩:=Qp (as:=as) (by rw[v.len];exact i) c;rw[e] at s;cases s
 have N:as[k]?=some none:=by rw[<-e,Mk λf a z=>D ⟨f,a,z⟩]
 have same:∀u:Int,0<=u->(∀f∈fs,f.1≠u)->(BS as fs)[u.toNat]?=as[u.toNat]?:=λu V m=>Mk λf a z=>by
  obtain⟨j,b,_⟩:=x f a;exact m f a (by omega)
 by_cases d:(k:Int)∈due;rcases F.al k d with⟨p,O⟩|⟨l,us,P,g⟩;exact absurd ⟨_,O,Bl k⟩ D;exact⟨as,l,us,I l P,v,g,λu t m=>same u (g.2.2.2.1 u t) m⟩;rcases T.us k i N with h|⟨B,l,us,E,Q,g,R⟩;exact absurd h d;refine⟨B,l,us,E,Q,⟨by rw[F.kp k d];exact g.1,J _ _ E g.2.1,g.2.2⟩,λu t m=>?_⟩;rw[same u (g.2.2.2.1 u t) m,R u t]
 cases e:fs with
 |nil=>exact .inl rfl
 |cons f r =>
   right;have a:f∈fs:=by rw[e];exact Bz
   obtain⟨k,b,o,_⟩:=x f a;refine⟨k,?_⟩;rw[<-e,Tz (by rw[y];exact o) ⟨f,a,by rw[b,Bl]⟩]
   push_cast;rfl
theorem Nh.trn(A:Nh W qs inn ord X H kvs n as ts fs)(g:∀k∈due,∃j:Nat,k=(j:Int)/\j<qs.length/\as[j]?=some none)(i:fs=[]->due=[])(m:∀k:Nat,k<qs.length->as[k]?=some none->(k:Int)∈due\/∃(l:Addr)(us:List Int),AK kvs (.inl (k:Int))=some (.ref l)/\H l=some (.lst (us.map V.int))/\∀u∈us,∀f∈fs,f.1≠u):Ih W qs inn ord X H kvs n as ts due:=by
 refine⟨A.run,g,?_,λk b e=>?_,A.ko⟩;rcases A.fs with h|h;exact .inl (i h);exact .inr (.inr h);rcases m k b e with h|⟨l,us,o,p,q⟩;exact .inl h;right;obtain⟨B,r,d,s,t,a,v⟩:=A.us k b e;have w:l=r:=V.ref.inj (Bv (o.symm.trans a.1));subst w;have x:us.map V.int=d.map V.int:=HO.lst.inj (Bv (p.symm.trans a.2.1));refine⟨B,l,d,s,t,a,λu c=>v u c (q u ?_)⟩;have:V.int u∈us.map V.int:=by rw[x];exact Bn.mpr ⟨u,c,rfl⟩
 obtain⟨C,y,z⟩:=Bn.mp this;rw[<-V.int.inj z];exact y
theorem Ih.end_(G:SOk W qs inn ord)(T:Ih W qs inn ord X H kvs n as ts []):IL W qs inn ord as as:=by
 have b:=(T.run.aok G).1;refine⟨rfl,λ_ _ e=>e,λk q a e=>⟨none,?_,e⟩⟩;rcases T.us k (A9.mp a).1 e with h|⟨B,l,us,_,c,d,f⟩;cases h;obtain⟨g,i,j⟩:=Ii G c b d f;have:g=q:=Bv (i.symm.trans a);subst this;exact j
theorem Ih.start:Ih W qs inn ord X H [] 0 (List.replicate qs.length none) (List.replicate qs.length 0) ((List.range qs.length).map λi:Nat=>(i:Int)):=by
 refine⟨.zero,λk a=>?_,.inr (.inl rfl),λk a _=>.inl (Bn.mpr ⟨k,List.mem_range.mpr a,rfl⟩),by simp,λx b=>by cases b⟩;obtain⟨j,c,rfl⟩:=Bn.mp a;have:=List.mem_range.mp c;exact⟨j,rfl,this,by rw[List.getElem?_replicate,Ak this]⟩
theorem Nh.keep{H'':Hp}(A:Nh W qs inn ord X H kvs n as ts fs)(c:∀l vs,¬X l->H l=some (.lst vs)->H'' l=some (.lst vs)):Nh W qs inn ord X H'' kvs n as ts fs:=
 ⟨A.run,λk d e=>by
  obtain⟨B,l,us,b,f,a,g⟩:=A.us k d e
  exact⟨B,l,us,b,f,⟨a.1,c _ _ b a.2.1,a.2.2⟩,g⟩,A.ko,A.fs⟩
end
theorem Xa:∀(ps acc:List (AN×V))(k:AN),(AK (KA acc ps) k).isSome=((AK acc k).isSome || ps.any λp=>decide (p.1=k))
 |[],acc,k=>by simp[KA]
 |p::ps,acc,k=>by
   show(AK (KA (AZ acc p.1 p.2) ps) k).isSome=_;rw[Xa ps,NY,List.any_cons];by_cases e:k=p.1;rw[Ak e];simp[e];rw[Aj e];have:decide (p.1=k)=false:=DT λz=>e z.symm;rw[this];simp
theorem Ax.set{F:Addr->Prop}{H:Hp}{v:V}{d:Dt}(h:A4 F H v d):∀{vs:List V}{b:List Dt}(j:Nat),Ax F H vs b->Ax F H (vs.set j v) (b.set j d)
 |_,_,_,.nil=>.nil
 |_,_,0,.cons _ t=>.cons h t
 |_,_,j+1,.cons a t=>.cons a (Ax.set h j t)
theorem Ij{H:Hp}:∀{b:List V}{fs:CV},Ax GU H b (fs.map fD)->∃ps,Me H b ps/\ps.map (·.1)=fs.map λf=>(.inl f.1:AN)
 |_,[],.nil=>⟨[],.nil,rfl⟩
 | _,f :: fs,.cons a t=>by
   obtain⟨ps,c,d⟩:=Ij (fs:=fs) t;have g:A4 GU H _ (.tup [.int f.1,Bp (some f.2)]):=a
   cases g with
   | tup e u =>
     cases u with
     |cons x u =>
       cases u with
       |cons y u =>
         cases u with
         |nil =>
           rw[Nf x] at e;exact⟨(.inl f.1,_)::ps,.cons ⟨_,rfl,e⟩ c,by rw[DN,d];rfl⟩
theorem Xb{ps:List (AN×V)}{fs:CV}(h:ps.map (·.1)=fs.map λf=>(.inl f.1:AN))(u:Int):(AK (KA [] ps) (.inl u)).isSome=fs.any λf=>decide (f.1=u):=by
 rw[Xa];show(false || _)=_;rw[Bool.false_or];have e:(ps.any λp=>decide (p.1=(.inl u:AN)))=(ps.map (·.1)).any λk=>decide (k=(.inl u:AN)):=by rw[List.any_map];rfl
 rw[e,h,List.any_map];congr 1;funext f;show decide ((Sum.inl f.1:AN)=Sum.inl u)=decide (f.1=u);by_cases c:f.1=u;rw[A5 c,A5 (by rw[c])];rw[DT c,DT λz=>c (Sum.inl.inj z)]
theorem Xc(n:Nat)(x:α):(List.replicate n [x]).flatten=List.replicate n x:=by
 induction n with
 |zero=>rfl
 |succ n a=>rw[List.replicate_succ,List.flatten_cons,a];rfl
theorem Ml{m:Nat}(h:i<m):Pr (.int (i:Int)) ((List.range m).map λj:Nat=>V.int j)=true:=by
 unfold Pr;exact Gq.mpr ⟨.int i,Bn.mpr ⟨i,List.mem_range.mpr h,rfl⟩,by simp[Jk]⟩
theorem d7(m:Nat):(((List.range m).map λj:Nat=>V.int j).all Jj)=true:=by
 rw[List.all_map];exact List.all_eq_true.mpr λ_ _=>rfl
theorem DY.get{A:Addr}{as:List AM}(h:DY H A as){k:Nat}(f:k<as.length):∃vs v,H A=some (.lst vs)/\Bt vs (k:Int)=some v/\((as[k]?=some none/\v=.non)\/∃p t,as[k]?=some (some p)/\v=.ref t/\H t=some (.tup [.str p.1,.int p.2])):=by
 obtain⟨vs,e,h⟩:=h;have b:k<vs.length:=by rw[h.length,Al];exact f
 obtain⟨a,c,d⟩:=Ic h (AC b);refine⟨vs,_,e,BN (AC b),?_⟩
 cases a with
 |none=>exact .inl ⟨c,d.ansN⟩
 |some p =>
   obtain⟨t,g,i⟩:=d.ansS;exact .inr ⟨p,t,c,g,i⟩
end L2
theorem L2.new_at{H:L2.Hp}{a:PySem.Addr}{o:L2.HO}(h:H a=none):∃H':L2.Hp,H'=L2.upd H a o/\L2.Ac H H'/\H' a=some o:=⟨_,rfl,L2.Bb h,L2.Aa⟩
variable {i:Nat}
theorem L2.getm{α β:Type}{f:α->β}{l:List α}{x:β}(h:(l.map f)[i]?=some x):∃z,l[i]?=some z/\f z=x:=by
 rw[Bh] at h;exact Gr.mp h
namespace K44
open PySem PySem.Spec PyProof.Rows L2 Ord
local macro_rules | `(tactic| trivial) => `(tactic| exact ⟨rfl, rfl, rfl, by decide +kernel, rfl, by decide +kernel, by decide +kernel⟩)
local macro_rules | `(tactic| trivial) => `(tactic| exact ⟨rfl, by decide +kernel, by decide +kernel, by decide +kernel, rfl, by decide +kernel, by decide +kernel⟩)
theorem IP:Ag ["_law_cell", "_law_many", "_law_letters", "_law_long", "_law_at", "_law_some", "_law_k", "_law_name", "_law_j", "_law_sign"] ["_law_cell", "_law_many"] (A3 QY):=by trivial
theorem d8:Ag ["_law_script", "_law_k"] ["_law_script", "_law_k"] (A3 QZ):=by trivial
theorem Qq:Ag ["_law_number", "_law_many", "_law_some", "_law_k"] ["_law_number", "_law_many"] (A3 Q0):=by trivial
theorem Mm:Ag ["_law_cell", "_law_labels", "_law_one", "_law_other", "_law_some", "_law_j", "_law_k"] ["_law_cell", "_law_labels"] (A3 Q1):=by trivial
theorem Mn:Ag ["_law_cells", "_law_labels", "_law_states", "_law_cell", "_law_ranks_here", "_law_goes", "_law_ends", "_law_k"] ["_law_cells", "_law_labels"] (A3 Q2):=by trivial
theorem TF:Ag ["_law_cell", "_law_many", "_law_states", "_law_names_here", "_law_mixed", "_law_path"] ["_law_cell", "_law_many", "_law_states", "_law_names_here"] (A3 Q3):=by trivial
theorem Xd:Ag ["_law_cell", "_law_many", "_law_asked", "_law_number"] ["_law_cell", "_law_many", "_law_asked"] (A3 Q4):=by trivial
theorem TH:Ag ["_law_cell", "_law_labels", "_law_many", "_law_asked", "_law_label", "_law_number"] ["_law_cell", "_law_labels", "_law_many", "_law_asked"] (A3 Q5):=by trivial
theorem Qr:Ag ["_law_cell", "_law_labels", "_law_names_here", "_law_things", "_law_asked", "_law_label", "_law_number", "_law_name"] ["_law_cell", "_law_labels", "_law_names_here", "_law_things", "_law_asked"] (A3 Q6):=by trivial
theorem Ni:Ag ["_law_cells", "_law_labels", "_law_names_here", "_law_many", "_law_sizes", "_law_scopes_here", "_law_most", "_law_cell", "_law_at", "_law_number"] ["_law_cells", "_law_labels", "_law_names_here", "_law_many", "_law_sizes"] (A3 Pa):=by trivial
theorem Cr:At (A3 Pa) ["_law_cells", "_law_labels", "_law_names_here", "_law_many", "_law_sizes", "_law_scopes_here", "_law_most", "_law_cell", "_law_at", "_law_number"] {kind:=.function,names:=[(".0",.local),("_law_k",.local)],isGenerator:=false,isCoroutine:=false,more:=[]:PySem.Scope} ["_law_k"] 1 []:=by trivial
theorem G8:Ag ["_law_script", "_law_names_here", "_law_labels", "_law_table_here", "_law_head", "_law_many", "_law_cells", "_law_things", "_law_questions", "_law_asked", "_law_cell", "_law_scopes_here"] ["_law_script"] (A3 Nt):=by trivial
theorem CY:At (A3 Nt) ["_law_script", "_law_names_here", "_law_labels", "_law_table_here", "_law_head", "_law_many", "_law_cells", "_law_things", "_law_questions", "_law_asked", "_law_cell", "_law_scopes_here"] {kind:=.function,names:=[ (".0",.local),("_law_k",.local),("_law_cell_at",.globalImplicit),("_law_script",.free)],isGenerator:=false,isCoroutine:=false,more:=[]:PySem.Scope} ["_law_k", "_law_script"] 1 [0]:=by trivial
theorem CZ:At (A3 Nt) ["_law_script", "_law_names_here", "_law_labels", "_law_table_here", "_law_head", "_law_many", "_law_cells", "_law_things", "_law_questions", "_law_asked", "_law_cell", "_law_scopes_here"] {kind:=.function,names:=[(".0",.local),("_law_cell",.local)],isGenerator:=false,isCoroutine:=false,more:=[]:PySem.Scope} ["_law_cell"] 1 []:=by trivial
theorem Qs:Ag ["table", "state", "label", "goes", "known", "number"] ["table", "state", "label"] (A3 Q7):=by trivial
theorem Qt:Ag ["net", "answers", "question", "answer", "kind", "number"] ["net", "answers", "question"] (A3 Q8):=by trivial
theorem TJ:Ag ["net", "answers", "thing", "kind", "number"] ["net", "answers", "thing"] (A3 Q9):=by trivial
theorem OE:Ag ["net", "answers", "step", "label", "kind", "number", "answer"] ["net", "answers", "step"] (A3 Ra):=by trivial
theorem Mo:Ag ["net", "answers", "table", "scope", "state", "gone", "index", "step", "after", "kind", "number"] ["net", "answers", "table", "scope", "state"] (A3 Rb):=by trivial
theorem IQ:Ag ["net", "answers", "table", "beginning", "marks", "last", "then", "come_to", "longer", "mark", "kind", "number", "after"] ["net", "answers", "table", "beginning"] (A3 Pb):=by trivial
theorem BE:At (A3 Pb) ["net", "answers", "table", "beginning", "marks", "last", "then", "come_to", "longer", "mark", "kind", "number", "after"] {kind:=.function,names:=[(".0",.local),("mark",.local)],isGenerator:=false,isCoroutine:=false,more:=[]:PySem.Scope} ["mark"] 1 []:=by trivial
theorem Qv:Ag ["net", "answers", "table", "scope", "state", "found", "place"] ["net", "answers", "table", "scope", "state"] (A3 Rc):=by trivial
theorem Xe:Ag ["table", "state", "label", "ends"] ["table", "state", "label"] (A3 Re):=by trivial
theorem Mp:Ag ["net", "table", "begun", "name", "ways", "marks", "last", "then", "index", "telling"] ["net", "table", "begun", "name"] (A3 Rf):=by trivial
theorem d9:Ag ["table"] ["table"] (A3 Pc):=by trivial
theorem Cc:At (A3 Pc) ["table"] {kind:=.function,names:=[(".0",.local),("pair",.local)],isGenerator:=false,isCoroutine:=false,more:=[]:PySem.Scope} ["pair"] 1 []:=by trivial
theorem Mq:Ag ["ways", "tree", "number", "way", "branch", "mark"] ["ways"] (A3 Rg):=by trivial
theorem Nj:Ag ["net", "mark", "scope", "kind", "index", "steps", "tellings"] ["net", "mark"] (A3 Rh):=by trivial
theorem Mr:Ag ["net", "better", "tree", "way", "numbers", "branch", "mark", "label", "beside"] ["net", "better", "tree", "way"] (A3 Ri):=by trivial
theorem TK:Ag ["net", "table", "ways", "better", "tree"] ["net", "table", "ways"] (A3 Pd):=by trivial
theorem C0:At (A3 Pd) ["net", "table", "ways", "better", "tree"] {kind:=.function,names:=[ (".0",.local),("way",.local),("first_hider",.globalImplicit),("list",.globalImplicit),("better",.free),("net",.free),("tree",.free)],isGenerator:=false,isCoroutine:=false,more:=[]:PySem.Scope} ["way", "net", "better", "tree"] 1 [0,3,4]:=by trivial
theorem Xf:Ag ["net", "table", "begun", "name", "found"] ["net", "table", "begun", "name"] (A3 Rj):=by trivial
theorem OF:Ag ["net", "table", "found", "owed", "better", "tree", "way", "question"] ["net", "table", "found", "owed"] (A3 Rk):=by trivial
theorem OG:Ag ["net", "mark", "scope", "kind", "index", "tellings"] ["net", "mark"] (A3 Rl):=by trivial
theorem Nk:Ag ["net", "answers", "seen", "way", "label", "name", "kind", "number"] ["net", "answers", "seen"] (A3 Rm):=by trivial
theorem Ms:Ag ["net", "answers", "way", "label", "name", "kind", "number"] ["net", "answers", "way"] (A3 Rn):=by trivial
theorem J7:Ag ["net", "answers", "table", "owed", "look", "at", "begun", "found", "seen", "waiting", "way", "question", "meanings"] ["net", "answers", "table", "owed", "look", "at"] (A3 MS):=by trivial
theorem GC:At (A3 MS) ["net", "answers", "table", "owed", "look", "at", "begun", "found", "seen", "waiting", "way", "question", "meanings"] {kind:=.function,names:=[ (".0",.local),("way",.local),("meaning",.globalImplicit),("answers",.free),("net",.free)],isGenerator:=false,isCoroutine:=false,more:=[]:PySem.Scope} ["way", "net", "answers"] 1 [0,1]:=by trivial
theorem GD:At (A3 MS) ["net", "answers", "table", "owed", "look", "at", "begun", "found", "seen", "waiting", "way", "question", "meanings"] {kind:=.function,names:=[(".0",.local),("thing",.local)],isGenerator:=false,isCoroutine:=false,more:=[]:PySem.Scope} ["thing"] 1 []:=by trivial
theorem GF:At (A3 MS) ["net", "answers", "table", "owed", "look", "at", "begun", "found", "seen", "waiting", "way", "question", "meanings"] {kind:=.function,names:=[ (".0",.local),("thing",.local),("meanings",.free)],isGenerator:=false,isCoroutine:=false,more:=[]:PySem.Scope} ["thing", "meanings"] 1 [12]:=by trivial
theorem J8:Ag ["net", "answers", "table", "begun", "ways", "marks", "last", "then", "mark", "kind", "number", "after"] ["net", "answers", "table", "begun"] (A3 Ro):=by trivial
theorem Gj:Ag ["net", "answers", "table", "asked", "scope", "state", "path", "looks", "things", "at", "name", "begun", "answer", "wait", "kind", "number"] ["net", "answers", "table", "asked"] (A3 Rp):=by trivial
theorem TM:Ag ["net", "thing", "kind", "number"] ["net", "thing"] (A3 Rq):=by trivial
theorem eA:Ag ["net", "answer"] ["net", "answer"] (A3 Rr):=by trivial
theorem KR:Ag ["net", "answers", "table", "begun", "questions", "marks", "last", "then", "label", "kind", "number"] ["net", "answers", "table", "begun"] (A3 Rs):=by trivial
theorem Mt:Ag ["net", "found", "questions", "way", "label", "name", "kind", "number"] ["net", "found"] (A3 Rt):=by trivial
theorem Nl:Ag ["net", "answers", "table", "looks", "things", "questions", "begun", "found", "seen", "thing"] ["net", "answers", "table", "looks", "things"] (A3 Ru):=by trivial
theorem Mu:Ag ["net", "answers", "table", "due", "uses", "found", "question", "answer", "wait", "looks", "things"] ["net", "answers", "table", "due", "uses"] (A3 Rv):=by trivial
theorem eF:Ag ["questions", "new"] ["questions", "new"] (A3 Pe):=by trivial
theorem Dq:At (A3 Pe) ["questions", "new"] {kind:=.function,names:=[ (".0",.local),("question",.local),("new",.free)],isGenerator:=false,isCoroutine:=false,more:=[]:PySem.Scope} ["question", "new"] 1 [1]:=by trivial
theorem Xg:Ag ["net", "answers", "table", "answered", "question"] ["net", "answers", "table", "answered"] (A3 Rw):=by trivial
theorem G9:Ag ["net", "table", "known", "those", "answers", "turns", "uses", "due", "turn", "found", "question", "answer", "new"] ["net", "table", "known", "those"] (A3 MT):=by trivial
theorem CJ:At (A3 MT) ["net", "table", "known", "those", "answers", "turns", "uses", "due", "turn", "found", "question", "answer", "new"] {kind:=.function,names:=[ (".0",.local),("question",.local),("answer",.local),("those",.free)],isGenerator:=false,isCoroutine:=false,more:=[]:PySem.Scope} ["question", "answer", "those"] 2 [3]:=by trivial
theorem DZ:At (A3 MT) ["net", "table", "known", "those", "answers", "turns", "uses", "due", "turn", "found", "question", "answer", "new"] {kind:=.function,names:=[ (".0",.local),("question",.local),("uses_one",.globalImplicit),("answers",.free),("new",.free),("uses",.free)],isGenerator:=false,isCoroutine:=false,more:=[]:PySem.Scope} ["question", "new", "answers", "uses"] 1 [12,4,6]:=by trivial
theorem D0:At (A3 MT) ["net", "table", "known", "those", "answers", "turns", "uses", "due", "turn", "found", "question", "answer", "new"] {kind:=.function,names:=[ (".0",.local),("question",.local),("answers",.free)],isGenerator:=false,isCoroutine:=false,more:=[]:PySem.Scope} ["question", "answers"] 1 [4]:=by trivial
theorem Xh:Ag ["net", "table", "many"] ["net", "table"] (A3 Rx):=by trivial
theorem Nm:Ag ["_law_cell", "_law_net", "_law_number", "_law_some", "_law_question_here", "_law_at"] ["_law_cell", "_law_net"] (A3 Ry):=by trivial
theorem OH:Ag ["net", "answers", "table", "question", "answer", "wait", "looks", "things"] ["net", "answers", "table", "question"] (A3 Rz):=by trivial
theorem TN:Ag ["_law_found", "_law_due", "_law_one", "_law_other"] ["_law_found", "_law_due"] (A3 Nu):=by trivial
theorem TQ:Ag ["_law_known", "_law_answers_here", "_law_one", "_law_other"] ["_law_known", "_law_answers_here"] (A3 RA):=by trivial
theorem Ik:Ag ["_law_script", "_law_net", "_law_table_here", "_law_answers_here", "_law_kept", "_law_known", "_law_turn", "_law_after", "_law_k"] ["_law_script"] (A3 ID):=by trivial
theorem GG:At (A3 ID) ["_law_script", "_law_net", "_law_table_here", "_law_answers_here", "_law_kept", "_law_known", "_law_turn", "_law_after", "_law_k"] {kind:=.function,names:=[ (".0",.local),("_law_k",.local),("int",.globalImplicit),("_law_kept",.free),("_law_known",.free)],isGenerator:=false,isCoroutine:=false,more:=[]:PySem.Scope} ["_law_k", "_law_known", "_law_kept"] 1 [5,4]:=by trivial
theorem GH:At (A3 ID) ["_law_script", "_law_net", "_law_table_here", "_law_answers_here", "_law_kept", "_law_known", "_law_turn", "_law_after", "_law_k"] {kind:=.function,names:=[ (".0",.local),("_law_k",.local),("find",.globalImplicit),("_law_known",.free),("_law_net",.free),("_law_table_here",.free)],isGenerator:=false,isCoroutine:=false,more:=[]:PySem.Scope} ["_law_k", "_law_net", "_law_known", "_law_table_here"] 1 [1,5,2]:=by trivial
structure BH (mg:Str->Option Value):Prop where
 b_all:mg "all" = none
 b_any:mg "any" = none
 b_bool:mg "bool" = none
 b_dict:mg "dict" = none
 b_enumerate:mg "enumerate" = none
 b_int:mg "int" = none
 b_isinstance:mg "isinstance" = none
 b_len:mg "len" = none
 b_list:mg "list" = none
 b_min:mg "min" = none
 b_range:mg "range" = none
 b_set:mg "set" = none
 b_sorted:mg "sorted" = none
 b_str:mg "str" = none
 b_tuple:mg "tuple" = none
 b_zip:mg "zip" = none
 c_MOST_BEGINNINGS:∃t,mg "MOST_BEGINNINGS" = some (.int 200 t)
variable {us:List Value}
theorem Il(h:us.length=1):∃a,us=[a]:=by
 cases us with
 |nil=>cases h
 |cons a t=>exact⟨a,by rw[List.length_eq_zero_iff.mp (Nat.succ.inj h)]⟩
theorem Im(h:us.length=2):∃a b,us=[a,b]:=by
 cases us with
 |nil=>cases h
 |cons a t =>
   obtain⟨b,rfl⟩:=Il (Nat.succ.inj h);exact⟨a,b,rfl⟩
theorem KS(h:us.length=3):∃a b c,us=[a,b,c]:=by
 cases us with
 |nil=>cases h
 |cons a t =>
   obtain⟨b,c,rfl⟩:=Im (Nat.succ.inj h);exact⟨a,b,c,rfl⟩
theorem KU(h:us.length=4):∃a b c d,us=[a,b,c,d]:=by
 cases us with
 |nil=>cases h
 |cons a t =>
   obtain⟨b,c,d,rfl⟩:=KS (Nat.succ.inj h);exact⟨a,b,c,d,rfl⟩
theorem KW(h:us.length=5):∃a b c d e,us=[a,b,c,d,e]:=by
 cases us with
 |nil=>cases h
 |cons a t =>
   obtain⟨b,c,d,e,rfl⟩:=KU (Nat.succ.inj h);exact⟨a,b,c,d,e,rfl⟩
theorem KX(h:us.length=6):∃a b c d e f,us=[a,b,c,d,e,f]:=by
 cases us with
 |nil=>cases h
 |cons a t =>
   obtain⟨b,c,d,e,f,rfl⟩:=KW (Nat.succ.inj h);exact⟨a,b,c,d,e,f,rfl⟩
open PySem PySem.Spec PyProof.Rows L2 in
theorem B1{P:Program}{w:World}{K:Ah}{g:Str->Option Value}{l:Heap}{x e:Str}{st:Stmt}{f:Addr}{i:FuncData}{N ps:List Str}{k:Nat}{sp:Sp}(F:Br K x e st f i)(m:g x=some (.ref f))(S:Ag N ps (A3 st))(len:∀vs H Q E,sp vs H Q E->vs.length=ps.length)
  (u:∀(d:Value)(A:Around)(v:List Env)(s:Shared)(H:Hp)(vs:List V)(Q:VK)(E:XK),B2 k (A.deeper (envOfC e (A3 st) s.heap.objs.size f d))->sp vs H Q E -> ∃t,Ga (AG IH P w K g l N e (A3 st) f d A v s H E).nox (IC st) t/\t {nx:=λ_ H'=>Q .non H',rt:=Q} (start N vs) H)
  (n:∀(kV r o:Value)(p:Option Addr)(d ct:Value)(us:List Value),us.length=ps.length->bindArgs (PySem.W.fnOf x e (Kt st) (IC st) (A3 st) .none kV r o p d ct) ⟨us,[]⟩=pure (ps.zip us):=by intro _ _ _ _ _ _ us a;first|(obtain⟨b,rfl⟩:=Il a;rfl)|(obtain⟨b,c,rfl⟩:=Im a;rfl)|(obtain⟨b,c,h,rfl⟩:=KS a;rfl)|(obtain⟨b,c,h,j,rfl⟩:=KU a;rfl)|(obtain⟨b,c,h,j,q,rfl⟩:=KW a;rfl)|(obtain⟨b,c,h,j,q,y,rfl⟩:=KX a;rfl)):BG P w K g l x (k+1) ps sp:=⟨f,i,F.ok S len u,m,F.kp,F.binds n⟩
theorem OI(h:us.length=7):∃a b c d e f g,us=[a,b,c,d,e,f,g]:=by
 cases us with
 |nil=>cases h
 |cons a t =>
   obtain⟨b,c,d,e,f,g,rfl⟩:=KX (Nat.succ.inj h);exact⟨a,b,c,d,e,f,g,rfl⟩
theorem Xi(h:us.length=8):∃a b c d e f g i,us=[a,b,c,d,e,f,g,i]:=by
 cases us with
 |nil=>cases h
 |cons a t =>
   obtain⟨b,c,d,e,f,g,i,rfl⟩:=OI (Nat.succ.inj h);exact⟨a,b,c,d,e,f,g,i,rfl⟩
section
set_option maxHeartbeats 4000000
seal L2.PE L2.PA L2.PS L2.Ga L2.PT L2.PW L2.PC L2.PG L2.NF L2.PI L2.PF L2.I0 L2.DJ L2.Pj L2.A7 L2.NR L2.IG L2.RY L2.PO
variable {P:Program} {w:World} {K:Ah} {mg:Str->Option Value} {base:Heap} {f:Addr} {fd:FuncData}
theorem Xj:(("abcdefghijklmnopqrstuvwxyz" : Str)).cps.toList.length=26:=by decide +kernel
theorem Qw(w:Str)(c:Nat):(w++(⟨#[c]⟩:Str)).length=w.length+1:=by
 show(w.cps++#[c]).size=w.cps.size+1
 simp
theorem Mv:∀n,n<26->(("abcdefghijklmnopqrstuvwxyz" : Str)).cps.toList[n]?=some (97+n):=by decide +kernel
theorem Xk(n:Int):Bt (("abcdefghijklmnopqrstuvwxyz" : Str)).cps.toList (n%26)=some (97+(n%26).toNat):=by
 have a:=EK n (by decide:(26:Int)≠0);have c:=EZ n (by decide:(0:Int)<26);obtain⟨k,b⟩:=DH a;rw[b,Bl];exact BN (Mv k (by omega))
theorem eH(w:Str)(c:Nat):(w++(⟨#[c]⟩:Str)).cps.toList=w.cps.toList++[c]:=by
 show(w.cps++#[c]).toList=_
 simp
abbrev GV (n:Int):Str:=⟨#[97+(n%26).toNat]⟩
def Mw (c:Int) (k j:Nat):Int:=c/(64+3*(j:Int))+(j:Int)*(c/64%2)+(k:Int)*(if(j:Int)=c/8%(1+c%8) then 1 else 0)
def EI (c:Int) (k:Nat):Nat->Str
 |0 => ""
 |j+1=>EI c k j++GV (Mw c k j)
def F6 (c:Int) (m:Nat):List Str:=(List.range m).map λk=>EI c k (1+c%8).toNat
def GW (c:Int) (m:Nat):List Str:=if c/128%3=1/\1+c%8<8 then(F6 c m).set 1 (EI c 0 (1+c%8).toNat++GV (c/384)) else F6 c m
theorem J9(c:Int)(k:Nat):∀j,(EI c k j).length=j
 |0=>show("" : Str).length=0 by decide +kernel
 |j+1=>by
   show(EI c k j++GV (Mw c k j)).length=j+1;rw[Qw,J9 c k j]
theorem TR(c:Int)(k:Nat){a:Nat}:∀{j:Nat},a<j->(EI c k j).cps.toList[a]?=some (97+(Mw c k a%26).toNat)
 |0,h=>absurd h (Nat.not_lt_zero _)
 |j+1,h=>by
   show(EI c k j++GV (Mw c k j)).cps.toList[a]?=_;rw[eH];have b:(EI c k j).cps.toList.length=j:=by rw[Array.length_toList];exact J9 c k j
   by_cases d:a<j;rw[EJ (by rw[b];exact d)];exact TR c k d;have e:a=j:=(by omega);subst e;rw[EY (by rw[b];exact AB _),b,Nat.sub_self];rfl
theorem OJ(c:Int)(m:Nat):(F6 c m).length=m:=by unfold F6;rw[Al,List.length_range]
theorem Nn(c:Int)(m:Nat):(GW c m).length=m:=by
 unfold GW
 split;rw[FW,OJ];exact OJ c m
variable {c:Int}
theorem Mx{j:Nat}(l:i<26)(m:j<26)(h:EI c i (1+c%8).toNat=EI c j (1+c%8).toNat):i=j:=by
 have g:=EK (c/8) (show(1+c%8)≠0 by omega);have n:=EZ (c/8) (show 0<1+c%8 by omega);obtain⟨a,k⟩:=DH g;have f:a<(1+c%8).toNat:=(by omega);have e:=TR c i f;rw[h,TR c j f] at e;have d:=Bv e;unfold Mw at d;rw[Ak k.symm] at d;generalize c/(64+3*(a:Int))+(a:Int)*(c/64%2)=b at d;omega
variable {m:Nat}
theorem Io(d:m<=26):(F6 c m).Nodup:=by
 unfold F6;refine List.pairwise_iff_getElem.mpr λi j a b f e=>?_;rw[Al,List.length_range] at a b;rw[List.getElem_map,List.getElem_map,List.getElem_range,List.getElem_range] at e;have:=Mx (by omega) (by omega) e;omega
theorem eI:∀y∈F6 c m,y.length=(1+c%8).toNat:=λy a=>by
 obtain⟨k,_,rfl⟩:=Bn.mp a;exact J9 _ _ _
theorem Xl(a:m<=26):(GW c m).Nodup:=by
 unfold GW
 split;refine List.pairwise_iff_getElem.mpr λi j f g h e=>?_;rw[FW,OJ] at f g;have d:∀(k:Nat)(b:k<(F6 c m).length),(F6 c m)[k].length=(1+c%8).toNat:=λk b=>eI _ (D9 b);rw[List.getElem_set,List.getElem_set] at e;split at e;rw[Aj (by omega)] at e;have:=BI Str.length e;rw[Qw,J9,d] at this;omega;split at e;have:=BI Str.length e;rw[Qw,J9,d] at this;omega;exact absurd e ((List.pairwise_iff_getElem.mp (Io (c:=c) a)) i j _ _ h);exact Io a
theorem eJ{k:Nat}:(EI c k (1+c%8).toNat).length<=8:=by rw[J9];omega
set_option tactic.hygienic true in
theorem KY:∀x∈GW c m,x.length<=8:=by
 intro x a;unfold GW at a
 have b:∀y∈F6 c m,y.length<=8:=λy d=>by
  obtain⟨k,_,rfl⟩:=Bn.mp d;exact eJ
 split at a;rename_i e;rcases List.mem_or_eq_of_mem_set a with h|rfl;exact b x h;rw[Qw,J9];omega;exact b x a
inductive Dr (K:Ah) (vs:List V) (H:Hp) (Q:VK):Prop where
 |mk (c:Int) (m:Nat) (h0:vs=[.int c,.int m]) (h1:2<=m) (h2:m<=26) (h3:∀(L:Addr)(H':Hp),H L=none->Ac H H'->H' L=some (.lst ((GW c m).map V.str))->Q (.ref L) H'):Dr K vs H Q
def eK (K:Ah):Sp:=λvs H Q _=>Dr K vs H Q
variable (P w K mg base) in
abbrev TU:Prop:=BG P w K mg base "_law_names" 1 ["_law_cell", "_law_many"] (eK K)
theorem eQ(B:BH mg)(F:Br K "_law_names" "_law_names" QY f fd)(N:mg "_law_names" = some (.ref f)):TU P w K mg base:=by
 refine B1 F N IP (λO H Q E h=>?_) (λae A ag s H O Q E hr h=>?_);obtain⟨c,m,rfl,_⟩:=h;rfl
 . obtain⟨c,m,rfl,m0,m9,q⟩:=h
   refine⟨_,(Am (AQ (i:=2) IP.nd BZ)
    (Am (AQ (i:=3) IP.nd (AA Hj Ai (AA Bf (pv 0) Ai)))
    (Am (AQ (i:=4) IP.nd (AA Bf (AA EN (pv 0) Ai) (pv 3)))
    (Am (AQ (i:=5) IP.nd (Cp Ae))
    (Am (CB Cm rfl (Hi rfl B.b_range (Ab (pv 1) Ae)) (Ay (i:=6) IP.nd) (Am (AQ (i:=7) IP.nd BZ)
     (Am (CB Cm rfl (Hi rfl B.b_range (Ab (pv 3) Ae)) (Ay (i:=8) IP.nd) (Am (AQ (i:=9) IP.nd (AA Hj (AA EN (pv 0) (AA Hj Ai (AA EG Ai (pv 8)))) (AA EG (pv 8) (AA Bf (AA EN (pv 0) Ai) Ai))))
      (Au (AQ (i:=7) IP.nd (AA UQ (pv 7) (AE AF (pv 2) (AA Bf (AA Hj (pv 9) (AA EG (pv 6) (G1 RS B.b_int (Ab (Jb CC (pv 8) (pv 4) (Bw _)) Ae)))) Ai)))))))
     (Au (Df (Dj DI Ep Er Eu (pv 5) (Ab (pv 7) Ae)))))))
    (Am (Bm (PW.pt (Gw (BJ CC (AA Bf (AA EN (pv 0) Ai) Ai) Ai (Bw _)) (Gv (BJ GO (pv 3) Ai (Bw _))))) (Au (Eb (AA UQ (AE AF (pv 5) Ai) (AE AF (pv 2) (AA Bf (AA EN (pv 0) Ai) Ai))) (Pg (pv 5) Ai R1))) Bo)
    (Au (AX (pv 5))))))))),?_⟩
   (try dsimp only[AG,Cx.nox,Cx.wish]);refine Sj ?_;(try dsimp only);refine⟨(by show(0:Int)<8;decide),?_⟩;(try dsimp only);have z0:1<=1+c%8/\1+c%8<=8:=(by omega);refine⟨⟨by decide,by decide⟩,(by show 0<1+c%8;omega),?_⟩;(try dsimp only);refine⟨by decide,λL t=>?_⟩;obtain⟨aa,U,R,W⟩:=new_at (o:=.lst []) t;rw[<-U];refine⟨by omega,by omega,Kw (lo:=0) (n:=m) (λi σ g=>∃u v a d,σ=[some (.int c),some (.int m),some (.str "abcdefghijklmnopqrstuvwxyz"),some (.int (1+c%8)),some (.int (c/8%(1+c%8))),some (.ref L),u,v,a,d]/\Ac H g/\g L=some (.lst ((F6 c i).map V.str))) ⟨none,none,none,none,rfl,R,W⟩ ?_ ?_⟩;rotate_left
   . refine λσ M G=>AL λS r=>?_
     obtain⟨u,v,a,d,rfl,p,l⟩:=G;refine r ?_;clear r;(try dsimp only);refine HA (λσ' g=>σ'=[some (.int c),some (.int m),some (.str "abcdefghijklmnopqrstuvwxyz"),some (.int (1+c%8)),some (.int (c/8%(1+c%8))),some (.ref L),u,v,a,d]/\Ac H g/\g L=some (.lst ((GW c m).map V.str))) ?_ (λab x=>?_)
     case refine_2 =>
      refine⟨⟨by decide,by decide⟩,(by show(0:Int)<3;decide),rfl,rfl,Ao (λy=>?_) (λy=>Bg ?_)⟩;rotate_left;have I:¬c/128%3=1:=λe=>y (A5 (by show V.int (c/128%3)=V.int 1;rw[e]));refine x _ _ ⟨rfl,p,?_⟩
      unfold GW
      rw[Aj λz=>I z.1];exact l;have I:c/128%3=1:=V.int.inj (Bi y);refine⟨rfl,Ao (λC=>?_) (λC=>?_)⟩;rotate_left;have J:¬1+c%8<8:=λe=>C (A5 e);refine x _ _ ⟨rfl,p,?_⟩
      unfold GW
      rw[Aj λz=>J z.2];exact l;have J:1+c%8<8:=Bi C;have hl:(F6 c m).length=m:=OJ c m
      have X:(F6 c m)[0]?=some (EI c 0 (1+c%8).toNat):=by
       unfold F6;rw[Bh,List.getElem?_range (by omega)];rfl
      have Y:Bt ((F6 c m).map V.str) 0=some (V.str (EI c 0 (1+c%8).toNat)):=BN (j:=0) (by rw[Bh,X];rfl);refine Or.inl ⟨_,.str (EI c 0 (1+c%8).toNat),Af.of l,Y,⟨by decide,by decide⟩,(by show(0:Int)<26;decide),Or.inr (Or.inr ⟨_,_,_,rfl,rfl,by decide +kernel,Xk (c/384),EI c 0 (1+c%8).toNat,_,rfl,rfl,?_,L,_,_,1,rfl,rfl,l,?_,?_⟩)⟩;show(EI c 0 (1+c%8).toNat).length+1<=sizeLine;rw[J9];exact Di (BC (by omega));exact Sk (k:=1) (by decide) (by rw[Al];omega);refine x _ _ ⟨rfl,λb o e=>?_,?_⟩;rw[AD (AH e t)];exact p _ _ e
      unfold GW
      rw[Aa,Ak ⟨I,J⟩,List.map_set]
     rintro σ' D ⟨rfl,T,Z⟩;exact q L D t T Z
   refine λi σ M hi G=>AL λS r=>?_;obtain⟨u,v,a,d,rfl,p,l⟩:=G;refine r ?_;clear r;refine Sj ?_;(try dsimp only);refine⟨by omega,by omega,Kw (lo:=0) (n:=(1+c%8).toNat) (λj σ g=>∃(a d:Option V),σ=[some (.int c),some (.int m),some (.str "abcdefghijklmnopqrstuvwxyz"),some (.int (1+c%8)),some (.int (c/8%(1+c%8))),some (.ref L),some (.int (0+(i:Int))),some (.str (EI c i j)),a,d]/\g=M) ⟨_,_,rfl,rfl⟩ ?_ ?_⟩;rotate_left;rintro σ D ⟨a,d,rfl,rfl⟩;refine⟨Or.inl ⟨rfl,_,Af.of l⟩,_,l,by rw[Al,OJ];exact BC (by omega),?_⟩;refine⟨_,_,_,_,rfl,λb o e=>?_,?_⟩;rw[AD (AH e t)];exact p _ _ e;rw[Aa];unfold F6;rw[List.range_succ,Bk,Bk];rfl;rintro j σ D hj ⟨a,d,rfl,rfl⟩;have af:j<8:=(by omega);refine⟨Or.inl ⟨by omega,by omega⟩,⟨by omega,by omega⟩,⟨by decide,by decide⟩,(by show(0:Int)<2;decide),Or.inl ⟨by omega,by omega⟩,?_⟩;refine⟨rfl,Or.inr ⟨_,rfl,Or.inl ⟨by omega,by omega⟩,(by show(0:Int)<26;decide),Or.inr (Or.inr ⟨_,_,_,rfl,rfl,by decide +kernel,Xk _,EI c i j,_,rfl,rfl,?_,?_⟩)⟩⟩;show(EI c i j).length+1<=sizeLine;rw[J9];exact Di (BC (by omega));refine⟨some (.int (0+(j:Int))),some (.int (c/(64+3*(0+(j:Int)))+(0+(j:Int))*(c/64%2))),?_,rfl⟩
   have e:EI c i (j+1)=EI c i j++GV (c/(64+3*(0+(j:Int)))+(0+(j:Int))*(c/64%2)+(0+(i:Int))*(if decide (V.int (0+(j:Int))=V.int (c/8%(1+c%8)))=true then 1 else 0)):=by
    show EI c i j++GV (Mw c i j)=_;unfold Mw;simp only[Int.zero_add,decide_eq_true_eq,V.int.injEq]
   rw[e];rfl
variable {ns:List Int}
theorem eR{k:Int}(b:0<=k)(c:k<ns.length):Bt (ns.map V.int) k=some (V.int (ER ns k)):=by
 obtain⟨n,rfl⟩:=DH b;have a:n<ns.length:=(by omega);refine BN ?_;rw[Bh,AC a];show some (V.int ns[n])=some (V.int ((ns[((n:Int)).toNat]?).getD 0));rw[Bl,AC a];rfl
theorem eS{k:Int}(a:0<=k)(b:¬k<ns.length):ER ns k=0:=by
 unfold ER;rw[GK (by omega)];rfl
def eV (K:Ah):Sp:=λvs H Q _=>∃a ns k,vs=[.ref a,.int k]/\0<=k/\Af K H a (ns.map V.int)/\Q (.int (ER ns k)) H
variable (P w K mg base) in
abbrev OK:Prop:=BG P w K mg base "_law_cell_at" 1 ["_law_script", "_law_k"] (eV K)
theorem eW(B:BH mg)(F:Br K "_law_cell_at" "_law_cell_at" QZ f fd)(g:mg "_law_cell_at" = some (.ref f)):OK P w K mg base:=by
 refine B1 F g d8 (λi H Q E h=>?_) (λl A m s H i Q E j h=>?_);obtain⟨a,ns,k,rfl,_⟩:=h;rfl;obtain⟨a,ns,k,rfl,d,e,q⟩:=h
 refine⟨_,(Am (Bm (BJ GO (pv 1) (BM DK B.b_len (Ab (pv 0) Ae)) (Bw _)) (Au (AX (AE AF (pv 0) (pv 1)))) Bo)
  (Au (AX Ai))),?_⟩
 (try dsimp only[AG,Cx.nox,Cx.wish]);refine⟨_,Or.inl ⟨_,e,rfl⟩,rfl,?_⟩;rw[Al];refine Ao (λb=>?_) (λc=>?_);have b:=Bi b;exact Or.inl ⟨_,_,e,eR d b,q⟩;have c:¬k<(ns.length:Int):=λz=>c (A5 z);show Q (.int 0) H;rw[eS d c] at q;exact q
def OL (n:Int):Nat->Int
 |0=>n
 |k+1=>OL n k/5
def GX (n:Int) (m:Nat):List Int:=(List.range m).map λk=>OL n k%5
theorem Qx(n:Int)(m:Nat):(GX n m).length=m:=by unfold GX;rw[Al,List.length_range]
theorem eX(n:Int)(m:Nat):GX n (m+1)=GX n m++[OL n m%5]:=by unfold GX;rw[List.range_succ,Bk];rfl
theorem TV(n:Int){k:Nat}(h:k<m):(GX n m)[k]?=some (OL n k%5):=by unfold GX;rw[Bh,List.getElem?_range h];rfl
inductive Ds (K:Ah) (vs:List V) (H:Hp) (Q:VK):Prop where
 |mk (n:Int) (m:Nat) (h0:vs=[.int n,.int m]) (h1:m<=100) (h2:∀(D:Addr)(H':Hp),H D=none->Ac H H'->H' D=some (.lst ((GX n m).map V.int))->Q (.ref D) H'):Ds K vs H Q
def eY (K:Ah):Sp:=λvs H Q _=>Ds K vs H Q
variable (P w K mg base) in
abbrev Qy:Prop:=BG P w K mg base "_law_ranks" 1 ["_law_number", "_law_many"] (eY K)
theorem e8(B:BH mg)(F:Br K "_law_ranks" "_law_ranks" Q0 f fd)(j:mg "_law_ranks" = some (.ref f)):Qy P w K mg base:=by
 refine B1 F j Qq (λp H Q E h=>?_) (λy A z s H p Q E v h=>?_);obtain⟨n,m,rfl,_⟩:=h;rfl
 . obtain⟨n,m,rfl,j,q⟩:=h
   refine⟨_,(Am (AQ (i:=2) Qq.nd (Cp Ae))
    (Am (CB Cm rfl (Hi rfl B.b_range (Ab (pv 1) Ae)) (Ay (i:=3) Qq.nd) (Am (Df (Dj DI Ep Er Eu (pv 2) (Ab (AA Bf (pv 0) Ai) Ae)))
     (Au (AQ (i:=0) Qq.nd (AA EN (pv 0) Ai)))))
    (Au (AX (pv 2))))),?_⟩
   (try dsimp only[AG,Cx.nox,Cx.wish]);refine⟨by decide,λD c=>?_⟩;obtain⟨Y,t,r,u⟩:=new_at (o:=.lst []) c;rw[<-t];refine⟨by omega,by omega,Kw (lo:=0) (n:=m) (λi σ k=>∃d,σ=[some (.int (OL n i)),some (.int m),some (.ref D),d]/\Ac H k/\k D=some (.lst ((GX n i).map V.int))) ⟨none,rfl,r,u⟩ ?_ ?_⟩;rotate_left;rintro σ l ⟨d,rfl,g,a⟩;exact q D l c g a;rintro i σ l x ⟨d,rfl,g,a⟩;refine⟨Or.inl ⟨rfl,_,Af.of a⟩,(by show(0:Int)<5;decide),_,a,by rw[Al,Qx];exact BC (by omega),?_⟩;refine⟨⟨by decide,by decide⟩,?_⟩;refine⟨_,rfl,λb o e=>?_,?_⟩;rw[AD (AH e c)];exact g _ _ e;rw[Aa,eX,Bk];rfl
def EA (ls:List Str) (one oth:List Int) (j k:Nat):List (Str×Str):=if one.getD j 0<one.getD k 0/\oth.getD j 0<oth.getD k 0 then[(ls.getD j default,ls.getD k default)] else[]
def FR (ls:List Str) (one oth:List Int) (j n:Nat):List (Str×Str):=(List.range n).flatMap (EA ls one oth j)
def EU (ls:List Str) (one oth:List Int) (n:Nat):List (Str×Str):=(List.range n).flatMap λj=>FR ls one oth j ls.length
theorem Qz(ls:List Str)(one a:List Int)(j n:Nat):FR ls one a j (n+1)=FR ls one a j n++EA ls one a j n:=by unfold FR;rw[List.range_succ,List.flatMap_append];simp
theorem Xm(ls:List Str)(one a:List Int)(n:Nat):EU ls one a (n+1)=EU ls one a n++FR ls one a n ls.length:=by unfold EU;rw[List.range_succ,List.flatMap_append];simp
theorem e9(ls:List Str)(one a:List Int)(j k:Nat):(EA ls one a j k).length<=1:=by unfold EA;split<;>simp
theorem TW(ls:List Str)(one a:List Int)(j:Nat):∀n,(FR ls one a j n).length<=n
 |0=>AB _
 |n+1=>by
   rw[Qz,AV];have:=TW ls one a j n;have:=e9 ls one a j n;omega
theorem QA(ls:List Str)(one a:List Int):∀n,(EU ls one a n).length<=n*ls.length
 |0=>by simp[EU]
 |n+1=>by
   rw[Xm,AV,Nat.succ_mul];have:=QA ls one a n;have:=TW ls one a n ls.length;omega
def Gk (c:Int) (m:Nat):List Int:=GX (c*48271%2147483647) m
def FS (c:Int) (m:Nat):List Int:=if c%2=1 then GX (c*69621%2147483629) m else Gk c m
theorem Xn(c:Int)(m:Nat):(Gk c m).length=m:=Qx _ _
theorem Ka(c:Int)(m:Nat):(FS c m).length=m:=by unfold FS;split;exact Qx _ _;exact Xn _ _
structure EB (c:Int) (ls:List Str) (ord:List (Str×Str)):Prop where
 perm:ord.Perm (EU ls (Gk c ls.length) (FS c ls.length) ls.length)
 srt:ord.Pairwise (BO C8 C8).kle
variable {ls:List Str}{o:List (Str×Str)}
theorem EB.uniq{u:List (Str×Str)}(h:EB c ls o)(k:EB c ls u):o=u:=LJ (O:=BO C8 C8) (h.perm.trans k.perm.symm) h.srt k.srt
theorem EB.len(h:EB c ls o)(a:ls.length<=6):o.length<=36:=by
 have b:=h.perm.length_eq;have d:=QA ls (Gk c ls.length) (FS c ls.length) ls.length;have e:ls.length*ls.length<=6*6:=Nat.mul_le_mul a a;omega
set_option tactic.hygienic true in
theorem EB.irr(h:EB c ls o)(g:ls.Nodup)(x:Str):(x,x)∉o:=λi=>by
 have l:=h.perm.mem_iff.mp i;obtain⟨j,b,m⟩:=List.mem_flatMap.mp l;obtain⟨k,d,a⟩:=List.mem_flatMap.mp m;rw[List.mem_range] at b d;unfold EA at a;split at a;rename_i p;have e:=AY.mp a;have n:x=ls.getD j default:=BI Prod.fst e;have f:x=ls.getD k default:=BI Prod.snd e;rw[n,BY,BY,AC b,AC d] at f
 have:=(List.getElem_inj g).mp (show ls[j]=ls[k] from f)
 subst this;exact absurd p.1 (Int.lt_irrefl _);cases a
variable {x:Str}
set_option tactic.hygienic true in
theorem Ip{one d:List Int}{y:Str}(h:(x,y)∈EU ls one d ls.length):∃j k,ls[j]?=some x/\ls[k]?=some y/\one.getD j 0<one.getD k 0/\d.getD j 0<d.getD k 0:=by
 obtain⟨j,b,i⟩:=List.mem_flatMap.mp h;obtain⟨k,c,a⟩:=List.mem_flatMap.mp i;rw[List.mem_range] at b c;unfold EA at a;split at a;rename_i l;have e:=AY.mp a;have f:x=ls.getD j default:=BI Prod.fst e;have g:y=ls.getD k default:=BI Prod.snd e;rw[BY,AC b] at f;rw[BY,AC c] at g;refine⟨j,k,?_,?_,l⟩;rw[AC b,f];rfl;rw[AC c,g];rfl;cases a
theorem My{one a:List Int}{y:Str}{j k:Nat}(b:ls[j]?=some x)(c:ls[k]?=some y)(h:one.getD j 0<one.getD k 0/\a.getD j 0<a.getD k 0):(x,y)∈EU ls one a ls.length:=by
 refine List.mem_flatMap.mpr ⟨j,List.mem_range.mpr (A9.mp b).1,List.mem_flatMap.mpr ⟨k,List.mem_range.mpr (A9.mp c).1,?_⟩⟩;unfold EA;rw[Ak h,BY,BY,b,c];exact AY.mpr rfl
theorem EB.tr(h:EB c ls o)(b:ls.Nodup)(x y z:Str)(d:(x,y)∈o)(e:(y,z)∈o):(x,z)∈o:=by
 obtain⟨j,k,f,a,n,p⟩:=Ip (h.perm.mem_iff.mp d);obtain⟨g,l,i,m,q,r⟩:=Ip (h.perm.mem_iff.mp e);have:k=g:=(List.getElem?_inj (A9.mp a).1 b).mp (a.trans i.symm);subst this;exact h.perm.mem_iff.mpr (My f m ⟨by omega,by omega⟩)
theorem KZ{xs:List Int}{v:Int}(h:xs[i]?=some v):xs.getD i 0=v:=by rw[BY,h];rfl
variable {xs:List Str}
theorem Xo{v:Str}(h:xs[i]?=some v):xs.getD i default=v:=by rw[BY,h];rfl
inductive Du (K:Ah) (vs:List V) (H:Hp) (Q:VK):Prop where
 |mk (c:Int) (l:Addr) (ls:List Str) (h0:vs=[.int c,.ref l]) (h1:Af K H l (ls.map V.str)) (h2:ls.length<=6) (h3:∀(D:Addr)(ts:List Addr)(ord:List (Str×Str))(H':Hp),H D=none->Ac H H'->H' D=some (.lst (ts.map V.ref))->Cz H' ts ord->EB c ls ord->Q (.ref D) H'):Du K vs H Q
def fA (K:Ah):Sp:=λvs H Q _=>Du K vs H Q
variable (P w K mg base) in
abbrev TX:Prop:=BG P w K mg base "_law_order" 2 ["_law_cell", "_law_labels"] (fA K)
theorem fB(B:BH mg)(ag:Qy P w K mg base)(F:Br K "_law_order" "_law_order" Q1 f fd)(hm:mg "_law_order" = some (.ref f)):TX P w K mg base:=by
 refine B1 F hm Mm (λvs H a0 a3 h=>?_) (λaK aF aN aG H vs a0 a3 hr h=>?_);obtain⟨c,l,ls,rfl,_⟩:=h;rfl
 . obtain⟨c,l,ls,rfl,E,U,a4⟩:=h
   refine⟨_,(Am (AQ (i:=2) Mm.nd (A6 ag (Ab (AA Bf (AA EG (pv 0) Ai) Ai) (Ab (BM DK B.b_len (Ab (pv 1) Ae)) Ae))))
    (Am (AQ (i:=3) Mm.nd (G1 R8 B.b_list (Ab (pv 2) Ae)))
    (Am (Bm (BJ CC (AA Bf (pv 0) Ai) Ai (Bw _)) (Au (AQ (i:=3) Mm.nd (A6 ag (Ab (AA Bf (AA EG (pv 0) Ai) Ai) (Ab (BM DK B.b_len (Ab (pv 1) Ae)) Ae))))) Bo)
    (Am (AQ (i:=4) Mm.nd (Cp Ae))
    (Am (CB Cm rfl (Hi rfl B.b_range (Ab (BM DK B.b_len (Ab (pv 1) Ae)) Ae)) (Ay (i:=5) Mm.nd) (Au (CB Cm rfl (Hi rfl B.b_range (Ab (BM DK B.b_len (Ab (pv 1) Ae)) Ae)) (Ay (i:=6) Mm.nd) (Au (Bm (PW.pt (Gw (BJ GO (AE AF (pv 2) (pv 5)) (AE AF (pv 2) (pv 6)) (Bw _)) (Gv (BJ GO (AE AF (pv 3) (pv 5)) (AE AF (pv 3) (pv 6)) (Bw _))))) (Au (Df (Dj DI Ep Er Eu (pv 4) (Ab (Bs (Ab (AE AF (pv 1) (pv 5)) (Ab (AE AF (pv 1) (pv 6)) Ae))) Ae)))) Bo)))))
    (Au (AX (BM (Vv ES ES) B.b_sorted (Ab (pv 4) Ae))))))))),?_⟩
   (try dsimp only[AG,Cx.nox,Cx.wish]);refine⟨Or.inr ⟨by decide,by decide⟩,(by show(0:Int)<2147483647;decide),_,Or.inl ⟨_,E,rfl⟩,_,_,rfl,by rw[Al];omega,λy aH a8 s1 G=>?_⟩;rw[Al] at G;refine AO ?_;(try dsimp only);refine⟨y,_,rfl,Or.inl (Af.of G),λA2 ah=>?_⟩;obtain⟨H2,a9,J,e2⟩:=new_at (o:=.lst ((GX (c*48271%2147483647) ls.length).map V.int)) ah;rw[<-a9];refine AO ?_;(try dsimp only);have T:=s1.trans J;refine HA (λσ' b=>∃g,σ'=[some (.int c),some (.ref l),some (.ref y),some (.ref g),none,none,none]/\Ac H b/\b y=some (.lst ((Gk c ls.length).map V.int))/\b g=some (.lst ((FS c ls.length).map V.int))) ?_ (λaI hN=>?_);rotate_left;refine⟨(by show(0:Int)<2;decide),rfl,rfl,Ao (λp=>?_) (λp=>?_)⟩;have aa:c%2=1:=V.int.inj (Bi p);refine⟨Or.inr ⟨by decide,by decide⟩,(by show(0:Int)<2147483629;decide),_,Or.inl ⟨_,T.seq E,rfl⟩,_,_,rfl,by rw[Al];omega,λg H3 aL I e3=>?_⟩;rw[Al] at e3;refine hN _ _ ⟨g,rfl,T.trans I,I _ _ (J _ _ G),?_⟩;unfold FS;rw[Ak aa];exact e3;have aa:¬c%2=1:=λe=>p (A5 (by show V.int (c%2)=V.int 1;rw[e]));refine hN _ _ ⟨A2,rfl,T,J _ _ G,?_⟩;unfold FS;rw[Aj aa];exact e2;rintro σ' H3 ⟨g,rfl,I,ai,aj⟩;clear G e2 s1 J T a8 ah;refine⟨by decide,λD L=>?_⟩;obtain⟨W,aA,X,ak⟩:=new_at (o:=.lst []) L;rw[<-aA];refine AO ?_;(try dsimp only);have ab:=I.trans X;have al:=I.free L;have l1:=Xn c ls.length;have l2:=Ka c ls.length
   refine⟨_,Or.inl ⟨_,ab.seq E,rfl⟩,by omega,by rw[Al];omega,Kw (lo:=0) (n:=(ls.map V.str).length) (λj σ b=>∃Y r a,σ=[some (.int c),some (.ref l),some (.ref y),some (.ref g),some (.ref D),Y,r]/\Keeps (·=D) W b/\b D=some (.lst (a.map V.ref))/\Cz b a (EU ls (Gk c ls.length) (FS c ls.length) j))
    ⟨none,none,[],rfl,Keeps.refl λx o m e=>by rw[m,ak] at e;exact⟨_,(Bv e).symm⟩,ak,Cz.nil⟩ ?_ ?_⟩
   rotate_left;refine λσ Z u=>AL λNz d=>?_;obtain⟨Y,r,a,rfl,M,ae,N⟩:=u;refine d ?_;clear d;rw[Al] at N;obtain⟨zs,z1,z2,z3⟩:=VQ N
   have lz:zs.length<=36:=by
    have p:=BI List.length z2;rw[Al] at p;have O:=QA ls (Gk c ls.length) (FS c ls.length) ls.length;have Q:ls.length*ls.length<=6*6:=Nat.mul_le_mul U U;omega
   refine⟨D,zs,rfl,Af.of (by rw[z1];exact ae),by omega,λz hz=>?_,λO2 af hp hw an=>?_⟩;obtain⟨t,a1,a2⟩:=z3 z hz;exact⟨t,a1,Aq.of a2⟩;have ao:Ac H Z:=λaJ o e=>M.at_ _ _ (ab _ _ e) (AH e al);have s6:=Bb (o:=.lst (af.map (·.1))) an;obtain⟨aB,t1,t2⟩:=VR (H:=Z) (zs:=af) λz hz=>z3 z (hp.mem_iff.mp hz);refine a4 O2 aB (af.map (·.2)) _ (ao.free an) (ao.trans s6) (by rw[Aa,t1]) (t2.same s6) ⟨?_,hw⟩;rw[<-z2];exact hp.map _;refine λj σ Z R u=>AL λNz d=>?_;obtain⟨Y,r,a,rfl,M,ae,N⟩:=u;refine d ?_;clear d;refine Gi ?_;intro Nx Cy;rw[Al] at R;refine AO ?_;(try dsimp only);have aq:∀{b:Hp},Keeps (·=D) W b->Ac H b:=λk x o e=>k.at_ _ _ (ab _ _ e) (AH e al);have aC:y≠D:=AH ai L;have aD:g≠D:=AH aj L
   refine⟨_,Or.inl ⟨_,(aq M).seq E,rfl⟩,by omega,by rw[Al];omega,Kw (lo:=0) (n:=(ls.map V.str).length) (λk σ b=>∃r a,σ=[some (.int c),some (.ref l),some (.ref y),some (.ref g),some (.ref D),some (.int (0+(j:Int))),r]/\Keeps (·=D) W b/\b D=some (.lst (a.map V.ref))/\Cz b a (EU ls (Gk c ls.length) (FS c ls.length) j++FR ls (Gk c ls.length) (FS c ls.length) j k))
    ⟨_,a,rfl,M,ae,by unfold FR;simpa using N⟩ ?_ ?_⟩
   rotate_left;refine λσ H6 u=>AL λNz d=>?_;obtain⟨r,a,rfl,q,C,s⟩:=u;refine d ?_;clear d;rw[Al] at s;exact⟨_,_,a,rfl,q,C,by rw[Xm];exact s⟩;refine λk σ H6 S u=>AL λNz d=>?_;obtain⟨r,a,rfl,q,C,s⟩:=u;refine d ?_;clear d;refine Gi ?_;intro Nx Cy;rw[Al] at S;refine AO ?_;(try dsimp only)
   have aM:a.length<=100:=by
    rw[s.len,AV];have O:=QA ls (Gk c ls.length) (FS c ls.length) j;have Q:j*ls.length<=6*6:=Nat.mul_le_mul (by omega) U;have h4:=TW ls (Gk c ls.length) (FS c ls.length) j k;omega
   have ar:=q.at_ _ _ (X _ _ ai) aC;have au:=q.at_ _ _ (X _ _ aj) aD;have av:∀n,n<ls.length->∃v,(Gk c ls.length)[n]?=some v/\Bt ((Gk c ls.length).map V.int) (0+(n:Int))=some (.int v):=λn A=>⟨_,AC (by omega),by rw[Int.zero_add];exact BN (by rw[Bh,AC (by omega)];rfl)⟩;have aw:∀n,n<ls.length->∃v,(FS c ls.length)[n]?=some v/\Bt ((FS c ls.length).map V.int) (0+(n:Int))=some (.int v):=λn A=>⟨_,AC (by omega),by rw[Int.zero_add];exact BN (by rw[Bh,AC (by omega)];rfl)⟩;have ax:∀n,n<ls.length->∃v,ls[n]?=some v/\Bt (ls.map V.str) (0+(n:Int))=some (.str v):=λn A=>⟨_,AC A,by rw[Int.zero_add];exact BN (by rw[Bh,AC A];rfl)⟩;obtain⟨a1,p,a5⟩:=av j R;obtain⟨a2,O,a6⟩:=av k S;obtain⟨b1,Q,a7⟩:=aw j R;obtain⟨b2,h4,g4⟩:=aw k S;obtain⟨x1,h5,g5⟩:=ax j R;obtain⟨x2,h6,g6⟩:=ax k S
   have skip:¬(a1<a2/\b1<b2)->EA ls (Gk c ls.length) (FS c ls.length) j k=[]:=λA=>by
    unfold EA;rw[KZ p,KZ O,KZ Q,KZ h4,Aj A]
   refine Or.inl ⟨_,_,Af.of ar,a5,Or.inl ⟨_,_,Af.of ar,a6,rfl,Ao (λc1=>?_) (λc1=>Bg ?_)⟩⟩;rotate_left;refine⟨_,a,rfl,q,C,?_⟩;rw[Qz,skip λz=>c1 (A5 z.1),FC];exact s;refine Or.inl ⟨_,_,Af.of au,a7,Or.inl ⟨_,_,Af.of au,g4,rfl,Ao (λc2=>?_) (λc2=>?_)⟩⟩;rotate_left;refine⟨_,a,rfl,q,C,?_⟩;rw[Qz,skip λz=>c2 (A5 z.2),FC];exact s;have ay:=(aq q).seq E;refine⟨Or.inl ⟨rfl,_,Af.of C⟩,Or.inl ⟨_,.str x1,ay,g5,Or.inl ⟨_,.str x2,ay,g6,B7,λt ht=>?_⟩⟩⟩;obtain⟨H7,aE,s7,et⟩:=new_at (o:=.tup [.str x1,.str x2]) ht;rw[<-aE];have az:=s7 _ _ C;have k7:Keeps (·=D) H7 (upd H7 D (.lst (a.map V.ref++[.ref t]))):=Keeps.one az;refine⟨_,az,by rw[Al];exact BC (by omega),?_⟩;refine⟨_,a++[t],rfl,(q.same s7).set rfl,by rw[Aa,Bk];rfl,?_⟩
   have eP:EA ls (Gk c ls.length) (FS c ls.length) j k=[(x1,x2)]:=by
    unfold EA;rw[KZ p,KZ O,KZ Q,KZ h4,Ak ⟨Bi c1,Bi c2⟩,Xo h5,Xo h6]
   rw[Qz,eP,<-FX];exact k7.tups ((s.same s7).snoc et)
def FU (c:Int):List Int:=GX (c*864691128455135233%2305843009213693951) 20
def Iq (ls:List Str) (n c:Int):Nat->List (Str×Int)
 |0=>[]
 |k+1=>Iq ls n c k++if 0<(FU c).getD k 0 then[(ls.getD k default,(FU c).getD (5+k) 0%n)] else[]
def IR (ls:List Str) (c:Int):Nat->List Str
 |0=>[]
 |k+1=>IR ls c k++if 0<(FU c).getD (10+k) 0 then[ls.getD k default] else[]
theorem TY(ls:List Str)(n c:Int):∀k,(Iq ls n c k).length<=k
 |0=>AB _
 |k+1=>by
   have:=TY ls n c k;rw[Iq,AV];split;rw[Dh];omega;rw[Gp];omega
theorem TZ(ls:List Str)(c:Int):∀k,(IR ls c k).length<=k
 |0=>AB _
 |k+1=>by
   have:=TZ ls c k;rw[IR,AV];split;rw[Dh];omega;rw[Gp];omega
theorem Xp{ls:List Str}{n c:Int}(b:0<n):∀k,∀p∈Iq ls n c k,0<=p.2/\p.2<n
 |0,p,a=>by cases a
 |k+1,p,a=>by
   rw[Iq] at a;rcases BF.mp a with a|a;exact Xp b k p a;split at a;rw[AY.mp a];exact⟨EK _ (by omega),EZ _ b⟩;cases a
structure OM (ls:List Str) (n c:Int) (s:CP):Prop where
 pg:s.1.Perm (Iq ls n c 5)
 og:s.1.Pairwise (BO C8 Ju).kle
 pe:s.2.Perm (IR ls c 5)
 oe:s.2.Pairwise C8.kle
variable {s:CP}
theorem OM.uniq{n:Int}{u:CP}(h:OM ls n c s)(k:OM ls n c u):s=u:=
 Prod.ext (LJ (O:=BO C8 Ju) (h.pg.trans k.pg.symm) h.og k.og) (LJ (O:=C8) (h.pe.trans k.pe.symm) h.oe k.oe)
structure ON (cs:List Int) (ls:List Str) (sts:List CP) (inn:Int) (ord:List (Str×Str)):Prop where
 len:sts.length=(1+cs.getD 0 0%3).toNat
 at_:∀(i:Nat)(s:CP),sts[i]?=some s->OM ls (1+cs.getD 0 0%3) (cs.getD (1+i) 0) s
 inn:inn=cs.getD 0 0/3%(1+cs.getD 0 0%3)
 ord:EB (cs.getD 4 0) ls ord
theorem ON.uniq{c:List Int}{ls:List Str}{a:List CP}{inn:Int}{ord:List (Str×Str)}{b:List CP}{f:Int}{g:List (Str×Str)}(h:ON c ls a inn ord)(k:ON c ls b f g):a=b/\inn=f/\ord=g:=by
 refine⟨List.ext_getElem? λi=>?_,h.inn.trans k.inn.symm,h.ord.uniq k.ord⟩;have j:=h.len.trans k.len.symm
 cases e:a[i]? with
 |none =>
   rw[List.getElem?_eq_none_iff] at e;exact(List.getElem?_eq_none_iff.mpr (by omega)).symm
 |some s =>
   have d:i<b.length:=by have:=(A9.mp e).1;omega
   rw[AC d,(h.at_ i s e).uniq (k.at_ i _ (AC d))]
theorem OO{xs:List Int}{n:Nat}(h:n<xs.length):Bt (xs.map V.int) (n:Int)=some (.int (xs.getD n 0)):=by
 rw[BY,AC h];exact BN (by rw[Bh,AC h];rfl)
theorem fC{n:Nat}(h:n<xs.length):Bt (xs.map V.str) (n:Int)=some (.str (xs.getD n default)):=by
 rw[BY,AC h];exact BN (by rw[Bh,AC h];rfl)
theorem Kb(c:Int):(FU c).length=20:=Qx _ _
inductive Dv (K:Ah) (vs:List V) (H:Hp) (Q:VK):Prop where
 |mk (C L:Addr) (cs:List Int) (ls:List Str) (h0:vs=[.ref C,.ref L]) (h1:Af K H C (cs.map V.int)) (h2:cs.length=5) (h3:Af K H L (ls.map V.str)) (h4:ls.length=5) (h5:∀(t:Addr)(sts:List CP)(inn:Int)(ord:List (Str×Str))(H':Hp),Ac H H'->Gd K (λ_=>True) H' t sts inn ord->ON cs ls sts inn ord->Q (.ref t) H'):Dv K vs H Q
def fE (K:Ah):Sp:=λvs H Q _=>Dv K vs H Q
variable (P w K mg base) in
abbrev T1:Prop:=BG P w K mg base "_law_table" 3 ["_law_cells", "_law_labels"] (fE K)
theorem fF (B:BH mg) (aR:Qy P w K mg base) (aS:TX P w K mg base) (F:Br K "_law_table" "_law_table" Q2 f fd) (hm:mg "_law_table" = some (.ref f)):T1 P w K mg base:=by
 refine B1 F hm Mn (λvs a6 aO aP h=>?_) (λbw bu b3 s a6 vs aO aP hr h=>?_);obtain⟨C,L,a,ls,rfl,_⟩:=h;rfl
 . obtain⟨C,L,a,ls,rfl,U,c5,hL,l5,aQ⟩:=h
   have z0:=EK (a.getD 0 0) (by decide:(3:Int)≠0);have z1:=EZ (a.getD 0 0) (by decide:(0:Int)<3);obtain⟨m,ao⟩:∃m:Nat,(m:Int)=1+a.getD 0 0%3:=⟨(1+a.getD 0 0%3).toNat,by omega⟩;have m0:1<=m/\m<=3:=(by omega);have aq:Bt (a.map V.int) ((0:Nat):Int)=some (.int (a.getD 0 0)):=OO (by omega)
   refine⟨_,(Am (AQ (i:=2) Mn.nd (Cp Ae))
    (Am (CB Cm rfl (C6 (UX UZ (pv 0) (RX Ai) (RX (AA Hj Ai (AA Bf (AE AF (pv 0) Ai) Ai))))) (Ay (i:=3) Mn.nd) (Am (AQ (i:=4) Mn.nd (A6 aR (Ab (AA Bf (AA EG (pv 3) Ai) Ai) (Ab Ai Ae))))
     (Am (AQ (i:=5) Mn.nd (Cp Ae))
     (Am (AQ (i:=6) Mn.nd (Cp Ae))
     (Am (CB Cm rfl (Hi rfl B.b_range (Ab Ai Ae)) (Ay (i:=7) Mn.nd) (Am (Bm (BJ Hl (AE AF (pv 4) (pv 7)) Ai (Bw _)) (Au (Df (Dj DI Ep Er Eu (pv 5) (Ab (Bs (Ab (AE AF (pv 1) (pv 7)) (Ab (AA Bf (AE AF (pv 4) (AA Hj Ai (pv 7))) (AA Hj Ai (AA Bf (AE AF (pv 0) Ai) Ai))) Ae))) Ae)))) Bo)
      (Au (Bm (BJ Hl (AE AF (pv 4) (AA Hj Ai (pv 7))) Ai (Bw _)) (Au (Df (Dj DI Ep Er Eu (pv 6) (Ab (AE AF (pv 1) (pv 7)) Ae)))) Bo))))
     (Au (Df (Dj DI Ep Er Eu (pv 2) (Ab (Bs (Ab (BM (Vv ES Jv) B.b_sorted (Ab (pv 5) Ae)) (Ab (BM YQ B.b_sorted (Ab (pv 6) Ae)) Ae))) Ae)))))))))
    (Au (AX (Bs (Ab (pv 2) (Ab (AA Bf (AA EN (AE AF (pv 0) Ai) Ai) (BM DK B.b_len (Ab (pv 2) Ae))) (Ab (A6 aS (Ab (AE AF (pv 0) Ai) (Ab (pv 1) Ae))) Ae)))))))),?_⟩
   (try dsimp only[AG,Cx.nox,Cx.wish]);refine⟨by decide,λD a9=>?_⟩;obtain⟨H2,aT,s2,aA⟩:=new_at (o:=.lst []) a9;rw[<-aT];refine AO ?_;(try dsimp only)
   have bq:EO (a.map V.int) (some 1) (some (2+a.getD 0 0%3))=((a.drop 1).take m).map V.int:=by
    rw[show(2+a.getD 0 0%3:Int)=((m+1:Nat):Int) by omega];exact(YB _ 1 (m+1) (by omega)).trans (by rw[show m+1-1=m by omega,<-List.map_drop,<-List.map_take])
   refine⟨_,rfl,Or.inl ⟨_,.int (a.getD 0 0),s2.seq U,aq,(by show(0:Int)<3;decide),_,rfl,C,_,rfl,s2.seq U,λp0 h0=>?_⟩⟩;rw[bq];obtain⟨H3,aU,s3,aB⟩:=new_at (o:=.lst (((a.drop 1).take m).map V.int)) h0;rw[<-aU];have aC:=s3 _ _ aA;have aV:p0≠D:=λz=>by rw[z,aA] at h0;cases h0
   have aW:=s2.trans s3;have a8:∀{b:Hp},Keeps (·=D) H3 b->Ac a6 b:=λk x o e=>k.at_ _ _ (aW _ _ e) (AH e a9);have aX:((a.drop 1).take m).length=m:=by rw[FG,Kr];omega
   refine⟨⟨_,Af.of aB⟩,EM (xs:=((a.drop 1).take m).map V.int) (λi σ b=>∃u3 u4 u5 u6 W us A,σ=[some (.ref C),some (.ref L),some (.ref D),u3,u4,u5,u6,W]/\Keeps (·=D) H3 b/\b D=some (.lst (us.map V.ref))/\A0 K (λ_=>True) b D us A/\A.length=i/\∀(j:Nat)(s:CP),A[j]?=some s->OM ls (m:Int) (a.getD (1+j) 0) s)
    ⟨none,none,none,none,none,[],[],rfl,Keeps.refl λx o m e=>by rw[m,aC] at e;exact⟨_,(Bv e).symm⟩,aC,A0.nil,rfl,λj s h=>by simp at h⟩ (λi σ b _ aY=>by obtain⟨_,_,_,_,_,_,_,_,k,_⟩:=aY;exact Af.of (k.at_ _ _ aB aV)) ?_ ?_⟩
   . refine λi y σ H4 hy E=>AL λNz g=>?_
     obtain⟨u3,u4,u5,u6,W,us,A,rfl,Y,aa,ab,M,ar⟩:=E;refine g ?_;clear g;refine Gi ?_;intro Nx Cy;obtain⟨c,hc,rfl⟩:=getm hy;have aZ:i<m:=by have:=(A9.mp hc).1;omega
     have ec:a.getD (1+i) 0=c:=by
      rw[List.getElem?_take_of_lt aZ,List.getElem?_drop] at hc;rw[BY,hc];rfl
     refine AO ?_;(try dsimp only);have N:=a8 Y;refine⟨Or.inr ⟨by decide,by decide⟩,(by show(0:Int)<2305843009213693951;decide),_,20,rfl,by decide,λX H5 hX Z Q=>?_⟩;have Q:H5 X=some (.lst ((FU c).map V.int)):=Q;refine AO ?_;(try dsimp only);refine⟨by decide,λq au=>?_⟩;obtain⟨H6,ba,R,aD⟩:=new_at (o:=.lst []) au;rw[<-ba];refine AO ?_;(try dsimp only);refine⟨by decide,λE0 av=>?_⟩;have s7:=Bb (o:=.lst []) av;have aw:(upd H6 E0 (.lst [])) E0=some (.lst []):=Aa;have ax:=s7 _ _ aD;generalize upd H6 E0 (.lst [])=H7 at s7 aw ax ⊢;refine AO ?_;(try dsimp only);have bb:=R.trans s7;have aE:H5 E0=none:=R.free av;have aF:q≠E0:=AH aD av;have bx:X≠q:=AH Q au;have bz:X≠E0:=AH Q aE;have ay:∀{b:Hp},Keeps (λx=>x=q\/x=E0) H7 b->Ac H5 b:=λk x o e=>k.at_ _ _ (bb _ _ e) λz=>z.elim (AH e au) (AH e aE)
     have bc:∀x o,(x=q\/x=E0)->H7 x=some o->∃xs,o=HO.lst xs:=λx o m e=>by
      rcases m with rfl|rfl;rw[ax] at e;exact⟨_,(Bv e).symm⟩;rw[aw] at e;exact⟨_,(Bv e).symm⟩
     refine⟨by decide,by decide,Kw (lo:=0) (n:=5) (λj σ b=>∃W l,σ=[some (.ref C),some (.ref L),some (.ref D),some (.int c),some (.ref X),some (.ref q),some (.ref E0),W]/\Keeps (λx=>x=q\/x=E0) H7 b/\b q=some (.lst (l.map V.ref))/\GT b l (Iq ls (m:Int) c j)/\b E0=some (.lst ((IR ls c j).map V.str)))
      ⟨_,[],rfl,⟨λx o e _=>e,bc⟩,ax,GT.nil,aw⟩ ?_ ?_⟩
     . refine λj σ H8 I E=>AL λNz g=>?_
       obtain⟨bd,l,rfl,k8,ae,S,ah⟩:=E;refine g ?_;clear g;refine Gi ?_;intro Nx Cy;refine AO ?_;(try dsimp only);have ai:=ay k8;have aG:=N.trans (Z.trans ai);have aH:=ai _ _ Q;have lr:=Kb c;have a1:Bt ((FU c).map V.int) (0+(j:Int))=some (.int ((FU c).getD j 0)):=by rw[Int.zero_add];exact OO (by omega)
       have a2:Bt ((FU c).map V.int) (5+(0+(j:Int)))=some (.int ((FU c).getD (5+j) 0)):=by
        rw[show(5+(0+(j:Int)))=((5+j:Nat):Int) by omega];exact OO (by omega)
       have a3:Bt ((FU c).map V.int) (10+(0+(j:Int)))=some (.int ((FU c).getD (10+j) 0)):=by
        rw[show(10+(0+(j:Int)))=((10+j:Nat):Int) by omega];exact OO (by omega)
       have al:Bt (ls.map V.str) (0+(j:Int))=some (.str (ls.getD j default)):=by rw[Int.zero_add];exact fC (by omega)
       have lG:=TY ls (m:Int) c j;have lE:=TZ ls c j;have be:(l.map V.ref).length<sizeLine:=by rw[Al,S.len];exact BC (by omega)
       have bf:((IR ls c j).map V.str).length<sizeLine:=by rw[Al];exact BC (by omega)
       refine HA (λσ' b=>∃l,σ'=[some (.ref C),some (.ref L),some (.ref D),some (.int c),some (.ref X),some (.ref q),some (.ref E0),some (.int (0+(j:Int)))]/\Keeps (λx=>x=q\/x=E0) H7 b/\b q=some (.lst (l.map V.ref))/\GT b l (Iq ls (m:Int) c (j+1))/\b E0=some (.lst ((IR ls c j).map V.str))) ?_ (λbv hN=>?_);refine λσ' H9 E=>AL λNz g=>?_;obtain⟨l,rfl,k9,H,T9,aj⟩:=E;refine g ?_;clear g;have aI:=ay k9;refine Or.inl ⟨_,_,Af.of (aI _ _ Q),a3,rfl,Ao (λd=>?_) (λd=>?_)⟩;have J:0<(FU c).getD (10+j) 0:=Bi d;refine⟨Or.inl ⟨rfl,_,Af.of aj⟩,Or.inl ⟨_,_,(N.trans (Z.trans aI)).seq hL,al,_,aj,bf,?_⟩⟩;refine⟨_,l,rfl,k9.set (.inr rfl),by rw[AD aF];exact H,T9.updL aj,?_⟩;rw[Aa,IR,Ak J,Bk];rfl;have J:¬0<(FU c).getD (10+j) 0:=λz=>d (A5 z);refine⟨_,l,rfl,k9,H,T9,?_⟩;rw[IR,Aj J,FC];exact aj;refine Or.inl ⟨_,_,Af.of aH,a1,rfl,Ao (λd=>?_) (λd=>?_)⟩;rotate_left;have J:¬0<(FU c).getD j 0:=λz=>d (A5 z);refine hN _ _ ⟨l,rfl,k8,ae,?_,ah⟩;rw[Iq,Aj J,FC];exact S;have J:0<(FU c).getD j 0:=Bi d;refine⟨Or.inl ⟨rfl,_,Af.of ae⟩,Or.inl ⟨_,_,aG.seq hL,al,Or.inl ⟨_,_,Af.of aH,a2,Or.inl ⟨_,.int (a.getD 0 0),aG.seq U,aq,(by show(0:Int)<3;decide),(by show 0<1+a.getD 0 0%3;omega),B7,λt ht=>?_⟩⟩⟩⟩;(try dsimp only);rw[<-ao];obtain⟨H9,bg,v,et⟩:=new_at (o:=.tup [.str (ls.getD j default),.int ((FU c).getD (5+j) 0%m)]) ht;rw[<-bg];have H:=v _ _ ae;refine⟨_,H,be,?_⟩;refine hN _ _ ⟨l++[t],rfl,(k8.same v).set (.inl rfl),by rw[Aa,Bk];rfl,?_,by rw[AD (Ne.symm aF)];exact v _ _ ah⟩;rw[Iq,Ak J];exact((S.same v).snoc (p:=(ls.getD j default,(FU c).getD (5+j) 0%m)) et).updL H
     refine λσ H8 E=>AL λNz g=>?_;obtain⟨bd,l,rfl,k8,ae,S,ah⟩:=E;refine g ?_;clear g;have ai:=ay k8;have az:=Z.trans ai;have bh:Keeps (·=D) H3 H8:=⟨λx o e n=>az _ _ (Y.at_ x o e n),Y.ls⟩;have ak:=az _ _ aa;have lG:=TY ls (m:Int) c 5;have lE:=TZ ls c 5;obtain⟨zs,z1,z2,z3⟩:=Sy (K:=K) S.len S.at_;have b0:zs.length=(Iq ls (m:Int) c 5).length:=(by rw[<-z2,Al]);refine⟨Or.inl ⟨rfl,_,Af.of ak⟩,q,zs,rfl,Af.of (by rw[z1];exact ae),by omega,z3,λG u hp hw hG=>?_⟩;have v:=Bb (o:=.lst (u.map (·.1))) hG;have H:(upd H8 G (.lst (u.map (·.1)))) G=some (.lst (u.map (·.1))):=Aa
     have aJ:∀z∈u,PJ K (upd H8 G (.lst (u.map (·.1)))) z:=λz hz=>by
      obtain⟨t,a1,a2⟩:=z3 z (hp.mem_iff.mp hz);exact⟨t,a1,v.seqT a2⟩
     generalize upd H8 G (.lst (u.map (·.1)))=H9 at v H aJ ⊢;refine⟨E0,IR ls c 5,rfl,Af.of (v _ _ ah),by omega,λT O bi bj a0=>?_⟩;have af:=Bb (o:=.lst (O.map V.str)) a0;have aM:(upd H9 T (.lst (O.map V.str))) T=some (.lst (O.map V.str)):=Aa
     have z4:∀z∈u,PJ K (upd H9 T (.lst (O.map V.str))) z:=λz hz=>by
      obtain⟨t,a1,a2⟩:=aJ z hz;exact⟨t,a1,af.seqT a2⟩
     generalize upd H9 T (.lst (O.map V.str))=b1 at af aM z4 ⊢;refine⟨B7,λa7 hu=>?_⟩;obtain⟨bk,br,ag,eu⟩:=new_at (o:=.tup [.ref G,.ref T]) hu;rw[<-br];have a5:=(v.trans af).trans ag;have aN:=a5 _ _ ak;have nG:G≠D:=λy=>by rw[y,ak] at hG;cases hG
     have nE:T≠D:=λy=>by rw[y,v _ _ ak] at a0;cases a0
     have gG:C9 K bk G (u.map (·.2)):=⟨_,Af.of ((af.trans ag) _ _ H),(Sz u z4).same ag⟩;refine⟨_,aN,by rw[Al,ab.len,M];exact BC (by omega),?_⟩;have bs:=((ab.same (az.trans a5)).snoc (r:=(u.map (·.2),O)) eu gG ((af.trans ag) _ _ H) (ag _ _ aM) nG nE True.intro True.intro).updL (o:=.lst (us.map V.ref++[.ref a7])) aN;refine⟨_,_,_,_,_,us++[a7],A++[(u.map (·.2),O)],rfl,(bh.same a5).set rfl,by rw[Aa,Bk];rfl,bs,by rw[AV,M];rfl,λj s I=>?_⟩;rcases Nat.lt_or_ge j A.length with bl|b2;rw[EJ bl] at I;exact ar j s I
     have aK:j=A.length:=by
      have:=(A9.mp I).1;rw[AV,Dh] at this;omega
     rw[aK,List.getElem?_concat_length] at I;rw[<-Bv I,aK,M,ec];exact⟨by rw[<-z2];exact hp.map _,hw,bi,bj⟩
   refine λσ H4 E=>AL λNz g=>?_;obtain⟨u3,u4,u5,u6,W,us,A,rfl,Y,aa,ab,M,ar⟩:=E;refine g ?_;clear g;rw[Al,aX] at M;have N:=a8 Y;have bm:Bt (a.map V.int) ((4:Nat):Int)=some (.int (a.getD 4 0)):=OO (by omega);have aL:(us.map V.ref).length=m:=(by rw[Al,ab.len,M]);refine Or.inl ⟨_,.int (a.getD 0 0),N.seq U,aq,⟨by decide,by decide⟩,_,Or.inl ⟨_,Af.of aa,rfl⟩,(by rw[aL];omega),Or.inl ⟨_,.int (a.getD 4 0),N.seq U,bm,_,L,ls,rfl,N.seq hL,by omega,λan bn bo H5 hO Z eO TO bt=>?_⟩⟩;rw[aL];refine⟨Jz,λt ht=>?_⟩;have R:=Bb (o:=.tup [.ref D,.int (a.getD 0 0/3%m),.ref an]) ht;have bp:D≠an:=λy=>by rw[<-y,aa] at hO;cases hO
   have a4:=Z.trans R;refine aQ t A (a.getD 0 0/3%m) bo _ (N.trans a4) ⟨D,an,us,bn,Aa,True.intro,True.intro,bp,a4 _ _ aa,ab.same a4,R _ _ eO,TO.same R⟩ ⟨by rw[M];omega,λj s I=>by rw[<-ao];exact ar j s I,by rw[ao],bt⟩
abbrev GI (c:Int):Int:=c*48271%65521
def Gm (ns:List Str) (c:Int):List Str:=[ns.getD (GI c%3).toNat default]++if GI c/3%2=1 then[ns.getD (GI c/6%3).toNat default] else[]
def K0 (ns:List Str) (c:Int):List Str:=Gm ns c++if GI c/18%4=3 then[ns.getD (GI c/72%3).toNat default] else[]
def Dw (ns:List Str) (m s c:Int):Qu:=(c*16807%65519%m,c*69621%65497%s,K0 ns c)
theorem Kc(ns:List Str)(c:Int):1<=(K0 ns c).length/\(K0 ns c).length<=3:=by
 unfold K0 Gm;split<;>split<;>simp
theorem T4{i:Int}(b:0<=i)(c:i<xs.length):Bt (xs.map V.str) i=some (.str (xs.getD i.toNat default)):=by
 obtain⟨n,rfl⟩:=DH b;have a:n<xs.length:=(by omega);rw[Bl,BY,AC a];exact BN (by rw[Bh,AC a];rfl)
theorem Kd:([]:List V).length+1+1+1<=sizeLine:=by decide
theorem GY(x:Int):0<=x%3/\x%3<3:=⟨EK _ (by decide),EZ _ (by decide)⟩
inductive Cs (K:Ah) (vs:List V) (H:Hp) (Q:VK):Prop where
 |mk (c:Int) (N:Addr) (ns:List Str) (m s:Nat) (h0:vs=[.int c,.int m,.int s,.ref N]) (h1:Af K H N (ns.map V.str)) (h2:ns.length=3) (h3:1<=m) (h4:1<=s) (h5:∀(p u:Addr)(H':Hp),Ac H H'->H' p=some (.tup [.int (Dw ns m s c).1,.int (Dw ns m s c).2.1,.ref u])->H' u=some (.tup ((Dw ns m s c).2.2.map V.str))->Q (.ref p) H'):Cs K vs H Q
def fG (K:Ah):Sp:=λvs H Q _=>Cs K vs H Q
variable (P w K mg base) in
abbrev T6:Prop:=BG P w K mg base "_law_question" 1 ["_law_cell", "_law_many", "_law_states", "_law_names_here"] (fG K)
theorem fH(B:BH mg)(F:Br K "_law_question" "_law_question" Q3 f fd)(z:mg "_law_question" = some (.ref f)):T6 P w K mg base:=by
 refine B1 F z TF (λC H Q E h=>?_) (λaa A ab s H C Q E T h=>?_);obtain⟨c,N,ns,m,Z,rfl,_⟩:=h;rfl
 . obtain⟨c,N,ns,m,Z,rfl,j,U,W,X,q⟩:=h
   refine⟨_,(Am (AQ (i:=4) TF.nd (AA Bf (AA EG (pv 0) Ai) Ai))
    (Am (AQ (i:=5) TF.nd (Cp (Ab (AE AF (pv 3) (AA Bf (pv 4) Ai)) Ae)))
    (Am (Bm (BJ CC (AA Bf (AA EN (pv 4) Ai) Ai) Ai (Bw _)) (Au (Df (Dj DI Ep Er Eu (pv 5) (Ab (AE AF (pv 3) (AA Bf (AA EN (pv 4) Ai) Ai)) Ae)))) Bo)
    (Am (Bm (BJ CC (AA Bf (AA EN (pv 4) Ai) Ai) Ai (Bw _)) (Au (Df (Dj DI Ep Er Eu (pv 5) (Ab (AE AF (pv 3) (AA Bf (AA EN (pv 4) Ai) Ai)) Ae)))) Bo)
    (Au (AX (Bs (Ab (AA Bf (AA Bf (AA EG (pv 0) Ai) Ai) (pv 1)) (Ab (AA Bf (AA Bf (AA EG (pv 0) Ai) Ai) (pv 2)) (Ab (G1 Yg B.b_tuple (Ab (pv 5) Ae)) Ae)))))))))),?_⟩
   (try dsimp only[AG,Cx.nox,Cx.wish]);refine⟨Or.inr ⟨by decide,by decide⟩,(by show(0:Int)<65521;decide),?_⟩;refine AO ?_;(try dsimp only);refine⟨(by show(0:Int)<3;decide),Or.inl ⟨_,_,j,T4 (GY _).1 (by have:=(GY (c*48271%65521)).2;omega),HC,λP t=>?_⟩⟩;obtain⟨Y,O,k,l⟩:=new_at (o:=.lst [.str (ns.getD (GI c%3).toNat default)]) t;rw[<-O];refine AO ?_;(try dsimp only);have y:∀x o,H x=some o->x≠P:=λx o e=>AH e t;refine HA (λσ' d=>σ'=[some (.int c),some (.int m),some (.int Z),some (.ref N),some (.int (GI c)),some (.ref P)]/\Ac H d/\d P=some (.lst ((Gm ns c).map V.str))) ?_ (λD g=>?_);rotate_left;refine⟨⟨by decide,by decide⟩,(by show(0:Int)<2;decide),rfl,rfl,Ao (λa=>?_) (λa=>?_)⟩;have b:GI c/3%2=1:=V.int.inj (Bi a);refine⟨Or.inl ⟨rfl,_,Af.of l⟩,⟨by decide,by decide⟩,(by show(0:Int)<3;decide),Or.inl ⟨_,_,k.seq j,T4 (GY _).1 (by have:=(GY (c*48271%65521/6)).2;omega),_,l,BC (by show 1<=1000;decide),g _ _ ⟨rfl,λx o e=>?_,?_⟩⟩⟩;rw[AD (y x o e)];exact k _ _ e;rw[Aa];unfold Gm;rw[Ak b];rfl;have b:¬GI c/3%2=1:=λe=>a (A5 (by show V.int (GI c/3%2)=V.int 1;rw[e]));refine g _ _ ⟨rfl,k,?_⟩;unfold Gm;rw[Aj b];exact l;rintro σ' H2 ⟨rfl,n,r⟩;refine HA (λσ' d=>σ'=[some (.int c),some (.int m),some (.int Z),some (.ref N),some (.int (GI c)),some (.ref P)]/\Ac H d/\d P=some (.lst ((K0 ns c).map V.str))) ?_ (λD g=>?_);rotate_left;have l2:(Gm ns c).length<=2:=by unfold Gm;split<;>simp
   refine⟨⟨by decide,by decide⟩,(by show(0:Int)<4;decide),rfl,rfl,Ao (λa=>?_) (λa=>?_)⟩;have b:GI c/18%4=3:=V.int.inj (Bi a);refine⟨Or.inl ⟨rfl,_,Af.of r⟩,⟨by decide,by decide⟩,(by show(0:Int)<3;decide),Or.inl ⟨_,_,n.seq j,T4 (GY _).1 (by have:=(GY (c*48271%65521/72)).2;omega),_,r,BC (by rw[Al];omega),g _ _ ⟨rfl,λx o e=>?_,?_⟩⟩⟩;rw[AD (y x o e)];exact n _ _ e;rw[Aa];unfold K0;rw[Ak b,Bk];rfl;have b:¬GI c/18%4=3:=λe=>a (A5 (by show V.int (GI c/18%4)=V.int 3;rw[e]));refine g _ _ ⟨rfl,n,?_⟩;unfold K0;rw[Aj b,FC];exact r;rintro σ' H3 ⟨rfl,G,R⟩;refine⟨Or.inr ⟨by decide,by decide⟩,(by show(0:Int)<65519;decide),(by show(0:Int)<m;omega),Or.inr ⟨by decide,by decide⟩,(by show(0:Int)<65497;decide),(by show(0:Int)<Z;omega),P,_,rfl,Or.inl ⟨Af.of R,λu I=>?_⟩⟩;obtain⟨H4,S,J,L⟩:=new_at (o:=.tup ((K0 ns c).map V.str)) I;rw[<-S];refine⟨Kd,λp M=>?_⟩;have v:=Bb (o:=.tup [.int (c*16807%65519%m),.int (c*69621%65497%Z),.ref u]) M;exact q p u _ ((G.trans J).trans v) Aa (v _ _ L)
def Mz (m a c:Int):Str×Int:=if c*69621%65497%4=0 then("plain",0) else if c*69621%65497%4=1 then("sort",c*48271%65521%a) else("part",c*48271%65521%m)
variable {a:Nat}
theorem MA(b:1<=m)(d:1<=a)(c:Int):FL m a (Mz m a c):=by
 unfold Mz FL;split;exact .inl ⟨rfl,rfl⟩;split;exact .inr (.inr ⟨rfl,EK _ (by omega),EZ _ (by omega)⟩);exact .inr (.inl ⟨rfl,EK _ (by omega),EZ _ (by omega)⟩)
inductive Dx (K:Ah) (vs:List V) (H:Hp) (Q:VK):Prop where
 |mk (c:Int) (m a:Nat) (h0:vs=[.int c,.int m,.int a]) (h1:1<=m) (h2:1<=a) (h3:∀(p:Addr)(H':Hp),H p=none->Ac H H'->H' p=some (.tup [.str (Mz m a c).1,.int (Mz m a c).2])->Q (.ref p) H'):Dx K vs H Q
def fI (K:Ah):Sp:=λvs H Q _=>Dx K vs H Q
variable (P w K mg base) in
abbrev T8:Prop:=BG P w K mg base "_law_thing" 1 ["_law_cell", "_law_many", "_law_asked"] (fI K)
theorem fJ(B:BH mg)(F:Br K "_law_thing" "_law_thing" Q4 f fd)(o:mg "_law_thing" = some (.ref f)):T8 P w K mg base:=by
 refine B1 F o Xd (λr H Q E h=>?_) (λy A z s H r Q E u h=>?_);obtain⟨c,m,a,rfl,_⟩:=h;rfl;obtain⟨c,m,a,rfl,v,x,q⟩:=h
 refine⟨_,(Am (AQ (i:=3) Xd.nd (AA Bf (AA EG (pv 0) Ai) Ai))
  (Am (Bm (BJ CC (AA Bf (pv 3) Ai) Ai (Bw _)) (Au (AX (Bs (Ab BZ (Ab Ai Ae))))) Bo)
  (Am (Bm (BJ CC (AA Bf (pv 3) Ai) Ai (Bw _)) (Au (AX (Bs (Ab BZ (Ab (AA Bf (AA Bf (AA EG (pv 0) Ai) Ai) (pv 2)) Ae))))) Bo)
  (Au (AX (Bs (Ab BZ (Ab (AA Bf (AA Bf (AA EG (pv 0) Ai) Ai) (pv 1)) Ae)))))))),?_⟩
 (try dsimp only[AG,Cx.nox,Cx.wish]);refine⟨Or.inr ⟨by decide,by decide⟩,(by show(0:Int)<65497;decide),?_⟩;have j:∀k,Mz m a c=k->∀p,H p=none->Q (.ref p) (upd H p (.tup [.str k.1,.int k.2])):=λk t p n=>q p _ n (Bb n) (by rw[Aa,<-t]);refine⟨(by show(0:Int)<4;decide),rfl,rfl,Ao (λd=>?_) (λd=>?_)⟩;have b:c*69621%65497%4=0:=V.int.inj (Bi d);exact⟨B7,j (("plain" : Str),0) (Ak b)⟩;have b:¬c*69621%65497%4=0:=λe=>d (A5 (by show V.int (c*69621%65497%4)=V.int 0;rw[e]));refine⟨(by show(0:Int)<4;decide),rfl,rfl,Ao (λg=>?_) (λg=>?_)⟩;have l:c*69621%65497%4=1:=V.int.inj (Bi g);exact⟨Or.inr ⟨by decide,by decide⟩,(by show(0:Int)<65521;decide),(by show(0:Int)<a;omega),B7,j (("sort" : Str),c*48271%65521%a) ((Aj b).trans (Ak l))⟩;have l:¬c*69621%65497%4=1:=λe=>g (A5 (by show V.int (c*69621%65497%4)=V.int 1;rw[e]));exact⟨Or.inr ⟨by decide,by decide⟩,(by show(0:Int)<65521;decide),(by show(0:Int)<m;omega),B7,j (("part" : Str),c*48271%65521%m) ((Aj b).trans (Aj l))⟩
def MB (m a c:Int):Str×Int:=if c*69621%65497%2=0 then("by",c*16807%65519%a) else("to",c*16807%65519%m)
def QB (ls:List Str) (m a c:Int):Cg:=(ls.getD (c*48271%65521%5).toNat default,MB m a c)
theorem MC(b:1<=m)(d:1<=a)(ls:List Str)(c:Int):Fp m a (QB ls m a c):=by
 unfold QB Fp MB;dsimp only;split;exact .inr ⟨rfl,EK _ (by omega),EZ _ (by omega)⟩;exact .inl ⟨rfl,EK _ (by omega),EZ _ (by omega)⟩
theorem fK{i:Int}(b:0<=i)(c:i<xs.length):Bt (xs.map V.str) i=some (.str (xs.getD i.toNat default)):=by
 obtain⟨n,rfl⟩:=DH b;have a:n<xs.length:=(by omega);rw[Bl,BY,AC a];exact BN (by rw[Bh,AC a];rfl)
theorem Xq:([]:List V).length+1+1+1<=sizeLine:=by decide
inductive D1 (K:Ah) (vs:List V) (H:Hp) (Q:VK):Prop where
 |mk (c:Int) (L:Addr) (ls:List Str) (m a:Nat) (h0:vs=[.int c,.ref L,.int m,.int a]) (h1:Af K H L (ls.map V.str)) (h2:ls.length=5) (h3:1<=m) (h4:1<=a) (h5:∀(p:Addr)(H':Hp),H p=none->Ac H H'->H' p=some (.tup (HF (QB ls m a c)))->Q (.ref p) H'):D1 K vs H Q
def fL (K:Ah):Sp:=λvs H Q _=>D1 K vs H Q
variable (P w K mg base) in
abbrev Ua:Prop:=BG P w K mg base "_law_step" 1 ["_law_cell", "_law_labels", "_law_many", "_law_asked"] (fL K)
theorem fM(B:BH mg)(F:Br K "_law_step" "_law_step" Q5 f fd)(l:mg "_law_step" = some (.ref f)):Ua P w K mg base:=by
 refine B1 F l TH (λn H Q E h=>?_) (λC A D s H n Q E u h=>?_);obtain⟨c,L,ls,m,a,rfl,_⟩:=h;rfl;obtain⟨c,L,ls,m,a,rfl,o,v,x,y,q⟩:=h;have r:=EK (c*48271%65521) (by decide:(5:Int)≠0);have z:=EZ (c*48271%65521) (by decide:(0:Int)<5)
 refine⟨_,(Am (AQ (i:=4) TH.nd (AE AF (pv 1) (AA Bf (AA Bf (AA EG (pv 0) Ai) Ai) Ai)))
  (Am (AQ (i:=5) TH.nd (AA Bf (AA EG (pv 0) Ai) Ai))
  (Am (Bm (BJ CC (AA Bf (pv 5) Ai) Ai (Bw _)) (Au (AX (Bs (Ab (pv 4) (Ab BZ (Ab (AA Bf (AA Bf (AA EG (pv 0) Ai) Ai) (pv 3)) Ae)))))) Bo)
  (Au (AX (Bs (Ab (pv 4) (Ab BZ (Ab (AA Bf (AA Bf (AA EG (pv 0) Ai) Ai) (pv 2)) Ae))))))))),?_⟩
 (try dsimp only[AG,Cx.nox,Cx.wish]);refine⟨Or.inr ⟨by decide,by decide⟩,(by show(0:Int)<65521;decide),(by show(0:Int)<5;decide),Or.inl ⟨_,_,o,fK r (by omega),?_⟩⟩;refine⟨Or.inr ⟨by decide,by decide⟩,(by show(0:Int)<65497;decide),?_⟩;have j:∀k,MB m a c=k->∀p,H p=none->Q (.ref p) (upd H p (.tup [.str (ls.getD (c*48271%65521%5).toNat default),.str k.1,.int k.2])):=λk t p g=>q p _ g (Bb g) (by rw[Aa,<-t];rfl);refine⟨(by show(0:Int)<2;decide),rfl,rfl,Ao (λb=>?_) (λb=>?_)⟩;have d:c*69621%65497%2=0:=V.int.inj (Bi b);exact⟨Or.inr ⟨by decide,by decide⟩,(by show(0:Int)<65519;decide),(by show(0:Int)<a;omega),Xq,j (("by" : Str),c*16807%65519%a) (Ak d)⟩;have d:¬c*69621%65497%2=0:=λe=>b (A5 (by show V.int (c*69621%65497%2)=V.int 0;rw[e]));exact⟨Or.inr ⟨by decide,by decide⟩,(by show(0:Int)<65519;decide),(by show(0:Int)<m;omega),Xq,j (("to" : Str),c*16807%65519%m) (Aj d)⟩
def MD (t a c:Int):Str×Int:=if c*69621%65497%3=0 then("by",c*16807%65519%a) else("thing",c*16807%65519%t)
def QC (ns ls:List Str) (t a c:Int):DV:=(ls.getD (c*48271%65521%5).toNat default,ns.getD (c*69621%65497/3%3).toNat default,MD t a c)
theorem ME{t:Nat}(b:1<=t)(d:1<=a)(ns ls:List Str)(c:Int):Fq t a (QC ns ls t a c):=by
 unfold QC Fq MD;dsimp only;split;exact .inr ⟨rfl,EK _ (by omega),EZ _ (by omega)⟩;exact .inl ⟨rfl,EK _ (by omega),EZ _ (by omega)⟩
theorem Xr{i:Int}(b:0<=i)(c:i<xs.length):Bt (xs.map V.str) i=some (.str (xs.getD i.toNat default)):=by
 obtain⟨n,rfl⟩:=DH b;have a:n<xs.length:=(by omega);rw[Bl,BY,AC a];exact BN (by rw[Bh,AC a];rfl)
theorem Ir:([]:List V).length+1+1+1+1<=sizeLine:=by decide
inductive CK (K:Ah) (vs:List V) (H:Hp) (Q:VK):Prop where
 |mk (c:Int) (L N:Addr) (ls ns:List Str) (t a:Nat) (h0:vs=[.int c,.ref L,.ref N,.int t,.int a]) (h1:Af K H L (ls.map V.str)) (h2:ls.length=5) (h3:Af K H N (ns.map V.str)) (h4:ns.length=3) (h5:1<=t) (h6:1<=a) (h7:∀(p:Addr)(H':Hp),H p=none->Ac H H'->H' p=some (.tup (HG (QC ns ls t a c)))->Q (.ref p) H'):CK K vs H Q
def fN (K:Ah):Sp:=λvs H Q _=>CK K vs H Q
variable (P w K mg base) in
abbrev Ub:Prop:=BG P w K mg base "_law_telling" 1 ["_law_cell", "_law_labels", "_law_names_here", "_law_things", "_law_asked"] (fN K)
theorem fO(B:BH mg)(F:Br K "_law_telling" "_law_telling" Q6 f fd)(l:mg "_law_telling" = some (.ref f)):Ub P w K mg base:=by
 refine B1 F l Qr (λm H Q E h=>?_) (λJ A M s H m Q E x h=>?_);obtain⟨c,L,N,ls,ns,t,a,rfl,_⟩:=h;rfl;obtain⟨c,L,N,ls,ns,t,a,rfl,n,y,o,z,C,D,q⟩:=h;have r:=EK (c*48271%65521) (by decide:(5:Int)≠0);have G:=EZ (c*48271%65521) (by decide:(0:Int)<5);have u:=EK (c*69621%65497/3) (by decide:(3:Int)≠0);have I:=EZ (c*69621%65497/3) (by decide:(0:Int)<3)
 refine⟨_,(Am (AQ (i:=5) Qr.nd (AE AF (pv 1) (AA Bf (AA Bf (AA EG (pv 0) Ai) Ai) Ai)))
  (Am (AQ (i:=6) Qr.nd (AA Bf (AA EG (pv 0) Ai) Ai))
  (Am (AQ (i:=7) Qr.nd (AE AF (pv 2) (AA Bf (AA EN (pv 6) Ai) Ai)))
  (Am (Bm (BJ CC (AA Bf (pv 6) Ai) Ai (Bw _)) (Au (AX (Bs (Ab (pv 5) (Ab (pv 7) (Ab BZ (Ab (AA Bf (AA Bf (AA EG (pv 0) Ai) Ai) (pv 4)) Ae))))))) Bo)
  (Au (AX (Bs (Ab (pv 5) (Ab (pv 7) (Ab BZ (Ab (AA Bf (AA Bf (AA EG (pv 0) Ai) Ai) (pv 3)) Ae))))))))))),?_⟩
 (try dsimp only[AG,Cx.nox,Cx.wish]);refine⟨Or.inr ⟨by decide,by decide⟩,(by show(0:Int)<65521;decide),(by show(0:Int)<5;decide),Or.inl ⟨_,_,n,Xr r (by omega),?_⟩⟩;refine⟨Or.inr ⟨by decide,by decide⟩,(by show(0:Int)<65497;decide),?_⟩;refine⟨⟨by decide,by decide⟩,(by show(0:Int)<3;decide),Or.inl ⟨_,_,o,Xr u (by omega),?_⟩⟩;have j:∀k,MD t a c=k->∀p,H p=none->Q (.ref p) (upd H p (.tup [.str (ls.getD (c*48271%65521%5).toNat default),.str (ns.getD (c*69621%65497/3%3).toNat default),.str k.1,.int k.2])):=λk v p g=>q p _ g (Bb g) (by rw[Aa,<-v];rfl);refine⟨(by show(0:Int)<3;decide),rfl,rfl,Ao (λb=>?_) (λb=>?_)⟩;have d:c*69621%65497%3=0:=V.int.inj (Bi b);exact⟨Or.inr ⟨by decide,by decide⟩,(by show(0:Int)<65519;decide),(by show(0:Int)<a;omega),Ir,j (("by" : Str),c*16807%65519%a) (Ak d)⟩;have d:¬c*69621%65497%3=0:=λe=>b (A5 (by show V.int (c*69621%65497%3)=V.int 0;rw[e]));exact⟨Or.inr ⟨by decide,by decide⟩,(by show(0:Int)<65519;decide),(by show(0:Int)<t;omega),Ir,j (("thing" : Str),c*16807%65519%t) (Aj d)⟩
def EV (m:Nat):Nat:=if m<4 then 3 else 2
abbrev BU (m:Nat) (c:Int):Int:=c/8*48271%65539%m
abbrev EW (ss:List Bj) (i:Int):Bj:=ss.getD i.toNat ([],[])
def IS (ls:List Str) (m a:Nat) (ss:List Bj) (c:Int):List Bj:=if c%8<3/\(EW ss (BU m c)).1.length<EV m then ss.set (BU m c).toNat ((EW ss (BU m c)).1++[QB ls m a (c/8)],(EW ss (BU m c)).2) else ss
def No (ls ns:List Str) (m t a:Nat) (ss:List Bj) (c:Int):List Bj:=if(2<c%8/\c%8<6)/\(EW ss (BU m c)).2.length<2 then ss.set (BU m c).toNat ((EW ss (BU m c)).1,(EW ss (BU m c)).2++[QC ns ls t a (c/8)]) else ss
def QD (ls ns:List Str) (m t a:Nat) (ss:List Bj) (c:Int):List Bj:=No ls ns m t a (IS ls m a ss c) c
def Eg (ls ns:List Str) (m t a:Nat) (cs:List Int) (i:Nat):List Bj:=(cs.take i).foldl (QD ls ns m t a) (List.replicate m ([],[]))
theorem Ke(ls:List Str)(m a:Nat)(ss:List Bj)(c:Int):(IS ls m a ss c).length=ss.length:=by unfold IS;split;exact FW;rfl
theorem QE(ls ns:List Str)(m t a:Nat)(ss:List Bj)(c:Int):(No ls ns m t a ss c).length=ss.length:=by unfold No;split;exact FW;rfl
theorem Xs{ns:List Str}{t:Nat}{b:List Int}(h:b[i]?=some c):Eg ls ns m t a b (i+1)=QD ls ns m t a (Eg ls ns m t a b i) c:=by
 unfold Eg;rw[DS,h,Ks];rfl
structure GZ (m t a:Nat) (ss:List Bj):Prop where
 len:ss.length=m
 st:∀s∈ss,s.1.length<=EV m
 tl:∀s∈ss,s.2.length<=2
 kst:∀s∈ss,∀p∈s.1,Fp m a p
 ktl:∀s∈ss,∀p∈s.2,Fq t a p
variable {ss:List Bj}
theorem Xu{t:Nat}(h:GZ m t a ss)(i:Int):(EW ss i).1.length<=EV m/\(EW ss i).2.length<=2/\(∀p∈(EW ss i).1,Fp m a p)/\∀p∈(EW ss i).2,Fq t a p:=by
 unfold EW;rw[BY]
 cases e:ss[i.toNat]? with
 |none=>exact⟨Ck _,Ck _,λp b=>(by cases b),λp b=>(by cases b)⟩
 |some s =>
   have:=Bd e;exact⟨h.st s this,h.tl s this,h.kst s this,h.ktl s this⟩
theorem GZ.setA{t:Nat}(h:GZ m t a ss){s:Bj}(c:s.1.length<=EV m)(d:s.2.length<=2)(e:∀p∈s.1,Fp m a p)(f:∀p∈s.2,Fq t a p):GZ m t a (ss.set i s):=by
 refine⟨by rw[FW];exact h.len,λu b=>?_,λu b=>?_,λu b=>?_,λu b=>?_⟩<;>rcases List.mem_or_eq_of_mem_set b with b|rfl;exact h.st u b;exact c;exact h.tl u b;exact d;exact h.kst u b;exact e;exact h.ktl u b;exact f
set_option tactic.hygienic true in
theorem QF{ls ns:List Str}{m t a:Nat}(n:1<=m)(o:1<=t)(k:1<=a)(f:List Int):∀i,GZ m t a (Eg ls ns m t a f i)
 |0=>by
   have e:∀s∈List.replicate m (([],[]):Bj),s=([],[]):=λs d=>(List.mem_replicate.mp d).2;exact⟨List.length_replicate,(λs d=>by rw[e s d];exact Ck _),(λs d=>by rw[e s d];exact Ck _),(λs d p b=>by rw[e s d] at b;cases b),(λs d p b=>by rw[e s d] at b;cases b)⟩
 | i + 1=>by
   have j:=QF (ls:=ls) (ns:=ns) n o k f i
   cases e:f[i]? with
   |none =>
     have q:Eg ls ns m t a f (i+1)=Eg ls ns m t a f i:=by unfold Eg;rw[DS,e];simp
     rw[q];exact j
   |some c =>
     rw[Xs e];generalize Eg ls ns m t a f i=ss at j
     have l:GZ m t a (IS ls m a ss c):=by
      have g:=Xu j (BU m c);unfold IS;split;rename_i h;refine j.setA (by rw[AV,Dh];exact h.2) g.2.1 (λp b=>?_) g.2.2.2;rcases BF.mp b with b|b;exact g.2.2.1 p b;rw[AY.mp b];exact MC n k _ _;exact j
     unfold QD No;have g:=Xu l (BU m c);split;rename_i h;refine l.setA g.1 (by rw[AV,Dh];exact h.2) g.2.2.1 (λp b=>?_);rcases BF.mp b with b|b;exact g.2.2.2 p b;rw[AY.mp b];exact ME o k _ _ _;exact l
theorem fP(a b:V):Bt [a,b] 0=some a:=BN (j:=0) rfl
theorem fQ(a b:V):Bt [a,b] 1=some b:=BN (j:=1) rfl
inductive C1 (K:Ah) (vs:List V) (H:Hp) (Q:VK):Prop where
 |mk (C L N Z:Addr) (cs:List Int) (ls ns:List Str) (m t a:Nat) (h0:vs=[.ref C,.ref L,.ref N,.int m,.ref Z]) (h1:Af K H C (cs.map V.int)) (h2:cs.length<=63) (h3:Af K H L (ls.map V.str)) (h4:ls.length=5) (h5:Af K H N (ns.map V.str)) (h6:ns.length=3) (h7:Aq K H Z [.int t,.int a]) (h8:1<=m) (h9:m<=5) (h10:1<=t) (h11:1<=a) (h12:∀(S:Addr)(us Gs Es:List Addr)(H':Hp),Ac H H'->Dm H' S us Gs Es (Eg ls ns m t a cs cs.length)->Q (.ref S) H'):C1 K vs H Q
def fR (K:Ah):Sp:=λvs H Q _=>C1 K vs H Q
variable (P w K mg base) in
abbrev Uc:Prop:=BG P w K mg base "_law_scopes" 2 ["_law_cells", "_law_labels", "_law_names_here", "_law_many", "_law_sizes"] (fR K)
theorem fS(B:BH mg)(a9:Ua P w K mg base)(aA:Ub P w K mg base)(F:Br K "_law_scopes" "_law_scopes" Pa f fd)(hm:mg "_law_scopes" = some (.ref f)):Uc P w K mg base:=by
 refine B1 F hm Ni (λvs H a6 a7 h=>?_) (λaV aS aY s H vs a6 a7 hr h=>?_);obtain⟨af,L,ab,ag,T,ls,ns,m,t,a,rfl,_⟩:=h;rfl
 . obtain⟨af,L,ab,ag,T,ls,ns,m,t,a,rfl,hC,lc,hL,ll,hN,ln,hZ,m1,m5,E,a1,a8⟩:=h
   refine⟨_,(Am (Sh (i:=5) Ni.nd rfl (Or.inl rfl) rfl Cr (Hi rfl B.b_range (Ab (pv 3) Ae)) (λ_ _ _ _ _=>(Ay (i:=0) Cr.nd)) (λ_ _ _ _ _=>Hz) (λ_ _ _ _ _=>(Bs (Ab (Cp Ae) (Ab (Cp Ae) Ae)))))
    (Am (AQ (i:=6) Ni.nd (AE AF (Cp (Ab Ai (Ab Ai Ae))) (G1 RS B.b_int (Ab (Jb GO (pv 3) Ai (Bw _)) Ae))))
    (Am (CB Cm rfl (C6 (pv 0)) (Ay (i:=7) Ni.nd) (Am (AQ (i:=8) Ni.nd (AA Bf (AA Bf (AA EG (AA EN (pv 7) Ai) Ai) Ai) (pv 3)))
     (Am (AQ (i:=9) Ni.nd (AA EN (pv 7) Ai))
     (Am (Bm (PW.pt (Gw (BJ GO (AA Bf (pv 7) Ai) Ai (Bw _)) (Gv (BJ GO (BM DK B.b_len (Ab (AE AF (AE AF (pv 5) (pv 8)) Ai) Ae)) (pv 6) (Bw _))))) (Au (Df (Dj DI Ep Er Eu (AE AF (AE AF (pv 5) (pv 8)) Ai) (Ab (A6 a9 (Ab (pv 9) (Ab (pv 1) (Ab (pv 3) (Ab (AE AF (pv 4) Ai) Ae))))) Ae)))) Bo)
     (Au (Bm (PW.pt (Gw (X4 GO GO Ai (AA Bf (pv 7) Ai) Ai) (Gv (BJ GO (BM DK B.b_len (Ab (AE AF (AE AF (pv 5) (pv 8)) Ai) Ae)) Ai (Bw _))))) (Au (Df (Dj DI Ep Er Eu (AE AF (AE AF (pv 5) (pv 8)) Ai) (Ab (A6 aA (Ab (pv 9) (Ab (pv 1) (Ab (pv 2) (Ab (AE AF (pv 4) Ai) (Ab (AE AF (pv 4) Ai) Ae)))))) Ae)))) Bo))))))
    (Au (AX (pv 5)))))),?_⟩
   try dsimp only[AG,Cx.nox,Cx.wish]
   refine⟨by omega,by omega,PK (n:=m) (λD i ys r=>∃us d g:List Addr,ys=us.map V.ref/\Ac H r/\Dm r D us d g (List.replicate i (([],[]):Bj))/\(D::(d++g)).Nodup/\∀x∈d++g,H x=none)
    (λD hD=>⟨[],[],[],rfl,Bb hD,Dm.nil Aa,by simp,λx O=>by simp at O⟩) (λD i ys H7 RR hD hi hv k=>?_) (λS ys H7 aW hv=>?_)⟩
   refine AL λU b=>?_;obtain⟨us,d,g,rfl,l,SC,W,ae⟩:=hv;refine b ?_;clear b;have ay:=SC.lu;rw[List.length_replicate] at ay;refine⟨by decide,λG Q=>?_⟩;obtain⟨H8,aB,E,eG⟩:=new_at (o:=.lst []) Q;rw[<-aB];refine⟨by decide,λj A=>?_⟩;obtain⟨H9,aC,p,aD⟩:=new_at (o:=.lst []) A;rw[<-aC];refine⟨B7,λu hu=>?_⟩;obtain⟨aE,aR,t3,eu⟩:=new_at (o:=.tup [.ref G,.ref j]) hu;rw[<-aR];have az:=(E.trans p).trans t3;have aF:=p.trans t3;have a0:=SC.same az;have al:=SC.alive
   have nG:G∉D::(d++g):=λy=>by
    rcases Ch.mp y with y|y;rw[y,SC.top] at Q;cases Q;obtain⟨xs,e⟩:=al G y;rw[e] at Q;cases Q
   have nE:j∉D::(d++g):=λy=>by
    rcases Ch.mp y with y|y;rw[y,E _ _ SC.top] at A;cases A;obtain⟨xs,e⟩:=al j y;rw[E _ _ e] at A;cases A
   have aG:G≠j:=λy=>by rw[<-y,eG] at A;cases A
   have aH:IJ aE u G j ([],[]):=⟨eu,⟨[],aF _ _ eG,RT.nil⟩,⟨[],t3 _ _ aD,RT.nil⟩⟩;have aI:=a0.snoc aH (λz=>nG (z▸Bz)) (λz=>nE (z▸Bz)) (λx O z=>(Go.mp W).1 (z▸O));refine k _ _ a0.top (by rw[Al,ay];exact BC (by omega)) ⟨us++[u],d++[G],g++[j],by rw[Bk];rfl,λaT o e=>?_,?_,YV W nG nE aG,λx O=>?_⟩;rw[AD (AH e hD)];exact az _ _ (l _ _ e);rw[List.replicate_succ'];exact aI
   have:x∈d++g\/x=G\/x=j:=by
    simp only[BF,AY] at O ⊢;rcases O with(h|h)|(h|h);exact .inl (.inl h);exact .inr (.inl h);exact .inl (.inr h);exact .inr (.inr h)
   rcases this with h|h|h;exact ae x h;rw[h];exact l.free Q;rw[h];exact(l.trans E).free A;refine AL λU b=>?_;obtain⟨us,d,g,rfl,s4,aJ,W,ae⟩:=hv;refine b ?_;clear b;(try dsimp only);refine⟨B7,λaU hl=>?_⟩;obtain⟨H5,aK,s5,el⟩:=new_at (o:=.lst [.int 2,.int 3]) hl;rw[<-aK]
   have aL:Bt [V.int 2,V.int 3] (if decide ((m:Int)<4)=true then 1 else 0)=some (.int (EV m)):=by
    unfold EV;by_cases h:m<4;rw[Ak (A5 (by omega)),Ak h];exact fQ _ _;rw[Aj (by rw[DT (by omega)];exact Cv),Aj h];exact fP _ _
   refine Or.inr ⟨_,rfl,Or.inl ⟨_,.int (EV m),Af.of el,aL,?_⟩⟩;refine AO ?_;(try dsimp only);have a2:=s4.trans s5;refine⟨⟨_,a2.seq hC⟩,EM (xs:=T.map V.int) (λi σ r=>∃u7 u8 u9,σ=[some (.ref af),some (.ref L),some (.ref ab),some (.int m),some (.ref ag),some (.ref S),some (.int (EV m)),u7,u8,u9]/\Ac H r/\Dm r S us d g (Eg ls ns m t a T i)) ⟨none,none,none,rfl,a2,aJ.same s5⟩ (λi σ r _ aM=>by obtain⟨_,_,_,_,s,_⟩:=aM;exact s.seq hC) ?_ ?_⟩;rotate_left;refine λσ H6 ak=>AL λU b=>?_;obtain⟨u7,u8,u9,rfl,I,q⟩:=ak;refine b ?_;clear b;rw[Al] at q;exact a8 S us d g _ I q;refine λi y σ H6 hy ak=>AL λU b=>?_;obtain⟨u7,u8,u9,rfl,I,q⟩:=ak;refine b ?_;clear b;obtain⟨c,hc,rfl⟩:=getm hy;have a3:=QF (ls:=ls) (ns:=ns) m1 E a1 T i;rw[Xs hc];generalize Eg ls ns m t a T i=ss at q a3;refine AO ?_;(try dsimp only);refine⟨⟨by decide,by decide⟩,Or.inr ⟨by decide,by decide⟩,(by show(0:Int)<65539;decide),(by show(0:Int)<m;omega),?_⟩;refine AO ?_;(try dsimp only);refine⟨⟨by decide,by decide⟩,?_⟩;refine AO ?_;(try dsimp only);have r0:0<=BU m c:=EK _ (by omega);have r1:BU m c<m:=EZ _ (by omega);obtain⟨n,R⟩:=DH r0;have aN:=a3.len;have an:n<ss.length:=(by omega);have a4:EW ss (BU m c)=ss[n]:=by unfold EW;rw[R,Bl,BY,AC an];rfl
   have aX:EV m<=3:=by unfold EV;split<;>omega
   refine HA (λσ' r=>σ'=[some (.ref af),some (.ref L),some (.ref ab),some (.int m),some (.ref ag),some (.ref S),some (.int (EV m)),some (.int c),some (.int (BU m c)),some (.int (c/8))]/\Ac H r/\Dm r S us d g (IS ls m a ss c)) ?_ (λNX ao=>?_);rotate_left
   . refine AL λU b=>?_
     obtain⟨u,G,j,ah,ai,aj,g4,⟨X,⟨tG,J,Y⟩,_⟩⟩:=q.get an;refine b ?_;clear b;have aa:Bt (us.map V.ref) (BU m c)=some (.ref u):=by rw[R];exact BN (by rw[Bh,ah];rfl)
     have aq:(tG.map V.ref).length=(EW ss (BU m c)).1.length:=(by rw[Al,Y.len,a4]);have no:¬(c%8<3/\(EW ss (BU m c)).1.length<EV m)->IS ls m a ss c=ss:=λz=>Aj z;refine⟨(by show(0:Int)<8;decide),rfl,Ao (λM=>?_) (λM=>?_)⟩;rotate_left;refine ao _ _ ⟨rfl,I,?_⟩;rw[no λz=>M (A5 z.1)];exact q;have ar:c%8<3:=Bi M;refine Or.inl ⟨_,.ref u,Af.of q.top,aa,Or.inr (Or.inl ⟨_,.ref G,Aq.of X,rfl,_,Or.inl ⟨_,Af.of J,rfl⟩,rfl,Ao (λN=>?_) (λN=>?_)⟩)⟩;rotate_left;refine ao _ _ ⟨rfl,I,?_⟩;rw[no λz=>N (A5 (by rw[aq];exact Int.ofNat_lt.mpr z.2))];exact q
     have au:(EW ss (BU m c)).1.length<EV m:=by
      have:=Bi N;rw[aq] at this;exact Int.ofNat_lt.mp this
     refine Or.inl ⟨_,.ref u,Af.of q.top,aa,Or.inr (Or.inl ⟨_,.ref G,Aq.of X,rfl,Or.inl ⟨rfl,_,Af.of J⟩,Or.inr (Or.inl ⟨_,.int a,I.seqT hZ,rfl,c/8,L,ls,m,a,rfl,I.seq hL,ll,m1,a1,λtp H8 aO p av=>?_⟩)⟩)⟩;have Z:=p _ _ J;have mG:G∈d++g:=Ej _ (Bd ai);refine⟨_,Z,by rw[aq];exact BC (by omega),ao _ _ ⟨rfl,λx o e=>?_,?_⟩⟩;rw[AD (AH e (ae G mG))];exact p _ _ (I _ _ e);have:=(q.same p).step W an ai Z (Y.same p) av;unfold IS;rw[Ak ⟨ar,au⟩,a4,R,Bl];exact this
   rintro σ' H7 ⟨rfl,l,C⟩;have aP:(IS ls m a ss c).length=m:=by rw[Ke];exact aN
   show _;unfold QD;generalize IS ls m a ss c=v at C aP;have ax:n<v.length:=(by omega);have a5:EW v (BU m c)=v[n]:=by unfold EW;rw[R,Bl,BY,AC ax];rfl
   refine AL λU b=>?_;obtain⟨u,G,j,ah,ai,aj,g4,⟨X,_,⟨tE,J,Y⟩⟩⟩:=C.get ax;refine b ?_;clear b;have aa:Bt (us.map V.ref) (BU m c)=some (.ref u):=by rw[R];exact BN (by rw[Bh,ah];rfl)
   have aw:(tE.map V.ref).length=(EW v (BU m c)).2.length:=(by rw[Al,Y.len,a5]);have no:¬((2<c%8/\c%8<6)/\(EW v (BU m c)).2.length<2)->No ls ns m t a v c=v:=λz=>Aj z;refine⟨(by show(0:Int)<8;decide),_,rfl,Ao (λd0=>?_) (λd0=>?_)⟩;rotate_left;refine⟨rfl,Bg (Bg ⟨_,_,_,rfl,l,?_⟩)⟩;rw[no λz=>d0 (A5 z.1.1)];exact C;have aQ:2<c%8:=Bi d0;refine⟨rfl,Ao (λM=>?_) (λM=>?_)⟩;rotate_left;refine⟨_,_,_,rfl,l,?_⟩;rw[no λz=>M (A5 z.1.2)];exact C;have ar:c%8<6:=Bi M;refine Or.inl ⟨_,.ref u,Af.of C.top,aa,Or.inr (Or.inl ⟨_,.ref j,Aq.of X,rfl,_,Or.inl ⟨_,Af.of J,rfl⟩,rfl,Ao (λN=>?_) (λN=>?_)⟩)⟩;rotate_left;refine⟨_,_,_,rfl,l,?_⟩;rw[no λz=>N (A5 (by rw[aw];exact Int.ofNat_lt.mpr z.2))];exact C
   have au:(EW v (BU m c)).2.length<2:=by
    have:=Bi N;rw[aw] at this;exact Int.ofNat_lt.mp this
   refine Or.inl ⟨_,.ref u,Af.of C.top,aa,Or.inr (Or.inl ⟨_,.ref j,Aq.of X,rfl,Or.inl ⟨rfl,_,Af.of J⟩,Or.inr (Or.inl ⟨_,.int t,l.seqT hZ,rfl,Or.inr (Or.inl ⟨_,.int a,l.seqT hZ,rfl,c/8,L,ab,ls,ns,t,a,rfl,l.seq hL,ll,l.seq hN,ln,E,a1,λtp H8 aO p av=>?_⟩)⟩)⟩)⟩;have Z:=p _ _ J;have mE:j∈d++g:=De _ (Bd aj);refine⟨_,Z,by rw[aw];exact BC (by omega),⟨_,_,_,rfl,λx o e=>?_,?_⟩⟩;rw[AD (AH e (ae j mE))];exact p _ _ (l _ _ e);have:=(C.same p).tell W ax aj Z (Y.same p) av;unfold No;rw[Ak ⟨⟨aQ,ar⟩,au⟩,a5,R,Bl];exact this
abbrev Eh (ns:List Int):List Str:=GW (ER ns 0) 3
abbrev MF (ns:List Int):List Str:=GW (ER ns 1) 5
def Iu (ns:List Int) (n:Nat):List Int:=(List.range n).map λk:Nat=>ER ns (2+(k:Int))
abbrev MG (ns:List Int):Int:=ER ns 7
abbrev By (ns:List Int):Nat:=(1+MG ns%5).toNat
abbrev Cd (ns:List Int):List Int:=ns.drop 9
def EX (cs:List Int):Nat:=(cs.filter λc=>decide (c%8=7)).length
def BK (ns:List Int):Nat:=1+min 5 (EX (Cd ns))
abbrev Dy (ns:List Int):Nat:=(1+ER ns 2%3).toNat
def K1 (m a:Nat) (l:List (Str×Int)) (c:Int):List (Str×Int):=if c%8=6/\l.length<6 then l++[Mz m a (c/8)] else l
def BV (ns:List Int) (i:Nat):List (Str×Int):=((Cd ns).take i).foldl (K1 (By ns) (BK ns)) [("part",MG ns/5%By ns)]
def Kf (nm:List Str) (m s:Nat) (l:List Qu) (c:Int):List Qu:=if c%8=7/\l.length<6 then l++[Dw nm m s (c/8)] else l
def FA (ns:List Int) (i:Nat):List Qu:=((Cd ns).take i).foldl (Kf (Eh ns) (By ns) (Dy ns)) [Dw (Eh ns) (By ns) (Dy ns) (MG ns/25)]
theorem OP(ns:List Int):1<=By ns/\By ns<=5:=by unfold By;omega
theorem Ud(ns:List Int):1<=Dy ns/\Dy ns<=3:=by unfold Dy;omega
theorem OQ(ns:List Int):1<=BK ns/\BK ns<=6:=by unfold BK;omega
theorem Xv(h:(Cd ns)[i]?=some c):BV ns (i+1)=K1 (By ns) (BK ns) (BV ns i) c:=by
 unfold BV;rw[DS,h,Ks];rfl
theorem Xw(h:(Cd ns)[i]?=some c):FA ns (i+1)=Kf (Eh ns) (By ns) (Dy ns) (FA ns i) c:=by
 unfold FA;rw[DS,h,Ks];rfl
set_option tactic.hygienic true in
theorem OR(ns:List Int)(i:Nat):1<=(BV ns i).length/\(BV ns i).length<=6:=by
 unfold BV;generalize (Cd ns).take i=l
 have:∀(l:List Int)(g:List (Str × Int)),1<=g.length/\g.length<=6->1<=(l.foldl (K1 (By ns) (BK ns)) g).length/\(l.foldl (K1 (By ns) (BK ns)) g).length<=6:=by
  intro l
  induction l with
  |nil=>exact λg h=>h
  |cons c l a =>
    intro g h;refine a _ ?_;unfold K1;split;rename_i k;rw[AV,Dh];omega;exact h
 exact this l _ ⟨AB _,(by show 1<=6;decide)⟩
theorem Kg(ns:List Int)(i:Nat):∀p∈BV ns i,FL (By ns) (BK ns) p:=by
 unfold BV;generalize (Cd ns).take i=l;have b:=OP ns;have d:=OQ ns
 have:∀(l:List Int)(g:List (Str × Int)),(∀p∈g,FL (By ns) (BK ns) p) -> ∀p∈l.foldl (K1 (By ns) (BK ns)) g,FL (By ns) (BK ns) p:=by
  intro l
  induction l with
  |nil=>exact λg h=>h
  |cons c l e =>
    intro g h;refine e _ ?_;unfold K1;split;intro p a;rcases BF.mp a with a|a;exact h p a;rw[AY.mp a];exact MA b.1 d.1 _;exact h
 refine this l _ λp a=>?_;rw[AY.mp a];exact .inr (.inl ⟨rfl,EK _ (by omega),EZ _ (by omega)⟩)
theorem Xx(ns:List Int)(i:Nat):(FA ns i).length=1+min 5 (EX ((Cd ns).take i)):=by
 unfold FA;generalize (Cd ns).take i=l
 have:∀(l:List Int)(g:List Qu),g.length<=6->(l.foldl (Kf (Eh ns) (By ns) (Dy ns)) g).length=min 6 (g.length+EX l):=by
  intro l
  induction l with
  |nil=>intro g h;show g.length=min 6 (g.length+0);omega
  |cons c l d =>
    intro g h;show(l.foldl _ (Kf (Eh ns) (By ns) (Dy ns) g c)).length=_
    have e:EX (c::l)=(if c%8=7 then 1 else 0)+EX l:=by
     unfold EX;rw[MP];by_cases a:c%8=7;rw[Ak (A5 a),Ak a,Ek];omega;rw[Aj (by rw[DT a];exact Cv),Aj a];omega
    rw[e];by_cases k:c%8=7/\g.length<6;have b:Kf (Eh ns) (By ns) (Dy ns) g c=g++[Dw (Eh ns) (By ns) (Dy ns) (c/8)]:=Ak k;rw[b,d _ (by rw[AV,Dh];omega),AV,Dh,Ak k.1];omega;have b:Kf (Eh ns) (By ns) (Dy ns) g c=g:=Aj k;rw[b,d g h];by_cases a:c%8=7;have:¬g.length<6:=λz=>k ⟨a,z⟩;omega;rw[Aj a];omega
 rw[this l _ (by show 1<=6;decide)];show min 6 (1+EX l)=_;omega
theorem Ue(ns:List Int):(FA ns (Cd ns).length).length=BK ns:=by rw[Xx,Ei];rfl
theorem Iv(ns:List Int)(i:Nat):∀q∈FA ns i,(0<=q.1/\q.1<By ns)/\(0<=q.2.1/\q.2.1<Dy ns)/\1<=q.2.2.length/\q.2.2.length<=8:=by
 unfold FA;generalize (Cd ns).take i=l;have d:=OP ns;have e:=Ud ns
 have one:∀c,(0<=(Dw (Eh ns) (By ns) (Dy ns) c).1/\(Dw (Eh ns) (By ns) (Dy ns) c).1<By ns)/\(0<=(Dw (Eh ns) (By ns) (Dy ns) c).2.1/\(Dw (Eh ns) (By ns) (Dy ns) c).2.1<Dy ns)/\1<=(Dw (Eh ns) (By ns) (Dy ns) c).2.2.length/\(Dw (Eh ns) (By ns) (Dy ns) c).2.2.length<=8:=λc=>by
  have:=Kc (Eh ns) c;exact⟨⟨EK _ (by omega),EZ _ (by omega)⟩,⟨EK _ (by omega),EZ _ (by omega)⟩,this.1,El this.2 (by decide)⟩
 have:∀(l:List Int)(g:List Qu),(∀q∈g,(0<=q.1/\q.1<By ns)/\(0<=q.2.1/\q.2.1<Dy ns)/\1<=q.2.2.length/\q.2.2.length<=8) -> ∀q∈l.foldl (Kf (Eh ns) (By ns) (Dy ns)) g,(0<=q.1/\q.1<By ns)/\(0<=q.2.1/\q.2.1<Dy ns)/\1<=q.2.2.length/\q.2.2.length<=8:=by
  intro l
  induction l with
  |nil=>exact λg h=>h
  |cons c l b =>
    intro g h;refine b _ ?_;unfold Kf;split;intro p a;rcases BF.mp a with a|a;exact h p a;rw[AY.mp a];exact one _;exact h
 refine this l _ λp a=>?_;rw[AY.mp a];exact one _
structure Np (ns:List Int) (ss:List Bj) (gs:List (Str×Int)) (qs:List Qu) (sts:List CP) (inn:Int) (ord:List (Str×Str)):Prop where
 ss:ss=Eg (MF ns) (Eh ns) (By ns) (BV ns (Cd ns).length).length (BK ns) (Cd ns) (Cd ns).length
 gs:gs=BV ns (Cd ns).length
 qs:qs=FA ns (Cd ns).length
 tb:ON (Iu ns 5) (MF ns) sts inn ord
theorem Np.uniq{ns:List Int}{ss d:List Bj}{gs e:List (Str×Int)}{qs f:List Qu}{g i:List CP}{inn j:Int}{ord l:List (Str×Str)}(h:Np ns ss gs qs g inn ord)(k:Np ns d e f i j l):ss=d/\gs=e/\qs=f/\g=i/\inn=j/\ord=l:=by
 obtain⟨a,b,c⟩:=h.tb.uniq k.tb;exact⟨h.ss.trans k.ss.symm,h.gs.trans k.gs.symm,h.qs.trans k.qs.symm,a,b,c⟩
theorem fT(ns:List Int)(n:Nat):Iu ns (n+1)=Iu ns n++[ER ns (2+(n:Int))]:=by unfold Iu;rw[List.range_succ,Bk];rfl
theorem Xy(ns:List Int)(n:Nat):(Iu ns n).length=n:=by unfold Iu;rw[Al,List.length_range]
theorem QG(ns:List Int):(Iu ns 5).getD 0 0=ER ns 2:=rfl
variable {qs:List Qu}
theorem OS{gs:List (Str×Int)}{f:List CP}{inn:Int}{ord:List (Str×Str)}(h:Np ns ss gs qs f inn ord){as:List (Option (Str×Int))}(g:as.length=qs.length)(o:∀p,some p∈as->p.1=("thing" : Str)->0<=p.2/\p.2<gs.length):Qc ⟨ss,gs,as,f⟩ qs inn ord:=by
 have j:=OP ns;have r:=OQ ns;have t:=OR ns (Cd ns).length;have F:=Ud ns;have eq:qs.length=BK ns:=(by rw[h.qs,Ue]);have u:gs.length=(BV ns (Cd ns).length).length:=(by rw[h.gs]);have a:=QF (ls:=MF ns) (ns:=Eh ns) j.1 t.1 r.1 (Cd ns) (Cd ns).length;rw[<-h.ss,<-u] at a;have ls:f.length=Dy ns:=(by rw[h.tb.len,QG]);have k:(0:Int)<1+ER ns 2%3:=(by omega);have l:(Dy ns:Int)=1+ER ns 2%3:=by unfold Dy;omega
 have v:Fy ⟨ss,gs,as,f⟩:=by
  refine⟨λs b=>?_,λs b p d=>?_,λp d=>?_,o,λs b p d=>?_⟩;have:=a.st s b;have:EV (By ns)<=3:=by unfold EV;split<;>omega
  omega;show Fp ss.length as.length p;rw[a.len,g,eq];exact a.kst s b p d;show FL ss.length as.length p;rw[a.len,g,eq];exact Kg ns _ p (h.gs▸d);obtain⟨i,w,e⟩:=List.getElem_of_mem b;have x:=h.tb.at_ i s (by rw[AC w,e]);have:=Xp (ls:=MF ns) (c:=(Iu ns 5).getD (1+i) 0) (n:=1+(Iu ns 5).getD 0 0%3) (by rw[QG];exact k) 5 p (x.pg.mem_iff.mp d);rw[QG] at this;show 0<=p.2/\p.2<(f.length:Int);rw[ls,l];exact this
 have y:∀s∈ss,s.1.length<=EV (By ns):=a.st
 have z:JL (EV (By ns)) ss.length*max 2 (EV (By ns))<=62:=by
  rw[a.len];generalize By ns=m at j;have:m=1\/m=2\/m=3\/m=4\/m=5:=(by omega);rcases this with e|e|e|e|e<;>subst e<;>decide
 obtain⟨ok,A⟩:=Z1 v (B:=EV (By ns)) y (by show ss.length<=100;rw[a.len];omega) z a.tl (λs b p d=>by
  show Fq gs.length as.length p
  rw[g,eq];exact a.ktl s b p d)
 refine⟨ok,A,?_,h.tb.ord.irr (Xl (by decide)),?_,λq C=>?_⟩;have:=h.tb.ord.len (by rw[Nn];decide);omega;rw[h.tb.inn,QG];show 0<=_/\_<(f.length:Int);have D:=EK (ER ns 2/3) (show 1+ER ns 2%3≠0 by omega);have E:=EZ (ER ns 2/3) k;rw[ls,l];exact⟨D,E⟩;have:=Iv ns _ q (h.qs▸C);show(0<=q.1/\q.1<(ss.length:Int))/\(0<=q.2.1/\q.2.1<(f.length:Int))/\_;rw[a.len,ls];exact this
inductive D6 (K:Ah) (vs:List V) (H:Hp) (Q:VK):Prop where
 |mk (a:Addr) (ns:List Int) (h0:vs=[.ref a]) (h1:Af K H a (ns.map V.int)) (h2:ns.length<=63) (h3:∀(r nt t S T R:Addr)(us Gs Es ts qt:List Addr)(ss:List Bj)(gs:List (Str×Int))(qs:List Qu)(sts:List CP)(inn:Int)(ord:List (Str×Str))(H':Hp),Ac H H'->H' r=some (.tup [.ref nt,.ref t])->H' nt=some (.tup [.ref S,.ref T,.ref R])->Ge H' S T R us Gs Es ts qt ss gs qs->Gd K (λ_=>True) H' t sts inn ord->Np ns ss gs qs sts inn ord->Q (.ref r) H'):D6 K vs H Q
def fU (K:Ah):Sp:=λvs H Q _=>D6 K vs H Q
variable (P w K mg base) in
abbrev QH:Prop:=BG P w K mg base "_law_made" 4 ["_law_script"] (fU K)
theorem fV (B:BH mg) (aB:TU P w K mg base) (ah:OK P w K mg base) (bg:T1 P w K mg base) (aC:T6 P w K mg base) (bh:T8 P w K mg base) (bi:Uc P w K mg base) (F:Br K "_law_made" "_law_made" Nt f fd) (hm:mg "_law_made" = some (.ref f)):QH P w K mg base:=by
 refine B1 F hm G8 (λvs aq ba bb ar=>?_) (λbH bF bT s aq vs ba bb hr ar=>?_);obtain⟨a,ns,rfl,_⟩:=ar;rfl
 . obtain⟨a,ns,rfl,S,bR,q⟩:=ar
   have U:=OP ns;have z2:=OQ ns;have z3:=Ud ns
   refine⟨_,(Am (AQ (i:=1) G8.nd (A6 aB (Ab (A6 ah (Ab (pv 0) (Ab Ai Ae))) (Ab Ai Ae))))
    (Am (AQ (i:=2) G8.nd (A6 aB (Ab (A6 ah (Ab (pv 0) (Ab Ai Ae))) (Ab Ai Ae))))
    (Am (AQ (i:=3) G8.nd (A6 bg (Ab (G4 rfl CY (XZ rfl B.b_range (Ab Ai (Ab Ai Ae))) (λ_ _ _ _ _=>(Ay (i:=0) CY.nd)) (λ_ _ _ _ _=>Hz) (λ_ _ _ _ _=>(A6 ah (Ab (pv 1) (Ab (pv 0) Ae))))) (Ab (pv 2) Ae))))
    (Am (AQ (i:=4) G8.nd (A6 ah (Ab (pv 0) (Ab Ai Ae))))
    (Am (AQ (i:=5) G8.nd (AA Hj Ai (AA Bf (pv 4) Ai)))
    (Am (AQ (i:=6) G8.nd (UX UZ (pv 0) (RX Ai) Jg))
    (Am (AQ (i:=7) G8.nd (Cp (Ab (Bs (Ab BZ (Ab (AA Bf (AA EN (pv 4) Ai) (pv 5)) Ae))) Ae)))
    (Am (AQ (i:=8) G8.nd (Cp (Ab (A6 aC (Ab (AA EN (pv 4) Ai) (Ab (pv 5) (Ab (BM DK B.b_len (Ab (AE AF (pv 3) Ai) Ae)) (Ab (pv 1) Ae))))) Ae)))
    (Am (AQ (i:=9) G8.nd (AA Hj Ai (BM (UR rfl) B.b_min (Ab Ai (Ab (BM DK B.b_len (Ab (G4 rfl CZ (C6 (pv 6)) (λ_ _ _ _ _=>(Ay (i:=0) CZ.nd)) (λ_ _ _ _ _=>(Py (BJ CC (AA Bf (pv 0) Ai) Ai (Bw _)))) (λ_ _ _ _ _=>(pv 0))) Ae)) Ae)))))
    (Am (CB Cm rfl (C6 (pv 6)) (Ay (i:=10) G8.nd) (Am (Bm (PW.pt (Gw (BJ CC (AA Bf (pv 10) Ai) Ai (Bw _)) (Gv (BJ GO (BM DK B.b_len (Ab (pv 7) Ae)) Ai (Bw _))))) (Au (Df (Dj DI Ep Er Eu (pv 7) (Ab (A6 bh (Ab (AA EN (pv 10) Ai) (Ab (pv 5) (Ab (pv 9) Ae)))) Ae)))) Bo)
     (Au (Bm (PW.pt (Gw (BJ CC (AA Bf (pv 10) Ai) Ai (Bw _)) (Gv (BJ GO (BM DK B.b_len (Ab (pv 8) Ae)) Ai (Bw _))))) (Au (Df (Dj DI Ep Er Eu (pv 8) (Ab (A6 aC (Ab (AA EN (pv 10) Ai) (Ab (pv 5) (Ab (BM DK B.b_len (Ab (AE AF (pv 3) Ai) Ae)) (Ab (pv 1) Ae))))) Ae)))) Bo))))
    (Am (AQ (i:=11) G8.nd (A6 bi (Ab (pv 6) (Ab (pv 2) (Ab (pv 1) (Ab (pv 5) (Ab (Bs (Ab (BM DK B.b_len (Ab (pv 7) Ae)) (Ab (pv 9) Ae))) Ae)))))))
    (Au (AX (Bs (Ab (Bs (Ab (pv 11) (Ab (pv 7) (Ab (pv 8) Ae)))) (Ab (pv 3) Ae)))))))))))))))),?_⟩
   (try dsimp only[AG,Cx.nox,Cx.wish]);refine⟨a,ns,0,rfl,by decide,S,_,3,rfl,by decide,by decide,λN bG hN s1 eN=>?_⟩;refine AO ?_;(try dsimp only);refine⟨a,ns,1,rfl,by decide,s1.seq S,_,5,rfl,by decide,by decide,λag H2 hL s2 eL=>?_⟩;have aD:=s1.trans s2;have bj:=s2 _ _ eN;refine AO ?_;(try dsimp only)
   refine⟨_,_,rfl,⟨by decide,by decide,by decide,by decide⟩,PK (lo:=2) (n:=5) (λD i A b=>Ac H2 b/\b D=some (.lst A)/\A=(Iu ns i).map V.int)
    (λD E=>⟨Bb E,Aa,rfl⟩) (λD i A H3 RR E hi G k=>?_) (λTC A H3 bI G=>?_)⟩
   obtain⟨M,eD,rfl⟩:=G;refine⟨a,ns,2+(i:Int),rfl,by omega,(aD.trans M).seq S,?_⟩;refine k _ _ eD (by rw[Al,Xy];exact BC (by omega)) ⟨λbc o e=>?_,Aa,?_⟩;rw[AD (AH e E)];exact M _ _ e;rw[fT,Bk];rfl;obtain⟨M,bk,rfl⟩:=G;have bl:=aD.trans M;have aE:=M _ _ eL;have aw:=M _ _ bj;refine⟨TC,ag,Iu ns 5,MF ns,rfl,Af.of bk,Xy ns 5,Af.of aE,Nn _ _,λt bm bn bo H4 W TB aF=>?_⟩;have ai:=bl.trans W;refine AO ?_;(try dsimp only);refine⟨a,ns,7,rfl,by decide,ai.seq S,?_⟩;refine AO ?_;(try dsimp only);refine⟨(by show(0:Int)<5;decide),?_⟩;dsimp only[Ja,IE];rw[show(1+ER ns 7%5:Int)=(By ns:Int) by unfold By MG;omega];refine AO ?_;(try dsimp only)
   refine⟨_,rfl,a,_,rfl,ai.seq S,λX h0=>?_⟩;rw[show EO (ns.map V.int) (some 9) none=(Cd ns).map V.int from(YA _ 9).trans (List.map_drop).symm];obtain⟨H5,bp,s5,ax⟩:=new_at (o:=.lst ((Cd ns).map V.int)) h0;rw[<-bp];refine AO ?_;try dsimp only
   have aG:=ai.trans s5;have bq:(Cd ns).length<=63:=by rw[Kr];omega
   refine⟨⟨by decide,by decide⟩,(by show(0:Int)<By ns;omega),B7,λp1 br=>?_⟩;obtain⟨H6,bs,s6,bt⟩:=new_at (o:=.tup [.str "part",.int (MG ns/5%By ns)]) br;rw[<-bs];refine⟨HC,λT Y=>?_⟩;obtain⟨H7,bu,s7,aH⟩:=new_at (o:=.lst [.ref p1]) Y;rw[<-bu];refine AO ?_;(try dsimp only);have aj:=s6.trans s7;have aI:=aG.trans aj;refine AL λNz u=>?_;obtain⟨a9,tO,tu,bJ,et,_,_,_,aJ,SR,_⟩:=TB.ex;refine u ?_;clear u;have aK:(tu.map V.ref).length=Dy ns:=by rw[Al,SR.len,aF.len];rfl
   have aa:=s5.trans aj;refine⟨⟨by decide,by decide⟩,Or.inr (Or.inl ⟨_,.ref a9,Aq.of (aa _ _ et),rfl,_,Or.inl ⟨_,Af.of (aa _ _ aJ),rfl⟩,_,N,Eh ns,By ns,(tu.map V.ref).length,rfl,Af.of ((W.trans aa) _ _ aw),Nn _ _,U.1,by omega,λpq pu H8 Z aL aM=>?_⟩)⟩;rw[aK] at aL aM;refine⟨HC,λR H=>?_⟩;obtain⟨H9,bv,s9,bw⟩:=new_at (o:=.lst [.ref pq]) H;rw[<-bv];refine AO ?_;(try dsimp only);have ab:=Z.trans s9;have a7:=(aj.trans ab) _ _ ax
   refine⟨⟨_,Af.of a7⟩,PL (xs:=(Cd ns).map V.int) (λD i A b=>Ac H9 b/\b D=some (.lst A)/\A=(((Cd ns).take i).filter λc=>decide (c%8=7)).map V.int)
    (λD E=>⟨Bb E,Aa,rfl⟩) (λD i A b ay=>by obtain⟨s,_⟩:=ay;exact Af.of (s _ _ a7)) (λD au bd A ak RR R0 E hy G k k0=>?_) (λCD A ak bK G=>?_)⟩
   obtain⟨v,eD,rfl⟩:=G;obtain⟨c,C,rfl⟩:=getm hy;have bL:au<(Cd ns).length:=(A9.mp C).1;refine⟨(by show(0:Int)<8;decide),rfl,rfl,Ao (λav=>?_) (λav=>?_)⟩;have d':c%8=7:=V.int.inj (Bi av);refine k _ _ eD ?_ ⟨λbc o e=>?_,Aa,?_⟩;have h1:(((Cd ns).take au).filter λc=>decide (c%8=7)).length<=((Cd ns).take au).length:=O9 _ _;rw[FG] at h1;rw[Al];exact BC (by omega);rw[AD (AH e E)];exact v _ _ e;rw[DS,C,Nr,Bk];congr 1;show _=(List.filter _ [c]).map V.int;rw[MP,Ak (A5 d')];rfl;have d':¬c%8=7:=λz=>av (A5 (by show V.int (c%8)=V.int 7;rw[z]));refine k0 _ ⟨v,eD,?_⟩;rw[DS,C,Nr,Bk];show _=_++(List.filter _ [c]).map V.int;rw[MP,Aj (by rw[DT d'];exact Cv)];exact(FC _).symm;obtain⟨v,aN,rfl⟩:=G;rw[Al,Ei] at aN;have bx:(((Cd ns).filter λc=>decide (c%8=7)).map V.int).length=EX (Cd ns):=Al _;refine⟨_,Or.inl ⟨_,Af.of aN,rfl⟩,_,_,rfl,?_⟩;rw[bx];dsimp only[Ja,IE]
   rw[show(1+(if((EX (Cd ns):Nat):Int)<5 then((EX (Cd ns):Nat):Int) else 5):Int)=(BK ns:Int) by unfold BK;split<;>omega]
   refine AO ?_;(try dsimp only);have aR:=(ab.trans v) _ _ aH;have aS:=v _ _ bw;have bM:aq T=none:=(aG.trans s6).free Y;have bN:aq R=none:=(aI.trans Z).free H;have aO:T≠R:=λz=>by rw[<-z,Z _ _ aH] at H;cases H
   have a8:=v _ _ a7;have aT:X≠T:=λz=>by rw[<-z,s6 _ _ ax] at Y;cases Y
   have aU:X≠R:=λz=>by rw[<-z,(aj.trans Z) _ _ ax] at H;cases H
   have bS:=aI.trans (ab.trans v);have b9:=aa.trans (ab.trans v);have bz:H4 T=none:=(s5.trans s6).free Y;have b0:H4 R=none:=(aa.trans Z).free H;have az:∀{b:Hp},Keeps (λx=>x=T\/x=R) ak b->Ac H4 b:=λk x o e=>k.at_ _ _ (b9 _ _ e) λz=>z.elim (AH e bz) (AH e b0)
   refine⟨⟨_,Af.of a8⟩,EM (xs:=(Cd ns).map V.int) (λi σ b=>∃a0 d g,σ=[some (.ref a),some (.ref N),some (.ref ag),some (.ref t),some (.int (ER ns 7)),some (.int (By ns)),some (.ref X),some (.ref T),some (.ref R),some (.int (BK ns)),a0,none]/\Keeps (λx=>x=T\/x=R) ak b/\b T=some (.lst (d.map V.ref))/\GT b d (BV ns i)/\b R=some (.lst (g.map V.ref))/\QT b g (FA ns i))
    ⟨none,[p1],[pq],rfl,Keeps.refl λx o m e=>?_,aR,?_,aS,?_⟩ (λi σ b _ ay=>by obtain⟨_,_,_,_,k,_⟩:=ay;exact Af.of (k.at_ _ _ a8 λz=>z.elim aT aU)) ?_ ?_⟩
   rcases m with m|m;rw[m,aR] at e;exact⟨_,(Bv e).symm⟩;rw[m,aS] at e;exact⟨_,(Bv e).symm⟩;exact GT.nil.snoc (p:=(("part" : Str),MG ns/5%By ns)) ((s7.trans (ab.trans v)) _ _ bt);exact QT.nil.snoc (q:=Dw (Eh ns) (By ns) (Dy ns) (MG ns/25)) ((s9.trans v) _ _ aL) ((s9.trans v) _ _ aM)
   . refine λi bd σ b1 hy ae=>AL λNz u=>?_
     obtain⟨a0,d,g,rfl,L,h,j,l,y⟩:=ae;refine u ?_;clear u;refine Gi ?_;intro Nx Cy;obtain⟨c,C,rfl⟩:=getm hy;refine AO ?_;(try dsimp only);have ao:=az L;have af:(d.map V.ref).length=(BV ns i).length:=(by rw[Al,j.len]);have a1:(g.map V.ref).length=(FA ns i).length:=(by rw[Al,y.len]);have b6:=(OR ns i).2;have q6:(FA ns i).length<=6:=by rw[Xx];omega
     refine HA (λσ' b=>∃d,σ'=[some (.ref a),some (.ref N),some (.ref ag),some (.ref t),some (.int (ER ns 7)),some (.int (By ns)),some (.ref X),some (.ref T),some (.ref R),some (.int (BK ns)),some (.int c),none]/\Keeps (λx=>x=T\/x=R) ak b/\b T=some (.lst (d.map V.ref))/\GT b d (BV ns (i+1))/\b R=some (.lst (g.map V.ref))/\QT b g (FA ns i)) ?_ (λNX a2=>?_);rotate_left
     . have no:¬(c%8=6/\(BV ns i).length<6)->BV ns (i+1)=BV ns i:=λz=>by rw[Xv C];exact Aj z
       refine⟨(by show(0:Int)<8;decide),rfl,rfl,Ao (λI=>?_) (λI=>?_)⟩;rotate_left;refine a2 _ _ ⟨d,rfl,L,h,?_,l,y⟩;rw[no λz=>I (A5 (by show V.int (c%8)=V.int 6;rw[z.1]))];exact j;have a3:c%8=6:=V.int.inj (Bi I);refine⟨_,Or.inl ⟨_,Af.of h,rfl⟩,rfl,Ao (λJ=>?_) (λJ=>?_)⟩;rotate_left;refine a2 _ _ ⟨d,rfl,L,h,?_,l,y⟩;rw[no λz=>J (A5 (by rw[af];exact Int.ofNat_lt.mpr z.2))];exact j
       have a4:(BV ns i).length<6:=by
        have:=Bi J;rw[af] at this;exact Int.ofNat_lt.mp this
       refine⟨Or.inl ⟨rfl,_,Af.of h⟩,⟨by decide,by decide⟩,c/8,By ns,BK ns,rfl,U.1,z2.1,λtp al bO r b2=>?_⟩;have aV:=r _ _ h;have kT:Keeps (·=T) al (upd al T (.lst (d.map V.ref++[.ref tp]))):=Keeps.one aV;refine⟨_,aV,by rw[af];exact BC (by omega),a2 _ _ ⟨d++[tp],rfl,(L.same r).set (.inl rfl),by rw[Aa,Bk];rfl,?_,kT.at_ _ _ (r _ _ l) (Ne.symm aO),(y.same r).keeps kT⟩⟩;rw[Xv C,show K1 (By ns) (BK ns) (BV ns i) c=BV ns i++[Mz (By ns) (BK ns) (c/8)] from Ak ⟨a3,a4⟩];exact((j.same r).snoc b2).keeps kT
     refine λσ' al ae=>AL λNz u=>?_;obtain⟨d,rfl,an,h,j,l,y⟩:=ae;refine u ?_;clear u;have O:=az an;have no:¬(c%8=7/\(FA ns i).length<6)->FA ns (i+1)=FA ns i:=λz=>by rw[Xw C];exact Aj z
     refine⟨(by show(0:Int)<8;decide),rfl,rfl,Ao (λI=>?_) (λI=>?_)⟩;rotate_left;refine⟨_,d,g,rfl,an,h,j,l,?_⟩;rw[no λz=>I (A5 (by show V.int (c%8)=V.int 7;rw[z.1]))];exact y;have a3:c%8=7:=V.int.inj (Bi I);refine⟨_,Or.inl ⟨_,Af.of l,rfl⟩,rfl,Ao (λJ=>?_) (λJ=>?_)⟩;rotate_left;refine⟨_,d,g,rfl,an,h,j,l,?_⟩;rw[no λz=>J (A5 (by rw[a1];exact Int.ofNat_lt.mpr z.2))];exact y
     have a4:(FA ns i).length<6:=by
      have:=Bi J;rw[a1] at this;exact Int.ofNat_lt.mp this
     refine⟨Or.inl ⟨rfl,_,Af.of l⟩,⟨by decide,by decide⟩,Or.inr (Or.inl ⟨_,.ref a9,Aq.of (O _ _ et),rfl,_,Or.inl ⟨_,Af.of (O _ _ aJ),rfl⟩,c/8,N,Eh ns,By ns,(tu.map V.ref).length,rfl,Af.of ((W.trans O) _ _ aw),Nn _ _,U.1,by omega,λaP bP a5 r aW aX=>?_⟩)⟩;rw[aK] at aW aX;have aY:=r _ _ l;have kR:Keeps (·=R) a5 (upd a5 R (.lst (g.map V.ref++[.ref aP]))):=Keeps.one aY;refine⟨_,aY,by rw[a1];exact BC (by omega),⟨_,d,g++[aP],rfl,(an.same r).set (.inr rfl),kR.at_ _ _ (r _ _ h) aO,(j.same r).keeps kR,by rw[Aa,Bk];rfl,?_⟩⟩;rw[Xw C,show Kf (Eh ns) (By ns) (Dy ns) (FA ns i) c=FA ns i++[Dw (Eh ns) (By ns) (Dy ns) (c/8)] from Ak ⟨a3,a4⟩];exact((y.same r).snoc aW aX).keeps kR
   refine λσ b1 ae=>AL λNz u=>?_;obtain⟨a0,d,g,rfl,L,h,j,l,y⟩:=ae;refine u ?_;clear u;rw[Al] at j y;have ao:=az L;have bA:=ai.trans ao;have b3:=OR ns (Cd ns).length;have af:(d.map V.ref).length=(BV ns (Cd ns).length).length:=(by rw[Al,j.len]);have bB:=L.at_ _ _ a8 λz=>z.elim aT aU;refine⟨_,Or.inl ⟨_,Af.of h,rfl⟩,B7,λbe hZ=>?_⟩;rw[af];obtain⟨al,bC,a6,eZ⟩:=new_at (o:=.tup [.int (BV ns (Cd ns).length).length,.int (BK ns)]) hZ;rw[<-bC];have O:=ao.trans a6;refine⟨X,ag,N,be,Cd ns,MF ns,Eh ns,By ns,(BV ns (Cd ns).length).length,BK ns,rfl,Af.of (a6 _ _ bB),bq,Af.of ((W.trans O) _ _ aE),Nn _ _,Af.of ((W.trans O) _ _ aw),Nn _ _,Aq.of eZ,U.1,U.2,b3.1,z2.1,λaA us Gs Es a5 b4 SC=>?_⟩;refine AO ?_;(try dsimp only);have bE:=a6.trans b4;refine⟨Jz,λnt b5=>?_⟩;obtain⟨bQ,bD,b7,b8⟩:=new_at (o:=.tup [.ref aA,.ref T,.ref R]) b5;rw[<-bD];refine⟨B7,λbf hr=>?_⟩;have aQ:=Bb (o:=.tup [.ref nt,.ref t]) hr;have aZ:=b7.trans aQ;have Q:=bE.trans aZ;exact q bf nt t aA T R us Gs Es d g _ _ _ bm bn bo _ (bA.trans Q) Aa (aQ _ _ b8) ⟨SC.same aZ,Q _ _ h,j.same Q,Q _ _ l,y.same Q⟩ (TB.same (ao.trans Q)) ⟨rfl,rfl,rfl,aF⟩
inductive Dz (K:Ah) (vs:List V) (H:Hp) (Q:VK):Prop where
 |mk (t a o:Addr) (inn:V) (ss:List CP) (n:Int) (k:Nat) (s:CP) (x:Str) (h0:vs=[.ref t,.int n,.str x]) (h1:n=k) (h2:Aq K H t [.ref a,inn,.ref o]) (h3:HE K H a ss) (h4:ss[k]?=some s) (h5:Q (Ee (Em s.1 x)) H):Dz K vs H Q
def fW (K:Ah):Sp:=λvs H Q _=>Dz K vs H Q
variable (P w K mg base) in
abbrev QI:Prop:=BG P w K mg base "next_state" 1 ["table", "state", "label"] (fW K)
theorem fX(B:BH mg)(F:Br K "next_state" "next_state" Q7 f fd)(D:mg "next_state" = some (.ref f)):QI P w K mg base:=by
 refine B1 F D Qs (λl H Q E h=>?_) (λae A af s H l Q E hr h=>?_);obtain⟨t,a,o,U,ss,n,k,s,x,rfl,_⟩:=h;rfl;obtain⟨t,a,o,U,ss,n,k,s,x,rfl,rfl,G,⟨l,I,J⟩,L,q⟩:=h;obtain⟨aa,M,W⟩:=J.get' (i:=k) (d:=Ob s) (by rw[Bh,L];rfl);obtain⟨N,g,e,rfl,X,⟨O,u,C⟩,he⟩:=FK W;have Y:=C.len_map
 refine⟨_,(Am (AQ (i:=3) Qs.nd (AE AF (AE AF (AE AF (pv 0) Ai) (pv 1)) Ai))
  (Am (CB Cm rfl (C6 (pv 3)) (Co (n:=2) rfl (AI (Ay (i:=4) Qs.nd) (AI (Ay (i:=5) Qs.nd) Cn))) (Au (Bm (BJ CC (pv 4) (pv 2) (Bw _)) (Au (AX (pv 5))) Bo)))
  (Au (AX Gu)))),?_⟩
 (try dsimp only[AG,Cx.nox,Cx.wish]);refine Or.inr (Or.inl ⟨_,.ref a,G,rfl,?_⟩);refine Or.inl ⟨l,.ref N,I,BN M,?_⟩;refine Or.inr (Or.inl ⟨_,.ref g,X,rfl,?_⟩);refine⟨⟨_,u⟩,EM (xs:=O) (λi σ v=>∃m r,σ=[some (.ref t),some (.int k),some (.str x),some (.ref g),m,r]/\v=H/\∀q∈s.1.take i,q.1≠x) ⟨none,none,rfl,rfl,λq b=>by simp at b⟩ (λi σ v _ Z=>by obtain⟨_,_,_,e,_⟩:=Z;exact by rw[e];exact u) ?_ ?_⟩;rintro i ab σ R S ⟨m,r,rfl,rfl,j⟩;obtain⟨p,t',y,rfl,T⟩:=C.goes_get S;refine⟨_,T,rfl,?_⟩;refine⟨rfl,rfl,?_⟩;refine Ao (λc=>?_) (λc=>?_);have c:p.1=x:=V.str.inj (Bi c);rw[HJ y c j] at q;exact q;have c:p.1≠x:=λz=>c (A5 (by rw[z]));refine⟨_,_,rfl,rfl,λq b=>?_⟩;rw[DS,y] at b;rcases BF.mp b with b|b;exact j q b;rw[AY.mp b];exact c;rintro σ R ⟨m,r,rfl,rfl,j⟩;rw[Y,Ei] at j;rw[VG j] at q;exact q
inductive Ce (K:Ah) (vs:List V) (H:Hp) (Q:VK):Prop where
 |mk (t S T R A:Addr) (ths:List (Str×Int)) (as:List (Option (Str×Int))) (n:Int) (k:Nat) (h0:vs=[.ref t,.ref A,.int n]) (h1:n=k) (h2:k<as.length) (h3:Aq K H t [.ref S,.ref T,.ref R]) (h4:C9 K H T ths) (h5:G6 K H A as) (h6:Gy ths as) (h7:∀(r:Addr)(H':Hp),H r=none->Ac H H'->H' r=some (.tup [.str (Ed ths as n).1,.int (Ed ths as n).2])->Q (.ref r) H'):Ce K vs H Q
def fY (K:Ah):Sp:=λvs H Q _=>Ce K vs H Q
variable (P w K mg base) in
abbrev Uf:Prop:=BG P w K mg base "inside_of_sort" 1 ["net", "answers", "question"] (fY K)
theorem fZ(B:BH mg)(F:Br K "inside_of_sort" "inside_of_sort" Q8 f fd)(c:mg "inside_of_sort" = some (.ref f)):Uf P w K mg base:=by
 refine B1 F c Qt (λj H Q E h=>?_) (λaa A ab s H j Q E a h=>?_);obtain⟨t,S,T,R,A,e,x,n,k,rfl,_⟩:=h;rfl;obtain⟨t,S,T,R,A,e,x,n,k,rfl,rfl,y,C,D,G,ok,q⟩:=h;obtain⟨j,v,N,I,L⟩:=G.get y
 refine⟨_,(Am (AQ (i:=3) Qt.nd (AE AF (pv 1) (pv 2)))
  (Am (Bm (FZ (GN (pv 3))) (Au (AX (Bs (Ab BZ (Ab (pv 2) Ae))))) Bo)
  (Am (Bm (BJ CC (AE AF (pv 3) Ai) BZ (Bw _)) (Am (Eb (AE AF (AE AF (pv 0) Ai) (AE AF (pv 3) Ai)) (Co (n:=2) rfl (AI (Ay (i:=4) Qt.nd) (AI (Ay (i:=5) Qt.nd) Cn))))
   (Au (Bm (BJ CC (pv 4) BZ (Bw _)) (Au (AX (Bs (Ab BZ (Ab (pv 5) Ae))))) Bo))) Bo)
  (Au (AX (Bs (Ab BZ (Ab Ai Ae)))))))),?_⟩
 (try dsimp only[AG,Cx.nox,Cx.wish]);refine Or.inl ⟨j,v,N,BN I,?_⟩;rcases L with⟨b,rfl⟩|⟨p,Z,b,rfl,u⟩;refine⟨rfl,Ao (λ_=>?_) (λh=>absurd (A5 rfl) h)⟩;refine⟨B7,λr a=>?_⟩;rw[YR b] at q;exact q r _ a (Bb a) Aa;refine⟨rfl,Ao (λh=>absurd (Bi h) (by simp)) (λ_=>?_)⟩;refine Or.inr (Or.inl ⟨_,.str p.1,u,rfl,rfl,rfl,Ao (λh=>?_) (λh=>?_)⟩);have d:p.1=("thing" : Str):=V.str.inj (Bi h);obtain⟨M,p1⟩:=ok.t p (Bd b) d;obtain⟨m,c⟩:=DH M;have O:m<e.length:=(by omega);have l:=AC O;obtain⟨J,g,U,W,X⟩:=D.get l;have Y:Bt J p.2=some (.ref g):=by rw[c];exact BN W
 refine Or.inr (Or.inl ⟨_,.ref T,C,rfl,Or.inr (Or.inl ⟨_,.int p.2,u,rfl,Or.inl ⟨J,.ref g,U,Y,?_⟩⟩)⟩);refine⟨_,X,rfl,?_⟩;refine⟨rfl,rfl,Ao (λh=>?_) (λh=>?_)⟩;have o:e[m].1=("part" : Str):=V.str.inj (Bi h);refine⟨B7,λr a=>?_⟩;rw[YT b d c l o] at q;exact q r _ a (Bb a) Aa;have o:e[m].1≠("part" : Str):=λz=>h (A5 (by rw[z]));refine⟨B7,λr a=>?_⟩;rw[YU b d c l o] at q;exact q r _ a (Bb a) Aa;have d:p.1≠("thing" : Str):=λz=>h (A5 (by rw[z]));refine⟨B7,λr a=>?_⟩;rw[YS b d] at q;exact q r _ a (Bb a) Aa
inductive FV (K:Ah) (vs:List V) (H:Hp) (Q:VK):Prop where
 |mk (t S T R A:Addr) (ths:List (Str×Int)) (as:List (Option (Str×Int))) (n:Int) (k:Nat) (p:Str×Int) (h0:vs=[.ref t,.ref A,.int n]) (h1:n=k) (h2:ths[k]?=some p) (h3:Aq K H t [.ref S,.ref T,.ref R]) (h4:C9 K H T ths) (h5:G6 K H A as) (h6:Gy ths as) (h7:∀(r:Addr)(H':Hp),H r=none->Ac H H'->H' r=some (.tup [.str (Dl ths as p).1,.int (Dl ths as p).2])->Q (.ref r) H'):FV K vs H Q
def f6 (K:Ah):Sp:=λvs H Q _=>FV K vs H Q
variable (P w K mg base) in
abbrev QJ:Prop:=BG P w K mg base "inside" 2 ["net", "answers", "thing"] (f6 K)
theorem f7(B:BH mg)(C:Uf P w K mg base)(F:Br K "inside" "inside" Q9 f fd)(j:mg "inside" = some (.ref f)):QJ P w K mg base:=by
 refine B1 F j TJ (λv H Q E h=>?_) (λM A N s H v Q E a h=>?_);obtain⟨t,S,T,R,A,c,b,n,k,p,rfl,_⟩:=h;rfl;obtain⟨t,S,T,R,A,c,b,n,k,p,rfl,rfl,l,o,u,x,ok,q⟩:=h;obtain⟨J,g,D,G,I⟩:=u.get l
 refine⟨_,(Am (Eb (AE AF (AE AF (pv 0) Ai) (pv 2)) (Co (n:=2) rfl (AI (Ay (i:=3) TJ.nd) (AI (Ay (i:=4) TJ.nd) Cn))))
  (Am (Bm (BJ CC (pv 3) BZ (Bw _)) (Au (AX (Bs (Ab BZ (Ab (pv 4) Ae))))) Bo)
  (Am (Bm (BJ CC (pv 3) BZ (Bw _)) (Au (AX (A6 C (Ab (pv 0) (Ab (pv 1) (Ab (pv 4) Ae)))))) Bo)
  (Au (AX (Bs (Ab BZ (Ab Ai Ae)))))))),?_⟩
 (try dsimp only[AG,Cx.nox,Cx.wish]);refine Or.inr (Or.inl ⟨_,.ref T,o,rfl,Or.inl ⟨J,.ref g,D,BN G,?_⟩⟩);refine⟨_,I,rfl,?_⟩;refine⟨rfl,rfl,Ao (λh=>?_) (λh=>?_)⟩;have d:p.1=("part" : Str):=V.str.inj (Bi h);refine⟨B7,λr a=>?_⟩
 rw[show Dl c b p=(("to" : Str),p.2) from Ak d] at q
 exact q r _ a (Bb a) Aa;have d:p.1≠("part" : Str):=λz=>h (A5 (by rw[z]));refine⟨rfl,rfl,Ao (λh=>?_) (λh=>?_)⟩;have e:p.1=("sort" : Str):=V.str.inj (Bi h)
 obtain⟨y,L⟩:=ok.q p (Bd l) e;obtain⟨m,j⟩:=DH y;rw[show Dl c b p=Ed c b p.2 from(Aj d).trans (Ak e)] at q;exact⟨t,S,T,R,A,c,b,p.2,m,rfl,j,by omega,o,u,x,ok,q⟩
 have e:p.1≠("sort" : Str):=λz=>h (A5 (by rw[z]));refine⟨B7,λr a=>?_⟩
 rw[show Dl c b p=(("no" : Str),0) from(Aj d).trans (Aj e)] at q
 exact q r _ a (Bb a) Aa
inductive Iw (K:Ah) (vs:List V) (H:Hp) (Q:VK):Prop where
 |mk (t S T R A st:Addr) (ths:List (Str×Int)) (as:List (Option (Str×Int))) (p:Cg) (h0:vs=[.ref t,.ref A,.ref st]) (h1:Aq K H t [.ref S,.ref T,.ref R]) (h2:C9 K H T ths) (h3:G6 K H A as) (h4:Gy ths as) (h5:Aq K H st (HF p)) (h6:(p.2.1≠("to" : Str)->0<=p.2.2/\p.2.2<as.length)) (h7:∀(r:Addr)(H':Hp),H r=none->Ac H H'->H' r=some (.tup [.str (BP ths as p).1,.int (BP ths as p).2])->Q (.ref r) H'):Iw K vs H Q
def Kh (K:Ah):Sp:=λvs H Q _=>Iw K vs H Q
variable (P w K mg base) in
abbrev Ug:Prop:=BG P w K mg base "goal" 3 ["net", "answers", "step"] (Kh K)
theorem f8(B:BH mg)(U:QJ P w K mg base)(F:Br K "goal" "goal" Ra f fd)(e:mg "goal" = some (.ref f)):Ug P w K mg base:=by
 refine B1 F e OE (λg H Q E h=>?_) (λaa A ab s H g Q E a h=>?_);obtain⟨t,S,T,R,A,D,o,u,p,rfl,_⟩:=h;rfl;obtain⟨t,S,T,R,A,D,o,u,p,rfl,G,I,x,ok,W,J,q⟩:=h
 refine⟨_,(Am (Eb (pv 2) (Co (n:=3) rfl (AI (Ay (i:=3) OE.nd) (AI (Ay (i:=4) OE.nd) (AI (Ay (i:=5) OE.nd) Cn)))))
  (Am (Bm (BJ CC (pv 4) BZ (Bw _)) (Au (AX (Bs (Ab BZ (Ab (pv 5) Ae))))) Bo)
  (Am (AQ (i:=6) OE.nd (AE AF (pv 1) (pv 5)))
  (Am (Bm (FZ (GN (pv 6))) (Au (AX (Bs (Ab BZ (Ab (pv 5) Ae))))) Bo)
  (Am (Bm (BJ CC (AE AF (pv 6) Ai) BZ (Bw _)) (Au (AX (A6 U (Ab (pv 0) (Ab (pv 1) (Ab (AE AF (pv 6) Ai) Ae)))))) Bo)
  (Au (AX (Bs (Ab BZ (Ab Ai Ae)))))))))),?_⟩
 (try dsimp only[AG,Cx.nox,Cx.wish]);refine⟨_,W,rfl,?_⟩;refine⟨rfl,rfl,Ao (λh=>?_) (λh=>?_)⟩;have b:p.2.1=("to" : Str):=V.str.inj (Bi h);refine⟨B7,λr a=>?_⟩;rw[YW b] at q;exact q r _ a (Bb a) Aa;have b:p.2.1≠("to" : Str):=λz=>h (A5 (by rw[z]));obtain⟨L,Z⟩:=J b;obtain⟨n,j⟩:=DH L;obtain⟨g,v,X,M,N⟩:=x.get (k:=n) (by omega);have Y:Bt g p.2.2=some v:=by rw[j];exact BN M
 refine Or.inl ⟨g,v,X,Y,?_⟩;rcases N with⟨d,rfl⟩|⟨c,ta,d,rfl,y⟩;refine⟨rfl,Ao (λ_=>?_) (λh=>absurd (A5 rfl) h)⟩;refine⟨B7,λr a=>?_⟩;rw[YX b j d] at q;exact q r _ a (Bb a) Aa;refine⟨rfl,Ao (λh=>absurd (Bi h) (by simp)) (λ_=>?_)⟩;refine Or.inr (Or.inl ⟨_,.str c.1,y,rfl,rfl,rfl,Ao (λh=>?_) (λh=>?_)⟩);have l:c.1=("thing" : Str):=V.str.inj (Bi h);obtain⟨O,q1⟩:=ok.t c (Bd d) l;obtain⟨m,e⟩:=DH O;have C:=AC (show m<o.length by omega);rw[YZ b j d l e C] at q;exact Or.inr (Or.inl ⟨_,.int c.2,y,rfl,t,S,T,R,A,o,u,c.2,m,_,rfl,e,C,G,I,x,ok,q⟩);have l:c.1≠("thing" : Str):=λz=>h (A5 (by rw[z]));refine⟨B7,λr a=>?_⟩;rw[YY b j d l] at q;exact q r _ a (Bb a) Aa
theorem Ki:([]:List V).length+1+1+1+1<=sizeLine:=by decide
variable {W:Wd}
theorem f9{k:Nat}(h:W.sts[k]?=some s):DW W (k:Int)=s.1:=by unfold DW;rw[Bl,h]
theorem gA{k:Nat}{s:Bj}(h:W.ss[k]?=some s):B0 W (k:Int)=s.1:=by unfold B0;rw[Bl,h]
theorem gB{b:Int}{go:List (Str×Int)}{p:Cg}{a:Int}(h:Em go p.1=some a):E4 W b go p i=[((b,("step" : Str),(i:Int)),BP W.gs W.as p,a)]:=by unfold E4;rw[h]
theorem gC{a:Int}{go:List (Str×Int)}{p:Cg}(h:Em go p.1=none):E4 W a go p i=[]:=by unfold E4;rw[h]
inductive DA (K:Ah) (vs:List V) (H:Hp) (Q:VK):Prop where
 |mk (nt A t:Addr) (W:Wd) (sc st:Int) (h0:vs=[.ref nt,.ref A,.ref t,.int sc,.int st]) (h1:Bq K H nt A t W) (h2:B3 W) (h3:(0<=sc/\sc<W.ss.length)) (h4:(0<=st/\st<W.sts.length)) (h5:∀(D:Addr)(zs:List (Addr×Gn))(H':Hp),H D=none->Ac H H'->H' D=some (.lst (zs.map λz=>V.ref z.1))->(∀z∈zs,KJ H' z.1 z.2)->zs.map (·.2)=Gz W sc st->Q (.ref D) H'):DA K vs H Q
def gD (K:Ah):Sp:=λvs H Q _=>DA K vs H Q
variable (P w K mg base) in
abbrev QK:Prop:=BG P w K mg base "steps_gone" 4 ["net", "answers", "table", "scope", "state"] (gD K)
theorem gE(B:BH mg)(a0:QI P w K mg base)(a1:Ug P w K mg base)(F:Br K "steps_gone" "steps_gone" Rb f fd)(d:mg "steps_gone" = some (.ref f)):QK P w K mg base:=by
 refine B1 F d Mo (λvs aa an ao h=>?_) (λaN A aP s aa vs an ao hr h=>?_);obtain⟨E,A,t,W,sc,ax,rfl,_⟩:=h;rfl
 . obtain⟨E,A,t,W,sc,ax,rfl,G,ok,a2,a3,aq⟩:=h
   obtain⟨ab,ar,au,us,Gs,Es,ts,qt,qs,eN,y⟩:=G.net;obtain⟨a,o,a4,b1,av,b2,b3⟩:=G.tab;obtain⟨n,hn⟩:=DH a2.1;obtain⟨k,hk⟩:=DH a3.1;subst hn hk;have T:n<W.ss.length:=(by omega);have a5:k<W.sts.length:=(by omega);obtain⟨ae,ag,E1,ay,aL,aM,g4,⟨c0,⟨tG,c1,H⟩,_⟩⟩:=y.sc.get T;have ah:=AC a5;have l:=gA g4;have eG:=f9 ah;have a6:Bt (us.map V.ref) (n:Int)=some (.ref ae):=BN (by rw[Bh,ay];rfl);have aO:=ok.st _ (D9 T)
   refine⟨_,(Am (AQ (i:=5) Mo.nd (Cp Ae))
    (Am (CB Cm rfl (PM rfl B.b_enumerate (Ab (AE AF (AE AF (AE AF (pv 0) Ai) (pv 3)) Ai) Ae)) (Co (n:=2) rfl (AI (Ay (i:=6) Mo.nd) (AI (Ay (i:=7) Mo.nd) Cn))) (Am (AQ (i:=8) Mo.nd (A6 a0 (Ab (pv 2) (Ab (pv 4) (Ab (AE AF (pv 7) Ai) Ae)))))
     (Au (Bm (FZ (MW (pv 8))) (Am (Eb (A6 a1 (Ab (pv 0) (Ab (pv 1) (Ab (pv 7) Ae)))) (Co (n:=2) rfl (AI (Ay (i:=9) Mo.nd) (AI (Ay (i:=10) Mo.nd) Cn))))
      (Au (Df (Dj DI Ep Er Eu (pv 5) (Ab (Bs (Ab (Bs (Ab (pv 3) (Ab BZ (Ab (pv 6) Ae)))) (Ab (pv 9) (Ab (pv 10) (Ab (pv 8) Ae))))) Ae))))) Bo))))
    (Au (AX (pv 5))))),?_⟩
   (try dsimp only[AG,Cx.nox,Cx.wish]);refine⟨by decide,λD I=>?_⟩;obtain⟨aI,a7,q,a8⟩:=new_at (o:=.lst []) I;rw[<-a7];refine Or.inr (Or.inl ⟨_,.ref ab,Aq.of (q _ _ eN),rfl,Or.inl ⟨_,.ref ae,Af.of (q _ _ y.sc.top),a6,Or.inr (Or.inl ⟨_,.ref ag,Aq.of (q _ _ c0),rfl,ag,rfl,⟨_,q _ _ c1⟩,?_⟩)⟩⟩)
   refine SA (xs:=tG.map V.ref) (λi σ C=>∃J L M N U c,σ=[some (.ref E),some (.ref A),some (.ref t),some (.int n),some (.int k),some (.ref D),J,L,M,N,U]/\Ac aa C/\C D=some (.lst (c.map λz:Addr×Gn=>V.ref z.1))/\(∀z∈c,KJ C z.1 z.2)/\c.map (·.2)=En W n (DW W k) ((B0 W n).take i) 0)
    ⟨none,none,none,none,none,[],rfl,q,a8,λz g=>by simp at g,by rw[Eo];rfl⟩ (λi σ C a9=>by obtain⟨_,_,_,_,_,_,_,s,_⟩:=a9;exact Af.of (s _ _ c1)) ?_ ?_
   rotate_left;refine λσ H2 X=>AL λNz u=>?_;obtain⟨J,L,M,N,U,c,rfl,O,v,g,d⟩:=X;refine u ?_;clear u;refine aq D c H2 I O v g ?_;rw[d,Al,H.len,l,Ei];unfold Gz;rw[l];refine λi x T' σ H2 hx aA X=>AL λNz u=>?_;obtain⟨J,L,M,N,U,c,rfl,O,v,g,d⟩:=X;refine u ?_;clear u;obtain⟨Q,ai,rfl⟩:=getm hx;have aj:i<W.ss[n].1.length:=by rw[<-H.len];exact(A9.mp ai).1
   have R:=AC aj;have Y:=H.at_ i Q _ ai R;have mp:=D9 aj;generalize W.ss[n].1[i]=p at R Y mp;obtain⟨H3,aB,j,aC⟩:=new_at (o:=.tup [.int i,.ref Q]) aA;rw[<-aB];have b:=O.trans j
   have ak:En W n (DW W k) ((B0 W n).take (i+1)) 0=En W n (DW W k) ((B0 W n).take i) 0++E4 W n (DW W k) p i:=by
    rw[DS,l,R];show En W n (DW W k) (W.ss[n].1.take i++[p]) 0=_;rw[VH,FG,Nat.zero_add,Nat.min_eq_left (by omega)]
   refine⟨_,Aq.of aC,rfl,?_⟩;refine Or.inr (Or.inl ⟨_,.str p.1,Aq.of (b _ _ Y),rfl,t,a,o,a4,W.sts,k,k,_,p.1,rfl,rfl,b.seqT b1,⟨av,b.seq b2,b3.same b⟩,ah,?_⟩);rw[<-eG]
   cases eg:Em (DW W k) p.1 with
   |none =>
     refine⟨rfl,Ao (λh=>absurd h (by simp[Ee])) (λ_=>?_)⟩;refine⟨_,_,_,_,_,c,rfl,b,j _ _ v,λz h=>(g z h).same j,?_⟩;rw[ak,gC eg,FC,d]
   |some af =>
     refine⟨rfl,Ao (λ_=>?_) (λh=>absurd (by simp[Ee]) h)⟩;refine⟨E,ab,ar,au,A,Q,W.gs,W.as,p,rfl,Aq.of (b _ _ eN),⟨_,Af.of (b _ _ y.et),(y.tg.same b).dts⟩,G.ans.same b,ok.net,Aq.of (b _ _ Y),λe=>ok.by_ (D9 T) mp e,λaJ H4 hr s4 er=>?_⟩;refine⟨_,Aq.of er,rfl,?_⟩;have aD:=s4 _ _ (j _ _ v);refine⟨Or.inl ⟨rfl,_,Af.of aD⟩,Jz,λm aE=>?_⟩;obtain⟨H5,aF,s5,az⟩:=new_at (o:=.tup [.int n,.str "step",.int i]) aE;rw[<-aF];refine⟨Ki,λz aG=>?_⟩;obtain⟨H6,aH,s6,ez⟩:=new_at (o:=.tup [.ref m,.str (BP W.gs W.as p).1,.int (BP W.gs W.as p).2,Ee (some af)]) aG;rw[<-aH];have Z:=(s4.trans s5).trans s6;have al:=Z _ _ (j _ _ v);have S:Keeps (·=D) H6 (upd H6 D (.lst (c.map (λz=>V.ref z.1)++[.ref z]))):=Keeps.one al
     have lz:c.length<=8:=by
      have e1:=BI List.length d;have e2:=LS W n (DW W k) ((B0 W n).take i) 0;rw[FG,l] at e2;rw[Al] at e1;rw[l] at e1;omega
     refine⟨_,al,by rw[Al];exact BC (by omega),?_⟩;refine⟨_,_,_,_,_,c++[(z,(((n:Int),("step" : Str),(i:Int)),BP W.gs W.as p,af))],rfl,λaK o e=>?_,by rw[Aa,Bk];rfl,λaw r=>?_,?_⟩;rw[AD (AH e I)];exact Z _ _ (b _ _ e);rcases BF.mp r with r|r;exact((g aw r).same (j.trans Z)).keeps S;rw[AY.mp r];exact⟨m,S.tup ez,S.tup (s6 _ _ az)⟩;rw[ak,gB eg,Bk,d];rfl
variable {b:AR}
theorem gF{r:Gn}(a:r.2.1.1=("to" : Str))(c:r.2.1.2∉AU b):kid b r=some (b.1++[r.1],r.2.1.2,r.2.2):=Ak ⟨a,c⟩
theorem gH{r:Gn}(h:¬(r.2.1.1=("to" : Str)/\r.2.1.2∉AU b)):kid b r=none:=Aj h
theorem Kj{α β:Type}(f:α->Option β)(l:List α)(x:α):(l++[x]).filterMap f=l.filterMap f++(f x).toList:=by
 rw[List.filterMap_append];cases e:f x<;>simp[e]
theorem gI(b:AR):(AU b).length=b.1.length+1:=by unfold AU;simp
inductive BW (K:Ah) (vs:List V) (H:Hp) (Q:VK):Prop where
 |mk (nt A t bt:Addr) (W:Wd) (b:AR) (h0:vs=[.ref nt,.ref A,.ref t,.ref bt]) (h1:Bq K H nt A t W) (h2:B3 W) (h3:B9 W b) (h4:(∃F,DL F H bt b)) (h5:∀(D:Addr)(zs:List (Addr×AR))(H':Hp),H D=none->Ac H H'->H' D=some (.lst (zs.map λz=>V.ref z.1))->(∀z∈zs,DL (λl=>H l=none/\l≠D) H' z.1 z.2)->zs.map (·.2)=CA W b->Q (.ref D) H'):BW K vs H Q
def gJ (K:Ah):Sp:=λvs H Q _=>BW K vs H Q
variable (P w K mg base) in
abbrev Uh:Prop:=BG P w K mg base "longer_by_a_step" 5 ["net", "answers", "table", "beginning"] (gJ K)
theorem gK(B:BH mg)(a2:QK P w K mg base)(F:Br K "longer_by_a_step" "longer_by_a_step" Pb f fd)(d:mg "longer_by_a_step" = some (.ref f)):Uh P w K mg base:=by
 refine B1 F d IQ (λvs H ax ay h=>?_) (λaK A aO s H vs ax ay hr h=>?_);obtain⟨nt,A,t,bt,W,b,rfl,_⟩:=h;rfl
 . obtain⟨nt,A,t,bt,W,b,rfl,hC,ok,U,⟨F,l,g,E,q,j,_⟩,az⟩:=h
   have aL:g.length<=100:=by
    have:=KI W.ss.length (AU b) U.nd U.rng;rw[gI] at this;have:=ok.s5;rw[j.len];omega
   have a3:=U.rng b.2.1 (by unfold AU;simp)
   refine⟨_,(Am (Eb (pv 3) (Co (n:=3) rfl (AI (Ay (i:=4) IQ.nd) (AI (Ay (i:=5) IQ.nd) (AI (Ay (i:=6) IQ.nd) Cn)))))
    (Am (AQ (i:=7) IQ.nd (AA Ps (G4 (te:=Gc (Hr K) (BB 0) (tC (.int ((0:Nat):Int)))) rfl BE (C6 (pv 4)) (λ_ _ _ _ _=>(Ay (i:=0) BE.nd)) (λ_ _ _ _ _=>Hz) (λ_ _ _ _ _=>(AE AF (pv 0) Ai))) (Cp (Ab (pv 5) Ae))))
    (Am (AQ (i:=8) IQ.nd (Cp Ae))
    (Am (CB Cm rfl (C6 (A6 a2 (Ab (pv 0) (Ab (pv 1) (Ab (pv 2) (Ab (pv 5) (Ab (pv 6) Ae))))))) (Co (n:=4) rfl (AI (Ay (i:=9) IQ.nd) (AI (Ay (i:=10) IQ.nd) (AI (Ay (i:=11) IQ.nd) (AI (Ay (i:=12) IQ.nd) Cn))))) (Au (Bm (PW.pt (Gw (BJ CC (pv 10) BZ (Bw _)) (Gv (BJ (YG hr.units) (pv 11) (pv 7) (by with_unfolding_all rfl))))) (Au (Df (Dj DI Ep Er Eu (pv 8) (Ab (Bs (Ab (AA Ps (pv 4) (Cp (Ab (pv 9) Ae))) (Ab (pv 11) (Ab (pv 12) Ae)))) Ae)))) Bo)))
    (Au (AX (pv 8))))))),?_⟩
   (try dsimp only[AG,Cx.nox,Cx.wish]);refine⟨_,Aq.of E,rfl,?_⟩
   refine⟨⟨_,Af.of q⟩,Sr (xs:=g.map V.ref) (λD i J p=>Ac H p/\p D=some (.lst J)/\J=(b.1.take i).map λm=>V.int m.1)
    (λD r=>⟨Bb r,Aa,by rw[Eo];rfl⟩) (λD i J p af=>by obtain⟨s,_⟩:=af;exact Af.of (s _ _ q)) (λD i x J H2 RR r M hv k=>?_) (λa0 J aH aM hv=>?_)⟩
   obtain⟨N,eD,rfl⟩:=hv;obtain⟨tm,ao,rfl⟩:=getm M;have a4:i<b.1.length:=by rw[<-j.len];exact(A9.mp ao).1
   have d:=AC a4;have a5:=j.at_ i tm _ ao d;have aa:b.1.take (i+1)=b.1.take i++[b.1[i]]:=by rw[DS,d];rfl
   have a6:=j.len;refine Or.inr (Or.inl ⟨_,.int b.1[i].1,Aq.of (N _ _ a5),rfl,?_⟩);refine k _ _ eD (by rw[Al,FG];exact BC (by omega)) ⟨λx o e=>?_,Aa,by rw[aa,Bk];rfl⟩;rw[AD (AH e r)];exact N _ _ e;obtain⟨s1,eC,rfl⟩:=hv;rw[Al,j.len,Ei] at eC;refine⟨HC,λC2 a7=>?_⟩;obtain⟨H2,a8,N,a9⟩:=new_at (o:=.lst [.int b.2.1]) a7;rw[<-a8];have a6:=j.len;refine⟨a0,C2,_,_,rfl,rfl,N _ _ eC,a9,?_,λB hB=>?_⟩;rw[Al];exact Di (BC (by show b.1.length+1<=1000;omega));have s3:=Bb (o:=.lst ((b.1.map λm=>V.int m.1)++[.int b.2.1])) hB
   have X:(upd H2 B (.lst ((b.1.map λm=>V.int m.1)++[.int b.2.1]))) B=some (.lst ((AU b).map V.int)):=by
    rw[Aa];unfold AU
    simp
   generalize upd H2 B (.lst ((b.1.map λm=>V.int m.1)++[.int b.2.1]))=H3 at s3 X ⊢;have aq:=(s1.trans N).trans s3;refine⟨by decide,λD r=>?_⟩;have ab:H D=none:=aq.free r;obtain⟨H4,aA,s4,ag⟩:=new_at (o:=.lst []) r;rw[<-aA];have ar:=aq.trans s4;refine⟨nt,A,t,W,b.2.1,b.2.2,rfl,hC.same ar,ok,a3,U.st,λaI u H5 hG Y eG aB au=>⟨⟨_,Af.of eG⟩,?_⟩⟩;have ae:=ar.trans Y
   have aN:u.length<=8:=by
    have E:=BI List.length au;have q:=LS W b.2.1 (DW W b.2.2) (B0 W b.2.1) 0;have j:=PR ok b.2.1;rw[Al] at E;unfold Gz at E;omega
   refine EM (xs:=u.map λz=>V.ref z.1) (λi σ p=>∃u9 ah ai aj a,σ=[some (.ref nt),some (.ref A),some (.ref t),some (.ref bt),some (.ref l),some (.int b.2.1),some (.int b.2.2),some (.ref B),some (.ref D),u9,ah,ai,aj]/\Keeps (·=D) H5 p/\p D=some (.lst (a.map λz:Addr×AR=>V.ref z.1))/\(∀z∈a,DL (λl=>H l=none/\l≠D) p z.1 z.2)/\a.map (·.2)=((u.map (·.2)).take i).filterMap (kid b))
    ⟨none,none,none,none,[],rfl,Keeps.refl λx o m e=>by rw[m,Y _ _ ag] at e;exact⟨_,(Bv e).symm⟩,Y _ _ ag,λz v=>by simp at v,by rw[Eo];rfl⟩ (λi σ p _ af=>by obtain⟨_,_,_,_,_,_,k,_⟩:=af;exact Af.of (k.at_ _ _ eG λz=>by rw[z,ag] at hG;cases hG)) ?_ ?_
   rotate_left;refine λσ H6 I=>AL λNz S=>?_;obtain⟨u9,ah,ai,aj,a,rfl,c,C,v,d⟩:=I;refine S ?_;clear S;refine az D a H6 ab (λx o e=>?_) C v ?_;exact c.at_ _ _ (ae _ _ e) (AH e ab);rw[d,Al,<-Al (f:=(·.2)),Ei,au];rfl;refine λi x σ H6 M I=>AL λNz S=>?_;obtain⟨u9,ah,ai,aj,a,rfl,c,C,v,d⟩:=I;refine S ?_;clear S;refine Gi ?_;intro Nx Cy;obtain⟨z,I,rfl⟩:=getm M;obtain⟨m,ak,al⟩:=aB z (Bd I);have ak:=c.tup ak;have al:=c.tup al
   have aa:((u.map (·.2)).take (i+1)).filterMap (kid b)=((u.map (·.2)).take i).filterMap (kid b)++(kid b z.2).toList:=by
    rw[DS,Bh,I];exact Kj _ _ _
   have lz:a.length<=8:=by
    have E:=BI List.length d;have q:=List.length_filterMap_le (kid b) ((u.map (·.2)).take i);rw[FG,Al] at q;rw[Al] at E;omega
   refine⟨_,Aq.of ak,rfl,?_⟩
   have skip:¬(z.2.2.1.1=("to" : Str)/\z.2.2.1.2∉AU b)->a.map (·.2)=((u.map (·.2)).take (i+1)).filterMap (kid b):=λhn=>by
    rw[aa,gH hn,d];simp
   have aC:=c.at_ _ _ ((s4.trans Y) _ _ X) (λz=>by rw[z,r] at X;cases X);refine⟨rfl,rfl,Ao (λO=>?_) (λO=>Bg ?_)⟩;rotate_left;exact⟨_,_,_,_,a,rfl,c,C,v,skip λh=>O (A5 (by rw[h.1]))⟩;have O:z.2.2.1.1=("to" : Str):=V.str.inj (Bi O);refine⟨2,.int z.2.2.1.2,(AU b).map Dt.int,B,_,λaJ hd=>?_,by decide,.int _,rfl,Af.of aC,VS _,rfl,Ao (λG=>?_) (λG=>?_)⟩;obtain⟨y,_,rfl⟩:=Bn.mp hd;exact .int _ _;rotate_left;refine⟨_,_,_,_,a,rfl,c,C,v,skip λh=>G ?_⟩;rw[F1 λz=>h.2 (GA.mp z)];rfl
   have G:z.2.2.1.2∉AU b:=λz=>by
    rw[Fn (GA.mpr z)] at G;cases G
   have aD:=c.at_ _ _ (ae _ _ q) (AH q ab);refine⟨Or.inl ⟨rfl,_,Af.of C⟩,HC,λa1 hM=>?_⟩;obtain⟨H7,aE,Z,eM⟩:=new_at (o:=.lst [.ref m]) hM;rw[<-aE];refine⟨l,a1,_,_,rfl,rfl,Z _ _ aD,eM,by rw[Al];exact Di (BC (by show g.length+1<=1000;omega)),λL hL=>?_⟩
   have aF:H L=none:=by
    have h6:=Z.free hL
    cases e:H L with
    |none=>rfl
    |some o=>rw[c.at_ _ _ (ae _ _ e) (AH e ab)] at h6;cases h6
   have av:L≠D:=λy=>by rw[y,Z _ _ C] at hL;cases hL
   have s8:=Bb (o:=.lst (g.map V.ref++[.ref m])) hL;have eL:(upd H7 L (.lst (g.map V.ref++[.ref m]))) L=some (.lst ((g++[m]).map V.ref)):=by rw[Aa,Bk];rfl
   generalize upd H7 L (.lst (g.map V.ref++[.ref m]))=H8 at s8 eL ⊢;refine⟨Jz,λan hr=>?_⟩;obtain⟨H9,aG,s9,er⟩:=new_at (o:=.tup [.ref L,.int z.2.2.1.2,.int z.2.2.2]) hr;rw[<-aG];have T:=(Z.trans s8).trans s9;have aw:=T _ _ C;have Q:Keeps (·=D) H9 (upd H9 D (.lst (a.map (λz=>V.ref z.1)++[.ref an]))):=Keeps.one aw;refine⟨_,aw,by rw[Al];exact BC (by omega),?_⟩;refine⟨_,_,_,_,a++[(an,(b.1++[z.2.1],z.2.2.1.2,z.2.2.2))],rfl,⟨λx o e n=>?_,c.ls⟩,by rw[Aa,Bk];rfl,λy R=>?_,?_⟩;rw[AD n];exact T _ _ (c.at_ x o e n);rcases BF.mp R with R|R;exact((v y R).same T).keeps Q λx M=>M.2;rw[AY.mp R];refine⟨L,g++[m],Q.tup er,Q.at_ _ _ (s9 _ _ eL) av,?_,aF,av⟩;refine RT.snoc ?_ (Q.tup ((T) _ _ al));exact((j.same ae).keeps c |>.same T).keeps Q;rw[aa,gF O G,Bk,d];rfl
inductive DB (K:Ah) (vs:List V) (H:Hp) (Q:VK):Prop where
 |mk (nt A t:Addr) (W:Wd) (sc st:Int) (h0:vs=[.ref nt,.ref A,.ref t,.int sc,.int st]) (h1:Bq K H nt A t W) (h2:B3 W) (h3:(0<=sc/\sc<W.ss.length)) (h4:(0<=st/\st<W.sts.length)) (h5:∀(D:Addr)(zs:List (Addr×AR))(H':Hp),H D=none->Ac H H'->H' D=some (.lst (zs.map λz=>V.ref z.1))->(∀z∈zs,DL (λl=>H l=none/\l≠D) H' z.1 z.2)->Db W sc st (zs.map (·.2))->Q (.ref D) H'):DB K vs H Q
def gL (K:Ah):Sp:=λvs H Q _=>DB K vs H Q
variable (P w K mg base) in
abbrev Ui:Prop:=BG P w K mg base "beginnings" 6 ["net", "answers", "table", "scope", "state"] (gL K)
theorem gM(B:BH mg)(aq:Uh P w K mg base)(F:Br K "beginnings" "beginnings" Rc f fd)(hm:mg "beginnings" = some (.ref f)):Ui P w K mg base:=by
 refine B1 F hm Qv (λvs H al an h=>?_) (λaB A aD s H vs al an Y h=>?_);obtain⟨L,A,t,W,g,j,rfl,_⟩:=h;rfl
 . obtain⟨L,A,t,W,g,j,rfl,hC,ok,Q,R,ao⟩:=h
   refine⟨_,(Am (AQ (i:=5) Qv.nd (Cp (Ab (Bs (Ab (Cp Ae) (Ab (pv 3) (Ab (pv 4) Ae)))) Ae)))
    (Am (AQ (i:=6) Qv.nd Ai)
    (Am (UH Cm (BJ GO (pv 6) (BM DK B.b_len (Ab (pv 5) Ae)) (Bw _)) (Am (Df (Dj DI PySem.F.slot_list_extend PySem.F.type_list_extend N7 (pv 5) (Ab (A6 aq (Ab (pv 0) (Ab (pv 1) (Ab (pv 2) (Ab (AE AF (pv 5) (pv 6)) Ae))))) Ae)))
     (Am (Bm (BJ Hl (BM DK B.b_len (Ab (pv 5) Ae)) (IY (v:=.int 200) rfl (Classical.choose_spec B.c_MOST_BEGINNINGS) ⟨_,rfl⟩) (Bw _)) (Au XV) Bo)
     (Au (Vy (i:=6) Qv.nd rfl (Or.inl rfl) Ai UK)))))
    (Au (AX (BM (Y7 M8 FM FM Y.units (by decide) (by decide) (by decide)) B.b_sorted (Ab (pv 5) Ae))))))),?_⟩
   (try dsimp only[AG,Cx.nox,Cx.wish]);refine⟨by decide,λl hl=>?_⟩;obtain⟨a8,ar,s1,el⟩:=new_at (o:=.lst []) hl;rw[<-ar];refine⟨Jz,λaf Y=>?_⟩;obtain⟨H2,au,Z,er⟩:=new_at (o:=.tup [.ref l,.int g,.int j]) Y;rw[<-au];refine⟨HC,λD hD=>?_⟩;have ag:=s1.trans Z;have av:H D=none:=ag.free hD;have aw:l≠D:=AH (Z _ _ el) hD;obtain⟨H3,ax,s3,ay⟩:=new_at (o:=.lst [.ref af]) hD;rw[<-ax];have az:=ag.trans s3;refine AO ?_;(try dsimp only);refine Sj ?_;(try dsimp only);refine HA (λσ' d=>∃(u6:V)(a:List (Addr×AR)),σ'=[some (.ref L),some (.ref A),some (.ref t),some (.int g),some (.int j),some (.ref D),some u6]/\Ac H d/\d D=some (.lst (a.map λz=>V.ref z.1))/\(∀z∈a,DL (λl=>H l=none/\l≠D) d z.1 z.2)/\GS W g j (a.map λz:Addr×AR=>z.2) (a.map λz:Addr×AR=>z.2).length) ?_ (λa9 hN=>?_);refine λσ' H4 S=>AL λNz C=>?_;obtain⟨u6,a,rfl,I,E,k,u⟩:=S;refine C ?_;clear C;have hf:=u.few ok Q R;rw[Al] at hf;refine⟨D,a.map λz=>(V.ref z.1,z.2),rfl,?_,by rw[Al];omega,λy M=>?_,λD2 G hp hs U=>?_⟩;rw[DG];exact Af.of E;obtain⟨z,T,rfl⟩:=Bn.mp M;exact(k z T).dt;have n:=Bb (o:=.lst (G.map (·.1))) U
   obtain⟨c,rfl⟩:∃c:List (Addr×AR),G=c.map λz=>(V.ref z.1,z.2):=by
    have:∀{l:List (DO DP)},(∀y∈l,y∈a.map λz=>((V.ref z.1,z.2):DO DP))->∃c:List (Addr×AR),l=c.map λz=>(V.ref z.1,z.2):=by
     intro l
     induction l with
     |nil=>exact λ_=>⟨[],rfl⟩
     |cons y l ih =>
       intro h;obtain⟨c,rfl⟩:=ih λz k=>h z (Cj _ k);obtain⟨z,_,rfl⟩:=Bn.mp (h y Bz);exact⟨z::c,rfl⟩
    exact this λy M=>hp.mem_iff.mp M
   have N:(c.map λz=>((V.ref z.1,z.2):DO DP)).map (·.2)=c.map (·.2):=by rw[DG];rfl
   have O:(c.map λz=>((V.ref z.1,z.2):DO DP)).map (·.1)=c.map λz=>V.ref z.1:=by rw[DG];rfl
   have a0:(c.map (·.2)).Perm (a.map (·.2)):=by
    have:=hp.map (·.2)
    rwa [N,DG] at this
   rw[N] at hs;rw[O] at n ⊢
   have nm:∀z∈c,z∈a:=λz T=>by
    have:=hp.mem_iff.mp (Bn.mpr ⟨z,T,rfl⟩);obtain⟨y,M,e⟩:=Bn.mp this;injection e with O N;have:y=z:=Prod.ext (V.ref.inj O) N;rw[<-this];exact M
   refine ao D2 c _ (I.free U) (I.trans n) Aa (λz T=>?_) (u.all ok Q R a0 hs);refine((k z (nm z T)).mono' ?_).same n;intro x o ex q;exact⟨q.1,λy=>by rw[y,U] at ex;cases ex⟩;refine⟨λm σ d=>∃(p:Nat)(a:List (Addr×AR)),σ=[some (.ref L),some (.ref A),some (.ref t),some (.int g),some (.int j),some (.ref D),some (.int p)]/\Ac H d/\d D=some (.lst (a.map λz=>V.ref z.1))/\(∀z∈a,DL (λl=>H l=none/\l≠D) d z.1 z.2)/\GS W g j (a.map λz:Addr×AR=>z.2) p/\m=62-p,⟨_,0,[(af,([],g,j))],rfl,az,ay,λz k=>?_,GS.start W g j,rfl⟩,?_⟩;rw[AY.mp k];exact⟨l,[],s3 _ _ er,(Z.trans s3) _ _ el,RT.nil,hl,aw⟩;refine λm σ H4 S=>AL λNz C=>?_;obtain⟨p,a,rfl,I,E,k,u,aA⟩:=S;refine C ?_;clear C;have hf:=u.few ok Q R;have a1:=u.le;rw[Al] at hf a1;refine⟨_,Or.inl ⟨_,Af.of E,rfl⟩,rfl,?_⟩;by_cases ah:p<a.length;rotate_left;have ep:p=a.length:=(by omega);rw[DT (by rw[Al];omega)];refine Bg (hN _ _ ⟨_,a,rfl,I,E,k,?_⟩);rw[Al,<-ep];exact u;rw[A5 (by rw[Al];omega)];refine C7 ?_;have ai:=AC ah;have aj:(a.map (·.2))[p]?=some a[p].2:=by rw[Bh,ai];rfl
   have aa:=u.turn aj;have ib:=(u.is _ (Bd aj)).ok ok Q R;refine⟨λσ' d=>∃(G:List (Addr×AR)),σ'=[some (.ref L),some (.ref A),some (.ref t),some (.int g),some (.int j),some (.ref D),some (.int ((p+1:Nat):Int))]/\Ac H d/\d D=some (.lst (G.map λz=>V.ref z.1))/\(∀z∈G,DL (λl=>H l=none/\l≠D) d z.1 z.2)/\GS W g j (G.map λz:Addr×AR=>z.2) (p+1),?_,?_⟩;refine λσ' d S=>AL λNz C=>?_;obtain⟨G,rfl,n,X,a2,a3⟩:=S;refine C ?_;clear C;exact⟨_,by omega,p+1,G,rfl,n,X,a2,a3,rfl⟩;have a4:Bt (a.map λz=>V.ref z.1) (p:Int)=some (.ref a[p].1):=BN (by rw[Bh,ai];rfl);refine⟨Or.inl ⟨rfl,_,Af.of E⟩,Or.inl ⟨_,.ref a[p].1,Af.of E,a4,L,A,t,a[p].1,W,a[p].2,rfl,hC.same I,ok,ib,⟨_,k _ (D9 ah)⟩,λD2 r J U n a5 a6 ab=>?_⟩⟩
   have aC:r.length<=8:=by
    have O:=BI List.length ab;have N:=VL W a[p].2;have e3:=PR ok a[p].2.2.1;rw[Al] at O;omega
   have X:=n _ _ E;have k5:Keeps (·=D) J (upd J D (.lst (a.map (λz=>V.ref z.1)++r.map λz=>V.ref z.1))):=Keeps.one X;refine⟨D,D2,_,_,rfl,rfl,X,a5,by rw[Al,Al];exact Di (BC (by omega)),?_⟩;have a7:=aa.few ok Q R;rw[<-ab,<-Bk,Al] at a7;rw[<-ab,<-Bk] at aa;have ae:(upd J D (.lst (a.map (λz=>V.ref z.1)++r.map λz=>V.ref z.1))) D=some (.lst ((a++r).map λz=>V.ref z.1)):=(by rw[Aa,Bk])
   have sn:Ac H (upd J D (.lst (a.map (λz=>V.ref z.1)++r.map λz=>V.ref z.1))):=λb o e=>by
    rw[AD (AH e av)];exact n _ _ (I _ _ e)
   have ak:∀z∈a++r,DL (λl=>H l=none/\l≠D) (upd J D (.lst (a.map (λz=>V.ref z.1)++r.map λz=>V.ref z.1))) z.1 z.2:=λz h=>by
    rcases BF.mp h with h|h;exact((k z h).same n).keeps k5 λx q=>q.2;refine((a6 z h).mono λx q=>⟨I.free q.1,?_⟩).keeps k5 λx q=>q.2;intro y;rw[y,E] at q;cases q.1
   generalize upd J D (.lst (a.map (λz=>V.ref z.1)++r.map λz=>V.ref z.1))=H6 at ae sn ak ⊢;refine⟨_,Or.inl ⟨_,Af.of ae,rfl⟩,rfl,?_⟩;rw[DT (by rw[Al];omega)];refine Bg ?_;refine⟨_,rfl,a++r,?_,sn,ae,ak,aa⟩
   simp
inductive Fb (K:Ah) (vs:List V) (H:Hp) (Q:VK):Prop where
 |mk (t a o:Addr) (inn:V) (ss:List CP) (n:Int) (k:Nat) (s:CP) (x:Str) (h0:vs=[.ref t,.int n,.str x]) (h1:n=k) (h2:Aq K H t [.ref a,inn,.ref o]) (h3:HE K H a ss) (h4:ss[k]?=some s) (h5:Q (.bl (dec (x∈s.2))) H):Fb K vs H Q
def gN (K:Ah):Sp:=λvs H Q _=>Fb K vs H Q
variable (P w K mg base) in
abbrev Uj:Prop:=BG P w K mg base "has_end" 1 ["table", "state", "label"] (gN K)
theorem gO(B:BH mg)(F:Br K "has_end" "has_end" Re f fd)(c:mg "has_end" = some (.ref f)):Uj P w K mg base:=by
 refine B1 F c Xe (λb H Q E h=>?_) (λO A R s H b Q E j h=>?_);obtain⟨t,a,o,J,ss,n,k,s,x,rfl,_⟩:=h;rfl;obtain⟨t,a,o,J,ss,n,k,s,x,rfl,rfl,l,⟨b,m,p⟩,r,q⟩:=h;obtain⟨v,u,L⟩:=p.get' (i:=k) (d:=Ob s) (by rw[Bh,r];rfl);obtain⟨C,g,e,rfl,M,N,D⟩:=FK L
 refine⟨_,(Am (AQ (i:=3) Xe.nd (AE AF (AE AF (AE AF (pv 0) Ai) (pv 1)) Ai))
  (Au (AX (Jb (LG j.units) (pv 2) (pv 3) (by with_unfolding_all rfl))))),?_⟩
 (try dsimp only[AG,Cx.nox,Cx.wish]);refine Or.inr (Or.inl ⟨_,.ref a,l,rfl,?_⟩);refine Or.inl ⟨b,.ref C,m,BN u,?_⟩;refine Or.inr (Or.inl ⟨_,.ref e,M,rfl,?_⟩);refine⟨2,.str x,s.2.map Dt.str,e,_,λd hd=>?_,by decide,.str x,rfl,D,An.strs _,?_⟩;obtain⟨y,_,rfl⟩:=Bn.mp hd;exact .str _ _
 have G:dec (Dt.str x∈s.2.map Dt.str)=dec (x∈s.2):=M4 ⟨λh=>by
  obtain⟨y,I,z⟩:=Bn.mp h
  rw[<-Dt.str.inj z];exact I,λh=>Bn.mpr ⟨x,h,rfl⟩⟩
 rw[G];exact q
theorem Kk{k:Nat}(h:W.sts[k]?=some s):G7 W (k:Int)=s.2:=by unfold G7;rw[Bl,h]
theorem gP{k:Nat}{s:Bj}(h:W.ss[k]?=some s):Gf W (k:Int)=s.2:=by unfold Gf;rw[Bl,h]
theorem MH{q:DV}(a:q.2.1=x)(c:q.1∈G7 W b.2.2):Fs W b x q i=[b.1++[(b.2.1,("told" : Str),(i:Int))]]:=Ak ⟨a,c⟩
theorem Kl{q:DV}(h:¬(q.2.1=x/\q.1∈G7 W b.2.2)):Fs W b x q i=[]:=Aj h
theorem Xz{bs:List AR}(h:bs[i]?=some b):DX W x (bs.take (i+1))=DX W x (bs.take i)++DM W b x (Gf W b.2.1) 0:=by
 rw[DS,h];show(bs.take i++[b]).flatMap _=_;rw[List.flatMap_append];simp[DX]
theorem OT{bs:List AR}(i:Nat):(DX W x (bs.take i)).length<=(DX W x bs).length:=by
 have:DX W x bs=DX W x (bs.take i)++DX W x (bs.drop i):=by
  unfold DX;rw[<-List.flatMap_append,List.take_append_drop]
 rw[this,AV];omega
theorem XA(W:Wd)(b:AR)(x:Str):∀(l:List DV)(j i:Nat),(DM W b x (l.take j) i).length<=(DM W b x l i).length
 |[],j,i=>by rw[List.take_nil];exact AB _
 |q::l,0,i=>Ck _
 |q::l,j+1,i=>by
   show(Fs W b x q i++DM W b x (l.take j) (i+1)).length<=(Fs W b x q i++DM W b x l (i+1)).length;rw[AV,AV];have:=XA W b x l j (i+1);omega
inductive CL (K:Ah) (vs:List V) (H:Hp) (Q:VK):Prop where
 |mk (nt A t D:Addr) (x:Str) (F:Addr->Prop) (W:Wd) (zs:List (Addr×AR)) (h0:vs=[.ref nt,.ref t,.ref D,.str x]) (h1:Bq K H nt A t W) (h2:B3 W) (h3:H D=some (.lst (zs.map λz=>V.ref z.1))) (h4:(∀z∈zs,DL F H z.1 z.2)) (h5:(∀z∈zs,B9 W z.2)) (h6:(DX W x (zs.map (·.2))).length<=62) (h7:∀(D2:Addr)(ws:List (Addr×List Ap))(H':Hp),H D2=none->Ac H H'->H' D2=some (.lst (ws.map λz=>V.ref z.1))->(∀z∈ws,CQ (λl=>H l=none/\l≠D2) H' z.1 z.2)->M9 W x (zs.map (·.2)) (ws.map (·.2))->Q (.ref D2) H'):CL K vs H Q
def gQ (K:Ah):Sp:=λvs H Q _=>CL K vs H Q
variable (P w K mg base) in
abbrev Uk:Prop:=BG P w K mg base "found_behind" 2 ["net", "table", "begun", "name"] (gQ K)
theorem gR(B:BH mg)(aC:Uj P w K mg base)(F:Br K "found_behind" "found_behind" Rf f fd)(u:mg "found_behind" = some (.ref f)):Uk P w K mg base:=by
 refine B1 F u Mp (λvs H a2 a3 h=>?_) (λbb an bf s H vs a2 a3 hr h=>?_);obtain⟨nt,an,t,D,x,F,W,v,rfl,_⟩:=h;rfl
 . obtain⟨nt,an,t,D,x,F,W,v,rfl,hC,ok,eD,hz,aD,bc,a4⟩:=h
   obtain⟨a5,aW,aX,us,Gs,Es,ts,qt,qs,eN,N3⟩:=hC.net;obtain⟨a,o,aE,b1,a6,b2,b3⟩:=hC.tab
   refine⟨_,(Am (AQ (i:=4) Mp.nd (Cp Ae))
    (Am (CB Cm rfl (C6 (pv 2)) (Co (n:=3) rfl (AI (Ay (i:=5) Mp.nd) (AI (Ay (i:=6) Mp.nd) (AI (Ay (i:=7) Mp.nd) Cn)))) (Au (CB Cm rfl (PM rfl B.b_enumerate (Ab (AE AF (AE AF (AE AF (pv 0) Ai) (pv 6)) Ai) Ae)) (Co (n:=2) rfl (AI (Ay (i:=8) Mp.nd) (AI (Ay (i:=9) Mp.nd) Cn))) (Au (Bm (PW.pt (Gw (BJ CC (AE AF (pv 9) Ai) (pv 3) (Bw _)) (Gv (Gb (A6 aC (Ab (pv 1) (Ab (pv 7) (Ab (AE AF (pv 9) Ai) Ae)))))))) (Au (Df (Dj DI Ep Er Eu (pv 4) (Ab (AA Ps (pv 5) (Cp (Ab (Bs (Ab (pv 6) (Ab BZ (Ab (pv 8) Ae)))) Ae))) Ae)))) Bo)))))
    (Au (AX (BM (Y5 M8 hr.units (by decide)) B.b_sorted (Ab (pv 4) Ae)))))),?_⟩
   (try dsimp only[AG,Cx.nox,Cx.wish]);refine⟨by decide,λP hP=>?_⟩;obtain⟨Y,aF,s1,aq⟩:=new_at (o:=.lst []) hP;rw[<-aF];have bd:D≠P:=AH eD hP;have Q:∀{g:Hp},Keeps (·=P) Y g->Ac H g:=λk x o e=>k.at_ _ _ (s1 _ _ e) (AH e hP)
   refine⟨⟨_,Af.of (s1 _ _ eD)⟩,EM (xs:=v.map λz=>V.ref z.1) (λi σ g=>∃u5 u6 u7 A C b,σ=[some (.ref nt),some (.ref t),some (.ref D),some (.str x),some (.ref P),u5,u6,u7,A,C]/\Keeps (·=P) Y g/\g P=some (.lst (b.map λz:Addr×List Ap=>V.ref z.1))/\(∀z∈b,CQ (λl=>H l=none/\l≠P) g z.1 z.2)/\b.map (·.2)=DX W x ((v.map (·.2)).take i))
    ⟨none,none,none,none,none,[],rfl,Keeps.refl λx o m e=>by rw[m,aq] at e;exact⟨_,(Bv e).symm⟩,aq,λz hz=>by simp at hz,by rw[Eo];rfl⟩ (λi σ g _ af=>by obtain⟨_,_,_,_,_,_,_,k,_⟩:=af;exact Af.of (Q k _ _ eD)) ?_ ?_⟩
   rotate_left;refine λσ H2 G=>AL λM d=>?_;obtain⟨u5,u6,u7,A,C,b,rfl,T,ag,U,u⟩:=G;refine d ?_;clear d;rw[Al,<-Al (f:=(·.2)),Ei] at u;have lw:b.length<=62:=by have:=BI List.length u;rw[Al] at this;omega
   refine⟨P,b.map λz=>(V.ref z.1,z.2),rfl,?_,by rw[Al];omega,λy q=>?_,λD2 aG N hs ah=>?_⟩;rw[DG];exact Af.of ag;obtain⟨z,ai,rfl⟩:=Bn.mp q;exact(U z ai).dt;obtain⟨vs,r1,r2,r3,r4⟩:=VV (c:=CF) N;have s3:=Bb (o:=.lst (aG.map (·.1))) ah;rw[r1] at s3 ⊢;rw[r2] at hs;have r:=Q T;refine a4 D2 vs _ (r.free ah) (r.trans s3) Aa (λz ai=>?_) ⟨by rw[<-u];exact r3,hs⟩;refine((U z (r4 z ai)).mono' ?_).same s3;intro x o ex hx;exact⟨hx.1,λy=>by rw[y,ah] at ex;cases ex⟩;refine λi y σ H2 q G=>AL λM d=>?_;obtain⟨u5,u6,u7,A,C,b,rfl,T,ag,U,u⟩:=G;refine d ?_;clear d;obtain⟨z,ar,rfl⟩:=getm q;have mz:=Bd ar;have aa:=aD z mz;have r:=Q T;refine AL λM d=>?_;obtain⟨l,E,a8,a9,e3,_⟩:=hz z mz;refine d ?_;clear d;have e1:=r _ _ a8;have aH:=aa.rng z.2.2.1 (by unfold AU;simp);have aI:=aa.st;obtain⟨n,X⟩:=DH aH.1;obtain⟨k,hk⟩:=DH aI.1;have aJ:n<W.ss.length:=(by omega);have aK:k<W.sts.length:=(by omega);refine AL λM d=>?_;obtain⟨ao,aY,E1,aA,aZ,ba,g4,⟨c0,_,⟨tE,c1,c2⟩⟩⟩:=N3.sc.get aJ;refine d ?_;clear d;have au:=AC aK;have eT:Gf W z.2.2.1=W.ss[n].2:=by rw[X];exact gP g4
   have eE:G7 W z.2.2.2=W.sts[k].2:=by rw[hk];exact Kk au
   have aL:Bt (us.map V.ref) z.2.2.1=some (.ref ao):=by rw[X];exact BN (by rw[Bh,aA];rfl)
   have av:(v.map (·.2))[i]?=some z.2:=by rw[Bh,ar];rfl
   have be:E.length<=100:=by
    have:=KI W.ss.length (AU z.2) aa.nd aa.rng;rw[show(AU z.2).length=z.2.1.length+1 by unfold AU;simp] at this;have:=ok.s5;rw[e3.len];omega
   have aM:=OT (W:=W) (x:=x) (bs:=v.map (·.2)) (i+1);rw[Xz av,AV] at aM;refine⟨_,Aq.of e1,rfl,?_⟩;refine Or.inr (Or.inl ⟨_,.ref a5,Aq.of (r _ _ eN),rfl,Or.inl ⟨_,.ref ao,Af.of (r _ _ N3.sc.top),aL,Or.inr (Or.inl ⟨_,.ref E1,Aq.of (r _ _ c0),rfl,E1,rfl,⟨_,r _ _ c1⟩,?_⟩)⟩⟩)
   refine SA (xs:=tE.map V.ref) (λj σ g=>∃A C b,σ=[some (.ref nt),some (.ref t),some (.ref D),some (.str x),some (.ref P),some (.ref l),some (.int z.2.2.1),some (.int z.2.2.2),A,C]/\Keeps (·=P) Y g/\g P=some (.lst (b.map λz:Addr×List Ap=>V.ref z.1))/\(∀z∈b,CQ (λl=>H l=none/\l≠P) g z.1 z.2)/\b.map (·.2)=DX W x ((v.map (·.2)).take i)++DM W z.2 x ((Gf W z.2.2.1).take j) 0)
    ⟨_,_,b,rfl,T,ag,U,by rw[u,Eo];simp[DM]⟩ (λj σ g af=>by obtain⟨_,_,_,_,k,_⟩:=af;exact Af.of (Q k _ _ c1)) ?_ ?_
   rotate_left;refine λσ H3 G=>AL λM d=>?_;obtain⟨A,C,b,rfl,Z,aj,ak,R⟩:=G;refine d ?_;clear d;refine⟨_,_,_,_,_,b,rfl,Z,aj,ak,?_⟩;rw[Xz av,R,Al,c2.len,eT,Ei];refine λj y T' σ H3 q aN G=>AL λM d=>?_;obtain⟨A,C,b,rfl,Z,aj,ak,R⟩:=G;refine d ?_;clear d;obtain⟨tp,aw,rfl⟩:=getm q;have aO:j<W.ss[n].2.length:=by rw[<-c2.len];exact(A9.mp aw).1
   have N:=AC aO;have ax:=c2.at_ j tp _ aw N;generalize W.ss[n].2[j]=p at N ax;obtain⟨H4,aP,s4,aQ⟩:=new_at (o:=.tup [.int j,.ref tp]) aN;rw[<-aP];have aR:=Q Z;have I:=aR.trans s4;have k4:Keeps (·=P) Y H4:=Z.same s4;have S:=s4 _ _ aj;have al:∀z∈b,CQ (λl=>H l=none/\l≠P) H4 z.1 z.2:=λz h=>(ak z h).same s4;have a1:=Aq.of (K:=K) (I _ _ ax)
   have ay:DM W z.2 x ((Gf W z.2.2.1).take (j+1)) 0=DM W z.2 x ((Gf W z.2.2.1).take j) 0++Fs W z.2 x p j:=by
    rw[DS,eT,N];show DM W z.2 x (W.ss[n].2.take j++[p]) 0=_;rw[VT,FG,Nat.zero_add,Nat.min_eq_left (by omega)]
   have skip:¬(p.2.1=x/\p.1∈G7 W z.2.2.2)->b.map (·.2)=DX W x ((v.map (·.2)).take i)++DM W z.2 x ((Gf W z.2.2.1).take (j+1)) 0:=λX=>by
    rw[ay,Kl X,FC,R]
   have lw:b.length<100:=by
    have:=BI List.length R;rw[Al,AV] at this;have J:=XA W z.2 x (Gf W z.2.2.1) j 0;omega
   refine⟨_,Aq.of aQ,rfl,?_⟩;refine Or.inr (Or.inl ⟨_,.str p.2.1,a1,rfl,rfl,rfl,Ao (λJ=>?_) (λJ=>Bg ?_)⟩);rotate_left;exact⟨_,_,b,rfl,k4,S,al,skip λh=>J (A5 (by rw[h.1]))⟩;have J:p.2.1=x:=V.str.inj (Bi J);refine Or.inr (Or.inl ⟨_,.str p.1,a1,rfl,t,a,o,aE,W.sts,z.2.2.2,k,_,p.1,rfl,hk,I.seqT b1,⟨a6,I.seq b2,b3.same I⟩,au,rfl,Ao (λO=>?_) (λO=>?_)⟩);rotate_left;exact⟨_,_,b,rfl,k4,S,al,skip λh=>O (Fn (by rw[<-eE];exact h.2))⟩;have O:p.1∈G7 W z.2.2.2:=by rw[eE];exact Fo.mp O
   refine⟨Or.inl ⟨rfl,_,Af.of S⟩,Jz,λm aS=>?_⟩;obtain⟨H5,aT,s5,aB⟩:=new_at (o:=.tup [.int z.2.2.1,.str "told",.int j]) aS;rw[<-aT];refine⟨HC,λa7 hM=>?_⟩;obtain⟨H6,aU,s6,eM⟩:=new_at (o:=.lst [.ref m]) hM;rw[<-aU];have ab:=s5.trans s6;refine⟨l,a7,_,_,rfl,rfl,ab _ _ (I _ _ a9),eM,by rw[Al];exact Di (BC (by show E.length+1<=1000;omega)),λL hL=>?_⟩;have aV:H L=none:=(I.trans ab).free hL;have az:L≠P:=λy=>by rw[y,ab _ _ S] at hL;cases hL
   have s7:=Bb (o:=.lst (E.map V.ref++[.ref m])) hL;have eL:(upd H6 L (.lst (E.map V.ref++[.ref m]))) L=some (.lst ((E++[m]).map V.ref)):=by rw[Aa,Bk];rfl
   generalize upd H6 L (.lst (E.map V.ref++[.ref m]))=H7 at s7 eL ⊢;have ae:=ab.trans s7;have a0:=ae _ _ S;have k7:Keeps (·=P) H7 (upd H7 P (.lst (b.map (λz=>V.ref z.1)++[.ref L]))):=Keeps.one a0;refine⟨_,a0,by rw[Al];exact BC (by omega),?_⟩;refine⟨_,_,b++[(L,z.2.1++[(z.2.2.1,("told" : Str),(j:Int))])],rfl,(k4.same ae).set rfl,by rw[Aa,Bk];rfl,λy q=>?_,?_⟩;rcases BF.mp q with q|q;exact((al y q).same ae).keeps k7 λx hx=>hx.2;rw[AY.mp q];refine⟨E++[m],k7.at_ _ _ eL az,?_,aV,az⟩;exact RT.snoc ((e3.same (I.trans ae)).keeps k7) (k7.tup ((s6.trans s7) _ _ aB));rw[ay,MH J O,Bk,R,FX];rfl
inductive CM (K:Ah) (vs:List V) (H:Hp) (Q:VK):Prop where
 |mk (t:Addr) (F:Addr->Prop) (sts:List CP) (inn:Int) (ord:List (Str×Str)) (h0:vs=[.ref t]) (h1:Gd K F H t sts inn ord) (h2:ord.length<=40) (h3:∀(p:Addr)(H':Hp),H p=none->Ac H H'->HM H' p ord->Q (.ref p) H'):CM K vs H Q
def gS (K:Ah):Sp:=λvs H Q _=>CM K vs H Q
variable (P w K mg base) in
abbrev QL:Prop:=BG P w K mg base "better_pairs" 1 ["table"] (gS K)
theorem gT(B:BH mg)(F:Br K "better_pairs" "better_pairs" Pc f fd)(J:mg "better_pairs" = some (.ref f)):QL P w K mg base:=by
 refine B1 F J d9 (λL H Q E h=>?_) (λak ag an s H L Q E M h=>?_);obtain⟨t,F,X,Y,v,rfl,_⟩:=h;rfl;obtain⟨t,F,X,Y,v,rfl,N,aj,q⟩:=h;obtain⟨ta,o,al,Z,O,_,_,_,_,_,x,TO⟩:=N.ex;refine⟨_,(Au (AX (G1 (Zs rfl (L0 M)) B.b_dict (Ab (G4 rfl Cc (C6 (AE AF (pv 0) Ai)) (λ_ _ _ _ _=>(Ay (i:=0) Cc.nd)) (λ_ _ _ _ _=>Hz) (λ_ _ _ _ _=>(Bs (Ab (pv 0) (Ab IW Ae))))) Ae)))),?_⟩;(try dsimp only[AG,Cx.nox,Cx.wish])
 refine Or.inr (Or.inl ⟨_,.ref o,Aq.of O,rfl,⟨_,Af.of x⟩,Sr (xs:=Z.map V.ref) (λP i a g=>Ac H g/\g P=some (.lst a)/\a.length=i/\E6 g a ((v.take i).map λp=>(Fu p,V.bl true)))
  (λP j=>⟨Bb j,Aa,rfl,.nil⟩) (λP i a g aa=>by obtain⟨s,_⟩:=aa;exact Af.of (s _ _ x)) (λP i ah a R RR j S n k=>?_) (λP a R j n=>?_)⟩)
 obtain⟨c,r,d,m⟩:=n;obtain⟨y,D,rfl⟩:=getm S;have ab:i<v.length:=by rw[<-TO.len];exact(A9.mp D).1
 have G:=AC ab;have ae:=c _ _ (TO.at_ i _ _ D G);refine⟨B7,λT U=>?_⟩;obtain⟨A,af,l,W⟩:=new_at (o:=.tup [.ref y,.bl true]) U;rw[<-af];have I:=l _ _ r
 have u:∀b xs,A b=some (.tup xs)->(upd A P (.lst (a++[.ref T]))) b=some (.tup xs):=λb xs e=>by
  rw[AD (MV e I (λz=>nomatch z))];exact e
 refine k _ _ I (by rw[d];exact BC (by omega)) ⟨λb ai e=>?_,Aa,by rw[AV,d];rfl,?_⟩;rw[AD (AH e j)];exact l _ _ (c _ _ e);rw[DS,G,Bk];exact Paired.snoc ((m.tups λb xs e=>l _ _ e).tups u) ⟨T,y,rfl,u _ _ W,u _ _ (l _ _ ae)⟩;obtain⟨c,r,d,m⟩:=n;rw[Al,TO.len,Ei] at m;rw[Al,TO.len] at d;refine⟨P,a,_,rfl,r,by rw[d];exact BC (by omega),m,λp C=>?_⟩;exact q p _ (c.free C) (c.trans (Bb C)) ⟨_,Aa,ZA⟩
inductive Fc (K:Ah) (vs:List V) (H:Hp) (Q:VK):Prop where
 |mk (D:Addr) (F:Addr->Prop) (zs:List (Addr×List Ap)) (h0:vs=[.ref D]) (h1:H D=some (.lst (zs.map λz=>V.ref z.1))) (h2:(∀z∈zs,CQ F H z.1 z.2)) (h3:zs.length<=100) (h4:∀(d:List Ap->Addr)(c:List Ap->Ap->Addr)(H':Hp),Ac H H'->Bc dW H' (A8 (zs.map (·.2))) d c->(∀p,Ef (A8 (zs.map (·.2))) p->H (d p)=none)->Q (.ref (d [])) H'):Fc K vs H Q
def gU (K:Ah):Sp:=λvs H Q _=>Fc K vs H Q
variable (P w K mg base) in
abbrev QM:Prop:=BG P w K mg base "tree_of" 1 ["ways"] (gU K)
theorem gW(B:BH mg)(F:Br K "tree_of" "tree_of" Rg f fd)(q:mg "tree_of" = some (.ref f)):QM P w K mg base:=by
 refine B1 F q Mq (λvs H an ao h=>?_) (λaA a6 aD s H vs an ao hr h=>?_);obtain⟨D,F,l,rfl,_⟩:=h;rfl
 . obtain⟨D,F,l,rfl,eD,hz,lz,aq⟩:=h
   refine⟨_,(Am (AQ (i:=1) Mq.nd Sb)
    (Am (CB Cm rfl (PM rfl B.b_enumerate (Ab (pv 0) Ae)) (Co (n:=2) rfl (AI (Ay (i:=2) Mq.nd) (AI (Ay (i:=3) Mq.nd) Cn))) (Am (AQ (i:=4) Mq.nd (pv 1))
     (Au (CB Cm rfl (C6 (pv 3)) (Ay (i:=5) Mq.nd) (Au (AQ (i:=4) Mq.nd (AE AF (Dj PySem.F.plainAttrs_dict PySem.F.slot_dict_setdefault PySem.F.type_dict_setdefault (Zm (LB hr)) (pv 4) (Ab (pv 5) (Ab (Bs (Ab (pv 2) (Ab Sb Ae))) Ae))) Ai)))))))
    (Au (AX (pv 1))))),?_⟩
   (try dsimp only[AG,Cx.nox,Cx.wish]);refine λt ht=>?_;obtain⟨ar,au,s1,et⟩:=new_at (o:=.dT []) ht;rw[<-au]
   refine⟨D,rfl,⟨_,s1 _ _ eD⟩,SA (xs:=l.map λz=>V.ref z.1) (λi σ A=>∃(W X Y C:Option V)(d:List Ap->Addr)(c:List Ap->Ap->Addr),σ=[some (.ref D),some (.ref t),W,X,Y,C]/\Ac H A/\d []=t/\Bc dW A (A8 ((l.map (·.2)).take i)) d c/\∀p,Ef (A8 ((l.map (·.2)).take i)) p->H (d p)=none)
    ⟨none,none,none,none,λ_=>t,λ_ _=>t,rfl,s1,rfl,?_,λp v=>ht⟩ (λi σ A aa=>by obtain⟨_,_,_,_,_,_,_,s,_⟩:=aa;exact Af.of (s _ _ eD)) ?_ ?_⟩
   have nil:∀p,Ef (A8 ((l.map (·.2)).take 0)) p->p=[]:=λp v=>by
    rcases v with h|⟨kw,h,_⟩;exact h;rw[Eo] at h;cases h
   refine⟨λp v=>?_,λp m k q=>?_,λp p' v av _=>(nil p v).trans (nil p' av).symm⟩;show ar t=some (.dT (DQ _ _ p));rw[et,Eo];rfl;rw[Eo] at q;cases q;rotate_left;refine λσ H2 I=>AL λO r=>?_;obtain⟨W,X,Y,C,d,c,rfl,Z,rfl,Q,R⟩:=I;refine r ?_;clear r;rw[Al,<-Al (f:=(·.2)),Ei] at Q R;exact aq d c H2 Z Q R;refine λi y a7 σ H2 hy hT I=>AL λO r=>?_;obtain⟨W,X,Y,C,d,c,rfl,Z,hd,Q,R⟩:=I;refine r ?_;clear r;refine Gi ?_;intro Nx Cy;obtain⟨z,ab,rfl⟩:=getm hy;have mz:=Bd ab;have aB:=(A9.mp ab).1;have aw:(l.map (·.2))[i]?=some z.2:=by rw[Bh,ab];rfl
   obtain⟨H3,ax,s3,eT⟩:=new_at (o:=.tup [.int (i:Int),.ref z.1]) hT;rw[<-ax];have ai:=Z.trans s3;obtain⟨ms,ag,f3,_⟩:=(hz z mz).same ai;refine⟨_,Aq.of eT,rfl,?_⟩
   refine⟨⟨_,Af.of ag⟩,EM (xs:=ms.map V.ref) (λj σ A=>∃(C:Option V)(d:List Ap->Addr)(c:List Ap->Ap->Addr),σ=[some (.ref D),some (.ref t),some (.int (i:Int)),some (.ref z.1),some (.ref (d (z.2.take j))),C]/\Ac H A/\RT GR A ms z.2/\A z.1=some (.lst (ms.map V.ref))/\d []=t/\Bc dW A (A8 ((l.map (·.2)).take i)++[(i,z.2.take j)]) d c/\∀p,Ef (A8 ((l.map (·.2)).take i)++[(i,z.2.take j)]) p->H (d p)=none)
    ⟨C,d,c,by rw[Eo,hd];rfl,ai,f3,ag,hd,by rw[Eo];exact(Q.sameW s3).begin,λp v=>R p ?_⟩ (λj σ A _ aa=>by obtain⟨_,_,_,_,_,_,e,_⟩:=aa;exact Af.of e) ?_ ?_⟩
   rw[Eo] at v;rcases v with h|⟨kw,h1,L⟩;exact .inl h;rcases BF.mp h1 with y|y;exact .inr ⟨kw,y,L⟩;rw[AY.mp y] at L;exact .inl (List.prefix_nil.mp L);rotate_left;refine λσ H4 I=>AL λO r=>?_;obtain⟨C,d,c,rfl,M,_,_,T,E,J⟩:=I;refine r ?_;clear r;rw[Al,f3.len,Ei,<-ZC aw] at E J;exact⟨_,_,_,_,d,c,rfl,M,T,E,J⟩;refine λj y σ H4 hy I=>AL λO r=>?_;obtain⟨C,d,c,rfl,M,S,e4,T,E,J⟩:=I;refine r ?_;clear r;refine Gi ?_;intro Nx Cy;obtain⟨mk,aj,rfl⟩:=getm hy;have hj:j<z.2.length:=by rw[<-f3.len];exact(A9.mp aj).1
   have ae:=AC hj;have ah:=S.at_ j _ _ aj ae;have tk:z.2.take (j+1)=z.2.take j++[z.2[j]]:=by rw[DS,ae];rfl
   generalize z.2[j]=m at ae ah tk;generalize hg:z.2.take j=g at E J tk ⊢;have ak:Ef (A8 ((l.map (·.2)).take i)++[(i,g)]) g:=.inr ⟨_,De _ (AY.mpr rfl),List.prefix_refl g⟩;have eB:=E.dct g ak;have a9:=SY (A8 ((l.map (·.2)).take i)++[(i,g)]) g
   have aC:(A8 ((l.map (·.2)).take i)++[(i,g)]).length<=101:=by
    unfold A8;rw[AV,Al,List.length_zipIdx,FG,Al,Dh];omega
   have lr:(DQ (A8 ((l.map (·.2)).take i)++[(i,g)]) c g).length<sizeLine:=by unfold DQ;rw[Al];exact BC (by omega)
   refine⟨Or.inr (Or.inr (Or.inl ⟨rfl,Or.inr ⟨_,eB⟩⟩)),λe he=>?_⟩;have s5:=Bb (o:=.dT []) he;have ee:(upd H4 e (.dT [])) e=some (.dT []):=Aa;have al:=he;generalize upd H4 e (.dT [])=H5 at s5 ee ⊢;refine⟨B7,λT5 ay=>?_⟩;obtain⟨H6,az,s6,U⟩:=new_at (o:=.tup [.int (i:Int),.ref e]) ay;rw[<-az];have u:=s5.trans s6;refine⟨d g,_,F4 m,mk,.ref T5,rfl,rfl,u _ _ eB,u _ _ ah,lr,λa8 G=>?_,λG=>?_⟩;rw[Oo] at G;by_cases q:m∈(TreeM.keysAt (A8 ((l.map (·.2)).take i)++[(i,g)]) g).map (·.1);rw[Ak q] at G;cases G;obtain⟨⟨m',k⟩,hk,rfl⟩:=Bn.mp q;have a0:=E.tup g m' k hk;refine Or.inr (Or.inl ⟨_,.ref (d (g++[m'])),Aq.of (u _ _ a0),rfl,?_⟩);refine⟨some (.ref mk),d,c,by rw[tk];rfl,M.trans u,S.same u,u _ _ e4,T,by rw[tk];exact(E.sameW u).stay q,λp v=>J p ((P0 q).mp (by rw[tk] at v;exact v))⟩;rw[Aj q] at G;cases G;have q:m∉(TreeM.keysAt (A8 ((l.map (·.2)).take i)++[(i,g)]) g).map (·.1):=λq=>by rw[Oo,Ak q] at G;cases G
   refine AL λO r=>?_;obtain⟨d',c',T7,a1,a2,a3⟩:=E.grow q al J (M.free al) u (s6 _ _ ee) U;refine r ?_;clear r;have a4:∀{b o},H b=some o->b≠d g:=λ{b o}N z=>by rw[z,J g ak] at N;cases N
   have s7:Ac H (upd H6 (d g) (.dT (AZ (DQ (A8 ((l.map (·.2)).take i)++[(i,g)]) c g) (F4 m) (.ref T5)))):=λb o N=>by
    rw[AD (a4 N)];exact u _ _ (M _ _ N)
   have af:=u _ _ eB;have a5:T5≠d g:=λy=>by rw[y,af] at U;cases U
   refine Or.inr (Or.inl ⟨_,.ref e,Aq.of (by rw[AD a5];exact U),rfl,?_⟩);refine⟨some (.ref mk),d',c',by rw[tk,a1];rfl,s7,⟨S.len,λn a b h1 L=>?_⟩,?_,a3.trans T,by rw[tk];exact T7,by rw[tk];exact a2⟩;have x:=u _ _ (S.at_ n a b h1 L);rw[AD (MV x af (λz=>nomatch z))];exact x;have x:=u _ _ e4;rw[AD (MV x af (λz=>nomatch z))];exact x
inductive EC (K:Ah) (vs:List V) (H:Hp) (Q:VK):Prop where
 |mk (nt S T R mk:Addr) (us Gs Es:List Addr) (ss:List Bj) (m:Ap) (h0:vs=[.ref nt,.ref mk]) (h1:Aq K H nt [.ref S,.ref T,.ref R]) (h2:Dm H S us Gs Es ss) (h3:Aq K H mk (GR m)) (h4:Ex ss m) (h5:Q (.str (FN ss m)) H):EC K vs H Q
def gX (K:Ah):Sp:=λvs H Q _=>EC K vs H Q
variable (P w K mg base) in
abbrev Ul:Prop:=BG P w K mg base "label_at" 1 ["net", "mark"] (gX K)
theorem gY(B:BH mg)(F:Br K "label_at" "label_at" Rh f fd)(t:mg "label_at" = some (.ref f)):Ul P w K mg base:=by
 refine B1 F t Nj (λG H Q E h=>?_) (λah ab ai s H G Q E hr h=>?_);obtain⟨I,S,T,R,mk,us,J,L,ss,m,rfl,_⟩:=h;rfl;obtain⟨I,S,T,R,mk,us,J,L,ss,m,rfl,M,A,t,⟨n,k,Z,v,g,j,C⟩,q⟩:=h;have Y:n<ss.length:=(A9.mp j).1;obtain⟨u,ae,E1,N,af,ag,D,⟨O,⟨l,U,o⟩,⟨p,W,r⟩⟩⟩:=A.get Y;rw[j] at D;have X:=Bv D;rw[<-X] at o r;have aa:Bt (us.map V.ref) m.1=some (.ref u):=by rw[v];exact BN (by rw[Bh,N];rfl)
 refine⟨_,(Am (Eb (pv 1) (Co (n:=3) rfl (AI (Ay (i:=2) Nj.nd) (AI (Ay (i:=3) Nj.nd) (AI (Ay (i:=4) Nj.nd) Cn)))))
  (Am (Eb (AE AF (AE AF (pv 0) Ai) (pv 2)) (Co (n:=2) rfl (AI (Ay (i:=5) Nj.nd) (AI (Ay (i:=6) Nj.nd) Cn))))
  (Am (Bm (BJ CC (pv 3) BZ (Bw _)) (Au (AX (AE AF (AE AF (pv 5) (pv 4)) Ai))) Bo)
  (Au (AX (AE AF (AE AF (pv 6) (pv 4)) Ai)))))),?_⟩
 (try dsimp only[AG,Cx.nox,Cx.wish]);refine⟨_,t,rfl,?_⟩;refine Or.inr (Or.inl ⟨_,.ref S,M,rfl,Or.inl ⟨_,.ref u,Af.of A.top,aa,?_⟩⟩);refine⟨_,Aq.of O,rfl,?_⟩;refine⟨rfl,rfl,Ao (λh=>?_) (λh=>?_)⟩;have b:m.2.1=("step" : Str):=V.str.inj (Bi h);rcases C with⟨_,a⟩|⟨e,_⟩;have c:=AC a;rw[Zd v g j b c] at q;have d:l[k]?=some (l[k]'(by rw[o.len];exact a)):=AC _;have x:=o.at_ _ _ _ d c;have y:Bt (l.map V.ref) m.2.2=some (.ref (l[k]'(by rw[o.len];exact a))):=by rw[g];exact BN (by rw[Bh,d];rfl)
 exact Or.inl ⟨_,_,Af.of U,y,Or.inr (Or.inl ⟨_,.str Z.1[k].1,Aq.of x,rfl,q⟩)⟩;exact absurd (e.symm.trans b) SO;have b:m.2.1≠("step" : Str):=λz=>h (A5 (by rw[z]));rcases C with⟨e,_⟩|⟨_,a⟩;exact absurd e b;have c:=AC a;rw[Ze v g j b c] at q;have d:p[k]?=some (p[k]'(by rw[r.len];exact a)):=AC _;have x:=r.at_ _ _ _ d c;have y:Bt (p.map V.ref) m.2.2=some (.ref (p[k]'(by rw[r.len];exact a))):=by rw[g];exact BN (by rw[Bh,d];rfl)
 exact Or.inl ⟨_,_,Af.of W,y,Or.inr (Or.inl ⟨_,.str Z.2[k].1,Aq.of x,rfl,q⟩)⟩
theorem XB{bet:Ap->Ap->Bool}{ws:TreeM.Ws Ap}{a:List Ap}{m:Ap}{t:List Ap}:TreeM.gat bet ws a (m::t)=((TreeM.keysAt ws a).filter λb=>bet b.1 m).map (·.2)++TreeM.gat bet ws (a++[m]) t:=rfl
theorem XC{bet:Ap->Ap->Bool}{ws:TreeM.Ws Ap}:∀{b a:List Ap},(TreeM.gat bet ws a b).length<=b.length*ws.length
 |[],_=>Ck _
 |m::t,a=>by
   rw[XB,AV,Al,Ek];have d:=O9 (λc:Ap×Nat=>bet c.1 m) (TreeM.keysAt ws a);have e:=SY ws a;have f:=XC (bet:=bet) (ws:=ws) (b:=t) (a:=a++[m]);rw[Nat.add_mul,Nat.one_mul];omega
inductive C3 (K:Ah) (vs:List V) (H:Hp) (Q:VK):Prop where
 |mk (nt S T R bp l:Addr) (us Gs Es:List Addr) (ss:List Bj) (ord:List (Str×Str)) (ws:TreeM.Ws Ap) (d:List Ap->Addr) (c:List Ap->Ap->Addr) (F:Addr->Prop) (w:List Ap) (h0:vs=[.ref nt,.ref bp,.ref (d []),.ref l]) (h1:H nt=some (.tup [.ref S,.ref T,.ref R])) (h2:Dm H S us Gs Es ss) (h3:HM H bp ord) (h4:Bc dF H ws d c) (h5:ws.length<=100) (h6:(∀kw∈ws,∀m∈kw.2,Ex ss m)) (h7:CQ F H l w) (h8:Na ss w) (h9:∀H',Ac H H'->Q (PZ ((TreeM.gat (Ca ss ord) ws [] w).map λk:Nat=>(k:Int))) H'):C3 K vs H Q
def gZ (K:Ah):Sp:=λvs H Q _=>C3 K vs H Q
variable (P w K mg base) in
abbrev QN:Prop:=BG P w K mg base "first_hider" 2 ["net", "better", "tree", "way"] (gZ K)
theorem g0(B:BH mg)(an:Ul P w K mg base)(F:Br K "first_hider" "first_hider" Ri f fd)(A:mg "first_hider" = some (.ref f)):QN P w K mg base:=by
 refine B1 F A Mr (λvs H a1 a2 h=>?_) (λaO aJ aS s H vs a1 a2 hr h=>?_);obtain⟨L,S,T,R,O,l,us,Gs,Es,ss,q,ws,d,c,F,w,rfl,_⟩:=h;rfl
 . obtain⟨L,S,T,R,O,l,us,Gs,Es,ss,q,ws,d,c,F,w,rfl,eN,SC,BD,TT,a5,a6,⟨ms,el,rl,_⟩,ok,a3⟩:=h
   obtain⟨kb,eb,hb⟩:=BD
   refine⟨_,(Am (AQ (i:=4) Mr.nd (Cp Ae))
    (Am (AQ (i:=5) Mr.nd (pv 2))
    (Am (CB Cm rfl (C6 (pv 3)) (Ay (i:=6) Mr.nd) (Am (AQ (i:=7) Mr.nd (A6 an (Ab (pv 0) (Ab (pv 6) Ae))))
     (Am (CB Cm rfl (JE (pv 5)) (Ay (i:=8) Mr.nd) (Au (Bm (BJ (Vm (LB hr)) (Bs (Ab (A6 an (Ab (pv 0) (Ab (pv 8) Ae))) (Ab (pv 7) Ae))) (pv 1) (by with_unfolding_all rfl)) (Au (Df (Dj DI Ep Er Eu (pv 4) (Ab (AE AF (U9 (LB hr) (pv 5) (pv 8) (λ_ _=>rfl)) Ai) Ae)))) Bo)))
     (Au (AQ (i:=5) Mr.nd (AE AF (Yo (LB hr) (pv 5) (pv 6) (Bs (Ab Ai (Ab Sb Ae))) ⟨rfl,rfl,rfl,rfl⟩) Ai))))))
    (Au (AX (JF rfl (by rfl) B.b_min (Ab (pv 4) Ae))))))),?_⟩
   (try dsimp only[AG,Cx.nox,Cx.wish]);refine⟨by decide,λN Y=>?_⟩;obtain⟨aK,a7,s1,a8⟩:=new_at (o:=.lst []) Y;rw[<-a7];refine AO ?_;(try dsimp only);refine AO ?_;(try dsimp only)
   refine⟨⟨_,Af.of (s1 _ _ el)⟩,EM (xs:=ms.map V.ref) (λj σ n=>∃(a:Addr)(u6 u7 C:Option V)(ns:List Nat),σ=[some (.ref L),some (.ref O),some (.ref (d [])),some (.ref l),some (.ref N),some (.ref a),u6,u7,C]/\Ac H n/\n N=some (.lst ((ns.map λk:Nat=>(k:Int)).map V.int))/\ns++TreeM.gat (Ca ss q) ws (w.take j) (w.drop j)=TreeM.gat (Ca ss q) ws [] w/\a≠N/\((Ef ws (w.take j)/\a=d (w.take j))\/(¬Ef ws (w.take j)/\H a=none/\Rd n a (.dT []))))
    ⟨d [],none,none,none,[],rfl,s1,a8,rfl,?_,.inl ⟨.inl rfl,rfl⟩⟩ (λj σ n _ ab=>by obtain⟨_,_,_,_,_,_,s,_⟩:=ab;exact Af.of (s _ _ el)) ?_ ?_⟩
   obtain⟨o,x⟩:=TT.dct [] (.inl rfl);exact AH x Y;rotate_left;refine λσ D ae=>AL λNz U=>?_;obtain⟨a,u6,u7,C,ns,rfl,y,af,t,_⟩:=ae;refine U ?_;clear U;rw[Al,rl.len,List.drop_length] at t;have t:ns=_:=(FC ns).symm.trans t;subst t;exact⟨N,_,rfl,af,a3 D y⟩;refine λj aL σ D hy ae=>AL λNz U=>?_;obtain⟨a,u6,u7,C,ns,rfl,y,af,t,ao,ag⟩:=ae;refine U ?_;clear U;refine Gi ?_;intro Nx Cy;obtain⟨mk,aq,rfl⟩:=getm hy;have hj:j<w.length:=by rw[<-rl.len];exact(A9.mp aq).1
   have ah:=AC hj;have aa:=rl.at_ j _ _ aq ah;have ar:=ok.1 _ (D9 hj);have tk:w.take (j+1)=w.take j++[w[j]]:=by rw[DS,ah];rfl
   have dk:w.drop j=w[j]::w.drop (j+1):=MO hj;rw[dk,XB] at t;generalize w[j]=m at ah aa tk ar t;generalize aP:w.take j=g at tk t ag ⊢;refine⟨L,S,T,R,mk,us,Gs,Es,ss,m,rfl,Aq.of (y _ _ eN),SC.same y,Aq.of (y _ _ aa),ar,?_⟩;refine AO ?_;try dsimp only
   have a9:Rd D a (.dT (DQ ws c g)):=by
    rcases ag with⟨u,p⟩|⟨u,_,p⟩;obtain⟨o,x⟩:=TT.dct g u;rw[p];exact .inr ⟨o,y _ _ x⟩;unfold DQ;rw[V7 u];exact p
   refine HA (λσ' n=>∃(C:Option V),σ'=[some (.ref L),some (.ref O),some (.ref (d [])),some (.ref l),some (.ref N),some (.ref a),some (.ref mk),some (.str (FN ss m)),C]/\Ac H n/\n N=some (.lst (((ns++((TreeM.keysAt ws g).filter λE=>Ca ss q E.1 m).map (·.2)).map λk:Nat=>(k:Int)).map V.int))/\Rd n a (.dT (DQ ws c g))) ?_ (λN' aA=>?_)
   case refine_2 =>
    refine⟨a,_,rfl,a9,λo G=>?_⟩
    have Q:Ac H (upd D a (.frz o (.dT (DQ ws c g)))):=λb a4 e=>by
     by_cases au:b=a;subst au;rw[Aa];rcases ag with⟨u,p⟩|⟨_,p,_⟩;obtain⟨o',x⟩:=TT.dct g u;rw[<-p] at x;have x2:=y _ _ x;rcases G with G|G;rw[x2] at G;cases G;rw[x2] at G;cases G;rw[x] at e;exact e;rw[e] at p;cases p;rw[AD au];exact y _ _ e
    have M:(upd D a (.frz o (.dT (DQ ws c g)))) N=_:=(AD (Ne.symm ao)).trans af;have av:(upd D a (.frz o (.dT (DQ ws c g)))) a=some (.frz o (.dT (DQ ws c g))):=Aa;generalize upd D a (.frz o (.dT (DQ ws c g)))=H3 at Q M av ⊢
    refine Zo (λi σ n=>∃(C:Option V),σ=[some (.ref L),some (.ref O),some (.ref (d [])),some (.ref l),some (.ref N),some (.ref a),some (.ref mk),some (.str (FN ss m)),C]/\Ac H n/\n N=some (.lst (((ns++(((TreeM.keysAt ws g).take i).filter λE=>Ca ss q E.1 m).map (·.2)).map λk:Nat=>(k:Int)).map V.int))/\n a=some (.frz o (.dT (DQ ws c g))))
     ⟨_,rfl,Q,by rw[Eo];show H3 N=some (.lst (((ns++[]).map _).map _));rw[FC];exact M,av⟩ (λi σ n _ ab=>by obtain⟨_,_,_,_,e⟩:=ab;exact e) ?_ ?_
    rotate_left;rintro σ H4 ⟨ai,rfl,I,J,W⟩;unfold DQ at J;rw[Al,Ei] at J;exact aA _ _ ⟨ai,rfl,I,J,.inr ⟨o,W⟩⟩;rintro i k aM b σ H4 hi aw ⟨ai,rfl,I,J,W⟩;unfold DQ at hi;rw[Bh] at hi;obtain⟨⟨x,kk⟩,hx,e⟩:=Gr.mp hi;have e1:=BI Prod.fst e;have e2:=BI Prod.snd e;dsimp only at e1 e2;subst e1 e2;have mx:=Bd hx;have aj:x∈(TreeM.keysAt ws g).map (·.1):=Bn.mpr ⟨_,mx,rfl⟩
    have aB:Ex ss x:=by
     obtain⟨kw,u,p⟩:=TreeM.keysAt_mem.mp aj;exact a6 kw u x (p.subset (by simp))
    have aC:=TT.tup g x kk mx
    have aQ:Ef ws g:=by
     obtain⟨kw,u,p⟩:=TreeM.keysAt_mem.mp aj;exact .inr ⟨kw,u,(IB g _).trans p⟩
    have ax:(TreeM.keysAt ws g).take (i+1)=(TreeM.keysAt ws g).take i++[(x,kk)]:=by rw[DS,hx];rfl
    refine⟨L,S,T,R,b,us,Gs,Es,ss,x,rfl,Aq.of (I _ _ eN),SC.same I,Aq.of aw,aB,?_⟩;refine⟨B7,λaN hp=>?_⟩;obtain⟨H5,ak,r,ep⟩:=new_at (o:=.tup [.str (FN ss x),.str (FN ss m)]) hp;rw[<-ak];have v:=I.trans r;refine⟨O,_,rfl,Dk.t (k:=Fu (FN ss x,FN ss m)) (v _ _ eb) ep,rfl,?_⟩;rw[hb];refine Ao (λh=>?_) (λh=>?_);have al:Ca ss q x m=true:=(by simpa [Ca] using h);refine⟨Or.inl ⟨rfl,_,Af.of (r _ _ J)⟩,a,.ref (c g x),rfl,?_,Or.inr (Or.inl ⟨_,.int (kk:Int),Aq.of (v _ _ aC),rfl,_,r _ _ J,?_,?_⟩)⟩;refine .inr ⟨_,F4 x,b,.inr ⟨o,r _ _ W⟩,rfl,r _ _ aw,?_⟩;rw[Oo,Ak aj];rw[Al,Al,AV,Al];have u:=O9 (λE:Ap×Nat=>Ca ss q E.1 m) ((TreeM.keysAt ws g).take i);have p:=SY ws g;have h3:(((TreeM.keysAt ws g).take i)).length<=(TreeM.keysAt ws g).length:=by rw[FG];omega
    have h4:=BI List.length t;have h5:=XC (bet:=Ca ss q) (ws:=ws) (b:=w) (a:=[]);have h6:w.length*ws.length<=100*100:=Nat.mul_le_mul ok.2 a5;rw[AV] at h4;exact Zg (by omega);refine⟨_,rfl,λb' a4 e=>?_,?_,?_⟩;rw[AD (AH e Y)];exact v _ _ e;rw[Aa,ax,Nr,MP,Ak al]
    simp
    rw[AD ao];exact r _ _ W;have al:¬Ca ss q x m=true:=(by simpa [Ca] using h);refine⟨_,rfl,v,?_,r _ _ W⟩;rw[ax,Nr,MP,Aj al];simpa using r _ _ J
   rintro σ' H3 ⟨ai,rfl,Q,M,a0⟩;have aR:((DQ ws c g).map (·.1)).length=(DQ ws c g).length:=Al _;refine⟨a,rfl,.inr ⟨_,a0⟩,λe Z=>?_⟩;obtain⟨H4,aD,I,ee⟩:=new_at (o:=.dT []) Z;rw[<-aD];refine⟨B7,λT5 aE=>?_⟩;obtain⟨H5,ak,r,aF⟩:=new_at (o:=.tup [.int 0,.ref e]) aE;rw[<-ak];have X:=I.trans r;have v:=Q.trans X;have aI:Rd H5 a (.dT (DQ ws c g)):=a0.elim (λz=>.inl (X _ _ z)) λ⟨o,z⟩=>.inr ⟨o,X _ _ z⟩;have aG:e≠N:=λz=>by rw[z,M] at Z;cases Z
   refine⟨_,.inr ⟨_,F4 m,mk,aI,rfl,v _ _ aa,rfl⟩,?_⟩;rw[Oo];have ay:(ns++((TreeM.keysAt ws g).filter λE=>Ca ss q E.1 m).map (·.2))++TreeM.gat (Ca ss q) ws (g++[m]) (w.drop (j+1))=TreeM.gat (Ca ss q) ws [] w:=by rw[FX];exact t
   by_cases A:m∈(TreeM.keysAt ws g).map (·.1);rw[Ak A];obtain⟨⟨m',k⟩,hk,rfl⟩:=Bn.mp A;have aH:=TT.tup g m' k hk;have az:=Ft.mpr A;refine Or.inr (Or.inl ⟨_,.ref (d (g++[m'])),Aq.of (v _ _ aH),rfl,?_⟩);refine⟨_,_,_,_,_,rfl,v,X _ _ M,by rw[tk];exact ay,?_,.inl ⟨by rw[tk];exact az,by rw[tk]⟩⟩;obtain⟨o,x⟩:=TT.dct _ az;exact AH x Y;rw[Aj A];refine Or.inr (Or.inl ⟨_,.ref e,Aq.of aF,rfl,?_⟩);exact⟨_,_,_,_,_,rfl,v,X _ _ M,by rw[tk];exact ay,aG,.inr ⟨λz=>A (Ft.mp (by rw[tk] at z;exact z)),Q.free Z,.inl (r _ _ ee)⟩⟩
inductive D7 (K:Ah) (vs:List V) (H:Hp) (Q:VK):Prop where
 |mk (nt S T R t D:Addr) (us Gs Es:List Addr) (ss:List Bj) (F G:Addr->Prop) (sts:List CP) (inn:Int) (ord:List (Str×Str)) (zs:List (Addr×List Ap)) (h0:vs=[.ref nt,.ref t,.ref D]) (h1:H nt=some (.tup [.ref S,.ref T,.ref R])) (h2:Dm H S us Gs Es ss) (h3:Gd K F H t sts inn ord) (h4:ord.length<=40) (h5:(∀x,(x,x)∉ord)) (h6:H D=some (.lst (zs.map λz=>V.ref z.1))) (h7:(∀z∈zs,CQ G H z.1 z.2)) (h8:(∀z∈zs,Na ss z.2)) (h9:zs.length<=100) (h10:∀(P:Addr)(ys:List (Addr×List Ap))(H':Hp),H P=none->Ac H H'->H' P=some (.lst (ys.map λz=>V.ref z.1))->(∀z∈ys,CQ (λl=>H l=none/\l≠P) H' z.1 z.2)->ys.map (·.2)=CS ss ord (zs.map (·.2)) (zs.map (·.2))->Q (.ref P) H'):D7 K vs H Q
def g8 (K:Ah):Sp:=λvs H Q _=>D7 K vs H Q
variable (P w K mg base) in
abbrev Um:Prop:=BG P w K mg base "seen_ways" 3 ["net", "table", "ways"] (g8 K)
theorem g9(B:BH mg)(ay:QL P w K mg base)(az:QM P w K mg base)(a0:QN P w K mg base)(F:Br K "seen_ways" "seen_ways" Pd f fd)(L:mg "seen_ways" = some (.ref f)):Um P w K mg base:=by
 refine B1 F L TK (λa H aq ar h=>?_) (λa9 a7 aC s H a aq ar hr h=>?_);obtain⟨nt,S,aa,ab,t,ae,us,Gs,Es,ss,F,G,ag,ah,j,d,rfl,_⟩:=h;rfl;obtain⟨nt,S,aa,ab,t,ae,us,Gs,Es,ss,F,G,ag,ah,j,d,rfl,eN,SC,TB,aw,irr,M,p,ai,lz,au⟩:=h
 refine⟨_,(Am (AQ (i:=3) TK.nd (A6 ay (Ab (pv 1) Ae)))
  (Am (AQ (i:=4) TK.nd (HL (A6 az (Ab (pv 2) Ae))))
  (Au (AX (G4 (te:=Pq (JA K) (Hm (BB 0) GP)) rfl C0 (C6 (pv 2)) (λ_ _ _ _ _=>(Ay (i:=0) C0.nd)) (λ_ _ _ _ _=>(Py (FZ (GN (A6 a0 (Ab (pv 1) (Ab (pv 2) (Ab (pv 3) (Ab (pv 0) Ae))))))))) (λ_ _ _ _ _=>(G1 R8 B.b_list (Ab (pv 0) Ae)))))))),?_⟩
 (try dsimp only[AG,Cx.nox,Cx.wish]);refine⟨t,F,ag,ah,j,rfl,TB,aw,λbp a8 aA N BD=>?_⟩;refine⟨ae,G,d,rfl,N _ _ M,λz h=>(p z h).same N,lz,λav c H2 s2 T2 aj H3 q f4=>?_⟩;have s3:=q.same s2;have T3:=T2.frz aj q f4;have a1:=BD.same s3;clear T2 aj q f4 s2 BD;have n:=N.trans s3;have lw:(A8 (d.map (·.2))).length<=100:=by unfold A8;rw[Al,List.length_zipIdx,Al];exact lz
 have a2:∀kw∈A8 (d.map (·.2)),∀m∈kw.2,Ex ss m:=λkw a3 m L=>by
  obtain⟨z,h1,h2⟩:=Bn.mp (Bd (Do.mp a3));exact(ai z h1).1 m (by rw[h2];exact L)
 refine⟨⟨_,Af.of (n _ _ M)⟩,PL (xs:=d.map λz=>V.ref z.1) (λP i r C=>∃a:List (Addr×List Ap),r=(a.map λz=>V.ref z.1)/\Ac H3 C/\C P=some (.lst r)/\(∀z∈a,CQ (λl=>H l=none/\l≠P) C z.1 z.2)/\a.map (·.2)=CS ss j (d.map (·.2)) ((d.map (·.2)).take i)/\a.length<=i)
  (λP u=>⟨[],rfl,Bb u,Aa,λz p=>by simp at p,by rw[Eo];rfl,AB _⟩) (λP i r C a4=>by obtain⟨_,_,s,_⟩:=a4;exact Af.of (s _ _ (n _ _ M))) (λP i af r H4 RR R0 u hy O k k0=>?_) (λP r H4 u O=>?_)⟩
 refine AL λNz y=>?_;obtain⟨a,rfl,g,Q,J,A,lv⟩:=O;refine y ?_;clear y;obtain⟨z,U,rfl⟩:=getm hy;have aB:i<d.length:=(A9.mp U).1;have R:=Bd U;have ak:(d.map (·.2))[i]?=some z.2:=by rw[Bh,U];rfl
 have W:=n.trans g;refine⟨nt,S,aa,ab,bp,z.1,us,Gs,Es,ss,j,_,av,c,G,z.2,rfl,W _ _ eN,SC.same W,a1.same g,T3.same g,lw,a2,(p z R).same W,ai z R,λH5 D=>?_⟩;have X:=g.trans D;have al:=n.trans X;have Y:=D _ _ Q;refine⟨rfl,Ao (λh=>?_) (λh=>?_)⟩;have Z:=(P1 irr).mp (CT.mp (Bi h));obtain⟨ms,ax,q,_⟩:=(p z R).same al;refine⟨z.1,_,rfl,Or.inl (Af.of ax),λl E=>?_⟩;obtain⟨H6,a5,I,el⟩:=new_at (o:=.lst (ms.map V.ref)) E;rw[<-a5];have an:=I _ _ Y;have ao:l≠P:=λaf=>by rw[af,Y] at E;cases E
 have T:Keeps (·=P) H6 (upd H6 P (.lst (a.map (λz=>V.ref z.1)++[.ref l]))):=Keeps.one an;refine k _ _ an (by rw[Al];exact BC (by omega)) ⟨a++[(l,z.2)],by rw[Bk];rfl,λb o e=>?_,Aa,λw a6=>?_,?_,by rw[AV,Dh];omega⟩;rw[AD (AH e u)];exact I _ _ (X _ _ e);rcases BF.mp a6 with h|h;exact((J w h).same (D.trans I)).keeps T λx hx=>hx.2;rw[AY.mp h];exact⟨ms,T.at_ _ _ el ao,(q.same I).keeps T,al.free E,ao⟩;rw[Wb ak,Aj (by rw[Z];exact Cv),Bk,A];rfl
 have Z:((d.map (·.2)).any λv=>Ci ss j v z.2)=true:=by
  cases e:(d.map (·.2)).any λv=>Ci ss j v z.2 with
  |true=>rfl
  |false=>exact absurd (A5 (CT.mpr ((P1 irr).mpr e))) h
 exact k0 _ ⟨a,rfl,X,Y,λw hw=>(J w hw).same D,by rw[Wb ak,Ak Z];exact A,by omega⟩;refine AL λNz y=>?_;obtain⟨a,rfl,g,Q,J,A,lv⟩:=O;refine y ?_;clear y;rw[Al,<-Al (f:=(·.2)),Ei] at A;exact au P a H4 ((n).free u) (n.trans g) Q J A
inductive ED (K:Ah) (vs:List V) (H:Hp) (Q:VK):Prop where
 |mk (nt A t D:Addr) (x:Str) (F G:Addr->Prop) (W:Wd) (inn:Int) (ord:List (Str×Str)) (sc st:Int) (zs:List (Addr×AR)) (h0:vs=[.ref nt,.ref t,.ref D,.str x]) (h1:Bq K H nt A t W) (h2:Gd K F H t W.sts inn ord) (h3:B3 W) (h4:Be W) (h5:ord.length<=40) (h6:(∀x,(x,x)∉ord)) (h7:(0<=sc/\sc<W.ss.length)) (h8:(0<=st/\st<W.sts.length)) (h9:H D=some (.lst (zs.map λz=>V.ref z.1))) (h10:(∀z∈zs,DL G H z.1 z.2)) (h11:Db W sc st (zs.map (·.2))) (h12:∀(r D2 P:Addr)(ws ys:List (Addr×List Ap))(H':Hp),Ac H H'->H' r=some (.tup [.ref D,.ref D2,.ref P])->H D2=none->H' D2=some (.lst (ws.map λz=>V.ref z.1))->(∀z∈ws,CQ (λl=>H l=none) H' z.1 z.2)->M9 W x (zs.map (·.2)) (ws.map (·.2))->H P=none->H' P=some (.lst (ys.map λz=>V.ref z.1))->(∀z∈ys,CQ (λl=>H l=none) H' z.1 z.2)->ys.map (·.2)=CS W.ss ord (ws.map (·.2)) (ws.map (·.2))->Q (.ref r) H'):ED K vs H Q
def hE (K:Ah):Sp:=λvs H Q _=>ED K vs H Q
variable (P w K mg base) in
abbrev Uo:Prop:=BG P w K mg base "look_for" 4 ["net", "table", "begun", "name"] (hE K)
theorem hH(B:BH mg)(aa:Uk P w K mg base)(ab:Um P w K mg base)(F:Br K "look_for" "look_for" Rj f fd)(O:mg "look_for" = some (.ref f)):Uo P w K mg base:=by
 refine B1 F O Xf (λU H Q E h=>?_) (λaj A ak s H U Q E y h=>?_);obtain⟨j,A,t,D,x,F,G,W,L,M,k,l,m,rfl,_⟩:=h;rfl;obtain⟨j,A,t,D,x,F,G,W,L,M,k,l,m,rfl,C,V,ok,I,X,irr,e,g,Y,Z,c,q⟩:=h;obtain⟨S,T,R,us,Gs,Es,ts,qt,qs,eN,N3⟩:=C.net
 refine⟨_,(Am (AQ (i:=4) Xf.nd (A6 aa (Ab (pv 0) (Ab (pv 1) (Ab (pv 2) (Ab (pv 3) Ae))))))
  (Au (AX (Bs (Ab (pv 2) (Ab (pv 4) (Ab (A6 ab (Ab (pv 0) (Ab (pv 1) (Ab (pv 4) Ae)))) Ae))))))),?_⟩
 (try dsimp only[AG,Cx.nox,Cx.wish]);refine⟨j,A,t,D,x,G,W,m,rfl,C,ok,Y,Z,λz ae=>((c.mem _).mp (Bn.mpr ⟨z,ae,rfl⟩)).ok ok e g,I.fnd x k l _ e g c,λn d ai af a N J p=>?_⟩;have ag:∀z∈d,z.2∈DX W x (m.map (·.2)):=λz h=>p.perm.mem_iff.mp (Bn.mpr ⟨z,h,rfl⟩)
 have lw:d.length<=100:=by
  have h1:=p.perm.length_eq;have h2:=I.fnd x k l _ e g c;rw[Al] at h1;omega
 refine⟨j,S,T,R,t,n,us,Gs,Es,W.ss,F,_,W.sts,L,M,d,rfl,a _ _ eN,N3.sc.same a,V.same a,X,irr,N,J,λz h=>SQ ok e g c (ag z h),lw,λP ys H2 hP u eP hy ah=>?_⟩;refine⟨Jz,λr y=>?_⟩;have b:=Bb (o:=.tup [.ref D,.ref n,.ref P]) y;refine q r n P d ys _ ((a.trans u).trans b) Aa af (b _ _ (u _ _ N)) (λz h=>(((J z h).mono' λ_ _ _ v=>v.1).same u).same b) p (a.free hP) (b _ _ eP) (λz h=>((hy z h).mono' λx o _ v=>a.free v.1).same b) ah
inductive DC (K:Ah) (vs:List V) (H:Hp) (Q:VK):Prop where
 |mk (nt S T R t D O:Addr) (us Gs Es:List Addr) (ss:List Bj) (F G:Addr->Prop) (sts:List CP) (inn:Int) (ord:List (Str×Str)) (ws:List (Addr×List Ap)) (os:List (Addr×Ow)) (h0:vs=[.ref nt,.ref t,.ref D,.ref O]) (h1:H nt=some (.tup [.ref S,.ref T,.ref R])) (h2:Dm H S us Gs Es ss) (h3:Gd K F H t sts inn ord) (h4:ord.length<=40) (h5:(∀x,(x,x)∉ord)) (h6:H D=some (.lst (ws.map λz=>V.ref z.1))) (h7:(∀z∈ws,CQ G H z.1 z.2)) (h8:(∀z∈ws,Na ss z.2)) (h9:ws.length<=100) (h10:H O=some (.lst (os.map λz=>V.ref z.1))) (h11:(∀z∈os,FD G H z.1 z.2)) (h12:(∀z∈os,Na ss z.2.1)) (h13:∀(v:V)(H':Hp),Ac H H'->S7 G H' v (FE ss ord (ws.map (·.2)) (os.map (·.2)))->Q v H'):DC K vs H Q
def hJ (K:Ah):Sp:=λvs H Q _=>DC K vs H Q
variable (P w K mg base) in
abbrev Up:Prop:=BG P w K mg base "first_owed" 3 ["net", "table", "found", "owed"] (hJ K)
theorem hQ(B:BH mg)(ao:QL P w K mg base)(aq:QM P w K mg base)(ar:QN P w K mg base)(F:Br K "first_owed" "first_owed" Rk f fd)(r:mg "first_owed" = some (.ref f)):Up P w K mg base:=by
 refine B1 F r OF (λvs ai aj ak h=>?_) (λa2 a0 a4 s ai vs aj ak hr h=>?_);obtain⟨u,S,T,R,t,D,O,us,J,L,ss,F,G,aa,ab,b,a,k,rfl,_⟩:=h;rfl
 . obtain⟨u,S,T,R,t,D,O,us,J,L,ss,F,G,aa,ab,b,a,k,rfl,eN,SC,TB,an,irr,eD,hw,au,ae,M,ho,av,q⟩:=h
   refine⟨_,(Am (AQ (i:=4) OF.nd (A6 ao (Ab (pv 1) Ae)))
    (Am (AQ (i:=5) OF.nd (HL (A6 aq (Ab (pv 2) Ae))))
    (Am (CB Cm rfl (C6 (pv 3)) (Co (n:=2) rfl (AI (Ay (i:=6) OF.nd) (AI (Ay (i:=7) OF.nd) Cn))) (Au (Bm (FZ (GN (A6 ar (Ab (pv 0) (Ab (pv 4) (Ab (pv 5) (Ab (pv 6) Ae))))))) (Au (AX (Bs (Ab (pv 6) (Ab (pv 7) Ae))))) Bo)))
    (Au (AX Gu))))),?_⟩
   (try dsimp only[AG,Cx.nox,Cx.wish]);refine⟨t,F,aa,ab,b,rfl,TB,an,λN a1 a3 y Q=>?_⟩;refine⟨D,G,a,rfl,y _ _ eD,λz h=>(hw z h).same y,ae,λd c H2 U W af H3 A X=>?_⟩;have Y:=A.same U;have T3:=W.frz af A X;have aw:=Q.same Y;clear W af A X U Q;have p:=y.trans Y;have lw:(A8 (a.map (·.2))).length<=100:=by unfold A8;rw[Al,List.length_zipIdx,Al];exact ae
   have ax:∀Z∈A8 (a.map (·.2)),∀m∈Z.2,Ex ss m:=λZ ay m r=>by
    obtain⟨z,h1,h2⟩:=Bn.mp (Bd (Do.mp ay));exact(au z h1).1 m (by rw[h2];exact r)
   refine⟨⟨_,Af.of (p _ _ M)⟩,EM (xs:=k.map λz=>V.ref z.1) (λi σ H'=>∃C E,σ=[some (.ref u),some (.ref t),some (.ref D),some (.ref O),some (.ref N),some (.ref (d [])),C,E]/\Ac H3 H'/\FE ss b (a.map (·.2)) (k.map (·.2))=FE ss b (a.map (·.2)) ((k.map (·.2)).drop i))
    ⟨none,none,rfl,λ_ _ e=>e,rfl⟩ (λi σ H' _ az=>by obtain⟨_,_,_,s,_⟩:=az;exact Af.of (s _ _ (p _ _ M))) ?_ ?_⟩
   rotate_left;rintro σ H4 ⟨C,E,rfl,g,j⟩;rw[Al,<-Al (f:=(·.2)),List.drop_length] at j;refine q _ _ (p.trans g) ?_;rw[j];rfl;rintro i x σ H4 hx ⟨C,E,rfl,g,j⟩;obtain⟨z,ag,rfl⟩:=getm hx;have mz:=Bd ag;have H:=p.trans g;obtain⟨l,e1,wl⟩:=((ho z mz).same H).way;have hd:=S8 (l:=k.map (·.2)) (i:=i) (x:=z.2) (by rw[Bh,ag];rfl);rw[hd] at j;refine⟨_,Aq.of e1,rfl,?_⟩;refine⟨u,S,T,R,N,l,us,J,L,ss,b,_,d,c,G,z.2.1,rfl,H _ _ eN,SC.same H,aw.same g,T3.same g,lw,ax,wl,av z mz,λH5 s5=>?_⟩;have ah:=g.trans s5;refine⟨rfl,Ao (λh=>?_) (λh=>?_)⟩;have I:=(P1 irr).mp (CT.mp (Bi h));refine⟨B7,λal hp=>?_⟩;have s6:=Bb (o:=.tup [.ref l,.int z.2.2]) hp;refine q _ _ ((p.trans ah).trans s6) ?_;rw[j,Wi I];exact⟨al,l,rfl,Aa,(wl.same s5).same s6⟩
   have I:((a.map (·.2)).any λv=>Ci ss b v z.2.1)=true:=by
    cases e:(a.map (·.2)).any λv=>Ci ss b v z.2.1 with
    |true=>rfl
    |false=>exact absurd (A5 (CT.mpr ((P1 irr).mpr e))) h
   exact⟨_,_,rfl,ah,by rw[j,Wj I]⟩
inductive DD (K:Ah) (vs:List V) (H:Hp) (Q:VK):Prop where
 |mk (nt S T R mk:Addr) (us Gs Es:List Addr) (ss:List Bj) (m:Ap) (h0:vs=[.ref nt,.ref mk]) (h1:Aq K H nt [.ref S,.ref T,.ref R]) (h2:Dm H S us Gs Es ss) (h3:Aq K H mk (GR m)) (h4:Ex ss m) (h5:m.2.1=("told" : Str)) (h6:∀t,H t=some (.tup (HG (KP ss m)))->Q (.ref t) H):DD K vs H Q
def hV (K:Ah):Sp:=λvs H Q _=>DD K vs H Q
variable (P w K mg base) in
abbrev OU:Prop:=BG P w K mg base "telling_at" 1 ["net", "mark"] (hV K)
theorem hW(B:BH mg)(F:Br K "telling_at" "telling_at" Rl f fd)(c:mg "telling_at" = some (.ref f)):OU P w K mg base:=by
 refine B1 F c OG (λv H Q E h=>?_) (λaf A ag s H v Q E hr h=>?_);obtain⟨x,S,T,R,mk,us,y,z,ss,m,rfl,_⟩:=h;rfl;obtain⟨x,S,T,R,mk,us,y,z,ss,m,rfl,C,j,c,⟨n,k,Z,l,o,d,D⟩,X,q⟩:=h;have U:n<ss.length:=(A9.mp d).1;obtain⟨u,aa,G,I,ab,ae,p,⟨J,⟨tG,b1,L⟩,⟨a,M,b⟩⟩⟩:=j.get U;rw[d] at p;have N:=Bv p;rw[<-N] at L b;have W:Bt (us.map V.ref) m.1=some (.ref u):=by rw[l];exact BN (by rw[Bh,I];rfl)
 refine⟨_,(Am (Eb (pv 1) (Co (n:=3) rfl (AI (Ay (i:=2) OG.nd) (AI (Ay (i:=3) OG.nd) (AI (Ay (i:=4) OG.nd) Cn)))))
  (Am (AQ (i:=5) OG.nd (AE AF (AE AF (AE AF (pv 0) Ai) (pv 2)) Ai))
  (Au (AX (AE AF (pv 5) (pv 4)))))),?_⟩
 (try dsimp only[AG,Cx.nox,Cx.wish]);refine⟨_,c,rfl,?_⟩;refine Or.inr (Or.inl ⟨_,.ref S,C,rfl,Or.inl ⟨_,.ref u,Af.of j.top,W,Or.inr (Or.inl ⟨_,.ref G,Aq.of J,rfl,?_⟩)⟩⟩);rcases D with⟨e,_⟩|⟨_,g⟩;exact absurd (X.symm.trans e) SO;have r:=AC g;rw[We l o d r] at q;have t:a[k]?=some (a[k]'(by rw[b.len];exact g)):=AC _;have O:=b.at_ _ _ _ t r;have Y:Bt (a.map V.ref) m.2.2=some (.ref (a[k]'(by rw[b.len];exact g))):=by rw[o];exact BN (by rw[Bh,t];rfl)
 exact Or.inl ⟨_,_,Af.of M,Y,q _ O⟩
inductive DE (K:Ah) (vs:List V) (H:Hp) (Q:VK):Prop where
 |mk (nt A t P:Addr) (G:Addr->Prop) (W:Wd) (ys:List (Addr×List Ap)) (h0:vs=[.ref nt,.ref A,.ref P]) (h1:Bq K H nt A t W) (h2:Be W) (h3:H P=some (.lst (ys.map λz=>V.ref z.1))) (h4:(∀z∈ys,CQ G H z.1 z.2)) (h5:(∀z∈ys,Dp W.ss z.2)) (h6:∀(v:V)(H':Hp),Ac H H'->S7 G H' v (Fw W (ys.map (·.2)))->Q v H'):DE K vs H Q
def iA (K:Ah):Sp:=λvs H Q _=>DE K vs H Q
variable (P w K mg base) in
abbrev Uq:Prop:=BG P w K mg base "first_open" 2 ["net", "answers", "seen"] (iA K)
theorem iB(B:BH mg)(ak:OU P w K mg base)(F:Br K "first_open" "first_open" Rm f fd)(hm:mg "first_open" = some (.ref f)):Uq P w K mg base:=by
 refine B1 F hm Nk (λvs H aa ab h=>?_) (λao A ar s H vs aa ab hr h=>?_);obtain⟨g,A,t,P,ae,W,c,rfl,_⟩:=h;rfl
 . obtain⟨g,A,t,P,ae,W,c,rfl,J,sm,L,hy,R,q⟩:=h
   obtain⟨af,ag,ah,us,Gs,Es,ts,qt,qs,eN,N3⟩:=J.net
   refine⟨_,(Am (CB Cm rfl (C6 (pv 2)) (Ay (i:=3) Nk.nd) (Am (Eb (A6 ak (Ab (pv 0) (Ab (AE AF (pv 3) (Pk Pl Ai)) Ae))) (Co (n:=4) rfl (AI (Ay (i:=4) Nk.nd) (AI (Ay (i:=5) Nk.nd) (AI (Ay (i:=6) Nk.nd) (AI (Ay (i:=7) Nk.nd) Cn))))))
    (Au (Bm (PW.pt (Gw (BJ CC (pv 6) BZ (Bw _)) (Gv (FZ (GN (AE AF (pv 1) (pv 7))))))) (Au (AX (Bs (Ab (pv 3) (Ab (pv 7) Ae))))) Bo))))
    (Au (AX Gu))),?_⟩
   try dsimp only[AG,Cx.nox,Cx.wish]
   refine⟨⟨_,Af.of L⟩,EM (xs:=c.map λz=>V.ref z.1) (λi σ M=>∃j r u v y,σ=[some (.ref g),some (.ref A),some (.ref P),j,r,u,v,y]/\Ac H M/\Fw W (c.map (·.2))=Fw W ((c.map (·.2)).drop i))
    ⟨none,none,none,none,none,rfl,λ_ _ e=>e,rfl⟩ (λi σ M _ al=>by obtain⟨_,_,_,_,_,_,s,_⟩:=al;exact Af.of (s _ _ L)) ?_ ?_⟩
   rotate_left;refine λσ H4 G=>AL λNz d=>?_;obtain⟨j,r,u,v,y,rfl,a,b⟩:=G;refine d ?_;clear d;rw[Al,<-Al (f:=(·.2)),List.drop_length] at b;refine q _ _ a ?_;rw[b];rfl;refine λi x σ H4 hx G=>AL λNz d=>?_;obtain⟨j,r,u,v,y,rfl,a,b⟩:=G;refine d ?_;clear d;obtain⟨z,S,rfl⟩:=getm hx;have C:=Bd S;have hd:=S8 (l:=c.map (·.2)) (i:=i) (x:=z.2) (by rw[Bh,S];rfl);rw[hd] at b;have tk:=Nd sm (R z C);have N:=(hy z C).same a;obtain⟨vv,m,O,mo,aj⟩:=R z C;have T:=N;rw[O] at T;obtain⟨ms,mk,l1,l2,l3⟩:=Wh T;refine Or.inl ⟨_,.ref mk,Af.of l1,l2,g,af,ag,ah,mk,us,Gs,Es,W.ss,m,rfl,Aq.of (a _ _ eN),N3.sc.same a,Aq.of l3,mo,aj,λtp U=>?_⟩;have et:KP W.ss m=Cq W.ss z.2:=(by rw[O,P8]);rw[et] at U;refine⟨_,Aq.of U,rfl,?_⟩;refine⟨rfl,rfl,Ao (λh=>?_) (λh=>?_)⟩;rotate_left;have hn:(Cq W.ss z.2).2.2.1≠("by" : Str):=λe=>h (A5 (by rw[e]));refine Bg ?_;refine⟨_,_,_,_,_,rfl,a,?_⟩;rw[b,Qa (Aj λe=>hn e.1)];have X:(Cq W.ss z.2).2.2.1=("by" : Str):=V.str.inj (Bi h);rcases tk with⟨e,_⟩|⟨_,k0,k1⟩;rw[X] at e;exact absurd e (by decide +kernel);obtain⟨k,D⟩:=DH k0;have an:k<W.as.length:=(by omega);obtain⟨I,ai,Y,hv,hc⟩:=(J.ans.same a).get an;have Z:Bt I (Cq W.ss z.2).2.2.2=some ai:=by rw[D];exact BN hv
   rcases hc with⟨E,rfl⟩|⟨p,ta,E,rfl,aq⟩;refine Or.inl ⟨I,_,Y,Z,rfl,Ao (λ_=>?_) (λh=>absurd (A5 rfl) h)⟩;refine⟨B7,λp hp=>?_⟩;have Q:=Bb (o:=.tup [.ref z.1,.int (Cq W.ss z.2).2.2.2]) hp;refine q _ _ (a.trans Q) ?_;rw[b,Wk (q:=(Cq W.ss z.2).2.2.2) (Ak ⟨X,by rw[D,Bl];exact E⟩)];exact⟨p,z.1,rfl,Aa,N.same Q⟩;refine Or.inl ⟨I,_,Y,Z,rfl,Ao (λh=>absurd (Bi h) (by simp)) (λ_=>?_)⟩;refine⟨_,_,_,_,_,rfl,a,?_⟩;rw[b,Qa (Aj λe=>by have:=e.2;rw[D,Bl,E] at this;cases this)]
inductive Fe (K:Ah) (vs:List V) (H:Hp) (Q:VK):Prop where
 |mk (nt A t l:Addr) (G:Addr->Prop) (W:Wd) (w:List Ap) (h0:vs=[.ref nt,.ref A,.ref l]) (h1:Bq K H nt A t W) (h2:Be W) (h3:CQ G H l w) (h4:Dp W.ss w) (h5:Fv W w=none) (h6:Q (Ee (Bx W w)) H):Fe K vs H Q
def iC (K:Ah):Sp:=λvs H Q _=>Fe K vs H Q
variable (P w K mg base) in
abbrev Ur:Prop:=BG P w K mg base "meaning" 2 ["net", "answers", "way"] (iC K)
theorem iD(B:BH mg)(aa:OU P w K mg base)(F:Br K "meaning" "meaning" Rn f fd)(D:mg "meaning" = some (.ref f)):Ur P w K mg base:=by
 refine B1 F D Ms (λI H Q E h=>?_) (λai A aj s H I Q E hr h=>?_);obtain⟨g,A,t,l,G,W,w,rfl,_⟩:=h;rfl;obtain⟨g,A,t,l,G,W,w,rfl,j,J,o,r,d,q⟩:=h;obtain⟨S,T,R,us,L,M,ts,qt,qs,N,O⟩:=j.net;have tk:=Nd J r;obtain⟨vv,m,u,U,X⟩:=r;have Y:KP W.ss m=Cq W.ss w:=(by rw[u,P8]);rw[u] at o;obtain⟨ms,mk,Z,l2,l3⟩:=Wh o
 refine⟨_,(Am (Eb (A6 aa (Ab (pv 0) (Ab (AE AF (pv 2) (Pk Pl Ai)) Ae))) (Co (n:=4) rfl (AI (Ay (i:=3) Ms.nd) (AI (Ay (i:=4) Ms.nd) (AI (Ay (i:=5) Ms.nd) (AI (Ay (i:=6) Ms.nd) Cn))))))
  (Am (Bm (BJ CC (pv 5) BZ (Bw _)) (Au (AX (pv 6))) Bo)
  (Am (Eb (AE AF (pv 1) (pv 6)) (Co (n:=2) rfl (AI (Ay (i:=5) Ms.nd) (AI (Ay (i:=6) Ms.nd) Cn))))
  (Am (Bm (BJ CC (pv 5) BZ (Bw _)) (Au (AX (pv 6))) Bo)
  (Au (AX Gu)))))),?_⟩
 (try dsimp only[AG,Cx.nox,Cx.wish]);refine Or.inl ⟨_,.ref mk,Af.of Z,l2,g,S,T,R,mk,us,L,M,W.ss,m,rfl,Aq.of N,O.sc,Aq.of l3,U,X,λtp z=>?_⟩;rw[Y] at z;refine⟨_,Aq.of z,rfl,?_⟩;refine⟨rfl,rfl,Ao (λh=>?_) (λh=>?_)⟩;have ht:(Cq W.ss w).2.2.1=("thing" : Str):=V.str.inj (Bi h)
 rw[show Bx W w=some (Cq W.ss w).2.2.2 from Ak ht] at q;exact q
 have x:(Cq W.ss w).2.2.1≠("thing" : Str):=λe=>h (A5 (by rw[e]));rcases tk with⟨e,_⟩|⟨ab,k0,k1⟩;exact absurd e x;obtain⟨k,a⟩:=DH k0;have ae:k<W.as.length:=(by omega);obtain⟨C,v,af,hv,hc⟩:=j.ans.get ae;have ag:Bt C (Cq W.ss w).2.2.2=some v:=by rw[a];exact BN hv
 rcases hc with⟨b,rfl⟩|⟨p,ta,b,rfl,ah⟩;unfold Fv at d;rw[Ak ⟨ab,by rw[a,Bl];exact b⟩] at d;cases d
 have y:Bx W w=if p.1=("thing" : Str) then some p.2 else none:=by
  unfold Bx;rw[Aj x,a,Bl,b]
 refine Or.inl ⟨C,_,af,ag,?_⟩;refine⟨_,ah,rfl,?_⟩;refine⟨rfl,rfl,Ao (λh=>?_) (λh=>?_)⟩;have c:p.1=("thing" : Str):=V.str.inj (Bi h);rw[y,Ak c] at q;exact q;have c:p.1≠("thing" : Str):=λe=>h (A5 (by rw[e]));rw[y,Aj c] at q;exact q
inductive K2 (K:Ah) (vs:List V) (H:Hp) (Q:VK):Prop where
 |mk (nt A t O r D D2 P:Addr) (F G:Addr->Prop) (W:Wd) (inn:Int) (ord:List (Str×Str)) (ws ys:List (Addr×List Ap)) (os:List (Addr×Ow)) (at_:Int) (h0:vs=[.ref nt,.ref A,.ref t,.ref O,.ref r,.int at_]) (h1:Bq K H nt A t W) (h2:Gd K F H t W.sts inn ord) (h3:Be W) (h4:ord.length<=40) (h5:(∀x,(x,x)∉ord)) (h6:H r=some (.tup [.ref D,.ref D2,.ref P])) (h7:H D2=some (.lst (ws.map λz=>V.ref z.1))) (h8:(∀z∈ws,CQ G H z.1 z.2)) (h9:(∀z∈ws,Na W.ss z.2)) (h10:ws.length<=100) (h11:(∀z∈ws,Dp W.ss z.2)) (h12:H P=some (.lst (ys.map λz=>V.ref z.1))) (h13:(∀z∈ys,CQ G H z.1 z.2)) (h14:ys.map (·.2)=CS W.ss ord (ws.map (·.2)) (ws.map (·.2))) (h15:H O=some (.lst (os.map λz=>V.ref z.1))) (h16:(∀z∈os,FD G H z.1 z.2)) (h17:(∀z∈os,Na W.ss z.2.1)) (h18:∀(v:Addr)(a:Option (Str×Int))(w:Option Wt)(H':Hp),Ac H H'->Cb W ord (ws.map (·.2)) (os.map (·.2)) at_=(a,w)->A4 G H' (.ref v) (.tup [Bp a,HU w])->Q (.ref v) H'):K2 K vs H Q
def MI (K:Ah):Sp:=λvs H Q _=>K2 K vs H Q
variable (P w K mg base) in
abbrev Ix:Prop:=BG P w K mg base "met" 4 ["net", "answers", "table", "owed", "look", "at"] (MI K)
theorem iE(B:BH mg)(a3:Up P w K mg base)(a4:Uq P w K mg base)(a5:Ur P w K mg base)(F:Br K "met" "met" MS f fd)(hm:mg "met" = some (.ref f)):Ix P w K mg base:=by
 refine B1 F hm J7 (λm ai av aw h=>?_) (λaL A aN s ai m av aw hr h=>?_);obtain⟨R,A,t,af,aj,ak,D2,P,F,G,W,an,ord,a,p,S,at_,rfl,_⟩:=h;rfl
 . obtain⟨R,A,t,af,aj,ak,D2,P,F,G,W,an,ord,a,p,S,at_,rfl,hC,TB,sm,a1,irr,er,a6,hw,a7,lw,a8,eP,hy,N,eO,ho,a9,q⟩:=h
   obtain⟨ax,ay,az,us,Gs,Es,ts,qt,qs,eN,N3⟩:=hC.net
   have ao:∀z∈p,Dp W.ss z.2:=λz h=>by
    have g:z.2∈p.map (·.2):=Bn.mpr ⟨z,h,rfl⟩;rw[N] at g;obtain⟨aa,r,h3⟩:=Bn.mp (P9 g);rw[<-h3];exact a8 aa r
   have ly:p.length<=100:=by
    have g:=BI List.length N;have r:=ZE (ss:=W.ss) (ord:=ord) (all:=a.map (·.2)) (l:=a.map (·.2));rw[Al] at g r;omega
   refine⟨_,(Am (Eb (pv 4) (Co (n:=3) rfl (AI (Ay (i:=6) J7.nd) (AI (Ay (i:=7) J7.nd) (AI (Ay (i:=8) J7.nd) Cn)))))
    (Am (AQ (i:=9) J7.nd (A6 a3 (Ab (pv 0) (Ab (pv 2) (Ab (pv 7) (Ab (pv 3) Ae))))))
    (Am (Bm (FZ (GN (pv 9))) (Au (AQ (i:=9) J7.nd (A6 a4 (Ab (pv 0) (Ab (pv 1) (Ab (pv 8) Ae)))))) Bo)
    (Am (Bm (FZ (MW (pv 9))) (Am (Eb (pv 9) (Co (n:=2) rfl (AI (Ay (i:=10) J7.nd) (AI (Ay (i:=11) J7.nd) Cn))))
     (Au (AX (Bs (Ab Gu (Ab (Bs (Ab (pv 5) (Ab (pv 10) (Ab (pv 11) Ae)))) Ae)))))) Bo)
    (Am (AQ (i:=12) J7.nd (G4 rfl GC (C6 (pv 8)) (λ_ _ _ _ _=>(Ay (i:=0) GC.nd)) (λ_ _ _ _ _=>Hz) (λ_ _ _ _ _=>(A6 a5 (Ab (pv 1) (Ab (pv 2) (Ab (pv 0) Ae)))))))
    (Am (Bm (Gb (BM (Yu rfl) B.b_all (Ab (G4 rfl GD (C6 (pv 12)) (λ_ _ _ _ _=>(Ay (i:=0) GD.nd)) (λ_ _ _ _ _=>Hz) (λ_ _ _ _ _=>(RE (GN (pv 0))))) Ae))) (Au (AX (Bs (Ab (Bs (Ab BZ (Ab (pv 5) Ae))) (Ab Gu Ae))))) Bo)
    (Am (Bm (Gb (BM (V0 rfl) B.b_any (Ab (G4 (te:=Gc UL (BB 0) (Gc (Hr K) (BB 1) (tC (.int ((0:Nat):Int))))) rfl GF (C6 (pv 12)) (λ_ _ _ _ _=>(Ay (i:=0) GF.nd)) (λ_ _ _ _ _=>Hz) (λ_ _ _ _ _=>(Jb Po (pv 0) (AE AF (pv 1) Ai) (Bw _)))) Ae))) (Au (AX (Bs (Ab (Bs (Ab BZ (Ab (pv 5) Ae))) (Ab Gu Ae))))) Bo)
    (Au (AX (Bs (Ab (Bs (Ab BZ (Ab (AE AF (pv 12) Ai) Ae))) (Ab Gu Ae)))))))))))),?_⟩
   (try dsimp only[AG,Cx.nox,Cx.wish]);refine⟨_,Aq.of er,rfl,?_⟩;refine⟨R,ax,ay,az,t,D2,af,us,Gs,Es,W.ss,F,G,W.sts,an,ord,a,S,rfl,eN,N3.sc,TB,a1,irr,a6,hw,a7,lw,eO,ho,a9,λa2 aJ T ab=>?_⟩;refine AO ?_;(try dsimp only);refine HA (λσ' H=>∃v,σ'=[some (.ref R),some (.ref A),some (.ref t),some (.ref af),some (.ref aj),some (.int at_),some (.ref ak),some (.ref D2),some (.ref P),some v,none,none,none]/\Ac ai H/\S7 G H v (Ey W ord (a.map (·.2)) (S.map (·.2)))) ?_ (λaK hN=>?_);rotate_left
   cases e:FE W.ss ord (a.map (·.2)) (S.map (·.2)) with
   |none =>
     rw[e] at ab;obtain rfl:a2=.non:=ab;refine⟨rfl,Ao (λ_=>?_) (λh=>absurd (A5 rfl) h)⟩;refine⟨R,A,t,P,G,W,p,rfl,hC.same T,sm,T _ _ eP,λz h=>(hy z h).same T,ao,λv2 H2 u aq=>?_⟩;refine hN _ _ ⟨v2,rfl,T.trans u,?_⟩;unfold Ey;rw[e];rw[N] at aq;exact aq
   |some o =>
     rw[e] at ab;obtain⟨al,l,rfl,g,r⟩:=ab;refine⟨rfl,Ao (λh=>absurd (Bi h) (by simp)) (λ_=>?_)⟩;refine hN _ _ ⟨_,rfl,T,?_⟩;unfold Ey;rw[e];exact⟨al,l,rfl,g,r⟩
   rintro σ' H2 ⟨v,rfl,u,j⟩
   cases e:Ey W ord (a.map (·.2)) (S.map (·.2)) with
   |some o =>
     rw[e] at j;obtain⟨al,l,rfl,g,r⟩:=j;refine⟨rfl,Ao (λ_=>?_) (λh=>absurd rfl h)⟩;refine⟨_,Aq.of g,rfl,?_⟩;refine⟨Jz,λJ D=>?_⟩;obtain⟨H3,aA,x,e3⟩:=new_at (o:=.tup [.int at_,.ref l,.int o.2]) D;rw[<-aA];refine⟨B7,λy E=>?_⟩;have c:=Bb (o:=.tup [.non,.ref J]) E;exact q y _ _ _ ((u.trans x).trans c) (Nb e) (.tup Aa (.cons .non (.cons (.tup (c _ _ e3) (.cons (.int _) (.cons ((r.same x).same c).own (.cons (.int _) .nil)))) .nil)))
   |none =>
     rw[e] at j;obtain rfl:v=.non:=j;refine⟨rfl,Ao (λh=>absurd h (by decide)) (λ_=>?_)⟩;have aB:=S9 (Wf e)
     refine⟨⟨_,Af.of (u _ _ eP)⟩,Sr (xs:=p.map λz=>V.ref z.1) (λM i m H=>Ac H2 H/\H M=some (.lst m)/\m=((p.map (·.2)).take i).map λw=>Ee (Bx W w))
      (λM hM=>⟨Bb hM,Aa,by rw[Eo];rfl⟩) (λM i m H aC=>by obtain⟨s,_⟩:=aC;exact Af.of (s _ _ (u _ _ eP))) (λM i aa m H3 RR hM aD j k=>?_) (λM m H3 hM j=>?_)⟩
     obtain⟨x,I,rfl⟩:=j;obtain⟨z,ar,rfl⟩:=getm aD;have mz:=Bd ar;have O:=u.trans x;have mo:z.2∈CS W.ss ord (a.map (·.2)) (a.map (·.2)):=by rw[<-N];exact Bn.mpr ⟨z,mz,rfl⟩
     refine⟨R,A,t,z.1,G,W,z.2,rfl,hC.same O,sm,(hy z mz).same O,ao z mz,aB _ mo,?_⟩;refine k _ _ I ?_ ⟨λb o e=>?_,Aa,?_⟩;rw[Al,FG,Al];exact BC (by omega);rw[AD (AH e hM)];exact x _ _ e;rw[DS,Bh,ar,Bk];rfl
     obtain⟨x,I,rfl⟩:=j;rw[Al,<-Al (f:=(·.2)),Ei,N] at I;generalize ag:CS W.ss ord (a.map (·.2)) (a.map (·.2))=d at *
     have ls:d.length<=100:=by rw[<-N,Al];exact ly
     have O:=u.trans x;refine AO ?_;(try dsimp only);refine⟨⟨_,Af.of I⟩,Si (xs:=d.map λw=>Ee (Bx W w)) (λv=>V.bl (decide (v=V.non))) (by rw[Al];exact Di (BC (by omega))) (Af.of I) (λa0 aa H4 D4 R4 aM c aE k4=>(k4 _ (Ac.refl _))) (λH4 D4 c aE e4=>?_)⟩;refine⟨D4,(d.map λw=>Ee (Bx W w)).map λv=>decide (v=V.non),rfl,Af.of (by rw[e4,DG (f:=λv=>decide (v=V.non))];rfl),rfl,Ao (λh=>?_) (λh=>?_)⟩;refine⟨B7,λJ D=>?_⟩;obtain⟨H5,aF,C,e5⟩:=new_at (o:=.tup [.str "none",.int at_]) D;rw[<-aF];refine⟨B7,λy E=>?_⟩;have L:=Bb (o:=.tup [.ref J,.non]) E;refine q y (some ("none",at_)) none _ (((O.trans c).trans C).trans L) ?_ (.tup Aa (.cons (.tup (L _ _ e5) (.cons (.str _) (.cons (.int _) .nil))) (.cons .non .nil)));rw[JJ e,ag,S3 (FP.mp h)];have U:¬∀w∈d,Bx W w=none:=λz=>h (FP.mpr z)
     cases Q:d with
     |nil=>rw[Q] at U;exact absurd (λw hw=>by cases hw) U
     |cons X r0 =>
       have ae:=c _ _ I;have h0:Bt (d.map λw=>Ee (Bx W w)) ((0:Nat):Int)=some (Ee (Bx W X)):=BN (by rw[Q];rfl);refine⟨⟨_,Af.of ae⟩,Si (xs:=d.map λw=>Ee (Bx W w)) (λv=>V.bl (!decide (v=Ee (Bx W X)))) (by rw[Al];exact Di (BC (by omega))) (Af.of ae) (λa0 aa H5 D5 R5 aG C aH k5=>?_) (λH5 D5 C aH e5=>?_)⟩;obtain⟨w,_,rfl⟩:=getm aG;exact Or.inl ⟨_,_,Af.of (C _ _ ae),h0,ZS _ _,k5 _ (Ac.refl _)⟩;refine⟨D5,(d.map λw=>Ee (Bx W w)).map λv=>!decide (v=Ee (Bx W X)),rfl,Af.of (by rw[e5,DG (f:=λv=>!decide (v=Ee (Bx W X)))];rfl),rfl,Ao (λh5=>?_) (λh5=>?_)⟩;refine⟨B7,λJ D=>?_⟩;obtain⟨H6,ah,L,e6⟩:=new_at (o:=.tup [.str "torn",.int at_]) D;rw[<-ah];refine⟨B7,λy E=>?_⟩;have Y:=Bb (o:=.tup [.ref J,.non]) E;refine q y (some ("torn",at_)) none _ ((((O.trans c).trans C).trans L).trans Y) ?_ (.tup Aa (.cons (.tup (Y _ _ e6) (.cons (.str _) (.cons (.int _) .nil))) (.cons .non .nil)));have Z:=HV.mp h5;rw[Q] at U Z;rw[JJ e,ag,Q,S4 U Z];have Z:∀v∈d,Bx W v=Bx W X:=Classical.byContradiction λz=>h5 (HV.mpr z);have au:=U;rw[Q] at au Z;obtain⟨n,en,ea⟩:=S5 (at_:=at_) au Z;have aI:=C _ _ ae;rw[en] at h0;refine Or.inl ⟨_,.int n,Af.of aI,h0,B7,λJ D=>?_⟩;obtain⟨H6,ah,L,e6⟩:=new_at (o:=.tup [.str "thing",.int n]) D;rw[<-ah];refine⟨B7,λy E=>?_⟩;have Y:=Bb (o:=.tup [.ref J,.non]) E;refine q y (some ("thing",n)) none _ ((((O.trans c).trans C).trans L).trans Y) ?_ (.tup Aa (.cons (.tup (Y _ _ e6) (.cons (.str _) (.cons (.int _) .nil))) (.cons .non .nil)));rw[JJ e,ag,Q,ea]
inductive C4 (K:Ah) (vs:List V) (H:Hp) (Q:VK):Prop where
 |mk (nt A t D:Addr) (F:Addr->Prop) (W:Wd) (zs:List (Addr×AR)) (h0:vs=[.ref nt,.ref A,.ref t,.ref D]) (h1:Bq K H nt A t W) (h2:B3 W) (h3:H D=some (.lst (zs.map λz=>V.ref z.1))) (h4:(∀z∈zs,DL F H z.1 z.2)) (h5:(∀z∈zs,B9 W z.2)) (h6:zs.length<=62) (h7:(F3 W (zs.map (·.2))).length<=62) (h8:∀(D2:Addr)(ws:List (Addr×Ow))(H':Hp),H D2=none->Ac H H'->H' D2=some (.lst (ws.map λz=>V.ref z.1))->(∀z∈ws,FD (λl=>H l=none/\l≠D2) H' z.1 z.2)->Og W (zs.map (·.2)) (ws.map (·.2))->Q (.ref D2) H'):C4 K vs H Q
def iF (K:Ah):Sp:=λvs H Q _=>C4 K vs H Q
variable (P w K mg base) in
abbrev Us:Prop:=BG P w K mg base "owed_behind" 5 ["net", "answers", "table", "begun"] (iF K)
theorem iG(B:BH mg)(a6:QK P w K mg base)(F:Br K "owed_behind" "owed_behind" Ro f fd)(D:mg "owed_behind" = some (.ref f)):Us P w K mg base:=by
 refine B1 F D J8 (λa H a0 a1 h=>?_) (λaK A aT s H a a0 a1 hr h=>?_);obtain⟨Z,A,t,af,F,W,E,rfl,_⟩:=h;rfl
 . obtain⟨Z,A,t,af,F,W,E,rfl,hC,ok,eD,hz,a7,aL,aM,a2⟩:=h
   refine⟨_,(Am (AQ (i:=4) J8.nd (Cp Ae))
    (Am (CB Cm rfl (C6 (pv 3)) (Co (n:=3) rfl (AI (Ay (i:=5) J8.nd) (AI (Ay (i:=6) J8.nd) (AI (Ay (i:=7) J8.nd) Cn)))) (Au (CB Cm rfl (C6 (A6 a6 (Ab (pv 0) (Ab (pv 1) (Ab (pv 2) (Ab (pv 6) (Ab (pv 7) Ae))))))) (Co (n:=4) rfl (AI (Ay (i:=8) J8.nd) (AI (Ay (i:=9) J8.nd) (AI (Ay (i:=10) J8.nd) (AI (Ay (i:=11) J8.nd) Cn))))) (Au (Bm (BJ CC (pv 9) BZ (Bw _)) (Au (Df (Dj DI Ep Er Eu (pv 4) (Ab (Bs (Ab (AA Ps (pv 5) (Cp (Ab (pv 8) Ae))) (Ab (pv 10) Ae))) Ae)))) Bo)))))
    (Au (AX (BM (Y6 M8 FM hr.units (by decide) (by decide)) B.b_sorted (Ab (pv 4) Ae)))))),?_⟩
   (try dsimp only[AG,Cx.nox,Cx.wish]);refine⟨by decide,λP hP=>?_⟩;obtain⟨aq,a8,s1,av⟩:=new_at (o:=.lst []) hP;rw[<-a8];have ag:∀{p:Hp},Keeps (·=P) aq p->Ac H p:=λk x o e=>k.at_ _ _ (s1 _ _ e) (AH e hP)
   refine⟨⟨_,Af.of (s1 _ _ eD)⟩,EM (xs:=E.map λz=>V.ref z.1) (λi σ p=>∃u5 u6 u7 J M N O u,σ=[some (.ref Z),some (.ref A),some (.ref t),some (.ref af),some (.ref P),u5,u6,u7,J,M,N,O]/\Keeps (·=P) aq p/\p P=some (.lst (u.map λz:Addr×Ow=>V.ref z.1))/\(∀z∈u,FD (λl=>H l=none/\l≠P) p z.1 z.2)/\u.map (·.2)=F3 W ((E.map (·.2)).take i))
    ⟨none,none,none,none,none,none,none,[],rfl,Keeps.refl λx o m e=>by rw[m,av] at e;exact⟨_,(Bv e).symm⟩,av,λz hz=>by simp at hz,by rw[Eo];rfl⟩ (λi σ p _ ah=>by obtain⟨_,_,_,_,_,_,_,_,_,k,_⟩:=ah;exact Af.of (ag k _ _ eD)) ?_ ?_⟩
   rotate_left;refine λσ H2 Q=>AL λNz d=>?_;obtain⟨u5,u6,u7,J,M,N,O,u,rfl,T,X,hw,D⟩:=Q;refine d ?_;clear d;rw[Al,<-Al (f:=(·.2)),Ei] at D;have lw:u.length<=62:=by have:=BI List.length D;rw[Al] at this;omega
   refine⟨P,u.map λz=>(V.ref z.1,z.2),rfl,?_,by rw[Al];omega,λy r=>?_,λD2 a9 hp hs ai=>?_⟩;rw[DG];exact Af.of X;obtain⟨z,aj,rfl⟩:=Bn.mp r;exact(hw z aj).dt;obtain⟨a,r1,r2,r3,r4⟩:=VV (c:=PV) hp;have q:=Bb (o:=.lst (a9.map (·.1))) ai;rw[r1] at q ⊢;rw[r2] at hs;have I:=ag T;refine a2 D2 a _ (I.free ai) (I.trans q) Aa (λz aj=>?_) ⟨by rw[<-D];exact r3,hs⟩;refine((hw z (r4 z aj)).mono' ?_).same q;intro x o ex hx;exact⟨hx.1,λy=>by rw[y,ai] at ex;cases ex⟩;refine λi y σ H2 r Q=>AL λNz d=>?_;obtain⟨u5,u6,u7,J,M,N,O,u,rfl,T,X,hw,D⟩:=Q;refine d ?_;clear d;obtain⟨z,ak,rfl⟩:=getm r;have aN:i<E.length:=(A9.mp ak).1;have mz:=Bd ak;have aa:=a7 z mz;have I:=ag T;refine AL λNz d=>?_;obtain⟨l,v,a5,au,e3,_⟩:=hz z mz;refine d ?_;clear d;have e1:=I _ _ a5;have aA:=aa.rng z.2.2.1 (by unfold AU;simp);have aB:(E.map (·.2))[i]?=some z.2:=by rw[Bh,ak];rfl
   have aO:v.length<=100:=by
    have:=KI W.ss.length (AU z.2) aa.nd aa.rng;rw[show(AU z.2).length=z.2.1.length+1 by unfold AU;simp] at this;have:=ok.s5;rw[e3.len];omega
   have aC:u.length<=8*i:=by
    have G:=BI List.length D;rw[Al] at G;have h2:=SN (f:=λb=>(Gz W b.2.1 b.2.2).filterMap (ow b)) (k:=8) ((E.map (·.2)).take i) λb=>El (List.length_filterMap_le _ _) (El (LS W b.2.1 (DW W b.2.2) (B0 W b.2.1) 0) (PR ok b.2.1));rw[FG,Al] at h2;unfold F3 at G;have h3:min i E.length=i:=(by omega);rw[h3] at h2;omega
   refine⟨_,Aq.of e1,rfl,?_⟩;refine⟨Z,A,t,W,z.2.2.1,z.2.2.2,rfl,hC.same I,ok,aA,aa.st,λa3 R H3 hG q eG aD aw=>⟨⟨_,Af.of eG⟩,?_⟩⟩;have aE:a3≠P:=λy=>by rw[y,X] at hG;cases hG
   have aP:R.length<=8:=by
    have e1:=BI List.length aw;have e2:=LS W z.2.2.1 (DW W z.2.2.2) (B0 W z.2.2.1) 0;have e3:=PR ok z.2.2.1;rw[Al] at e1;unfold Gz at e1;omega
   refine EM (xs:=R.map λz=>V.ref z.1) (λj σ p=>∃J M N O a,σ=[some (.ref Z),some (.ref A),some (.ref t),some (.ref af),some (.ref P),some (.ref l),some (.int z.2.2.1),some (.int z.2.2.2),J,M,N,O]/\Keeps (·=P) H3 p/\p P=some (.lst (a.map λz:Addr×Ow=>V.ref z.1))/\(∀z∈a,FD (λl=>H l=none/\l≠P) p z.1 z.2)/\a.map (·.2)=F3 W ((E.map (·.2)).take i)++((R.map (·.2)).take j).filterMap (ow z.2)/\a.length<=8*i+j)
    ⟨_,_,_,_,u,rfl,Keeps.refl λx o m e=>by rw[m,q _ _ X] at e;exact⟨_,(Bv e).symm⟩,q _ _ X,λz h=>(hw z h).same q,by rw[D,Eo];simp,aC⟩ (λj σ p _ ah=>by obtain⟨_,_,_,_,_,_,k,_⟩:=ah;exact Af.of (k.at_ _ _ eG aE)) ?_ ?_
   rotate_left;refine λσ H4 Q=>AL λNz d=>?_;obtain⟨J,M,N,O,a,rfl,C,S,ab,ae,_⟩:=Q;refine d ?_;clear d;refine⟨_,_,_,_,_,_,_,a,rfl,⟨λx o e n=>C.at_ _ _ (q _ _ (T.at_ x o e n)) n,T.ls⟩,S,ab,?_⟩;rw[Zc aB,ae,Al,<-Al (f:=(·.2)),Ei,aw];refine λj y σ H4 r Q=>AL λNz d=>?_;obtain⟨J,M,N,O,a,rfl,C,S,ab,ae,aQ⟩:=Q;refine d ?_;clear d;obtain⟨g,al,rfl⟩:=getm r;have aR:j<R.length:=(A9.mp al).1;obtain⟨m,an,ao⟩:=aD g (Bd al);have an:=C.tup an;have ao:=C.tup ao
   have ax:((R.map (·.2)).take (j+1)).filterMap (ow z.2)=((R.map (·.2)).take j).filterMap (ow z.2)++(ow z.2 g.2).toList:=by
    rw[DS,Bh,al];exact LW _ _ _
   refine⟨_,Aq.of an,rfl,?_⟩;refine⟨rfl,rfl,Ao (λG=>?_) (λG=>?_)⟩;rotate_left;refine⟨_,_,_,_,a,rfl,C,S,ab,?_,by omega⟩;rw[ax,JD (λe=>G (A5 (by rw[e]))),ae];simp;have G:g.2.2.1.1=("open" : Str):=V.str.inj (Bi G);have aS:Ac H2 H3:=q;have aF:H4 l=some (.lst (v.map V.ref)):=C.at_ _ _ (q _ _ (I _ _ au)) (AH au hP);have aG:RT GR H4 v z.2.1:=(e3.same (I.trans q)).keeps C;refine⟨Or.inl ⟨rfl,_,Af.of S⟩,HC,λa4 hM=>?_⟩;obtain⟨H5,aH,s5,eM⟩:=new_at (o:=.lst [.ref m]) hM;rw[<-aH];refine⟨l,a4,_,_,rfl,rfl,s5 _ _ aF,eM,by rw[Al];exact Di (BC (by show v.length+1<=1000;omega)),λL hL=>?_⟩
   have aI:H L=none:=by
    have h4:=s5.free hL
    cases e:H L with
    |none=>rfl
    |some o=>rw[C.at_ _ _ (q _ _ (I _ _ e)) (AH e hP)] at h4;cases h4
   have ay:L≠P:=λy=>by rw[y,s5 _ _ S] at hL;cases hL
   have s6:=Bb (o:=.lst (v.map V.ref++[.ref m])) hL;have eL:(upd H5 L (.lst (v.map V.ref++[.ref m]))) L=some (.lst ((v++[m]).map V.ref)):=by rw[Aa,Bk];rfl
   generalize upd H5 L (.lst (v.map V.ref++[.ref m]))=H6 at s6 eL ⊢;refine⟨B7,λar hr=>?_⟩;obtain⟨H7,aJ,s7,er⟩:=new_at (o:=.tup [.ref L,.int g.2.2.1.2]) hr;rw[<-aJ];have Y:=(s5.trans s6).trans s7;have az:=Y _ _ S;have U:Keeps (·=P) H7 (upd H7 P (.lst (a.map (λz=>V.ref z.1)++[.ref ar]))):=Keeps.one az;refine⟨_,az,by rw[Al];exact BC (by omega),?_⟩;refine⟨_,_,_,_,a++[(ar,(z.2.1++[g.2.1],g.2.2.1.2))],rfl,(C.same Y).set rfl,by rw[Aa,Bk];rfl,λy r=>?_,?_,by rw[AV,Dh];omega⟩;rcases BF.mp r with r|r;exact((ab y r).same Y).keeps U λx hx=>hx.2;rw[AY.mp r];refine⟨L,v++[m],U.tup er,U.at_ _ _ (s7 _ _ eL) ay,?_,aI,ay⟩;exact RT.snoc ((aG.same Y).keeps U) (U.tup (Y _ _ ao));rw[ax,JC G,Bk,ae,FX];rfl
theorem both{A G:Prop}(k:A->G)(a:A):G:=k a
theorem OV:([]:List V).length+1+1+1+1<=sizeLine:=by decide
inductive Ff (K:Ah) (vs:List V) (H:Hp) (Q:VK):Prop where
 |mk (nt A t ask u:Addr) (F:Addr->Prop) (W:Wd) (inn:Int) (ord:List (Str×Str)) (q:Qu) (h0:vs=[.ref nt,.ref A,.ref t,.ref ask]) (h1:Bq K H nt A t W) (h2:Gd K F H t W.sts inn ord) (h3:B3 W) (h4:Be W) (h5:ord.length<=40) (h6:(∀x,(x,x)∉ord)) (h7:(0<=inn/\inn<W.sts.length)) (h8:H ask=some (.tup [.int q.1,.int q.2.1,.ref u])) (h9:H u=some (.tup (q.2.2.map V.str))) (h10:(0<=q.1/\q.1<W.ss.length)) (h11:(0<=q.2.1/\q.2.1<W.sts.length)) (h12:1<=q.2.2.length) (h13:q.2.2.length<=8) (h14:∀(r L T:Addr)(av wv:V)(lv:List V)(a:Option (Str×Int))(w:Option Wt)(ls:List Lk)(ts:List Int)(H':Hp),Ac H H'->H' r=some (.tup [av,wv,.ref L,.ref T])->H L=none->H' L=some (.lst lv)->H' T=some (.lst (ts.map V.int))->A4 (λx=>H x=none) H' av (Bp a)->A4 (λx=>H x=none) H' wv (HU w)->Ax (λx=>H x=none/\x≠L) H' lv (ls.map Nc)->LU W inn ord q.1 q.2.1 q.2.2 0 a w ls ts->Q (.ref r) H'):Ff K vs H Q
def iH (K:Ah):Sp:=λvs H Q _=>Ff K vs H Q
variable (P w K mg base) in
abbrev OW:Prop:=BG P w K mg base "look_up" 7 ["net", "answers", "table", "asked"] (iH K)
theorem iI(B:BH mg)(b8:Ui P w K mg base)(b9:Uo P w K mg base)(bA:Ix P w K mg base)(bB:Us P w K mg base)(bC:QJ P w K mg base)(F:Br K "look_up" "look_up" Rp f fd)(hm:mg "look_up" = some (.ref f)):OW P w K mg base:=by
 refine B1 F hm Gj (λvs H aP bx h=>?_) (λcl A cx s H vs aP bx hr h=>?_);obtain⟨X,A,t,aS,a0,F,W,Z,aa,q,rfl,_⟩:=h;rfl
 . obtain⟨X,A,t,aS,a0,F,W,Z,aa,q,rfl,hC,TB,ok,sm,aR,irr,ca,eq,eu,bD,bE,cm,cn,qk⟩:=h
   obtain⟨bz,Tn,b0,us,Gs,Es,cp,qt,qs,eN,N3⟩:=hC.net
   refine⟨_,(Am (Eb (pv 3) (Co (n:=3) rfl (AI (Ay (i:=4) Gj.nd) (AI (Ay (i:=5) Gj.nd) (AI (Ay (i:=6) Gj.nd) Cn)))))
    (Am (AQ (i:=7) Gj.nd (Cp Ae))
    (Am (AQ (i:=8) Gj.nd (Cp Ae))
    (Au (CB Cm rfl (ZI rfl B.b_enumerate (Ab (pv 6) Ae)) (Co (n:=2) rfl (AI (Ay (i:=9) Gj.nd) (AI (Ay (i:=10) Gj.nd) Cn))) (Am (AQ (i:=11) Gj.nd (A6 b8 (Ab (pv 0) (Ab (pv 1) (Ab (pv 2) (Ab (pv 4) (Ab (pv 5) Ae)))))))
     (Am (Df (Dj DI Ep Er Eu (pv 7) (Ab (A6 b9 (Ab (pv 0) (Ab (pv 2) (Ab (pv 11) (Ab (pv 10) Ae))))) Ae)))
     (Am (Eb (A6 bA (Ab (pv 0) (Ab (pv 1) (Ab (pv 2) (Ab (A6 bB (Ab (pv 0) (Ab (pv 1) (Ab (pv 2) (Ab (pv 11) Ae))))) (Ab (AE AF (pv 7) (Pk Pl Ai)) (Ab (pv 9) Ae))))))) (Co (n:=2) rfl (AI (Ay (i:=12) Gj.nd) (AI (Ay (i:=13) Gj.nd) Cn))))
     (Am (Bm (PW.pt (He (FZ (GN (pv 12))) (He (BJ Po (AE AF (pv 12) Ai) BZ (Bw _)) (Hd (BJ CC (pv 9) (AA Lj (BM DK B.b_len (Ab (pv 6) Ae)) Ai) (Bw _)))))) (Au (AX (Bs (Ab (pv 12) (Ab (pv 13) (Ab (pv 7) (Ab (pv 8) Ae))))))) Bo)
     (Am (Df (Dj DI Ep Er Eu (pv 8) (Ab (AE AF (pv 12) Ai) Ae)))
     (Am (Eb (A6 bC (Ab (pv 0) (Ab (pv 1) (Ab (AE AF (pv 12) Ai) Ae)))) (Co (n:=2) rfl (AI (Ay (i:=14) Gj.nd) (AI (Ay (i:=15) Gj.nd) Cn))))
     (Am (Bm (BJ CC (pv 14) BZ (Bw _)) (Au (AX (Bs (Ab Gu (Ab (Bs (Ab (pv 9) (Ab (Cp Ae) (Ab (pv 15) Ae)))) (Ab (pv 7) (Ab (pv 8) Ae))))))) Bo)
     (Am (Bm (BJ CC (pv 14) BZ (Bw _)) (Au (AX (Bs (Ab (Bs (Ab BZ (Ab (AA Hj (pv 9) Ai) Ae))) (Ab Gu (Ab (pv 7) (Ab (pv 8) Ae))))))) Bo)
     (Am (AQ (i:=4) Gj.nd (pv 15))
     (Au (AQ (i:=5) Gj.nd (AE AF (pv 2) Ai))))))))))))))))),?_⟩
   (try dsimp only[AG,Cx.nox,Cx.wish]);refine⟨_,Aq.of eq,rfl,?_⟩;refine⟨by decide,λL hL=>?_⟩;obtain⟨aQ,bF,s1,a2⟩:=new_at (o:=.lst []) hL;rw[<-bF];refine AO ?_;(try dsimp only);refine⟨by decide,λT hT=>?_⟩;have s2:=Bb (o:=.lst []) hT;have aT:(upd aQ T (.lst [])) T=some (.lst []):=Aa;have aU:=s2 _ _ a2;generalize upd aQ T (.lst [])=H2 at s2 aT aU ⊢;have aV:L≠T:=λz=>by rw[z,hT] at a2;cases a2
   have bG:H T=none:=s1.free hT;refine AO ?_;try dsimp only
   refine⟨a0,rfl,⟨_,Aq.of ((s1.trans s2) _ _ eu)⟩,ZJ (xs:=q.2.2.map V.str) (λi σ H'=>∃(C D:Int)(u9 aW aX aY aZ ba bb:Option V)(d:List V)(ls:List Lk)(l:List Int),σ=[some (.ref X),some (.ref A),some (.ref t),some (.ref aS),some (.int C),some (.int D),some (.ref a0),some (.ref L),some (.ref T),u9,aW,aX,aY,aZ,ba,bb]/\Ac H H'/\H' L=some (.lst d)/\H' T=some (.lst (l.map V.int))/\Ax (λx=>H x=none/\x≠L/\x≠T) H' d (ls.map Nc)/\d.length=i/\l.length=i/\i<q.2.2.length/\(0<=C/\C<W.ss.length)/\(0<=D/\D<W.sts.length)/\∀a w ak al,LU W Z aa C D (q.2.2.drop i) i a w ak al->LU W Z aa q.1 q.2.1 q.2.2 0 a w (ls++ak) (l++al))
    ⟨_,_,none,none,none,none,none,none,none,[],[],[],rfl,s1.trans s2,aU,aT,.nil,rfl,rfl,by omega,bD,bE,λa w ak al z=>z⟩ (λi σ H' bH=>by obtain⟨_,_,_,_,_,_,_,_,_,_,_,_,_,s,_⟩:=bH;exact Aq.of (s _ _ eu)) ?_ ?_⟩
   rotate_left;refine λσ H' a3=>AL λNz Q=>?_;obtain⟨_,_,_,_,_,_,_,_,_,_,_,_,_,_,_,_,_,_,_,hi,_⟩:=a3;refine Q ?_;clear Q;rw[Al] at hi;exact absurd hi (F7 _);refine λi xv Te σ H3 hx bI a3=>AL λNz Q=>?_;obtain⟨C,D,u9,aW,aX,aY,aZ,ba,bb,d,ls,l,rfl,s3,bJ,bK,bL,bM,bN,hi,R,S,ay⟩:=a3;refine Q ?_;clear Q;refine Gi ?_;intro Nx Cy;obtain⟨x,bO,rfl⟩:=getm hx;have ag:=S8 bO;obtain⟨H4,bP,s4,bQ⟩:=new_at (o:=.tup [.int i,.str x]) bI;rw[<-bP];have an:=s3.trans s4;have ao:=s4 _ _ bJ;have a4:=s4 _ _ bK;refine⟨_,Aq.of bQ,rfl,?_⟩;refine⟨X,A,t,W,C,D,rfl,hC.same an,ok,R,S,λaj g H5 hD s5 eD hz E=>?_⟩;refine AO ?_;(try dsimp only);have ab:=an.trans s5;have U:=s5 _ _ ao;have ah:=s5 _ _ a4;have E2:∀{Hn:Hp}{x:Addr},Ac H Hn->Hn L=some (.lst d)->Hn T=some (.lst (l.map V.int))->Hn x=none->H x=none/\x≠L/\x≠T:=λ{Hn x}s Y e2 h=>⟨s.free h,λz=>(by rw[z,Y] at h;cases h),λz=>(by rw[z,e2] at h;cases h)⟩;refine⟨Or.inl ⟨rfl,_,Af.of U⟩,X,A,t,aj,x,F,_,W,Z,aa,C,D,g,rfl,hC.same ab,TB.same ab,ok,sm,aR,irr,R,S,eD,hz,E,λr D2 P e u H6 s6 er a5 bc hw hF hP eP c bd=>?_⟩;have bR:=ab.trans s6;have be:=s6 _ _ U;have bS:=s6 _ _ ah;have v:Keeps (·=L) H6 (upd H6 L (.lst (d++[.ref r]))):=Keeps.one be;have aq:Ac H (upd H6 L (.lst (d++[.ref r]))):=λb o af=>by rw[AD (AH af hL)];exact bR _ _ af
   have a6:(upd H6 L (.lst (d++[.ref r]))) L=some (.lst (d++[.ref r])):=Aa;refine⟨_,be,BC (by omega),?_⟩;generalize upd H6 L (.lst (d++[.ref r]))=N at v aq a6 ⊢;have nD:aj≠L:=λz=>by rw[z,ao] at hD;cases hD
   have bT:D2≠L:=λz=>by rw[z,U] at a5;cases a5
   have nP:P≠L:=λz=>by rw[z,U] at hP;cases hP
   have bf:=v.at_ _ _ bS (Ne.symm aV);have a7:=v.tup er;have a8:=v.at_ _ _ (s6 _ _ eD) nD;have aK:=v.at_ _ _ bc bT;have a9:=v.at_ _ _ eP nP;have aA:∀z∈g,DL (λx=>H x=none/\x≠L/\x≠T) N z.1 z.2:=λz h=>(((hz z h).mono' λy o _ c=>E2 an ao a4 c.1).same s6).keeps v λy c=>c.2.1;have aB:∀z∈e,CQ (λx=>H x=none/\x≠L/\x≠T) N z.1 z.2:=λz h=>((hw z h).mono' λy o _ c=>E2 ab U ah c).keeps v λy c=>c.2.1;have aC:∀z∈u,CQ (λx=>H x=none/\x≠L/\x≠T) N z.1 z.2:=λz h=>((c z h).mono' λy o _ c=>E2 ab U ah c).keeps v λy c=>c.2.1;have bs:Ax (λx=>H x=none/\x≠L/\x≠T) N d (ls.map Nc):=(((bL.same s4).same s5).same s6).keeps v λy c=>c.2.1;have cq:=E;have bg:=E.few;rw[Al] at bg;refine⟨X,A,t,aj,_,W,g,rfl,hC.same aq,ok,a8,aA,λz bU=>((E.mem _).mp (Bn.mpr ⟨z,bU,rfl⟩)).ok ok R S,bg,sm.owd C D _ R S E,λb1 a1 H8 hO G eO ho bh=>?_⟩;have aD:=aq.trans G;have bi:=G _ _ a6;have bV:=G _ _ bf;have bj:∀z∈e,z.2∈DX W x (g.map (·.2)):=λz h=>hF.perm.mem_iff.mp (Bn.mpr ⟨z,h,rfl⟩)
   have lw:e.length<=100:=by
    have h1:=hF.perm.length_eq;have h2:=sm.fnd x C D _ R S E;rw[Al] at h1;omega
   have bk:∀z∈e,Dp W.ss z.2:=λz h=>S6 ok R S E (bj z h);have cb:∀{x:Addr},N x=none->H x=none/\x≠L/\x≠T:=λ{x}h=>⟨aq.free h,λz=>(by rw[z,a6] at h;cases h),λz=>(by rw[z,bf] at h;cases h)⟩;refine Or.inl ⟨_,.ref r,Af.of bi,SK _ _,X,A,t,b1,r,aj,D2,P,F,(λx=>H x=none/\x≠L/\x≠T),W,Z,aa,e,u,a1,(i:Int),rfl,hC.same aD,TB.same aD,sm,aR,irr,G _ _ a7,G _ _ aK,λz h=>(aB z h).same G,λz h=>SQ ok R S E (bj z h),lw,bk,G _ _ a9,λz h=>(aC z h).same G,bd,eO,λz h=>(ho z h).mono' λy o _ c=>cb c.1,λz h=>Zf ok R S E (bh.perm.mem_iff.mp (Bn.mpr ⟨z,h,rfl⟩)),λm a w I s9 bt hm=>?_⟩;have aE:=aD.trans s9;have bl:=s9 _ _ bi;have ar:=s9 _ _ bV;obtain⟨av,wv,b2,ha,bW⟩:=hm.two;have LK:CG W aa C D x (g.map (·.2),e.map (·.2),u.map (·.2)) (a1.map (·.2)):=⟨E,hF,bd,bh⟩
   have bm:A4 (λx=>H x=none/\x≠L/\x≠T) I (.ref r) (Nc (g.map (·.2),e.map (·.2),u.map (·.2))):=by
    have b3:=E2 an ao a4 hD;have b4:=E2 ab U ah a5;have b5:=E2 ab U ah hP
    have b6:Ax (λx=>H x=none/\x≠L/\x≠T) N (g.map λz=>V.ref z.1) ((g.map (·.2)).map DP.D):=by
     rw[DG];exact Ax.of_all λz h=>(aA z h).own
    have b7:Ax (λx=>H x=none/\x≠L/\x≠T) N (e.map λz=>V.ref z.1) ((e.map (·.2)).map CF.D):=by
     rw[DG];exact Ax.of_all λz h=>(aB z h).own
    have f3:Ax (λx=>H x=none/\x≠L/\x≠T) N (u.map λz=>V.ref z.1) ((u.map (·.2)).map CF.D):=by
     rw[DG];exact Ax.of_all λz h=>(aC z h).own
    exact((A4.tup a7 (.cons (.lst a8 b3 b6) (.cons (.lst aK b4 b7) (.cons (.lst a9 b5 f3) .nil)))).same G).same s9
   have bu:Ax (λx=>H x=none/\x≠L/\x≠T) I (d++[.ref r]) ((ls++[(g.map (·.2),e.map (·.2),u.map (·.2))]).map Nc):=by
    rw[Bk];exact((bs.same G).same s9).snoc bm
   clear aB aC aA bs bm hw c hz ho eD bc eP er a8 aK a9 a7 v;refine⟨_,Aq.of b2,rfl,?_⟩
   have au:((∀k,a≠some (("thing" : Str),k))\/q.2.2.drop (i+1)=[])->∀O,I O=none->aP (.ref O) (upd I O (.tup [av,wv,.ref L,.ref T])):=λcg O bX=>by
    have j:=Bb (o:=.tup [av,wv,.ref L,.ref T]) bX;refine qk O L T av wv (d++[.ref r]) a w _ l _ (aE.trans j) Aa hL (j _ _ bl) (j _ _ ar) ((ha.mono λ_ _ _ h=>h.1).same j) ((bW.mono λ_ _ _ h=>h.1).same j) ((bu.mono λ_ _ _ h=>⟨h.1,h.2.1⟩).same j) ?_;have:=ay a w [(g.map (·.2),e.map (·.2),u.map (·.2))] [] (by rw[ag];exact .stop LK bt cg);rw[FC] at this;exact this
   cases a with
   |none =>
     obtain rfl:=ha.ansN;exact⟨rfl,Ao (λ_=>C7 ⟨OV,au (.inl λk z=>(by cases z))⟩) (λh=>absurd (A5 rfl) h)⟩
   |some p =>
     obtain⟨pa,rfl,aF⟩:=ha.ansS;refine⟨rfl,Ao (λh=>absurd (Bi h) (by simp)) (λ_=>?_)⟩;refine Or.inr (Or.inl ⟨_,.str p.1,Aq.of aF,rfl,rfl,rfl,Ao (λh=>?_) (λh=>?_)⟩);refine C7 ⟨OV,au (.inl λk z=>?_)⟩;have:p.1=("thing" : Str):=BI Prod.fst (Bv z);rw[this] at h;simp at h
     have hp:p.1=("thing" : Str):=Classical.byContradiction λz=>h (by
      have:decide (V.str p.1=V.str "thing")=false:=DT λy=>z (V.str.inj y)
      rw[this];rfl)
     have az:Cb W aa (e.map (·.2)) (a1.map (·.2)) i=(some (("thing" : Str),p.2),w):=(by rw[bt,<-hp]);refine⟨_,Or.inr ⟨_,Aq.of (aE _ _ eu),rfl⟩,rfl,rfl,Ao (λh2=>?_) (λh2=>?_)⟩;have e2:(i:Int)=((q.2.2.map V.str).length:Nat)-1:=V.int.inj (Bi h2);rw[Al] at e2;exact⟨OV,au (.inr (List.drop_eq_nil_of_le (by omega)))⟩
     have bn:i+1<q.2.2.length:=by
      refine Classical.byContradiction λz=>h2 (A5 ?_);rw[Al];congr 1;omega
     clear au;have rng:=KQ ok sm (λck hv=>by obtain⟨z,h1,rfl⟩:=Bn.mp hv;exact bk z h1) az;obtain⟨n,hn⟩:=DH rng.1;have bo:n<W.gs.length:=(by omega);have hg:=AC bo;have aw:Keeps (·=T) I (upd I T (.lst (l.map V.int++[.int p.2]))):=Keeps.one ar;have j:Ac H (upd I T (.lst (l.map V.int++[.int p.2]))):=λb o af=>by rw[AD (AH af bG)];exact aE _ _ af
     have bv:(upd I T (.lst (l.map V.int++[.int p.2]))) T=some (.lst ((l++[p.2]).map V.int)):=by rw[Aa,Bk];rfl
     refine⟨Or.inl ⟨rfl,_,Af.of ar⟩,Or.inr (Or.inl ⟨_,.int p.2,Aq.of aF,rfl,_,ar,by rw[Al];exact BC (by omega),?_⟩)⟩;generalize upd I T (.lst (l.map V.int++[.int p.2]))=cs at aw j bv ⊢;have cc:=aw.at_ _ _ bl aV;have ch:=aw.tup aF;have cj:=bu.keeps aw λy c=>c.2.2;have cd:=hC.same j;refine Or.inr (Or.inl ⟨_,.int p.2,Aq.of ch,rfl,X,bz,Tn,b0,A,W.gs,W.as,p.2,n,W.gs[n],rfl,hn,hg,Aq.of (j _ _ eN),⟨_,Af.of (j _ _ N3.et),(N3.tg.same j).dts⟩,cd.ans,ok.net,λb ct hb ax eb=>?_⟩);have ai:=j.trans ax;have aL:=ax _ _ cc;have aM:=ax _ _ bv;have aO:=cj.same ax
     have ei:CH W p.2=Dl W.gs W.as W.gs[n]:=by
      show(match W.gs[p.2.toNat]? with|some p=>Dl W.gs W.as p|none=>("no",0))=_
      rw[hn,Bl,hg]
     obtain⟨y2,O,bw⟩:∃y2 O,q.2.2.drop (i+1)=y2::O:=⟨_,_,MO bn⟩;rw[bw] at ag;refine⟨_,Aq.of eb,rfl,?_⟩;generalize bp:Dl W.gs W.as W.gs[n]=J at *;refine⟨rfl,rfl,Ao (λh3=>?_) (λh3=>?_)⟩
     have e3:J.1=("open" : Str):=V.str.inj (Bi h3);refine⟨by decide,λe0 bq=>?_⟩;obtain⟨bY,aN,aG,bZ⟩:=new_at (o:=.lst []) bq;rw[<-aN];refine⟨Jz,λY aH=>?_⟩;obtain⟨cu,cf,br,aI⟩:=new_at (o:=.tup [.int i,.ref e0,.int J.2]) aH;rw[<-cf];refine⟨OV,λr3 aJ=>?_⟩;have ae:=Bb (o:=.tup [.non,.ref Y,.ref L,.ref T]) aJ;have M:=(aG.trans br).trans ae;refine qk r3 L T .non (.ref Y) (d++[.ref r]) none (some ((i:Int),[],J.2)) _ _ _ (ai.trans M) Aa hL (M _ _ aL) (M _ _ aM) .non (.tup (ae _ _ aI) (.cons (.int _) (.cons (.lst ((br.trans ae) _ _ bZ) (ai.free bq) .nil) (.cons (.int _) .nil)))) ((aO.mono λ_ _ _ h=>⟨h.1,h.2.1⟩).same M) ?_;exact ay none (some ((i:Int),[],J.2)) [(g.map (·.2),e.map (·.2),u.map (·.2))] [p.2] (by rw[ag];exact .opn LK az (ei.trans (Prod.ext e3 rfl)));have e3:J.1≠("open" : Str):=λz=>h3 (A5 (by rw[z]));refine⟨rfl,rfl,Ao (λh4=>?_) (λh4=>?_)⟩;have e4:J.1=("no" : Str):=V.str.inj (Bi h4);refine⟨B7,λY aH=>?_⟩;obtain⟨bY,aN,aG,aI⟩:=new_at (o:=.tup [.str "none",.int ((i:Int)+1)]) aH;rw[<-aN];refine⟨OV,λr3 aJ=>?_⟩;have ae:=Bb (o:=.tup [.ref Y,.non,.ref L,.ref T]) aJ;have M:=aG.trans ae;refine qk r3 L T (.ref Y) .non (d++[.ref r]) (some (("none" : Str),(i:Int)+1)) none _ _ _ (ai.trans M) Aa hL (M _ _ aL) (M _ _ aM) (.tup (ae _ _ aI) (.cons (.str _) (.cons (.int _) .nil))) .non ((aO.mono λ_ _ _ h=>⟨h.1,h.2.1⟩).same M) ?_;exact ay (some (("none" : Str),(i:Int)+1)) none [(g.map (·.2),e.map (·.2),u.map (·.2))] [p.2] (by rw[ag];exact .no LK az (ei.trans (Prod.ext e4 rfl)));have e4:J.1≠("no" : Str):=λz=>h4 (A5 (by rw[z]))
     have e5:J.1=("to" : Str):=by
      have:=ZW W.gs W.as W.gs[n];rw[bp] at this;rcases this with h|h|h;exact h;exact absurd h e3;exact absurd h e4
     have rg:=SJ ok (D9 bo) bp e5;refine AL λNz Q=>?_;obtain⟨ta,o,cv,cw,et,_⟩:=TB.ex;refine Q ?_;clear Q;refine AO ?_;(try dsimp only);refine Or.inr (Or.inl ⟨_,.int Z,Aq.of (ai _ _ et),rfl,?_⟩);refine⟨J.2,Z,_,_,_,_,_,_,_,d++[.ref r],ls++[(g.map (·.2),e.map (·.2),u.map (·.2))],l++[p.2],rfl,ai,aL,aM,aO,by simp[bM],by simp[bN],bn,rg,ca,λa w ak al z=>?_⟩;rw[FX,FX];refine ay a w _ _ ?_;rw[ag];rw[bw] at z;exact .go LK az (ei.trans (Prod.ext e5 rfl)) z
inductive Fg (K:Ah) (vs:List V) (H:Hp) (Q:VK):Prop where
 |mk (nt A t:Addr) (W:Wd) (n:Int) (h0:vs=[.ref nt,.int n]) (h1:Bq K H nt A t W) (h2:(0<=n/\n<W.gs.length)) (h3:∀(D:Addr)(H':Hp),H D=none->Ac H H'->H' D=some (.lst ((E9 W.gs n).map V.int))->Q (.ref D) H'):Fg K vs H Q
def iJ (K:Ah):Sp:=λvs H Q _=>Fg K vs H Q
variable (P w K mg base) in
abbrev QO:Prop:=BG P w K mg base "of_sort" 1 ["net", "thing"] (iJ K)
theorem iK(B:BH mg)(F:Br K "of_sort" "of_sort" Rq f fd)(b:mg "of_sort" = some (.ref f)):QO P w K mg base:=by
 refine B1 F b TM (λr H Q E h=>?_) (λL A M s H r Q E C h=>?_);obtain⟨u,A,t,W,n,rfl,_⟩:=h;rfl;obtain⟨u,A,t,W,n,rfl,v,x,q⟩:=h;obtain⟨S,T,R,us,G,I,c,J,qs,y,d⟩:=v.net;obtain⟨m,b⟩:=DH x.1;have j:m<W.gs.length:=(by omega);have o:m<c.length:=by rw[d.tg.len];exact j
 have k:W.gs[n.toNat]?=some W.gs[m]:=by rw[b,Bl];exact AC j
 have g:=d.tg.at_ m _ _ (AC o) (AC j);have l:Bt (c.map V.ref) n=some (.ref c[m]):=by rw[b];exact BN (by rw[Bh,AC o];rfl)
 generalize W.gs[m]=p at k g;generalize c[m]=z at l g
 have eq:E9 W.gs n=if p.1=("sort" : Str) then[p.2] else[]:=by unfold E9;rw[k]
 refine⟨_,(Am (Eb (AE AF (AE AF (pv 0) Ai) (pv 1)) (Co (n:=2) rfl (AI (Ay (i:=2) TM.nd) (AI (Ay (i:=3) TM.nd) Cn))))
  (Am (Bm (BJ CC (pv 2) BZ (Bw _)) (Au (AX (Cp (Ab (pv 3) Ae)))) Bo)
  (Au (AX (Cp Ae))))),?_⟩
 (try dsimp only[AG,Cx.nox,Cx.wish]);refine Or.inr (Or.inl ⟨_,.ref T,Aq.of y,rfl,Or.inl ⟨_,.ref z,Af.of d.et,l,?_⟩⟩);refine⟨_,Aq.of g,rfl,?_⟩;refine⟨rfl,rfl,Ao (λh=>?_) (λh=>?_)⟩;have e:p.1=("sort" : Str):=V.str.inj (Bi h);refine⟨HC,λD a=>q D _ a (Bb a) ?_⟩;rw[Aa,eq,Ak e];rfl;have e:p.1≠("sort" : Str):=λe=>h (A5 (by rw[e]));refine⟨by decide,λD a=>q D _ a (Bb a) ?_⟩;rw[Aa,eq,Aj e];rfl
inductive D8 (K:Ah) (vs:List V) (H:Hp) (Q:VK):Prop where
 |mk (nt A t:Addr) (W:Wd) (v:V) (o:Option (Str×Int)) (h0:vs=[.ref nt,v]) (h1:Bq K H nt A t W) (h2:((o=none/\v=.non)\/∃p ta,o=some p/\v=.ref ta/\Aq K H ta [.str p.1,.int p.2])) (h3:(∀p,o=some p->p.1=("thing" : Str)->0<=p.2/\p.2<W.gs.length)) (h4:∀(D:Addr)(H':Hp),H D=none->Ac H H'->H' D=some (.lst ((qA W.gs o).map V.int))->Q (.ref D) H'):D8 K vs H Q
def iL (K:Ah):Sp:=λvs H Q _=>D8 K vs H Q
variable (P w K mg base) in
abbrev Ut:Prop:=BG P w K mg base "of_answer" 2 ["net", "answer"] (iL K)
theorem iM(B:BH mg)(n:QO P w K mg base)(F:Br K "of_answer" "of_answer" Rr f fd)(i:mg "of_answer" = some (.ref f)):Ut P w K mg base:=by
 refine B1 F i eA (λj H Q E h=>?_) (λC A G s H j Q E u h=>?_);obtain⟨b,A,t,W,v,o,rfl,_⟩:=h;rfl;obtain⟨b,A,t,W,v,o,rfl,k,l,r,q⟩:=h;have d:qA W.gs o=[]->∀D,H D=none->Q (.ref D) (upd H D (.lst [])):=λe D a=>q D _ a (Bb a) (by rw[Aa,e];rfl)
 refine⟨_,(Am (Bm (PW.pt (He (FZ (GN (pv 1))) (Hd (BJ Po (AE AF (pv 1) Ai) BZ (Bw _))))) (Au (AX (Cp Ae))) Bo)
  (Au (AX (A6 n (Ab (pv 0) (Ab (AE AF (pv 1) Ai) Ae)))))),?_⟩
 (try dsimp only[AG,Cx.nox,Cx.wish]);rcases l with⟨rfl,rfl⟩|⟨p,x,rfl,rfl,g⟩;exact⟨rfl,Ao (λ_=>C7 ⟨by decide,d rfl⟩) (λh=>absurd (A5 rfl) h)⟩;refine⟨rfl,Ao (λh=>absurd (Bi h) (by simp)) (λ_=>?_)⟩;refine Or.inr (Or.inl ⟨_,.str p.1,g,rfl,rfl,rfl,Ao (λh=>?_) (λh=>?_)⟩);refine⟨by decide,d ?_⟩;refine Aj λe=>?_;rw[e] at h;simp at h
 have c:p.1=("thing" : Str):=Classical.byContradiction λz=>h (by
  have:decide (V.str p.1=V.str "thing")=false:=DT λy=>z (V.str.inj y)
  rw[this];rfl)
 refine Or.inr (Or.inl ⟨_,.int p.2,g,rfl,b,A,t,W,p.2,rfl,k,r p rfl c,λD m a s e=>q D m a s ?_⟩);rw[e]
 show some (HO.lst ((E9 W.gs p.2).map V.int))=some (HO.lst ((if p.1=("thing" : Str) then E9 W.gs p.2 else[]).map V.int))
 rw[Ak c]
theorem iN{k:Nat}{s:Bj}(h:W.ss[k]?=some s):B0 W (k:Int)=s.1:=by unfold B0;rw[Bl,h]
theorem Km{k:Nat}(h:W.sts[k]?=some s):DW W (k:Int)=s.1:=by unfold DW;rw[Bl,h]
inductive EE (K:Ah) (vs:List V) (H:Hp) (Q:VK):Prop where
 |mk (nt A t:Addr) (W:Wd) (v:V) (F:Addr->Prop) (bs:List AR) (h0:vs=[.ref nt,.ref A,.ref t,v]) (h1:Bq K H nt A t W) (h2:B3 W) (h3:A4 F H v (.lst (bs.map DP.D))) (h4:(∀b∈bs,B9 W b)) (h5:(bs.flatMap (Bu W)).length<=4000) (h6:∀(D:Addr)(H':Hp),H D=none->Ac H H'->H' D=some (.lst ((bs.flatMap (Bu W)).map V.int))->Q (.ref D) H'):EE K vs H Q
def iO (K:Ah):Sp:=λvs H Q _=>EE K vs H Q
variable (P w K mg base) in
abbrev Uu:Prop:=BG P w K mg base "of_steps" 3 ["net", "answers", "table", "begun"] (iO K)
theorem iP(B:BH mg)(a8:QI P w K mg base)(a9:Ut P w K mg base)(F:Br K "of_steps" "of_steps" Rs f fd)(C:mg "of_steps" = some (.ref f)):Uu P w K mg base:=by
 refine B1 F C KR (λvs H a0 a1 h=>?_) (λaW A aZ s H vs a0 a1 hr h=>?_);obtain⟨J,A,t,W,a2,F,bs,rfl,_⟩:=h;rfl
 . obtain⟨J,A,t,W,a2,F,bs,rfl,L,ok,hv,aA,hl,a3⟩:=h
   obtain⟨a4,aR,aS,us,Gs,Es,ts,qt,qs,eN,N3⟩:=L.net;obtain⟨a,o,aB,b1,a5,b2,b3⟩:=L.tab;obtain⟨P,bv,rfl,eP,hb⟩:=Ts hv
   refine⟨_,(Am (AQ (i:=4) KR.nd (Cp Ae))
    (Am (CB Cm rfl (C6 (pv 3)) (Co (n:=3) rfl (AI (Ay (i:=5) KR.nd) (AI (Ay (i:=6) KR.nd) (AI (Ay (i:=7) KR.nd) Cn)))) (Au (CB Cm rfl (C6 (AE AF (AE AF (AE AF (pv 0) Ai) (pv 6)) Ai)) (Co (n:=3) rfl (AI (Ay (i:=8) KR.nd) (AI (Ay (i:=9) KR.nd) (AI (Ay (i:=10) KR.nd) Cn)))) (Au (Bm (PW.pt (Gw (BJ CC (pv 9) BZ (Bw _)) (Gv (FZ (MW (A6 a8 (Ab (pv 2) (Ab (pv 7) (Ab (pv 8) Ae))))))))) (Am (Df (Dj DI Ep Er Eu (pv 4) (Ab (pv 10) Ae)))
          (Au (Df (Dj DI PySem.F.slot_list_extend PySem.F.type_list_extend N7 (pv 4) (Ab (A6 a9 (Ab (pv 0) (Ab (AE AF (pv 1) (pv 10)) Ae))) Ae))))) Bo)))))
    (Au (AX (pv 4))))),?_⟩
   (try dsimp only[AG,Cx.nox,Cx.wish]);refine⟨by decide,λD M=>?_⟩;obtain⟨aT,aC,s1,aD⟩:=new_at (o:=.lst []) M;rw[<-aC]
   refine⟨⟨_,Af.of (s1 _ _ eP)⟩,EM (xs:=bv) (λi σ q=>∃S T U r u v,σ=[some (.ref J),some (.ref A),some (.ref t),some (.ref P),some (.ref D),S,T,U,r,u,v]/\Ac H q/\q D=some (.lst (((bs.take i).flatMap (Bu W)).map V.int)))
    ⟨none,none,none,none,none,none,rfl,s1,by rw[aD,Eo];rfl⟩ (λi σ q _ aa=>by obtain⟨_,_,_,_,_,_,_,s,_⟩:=aa;exact Af.of (s _ _ eP)) ?_ ?_⟩
   rotate_left;refine λσ H2 y=>AL λN c=>?_;obtain⟨S,T,U,r,u,v,rfl,g,O⟩:=y;refine c ?_;clear c;rw[hb.length,Al,Ei] at O;exact a3 D _ M g O;refine λi x σ H2 hx y=>AL λN c=>?_;obtain⟨S,T,U,r,u,v,rfl,g,O⟩:=y;refine c ?_;clear c;refine Gi ?_;intro Nx Cy;obtain⟨b,ak,aE⟩:=Ic (hb.same g) hx;have al:=aA b (Bd ak);obtain⟨tb,x0,rfl,aF⟩:=Mh aE;have aG:=al.rng b.2.1 (by unfold AU;simp);have aH:=al.st;obtain⟨n,hn⟩:=DH aG.1;obtain⟨k,hk⟩:=DH aH.1;have an:n<W.ss.length:=(by omega);have aI:k<W.sts.length:=(by omega);refine AL λN c=>?_;obtain⟨ah,a6,E1,a7,aU,aV,g4,⟨c0,⟨tG,c1,X⟩,_⟩⟩:=N3.sc.get an;refine c ?_;clear c;have ao:=AC aI;have Y:B0 W b.2.1=W.ss[n].1:=by rw[hn];exact iN g4
   have eG:DW W b.2.2=W.sts[k].1:=by rw[hk];exact Km ao
   have aJ:Bt (us.map V.ref) b.2.1=some (.ref ah):=by rw[hn];exact BN (by rw[Bh,a7];rfl)
   have aq:=OA (f:=Bu W) ak;have aP:=OB (f:=Bu W) (l:=bs) (i+1);rw[aq,AV] at aP;refine⟨_,Aq.of aF,rfl,?_⟩;refine Or.inr (Or.inl ⟨_,.ref a4,Aq.of (g _ _ eN),rfl,Or.inl ⟨_,.ref ah,Af.of (g _ _ N3.sc.top),aJ,Or.inr (Or.inl ⟨_,.ref a6,Aq.of (g _ _ c0),rfl,⟨_,Af.of (g _ _ c1)⟩,?_⟩)⟩⟩)
   refine EM (xs:=tG.map V.ref) (λj σ q=>∃r u v,σ=[some (.ref J),some (.ref A),some (.ref t),some (.ref P),some (.ref D),some x0,some (.int b.2.1),some (.int b.2.2),r,u,v]/\Ac H q/\q D=some (.lst (((bs.take i).flatMap (Bu W)++((B0 W b.2.1).take j).flatMap (FQ W b.2.2)).map V.int)))
    ⟨_,_,_,rfl,g,by rw[O,Eo];simp⟩ (λj σ q _ aa=>by obtain⟨_,_,_,_,s,_⟩:=aa;exact Af.of (s _ _ c1)) ?_ ?_
   rotate_left;refine λσ E y=>AL λN c=>?_;obtain⟨r,u,v,rfl,d,I⟩:=y;refine c ?_;clear c;refine⟨_,_,_,_,_,_,rfl,d,?_⟩;rw[I,aq,Al,X.len,Y,Ei,<-Y];rfl;refine λj ai σ E hy y=>AL λN c=>?_;obtain⟨r,u,v,rfl,d,I⟩:=y;refine c ?_;clear c;refine Gi ?_;intro Nx Cy;obtain⟨tp,ar,rfl⟩:=getm hy;have au:j<W.ss[n].1.length:=by rw[<-X.len];exact(A9.mp ar).1
   have Z:=AC au;have aw:=X.at_ j tp _ ar Z;have mp:=D9 au;generalize W.ss[n].1[j]=p at Z aw mp;have ab:=OA (f:=FQ W b.2.2) (show(B0 W b.2.1)[j]?=some p by rw[Y];exact Z);have ae:=OB (f:=FQ W b.2.2) (l:=B0 W b.2.1) (j+1);rw[ab,AV] at ae;have aX:(Bu W b).length=((B0 W b.2.1).flatMap (FQ W b.2.2)).length:=rfl
   have skip:¬(p.2.1=("by" : Str)/\(Em (DW W b.2.2) p.1).isSome=true)->E D=some (.lst (((bs.take i).flatMap (Bu W)++((B0 W b.2.1).take (j+1)).flatMap (FQ W b.2.2)).map V.int)):=λaK=>by
    have:FQ W b.2.2 p=[]:=Aj aK;rw[I,ab,this,FC]
   refine⟨_,Aq.of (d _ _ aw),rfl,?_⟩;refine⟨rfl,rfl,Ao (λz=>?_) (λz=>Bg ?_)⟩;rotate_left;exact⟨_,_,_,rfl,d,skip λh=>z (A5 (by rw[h.1]))⟩;have z:p.2.1=("by" : Str):=V.str.inj (Bi z);refine⟨t,a,o,aB,W.sts,b.2.2,k,_,p.1,rfl,hk,d.seqT b1,⟨a5,d.seq b2,b3.same d⟩,ao,?_⟩;rw[<-eG]
   cases eg:Em (DW W b.2.2) p.1 with
   |none =>
     refine⟨rfl,Ao (λh=>absurd h (by simp[Ee])) (λ_=>?_)⟩;exact⟨_,_,_,rfl,d,skip λh=>by rw[eg] at h;cases h.2⟩
   |some af =>
     refine⟨rfl,Ao (λ_=>?_) (λh=>absurd (by simp[Ee]) h)⟩;have ax:FQ W b.2.2 p=p.2.2::Fz W.gs W.as p.2.2:=Ak ⟨z,by rw[eg];rfl⟩;have aL:=ok.by_ (D9 an) mp λaj=>by rw[z] at aj;exact absurd aj (by decide +kernel)
     obtain⟨m,C⟩:=DH aL.1;have Q:m<W.as.length:=(by omega);have ay:=J3 (gs:=W.gs) (AC Q);rw[ax,Ek] at ae;have R:Ac H (upd E D (.lst (((bs.take i).flatMap (Bu W)++((B0 W b.2.1).take j).flatMap (FQ W b.2.2)).map V.int++[.int p.2.2]))):=λai o e=>by rw[AD (AH e M)];exact d _ _ e
     have ag:(upd E D (.lst (((bs.take i).flatMap (Bu W)++((B0 W b.2.1).take j).flatMap (FQ W b.2.2)).map V.int++[.int p.2.2]))) D=some (.lst (((bs.take i).flatMap (Bu W)++((B0 W b.2.1).take j).flatMap (FQ W b.2.2)).map V.int++[.int p.2.2])):=Aa;refine⟨Or.inl ⟨rfl,_,Af.of I⟩,_,I,by rw[Al,AV];exact Mi (by omega),?_⟩;generalize upd E D (.lst (((bs.take i).flatMap (Bu W)++((B0 W b.2.1).take j).flatMap (FQ W b.2.2)).map V.int++[.int p.2.2]))=H4 at R ag ⊢;obtain⟨az,av,aM,aN,hc⟩:=(L.same R).ans.get Q;have aQ:Bt az p.2.2=some av:=by rw[C];exact BN aN
     refine⟨Or.inl ⟨rfl,_,Af.of ag⟩,Or.inl ⟨az,av,aM,aQ,J,A,t,W,av,W.as[m],rfl,L.same R,?_,λpp e G=>ok.net.t pp (by rw[<-e];exact D9 Q) G,λD2 H5 aY s5 aO=>?_⟩⟩;rw[AC Q] at hc;rcases hc with⟨e1,G⟩|⟨pp,ta,e1,G,e3⟩;exact .inl ⟨Bv e1,G⟩;exact .inr ⟨pp,ta,Bv e1,G,e3⟩;refine⟨D,D2,_,_,rfl,rfl,s5 _ _ ag,aO,?_,?_⟩;have:=Mj W.gs W.as[m];rw[C,ay] at ae;rw[AV,Al,Al,AV,Dh];exact Di (Mi (by omega));refine⟨_,_,_,rfl,λai o e=>?_,?_⟩;rw[AD (AH e M)];exact s5 _ _ (R _ _ e);rw[Aa,ab,ax,C,ay]
     simp
inductive C5 (K:Ah) (vs:List V) (H:Hp) (Q:VK):Prop where
 |mk (nt A t:Addr) (W:Wd) (v:V) (F:Addr->Prop) (ws:List (List Ap)) (h0:vs=[.ref nt,v]) (h1:Bq K H nt A t W) (h2:A4 F H v (.lst (ws.map CF.D))) (h3:(∀w∈ws,Dp W.ss w)) (h4:(ws.flatMap (Fa W.ss)).length<=4000) (h5:∀(D:Addr)(H':Hp),H D=none->Ac H H'->H' D=some (.lst ((ws.flatMap (Fa W.ss)).map V.int))->Q (.ref D) H'):C5 K vs H Q
def iQ (K:Ah):Sp:=λvs H Q _=>C5 K vs H Q
variable (P w K mg base) in
abbrev Uv:Prop:=BG P w K mg base "of_tellings" 2 ["net", "found"] (iQ K)
theorem iR(B:BH mg)(ab:OU P w K mg base)(F:Br K "of_tellings" "of_tellings" Rt f fd)(hm:mg "of_tellings" = some (.ref f)):Uv P w K mg base:=by
 refine B1 F hm Mt (λvs H Q E h=>?_) (λai A ak s H vs Q E hr h=>?_);obtain⟨g,A,t,W,v,F,j,rfl,_⟩:=h;rfl
 . obtain⟨g,A,t,W,v,F,j,rfl,hC,hv,he,hl,q⟩:=h
   obtain⟨S,T,R,us,Gs,Es,ts,qt,qs,eN,N3⟩:=hC.net;obtain⟨P,wv,rfl,J,L⟩:=Ts hv
   refine⟨_,(Am (AQ (i:=2) Mt.nd (Cp Ae))
    (Am (CB Cm rfl (C6 (pv 1)) (Ay (i:=3) Mt.nd) (Am (Eb (A6 ab (Ab (pv 0) (Ab (AE AF (pv 3) (Pk Pl Ai)) Ae))) (Co (n:=4) rfl (AI (Ay (i:=4) Mt.nd) (AI (Ay (i:=5) Mt.nd) (AI (Ay (i:=6) Mt.nd) (AI (Ay (i:=7) Mt.nd) Cn))))))
     (Au (Bm (BJ CC (pv 6) BZ (Bw _)) (Au (Df (Dj DI Ep Er Eu (pv 2) (Ab (pv 7) Ae)))) Bo))))
    (Au (AX (pv 2))))),?_⟩
   (try dsimp only[AG,Cx.nox,Cx.wish]);refine⟨by decide,λD k=>?_⟩;obtain⟨ah,ae,M,af⟩:=new_at (o:=.lst []) k;rw[<-ae]
   refine⟨⟨_,Af.of (M _ _ J)⟩,EM (xs:=wv) (λi σ p=>∃r u y z C,σ=[some (.ref g),some (.ref P),some (.ref D),r,u,y,z,C]/\Ac H p/\p D=some (.lst (((j.take i).flatMap (Fa W.ss)).map V.int)))
    ⟨none,none,none,none,none,rfl,M,by rw[af,Eo];rfl⟩ (λi σ p _ ag=>by obtain⟨_,_,_,_,_,_,s,_⟩:=ag;exact Af.of (s _ _ J)) ?_ ?_⟩
   rotate_left;refine λσ H2 I=>AL λN a=>?_;obtain⟨r,u,y,z,C,rfl,c,d⟩:=I;refine a ?_;clear a;rw[L.length,Al,Ei] at d;exact q D _ k c d;refine λi x σ H2 hx I=>AL λN a=>?_;obtain⟨r,u,y,z,C,rfl,c,d⟩:=I;refine a ?_;clear a;obtain⟨w,O,U⟩:=Ic (L.same c) hx;have ew:=he w (Bd O);obtain⟨vv,m,X,mo,aa⟩:=ew;rw[X] at U;refine AL λN a=>?_;obtain⟨l,ms,mk,rfl,l1,l2,l3⟩:=J4 U;refine a ?_;clear a;have et:KP W.ss m=Cq W.ss w:=(by rw[X,P8]);have aj:=OB (f:=Fa W.ss) (l:=j) i;have Y:=OA (f:=Fa W.ss) O;refine Or.inl ⟨_,.ref mk,Af.of l1,l2,g,S,T,R,mk,us,Gs,Es,W.ss,m,rfl,Aq.of (c _ _ eN),N3.sc.same c,Aq.of l3,mo,aa,λtp Z=>?_⟩;rw[et] at Z;refine⟨_,Aq.of Z,rfl,?_⟩;refine⟨rfl,rfl,Ao (λh=>?_) (λh=>?_)⟩;have G:(Cq W.ss w).2.2.1=("by" : Str):=V.str.inj (Bi h);refine⟨Or.inl ⟨rfl,_,Af.of d⟩,_,d,by rw[Al];exact Mi (by omega),?_⟩;refine⟨_,_,_,_,_,rfl,λb o e=>?_,?_⟩;rw[AD (AH e k)];exact c _ _ e;rw[Aa,Y,Bk];unfold Fa;rw[Ak G];rfl;have G:(Cq W.ss w).2.2.1≠("by" : Str):=λe=>h (A5 (by rw[e]));refine⟨_,_,_,_,_,rfl,c,?_⟩;rw[d,Y];have:Fa W.ss w=[]:=Aj G;rw[this,FC]
inductive CN (K:Ah) (vs:List V) (H:Hp) (Q:VK):Prop where
 |mk (nt A t L T:Addr) (F:Addr->Prop) (W:Wd) (lv:List V) (ls:List Lk) (ts:List Int) (h0:vs=[.ref nt,.ref A,.ref t,.ref L,.ref T]) (h1:Bq K H nt A t W) (h2:B3 W) (h3:H L=some (.lst lv)) (h4:Ax F H lv (ls.map Nc)) (h5:(∀l∈ls,Ie W l)) (h6:H T=some (.lst (ts.map V.int))) (h7:(∀n∈ts,0<=n/\n<W.gs.length)) (h8:(CI W ls ts).length<=4000) (h9:(∀q∈CI W ls ts,0<=q/\q<((40:Nat):Int))) (h10:∀(D:Addr)(us:List Int)(H':Hp),H D=none->Ac H H'->H' D=some (.lst (us.map V.int))->(∀q,q∈us↔q∈CI W ls ts)->us.length<=40->Q (.ref D) H'):CN K vs H Q
def iS (K:Ah):Sp:=λvs H Q _=>CN K vs H Q
variable (P w K mg base) in
abbrev Uw:Prop:=BG P w K mg base "questions_of" 4 ["net", "answers", "table", "looks", "things"] (iS K)
theorem iT(B:BH mg)(ar:Uu P w K mg base)(au:Uv P w K mg base)(av:QO P w K mg base)(F:Br K "questions_of" "questions_of" Ru f fd)(E:mg "questions_of" = some (.ref f)):Uw P w K mg base:=by
 refine B1 F E Nl (λvs H ak al h=>?_) (λa6 A aA s H vs ak al hr h=>?_);obtain⟨k,A,t,L,T,F,W,lv,ls,m,rfl,_⟩:=h;rfl;obtain⟨k,A,t,L,T,F,W,lv,ls,m,rfl,Q,ok,eL,U,aw,eT,ax,O,ae,an⟩:=h;have a7:(ls.flatMap (FF W)).length<=4000:=by unfold CI at O;rw[AV] at O;omega
 refine⟨_,(Am (AQ (i:=5) Nl.nd (Cp Ae))
  (Am (CB Cm rfl (C6 (pv 3)) (Co (n:=3) rfl (AI (Ay (i:=6) Nl.nd) (AI (Ay (i:=7) Nl.nd) (AI (Ay (i:=8) Nl.nd) Cn)))) (Am (Df (Dj DI PySem.F.slot_list_extend PySem.F.type_list_extend N7 (pv 5) (Ab (A6 ar (Ab (pv 0) (Ab (pv 1) (Ab (pv 2) (Ab (pv 6) Ae))))) Ae)))
   (Au (Df (Dj DI PySem.F.slot_list_extend PySem.F.type_list_extend N7 (pv 5) (Ab (A6 au (Ab (pv 0) (Ab (pv 7) Ae))) Ae))))))
  (Am (CB Cm rfl (C6 (pv 4)) (Ay (i:=9) Nl.nd) (Au (Df (Dj DI PySem.F.slot_list_extend PySem.F.type_list_extend N7 (pv 5) (Ab (A6 av (Ab (pv 0) (Ab (pv 9) Ae))) Ae)))))
  (Au (AX (BM (dH rfl) B.b_sorted (Ab (G1 (dG rfl) B.b_set (Ab (pv 5) Ae)) Ae))))))),?_⟩
 (try dsimp only[AG,Cx.nox,Cx.wish]);refine⟨by decide,λD hD=>?_⟩;obtain⟨a5,ay,s1,az⟩:=new_at (o:=.lst []) hD;rw[<-ay];have R:∀{c:Hp}{zs:List V},Ac H c->Ac H (upd c D (.lst zs)):=λs b o ab=>by rw[AD (AH ab hD)];exact s _ _ ab
 refine⟨⟨_,Af.of (s1 _ _ eL)⟩,EM (xs:=lv) (λi σ c=>∃G I J p,σ=[some (.ref k),some (.ref A),some (.ref t),some (.ref L),some (.ref T),some (.ref D),G,I,J,p]/\Ac H c/\c D=some (.lst (((ls.take i).flatMap (FF W)).map V.int)))
  ⟨none,none,none,none,rfl,s1,by rw[az,Eo];rfl⟩ (λi σ c _ X=>by obtain⟨_,_,_,_,_,s,_⟩:=X;exact Af.of (s _ _ eL)) ?_ ?_⟩
 refine λi x σ H2 M Y=>AL λNz e=>?_;obtain⟨G,I,J,p,rfl,q,u⟩:=Y;refine e ?_;clear e;obtain⟨l,Z,a0⟩:=Ic (U.same q) M;have af:=aw l (Bd Z);refine AL λNz e=>?_;obtain⟨ao,x1,x2,x3,rfl,er,h1,h2,_⟩:=Ql a0;refine e ?_;clear e;have z:=OA (f:=FF W) Z;have aa:=OB (f:=FF W) (l:=ls) (i+1);rw[z,AV] at aa;have hq:(FF W l).length=(l.1.flatMap (Bu W)).length+(l.2.1.flatMap (Fa W.ss)).length:=by unfold FF;rw[AV]
 refine⟨_,Aq.of er,rfl,?_⟩;refine⟨Or.inl ⟨rfl,_,Af.of u⟩,k,A,t,W,x1,F,l.1,rfl,Q.same q,ok,h1,af.bo,by omega,λv r N d j=>?_⟩;refine⟨D,v,_,_,rfl,rfl,d _ _ u,j,by rw[Al,Al];exact Di (Mi (by omega)),?_⟩;have g:=R (zs:=((ls.take i).flatMap (FF W)).map V.int++(l.1.flatMap (Bu W)).map V.int) (q.trans d);have C:(upd r D (.lst (((ls.take i).flatMap (FF W)).map V.int++(l.1.flatMap (Bu W)).map V.int))) D=some (.lst (((ls.take i).flatMap (FF W)).map V.int++(l.1.flatMap (Bu W)).map V.int)):=Aa
 have ag:A4 F (upd r D (.lst (((ls.take i).flatMap (FF W)).map V.int++(l.1.flatMap (Bu W)).map V.int))) x2 (.lst (l.2.1.map CF.D)):=by
  obtain⟨r',y1,y2,y3,e',ah,_,a1,_⟩:=Ql ((Ic (U.same g) M).elim λl' h=>by
   have:l'=l:=Bv (h.1.symm.trans Z)
   rw[this] at h;exact h.2)
  have:ao=r':=V.ref.inj e';subst this;have a2:=(Keeps.one (H:=r) (o:=.lst (((ls.take i).flatMap (FF W)).map V.int++(l.1.flatMap (Bu W)).map V.int)) (d _ _ u)).tup (d _ _ er);rw[a2] at ah;have e2:=HO.tup.inj (Bv ah);cases e2;exact a1
 generalize upd r D (.lst (((ls.take i).flatMap (FF W)).map V.int++(l.1.flatMap (Bu W)).map V.int))=H4 at g C ag ⊢;refine⟨Or.inl ⟨rfl,_,Af.of C⟩,k,A,t,W,x2,F,l.2.1,rfl,Q.same g,ag,af.en,by omega,λD3 H5 a8 s5 a3=>?_⟩;refine⟨D,D3,_,_,rfl,rfl,s5 _ _ C,a3,by rw[AV,Al,Al,Al];exact Di (Mi (by omega)),?_⟩;refine⟨_,_,_,_,rfl,R (g.trans s5),?_⟩;rw[Aa,z];unfold FF;rw[Bk,Bk,FX];refine λσ H2 Y=>AL λNz e=>?_;obtain⟨G,I,J,p,rfl,q,u⟩:=Y;refine e ?_;clear e;rw[U.length,Al,Ei] at u
 refine⟨⟨_,Af.of (q _ _ eT)⟩,EM (xs:=m.map V.int) (λi σ c=>∃p,σ=[some (.ref k),some (.ref A),some (.ref t),some (.ref L),some (.ref T),some (.ref D),G,I,J,p]/\Ac H c/\c D=some (.lst ((ls.flatMap (FF W)++(m.take i).flatMap (E9 W.gs)).map V.int)))
  ⟨_,rfl,q,by rw[u,Eo];simp⟩ (λi σ c _ X=>by obtain⟨_,_,s,_⟩:=X;exact Af.of (s _ _ eT)) ?_ ?_⟩
 rintro i x σ r M ⟨p,rfl,d,j⟩;obtain⟨n,ai,rfl⟩:=getm M;have z:=OA (f:=E9 W.gs) ai;have aa:=OB (f:=E9 W.gs) (l:=m) (i+1);rw[z,AV] at aa;have aj:=O;unfold CI at aj;rw[AV] at aj;refine⟨Or.inl ⟨rfl,_,Af.of j⟩,k,A,t,W,n,rfl,Q.same d,ax n (Bd ai),λv H4 N g C=>?_⟩;refine⟨D,v,_,_,rfl,rfl,g _ _ j,C,by rw[Al,Al,AV];exact Di (Mi (by omega)),?_⟩;refine⟨_,rfl,R (d.trans g),?_⟩;rw[Aa,z]
 simp
 rintro σ r ⟨a9,rfl,d,j⟩;rw[Al,Ei] at j;refine⟨D,CI W ls m,rfl,Af.of j,O,λaq hz=>?_⟩;refine⟨aq,CI W ls m,rfl,Aa,λds hd hs=>?_,λv ms a4 E N=>?_⟩;have:=Tu hd λy S=>ae y (hs y S);omega;exact an v ms _ (d.free ((Bb hz).free N)) ((d.trans (Bb hz)).trans (Bb N)) Aa E (Tu (a4.imp λ{a b}h=>by omega) λy S=>ae y ((E y).mp S))
inductive Ct (K:Ah) (vs:List V) (H:Hp) (Q:VK):Prop where
 |mk (nt A t P U:Addr) (F:Addr->Prop) (W:Wd) (qs:List Qu) (inn:Int) (ord:List (Str×Str)) (as:List AM) (due:List Int) (kvs:List (AN×V)) (H0:Hp) (h0:vs=[.ref nt,.ref A,.ref t,.ref P,.ref U]) (h1:Ac H0 H) (h2:H0 U=none) (h3:LN K F H0 nt t W qs inn ord) (h4:J6 W qs inn ord) (h5:Gh W qs as) (h6:DY H A as) (h7:H U=some (.dK kvs)) (h8:IM kvs qs.length) (h9:H P=some (.lst (due.map V.int))) (h10:(∀k∈due,0<=k/\k<qs.length)) (h11:due.length<=40) (h12:∀(R:Addr)(rv:List V)(fs:List (Int×(Str×Int)))(kvs':List (AN×V))(H':Hp),H R=none->(∀x o,H x=some o->x≠U->H' x=some o)->H' U=some (.dK kvs')->H' R=some (.lst rv)->Ax GU H' rv (fs.map fD)->fs.length<=40->FT W qs inn ord as H H' kvs kvs' due fs->Q (.ref R) H'):Ct K vs H Q
def iU (K:Ah):Sp:=λvs H Q _=>Ct K vs H Q
variable (P w K mg base) in
abbrev Ux:Prop:=BG P w K mg base "found_in_turn" 8 ["net", "answers", "table", "due", "uses"] (iU K)
theorem iV(B:BH mg)(aF:OW P w K mg base)(aG:Uw P w K mg base)(F:Br K "found_in_turn" "found_in_turn" Rv f fd)(hm:mg "found_in_turn" = some (.ref f)):Ux P w K mg base:=by
 refine B1 F hm Mu (λL a6 a7 a8 h=>?_) (λbb A bi s a6 L a7 a8 hr h=>?_);obtain⟨nt,A,t,P,U,F,W,qs,ag,ah,j,E,ai,H0,rfl,_⟩:=h;rfl
 . obtain⟨nt,A,t,P,U,F,W,qs,ag,ah,j,E,ai,H0,rfl,s0,aH,hN,G,hA,an,eU,hK,M,aX,bh,a9⟩:=h
   obtain⟨aY,aZ,R0,bc,Gs,Es,bd,N,eN,N3⟩:=hN.net;have ok:=G.all j hA;have aI:A≠U:=λz=>by obtain⟨_,e,_⟩:=an;rw[z,eU] at e;cases e
   have aJ:P≠U:=λz=>by rw[z,eU] at M;cases M
   refine⟨_,(Am (AQ (i:=5) Mu.nd (Cp Ae))
    (Am (CB Cm rfl (C6 (pv 3)) (Ay (i:=6) Mu.nd) (Am (Eb (A6 aF (Ab (pv 0) (Ab (pv 1) (Ab (pv 2) (Ab (AE AF (AE AF (pv 0) Ai) (pv 6)) Ae))))) (Co (n:=4) rfl (AI (Ay (i:=7) Mu.nd) (AI (Ay (i:=8) Mu.nd) (AI (Ay (i:=9) Mu.nd) (AI (Ay (i:=10) Mu.nd) Cn))))))
     (Au (Bm (FZ (GN (pv 7))) (Au (Eb (A6 aG (Ab (pv 0) (Ab (pv 1) (Ab (pv 2) (Ab (pv 9) (Ab (pv 10) Ae)))))) (Pg (pv 4) (pv 6) (YD (LB hr))))) (Au (Df (Dj DI Ep Er Eu (pv 5) (Ab (Bs (Ab (pv 6) (Ab (pv 7) Ae))) Ae))))))))
    (Au (AX (pv 5))))),?_⟩
   (try dsimp only[AG,Cx.nox,Cx.wish]);refine⟨by decide,λR u=>?_⟩;obtain⟨af,aK,p,aa⟩:=new_at (o:=.lst []) u;rw[<-aK];have au:=p _ _ eU;have aw:R≠U:=λz=>by rw[z,au] at aa;cases aa
   have aL:H0 R=none:=s0.free u
   refine⟨⟨_,Af.of (p _ _ M)⟩,EM (xs:=E.map V.int) (λi σ v=>∃u6 u7 u8 u9 aj d fs r,σ=[some (.ref nt),some (.ref A),some (.ref t),some (.ref P),some (.ref U),some (.ref R),u6,u7,u8,u9,aj]/\(∀x o,af x=some o->x≠U->x≠R->v x=some o)/\v U=some (.dK r)/\v R=some (.lst d)/\Ax GU v d (fs.map fD)/\fs.length<=i/\FT W qs ag ah j af v ai r (E.take i) fs)
    ⟨none,none,none,none,none,[],[],ai,rfl,λx o e _ _=>e,au,aa,.nil,AB _,⟨λf hf=>by simp at hf,λk O=>by simp at O,λk _=>rfl,hK⟩⟩ (λi σ v _ aM=>by obtain⟨_,_,_,_,_,_,_,_,_,b,_⟩:=aM;exact Af.of (b _ _ (p _ _ M) aJ (AH M u))) ?_ ?_⟩
   rotate_left;refine λσ C ak=>AL λNz T=>?_;obtain⟨u6,u7,u8,u9,aj,d,fs,r,rfl,q,H,I,X,ax,g⟩:=ak;refine T ?_;clear T;rw[Al,Ei] at g;refine a9 R d fs r C u (λx o e n=>q _ _ (p _ _ e) n (AH e u)) H I X (by rw[Al] at ax;omega) ⟨g.fd,λk O=>?_,g.kp,g.ko⟩;rcases g.al k O with h|⟨l,us,a,b⟩;exact .inl h;exact .inr ⟨l,us,p.free a,b⟩;refine λi x σ C hx ak=>AL λNz T=>?_;obtain⟨u6,u7,u8,u9,aj,d,fs,r,rfl,q,H,I,X,ax,g⟩:=ak;refine T ?_;clear T;refine Gi ?_;intro Nx Cy;obtain⟨n,al,rfl⟩:=getm hx;have be:i<E.length:=(A9.mp al).1;have hn:=aX n (Bd al);obtain⟨k,O⟩:=DH hn.1;subst O;have ay:k<qs.length:=(by omega);have aN:k<N.length:=by rw[N3.tq.len];exact ay
   have az:=AC aN;have ab:=AC ay;obtain⟨aA,eq,eu⟩:=N3.tq.at_ k _ _ az ab;have aO:Bt (N.map V.ref) (k:Int)=some (.ref N[k]):=BN (by rw[Bh,az];rfl);have aP:=ok.q _ (Bd ab);obtain⟨aq,ar,aD,g4⟩:=aP;generalize qs[k]=qk at *
   have a0:E.take (i+1)=E.take i++[(k:Int)]:=by rw[DS,al];rfl
   have Y:Ac H0 C:=λy o e=>q _ _ (p _ _ (s0 _ _ e)) (λz=>by rw[z,aH] at e;cases e) (λz=>by rw[z,aL] at e;cases e)
   have aQ:DY C A j:=by
    refine an.go (λa L e=>q _ _ (p _ _ e) (λz=>by rw[z,eU] at e;cases e) (AH e u)) λL e=>q _ _ (p _ _ e) aI (AH e u)
   have ao:=(hN.same Y).lc (K:=K) aQ.ans;refine Or.inr (Or.inl ⟨_,.ref R0,Aq.of (Y _ _ eN),rfl,Or.inl ⟨_,.ref N[k],Af.of (Y _ _ N3.er),aO,nt,A,t,N[k],aA,F,W.late j,ag,ah,qk,rfl,ao.caseH,ao.tab,ok.ok,ok.sm,ok.ol,ok.irr,ok.inn,Y _ _ eq,Y _ _ eu,aq,ar,aD,g4,λba aB T2 av wv lv a w ls ts H3 Q er hL eL eT ha hw aR ae=>?_⟩⟩);refine⟨_,Aq.of er,rfl,?_⟩;have Z:=dY ok.ok ok.sm ok.inn ae aq ar;have bf:=L5 ae
   cases a with
   |none =>
     obtain rfl:=ha.ansN;refine⟨rfl,Ao (λ_=>?_) (λh=>absurd (A5 rfl) h)⟩;have aS:=ao.same Q;refine⟨nt,A,t,aB,T2,_,W.late j,lv,ls,ts,rfl,aS.caseH,ok.ok,eL,aR,Z.1,eT,Z.2.1,dZ (W:=W.late j) G.s3 Z.1 (by omega) (by omega),λy S=>?_,λD us H4 hD s4 eD a1 bg=>?_⟩;have h1:=W9 ok.ok ok.sm Z.1 S;have h2:(W.late j).as.length=qs.length:=hA.len;have:=G.lq;omega;have c:=Q.trans s4;have a2:=c _ _ H;refine⟨U,_,rfl,Hv.k (k:=.inl (k:Int)) a2 (Mi (by have:=g.ko.len;have:=G.lq;omega)),?_⟩;have J:C D=none:=Q.free hD;have a3:D≠U:=λz=>by rw[z,H] at J;cases J
     have tk:Tk C (upd H4 U (.dK (AZ r (.inl (k:Int)) (.ref D)))):=c.tk.trans (J5 a2);refine⟨_,_,_,_,_,d,fs,AZ r (.inl (k:Int)) (.ref D),rfl,λy o e n1 n2=>?_,Aa,?_,X.tk tk,by omega,?_⟩;rw[AD n1];exact c _ _ (q _ _ e n1 n2);rw[AD aw];exact c _ _ I;rw[a0];refine g.wait (λl L hl e=>?_) ab ae (l:=D) (us:=us) ?_ ?_ (by omega) (λy S=>(W9 ok.ok ok.sm Z.1 ((a1 y).mp S)).1) λy S=>(a1 y).mpr S;rw[AD λz=>by rw[z,H] at e;cases e];exact c _ _ e;refine Classical.byContradiction λz=>?_
     cases e:af D with
     |none=>exact z e
     |some o =>
       by_cases a4:D=R;rw[a4,I] at J;cases J;rw[q _ _ e a3 a4] at J;cases J
     rw[AD a3];exact eD
   |some aC =>
     obtain⟨pa,rfl,aT⟩:=ha.ansS;refine⟨rfl,Ao (λh=>absurd (Bi h) (by simp)) (λ_=>?_)⟩;have aU:=Q _ _ I;refine⟨Or.inl ⟨rfl,_,Af.of aU⟩,B7,λm hm=>?_⟩;obtain⟨H4,aV,s4,aE⟩:=new_at (o:=.tup [.int k,.ref pa]) hm;rw[<-aV];have c:=Q.trans s4;have a5:=c _ _ I;have aW:d.length<=1000:=by have:=X.length;rw[Al] at this;omega
     refine⟨_,a5,BC aW,?_⟩;have tk:Tk H4 (upd H4 R (.lst (d++[.ref m]))):=OC a5;refine⟨_,_,_,_,_,d++[.ref m],fs++[((k:Int),aC)],r,rfl,λy o e n1 n2=>?_,?_,Aa,?_,by rw[AV,Dh];omega,?_⟩;rw[AD n2];exact c _ _ (q _ _ e n1 n2);rw[AD (Ne.symm aw)];exact c _ _ H;rw[Bk];exact(X.tk (c.tk.trans tk)).snoc (.tup (tk _ _ aE) (.cons (.int _) (.cons (.tup (tk _ _ (s4 _ _ aT)) (.cons (.str _) (.cons (.int _) .nil))) .nil)));rw[a0];refine g.hit (λl L hl e=>?_) ab ⟨w,ls,ts,ae⟩;rw[AD λz=>by rw[z,aa] at hl;cases hl];exact c _ _ e
inductive EF (K:Ah) (vs:List V) (H:Hp) (Q:VK):Prop where
 |mk (l N:Addr) (us:List Int) (kvs:List (AN×V)) (h0:vs=[.ref l,.ref N]) (h1:H l=some (.lst (us.map V.int))) (h2:us.length<=1000) (h3:H N=some (.dK kvs)) (h4:∀H',Ac H H'->Q (.bl (us.any λu=>(AK kvs (.inl u)).isSome)) H'):EF K vs H Q
def XD (K:Ah):Sp:=λvs H Q _=>EF K vs H Q
variable (P w K mg base) in
abbrev Uy:Prop:=BG P w K mg base "uses_one" 1 ["questions", "new"] (XD K)
theorem iW(B:BH mg)(F:Br K "uses_one" "uses_one" Pe f fd)(e:mg "uses_one" = some (.ref f)):Uy P w K mg base:=by
 refine B1 F e eF (λg H Q E h=>?_) (λC A D s H g Q E m h=>?_);obtain⟨l,N,us,b,rfl,_⟩:=h;rfl;obtain⟨l,N,us,b,rfl,c,n,o,q⟩:=h;refine⟨_,(Au (AX (BM (V0 rfl) B.b_any (Ab (G4 rfl Dq (C6 (pv 0)) (λ_ _ _ _ _=>(Ay (i:=0) Dq.nd)) (λ_ _ _ _ _=>Hz) (λ_ _ _ _ _=>(Jb (Vm (LB m)) (pv 0) (pv 1) (by with_unfolding_all rfl)))) Ae)))),?_⟩;(try dsimp only[AG,Cx.nox,Cx.wish])
 refine⟨⟨_,Af.of c⟩,Si (xs:=us.map V.int) (λv=>match v with|.int u=>V.bl (AK b (.inl u)).isSome|_=>V.bl false) (by rw[Al];exact Di (BC n)) (Af.of c) (λj y p d R2 r a z t=>?_) (λp d a z x=>?_)⟩
 obtain⟨u,_,rfl⟩:=getm r;refine⟨N,_,rfl,Dk.k (k:=.inl u) (a _ _ o),?_⟩;have:=t _ (Ac.refl _);simpa using this;refine⟨d,us.map λu=>(AK b (.inl u)).isSome,rfl,Af.of (by rw[x,DG,DG];rfl),?_⟩;have:=q _ a;rw[List.any_map];exact this
inductive Cf (K:Ah) (vs:List V) (H:Hp) (Q:VK):Prop where
 |mk (nt A t P:Addr) (F:Addr->Prop) (W:Wd) (qs:List Qu) (inn:Int) (ord:List (Str×Str)) (ks:List Int) (h0:vs=[.ref nt,.ref A,.ref t,.ref P]) (h1:LC K F H nt A t W qs inn ord) (h2:Qc W qs inn ord) (h3:H P=some (.lst (ks.map V.int))) (h4:(∀k∈ks,0<=k/\k<qs.length)) (h5:∀H',Ac H H'->Q .non H'):Cf K vs H Q
def iX (K:Ah):Sp:=λvs H Q _=>Cf K vs H Q
variable (P w K mg base) in
abbrev Uz:Prop:=BG P w K mg base "refuse_tangled" 8 ["net", "answers", "table", "answered"] (iX K)
theorem iY(B:BH mg)(aa:OW P w K mg base)(F:Br K "refuse_tangled" "refuse_tangled" Rw f fd)(D:mg "refuse_tangled" = some (.ref f)):Uz P w K mg base:=by
 refine B1 F D Xg (λG H Q E h=>?_) (λal A an s H G Q E hr h=>?_);obtain⟨d,A,t,P,F,W,qs,p,r,j,rfl,_⟩:=h;rfl
 . obtain⟨d,A,t,P,F,W,qs,p,r,j,rfl,l,ok,m,ab,q⟩:=h
   obtain⟨ai,T,R,us,Gs,Es,I,c,J,e⟩:=l.net;refine⟨_,(Au (CB Cm rfl (C6 (pv 3)) (Ay (i:=4) Xg.nd) (Au (Df (A6 aa (Ab (pv 0) (Ab (pv 1) (Ab (pv 2) (Ab (AE AF (AE AF (pv 0) Ai) (pv 4)) Ae))))))))),?_⟩;try dsimp only[AG,Cx.nox,Cx.wish]
   refine⟨⟨_,Af.of m⟩,EM (xs:=j.map V.int) (λi σ o=>∃g,σ=[some (.ref d),some (.ref A),some (.ref t),some (.ref P),g]/\Ac H o)
    ⟨none,rfl,Ac.refl _⟩ (λi σ o _ ae=>by obtain⟨_,_,s⟩:=ae;exact Af.of (s _ _ m)) ?_ ?_⟩
   rotate_left;rintro σ L ⟨g,rfl,b⟩;exact q _ b;rintro i x σ L M ⟨g,rfl,b⟩;obtain⟨n,af,rfl⟩:=getm M;have N:=ab n (Bd af);obtain⟨k,O⟩:=DH N.1;have v:k<qs.length:=(by omega);have ag:k<c.length:=by rw[e.tq.len];exact v
   have y:=AC ag;have z:=AC v;obtain⟨u,eq,S⟩:=e.tq.at_ k _ _ y z;have ah:Bt (c.map V.ref) n=some (.ref c[k]):=by rw[O];exact BN (by rw[Bh,y];rfl)
   obtain⟨U,X,Y,Z⟩:=ok.q _ (Bd z);have C:=l.same b;refine Or.inr (Or.inl ⟨_,.ref R,Aq.of (b _ _ J),rfl,Or.inl ⟨_,.ref c[k],Af.of (b _ _ e.er),ah,d,A,t,c[k],u,F,W,p,r,qs[k],rfl,C.caseH,C.tab,ok.ok,ok.sm,ok.ol,ok.irr,ok.inn,b _ _ eq,b _ _ S,U,X,Y,Z,λaj ak T av wv lv a w ls I H3 s3 _ _ _ _ _ _ _ _=>?_⟩⟩);exact⟨_,rfl,b.trans s3⟩
theorem OX(m:Nat):((List.range m).map λj:Nat=>V.int j)=((List.range m).map λj:Nat=>(j:Int)).map V.int:=by rw[DG];rfl
theorem FK(h:i<m):((List.range m).map λj:Nat=>V.int j)[i]?=some (.int i):=by rw[Bh,List.getElem?_range h];rfl
variable {H:Hp}{v:V}{d:Dt}
theorem MJ{F:Addr->Prop}{e:Dt}(h:A4 F H v (.tup [d,e])):∃m x y,v=.ref m/\H m=some (.tup [x,y])/\A4 F H x d/\A4 F H y e:=by
 cases h with
 | tup h t =>
   cases t with
   |cons a t =>
     cases t with
     |cons b t =>
       cases t with
       |nil=>exact⟨_,_,_,rfl,h,a,b⟩
inductive Fh (K:Ah) (vs:List V) (H:Hp) (Q:VK):Prop where
 |mk (nt t Kn Th:Addr) (F:Addr->Prop) (W:Wd) (qs:List Qu) (inn:Int) (ord:List (Str×Str)) (h0:vs=[.ref nt,.ref t,.ref Kn,.ref Th]) (h1:LN K F H nt t W qs inn ord) (h2:J6 W qs inn ord) (h3:H Kn=some (.lst (List.replicate qs.length .non))) (h4:H Th=some (.lst ((List.range qs.length).map λj:Nat=>V.int j))) (h5:∀(r A Tn:Addr)(n:Nat)(as:List AM)(ts:List Int)(H':Hp),Ac H H'->H A=none->H Tn=none->A≠Tn->H' r=some (.tup [.ref A,.ref Tn])->DY H' A as->H' Tn=some (.lst (ts.map V.int))->Run W qs inn ord n as ts->IL W qs inn ord as as->Q (.ref r) H'):Fh K vs H Q
def iZ (K:Ah):Sp:=λvs H Q _=>Fh K vs H Q
variable (P w K mg base) in
abbrev UA:Prop:=BG P w K mg base "settled" 9 ["net", "table", "known", "those"] (iZ K)
theorem i0(B:BH mg)(bn:Ux P w K mg base)(bo:Uy P w K mg base)(bp:Uz P w K mg base)(F:Br K "settled" "settled" MT f fd)(hm:mg "settled" = some (.ref f)):UA P w K mg base:=by
 refine B1 F hm G9 (λq H bh bi h=>?_) (λbN A bR s H q bh bi hr h=>?_);obtain⟨nt,t,Kn,Th,F,W,qs,inn,ord,rfl,_⟩:=h;rfl;obtain⟨nt,t,Kn,Th,F,W,qs,inn,ord,rfl,hN,aa,a8,ab,bj⟩:=h
 have lq:=aa.lq;generalize hm:qs.length=m at *
 refine⟨_,(Am (AQ (i:=4) G9.nd (G4 (g:=NH K 2 (Hg (Kv 0) (Hg (Kv 1) NG))) (te:=UG (tB (Gc (U0 K false) (BB 0) (BB 2))) (tC .non) (BB 1)) rfl CJ (PM rfl B.b_enumerate (Ab (pv 2) Ae)) (λ_ _ _ _ _=>(Co (n:=2) rfl (AI (Ay (i:=0) CJ.nd) (AI (Ay (i:=1) CJ.nd) Cn)))) (λ_ _ _ _ _=>Hz) (λ_ _ _ _ _=>(XU (BJ Ye (pv 0) (pv 2) (by with_unfolding_all rfl)) Gu (pv 1)))))
  (Am (AQ (i:=5) G9.nd (AA W6 (Cp (Ab Ai Ae)) (BM DK B.b_len (Ab (pv 4) Ae))))
  (Am (AQ (i:=6) G9.nd Yn)
  (Am (AQ (i:=7) G9.nd (pv 3))
  (Am (AQ (i:=8) G9.nd Ai)
  (Am (UH Cm (Js (pv 7)) (Am (Vy (i:=8) G9.nd rfl (Or.inl rfl) Ai UK)
   (Am (AQ (i:=9) G9.nd (A6 bn (Ab (pv 0) (Ab (pv 4) (Ab (pv 1) (Ab (pv 7) (Ab (pv 6) Ae)))))))
   (Am (CB Cm rfl (C6 (pv 9)) (Co (n:=2) rfl (AI (Ay (i:=10) G9.nd) (AI (Ay (i:=11) G9.nd) Cn))) (Am (Eb (pv 11) (Pg (pv 4) (pv 10) R1))
    (Au (Eb (pv 8) (Pg (pv 5) (pv 10) R1)))))
   (Am (AQ (i:=12) G9.nd (G1 (dQ rfl) B.b_dict (Ab (pv 9) Ae)))
   (Au (Sh (i:=7) G9.nd rfl (Or.inl rfl) (tc:=NA (tB (Ny (Gc (Hr K) (BB 2) (BB 0)))) (tB (Pp (XD K) [] E0 (Hm (Kz (BB 3) (BB 0)) (Hm (BB 1) GP))))) rfl DZ (C6 (pv 3)) (λ_ _ _ _ _=>(Ay (i:=0) DZ.nd)) (λ_ _ _ _ _=>(Py (PW.pt (Gw (FZ (GN (AE AF (pv 2) (pv 0)))) (Gv (Gb (A6 bo (Ab (U9 (LB hr) (pv 3) (pv 0) (λ_ _=>rfl)) (Ab (pv 1) Ae))))))))) (λ_ _ _ _ _=>(pv 0)))))))))
  (Am (Df (A6 bp (Ab (pv 0) (Ab (pv 4) (Ab (pv 1) (Ab (G4 (tc:=tB (Hc (Gc (Hr K) (BB 1) (BB 0)))) rfl D0 (C6 (pv 3)) (λ_ _ _ _ _=>(Ay (i:=0) D0.nd)) (λ_ _ _ _ _=>(Py (FZ (MW (AE AF (pv 1) (pv 0)))))) (λ_ _ _ _ _=>(pv 0))) Ae))))))
  (Au (AX (Bs (Ab (pv 4) (Ab (pv 5) Ae)))))))))))),?_⟩
 (try dsimp only[AG,Cx.nox,Cx.wish]);refine⟨Kn,rfl,⟨_,a8⟩,d4 (xs:=List.replicate m .non) (λD i C r=>Ac H r/\r D=some (.lst C)/\C=List.replicate i .non) (λD G=>⟨Bb G,Aa,rfl⟩) (λD i C H2 p=>Af.of (p.1 _ _ a8)) (λD i x bL C H2 ah G u hT p k=>?_) (λA C bM aJ p=>?_)⟩;obtain⟨s2,bq,rfl⟩:=p;rw[List.getElem?_replicate] at u;have hi:i<m:=Classical.byContradiction λz=>by rw[Aj z] at u;cases u
 have N:=Bb (o:=.tup [.int i,x]) hT;refine⟨_,Aq.of Aa,rfl,?_⟩;refine⟨Th,_,rfl,Or.inl (Af.of ((s2.trans N) _ _ ab)),rfl,d7 m,rfl,Ao (λ_=>?_) (λh=>absurd (Ml hi) h)⟩;refine k _ _ (N _ _ bq) (by rw[List.length_replicate];exact BC (by omega)) ⟨λb o e=>?_,Aa,?_⟩;rw[AD (AH e G)];exact N _ _ (s2 _ _ e);rw[List.replicate_succ'];obtain⟨s1,a9,rfl⟩:=p;rw[List.length_replicate] at a9;refine⟨HC,λbk hZ=>?_⟩;obtain⟨H2,br,s2,eZ⟩:=new_at (o:=.lst [.int 0]) hZ;rw[<-br];have ao:=s2 _ _ a9;refine⟨_,Or.inl ⟨_,Af.of ao,rfl⟩,bk,_,_,rfl,rfl,eZ,?_,?_,λy aA=>?_⟩;rw[List.length_replicate];omega;rw[List.length_replicate,Bl];show 1*m<=1000;omega;have N:=Bb (o:=.lst (List.replicate (((List.replicate m V.non).length:Nat):Int).toNat [V.int 0]).flatten) aA
 have a5:(upd H2 y (.lst (List.replicate (((List.replicate m V.non).length:Nat):Int).toNat [V.int 0]).flatten)) y=some (.lst ((List.replicate m (0:Int)).map V.int)):=by
  rw[Aa,List.length_replicate,Bl,Xc,List.map_replicate]
 generalize upd H2 y (.lst (List.replicate (((List.replicate m V.non).length:Nat):Int).toNat [V.int 0]).flatten)=H3 at N a5 ⊢;intro U hU;obtain⟨H4,bs,s4,bt⟩:=new_at (o:=.dK []) hU;rw[<-bs];have aK:=s4 _ _ (N _ _ ao);have bc:=s4 _ _ a5;have aL:=((s1.trans s2).trans N).trans s4;have bd:H y=none:=s1.free (s2.free aA);have aM:H U=none:=s1.free (s2.free (N.free hU));have ay:A≠y:=AH ao aA;have aB:A≠U:=AH (N _ _ ao) hU;have aN:y≠U:=AH a5 hU;have a7:=Ih.start (W:=W) (qs:=qs) (inn:=inn) (ord:=ord) (X:=λl=>l=A\/l=y) (H:=H4);rw[hm] at a7
 have bu:DY H4 A (List.replicate m none):=⟨_,aK,by
  rw[List.map_replicate];clear aK ao a9 a7 hm bc a5 a8 ab hN lq
  induction m with
  |zero=>exact .nil
  |succ m ih=>exact .cons .non (ih)⟩
 refine⟨λmm σ r=>∃(n:Nat)(as:List AM)(O:List Int)(T:List Int)(P:Addr)(az:List (AN×V))(u9 ai aj aC:Option V),σ=[some (.ref nt),some (.ref t),some (.ref Kn),some (.ref Th),some (.ref A),some (.ref y),some (.ref U),some (.ref P),some (.int n),u9,ai,aj,aC]/\Ac H r/\r P=some (.lst (T.map V.int))/\DY r A as/\r y=some (.lst (O.map V.int))/\r U=some (.dK az)/\Ih W qs inn ord (λl=>l=A\/l=y) r az n as O T/\T.length<=40/\mm=nn as+(if T=[] then 0 else 1),⟨_,0,_,_,_,Th,[],none,none,none,none,rfl,aL,by rw[<-OX];exact aL _ _ ab,bu,bc,bt,a7,by rw[Al,List.length_range];exact lq,rfl⟩,?_⟩;refine λmm σ H5 L=>AL λY c=>?_;obtain⟨n,as,O,T,P,az,u9,ai,aj,aC,rfl,s5,aD,ae,av,a0,Z,bl,bv⟩:=L;refine c ?_;clear c;have hA:=(Z.run.aok aa.toSOk).1;have be:as.length=m:=hA.len.trans hm;refine⟨P,_,rfl,Af.of aD,?_⟩
 by_cases hd:T=[];subst hd;refine Bg ?_;have nx:=Z.end_ aa.toSOk;refine⟨⟨_,Af.of (s5 _ _ ab)⟩,PL (xs:=(List.range m).map λj:Nat=>V.int j) (λD i C r=>∃d:List Int,C=d.map V.int/\Ac H5 r/\r D=some (.lst C)/\d.length<=i/\∀k∈d,0<=k/\k<(m:Int)) (λD G=>⟨[],rfl,Bb G,Aa,AB _,λk I=>by cases I⟩) (λD i C r p=>?_) (λD i x C Q ah R0 G u p k k0=>?_) (λD C Q G p=>?_)⟩;obtain⟨d,_,s,_⟩:=p;exact Af.of (s _ _ (s5 _ _ ab));refine AL λY c=>?_;obtain⟨d,rfl,R,a1,lz,M⟩:=p;refine c ?_;clear c;have hi:i<m:=by have:=(A9.mp u).1;rw[Al,List.length_range] at this;exact this
 rw[FK hi] at u;cases u;have ak:DY Q A as:=ae.go R.tk λ_ e=>R _ _ e;obtain⟨q,v,e1,e2,_⟩:=ak.get (k:=i) (by omega);refine Or.inl ⟨q,v,Af.of e1,e2,rfl,Ao (λ_=>?_) (λ_=>?_)⟩;refine k _ _ a1 (by rw[Al];exact BC (by omega)) ⟨d++[(i:Int)],by rw[Bk];rfl,λb o e=>?_,Aa,by rw[AV,Dh];omega,λa6 J=>?_⟩;rw[AD (AH e G)];exact R _ _ e;rcases BF.mp J with J|J;exact M a6 J;rw[AY.mp J];omega;exact k0 _ ⟨d,rfl,R,a1,by omega,M⟩;refine AL λY c=>?_;obtain⟨d,rfl,R,a1,_,M⟩:=p;refine c ?_;clear c;have ak:DY Q A as:=ae.go R.tk λ_ e=>R _ _ e;refine⟨nt,A,t,D,F,W.late as,qs,inn,ord,d,rfl,(hN.same (s5.trans R)).lc ak.ans,aa.all as hA,a1,λk I=>by rw[hm];exact M k I,λH7 s7=>?_⟩;refine⟨B7,λaw bw=>?_⟩;have s8:=Bb (o:=.tup [.ref A,.ref y]) bw;have a2:=(R.trans s7).trans s8;exact bj aw A y n as O _ (s5.trans a2) aJ bd ay Aa (ae.go a2.tk λ_ e=>a2 _ _ e) (a2 _ _ av) Z.run nx;refine Ao (λ_=>?_) (λh=>absurd (by cases T with|nil=>exact absurd rfl hd|cons a aw=>rfl) h);refine⟨_,λ_ _ h=>h,?_⟩;refine⟨_,rfl,?_⟩;(try dsimp only)
 have bH:∀k∈T,0<=k/\k<qs.length:=λk I=>by
  obtain⟨j,rfl,h1,_⟩:=Z.du k I;omega
 refine⟨nt,A,t,P,U,F,W,qs,inn,ord,as,T,az,H,rfl,s5,aM,hN,aa,hA,ae,a0,Z.ko,aD,bH,bl,λah rv fs bf Q hR b6 bx aE aF bO ft=>?_⟩;have aq:∃q,H5 A=some (.lst q):=by obtain⟨q,e,_⟩:=ae;exact⟨q,e⟩
 obtain⟨bQ,aq⟩:=aq;have aO:ah≠A:=λz=>by rw[z,aq] at hR;cases hR
 have aP:ah≠y:=λz=>by rw[z,av] at hR;cases hR
 have bz:Ac H Q:=λx o e=>b6 _ _ (s5 _ _ e) (λz=>by rw[z,aM] at e;cases e);have ak:DY Q A as:=ae.go (λa q e=>b6 _ _ e (λz=>by rw[z,a0] at e;cases e)) λq e=>b6 _ _ e aB;have aQ:=b6 _ _ aq aB;have aI:=b6 _ _ av aN
 have af:=Z.aft aa.toSOk hd ft (λl hl u=>by
  rcases u with rfl|rfl;rw[aq] at hl;cases hl
  rw[av] at hl;cases hl) (λl q u e=>b6 _ _ e (λz=>by rw[z,a0] at e;cases e))
 have opn:∀f∈fs,∃k:Nat,f.1=(k:Int)/\k<m/\as[k]?=some none:=λf hf=>by
  refine AL λY c=>?_;obtain⟨k,_,e1,e2,_,_⟩:=ft.fd f hf;refine c ?_;clear c;obtain⟨j,e5,e6,e7⟩:=Z.du _ e2;have:k=j:=(by omega);subst this;exact⟨k,e1,by omega,e7⟩
 have b0:O.length=m:=(Z.run.aok aa.toSOk).2.trans hm;clear ae av a0 aD
 refine⟨⟨_,Af.of aE⟩,EM (xs:=rv) (λi σ r=>∃ai aj,σ=[some (.ref nt),some (.ref t),some (.ref Kn),some (.ref Th),some (.ref A),some (.ref y),some (.ref U),some (.ref P),some (.int ((n:Int)+1)),some (.ref ah),ai,aj,aC]/\(∀x o,Q x=some o->x≠A->x≠y->r x=some o)/\DY r A (BS as (fs.take i))/\r y=some (.lst ((Dd O ((n:Int)+1) (fs.take i)).map V.int)))
  ⟨_,_,rfl,λ_ _ e _ _=>e,by rw[Eo];exact ak,by rw[Eo];exact aI⟩ (λi σ r _ b1=>by obtain⟨_,_,_,b,_⟩:=b1;exact Af.of (b _ _ aE aO aP)) ?_ ?_⟩
 refine λi x σ H7 u L=>AL λY c=>?_;obtain⟨ai,aj,rfl,S,ar,an⟩:=L;refine c ?_;clear c;refine Gi ?_;intro Nx Cy;have a3:Tk Q H7:=λa q e=>S _ _ e (λz=>by rw[z,aQ] at e;cases e) (λz=>by rw[z,aI] at e;cases e);obtain⟨f,aG,b2⟩:=Ic (aF.tk a3) u;refine AL λY c=>?_;obtain⟨fm,x1,y1,rfl,bm,b3,b4⟩:=MJ b2;refine c ?_;clear c;obtain rfl:=Nf b3;obtain⟨k,ek,I,_⟩:=opn f (Bd aG);have aR:f.1.toNat=k:=(by rw[ek,Bl]);obtain⟨q,aS,aT⟩:=ar;have b5:q.length=m:=by rw[aT.length,Al,Qo];exact be
 have b7:((Dd O ((n:Int)+1) (fs.take i)).map V.int).length=m:=by rw[Al,Tv];exact b0
 refine⟨_,Aq.of bm,rfl,?_⟩;refine⟨A,q,f.1,k,rfl,rfl,aS,?_,?_⟩;rw[ek,b5,Sk (by omega) (by omega),Bl];refine⟨y,_,f.1,k,rfl,rfl,(AD (Ne.symm ay)).trans an,?_,?_⟩;rw[ek,b7,Sk (by omega) (by omega),Bl];have b8:Tk H7 (upd (upd H7 A (.lst (q.set k y1))) y (.lst (((Dd O ((n:Int)+1) (fs.take i)).map V.int).set k (.int ((n:Int)+1))))):=(OC aS).trans (OC ((AD (Ne.symm ay)).trans an));refine⟨_,_,rfl,λx o e n1 n2=>?_,⟨q.set k y1,?_,?_⟩,?_⟩;rw[AD n2,AD n1];exact S _ _ e n1 n2;rw[AD ay,Aa];rw[d5 aG,aR,List.map_set];exact(aT.set b4 k).tk b8;rw[Aa,d6 aG,aR,List.map_set];refine λσ H7 L=>AL λY c=>?_;obtain⟨ai,aj,rfl,S,ar,an⟩:=L;refine c ?_;clear c;have aU:rv.length=fs.length:=(by rw[aF.length,Al]);rw[aU,Ei] at ar an;have a3:Tk Q H7:=λa q e=>S _ _ e (λz=>by rw[z,aQ] at e;cases e) (λz=>by rw[z,aI] at e;cases e);have b9:Ac H H7:=λx o e=>S _ _ (bz _ _ e) (λz=>by rw[z,aJ] at e;cases e) (λz=>by rw[z,bd] at e;cases e);have aV:=S _ _ bx (Ne.symm aB) (Ne.symm aN);have aW:=af.keep (H'':=H7) λl q u e=>S _ _ e (λz=>u (.inl z)) (λz=>u (.inr z));obtain⟨ps,bA,bg⟩:=Ij (aF.tk a3);refine⟨ah,rv,ps,rfl,S _ _ aE aO aP,by rw[aU];exact BC (by omega),bA,λNw bB=>?_⟩;obtain⟨H8,bC,s8,bD⟩:=new_at (o:=.dK (KA [] ps)) bB;rw[<-bC];have aH:=b9.trans s8;have aX:=aW.keep (H'':=H8) λl q _ e=>s8 _ _ e;have aY:DY H8 A (BS as fs):=ar.go s8.tk λ_ e=>s8 _ _ e;have aZ:=s8 _ _ aV;have bI:=s8 _ _ an;have lA:(BS as fs).length=m:=by rw[Qo];exact be
 clear af aW ar ak a3 aV an S
 refine⟨⟨_,Af.of (aH _ _ ab)⟩,PL (xs:=(List.range m).map λj:Nat=>V.int j) (λD i C r=>∃d:List Int,C=d.map V.int/\Ac H8 r/\r D=some (.lst C)/\d.length<=i/\(∀k∈d,∃j:Nat,k=(j:Int)/\j<qs.length/\(BS as fs)[j]?=some none)/\(fs=[]->d=[])/\∀k:Nat,k<i->(BS as fs)[k]?=some none->(k:Int)∈d\/∃(l:Addr)(us:List Int),AK bf (.inl (k:Int))=some (.ref l)/\H8 l=some (.lst (us.map V.int))/\∀ax∈us,∀f∈fs,f.1≠ax)
  (λD G=>⟨[],rfl,Bb G,Aa,AB _,(λk I=>by cases I),λ_=>rfl,λk I=>absurd I (Nat.not_lt_zero _)⟩) (λD i C r p=>?_) (λD i x C H9 RR R0 G u p k k0=>?_) (λD C H9 G p=>?_)⟩
 obtain⟨d,_,s,_⟩:=p;exact Af.of (s _ _ (aH _ _ ab));refine AL λY c=>?_;obtain⟨d,rfl,E,au,lz,M,L,al⟩:=p;refine c ?_;clear c;have hi:i<m:=by have:=(A9.mp u).1;rw[Al,List.length_range] at this;exact this
 rw[FK hi] at u;cases u;have bE:DY H9 A (BS as fs):=aY.go E.tk λ_ e=>E _ _ e;obtain⟨q,v,e1,e2,hc⟩:=bE.get (k:=i) (by omega);refine Or.inl ⟨q,v,Af.of e1,e2,rfl,?_⟩;rcases hc with⟨ho,rfl⟩|⟨p,tt,ho,rfl,_⟩;refine Ao (λ_=>?_) (λh=>absurd (A5 rfl) h);obtain⟨B,l,us,u,hB,hu,ag⟩:=aX.us i (by omega) ho;refine⟨U,.ref l,rfl,by rw[<-hu.1];exact Dk.k (k:=.inl (i:Int)) (E _ _ aZ),l,Nw,us,KA [] ps,rfl,E _ _ hu.2.1,hu.2.2.1,E _ _ bD,λbP a4=>⟨rfl,Ao (λhb=>?_) (λhb=>?_)⟩⟩;obtain⟨ax,_,ba⟩:=Gq.mp hb;rw[Xb bg] at ba;obtain⟨f,hf,_⟩:=Gq.mp ba;have bJ:=E.trans a4;refine k _ _ (a4 _ _ au) (by rw[Al];exact BC (by omega)) ⟨d++[(i:Int)],by rw[Bk];rfl,λb o e=>?_,Aa,by rw[AV,Dh];omega,λa6 J=>?_,λe=>(by rw[e] at hf;cases hf),λj hj e=>?_⟩;rw[AD (AH e G)];exact bJ _ _ e;rcases BF.mp J with J|J;exact M a6 J;exact⟨i,AY.mp J,by omega,ho⟩;by_cases ej:j=i;subst ej;exact .inl (by simp);rcases al j (by omega) e with h|h;exact .inl (Ej _ h);exact .inr h;refine k0 _ ⟨d,rfl,E.trans a4,a4 _ _ au,by omega,M,L,λj hj e=>?_⟩;by_cases ej:j=i;subst ej;refine .inr ⟨l,us,hu.1,hu.2.1,λax bF f hf z=>hb (Gq.mpr ⟨ax,bF,?_⟩)⟩;rw[Xb bg];exact Gq.mpr ⟨f,hf,A5 z⟩;exact al j (by omega) e;refine Ao (λh=>absurd (Bi h) (by simp)) (λ_=>Bg (k0 _ ⟨d,rfl,E,au,by omega,M,L,λj hj e=>?_⟩));by_cases ej:j=i;subst ej;rw[ho] at e;cases e;exact al j (by omega) e;refine AL λY c=>?_;obtain⟨d,rfl,E,au,lz,M,L,al⟩:=p;refine c ?_;clear c;rw[Al,List.length_range] at lz al;have bK:((n+1:Nat):Int)=(n:Int)+1:=by push_cast;rfl
 have bG:=aX.keep (H'':=H9) λl q _ e=>E _ _ e;refine⟨nn (BS as fs)+(if d=[] then 0 else 1),?_,n+1,BS as fs,Dd O ((n:Int)+1) fs,d,D,bf,_,_,_,_,by rw[bK];rfl,aH.trans E,au,aY.go E.tk λ_ e=>E _ _ e,E _ _ bI,E _ _ aZ,bG.trn M L λk I e=>?_,by omega,rfl⟩
 rw[bv,Aj hd]
 cases bb:fs with
 |nil =>
   rw[Ak (L bb)];exact Nat.lt_succ_of_le (TD [] as)
 |cons f aw =>
   obtain⟨k,e1,e2,e3⟩:=opn f (by rw[bb];exact Bz);have:=OD (f:=f) (fs:=aw) (as:=as) (by rw[e1,Bl];exact e3);by_cases z0:d=[];rw[Ak z0];omega;rw[Aj z0];omega
 rcases al k (by omega) e with h|⟨l,us,h1,h2,h3⟩;exact .inl h;exact .inr ⟨l,us,h1,E _ _ h2,h3⟩
inductive GJ (K:Ah) (vs:List V) (H:Hp) (Q:VK):Prop where
 |mk (nt t:Addr) (F:Addr->Prop) (W:Wd) (qs:List Qu) (inn:Int) (ord:List (Str×Str)) (h0:vs=[.ref nt,.ref t]) (h1:LN K F H nt t W qs inn ord) (h2:J6 W qs inn ord) (h3:∀(r A Tn:Addr)(n:Nat)(as:List AM)(ts:List Int)(H':Hp),Ac H H'->H A=none->H Tn=none->A≠Tn->H' r=some (.tup [.ref A,.ref Tn])->DY H' A as->H' Tn=some (.lst (ts.map V.int))->Run W qs inn ord n as ts->IL W qs inn ord as as->Q (.ref r) H'):GJ K vs H Q
def i3 (K:Ah):Sp:=λvs H Q _=>GJ K vs H Q
variable (P w K mg base) in
abbrev QP:Prop:=BG P w K mg base "still" 10 ["net", "table"] (i3 K)
theorem i4(B:BH mg)(aa:UA P w K mg base)(F:Br K "still" "still" Rx f fd)(u:mg "still" = some (.ref f)):QP P w K mg base:=by
 refine B1 F u Xh (λv H Q E h=>?_) (λal A ao s H v Q E hr h=>?_);obtain⟨c,t,F,W,qs,k,l,rfl,_⟩:=h;rfl;obtain⟨c,t,F,W,qs,k,l,rfl,d,G,q⟩:=h;obtain⟨aj,ak,R,us,Gs,Es,an,x,y,e⟩:=d.net;have lq:=G.lq;have ai:(((x.map V.ref).length:Nat):Int)=((qs.length:Nat):Int):=(by rw[Al,e.tq.len])
 refine⟨_,(Am (AQ (i:=2) Xh.nd (BM DK B.b_len (Ab (AE AF (pv 0) Ai) Ae)))
  (Au (AX (A6 aa (Ab (pv 0) (Ab (pv 1) (Ab (AA W6 (Cp (Ab Gu Ae)) (pv 2)) (Ab (G1 (dO rfl) B.b_list (Ab (G1 dN B.b_range (Ab (pv 2) Ae)) Ae)) Ae)))))))),?_⟩
 (try dsimp only[AG,Cx.nox,Cx.wish]);refine Or.inr (Or.inl ⟨_,.ref R,Aq.of y,rfl,_,Or.inl ⟨_,Af.of e.er,rfl⟩,?_⟩);rw[ai];refine⟨HC,λZ z=>?_⟩;have C:=Bb (o:=.lst [.non]) z;refine⟨Z,_,_,rfl,rfl,Aa,by omega,?_,λa ab=>?_⟩;show 1*_<=1000;rw[Bl];omega;have m:(upd (upd H Z (.lst [.non])) a (.lst (List.replicate ((qs.length:Nat):Int).toNat [V.non]).flatten)) a=some (.lst (List.replicate qs.length .non)):=(by rw[Aa,Bl,Xc]);have g:=C.trans (Bb (o:=.lst (List.replicate ((qs.length:Nat):Int).toNat [V.non]).flatten) ab);generalize upd (upd H Z (.lst [.non])) a (.lst (List.replicate ((qs.length:Nat):Int).toNat [V.non]).flatten)=H2 at m g ⊢;refine⟨_,rfl,λp D=>⟨p,qs.length,rfl,Aa,by omega,λI ae=>?_⟩⟩;have J:=Bb (o:=.rng 0 ((qs.length:Nat):Int)) D;have j:=J.trans (Bb (o:=.lst ((List.range qs.length).map λi:Nat=>V.int i)) ae);have b:=g.trans j;exact⟨c,t,a,I,F,W,qs,k,l,rfl,d.same b,G,j _ _ m,Aa,λr A L n M N O S T af ag U X ah Y nx=>q r A L n M N O (b.trans S) (b.free T) (b.free af) ag U X ah Y nx⟩
def OY (n:Int):Nat->Int
 |0=>n
 |k+1=>OY n k/999
abbrev i6 (x:Int):Int:=if 4<x then 4 else x
def OZ (n:Int) (pl g:Nat):Option (Str×Int):=if n%9<2 then none else if n%9=2 then some ("none",n/9%pl) else if n%9=3 then some ("torn",n/9%pl) else some ("thing",n/9%g)
def MK (n:Int) (qs:List Qu) (g k:Nat):List (Option (Str×Int)):=(List.range k).map λj=>OZ (OY n j) ((qs.getD j default).2.2.length) g
def Ko (c:Int) (qs:List Qu) (g:Nat):List (Option (Str×Int)):=MK (c*864691128455135233%2305843009213693951) qs g qs.length
theorem i7(n:Int)(qs:List Qu)(g k:Nat):MK n qs g (k+1)=MK n qs g k++[OZ (OY n k) ((qs.getD k default).2.2.length) g]:=by unfold MK;rw[List.range_succ,Bk];rfl
theorem XE(n:Int)(qs:List Qu)(g k:Nat):(MK n qs g k).length=k:=by unfold MK;rw[Al,List.length_range]
theorem XF(c:Int)(qs:List Qu)(g:Nat):(Ko c qs g).length=qs.length:=XE _ _ _ _
theorem Kp{g:Nat}(b:1<=g){p:Str×Int}(h:some p∈Ko c qs g)(e:p.1=("thing" : Str)):0<=p.2/\p.2<g:=by
 obtain⟨j,_,a⟩:=Bn.mp h;unfold OZ at a;split at a;cases a;split at a;cases a;exact absurd e Qb;split at a;cases a;exact absurd e Ta;cases a;exact⟨EK _ (by omega),EZ _ (by omega)⟩
inductive CO (K:Ah) (vs:List V) (H:Hp) (Q:VK):Prop where
 |mk (c:Int) (nt S T R:Addr) (ts qt:List Addr) (qs:List Qu) (h0:vs=[.int c,.ref nt]) (h1:Aq K H nt [.ref S,.ref T,.ref R]) (h2:H T=some (.lst (ts.map V.ref))) (h3:1<=ts.length) (h4:H R=some (.lst (qt.map V.ref))) (h5:QT H qt qs) (h6:qs.length<=100) (h7:(∀q∈qs,1<=q.2.2.length)) (h8:∀(D:Addr)(vs':List V)(H':Hp),H D=none->Ac H H'->H' D=some (.lst vs')->Ax (λ_=>False) H' vs' ((Ko c qs ts.length).map Bp)->Q (.ref D) H'):CO K vs H Q
def i8 (K:Ah):Sp:=λvs H Q _=>CO K vs H Q
variable (P w K mg base) in
abbrev QQ:Prop:=BG P w K mg base "_law_answers" 1 ["_law_cell", "_law_net"] (i8 K)
theorem i9(B:BH mg)(F:Br K "_law_answers" "_law_answers" Ry f fd)(hm:mg "_law_answers" = some (.ref f)):QQ P w K mg base:=by
 refine B1 F hm Nm (λvs H ai aj h=>?_) (λa7 a3 a9 s H vs ai aj hr h=>?_);obtain⟨c,W,ak,T,R,m,X,qs,rfl,_⟩:=h;rfl
 . obtain⟨c,W,ak,T,R,m,X,qs,rfl,Y,eT,lT,Z,t,a8,an,al⟩:=h
   refine⟨_,(Am (AQ (i:=2) Nm.nd (AA Bf (AA EG (pv 0) Ai) Ai))
    (Am (AQ (i:=3) Nm.nd (Cp Ae))
    (Am (CB Cm rfl (C6 (AE AF (pv 1) Ai)) (Ay (i:=4) Nm.nd) (Am (AQ (i:=5) Nm.nd (AA Bf (AA EN (pv 2) Ai) (BM DK B.b_len (Ab (AE AF (pv 4) Ai) Ae))))
     (Am (Df (Dj DI Ep Er Eu (pv 3) (Ab (AE AF (Cp (Ab Gu (Ab Gu (Ab (Bs (Ab BZ (Ab (pv 5) Ae))) (Ab (Bs (Ab BZ (Ab (pv 5) Ae))) (Ab (Bs (Ab BZ (Ab (AA Bf (AA EN (pv 2) Ai) (BM DK B.b_len (Ab (AE AF (pv 1) Ai) Ae))) Ae))) Ae)))))) (BM (UR rfl) B.b_min (Ab (AA Bf (pv 2) Ai) (Ab Ai Ae)))) Ae)))
     (Au (AQ (i:=2) Nm.nd (AA EN (pv 2) Ai))))))
    (Au (AX (pv 3)))))),?_⟩
   (try dsimp only[AG,Cx.nox,Cx.wish]);refine⟨Or.inr ⟨by decide,by decide⟩,(by show(0:Int)<2305843009213693951;decide),?_⟩;refine⟨by decide,λD u=>?_⟩;obtain⟨a4,ao,y,eD⟩:=new_at (o:=.lst []) u;rw[<-ao];refine Or.inr (Or.inl ⟨_,.ref R,y.seqT Y,rfl,⟨_,Af.of (y _ _ Z)⟩,EM (xs:=X.map V.ref) (λi σ p=>∃z A a,σ=[some (.int c),some (.ref W),some (.int (OY (c*864691128455135233%2305843009213693951) i)),some (.ref D),z,A]/\Ac H p/\p D=some (.lst a)/\Ax (λ_=>False) p a ((MK (c*864691128455135233%2305843009213693951) qs m.length i).map Bp)) ⟨none,none,[],rfl,y,eD,.nil⟩ (λi σ p _ aq=>by obtain⟨_,_,_,_,s,_⟩:=aq;exact Af.of (s _ _ Z)) ?_ ?_⟩);rotate_left;refine λσ H2 Q=>AL λNz l=>?_;obtain⟨z,A,a,rfl,d,r,g⟩:=Q;refine l ?_;clear l;rw[Al,t.len] at g;exact al D a _ u d r g;refine λi a5 σ H2 hy Q=>AL λNz l=>?_;obtain⟨z,A,a,rfl,d,r,g⟩:=Q;refine l ?_;clear l;obtain⟨tq,aa,rfl⟩:=getm hy;have ab:i<qs.length:=by rw[<-t.len];exact(A9.mp aa).1
   have S:=AC ab;obtain⟨pu,ae,af⟩:=t.at_ i _ _ aa S;have ar:=an _ (D9 ab);have eg:qs.getD i default=qs[i]:=by rw[BY,S];rfl
   generalize qs[i]=k at ae af ar S eg;generalize hn:OY (c*864691128455135233%2305843009213693951) i=n at *;have ag:(k.2.2.map V.str).length=k.2.2.length:=Al _;refine⟨⟨by decide,by decide⟩,Or.inr (Or.inl ⟨_,.ref pu,Aq.of (d _ _ ae),rfl,_,Or.inr ⟨_,Aq.of (d _ _ af),rfl⟩,(by rw[ag];omega),?_⟩)⟩;rw[ag];refine⟨Or.inl ⟨rfl,_,Af.of r⟩,B7,λC au=>?_⟩
   obtain⟨H3,av,t1,e1⟩:=new_at (o:=.tup [.str "none",.int (n/9%k.2.2.length)]) au;rw[<-av];refine⟨B7,λJ aw=>?_⟩;obtain⟨H4,ax,E,e2⟩:=new_at (o:=.tup [.str "torn",.int (n/9%k.2.2.length)]) aw;rw[<-ax];have s4:=d.trans (t1.trans E);refine⟨⟨by decide,by decide⟩,Or.inr (Or.inl ⟨_,.ref T,s4.seqT Y,rfl,_,Or.inl ⟨_,Af.of (s4 _ _ eT),rfl⟩,(by rw[Al];omega),B7,λG ay=>?_⟩)⟩;rw[Al];obtain⟨H5,az,I,e3⟩:=new_at (o:=.tup [.str "thing",.int (n/9%m.length)]) ay;rw[<-az];refine⟨(by show 5<=sizeLine;decide),λa6 hl=>?_⟩;obtain⟨L,a0,q,el⟩:=new_at (o:=.lst [.non,.non,.ref C,.ref J,.ref G]) hl;rw[<-a0];have m0:=EK n (by decide:(9:Int)≠0)
   have hk:∃v,Bt [V.non,.non,.ref C,.ref J,.ref G] (if 4<n%9 then 4 else n%9)=some v/\A4 (λ_=>False) L v (Bp (OZ n k.2.2.length m.length)):=by
    unfold OZ;by_cases k1:n%9<2;rw[Aj (by omega),Ak k1];rcases(show n%9=0\/n%9=1 by omega) with e|e;exact⟨.non,by rw[e];exact BN (j:=0) rfl,.non⟩;exact⟨.non,by rw[e];exact BN (j:=1) rfl,.non⟩;rw[Aj k1];by_cases M:n%9=2;rw[Aj (by omega),Ak M];exact⟨.ref C,by rw[M];exact BN (j:=2) rfl,.tup ((E.trans (I.trans q)) _ _ e1) (.cons (.str _) (.cons (.int _) .nil))⟩;rw[Aj M];by_cases N:n%9=3;rw[Aj (by omega),Ak N];exact⟨.ref J,by rw[N];exact BN (j:=3) rfl,.tup ((I.trans q) _ _ e2) (.cons (.str _) (.cons (.int _) .nil))⟩;rw[Aj N]
    have k4:(if 4<n%9 then 4 else n%9)=4:=by split<;>omega
    rw[k4];exact⟨.ref G,BN (j:=4) rfl,.tup (q _ _ e3) (.cons (.str _) (.cons (.int _) .nil))⟩
   obtain⟨v,a1,a2⟩:=hk;have U:=(t1.trans E).trans (I.trans q);have ah:=U _ _ r;have lv:a.length=i:=(by rw[g.length,Al,XE]);refine⟨(by show(0:Int)<9;decide),_,_,rfl,Or.inl ⟨_,v,Af.of el,a1,_,ah,BC (by omega),?_⟩⟩;have kD:Keeps (·=D) L (upd L D (.lst (a++[v]))):=Keeps.one ah;refine⟨⟨by decide,by decide⟩,?_⟩;refine⟨_,_,a++[v],(by rw[<-hn];rfl),λb o e=>?_,Aa,?_⟩;rw[AD (AH e u)];exact U _ _ (d _ _ e);rw[i7,hn,eg,Bk];exact((g.same U).keeps kD λx O=>O.elim).snoc (a2.keeps kD λx O=>O.elim)
inductive Iy (K:Ah) (vs:List V) (H:Hp) (Q:VK):Prop where
 |mk (nt A t:Addr) (F:Addr->Prop) (W:Wd) (qs:List Qu) (inn:Int) (ord:List (Str×Str)) (n:Int) (k:Nat) (q:Qu) (h0:vs=[.ref nt,.ref A,.ref t,.int n]) (h1:n=k) (h2:qs[k]?=some q) (h3:LC K F H nt A t W qs inn ord) (h4:Qc W qs inn ord) (h5:∀(v:V)(a:Option (Str×Int))(w:Option Wt)(ls:List Lk)(ts:List Int)(H':Hp),Ac H H'->A4 (λx=>H x=none) H' v (.tup [Bp a,HU w])->LU W inn ord q.1 q.2.1 q.2.2 0 a w ls ts->Q v H'):Iy K vs H Q
def XG (K:Ah):Sp:=λvs H Q _=>Iy K vs H Q
variable (P w K mg base) in
abbrev QR:Prop:=BG P w K mg base "find" 8 ["net", "answers", "table", "question"] (XG K)
theorem jA(B:BH mg)(Y:OW P w K mg base)(F:Br K "find" "find" Rz f fd)(v:mg "find" = some (.ref f)):QR P w K mg base:=by
 refine B1 F v OH (λx H Q E h=>?_) (λak A an s H x Q E hr h=>?_);obtain⟨j,A,t,F,W,qs,m,p,n,k,q,rfl,_⟩:=h;rfl;obtain⟨j,A,t,F,W,qs,m,p,n,k,q,rfl,rfl,c,d,ok,y⟩:=h;obtain⟨af,T,R,us,Gs,Es,l,b,z,e⟩:=d.net;have Z:k<qs.length:=(A9.mp c).1;have aa:k<b.length:=by rw[e.tq.len];exact Z
 have r:=AC aa;obtain⟨u,eq,C⟩:=e.tq.at_ k _ q r c;have ab:Bt (b.map V.ref) (k:Int)=some (.ref b[k]):=BN (by rw[Bh,r];rfl);obtain⟨D,G,I,J⟩:=ok.q q (Bd c)
 refine⟨_,(Am (Eb (A6 Y (Ab (pv 0) (Ab (pv 1) (Ab (pv 2) (Ab (AE AF (AE AF (pv 0) Ai) (pv 3)) Ae))))) (Co (n:=4) rfl (AI (Ay (i:=4) OH.nd) (AI (Ay (i:=5) OH.nd) (AI (Ay (i:=6) OH.nd) (AI (Ay (i:=7) OH.nd) Cn))))))
  (Au (AX (Bs (Ab (pv 4) (Ab (pv 5) Ae)))))),?_⟩
 (try dsimp only[AG,Cx.nox,Cx.wish]);refine Or.inr (Or.inl ⟨_,.ref R,Aq.of z,rfl,Or.inl ⟨_,.ref b[k],Af.of e.er,ab,j,A,t,b[k],u,F,W,m,p,q,rfl,d.caseH,d.tab,ok.ok,ok.sm,ok.ol,ok.irr,ok.inn,eq,C,D,G,I,J,λag ah T L M lv a w ls l ai N O hL eL eT S U al ae=>?_⟩⟩);refine⟨_,Aq.of O,rfl,?_⟩;refine⟨B7,λaj X=>?_⟩;have g:=Bb (o:=.tup [L,M]) X;exact y _ a w ls l _ (N.trans g) (.tup Aa (.cons (S.same g) (.cons (U.same g) .nil))) ae
theorem XH{b:List Dt}(h:Ar K H v (.lst b)):∃a vs,v=.ref a/\Af K H a vs/\An K H vs b:=by cases h with|lst h t=>exact⟨_,_,rfl,h,t⟩
theorem XI{b:List Dt}(h:Ar K H v (.tup b)):∃a vs,v=.ref a/\Aq K H a vs/\An K H vs b:=by cases h with|tup h t=>exact⟨_,_,rfl,h,t⟩
def O0:Dt->Ty
 |.non=>.non
 |.bl _=>.bool
 |.int _=>.int
 |.str _=>.str
 |.tup _=>.tup
 |.lst _=>.lst
theorem QS(h:Ar K H v d):Jo K H v (O0 d):=by
 cases h with
 |non=>exact .non
 |bl b=>exact .bl b
 |int i=>exact .int i
 |str x=>exact .str x
 |tup h t=>exact .tup h
 |lst h t=>exact .lst h
theorem Kq(h:Ar K H v d):v=.non↔d=.non:=by
 cases h<;>simp
def QU (K:Ah) (n:Nat):Sp:=λvs H Q _=>∃(x y:V)(d e:Dt),vs=[x,y]/\Ar K H x d/\Ar K H y e/\Dn n d/\Dn n e/\∀(b:Bool)(H':Hp),Ac H H'->(b=true↔d=e)->Q (.bl b) H'
abbrev jB (K:Ah):Sp:=QU K 8
theorem jC(B:BH mg)(n:Nat)(ai:BG P w K mg base "_law_same" (0+n) ["_law_found", "_law_due"] (QU K n))(F:Br K "_law_same" "_law_same" Nu f fd):Et P w K mg base IH (0+n+1) f fd ["_law_found", "_law_due"] (QU K (n+1)):=by
 refine F.ok TN (λvs H ag ah h=>?_) (λak aj al s H vs ag ah hr h=>?_);obtain⟨x,y,d,af,rfl,_⟩:=h;rfl;obtain⟨x,y,d,af,rfl,g,G,hd,U,q⟩:=h
 refine⟨_,(Am (Bm (FZ (GN (pv 1))) (Au (AX (RE (GN (pv 0))))) Bo)
  (Am (Bm (Gb (BM Jp B.b_isinstance (Ab (pv 1) (Ab (Jq "str" rfl B.b_str (by decide +kernel)) Ae)))) (Au (AX (RG (BM Jp B.b_isinstance (Ab (pv 0) (Ab (Jq "str" rfl B.b_str (by decide +kernel)) Ae))) (Hf (Jb CC (pv 0) (pv 1) (Bw _)))))) Bo)
  (Am (Bm (Gb (BM Jp B.b_isinstance (Ab (pv 1) (Ab (Jq "int" rfl B.b_int (by decide +kernel)) Ae)))) (Au (AX (RG (BM Jp B.b_isinstance (Ab (pv 0) (Ab (Jq "int" rfl B.b_int (by decide +kernel)) Ae))) (RG (K9 (BM Jp B.b_isinstance (Ab (pv 0) (Ab (Jq "bool" rfl B.b_bool (by decide +kernel)) Ae)))) (Hf (Jb CC (pv 0) (pv 1) (Bw _))))))) Bo)
  (Am (Bm (PW.pt (Gw (Gb (BM Jp B.b_isinstance (Ab (pv 1) (Ab (Jq "list" rfl B.b_list (by decide +kernel)) Ae)))) (Gv (MX (Gb (BM Jp B.b_isinstance (Ab (pv 0) (Ab (Jq "list" rfl B.b_list (by decide +kernel)) Ae)))))))) (Au (AX IW)) Bo)
  (Am (Bm (PW.pt (Gw (Gb (BM Jp B.b_isinstance (Ab (pv 1) (Ab (Jq "tuple" rfl B.b_tuple (by decide +kernel)) Ae)))) (Gv (MX (Gb (BM Jp B.b_isinstance (Ab (pv 0) (Ab (Jq "tuple" rfl B.b_tuple (by decide +kernel)) Ae)))))))) (Au (AX IW)) Bo)
  (Am (Bm (BJ Po (BM DK B.b_len (Ab (pv 0) Ae)) (BM DK B.b_len (Ab (pv 1) Ae)) (Bw _)) (Au (AX IW)) Bo)
  (Am (CB Cm rfl (Wc rfl B.b_zip (Ab (pv 0) (Ab (pv 1) Ae))) (Co (n:=2) rfl (AI (Ay (i:=2) TN.nd) (AI (Ay (i:=3) TN.nd) Cn))) (Au (Bm (MX (Gb (A6 ai (Ab (pv 2) (Ab (pv 3) Ae)) (hr.mono (by omega))))) (Au (AX IW)) Bo)))
  (Au (AX IW))))))))),?_⟩
 try dsimp only[AG,Cx.nox,Cx.wish]
 cases af with
 |non =>
   cases G;refine⟨rfl,Ao (λ_=>?_) (λh=>absurd (A5 rfl) h)⟩;exact q _ _ (Ac.refl _) ((decide_eq_true_iff).trans (Kq g))
 |bl b=>exact False.elim U
 |int s =>
   cases G;refine⟨rfl,Ao (λh=>absurd (Bi h) (by simp)) (λ_=>?_)⟩;refine⟨_,.str,.int,rfl,.int s,rfl,Bg ?_⟩;refine⟨_,.int,.int,rfl,.int s,rfl,C7 ?_⟩;refine⟨_,.int,O0 d,rfl,QS g,_,rfl,?_⟩
   cases d with
   |bl _=>exact False.elim hd
   |int Z =>
     cases g;refine C7 ⟨_,.bool,.int,rfl,.int _,_,rfl,_,rfl,C7 ⟨rfl,?_⟩⟩;refine q _ _ (Ac.refl _) ⟨λz=>?_,λz=>?_⟩;rw[V.int.inj (Bi z)];cases z;exact A5 rfl
   |_=>exact Bg (q false _ (Ac.refl _) ⟨λz=>(by cases z),λz=>(by cases z)⟩)
 |str s =>
   cases G;refine⟨rfl,Ao (λh=>absurd (Bi h) (by simp)) (λ_=>?_)⟩;refine⟨_,.str,.str,rfl,.str s,rfl,C7 ?_⟩;refine⟨_,.str,O0 d,rfl,QS g,_,rfl,?_⟩
   cases d with
   |bl _=>exact False.elim hd
   |str Z =>
     cases g;refine C7 ⟨rfl,?_⟩;refine q _ _ (Ac.refl _) ⟨λz=>?_,λz=>?_⟩;rw[V.str.inj (Bi z)];cases z;exact A5 rfl
   |_=>exact Bg (q false _ (Ac.refl _) ⟨λz=>(by cases z),λz=>(by cases z)⟩)
 | lst k =>
   obtain⟨b,W,rfl,e,I⟩:=XH G;have p:=I.length;refine⟨rfl,Ao (λh=>absurd (Bi h) (by simp)) (λ_=>?_)⟩;refine⟨_,.str,.lst,rfl,.lst e,rfl,Bg ?_⟩;refine⟨_,.int,.lst,rfl,.lst e,rfl,Bg ?_⟩;refine⟨_,.lst,.lst,rfl,.lst e,rfl,C7 ⟨_,.lst,O0 d,rfl,QS g,rfl,?_⟩⟩
   cases d with
   |lst r =>
     obtain⟨a,us,rfl,t,J⟩:=XH g;have u:=J.length;refine Bg ⟨_,.tup,.lst,rfl,.lst e,rfl,Bg (Bg ?_)⟩;refine⟨_,Or.inl ⟨_,t,rfl⟩,_,Or.inl ⟨_,e,rfl⟩,rfl,rfl,Ao (λh=>?_) (λh=>?_)⟩;refine q false _ (Ac.refl _) ⟨λz=>(by cases z),λz=>?_⟩;cases z;rw[u,p] at h;simp at h
     have X:r.length=k.length:=by
      rw[u,p] at h;simp at h;omega
     refine⟨a,b,rfl,Or.inl ⟨⟨_,t⟩,⟨_,e⟩,Ve (xs:=us) (ys:=W) (λi σ L=>∃v A,σ=[some (.ref a),some (.ref b),v,A]/\Ac H L/\∀j:Nat,j<i->r[j]?=k[j]?) ⟨none,none,rfl,Ac.refl _,λj M=>absurd M (Nat.not_lt_zero _)⟩ (λi σ L aa=>by obtain⟨_,_,_,s,_⟩:=aa;exact⟨s.seq t,s.seq e⟩) ?_ ?_⟩⟩;rintro i x y T σ Y ab ae hT ⟨v,A,rfl,C,D⟩;obtain⟨N,l,t1⟩:=J.get ab;obtain⟨O,E,t2⟩:=I.get ae;have Q:=Bb (o:=.tup [x,y]) hT;refine⟨_,Aq.of Aa,rfl,?_⟩;generalize upd Y T (.tup [x,y])=H2 at Q ⊢;have m:=C.trans Q;refine⟨x,y,N,O,rfl,t1.same m,t2.same m,hd N (Bd l),U O (Bd E),λbb H3 R S=>⟨rfl,?_⟩⟩
     cases bb with
     |false =>
       refine C7 (q false _ (m.trans R) ⟨λz=>(by cases z),λz=>?_⟩);have e1:r=k:=by cases z;rfl
       rw[e1,E] at l;have:=S.mpr (Bv l).symm;cases this
     |true =>
       refine Bg ⟨_,_,rfl,m.trans R,λj M=>?_⟩;by_cases c:j=i;rw[c,l,E,S.mp rfl];exact D j (by omega)
     rintro σ Y ⟨v,A,rfl,C,D⟩;refine q true _ C ⟨λ_=>?_,λ_=>rfl⟩;congr 1;refine List.ext_getElem? λj=>?_;by_cases c:j<k.length
     exact D j (by simp only[p,u,X,Nat.min_self] at *;omega)
     rw[GK (by omega),GK (by omega)]
   |bl _=>exact False.elim hd
   |_=>exact C7 (q false _ (Ac.refl _) ⟨λz=>(by cases z),λz=>(by cases z)⟩)
 | tup k =>
   obtain⟨b,W,rfl,e,I⟩:=XI G;have p:=I.length;refine⟨rfl,Ao (λh=>absurd (Bi h) (by simp)) (λ_=>?_)⟩;refine⟨_,.str,.tup,rfl,.tup e,rfl,Bg ?_⟩;refine⟨_,.int,.tup,rfl,.tup e,rfl,Bg ?_⟩;refine⟨_,.lst,.tup,rfl,.tup e,rfl,Bg (Bg ?_)⟩;refine⟨_,.tup,.tup,rfl,.tup e,rfl,C7 ⟨_,.tup,O0 d,rfl,QS g,rfl,?_⟩⟩
   cases d with
   |tup r =>
     obtain⟨a,us,rfl,t,J⟩:=XI g;have u:=J.length;refine Bg ?_;refine⟨_,Or.inr ⟨_,t,rfl⟩,_,Or.inr ⟨_,e,rfl⟩,rfl,rfl,Ao (λh=>?_) (λh=>?_)⟩;refine q false _ (Ac.refl _) ⟨λz=>(by cases z),λz=>?_⟩;cases z;rw[u,p] at h;simp at h
     have X:r.length=k.length:=by
      rw[u,p] at h;simp at h;omega
     refine⟨a,b,rfl,Or.inr ⟨⟨_,t⟩,⟨_,e⟩,ZR (xs:=us) (ys:=W) (λi σ L=>∃v A,σ=[some (.ref a),some (.ref b),v,A]/\Ac H L/\∀j:Nat,j<i->r[j]?=k[j]?) ⟨none,none,rfl,Ac.refl _,λj M=>absurd M (Nat.not_lt_zero _)⟩ (λi σ L aa=>by obtain⟨_,_,_,s,_⟩:=aa;exact⟨s.seqT t,s.seqT e⟩) ?_ ?_⟩⟩;rintro i x y T σ Y ab ae hT ⟨v,A,rfl,C,D⟩;obtain⟨N,l,t1⟩:=J.get ab;obtain⟨O,E,t2⟩:=I.get ae;have Q:=Bb (o:=.tup [x,y]) hT;refine⟨_,Aq.of Aa,rfl,?_⟩;generalize upd Y T (.tup [x,y])=H2 at Q ⊢;have m:=C.trans Q;refine⟨x,y,N,O,rfl,t1.same m,t2.same m,hd N (Bd l),U O (Bd E),λbb H3 R S=>⟨rfl,?_⟩⟩
     cases bb with
     |false =>
       refine C7 (q false _ (m.trans R) ⟨λz=>(by cases z),λz=>?_⟩);have e1:r=k:=by cases z;rfl
       rw[e1,E] at l;have:=S.mpr (Bv l).symm;cases this
     |true =>
       refine Bg ⟨_,_,rfl,m.trans R,λj M=>?_⟩;by_cases c:j=i;rw[c,l,E,S.mp rfl];exact D j (by omega)
     rintro σ Y ⟨v,A,rfl,C,D⟩;refine q true _ C ⟨λ_=>?_,λ_=>rfl⟩;congr 1;refine List.ext_getElem? λj=>?_;by_cases c:j<k.length
     exact D j (by simp only[p,u,X,Nat.min_self] at *;omega)
     rw[GK (by omega),GK (by omega)]
   |bl _=>exact False.elim hd
   |_=>exact C7 (q false _ (Ac.refl _) ⟨λz=>(by cases z),λz=>(by cases z)⟩)
theorem jD(B:BH mg)(F:Br K "_law_same" "_law_same" Nu f fd)(a:mg "_law_same" = some (.ref f))(n:Nat):BG P w K mg base "_law_same" (0+n) ["_law_found", "_law_due"] (QU K n):=by
 have b:Binds K fd ["_law_found", "_law_due"] []:=F.binds λ_ _ _ _ _ _ us c=>(by obtain⟨g,i,rfl⟩:=Im c;rfl)
 induction n with
 |zero=>exact⟨f,fd,⟨λd H Q E h=>(by obtain⟨_,_,_,_,_,_,_,h,_⟩:=h;exact False.elim h),λA k s H j us d Q E _ _ _ _ h=>(by obtain⟨_,_,_,_,_,_,_,h,_⟩:=h;exact False.elim h)⟩,a,F.kp,b⟩
 |succ n e=>exact⟨f,fd,jC B n e F,a,F.kp,b⟩
variable (P w K mg base) in
abbrev O1:Prop:=BG P w K mg base "_law_same" 8 ["_law_found", "_law_due"] (jB K)
theorem jE(B:BH mg)(F:Br K "_law_same" "_law_same" Nu f fd)(a:mg "_law_same" = some (.ref f)):O1 P w K mg base:=
 jD B F a 8
theorem O3(n:Nat):∀a:Option (Str×Int),Dn (n+2) (Bp a)
 |none=>True.intro
 |some p=>λd hd=>by
   rcases Ch.mp hd with rfl|hd;exact True.intro;rw[AY.mp hd];exact True.intro
inductive DF (K:Ah) (vs:List V) (H:Hp) (Q:VK):Prop where
 |mk (D A:Addr) (ks as:List AM) (h0:vs=[.ref D,.ref A]) (h1:DY H D ks) (h2:DY H A as) (h3:Later as ks) (h4:∀H',Ac H H'->Q (.bl true) H'):DF K vs H Q
def jF (K:Ah):Sp:=λvs H Q _=>DF K vs H Q
variable (P w K mg base) in
abbrev QV:Prop:=BG P w K mg base "_law_holds" 9 ["_law_known", "_law_answers_here"] (jF K)
theorem jG(B:BH mg)(aa:O1 P w K mg base)(F:Br K "_law_holds" "_law_holds" RA f fd)(M:mg "_law_holds" = some (.ref f)):QV P w K mg base:=by
 refine B1 F M TQ (λN H Q E h=>?_) (λag A ah s H N Q E hr h=>?_);obtain⟨D,A,u,v,rfl,_⟩:=h;rfl;obtain⟨D,A,u,v,rfl,⟨d,g,z⟩,⟨j,k,C⟩,L,q⟩:=h;have O:d.length=u.length:=(by rw[z.length,Al]);have R:j.length=v.length:=(by rw[C.length,Al])
 refine⟨_,(Am (CB Cm rfl (Wc rfl B.b_zip (Ab (pv 0) (Ab (pv 1) Ae))) (Co (n:=2) rfl (AI (Ay (i:=2) TQ.nd) (AI (Ay (i:=3) TQ.nd) Cn))) (Au (Bm (PW.pt (Gw (FZ (MW (pv 3))) (Gv (MX (Gb (A6 aa (Ab (pv 2) (Ab (pv 3) Ae)))))))) (Au (AX IW)) Bo)))
  (Au (AX (Jb CC (BM DK B.b_len (Ab (pv 0) Ae)) (BM DK B.b_len (Ab (pv 1) Ae)) (Bw _))))),?_⟩
 (try dsimp only[AG,Cx.nox,Cx.wish]);refine⟨D,A,rfl,Or.inl ⟨⟨_,Af.of g⟩,⟨_,Af.of k⟩,Ve (xs:=d) (ys:=j) (λi σ G=>∃l m,σ=[some (.ref D),some (.ref A),l,m]/\Ac H G) ⟨none,none,rfl,Ac.refl _⟩ (λi σ G ab=>by obtain⟨_,_,_,s⟩:=ab;exact⟨Af.of (s _ _ g),Af.of (s _ _ k)⟩) ?_ ?_⟩⟩;rintro i x y T σ Y S U W ⟨l,m,rfl,a⟩;have I:=Bb (o:=.tup [x,y]) W;refine⟨_,Aq.of Aa,rfl,?_⟩;generalize upd Y T (.tup [x,y])=H2 at I ⊢;have c:=a.trans I;obtain⟨o,X,r⟩:=Ic (C.same c) U;obtain⟨o',ae,af⟩:=Ic (z.same c) S
 cases o with
 |none =>
   obtain rfl:=r.ansN;exact⟨rfl,Ao (λh=>absurd h (by simp)) (λ_=>Bg ⟨_,_,rfl,c⟩)⟩
 |some p =>
   have J:=L.old i p X;rw[ae] at J;obtain rfl:=Bv J;refine⟨rfl,Ao (λ_=>?_) (λh=>?_)⟩;refine⟨x,y,_,_,rfl,af.dt,r.dt,O3 6 _,O3 6 _,λb H3 Z hb=>⟨rfl,?_⟩⟩;rw[hb.mpr rfl];exact Bg ⟨_,_,rfl,c.trans Z⟩;obtain⟨t,rfl,_⟩:=r.ansS;exact absurd (by simp) h
 rintro σ Y ⟨l,m,rfl,a⟩;refine⟨_,Or.inl ⟨_,Af.of (a _ _ g),rfl⟩,_,Or.inl ⟨_,Af.of (a _ _ k),rfl⟩,rfl,?_⟩;have e:decide (V.int ((d.length:Nat):Int)=V.int ((j.length:Nat):Int))=true:=A5 (by rw[O,R,L.len]);rw[e];exact q _ a
theorem ML{gs:List (Str×Int)}{c:List CP}{inn:Int}{ord:List (Str×Str)}(h:Np ns ss gs qs c inn ord):J6 ⟨ss,gs,[],c⟩ qs inn ord:=by
 have d:=OP ns;have e:=OQ ns;have f:=OR ns (Cd ns).length;have eq:qs.length=BK ns:=(by rw[h.qs,Ue]);have a:=QF (ls:=MF ns) (ns:=Eh ns) d.1 f.1 e.1 (Cd ns) (Cd ns).length;rw[<-h.ss] at a;refine {all:=λi b=>OS h b.len b.rng,tr:=h.tb.ord.tr (Xl (by decide)),s3:=λs g=>?_,lq:=by omega};have:=a.st s g;have:EV (By ns)<=3:=by unfold EV;split<;>omega
 omega
theorem Iz(l:List AM):Dn 8 (.lst (l.map Bp)):=λd hd=>by
 obtain⟨a,_,rfl⟩:=Bn.mp hd;exact O3 5 a
theorem jH:∀{a b:AM},Bp a=Bp b->a=b
 |none,none,_=>rfl
 |some p,some q,h=>by
   have c:[Dt.str p.1,Dt.int p.2]=[Dt.str q.1,Dt.int q.2]:=Dt.tup.inj h;have d:=(List.cons.inj c).1;have e:=(List.cons.inj (List.cons.inj c).2).1;rw[Prod.ext (Dt.str.inj d) (Dt.int.inj e)]
 |none,some _,h=>by cases h
 |some _,none,h=>by cases h
theorem XJ:∀{l m:List AM},l.map Bp=m.map Bp->l=m
 |[],[],_=>rfl
 |a::l,b::m,h=>by
   rw[DN,DN] at h;rw[jH (List.cons.inj h).1,XJ (List.cons.inj h).2]
 |[],_::_,h=>by cases h
 |_::_,[],h=>by cases h
theorem O4{F:Addr->Prop}{e:Dt}(h:A4 F H v (.tup [d,e])):∃p x y,v=.ref p/\H p=some (.tup [x,y])/\A4 F H x d/\A4 F H y e:=by
 cases v with
 |ref m =>
   obtain⟨x,y,a,b,c⟩:=h.two;exact⟨m,x,y,rfl,a,b,c⟩
 |_=>cases h
inductive K3 (K:Ah) (vs:List V) (H:Hp) (Q:VK):Prop where
 |mk (a:Addr) (ns:List Int) (h0:vs=[.ref a]) (h1:Af K H a (ns.map V.int)) (h2:ns.length<=63) (h3:∀H',Q (.bl true) H'):K3 K vs H Q
def O5 (K:Ah):Sp:=λvs H Q _=>K3 K vs H Q
theorem IA(B:BH mg)(ba:QH P w K mg base)(bb:QP P w K mg base)(bw:QQ P w K mg base)(aD:OK P w K mg base)(aU:QR P w K mg base)(aE:O1 P w K mg base)(bx:QV P w K mg base)(F:Br K "law" "law" ID f fd):Et P w K mg base IH 11 f fd ["_law_script"] (O5 K):=by
 refine F.ok Ik (λvs H aq aV h=>?_) (λb4 ab bG s H vs aq aV hr h=>?_);obtain⟨a,ns,rfl,_⟩:=h;rfl
 . obtain⟨a,ns,rfl,hS,bz,kq⟩:=h
   refine⟨_,(Am (Eb (A6 ba (Ab (pv 0) Ae)) (Co (n:=2) rfl (AI (Ay (i:=1) Ik.nd) (AI (Ay (i:=2) Ik.nd) Cn))))
    (Am (AQ (i:=3) Ik.nd (AE AF (A6 bb (Ab (pv 1) (Ab (pv 2) Ae))) Ai))
    (Am (AQ (i:=4) Ik.nd (G1 R8 B.b_list (Ab (pv 3) Ae)))
    (Am (AQ (i:=5) Ik.nd (A6 bw (Ab (A6 aD (Ab (pv 0) (Ab Ai Ae))) (Ab (pv 1) Ae))))
    (Am (Bm (BJ CC (AA Bf (A6 aD (Ab (pv 0) (Ab Ai Ae))) Ai) Ai (Bw _)) (Au (AQ (i:=5) Ik.nd (G4 (te:=Gc (Hr K) (NO (Hm (Gc (Hr K) (BB 1) (BB 0)) (Hm (Gc (Hr K) (BB 2) (BB 0)) GP))) (Pq (λxs H aq=>(∃i,xs=[V.int i]/\aq (.int i) H)\/∃k,xs=[V.bl k]/\aq (.int (if k then 1 else 0)) H) (Hm (Hc (Gc (Hr K) (BB 2) (BB 0))) GP))) rfl GG (Hi rfl B.b_range (Ab (BM DK B.b_len (Ab (pv 4) Ae)) Ae)) (λ_ _ _ _ _=>(Ay (i:=0) GG.nd)) (λ_ _ _ _ _=>Hz) (λ_ _ _ _ _=>(AE AF (Cp (Ab (AE AF (pv 1) (pv 0)) (Ab (AE AF (pv 2) (pv 0)) Ae))) (G1 RS B.b_int (Ab (RE (MW (AE AF (pv 2) (pv 0)))) Ae))))))) Bo)
    (Am (CB Cm rfl (Hi rfl B.b_range (Ab Ai Ae)) (Ay (i:=6) Ik.nd) (Am (Sh (i:=7) Ik.nd rfl (Or.inl rfl) (te:=Gc (Hr K) (Pp (XG K) [] E0 (Hm (BB 1) (Hm (BB 2) (Hm (BB 3) (Hm (BB 0) GP))))) (tC (.int ((0:Nat):Int)))) rfl GH (Hi rfl B.b_range (Ab (BM DK B.b_len (Ab (pv 5) Ae)) Ae)) (λ_ _ _ _ _=>(Ay (i:=0) GH.nd)) (λ_ _ _ _ _=>Hz) (λ_ _ _ _ _=>(AE AF (A6 aU (Ab (pv 1) (Ab (pv 2) (Ab (pv 3) (Ab (pv 0) Ae))))) Ai)))
     (Am (Bm (Gb (A6 aE (Ab (pv 7) (Ab (pv 5) Ae)))) (Au (Bm (MX (Gb (A6 bx (Ab (pv 5) (Ab (pv 4) Ae))))) (Au (AX IW)) Bo)) Bo)
     (Au (AQ (i:=5) Ik.nd (pv 7))))))
    (Am (CB Cm rfl (Hi rfl B.b_range (Ab (BM DK B.b_len (Ab (pv 4) Ae)) Ae)) (Ay (i:=8) Ik.nd) (Au (Bm (MX (Gb (A6 aE (Ab (AE AF (A6 aU (Ab (pv 1) (Ab (pv 4) (Ab (pv 2) (Ab (pv 8) Ae))))) Ai) (Ab (AE AF (pv 4) (pv 8)) Ae))))) (Au (AX IW)) Bo)))
    (Au (AX (Jb (LF hr.units) (pv 3) (pv 4) (Bw _))))))))))),?_⟩
   (try dsimp only[AG,Cx.nox,Cx.wish]);refine⟨a,ns,rfl,hS,bz,λb2 M t aA aB aC us Gs Es ts qt ss x qs J ae af aW s1 er eN N3 TB md=>?_⟩;refine⟨_,Aq.of er,rfl,?_⟩;(try dsimp only);have G:=ML md;have aF:LN K (λ_=>True) aW M t ⟨ss,x,[],J⟩ qs ae af:=⟨⟨aA,aB,aC,us,Gs,Es,ts,qt,eN,N3⟩,TB⟩;have bc:ts.length=x.length:=N3.tg.len;have b5:1<=x.length/\x.length<=6:=by rw[md.gs];exact OR ns _
   have b6:qs.length=BK ns:=(by rw[md.qs,Ue]);have zA:=OQ ns;have bd:∀q∈qs,1<=q.2.2.length:=λq hq=>(Iv ns _ q (md.qs▸hq)).2.2.1;refine⟨M,t,λ_=>True,⟨ss,x,[],J⟩,qs,ae,af,rfl,aF,G,λr2 ab Tn n U b7 H2 s2 hA b8 b9 be bf bF ru nx=>?_⟩;have a0:=(ru.aok G.toSOk).1;obtain⟨I,aG,aH⟩:=bf;have bA:I.length=qs.length:=by rw[aH.length,Al];exact a0.len
   refine Or.inr (Or.inl ⟨_,.ref ab,Aq.of be,rfl,?_⟩);refine AO ?_;(try dsimp only);refine⟨ab,I,rfl,Or.inl (Af.of aG),λLK bg=>?_⟩;obtain⟨H3,bh,s3,bi⟩:=new_at (o:=.lst I) bg;rw[<-bh];have bj:=s3 _ _ aG;have b0:=aH.same s3;have ag:=s2.trans s3;refine AO ?_;(try dsimp only);refine⟨a,ns,8,rfl,by decide,(s1.trans ag).seq hS,ER ns 8,M,aA,aB,aC,ts,qt,qs,rfl,Aq.of (ag _ _ eN),ag _ _ N3.et,by omega,ag _ _ N3.er,N3.tq.same ag,by omega,bd,λD4 ak H4 bB s4 aI a1=>?_⟩;refine AO ?_;(try dsimp only);have bk:=s4 _ _ bj;have T:=s4 _ _ bi;have aj:=b0.same s4;have aJ:=ag.trans s4;have bC:ak.length=qs.length:=(by rw[a1.length,Al,XF]);have aK:Gh ⟨ss,x,[],J⟩ qs (Ko (ER ns 8) qs ts.length):=⟨XF _ _ _,λp A e=>by show 0<=p.2/\p.2<x.length;rw[<-bc];exact Kp (by omega) A e⟩;have aL:∀{g:Hp},Ac H4 g->LN K (λ_=>True) g M t ⟨ss,x,[],J⟩ qs ae af:=λs=>aF.same (aJ.trans s);refine HA (λσ' g=>∃(y:Addr)(m:List AM),σ'=[some (.ref a),some (.ref M),some (.ref t),some (.ref ab),some (.ref LK),some (.ref y),none,none,none]/\Ac H4 g/\DY g y m/\Gh ⟨ss,x,[],J⟩ qs m) ?_ (λb3 hN=>?_);rotate_left
   . refine⟨a,ns,8,rfl,by decide,(s1.trans aJ).seq hS,(by show(0:Int)<3;decide),rfl,rfl,Ao (λ_=>?_) (λ_=>?_)⟩
     rotate_left;exact hN _ _ ⟨D4,_,rfl,Ac.refl _,⟨ak,aI,a1⟩,aK⟩
     refine⟨_,Or.inl ⟨_,Af.of T,rfl⟩,(by omega),(by omega),PK (lo:=0) (n:=I.length) (λD i z g=>Ac H4 g/\g D=some (.lst z)/\∃l:List AM,Ax GU g z (l.map Bp)/\l.length=i/\∀p,some p∈l->p.1=("thing" : Str)->0<=p.2/\p.2<x.length)
      (λD N=>⟨Bb N,Aa,[],.nil,rfl,λp A=>by cases A⟩) (λD i z W RR N hi X k=>?_) (λD5 z W bD X=>?_)⟩
     refine AL λO d=>?_;obtain⟨r,eD,l,L,R,a2⟩:=X;refine d ?_;clear d;have a3:=AC (show i<ak.length by omega);have Y:=AC hi;generalize ak[i]=v at a3;generalize I[i]=w at Y;obtain⟨o,ho,bl⟩:=Ic (a1.same r) a3;obtain⟨o',av,ah⟩:=Ic (aj.same r) Y;have b1:Bt ak (0+(i:Int))=some v:=by rw[Int.zero_add];exact BN a3
     have az:Bt I (0+(i:Int))=some w:=by rw[Int.zero_add];exact BN Y
     refine Or.inl ⟨_,v,Af.of (r _ _ aI),b1,Or.inl ⟨_,w,Af.of (r _ _ T),az,B7,λTL bm=>?_⟩⟩;obtain⟨C,bn,t1,aM⟩:=new_at (o:=.lst [v,w]) bm;rw[<-bn];have aN:=t1 _ _ eD;have bo:z.length=i:=(by rw[L.length,Al,R])
     have al:∀(ar:V)(aw:AM),A4 GU C ar (Bp aw)->(∀p,aw=some p->p.1=("thing" : Str)->0<=p.2/\p.2<x.length)->RR ar C:=λar aw hy h=>by
      have kD:Tk C (upd C D (.lst (z++[ar]))):=OC aN;refine k _ _ aN (by rw[bo];exact BC (by omega)) ⟨λb o e=>?_,Aa,l++[aw],?_,by rw[AV,R];rfl,λp A e=>?_⟩;rw[AD (AH e N)];exact t1 _ _ (r _ _ e);rw[Bk];exact((L.same t1).tk kD).snoc (hy.tk kD);rcases BF.mp A with A|A;exact a2 p A e;exact h p (AY.mp A).symm e
     refine Or.inl ⟨_,w,Af.of ((r.trans t1) _ _ T),az,Or.inr ⟨_,rfl,?_⟩⟩;show Hr K (.ref TL) (.int (if(!decide (w=V.non))=true then 1 else 0)) C RR
     cases o' with
     |none =>
       obtain rfl:=ah.ansN;rw[Aj (by simp)];exact Or.inl ⟨_,v,Af.of aM,BN (j:=0) rfl,al v o (bl.same t1) λp e h=>aK.rng p (by rw[<-e];exact Bd ho) h⟩
     |some p' =>
       have hn:w≠.non:=λaX=>by rw[aX] at ah;obtain⟨t,e,_⟩:=ah.ansS;cases e
       rw[Ak (by simp[hn])];exact Or.inl ⟨_,w,Af.of aM,BN (j:=1) rfl,al w (some p') (ah.same t1) λp e h=>a0.rng p (by rw[<-e];exact Bd av) h⟩
     refine AL λO d=>?_;obtain⟨r,bp,l,L,R,a2⟩:=X;refine d ?_;clear d;refine AO ?_;(try dsimp only);exact hN _ _ ⟨D5,l,rfl,r,⟨z,bp,L⟩,⟨by omega,a2⟩⟩
   refine λσ' W an=>AL λO d=>?_;obtain⟨y,m,rfl,r,Z,S⟩:=an;refine d ?_;clear d;refine⟨(by decide),(by decide),Kw (lo:=0) (n:=7) (λi σ g=>∃(y:Addr)(m:List AM)(u6 u7:Option V),σ=[some (.ref a),some (.ref M),some (.ref t),some (.ref ab),some (.ref LK),some (.ref y),u6,u7,none]/\Ac H4 g/\DY g y m/\Gh ⟨ss,x,[],J⟩ qs m) ⟨y,m,none,none,rfl,r,Z,S⟩ ?_ ?_⟩
   . clear Z S r y m W
     refine λi σ W hi an=>AL λO d=>?_;obtain⟨y,m,u6,u7,rfl,r,Z,S⟩:=an;refine d ?_;clear d;refine Gi ?_;intro Nx Cy;refine AO ?_;(try dsimp only);obtain⟨kv,aO,aP⟩:=id Z;have bE:kv.length=qs.length:=by rw[aP.length,Al];exact S.len
     refine⟨_,Or.inl ⟨_,Af.of aO,rfl⟩,(by omega),(by omega),PK (lo:=0) (n:=kv.length) (λD i z g=>Ac W g/\g D=some (.lst z)/\∃l:List AM,Ax GU g z (l.map Bp)/\l.length=i/\∀(j:Nat)(q:Qu)(b:AM),l[j]?=some b->qs[j]?=some q->Fd ⟨ss,x,[],J⟩ ae af q m b)
      (λD N=>⟨Bb N,Aa,[],.nil,rfl,λj q b h=>by cases h⟩) (λD i z C RR N hi X k=>?_) (λD z C N X=>?_)⟩
     refine AL λO d=>?_;obtain⟨u,eD,l,L,R,ax⟩:=X;refine d ?_;clear d;have aa:=AC (show i<qs.length by omega);generalize qs[i]=q at aa;have bq:DY C y m:=Z.go u.tk λ_ e=>u _ _ e;refine⟨M,y,t,λ_=>True,⟨ss,x,m,J⟩,qs,ae,af,_,i,q,rfl,Int.zero_add _,aa,(aL (r.trans u)).lc bq.ans,G.all m S,λev ea ew ls ay H7 E a4 ao=>?_⟩;refine AL λO d=>?_;obtain⟨ep,ex,ey,rfl,a5,a6,br⟩:=O4 a4;refine d ?_;clear d;have aQ:=E _ _ eD;have kD:Tk H7 (upd H7 D (.lst (z++[ex]))):=OC aQ;refine Or.inr (Or.inl ⟨_,ex,Aq.of a5,rfl,k _ _ aQ (by rw[L.length,Al,R];exact BC (by omega)) ⟨λb o e=>?_,Aa,l++[ea],?_,by rw[AV,R];rfl,λj q' b Q a7=>?_⟩⟩);rw[AD (AH e N)];exact E _ _ (u _ _ e);rw[Bk];exact((L.same E).tk kD).snoc (a6.noL.tk kD);by_cases c:j<l.length;rw[EJ c] at Q;exact ax j q' b Q a7;have hl:=(A9.mp Q).1;rw[AV,Dh] at hl;have:j=l.length:=(by omega);subst this;rw[EY (AB _),Nat.sub_self] at Q;have e:=Bv Q;rw[R,aa] at a7;rw[<-e,<-Bv a7];exact⟨ew,ls,ay,ao⟩;refine AL λO d=>?_;obtain⟨u,eD,l,L,R,ax⟩:=X;refine d ?_;clear d;(try dsimp only);have a9:l.length=qs.length:=(by omega)
     have aR:Gh ⟨ss,x,[],J⟩ qs l:=⟨a9,λp A e=>by
      obtain⟨j,Q⟩:=W7 A;have aS:j<qs.length:=by rw[<-a9];exact(A9.mp Q).1
      obtain⟨w,ls,ay,ao⟩:=ax j _ _ Q (AC aS);have au:=G.all m S;obtain⟨aY,aZ,_⟩:=au.q _ (D9 aS)
      exact Ib au.ok au.sm au.inn ao aY aZ p rfl e⟩
     have aT:=r.trans u;have al:∀{g:Hp},Ac C g->DY g D l:=λs=>⟨z,s _ _ eD,L.same s⟩;refine⟨_,_,_,_,rfl,.lst (Af.of eD) L.dts,.lst (Af.of (u _ _ aO)) (aP.same u).dts,Iz _,Iz _,λb H7 E hb=>⟨rfl,Ao (λbs=>?_) (λ_=>?_)⟩⟩;rotate_left;refine ?_;refine AO ?_;(try dsimp only);exact⟨D,l,_,_,rfl,aT.trans E,al E,aR⟩;have ek:l=m:=XJ (Dt.lst.inj (hb.mp bs))
     have bt:Later U m:=ru.least G.toSOk S.len λk q hq=>by
      have hk:k<l.length:=by rw[a9];exact(A9.mp hq).1
      exact⟨l[k],ax k q _ (AC hk) hq,by rw[<-ek];exact AC hk⟩
     have a8:=u.trans E;have ai:=r.trans a8;refine⟨y,LK,m,U,rfl,Z.go a8.tk λ_ e=>a8 _ _ e,⟨I,ai _ _ T,aj.same ai⟩,bt,λH8 s8=>⟨rfl,Bg ?_⟩⟩;refine AO ?_;(try dsimp only);exact⟨D,l,_,_,rfl,aT.trans (E.trans s8),al (E.trans s8),aR⟩
   clear Z S r y m W;refine λσ W an=>AL λO d=>?_;obtain⟨y,m,u6,u7,rfl,r,_,_⟩:=an;refine d ?_;clear d;refine⟨_,Or.inl ⟨_,Af.of (r _ _ T),rfl⟩,(by omega),(by omega),Kw (lo:=0) (n:=I.length) (λi σ g=>∃(u8:Option V),σ=[some (.ref a),some (.ref M),some (.ref t),some (.ref ab),some (.ref LK),some (.ref y),u6,u7,u8]/\Ac H4 g) ⟨none,rfl,r⟩ ?_ ?_⟩;rintro i σ C hi ⟨u8,rfl,u⟩;refine AO ?_;(try dsimp only);have aa:=AC (show i<qs.length by omega);generalize qs[i]=q at aa;have bu:∀{g:Hp},Ac H4 g->DY g LK U:=λs=>⟨I,s _ _ T,aj.same s⟩;refine⟨M,LK,t,λ_=>True,⟨ss,x,U,J⟩,qs,ae,af,_,i,q,rfl,Int.zero_add _,aa,(aL u).lc (bu u).ans,G.all U a0,λev ea ew ls ay H7 E a4 ao=>?_⟩;refine AL λO d=>?_;obtain⟨ep,ex,ey,rfl,a5,a6,br⟩:=O4 a4;refine d ?_;clear d;have ai:=u.trans E;have bv:=ru.still G.toSOk nx aa ⟨ew,ls,ay,ao⟩;have Y:=AC hi;generalize I[i]=w at Y;obtain⟨o',av,ah⟩:=Ic (aj.same ai) Y;rw[bv] at av;have e0:=Bv av;subst e0;have az:Bt I (0+(i:Int))=some w:=by rw[Int.zero_add];exact BN Y
   refine Or.inr (Or.inl ⟨_,ex,Aq.of a5,rfl,Or.inl ⟨_,w,Af.of (ai _ _ T),az,_,_,_,_,rfl,a6.dt,ah.dt,O3 6 _,O3 6 _,λb H8 s8 hb=>⟨rfl,?_⟩⟩⟩);rw[hb.mpr rfl];exact Bg ⟨_,rfl,ai.trans s8⟩;rintro σ C ⟨u8,rfl,u⟩;refine⟨3,_,_,Zb U U,by decide,.lst (Af.of (u _ _ bk)) (aj.same u).dts,.lst (Af.of (u _ _ T)) (aj.same u).dts,?_⟩;rw[Fn rfl];exact kq _
variable (P w K mg base) in
abbrev O6:Prop:=BG P w K mg base "law" 11 ["_law_script"] (O5 K)
theorem O7(B:BH mg)(c:QH P w K mg base)(d:QP P w K mg base)(h:QQ P w K mg base)(e:OK P w K mg base)(i:QR P w K mg base)(g:O1 P w K mg base)(j:QV P w K mg base)(F:Br K "law" "law" ID f fd)(a:mg "law" = some (.ref f)):O6 P w K mg base:=
 ⟨f,fd,IA B c d h e i g j F,a,F.kp,F.binds λ_ _ _ _ _ _ us b=>(by obtain⟨k,rfl⟩:=Il b;rfl)⟩
end
abbrev Fin (K:Ah) (mg:Str->Option Value) (x:Str) (st:Stmt):Prop:=∃f fd,Br K x x st f fd/\mg x=some (.ref f)
theorem BX{K:Ah}{h:Heap}{b:Str->Option Value}(X:K.In h)(G:h.Ns mainGlobals b){x:Str}{st:Stmt}(q:Fx K x st):Fin K b x st:=by
 obtain⟨f,d,e,g,m,kV,n,i,o,j,a,l,c,k⟩:=q;exact⟨f,_,Hx l c k,PySem.W.mg_of X G a⟩
theorem all_mk{l:PySem.W.OpenLaw}{w:World}{K:Ah}{h:Heap}{a:Str->Option Value}{f:Addr}(X:K.In h)(G:h.Ns mainGlobals a)(V:a "law" = some (.ref f))(q:Ku K)
 : ∃g:FuncData,(∀(s:Shared)(v:Value),BindsTo s g ⟨[v],[]⟩ [("_law_script",v)])/\∀b:Heap,K.In b->b.Ns mainGlobals a->Et l.prog w K a b IH 11 f g ["_law_script"] (O5 K):=by
 obtain⟨ca,cb,cc,bu,cd,bv,bw,bx,bz,b0,W,Y,Z,aa⟩:=q.q47;have e:=V.symm.trans (PySem.W.mg_of X G W);cases e;have B:BH a:=⟨FY X G q.z_all,FY X G q.z_any,FY X G q.z_bool,FY X G q.z_dict,FY X G q.z_enumerate,FY X G q.z_int,FY X G q.z_isinstance,FY X G q.z_len,FY X G q.z_list,FY X G q.z_min,FY X G q.z_range,FY X G q.z_set,FY X G q.z_sorted,FY X G q.z_str,FY X G q.z_tuple,FY X G q.z_zip,q.y_MOST_BEGINNINGS.imp λ_ y=>PySem.W.mg_of X G y⟩;obtain⟨_,_,x,z⟩:=BX X G q.q0;obtain⟨_,_,A,C⟩:=BX X G q.q1;obtain⟨_,_,D,E⟩:=BX X G q.q2;obtain⟨_,_,F,H⟩:=BX X G q.q3;obtain⟨_,_,I,J⟩:=BX X G q.q4;obtain⟨_,_,L,M⟩:=BX X G q.q5;obtain⟨_,_,N,O⟩:=BX X G q.q6;obtain⟨_,_,P,Q⟩:=BX X G q.q7;obtain⟨_,_,R,S⟩:=BX X G q.q8;obtain⟨_,_,T,U⟩:=BX X G q.q9;obtain⟨_,_,ab,ae⟩:=BX X G q.q10;obtain⟨_,_,af,ag⟩:=BX X G q.q11;obtain⟨_,_,ah,ai⟩:=BX X G q.q12;obtain⟨_,_,aj,ak⟩:=BX X G q.q13;obtain⟨_,_,al,an⟩:=BX X G q.q14;obtain⟨_,_,ao,aq⟩:=BX X G q.q15;obtain⟨_,_,ar,au⟩:=BX X G q.q16;obtain⟨_,_,av,aw⟩:=BX X G q.q17;obtain⟨_,_,ax,ay⟩:=BX X G q.q18;obtain⟨_,_,az,a0⟩:=BX X G q.q19;obtain⟨_,_,a1,a2⟩:=BX X G q.q20;obtain⟨_,_,a3,a4⟩:=BX X G q.q21;obtain⟨_,_,a5,a6⟩:=BX X G q.q22;obtain⟨_,_,a7,a8⟩:=BX X G q.q23;obtain⟨_,_,a9,aA⟩:=BX X G q.q24;obtain⟨_,_,aB,aC⟩:=BX X G q.q25;obtain⟨_,_,aD,aE⟩:=BX X G q.q26;obtain⟨_,_,aF,aG⟩:=BX X G q.q27;obtain⟨_,_,aH,aI⟩:=BX X G q.q28;obtain⟨_,_,aJ,aK⟩:=BX X G q.q29;obtain⟨_,_,aL,aM⟩:=BX X G q.q30;obtain⟨_,_,aN,aO⟩:=BX X G q.q31;obtain⟨_,_,aP,aQ⟩:=BX X G q.q32;obtain⟨_,_,aR,aS⟩:=BX X G q.q33;obtain⟨_,_,aT,aU⟩:=BX X G q.q34;obtain⟨_,_,aV,aW⟩:=BX X G q.q35;obtain⟨_,_,aX,aY⟩:=BX X G q.q36;obtain⟨_,_,aZ,ba⟩:=BX X G q.q37;obtain⟨_,_,bb,bc⟩:=BX X G q.q38;obtain⟨_,_,bd,be⟩:=BX X G q.q39;obtain⟨_,_,bf,bg⟩:=BX X G q.q40;obtain⟨_,_,bh,bi⟩:=BX X G q.q41;obtain⟨_,_,bj,bk⟩:=BX X G q.q42;obtain⟨_,_,bl,bm⟩:=BX X G q.q43;obtain⟨_,_,bn,bo⟩:=BX X G q.q44;obtain⟨_,_,bp,bq⟩:=BX X G q.q45;obtain⟨_,_,br,bs⟩:=BX X G q.q46;have bt:=Hx (st:=ID) Y Z aa;refine⟨PySem.W.fnOf "law" "law" (Kt ID) (IC ID) (A3 ID) .none bv bw bx bu bz b0,λs v=>.of_eq rfl,λb _ _=>?_⟩;have b1:TU l.prog w K a b:=eQ B x z;have i:OK l.prog w K a b:=eW B A C;have j:Qy l.prog w K a b:=e8 B D E;have b2:TX l.prog w K a b:=fB B j F H;have b3:T1 l.prog w K a b:=fF B j b2 I J;have b4:T6 l.prog w K a b:=fH B L M;have b5:T8 l.prog w K a b:=fJ B N O;have b6:Ua l.prog w K a b:=fM B P Q;have b7:Ub l.prog w K a b:=fO B R S;have b8:Uc l.prog w K a b:=fS B b6 b7 T U;have b9:QH l.prog w K a b:=fV B b1 i b3 b4 b5 b8 ab ae;have k:QI l.prog w K a b:=fX B af ag;have bA:Uf l.prog w K a b:=fZ B ah ai;have m:QJ l.prog w K a b:=f7 B bA aj ak;have bB:Ug l.prog w K a b:=f8 B m al an;have n:QK l.prog w K a b:=gE B k bB ao aq;have bC:Uh l.prog w K a b:=gK B n ar au;have bD:Ui l.prog w K a b:=gM B bC av aw;have bE:Uj l.prog w K a b:=gO B ax ay;have bF:Uk l.prog w K a b:=gR B bE az a0;have o:QL l.prog w K a b:=gT B a1 a2;have p:QM l.prog w K a b:=gW B a3 a4;have bG:Ul l.prog w K a b:=gY B a5 a6;have r:QN l.prog w K a b:=g0 B bG a7 a8;have bH:Um l.prog w K a b:=g9 B o p r a9 aA;have bI:Uo l.prog w K a b:=hH B bF bH aB aC;have bJ:Up l.prog w K a b:=hQ B o p r aD aE;have c:OU l.prog w K a b:=hW B aF aG;have bK:Uq l.prog w K a b:=iB B c aH aI;have bL:Ur l.prog w K a b:=iD B c aJ aK;have bM:Ix l.prog w K a b:=iE B bJ bK bL aL aM;have bN:Us l.prog w K a b:=iG B n aN aO;have d:OW l.prog w K a b:=iI B bD bI bM bN m aP aQ;have t:QO l.prog w K a b:=iK B aR aS;have bO:Ut l.prog w K a b:=iM B t aT aU;have bP:Uu l.prog w K a b:=iP B k bO aV aW;have bQ:Uv l.prog w K a b:=iR B c aX aY;have bR:Uw l.prog w K a b:=iT B bP bQ t aZ ba;have bS:Ux l.prog w K a b:=iV B d bR bb bc;have bT:Uy l.prog w K a b:=iW B bd be;have bU:Uz l.prog w K a b:=iY B d bf bg;have bV:UA l.prog w K a b:=i0 B bS bT bU bh bi;have bW:QP l.prog w K a b:=i4 B bV bj bk;have bX:QQ l.prog w K a b:=i9 B bl bm;have bY:QR l.prog w K a b:=jA B d bn bo;have u:O1 l.prog w K a b:=jE B bp bq;have bZ:QV l.prog w K a b:=jG B u br bs;exact IA B b9 bW bX i bY u bZ bt
theorem walk{l:PySem.W.OpenLaw}{q:Program}{loose:List Str}{XP:(Str->Option Value)->Heap->Prop}{YP:World->Heap->Prop}{d:DefRec}{K:Params->Ah}(i:l.most=some 63)(r:d.params.defaults=[])
 (j:∀(w:World)(h:Heap),YP w h->(K w.params).In h)
 (F:∀(w:World)(b:Str->Option Value)(e:Addr)(h:Heap),(K w.params).In h->h.Ns mainGlobals b->b d.name=some (.ref e) ->
  ∃g:FuncData,(∀(s:Shared)(u:Value),BindsTo s g ⟨[u],[]⟩ [("_law_script",u)])/\∀c:Heap,(K w.params).In c->c.Ns mainGlobals b->Et l.prog w (K w.params) b c IH 11 e g ["_law_script"] (O5 (K w.params))) :
 PySem.W.WalkO q loose XP YP l.row.toRowW d [] (λf vs=>PySem.call f vs):=
 L2.Jn (n:=63) (k:=11) (x:= "_law_script") (CX:=λ_=>IH) (sp:=λw=>O5 (K w.params)) i (by decide) r ⟨rfl,by decide,by decide⟩ j F (λ_ _ a m o _ p=>⟨a,m,rfl,p,o,λ_=>rfl⟩) λ_ _ _ _ _ z=>z
end K44
open PySem PySem.W PyProof.Rows in
theorem PySem.Challenge.cw_namepaths_k44_least_of_all_holds : PySem.Challenge.rw_namepaths_k44_least_of_all.Holds :=
 K44.hd λK q YP d h1 h2 hY=>K44.walk (l:=PySem.Challenge.rw_namepaths_k44_least_of_all) rfl h1 hY λw mg fa h X G hm=>K44.all_mk X G (h2▸hm) (q w)
