import PyProof.Rows.All
import Wide.All
import OpenK.AllK
import Wide.FinOn
import Lean
import PyProof.EqAt
import PyProof.EqKinds
import PyProof.TupleCall
import PySem.Challenge.RW_namepaths_k40_by_one_another
set_option Elab.async false
set_option linter.all false
set_option maxRecDepth 100000
set_option maxHeartbeats 1000000
abbrev Ah:=PySem.W.Frag
def Al:=@List.length_map
def AD:=@List.getElem?_eq_getElem
def AZ:=@List.length_append
def Bh:=@List.map_append
def AN:=@List.getElem?_eq_some_iff
def BL:=@List.mem_append
def A3:=@List.getElem?_map
def A6:=@List.mem_of_getElem?
def AL:=@List.mem_map
def AW:=@List.mem_singleton
def Cf:=@List.size_toArray
def Bu:=@List.mem_cons_self
def BV:=@List.mem_cons
def CY:=@List.mem_append_right
def Eu:=@List.map_cons
def B8:=@List.mem_cons_of_mem
def EA:=@List.getD_eq_getElem?_getD
def EG:=@List.take_succ
def Ev:=@List.take_length
def D1:=@List.getElem?_append_left
def DS:=@List.length_singleton
def Ec:=@List.getElem_mem
def Fn:=@List.length_take
def DT:=@List.map_map
def EB:=@List.getElem?_append_right
def Ee:=@List.take_zero
def Ef:=@List.mem_append_left
def Ew:=@List.length_cons
def FM:=@List.nodup_cons
def G1:=@List.length_set
def FZ:=@List.append_assoc
def G2:=@List.length_drop
def PK:=@List.mem_iff_getElem
def FN:=@List.append_nil
def MW:=@List.lookup_cons
def D6:=@List.getElem?_eq_none
def Kd:=@List.mem_filter
def MX:=@List.drop_eq_getElem_cons
def MY:=@List.filter_cons
def GO:=@List.length_nil
def NQ:=@List.map_nil
def Rh:=@List.map_drop
def Ii:=@List.prefix_append
def Gf:=@List.any_eq_true
def MZ:=@List.find?_cons
def M1:=@List.filter_append
def NR:=@List.foldl_append
def PL:=@List.length_filter_le
def E7:=@Option.map_eq_some_iff
def AE:=@Nat.le_refl
def G3:=@Nat.lt_irrefl
def Cn:=@Nat.le_of_lt
def Cq:=@Nat.ne_of_lt
def PM:=@Nat.lt_succ_self
def C7:=@Nat.zero_le
def Ij:=@Int.emod_lt_of_pos
def Gg:=@Int.emod_nonneg
def DU:=@Int.eq_ofNat_of_zero_le
def Bk:=@Int.toNat_natCast
def By:=@decide_eq_true
def Dw:=@decide_eq_false
def BM:=@of_decide_eq_true
def Dx:=@PySem.F.plainAttrs_list
def Fu:=@PySem.F.slot_list_append
def Fv:=@PySem.F.type_list_append
def CB:=@Bool.false_ne_true
def Br:=@Option.some.inj
def Aj:=@if_neg
def Ak:=@if_pos
def Fw:=@Nat.lt_of_lt_of_le
def E8:=@Nat.le_trans
def E9:=@Bool.false_eq_true
def Ri:=@List.filterMap_cons
def Bw:=@congrArg
open PySem PySem.Spec PyProof.Rows in
def Ad:=@wpAny_bind
open PySem PySem.Spec PyProof.Rows in
def Au:=@wpAny_pure
open PySem PySem.Spec PyProof.Rows in
def Fa:=@wpAny_holding
open PySem PySem.Spec PyProof.Rows in
def F0:=@wpAny_truthy_bool
open PySem PySem.Spec PyProof.Rows in
def Ba:=@Heap.get?_push_of_some
open PySem PySem.Spec PyProof.Rows in
def Bl:=@Heap.lt_size
open PySem PySem.Spec PyProof.Rows in
def B9:=@Heap.get?_push_size
open PySem PySem.Spec PyProof.Rows in
def CK:=@PassesOwn.never
open PySem PySem.Spec PyProof.Rows in
def FO:=@PySem.W.mg_none_of
open PySem PySem.Spec PyProof.Rows in
def F1:=@PySem.mem_of_lookup
open PySem PySem.Spec PyProof.Rows in
def M4:=@wpAny_typeOf
open PySem PySem.Spec PyProof.Rows in
def Fy:=@wpAny_mono
open PySem PySem.Spec PyProof.Rows in
def F2:=@wpAny_seqItems
open PySem PySem.Spec PyProof.Rows in
def G4:=@wpAny_rule
noncomputable section
noncomputable def PySem.W.Fast.tw13349617991193876153:PySem.Program:=PySem.Challenge.pw_namepaths_k40_by_one_another
theorem PySem.W.Fast.te13349617991193876153:PySem.Challenge.pw_namepaths_k40_by_one_another=PySem.W.Fast.tw13349617991193876153:=rfl
namespace L2
open PySem PySem.Spec PyProof.Rows
noncomputable def Ke (s:Stmt):Arguments:=match s with
 |.FunctionDef _ a _ _ _ _ _ _ _ _=>a
 |_=>{posonlyargs:=[],args:=[],vararg:=none,kwonlyargs:=[],kw_defaults:=[],kwarg:=none,defaults:=[]}
noncomputable def Ik (s:Stmt):List Stmt:=match s with
 |.FunctionDef _ _ b _ _ _ _ _ _ _=>b
 |_=>[]
noncomputable def A0 (s:Stmt):Scope:=match s with
 |.FunctionDef _ _ _ _ _ _ sc _ _ _=>sc
 |_=>{kind:=.function,names:=[],isGenerator:=false,isCoroutine:=false}
section
open PySem.W PySem.W.Fast
noncomputable def GB (p:Program) (w:World) (N:Nat):Option Shared:=((tw10274390034422433532 tw14364793385576792824 (opening p) w N (PySem.start (opening p)).1 (PySem.start (opening p)).2).bind (tw14289696077712309145 p)).bind λs₀ =>
 match s₀.heap.isNs mainGlobals && s₀.gens.size==0 with
 |true=>(tw14082659384304107361 tw14364793385576792824 p w s₀.heap.objs.size (s₀.heap.nsMap mainGlobals "__annotations__") N s₀ (topStub p)).bind λs₁=>match staticsOk (tw5923862056798008813 p.main.body) s₀.heap s₁.heap && namesBound p s₁.heap && gensDone s₁ && laidKept s₀.heap s₁.heap with
   |true=>some s₁
   |false=>none
 |false=>none
def IA{p q:Program}{loose:List Str}{Xt:Shared->Bool}{α:Type}{Yf:Shared->α}{Ya:World->α}{N:Nat}
 (A:∀w:World,Option.map (λs=>tw4187177175401517315 q loose (tw5923862056798008813 p.main.body) Xt true s) (GB p w N)=some (openGood q loose))
 (B:∀w:World,Option.map Yf (GB p w N)=some (Ya w)):LeftO p q loose Xt Yf Ya N:=by
 intro w;have a:=A w;have b:=B w
 have h:Option.map (λs=>(tw4187177175401517315 q loose (tw5923862056798008813 p.main.body) Xt true s,Yf s)) (GB p w N)=some (openGood q loose,Ya w):=by
  cases e:GB p w N with
  |none=>rw[e] at a;cases a
  |some s =>
    rw[e] at a b;simp only[Option.map_some] at a b ⊢;rw[Br a,Br b]
 unfold GB at h;rw[<-te14082659384304107361,<-te10274390034422433532,<-te14364793385576792824,<-te4187177175401517315,<-te5923862056798008813,<-te14289696077712309145] at h;exact h
end
end L2
namespace K40
open PySem PySem.Spec PyProof.Rows PySem.W L2
noncomputable def top (i:Nat):Stmt:=PySem.Challenge.pw_namepaths_k40_by_one_another.main.body.getD i (.Pass ⟨0,0,0,0⟩)
abbrev Rj:Stmt:=top 52
abbrev Rk:Stmt:=top 51
abbrev Rl:Stmt:=top 53
abbrev M5:Stmt:=top 54
abbrev Rm:Stmt:=top 56
abbrev Rn:Stmt:=top 11
abbrev Ro:Stmt:=top 3
abbrev Rp:Stmt:=top 1
abbrev Rq:Stmt:=top 2
abbrev Rr:Stmt:=top 19
abbrev PP:Stmt:=top 18
abbrev Rs:Stmt:=top 15
abbrev Rt:Stmt:=top 12
abbrev Ru:Stmt:=top 16
abbrev PQ:Stmt:=top 22
abbrev Rv:Stmt:=top 23
abbrev Rx:Stmt:=top 8
abbrev Ry:Stmt:=top 24
abbrev PR:Stmt:=top 21
abbrev Rz:Stmt:=top 27
abbrev RA:Stmt:=top 29
abbrev RB:Stmt:=top 9
abbrev RC:Stmt:=top 30
abbrev RD:Stmt:=top 31
abbrev M6:Stmt:=top 28
abbrev RE:Stmt:=top 17
abbrev RF:Stmt:=top 26
abbrev RG:Stmt:=top 37
abbrev RH:Stmt:=top 36
abbrev RI:Stmt:=top 34
abbrev RJ:Stmt:=top 35
abbrev RK:Stmt:=top 33
abbrev RL:Stmt:=top 41
abbrev PU:Stmt:=top 42
abbrev RM:Stmt:=top 43
abbrev M7:Stmt:=top 40
abbrev RN:Stmt:=top 39
abbrev NS:Stmt:=top 55
abbrev RO:Stmt:=top 45
abbrev RP:Stmt:=top 49
abbrev PV:Stmt:=top 47
abbrev PX:Stmt:=top 48
abbrev PY:Stmt:=top 57
abbrev GP:Stmt:=top 58
noncomputable def own:Stmt->Bool
 |.Assign [.Name x _] _ _=>x != "__name__"
 |_=>true
noncomputable def view:Program:={PySem.Challenge.pw_namepaths_k40_by_one_another with main:={PySem.Challenge.pw_namepaths_k40_by_one_another.main with body:=PySem.Challenge.pw_namepaths_k40_by_one_another.main.body.filter own}}
noncomputable abbrev Fx (K:Frag) (x:Str) (st:Stmt):Prop:=∃(f:Addr)(oc:Value)(od an:Option Addr)(osl:Array (Option Value))(kV doc pm cdv ct:Value),nsIn K mainGlobals x=some (some (.ref f))/\K.lookup f=some ⟨oc,od,.func (fnOf x x (Ke st) (Ik st) (A0 st) .none kV doc pm an cdv ct),osl⟩/\codeIn K cdv x=true/\keepIn K (.ref f)=true
def Az{K:Frag}{x:Str}{st:Stmt}{f:Addr}{d:Value}{e g:Option Addr}{i:Array (Option Value)}{kV j h b ct:Value}(a:nsIn K mainGlobals x=some (some (.ref f)))(l:K.lookup f=some ⟨d,e,.func (fnOf x x (Ke st) (Ik st) (A0 st) .none kV j h g b ct),i⟩)(c:codeIn K b x=true)(k:keepIn K (.ref f)=true):Fx K x st:=⟨f,d,e,g,i,kV,j,h,b,ct,a,l,c,k⟩
def RQ{K:Frag}{x:Str}{v:Int}{t:Tok}(h:nsIn K mainGlobals x=some (some (.int v t))):∃t,nsIn K mainGlobals x=some (some (.int v t)):=⟨t,h⟩
structure Kf (K:Frag):Prop where
 q0:Fx K "_law_names" Rj
 q1:Fx K "_law_cell_at" Rk
 q2:Fx K "_law_link" Rl
 q3:Fx K "_law_made" M5
 q4:Fx K "_law_due" Rm
 q5:Fx K "next_state" Rn
 q6:Fx K "inside_of_sort" Ro
 q7:Fx K "inside" Rp
 q8:Fx K "goal" Rq
 q9:Fx K "steps_gone" Rr
 q10:Fx K "longer_by_a_step" PP
 q11:Fx K "beginnings" Rs
 q12:Fx K "has_end" Rt
 q13:Fx K "found_behind" Ru
 q14:Fx K "better_pairs" PQ
 q15:Fx K "tree_of" Rv
 q16:Fx K "label_at" Rx
 q17:Fx K "first_hider" Ry
 q18:Fx K "seen_ways" PR
 q19:Fx K "look_for" Rz
 q20:Fx K "first_owed" RA
 q21:Fx K "telling_at" RB
 q22:Fx K "first_open" RC
 q23:Fx K "meaning" RD
 q24:Fx K "met" M6
 q25:Fx K "owed_behind" RE
 q26:Fx K "look_up" RF
 q27:Fx K "of_sort" RG
 q28:Fx K "of_answer" RH
 q29:Fx K "of_steps" RI
 q30:Fx K "of_tellings" RJ
 q31:Fx K "questions_of" RK
 q32:Fx K "found_in_turn" RL
 q33:Fx K "uses_one" PU
 q34:Fx K "refuse_tangled" RM
 q35:Fx K "settled" M7
 q36:Fx K "still" RN
 q37:Fx K "_law_same" NS
 q38:Fx K "find" RO
 q39:Fx K "waited_for" RP
 q40:Fx K "waits" PV
 q41:Fx K "ring_of" PX
 q42:Fx K "_law_ring" PY
 q43:Fx K "law" GP
 z_all:nsIn K mainGlobals "all" = some none
 z_any:nsIn K mainGlobals "any" = some none
 z_bool:nsIn K mainGlobals "bool" = some none
 z_dict:nsIn K mainGlobals "dict" = some none
 z_enumerate:nsIn K mainGlobals "enumerate" = some none
 z_int:nsIn K mainGlobals "int" = some none
 z_isinstance:nsIn K mainGlobals "isinstance" = some none
 z_len:nsIn K mainGlobals "len" = some none
 z_list:nsIn K mainGlobals "list" = some none
 z_min:nsIn K mainGlobals "min" = some none
 z_range:nsIn K mainGlobals "range" = some none
 z_set:nsIn K mainGlobals "set" = some none
 z_sorted:nsIn K mainGlobals "sorted" = some none
 z_str:nsIn K mainGlobals "str" = some none
 z_tuple:nsIn K mainGlobals "tuple" = some none
 z_zip:nsIn K mainGlobals "zip" = some none
 y_MOST_BEGINNINGS:∃t,nsIn K mainGlobals "MOST_BEGINNINGS" = some (some (.int 200 t))
theorem G5(w:World):Option.map (λs=>Fast.tw4187177175401517315 view [] (Fast.tw5923862056798008813 PySem.Challenge.pw_namepaths_k40_by_one_another.main.body) (λs=>xlAt view [] s && recOk [] s) true s) (GB PySem.Challenge.pw_namepaths_k40_by_one_another w 40000)=some (openGood view []):=by kernel_rfl
end K40
abbrev A' := List (PySem.Str × PySem.Str)
abbrev B' := List (PySem.Addr × PySem.Obj)
abbrev C' := Option (PySem.Str × Int)
abbrev D' := PySem.Value → PySem.Shared → Prop
abbrev E' := List (Option Int)
local macro_rules | `(tactic| lia) => `(tactic| omega)
local macro_rules | `(tactic| cbv) => `(tactic| try dsimp only)
set_option tactic.hygienic false
section
open PySem PySem.W PyProof.Rows
local macro_rules | `(tactic| o_head $H:term) => `(tactic| refine holds_open (q := K40.view) (loose := []) (Xt := fun s => xlAt K40.view [] s && recOk [] s) (XP := XL K40.view []) (Yf := Hook.obs $H) (Ya := Hook.val $H) (YP := Hook.says $H) (N := 40000) ?hl (Hook.of $H) (Hook.keeps $H) (fun s e => xl_of s (Bool.and_eq_true_iff.mp e).1) XL.keeps (by rfl) (by rfl) (by rfl) (fun s e => recFacts_of (Bool.and_eq_true_iff.mp e).2) (by rfl) (by first | assumption | decide +kernel) (by decide +kernel) ⟨rfl, rfl, rfl, rfl, rfl, by decide +kernel⟩ ?hw ?hc)
set_option maxHeartbeats 0 in
theorem K40.hd(a:∀K:Params->Frag,(∀w:World,K40.Kf (K w.params))->∀(YP:World->Heap->Prop)(d:DefRec),d.params.defaults=[]->d.name = "law" -> (∀(w:World)(h:Heap),YP w h->(K w.params).In h)->WalkO K40.view [] (XL K40.view []) YP PySem.Challenge.rw_namepaths_k40_by_one_another.row.toRowW d [] (λf vs=>PySem.call f vs)):PySem.Challenge.rw_namepaths_k40_by_one_another.Holds:=by
 w_on;o_law;k_head
 case hl =>
  refine L2.IA K40.G5 λw=>?_
  kernel_rfl
 case hw=>w_witness2
 k_fill
 refine a _ (λw=>?fx) _ _ rfl rfl (λw h Y=>PySem.W.kIn_of Y)
 case fx =>
  refine' ⟨K40.Az ?a0 ?l0 ?c0 ?k0,K40.Az ?a1 ?l1 ?c1 ?k1,K40.Az ?a2 ?l2 ?c2 ?k2,K40.Az ?a3 ?l3 ?c3 ?k3,K40.Az ?a4 ?l4 ?c4 ?k4,K40.Az ?a5 ?l5 ?c5 ?k5,K40.Az ?a6 ?l6 ?c6 ?k6,K40.Az ?a7 ?l7 ?c7 ?k7,K40.Az ?a8 ?l8 ?c8 ?k8,K40.Az ?a9 ?l9 ?c9 ?k9,K40.Az ?a10 ?l10 ?c10 ?k10,K40.Az ?a11 ?l11 ?c11 ?k11,K40.Az ?a12 ?l12 ?c12 ?k12,K40.Az ?a13 ?l13 ?c13 ?k13,K40.Az ?a14 ?l14 ?c14 ?k14,K40.Az ?a15 ?l15 ?c15 ?k15,K40.Az ?a16 ?l16 ?c16 ?k16,K40.Az ?a17 ?l17 ?c17 ?k17,K40.Az ?a18 ?l18 ?c18 ?k18,K40.Az ?a19 ?l19 ?c19 ?k19,K40.Az ?a20 ?l20 ?c20 ?k20,K40.Az ?a21 ?l21 ?c21 ?k21,K40.Az ?a22 ?l22 ?c22 ?k22,K40.Az ?a23 ?l23 ?c23 ?k23,K40.Az ?a24 ?l24 ?c24 ?k24,K40.Az ?a25 ?l25 ?c25 ?k25,K40.Az ?a26 ?l26 ?c26 ?k26,K40.Az ?a27 ?l27 ?c27 ?k27,K40.Az ?a28 ?l28 ?c28 ?k28,K40.Az ?a29 ?l29 ?c29 ?k29,K40.Az ?a30 ?l30 ?c30 ?k30,K40.Az ?a31 ?l31 ?c31 ?k31,K40.Az ?a32 ?l32 ?c32 ?k32,K40.Az ?a33 ?l33 ?c33 ?k33,K40.Az ?a34 ?l34 ?c34 ?k34,K40.Az ?a35 ?l35 ?c35 ?k35,K40.Az ?a36 ?l36 ?c36 ?k36,K40.Az ?a37 ?l37 ?c37 ?k37,K40.Az ?a38 ?l38 ?c38 ?k38,K40.Az ?a39 ?l39 ?c39 ?k39,K40.Az ?a40 ?l40 ?c40 ?k40,K40.Az ?a41 ?l41 ?c41 ?k41,K40.Az ?a42 ?l42 ?c42 ?k42,K40.Az ?a43 ?l43 ?c43 ?k43,?z_all,?z_any,?z_bool,?z_dict,?z_enumerate,?z_int,?z_isinstance,?z_len,?z_list,?z_min,?z_range,?z_set,?z_sorted,?z_str,?z_tuple,?z_zip,K40.RQ ?y_MOST_BEGINNINGS⟩
  case a0|l0|c0|k0|a1|l1|c1|k1|a2|l2|c2|k2|a3|l3|c3|k3|a4|l4|c4|k4|a5|l5|c5|k5|a6|l6|c6|k6|a7|l7|c7|k7|a8|l8|c8|k8|a9|l9|c9|k9|a10|l10|c10|k10|a11|l11|c11|k11|a12|l12|c12|k12|a13|l13|c13|k13|a14|l14|c14|k14|a15|l15|c15|k15|a16|l16|c16|k16|a17|l17|c17|k17|a18|l18|c18|k18|a19|l19|c19|k19|a20|l20|c20|k20|a21|l21|c21|k21|a22|l22|c22|k22|a23|l23|c23|k23|a24|l24|c24|k24|a25|l25|c25|k25|a26|l26|c26|k26|a27|l27|c27|k27|a28|l28|c28|k28|a29|l29|c29|k29|a30|l30|c30|k30|a31|l31|c31|k31|a32|l32|c32|k32|a33|l33|c33|k33|a34|l34|c34|k34|a35|l35|c35|k35|a36|l36|c36|k36|a37|l37|c37|k37|a38|l38|c38|k38|a39|l39|c39|k39|a40|l40|c40|k40|a41|l41|c41|k41|a42|l42|c42|k42|a43|l43|c43|k43|z_all|z_any|z_bool|z_dict|z_enumerate|z_int|z_isinstance|z_len|z_list|z_min|z_range|z_set|z_sorted|z_str|z_tuple|z_zip|y_MOST_BEGINNINGS=>k_is
end
set_option Elab.async false
set_option linter.all false
set_option maxRecDepth 100000
namespace L2
open PySem PySem.Spec PyProof.Rows
abbrev AJ:=Sum Int Str
def M8:AJ->Value->Bool
 |.inl k,v=>Value.isInt k v
 |.inr x,v=>Value.isStrOf x v
def RS (w:World):AJ->Int
 |.inl k=>hashInt k
 |.inr x=>hashStr w x
theorem IB:∀{k:AJ}{v:Value},M8 k v=true->(∃i t,k=Sum.inl i/\v=Value.int i t)\/(∃x t,k=Sum.inr x/\v=Value.str x t)
 |.inl i,v,h=>by
   obtain⟨t,e⟩:=Value.isInt_shape (k:=i) (v:=v) h;exact .inl ⟨i,t,rfl,e⟩
 |.inr x,v,h=>by
   obtain⟨t,e⟩:=Value.isStrOf_shape (x:=x) (v:=v) h;exact .inr ⟨x,t,rfl,e⟩
def X2(i:Int)(t:Tok):M8 (.inl i) (.int i t)=true:=by simp[M8,Value.isInt]
def X3(x:Str)(t:Tok):M8 (.inr x) (.str x t)=true:=by simp[M8,Value.isStrOf]
def K3(a b:Int):decide ((Sum.inl a:AJ)=Sum.inl b)=(a==b):=by
 by_cases e:a=b;subst e;simp;have h:¬(Sum.inl a:AJ)=Sum.inl b:=λq=>e (Sum.inl.inj q);rw[Dw h];exact(beq_eq_false_iff_ne.mpr e).symm
def K4(a b:Str):decide ((Sum.inr a:AJ)=Sum.inr b)=decide (a=b):=by
 by_cases e:a=b;subst e;simp;have h:¬(Sum.inr a:AJ)=Sum.inr b:=λq=>e (Sum.inr.inj q);rw[Dw h,Dw e]
def K5(a:Int)(b:Str):decide ((Sum.inl a:AJ)=Sum.inr b)=false:=Dw (λq=>nomatch q)
def K6(a:Str)(b:Int):decide ((Sum.inr a:AJ)=Sum.inl b)=false:=Dw (λq=>nomatch q)
def EC (prog:Program) (w:World):PySem.KeyKind prog w AJ where
 is:=M8
 hash:=RS w
 inj:=λv a b ha hb=>by
  rcases IB ha with⟨i,t,rfl,rfl⟩|⟨x,t,rfl,rfl⟩;rcases IB hb with⟨j,u,rfl,e⟩|⟨y,u,rfl,e⟩;injection e with e1 _;rw[e1];exact nomatch e;rcases IB hb with⟨j,u,rfl,e⟩|⟨y,u,rfl,e⟩;exact nomatch e;injection e with e1 _;rw[e1]
 byValue:=λk v h=>by
  rcases IB h with⟨i,t,rfl,rfl⟩|⟨x,t,rfl,rfl⟩<;>rfl
 pyHash:=λhv h=>by
  rcases IB hv with⟨i,t,rfl,rfl⟩|⟨x,t,rfl,rfl⟩;exact wpAny_pyHash_int h;exact wpAny_pyHash_str h
 eqBool:=λhu hv h=>by
  rcases IB hu with⟨i,t,rfl,rfl⟩|⟨x,t,rfl,rfl⟩;rcases IB hv with⟨j,u,rfl,rfl⟩|⟨y,u,rfl,rfl⟩;rw[K3] at h;exact wpAny_eqBool_int h;rw[K5] at h;exact SeqAt.EqAt.int_str i t y u _ _ _ _ h;rcases IB hv with⟨j,u,rfl,rfl⟩|⟨y,u,rfl,rfl⟩;rw[K6] at h;exact SeqAt.EqAt.str_int x t j u _ _ _ _ h;rw[K4] at h;exact wpAny_eqBool_str h
 «strs»:=λk x t v h=>by
  rcases IB h with⟨i,u,rfl,e⟩|⟨y,u,rfl,e⟩;exact nomatch e;injection e with e1 _;subst e1;cases v<;>rfl
def X4(prog:Program)(w:World)(i:Int)(t:Tok):(EC prog w).is (.inl i) (.int i t)=true:=X2 i t
def X5(prog:Program)(w:World)(x:Str)(t:Tok):(EC prog w).is (.inr x) (.str x t)=true:=X3 x t
inductive V where
 |non|bl (b:Bool)|int (i:Int)|str (x:Str)|byt (b:Array UInt8)|flt (b:UInt64)|ref (a:Addr)|ty (n:String)
 deriving DecidableEq
def RelV:V->Value->Prop
 |.non,u=>u=Value.none
 |.bl b,u=>u=Value.bool b
 |.int i,u=>∃t,u=Value.int i t
 |.str x,u=>∃t,u=Value.str x t
 |.byt b,u=>∃t,u=Value.bytes b t
 |.flt b,u=>∃t,u=Value.float b t
 |.ref a,u=>u=Value.ref a
 |.ty n,u=>u=Value.type n
abbrev At:List V->List Value->Prop:=Paired RelV
def At.length{xs:List V}{us:List Value}(r:At xs us):xs.length=us.length:=Paired.length r
theorem At.get:∀{xs:List V}{us:List Value}{i:Nat}{x:V},At xs us->xs[i]?=some x->∃u,us[i]?=some u/\RelV x u
 |_,_,_,_,.nil,e=>by simp at e
 |_,_,0,_,.cons r _,e=>by simp at e;subst e;exact⟨_,rfl,r⟩
 |_,_,i+1,x,.cons _ t,e=>by
   obtain⟨u,a,b⟩:=At.get (i:=i) (x:=x) t (by simpa using e);exact⟨u,by simpa using a,b⟩
theorem At.set{x:V}{u:Value}(r:RelV x u):∀{xs:List V}{us:List Value}(i:Nat),At xs us->At (xs.set i x) (us.set i u)
 |_,_,_,.nil=>.nil
 |_,_,0,.cons _ t=>.cons r t
 |_,_,i+1,.cons q t=>.cons q (At.set r i t)
theorem At.append:∀{xs ys:List V}{us ws:List Value},At xs us->At ys ws->At (xs++ys) (us++ws)
 |_,_,_,_,.nil,s=>s
 |_,_,_,_,.cons r t,s=>.cons r (At.append t s)
theorem At.take:∀{xs:List V}{us:List Value}(n:Nat),At xs us->At (xs.take n) (us.take n)
 |_,_,0,_=>.nil
 |_,_,_+1,.nil=>.nil
 |_,_,n+1,.cons r t=>.cons r (At.take n t)
theorem At.drop:∀{xs:List V}{us:List Value}(n:Nat),At xs us->At (xs.drop n) (us.drop n)
 |_,_,0,r=>r
 |_,_,_+1,.nil=>.nil
 |_,_,n+1,.cons _ t=>At.drop n t
def DV:Option V->Option Value->Prop
 |some v,some u=>RelV v u
 |none,none=>True
 |_,_=>False
def KV {κ:Type}:List (κ×V)->List (κ×Value)->Prop:=Paired λ(p:κ×V)(q:κ×Value)=>p.1=q.1/\RelV p.2 q.2
def kV:AJ->V
 |.inl i=>.int i
 |.inr x=>.str x
inductive HO where
 |lst (xs:List V)
 |tup (xs:List V)
 |dK (kvs:List (AJ×V))|dT (kvs:List (List AJ×V))
 |set (S:Int->Bool) (n:Nat)
 |ins (C dx:Addr) (fs:List (Str×V))
 |own (x:Addr)
 |xd (fs:List (Str×V))
 |met (f x:Addr)
 |rng (lo hi:Int)
 |frz (o:Obj) (u:HO)
 |tbl (ps:Array Value)
 |ext (φ:Heap->Prop)
abbrev Hp:=Addr->Option HO
def upd (H:Hp) (a:Addr) (o:HO):Hp:=λb=>if b=a then some o else H b
variable {H:Hp}{a:Addr}{o:HO}
def Aa:upd H a o a=some o:=by unfold upd;rw[Ak rfl]
variable {b:Addr}
def AC(h:b≠a):upd H a o b=H b:=by unfold upd;rw[Aj h]
variable {u:HO}
def UT:upd (upd H a o) a u=upd H a u:=by
 funext b;unfold upd;split<;>rfl
def Na(h:H a=some o)(h':H b=some u)(d:o≠u):a≠b:=by
 intro e;subst e;rw[h] at h';exact d (Br h')
def A1(h:H a=some o)(h':H b=none):a≠b:=by
 intro e;subst e;rw[h] at h';cases h'
section
variable (P:Program) (w:World)
def AB (H:Hp) (h:Heap) (a:Addr):HO->Prop
 |.lst xs=>xs.length<=sizeLine/\∃(its:List Value)(n:Nat),At xs its/\h.get? a=some {cls:=.type "list",data:=.seq its.toArray n}
 |.tup xs=>xs.length<=sizeLine/\∃its:List Value,At xs its/\IsTup h a its.toArray
 |.dK kvs=>kvs.length<=sizeLine/\(a==sysModules)=false/\∃vs,KV kvs vs/\h.DictOf (EC P w) a vs
 |.dT kvs=>kvs.length<=sizeLine/\(a==sysModules)=false/\∃xs:List (List AJ×Addr×Value),
  Paired (λ(p:List AJ×V)(q:List AJ×Addr×Value)=>p.1=q.1/\H q.2.1=some (.tup (p.1.map kV))/\RelV p.2 q.2.2) kvs xs /\
  ∃o es ep,h.get? a=some o/\o.ExactDict/\o.data=.dict es ep/\es.toList=xs.map (entryOfKey (tupleKind (EC P w)))/\(xs.map (·.1)).Nodup
 |.set S n=>h.SetOf (intKind P w) a S n
 |.ins C dx fs=>H dx=some (.own a)/\fs.length<=1000/\dx≠a/\h.get? a=some (PySem.W.instObj C dx) /\
  ∃mA,h.Ns1 dx mA/\(∀f,DV (fs.lookup f) (mA f))/\PySem.Within mA (fs.map (·.1))
 |.own _=>∃o,h.get? a=some o
 |.xd fs=>∃mA,h.Ns1 a mA/\∀f,DV (fs.lookup f) (mA f)
 |.rng lo hi=>∃t u v,h.get? a=some {cls:=.type "range",data:=.fields #[.int lo t,.int hi u,.int 1 v]}
 |.frz o u=>h.get? a=some o/\AB H h a u
 |.tbl ps=>h.get? a=some {cls:=.none,data:=.fields ps}
 |.met f x=>h.get? a=some (PySem.W.methodObj (.ref f) (.ref x))
 |.ext φ=>φ h/\(∃o,h.get? a=some o)/\∀h1 h2:Heap,φ h1->(∀o,h1.get? a=some o->h2.get? a=some o)->φ h2
def CL (H:Hp) (h:Heap):Prop:=∀a o,H a=some o->AB P w H h a o
end
section
variable {P:Program} {w:World} {H H':Hp} {h h':Heap} {a:Addr} {o:HO}
def AB.lt(x:AB P w H h a o):a<h.objs.size:=by
 cases o with
 |lst b=>obtain⟨_,_,_,_,e⟩:=x;exact Bl e
 |tup b=>obtain⟨_,_,_,p⟩:=x;exact p.lt
 |dK c=>obtain⟨_,_,_,_,o,_,_,e,_⟩:=x;exact Bl e
 |dT c=>obtain⟨_,_,_,_,o,_,_,e,_⟩:=x;exact Bl e
 |set S n=>obtain⟨o,_,_,_,e,_⟩:=x;exact Bl e
 |ins C d fs=>obtain⟨_,_,_,e,_⟩:=x;exact Bl e
 |own y=>obtain⟨_,e⟩:=x;exact Bl e
 |xd fs=>obtain⟨_,⟨_,_,_,e,_⟩,_⟩:=x;exact Bl e
 |rng lo g=>obtain⟨_,_,_,e⟩:=x;exact Bl e
 |frz i u=>obtain⟨e,_⟩:=x;exact Bl e
 |tbl j=>exact Bl (show h.get? a=some _ from x)
 |met f y=>exact Bl (show h.get? a=some _ from x)
 |ext φ=>obtain⟨_,⟨_,e⟩,_⟩:=x;exact Bl e
theorem Paired.mapP{α β:Type}{F G:α->β->Prop}:∀{c:List α}{l₂:List β},Paired F c l₂->(∀a b,F a b->G a b)->Paired G c l₂
 |_,_,.nil,_=>.nil
 |_,_,.cons r t,f=>.cons (f _ _ r) (Paired.mapP t f)
def AB.stay(x:AB P w H h a o)(k:∀b u,(b=a\/H b=some (.own a))->h.get? b=some u->h'.get? b=some u)
 (B:∀b,H b=some (.own a)->H' b=some (.own a)) (D:∀b xs,H b=some (.tup xs)->H' b=some (.tup xs)):AB P w H' h' a o:=by
 induction o with
 |lst xs=>obtain⟨z,m,n,r,e⟩:=x;exact⟨z,m,n,r,k _ _ (.inl rfl) e⟩
 |tup xs=>obtain⟨z,m,r,g,e,c⟩:=x;exact⟨z,m,r,g,k _ _ (.inl rfl) e,c⟩
 |dK I=>obtain⟨z,y,E,r,g,i,j,e,c⟩:=x;exact⟨z,y,E,r,g,i,j,k _ _ (.inl rfl) e,c⟩
 |dT I =>
   obtain⟨z,y,xs,r,g,i,j,e,c⟩:=x;exact⟨z,y,xs,Paired.mapP r λp q z=>⟨z.1,D _ _ z.2.1,z.2.2⟩,g,i,j,k _ _ (.inl rfl) e,c⟩
 |set S n=>obtain⟨g,i,j,t,e,c⟩:=x;exact⟨g,i,j,t,k _ _ (.inl rfl) e,c⟩
 |ins C J fs =>
   obtain⟨d,z,ne,e,mA,⟨l,i,j,F,c⟩,r⟩:=x;exact⟨B _ d,z,ne,k _ _ (.inl rfl) e,mA,⟨l,i,j,k _ _ (.inr d) F,c⟩,r⟩
 |own y=>obtain⟨g,e⟩:=x;exact⟨g,k _ _ (.inl rfl) e⟩
 |xd fs=>obtain⟨mA,⟨l,i,j,e,c⟩,r⟩:=x;exact⟨mA,⟨l,i,j,k _ _ (.inl rfl) e,c⟩,r⟩
 |rng lo K=>obtain⟨t,u,v,e⟩:=x;exact⟨t,u,v,k _ _ (.inl rfl) e⟩
 |frz g u G=>obtain⟨e,q⟩:=x;exact⟨k _ _ (.inl rfl) e,G q⟩
 |tbl s =>
   have e:h.get? a=some {cls:=.none,data:=.fields s}:=x;show h'.get? a=some {cls:=.none,data:=.fields s};exact k a _ (.inl rfl) e
 |met f y =>
   have e:h.get? a=some (PySem.W.methodObj (.ref f) (.ref y)):=x;show h'.get? a=some (PySem.W.methodObj (.ref f) (.ref y));exact k a _ (.inl rfl) e
 |ext φ=>obtain⟨p,⟨o,e⟩,A⟩:=x;exact⟨A _ _ p λo q=>k _ _ (.inl rfl) q,⟨o,k _ _ (.inl rfl) e⟩,A⟩
def CL.lt(x:CL P w H h)(e:H a=some o):a<h.objs.size:=(x a o e).lt
def CL.fresh(x:CL P w H h)(e:h.objs.size<=a):H a=none:=by
 cases q:H a with
 |none=>rfl
 |some u=>exact absurd (Fw (x.lt q) e) (G3 _)
def CL.kept(x:CL P w H h)(k:∀b u,h.get? b=some u->h'.get? b=some u):CL P w H h':=λa o e =>
 (x a o e).stay (λb u ζ q=>k b u q) (λζ q=>q) λζ ζ q=>q
def CL.laid(x:CL P w H h)(k:∀b u,h.get? b=some u->h'.get? b=some u)(f:h.objs.size<=a)(g:AB P w (upd H a o) h' a o):CL P w (upd H a o) h':=λb u e=>by
 have d:=x.fresh f;by_cases hb:b=a;subst hb;rw[Aa] at e;cases e;exact g;rw[AC hb] at e;exact(x b u e).stay (λc v ζ q=>k c v q) (λc q=>by rw[AC (A1 q d)];exact q) λc i q=>by rw[AC (A1 q d)];exact q
end
def Rd (H:Hp) (a:Addr) (u:HO):Prop:=H a=some u\/∃o,H a=some (.frz o u)
variable {P:Program}{w:World}{h:Heap}
def Rd.ok(r:Rd H a u)(x:CL P w H h):AB P w H h a u:=by
 rcases r with r|⟨o,r⟩;exact x a u r;obtain⟨_,q⟩:=x a _ r;exact q
def NT:Option HO->Prop
 |some (.lst _)=>True
 |some (.dK _)=>True
 |some (.dT _)=>True
 |some (.set _ _)=>True
 |some (.ins _ _ _)=>True
 |some (.ext _)=>True
 |_=>False
section
variable {P:Program} {w:World} {H:Hp} {h h':Heap} {x e:Addr} {o':HO}
def CL.write(ok:CL P w H h)(a:NT (H x))(i:e=x\/H e=some (.own x))(k:∀b u,b≠e->h.get? b=some u->h'.get? b=some u)(n:∃u,h'.get? e=some u)
 (o:AB P w (upd H x o') h' x o'):CL P w (upd H x o') h':=λb u q=>by
 have l:∀c y,H c=some (.own y)->c≠x:=λc y r z=>by subst z;rw[r] at a;exact a
 have p:∀c d,H c=some (.tup d)->c≠x:=λc d r z=>by subst z;rw[r] at a;exact a
 by_cases hb:b=x;subst hb;rw[Aa] at q;cases q;exact o;rw[AC hb] at q;by_cases g:b=e
 have j:H b=some (.own x):=by
  rcases i with z|z;exact absurd (g.trans z) hb;rw[g];exact z
 rw[q] at j;cases j;obtain⟨v,m⟩:=n;exact⟨v,by rw[g];exact m⟩;refine(ok b u q).stay (λc v f r=>k c v ?_ r) (λc r=>by rw[AC (l c b r)];exact r) λc d r=>by rw[AC (p c d r)];exact r
 rcases f with rfl|f;exact g;rintro rfl;rcases i with z|z;exact l c b f z;rw[f] at z;cases z;exact hb rfl
end
structure Un (fs ex:List Addr) (H H':Hp) (h h':Heap):Prop where
 keep:∀b o,h.get? b=some o->H b=none->b∉fs->b∉ex->h'.get? b=some o
 slot:∀b o,h.get? b=some o->H b=none->b∈fs->b∉ex->∃sl,h'.get? b=some {o with slots:=sl}
 free:∀b o,h.get? b=some o->H b=none->b∉ex->H' b=none
 there:∀b o,h.get? b=some o->b∉ex->∃o',h'.get? b=some o'
 tups:∀b xs,H b=some (.tup xs)->H' b=some (.tup xs)
 frzs:∀b o u,H b=some (.frz o u)->H' b=some (.frz o u)
 tbls:∀b ps,H b=some (.tbl ps)->∃more,H' b=some (.tbl (ps++more))
section
variable {fs fs' ex ex':List Addr} {H Y H2:Hp} {h h1 h2 h':Heap} {a x e:Addr} {o:HO}
def Un.any(u:Un fs ex H Y h h1){ob:Obj}(q:h.get? b=some ob)(n:H b=none)(a:b∉ex):∃c,h1.get? b=some {ob with slots:=c}:=by
 by_cases hb:b∈fs;exact u.slot b ob q n hb a;exact⟨ob.slots,u.keep b ob q n hb a⟩
def Un.kept(k:∀b u,h.get? b=some u->h'.get? b=some u):Un fs ex H H h h':=
 ⟨λb a q ζ ζ ζ=>k b a q,λb a q ζ ζ ζ=>⟨a.slots,k b a q⟩,λζ ζ ζ n ζ=>n,λb a q ζ=>⟨a,k b a q⟩,λζ ζ q=>q,λζ ζ ζ q=>q,λζ c q=>⟨#[],by rw[q];simp⟩⟩
def Un.refl:Un fs ex H H h h:=Un.kept λζ ζ q=>q
def Un.laid(k:∀b u,h.get? b=some u->h'.get? b=some u)(d:h.objs.size<=a)(c:H a=none):Un fs ex H (upd H a o) h h' where
 keep:=λb u q ζ ζ ζ=>k b u q
 slot:=λb u q ζ ζ ζ=>⟨u.slots,k b u q⟩
 free:=λb u q n ζ=>by rw[AC (Cq (Fw (Bl q) d))];exact n
 there:=λb u q ζ=>⟨u,k b u q⟩
 tups:=λb e q=>by rw[AC (A1 q c)];exact q
 frzs:=λb u e q=>by rw[AC (A1 q c)];exact q
 tbls:=λb f q=>⟨#[],by rw[AC (A1 q c),q];simp⟩
def Un.write(a:NT (H x))(g:e=x\/H e=some (.own x))(k:∀b u,b≠e->h.get? b=some u->h'.get? b=some u)(l:∃u,h'.get? e=some u):Un fs ex H (upd H x o) h h':=by
 have d:∀b,H b=none->b≠x:=λb n z=>by subst z;rw[n] at a;exact a
 have hb:∀b,H b=none->b≠e:=λb n z=>by
  subst z;rcases g with r|r;exact d b n r;rw[n] at r;cases r
 have c:∀b u,H b=some u->¬NT (some u)->b≠x:=λb u q i z=>by subst z;rw[q] at a;exact i a
 refine⟨λb u q n ζ ζ=>k b u (hb b n) q,λb u q n ζ ζ=>⟨u.slots,k b u (hb b n) q⟩,λb u q n ζ=>by rw[AC (d b n)];exact n,λb u q ζ=>?_,
  λb j q=>by rw[AC (c b _ q λz=>z)];exact q,λb u j q=>by rw[AC (c b _ q λz=>z)];exact q,λb m q=>⟨#[],by rw[AC (c b _ q λz=>z),q];simp⟩⟩
 by_cases f:b=e;subst f;exact l;exact⟨u,k b u f q⟩
end
def PZ (h:Heap) (H:Hp):List Addr:=(List.range h.objs.size).filter λa=>(H a).isSome
def Fb (h:Heap) (H:Hp):Heap:=PySem.W.hideAll h (PZ h H)
def X6(h:Heap)(H:Hp):(Fb h H).objs.size=h.objs.size:=PySem.W.hideAll_size _ _
def X7{o:Obj}(e:h.get? b=some o)(n:H b=none):(Fb h H).get? b=some o:=
 PySem.W.hideAll_get _ e λa=>by
  have q:(H b).isSome=true:=(Kd.mp a).2;rw[n] at q;simp at q
def IC{o:Obj}(e:(Fb h H).get? b=some o):h.get? b=some o/\H b=none:=by
 have a:h.get? b=some o:=PySem.W.of_hideAll (PZ h H) e;refine⟨a,?_⟩
 cases q:H b with
 |none=>rfl
 |some x =>
   have c:b∈PZ h H:=Kd.mpr ⟨List.mem_range.mpr (Bl a),by simp[q]⟩;have z:(Fb h H).get? b=none:=PySem.W.hideAll_none (PZ h H) c;rw[z] at e;cases e
structure Mod (K:Ah) (mg:Str->Option Value) (base:Heap):Prop where
 kin:K.In base
 glob:base.Ns mainGlobals mg
 blt:∃mb,base.Ns builtinsNs mb/\∀x:Str,x ≠ "__name__" -> mb x=bootBuiltins x
 nolimit:base.NoLimit
structure Cx where
 prog:Program
 w:World
 K:Ah
 mg:Str->Option Value
 base:Heap
 A:Around
 N:List Str
 s₀:Shared
 H₀:Hp
 env:Env
 outer:List Env
 stack:List Env
 ex:List Addr
 fn:Str->Bool
 calm:Bool
 pn:B'
 xe:Value->Shared->Prop
def EH (l:List Env):List Addr:=l.filterMap (·.frame)
abbrev Cx.fs (X:Cx):List Addr:=EH X.outer
def P0 (sc:Scope) (x:Str):Prop:=sc.names.lookup x=some .local\/sc.names.lookup x=some .cell\/sc.names.lookup x=some .free
def Loc (sc:Scope) (x:Str):Prop:=sc.names.lookup x=some .local\/sc.names.lookup x=some .cell
def Look (env:Env) (h:Heap) (m:Str->Option Value) (x:Str) (u:Value):Prop:=
 (env.kindOf x=some .local/\m x=some u)\/((env.kindOf x=some .cell\/env.kindOf x=some .free)/\∃c,env.cells.lookup x=some c/\h.IsCell c (some u))
structure Cx.Ok (X:Cx):Prop where
 mod:Mod X.K X.mg X.base
 kind:X.env.scope.kind=.function
 glob:X.env.globals=mainGlobals
 blt:X.env.builtins=builtinsNs
 above:X.s₀.heap.objs.size<=X.env.locals
 inj:∀x y c,X.env.cells.lookup x=some c->X.env.cells.lookup y=some c->x=y
 has:∀x,(X.env.kindOf x=some .cell\/X.env.kindOf x=some .free)->∃c,X.env.cells.lookup x=some c
 cab:∀x c,X.fn x=true->X.env.cells.lookup x=some c->X.s₀.heap.objs.size<=c
 hd:X.calm=true->X.A.handled=none
 frames:X.A.frames=some X.stack
 stk:X.stack=X.outer\/(X.stack=X.env::X.outer/\X.env.frame=some X.env.locals)
 exf:∀b∈X.ex,b≠X.env.locals/\∀x c,X.env.cells.lookup x=some c->c≠b
 bs:∀b o,X.base.get? b=some o->X.s₀.heap.get? b=some o/\X.H₀ b=none
 bsz:X.base.objs.size<=X.s₀.heap.objs.size
 noex:∀b o,X.base.get? b=some o->b∉X.ex
 exfs:∀b∈X.ex,b∉X.fs
 funs:X.s₀.heap.FunFrames X.base X.outer
 frf:∀b∈X.fs,X.H₀ b=none
structure Inv (X:Cx) (pins:B') (σ:List (Option V)) (H:Hp) (s:Shared):Prop where
 ok:X.Ok
 os:s.os=X.s₀.os
 bare:AllBare s.gens
 base:Un X.fs X.ex X.H₀ H X.s₀.heap s.heap
 loc:∃m,s.heap.Ns X.env.locals m/\∀(i:Nat)(x:Str)(v:V),X.N[i]?=some x->σ[i]?=some (some v)->P0 X.env.scope x->∃u,RelV v u/\Look X.env s.heap m x u
 cell:∀x c,X.env.cells.lookup x=some c->∃v,s.heap.IsCell c v
 free:H X.env.locals=none
 freeC:∀x c,X.env.cells.lookup x=some c->H c=none
 pin:∀p∈X.pn++pins,s.heap.get? p.1=some p.2/\H p.1=none/\p.1≠X.env.locals/\p.1∉X.fs/\∀v,p.2.data≠.cell v
 hok:CL X.prog X.w H s.heap
 len:σ.length=X.N.length
section
variable {X:Cx} {pins:B'} {σ:List (Option V)} {H H':Hp} {s:Shared} {h':Heap}
def Cx.Ok.nofr(ok:X.Ok){o:Obj}(e:X.base.get? b=some o):b∉X.fs:=λhb=>by
 have:=(ok.funs.mem hb).1;rw[e] at this;cases this
def Inv.bs(I:Inv X pins σ H s):∀b o,X.base.get? b=some o->s.heap.get? b=some o/\H b=none:=λb o e =>
 ⟨I.base.keep b o (I.ok.bs b o e).1 (I.ok.bs b o e).2 (I.ok.nofr e) (I.ok.noex b o e),I.base.free b o (I.ok.bs b o e).1 (I.ok.bs b o e).2 (I.ok.noex b o e)⟩
def Inv.bk(I:Inv X pins σ H s):∀b o,X.base.get? b=some o->s.heap.get? b=some o:=λb o e=>(I.bs b o e).1
def Inv.mod(I:Inv X pins σ H s):Mod X.K X.mg X.base:=I.ok.mod
def Inv.kIn(I:Inv X pins σ H s):X.K.In s.heap:=I.ok.mod.kin.keeps I.bk
def Inv.lt(I:Inv X pins σ H s):X.env.locals<s.heap.objs.size:=let ⟨_,a,_⟩:=I.loc;a.lt
def Inv.sz(I:Inv X pins σ H s):X.s₀.heap.objs.size<=s.heap.objs.size:=E8 I.ok.above (Cn I.lt)
def Inv.nofs(I:Inv X pins σ H s)(h:s.heap.objs.size<=a):a∉X.fs:=λhb=>by
 obtain⟨_,o,b,_⟩:=I.ok.funs.mem hb;exact absurd (Fw (Bl b) (E8 I.sz h)) (G3 _)
def Inv.cne(I:Inv X pins σ H s):∀x c,X.env.cells.lookup x=some c->c≠X.env.locals:=λx c e z=>by
 obtain⟨v,o,a,hd⟩:=I.cell x c e;obtain⟨m,⟨f,g,h,b,d,_⟩,_⟩:=I.loc;rw[z,b] at a;cases a;rw[d] at hd;cases hd
def Inv.funs(I:Inv X pins σ H s):s.heap.FunFrames X.base X.outer:=by
 have all:∀(l:List Env),(∀b∈EH l,b∈X.fs)->X.s₀.heap.FunFrames X.base l->s.heap.FunFrames X.base l:=by
  intro l
  induction l with
  |nil=>intro _ _;trivial
  |cons n r f =>
    intro d g;obtain⟨h,⟨L,o,a,i,j,hd⟩,k⟩:=g;have c:L∈X.fs:=d L (by unfold EH;rw[Ri,a];exact Bu);obtain⟨m,e⟩:=I.base.slot L o j (I.ok.frf L c) c λz=>I.ok.exfs L z c;exact⟨h,⟨L,_,a,i,e,hd⟩,f (λb hb=>d b (by unfold EH;rw[Ri,a];exact B8 _ hb)) k⟩
 exact all X.outer (λζ hb=>hb) I.ok.funs
def Inv.stack(I:Inv X pins σ H s):s.heap.FunFrames X.base X.stack:=by
 rcases I.ok.stk with e|⟨e,a⟩;rw[e];exact I.funs;rw[e];obtain⟨m,b,_⟩:=I.loc;refine .cons (by rw[I.ok.kind];decide) a b ?_ I.funs;exact Heap.get?_none_of_le (E8 I.ok.bsz I.ok.above)
def Inv.stkSub(I:Inv X pins σ H s):∀b∈EH X.stack,b∈X.env.locals::X.fs:=λb hb=>by
 rcases I.ok.stk with e|⟨e,a⟩;rw[e] at hb;exact B8 _ hb;rw[e] at hb;unfold EH at hb;rw[Ri,a] at hb;exact hb
def Inv.stkFree(I:Inv X pins σ H s):∀b∈EH X.stack,H b=none:=λb hb=>by
 rcases BV.mp (I.stkSub b hb) with e|hb;rw[e];exact I.free;obtain⟨_,o,a,_⟩:=I.ok.funs.mem hb;exact I.base.free b o a (I.ok.frf b hb) λz=>I.ok.exfs b z hb
variable {t':Nat}{ch:List Addr}
def Inv.step{g':Array GenState}{d':Drawn}(I:Inv X pins σ H s)
 (t:∀b∈ch,(b∈X.ex\/X.s₀.heap.objs.size<=b)/\b≠X.env.locals/\(∀x c,X.env.cells.lookup x=some c->c≠b)/\∀p∈X.pn++pins,p.1≠b)
 (keep:∀b o,b≠X.env.locals->b∉X.fs->b∉ch->s.heap.get? b=some o->H b=none->h'.get? b=some o)
 (G:∀b o,b≠X.env.locals->b∈X.fs->b∉ch->s.heap.get? b=some o->H b=none->∃B,h'.get? b=some {o with slots:=B}) (free:∀b o,b∉ch->s.heap.get? b=some o->H b=none->H' b=none)
 (there:∀b o,b∉ch->s.heap.get? b=some o->∃h,h'.get? b=some h)
 (tups:∀b xs,H b=some (.tup xs)->H' b=some (.tup xs)) (S:∀b o u,H b=some (.frz o u)->H' b=some (.frz o u)) (T:∀b y,H b=some (.tbl y)->∃more,H' b=some (.tbl (y++more)))
 (ns:∀m,s.heap.Ns X.env.locals m->h'.Ns X.env.locals m) (Q:CL X.prog X.w H' h') (K:AllBare g') :
 Inv X pins σ H' {s with heap:=h',gens:=g',drawn:=d',toks:=t'}:=by
 have F:∀b o,X.s₀.heap.get? b=some o->b≠X.env.locals:=λb o e=>Cq (Fw (Bl e) I.ok.above)
 have A:∀b o,X.s₀.heap.get? b=some o->b∉X.ex->b∉ch:=λb o e a hb=>by
  rcases(t b hb).1 with z|z;exact a z;exact absurd (Fw (Bl e) z) (G3 _)
 have J:∀x c,X.env.cells.lookup x=some c->∀v,s.heap.IsCell c v->h'.IsCell c v:=λx c e v⟨o,g,hd⟩=>by
  have w:c∉ch:=λz=>(t c z).2.2.1 x c e rfl;by_cases C:c∈X.fs;obtain⟨B,q⟩:=G c o (I.cne x c e) C w g (I.freeC x c e);exact⟨_,q,hd⟩;exact⟨o,keep c o (I.cne x c e) C w g (I.freeC x c e),hd⟩
 refine⟨I.ok,I.os,K,⟨λb o e n hb a=>?_,λb o e n hb a=>?_,λb o e n a=>?_,λb o e a=>?_,λb xs e=>tups b xs (I.base.tups b xs e),λb o xs e=>S b o xs (I.base.frzs b o xs e),λb y e=>?_⟩,?_,λx c e=>?_,?_,λx c e=>?_,λp D=>?_,Q,I.len⟩;exact keep b o (F b o e) hb (A b o e a) (I.base.keep b o e n hb a) (I.base.free b o e n a);obtain⟨B,f⟩:=I.base.slot b o e n hb a;obtain⟨R,j⟩:=G b _ (F b o e) hb (A b o e a) f (I.base.free b o e n a);exact⟨R,j⟩;obtain⟨h,f⟩:=I.base.there b o e a;exact free b h (A b o e a) f (I.base.free b o e n a);obtain⟨h,f⟩:=I.base.there b o e a;exact there b h (A b o e a) f;obtain⟨L,f⟩:=I.base.tbls b y e;obtain⟨M,j⟩:=T b _ f;exact⟨L++M,by rw[j,Array.append_assoc]⟩;obtain⟨m,N,O⟩:=I.loc;refine⟨m,ns m N,λi x v f j P=>?_⟩;obtain⟨u,r,l⟩:=O i x v f j P;refine⟨u,r,?_⟩;rcases l with l|⟨k,c,e,z⟩;exact .inl l;exact .inr ⟨k,c,e,J x c e _ z⟩;obtain⟨v,z⟩:=I.cell x c e;exact⟨v,J x c e v z⟩;obtain⟨m,⟨o,_,_,g,_⟩,_⟩:=I.loc;exact free _ o (λz=>(t _ z).2.1 rfl) g I.free;obtain⟨v,o,g,hd⟩:=I.cell x c e;exact free c o (λz=>(t c z).2.2.1 x c e rfl) g (I.freeC x c e);obtain⟨e,n,ne,E,d⟩:=I.pin p D;have w:p.1∉ch:=λz=>(t p.1 z).2.2.2 p D rfl;exact⟨keep p.1 p.2 ne E w e n,free p.1 p.2 w e n,ne,E,d⟩
def Inv.un(I:Inv X pins σ H s)(u:Un X.fs [] H H' s.heap h')(h:CL X.prog X.w H' h'):Inv X pins σ H' {s with heap:=h',toks:=t'}:=by
 obtain⟨m,⟨o,k,l,a,r⟩,_⟩:=id I.loc;obtain⟨p,d⟩:=u.any a I.free (by simp)
 exact I.step (g':=s.gens) (d':=s.drawn) (ch:=[]) (λζ z=>nomatch z) (λb o ζ hb ζ e n=>u.keep b o e n hb (by simp)) (λb o ζ hb ζ e n=>u.slot b o e n hb (by simp)) (λb o ζ e n=>u.free b o e n (by simp)) (λb o ζ e=>u.there b o e (by simp)) u.tups u.frzs u.tbls (λq f=>by
  obtain⟨t,i,j,c,g⟩:=f;rw[a] at c;cases c
  exact⟨_,i,j,d,g⟩) h I.bare
def Inv.call{g':Array GenState}{d':Drawn}(I:Inv X pins σ H s)(u:Un (EH X.stack) ch H H' s.heap h')(l:CL X.prog X.w H' h')(i:AllBare g')
 (g:∀b∈ch,(b∈X.ex\/X.s₀.heap.objs.size<=b)/\b≠X.env.locals/\(∀x c,X.env.cells.lookup x=some c->c≠b)/\∀p∈X.pn++pins,p.1≠b) :
 Inv X pins σ H' {s with heap:=h',gens:=g',drawn:=d',toks:=t'}:=by
 obtain⟨m,⟨o,v,w,f,r⟩,_⟩:=id I.loc;obtain⟨y,d⟩:=u.any f I.free λz=>(g _ z).2.1 rfl
 exact I.step (ch:=ch) g (λb o d hb a e n=>u.keep b o e n (λz=>(BV.mp (I.stkSub b z)).elim d hb) a) (λb o ζ ζ a e n=>u.any e n a) (λb o a e n=>u.free b o e n a) (λb o a e=>u.there b o e a) u.tups u.frzs u.tbls (λA j=>by
  obtain⟨B,q,t,h,k⟩:=j;rw[f] at h;cases h
  exact⟨_,q,t,d,k⟩) l i
def Inv.turned{it:Addr}(I:Inv X pins σ H s)(k:∀b o,b≠it->s.heap.get? b=some o->h'.get? b=some o)(g:H it=none)(d:it≠X.env.locals)
 (h:it∈X.ex\/X.s₀.heap.objs.size<=it) (i:∀x c,X.env.cells.lookup x=some c->c≠it) (j:∀p∈X.pn++pins,p.1≠it):Inv X pins σ H {s with heap:=h',toks:=t'}:=by
 have f:∀b u,H b=some u->b≠it:=λb u e z=>by rw[z,g] at e;cases e
 refine I.step (g':=s.gens) (d':=s.drawn) (ch:=[it]) (λb hb=>?_) (λb o ζ ζ a e ζ=>k b o (λz=>a (by simp[z])) e) (λb o ζ ζ a e ζ=>⟨o.slots,k b o (λz=>a (by simp[z])) e⟩) (λζ ζ ζ ζ n=>n)
  (λb o a e=>⟨o,k b o (λz=>a (by simp[z])) e⟩) (λζ ζ e=>e) (λζ ζ ζ e=>e) (λb A e=>⟨#[],by rw[e];simp⟩) (λm l=>?_) (λb u e=>?_) I.bare
 have e:b=it:=(by simpa using hb);subst e;exact⟨h,d,i,j⟩;obtain⟨o,t,w,y,r⟩:=l;exact⟨o,t,w,k _ o (Ne.symm d) y,r⟩;refine(I.hok b u e).stay (λc v a q=>k c v ?_ q) (λζ q=>q) λζ ζ q=>q;rcases a with z|z;rw[z];exact f b u e;exact f c _ z
def Inv.tok(I:Inv X pins σ H s)(t:Nat):Inv X pins σ H {s with toks:=t}:=I.un (h':=s.heap) (t':=t) Un.refl I.hok
def Inv.kept{t':Nat}(I:Inv X pins σ H s)(k:∀b u,s.heap.get? b=some u->h'.get? b=some u):Inv X pins σ H {s with heap:=h',toks:=t'}:=I.un (Un.kept k) (I.hok.kept k)
def Inv.laid{a:Addr}{o:HO}{t':Nat}(I:Inv X pins σ H s)(k:∀b u,s.heap.get? b=some u->h'.get? b=some u)(c:s.heap.objs.size<=a)(d:AB X.prog X.w (upd H a o) h' a o) :
 Inv X pins σ (upd H a o) {s with heap:=h',toks:=t'}:=I.un (Un.laid k c (I.hok.fresh c)) (I.hok.laid k c d)
def Inv.write{x e:Addr}{o:HO}{t':Nat}(I:Inv X pins σ H s)(a:NT (H x))(c:e=x\/H e=some (.own x))(k:∀b u,b≠e->s.heap.get? b=some u->h'.get? b=some u)(d:∃u,h'.get? e=some u)
 (f:AB X.prog X.w (upd H x o) h' x o):Inv X pins σ (upd H x o) {s with heap:=h',toks:=t'}:=I.un (Un.write a c k d) (I.hok.write a c k d f)
def Inv.pins_of{a:B'}(I:Inv X pins σ H s)(h:∀p∈a,s.heap.get? p.1=some p.2/\H p.1=none/\p.1≠X.env.locals/\p.1∉X.fs/\∀v,p.2.data≠.cell v):Inv X a σ H s:=
 ⟨I.ok,I.os,I.bare,I.base,I.loc,I.cell,I.free,I.freeC,λp b=>(BL.mp b).elim (λz=>I.pin p (Ef _ z)) (h p),I.hok,I.len⟩
variable {i:Nat}{x:Str}
def UU{N:List Str}(c:N.Nodup){j:Nat}(a:N[i]?=some x)(b:N[j]?=some x):i=j:=by
 obtain⟨f,d⟩:=AN.mp a;obtain⟨g,e⟩:=AN.mp b;exact(List.getElem_inj c).mp (d.trans e.symm)
def UV{ah:Model}{A:Around}{E:D'}{v:V}{u:Value}{Q:Unit->Shared->Prop}(I:Inv X pins σ H s)(U:X.N.Nodup)(C:X.N[i]?=some x)(m:Loc X.env.scope x)(r:RelV v u)
 (h:∀L,Inv X pins (σ.set i (some v)) H L->(∃a,Heap.SameBut a s.heap L.heap/\(a=X.env.locals\/X.env.cells.lookup x=some a))->Q () L) (hf:X.fn x=true\/X.env.scope.names.lookup x=some .local:=by first|exact .inl rfl|exact .inr rfl|assumption):wpAny ah A (storeName X.env x u) Q E s:=by
 obtain⟨ai,G,W⟩:=id I.loc;have al:(X.env.scope.kind==.class || (X.env.scope.kind==.module && X.env.locals != X.env.globals))=false:=by rw[I.ok.kind];rfl
 have Z:i<σ.length:=by rw[I.len];exact(AN.mp C).1
 have cne:=I.cne
 have ag:∀{a:Addr}{h':Heap},(∃o,s.heap.get? a=some o/\H a=none)->Heap.SameBut a s.heap h'->CL X.prog X.w H h':=λ{a h'}ha f b ob e=>by
  obtain⟨_,_,af⟩:=ha;refine(I.hok b ob e).stay (λc D l q=>(f.2 c ?_).trans q) (λζ q=>q) λζ ζ q=>q;rintro rfl;rcases l with rfl|l;rw[af] at e;cases e;rw[af] at l;cases l
 rcases m with w|w;refine wpAny_storeName_local w G (λh' aj f=>?_) al;obtain⟨oL,_,_,ak,_⟩:=id G;refine h _ ⟨I.ok,I.os,I.bare,⟨λb o e n hb m=>?_,λb o e n hb m=>?_,I.base.free,λb o e m=>?_,I.base.tups,I.base.frzs,I.base.tbls⟩,⟨_,aj,λj y J g t K=>?_⟩,λy c e=>?_,I.free,I.freeC,λp M=>?_,ag ⟨oL,ak,I.free⟩ f,by simpa using I.len⟩ ⟨_,f,.inl rfl⟩;exact(f.2 b (Cq (Fw (Bl e) I.ok.above))).trans (I.base.keep b o e n hb m);obtain⟨N,g⟩:=I.base.slot b o e n hb m;exact⟨N,(f.2 b (Cq (Fw (Bl e) I.ok.above))).trans g⟩;obtain⟨O,g⟩:=I.base.there b o e m;exact⟨O,(f.2 b (Cq (Fw (Bl e) I.ok.above))).trans g⟩;by_cases B:j=i;subst B;rw[C] at g;cases g;rw[List.getElem?_set_self Z] at t;cases t;exact⟨u,r,.inl ⟨w,by simp⟩⟩;rw[List.getElem?_set_ne (Ne.symm B)] at t;obtain⟨P,R,q⟩:=W j y J g t K;refine⟨P,R,?_⟩;rcases q with⟨k,e⟩|⟨k,c,e,z⟩;refine .inl ⟨k,?_⟩;have:y≠x:=λe=>B (UU U g (e▸C));simp[this,e];exact .inr ⟨k,c,e,z.sameBut f (cne y c e)⟩;obtain⟨D,z⟩:=I.cell y c e;exact⟨D,z.sameBut f (cne y c e)⟩;obtain⟨e,n,ne,S,d⟩:=I.pin p M;exact⟨(f.2 p.1 ne).trans e,n,ne,S,d⟩
 have T:X.fn x=true:=by
  rcases hf with z|z;exact z;rw[z] at w;cases w
 obtain⟨c,l⟩:=I.ok.has x (.inl w);obtain⟨D,z⟩:=I.cell x c l;refine wpAny_storeName_cell I.ok.kind w l z (λh' aa f=>?_);obtain⟨Y,ab,an⟩:=id z;refine h {s with heap:=h'} ⟨I.ok,I.os,I.bare,⟨λb o e n hb m=>?_,λb o e n hb m=>?_,I.base.free,λb o e m=>?_,I.base.tups,I.base.frzs,I.base.tbls⟩,⟨ai,G.sameBut f (Ne.symm (cne x c l)),λj y J g t K=>?_⟩,λy F e=>?_,I.free,I.freeC,λp M=>?_,ag ⟨Y,ab,I.freeC x c l⟩ f,by simpa using I.len⟩ ⟨c,f,.inr l⟩;exact(f.2 b (Cq (Fw (Bl e) (I.ok.cab x c T l)))).trans (I.base.keep b o e n hb m);obtain⟨N,g⟩:=I.base.slot b o e n hb m;exact⟨N,(f.2 b (Cq (Fw (Bl e) (I.ok.cab x c T l)))).trans g⟩;obtain⟨O,g⟩:=I.base.there b o e m;exact⟨O,(f.2 b (Cq (Fw (Bl e) (I.ok.cab x c T l)))).trans g⟩;by_cases B:j=i;subst B;rw[C] at g;cases g;rw[List.getElem?_set_self Z] at t;cases t;exact⟨u,r,.inr ⟨.inl w,c,l,aa⟩⟩;rw[List.getElem?_set_ne (Ne.symm B)] at t;obtain⟨P,R,q⟩:=W j y J g t K;refine⟨P,R,?_⟩;rcases q with q|⟨k,F,e,z'⟩;exact .inl q;refine .inr ⟨k,F,e,z'.sameBut f ?_⟩;rintro rfl;exact B (UU U g (I.ok.inj _ _ _ e l▸C));by_cases ae:F=c;subst ae;exact⟨_,aa⟩;obtain⟨w2,z2⟩:=I.cell y F e;exact⟨w2,z2.sameBut f ae⟩;obtain⟨e,n,ne,S,d⟩:=I.pin p M;refine⟨(f.2 p.1 ?_).trans e,n,ne,S,d⟩;intro q;rw[q,ab] at e;have q':Y=p.2:=Br e;exact d D (by rw[<-q'];exact an)
def RU{M:Model}{A:Around}{E:D'}{v:V}{u:Value}{Q:Unit->Shared->Prop}(I:Inv X pins σ H s)(a:X.N.Nodup)(b:X.N[i]?=some x)(c:Loc X.env.scope x)(r:RelV v u)
 (h:∀L,Inv X pins (σ.set i (some v)) H L->Q () L) (d:X.fn x=true\/X.env.scope.names.lookup x=some .local:=by first|exact .inl rfl|exact .inr rfl|assumption):wpAny M A (storeName X.env x u) Q E s:=
 UV I a b c r (λL e ζ=>h L e) d
def Inv.call'{L:Shared}(I:Inv X pins σ H s)(a:L.os=s.os)(u:Un (EH X.stack) ch H H' s.heap L.heap)(g:CL X.prog X.w H' L.heap)(d:AllBare L.gens)
 (h:∀b∈ch,(b∈X.ex\/X.s₀.heap.objs.size<=b)/\b≠X.env.locals/\(∀x c,X.env.cells.lookup x=some c->c≠b)/\∀p∈X.pn++pins,p.1≠b):Inv X pins σ H' L:=by
 obtain⟨h',g',d',t',f⟩:=L;have e:f=s.os:=a;subst e;exact I.call (g':=g') (t':=t') (d':=d') u g d h
end
abbrev XK:=Value->Option Addr->Hp->Prop
abbrev St:=List (Option V)
abbrev VK:=V->Hp->Prop
abbrev TE:=St->Hp->VK->Prop
abbrev TT:=St->Hp->(Bool->Hp->Prop)->Prop
abbrev TA:=St->Hp->(List V->Hp->Prop)->Prop
structure Ends where
 nx:St->Hp->Prop
 rt:VK
 bk:St->Hp->Prop:=λζ ζ=>False
 ct:St->Hp->Prop:=λζ ζ=>False
abbrev TS:=Ends->St->Hp->Prop
def EP (X:Cx) (pins:B') (σ:St) (Q:VK) (u:Value) (L:Shared):Prop:=∃v H',Inv X pins σ H' L/\RelV v u/\Q v H'
def TP (X:Cx) (pins:B') (σ:St) (Q:Bool->Hp->Prop) (b:Bool) (L:Shared):Prop:=∃H',Inv X pins σ H' L/\Q b H'
def AP (X:Cx) (pins:B') (σ:St) (Q:List V->Hp->Prop) (us:List Value) (L:Shared):Prop:=∃vs H',Inv X pins σ H' L/\At vs us/\Q vs H'
def SP (X:Cx) (pins:B') (D:Ends) (f:Flow) (L:Shared):Prop:=
 match f with
 |.next=>∃σ' H',Inv X pins σ' H' L/\D.nx σ' H'
 |.brk=>∃σ' H',Inv X pins σ' H' L/\D.bk σ' H'
 |.cont=>∃σ' H',Inv X pins σ' H' L/\D.ct σ' H'
 |.ret u=>∃v σ' H',Inv X pins σ' H' L/\RelV v u/\D.rt v H'
def PE (X:Cx) (e:Expr) (t:TE):Prop:=
 ∀(pins:B')(s:Shared)(σ:St)(H:Hp)(Q:VK),Inv X pins σ H s->t σ H Q->wpAny (model X.prog X.w) X.A (eval e X.env) (EP X pins σ Q) X.xe s
def PT (X:Cx) (e:Expr) (t:TT):Prop:=
 ∀(pins:B')(s:Shared)(σ:St)(H:Hp)(Q:Bool->Hp->Prop),Inv X pins σ H s->t σ H Q->wpAny (model X.prog X.w) X.A (isTrue e X.env (eval e X.env)) (TP X pins σ Q) X.xe s
def PW (X:Cx) (e:Expr) (t:TT):Prop:=
 ∀(whole:Sem Value)(pins:B')(s:Shared)(σ:St)(H:Hp)(Q:Bool->Hp->Prop),Inv X pins σ H s->t σ H Q->wpAny (model X.prog X.w) X.A (isTrue e X.env whole) (TP X pins σ Q) X.xe s
variable {X:Cx}{e:Expr}
def PW.pt{t:TT}(h:PW X e t):PT X e t:=h _
def PA (X:Cx) (es:List Expr) (t:TA):Prop:=
 ∀(pos:Pos)(pins:B')(s:Shared)(σ:St)(H:Hp)(Q:List V->Hp->Prop),Inv X pins σ H s->t σ H Q->wpAny (model X.prog X.w) X.A (spliced (backTo pos (starEach es X.env))) (AP X pins σ Q) X.xe s
def PS (X:Cx) (st:Stmt) (t:TS):Prop:=
 ∀(pins:B')(s:Shared)(σ:St)(H:Hp)(D:Ends),Inv X pins σ H s->t D σ H->wpAny (model X.prog X.w) X.A (exec st X.env) (SP X pins D) X.xe s
def F3 (X:Cx) (st:List Stmt) (t:TS):Prop:=
 ∀(pins:B')(s:Shared)(σ:St)(H:Hp)(D:Ends),Inv X pins σ H s->t D σ H->wpAny (model X.prog X.w) X.A (execs st X.env) (SP X pins D) X.xe s
variable {A:Around}{E:D'}{s:Shared}
def AU{α:Type}{t:Sem α}{Q b:α->Shared->Prop}{M:Model}(h:wpAny M A t Q E s)(c:∀a s,Q a s->b a s):wpAny M A t b E s:=Fy h c λζ ζ x=>x
section
variable {X:Cx}
def mV:Option (Option V)->(V->Prop)->Prop|some (some v),q=>q v|_,_=>(λζ=>False) Nat.repr
def mB:V->(Bool->Prop)->Prop|.bl c,q=>0=0/\q c|_,_=>(λζ=>False) Nat.repr
def mI:V->(Int->Prop)->Prop|.int i,q=>q i|_,_=>(λζ=>False) Nat.repr
def G6:V->V->(Int->Int->Prop)->Prop|.int i,.int j,q=>q i j|_,_,_=>(λζ=>False) Nat.repr
def mR:V->(Addr->Prop)->Prop|.ref a,q=>q a|_,_=>(λζ=>False) Nat.repr
def mT:V->(Addr->List V->Prop)->Prop|.ref a,q=>∃xs,q a xs|_,_=>(λζ=>False) Nat.repr
def mX:V->V->(Addr->List V->Int->V->Prop)->Prop|.ref p,.int i,q=>∃xs v,q p xs i v|_,_,_=>(λζ=>False) Nat.repr
def mC:List V->(V->List V->Prop)->Prop|v::r,q=>q v r|_,_=>(λζ=>False) Nat.repr
def mN:List V->Prop->Prop|[],q=>q|_,_=>(λζ=>False) Nat.repr
def mL:List V->(V->Nat->Prop)->Prop|[x],q=>∃n,q x n|_,_=>(λζ=>False) Nat.repr
def mA:V->List V->(Addr->List V->V->Prop)->Prop|.ref l,[y],q=>∃xs,q l xs y|_,_,_=>(λζ=>False) Nat.repr
def mJ:List V->(Int->Prop)->Prop|[.int j],q=>q j|_,_=>(λζ=>False) Nat.repr
def mV.ex{o:Option (Option V)}{q:V->Prop}(h:mV o q):∃v,o=some (some v)/\q v:=by
 unfold mV at h;split at h;exact⟨_,rfl,h⟩;exact False.elim h
variable {x:V}
def mB.ex{q:Bool->Prop}(h:mB x q):∃c,x=.bl c/\q c:=by
 unfold mB at h;split at h;exact⟨_,rfl,h.2⟩;exact False.elim h
def mI.ex{q:Int->Prop}(h:mI x q):∃i,x=.int i/\q i:=by
 unfold mI at h;split at h;exact⟨_,rfl,h⟩;exact False.elim h
def G6.ex{y:V}{q:Int->Int->Prop}(h:G6 x y q):∃i j,x=.int i/\y=.int j/\q i j:=by
 unfold G6 at h;split at h;exact⟨_,_,rfl,rfl,h⟩;exact False.elim h
def mR.ex{q:Addr->Prop}(h:mR x q):∃a,x=.ref a/\q a:=by
 unfold mR at h;split at h;exact⟨_,rfl,h⟩;exact False.elim h
def mT.ex{q:Addr->List V->Prop}(h:mT x q):∃a xs,x=.ref a/\q a xs:=by
 unfold mT at h;split at h;exact⟨_,h.choose,rfl,h.choose_spec⟩;exact False.elim h
def mX.ex{y:V}{q:Addr->List V->Int->V->Prop}(h:mX x y q):∃p xs i v,x=.ref p/\y=.int i/\q p xs i v:=by
 unfold mX at h;split at h;obtain⟨xs,v,h⟩:=h;exact⟨_,xs,_,v,rfl,rfl,h⟩;exact False.elim h
variable {vs:List V}
def mC.ex{q:V->List V->Prop}(h:mC vs q):∃v r,vs=v::r/\q v r:=by
 unfold mC at h;split at h;exact⟨_,_,rfl,h⟩;exact False.elim h
def mN.ex{q:Prop}(h:mN vs q):vs=[]/\q:=by
 unfold mN at h;split at h;exact⟨rfl,h⟩;exact False.elim h
def mL.ex{q:V->Nat->Prop}(h:mL vs q):∃x n,vs=[x]/\q x n:=by
 unfold mL at h;split at h;exact⟨_,h.choose,rfl,h.choose_spec⟩;exact False.elim h
def mA.ex{q:Addr->List V->V->Prop}(h:mA x vs q):∃l xs y,x=.ref l/\vs=[y]/\q l xs y:=by
 unfold mA at h;split at h;exact⟨_,h.choose,_,rfl,rfl,h.choose_spec⟩;exact False.elim h
def mJ.ex{q:Int->Prop}(h:mJ vs q):∃j,vs=[.int j]/\q j:=by
 unfold mJ at h;split at h;exact⟨_,rfl,h⟩;exact False.elim h
def Bs (i:Nat):TE:=λσ H Q=>mV σ[i]? λv=>Q v H
def tC (v:V):TE:=λζ H Q=>Q v H
def K7{i:Nat}{x:Str}{pos:Pos}(g:X.N[i]?=some x)(hv:P0 X.env.scope x)(hd:(x==("__debug__" : Str))=false:=by decide)(o:(x==("__classdict__" : Str))=false:=by decide):PE X (.Name x pos) (Bs i):=by
 intro p s σ H Q I h
 replace h:=mV.ex h
 obtain⟨v,e,h⟩:=h;obtain⟨m,j,k⟩:=I.loc;obtain⟨u,r,l⟩:=k i x v g e hv;have b:EP X p σ Q u s:=⟨v,H,I,r,h⟩;rcases l with⟨a,n⟩|⟨a,c,d,f⟩;exact wpAny_Name (wpAny_loadName_local I.ok.kind a j n b) hd;rcases a with a|a;exact wpAny_Name (wpAny_loadName_cell I.ok.kind a d f b) hd;exact wpAny_Name (wpAny_loadName_free I.ok.kind a d f b o) hd
def Aq{i j pos}:PE X (.Constant (.int i) j pos) (tC (.int i)):=λζ ζ ζ H ζ I h=>wpAny_Constant_int ⟨.int i,H,I.tok _,⟨_,rfl⟩,h⟩
def Il{b j pos}:PE X (.Constant (.bool b) j pos) (tC (.bl b)):=λζ ζ ζ H ζ I h=>Constant_bool ⟨.bl b,H,I,rfl,h⟩
def F4{j pos}:PE X (.Constant .none j pos) (tC .non):=λζ ζ ζ H ζ I h=>Constant_none ⟨.non,H,I,rfl,h⟩
def BN{x j pos}:PE X (.Constant (.str x) j pos) (tC (.str x)):=λζ ζ ζ H ζ I h=>Calls.Constant_str ⟨.str x,H,I.tok _,⟨_,rfl⟩,h⟩
def Gl (X:Cx) (x:Str):Prop:=X.env.kindOf x=some .globalImplicit
def UW{pins:B'}{σ:St}{x:Str}{u:Value}{pos:Pos}{Q:D'}(I:Inv X pins σ H s)(a:Gl X x)(b:X.mg x=some u)(h:Q u s)
 (hd:(x==("__debug__" : Str))=false:=by decide):wpAny (model X.prog X.w) X.A (eval (.Name x pos) X.env) Q E s:=
 Calls.Name_function_global I.ok.kind a (Calls.loadGlobal_global (by rw[I.ok.glob];exact I.mod.glob.keeps I.bk) b h) hd
def Kg{pins:B'}{σ:St}{x:Str}{u:Value}{pos:Pos}{Q:D'}(I:Inv X pins σ H s)(a:Gl X x)(b:X.mg x=none)(hv:bootBuiltins x=some u)(h:Q u s)
 (c:x ≠ "__name__" :=by decide) (hd:(x==("__debug__" : Str))=false:=by decide):wpAny (model X.prog X.w) X.A (eval (.Name x pos) X.env) Q E s:=by
 obtain⟨f,d,e⟩:=I.mod.blt;exact Calls.Name_function_global I.ok.kind a (Calls.loadGlobal_builtin (by rw[I.ok.glob];exact I.mod.glob.keeps I.bk) b (by rw[I.ok.blt];exact d.keeps I.bk) ((e x c).trans hv) h) hd
def ID{x:Str}{v:V}{u:Value}{pos:Pos}(a:Gl X x)(b:X.mg x=some u)(r:RelV v u)(hd:(x==("__debug__" : Str))=false:=by decide):PE X (.Name x pos) (tC v):=
 λζ ζ ζ H ζ I h=>UW I a b ⟨v,H,I,r,h⟩ hd
def IE{x:Str}{v:V}{u:Value}{pos:Pos}(a:Gl X x)(b:X.mg x=none)(hv:bootBuiltins x=some u)(r:RelV v u)(c:x ≠ "__name__" :=by decide)(hd:(x==("__debug__" : Str))=false:=by decide):PE X (.Name x pos) (tC v):=
 λζ ζ ζ H ζ I h=>Kg I a b hv ⟨v,H,I,r,h⟩ c hd
variable {a b:Expr} {ta tb:TE} {pos:Pos}
def PC (X:Cx) (op:CmpOp) (a b:Expr) (t:TE):Prop:=
 ∀(pins:B')(s:Shared)(σ:St)(H:Hp)(Q:VK),Inv X pins σ H s->t σ H Q ->
  wpAny (model X.prog X.w) X.A (eval a X.env) (λv s₁=>wpAny (model X.prog X.w) X.A (eval b X.env) (λu s₂=>wpAny (model X.prog X.w) X.A (compareOp op v u) (EP X pins σ Q) X.xe s₂) X.xe s₁) X.xe s
variable {op:CmpOp}
def UX(b:Expr)(h:op≠.In)(a:op≠.NotIn):behindInMarks op b=false:=by
 have c:(op==CmpOp.In)=false:=by cases op<;>first|rfl|exact absurd rfl h
 have d:(op==CmpOp.NotIn)=false:=by cases op<;>first|rfl|exact absurd rfl a
 cases b<;>simp[behindInMarks,c,d]
def IF (ta:TE):TE:=λσ H Q=>ta σ H λx Y=>Q (.bl (decide (x=.non))) Y
def Kh (ta:TE):TE:=λσ H Q=>ta σ H λx Y=>Q (.bl (!decide (x=.non))) Y
def RelV.none_iff{v:Value}(r:RelV x v):(v==Value.none)=decide (x=.non):=by
 cases x with
 |non=>cases r;rfl
 |bl _=>cases r;rfl
 |int _=>obtain⟨t,rfl⟩:=r;rfl
 |str _=>obtain⟨t,rfl⟩:=r;rfl
 |byt _=>obtain⟨t,rfl⟩:=r;rfl
 |flt _=>obtain⟨t,rfl⟩:=r;rfl
 |ref _=>cases r;rfl
 |ty _=>cases r;rfl
def F5{j t}(b:PE X a ta):PC X .Is a (.Constant .none j t) (IF ta):=by
 intro f s σ H Q I h;refine AU (b f s σ H _ I h) λv g⟨x,Y,c,d,e⟩=>?_;exact Constant_none (is_none_gen ⟨.bl _,Y,c,by rw[d.none_iff];rfl,e⟩)
def Nb{j t}(b:PE X a ta):PC X .IsNot a (.Constant .none j t) (Kh ta):=by
 intro f s σ H Q I h;refine AU (b f s σ H _ I h) λv g⟨x,Y,c,d,e⟩=>?_;exact Constant_none (isnot_none_gen ⟨.bl _,Y,c,by rw[d.none_iff];rfl,e⟩)
def tB (t:TE):TT:=λσ H Q=>t σ H λx Y=>mB x λc=>Q c Y
def RV{t:TE}(h:PC X op a b t)(c:behindInMarks op b=false:=by first|exact UX _ (by decide) (by decide)|rfl):PE X (.Compare a [op] [b] pos) t:=λe s σ H Q I d=>wpAny_Compare1 (h e s σ H Q I d) c
def Fo{t:TE}(h:PC X op a b t)(e:behindInMarks op b=false:=by first|exact UX _ (by decide) (by decide)|rfl):PT X (.Compare a [op] [b] pos) (tB t):=by
 intro l s σ H Q I g;refine wpAny_isTrue_Compare1 (AU (h l s σ H _ I g) λv m e=>AU e λu n i=>AU i λc o⟨x,Y,j,k,f⟩=>?_) e
 replace f:=mB.ex f
 obtain⟨d,rfl,q⟩:=f;cases k;exact F0 ⟨Y,j,q⟩
def F6{t:TE}(h:PE X e t)(b:∀whole,isTrue e X.env whole=(do let v <-whole;standAt e.pos;holding [v] (truthy v)):=by intro _;rfl):PT X e (tB t):=by
 intro i s σ H Q I c;refine isTrue_plain (AU (h i s σ H _ I c) λv j⟨x,Y,f,g,a⟩=>?_) (b _)
 replace a:=mB.ex a
 obtain⟨d,rfl,q⟩:=a;cases g;exact F0 ⟨Y,f,q⟩
variable {f tB':TT} {j:List Expr}
def NU (t u:TT):TT:=λσ H Q=>t σ H λc Y=>if c=true then u σ Y Q else Q false Y
def X8 (t u:TT):TT:=λσ H Q=>t σ H λc Y=>if c=true then Q true Y else u σ Y Q
def RW (t:TT):TT:=λσ H Q=>t σ H λc Y=>Q (!c) Y
def IG(b:PT X a f):PW X (.BoolOp .And [a] pos) f:=by
 intro g d s σ H Q I h;refine isTrue_and (AU (b d s σ H Q I h) λc i e=>?_)
 cases c with
 |true=>exact isTrue_and_nil e
 |false=>exact e
def RX(b:PT X a f):PW X (.BoolOp .Or [a] pos) f:=by
 intro g d s σ H Q I h;refine isTrue_or (AU (b d s σ H Q I h) λc i e=>?_)
 cases c with
 |false=>exact isTrue_or_nil e
 |true=>exact e
def IH(i:PT X a f)(hb:PW X (.BoolOp .And (b::j) pos) tB'):PW X (.BoolOp .And (a::b::j) pos) (NU f tB'):=by
 intro k g s σ H Q I h;refine isTrue_and (AU (i g s σ H _ I h) λc l⟨Y,d,e⟩=>?_)
 cases c with
 |true=>exact hb k g l σ Y Q d e
 |false=>exact⟨Y,d,e⟩
def P1(i:PT X a f)(hb:PW X (.BoolOp .Or (b::j) pos) tB'):PW X (.BoolOp .Or (a::b::j) pos) (X8 f tB'):=by
 intro k g s σ H Q I h;refine isTrue_or (AU (i g s σ H _ I h) λc l⟨Y,d,e⟩=>?_)
 cases c with
 |true=>exact⟨Y,d,e⟩
 |false=>exact hb k g l σ Y Q d e
def Ki(b:PT X a f):PT X (.UnaryOp .Not a pos) (RW f):=by
 intro d s σ H Q I h;exact isTrue_not (b d s σ H (λc Y=>Q (!c) Y) I h)
def NV (ta tb:TE):TE:=λσ H Q=>ta σ H λx Y=>∃c,x=.bl c/\if c=true then tb σ Y Q else Q (.bl false) Y
def NW (ta:TE):TE:=λσ H Q=>ta σ H λx Y=>∃c,x=.bl c/\Q (.bl (!c)) Y
def RY{op}{t:TE}(h:PE X a t):PE X (.BoolOp op [a] pos) t:=λc s σ H Q I b=>BoolOp_one (h c s σ H Q I b)
def P4(g:PE X a ta)(hb:PE X (.BoolOp .And (b::j) pos) tb):PE X (.BoolOp .And (a::b::j) pos) (NV ta tb):=by
 intro f s σ H Q I h;refine BoolOp_and (AU (g f s σ H _ I h) λv i⟨x,Y,e,k,d⟩=>?_);obtain⟨c,rfl,d⟩:=d;cases k;refine F0 ?_
 cases c with
 |true=>exact hb f i σ Y Q e d
 |false=>exact⟨.bl false,Y,e,rfl,d⟩
def K8(d:PE X a ta):PE X (.UnaryOp .Not a pos) (NW ta):=by
 intro g s σ H Q I h;refine UnaryOp_ (AU (d g s σ H _ I h) λv i⟨x,Y,e,f,b⟩=>?_);obtain⟨c,rfl,b⟩:=b;cases f;exact not_of (F0 ⟨.bl (!c),Y,e,rfl,b⟩)
def UY (t:TT) (ta tb:TE):TE:=λσ H Q=>t σ H λc Y=>if c=true then ta σ Y Q else tb σ Y Q
def X9{c:Expr}(k:PT X c f)(l:PE X a ta)(hb:PE X b tb):PE X (.IfExp c a b pos) (UY f ta tb):=by
 intro e s σ H Q I h;refine wpAny_IfExp (AU (k e s σ H _ I h) λd g⟨Y,i,j⟩=>?_)
 cases d with
 |true=>exact l e g σ Y Q i j
 |false=>exact hb e g σ Y Q i j
end
def Ae (K:Ah) (H:Hp) (a:Addr) (xs:List V):Prop:=
 Rd H a (.lst xs) \/
  ∃(o:Obj)(its:Array Value)(n:Nat),K.lookup a=some o/\o.cls=.type "list" /\ o.dict=none/\o.data=.seq its n/\its.size<=sizeLine/\At xs its.toList
def Ar (K:Ah) (H:Hp) (a:Addr) (xs:List V):Prop:=
 Rd H a (.tup xs) \/
  ∃(o:Obj)(its:Array Value)(n:Nat),K.lookup a=some o/\o.cls=.type "tuple" /\ o.data=.seq its n/\its.size<=sizeLine/\At xs its.toList
def RZ:Value->Option V
 |.none=>some .non
 |.bool b=>some (.bl b)
 |.int i _=>some (.int i)
 |.str x _=>some (.str x)
 |.bytes b _=>some (.byt b)
 |.float b _=>some (.flt b)
 |.ref a=>some (.ref a)
 |.type n=>some (.ty n)
 |_=>none
variable {x:V}
def RelV.abs{u:Value}(r:RelV x u):RZ u=some x:=by
 cases x with
 |non=>cases r;rfl
 |bl _=>cases r;rfl
 |int _=>obtain⟨t,rfl⟩:=r;rfl
 |str _=>obtain⟨t,rfl⟩:=r;rfl
 |byt _=>obtain⟨t,rfl⟩:=r;rfl
 |flt _=>obtain⟨t,rfl⟩:=r;rfl
 |ref _=>cases r;rfl
 |ty _=>cases r;rfl
def RelV.inj{y:V}{u:Value}(r:RelV x u)(q:RelV y u):x=y:=Br (r.abs.symm.trans q.abs)
theorem At.inj:∀{xs ys:List V}{us:List Value},At xs us->At ys us->xs=ys
 |_,_,_,.nil,.nil=>rfl
 |_,_,_,.cons r t,.cons a t'=>by rw[r.inj a,At.inj t t']
section
variable {X:Cx} {pins:B'} {σ:St} {H:Hp} {s:Shared} {a:Addr} {xs ys:List V}
def Ae.of{K:Ah}(h:H a=some (.lst xs)):Ae K H a xs:=.inl (.inl h)
def Ar.of{K:Ah}(h:H a=some (.tup xs)):Ar K H a xs:=.inl (.inl h)
def Inv.list(I:Inv X pins σ H s)(h:Ae X.K H a xs):∃b:List Value,At xs b/\PlainL s.heap a b.toArray/\xs.length<=sizeLine:=by
 rcases h with h|⟨o,b,n,c,d,hd,f,g,r⟩;obtain⟨z,b,n,r,e⟩:=h.ok I.hok;exact⟨b,r,⟨_,n,e,rfl,rfl,rfl⟩,z⟩;refine⟨b.toList,r,⟨o,n,I.kIn a o c,d,hd,by simpa using f⟩,?_⟩;have e:=r.length;simp only[Array.length_toList] at e;lia
def Inv.tuple(I:Inv X pins σ H s)(h:Ar X.K H a xs):∃b:List Value,At xs b/\IsTup s.heap a b.toArray/\xs.length<=sizeLine:=by
 rcases h with h|⟨o,b,n,c,d,f,g,r⟩;obtain⟨z,b,r,p⟩:=h.ok I.hok;exact⟨b,r,p,z⟩;refine⟨b.toList,r,⟨o,I.kIn a o c,d,n,by simpa using f⟩,?_⟩;have e:=r.length;simp only[Array.length_toList] at e;lia
def Inv.list_inj(I:Inv X pins σ H s)(h:Ae X.K H a xs)(h':Ae X.K H a ys):xs=ys:=by
 obtain⟨i,r,⟨o,n,e,_,_,d⟩,_⟩:=I.list h;obtain⟨j,f,⟨k,l,b,_,_,c⟩,_⟩:=I.list h';rw[e] at b;cases b;rw[d] at c;injection c with g _;have:i=j:=(by simpa using Bw Array.toList g);subst this;exact r.inj f
def Inv.tuple_inj(I:Inv X pins σ H s)(h:Ar X.K H a xs)(h':Ar X.K H a ys):xs=ys:=by
 obtain⟨i,r,⟨o,e,_,n,d⟩,_⟩:=I.tuple h;obtain⟨j,f,⟨k,b,_,l,c⟩,_⟩:=I.tuple h';rw[e] at b;cases b;rw[d] at c;injection c with g _;have:i=j:=(by simpa using Bw Array.toList g);subst this;exact r.inj f
end
abbrev Cx.wish (X:Cx) (E:D'):Cx:={X with xe:=E}
abbrev Cx.nox (X:Cx):Cx:=X.wish λζ ζ=>False
def Cx.Ok.wish{X:Cx}(ok:X.Ok)(E:D'):(X.wish E).Ok:=
 ⟨ok.mod,ok.kind,ok.glob,ok.blt,ok.above,ok.inj,ok.has,ok.cab,ok.hd,ok.frames,ok.stk,ok.exf,ok.bs,ok.bsz,ok.noex,ok.exfs,ok.funs,ok.frf⟩
def Cx.Ok.unwish(ok:(X.wish E).Ok):X.Ok:=
 ⟨ok.mod,ok.kind,ok.glob,ok.blt,ok.above,ok.inj,ok.has,ok.cab,ok.hd,ok.frames,ok.stk,ok.exf,ok.bs,ok.bsz,ok.noex,ok.exfs,ok.funs,ok.frf⟩
section
variable {X:Cx} {pins:B'} {σ:St} {H:Hp} {s:Shared} {E:D'}
def Inv.wish(I:Inv X pins σ H s)(E:D'):Inv (X.wish E) pins σ H s:=⟨I.ok.wish E,I.os,I.bare,I.base,I.loc,I.cell,I.free,I.freeC,I.pin,I.hok,I.len⟩
def Inv.unwish(I:Inv (X.wish E) pins σ H s):Inv X pins σ H s:=⟨I.ok.unwish,I.os,I.bare,I.base,I.loc,I.cell,I.free,I.freeC,I.pin,I.hok,I.len⟩
def SP.unwish{D:Ends}{f:Flow}{L:Shared}(h:SP (X.wish E) pins D f L):SP X pins D f L:=by
 cases f with
 |next=>obtain⟨σ',a,I,q⟩:=h;exact⟨σ',a,I.unwish,q⟩
 |brk=>obtain⟨σ',a,I,q⟩:=h;exact⟨σ',a,I.unwish,q⟩
 |cont=>obtain⟨σ',a,I,q⟩:=h;exact⟨σ',a,I.unwish,q⟩
 |ret u=>obtain⟨v,σ',a,I,r,q⟩:=h;exact⟨v,σ',a,I.unwish,r,q⟩
def F3.nox{st:List Stmt}{t:TS}(h:F3 X.nox st t):F3 X st t:=λpins s σ H D I a =>
 Fy (h pins s σ H D (I.wish _) a) (λζ ζ q=>q.unwish) λζ ζ z=>False.elim z
end
section
variable {X:Cx} {st:Stmt} {j:List Stmt} {t u:TS} {e:Expr} {te:TE} {pos:Pos}
def NY:TS:=λD σ H=>D.nx σ H
def K9 (t u:TS):TS:=λD σ H=>(λζ=>t {D with nx:=u D} σ H) Nat.repr
def Bx:F3 X [] NY:=λζ ζ σ H ζ I h=>wpAny_execs_nil ⟨σ,H,I,h⟩
def Ap(b:PS X st t)(c:F3 X j u):F3 X (st::j) (K9 t u):=by
 intro a s σ H D I h;refine wpAny_execs_cons (AU (b a s σ H {D with nx:=u D} I h) λf d q=>?_)
 cases f with
 |next =>
   obtain⟨σ',e,g,q⟩:=q;exact c a d σ' e D g q
 |ret v=>exact q
 |brk=>exact q
 |cont=>exact q
def AA(a:PS X st t):F3 X [st] t:=by
 intro b s σ H D I h;refine wpAny_execs_cons (AU (a b s σ H D I h) λf c q=>?_)
 cases f with
 |next=>exact wpAny_execs_nil q
 |ret v=>exact q
 |brk=>exact q
 |cont=>exact q
def Inv.quiet{pins:B'}{σ:St}(I:Inv X pins σ H s):interactive X.env=false:=by simp[interactive,I.ok.kind]
def NZ (te:TE):TS:=λD σ H=>te σ H λζ Y=>D.nx σ Y
def DD(a:PE X e te)(b:swapsWith e none pos.line X.env=pure false:=by rfl):PS X (.Expr e pos) (NZ te):=by
 intro f s σ H D I h;exact wpAny_Expr_any (AU (a f s σ H _ I h) λv g⟨x,Y,c,i,d⟩=>⟨σ,Y,c,d⟩) I.quiet b
def R1 (te:TE):TS:=λD σ H=>te σ H D.rt
def AQ(a:PE X e te):PS X (.Return (some e) pos) (R1 te):=by
 intro f s σ H D I h;exact wpAny_Return_some (AU (a f s σ H _ I h) λv g⟨x,Y,b,c,d⟩=>⟨x,σ,Y,b,c,d⟩)
def R3 (c:TT) (t u:TS):TS:=λD σ H=>c σ H λb Y=>if b=true then t D σ Y else u D σ Y
def Bv{c:Expr}{a b:List Stmt}{tc:TT}(j:PT X c tc)(k:F3 X a t)(hb:F3 X b u):PS X (.If c a b pos) (R3 tc t u):=by
 intro e s σ H D I h;refine wpAny_If (AU (j e s σ H _ I h) λd f⟨Y,g,i⟩=>?_)
 cases d with
 |true=>exact k e f σ Y D g i
 |false=>exact hb e f σ Y D g i
def La:TS:=λζ ζ ζ=>False
def Yb:PS X st La:=λζ ζ ζ ζ ζ ζ h=>h.elim
end
abbrev TG:=V->St->Hp->(St->Hp->Prop)->Prop
abbrev Lc:=List V->St->Hp->(St->Hp->Prop)->Prop
def PG (X:Cx) (target:Expr) (t:TG):Prop:=
 ∀(pins:B')(s:Shared)(σ:St)(H:Hp)(v:V)(u:Value)(Q:St->Hp->Prop),Inv X pins σ H s->RelV v u->t v σ H Q ->
  wpAny (model X.prog X.w) X.A (assign target X.env u) (λζ L=>∃σ' H',Inv X pins σ' H' L/\Q σ' H') X.xe s
def N0 (X:Cx) (ts:List Expr) (t:Lc):Prop:=
 ∀(pins:B')(s:Shared)(σ:St)(H:Hp)(vs:List V)(us:List Value)(Q:St->Hp->Prop),Inv X pins σ H s->At vs us->t vs σ H Q ->
  wpAny (model X.prog X.w) X.A (assignInOrder ((assignEach ts X.env).map (·.2)) us) (λζ L=>∃σ' H',Inv X pins σ' H' L/\Q σ' H') X.xe s
abbrev Ld:=V->V->V->Hp->(Hp->Prop)->Prop
def II (X:Cx) (t:Ld):Prop:=
 ∀(pins:B')(s:Shared)(σ:St)(H:Hp)(o i v:V)(ov iv u:Value)(Q:Hp->Prop),Inv X pins σ H s->RelV o ov->RelV i iv->RelV v u->t o i v H Q ->
  wpAny (model X.prog X.w) X.A (setItem ov iv u) (λζ L=>∃H',Inv X pins σ H' L/\Q H') X.xe s
abbrev R6:=V->V->Hp->VK->Prop
def Yc (X:Cx) (op:Operator) (t:R6):Prop:=
 ∀(pins:B')(s:Shared)(σ:St)(H:Hp)(x y:V)(v u:Value)(Q:VK),Inv X pins σ H s->RelV x v->RelV y u->t x y H Q ->
  wpAny (model X.prog X.w) X.A (inplaceOp op v u) (EP X pins σ Q) X.xe s
section
variable {X:Cx} {pos:Pos}
def Im (i:Nat):TG:=λv σ H Q=>Q (σ.set i (some v)) H
variable {i:Nat}
def Ay{x:Str}(a:X.N.Nodup)(b:X.N[i]?=some x:=by rfl)(c:Loc X.env.scope x:=by first|exact .inl rfl|exact .inr rfl)(d:X.fn x=true\/X.env.scope.names.lookup x=some .local:=by first|exact .inl rfl|exact .inr rfl|assumption):PG X (.Name x pos) (Im i):=by
 intro f s σ H v u Q I r h;exact wpAny_assign_Name (RU I a b c r (λL e=>⟨_,H,e,h⟩) d)
def Le:Lc:=λvs σ H Q=>mN vs (Q σ H)
def N1 (t:TG) (u:Lc):Lc:=λvs σ H Q=>mC vs λv r=>t v σ H λσ' H'=>u r σ' H' Q
def Cj:N0 X [] Le:=by
 intro c s σ H a b Q I r h
 replace h:=mN.ex h
 obtain⟨e,h⟩:=h;subst e;cases r;exact assignInOrder_nil ⟨σ,H,I,h⟩
def AF{es:List Expr}{t:TG}{u:Lc}(b:PG X e t)(c:N0 X es u)
 (d:(assignEach (e::es) X.env).map (·.2)=assign e X.env::(assignEach es X.env).map (·.2):=by rfl):N0 X (e::es) (N1 t u):=by
 intro a s σ H l m Q I r h
 replace h:=mC.ex h
 obtain⟨v,n,f,h⟩:=h;subst f
 cases r with
 |cons r g =>
   rw[d];refine assignInOrder_cons (AU (b a s σ H _ _ _ I r h) λ_ i⟨σ1,Y,j,k⟩=>?_);exact c a i σ1 Y _ _ Q j g k
def Lf (K:Ah) (n:Nat) (t:Lc):TG:=λv σ H Q=>mT v λa xs=>Ar K H a xs/\xs.length=n/\t xs σ H Q
def Ck{es:List Expr}{k:Nat}{t:Lc}{n:Nat}(g:X.calm=true)(h:N0 X es t)
 (i:(assignEach es X.env).length=n:=by rfl) (z:(assignEach es X.env).findIdx? (·.1)=none:=by rfl):PG X (.Tuple es k pos) (Lf X.K n t):=by
 intro f s σ H v u Q I r c
 replace c:=mT.ex c
 obtain⟨a,j,l,m,p,c⟩:=c;subst l;cases r;obtain⟨B,d,q,A⟩:=I.tuple m;refine assign_Tuple_tuple (I.ok.hd g) q (by simp[i,<-p,d.length]) z λw x=>?_;have y:Inv X f σ H {s with heap:=w}:=I.kept (t':=s.toks) λb o e=>x b o (Cq (Bl e)) e;exact h f _ σ H j _ Q y (by simpa using d) c
def R7 (c ti:TE) (t:Ld):TG:=λv σ H Q=>c σ H λo Y=>ti σ Y λi H2=>t o i v H2 λH3=>Q σ H3
def P5{o i:Expr}{c e:TE}{t:Ld}(f:PE X o c)(g:PE X i e)(j:II X t)
 (k:∀v,assign (.Subscript o i pos) X.env v=(do
  let a <-holding [v] (eval o X.env)
  let b <-holding [v,a] (eval i X.env)
  standAt pos
  holding [v,a,b] (setItem a b v)
  release [v,a,b] []):=by intro _;rfl):PG X (.Subscript o i pos) (R7 c e t):=by
 intro d s σ H v u Q I r h;rw[k];refine Ad (Fa (AU (f d s σ H _ I h) λa l⟨x,Y,m,n,p⟩=>?_));refine Ad (Fa (AU (g d l σ Y _ m p) λb q⟨y,w,z,A,B⟩=>?_));refine Ad (wpAny_standAt (Ad (Fa (AU (j d q σ w x y v a b u _ z n A r B) λ_ F⟨C,D,E⟩=>?_))));exact wpAny_release ⟨σ,C,D,E⟩
def IJ (te:TE) (g:TG):TS:=λD σ H=>(λζ=>te σ H λx Y=>g x σ Y D.nx) Nat.repr
variable {te:TE}
def DE{a:Expr}{g:TG}(c:PE X e te)(d:PG X a g)(f:swapsWithSole [a] e pos.line X.env=pure false:=by rfl)(i:swappedStores [a] e X.env=pure none:=by rfl)
 (j:(assignEach [a] X.env).map (·.2)=[assign a X.env]:=by rfl):PS X (.Assign [a] e pos) (IJ te g):=by
 intro b s σ H D I h;refine wpAny_Assign_stores (AU (c b s σ H _ I h) λv k⟨x,Y,l,m,n⟩=>?_) f i;rw[j];exact AU (d b k σ Y x v _ l m n) λζ o q=>q
def AX{x:Str}{t:Pos}(a:X.N.Nodup)(b:PE X e te)(c:X.N[i]?=some x:=by rfl)(d:Loc X.env.scope x:=by first|exact .inl rfl|exact .inr rfl)(f:swapsWith e (some (.Name x t)) pos.line X.env=pure false:=by rfl)(g:X.fn x=true\/X.env.scope.names.lookup x=some .local:=by first|exact .inl rfl|exact .inr rfl|assumption) :
 PS X (.Assign [.Name x t] e pos) (IJ te (Im i)):=by
 intro n s σ H D I h;refine wpAny_Assign_Name (AU (b n s σ H _ I h) λv o⟨y,Y,j,k,l⟩=>?_) f;exact RU j a c d k (λp m=>⟨_,Y,m,l⟩) g
def N2 (i:Nat) (te:TE) (ti:R6):TS:=λD σ H=>∃x,σ[i]?=some (some x)/\te σ H λy Y=>ti x y Y λz H2=>D.nx (σ.set i (some z)) H2
def Lg{x:Str}{op:Operator}{f:R6}{t:Pos}(j:X.N.Nodup)(g:X.N[i]?=some x)(b:Loc X.env.scope x)(n:PE X e te)(o:Yc X op f)(p:X.fn x=true\/X.env.scope.names.lookup x=some .local:=by first|exact .inl rfl|exact .inr rfl|assumption) :
 PS X (.AugAssign (.Name x t) op e pos) (N2 i te f):=by
 intro d s σ H D I h;obtain⟨v,q,h⟩:=h;obtain⟨m,A,B⟩:=I.loc;have S:P0 X.env.scope x:=by rcases b with k|k;exact .inl k;exact .inr (.inl k)
 obtain⟨u,r,l⟩:=B i x v g q S;refine wpAny_AugAssign_Name ?_
 have go:wpAny (model X.prog X.w) X.A (eval e X.env) (λw C=>wpAny (model X.prog X.w) X.A (inplaceOp op u w) (λr E=>wpAny (model X.prog X.w) X.A (storeName X.env x r) (λζ=>SP X d D .next) X.xe E) X.xe C) X.xe s:=by
  refine AU (n d s σ H _ I h) λw F⟨y,Y,G,J,K⟩=>?_;refine AU (o d F σ Y v y u w _ G r J K) λz U⟨V,L,M,N,O⟩=>?_;exact RU M j g b N (λW P=>⟨_,L,P,O⟩) p
 rcases l with⟨a,Q⟩|⟨a,c,R,T⟩;exact wpAny_loadName_local I.ok.kind a A Q go;rcases a with a|a;exact wpAny_loadName_cell I.ok.kind a R T go;rcases b with k|k;have:X.env.scope.names.lookup x=some .free:=a;rw[k] at this;cases this;have:X.env.scope.names.lookup x=some .free:=a;rw[k] at this;cases this
end
section
variable {X:Cx} {pos:Pos}
def Li (c:TT) (tb:TS):TS:=λD σ H=>∃W:Nat->St->Hp->Prop,(∃m,W m σ H)/\∀m σ H,W m σ H ->
 c σ H λb Y=>if b=true then ∃N:St->Hp->Prop,(∀σ' H',N σ' H'->∃m',m'<m/\W m' σ' H')/\tb {D with nx:=N,ct:=N,bk:=D.nx} σ Y else D.nx σ Y
def P6{c:Expr}{body:List Stmt}{tc:TT}{tb:TS}(o:PassesOwn (model X.prog X.w) X.A X.env X.xe)(u:PT X c tc)(hb:F3 X body tb):PS X (.While c body [] pos) (Li tc tb):=by
 intro m s σ H D I h;obtain⟨W,⟨w,x⟩,turn⟩:=h;refine wpAny_While (codeAny_whileLoop (λn L=>∃σ' p,Inv X m σ' p L/\W n σ' p) ?_ w ⟨σ,H,I,x⟩);rintro n y ⟨σ1,Y,z,A⟩;refine wpAny_passesOwn o (AU (u m y σ1 Y _ z (turn n σ1 Y A)) λb B⟨q,r,d⟩=>?_)
 cases b with
 |true =>
   obtain⟨N,t,d⟩:=d;rw[Ak rfl];refine wpAny_passesOwn o (AU (hb m B σ1 q _ r d) λf C e=>?_)
   cases f with
   |next =>
     obtain⟨σ3,a,g,i⟩:=e;obtain⟨j,k,l⟩:=t σ3 a i;exact⟨j,k,σ3,a,g,l⟩
   |cont =>
     obtain⟨σ3,a,g,i⟩:=e;obtain⟨j,k,l⟩:=t σ3 a i;exact⟨j,k,σ3,a,g,l⟩
   |brk=>exact e
   |ret v=>exact e
 |false =>
   rw[Aj CB];exact wpAny_execs_nil ⟨σ1,q,r,d⟩
end
structure It where
 go:Nat->Hp->Prop
 yld:Nat->Hp->V->Hp->Prop
 stop:Nat->Hp->Prop
def CZ (X:Cx) (pins:B') (H:Hp) (b:Addr):Prop:=
 H b=none/\b≠X.env.locals/\b∉X.fs/\(b∈X.ex\/X.s₀.heap.objs.size<=b)/\(∀x c,X.env.cells.lookup x=some c->c≠b)/\∀p∈X.pn++pins,p.1≠b
variable {pins:B'}{σ:St}
def Inv.fpOk{H':Hp}(I:Inv X pins σ H s)(hb:s.heap.objs.size<=b)(a:H' b=none):CZ X pins H' b:=by
 refine⟨a,Nat.ne_of_gt (Fw I.lt hb),I.nofs hb,.inr (E8 I.sz hb),λx c e z=>?_,λp d z=>?_⟩;obtain⟨v,q⟩:=I.cell x c e;exact absurd (Fw q.lt (by rw[z];exact hb)) (G3 _);exact absurd (Fw (Bl (I.pin p d).1) (by rw[z];exact hb)) (G3 _)
structure F7 (P:Program) (w:World) (K:Ah) (tg:Expr) (J:It) (fp:List Addr) (it:Addr) (tn:Nat->Heap->Prop):Prop where
 mem:it∈fp
 obj:∀i h,tn i h->∀b∈fp,∃o,h.get? b=some o/\∀v,o.data≠.cell v
 keep:∀i h h',tn i h->(∀b∈fp,∀o,h.get? b=some o->h'.get? b=some o)->tn i h'
 item:∀(X:Cx),X.prog=P->X.w=w->X.K=K->X.calm=true->∀(i:Nat)(pins:B')(s:Shared)(σ:St)(H:Hp)(E:D'),Inv X pins σ H s->(∀b∈fp,CZ X pins H b)->tn i s.heap->J.go i H ->
  wpAny (model P w) X.A (pyNext (.ref it)) (λr s1=>∃u,r=some u /\
   wpAny (model P w) X.A (letOwnedTupleGo tg (.ref it) u) (λζ s2=>∃x H',Inv X pins σ H' s2/\RelV x u/\J.yld i H x H'/\tn (i+1) s2.heap/\∀b∈fp,H' b=none) E s1) E s
 done:∀(X:Cx),X.prog=P->X.w=w->X.K=K->X.calm=true->∀(i:Nat)(pins:B')(s:Shared)(σ:St)(H:Hp)(E:D'),Inv X pins σ H s->(∀b∈fp,CZ X pins H b)->tn i s.heap->J.stop i H ->
  wpAny (model P w) X.A (pyNext (.ref it)) (λr s1=>r=none/\Inv X pins σ H s1) E s
 self:∀(A:Around)(i:Nat)(s:Shared)(Q:D')(E:D'),tn i s.heap->Q (.ref it) s->wpAny (model P w) A (pyIter (.ref it)) Q E s
abbrev TI:=St->Hp->(It->Hp->Prop)->Prop
def R8 (X:Cx) (pins:B') (σ:St) (tg:Expr) (R:It->Hp->Prop) (itv:Value) (s2:Shared):Prop:=
 ∃(it:Addr)(fp:List Addr)(tn:Nat->Heap->Prop)(J:It)(H':Hp),itv=.ref it/\Inv X pins σ H' s2/\F7 X.prog X.w X.K tg J fp it tn/\tn 0 s2.heap/\(∀b∈fp,CZ X pins H' b)/\R J H'
def PI (X:Cx) (tg j:Expr) (wi:TI):Prop:=
 ∀(pins:B')(s:Shared)(σ:St)(H:Hp)(R:It->Hp->Prop),Inv X pins σ H s->wi σ H R ->
  wpAny (model X.prog X.w) X.A (eval j X.env) (λv s1=>wpAny (model X.prog X.w) X.A (pyIter v) (R8 X pins σ tg R) X.xe s1) X.xe s
variable {tg:Expr}
def G7{M:Model}{it:Addr}{u:Value}{o:Obj}{n:String}{vs:Array Value}{Q:Unit->Shared->Prop}(b:s.heap.get? it=some o)(c:o.cls=.type n)(hd:o.data=.fields vs)
 (d:["enumerate", "zip", "dict_itemiterator", "dict_reverseitemiterator", "odict_iterator", "itertools.zip_longest", "itertools.pairwise"].contains n=false) (a:Q () s):wpAny M A (letOwnedTupleGo tg (.ref it) u) Q E s:=by
 unfold letOwnedTupleGo
 cases tg<;>first
  |exact Au a
  |(cases u<;>first
   |exact Au a
   | (refine Ad (wpAny_load b ?_)
      rw[c,hd]
      show wpAny M A (if(["enumerate", "zip", "dict_itemiterator", "dict_reverseitemiterator", "odict_iterator", "itertools.zip_longest", "itertools.pairwise"].contains n && vs[0]?==some (rawInt _))=true then _ else _) Q E s
      rw[Aj (by intro h;rw[d,Bool.false_and] at h;cases h)]
      exact Au a))
def Nc (K:Ah) (a:Addr):It:=
 ⟨λi H=>∃xs x,Ae K H a xs/\xs[i]?=some x,λi H x H'=>H'=H/\∀xs,Ae K H a xs->xs[i]?=some x,λi H=>∃xs,Ae K H a xs/\xs.length<=i⟩
def Lj (lo:Int) (n:Nat):It:=⟨λi ζ=>i<n,λi H x H'=>H'=H/\x=.int (lo+i),λi ζ=>n<=i⟩
theorem Yd{K:Ah}(a it:Addr):F7 P w K tg (Nc K a) [it] it (λi h=>h.IsListIter it a i) where
 mem:=by simp
 obj:=λi h f b hb=>by
  have e:b=it:=(by simpa using hb);subst e;obtain⟨o,e,c,d⟩:=f;exact⟨o,e,λv z=>by rw[d] at z;cases z⟩
 keep:=λi h g f k=>f.at λo e=>k it (by simp) o e
 item:=by
  intro X m n q G i pins s σ H E I j f r;subst m n q;obtain⟨L,x,l,t⟩:=r;obtain⟨V,y,p,M⟩:=I.list l;obtain⟨u,N,O⟩:=y.get t;obtain⟨A,B,Q,C,D,F⟩:=j it (by simp);refine wpAny_pyNext_list_item f p.isList (x:=u) (by simpa using N) λg J R=>?_;have S:Inv X pins σ H {s with heap:=g}:=I.turned (t':=s.toks) (λb o hb e=>(R.2 b hb).trans e) A B C D F;obtain⟨o,e,c,d⟩:=id J;exact⟨u,rfl,G7 (s:={s with heap:=g}) e c d (by decide) ⟨x,H,S,O,⟨rfl,λW T=>by rw[I.list_inj T l];exact t⟩,J,λb hb=>(j b hb).1⟩⟩
 done:=by
  intro X m n q G i pins s σ H E I j f r;subst m n q;obtain⟨L,l,t⟩:=r;obtain⟨V,y,p,M⟩:=I.list l;obtain⟨A,B,Q,C,D,F⟩:=j it (by simp);have Y:=y.length;exact wpAny_pyNext_list_end (I.ok.hd G) f p.isList (by simp;lia) λg U=>⟨rfl,I.turned (t':=s.toks) (λb o hb e=>U b o hb e) A B C D F⟩
 self:=λζ ζ ζ ζ ζ f h=>wpAny_pyIter_listiter f h
def Ye{K:Ah}(it:Addr)(lo:Int)(n:Nat):F7 P w K tg (Lj lo n) [it] it (λi h=>IsRangeIter h it (lo+(i:Nat)*1) ((n:Int)-(i:Nat)) 1) where
 mem:=by simp
 obj:=λi h a b hb=>by
  have e:b=it:=(by simpa using hb);subst e
  exact⟨_,a,λv z=>by
   have A:Data.fields _=Data.cell v:=z
   cases A⟩
 keep:=λi h c a k=>k it (by simp) _ a
 item:=by
  intro X f g j l i pins s σ H E I d a m;subst f g j;obtain⟨p,q,B,r,u,x⟩:=d it (by simp);have W:=Walks.range (prog:=X.prog) (w:=X.w) (I.ok.hd l) it lo 1 n;refine W.item i s _ _ m a λv c tk C y L=>?_;obtain⟨t,rfl⟩:=C;have D:Inv X pins σ H {s with heap:=c,toks:=tk}:=I.turned (λb o hb e=>L b o (by simpa using hb) e) p q r u x;refine⟨_,rfl,G7 (s:={s with heap:=c,toks:=tk}) (n:= "range_iterator") y rfl rfl (by decide) ⟨.int (lo+i),H,D,⟨t,?_⟩,⟨rfl,rfl⟩,y,λb hb=>(d b hb).1⟩⟩;rw[Int.mul_one]
 done:=by
  intro X f g j l i pins s σ H E I d a m;subst f g j;obtain⟨p,q,B,r,u,x⟩:=d it (by simp);exact wpAny_pyNext_range_end (I.ok.hd l) a (by have:n<=i:=m;lia) λc F=>⟨rfl,I.turned (t':=s.toks) (λb o hb e=>F b o hb e) p q r u x⟩
 self:=λζ ζ ζ ζ ζ a h=>wpAny_pyIter_rangeiter a h
section
variable {X:Cx} {tg:Expr}
def N4 (K:Ah) (tl:TE):TI:=λσ H R=>tl σ H λx Y=>mR x λa=>(∃xs,Ae K Y a xs)/\R (Nc K a) Y
def Dm{l:Expr}{g:TE}(i:PE X l g):PI X tg l (N4 X.K g):=by
 intro pins s σ H R I h;refine AU (i pins s σ H _ I h) λv c⟨x,Y,d,j,f⟩=>?_
 replace f:=mR.ex f
 obtain⟨a,e,⟨m,k⟩,q⟩:=f;subst e;cases j;obtain⟨t,n,p,r⟩:=d.list k;refine wpAny_pyIter_list p.isList ?_;refine⟨c.heap.objs.size,[c.heap.objs.size],_,_,Y,rfl,d.kept (t':=c.toks) λb o e=>Ba _ e,Yd a _,⟨_,B9 _ rfl,rfl,rfl⟩,λb hb=>?_,q⟩;have e:b=c.heap.objs.size:=(by simpa using hb);subst e;exact d.fpOk (AE _) (d.hok.fresh (AE _))
def UZ{R:It->Hp->Prop}{lo a:Int}{t u v:Tok}{tk:Nat}(I:Inv X pins σ H s)(d:-(2 ^ 62)<=lo)(f:lo<2 ^ 62)(g:-(2 ^ 62)<=a)(h:a<2 ^ 62)
 (q:R (Lj lo (a-lo).toNat) H):wpAny (model X.prog X.w) X.A (pyIter (.ref s.heap.objs.size)) (R8 X pins σ tg R) E {s with heap:=s.heap.push {cls:=.type "range",data:=.fields #[.int lo t,.int a u,.int 1 v]},toks:=tk}:=by
 refine wpAny_pyIter_range (IsRange.new ..) (small_one d f g h) ?_;have c:Inv X pins σ H {s with heap:=s.heap.push {cls:=.type "range",data:=.fields #[.int lo t,.int a u,.int 1 v]},toks:=tk}:=I.kept λb o e=>Ba _ e
 refine⟨(s.heap.push {cls:=.type "range",data:=.fields #[.int lo t,.int a u,.int 1 v]}).objs.size,[(s.heap.push {cls:=.type "range",data:=.fields #[.int lo t,.int a u,.int 1 v]}).objs.size],_,_,H,rfl,
  c.kept (t':=tk) λb o e=>Ba _ e,Ye _ lo (a-lo).toNat,?_,λb hb=>?_,q⟩
 have i:lo+((0:Nat):Int)*1=lo:=(by simp);have j:(((a-lo).toNat:Nat):Int)-((0:Nat):Int)=Builtin.Range.rangeSize lo a 1:=by rw[rangeSize_one];split<;>lia
 show IsRangeIter _ _ (lo+((0:Nat):Int)*1) ((((a-lo).toNat:Nat):Int)-((0:Nat):Int)) 1;rw[i,j];exact B9 _ rfl;have e:b=(s.heap.push {cls:=.type "range",data:=.fields #[.int lo t,.int a u,.int 1 v]}).objs.size:=(by simpa using hb);subst e;exact c.fpOk (AE _) (c.hok.fresh (AE _))
def N5 (ta:TA):TI:=λσ H R=>ta σ H λvs Y=>mJ vs λj=>-(2 ^ 62)<=j/\j<2 ^ 62/\R (Lj 0 j.toNat) Y
def N6 (ta:TA):TI:=λσ H R=>ta σ H λvs Y=>∃i j:Int,vs=[.int i,.int j]/\(-(2 ^ 62)<=i/\i<2 ^ 62/\-(2 ^ 62)<=j/\j<2 ^ 62)/\R (Lj i (j-i).toNat) Y
def G8{a:Expr}{c:TA}{p pos:Pos}(d:Gl X "range")(f:X.mg "range" = none)(g:PA X [a] c)(i:starEach [a] X.env=[(false,eval a X.env)]:=by rfl):PI X tg (.Call (.Name "range" p) [a] [] pos) (N5 c):=by
 intro pins s σ H R I h;refine Call_ (Kg I d f boot_range (PyProof.Rows.callWith_type1 (AU (g pos pins s σ H _ I h) λo u⟨v,Y,k,l,b⟩=>?_) i rfl))
 replace b:=mJ.ex b
 obtain⟨j,e,b,m,q⟩:=b;subst e
 cases l with
 |cons r n =>
   cases n;obtain⟨t,rfl⟩:=r;exact call_range_1 (UZ k (by lia) (by lia) b m (by simpa using q))
def Yg{a b:Expr}{f:TA}{p pos:Pos}(k:Gl X "range")(l:X.mg "range" = none)(m:PA X [a,b] f)(n:starEach [a,b] X.env=[(false,eval a X.env),(false,eval b X.env)]:=by rfl)(g:starEach [b] X.env=[(false,eval b X.env)]:=by rfl) :
 PI X tg (.Call (.Name "range" p) [a,b] [] pos) (N6 f):=by
 intro pins s σ H R I h;refine Call_ (Kg I k l boot_range (PyProof.Rows.callWith_type1 (AU (m pos pins s σ H _ I h) λz A⟨B,Y,o,u,c⟩=>?_) (by rw[n,g]) (by rw[g];rfl)));obtain⟨i,j,e,⟨c,v,w,x⟩,q⟩:=c;subst e
 cases u with
 |cons r d =>
   cases d with
   |cons y d =>
     cases d;obtain⟨t,rfl⟩:=r;obtain⟨C,rfl⟩:=y;exact call_range_2 (UZ o c v w x q)
def Fz (J:It) (g:TG) (tb:TS) (D:Ends) (σ:St) (Y:Hp):Prop:=∃W:Nat->Nat->St->Hp->Prop,(∃m,W 0 m σ Y)/\∀i m σ H,W i m σ H ->
 (J.stop i H/\D.nx σ H)\/(J.go i H/\∃N:St->Hp->Prop,(∀σ' H',N σ' H'->∃m',m'<m/\W (i+1) m' σ' H')/\∀x H',J.yld i H x H'->g x σ H' λσ2 H2=>tb {D with nx:=N,ct:=N,bk:=D.nx} σ2 H2)
def R9 (wi:TI) (g:TG) (tb:TS):TS:=λD σ H=>wi σ H λJ Y=>Fz J g tb D σ Y
def N7 (fp:List Addr) (h:Heap):B':=fp.filterMap λb=>(h.get? b).map λo=>(b,o)
variable {fp:List Addr}
def P7{o:Obj}(hb:b∈fp)(e:h.get? b=some o):(b,o)∈N7 fp h:=List.mem_filterMap.mpr ⟨b,hb,by rw[e];rfl⟩
def Yh{p:Addr×Obj}(a:p∈N7 fp h):p.1∈fp/\h.get? p.1=some p.2:=by
 obtain⟨b,hb,e⟩:=List.mem_filterMap.mp a
 cases q:h.get? b with
 |none=>rw[q] at e;cases e
 |some o =>
   rw[q] at e;have c:(b,o)=p:=Br e;subst c;exact⟨hb,q⟩
theorem Inv.pinned(I:Inv X pins σ H s)(c:∀b∈fp,CZ X pins H b)(f:∀b∈fp,∃o,s.heap.get? b=some o/\∀v,o.data≠.cell v):Inv X (pins++N7 fp s.heap) σ H s:=
 I.pins_of λp g=>(BL.mp g).elim (λz=>I.pin p (CY _ z)) λz=>by
  obtain⟨hb,e⟩:=Yh z;obtain⟨h,i,j,_⟩:=c p.1 hb;obtain⟨o,a,d⟩:=f p.1 hb;rw[e] at a;cases a;exact⟨e,h,i,j,d⟩
theorem Inv.unpinned{a:B'}(I:Inv X (pins++a) σ H s):Inv X pins σ H s:=I.pins_of λp b=>I.pin p (CY _ (Ef _ b))
def Do{j:Expr}{body:List Stmt}{A:TI}{g:TG}{tb:TS}{pos:Pos}(l:PassesOwn (model X.prog X.w) X.A X.env X.xe)(B:X.calm=true)(O:PI X tg j A)(P:PG X tg g)(hb:F3 X body tb)
 (Q:∀x,foldedSetIterable j X.env x=pure x:=by intro _;rfl):PS X (.For tg j body [] pos) (R9 A g tb):=by
 intro pins s σ H af I h;refine wpAny_For (AU (O pins s σ H _ I h) λv s1 R=>AU R λai s2 S=>?_) Q;obtain⟨it,fp,C,ag,U,e,V,T,aa,D,W,⟨Y,Z⟩,turn⟩:=S;subst e;have z:∀{d:Hp},(∀b∈fp,d b=none)->∀b∈fp,CZ X pins d b:=λhn b hb=>⟨hn b hb,(D b hb).2⟩;refine codeAny_forLoop_any (λn L=>∃i σ' d,Inv X pins σ' d L/\C i L.heap/\(∀b∈fp,d b=none)/\W i n σ' d) ?_ Y ⟨0,σ,U,V,aa,λb hb=>(D b hb).1,Z⟩;rintro n E ⟨i,σ3,q,F,K,M,w3⟩;rcases turn i n σ3 q w3 with⟨stop,qn⟩|⟨go,N,hN,step⟩
 . refine wpAny_passesOwn l (AU (T.done X rfl rfl rfl B i pins E σ3 q X.xe F (z M) K stop) λr s4⟨t,I4⟩=>?_)
   subst t;exact wpAny_execs_nil ⟨σ3,q,I4,qn⟩
 . refine wpAny_passesOwn l (AU (T.item X rfl rfl rfl B i pins E σ3 q X.xe F (z M) K go) λr s4⟨u,t,h4⟩=>?_)
   subst t;refine wpAny_passesOwn l (AU h4 λ_ G⟨x,J,I5,r5,y5,y,ab⟩=>?_);have ae:=I5.pinned (z ab) (T.obj _ _ y);refine wpAny_passesOwn l (AU (P _ G σ3 J x u _ ae r5 (step x J y5)) λ_ s6⟨σ6,H6,I6,q6⟩=>?_);refine wpAny_passesOwn l (AU (hb _ s6 σ6 H6 _ I6 q6) λf w k=>?_)
   have again:∀{σ7:St}{a:Hp},Inv X (pins++N7 fp G.heap) σ7 a w->N σ7 a->∃m,m<n/\∃i σ' d,Inv X pins σ' d w/\C i w.heap/\(∀b∈fp,d b=none)/\W i m σ' d:=λ{σ7 a}c p=>by
    obtain⟨m',hm,w7⟩:=hN σ7 a p;refine⟨m',hm,i+1,σ7,a,c.unpinned,T.keep _ _ _ y λb hb o e=>(c.pin (b,o) (CY _ (CY _ (P7 hb e)))).1,λb hb=>?_,w7⟩;obtain⟨o,e,ah⟩:=T.obj _ _ y b hb;exact(c.pin (b,o) (CY _ (CY _ (P7 hb e)))).2.1
   cases f with
   |next=>obtain⟨σ7,a,c,p⟩:=k;exact again c p
   |cont=>obtain⟨σ7,a,c,p⟩:=k;exact again c p
   |brk=>obtain⟨σ7,a,c,k⟩:=k;exact⟨σ7,a,c.unpinned,k⟩
   |ret v=>obtain⟨x7,σ7,a,c,r7,k⟩:=k;exact⟨x7,σ7,a,c.unpinned,r7,k⟩
end
variable {g:TG}{tb:TS}{D:Ends}
def N8{J:It}(n:Nat)(Pv:Nat->St->Hp->Prop)(b:Pv 0 σ H)(go:∀i σ H,Pv i σ H->i<n->J.go i H)(stop:∀σ H,Pv n σ H->J.stop n H)
 (c:∀i v σ H H',Pv i σ H->i<n->J.yld i H v H'->g v σ H' λσ2 d=>tb {D with nx:=Pv (i+1),ct:=Pv (i+1),bk:=D.nx} σ2 d) (hd:∀σ H,Pv n σ H->D.nx σ H):Fz J g tb D σ H:=by
 unfold Fz;refine⟨λi m σ H=>m=n-i/\i<=n/\Pv i σ H,⟨_,rfl,C7 _,b⟩,?_⟩;rintro i m σ H ⟨rfl,e,p⟩;by_cases a:i<n;exact .inr ⟨go i σ H p a,Pv (i+1),λσ' H' R=>⟨n-(i+1),by lia,rfl,a,R⟩,λv H' y=>c i v σ H H' p a y⟩
 . obtain rfl:i=n:=by lia
   exact .inl ⟨stop σ H p,hd σ H p⟩
def FA{K:Ah}{xs:List V}(Pv:Nat->St->Hp->Prop)(d:Pv 0 σ H)(c:∀i σ H,i<=xs.length->Pv i σ H->Ae K H a xs)
 (e:∀i x σ H,xs[i]?=some x->Pv i σ H->g x σ H λσ2 f=>tb {D with nx:=Pv (i+1),ct:=Pv (i+1),bk:=D.nx} σ2 f) (hd:∀σ H,Pv xs.length σ H->D.nx σ H):Fz (Nc K a) g tb D σ H:=N8 xs.length Pv d (λi σ H p b=>⟨xs,xs[i],c i σ H (Cn b) p,by simp[b]⟩) (λσ H p=>⟨xs,c _ σ H (AE _) p,AE _⟩) (λi v σ H h p b y=>by obtain⟨rfl,y⟩:=y;exact e i v σ _ (y xs (c i σ _ (Cn b) p)) p) hd
def N9{lo:Int}{n:Nat}(Pv:Nat->St->Hp->Prop)(b:Pv 0 σ H)
 (c:∀i σ H,i<n->Pv i σ H->g (.int (lo+i)) σ H λσ2 d=>tb {D with nx:=Pv (i+1),ct:=Pv (i+1),bk:=D.nx} σ2 d) (hd:∀σ H,Pv n σ H->D.nx σ H):Fz (Lj lo n) g tb D σ H:=N8 n Pv b (λi σ H p a=>a) (λσ H p=>AE _) (λi v σ H e p a y=>by obtain⟨rfl,rfl⟩:=y;exact c i σ _ a p) hd
abbrev R2:=V->V->Hp->VK->Prop
def DF (X:Cx) (f:Value->Value->Sem Value) (r:R2):Prop:=
 ∀(pins:B')(s:Shared)(σ:St)(H:Hp)(x y:V)(v u:Value)(Q:VK),Inv X pins σ H s->RelV x v->RelV y u->r x y H Q ->
  wpAny (model X.prog X.w) X.A (f v u) (EP X pins σ Q) X.xe s
def P8 (X:Cx) (f:Value->Sem Value) (r:V->Hp->VK->Prop):Prop:=
 ∀(pins:B')(s:Shared)(σ:St)(H:Hp)(x:V)(v:Value)(Q:VK),Inv X pins σ H s->RelV x v->r x H Q ->
  wpAny (model X.prog X.w) X.A (f v) (EP X pins σ Q) X.xe s
def Bi (X:Cx) (f:Value) (r:List V->Hp->VK->Prop):Prop:=
 ∀(pins:B')(s:Shared)(σ:St)(H:Hp)(xs:List V)(us:List Value)(Q:VK),Inv X pins σ H s->At xs us->r xs H Q ->
  wpAny (model X.prog X.w) X.A (call f us) (EP X pins σ Q) X.xe s
def Sa (X:Cx) (r:V->Hp->(Bool->Hp->Prop)->Prop):Prop:=
 ∀(pins:B')(s:Shared)(σ:St)(H:Hp)(x:V)(v:Value)(Q:Bool->Hp->Prop),Inv X pins σ H s->RelV x v->r x H Q ->
  wpAny (model X.prog X.w) X.A (truthy v) (TP X pins σ Q) X.xe s
def DW (r:R2) (ta tb:TE):TE:=λσ H Q=>ta σ H λx Y=>tb σ Y λy H2=>r x y H2 Q
def Yi (r:V->Hp->VK->Prop) (ta:TE):TE:=λσ H Q=>ta σ H λx Y=>r x Y Q
def rI (C:Int->Int->Prop) (g:Int->Int->V):R2:=λx y H Q=>G6 x y λi j=>C i j/\Q (g i j) H
def Kj (g:Int->Int->V):R2:=λx y H Q=>G6 x y λi j=>Q (g i j) H
def rU (g:Int->V):V->Hp->VK->Prop:=λx H Q=>mI x λi=>Q (g i) H
section
variable {X:Cx} {a b c:Expr} {ta tb tc:TE} {pos:Pos}
variable {f:Value->Value->Sem Value}
def Ll(e:PE X a ta)(hb:PE X b tb){R:V->V->Hp->Prop}(I:Inv X pins σ H s)
 (h:ta σ H λx Y=>tb σ Y λy c=>R x y c) {Q:D'} (g:∀v u d x y c,Inv X pins σ c d->RelV x v->RelV y u->R x y c->wpAny (model X.prog X.w) X.A (f v u) Q X.xe d) :
 wpAny (model X.prog X.w) X.A (eval a X.env) (λv i=>wpAny (model X.prog X.w) X.A (eval b X.env) (λu j=>wpAny (model X.prog X.w) X.A (f v u) Q X.xe j) X.xe i) X.xe s:=by
 refine AU (e pins s σ H _ I h) λv k⟨x,Y,l,m,n⟩=>?_;refine AU (hb pins k σ Y _ l n) λu d⟨y,c,o,p,q⟩=>?_;exact g v u d x y c o m p q
def A2{op:Operator}{r:R2}(c:DF X (binaryOp op) r)(d:PE X a ta)(hb:PE X b tb):PE X (.BinOp a op b pos) (DW r ta tb):=by
 intro pins s σ H Q I h;exact wpAny_BinOp (Ll d hb I h λv u e x y f g i j q=>c pins e σ f x y v u Q g i j q)
def IK{op:UnaryOp}{r:V->Hp->VK->Prop}(b:P8 X (unaryOp op) r)(c:PE X a ta):PE X (.UnaryOp op a pos) (Yi r ta):=by
 intro pins s σ H Q I h;exact UnaryOp_ (AU (c pins s σ H _ I h) λv d⟨x,Y,e,f,g⟩=>b pins d σ Y x v Q e f g)
def Sb{C:Int->Int->Prop}{g:Int->Int->Int}
 (e:∀(i j:Int)(t u:Tok)(s:Shared)(Q:D')(E:D'),C i j->Q (.int (g i j) s.toks) {s with toks:=s.toks+1}->wpAny (model X.prog X.w) X.A (f (.int i t) (.int j u)) Q E s) :
 DF X f (rI C λi j=>.int (g i j)):=by
 intro pins s σ H x y v u Q I a b h
 replace h:=G6.ex h
 obtain⟨i,j,rfl,rfl,c,q⟩:=h;obtain⟨t,rfl⟩:=a;obtain⟨d,rfl⟩:=b;exact e i j t d s _ _ c ⟨.int (g i j),H,I.tok _,⟨_,rfl⟩,q⟩
def Lm{g:Int->Int->Int}
 (d:∀(i j:Int)(t u:Tok)(s:Shared)(Q:D')(E:D'),Q (.int (g i j) s.toks) {s with toks:=s.toks+1}->wpAny (model X.prog X.w) X.A (f (.int i t) (.int j u)) Q E s) :
 DF X f (Kj λi j=>.int (g i j)):=by
 intro pins s σ H x y v u Q I a b h
 replace h:=G6.ex h
 obtain⟨i,j,rfl,rfl,q⟩:=h;obtain⟨t,rfl⟩:=a;obtain⟨c,rfl⟩:=b;exact d i j t c s _ _ ⟨.int (g i j),H,I.tok _,⟨_,rfl⟩,q⟩
def Oa{g:Int->Int->Bool}
 (d:∀(i j:Int)(t u:Tok)(s:Shared)(Q:D')(E:D'),Q (.bool (g i j)) s->wpAny (model X.prog X.w) X.A (f (.int i t) (.int j u)) Q E s) :
 DF X f (Kj λi j=>.bl (g i j)):=by
 intro pins s σ H x y v u Q I a b h
 replace h:=G6.ex h
 obtain⟨i,j,rfl,rfl,q⟩:=h;obtain⟨t,rfl⟩:=a;obtain⟨c,rfl⟩:=b;exact d i j t c s _ _ ⟨.bl (g i j),H,I,rfl,q⟩
def Ob (i j:Int):Prop:=0<j/\j<1073741824
def Ln (i j:Int):Prop:=(-(2 ^ 64)<i/\i<2 ^ 64)\/(-(2 ^ 64)<j/\j<2 ^ 64)
def Ln.ok{i j:Int}(h:Ln i j):IntMulOk i j:=by
 rcases h with⟨a,b⟩|⟨a,b⟩;exact .of_left (intBits_le_64 a b);exact .of_right (intBits_le_64 a b)
def F8:DF X (binaryOp .Add) (Kj λi j=>.int (i+j)):=Lm λζ ζ ζ ζ ζ ζ ζ q=>add_int q
def G9:DF X (binaryOp .Sub) (Kj λi j=>.int (i-j)):=Lm λζ ζ ζ ζ ζ ζ ζ q=>sub_int q
def Lo:DF X (binaryOp .Mult) (rI Ln λi j=>.int (i*j)):=Sb λζ ζ ζ ζ ζ ζ ζ a q=>mul_int q a.ok
def Gh:DF X (binaryOp .FloorDiv) (rI Ob λi j=>.int (i/j)):=Sb λi j ζ ζ ζ ζ ζ a q=>by
 have b:(0:Int)<j:=a.1;have c:j<1073741824:=a.2;exact floordiv_int (by lia) (by rw[Int.fdiv_eq_ediv_of_nonneg i (by lia)];exact q) (.inl (PyProof.noPylong_small (by lia)))
def Dy:DF X (binaryOp .Mod) (rI (λζ j=>0<j) λi j=>.int (i%j)):=Sb λi j ζ ζ ζ ζ ζ a q=>by
 have b:(0:Int)<j:=a;exact mod_int' (by lia) (by rw[Int.fmod_eq_emod_of_nonneg i (by lia)];exact q)
def U3:DF X (inplaceOp .Add) (Kj λi j=>.int (i+j)):=Lm λζ ζ ζ ζ ζ ζ ζ q=>iadd_int q
def Yj{f:Value->Sem Value}{g:Int->Int}
 (b:∀(i:Int)(t:Tok)(s:Shared)(Q:D')(E:D'),Q (.int (g i) s.toks) {s with toks:=s.toks+1}->wpAny (model X.prog X.w) X.A (f (.int i t)) Q E s) :
 P8 X f (rU λi=>.int (g i)):=by
 intro pins s σ H x v Q I a h
 replace h:=mI.ex h
 obtain⟨i,rfl,q⟩:=h;obtain⟨t,rfl⟩:=a;exact b i t s _ _ ⟨.int (g i),H,I.tok _,⟨_,rfl⟩,q⟩
def IL:P8 X (unaryOp .USub) (rU λi=>.int (-i)):=Yj λζ ζ ζ ζ ζ q=>neg_int q
end
def Lp:V->V->Bool
 |.non,.non=>true|.non,.int _=>true|.int _,.non=>true|.non,.bl _=>true|.bl _,.non=>true|.non,.str _=>true|.str _,.non=>true
 |.int _,.int _=>true|.bl _,.bl _=>true|.str _,.str _=>true|.byt _,.byt _=>true
 |.int _,.str _=>true|.str _,.int _=>true|.bl _,.str _=>true|.str _,.bl _=>true
 |_,_=>false
def Yk:R2:=λx y H Q=>Lp x y=true/\Q (.bl (decide (x=y))) H
def U4:R2:=λx y H Q=>Lp x y=true/\Q (.bl (!decide (x=y))) H
def U5{i j:Int}:decide (V.int i=V.int j)=(i==j):=by
 rw[Bool.eq_iff_iff]
 simp
def Ha{i j:Bool}:decide (V.bl i=V.bl j)=(i==j):=by
 rw[Bool.eq_iff_iff]
 simp
def U6{i j:Str}:decide (V.str i=V.str j)=(i==j):=by
 rw[Bool.eq_iff_iff]
 simp
def U7{i j:Array UInt8}:decide (V.byt i=V.byt j)=(i.toList==j.toList):=by
 rw[Bool.eq_iff_iff];cases i;cases j
 simp
section
variable {X:Cx} {a b c:Expr} {ta tb tc:TE} {pos:Pos}
def C5{Q:VK}{k a:Bool}(I:Inv X pins σ H s)(q:Q (.bl k) H)(e:k=a):EP X pins σ Q (.bool a) s:=by
 subst e;exact⟨.bl k,H,I,rfl,q⟩
def Dq:DF X (compareOp .Eq) Yk:=by
 intro pins s σ H x y v u Q I d a h;obtain⟨c,q⟩:=h
 cases x with
 |non =>
   cases d
   cases y with
   |non=>cases a;exact PySem.EqNone.eq_none_none (C5 I q (by simp))
   |bl j=>cases a;exact PySem.EqNone.eq_none_bool (C5 I q (by simp))
   |int j=>obtain⟨b,rfl⟩:=a;exact PySem.EqNone.eq_none_int (C5 I q (by simp))
   |str j=>obtain⟨b,rfl⟩:=a;exact PySem.EqNone.eq_none_str (C5 I q (by simp))
   |_=>exact absurd (show false=true from c) CB
 |bl i =>
   cases d
   cases y with
   |non=>cases a;exact PySem.EqNone.eq_bool_none (C5 I q (by simp))
   |bl j=>cases a;exact eq_bool (C5 I q Ha)
   |str j=>obtain⟨b,rfl⟩:=a;exact PySem.EqMixed.eq_bool_str (C5 I q (by simp))
   |_=>exact absurd (show false=true from c) CB
 |int i =>
   obtain⟨t,rfl⟩:=d
   cases y with
   |non=>cases a;exact PySem.EqNone.eq_int_none (C5 I q (by simp))
   |int j=>obtain⟨b,rfl⟩:=a;exact eq_int (C5 I q U5)
   |str j=>obtain⟨b,rfl⟩:=a;exact PySem.EqMixed.eq_int_str (C5 I q (by simp))
   |_=>exact absurd (show false=true from c) CB
 |str i =>
   obtain⟨t,rfl⟩:=d
   cases y with
   |non=>cases a;exact PySem.EqNone.eq_str_none (C5 I q (by simp))
   |bl j=>cases a;exact PySem.EqMixed.eq_str_bool (C5 I q (by simp))
   |int j=>obtain⟨b,rfl⟩:=a;exact PySem.EqMixed.eq_str_int (C5 I q (by simp))
   |str j=>obtain⟨b,rfl⟩:=a;exact eq_str (C5 I q U6)
   |_=>exact absurd (show false=true from c) CB
 |byt i =>
   obtain⟨t,rfl⟩:=d
   cases y with
   |byt j=>obtain⟨b,rfl⟩:=a;exact PySem.W.eq_bytes (C5 I q U7)
   |_=>exact absurd (show false=true from c) CB
 |_=>cases y<;>exact absurd (show false=true from c) CB
def Lq:DF X (compareOp .NotEq) U4:=by
 intro pins s σ H x y v u Q I d a h;obtain⟨c,q⟩:=h
 cases x with
 |non =>
   cases d
   cases y with
   |non=>cases a;exact PySem.EqNone.ne_none_none (C5 I q (by simp))
   |bl j=>cases a;exact PySem.EqNone.ne_none_bool (C5 I q (by simp))
   |int j=>obtain⟨b,rfl⟩:=a;exact PySem.EqNone.ne_none_int (C5 I q (by simp))
   |str j=>obtain⟨b,rfl⟩:=a;exact PySem.EqNone.ne_none_str (C5 I q (by simp))
   |_=>exact absurd (show false=true from c) CB
 |bl i =>
   cases d
   cases y with
   |non=>cases a;exact PySem.EqNone.ne_bool_none (C5 I q (by simp))
   |bl j=>cases a;exact ne_bool (C5 I q (Bw not Ha))
   |str j=>obtain⟨b,rfl⟩:=a;exact PySem.EqMixed.ne_bool_str (C5 I q (by simp))
   |_=>exact absurd (show false=true from c) CB
 |int i =>
   obtain⟨t,rfl⟩:=d
   cases y with
   |non=>cases a;exact PySem.EqNone.ne_int_none (C5 I q (by simp))
   |int j=>obtain⟨b,rfl⟩:=a;exact ne_int (C5 I q (Bw not U5))
   |str j=>obtain⟨b,rfl⟩:=a;exact PySem.EqMixed.ne_int_str (C5 I q (by simp))
   |_=>exact absurd (show false=true from c) CB
 |str i =>
   obtain⟨t,rfl⟩:=d
   cases y with
   |non=>cases a;exact PySem.EqNone.ne_str_none (C5 I q (by simp))
   |bl j=>cases a;exact PySem.EqMixed.ne_str_bool (C5 I q (by simp))
   |int j=>obtain⟨b,rfl⟩:=a;exact PySem.EqMixed.ne_str_int (C5 I q (by simp))
   |str j=>obtain⟨b,rfl⟩:=a;exact ne_str (C5 I q (Bw not U6))
   |_=>exact absurd (show false=true from c) CB
 |byt i =>
   obtain⟨t,rfl⟩:=d
   cases y with
   |byt j=>obtain⟨b,rfl⟩:=a;exact PySem.W.ne_bytes (C5 I q (Bw not U7))
   |_=>exact absurd (show false=true from c) CB
 |_=>cases y<;>exact absurd (show false=true from c) CB
def Nd:DF X (compareOp .Lt) (Kj λi j=>.bl (decide (i<j))):=Oa λζ ζ ζ ζ ζ ζ ζ q=>lt_int q
def Oc:DF X (compareOp .Gt) (Kj λi j=>.bl (decide (j<i))):=Oa λζ ζ ζ ζ ζ ζ ζ q=>gt_int q
variable {op:CmpOp}
def BW(b:Expr)(h:op≠.In:=by decide)(a:op≠.NotIn:=by decide):behindInMarks op b=false:=by
 have c:(op==CmpOp.In)=false:=by cases op<;>first|rfl|exact absurd rfl h
 have d:(op==CmpOp.NotIn)=false:=by cases op<;>first|rfl|exact absurd rfl a
 cases b<;>simp[behindInMarks,c,d]
def Kk{r:R2}(c:DF X (compareOp op) r)(d:PE X a ta)(hb:PE X b tb)(e:behindInMarks op b=false):PE X (.Compare a [op] [b] pos) (DW r ta tb):=by
 intro pins s σ H Q I h;exact wpAny_Compare1 (Ll d hb I h λv u f x y g i j k q=>c pins f σ g x y v u Q i j k q) e
def Od (t:TE):TT:=λσ H Q=>t σ H λx H'=>mB x λk=>Q k H'
def B2{r:R2}(f:DF X (compareOp op) r)(g:PE X a ta)(hb:PE X b tb)(i:behindInMarks op b=false):PT X (.Compare a [op] [b] pos) (Od (DW r ta tb)):=by
 intro pins s σ H Q I h
 refine wpAny_isTrue_Compare1 (AU (g pins s σ H _ I h) λv j⟨x,Y,l,m,n⟩=>AU (hb pins j σ Y _ l n) λu o⟨y,p,q,t,w⟩ =>
  AU (f pins o σ p x y v u _ q m t w) λc D⟨z,A,B,C,d⟩=>?_) i
 replace d:=mB.ex d
 obtain⟨k,e,d⟩:=d;subst e;cases C;exact F0 ⟨A,B,d⟩
def Sc (K:Ah) (x:V) (H:Hp) (k:Bool):Prop:=
 match x with
 |.non=>k=false
 |.bl b=>k=b
 |.int i=>k=(i != 0)
 |.str y=>y.length<=sizeLine/\k=((y.length:Int) != 0)
 |.byt y=>y.size<=sizeLine/\k=((y.size:Int) != 0)
 |.ref p=>(∃xs,Ae K H p xs/\k=!xs.isEmpty)\/(∃xs,Ar K H p xs/\k=!xs.isEmpty)\/∃kvs,H p=some (.dK kvs)/\k=!kvs.isEmpty
 |_=>False
def Yl{κ:Type}{a:List (κ×V)}{vs:List (κ×Value)}(r:KV a vs):(!vs.isEmpty)=!a.isEmpty:=by
 cases r<;>rfl
def U8{xs:List V}{a:List Value}(r:At xs a):(!a.toArray.isEmpty)=!xs.isEmpty:=by
 cases r<;>simp
def Lr:(sizeLine:Nat)<2 ^ 63:=by rw[sizeLine_eq];decide
def Ls:Sa X (λx H Q=>∃k,Sc X.K x H k/\Q k H):=by
 intro pins s σ H x v Q I d h;obtain⟨k,e,q⟩:=h;have A:=Lr;have B:sizeLine=16777216:=sizeLine_eq
 cases x with
 |non =>
   cases d;have a:k=false:=e;subst a;exact truthy_none ⟨H,I,q⟩
 |bl b =>
   cases d;have a:k=b:=e;subst a;exact F0 ⟨H,I,q⟩
 |int i =>
   obtain⟨t,rfl⟩:=d;have a:k=(i != 0):=e;subst a;exact PySem.P.truthy_int ⟨H,I,q⟩
 |str y =>
   obtain⟨t,rfl⟩:=d;obtain⟨u,a⟩:y.length<=sizeLine/\k=((y.length:Int) != 0):=e;subst a;exact PySem.P.truthy_str (by lia) ⟨H,I.tok _,q⟩
 |byt y =>
   obtain⟨t,rfl⟩:=d;obtain⟨u,a⟩:y.size<=sizeLine/\k=((y.size:Int) != 0):=e;subst a;exact PySem.W.truthy_bytes (by lia) ⟨H,I.tok _,q⟩
 |ref p =>
   cases d;have a:(∃c,Ae X.K H p c/\k=!c.isEmpty)\/(∃c,Ar X.K H p c/\k=!c.isEmpty)\/∃f,H p=some (.dK f)/\k=!f.isEmpty:=e;rcases a with⟨c,g,a⟩|⟨c,g,a⟩|⟨f,g,a⟩;subst a;obtain⟨z,r,l,n⟩:=I.list g;have o:=r.length;exact wpAny_truthy_list l.isList (by simp only[Cf];lia) ⟨H,I.tok _,by rw[U8 r];exact q⟩;subst a;obtain⟨z,r,l,n⟩:=I.tuple g;have o:=r.length;exact truthy_tuple l (by simp only[Cf];lia) ⟨H,I.tok _,by rw[U8 r];exact q⟩;subst a;obtain⟨n,w,j,r,m⟩:f.length<=sizeLine/\(p==sysModules)=false/\∃j,KV f j/\s.heap.DictOf (EC X.prog X.w) p j:=I.hok p _ g;have o:f.length=j.length:=Paired.length r;exact wpAny_truthy_dict w m (by lia) ⟨H,I.tok _,by rw[Yl r];exact q⟩
 |_=>exact(show False from e).elim
def U9:DF X (binaryOp .Add) (λx y H Q=>∃i j,x=.str i/\y=.str j/\i.length+j.length<=sizeLine/\Q (.str (i++j)) H):=by
 intro pins s σ H x y v u Q I a b h;obtain⟨i,j,rfl,rfl,c,q⟩:=h;obtain⟨t,rfl⟩:=a;obtain⟨d,rfl⟩:=b;exact add_str (λd tk=>⟨.str (i++j),H,I.tok _,⟨_,rfl⟩,q⟩) c
def FP{us:List Value}(r:At [x] us):∃u,us=[u]/\RelV x u:=by
 cases r with
 |cons a b=>cases b;exact⟨_,rfl,a⟩
def Kl{y:V}{us:List Value}(r:At [x,y] us):∃u a,us=[u,a]/\RelV x u/\RelV y a:=by
 cases r with
 |cons b c =>
   cases c with
   |cons d e=>cases e;exact⟨_,_,rfl,b,d⟩
def Va:Bi X (.type "int") (λxs H Q=>(∃i,xs=[.int i]/\Q (.int i) H)\/∃k,xs=[.bl k]/\Q (.int (if k then 1 else 0)) H):=by
 intro pins s σ H xs b Q I r h;rcases h with⟨i,rfl,q⟩|⟨k,rfl,q⟩;obtain⟨u,rfl,t,rfl⟩:=FP r;exact call_int_int ⟨.int i,H,I,⟨_,rfl⟩,q⟩;obtain⟨u,rfl,a⟩:=FP r
 cases a;exact call_int_bool ⟨.int (if k then 1 else 0),H,I.tok _,⟨_,rfl⟩,q⟩
def Sd (K:Ah) (x:V) (H:Hp) (n:Nat):Prop:=
 match x with
 |.str y=>y.length<=sizeLine/\n=y.length
 |.byt y=>y.size<=sizeLine/\n=y.size
 |.ref p=>(∃xs,Ae K H p xs/\n=xs.length)\/∃xs,Ar K H p xs/\n=xs.length
 |_=>False
def Gi:Bi X (.builtin "len") (λxs H Q=>mL xs λx n=>Sd X.K x H n/\Q (.int n) H):=by
 intro pins s σ H xs l Q I r h
 replace h:=mL.ex h
 obtain⟨x,n,rfl,e,q⟩:=h;obtain⟨u,rfl,b⟩:=FP r;have m:=Lr;have o:sizeLine=16777216:=sizeLine_eq
 cases x with
 |str y =>
   obtain⟨t,rfl⟩:=b;obtain⟨i,a⟩:y.length<=sizeLine/\n=y.length:=e;subst a;exact len_str (by lia) ⟨.int _,H,I.tok _,⟨_,rfl⟩,q⟩
 |byt y =>
   obtain⟨t,rfl⟩:=b;obtain⟨i,a⟩:y.size<=sizeLine/\n=y.size:=e;subst a;exact PySem.W.len_bytes (by lia) ⟨.int _,H,I.tok _,⟨_,rfl⟩,q⟩
 |ref p =>
   cases b;have a:(∃xs,Ae X.K H p xs/\n=xs.length)\/∃xs,Ar X.K H p xs/\n=xs.length:=e;rcases a with⟨xs,c,a⟩|⟨xs,c,a⟩;subst a;obtain⟨k,d,f,j⟩:=I.list c;have g:=d.length;exact Calls.call_len_list f.isList (by simp only[Cf];lia) ⟨.int xs.length,H,I.tok _,⟨_,by simp only[Cf];rw[g]⟩,q⟩;subst a;obtain⟨k,d,f,j⟩:=I.tuple c;have g:=d.length;exact len_tuple f (by simp only[Cf];lia) ⟨.int xs.length,H,I.tok _,⟨_,by simp only[Cf];rw[g]⟩,q⟩
 |_=>exact(show False from e).elim
end
section
variable {prog:Program} {w:World} {A:Around} {E:D'} {s:Shared} {K:Ah} {x dx C f:Addr} {mA:Str->Option Value} {name:Str} {v:Value}
end
def DV.some_of{v:V}{o:Option Value}(r:DV (some v) o):∃u,o=some u/\RelV v u:=by
 cases o with
 |none=>exact(show False from r).elim
 |some u=>exact⟨u,rfl,r⟩
section
variable {P:Program} {w:World} {H H':Hp} {h h':Heap} {a C dx:Addr} {fs fs':List (Str×V)}
end
section
variable {X:Cx} {pins:B'} {σ:St} {H:Hp} {s:Shared} {a C dx:Addr} {fs:List (Str×V)} {f:Str} {v:V} {A:Around} {E:D'}
end
section
variable {X:Cx} {o e d:Expr} {f:Str} {pos t j:Pos} {ta J:TE}
end
section
variable {X:Cx} {pins:B'} {σ:St} {H:Hp} {s:Shared} {A:Around} {E:D'} {Q:D'} {c:Value} {b:Bool}
end
structure BX (k:Nat) (A:Around):Prop where
 hd:A.handled=none
 dp:A.depth+3*k+5<recursionLimit
 un:A.units+16*k+200<cLine
def BX.mono{j k:Nat}(r:BX k A)(h:j<=k):BX j A:=⟨r.hd,by have:=r.dp;lia,by have:=r.un;lia⟩
def BX.deeper{k:Nat}{A:Around}(r:BX (k+1) A)(env:Env):BX k (A.deeper env):=
 ⟨r.hd,by have:=r.dp;show A.depth+1+3*k+5<_;lia,by have:=r.un;show A.units+3+16*k+200<_;lia⟩
def BX.depth{k:Nat}{A:Around}(r:BX k A):A.depth<recursionLimit:=by have:=r.dp;lia
def BX.units{k:Nat}{A:Around}(r:BX k A):A.units+64<cLine:=by have:=r.un;lia
def Fc:TA:=λζ H Q=>Q [] H
def FQ (ta:TE) (tr:TA):TA:=λσ H Q=>ta σ H λx Y=>tr σ Y λxs H2=>Q (x::xs) H2
section
variable {X:Cx} {e:Expr} {es:List Expr} {te:TE} {t:TA} {pos:Pos}
def Af:PA X [] Fc:=λζ ζ ζ ζ H Q I h=>Calls.spliced_nil ⟨[],H,I,.nil,h⟩
def Ab(a:PE X e te)(b:PA X es t)(c:starEach (e::es) X.env=(false,eval e X.env)::starEach es X.env:=by rfl):PA X (e::es) (FQ te t):=by
 intro pos pins s σ H Q I h;rw[c];show wpAny _ _ (spliced ((false,eval e X.env)::backTo pos (starEach es X.env))) _ _ s;refine Calls.spliced_cons (AU (a pins s σ H _ I h) λu d⟨x,Y,f,g,i⟩=>?_);exact AU (b pos pins d σ Y _ f i) λo p⟨j,k,l,m,n⟩=>⟨x::j,k,l,.cons g m,n⟩
def IM (t:TA):TE:=λσ H Q=>t σ H λxs Y=>xs.length<=sizeLine/\∀p,Y p=none->Q (.ref p) (upd Y p (.tup xs))
def Lu (t:TA):TE:=λσ H Q=>t σ H λxs Y=>xs.length<=sizeLine/\∀p,Y p=none->Q (.ref p) (upd Y p (.lst xs))
def Bn{d}(h:PA X es t):PE X (.Tuple es d pos) (IM t):=by
 intro pins s σ H Q I f;refine wpAny_Tuple_spliced (AU (h pos pins s σ H _ I f) λg a⟨i,Y,c,r,z,q⟩=>⟨by rw[<-r.length];exact z,?_⟩);have j:Y a.heap.objs.size=none:=c.hok.fresh (AE _);refine⟨.ref a.heap.objs.size,upd Y a.heap.objs.size (.tup i),c.laid (t':=a.toks) (λb u e=>Ba _ e) (AE _) ?_,rfl,q _ j⟩;exact⟨z,g,r,⟨_,B9 _ rfl,rfl,_,rfl⟩⟩
def Cg(h:PA X es t):PE X (.List es pos) (Lu t):=by
 intro pins s σ H Q I d;refine wpAny_List_spliced (AU (h pos pins s σ H _ I d) λf a⟨g,Y,c,r,z,q⟩=>⟨by rw[<-r.length];exact z,?_⟩);have i:Y a.heap.objs.size=none:=c.hok.fresh (AE _);refine⟨.ref a.heap.objs.size,upd Y a.heap.objs.size (.lst g),c.laid (t':=a.toks) (λb u e=>Ba _ e) (AE _) ?_,rfl,q _ i⟩;exact⟨z,f,0,r,B9 _ rfl⟩
end
abbrev Sp:=List V->Hp->VK->XK->Prop
abbrev Hb:=List Env->Hp->Shared->XK->Value->Shared->Prop
structure IP (P:Program) (w:World) (K:Ah) (mg:Str->Option Value) (base:Heap) (A:Around) (outer:List Env) (s:Shared) (H:Hp):Prop where
 frames:A.frames=some outer
 mod:Mod K mg base
 bs:∀b o,base.get? b=some o->s.heap.get? b=some o/\H b=none
 bsz:base.objs.size<=s.heap.objs.size
 funs:s.heap.FunFrames base outer
 frf:∀b∈EH outer,H b=none
 hok:CL P w H s.heap
 bare:AllBare s.gens
def CE (outer:List Env) (P:Program) (w:World) (H:Hp) (s:Shared) (Q:VK) (u:Value) (L:Shared):Prop:=
 ∃v H',L.os=s.os/\AllBare L.gens/\Un (EH outer) [] H H' s.heap L.heap/\CL P w H' L.heap/\RelV v u/\Q v H'
def CR (CX:Hb) (outer:List Env) (P:Program) (w:World) (H:Hp) (s:Shared) (Q:VK) (E:XK) (r:Result) (L:Shared):Prop:=
 match r with
 |.ok (.ret u)=>CE outer P w H s Q u L
 |.ok _=>False
 |.error e=>CX outer H s E e L
structure Eg (P:Program) (w:World) (K:Ah) (mg:Str->Option Value) (base:Heap) (CX:Hb) (k:Nat) (f:Addr) (fd:FuncData) (ps:List Str) (sp:Sp):Prop where
 len:∀vs H Q E,sp vs H Q E->vs.length=ps.length
 run:∀(A:Around)(outer:List Env)(s:Shared)(H:Hp)(args:Args)(us:List Value)(vs:List V)(Q:VK)(E:XK),BX k A->IP P w K mg base A outer s H->BindsTo s fd args (ps.zip us)->At vs us->sp vs H Q E ->
  codeAny (model P w) A (.call (.ref f) args) (CR CX outer P w H s Q E) s
section
variable {X:Cx} {pins:B'} {σ:St} {H:Hp} {s L:Shared}
def Inv.env0(I:Inv X pins σ H s):IP X.prog X.w X.K X.mg X.base X.A X.stack s H:=
 ⟨I.ok.frames,I.ok.mod,I.bs,E8 I.ok.bsz I.sz,I.stack,I.stkFree,I.hok,I.bare⟩
def Inv.after{Q:VK}{u:Value}(I:Inv X pins σ H s)(h:CE X.stack X.prog X.w H s Q u L):EP X pins σ Q u L:=by
 obtain⟨v,a,c,j,un,f,r,q⟩:=h;obtain⟨e,g,d,t,i⟩:=L;obtain rfl:i=s.os:=c;exact⟨v,a,I.call (h':=e) (g':=g) (d':=d) (t':=t) (ch:=[]) un f j (λb z=>absurd z (by simp)),r,q⟩
end
def Hc (sp:Sp) (c:List V) (E:XK) (t:TA):TE:=λσ H Q=>t σ H λvs Y=>sp (vs++c) Y Q E
def Binds (K:Ah) (fd:FuncData) (ps:List Str) (ds:List Value):Prop:=
 ∀(s:Shared)(us:List Value),K.In s.heap->(us++ds).length=ps.length->BindsTo s fd ⟨us,[]⟩ (ps.zip (us++ds))
variable {ps:List Str}
def Binds.all{K:Ah}{a:FuncData}(h:∀us:List Value,us.length=ps.length->bindArgs a ⟨us,[]⟩=pure (ps.zip us)):Binds K a ps []:=λs us ζ b=>by
 rw[FN] at b ⊢;exact .of_eq (h us b)
def Se (CX:Hb) (X:Cx) (E:XK):Prop:=∀(pins:B')(σ:St)(H:Hp)(s:Shared)(e:Value)(L:Shared),Inv X pins σ H s->CX X.stack H s E e L->X.xe e L
section
variable {X:Cx} {CX:Hb} {k:Nat} {f C:Addr} {fd:FuncData} {ps:List Str} {sp:Sp} {c:List V} {ds:List Value} {E:XK} {x m:Str} {p pos apos:Pos} {e o:Expr} {es:List Expr} {ta:TE} {t:TA}
def Lv{Q:VK}{us:List Value}{vs:List V}(F:Eg X.prog X.w X.K X.mg X.base CX k f fd ps sp)(d:BX k X.A)(hb:Binds X.K fd ps ds)(hd:At c ds)(g:Se CX X E)
 (I:Inv X pins σ H s) (r:At vs us) (h:sp (vs++c) H Q E):wpAny (model X.prog X.w) X.A (call (.ref f) us) (EP X pins σ Q) X.xe s:=by
 have b:At (vs++c) (us++ds):=r.append hd;have i:(us++ds).length=ps.length:=by rw[<-b.length];exact F.len _ _ _ _ h
 refine wpAny_call (codeAny_mono (F.run X.A X.stack s H ⟨us,[]⟩ (us++ds) (vs++c) Q E d I.env0 (hb s us I.kIn i) b h) λr L a=>?_)
 cases r with
 |error e=>exact g pins σ H s e L I a
 |ok j =>
   cases j with
   |ret u=>exact I.after a
   |next=>exact False.elim a
   |brk=>exact False.elim a
   |cont=>exact False.elim a
def IQ(F:Eg X.prog X.w X.K X.mg X.base CX k f fd ps sp)(b:BX k X.A)(d:Gl X x)(g:X.mg x=some (.ref f))(i:PySem.W.keepIn X.K (.ref f)=true)(hb:Binds X.K fd ps ds)(hd:At c ds)(j:Se CX X E)
 (l:PA X (e::es) t) (n:(x==("__debug__" : Str))=false:=by decide) (m:starEach (e::es) X.env=(false,eval e X.env)::starEach es X.env:=by rfl) (o:(backTo pos (starEach es X.env)).any (·.1)=false:=by rfl) :
 PE X (.Call (.Name x p) (e::es) [] pos) (Hc sp c E t):=by
 intro pins s σ H Q I h;refine wpAny_Call_Name_kw (UW I d g ?_ n);refine PySem.W.callWith_K (h₀:=X.base) I.ok.mod.kin i (AU (l pos pins s σ H _ I h) λu v⟨w,Y,a,r,q⟩=>⟨a.kIn,?_⟩) m o;exact Lv F b hb hd j a r q
end
section
variable {X:Cx} {CX:Hb} {k:Nat} {f C:Addr} {fd:FuncData} {ps ks:List Str} {sp:Sp} {E:XK} {x m:Str} {p pos apos kpos:Pos} {e o:Expr} {es:List Expr} {kws:List Keyword} {te ta:TE} {t tk:TA} {nm:Option Str}
variable {g:List Value->List Value->List Value} {gV:List V->List V->List V}
end
structure Ag (N P:List Str) (sc:Scope):Prop where
 kind:sc.kind=.function
 co:sc.isCoroutine=false
 gen:sc.isGenerator=false
 nd:N.Nodup
 pre:N.take P.length=P
 par:∀x∈P,sc.names.lookup x=some .local\/sc.names.lookup x=some .cell
 nofree:∀y∈sc.names,y.2≠.free
theorem Vb{kindOf:Str->Option NameKind}{x:Str}:∀{binds:List (Str×Value)}{m:Str->Option Value},(∀v,(x,v)∉binds)->bindL kindOf binds m x=m x
 |[],_,_=>rfl
 |(n,v)::r,m,h=>by
   unfold bindL;rw[Vb λw a=>h w (B8 _ a)];split;have:x≠n:=by rintro rfl;exact h v Bu
   simp[this];rfl
theorem Vc{kindOf:Str->Option NameKind}{x:Str}:∀{binds:List (Str×Value)}{m:Str->Option Value},(∀v,(x,v)∉binds)->bindC kindOf binds m x=m x
 |[],_,_=>rfl
 |(n,v)::r,m,h=>by
   unfold bindC;rw[Vc λw a=>h w (B8 _ a)];split;rfl;have:x≠n:=by rintro rfl;exact h v Bu
   simp[this]
theorem Vd{kindOf:Str->Option NameKind}{x:Str}{v:Value}:∀{P:List Str}{vs:List Value}{i:Nat}{m:Str->Option Value},P.Nodup->P[i]?=some x->vs[i]?=some v->kindOf x=some .local ->
 bindL kindOf (P.zip vs) m x=some v
 |[],_,_,_,_,h,_,_=>by simp at h
 |_::_,[],_,_,_,_,h,_=>by simp at h
 |p::P,w::vs,0,m,c,a,b,d=>by
   simp at a b;subst a;subst b;show bindL kindOf ((p,w)::P.zip vs) m p=_;unfold bindL;rw[Vb λv hv=>(FM.mp c).1 (List.of_mem_zip hv).1,Ak d]
   simp
 |p::P,w::vs,i+1,m,c,a,b,d=>by
   show bindL kindOf ((p,w)::P.zip vs) m x=_;unfold bindL;exact Vd (i:=i) (FM.mp c).2 (by simpa using a) (by simpa using b) d
theorem Ve{kindOf:Str->Option NameKind}{x:Str}{v:Value}:∀{P:List Str}{vs:List Value}{i:Nat}{m:Str->Option Value},P.Nodup->P[i]?=some x->vs[i]?=some v->kindOf x≠some .local ->
 bindC kindOf (P.zip vs) m x=some v
 |[],_,_,_,_,h,_,_=>by simp at h
 |_::_,[],_,_,_,_,h,_=>by simp at h
 |p::P,w::vs,0,m,c,a,b,d=>by
   simp at a b;subst a;subst b;show bindC kindOf ((p,w)::P.zip vs) m p=_;unfold bindC;rw[Vc λv hv=>(FM.mp c).1 (List.of_mem_zip hv).1,Aj d]
   simp
 |p::P,w::vs,i+1,m,c,a,b,d=>by
   show bindC kindOf ((p,w)::P.zip vs) m x=_;unfold bindC;exact Ve (i:=i) (FM.mp c).2 (by simpa using a) (by simpa using b) d
def start (N:List Str) (vs:List V):St:=vs.map some++List.replicate (N.length-vs.length) none
def AG (CX:Hb) (P:Program) (w:World) (K:Ah) (mg:Str->Option Value) (base:Heap) (N:List Str) (qual:Str) (scope:Scope) (f:Addr) (cd:Value) (A:Around) (outer:List Env) (s:Shared) (H:Hp) (E:XK):Cx where
 prog:=P
 w:=w
 K:=K
 mg:=mg
 base:=base
 A:=A.deeper (envOfC qual scope s.heap.objs.size f cd)
 N:=N
 s₀:=s
 H₀:=H
 env:=envOfC qual scope s.heap.objs.size f cd
 outer:=outer
 stack:=envOfC qual scope s.heap.objs.size f cd::outer
 ex:=[]
 calm:=true
 fn:=λζ=>true
 pn:=[]
 xe:=λe L=>wpAny (model P w) (A.deeper (envOfC qual scope s.heap.objs.size f cd)) (leaving (envOfC qual scope s.heap.objs.size f cd) e) (λζ s''=>CX outer H s E e s'') (λe' s''=>CX outer H s E e' s'') L
def Vf{a:Scope}{n:Nat}{x:Str}(h:a.names.lookup x=some .cell):∃c,(cellsFrom n a.names []).lookup x=some c:=by
 have q:=PySem.W.cellsFrom_some a.names n [] (.inl h);exact Option.isSome_iff_exists.mp q
def Ym{CX:Hb}{K:Ah}{C:Str->Option Value}{F:Heap}{N:List Str}{B:Str}{scope:Scope}{f:Addr}{m:Value}{G:List Env}{I:Shared}{E:XK}{us:List Value}{vs:List V}
 (S:Ag N ps scope) (hd:A.handled=none) (g:IP P w K C F A G s H) (R:vs.length=ps.length) (r:At vs us)
 (x:InCallC s s.heap.objs.size (bindL (envOfC B scope s.heap.objs.size f m).kindOf (ps.zip us) λζ=>none) (cellsFrom (s.heap.objs.size+1) scope.names []) (bindC (envOfC B scope s.heap.objs.size f m).kindOf (ps.zip us) λζ=>none) I) :
 Inv (AG CX P w K C F N B scope f m A G s H E) [] (start N vs) H I:=by
 have U:ps.length<=N.length:=by have:=Bw List.length S.pre;rw[Fn] at this;lia
 obtain⟨o,tk,rfl,J⟩:=x.done;have D:∀b:Addr,b∉(AG CX P w K C F N B scope f m A G s H E).ex:=λb z=>absurd (show b∈([]:List Addr) from z) (by simp)
 refine⟨⟨g.mod,S.kind,rfl,rfl,AE _,λy z c o d=>?_,λy j=>?_,λy c ζ h=>?_,λζ=>hd,Around.frames_deeper g.frames,.inr ⟨rfl,rfl⟩,λb z=>absurd z (D b),g.bs,g.bsz,λb ζ ζ=>D b,λb z=>absurd z (D b),g.funs,g.frf⟩,
  rfl,g.bare,Un.kept J,⟨_,x.toInCall.ns,λi y v o d T=>?_⟩,λy c h=>⟨_,x.cell y c h⟩,g.hok.fresh (AE _),λy c h=>?_,λp l=>absurd (show p∈([]:B') from l) (by simp),g.hok.kept J,?_⟩
 exact name_of_addr x.apart (F1 o) (F1 d);have j:scope.names.lookup y=some .cell\/scope.names.lookup y=some .free:=j;rcases j with j|j;exact Vf j;exact absurd rfl (S.nofree _ (F1 j));exact Cn (x.above y c (F1 h))
 have t:i<vs.length:=by
  unfold start at d;by_cases t:i<vs.length;exact t;rw[EB (by simpa using t)] at d;rw[List.getElem?_replicate] at d;split at d<;>cases d
 have O:vs[i]?=some v:=by
  unfold start at d;rw[D1 (by simpa using t),A3] at d
  cases e:vs[i]? with
  |none=>rw[e] at d;cases d
  |some a=>rw[e] at d;cases d;rfl
 obtain⟨u,L,Q⟩:=r.get O
 have l:ps[i]?=some y:=by
  rw[<-S.pre,List.getElem?_take_of_lt (by lia)];exact o
 have M:ps.Nodup:=by rw[<-S.pre];exact S.nd.sublist (List.take_sublist _ _)
 refine⟨u,Q,?_⟩;rcases S.par y (A6 l) with k|k;exact .inl ⟨k,Vd M l L k⟩;obtain⟨c,e⟩:=Vf (n:=s.heap.objs.size+1) k;refine .inr ⟨.inl k,c,e,?_⟩;have q:=x.cell y c e;rw[Ve M l L (by show scope.names.lookup y≠_;rw[k];decide)] at q;exact q;exact g.hok.fresh (Cn (x.above y c (F1 h)));unfold start;show _=N.length;rw[AZ,Al,List.length_replicate];lia
def Oe{CX:Hb}{K:Ah}{i:Str->Option Value}{j:Heap}{k:Nat}{f:Addr}{name c:Str}{O:Arguments}{body:List Stmt}{scope:Scope}{p kV F z a ct R:Value}{B T:Option Addr}
 {aa:Array (Option Value)} {N:List Str} {sp:Sp} (U:K.lookup f=some ⟨R,T,.func (PySem.W.fnOf name c O body scope p kV F z B a ct),aa⟩) (ab:PySem.W.codeIn K a c=true) (S:Ag N ps scope)
 (len:∀vs H Q E,sp vs H Q E->vs.length=ps.length)
 (af:∀(A:Around)(g:List Env)(s:Shared)(H:Hp)(vs:List V)(Q:VK)(E:XK),BX k (A.deeper (envOfC c scope s.heap.objs.size f a))->sp vs H Q E ->
  ∃t,F3 (AG CX P w K i j N c scope f a A g s H E) body t/\t {nx:=λζ H'=>Q .non H',rt:=Q} (start N vs) H) :
 Eg P w K i j CX (k+1) f (PySem.W.fnOf name c O body scope p kV F z B a ct) ps sp:=by
 refine⟨len,λA g s H ai W vs Q E l h hb r G=>?_⟩;have X:=len _ _ _ _ G;have C:K.In s.heap:=h.mod.kin.keeps λb o e=>(h.bs b o e).1;have ae:s.heap.NoLimit:=h.mod.nolimit.keeps λb o e=>(h.bs b o e).1
 have ag:∀y∈ps.zip W,scope.names.lookup y.1=some .local\/(scope.names.lookup y.1=some .cell/\((cellsFrom (s.heap.objs.size+1) scope.names []).lookup y.1).isSome=true):=λ⟨n,v⟩Y=>by
  rcases S.par n (List.of_mem_zip Y).1 with q|q;exact .inl q;exact .inr ⟨q,PySem.W.cellsFrom_some _ _ _ (.inl q)⟩
 refine codeAny_call_function l.depth (C _ _ U) rfl S.co S.gen rfl (PySem.W.codeRec_of C ab) (hb _ _ _ _ ?_);refine wpAny_newFunctionEnv_cells S.kind ag λah Z D x=>?_;subst Z;refine⟨ae.keeps x.toInCall.keep,codeAny_func ?_⟩;obtain⟨t,ht,hq⟩:=af A g s H vs Q E (l.deeper _) G;have I:Inv (AG CX P w K i j N c scope f a A g s H E) [] (start N vs) H D:=Ym S l.hd h X r x;refine Fy (ht [] D (start N vs) H _ I hq) (λfl L d=>?_) λe L d=>d
 have M:∀{σ':St}{H':Hp}{v:V}{u:Value},Inv (AG CX P w K i j N c scope f a A g s H E) [] σ' H' L->RelV v u->Q v H'->CE g P w H s Q u L:=
  λ{σ' H' v u}J m q=>⟨v,H',J.os,J.bare,J.base,J.hok,m,q⟩
 cases fl with
 |ret u =>
   obtain⟨v,σ',H',J,m,q⟩:=d;exact M J m q
 |next =>
   obtain⟨σ',H',J,q⟩:=d;exact M (v:=V.non) (u:=Value.none) J rfl q
 |brk =>
   obtain⟨_,_,_,q⟩:=d;exact False.elim q
 |cont =>
   obtain⟨_,_,_,q⟩:=d;exact False.elim q
section
variable {X:Cx} {x:Str} {p pos:Pos} {e:Expr} {es:List Expr} {t:TA} {id T:String} {r:List V->Hp->VK->Prop}
def P9 (r:List V->Hp->VK->Prop) (t:TA):TE:=λσ H Q=>t σ H λvs Y=>r vs Y Q
def CM(a:Bi X (.builtin id) r)(b:X.mg x=none)(c:PA X (e::es) t)(d:Gl X x:=by rfl)(hv:bootBuiltins x=some (.builtin id):=by decide +kernel)(f:x ≠ "__name__" :=by decide)(o:(x==("__debug__" : Str))=false:=by decide)
 (g:starEach (e::es) X.env=(false,eval e X.env)::starEach es X.env:=by rfl) (q:(backTo pos (starEach es X.env)).any (·.1)=false:=by rfl):PE X (.Call (.Name x p) (e::es) [] pos) (P9 r t):=by
 intro pins s σ H Q I h;refine wpAny_Call_Name_kw (Kg I d b hv ?_ f o);exact PyProof.Rows.callWith_builtin1 (AU (c pos pins s σ H _ I h) λi j⟨k,Y,l,m,n⟩=>a pins j σ Y k i Q l m n) g q
def IR(a:Bi X (.type T) r)(b:X.mg x=none)(c:PA X (e::es) t)(d:Gl X x:=by rfl)(hv:bootBuiltins x=some (.type T):=by decide +kernel)(f:x ≠ "__name__" :=by decide)(o:(x==("__debug__" : Str))=false:=by decide)
 (g:starEach (e::es) X.env=(false,eval e X.env)::starEach es X.env:=by rfl) (q:(backTo pos (starEach es X.env)).any (·.1)=false:=by rfl):PE X (.Call (.Name x p) (e::es) [] pos) (P9 r t):=by
 intro pins s σ H Q I h;refine wpAny_Call_Name_kw (Kg I d b hv ?_ f o);exact PyProof.Rows.callWith_type1 (AU (c pos pins s σ H _ I h) λi j⟨k,Y,l,m,n⟩=>a pins j σ Y k i Q l m n) g q
end
end L2
namespace HT
open PySem PyProof.Rows
section
open PySem.SeqAt
open PySem.AutoSeq1 (wpAny_loadPart')
open PySem.MeetsSeq PySem.MeetsSeq2 PySem.MeetsSeq3
end
section
variable {prog:Program} {w:World} {A:Around} {E:D'} {s:Shared}
def sIx (n d:Nat):Option Int->Nat
 |none=>d
 |some v=>if v<0 then(v+(n:Int)).toNat else min v.toNat n
def sIx_none(n d:Nat):sIx n d none=d:=rfl
def sIx_nat(n d k:Nat):sIx n d (some (k:Int))=min k n:=by
 show(if(k:Int)<0 then((k:Int)+(n:Int)).toNat else min (k:Int).toNat n)=min k n;rw[Aj (by lia),Bk]
end
end HT
namespace L2
open PySem PySem.Spec PyProof.Rows
abbrev TO:=St->Hp->(Option Int->Hp->Prop)->Prop
def PO (X:Cx) (e:Option Expr) (t:TO):Prop:=
 ∀(pins:B')(s:Shared)(σ:St)(H:Hp)(Q:Option Int->Hp->Prop),Inv X pins σ H s->t σ H Q ->
  wpAny (model X.prog X.w) X.A (evalPart e X.env) (λu L=>∃o H',Inv X pins σ H' L/\IsPart u o/\Q o H') X.xe s
def IS:TO:=λζ H Q=>Q none H
def Of (t:TE):TO:=λσ H Q=>t σ H λx Y=>∃i,x=.int i/\Q (some i) Y
def Vg{ns:List Int}:∀{us:List Value},At (ns.map V.int) us->IntsAre us ns:=by
 induction ns with
 |nil=>intro us r;rw[NQ] at r;cases r;exact .nil
 |cons n ns a =>
   intro us r;rw[Eu] at r
   cases r with
   |cons b c =>
     obtain⟨t,e⟩:=b;subst e;exact .cons n t (a c)
section
variable {X:Cx} {e:Expr} {te:TE} {lo hi:Option Expr} {tl th:TO} {pos J:Pos}
def Og:PO X none IS:=by
 intro a s σ H Q I h;rw[evalPart_none];exact Au ⟨none,H,I,.none,h⟩
def Oh(h:PE X e te):PO X (some e) (Of te):=by
 intro f s σ H Q I a;rw[evalPart_some];refine AU (h f s σ H _ I a) λu g⟨x,Y,b,c,d⟩=>?_;obtain⟨i,rfl,q⟩:=d;obtain⟨t,rfl⟩:=c;exact⟨some i,Y,b,.int i t,q⟩
def Sf (X:Cx) (r:V->Option Int->Option Int->Hp->VK->Prop):Prop:=
 ∀(pins:B')(s:Shared)(σ:St)(H:Hp)(x:V)(v vl vu:Value)(lo hi:Option Int)(sl:Addr)(Q:VK),Inv X pins σ H s->RelV x v->s.heap.IsSliceOf sl vl vu .none->IsPart vl lo->IsPart vu hi->r x lo hi H Q ->
  ∃T id,typeLookup (.type T) "__getitem__" = pure (some (.builtin id))/\s.TypeIs v T/\wpAny (model X.prog X.w) X.A (getItem v (.ref sl)) (EP X pins σ Q) X.xe s
def Yn (r:V->Option Int->Option Int->Hp->VK->Prop) (te:TE) (tl th:TO):TE:=λσ H Q=>te σ H λx Y=>tl σ Y λl H2=>th σ H2 λu H3=>r x l u H3 Q
def Oi{r:V->Option Int->Option Int->Hp->VK->Prop}(i:Sf X r)(j:PE X e te)(k:PO X lo tl)(m:PO X hi th):PE X (.Subscript e (.Slice lo hi none J) pos) (Yn r te tl th):=by
 intro c s σ H Q I h;refine Subscript_ (AU (j c s σ H _ I h) λv n⟨x,Y,o,p,t⟩=>?_);refine wpAny_Slice (AU (k c n σ Y _ o t) λd w⟨l,y,z,A,B⟩=>AU (m c w σ y _ z B) λf a⟨u,g,C,D,E⟩=>?_);rw[evalPart_none];refine Au ?_;have F:Inv X c σ g {a with heap:=a.heap.push {cls:=.type "slice",data:=.fields #[d,f,.none]}}:=C.kept (t':=a.toks) λb M q=>Ba _ q;obtain⟨T,id,G,K,L⟩:=i c {a with heap:=a.heap.push {cls:=.type "slice",data:=.fields #[d,f,.none]}} σ g x v d f l u a.heap.objs.size Q F p (Heap.IsSliceOf.new ..) A D E;show wpAny (model X.prog X.w) X.A (subscriptTail e (.Slice lo hi none J) v (.ref a.heap.objs.size)) (EP X c σ Q) X.xe {a with heap:=a.heap.push {cls:=.type "slice",data:=.fields #[d,f,.none]}};exact tail_any (ops:=[.ref a.heap.objs.size,v]) K G L (by with_unfolding_all rfl)
def FC (xs:List V) (lo hi:Option Int):List V:=(xs.drop (HT.sIx xs.length 0 lo)).take (HT.sIx xs.length xs.length hi-HT.sIx xs.length 0 lo)
def Yo(xs:List V)(lo hi:Option Int):(FC xs lo hi).length<=xs.length:=by
 unfold FC;rw[Fn,G2];lia
end
def GQ (n:Nat) (i:Int):Option Nat:=if 0<=i then(if i<n then some i.toNat else none) else if -(n:Int)<=i then some (i+n).toNat else none
def Bz {α:Type} (xs:List α) (i:Int):Option α:=(GQ xs.length i).bind λj=>xs[j]?
variable {n:Nat}
def Vh{i:Int}{j:Nat}(h:GQ n i=some j):seqIndex? i n=some j/\j<n/\-(n:Int)<=i/\i<n:=by
 unfold GQ at h;by_cases b:0<=i;rw[Ak b] at h;by_cases a:i<n;rw[Ak a] at h;have e:i.toNat=j:=Br h;exact⟨by rw[seqIndex_of b a,e],by lia,by lia,a⟩;rw[Aj a] at h;cases h;rw[Aj b] at h;by_cases a:-(n:Int)<=i;rw[Ak a] at h;have e:(i+n).toNat=j:=Br h;exact⟨by rw[seqIndex_neg (by lia) a,e],by lia,a,by lia⟩;rw[Aj a] at h;cases h
def Sg{α:Type}{xs:List α}{i:Int}{v:α}(h:Bz xs i=some v):∃j,seqIndex? i xs.length=some j/\xs[j]?=some v/\j<xs.length/\-(xs.length:Int)<=i/\i<xs.length:=by
 unfold Bz at h
 cases e:GQ xs.length i with
 |none=>rw[e] at h;cases h
 |some j =>
   rw[e] at h;obtain⟨a,b,c,d⟩:=Vh e;exact⟨j,a,h,b,c,d⟩
def B3{α:Type}{xs:List α}{j:Nat}{v:α}(h:xs[j]?=some v):Bz xs (j:Int)=some v:=by
 have a:j<xs.length:=(AN.mp h).1
 have e:GQ xs.length (j:Int)=some j:=by
  unfold GQ;rw[Ak (by lia),Ak (by lia)];simp
 unfold Bz;rw[e];exact h
def IT (b:Expr):Prop:=∀o i,subscripted b false o i=operate [o,i] (getItem o i)
def Io (X:Cx) (r:R2):Prop:=
 ∀(d slice:Expr)(pins:B')(s:Shared)(σ:St)(H:Hp)(x y:V)(v u:Value)(Q:VK),Inv X pins σ H s->RelV x v->RelV y u->r x y H Q ->
  subscripted slice false v u=operate [v,u] (getItem v u)->wpAny (model X.prog X.w) X.A (subscriptTail d slice v u) (EP X pins σ Q) X.xe s
def Km (X:Cx) (id:String) (r:V->List V->Hp->VK->Prop):Prop:=
 ∀(pins:B')(s:Shared)(σ:St)(H:Hp)(x:V)(xs:List V)(v:Value)(us:List Value)(Q:VK),Inv X pins σ H s->RelV x v->At xs us->r x xs H Q ->
  wpAny (model X.prog X.w) X.A (call (.builtin id) (v::us)) (EP X pins σ Q) X.xe s
section
variable {X:Cx} {a b:Expr} {ta tb:TE} {pos:Pos}
def Io.or{r a:R2}(h:Io X r)(h':Io X a):Io X (λx y H Q=>r x y H Q\/a x y H Q):=by
 intro d slice f s σ H x y v u Q I b c q e;rcases q with q|q;exact h d slice f s σ H x y v u Q I b c q e;exact h' d slice f s σ H x y v u Q I b c q e
def Av{r:R2}(c:Io X r)(d:PE X a ta)(hb:PE X b tb)(e:IT b:=by exact λζ ζ=>rfl):PE X (.Subscript a b pos) (DW r ta tb):=by
 intro l s σ H Q I h;exact Subscript_ (Ll d hb I h λv u f x y g i j k q=>c a b l f σ g x y v u Q i j k q (e _ _))
def Oj (K:Ah):R2:=λx y H Q=>mX x y λp xs i v=>Ae K H p xs/\Bz xs i=some v/\Q v H
def Ol (K:Ah):R2:=λx y H Q=>mX x y λp xs i v=>Ar K H p xs/\Bz xs i=some v/\Q v H
def Om:R2:=λx y H Q=>∃z i c,x=.str z/\y=.int i/\z.length<=sizeLine/\Bz z.cps.toList i=some c/\Q (.str ⟨#[c]⟩) H
def IU:Io X (Oj X.K):=by
 intro d slice l s σ H x y v u Q I m n h e
 replace h:=mX.ex h
 obtain⟨p,J,i,z,rfl,rfl,o,A,q⟩:=h;cases m;obtain⟨t,rfl⟩:=n;obtain⟨F,r,b,K⟩:=I.list o;obtain⟨j,a,B,M,C,D⟩:=Sg A;obtain⟨w,f,G⟩:=r.get B;have E:=r.length;have N:=Lr;have k:EP X l σ Q w s:=⟨z,H,I,G,q⟩;by_cases g:0<=i
 have c:i.toNat=j:=by
  rw[seqIndex_of g D] at a;exact Br a
 exact item_listR b.isList g (by lia) (by rw[c];simpa using f) k e
 have c:(i+(F.toArray.size:Int)).toNat=j:=by
  rw[seqIndex_neg (by lia) C] at a;rw[Cf,<-E];exact Br a
 exact subscriptTail_builtinR (x:=w) b.isList.typeIs slot_list_getitem.lookup
  (wpAny_getItem_list_neg (Q:=λr L=>r=w/\EP X l σ Q r L) b.isList (by lia) (by rw[Cf]<;>lia) (by lia) (by rw[c];simpa using f) ⟨rfl,k⟩) e
def Lw:Io X (Ol X.K):=by
 intro d slice b s σ H x y v u Q I c e h f
 replace h:=mX.ex h
 obtain⟨p,C,i,z,rfl,rfl,g,k,q⟩:=h;cases c;obtain⟨t,rfl⟩:=e;obtain⟨K,r,a,D⟩:=I.tuple g;obtain⟨j,l,m,E,F,G⟩:=Sg k;obtain⟨w,n,A⟩:=r.get m;have o:=r.length;have J:=Lr;have B:EP X b σ Q w s:=⟨z,H,I,A,q⟩
 exact subscriptTail_builtinR (x:=w) a.typeIs slot_tuple_getitem.lookup
  (getItem_tuple (j:=j) (Q:=λr L=>r=w/\EP X b σ Q r L) a (by lia) (by lia) (by rw[Cf,<-o];exact l) (by simpa using n) ⟨rfl,B⟩) f
def Lx:Io X Om:=by
 intro d slice C s σ H x y v u Q I b e h f;obtain⟨z,i,c,rfl,rfl,r,g,q⟩:=h;obtain⟨t,rfl⟩:=b;obtain⟨w,rfl⟩:=e;obtain⟨j,a,k,A,l,m⟩:=Sg g;have n:z.cps.toList.length=z.length:=(by simp[Str.length]);rw[n] at a l m;have B:=Lr
 exact tail_any (typeIs_str s z t) slot_str_getitem.lookup (getItem_str (c:=c) (by
  have o:decide (i < -(2 ^ 63:Int))=false:=Dw (by lia);have p:decide (i ≥ 2 ^ 63)=false:=Dw (by lia)
  rw[o,p,Bool.or_false]) (by rw[a];simpa using k) ⟨.str ⟨#[c]⟩,H,I.tok _,⟨_,rfl⟩,q⟩) f
def FR (K:Ah):R2:=λx y H Q=>Oj K x y H Q\/Ol K x y H Q\/Om x y H Q
def Aw:Io X (FR X.K):=IU.or (Lw.or Lx)
def Yp(a:List Value)(n j:Nat)(u:Value):Obj.mapSeq (·.setIfInBounds j u) {cls:=.type "list",data:=.seq a.toArray n}={cls:=.type "list",data:=.seq (a.set j u).toArray n}:=by
 simp[Obj.mapSeq]
def Inv.lst{pins:B'}{σ:St}{H:Hp}{s:Shared}{p:Addr}{xs:List V}(I:Inv X pins σ H s)(h:H p=some (.lst xs)) :
 ∃(a:List Value)(n:Nat),At xs a/\s.heap.get? p=some {cls:=.type "list",data:=.seq a.toArray n}/\xs.length<=sizeLine:=by
 obtain⟨z,a,n,r,e⟩:=I.hok p _ h;exact⟨a,n,r,e,z⟩
variable {s:Shared}
def Inv.lstUpd{pins:B'}{σ:St}{H:Hp}{p:Addr}{xs ys:List V}{d its':List Value}{a:Nat}{f:Obj->Obj}(I:Inv X pins σ H s)(h:H p=some (.lst xs))
 (g:s.heap.get? p=some {cls:=.type "list",data:=.seq d.toArray n}) (c:f {cls:=.type "list",data:=.seq d.toArray n}={cls:=.type "list",data:=.seq its'.toArray a}) (r:At ys its') (hz:ys.length<=sizeLine) (t:Nat) :
 Inv X pins σ (upd H p (.lst ys)) {s with heap:=s.heap.update p f,toks:=t}:=by
 have e:(s.heap.update p f).get? p=some {cls:=.type "list",data:=.seq its'.toArray a}:=by
  rw[Heap.get?_update_self f g (by rw[c]<;>rfl),c]
 refine I.write (x:=p) (e:=p) (by rw[h];trivial) (.inl rfl) (λb u hb q=>(Heap.get?_update_other _ _ (Ne.symm hb)).trans q) ⟨_,e⟩ ?_;exact⟨hz,its',a,r,e⟩
def Oo:V->V->V->Hp->(Hp->Prop)->Prop:=λo i v H Q=>∃p xs k j,o=.ref p/\i=.int k/\H p=some (.lst xs)/\GQ xs.length k=some j/\Q (upd H p (.lst (xs.set j v)))
def Sh:II X Oo:=by
 intro D s σ H o i v E F u Q I x y z h;obtain⟨p,A,k,j,rfl,rfl,e,B,q⟩:=h;cases x;obtain⟨t,rfl⟩:=y;obtain⟨w,n,r,b,C⟩:=I.lst e;obtain⟨a,G,f,g⟩:=Vh B;have c:=r.length;have J:=Lr
 have l:Inv X D σ (upd H p (.lst (A.set j v))) {s with heap:=s.heap.update p (Obj.mapSeq (·.setIfInBounds j u))}:=
  I.lstUpd e b (Yp w n j u) (r.set z j) (by rw[G1];exact C) s.toks
 by_cases m:0<=k
 have d:k.toNat=j:=by
  rw[seqIndex_of m g] at a;exact Br a
 exact PySem.W.ki_setAt b m (by lia) (by rw[Cf,<-c];exact g) (by rw[d];exact⟨_,l,q⟩)
 have d:(k+(w.toArray.size:Int)).toNat=j:=by
  rw[seqIndex_neg (by lia) f] at a;rw[Cf,<-c];exact Br a
 exact PySem.W.ki_setBack b (by lia) (by rw[Cf,<-c];exact f) (by lia) (by rw[d];exact⟨_,l,q⟩)
def Yq(lo a:Option Int)(n:Nat):(sliceBounds lo a none n).1=((HT.sIx n 0 lo:Nat):Int)/\(sliceBounds lo a none n).2.1=((HT.sIx n n a:Nat):Int)/\(sliceBounds lo a none n).2.2=1:=by
 refine⟨?_,?_,rfl⟩
 cases lo with
 |none=>simp[sliceBounds,HT.sIx]
 |some i =>
   simp only[sliceBounds,HT.sIx,Option.getD_none,show(1:Int) > 0 by decide,if_true];by_cases h:i<0;simp only[h,if_true]<;>lia;simp only[h,if_false]<;>lia
 cases a with
 |none=>simp[sliceBounds,HT.sIx]
 |some i =>
   simp only[sliceBounds,HT.sIx,Option.getD_none,show(1:Int) > 0 by decide,if_true];by_cases h:i<0;simp only[h,if_true]<;>lia;simp only[h,if_false]<;>lia
def Yr(a:List Value)(lo b:Option Int):slicePick a.toArray lo b none=((a.drop (HT.sIx a.length 0 lo)).take (HT.sIx a.length a.length b-HT.sIx a.length 0 lo)).toArray:=by
 obtain⟨c,d,e⟩:=Yq lo b a.toArray.size;unfold slicePick;rw[c,d,e];simp only[sliceRange_one,pick_run,Cf]<;>rfl
def Si (K:Ah):V->Option Int->Option Int->Hp->VK->Prop:=λx lo hi H Q=>∃a xs,x=.ref a/\Ae K H a xs/\∀p,H p=none->Q (.ref p) (upd H p (.lst (FC xs lo hi)))
def Op:Sf X (Si X.K):=by
 intro z s σ H x v p t d e u Q I g i j k h;obtain⟨a,c,rfl,l,q⟩:=h;cases g;obtain⟨y,r,f,m⟩:=I.list l;have n:=r.length;refine⟨"list",_,slot_list_getitem.lookup,f.isList.typeIs,?_⟩;refine wpAny_getItem_list_slice f.isList i j k .none (by simp) ?_ (by rw[Cf]<;>lia);rw[Yr,<-n];refine⟨.ref s.heap.objs.size,_,I.laid (t':=s.toks) (o:=.lst (FC c d e)) (λb w q=>Ba _ q) (AE _) ?_,rfl,q _ (I.hok.fresh (AE _))⟩;exact⟨E8 (Yo c d e) m,_,0,(r.drop (HT.sIx c.length 0 d)).take (HT.sIx c.length c.length e-HT.sIx c.length 0 d),B9 _ rfl⟩
def IV:V->Bool
 |.non=>true
 |.bl _=>true
 |.int _=>true
 |.str _=>true
 |_=>false
def IW:V->V->Bool
 |.non,.non=>true
 |.bl a,.bl b=>a==b
 |.bl a,.int b=>(if a then 1 else 0)==b
 |.int a,.bl b=>a==(if b then 1 else 0)
 |.int a,.int b=>a==b
 |.str a,.str b=>a==b
 |_,_=>false
variable {x:V}
def Ly{A:Around}{y:V}{u v:Value}(e:RelV y u)(c:RelV x v)(g:IV y=true)(f:IV x=true):SeqAt.EqAt A s u v (IW y x):=by
 cases y with
 |non =>
   cases e
   cases x with
   |non=>cases c;exact SeqAt.EqAt.same _
   |bl b=>cases c;exact SeqAt.EqAt.none_bool b
   |int b=>obtain⟨t,rfl⟩:=c;exact SeqAt.EqAt.none_int b t
   |str b=>obtain⟨t,rfl⟩:=c;exact SeqAt.EqAt.none_str b t
   |_=>exact absurd (show false=true from f) CB
 |bl a =>
   cases e
   cases x with
   |non=>cases c;exact SeqAt.EqAt.bool_none a
   |bl b=>cases c;exact SeqAt.EqAt.bool_bool a b
   |int b=>obtain⟨t,rfl⟩:=c;exact SeqAt.EqAt.bool_int a b t
   |str b=>obtain⟨t,rfl⟩:=c;exact SeqAt.EqAt.bool_str a b t
   |_=>exact absurd (show false=true from f) CB
 |int a =>
   obtain⟨d,rfl⟩:=e
   cases x with
   |non=>cases c;exact SeqAt.EqAt.int_none a d
   |bl b=>cases c;exact SeqAt.EqAt.int_bool a d b
   |int b=>obtain⟨t,rfl⟩:=c;exact SeqAt.EqAt.int_int a d b t
   |str b=>obtain⟨t,rfl⟩:=c;exact SeqAt.EqAt.int_str a d b t
   |_=>exact absurd (show false=true from f) CB
 |str a =>
   obtain⟨d,rfl⟩:=e
   cases x with
   |non=>cases c;exact SeqAt.EqAt.str_none a d
   |bl b=>cases c;exact SeqAt.EqAt.str_bool a d b
   |int b=>obtain⟨t,rfl⟩:=c;exact SeqAt.EqAt.str_int a d b t
   |str b=>obtain⟨t,rfl⟩:=c;exact SeqAt.EqAt.str_str a d b t
   |_=>exact absurd (show false=true from f) CB
 |_=>exact absurd (show false=true from g) CB
def IX (x:V) (u:Value):Bool:=match u with
 |.none=>IW .non x
 |.bool b=>IW (.bl b) x
 |.int i _=>IW (.int i) x
 |.str z _=>IW (.str z) x
 |_=>false
def Hd{y:V}{u:Value}(r:RelV y u)(f:IV y=true):IX x u=IW y x:=by
 cases y with
 |non=>cases r;rfl
 |bl b=>cases r;rfl
 |int i=>obtain⟨t,rfl⟩:=r;rfl
 |str z=>obtain⟨t,rfl⟩:=r;rfl
 |_=>exact absurd (show false=true from f) CB
theorem Sj{x:V}:∀{xs:List V}{us:List Value},At xs us->xs.all IV=true->us.any (IX x)=xs.any λy=>IW y x
 |_,_,.nil,_=>rfl
 |y::xs,u::us,.cons r t,f=>by
   rw[List.all_cons,Bool.and_eq_true] at f;rw[List.any_cons,List.any_cons,Hd r f.1,Sj t f.2]
theorem Sk{A:Around}{s:Shared}{x:V}{v:Value}(b:RelV x v)(c:IV x=true):∀{xs:List V}{us:List Value},At xs us->xs.all IV=true->∀u∈us,SeqAt.EqAt A s u v (IX x u)
 |_,_,.nil,_=>λu a=>by cases a
 |y::xs,u::us,.cons r t,f=>λd a=>by
   rw[List.all_cons,Bool.and_eq_true] at f;rcases BV.mp a with rfl|a;rw[Hd r f.1];exact Ly r b f.1 c;exact Sk b c t f.2 d a
def Oq (x:V) (xs:List V):Bool:=xs.any λy=>IW y x
def Vi (K:Ah) (neg:Bool):R2:=λx y H Q=>∃p xs,y=.ref p/\(Ae K H p xs\/Ar K H p xs)/\IV x=true/\xs.all IV=true/\Q (.bl (if neg then !Oq x xs else Oq x xs)) H
def Vj:DF X (compareOp .In) (Vi X.K false):=by
 intro k s σ H x y v u Q I e g h;obtain⟨p,j,rfl,a,f,fs,q⟩:=h;cases g;rcases a with a|a;obtain⟨b,r,c,i⟩:=I.list a;refine SeqAt.in_listAt (IX x) c.isList (λw d=>Sk e f r fs w (by simpa using d)) ⟨.bl _,H,I,rfl,?_⟩;rw[show b.toArray.any (IX x)=b.any (IX x) by simp,Sj r fs];exact q;obtain⟨b,r,c,i⟩:=I.tuple a;refine SeqAt.in_tupleAt (IX x) c (λw d=>Sk e f r fs w (by simpa using d)) ⟨.bl _,H,I,rfl,?_⟩;rw[show b.toArray.any (IX x)=b.any (IX x) by simp,Sj r fs];exact q
def Vk:Bi X (.type "list") (λxs H Q=>∃p ys,xs=[.ref p]/\(Ae X.K H p ys\/Ar X.K H p ys)/\∀l,H l=none->Q (.ref l) (upd H l (.lst ys))):=by
 intro y s σ H xs A Q I r h;obtain⟨p,ys,rfl,g,q⟩:=h;obtain⟨u,rfl,x⟩:=FP r;cases x
 have w:∀(c:List Value),At ys c->ys.length<=sizeLine->∀(a:Heap)(d:Nat),(∀b v,s.heap.get? b=some v->a.get? b=some v) ->
  a.get? s.heap.objs.size=some {cls:=.type "list",dict:=none,data:=.seq c.toArray d,slots:=#[]}->EP X y σ Q (.ref s.heap.objs.size) {s with heap:=a}:=λc f i a d j e =>
  ⟨.ref s.heap.objs.size,_,I.laid (t':=s.toks) j (AE _) (show AB X.prog X.w _ a _ (.lst ys) from⟨i,c,d,f,e⟩),rfl,q _ (I.hok.fresh (AE _))⟩
 rcases g with g|g;obtain⟨c,f,k,i⟩:=I.list g;have z:=f.length;obtain⟨o,m,t,n,hd⟩:=k.isList;exact call_list_seq p (.inl rfl) m t hd (λa d j e=>w c f i a d j e) (by simp only[Cf]<;>lia);obtain⟨c,f,k,i⟩:=I.tuple g;have z:=f.length;obtain⟨o,m,t,n,hd⟩:=k;exact call_list_seq p (.inr rfl) m t hd (λa d j e=>w c f i a d j e) (by simp only[Cf]<;>lia)
def Sl (K:Ah) (T:String) (x:V) (H:Hp):Prop:=match x with
 |.str _=>T = "str"
 |.int _=>T = "int"
 |.ref p=>(T = "list" /\ ∃xs,Ae K H p xs)\/(T = "tuple" /\ ∃o,K.lookup p=some o/\o.cls=.type "tuple" /\ o.dict=none) \/
  (T = "dict" /\ ((∃kvs,H p=some (.dK kvs))\/∃kvs,H p=some (.dT kvs)))\/(T = "set" /\ ∃S n,H p=some (.set S n))
 |_=>False
def He{pins:List (Addr × Obj)}{σ:St}{H:Hp}{T:String}{v:Value}(I:Inv X pins σ H s)(r:RelV x v)(ty:Sl X.K T x H) :
 s.TypeIs v T/\∀a,v=.ref a->∃ob,s.heap.get? a=some ob/\ob.dict=none:=by
 cases x with
 |str z =>
   obtain⟨t,rfl⟩:=r
   cases(show T = "str" from ty)
   exact⟨typeIs_str s z t,λζ e=>nomatch e⟩
 |int i =>
   obtain⟨t,rfl⟩:=r
   cases(show T = "int" from ty)
   exact⟨typeIs_int s i t,λζ e=>nomatch e⟩
 |ref p =>
   cases r;rcases ty with⟨rfl,k,g⟩|⟨rfl,o,b,h,hd⟩|⟨rfl,b⟩|⟨rfl,S,n,b⟩;obtain⟨l,_,f,_⟩:=I.list g;refine⟨f.isList.typeIs,λa e=>?_⟩;cases e;obtain⟨o,n,e,c,hd,_⟩:=f;exact⟨o,e,hd⟩;refine⟨⟨o,I.kIn p o b,h⟩,λa e=>?_⟩;cases e;exact⟨o,I.kIn _ o b,hd⟩
   have z:∃o,s.heap.get? p=some o/\o.ExactDict:=by
    rcases b with⟨j,b⟩|⟨j,b⟩;obtain⟨_,_,_,_,o,_,_,e,ex,_⟩:=I.hok p _ b;exact⟨o,e,ex⟩;obtain⟨_,_,_,_,o,_,_,e,ex,_⟩:=I.hok p _ b;exact⟨o,e,ex⟩
   obtain⟨o,e,ex⟩:=z;refine⟨⟨o,e,ex.1⟩,λa d=>?_⟩;cases d;exact⟨o,e,ex.2.1⟩;obtain⟨o,_,_,_,e,ex,_⟩:=I.hok p _ b;refine⟨⟨o,e,ex.1⟩,λa d=>?_⟩;cases d;exact⟨o,e,ex.2.1⟩
 |_=>exact False.elim ty
def Sm (K:Ah) (T:String) (r:V->List V->Hp->VK->Prop) (c:TE):TE:=λσ H Q=>c σ H λx Y=>Sl K T x Y/\r x [] Y Q
def Ys (K:Ah) (T:String) (r:V->List V->Hp->VK->Prop) (c:TE) (t:TA):TE:=λσ H Q=>c σ H λx Y=>Sl K T x Y/\t σ Y λxs H2=>r x xs H2 Q
variable {o e:Expr} {es:List Expr} {c:TE} {t:TA} {name:Str} {apos cpos:Pos} {T id:String} {r:V->List V->Hp->VK->Prop}
def Hf(e:PlainAttrs T)(n:Slot T name id)(m:typeOf (.builtin id)=pure (.type "method_descriptor"))(f:Km X id r)(g:PE X o c)
 (p:attributeBase o name X.env (eval o X.env)=eval o X.env:=by rfl) (q:(apos.endLine==cpos.line)=true:=by rfl):PE X (.Call (.Attribute o name apos) [] [] cpos) (Sm X.K T r c):=by
 intro d s σ H Q I h;refine wpAny_Call_method0_late p q (AU (g d s σ H _ I h) λv i⟨x,Y,a,b,ty,j⟩=>?_);obtain⟨k,l⟩:=He a b ty;exact⟨T,id,e,n,m,k,l,Calls.callWith_builtin rfl (PySem.evalArgs_none (f d i σ Y x [] v [] Q a b .nil j))⟩
def DG(g:PlainAttrs T)(E:Slot T name id)(D:typeOf (.builtin id)=pure (.type "method_descriptor"))(i:Km X id r)(j:PE X o c)(k:PA X (e::es) t)
 (G:attributeBase o name X.env (eval o X.env)=eval o X.env:=by rfl)
 (F:((backTo cpos (starEach (e::es) X.env)).all (λx=>!x.1) && (backToKw cpos (keywordEach [] X.env)).all (λx=>x.1.isSome)
  && decide ((e::es).length+([]:List Keyword).length+(if([]:List Keyword).isEmpty then 0 else 1)<30))=true:=by rfl)
 (J:(apos.endLine==cpos.line)=true:=by rfl) (l:starEach (e::es) X.env=(false,eval e X.env)::starEach es X.env:=by rfl) (K:(backTo cpos (starEach es X.env)).any (·.1)=false:=by rfl) :
 PE X (.Call (.Attribute o name apos) (e::es) [] cpos) (Ys X.K T r c t):=by
 intro a s σ H Q I h;refine wpAny_Call_method_late G F J rfl (AU (j a s σ H _ I h) λv m⟨x,Y,b,d,ty,n⟩=>?_);obtain⟨p,q⟩:=He b d ty;refine⟨T,id,g,E,D,p,q,?_⟩;have f:=k cpos a m σ Y _ b n;rw[l] at f ⊢;refine Calls.callWith_builtin (by show(false || (backTo cpos (starEach es X.env)).any (·.1))=false;rw[K]<;>rfl) (Calls.evalArgs_plain ?_);exact AU f λu w⟨y,z,A,B,C⟩=>i a w σ z x y v u Q A d B C
end
def So (X:Cx) (id:String) (r:V->List V->Hp->VK->Prop):Prop:=
 ∀(pins:B')(s:Shared)(σ:St)(H:Hp)(x:V)(xs:List V)(v:Value)(us:List Value)(Q:VK),Inv X pins σ H s->RelV x v->At xs us->r x xs H Q ->
  wpAny (model X.prog X.w) X.A (call (.builtin id) (v::us)) (EP X pins σ Q) X.xe s
theorem At.one:∀{x:V}{us:List Value},At [x] us->∃u,us=[u]/\RelV x u
 |_,_,.cons r .nil=>⟨_,rfl,r⟩
theorem At.zero:∀{us:List Value},At [] us->us=[]
 |_,.nil=>rfl
section
variable {X:Cx} {pins:B'} {σ:St} {H:Hp} {s:Shared} {l b:Addr} {xs ys zs:List V}
def Inv.lset{a its':List Value}{f:Array Value->Array Value}{t':Nat}(I:Inv X pins σ H s)(b:H l=some (.lst xs))
 (e:s.heap.get? l=some {cls:=.type "list",data:=.seq a.toArray n}) (c:f a.toArray=its'.toArray) (hv:At ys its') (hz:ys.length<=sizeLine) :
 Inv X pins σ (upd H l (.lst ys)) {s with heap:=s.heap.update l (Obj.mapSeq f),toks:=t'}:=by
 have q:=PySem.IsL.update e f;rw[c] at q;refine I.write (x:=l) (e:=l) (by rw[b];exact trivial) (.inl rfl) (λg u hb d=>(Heap.get?_update_other s.heap (Obj.mapSeq f) (Ne.symm hb)).trans d) ⟨_,q⟩ ?_;exact⟨hz,its',_,hv,q⟩
def Inv.lnew{a:List Value}{t':Nat}(I:Inv X pins σ H s)(hv:At ys a)(hz:ys.length<=sizeLine) :
 Inv X pins σ (upd H s.heap.objs.size (.lst ys)) {s with heap:=s.heap.push {cls:=.type "list",data:=.seq a.toArray},toks:=t'}:=
 I.laid (λζ ζ q=>Ba _ q) (AE _) ⟨hz,a,0,hv,B9 _ rfl⟩
def Inv.fresh(I:Inv X pins σ H s):H s.heap.objs.size=none:=I.hok.fresh (AE _)
def Inv.lstM(I:Inv X pins σ H s)(b:H l=some (.lst xs)):xs.length<=sizeLine/\∃(a:List Value)(n:Nat),At xs a/\xs.length=a.length/\s.heap.get? l=some {cls:=.type "list",data:=.seq a.toArray n}:=by
 obtain⟨z,a,n,r,e⟩:=I.hok l _ b;exact⟨z,a,n,r,r.length,e⟩
def Yt(h:n<=sizeLine):Builtin.List.listTooLong n=false:=by
 unfold Builtin.List.listTooLong;exact Dw (by lia)
end
section
variable {X:Cx}
def Vl:V->List V->Hp->VK->Prop:=λx vs H Q=>mA x vs λl xs y=>H l=some (.lst xs)/\xs.length<sizeLine/\Q .non (upd H l (.lst (xs++[y])))
theorem Vm:So X "list.append" Vl:=by
 intro o s σ H x g v i Q I c d h
 replace h:=mA.ex h
 obtain⟨l,j,y,rfl,rfl,a,k,q⟩:=h;cases c;obtain⟨u,rfl,f⟩:=d.one;obtain⟨z,b,n,r,m,e⟩:=I.lstM a;refine call_meets F.slot_list_append ⟨_,e,rfl⟩ F.entry_list_append (F.args_list_append_2 _ _) (PySem.list_append l b.toArray n u (by rw[Cf];lia)) ⟨e,?_⟩;refine⟨.non,_,I.lset (its':=b++[u]) a e (by simp) (r.append (.cons f .nil)) ?_,rfl,q⟩;rw[AZ,DS];lia
def Vn:V->List V->Hp->VK->Prop:=λx vs H Q=>∃l b xs zs,x=.ref l/\vs=[.ref b]/\H l=some (.lst xs)/\H b=some (.lst zs)/\xs.length+zs.length<=sizeLine/\Q .non (upd H l (.lst (xs++zs)))
theorem Yu:So X "list.extend" Vn:=by
 intro J s σ H x w v y Q I f g h;obtain⟨l,b,A,B,rfl,rfl,d,i,C,q⟩:=h;cases f;obtain⟨u,rfl,j⟩:=g.one;cases j;obtain⟨z,a,n,r,D,e⟩:=I.lstM d;obtain⟨E,c,k,m,G,o⟩:=I.lstM i;have p:a.toArray.size+c.toArray.size<=sizeLine:=by rw[Cf,Cf];lia
 have t:¬(!a.toArray.isEmpty && Builtin.List.listTooLong (a.toArray.size+c.toArray.size))=true:=by
  rw[Yt p,Bool.and_false];exact CB
 refine call_meets F.slot_list_extend ⟨_,e,rfl⟩ F.entry_list_extend (F.args_list_extend_2 _ _)
  (AutoSeq1.list_extend_list_list_0 l a.toArray n b c.toArray k t (by rw[Cf];lia) (by lia)) ⟨e,o,?_⟩
 refine⟨.non,_,I.lset (its':=a++c) d e (by simp) (r.append m) ?_,rfl,q⟩;rw[AZ];lia
def Hg:V->List V->Hp->VK->Prop:=λx vs H Q=>∃l xs,x=.ref l/\vs=[]/\H l=some (.lst xs)/\Q .non (upd H l (.lst []))
theorem Yv:So X "list.clear" Hg:=by
 intro m s σ H x g v i Q I b c h;obtain⟨l,j,rfl,rfl,a,q⟩:=h;cases b;have d:=c.zero;subst d;obtain⟨z,f,n,r,k,e⟩:=I.lstM a;refine call_meets F.slot_list_clear ⟨_,e,rfl⟩ F.entry_list_clear (F.args_list_clear_1 _) (AutoSeq1.list_clear_list_0 l f.toArray n (by rw[Cf];lia)) ⟨e,?_⟩;exact⟨.non,_,I.lset (its':=[]) (ys:=[]) a e rfl .nil (C7 _),rfl,q⟩
def Sq:R2:=λx y H Q=>∃l b xs zs,x=.ref l/\y=.ref b/\H l=some (.lst xs)/\H b=some (.lst zs)/\xs.length+zs.length<=sizeLine/\∀p,H p=none->Q (.ref p) (upd H p (.lst (xs++zs)))
def Nf:DF X (binaryOp .Add) Sq:=by
 intro D s σ H x y v u Q I d f h;obtain⟨l,b,o,p,rfl,rfl,g,i,t,q⟩:=h;cases d;cases f;obtain⟨z,a,n,r,w,e⟩:=I.lstM g;obtain⟨A,c,B,j,C,k⟩:=I.lstM i;refine PySem.P.add_list e k ?_ (by rw[Cf,Cf];lia);have m:a.toArray++c.toArray=(a++c).toArray:=(by simp);rw[m];exact⟨.ref _,_,I.lnew (t':=s.toks) (r.append j) (by rw[AZ];lia),rfl,q _ I.fresh⟩
end
section
variable {prog:Program} {w:World} {A:Around} {E:D'} {s:Shared}
end
section
variable {X:Cx}
end
section
variable {κ:Type} [DecidableEq κ]
def AH (kvs:List (κ×V)) (k:κ):Option V:=(kvs.find? λkv=>decide (kv.1=k)).map (·.2)
def AV (kvs:List (κ×V)) (k:κ) (v:V):List (κ×V):=
 if(kvs.any λkv=>decide (kv.1=k))=true then kvs.map (λkv=>if kv.1=k then(kv.1,v) else kv) else kvs++[(k,v)]
def GR{p:κ×V}{r:List (κ×V)}{k:κ}(e:p.1=k):AH (p::r) k=some p.2:=by simp[AH,MZ,e]
def GS{p:κ×V}{r:List (κ×V)}{k:κ}(e:¬p.1=k):AH (p::r) k=AH r k:=by simp[AH,MZ,e]
theorem Ot(k:κ):∀a:List (κ×V),(a.any λb=>decide (b.1=k))=(AH a k).isSome
 |[]=>rfl
 |p::r=>by
   rw[List.any_cons];by_cases e:p.1=k;simp only[GR e,By e,Bool.true_or,Option.isSome_some];rw[GS e,Dw e,Bool.false_or];exact Ot k r
theorem Vo(k j:κ)(y:V):∀c:List (κ×V),AH (c.map λa=>if a.1=k then(a.1,y) else a) j=(AH c j).map λx=>if j=k then y else x
 |[]=>rfl
 |p::r=>by
   have b:=Vo k j y r;rw[Eu];by_cases h:p.1=k;rw[Ak h];by_cases e:p.1=j;rw[GR (p:=(p.1,y)) e,GR e,Option.map_some,Ak (e.symm.trans h)];rw[GS (p:=(p.1,y)) e,GS e,b];rw[Aj h];by_cases e:p.1=j;rw[GR (p:=p) e,GR e,Option.map_some,Aj (λz=>h (e.trans z))];rw[GS (p:=p) e,GS e,b]
theorem Vp(k j:κ)(y:V):∀b:List (κ×V),AH b k=none->AH (b++[(k,y)]) j=if j=k then some y else AH b j
 |[],_=>by
   by_cases e:k=j;rw[Ak e.symm];exact GR (p:=(k,y)) e;rw[Aj (λz=>e z.symm)];exact GS (p:=(k,y)) e
 |p::r,a=>by
   rw[List.cons_append];have c:¬p.1=k:=λz=>by rw[GR z] at a;cases a
   rw[GS c] at a;have d:=Vp k j y r a;by_cases e:p.1=j;rw[GR e,GR e,Aj (λz=>c (e.trans z))];rw[GS e,GS e,d]
def Ou(b:List (κ×V))(k j:κ)(y:V):AH (AV b k y) j=if j=k then some y else AH b j:=by
 unfold AV;by_cases a:(b.any λc=>decide (c.1=k))=true;rw[Ak a,Vo];rw[Ot] at a;by_cases e:j=k;obtain⟨x,d⟩:=Option.isSome_iff_exists.mp a;rw[Ak e,e,d,Option.map_some,Ak rfl];rw[Aj e]
 cases AH b j with
 |none=>rfl
 |some x=>rw[Option.map_some,Aj e]
 rw[Aj a];refine Vp k j y b ?_;rw[Ot] at a
 cases q:AH b k with
 |none=>rfl
 |some x=>rw[q] at a;exact(a rfl).elim
def Ov(a:List (κ×V))(k:κ)(v:V):(AV a k v).length<=a.length+1:=by
 unfold AV;split;rw[Al];lia;rw[AZ,Ew,GO];lia
def DV.isSome_eq{o:Option V}{u:Option Value}(r:DV o u):o.isSome=u.isSome:=by
 cases o with
 |none=>cases u with
   |none=>rfl
   |some _=>exact(show False from r).elim
 |some _=>cases u with
   |none=>exact(show False from r).elim
   |some _=>rfl
def DV.getD{o:Option V}{u:Option Value}{d:V}{d':Value}(r:DV o u)(a:RelV d d'):RelV (o.getD d) (u.getD d'):=by
 cases o with
 |none=>cases u with
   |none=>exact a
   |some _=>exact(show False from r).elim
 |some _=>cases u with
   |none=>exact(show False from r).elim
   |some _=>exact r
variable {kvs:List (κ×V)}{vs:List (κ×Value)}
def KV.val(r:KV kvs vs)(k:κ):DV (AH kvs k) (valueAt vs k):=by
 unfold KV at r
 induction r with
 |nil=>exact True.intro
 |@cons p q i a h t f =>
   obtain⟨d,g⟩:=h;by_cases e:p.1=k;have c:q.1=k:=d.symm.trans e;have b:valueAt (q::a) k=some q.2:=(by simp[valueAt,MZ,c]);rw[GR e,b];exact g;have c:¬q.1=k:=λz=>e (d.trans z);have b:valueAt (q::a) k=valueAt a k:=(by simp[valueAt,MZ,c]);rw[GS e,b];exact f
def KV.any{kvs:List (κ×V)}{vs:List (κ×Value)}(r:KV kvs vs)(k:κ):(kvs.any λa=>decide (a.1=k))=vs.any λa=>decide (a.1=k):=by
 unfold KV at r
 induction r with
 |nil=>rfl
 |cons h t b=>rw[List.any_cons,List.any_cons,b,h.1]
def KV.repl(r:KV kvs vs)(k:κ){y:V}{u:Value}(c:RelV y u) :
 KV (kvs.map λa=>if a.1=k then(a.1,y) else a) (vs.map λa=>if a.1=k then(a.1,u) else a):=by
 unfold KV at r ⊢
 induction r with
 |nil=>exact .nil
 |@cons p q g i h t d =>
   rw[Eu,Eu];refine .cons ?_ d;obtain⟨b,f⟩:=h;by_cases e:p.1=k;rw[Ak e,Ak (b.symm.trans e)];exact⟨b,c⟩;rw[Aj e,Aj (λz=>e (b.trans z))];exact⟨b,f⟩
def KV.put(r:KV kvs vs)(k:κ){y:V}{u:Value}(a:RelV y u):KV (AV kvs k y) (stored vs k u):=by
 unfold AV stored;rw[r.any k];by_cases e:(vs.any λb=>decide (b.1=k))=true;rw[Ak e,Ak e];exact r.repl k a;rw[Aj e,Aj e];exact Paired.snoc r ⟨rfl,a⟩
def KV.length{kvs:List (κ×V)}{vs:List (κ×Value)}(r:KV kvs vs):kvs.length=vs.length:=Paired.length r
end
variable {P:Program}{w:World}{u:Value}
def Ng{k:AJ}(r:RelV (kV k) u):(EC P w).is k u=true:=by
 cases k with
 |inl i=>obtain⟨t,e⟩:=(show ∃t,u=Value.int i t from r);subst e;exact X4 P w i t
 |inr x=>obtain⟨t,e⟩:=(show ∃t,u=Value.str x t from r);subst e;exact X5 P w x t
theorem Vq{P:Program}{w:World}:∀{ks:List AJ}{us:List Value},At (ks.map kV) us->ItemsAre (EC P w) ks us
 |[],_,r=>by rw[NQ] at r;cases r;exact .nil
 |k::ks,_,r=>by
   rw[Eu] at r
   cases r with
   |cons h t=>exact .cons (Ng h) (Vq t)
abbrev KT (H:Hp):List (List AJ×V)->List (List AJ×Addr×Value)->Prop:=Paired λp q=>p.1=q.1/\H q.2.1=some (.tup (p.1.map kV))/\RelV p.2 q.2.2
variable {H:Hp}{kvs:List (List AJ×V)}{xs:List (List AJ×Addr×Value)}
def KT.val(r:KT H kvs xs)(k:List AJ):DV (AH kvs k) ((atKey xs k).map (·.2)):=by
 induction r with
 |nil=>exact True.intro
 |@cons p q i a h t f =>
   obtain⟨d,_,g⟩:=h;by_cases e:p.1=k;have c:q.1=k:=d.symm.trans e;have b:atKey (q::a) k=some q.2:=(by simp[atKey,MZ,c]);rw[GR e,b];exact g;have c:¬q.1=k:=λz=>e (d.trans z);have b:atKey (q::a) k=atKey a k:=(by simp[atKey,MZ,c]);rw[GS e,b];exact f
variable {y:V}
def KT.repl(r:KT H kvs xs)(k:List AJ)(d:RelV y u) :
 KT H (kvs.map λb=>if b.1=k then(b.1,y) else b) (xs.map (putAt k u)):=by
 induction r with
 |nil=>exact .nil
 |@cons p q i j h t f =>
   rw[Eu,Eu];refine .cons ?_ f;obtain⟨a,c,g⟩:=h;unfold putAt;by_cases e:p.1=k;rw[Ak e,Ak (a.symm.trans e)];exact⟨a,c,d⟩;rw[Aj e,Aj (λz=>e (a.trans z))];exact⟨a,c,g⟩
def KT.put(r:KT H kvs xs)(k:List AJ){b:Addr}(hb:H b=some (.tup (k.map kV)))(a:RelV y u) :
 KT H (AV kvs k y) (storedH xs k b u):=by
 have e:(kvs.any λc=>decide (c.1=k))=(atKey xs k).isSome:=by
  rw[Ot,(r.val k).isSome_eq,Option.isSome_map]
 unfold AV storedH;rw[e];by_cases q:(atKey xs k).isSome=true;rw[Ak q,Ak q];exact r.repl k a;rw[Aj q,Aj q];exact Paired.snoc r ⟨rfl,hb,a⟩
variable {H':Hp}
def KT.keeps(r:KT H kvs xs)(a:∀b ys,H b=some (.tup ys)->H' b=some (.tup ys)):KT H' kvs xs:=
 Paired.mapP r λζ ζ z=>⟨z.1,a _ _ z.2.1,z.2.2⟩
section
variable {P:Program} {w:World} {H:Hp} {h:Heap} {a:Addr}
def Hh{u:HO}(ok:CL P w H h)(e:Rd H a u):AB P w H h a u:=e.ok ok
def Ni{kvs:List (AJ×V)}(ok:CL P w H h)(e:Rd H a (.dK kvs)):kvs.length<=sizeLine/\(a==sysModules)=false/\∃vs,KV kvs vs/\h.DictOf (EC P w) a vs:=
 show AB P w H h a (.dK kvs) from Hh ok e
def Ko{kvs:List (AJ×V)}(ok:CL P w H h)(e:H a=some (.dK kvs)):kvs.length<=sizeLine/\(a==sysModules)=false/\∃vs,KV kvs vs/\h.DictOf (EC P w) a vs:=Ni ok (.inl e)
def Lz{ks:List AJ}(ok:CL P w H h)(e:H a=some (.tup (ks.map kV))):(tupleKind (EC P w)).is h ks a:=by
 obtain⟨_,f,r,o,b,c,n,d⟩:=(show AB P w H h a (.tup (ks.map kV)) from ok a _ e);exact⟨o,f.toArray,n,b,c,d,by simpa using Vq r⟩
def Nj(ok:CL P w H h)(e:Rd H a (.dT kvs)):kvs.length<=sizeLine/\(a==sysModules)=false /\
 ∃xs,KT H kvs xs/\h.DictOfH (tupleKind (EC P w)) a xs:=by
 obtain⟨z,y,xs,r,o,d,f,g,i,j,k,n⟩:=(show AB P w H h a (.dT kvs) from Hh ok e);refine⟨z,y,xs,r,o,d,f,g,i,j,k,λx b=>?_,n⟩
 have all:∀{l:List (List AJ × V)}{m:List (List AJ × Addr × Value)},KT H l m -> ∀x∈m,(tupleKind (EC P w)).is h x.1 x.2.1:=by
  intro l m q
  induction q with
  |nil=>intro x b;exact nomatch b
  |@cons p q u v c t s =>
    intro x b;rcases BV.mp b with e|b;subst e;exact Lz ok (by rw[<-c.1];exact c.2.1);exact s x b
 exact all r x b
def Hi(ok:CL P w H h)(e:H a=some (.dT kvs)):kvs.length<=sizeLine/\(a==sysModules)=false /\
 ∃xs,KT H kvs xs/\h.DictOfH (tupleKind (EC P w)) a xs:=Nj ok (.inl e)
end
def C8 (H:Hp) (a:Addr) (y:V) (r:Option V):Prop:=
 (∃kvs k,Rd H a (.dK kvs)/\y=kV k/\r=AH kvs k)\/∃kvs k b,Rd H a (.dT kvs)/\y=.ref b/\H b=some (.tup (k.map kV))/\r=AH kvs k
def Hj (H:Hp) (a:Addr) (y v:V) (H':Hp):Prop:=
 (∃kvs k,H a=some (.dK kvs)/\y=kV k/\kvs.length<sizeLine/\H'=upd H a (.dK (AV kvs k v))) \/
 ∃kvs k b,H a=some (.dT kvs)/\y=.ref b/\H b=some (.tup (k.map kV))/\kvs.length<sizeLine/\H'=upd H a (.dT (AV kvs k v))
def C8.k{H:Hp}{a:Addr}{kvs:List (AJ×V)}{k:AJ}(e:H a=some (.dK kvs)):C8 H a (kV k) (AH kvs k):=.inl ⟨kvs,k,.inl e,rfl,rfl⟩
variable {a:Addr}
def C8.t{b:Addr}{k:List AJ}(e:H a=some (.dT kvs))(c:H b=some (.tup (k.map kV))):C8 H a (.ref b) (AH kvs k):=.inr ⟨kvs,k,b,.inl e,rfl,c,rfl⟩
def Hj.k{H:Hp}{a:Addr}{kvs:List (AJ×V)}{k:AJ}{v:V}(e:H a=some (.dK kvs))(b:kvs.length<sizeLine):Hj H a (kV k) v (upd H a (.dK (AV kvs k v))):=.inl ⟨kvs,k,e,rfl,b,rfl⟩
section
variable {X:Cx} {pins:B'} {σ:St} {H:Hp} {s:Shared} {a:Addr} {y v:V} {u r:Value} {o:Option V} {A:Around} {E:D'}
def Inv.big(I:Inv X pins σ H s):sysModules<s.heap.objs.size:=by
 have h:mainGlobals<s.heap.objs.size:=(I.mod.glob.keeps I.bk).lt;exact Nat.lt_trans (by decide) h
def Yw{Q:D'}(q:A.units+1<cLine)(I:Inv X pins σ H s)(g:C8 H a y (some v))(n:RelV y u)(h:∀c L,Inv X pins σ H L->RelV v c->Q c L) :
 wpAny (model X.prog X.w) A (getItem (.ref a) u) Q E s:=by
 rcases g with⟨kvs,k,e,d,l⟩|⟨kvs,k,b,e,d,r,l⟩;subst d;obtain⟨z,hd,t,j,f⟩:=Ni I.hok e;obtain⟨c,i,m⟩:=DV.some_of (v:=v) (o:=valueAt t k) (by rw[l];exact j.val k);exact wpAny_getItem_of (Ng n) f.mapOf i (h c _ (I.tok _) m);subst d
 cases(show u=Value.ref b from n);obtain⟨z,hd,xs,j,f⟩:=Nj I.hok e;obtain⟨c,i,m⟩:=DV.some_of (v:=v) (o:=(atKey xs k).map (·.2)) (by rw[l];exact j.val k);obtain⟨p,w,x⟩:=E7.mp i;refine wpAny_getItem_heap (tupleKind_room_in1 q) (Lz I.hok r) f w ?_;rw[x];exact h c _ (I.tok _) m
def Sr{Q:D'}(j:A.units+1<cLine)(I:Inv X pins σ H s)(g:C8 H a y o)(i:RelV y u)(h:∀L,Inv X pins σ H L->Q (.bool o.isSome) L) :
 wpAny (model X.prog X.w) A (compareOp .In u (.ref a)) Q E s:=by
 rcases g with⟨kvs,k,e,c,l⟩|⟨kvs,k,b,e,c,m,l⟩;subst c;obtain⟨z,hd,n,f,d⟩:=Ni I.hok e;refine wpAny_in_of (Ng i) hd d.mapOf ?_;rw[<-(f.val k).isSome_eq,<-l];exact h _ (I.tok _);subst c
 cases(show u=Value.ref b from i);obtain⟨z,hd,xs,f,d⟩:=Nj I.hok e;refine wpAny_in_heap (tupleKind_room_in1 j) (Lz I.hok m) hd d ?_;have q:=(f.val k).isSome_eq;rw[Option.isSome_map] at q;rw[<-q,<-l];exact h _ (I.tok _)
def Ox{h':Heap}{t':Nat}{ob:HO}(I:Inv X pins σ H s)(c:NT (H a))(d:Heap.SameBut a s.heap h')(f:∃q,h'.get? a=some q)(g:AB X.prog X.w (upd H a ob) h' a ob) :
 Inv X pins σ (upd H a ob) {s with heap:=h',toks:=t'}:=
 I.write (x:=a) (e:=a) c (.inl rfl) (λb q hb z=>(d.2 b hb).trans z) f g
def Hk{h':Heap}{kvs:List (AJ×V)}{vs:List (AJ×Value)}(z:kvs.length<=sizeLine)(hd:(a==sysModules)=false)(c:KV kvs vs)(b:h'.DictOf (EC P w) a vs) :
 AB P w H' h' a (.dK kvs):=⟨z,hd,vs,c,b⟩
def Yx{Q:Unit->Shared->Prop}(F:A.units+1<cLine)(I:Inv X pins σ H s)(g:Hj H a y v H')(w:RelV y u)(x:RelV v r)(h:∀L,Inv X pins σ H' L->Q () L) :
 wpAny (model X.prog X.w) A (setItem (.ref a) u r) Q E s:=by
 rcases g with⟨kvs,k,e,j,l,m⟩|⟨kvs,k,b,e,j,B,l,m⟩;subst j m;obtain⟨z,hd,G,d,n⟩:=Ko I.hok e;have o:G.length<=sizeLine:=by rw[<-d.length];exact z
 have p:(AV kvs k v).length<=sizeLine:=by have:=Ov kvs k v;lia
 refine wpAny_setItem_pairs (hsz:=o) (Ng w) n λC i t=>h _ ?_;have J:∃q,C.get? a=some q:=let ⟨q,_,_,f,_⟩:=i;⟨q,f⟩;exact Ox I (by rw[e];exact True.intro) t J (Hk p hd (d.put k x) i);subst j m
 cases(show u=Value.ref b from w);obtain⟨z,hd,xs,d,n⟩:=Hi I.hok e
 have o:xs.length<=sizeLine:=by rw[<-Paired.length d];exact z
 have p:(AV kvs k v).length<=sizeLine:=by have:=Ov kvs k v;lia
 refine wpAny_setItem_heap (hsz:=o) (tupleKind_room_in1 F) (Lz I.hok B) n λC i t=>h _ ?_;obtain⟨q,K,M,f,N,O,P,_,R⟩:=i;refine Ox I (by rw[e];exact True.intro) t ⟨q,f⟩ ⟨p,hd,_,(d.put k B x).keeps λc S D=>?_,q,K,M,f,N,O,P,R⟩;rw[AC (Na D e (λz=>nomatch z))];exact D
end
section
variable {X:Cx} {pins:B'} {σ:St} {H:Hp} {s:Shared} {a:Addr} {kvs:List (AJ×V)} {k:AJ} {u:Value} {A:Around} {E:D'}
end
def Oy (i:Expr):Prop:=∀ov iv,subscripted i false ov iv=operate [ov,iv] (getItem ov iv)
variable {s:Shared}
def IY{prog:Program}{A:Around}{E:D'}{env:Env}{d slice:Expr}{pos:Pos}{T id:String}{Q:D'}
 (j:typeLookup (.type T) "__getitem__" = pure (some (.builtin id))) (k:Oy slice)
 (h:wpAny (model prog w) A (eval d env) (λo e=>wpAny (model prog w) A (eval slice env) (λi a=>a.TypeIs o T/\wpAny (model prog w) A (getItem o i) Q E a) E e) E s) :
 wpAny (model prog w) A (eval (.Subscript d slice pos) env) Q E s:=by
 refine Subscript_ (Fy h (λo e l=>Fy l (λi a b=>?_) λζ ζ x=>x) λζ ζ x=>x);obtain⟨f,b⟩:=b;unfold subscriptTail;refine Ad ?_;rw[getitemInPython_of_ne f.not_modules];refine Ad (wpAny_specialOf f j ?_)
 have c:wpAny (model prog w) A (subscripted slice false o i) (λr g=>wpAny (model prog w) A (letTemporaryGo d o r >>= λζ=>pure r) Q E g) E a:=by
  rw[k o i];exact wpAny_operating (Fy b (λr g m=>Ad (wpAny_letTemporaryGo (Au m))) λζ ζ x=>x)
 first
  |exact Au (Ad c)
  |exact Ad (Au (Ad c))
  |exact Ad c
def Yy{X:Cx}{pins:B'}{σ:St}{o:Option V}(I:Inv X pins σ H s)(g:C8 H a y o):s.TypeIs (.ref a) "dict" :=by
 rcases g with⟨kvs,k,e,_,_⟩|⟨kvs,k,b,e,_,_,_⟩;obtain⟨_,_,d,_,c⟩:=Ni I.hok e;exact c.typeIs;obtain⟨_,_,xs,_,c⟩:=Nj I.hok e;exact c.typeIs
def Kp (M ty:TE):TE:=λσ H Q=>M σ H λx Y=>ty σ Y λy H2=>∃a v,x=.ref a/\C8 H2 a y (some v)/\Q v H2
section
variable {X:Cx} {o i e d:Expr} {pos t j:Pos} {M ty J:TE}
def Vr(d:X.A.units+1<cLine)(e:PE X o M)(f:PE X i ty)(j:Oy i):PE X (.Subscript o i pos) (Kp M ty):=by
 intro c s σ H Q I h;refine IY PySem.F.slot_dict_getitem.lookup j (AU (e c s σ H _ I h) λu k⟨x,Y,l,m,n⟩=>AU (f c k σ Y _ l n) λz A⟨y,p,b,q,a,v,ex,g,r⟩=>?_);subst ex;obtain rfl:u=Value.ref a:=m;exact⟨Yy b g,Yw d b g q λB C t w=>⟨v,p,t,w,r⟩⟩
end
def Vs(h:Heap)(hb:sysModules<h.objs.size):AB P w H (h.push {cls:=.type "dict",data:=.dict #[]}) h.objs.size (.dK []):=
 ⟨C7 _,beq_eq_false_iff_ne.mpr (Ne.symm (Cq hb)),[],.nil,Heap.DictOf.new h⟩
def Vt(h:Heap)(hb:sysModules<h.objs.size):AB P w H (h.push {cls:=.type "dict",data:=.dict #[]}) h.objs.size (.dT []):=
 ⟨C7 _,beq_eq_false_iff_ne.mpr (Ne.symm (Cq hb)),[],.nil,_,#[],0,B9 _ rfl,⟨rfl,rfl,rfl⟩,rfl,rfl,List.nodup_nil⟩
def LA:TE:=λζ H Q=>∀p,H p=none->Q (.ref p) (upd H p (.dK []))
def LB:TE:=λζ H Q=>∀p,H p=none->Q (.ref p) (upd H p (.dT []))
section
variable {X:Cx} {pos:Pos}
def Yz:PE X (.Dict [] [] pos) LA:=λb s σ H Q I h =>
 wpAny_Dict_empty ⟨.ref s.heap.objs.size,_,I.laid (a:=s.heap.objs.size) (o:=.dK []) (t':=s.toks) (λζ ζ q=>Ba _ q) (AE _) (Vs s.heap I.big),rfl,h _ (I.hok.fresh (AE _))⟩
def Ss:PE X (.Dict [] [] pos) LB:=λb s σ H Q I h =>
 wpAny_Dict_empty ⟨.ref s.heap.objs.size,_,I.laid (a:=s.heap.objs.size) (o:=.dT []) (t':=s.toks) (λζ ζ q=>Ba _ q) (AE _) (Vt s.heap I.big),rfl,h _ (I.hok.fresh (AE _))⟩
end
def Kq (kvs more:List (AJ×V)):List (AJ×V):=more.foldl (λacc kv=>AV acc kv.1 kv.2) kvs
structure M2 (X:Cx) (o:Expr) (m:Str) (apos:Pos) (e f:Expr) (cpos:Pos):Prop where
 base:attributeBase o m X.env (eval o X.env)=eval o X.env
 few:((backTo cpos (starEach [e,f] X.env)).all (λx=>!x.1) && (backToKw cpos (keywordEach [] X.env)).all (λx=>x.1.isSome)
  && decide (([e,f]:List Expr).length+([]:List Keyword).length+(if([]:List Keyword).isEmpty then 0 else 1)<30))=true
 line:(apos.endLine==cpos.line)=true
 trees:backTo cpos (starEach [e,f] X.env)=[(false,eval e X.env),(false,eval f X.env)]
def Vu (H:Hp) (a:Addr):Prop:=(∃kvs,Rd H a (.dK kvs))\/∃kvs,Rd H a (.dT kvs)
def LD{X:Cx}{pins:B'}{σ:St}(I:Inv X pins σ H s)(d:Vu H a) :
 s.TypeIs (.ref a) "dict" /\ (∀b,Value.ref a=.ref b->∃ob,s.heap.get? b=some ob/\ob.dict=none)/\(a==sysModules)=false:=by
 rcases d with⟨kvs,e⟩|⟨kvs,e⟩;obtain⟨_,hd,h,_,c⟩:=Ni I.hok e;refine⟨c.typeIs,λb q=>?_,hd⟩;cases q;obtain⟨ob,_,_,f,g,_⟩:=c;exact⟨ob,f,g.2.1⟩;obtain⟨_,hd,xs,_,c⟩:=Nj I.hok e;refine⟨c.typeIs,λb q=>?_,hd⟩;cases q;obtain⟨ob,_,_,f,g,_⟩:=c;exact⟨ob,f,g.2.1⟩
section
variable {X:Cx} {pins:B'} {σ:St} {H:Hp} {s:Shared} {a:Addr} {y d:V} {u r:Value} {o:Option V} {A:Around} {E:D'}
def LF{Q:D'}(p:A.units+1<cLine)(I:Inv X pins σ H s)(g:C8 H a y o)(j:RelV y u)(m:RelV d r)(h:∀n L,Inv X pins σ H L->RelV (o.getD d) n->Q n L) :
 wpAny (model X.prog X.w) A (call (.builtin "dict.get") [.ref a,u,r]) Q E s:=by
 rcases g with⟨kvs,k,e,f,l⟩|⟨kvs,k,b,e,f,q,l⟩;subst f;obtain⟨z,hd,t,i,c⟩:=Ni I.hok e;refine call_meetsIn PySem.F.slot_dict_get c.typeIs PySem.F.entry_dict_get (PySem.F.args_dict_get_3 _ _ _) (meets_dict_get_default (EC X.prog X.w) a (Ng j) hd r) ⟨_,c.mapOf,h _ _ (I.tok _) ?_⟩;rw[l];exact(i.val k).getD m;subst f
 cases(show u=Value.ref b from j);obtain⟨z,hd,xs,i,c⟩:=Nj I.hok e;refine call_meetsIn PySem.F.slot_dict_get c.typeIs PySem.F.entry_dict_get (PySem.F.args_dict_get_3 _ _ _) (meetsH_dict_get_default (tupleKind (EC X.prog X.w)) a b hd r) ⟨tupleKind_room_in1 p,k,xs,Lz I.hok q,c,h _ _ (I.tok _) ?_⟩;rw[l];exact(i.val k).getD m
end
def LG (M ty tx:TE):TE:=λσ H Q=>M σ H λx Y=>∃a,x=.ref a/\Vu Y a/\ty σ Y λy H2=>tx σ H2 λz H3=>∃o,C8 H3 a y o/\Q (o.getD z) H3
section
variable {X:Cx} {o e f:Expr} {apos cpos:Pos} {M ty tx:TE}
def YA(i:X.A.units+1<cLine)(j:PE X o M)(k:PE X e ty)(l:PE X f tx)(m:M2 X o "get" apos e f cpos):PE X (.Call (.Attribute o "get" apos) [e,f] [] cpos) (LG M ty tx):=by
 intro b s σ H Q I h;refine wpAny_Call_method m.base m.few m.line PySem.F.plainAttrs_dict PySem.F.slot_dict_get PySem.F.type_dict_get (AU (j b s σ H _ I h) λu n⟨x,Y,c,p,a,ex,d,q⟩=>?_);subst ex;obtain rfl:u=Value.ref a:=p;obtain⟨r,t,_⟩:=LD c d;refine⟨r,t,?_⟩;rw[m.trees]
 refine Calls.callWith_builtin rfl (Calls.evalArgs_plain (Calls.spliced_cons (AU (k b n σ Y _ c q) λL v⟨y,w,A,B,C⟩ =>
  Calls.spliced_cons (AU (l b v σ w _ A C) λN O⟨z,D,E,F,P,g,G⟩=>Calls.spliced_nil ?_))))
 exact LF i E g B F λR S J K=>⟨_,D,J,K,G⟩
end
section
variable {X:Cx} {pins:B'} {σ:St} {H:Hp} {s:Shared} {a:Addr} {kvs:List (AJ×V)} {A:Around} {E:D'}
end
section
variable {X:Cx} {pins:B'} {σ:St} {H:Hp} {s:Shared} {a:Addr} {y:V} {u:Value} {A:Around} {E:D'}
end
end L2
namespace Att
open PySem PySem.W PySem.Calls PyProof.Rows
def YB{P:Params}{h:Heap}:∀(ns:List Int)(vs:List Value),WellAll P h vs (ns.map WData.int)->IntsAre vs ns:=by
 intro ns
 induction ns with
 |nil =>
   intro vs w;rw[NQ] at w;cases w;exact .nil
 |cons n ns c =>
   intro vs w;rw[Eu] at w
   cases w with
   |cons a b =>
     cases a;exact .cons _ _ (c _ b)
def YC{l:OpenLaw}{n:Nat}(i:l.most=some n){P:Params}{h:Heap}{args:List WData}{f:List Value}
 (g:l.row.toRowW.claim.pre args=true) (u:WellAll P h f args) :
 ∃a vs ns,f=[Value.ref a]/\args=[WData.list (ns.map WData.int)]/\h.get? a=some {cls:=.type "list",data:=.seq vs.toArray}/\IntsAre vs ns/\ns.length<=n:=by
 have v:WShape.hasAll [] args [.list .int]=true:=(pre_splitW g).1;have e:l.pre.holds [] {args:=args}=true:=(pre_splitW g).2;obtain⟨d,r,rfl,j,k⟩:=hasAllW_cons v;obtain rfl:=hasAllW_nil k;obtain⟨y,rfl,m⟩:=hasW_list j;obtain⟨ns,rfl⟩:=items_int m
 have w:ns.length<=n:=by
  unfold OpenLaw.pre at e
  have b:(WTm.not (.lt (.lit (.int (n:Int))) (.len (.arg 0)))).holds [] {args:=[.list (ns.map .int)]}=true:=by
   have b:=(holds_andW e).1;rw[i] at b;exact b
  have c:=condW_of b (w_not (w_lt w_lit (w_len_list (w_arg rfl))));rw[Al] at c;refine Nat.le_of_not_lt λq=>?_;have o:(n:Int)<((ns.length:Nat):Int):=(by lia)
  first
   |(rw[By o] at c;exact absurd c (by decide))
   |(simp at c;lia)
 cases u with
 |cons p s =>
   cases s
   cases p with
   |list t x=>exact⟨_,_,ns,rfl,rfl,t,YB ns _ x,w⟩
def YD(l:OpenLaw)(args:List WData):l.row.toRowW.claim.post args (.bool true) args=true:=
 postW_of (r:=l.row.toRowW) (X:=(true==true))
  (show WShape.has [] (.bool true) .bool=true by first|rfl|decide|simp[WShape.has,WShape.arms,WShape.armsAll])
  (show(WTm.eq .res (.lit (.bool true))).value [] {args:=args,res:=some (.bool true),after:=args}=some (.bool (true==true)) from w_eq_bool (w_res rfl) w_lit) rfl
def attach_call{l:OpenLaw}{n:Nat}{q:Program}{loose:List Str}{XP:(Str->Option Value)->Heap->Prop}{YP:World->Heap->Prop}{d:DefRec}
 (p:l.most=some n) (B:d.params.defaults=[])
 (call:∀(w:World)(h b:Shared)(e i:Str->Option Value)(c:Addr)(o:Obj)(j g k:Value)(a:Addr)(vs:List Value)(ns:List Int),
  Ground q loose [] XP w h e i b.heap->YP w b.heap ->
  b.heap.get? c=some o->o.data=.func (docDef d.name d.params d.body d.scope j g k)->b.heap.CodeRec g d.name->e d.name=some (.ref c) ->
  b.heap.get? a=some {cls:=.type "list",data:=.seq vs.toArray}->IntsAre vs ns->ns.length<=n->b.gens=#[] ->
  codeAny (model l.prog w) callerA (.call (.ref c) ⟨[.ref a],[]⟩) (λr L=>r=.ok (.ret (.bool true))/\OldK b.heap L.heap/\L.os=b.os/\AllBare L.gens) b) :
 WalkO q loose XP YP l.row.toRowW d [] (λf vs=>PySem.call f vs):=by
 intro w h b e i G Y c o j g k s kV t hd C m D u O P K F Q M E N;obtain rfl:s=.none:=Dflts.none m B;obtain rfl:kV=.none:=Dflts.noKw m;obtain⟨a,vs,ns,rfl,rfl,H,J,I⟩:=YC p F E;refine enter_call (codeAny_mono (call w h b e i c o j g k a vs ns G Y t (fd_plain hd) C D H J I u) λr L v=>?_);obtain⟨rfl,x,y,z⟩:=v;exact⟨.inl ⟨.bool true,.bool true,[],rfl,λζ=>rfl,.bool true,YD l _,λζ=>⟨List.Pairwise.nil,λζ A=>(nomatch A)⟩⟩,x,y,z⟩
section
variable {prog:Program} {w:World} {A:Around} {E:D'} {s:Shared} {K:Frag}
end
end Att
namespace L2
open PySem PySem.Spec PyProof.Rows
theorem Qa:∀{vs:List Value}{ns:List Int},IntsAre vs ns->At (ns.map V.int) vs
 |_,_,.nil=>.nil
 |_,_,.cons n t h=>.cons ⟨t,rfl⟩ (Qa h)
def LH (H:Hp):Prop:=∀b,H b=none\/∃o xs,H b=some (.frz o (.lst xs))
variable {P:Program}{w:World}{a:Addr}{fd:FuncData}{x:Str}
def YE {K:Ah} {f t:Str->Option Value} {CX:Hb} {k:Nat} {y:Addr} {sp:Sp} {c:Shared} {vs:List Value} {ns:List Int}
 (D:K.In c.heap) (O:c.heap.Ns mainGlobals f) (hb:c.heap.Ns builtinsNs t) (ab:∀x:Str,x ≠ "__name__" -> t x=bootBuiltins x) (ah:c.heap.NoLimit) (U:c.gens=#[])
 (l:c.heap.get? a=some {cls:=.type "list",data:=.seq vs.toArray}) (E:IntsAre vs ns) (G:ns.length<=sizeLine) (W:BX k callerA)
 (F:∀C:Heap,K.In C->C.Ns mainGlobals f->Eg P w K f C CX k y fd [x] sp) (al:∀(s:Shared)(u:Value),BindsTo s fd ⟨[u],[]⟩ [(x,u)])
 (ae:∀H:Hp,LH H->Ae K H a (ns.map V.int)->sp [.ref a] H (λv ζ=>v=.bl true) λζ ζ ζ=>False)
 (af:∀H e L,CX [] H c (λζ ζ ζ=>False) e L->False) :
 codeAny (model P w) callerA (.call (.ref y) ⟨[.ref a],[]⟩) (λr L=>r=.ok (.ret (.bool true))/\OldK c.heap L.heap/\L.os=c.os/\AllBare L.gens) c:=by
 have I:=Qa E;have ai:=E.length
 have S:∀ H:Hp,LH H->Ae K H a (ns.map V.int)->CL P w H c.heap->(∀ b,H b≠none->b=a)->(H a≠none->K.lookup a=none) ->
  codeAny (model P w) callerA (.call (.ref y) ⟨[.ref a],[]⟩) (λr L=>r=.ok (.ret (.bool true))/\OldK c.heap L.heap/\L.os=c.os/\AllBare L.gens) c:=by
  intro H J X Q M Y;have T:∀{b:Addr}{o:Obj},c.heap.get? b=some o->H b=none->(Fb c.heap H).get? b=some o:=λe n=>X7 e n
  have ag:∀{b:Addr}{o:Obj}{g:Array DictEntry}{i:Nat},c.heap.get? b=some o->o.data=.dict g i->H b=none:=λ{b o g i}e d=>by
   cases q:H b with
   |none=>rfl
   |some u =>
     have A:b=a:=M b (by rw[q];simp);subst A;rw[l] at e;cases e;have Z:Data.seq vs.toArray _=Data.dict g i:=d;cases Z
  have p:∀{b:Addr}{m:Str->Option Value},c.heap.Ns b m->(Fb c.heap H).Ns b m:=λ{b m}⟨o,g,i,e,d,r⟩=>⟨o,g,i,T e (ag e d),d,r⟩
  have R:K.In (Fb c.heap H):=λb o e=>T (D b o e) (by
   cases q:H b with
   |none=>rfl
   |some u =>
     have A:b=a:=M b (by rw[q];simp);subst A
     rw[Y (by rw[q];simp)] at e;cases e)
  have hM:Mod K f (Fb c.heap H):=⟨R,p O,⟨t,p hb,ab⟩,let ⟨mc,h1,h2⟩:=ah;⟨mc,p h1,h2⟩⟩;have e0:IP P w K f (Fb c.heap H) callerA [] c H:=⟨rfl,hM,λb o e=>IC e,Nat.le_of_eq (X6 _ _),trivial,λb hb=>absurd (show b∈([]:List Addr) from hb) (by simp),Q,.of_eq U⟩;refine codeAny_mono ((F _ R (p O)).run callerA [] c H ⟨[.ref a],[]⟩ [.ref a] [.ref a] _ _ W e0 (al c (.ref a)) (.cons rfl .nil) (ae H J X)) λr L h=>?_
  cases r with
  |error e=>exact(af H e L h).elim
  |ok fl =>
    cases fl with
    |next=>exact False.elim h
    |brk=>exact False.elim h
    |cont=>exact False.elim h
    |ret u =>
      obtain⟨v,H',aa,aj,un,ak,r',q⟩:=h;have q':v=.bl true:=q;subst q';obtain rfl:u=Value.bool true:=r';refine⟨rfl,OldK.of_keep λb o e=>?_,aa,aj⟩
      cases q:H b with
      |none=>exact un.keep b o e q (by intro z;exact absurd (show b∈([]:List Addr) from z) (by simp)) (by simp)
      |some u =>
        rcases J b with z|⟨ob,xs,z⟩;rw[q] at z;cases z;have z2:=un.frzs b ob _ z;obtain⟨N,_⟩:=Q b _ z;obtain⟨e2,_⟩:=ak b _ z2;rw[e] at N;cases N;exact e2
 cases B:K.lookup a with
 |some o =>
   have e:=D a o B;rw[l] at e;cases e;refine S (λζ=>none) (λζ=>.inl rfl) (.inr ⟨_,vs.toArray,_,B,rfl,rfl,rfl,by rw[Cf,ai];exact G,by simpa using I⟩) (λb u z=>by have j:(none:Option HO)=some u:=z;cases j) (λb z=>absurd rfl z) λz=>absurd rfl z
 |none =>
   refine S (λb=>if b=a then some (.frz {cls:=.type "list",data:=.seq vs.toArray} (.lst (ns.map V.int))) else none) (λb=>?_) (.inl (.inr ⟨{cls:=.type "list",data:=.seq vs.toArray},Ak rfl⟩)) (λb u z=>?_) (λb z=>?_) λζ=>B
   by_cases hb:b=a;exact .inr ⟨_,_,Ak hb⟩;exact .inl (Aj hb);by_cases hb:b=a;have j:=(Ak hb).symm.trans z;cases j;subst hb;exact⟨l,by rw[Al];exact G,vs,_,I,l⟩;have j:=(Aj hb).symm.trans z;cases j;by_cases hb:b=a;exact hb;exact absurd (Aj hb) z
variable {n:Nat}
def IZ{l:PySem.W.OpenLaw}{k:Nat}{q:Program}{loose:List Str}{XP:(Str->Option Value)->Heap->Prop}{YP:World->Heap->Prop}{d:DefRec}{K:Params->Ah}{CX:World->Hb}{sp:World->Sp}(m:l.most=some n)(C:n<=sizeLine)(D:d.params.defaults=[])(p:BX k callerA)
 (r:∀(w:World)(h:Heap),YP w h->(K w.params).In h)
 (F:∀(w:World)(b:Str->Option Value)(c:Addr)(h:Heap),(K w.params).In h->h.Ns mainGlobals b->b d.name=some (.ref c) ->
  ∃fd:FuncData,(∀(s:Shared)(u:Value),BindsTo s fd ⟨[u],[]⟩ [(x,u)]) /\
   ∀g:Heap,(K w.params).In g->g.Ns mainGlobals b->Eg l.prog w (K w.params) b g (CX w) k c fd [x] (sp w))
 (E:∀(w:World)(H:Hp)(a:Addr)(ns:List Int),ns.length<=n->LH H->Ae (K w.params) H a (ns.map V.int)->sp w [.ref a] H (λv ζ=>v=.bl true) λζ ζ ζ=>False)
 (I:∀(w:World)(H:Hp)(s:Shared)(e:Value)(L:Shared),CX w [] H s (λζ ζ ζ=>False) e L->False) :
 PySem.W.WalkO q loose XP YP l.row.toRowW d [] (λf vs=>PySem.call f vs):=by
 refine Att.attach_call m D λw O t b P c o Q R T a vs ns G Y S hd U J M N j y=>?_;have i:=r w _ Y;obtain⟨fd,hb,z⟩:=F w b c _ i G.T.g J;exact YE i G.T.g G.T.b G.T.builtins G.T.nolimit y M N (E8 j C) p z hb (λH A B=>E w H a ns j A B) λH e L=>I w H t e L
abbrev Ip:Hb:=λζ ζ ζ ζ ζ ζ=>False
abbrev E0:XK:=λζ ζ ζ=>False
variable {X:Cx}
def Oz:Se Ip X E0:=λζ ζ ζ ζ ζ ζ ζ h=>h.elim
structure BA (K:Ah) (x qual:Str) (st:Stmt) (f:Addr) (fd:FuncData):Prop where
 ex:∃(oc:Value)(od:Option Addr)(kV doc pm:Value)(an:Option Addr)(cdv ct:Value)(osl:Array (Option Value)),
  fd=PySem.W.fnOf x qual (Ke st) (Ik st) (A0 st) .none kV doc pm an cdv ct/\K.lookup f=some ⟨oc,od,.func fd,osl⟩/\PySem.W.codeIn K cdv qual=true
 kp:PySem.W.keepIn K (.ref f)=true
section
variable {P:Program} {w:World} {K:Ah} {mg:Str->Option Value} {base:Heap}
variable {qual:Str}{st:Stmt}{f:Addr}
def BA.ok{N b:List Str}{k:Nat}{sp:Sp}(F:BA K x qual st f fd)(S:Ag N b (A0 st))(len:∀vs H Q E,sp vs H Q E->vs.length=b.length)
 (j:∀(a:Value)(A:Around)(c:List Env)(s:Shared)(H:Hp)(vs:List V)(Q:VK)(E:XK),BX k (A.deeper (envOfC qual (A0 st) s.heap.objs.size f a))->sp vs H Q E ->
  ∃t,F3 (AG Ip P w K mg base N qual (A0 st) f a A c s H E).nox (Ik st) t/\t {nx:=λζ H'=>Q .non H',rt:=Q} (start N vs) H):Eg P w K mg base Ip (k+1) f fd b sp:=by
 obtain⟨l,m,kV,r,n,o,a,p,u,rfl,d,g⟩:=F.ex;refine Oe d g S len λA c s H vs Q E e i=>?_;obtain⟨t,h,q⟩:=j a A c s H vs Q E e i;exact⟨t,h.nox,q⟩
def BA.binds{a:List Str}(F:BA K x qual st f fd)
 (h:∀(kV d b:Value)(c:Option Addr)(e ct:Value)(us:List Value),us.length=a.length->bindArgs (PySem.W.fnOf x qual (Ke st) (Ik st) (A0 st) .none kV d b c e ct) ⟨us,[]⟩=pure (a.zip us)):Binds K fd a []:=by
 obtain⟨g,i,kV,d,b,c,e,ct,k,rfl,j,l⟩:=F.ex;exact .all (h kV d b c e ct)
def Hl{g:Value}{h b:Option Addr}{i:Array (Option Value)}{kV e d a ct:Value}(l:K.lookup f=some ⟨g,h,.func (PySem.W.fnOf x qual (Ke st) (Ik st) (A0 st) .none kV e d b a ct),i⟩)
 (c:PySem.W.codeIn K a qual=true) (k:PySem.W.keepIn K (.ref f)=true):BA K x qual st f (PySem.W.fnOf x qual (Ke st) (Ik st) (A0 st) .none kV e d b a ct):=⟨⟨g,h,kV,e,d,b,a,ct,i,rfl,l,c⟩,k⟩
end
variable {A:Around}
def LI{k:Nat}(a:BX k A):A.units+1<cLine:=Nat.lt_of_le_of_lt (Nat.add_le_add_left (by decide:1<=64) _) a.units
def BH(h:n<=1000):n<sizeLine:=Nat.lt_of_le_of_lt h (by decide)
section
variable {X:Cx}
def pv(i:Nat){pos:Pos}(a:X.N[i]?=some x:=by rfl)(hv:P0 X.env.scope x:=by first|exact Or.inl rfl|exact Or.inr (Or.inl rfl)|exact Or.inr (Or.inr rfl))(hd:(x==("__debug__" : Str))=false:=by decide)
 (b:(x==("__classdict__" : Str))=false:=by decide):PE X (.Name x pos) (Bs i):=K7 a hv hd b
end
variable {B:Prop}
def Bb{A:Prop}(h:B):if false=true then A else B:=by
 rw[Aj CB];exact h
def BY{A:Prop}(h:A):if true=true then A else B:=by
 rw[Ak rfl];exact h
def As{c A:Prop} [Decidable c](a:c->A)(b:¬c->B):if c then A else B:=by
 by_cases h:c;rw[Ak h];exact a h;rw[Aj h];exact b h
def Ac (H H':Hp):Prop:=∀b o,H b=some o->H' b=some o
def Ac.refl(H:Hp):Ac H H:=λζ ζ h=>h
variable {H Y:Hp}
def Ac.trans{d:Hp}(a:Ac H Y)(b:Ac Y d):Ac H d:=λc o h=>b c o (a c o h)
variable {H':Hp}
def Ac.free(e:Ac H H'){l:Addr}(h:H' l=Option.none):H l=Option.none:=by
 cases q:H l with
 |none=>rfl
 |some o =>
   rw[e l o q] at h;cases h
variable {xs:List V}
def Ac.seq{K:Ah}(e:Ac H H')(h:Ae K H a xs):Ae K H' a xs:=by
 rcases h with(h|⟨o,h⟩)|h;exact .inl (.inl (e _ _ h));exact .inl (.inr ⟨o,e _ _ h⟩);exact .inr h
section
variable {κ:Type} [DecidableEq κ]
end
inductive Ty where
 |int|bool|str|non|lst|tup|dct
 deriving DecidableEq
def Ty.name:Ty->String
 |.int => "int"|.bool => "bool"|.str => "str"|.non => "NoneType"|.lst => "list"|.tup => "tuple"|.dct => "dict"
inductive I0 (K:Ah) (H:Hp):V->Ty->Prop where
 |int (i:Int):I0 K H (.int i) .int
 |bl (b:Bool):I0 K H (.bl b) .bool
 |str (x:Str):I0 K H (.str x) .str
 |non:I0 K H .non .non
 |lst {a:Addr} {xs:List V} (h:Ae K H a xs):I0 K H (.ref a) .lst
 |tup {a:Addr} {xs:List V} (h:Ar K H a xs):I0 K H (.ref a) .tup
 |dk {a:Addr} {kvs:List (AJ×V)} (h:H a=some (.dK kvs)):I0 K H (.ref a) .dct
def Su:Ty->Ty->Bool
 |.int,.int=>true|.bool,.bool=>true|.bool,.int=>true|.str,.str=>true|.non,.non=>true|.lst,.lst=>true|.tup,.tup=>true|.dct,.dct=>true|_,_=>false
def Sv (K:Ah):List V->Hp->VK->Prop:=λvs H Q=>∃x T T',vs=[x,.ty (Ty.name T)]/\I0 K H x T'/\Q (.bl (Su T' T)) H
def I7:Bi X (.builtin "isinstance") (Sv X.K):=by
 intro F s σ H g w Q I r h;obtain⟨x,T,z,rfl,ty,q⟩:=h;obtain⟨u,j,rfl,c,p⟩:=Kl r;have k:j=Value.type (Ty.name T):=p;subst k
 cases ty with
 |int i =>
   obtain⟨t,rfl⟩:=c
   cases T with
   |int=>exact IsiPair.int_int ⟨.bl true,H,I,rfl,q⟩
   |bool=>exact IsiPair.int_bool ⟨.bl false,H,I.tok _,rfl,q⟩
   |str=>exact IsiPair.int_str ⟨.bl false,H,I.tok _,rfl,q⟩
   |non=>exact IsiPair.int_NoneType ⟨.bl false,H,I.tok _,rfl,q⟩
   |lst=>exact IsiPair.int_list ⟨.bl false,H,I.tok _,rfl,q⟩
   |tup=>exact IsiPair.int_tuple ⟨.bl false,H,I.tok _,rfl,q⟩
   |dct=>exact IsiPair.int_dict ⟨.bl false,H,I.tok _,rfl,q⟩
 |bl b =>
   obtain rfl:u=Value.bool b:=c
   cases T with
   |int=>exact IsiPair.bool_int ⟨.bl true,H,I,rfl,q⟩
   |bool=>exact IsiPair.bool_bool ⟨.bl true,H,I,rfl,q⟩
   |str=>exact IsiPair.bool_str ⟨.bl false,H,I.tok _,rfl,q⟩
   |non=>exact IsiPair.bool_NoneType ⟨.bl false,H,I.tok _,rfl,q⟩
   |lst=>exact IsiPair.bool_list ⟨.bl false,H,I.tok _,rfl,q⟩
   |tup=>exact IsiPair.bool_tuple ⟨.bl false,H,I.tok _,rfl,q⟩
   |dct=>exact IsiPair.bool_dict ⟨.bl false,H,I.tok _,rfl,q⟩
 |str y =>
   obtain⟨t,rfl⟩:=c
   cases T with
   |int=>exact IsiPair.str_int ⟨.bl false,H,I.tok _,rfl,q⟩
   |bool=>exact IsiPair.str_bool ⟨.bl false,H,I.tok _,rfl,q⟩
   |str=>exact IsiPair.str_str ⟨.bl true,H,I,rfl,q⟩
   |non=>exact IsiPair.str_NoneType ⟨.bl false,H,I.tok _,rfl,q⟩
   |lst=>exact IsiPair.str_list ⟨.bl false,H,I.tok _,rfl,q⟩
   |tup=>exact IsiPair.str_tuple ⟨.bl false,H,I.tok _,rfl,q⟩
   |dct=>exact IsiPair.str_dict ⟨.bl false,H,I.tok _,rfl,q⟩
 |non =>
   obtain rfl:u=Value.none:=c
   cases T with
   |int=>exact IsiPair.NoneType_int ⟨.bl false,H,I.tok _,rfl,q⟩
   |bool=>exact IsiPair.NoneType_bool ⟨.bl false,H,I.tok _,rfl,q⟩
   |str=>exact IsiPair.NoneType_str ⟨.bl false,H,I.tok _,rfl,q⟩
   |non=>exact IsiPair.NoneType_NoneType ⟨.bl true,H,I,rfl,q⟩
   |lst=>exact IsiPair.NoneType_list ⟨.bl false,H,I.tok _,rfl,q⟩
   |tup=>exact IsiPair.NoneType_tuple ⟨.bl false,H,I.tok _,rfl,q⟩
   |dct=>exact IsiPair.NoneType_dict ⟨.bl false,H,I.tok _,rfl,q⟩
 |lst d =>
   obtain rfl:u=Value.ref _:=c;obtain⟨v,l,⟨o,n,e,a,hd,m⟩,f⟩:=I.list d
   cases T with
   |int=>exact IsiPair.list_int e a ⟨.bl false,H,I.tok _,rfl,q⟩
   |bool=>exact IsiPair.list_bool e a ⟨.bl false,H,I.tok _,rfl,q⟩
   |str=>exact IsiPair.list_str e a ⟨.bl false,H,I.tok _,rfl,q⟩
   |non=>exact IsiPair.list_NoneType e a ⟨.bl false,H,I.tok _,rfl,q⟩
   |lst=>exact IsiPair.list_list e a ⟨.bl true,H,I,rfl,q⟩
   |tup=>exact IsiPair.list_tuple e a ⟨.bl false,H,I.tok _,rfl,q⟩
   |dct=>exact IsiPair.list_dict e a ⟨.bl false,H,I.tok _,rfl,q⟩
 |tup d =>
   obtain rfl:u=Value.ref _:=c;obtain⟨v,l,⟨o,e,a,n,m⟩,f⟩:=I.tuple d
   cases T with
   |int=>exact IsiPair.tuple_int e a ⟨.bl false,H,I.tok _,rfl,q⟩
   |bool=>exact IsiPair.tuple_bool e a ⟨.bl false,H,I.tok _,rfl,q⟩
   |str=>exact IsiPair.tuple_str e a ⟨.bl false,H,I.tok _,rfl,q⟩
   |non=>exact IsiPair.tuple_NoneType e a ⟨.bl false,H,I.tok _,rfl,q⟩
   |lst=>exact IsiPair.tuple_list e a ⟨.bl false,H,I.tok _,rfl,q⟩
   |tup=>exact IsiPair.tuple_tuple e a ⟨.bl true,H,I,rfl,q⟩
   |dct=>exact IsiPair.tuple_dict e a ⟨.bl false,H,I.tok _,rfl,q⟩
 |dk d =>
   obtain rfl:u=Value.ref _:=c;obtain⟨f,A,g,E,o,B,C,e,ex,D⟩:=I.hok _ _ d;have a:=ex.1
   cases T with
   |int=>exact IsiPair.dict_int e a ⟨.bl false,H,I.tok _,rfl,q⟩
   |bool=>exact IsiPair.dict_bool e a ⟨.bl false,H,I.tok _,rfl,q⟩
   |str=>exact IsiPair.dict_str e a ⟨.bl false,H,I.tok _,rfl,q⟩
   |non=>exact IsiPair.dict_NoneType e a ⟨.bl false,H,I.tok _,rfl,q⟩
   |lst=>exact IsiPair.dict_list e a ⟨.bl false,H,I.tok _,rfl,q⟩
   |tup=>exact IsiPair.dict_tuple e a ⟨.bl false,H,I.tok _,rfl,q⟩
   |dct=>exact IsiPair.dict_dict e a ⟨.bl true,H,I,rfl,q⟩
def Vv{bs:List Bool}{a:List Value}(r:At (bs.map V.bl) a):TruthOf P w A (λi v=>a.toArray[i]?=some v) (λi=>bs.getD i false):=by
 intro i v s Q E d f;have c:a[i]?=some v:=(by simpa using d);have g:=r.length;rw[Al] at g;have j:i<a.length:=(AN.mp c).1
 have hb:(bs.map V.bl)[i]?=some (V.bl (bs.getD i false)):=by
  rw[A3,EA];have:bs[i]?=some bs[i]:=AD (by lia);rw[this];rfl
 obtain⟨u,b,h⟩:=r.get hb;rw[c] at b;cases b;have e:v=Value.bool (bs.getD i false):=h;subst e;exact F0 f
def YF{bs:List Bool}:(List.range bs.length).all (λi=>bs.getD i false)=bs.all id:=by
 rw[Bool.eq_iff_iff,List.all_eq_true,List.all_eq_true];constructor;intro h b hb;obtain⟨i,a,e⟩:=PK.mp hb;have:=h i (List.mem_range.mpr a);rw[EA,AD a] at this;rw[<-e];exact this;intro h i a;have c:=List.mem_range.mp a;rw[EA,AD c];exact h _ (Ec c)
def Sw (K:Ah):List V->Hp->VK->Prop:=λvs H Q=>∃(a:Addr)(bs:List Bool),vs=[.ref a]/\Ae K H a (bs.map V.bl)/\Q (.bl (bs.all id)) H
def YG(g:X.calm=true):Bi X (.builtin "all") (Sw X.K):=by
 intro B s σ H t w Q I r h;obtain⟨a,bs,rfl,j,q⟩:=h;obtain⟨u,rfl,k⟩:=FP r;obtain rfl:u=Value.ref a:=k;obtain⟨c,d,p,x⟩:=I.list j;have f:=d.length;rw[Al] at f;have n:a<s.heap.objs.size:=by obtain⟨_,e,_⟩:=p.isList;exact Bl e
 refine call_all_walk (wpAny_pyIter_list p.isList ?_);refine⟨s.heap.objs.size,[s.heap.objs.size,a],[s.heap.objs.size],c.toArray.size,(λi v=>c.toArray[i]?=some v),(λi h=>h.IsListIter s.heap.objs.size a i/\h.IsList a c.toArray),(λi=>bs.getD i false),rfl,Walks.list (A:=X.A.in1) (I.ok.hd g) s.heap.objs.size a (Cq n) c.toArray,⟨⟨_,B9 _ rfl,rfl,rfl⟩,p.isList.push _⟩,Vv d,λy tk l=>?_⟩;refine⟨.bl (bs.all id),H,I.kept λb o e=>l b o (λz=>?_) (Ba _ e),?_,q⟩;have m:b=s.heap.objs.size:=(by simpa using z);exact absurd (Bl e) (by rw[m];exact G3 _);have e:c.toArray.size=bs.length:=(by rw[Cf,f]);show Value.bool _=Value.bool _;rw[e,YF]
variable {pins:B'}{σ:St}{s:Shared}
def Inv.track{T:Addr}{o:HO}(I:Inv X pins σ H s)(d:CZ X pins H T)(l:∃ob,s.heap.get? T=some ob)(k:AB X.prog X.w (upd H T o) s.heap T o):Inv X pins σ (upd H T o) s:=by
 obtain⟨a,f,p,g,h,i⟩:=d;refine I.step (g':=s.gens) (t':=s.toks) (d':=s.drawn) (h':=s.heap) (ch:=[T]) (λb hb=>?_) (λb ob ζ ζ ζ e ζ=>e) (λb ob ζ ζ ζ e ζ=>⟨ob.slots,e⟩) (λb ob hb e n=>?_) (λb ob ζ e=>⟨ob,e⟩) (λb xs e=>?_) (λb ob u e=>?_) (λb r e=>?_) (λm j=>j) (λb u e=>?_) I.bare;have e:b=T:=(by simpa using hb);subst e;exact⟨g,f,h,i⟩;rw[AC (by simpa using hb)];exact n;rw[AC (A1 e a)];exact e;rw[AC (A1 e a)];exact e;exact⟨#[],by rw[AC (A1 e a),e];simp⟩;by_cases hb:b=T;subst hb;rw[Aa] at e;cases e;exact k;rw[AC hb] at e;exact(I.hok b u e).stay (λc v ζ q=>q) (λc q=>by rw[AC (A1 q a)];exact q) λc xs q=>by rw[AC (A1 q a)];exact q
def FS (env:Env):List (Str×NameKind)->List (Str×Addr)->List (Str×Addr)
 |[],acc=>acc
 |(n,k)::r,acc=>if k==.free then FS env r ((n,(env.cells.lookup n).getD 0)::acc) else FS env r acc
theorem Sx{env:Env}(f:Str×NameKind->List (Str×Addr)->Sem (ForInStep (List (Str×Addr))))
 (d:∀n k g,f (n,k) g=if(k==NameKind.free)=true then(cellOf env n >>= λa=>pure (.yield ((n,a)::g))) else pure (.yield g)) :
 ∀(names:List (Str×NameKind))(acc:List (Str×Addr)),(∀x∈names,x.2=.free->∃c,env.cells.lookup x.1=some c)->forIn names acc f=pure (FS env names acc)
 |[],acc,_=>by rw[List.forIn_nil];rfl
 |(n,k)::r,acc,h=>by
   rw[List.forIn_cons,d];unfold FS;by_cases b:(k==NameKind.free)=true;rw[Ak b,Ak b];obtain⟨c,j⟩:=h (n,k) Bu (beq_iff_eq.mp b);have e:cellOf env n=pure c:=by unfold cellOf;rw[j]
   rw[e,j];exact Sx f d r _ λx i=>h x (B8 _ i);rw[Aj b,Aj b];exact Sx f d r _ λx i=>h x (B8 _ i)
variable {scope:Scope}{env:Env}
def Vw(h:∀x∈scope.names,x.2=.free->∃c,env.cells.lookup x.1=some c):closureFor scope env=pure (FS env scope.names []):=by
 simp only[closureFor];rw[Sx (env:=env) _ (λn k b=>by cases a:k==NameKind.free<;>simp[a]) scope.names [] h];rfl
theorem Qb{env:Env}:∀{names:List (Str×NameKind)}{acc:List (Str×Addr)}{x:Str}{c:Addr},(x,c)∈FS env names acc->(x,c)∈acc\/((x,NameKind.free)∈names/\c=(env.cells.lookup x).getD 0)
 |[],_,_,_,h=>.inl h
 |(n,k)::r,acc,x,c,h=>by
   unfold FS at h;by_cases a:(k==NameKind.free)=true;rw[Ak a] at h;rcases Qb h with h|⟨h,e⟩;rcases BV.mp h with h|h;cases h;rw[beq_iff_eq.mp a];exact .inr ⟨Bu,rfl⟩;exact .inl h;exact .inr ⟨B8 _ h,e⟩;rw[Aj a] at h;rcases Qb h with h|⟨h,e⟩;exact .inl h;exact .inr ⟨B8 _ h,e⟩
theorem Sy{env:Env}:∀{names:List (Str×NameKind)}{acc:List (Str×Addr)}{p:Str×Addr},p∈acc->p∈FS env names acc
 |[],_,_,h=>h
 |(n,k)::r,acc,p,h=>by
   unfold FS;by_cases a:(k==NameKind.free)=true;rw[Ak a];exact Sy (B8 _ h);rw[Aj a];exact Sy h
theorem OA{env:Env}:∀{names:List (Str×NameKind)}{acc:List (Str×Addr)}{x:Str},(x,NameKind.free)∈names->∃c,(x,c)∈FS env names acc
 |(n,k)::r,acc,x,h=>by
   unfold FS;rcases BV.mp h with h|h;cases h;rw[Ak (show(NameKind.free==NameKind.free)=true by rfl)];exact⟨_,Sy Bu⟩;by_cases a:(k==NameKind.free)=true;rw[Ak a];exact OA h;rw[Aj a];exact OA h
theorem Nk{α:Type}:∀{l:List (Str×α)}{x:Str}{c:α},(x,c)∈l->∃a,l.lookup x=some a
 |(n,d)::r,x,c,h=>by
   rw[MW]
   cases hb:x==n with
   |true=>exact⟨d,rfl⟩
   |false =>
     rcases BV.mp h with h|h;cases h;simp at hb;exact Nk h
theorem Kr:∀(names:List (Str×NameKind))(n:Nat)(acc:List (Str×Addr)),cellsFrom n names acc=cellsFrom n names []++acc
 |[],_,_=>rfl
 |(x,k)::r,n,acc=>by
   unfold cellsFrom;by_cases a:(k==NameKind.cell)=true;rw[Ak a,Ak a,Kr r (n+1) ((x,n)::acc),Kr r (n+1) [(x,n)],FZ];rfl;rw[Aj a,Aj a];exact Kr r n acc
theorem Qc:∀{names:List (Str×NameKind)}{n:Nat}{acc:List (Str×Addr)}{x:Str}{c:Addr},(x,c)∈cellsFrom n names acc->(x,c)∈acc\/(x,NameKind.cell)∈names
 |[],_,_,_,_,h=>.inl h
 |(y,k)::r,n,acc,x,c,h=>by
   unfold cellsFrom at h;by_cases a:(k==NameKind.cell)=true;rw[Ak a] at h;rcases Qc h with h|h;rcases BV.mp h with h|h;cases h;rw[beq_iff_eq.mp a];exact .inr Bu;exact .inl h;exact .inr (B8 _ h);rw[Aj a] at h;rcases Qc h with h|h;exact .inl h;exact .inr (B8 _ h)
section
variable {M:Model} {A:Around} {E:D'} {s:Shared}
def YH{a:List (Str×Addr)}{Q:Env->Shared->Prop}
 (b:Q (newEnv scope s.heap.objs.size env.globals (cellsFrom (s.heap.objs.size+1) scope.names a) env.qual none .none (some env) builtinsNs) {s with heap:=pushCells (s.heap.push {cls:=.type "dict",data:=.dict #[]}) scope.names}) :
 wpAny M A (newFunctionEnv scope env.globals a [] env.qual none .none (some env)) Q E s:=by
 simp only[newFunctionEnv,Option.isSome_some,if_true];refine Ad (wpAny_alloc ?_);refine Ad (wpAny_layCells _ (λname d e=>by cases c:d==NameKind.cell<;>simp[c]) _ _ _ _ ?_)
 rw[show({s with heap:=s.heap.push {cls:=.type "dict",data:=.dict #[]}}:Shared).heap.objs.size=s.heap.objs.size+1 from Heap.size_push ..]
 exact Ad (Au (Au b))
end
abbrev ED (X:Cx) (N:List Str) (scope:Scope) (cs:List (Str×Addr)) (C:Addr) (s:Shared) (H:Hp) (ex:List Addr):Cx where
 prog:=X.prog
 w:=X.w
 K:=X.K
 mg:=X.mg
 base:=X.base
 A:=X.A
 N:=N
 s₀:=s
 H₀:=H
 env:=compEnvC scope cs C X.env
 outer:=X.stack
 stack:=X.stack
 ex:=ex
 fn:=λx=>decide (scope.names.lookup x≠some .free)
 calm:=X.calm
 pn:=[]
 xe:=λζ ζ=>False
structure Am (psc:Scope) (PN:List Str) (scope:Scope) (N:List Str) (k:Nat) (caps:List Nat):Prop where
 kind:scope.kind=.function
 loc:∀x∈scope.names,x.2=.local->scope.names.lookup x.1=some .local
 ndn:(scope.names.map (·.1)).Nodup
 nd:N.Nodup
 len:N.length=k+caps.length
 free:∀x∈scope.names,x.2=.free->psc.names.lookup x.1=some .cell\/psc.names.lookup x.1=some .free
 cap:∀p∈(N.drop k).zip caps,PN[p.2]?=some p.1/\scope.names.lookup p.1=some .free
def Fe (k:Nat) (caps:List Nat) (σ:St):St:=List.replicate k none++caps.map λj=>(σ[j]?).getD none
variable {caps:List Nat}{i:Nat}{v:V}
def Vx{k:Nat}(h:(Fe k caps σ)[i]?=some (some v)):∃j,k<=i/\caps[i-k]?=some j/\σ[j]?=some (some v):=by
 unfold Fe at h;by_cases b:i<k;rw[D1 (by simpa using b),List.getElem?_replicate,Ak b] at h;cases h;rw[EB (by simpa using b),List.length_replicate,A3] at h
 cases e:caps[i-k]? with
 |none=>rw[e] at h;cases h
 |some j =>
   rw[e] at h;have a:(σ[j]?).getD none=some v:=Br h;refine⟨j,by lia,rfl,?_⟩
   cases q:σ[j]? with
   |none=>rw[q] at a;cases a
   |some o=>rw[q] at a;exact Bw some a
def Vy{a:NameKind}(h:(relabel scope env).names.lookup x=some a):∃k,(x,k)∈scope.names/\(a=k\/(k=.free/\a=.cell)):=by
 have e:=F1 h;have f:(x,a)∈scope.names.map (λ(n,k)=>if(k==NameKind.free && env.scope.kind==.function && env.kindOf n==some .cell) then(n,NameKind.cell) else(n,k)):=e;obtain⟨⟨n,k⟩,d,b⟩:=AL.mp f;dsimp only at b
 by_cases c:(k==NameKind.free && env.scope.kind==.function && env.kindOf n==some .cell)=true;rw[Ak c] at b;cases b;simp only[Bool.and_eq_true,beq_iff_eq] at c;exact⟨k,d,.inr ⟨c.1.1,rfl⟩⟩;rw[Aj c] at b;cases b;exact⟨a,d,.inl rfl⟩
theorem Vz{f:Str×NameKind->Str×NameKind}(b:∀n k,f (n,k)=(n,k)\/(k=.free/\f (n,k)=(n,NameKind.cell))):∀{names:List (Str×NameKind)}{x:Str},names.lookup x=some .free->(names.map f).lookup x=some .cell\/(names.map f).lookup x=some .free
 |[],_,h=>by simp at h
 |(n,k)::r,x,h=>by
   have d:=@Vz f b r x;rw[MW] at h;rw[Eu]
   cases a:x==n with
   |true =>
     rw[a] at h;cases h;rcases b n .free with e|⟨_,e⟩;right;rw[e,MW,a];left;rw[e,MW,a]
   |false =>
     rw[a] at h;have c:=d h;rcases b n k with e|⟨_,e⟩;rw[e,MW,a];exact c;rw[e,MW,a];exact c
def VA(h:scope.names.lookup x=some .free):(relabel scope env).names.lookup x=some .cell\/(relabel scope env).names.lookup x=some .free:=by
 refine Vz (λn k=>?_) h;by_cases a:(k==NameKind.free && env.scope.kind==.function && env.kindOf n==some .cell)=true;right;refine⟨?_,Ak a⟩;simp only[Bool.and_eq_true,beq_iff_eq] at a;exact a.1.1;left;exact Aj a
def Qd{names:List (Str×NameKind)}(h:(names.map (·.1)).Nodup){k d:NameKind}(a:(x,k)∈names)(b:(x,d)∈names):k=d:=by
 induction names with
 |nil=>simp at a
 |cons p r g =>
   rw[Eu] at h;obtain⟨e,hb⟩:=FM.mp h;rcases BV.mp a with f|a<;>rcases BV.mp b with c|b;rw[<-f] at c;exact(Prod.mk.inj c).2.symm;exact absurd (AL.mpr ⟨_,b,by rw[<-f]⟩) e;exact absurd (AL.mpr ⟨_,a,by rw[<-c]⟩) e;exact g hb a b
variable {h1:Heap}{C:Addr}
def Un.but{fs ex:List Addr}{h d:Heap}(u:Un fs ex H H' h h1)(c:Heap.SameBut C h1 d)(f:h.objs.size<=C):Un fs ex H H' h d:=by
 have ne:∀b o,h.get? b=some o->b≠C:=λb o e=>Cq (Fw (Bl e) f);refine⟨λb o e n hb a=>(c.2 b (ne b o e)).trans (u.keep b o e n hb a),λb o e n hb a=>?_,u.free,λb o e a=>?_,u.tups,u.frzs,u.tbls⟩;obtain⟨g,q⟩:=u.slot b o e n hb a;exact⟨g,(c.2 b (ne b o e)).trans q⟩;obtain⟨i,q⟩:=u.there b o e a;exact⟨i,(c.2 b (ne b o e)).trans q⟩
def CL.but{d:Heap}(x:CL P w H h1)(g:Heap.SameBut C h1 d)(f:H C=none):CL P w H d:=λb u e=>by
 refine(x b u e).stay (λc v a q=>(g.2 c ?_).trans q) (λζ q=>q) λζ ζ q=>q;rintro rfl;rcases a with rfl|a;rw[f] at e;cases e;rw[f] at a;cases a
section
variable {X:Cx} {scope:Scope} {N:List Str} {k:Nat} {caps:List Nat} {psc:Scope} {PN:List Str} {pins:B'} {σ:St} {H:Hp} {s:Shared}
abbrev DH (X:Cx) (scope:Scope) (C:Addr):List (Str×Addr):=cellsFrom (C+1) scope.names (FS X.env scope.names [])
def VB(I:Inv X pins σ H s)(S:Am X.env.scope X.N scope N k caps){c:Addr}(h:(x,c)∈DH X scope C) :
 (x,c)∈cellsFrom (C+1) scope.names []\/X.env.cells.lookup x=some c:=by
 unfold DH at h;rw[Kr] at h;rcases BL.mp h with h|h;exact .inl h;rcases Qb h with h|⟨h,e⟩;simp at h;obtain⟨b,a⟩:=I.ok.has x (S.free _ h rfl);rw[a] at e;exact .inr (by rw[a];exact Bw some e.symm)
def YI{r:List Addr}(I:Inv X pins σ H s)(S:Am X.env.scope X.N scope N k caps)(A:∀b∈r,CZ X pins H b)(ab:∀b∈r,∃o,s.heap.get? b=some o){D C:Nat}{t':Nat}(f:D=s.heap.objs.size)(G:C=D+1)
 (B:h1=pushCells ((s.heap.push {cls:=.type "list",data:=.seq #[]}).push {cls:=.type "dict",data:=.dict #[]}) scope.names) :
 Inv (ED X N scope (DH X scope C) C s H r) [] (Fe k caps σ) (upd H D (.lst [])) {s with heap:=h1,toks:=t'}:=by
 have Y:(s.heap.push {cls:=.type "list",data:=.seq #[]}).objs.size=C:=(by rw[Heap.size_push,G,f]);have Z:((s.heap.push {cls:=.type "list",data:=.seq #[]}).push {cls:=.type "dict",data:=.dict #[]}).objs.size=C+1:=(by rw[Heap.size_push,Y])
 have F:∀b o,s.heap.get? b=some o->h1.get? b=some o:=λb o e=>by
  rw[B];exact pushCells_keeps _ _ b o (Ba _ (Ba _ e))
 have aj:h1.get? D=some {cls:=.type "list",data:=.seq #[]}:=by
  rw[B,f];exact pushCells_keeps _ _ _ _ (Ba _ (B9 _ rfl))
 have ae:h1.Ns C (λζ=>none):=by
  rw[B,<-Y];exact(Heap.Ns.new _ (.type "dict")).keeps (pushCells_keeps _ _)
 have ok:=cellsFrom_ok scope.names ((s.heap.push {cls:=.type "list",data:=.seq #[]}).push {cls:=.type "dict",data:=.dict #[]}) (C+1) [] ⟨λζ ζ d=>(nomatch d),List.Pairwise.nil⟩ (by rw[Z];exact AE _);rw[Z] at ok;have own:∀x c,(x,c)∈cellsFrom (C+1) scope.names []->h1.IsCell c none/\C+1<=c:=λx c h=>by rw[B];exact ok.empty x c h
 have O:∀x c,X.env.cells.lookup x=some c->c<D:=λx c e=>by
  obtain⟨v,q⟩:=I.cell x c e;rw[f];exact q.lt
 have W:∀b∈r,b<D:=λb hb=>by
  obtain⟨o,e⟩:=ab b hb;rw[f];exact Bl e
 have an:H C=none:=I.hok.fresh (by rw[G,f];exact Nat.le_succ _);have split:=λx c(h:(DH X scope C).lookup x=some c)=>VB (C:=C) I S (F1 h);have R:∀b,b≠D->H b=none->(upd H D (.lst [])) b=none:=λb hb e=>by rw[AC hb];exact e
 have ak:∀x,scope.names.lookup x=some .free->∃c,X.env.cells.lookup x=some c/\(DH X scope C).lookup x=some c:=λx t=>by
  have d:=F1 t;obtain⟨E,J⟩:=OA (env:=X.env) (acc:=[]) d;obtain⟨c,T⟩:=Nk (l:=DH X scope C) (x:=x) (c:=E) (by unfold DH;rw[Kr];exact CY _ J);refine⟨c,?_,T⟩;rcases split x c T with q|q;rcases Qc q with z|z;simp at z;have:=Qd S.ndn d z;cases this;exact q
 have af:(ED X N scope (DH X scope C) C s H r).Ok:=by
  refine⟨I.ok.mod,S.kind,I.ok.glob,I.ok.blt,?above,?inj,?has,?cab,I.ok.hd,I.ok.frames,.inl rfl,?exf,λb o e=>I.bs b o e,E8 I.ok.bsz I.sz,?noex,?exfs,I.stack,I.stkFree⟩
  case above =>
   show s.heap.objs.size<=C;rw[G,f];exact Nat.le_succ _
  case inj =>
   intro x y c K L;rcases split x c K with m|m<;>rcases split y c L with p|p;exact name_of_addr ok.apart m p;have h1:@LE.le Nat _ (C+1) c:=(own x c m).2;have a:@LT.lt Nat _ c D:=O y c p;exfalso;lia;have h1:@LE.le Nat _ (C+1) c:=(own y c p).2;have a:@LT.lt Nat _ c D:=O x c m;exfalso;lia;exact I.ok.inj x y c m p
  case has =>
   intro x t;have P:(relabel scope X.env).names.lookup x=some .cell\/(relabel scope X.env).names.lookup x=some .free:=t
   have n:∃g,(x,g)∈scope.names/\(g=.cell\/g=.free):=by
    rcases P with q|q;obtain⟨g,h1,a⟩:=Vy q;rcases a with a|⟨a,_⟩;exact⟨g,h1,.inl a.symm⟩;exact⟨g,h1,.inr a⟩;obtain⟨g,h1,a⟩:=Vy q;rcases a with a|⟨_,a⟩;exact⟨g,h1,.inr a.symm⟩;cases a
   obtain⟨g,d,n|n⟩:=n;subst n
   have q:=PySem.W.cellsFrom_some scope.names (C+1) (FS X.env scope.names []) (x:=x) (.inl (by
    obtain⟨k2,w⟩:=Nk d
    rw[w,Qd S.ndn (F1 w) d]))
   exact Option.isSome_iff_exists.mp q;subst n;obtain⟨E,J⟩:=OA (env:=X.env) (acc:=[]) d;exact Nk (c:=E) (by show(x,E)∈DH X scope C;unfold DH;rw[Kr];exact CY _ J)
  case cab =>
   intro x c t e;have P:decide (scope.names.lookup x≠some .free)=true:=t;have ag:=BM P;show s.heap.objs.size<=c;have e':(DH X scope C).lookup x=some c:=e;have d:=F1 e';unfold DH at d;rw[Kr] at d;rcases BL.mp d with z|z;have h1:@LE.le Nat _ (C+1) c:=(own x c z).2;have a:@LE.le Nat _ s.heap.objs.size c:=(by lia);exact a;rcases Qb z with z|⟨z,_⟩;simp at z;obtain⟨k2,w⟩:=Nk z;exact absurd (by rw[w,Qd S.ndn (F1 w) z]) ag
  case exf =>
   intro b hb;refine⟨?_,λx c e z=>?_⟩;have h1:@LT.lt Nat _ b D:=W b hb;exact Cq (show @LT.lt Nat _ b C by lia);rcases split x c e with q|q;have h1:@LE.le Nat _ (C+1) c:=(own x c q).2;have a:@LT.lt Nat _ b D:=W b hb;have U:@Eq Nat c b:=z;lia;exact(A b hb).2.2.2.2.1 x c q z
  case noex =>
   intro b o e hb;rcases(A b hb).2.2.2.1 with q|q;exact I.ok.noex b o e q;exact absurd (Fw (Bl e) (E8 I.ok.bsz q)) (G3 _)
  case exfs =>
   intro b hb z;have U:b∈EH X.stack:=z;rcases BV.mp (I.stkSub b U) with q|q;exact(A b hb).2.1 q;exact(A b hb).2.2.1 q
 refine⟨af,rfl,I.bare,Un.laid F (by rw[f];exact AE _) (I.hok.fresh (by rw[f];exact AE _)),⟨_,ae,?loc⟩,?cell,R _ (show @Ne Nat C D by lia) an,?freeC,λao M=>absurd M (by simp),?hok,?len⟩
 case loc =>
  intro i x v K L e3;obtain⟨j,hi,hj,hv⟩:=Vx L
  have hz:(x,j)∈(N.drop k).zip caps:=by
   refine List.mem_iff_getElem?.mpr ⟨i-k,?_⟩;rw[List.getElem?_zip_eq_some];refine⟨?_,hj⟩;rw[List.getElem?_drop,show k+(i-k)=i by lia];exact K
  obtain⟨M,Q⟩:=S.cap (x,j) hz;have n:=S.free (x,.free) (F1 Q) rfl;obtain⟨aq,hn,hl⟩:=I.loc;obtain⟨u,aa,l⟩:=hl j x v M hv (by rcases n with q|q;exact .inr (.inl q);exact .inr (.inr q));refine⟨u,aa,?_⟩;obtain⟨c,ah,ai⟩:=ak x Q
  have al:s.heap.IsCell c (some u):=by
   rcases l with⟨q,_⟩|⟨_,c',m,p⟩;have V:X.env.scope.names.lookup x=some .local:=q;rcases n with z|z;rw[V] at z;cases z;rw[V] at z;cases z;rw[ah] at m;cases m;exact p
  exact .inr ⟨VA Q,c,ai,al.keeps F⟩
 case cell =>
  intro x c e;rcases split x c e with q|q;exact⟨_,(own x c q).1⟩;obtain⟨v,z⟩:=I.cell x c q;exact⟨v,z.keeps F⟩
 case freeC =>
  intro x c e;rcases split x c e with q|q;have h1:@LE.le Nat _ (C+1) c:=(own x c q).2;have a:@LE.le Nat _ s.heap.objs.size c:=(by lia);exact R c (show @Ne Nat c D by lia) (I.hok.fresh a);exact R c (Cq (O x c q)) (I.freeC x c q)
 case hok =>
  exact I.hok.laid F (by rw[f];exact AE _) ⟨C7 _,[],0,.nil,aj⟩
 case len =>
  show(Fe k caps σ).length=N.length;unfold Fe;rw[AZ,List.length_replicate,Al,S.len]
def YJ{a:List Addr}(I:Inv X pins σ H s)(S:Am X.env.scope X.N scope N k caps){p:B'}{σ':St}{L:Shared}(Q:∀x c,X.env.cells.lookup x=some c->c∉a)(U:s.heap.objs.size<=C)
 (J:Inv (ED X N scope (DH X scope C) C s H a) p σ' H' L):Inv (ED X N scope (DH X scope C) C s H a) p (Fe k caps σ) H' L:=by
 obtain⟨m,t,_⟩:=id J.loc;refine⟨J.ok,J.os,J.bare,J.base,⟨m,t,λi x v w y V=>?_⟩,J.cell,J.free,J.freeC,J.pin,J.hok,?_⟩;obtain⟨j,W,A,B⟩:=Vx y
 have D:(x,j)∈(N.drop k).zip caps:=by
  refine List.mem_iff_getElem?.mpr ⟨i-k,?_⟩;rw[List.getElem?_zip_eq_some];refine⟨?_,A⟩;rw[List.getElem?_drop,show k+(i-k)=i by lia];exact w
 obtain⟨E,b⟩:=S.cap (x,j) D;have e:=S.free (x,.free) (F1 b) rfl;obtain⟨Y,aa,F⟩:=I.loc;obtain⟨u,r,l⟩:=F j x v E B (by rcases e with q|q;exact .inr (.inl q);exact .inr (.inr q));refine⟨u,r,?_⟩
 have T:∃c,X.env.cells.lookup x=some c/\s.heap.IsCell c (some u):=by
  rcases l with⟨q,_⟩|⟨_,f,G,K⟩;have g:X.env.scope.names.lookup x=some .local:=q;rcases e with z|z;rw[g] at z;cases z;rw[g] at z;cases z;exact⟨f,G,K⟩
 obtain⟨c,d,o,M,hd⟩:=T
 have R:(DH X scope C).lookup x=some c:=by
  have h:=F1 b;obtain⟨O,P⟩:=OA (env:=X.env) (acc:=[]) h;obtain⟨f,n⟩:=Nk (l:=DH X scope C) (x:=x) (c:=O) (by unfold DH;rw[Kr];exact CY _ P);rcases VB (C:=C) I S (F1 n) with q|q;rcases Qc q with z|z;simp at z;have:=Qd S.ndn h z;cases this;rw[d] at q;cases q;exact n
 obtain⟨Z,q⟩:=J.base.any M (I.freeC x c d) (Q x c d);exact .inr ⟨VA b,c,R,_,q,hd⟩;show(Fe k caps σ).length=N.length;unfold Fe;rw[AZ,List.length_replicate,Al,S.len]
end
def PF (X:Cx) (f:List Expr) (t:TT):Prop:=
 ∀(pins:B')(s:Shared)(σ:St)(H:Hp)(Q:Bool->Hp->Prop),Inv X pins σ H s->t σ H Q ->
  wpAny (model X.prog X.w) X.A (forIn f true λc r=>if r=true then do let ok <-isTrue c X.env (eval c X.env);pure (ForInStep.yield ok) else pure (ForInStep.yield r)) (TP X pins σ Q) X.xe s
def Hm:TT:=λζ H Q=>Q true H
def F9:PF X [] Hm:=λζ ζ ζ H ζ I h=>wpAny_tests_nil ⟨H,I,h⟩
def OB{c:Expr}{t:TT}(h:PT X c t):PF X [c] t:=λpins s σ H Q I a=>wpAny_tests_one (h pins s σ H Q I a)
variable {l j:Expr}{f:List Expr}
def YK{prog:Program}{R:Result->Shared->Prop}{target:Expr}{pos:Pos}{it acc:Value}(I:Nat->Shared->Prop)
 (turn:∀n s,I n s->wpAny (model prog w) A (pyNext it) (λr b=>match r with
  |none=>R (.ok .next) b
  |some v=>wpAny (model prog w) A (letOwnedTupleGo target it v) (λζ b=>wpAny (model prog w) A (assign target env v) (λζ g =>
   wpAny (model prog w) A (forIn f true λc r=>if r=true then do let ok <-isTrue c env (eval c env);pure (ForInStep.yield ok) else pure (ForInStep.yield r)) (λok e =>
    if ok=true then wpAny (model prog w) A (eval l env) (λx i =>
     wpAny (model prog w) A (call (.builtin "list.append") [acc,x]) (λζ k=>∃m,m<n/\I m k) (λζ ζ=>False) i) (λζ ζ=>False) e
    else ∃m,m<n/\I m e) (λζ ζ=>False) g) (λζ ζ=>False) b) (λζ ζ=>False) b) (λζ ζ=>False) s)
 (n:Nat) (h:I n s) :
 codeAny (model prog w) A (.compLoop (.ListComp l [⟨target,j,f,0⟩] scope pos) 0 it acc env) R s:=by
 refine codeAny_loop rfl I (λn s p=>?_) n h
 show wpAny _ A ((compTurn (.ListComp l [⟨target,j,f,0⟩] scope pos) 0 it acc env).onRaise (λx=>do noteFrame x env;theTreesLotGoes x)) _ _ s
 refine wpAny_noted ?_;rw[compTurn_list];refine Ad (wpAny_standAt (Ad (Fy (turn n s p) (λr b d=>?_) λζ ζ a=>a.elim)))
 cases r with
 |none=>exact Au d
 |some v =>
   refine Ad (Fy d (λζ b d=>?_) λζ ζ a=>a.elim);refine Ad (Fy d (λζ g q=>Ad (Fy q (λok e o=>?_) λζ ζ a=>a.elim)) λζ ζ a=>a.elim)
   cases ok with
   |false=>exact Au ⟨rfl,o⟩
   |true =>
     exact Ad (Ad (Fy o (λx i t=>Ad (Fy t (λζ k u=>Au (Au ⟨rfl,u⟩)) λζ ζ a=>a.elim)) λζ ζ a=>a.elim))
def Iq (J:It) (k:Nat) (caps:List Nat) (g:TG) (tc:TT) (te:TE) (σ:St) (Y:Hp) (Q:Addr->Hp->Prop):Prop:=∀D,Y D=none->∃W:Nat->Nat->List V->Hp->Prop,(∃m,W 0 m [] (upd Y D (.lst [])))/\∀i m ys H2,W i m ys H2 ->
 (J.stop i H2/\Q D H2)\/(J.go i H2/\∀x H3,J.yld i H2 x H3->g x (Fe k caps σ) H3 λσ4 H4=>tc σ4 H4 λb H5 =>
  if b=true then te σ4 H5 λy H6=>H6 D=some (.lst ys)/\ys.length<sizeLine/\∃m',m'<m/\W (i+1) m' (ys++[y]) (upd H6 D (.lst (ys++[y]))) else ∃m',m'<m/\W (i+1) m' ys H5)
def Ks (k:Nat) (caps:List Nat) (wi:TI) (g:TG) (tc:TT) (te:TE):TE:=λσ H Q=>wi σ H λJ Y=>Iq J k caps g tc te σ Y λD H2=>Q (.ref D) H2
variable {g:TG}{tc:TT}{te:TE}
def LJ{J:It}{k:Nat}{Q:Addr->Hp->Prop}(n:Nat)(Pv:Addr->Nat->List V->Hp->Prop)(l:∀D,Y D=none->Pv D 0 [] (upd Y D (.lst [])))
 (go:∀D i ys a,Pv D i ys a->i<n->J.go i a) (stop:∀D ys a,Pv D n ys a->J.stop n a)
 (o:∀D i ys a x d(R:VK)(j:Hp->Prop),Y D=none->i<n->Pv D i ys a->J.yld i a x d->(∀y e,e D=some (.lst ys)->ys.length<sizeLine->Pv D (i+1) (ys++[y]) (upd e D (.lst (ys++[y])))->R y e)->(∀c,Pv D (i+1) ys c->j c)->g x (Fe k caps σ) d λσ4 q=>tc σ4 q λb c=>if b=true then te σ4 c R else j c)
 (hd:∀D ys a,Y D=none->Pv D n ys a->Q D a):Iq J k caps g tc te σ Y Q:=by
 intro D h;refine⟨λi m ys a=>m=n-i/\i<=n/\Pv D i ys a,⟨n,rfl,C7 _,l D h⟩,?_⟩;rintro i m ys a ⟨rfl,w,p⟩;by_cases f:i<n;exact .inr ⟨go D i ys a p f,λx d y=>o D i ys a x d _ _ h f p y (λv e r s t=>⟨r,s,n-(i+1),by lia,rfl,f,t⟩) λc u=>⟨n-(i+1),by lia,rfl,f,u⟩⟩
 . obtain rfl:i=n:=by lia
   exact .inl ⟨stop D ys a p,hd D ys a h p⟩
variable {tg:Expr}{N:List Str}
def VC{pos:Pos}{k:Nat}{E:D'}{Q:VK}
 {it:Addr} {a:List Addr} {F:Nat->Heap->Prop} {J:It} {M:Value->Addr->Result->Shared->Prop} (hc:X.calm=true) (S:Am X.env.scope X.N scope N k caps) (I:Inv X pins σ H s)
 (T:F7 X.prog X.w X.K tg J a it F) (st:F 0 s.heap) (h:∀b∈a,CZ X pins H b)
 (hg:∀G C s H ex,PG (ED X N scope G C s H ex) tg g) (ht:∀G C s H ex,PF (ED X N scope G C s H ex) f tc) (he:∀G C s H ex,PE (ED X N scope G C s H ex) l te)
 (q:Iq J k caps g tc te σ H λD H2=>Q (.ref D) H2)
 (an:∀D C H' L m,C≠X.env.locals->(∀x c,X.env.cells.lookup x=some c->c≠C)->L.heap.Ns C m->(∀h',Heap.SameBut C L.heap h'->Inv X pins σ H' {L with heap:=h'})->H' C=none->s.heap.objs.size<=C->Q (.ref D) H'->M (.ref D) C (.ok .next) L) :
 wpAny (model X.prog X.w) X.A (newList []) (λacc s₃=>wpAny (model X.prog X.w) X.A (newFunctionEnv scope X.env.globals (FS X.env scope.names []) [] X.env.qual none .none (some X.env)) (λai s₄ =>
  codeAny (model X.prog X.w) X.A (.compStart (.ListComp l [⟨tg,j,f,0⟩] scope pos) 0 (.ref it) acc {ai with scope:=relabel scope X.env}) (M acc ai.locals) s₄) E s₃) E s:=by
 refine wpAny_newObj_type (YH ?_);generalize d:s.heap.objs.size=D;have a0:(s.heap.push {cls:=.type "list",dict:=none,data:=.seq ([]:List Value).toArray}).objs.size=D+1:=(by rw[Heap.size_push,d]);dsimp only;rw[a0];have aa:∀b∈a,∃o,s.heap.get? b=some o:=λb hb=>let ⟨o,e,_⟩:=T.obj 0 _ st b hb;⟨o,e⟩;have ao:H D=none:=I.hok.fresh (by rw[d];exact AE _);have J0:=YI (t':=s.toks) I S h aa (D:=D) (C:=D+1) d.symm rfl rfl;have aq:∀x c,X.env.cells.lookup x=some c->c∉a:=λx c e hb=>(h c hb).2.2.2.2.1 x c e rfl
 have ab:∀{B:B'}{H':Hp},(∀b∈a,H' b=none)->B=[]->∀b∈a,CZ (ED X N scope (DH X scope (D+1)) (D+1) s H a) B H' b:=λ{B H'}P R b hb=>by
  obtain⟨o,e⟩:=aa b hb;have ar:@LT.lt Nat _ b D:=by rw[<-d];exact Bl e
  subst R;refine⟨P b hb,?_,λz=>?_,.inl hb,λx c e=>(J0.ok.exf b hb).2 x c e,λa1 R=>absurd R (by simp)⟩;show @Ne Nat b (D+1);lia;have U:b∈EH X.stack:=z;rcases BV.mp (I.stkSub b U) with w|w;exact(h b hb).2.1 w;exact(h b hb).2.2.1 w
 obtain⟨W,⟨m0,w0⟩,turn⟩:=q D ao;have af:F 0 (pushCells ((s.heap.push {cls:=.type "list",data:=.seq #[]}).push {cls:=.type "dict",data:=.dict #[]}) scope.names):=T.keep 0 _ _ st λb hb o e=>pushCells_keeps _ _ b o (Ba _ (Ba _ e))
 have au:∀b∈a,(upd H D (.lst [])) b=none:=λb hb=>by
  obtain⟨o,e⟩:=aa b hb;have ar:@LT.lt Nat _ b D:=by rw[<-d];exact Bl e
  rw[AC (show @Ne Nat b D by lia)];exact(h b hb).1
 have av:∀{H':Hp}{L:Shared}{σ':St}{B:B'},Inv (ED X N scope (DH X scope (D+1)) (D+1) s H a) B σ' H' L->Q (.ref D) H'->M (.ref D) (D+1) (.ok .next) L:=λ{H' L σ' B}J q=>by
  obtain⟨m,P,_⟩:=id J.loc;refine an D (D+1) H' L m (λz=>?_) (λx c e z=>?_) P (λh' hs=>?_) J.free (by rw[d];exact Nat.le_succ _) q;have h1:@LT.lt Nat _ X.env.locals D:=by rw[<-d];exact I.lt
  have U:@Eq Nat (D+1) X.env.locals:=z;lia;obtain⟨v,y⟩:=I.cell x c e;have h1:@LT.lt Nat _ c D:=by rw[<-d];exact y.lt
  have U:@Eq Nat c (D+1):=z;lia;refine I.call' (ch:=a) J.os (J.base.but hs (by rw[d];exact Nat.le_succ _)) (J.hok.but hs J.free) J.bare λb hb=>?_;exact⟨(h b hb).2.2.2.1,(h b hb).2.1,(h b hb).2.2.2.2.1,(h b hb).2.2.2.2.2⟩
 have aj:codeAny (model X.prog X.w) X.A (.compLoop (.ListComp l [⟨tg,j,f,0⟩] scope pos) 0 (.ref it) (.ref D) (compEnvC scope (DH X scope (D+1)) (D+1) X.env)) (M (.ref D) (D+1))
  {s with heap:=pushCells ((s.heap.push {cls:=.type "list",data:=.seq #[]}).push {cls:=.type "dict",data:=.dict #[]}) scope.names}:=by
  refine YK (λn L=>∃i p H',Inv (ED X N scope (DH X scope (D+1)) (D+1) s H a) [] (Fe k caps σ) H' L/\F i L.heap/\(∀b∈a,H' b=none)/\W i n p H') ?_ m0 ⟨0,[],_,J0,af,au,w0⟩;rintro n s3 ⟨i,p,Y,I3,ag,ah,w3⟩;rcases turn i n p Y w3 with⟨stop,qn⟩|⟨go,step⟩
  . refine AU (T.done (ED X N scope (DH X scope (D+1)) (D+1) s H a) rfl rfl rfl hc i [] s3 _ Y _ I3 (ab ah rfl) ag stop) λak s4⟨Z,I4⟩=>?_
    subst Z;exact av I4 qn
  refine AU (T.item (ED X N scope (DH X scope (D+1)) (D+1) s H a) rfl rfl rfl hc i [] s3 _ Y _ I3 (ab ah rfl) ag go) λak s4⟨al,Z,h4⟩=>?_;subst Z;refine AU h4 λ_ s5⟨x,H5,I5,r5,y5,ae,aw⟩=>?_;have ax:=I5.pinned (ab aw rfl) (T.obj _ _ ae)
  have again:∀{σ7:St}{t:Hp}{u:Shared}{r:Nat}{zs:List V},Inv (ED X N scope (DH X scope (D+1)) (D+1) s H a) ([]++N7 a s5.heap) σ7 t u->r<n->W (i+1) r zs t ->
   ∃m,m<n/\∃i p H',Inv (ED X N scope (DH X scope (D+1)) (D+1) s H a) [] (Fe k caps σ) H' u/\F i u.heap/\(∀b∈a,H' b=none)/\W i m p H':=λ{σ7 t u r zs}A K w7=>by
   refine⟨r,K,i+1,zs,t,YJ I S aq (by rw[d];exact Nat.le_succ _) A.unpinned,T.keep _ _ _ ae λb hb o e=>(A.pin (b,o) (CY _ (CY _ (P7 hb e)))).1,λb hb=>?_,w7⟩;obtain⟨o,e,a2⟩:=T.obj _ _ ae b hb;exact(A.pin (b,o) (CY _ (CY _ (P7 hb e)))).2.1
  refine AU (hg _ _ _ _ _ _ s5 _ H5 x al _ ax r5 (step x H5 y5)) λ_ s6⟨σ6,H6,I6,q6⟩=>?_;refine AU (ht _ _ _ _ _ _ s6 σ6 H6 _ I6 q6) λb u⟨t,A,O⟩=>?_
  cases b with
  |false =>
    rw[Aj CB] at O ⊢;obtain⟨r,K,w7⟩:=O;exact again A K w7
  |true =>
    rw[Ak rfl] at O ⊢;refine AU (he _ _ _ _ _ _ u σ6 t _ A O) λy s8⟨yv,H8,I8,r8,ay,az,r,K,w8⟩=>?_;refine AU (Vm (X:=ED X N scope (DH X scope (D+1)) (D+1) s H a) _ s8 σ6 H8 (.ref D) [yv] (.ref D) [y] (λζ H9=>W (i+1) r (p++[yv]) H9) I8 rfl (.cons r8 .nil) ⟨p,ay,az,w8⟩) λ_ s9⟨_,H9,I9,_,w9⟩=>?_;exact again I9 K w9
 exact codeAny_compStart_list aj (T.self _ 0 _ _ _ af aj)
def GC{pos:Pos}{k:Nat}{b:TI}(c:X.calm=true)(S:Am X.env.scope X.N scope N k caps)(d:PI X tg j b)
 (i:∀a C s H ex,PG (ED X N scope a C s H ex) tg g) (n:∀a C s H ex,PF (ED X N scope a C s H ex) f tc) (o:∀a C s H ex,PE (ED X N scope a C s H ex) l te)
 (p:∀x,foldedSetIterable j X.env x=pure x:=by intro _;rfl):PE X (.ListComp l [⟨tg,j,f,0⟩] scope pos) (Ks k caps b g tc te):=by
 intro pins s σ H Q I h;have E:closureFor scope X.env=pure (FS X.env scope.names []):=Vw λx r F=>I.ok.has x.1 (S.free x r F);rw[eval_ListComp];refine wpAny_comprehension_free (use:=none) rfl p E S.kind S.loc (AU (d pins s σ H _ I h) λv M h1=>AU h1 λV O t=>?_);obtain⟨it,P,R,J,U,e,u,T,G,w,q⟩:=t;subst e;refine VC (Q:=Q) c S u T G w i n o q ?_;intro D C H' L m _ _ y z _ _ A;exact⟨m,y,λB K=>⟨.ref D,H',z B K,rfl,A⟩⟩
def LL{pos E:Pos}{k:Nat}{t:Pos}{u:TI}(F:X.N.Nodup)(aa:X.N[i]?=some x)(n:Loc X.env.scope x)
 (G:X.calm=true) (S:Am X.env.scope X.N scope N k caps) (J:PI X tg j u)
 (K:∀c C s H ex,PG (ED X N scope c C s H ex) tg g) (M:∀c C s H ex,PF (ED X N scope c C s H ex) f tc) (O:∀c C s H ex,PE (ED X N scope c C s H ex) l te)
 (ab:swapsWith (.ListComp l [⟨tg,j,f,0⟩] scope pos) (some (.Name x t)) E.line X.env=pure true:=by rfl)
 (P:∀x,foldedSetIterable j X.env x=pure x:=by intro _;rfl) (ae:X.fn x=true\/X.env.scope.names.lookup x=some .local:=by first|exact .inl rfl|exact .inr rfl|assumption) :
 PS X (.Assign [.Name x t] (.ListComp l [⟨tg,j,f,0⟩] scope pos) E) (IJ (Ks k caps u g tc te) (Im i)):=by
 intro pins s σ H D I h;have af:closureFor scope X.env=pure (FS X.env scope.names []):=Vw λx n ag=>I.ok.has x.1 (S.free x n ag);rw[exec_Assign_Name_used _ _ _ _ ab];refine Ad (wpAny_standAt (Ad ?_))
 show wpAny _ _ (do let _ <-comprehension (.ListComp l [⟨tg,j,f,0⟩] scope pos) scope X.env _ (newList []) false (eval j X.env) (some (assign (.Name x t) X.env))) _ _ s
 refine Ad (Fy (wpAny_comprehension_free (use:=some (assign (.Name x t) X.env)) (Q:=λζ L=>SP X pins D .next L) rfl P af S.kind S.loc
  (AU (J pins s σ H _ I h) λv s1 h1=>AU h1 λau s2 R=>?_)) (λζ L o=>Au (Au o)) λζ ζ e=>e)
 obtain⟨it,fp,tn,aq,H2,e,r,T,ah,U,q⟩:=R;subst e;refine VC (Q:=λx Y=>Im i x σ Y D.nx) G S r T ah U K M O q ?_;intro w C H' L m y A W Z ai B o;have I3:=Z L.heap (.refl ..);have aj:Inv X pins σ H' L:=I3;refine wpAny_assign_Name (UV aj F aa n (show RelV (V.ref w) (.ref w) from rfl) (λak I4⟨a,al,d⟩=>?_) ae)
 have an:C≠a:=by
  rcases d with d|d;rw[d];exact y;exact Ne.symm (A x a d)
 refine⟨m,W.sameBut al an,λh' ao=>?_⟩;refine⟨_,H',?_,o⟩
 exact I4.turned (t':=ak.toks) (λb ar hb e=>(ao.2 b hb).trans e) ai y (.inr (E8 r.sz B)) A λp hp z=>by
  have:=Bl (r.pin p hp).1;rw[z] at this;exact absurd (Fw this B) (G3 _)
def BI (P:Program) (w:World) (K:Ah) (mg:Str->Option Value) (base:Heap) (x:Str) (k:Nat) (ps:List Str) (sp:Sp):Prop:=
 ∃f fd,Eg P w K mg base Ip k f fd ps sp/\mg x=some (.ref f)/\PySem.W.keepIn K (.ref f)=true/\Binds K fd ps []
section
variable {X:Cx} {x:Str} {k:Nat} {ps:List Str} {sp:Sp} {e:Expr} {es:List Expr} {t:TA} {p pos:Pos}
def A7(C:BI X.prog X.w X.K X.mg X.base x k ps sp)(a:PA X (e::es) t)(b:BX k X.A:=by exact BX.mono (by assumption) (by decide))(c:Gl X x:=by rfl)(i:(x==("__debug__" : Str))=false:=by decide)
 (d:starEach (e::es) X.env=(false,eval e X.env)::starEach es X.env:=by rfl) (j:(backTo pos (starEach es X.env)).any (·.1)=false:=by rfl):PE X (.Call (.Name x p) (e::es) [] pos) (Hc sp [] E0 t):=by
 obtain⟨f,fd,F,g,h,hb⟩:=C;exact IQ F b c g h hb .nil Oz a i d j
end
def Ja{pos:Pos}(n:String)(a:Gl X x)(b:X.mg x=none)(hv:bootBuiltins x=some (.type n))(c:x ≠ "__name__" :=by decide)(hd:(x==("__debug__" : Str))=false:=by decide):PE X (.Name x pos) (tC (.ty n)):=IE (v:=.ty n) a b hv rfl c hd
def Nl{t u:TS}{D:Ends}{σ:L2.St}(P:L2.St->Hp->Prop)(a:∀σ' H',P σ' H'->u D σ' H')(b:∀N:L2.St->Hp->Prop,(∀σ' H',P σ' H'->N σ' H')->t {D with nx:=N} σ H):K9 t u D σ H:=b (u D) a
def Ac.upd{H H':Hp}{D:Addr}{o:HO}(h:Ac H H')(a:H D=none):Ac H (upd H' D o):=λb u e=>by
 rw[AC (A1 e a)];exact h b u e
def Ac.seqT{K:Ah}(e:Ac H H')(h:Ar K H a xs):Ar K H' a xs:=by
 rcases h with(h|⟨o,h⟩)|h;exact .inl (.inl (e _ _ h));exact .inl (.inr ⟨o,e _ _ h⟩);exact .inr h
def Sz{K:Ah}{k:Nat}{Q:Addr->Hp->Prop}(f:V->V)(s:xs.length<=sizeLine)(l:Ae K Y a xs)
 (r:∀(i:Nat)(x:V)(b:Hp)(D:Addr)(R:VK),xs[i]?=some x->Ac Y b->Y D=none->(∀h,Ac b h->R (f x) h)->g x (Fe k caps σ) b λσ4 m=>te σ4 m R)
 (hd:∀(b:Hp)(D:Addr),Ac Y b->Y D=none->b D=some (.lst (xs.map f))->Q D b):Iq (Nc K a) k caps g Hm te σ Y Q:=by
 refine LJ xs.length (λD i c b=>c=(xs.take i).map f/\Ac Y b/\b D=some (.lst c)) (λD d=>⟨rfl,(Ac.refl _).upd d,Aa⟩) (λD i c b p n=>⟨xs,xs[i],p.2.1.seq l,by simp[n]⟩) (λD c b p=>⟨xs,p.2.1.seq l,AE _⟩) (λD i c b x h R t d n p y k u=>?_) λD c b d p=>?_;obtain⟨rfl,y⟩:=y;obtain⟨rfl,e,j⟩:=p;have o:=y xs (e.seq l);refine r i x h D _ o e d λm q=>k _ _ (q _ _ j) (by rw[Al,Fn];lia) ⟨?_,(e.trans q).upd d,Aa⟩;rw[EG,o,Bh];rfl;obtain⟨rfl,e,j⟩:=p;rw[Ev] at j;exact hd b D e d j
def Bj (ns:List Int) (k:Int):Int:=(ns[k.toNat]?).getD 0
def SA{u:TS}{D:Ends}(h:u D (σ.set i (some v)) H):K9 (IJ (tC v) (Im i)) u D σ H:=h
def SD{k:Int}(a:0<=k)(h1:k<n):GQ n k=some k.toNat:=by
 unfold GQ;rw[Ak a,Ak h1]
def VD(xs:List V)(n:Nat):FC xs none (some (n:Int))=xs.take n:=by
 unfold FC;rw[HT.sIx_none,HT.sIx_nat,List.drop_zero,Nat.sub_zero];by_cases h:n<=xs.length;rw[Nat.min_eq_left h];rw[Nat.min_eq_right (by lia),List.take_of_length_le (AE _),List.take_of_length_le (by lia)]
def SE(xs:List V)(n:Nat):FC xs (some (n:Int)) none=xs.drop n:=by
 unfold FC;rw[HT.sIx_none,HT.sIx_nat];by_cases h:n<=xs.length;rw[Nat.min_eq_left h,List.take_of_length_le (by rw[G2];exact AE _)];rw[Nat.min_eq_right (by lia),List.drop_of_length_le (AE _),List.drop_of_length_le (by lia)]
 simp
def AR{p:Addr}{o:HO}(h:H p=none):Ac H (upd H p o):=(Ac.refl H).upd h
def EE{σ:L2.St}{N:L2.St->Hp->Prop}(h:N (σ.set i (some v)) H):Im i v σ H N:=h
section
variable {X:Cx}
def FD:Km X "list.append" Vl:=Vm
def OC:Km X "list.extend" Vn:=Yu
def VE:Km X "list.clear" Hg:=Yv
end
abbrev LM:R2:=rI (λζ j=>0<j) λi j=>.int (i%j)
abbrev OD:R2:=rI Ob λi j=>.int (i/j)
section
variable {X:Cx}
def Jb (neg:Bool):R2:=λx y H Q=>∃a o,y=.ref a/\C8 H a x o/\Q (.bl (o.isSome != neg)) H
def VF(b:X.A.units+1<cLine):DF X (compareOp .In) (Jb false):=by
 intro pins s σ H x y v u Q I c d h;obtain⟨a,o,rfl,g,q⟩:=h;cases d;refine Sr b I g c λL e=>⟨.bl _,H,e,?_,q⟩;cases o<;>rfl
def YL:V->V->V->Hp->(Hp->Prop)->Prop:=λo i v H Q=>∃a H',o=.ref a/\Hj H a i v H'/\Q H'
def YM(b:X.A.units+1<cLine):II X YL:=by
 intro pins s σ H o i v j k u Q I c d e h;obtain⟨a,H',rfl,g,q⟩:=h;cases c;exact Yx b I g d e λL f=>⟨H',f,q⟩
def VG{a:Expr}{b:TE}(c:PE X a b)(d:∀whole,isTrue a X.env whole=(do let v <-whole;standAt a.pos;holding [v] (truthy v)):=by intro _;rfl) :
 PT X a (λσ H Q=>b σ H λx Y=>∃p xs,x=.ref p/\Ae X.K Y p xs/\Q (!xs.isEmpty) Y):=by
 intro pins s σ H Q I e;refine isTrue_plain (AU (c pins s σ H _ I e) λv f⟨x,Y,g,h,i⟩=>?_) (d _);obtain⟨p,xs,rfl,j,q⟩:=i;exact Ls pins f σ Y _ v Q g h ⟨_,Or.inl ⟨xs,j,rfl⟩,q⟩
end
section
variable {prog:Program} {w:World} {A:Around} {R:Result->Shared->Prop} {It:Addr} {fp u:List Addr} {G:Array GenState->Array GenState->Prop} {n:Nat} {Pn:Nat->Value->Prop} {Sn:Nat->Shared->Prop}
end
section
variable {prog:Program} {w:World} {A:Around} {E:D'} {s:Shared}
end
section
variable {X:Cx}
end
open PySem.SeqAt
inductive Dt where
 |non|bl (b:Bool)|int (i:Int)|str (x:Str)|tup (l:List Dt)|lst (l:List Dt)
mutual
inductive An (K:Ah) (H:Hp):V->Dt->Prop where
 | non:An K H .non .non
 | bl (b:Bool):An K H (.bl b) (.bl b)
 | int (i:Int):An K H (.int i) (.int i)
 | str (x:Str):An K H (.str x) (.str x)
 | tup {a:Addr} {vs:List V} {ds:List Dt} (h:Ar K H a vs) (t:Ai K H vs ds):An K H (.ref a) (.tup ds)
 | lst {a:Addr} {vs:List V} {ds:List Dt} (h:Ae K H a vs) (t:Ai K H vs ds):An K H (.ref a) (.lst ds)
inductive Ai (K:Ah) (H:Hp):List V->List Dt->Prop where
 | nil:Ai K H [] []
 | cons {v:V} {d:Dt} {vs:List V} {ds:List Dt} (h:An K H v d) (t:Ai K H vs ds):Ai K H (v :: vs) (d :: ds)
end
mutual
theorem An.same {K:Ah}{H H':Hp} (e:Ac H H') {v:V} {d:Dt} (h:An K H v d):An K H' v d:=by
 cases h with
 | non=>exact .non
 | bl b=>exact .bl b
 | int i=>exact .int i
 | str x=>exact .str x
 | tup h t=>exact .tup (e.seqT h) (Ai.same e t)
 | lst h t=>exact .lst (e.seq h) (Ai.same e t)
theorem Ai.same {K:Ah}{H H':Hp} (e:Ac H H') {vs:List V} {a:List Dt} (h:Ai K H vs a):Ai K H' vs a:=by
 cases h with
 | nil=>exact .nil
 | cons h t=>exact .cons (An.same e h) (Ai.same e t)
end
theorem Ai.length{K:Ah}{H:Hp}:∀{vs:List V}{a:List Dt},Ai K H vs a->vs.length=a.length
 |_,_,.nil=>rfl
 |_,_,.cons _ t=>Bw (·+1) t.length
theorem Ai.get{K:Ah}{H:Hp}:∀{vs:List V}{a:List Dt}{i:Nat}{v:V},Ai K H vs a->vs[i]?=some v->∃d,a[i]?=some d/\An K H v d
 |_,_,_,_,.nil,e=>by simp at e
 |_,_,0,_,.cons h _,e=>by simp at e;subst e;exact⟨_,rfl,h⟩
 |_,_,i+1,v,.cons _ t,e=>by
   obtain⟨d,h1,b⟩:=Ai.get (i:=i) (v:=v) t (by simpa using e);exact⟨d,by simpa using h1,b⟩
theorem Ai.get'{K:Ah}{H:Hp}:∀{vs:List V}{a:List Dt}{i:Nat}{d:Dt},Ai K H vs a->a[i]?=some d->∃v,vs[i]?=some v/\An K H v d
 |_,_,_,_,.nil,e=>by simp at e
 |_,_,0,_,.cons h _,e=>by simp at e;subst e;exact⟨_,rfl,h⟩
 |_,_,i+1,v,.cons _ t,e=>by
   obtain⟨d,h1,b⟩:=Ai.get' (i:=i) (d:=v) t (by simpa using e);exact⟨d,by simpa using h1,b⟩
theorem Ai.strs{K:Ah}{H:Hp}:∀(xs:List Str),Ai K H (xs.map V.str) (xs.map Dt.str)
 |[]=>.nil
 |x::xs=>.cons (.str x) (Ai.strs xs)
section
variable {X:Cx} {pins:B'} {σ:St} {H:Hp} {s:Shared}
def Inv.not_both(I:Inv X pins σ H s){ys:List V}(h:Ae X.K H a xs)(h':Ar X.K H a ys):False:=by
 obtain⟨_,_,⟨o,n,e,c,_⟩,_⟩:=I.list h;obtain⟨_,_,⟨f,b,d,_⟩,_⟩:=I.tuple h';rw[e] at b;cases b;rw[c] at d;exact absurd d (by decide)
mutual
theorem An.inj (I:Inv X pins σ H s) {v:V} {d e:Dt} (h:An X.K H v d) (h':An X.K H v e):d=e:=by
 cases h with
 | non=>cases h';rfl
 | bl _=>cases h';rfl
 | int _=>cases h';rfl
 | str _=>cases h';rfl
 | tup h t=>cases h' with
   | tup h' a =>
     have e:=I.tuple_inj h h';subst e;rw[Ai.inj I t a]
   | lst h' _=>exact(I.not_both h' h).elim
 | lst h t=>cases h' with
   | lst h' a =>
     have e:=I.list_inj h h';subst e;rw[Ai.inj I t a]
   | tup h' _=>exact(I.not_both h h').elim
theorem Ai.inj (I:Inv X pins σ H s) {vs:List V} {a es:List Dt} (h:Ai X.K H vs a) (h':Ai X.K H vs es):a=es:=by
 cases h with
 | nil=>cases h';rfl
 | cons h t=>cases h' with
   | cons h' b=>rw[An.inj I h h',Ai.inj I t b]
end
end
def Dt.kd:Dt->Nat
 |.non=>0|.bl _=>1|.int _=>2|.str _=>3|.tup _=>4|.lst _=>5
def GU (a b:Nat):Bool:=a != b && !(a==1 && b==2) && !(a==2 && b==1)
mutual
inductive C6:Nat->Dt->Dt->Prop where
 | non {n:Nat}:C6 n .non .non
 | bl {n:Nat} (a b:Bool):C6 n (.bl a) (.bl b)
 | int {n:Nat} (a b:Int):C6 n (.int a) (.int b)
 | str {n:Nat} (a b:Str):C6 n (.str a) (.str b)
 | tup {n:Nat} {ds es:List Dt} (t:Bo n ds es):C6 (n+1) (.tup ds) (.tup es)
 | lst {n:Nat} {ds es:List Dt} (t:Bo n ds es):C6 (n+1) (.lst ds) (.lst es)
 | apart {n:Nat} {d e:Dt} (h:GU d.kd e.kd=true):C6 (n+1) d e
inductive Bo:Nat->List Dt->List Dt->Prop where
 | nil {n:Nat} (es:List Dt):Bo n [] es
 | nil' {n:Nat} (ds:List Dt):Bo n ds []
 | cons {n:Nat} {d e:Dt} {ds es:List Dt} (h:C6 n d e) (t:Bo n ds es):Bo n (d :: ds) (e :: es)
end
theorem Bo.of{n:Nat}:∀{a es:List Dt},(∀d∈a,∀e∈es,C6 n d e)->Bo n a es
 |[],es,_=>.nil es
 |d::a,[],_=>.nil' _
 |d::a,e::es,h=>.cons (h d (by simp) e (by simp)) (Bo.of λx b y c=>h x (by simp[b]) y (by simp[c]))
open Classical in
noncomputable def dec (p:Prop):Bool:=decide p
variable {p:Prop}
def Ex(h:p):dec p=true:=@By p (Classical.propDecidable p) h
def Fp(h:¬p):dec p=false:=@Dw p (Classical.propDecidable p) h
def D7:dec p=true↔p:=⟨λh=>@BM p (Classical.propDecidable p) h,Ex⟩
def Nm{q:Prop}(h:p↔q):dec p=dec q:=by rw[propext h]
def SG{α:Type} [BEq α] [LawfulBEq α]{a b:α}(h:p↔a=b):(a==b)=dec p:=by
 by_cases e:a=b;subst e;rw[Ex (h.mpr rfl)];exact beq_self_eq_true _;rw[Fp λq=>e (h.mp q)];exact beq_false_of_ne e
variable {ds es:List Dt}
def YN(b:ds.length=es.length)(h:∀i,i<ds.length->ds[i]?=es[i]?):ds=es:=List.ext_getElem? λi=>by
 by_cases a:i<ds.length;exact h i a;rw[D6 (by lia),D6 (by lia)]
section
variable {X:Cx} {pins:B'} {σ:St} {H:Hp} {s:Shared}
def GV(A:Around):A.in1.units=A.units+1:=rfl
def VH(I:Inv X pins σ H s){vs us:List V}{a b:List Value}(c:At vs a)(f:At us b)(J:Ai X.K H vs ds)(m:Ai X.K H us es)
 (n:∀(i:Nat)(d e:Dt)(v u:V)(x y:Value),ds[i]?=some d->es[i]?=some e->RelV v x->RelV u y->An X.K H v d->An X.K H u e->EqAt A s x y (dec (d=e))) :
 ∀j(h1:j<a.toArray.size)(g:j<b.toArray.size),EqAt A s a.toArray[j] b.toArray[j] (dec (ds[j]?=es[j]?)):=by
 intro j h1 g;have B:=c.length;have C:=f.length;have w:j<a.length:=(by simpa using h1);have z:j<b.length:=(by simpa using g);obtain⟨x,h,o⟩:=c.get (i:=j) (x:=vs[j]'(by lia)) (AD (by lia));obtain⟨y,k,r⟩:=f.get (i:=j) (x:=us[j]'(by lia)) (AD (by lia));obtain⟨d,hd,M⟩:=J.get (i:=j) (v:=vs[j]'(by lia)) (AD (by lia));obtain⟨e,l,te⟩:=m.get (i:=j) (v:=us[j]'(by lia)) (AD (by lia))
 have ex:a.toArray[j]=x:=by
  rw[AD w] at h;simpa using h
 have t:b.toArray[j]=y:=by
  rw[AD z] at k;simpa using k
 rw[ex,t,hd,l];have:=n j d e _ _ x y hd l o r M te;rw[Nm (p:=some d=some e) (q:=d=e) (by simp)];exact this
def VI(a:n=ds.length)(b:ds.length=es.length):(List.range n).all (λj=>dec (ds[j]?=es[j]?))=dec (ds=es):=by
 subst a;by_cases h:ds=es;subst h;rw[Ex rfl,List.all_eq_true];exact λi ζ=>Ex rfl;rw[Fp h,Bool.eq_false_iff];intro q;rw[List.all_eq_true] at q;exact h (YN b λi c=>D7.mp (q i (List.mem_range.mpr c)))
variable {d e:Dt}{u:V}{y:Value}
def YO(I:Inv X pins σ H s){x:Value}(h:GU d.kd e.kd=true)(M:An X.K H v d)(te:An X.K H u e)(j:RelV v x)(f:RelV u y)(c:A.units<cLine):EqAt A s x y false/\RcAt A s x y false/\RcNeAt A s x y true:=by
 cases M with
 |non =>
   cases j
   cases te with
   |non=>exact absurd h (by simp[GU,Dt.kd])
   |bl b =>
     cases f;exact⟨EqAt.none_bool _,RcAt.none_bool _,RcNeAt.none_bool _⟩
   |int b =>
     obtain⟨i,rfl⟩:=f;exact⟨EqAt.none_int _ _,RcAt.none_int _ _,RcNeAt.none_int _ _⟩
   |str b =>
     obtain⟨i,rfl⟩:=f;exact⟨EqAt.none_str _ _,RcAt.none_str _ _,RcNeAt.none_str _ _⟩
   |tup g i =>
     cases f;obtain⟨_,_,J,_⟩:=I.tuple g;exact⟨EqAt.none_tuple J c,RcAt.none_tuple J c,RcNeAt.none_tuple J c⟩
   |lst g i =>
     cases f;obtain⟨_,_,J,_⟩:=I.list g;have J:=J.isList;exact⟨EqAt.none_list J c,RcAt.none_list J c,RcNeAt.none_list J c⟩
 |bl a =>
   cases j
   cases te with
   |non =>
     cases f;exact⟨EqAt.bool_none _,RcAt.bool_none _,RcNeAt.bool_none _⟩
   |bl b=>exact absurd h (by simp[GU,Dt.kd])
   |int b=>exact absurd h (by simp[GU,Dt.kd])
   |str b =>
     obtain⟨i,rfl⟩:=f;exact⟨EqAt.bool_str _ _ _,RcAt.bool_str _ _ _,RcNeAt.bool_str _ _ _⟩
   |tup g i =>
     cases f;obtain⟨_,_,J,_⟩:=I.tuple g;exact⟨EqAt.bool_tuple _ J c,RcAt.bool_tuple _ J c,RcNeAt.bool_tuple _ J c⟩
   |lst g i =>
     cases f;obtain⟨_,_,J,_⟩:=I.list g;have J:=J.isList;exact⟨EqAt.bool_list _ J c,RcAt.bool_list _ J c,RcNeAt.bool_list _ J c⟩
 |int a =>
   obtain⟨t,rfl⟩:=j
   cases te with
   |non =>
     cases f;exact⟨EqAt.int_none _ _,RcAt.int_none _ _,RcNeAt.int_none _ _⟩
   |bl b=>exact absurd h (by simp[GU,Dt.kd])
   |int b=>exact absurd h (by simp[GU,Dt.kd])
   |str b =>
     obtain⟨i,rfl⟩:=f;exact⟨EqAt.int_str _ _ _ _,RcAt.int_str _ _ _ _,RcNeAt.int_str _ _ _ _⟩
   |tup g i =>
     cases f;obtain⟨_,_,J,_⟩:=I.tuple g;exact⟨EqAt.int_tuple _ _ J c,RcAt.int_tuple _ _ J c,RcNeAt.int_tuple _ _ J c⟩
   |lst g i =>
     cases f;obtain⟨_,_,J,_⟩:=I.list g;have J:=J.isList;exact⟨EqAt.int_list _ _ J c,RcAt.int_list _ _ J c,RcNeAt.int_list _ _ J c⟩
 |str a =>
   obtain⟨t,rfl⟩:=j
   cases te with
   |non =>
     cases f;exact⟨EqAt.str_none _ _,RcAt.str_none _ _,RcNeAt.str_none _ _⟩
   |bl b =>
     cases f;exact⟨EqAt.str_bool _ _ _,RcAt.str_bool _ _ _,RcNeAt.str_bool _ _ _⟩
   |int b =>
     obtain⟨i,rfl⟩:=f;exact⟨EqAt.str_int _ _ _ _,RcAt.str_int _ _ _ _,RcNeAt.str_int _ _ _ _⟩
   |str b=>exact absurd h (by simp[GU,Dt.kd])
   |tup g i =>
     cases f;obtain⟨_,_,J,_⟩:=I.tuple g;exact⟨EqAt.str_tuple _ _ J c,RcAt.str_tuple _ _ J c,RcNeAt.str_tuple _ _ J c⟩
   |lst g i =>
     cases f;obtain⟨_,_,J,_⟩:=I.list g;have J:=J.isList;exact⟨EqAt.str_list _ _ J c,RcAt.str_list _ _ J c,RcNeAt.str_list _ _ J c⟩
 |tup h1 k =>
   cases j;obtain⟨_,_,p,_⟩:=I.tuple h1
   cases te with
   |non =>
     cases f;exact⟨EqAt.tuple_none p c,RcAt.tuple_none p c,RcNeAt.tuple_none p c⟩
   |bl b =>
     cases f;exact⟨EqAt.tuple_bool _ p c,RcAt.tuple_bool _ p c,RcNeAt.tuple_bool _ p c⟩
   |int b =>
     obtain⟨i,rfl⟩:=f;exact⟨EqAt.tuple_int _ _ p c,RcAt.tuple_int _ _ p c,RcNeAt.tuple_int _ _ p c⟩
   |str b =>
     obtain⟨i,rfl⟩:=f;exact⟨EqAt.tuple_str _ _ p c,RcAt.tuple_str _ _ p c,RcNeAt.tuple_str _ _ p c⟩
   |tup g i=>exact absurd h (by simp[GU,Dt.kd])
   |lst g i =>
     cases f;obtain⟨_,_,J,_⟩:=I.list g;have J:=J.isList;exact⟨EqAt.tuple_list p J c,RcAt.tuple_list p J c,RcNeAt.tuple_list p J c⟩
 |lst h1 k =>
   cases j;obtain⟨_,_,p,_⟩:=I.list h1;have p:=p.isList
   cases te with
   |non =>
     cases f;exact⟨EqAt.list_none p c,RcAt.list_none p c,RcNeAt.list_none p c⟩
   |bl b =>
     cases f;exact⟨EqAt.list_bool _ p c,RcAt.list_bool _ p c,RcNeAt.list_bool _ p c⟩
   |int b =>
     obtain⟨i,rfl⟩:=f;exact⟨EqAt.list_int _ _ p c,RcAt.list_int _ _ p c,RcNeAt.list_int _ _ p c⟩
   |str b =>
     obtain⟨i,rfl⟩:=f;exact⟨EqAt.list_str _ _ p c,RcAt.list_str _ _ p c,RcNeAt.list_str _ _ p c⟩
   |tup g i =>
     cases f;obtain⟨_,_,J,_⟩:=I.tuple g;exact⟨EqAt.list_tuple p J c,RcAt.list_tuple p J c,RcNeAt.list_tuple p J c⟩
   |lst g i=>exact absurd h (by simp[GU,Dt.kd])
def VJ(I:Inv X pins σ H s){x:Value}(M:An X.K H v d)(te:An X.K H u e)(b:RelV v x)(i:RelV u y)(h:RcAt A s x y (dec (d=e))):EqAt A s x y (dec (d=e)):=by
 by_cases g:x=y;subst g;have j:=b.inj i;subst j;rw[Ex (An.inj I M te)];exact EqAt.same _;intro f w E Q c;unfold eqBool;refine Fa ?_;refine wpAny_ite_split (λk=>absurd (eq_of_beq k) g) (λζ=>?_)
 cases M with
 |non=>cases b;exact Ad (h f w E _ (F0 c))
 |bl a=>cases b;exact Ad (h f w E _ (F0 c))
 |int a=>obtain⟨t,rfl⟩:=b;exact Ad (h f w E _ (F0 c))
 |str a=>obtain⟨t,rfl⟩:=b;exact Ad (h f w E _ (F0 c))
 |tup _ _=>cases b;exact Ad (h f w E _ (F0 c))
 |lst _ _=>cases b;exact Ad (h f w E _ (F0 c))
def OE(h:GU d.kd e.kd=true):¬d=e:=λz=>by
 subst z;simp[GU] at h
set_option tactic.hygienic true in
mutual
theorem SH (I:Inv X pins σ H s) {n:Nat} {d e:Dt} {v u:V} {x y:Value} {A:Around} (c:C6 n d e) (M:An X.K H v d) (te:An X.K H u e) (g:RelV v x) (i:RelV u y) (N:A.units+n<cLine):RcAt A s x y (dec (d=e))/\RcNeAt A s x y (!dec (d=e)):=by
 cases c with
 | non =>
   cases M;cases te;cases g;cases i;rw[Ex rfl];exact⟨RcAt.none_none,RcNeAt.none_none⟩
 | bl a b =>
   cases M;cases te;cases g;cases i;rw[<-SG (a:=a) (b:=b) (by simp)];exact⟨RcAt.bool_bool a b,RcNeAt.bool_bool a b⟩
 | int a b =>
   cases M;cases te;obtain⟨t,rfl⟩:=g;obtain⟨f,rfl⟩:=i;rw[<-SG (a:=a) (b:=b) (by simp)];exact⟨RcAt.int_int a t b f,RcNeAt.int_int a t b f⟩
 | str a b =>
   cases M;cases te;obtain⟨t,rfl⟩:=g;obtain⟨f,rfl⟩:=i;rw[<-SG (a:=a) (b:=b) (by simp)];exact⟨RcAt.str_str a t b f,RcNeAt.str_str a t b f⟩
 | @tup n ds es c =>
   cases M;cases te;rename_i a D h t b E B f;cases g;cases i;obtain⟨k,r,p,_⟩:=I.tuple h;obtain⟨l,m,R,_⟩:=I.tuple B;have F:=r.length;have G:=m.length;have J:=t.length;have K:=f.length;have o:=VH (A:=A.in1) I r m t f (LO I c (by rw[GV];lia))
   have e:dec (Dt.tup ds=Dt.tup es)=((List.range (min k.toArray.size l.toArray.size)).all (fun j=>dec (ds[j]?=es[j]?)) && k.toArray.size == l.toArray.size):=by
    rw[Nm (p:=Dt.tup ds=Dt.tup es) (q:=ds=es) (by simp)];simp only[Cf];by_cases w:ds.length=es.length
    rw[show(k.length == l.length)=true from beq_iff_eq.mpr (by lia),Bool.and_true,VI (by lia) w]
    rw[show(k.length == l.length)=false from beq_false_of_ne (by lia),Bool.and_false,Fp fun z=>w (by rw[z])]
   rw[e];exact⟨RcAt.tuples (A:=A) p R (by lia) o,RcNeAt.tuples (A:=A) p R (by lia) o⟩
 | @lst n ds es c =>
   cases M;cases te;rename_i a D h t b E B f;cases g;cases i;obtain⟨k,r,p,_⟩:=I.list h;obtain⟨l,m,R,_⟩:=I.list B;have F:=r.length;have G:=m.length;have J:=t.length;have K:=f.length;by_cases w:ds.length=es.length;have o:=VH (A:=A.in1) I r m t f (LO I c (by rw[GV];lia));rw[Nm (p:=Dt.lst ds=Dt.lst es) (q:=ds=es) (by simp),<-VI (n:=k.toArray.size) (by simp only[Cf];lia) w];exact⟨RcAt.lists (A:=A) p.isList R.isList (by simp only[Cf];lia) (by lia) o,RcNeAt.lists (A:=A) p.isList R.isList (by simp only[Cf];lia) (by lia) o⟩
   rw[Fp (show ¬Dt.lst ds=Dt.lst es from fun z=>w (by cases z;rfl))]
   have C:(k.toArray.size != l.toArray.size)=true:=by simp only[Cf];rw[bne_iff_ne];lia
   exact⟨RcAt.lists_lengths p.isList R.isList C (by lia),RcNeAt.lists_lengths p.isList R.isList C (by lia)⟩
 | apart h =>
   obtain⟨_,h1,L⟩:=YO (A:=A) I h M te g i (by lia);rw[Fp (OE h)];exact⟨h1,L⟩
theorem LO (I:Inv X pins σ H s) {n:Nat} {ds es:List Dt} {A:Around} (c:Bo n ds es) (f:A.units+n<cLine)
 (i:Nat) (d e:Dt) (v u:V) (x y:Value) (h:ds[i]?=some d) (h':es[i]?=some e) (a:RelV v x) (b:RelV u y) (M:An X.K H v d) (te:An X.K H u e):EqAt A s x y (dec (d=e)):=by
 cases c with
 | nil=>simp at h
 | nil'=>simp at h'
 | cons c t=>cases i with
   | zero =>
     simp at h h';subst h;subst h';have g:=SH (A:=A) I c M te a b f;exact VJ I M te a b g.1
   | succ i=>exact LO I t f i d e v u x y (by simpa using h) (by simpa using h') a b M te
end
def VL(I:Inv X pins σ H s){x:Value}(c:C6 n d e)(M:An X.K H v d)(te:An X.K H u e)(a:RelV v x)(b:RelV u y)(f:A.units+n<cLine):EqAt A s x y (dec (d=e)):=
 VJ I M te a b (SH I c M te a b f).1
end
section
variable {X:Cx}
def SI (K:Ah):R2:=λx y H Q=>∃n d e,C6 n d e/\n<=60/\An K H x d/\An K H y e/\Q (.bl (dec (d=e))) H
def SJ(f:X.A.units+64<cLine):DF X (compareOp .Eq) (SI X.K):=by
 intro pins s σ H x y v u Q I a b h;obtain⟨n,d,e,c,g,M,te,q⟩:=h;exact(SH (A:=X.A) I c M te a b (by lia)).1 _ _ _ _ ⟨.bl _,H,I,rfl,q⟩
def SK (K:Ah):R2:=λx y H Q=>∃n d ds a vs,(∀e∈ds,C6 n e d)/\n<=60/\An K H x d/\y=.ref a/\Ae K H a vs/\Ai K H vs ds/\Q (.bl (dec (d∈ds))) H
def Jc (K:Ah):R2:=λx y H Q=>∃n d ds a vs,(∀e∈ds,C6 n e d)/\n<=60/\An K H x d/\y=.ref a/\Ae K H a vs/\Ai K H vs ds/\Q (.bl (!dec (d∈ds))) H
def SM(I:Inv X pins σ H s){d:Dt}{vs:List V}{b:List Value}{x:Value}(r:At vs b)(t:Ai X.K H vs ds)(B:∀e∈ds,C6 n e d)(M:An X.K H v d)(C:RelV v x)(D:A.units+n<cLine) :
 (∀y,y∈b.toArray->EqAt A s y x (dec (∃u,RelV u y/\An X.K H u d)))/\b.toArray.any (λy=>dec (∃u,RelV u y/\An X.K H u d))=dec (d∈ds):=by
 have K:=r.length;have lt:=t.length
 have one:∀y,y∈b->∃e∈ds,∃u,RelV u y/\An X.K H u e:=λy a=>by
  obtain⟨i,g,e⟩:=PK.mp a;obtain⟨L,w,j⟩:=r.get (i:=i) (x:=vs[i]'(by lia)) (AD (by lia));obtain⟨E,c,te⟩:=t.get (i:=i) (v:=vs[i]'(by lia)) (AD (by lia));rw[AD g,e] at w;cases w;exact⟨E,A6 c,_,j,te⟩
 refine⟨λy a=>?_,?_⟩;obtain⟨e,c,u,f,te⟩:=one y (by simpa using a);have:=VL (A:=A) I (B e c) te M f C D
 rw[Nm (p:=∃u,RelV u y/\An X.K H u d) (q:=e=d) ⟨λ⟨F,l,m⟩=>by
  have k:=f.inj l;subst k
  exact An.inj I te m,λz=>⟨u,f,by rw[<-z];exact te⟩⟩]
 exact this;by_cases h:d∈ds;rw[Ex h,Array.any_eq_true];obtain⟨i,g,e⟩:=PK.mp h;obtain⟨u,J,te⟩:=t.get' (i:=i) (d:=d) (by rw[AD g,e]);obtain⟨y,a,j⟩:=r.get J;have o:i<b.length:=(AN.mp a).1;refine⟨i,by simpa using o,?_⟩
 have:b.toArray[i]'(by simpa using o)=y:=by
  rw[AD o] at a;simpa using a
 rw[this];exact Ex ⟨u,j,te⟩;rw[Fp h,Bool.eq_false_iff];intro q;obtain⟨i,g,q⟩:=Array.any_eq_true.mp q;obtain⟨u,f,te⟩:=D7.mp q;obtain⟨e,c,F,l,m⟩:=one (b.toArray[i]) (by simp);have k:=f.inj l;subst k;have G:=An.inj I te m;subst G;exact h c
def LP(i:X.A.units+64<cLine):DF X (compareOp .In) (SK X.K):=by
 intro pins s σ H x y v u Q I b c h;obtain⟨n,d,ds,a,j,e,k,M,rfl,f,t,q⟩:=h;cases c;obtain⟨l,r,p,_⟩:=I.list f;obtain⟨h1,g⟩:=SM (A:=X.A.in1) I r t e M b (by rw[GV];lia);exact in_listAt _ p.isList h1 (by rw[g];exact⟨.bl _,H,I,rfl,q⟩)
def VM(i:X.A.units+64<cLine):DF X (compareOp .NotIn) (Jc X.K):=by
 intro pins s σ H x y v u Q I b c h;obtain⟨n,d,ds,a,j,e,k,M,rfl,f,t,q⟩:=h;cases c;obtain⟨l,r,p,_⟩:=I.list f;obtain⟨h1,g⟩:=SM (A:=X.A.in1) I r t e M b (by rw[GV];lia);exact notIn_listAt _ p.isList h1 (by rw[g];exact⟨.bl _,H,I,rfl,q⟩)
end
end L2
namespace Ord
variable {α:Type} [DecidableEq α]
def nodup_sub_length{l m:List α}(h:l.Nodup)(a:∀x∈l,x∈m):l.length<=m.length:=by
 induction l generalizing m with
 |nil=>simp
 |cons x r f =>
   have b:=a x (by simp);have c:=(FM.mp h)
   have:r.length<=(m.erase x).length:=f c.2 (λy d=>by
    have g:=a y (by simp[d]);have ne:y≠x:=λe=>c.1 (e▸d)
    exact(List.mem_erase_of_ne ne).mpr g)
   rw[List.length_erase_of_mem b] at this;have i:0<m.length:=List.length_pos_of_mem b
   simp;lia
end Ord
namespace War
end War
namespace Ord
variable {α:Type} [DecidableEq α]
end Ord
namespace L2
open PySem PySem.Spec PyProof.Rows Ord
abbrev VN (p:Str×Str):Dt:=.tup [.str p.1,.str p.2]
def VO{α:Type}{xs:List α}{v:α}(h:xs[xs.length-1]?=some v):Bz xs (-1)=some v:=by
 have a:xs.length-1<xs.length:=(AN.mp h).1;unfold Bz GQ;rw[Aj (by decide),Ak (by lia)];show xs[(-1+(xs.length:Int)).toNat]?=some v;rw[show(-1+(xs.length:Int)).toNat=xs.length-1 by lia];exact h
def Ir:([]:List V).length+1<=sizeLine:=by decide
def B4:([]:List V).length+1+1<=sizeLine:=by decide
theorem Ai.of_get{K:Ah}{H:Hp}:∀{vs:List V}{a:List Dt},vs.length=a.length->(∀(n:Nat)v d,vs[n]?=some v->a[n]?=some d->An K H v d)->Ai K H vs a
 |[],[],_,_=>.nil
 |v::vs,d::a,b,h=>.cons (h 0 v d rfl rfl) (Ai.of_get (by simpa using b) λn x y c e=>h (n+1) x y (by simpa using c) (by simpa using e))
structure Ff (H:Hp) (ts:List Addr) (ps:A'):Prop where
 len:ts.length=ps.length
 at_:∀(n:Nat)t p,ts[n]?=some t->ps[n]?=some p->H t=some (.tup [.str p.1,.str p.2])
variable {H:Hp}
def Ff.nil:Ff H [] []:=⟨rfl,λn t p h=>by simp at h⟩
def Ff.same{H':Hp}{ts:List Addr}{a:A'}(e:Ac H H')(h:Ff H ts a):Ff H' ts a:=⟨h.len,λn t p b c=>e _ _ (h.at_ n t p b c)⟩
def Ff.dts{K:Ah}{ts:List Addr}{a:A'}(h:Ff H ts a):Ai K H (ts.map V.ref) (a.map VN):=by
 refine Ai.of_get (by simpa using h.len) λn v d b c=>?_;rw[A3] at b c;obtain⟨t,e,rfl⟩:=E7.mp b;obtain⟨p,f,rfl⟩:=E7.mp c;exact .tup (Ar.of (h.at_ n t p e f)) (.cons (.str _) (.cons (.str _) .nil))
def SN{ls:List Str}{i:Nat}(h:i<ls.length):(ls.map V.str)[i]?=some (.str (ls.getD i default)):=by
 rw[A3,EA,AD h];rfl
variable {a:Addr}
def OF{K:Ah}{xs:List V}{k:Nat}{f:List Nat}{g:TG}{te:TE}{σ:St}{Y:Hp}{Q:Addr->Hp->Prop}(Pv:Addr->Nat->List V->Hp->Prop)
 (h:∀D,Y D=none->Pv D 0 [] (upd Y D (.lst []))) (c:∀D i ys b,Pv D i ys b->Ae K b a xs)
 (j:∀D i x ys b(R:VK),Y D=none->xs[i]?=some x->Pv D i ys b->(∀y d,d D=some (.lst ys)->ys.length<sizeLine->Pv D (i+1) (ys++[y]) (upd d D (.lst (ys++[y])))->R y d)->g x (Fe k f σ) b λσ4 l=>te σ4 l R)
 (hd:∀D ys b,Y D=none->Pv D xs.length ys b->Q D b):Iq (Nc K a) k f g Hm te σ Y Q:=LJ xs.length Pv h (λD i ys b p e=>⟨xs,xs[i],c D i ys b p,by simp[e]⟩) (λD ys b p=>⟨xs,c D _ ys b p,AE _⟩) (λD i ys b x n R o m e p y k q=>by obtain⟨rfl,y⟩:=y;exact j D i x ys _ R m (y xs (c D i ys _ p)) p k) hd
def AB.ex{P:Program}{w:World}{h:Heap}{o:HO}(x:AB P w H h a o):∃u,h.get? a=some u:=by
 cases o with
 |lst b=>obtain⟨_,_,_,_,e⟩:=x;exact⟨_,e⟩
 |tup b=>obtain⟨_,_,_,u,e,_⟩:=x;exact⟨u,e⟩
 |dK c=>obtain⟨_,_,_,_,u,_,_,e,_⟩:=x;exact⟨u,e⟩
 |dT c=>obtain⟨_,_,_,_,u,_,_,e,_⟩:=x;exact⟨u,e⟩
 |set S n=>obtain⟨u,_,_,_,e,_⟩:=x;exact⟨u,e⟩
 |ins C d fs=>obtain⟨_,_,_,e,_⟩:=x;exact⟨_,e⟩
 |own y=>exact x
 |xd fs=>obtain⟨_,⟨u,_,_,e,_⟩,_⟩:=x;exact⟨u,e⟩
 |rng lo g=>obtain⟨_,_,_,e⟩:=x;exact⟨_,e⟩
 |frz i u=>obtain⟨e,_⟩:=x;exact⟨_,e⟩
 |tbl j=>exact⟨_,(show h.get? a=some _ from x)⟩
 |met f y=>exact⟨_,(show h.get? a=some _ from x)⟩
 |ext φ=>exact x.2.1
def Inv.freshN{X:Cx}{pins:B'}{σ:L2.St}{s:Shared}(I:Inv X pins σ H s)(d:∀b u,s.heap.get? b=some u->b≠a):H a=none:=by
 cases e:H a with
 |none=>rfl
 |some o =>
   obtain⟨u,c⟩:=(I.hok a o e).ex;exact absurd rfl (d a u c)
def Inv.laidN{X:Cx}{pins:B'}{σ:L2.St}{s:Shared}{h':Heap}{o:HO}{t':Nat}(I:Inv X pins σ H s)(k:∀b u,s.heap.get? b=some u->h'.get? b=some u)(g:∀b u,s.heap.get? b=some u->b≠a)(h:AB X.prog X.w (upd H a o) h' a o) :
 Inv X pins σ (upd H a o) {s with heap:=h',toks:=t'}:=by
 have d:=I.freshN g;refine I.un ⟨λb u q ζ ζ ζ=>k b u q,λb u q ζ ζ ζ=>⟨u.slots,k b u q⟩,λb u q n ζ=>by rw[AC (g b u q)];exact n,λb u q ζ=>⟨u,k b u q⟩,λb f q=>by rw[AC (A1 q d)];exact q,λb u f q=>by rw[AC (A1 q d)];exact q,λb i q=>⟨#[],by rw[AC (A1 q d),q];simp⟩⟩ λb u e=>?_;by_cases hb:b=a;subst hb;rw[Aa] at e;cases e;exact h;rw[AC hb] at e;exact(I.hok b u e).stay (λc v ζ q=>k c v q) (λc q=>by rw[AC (A1 q d)];exact q) λc f q=>by rw[AC (A1 q d)];exact q
section
variable {prog:Program} {w:World} {A:Around} {E:D'} {s:Shared}
end
section
variable {X:Cx}
end
end L2
namespace HT
open PySem PyProof.Rows
section
open PySem.SeqAt
open PySem.AutoSeq1 (wpAny_loadPart')
open PySem.MeetsSeq PySem.MeetsSeq2 PySem.MeetsSeq3
end
section
variable {prog:Program} {w:World} {A:Around} {E:D'} {s:Shared}
end
end HT
namespace L2
open PySem PySem.Spec PyProof.Rows
section
variable {X:Cx}
end
end L2
namespace L2
end L2
namespace KasM
open PySem PySem.W PyProof.Rows
set_option autoImplicit false
def Tw {α:Type} (lt:Nat->Nat->Bool) (n:Nat):KasT α->(α->Prop)->Prop
 |.ret a,Q=>Q a
 |.ask i j k,Q=>i<n/\j<n/\Tw lt n (k (lt i j)) Q
theorem Nn{α β:Type}{lt:Nat->Nat->Bool}{n:Nat}{f:α->KasT β}{Q:β->Prop}:∀(t:KasT α),Tw lt n t (λa=>Tw lt n (f a) Q)->Tw lt n (t.bind f) Q
 |.ret _,h=>h
 |.ask _ _ k,⟨b,c,d⟩=>⟨b,c,Nn (k _) d⟩
theorem Tw_mono{α:Type}{lt:Nat->Nat->Bool}{n:Nat}{Q b:α->Prop}(c:∀a,Q a->b a):∀(t:KasT α),Tw lt n t Q->Tw lt n t b
 |.ret a,h=>c a h
 |.ask _ _ k,⟨d,e,f⟩=>⟨d,e,Tw_mono c (k _) f⟩
theorem Tw_wp{α:Type}{lt:Nat->Nat->Bool}{n:Nat}{c:Nat->Nat->(Bool->Shared->Prop)->Shared->Prop}{s:Shared}{Q:α->Shared->Prop}(b:∀i j C,i<n->j<n->C (lt i j) s->c i j C s) :
 ∀(t:KasT α),Tw lt n t (λa=>Q a s)->t.kasWp c Q s
 |.ret _,h=>h
 |.ask _ _ k,⟨d,e,f⟩=>b _ _ _ d e (Tw_wp b (k _) f)
section
variable {O:KeyOrd} {key:Nat->O.α} {n:Nat}
def K (key:Nat->O.α) (p:Array Nat) (i:Nat):O.α:=key (p.getD i 0)
def Asc (key:Nat->O.α) (p:Array Nat) (k:Nat):Prop:=∀i,i+1<k->O.kle (K key p i) (K key p (i+1))
def OG (key:Nat->O.α) (p:Array Nat) (k:Nat):Prop:=∀i,i+1<k->O.kle (K key p (i+1)) (K key p i)
def Pm (n:Nat) (p:Array Nat):Prop:=p.Perm (List.range n).toArray
def Pm.size{p:Array Nat}(h:Pm n p):p.size=n:=by have:=h.size_eq;simpa using this
variable {p:Array Nat}
def Pm.lt(h:Pm n p)(b:0<n)(i:Nat):p.getD i 0<n:=by
 by_cases a:i<p.size;have e:p.getD i 0=p[i]:=(by simp[Array.getD,a]);rw[e];have:p[i]∈p:=Array.getElem_mem a;have c:=h.mem_iff.mp this;simpa using c;have e:p.getD i 0=0:=(by simp[Array.getD,a]);rw[e];exact b
variable {i j:Nat}
def YQ(a:j<=p.size)(k:Nat):(kas_rev p i j).getD k 0=if i<=k/\k<j then p.getD (i+j-1-k) 0 else p.getD k 0:=by
 unfold kas_rev;simp only[Array.getD_eq_getD_getElem?];rw[getElem?_mirror_all a];split<;>rfl
def YR{k l:Nat}(a:k<p.size)(b:l<=k)(t:Nat):(bubble p k (k-l)).getD t 0=if t=l then p.getD k 0 else if l<t/\t<=k then p.getD (t-1) 0 else p.getD t 0:=by
 simp only[Array.getD_eq_getD_getElem?];rw[getElem?_bubble a _ (by lia)];rw[show k-(k-l)=l by lia];split;rfl;split<;>rfl
def Pm.rev(h:Pm n p)(i j:Nat):Pm n (kas_rev p i j):=(mirror_perm _ _ _ _).trans h
def Pm.bub(h:Pm n p)(i j:Nat):Pm n (bubble p i j):=(bubble_perm _ _ _).trans h
def VP(a:j<=p.size)(k:Nat):K key (kas_rev p i j) k=if i<=k/\k<j then K key p (i+j-1-k) else K key p k:=by
 unfold K;rw[YQ a];split<;>rfl
def SO(b:j<=p.size)(a:∀k,i<=k->k<j->K key p k=K key p (j-1))(k:Nat):K key (kas_rev p i j) k=K key p k:=by
 rw[VP b];split;rw[a _ (by lia) (by lia),a k (by lia) (by lia)];rfl
def YS{k l:Nat}(a:k<p.size)(b:l<=k)(t:Nat):K key (bubble p k (k-l)) t=if t=l then K key p k else if l<t/\t<=k then K key p (t-1) else K key p t:=by
 unfold K;rw[YR a b];split;rfl;split<;>rfl
theorem Asc.le{p:Array Nat}{k:Nat}(h:Asc key p k){i:Nat}:∀(d:Nat),i+d<k->O.kle (K key p i) (K key p (i+d))
 |0,_=>KeyOrd.kle_refl _
 |d+1,hd=>KeyOrd.kle_trans (h.le d (by lia)) (h (i+d) (by lia))
def Asc.le'{k:Nat}(h:Asc key p k)(b:i<=j)(a:j<k):O.kle (K key p i) (K key p j):=by
 have:=h.le (i:=i) (j-i) (by lia)
 rwa [show i+(j-i)=j by lia] at this
abbrev lt (O:KeyOrd) (key:Nat->O.α) (i j:Nat):Bool:=O.blt (key i) (key j)
theorem SQ{p:Array Nat}(b:Pm n p)(c:0<n):∀(f a:Nat),1<=a->Tw (lt O key) n (kas_asc p f a) λm=>a<=m/\m<=a+f/\(∀i,a-1<=i->i+1<m->O.kle (K key p i) (K key p (i+1)))/\(m<a+f->O.klt (K key p m) (K key p (m-1)))
 |0,a,_=>⟨AE _,AE _,λi d g=>by lia,λh=>by lia⟩
 | f + 1,a,q=>by
   refine⟨b.lt c _,b.lt c _,?_⟩
   cases j:lt O key (p.getD a 0) (p.getD (a-1) 0) with
   |true =>
     simp only[if_true];exact⟨AE _,by lia,λi d g=>by lia,λζ=>j⟩
   |false =>
     simp only[E9,if_false];refine Tw_mono ?_ _ (SQ b c f (a+1) (by lia));rintro m ⟨d,g,k,l⟩;refine⟨by lia,by lia,λi r o=>?_,λh=>l (by lia)⟩;by_cases e:i=a-1;subst e;rw[show a-1+1=a by lia];exact j;exact k i (by lia) o
theorem Qe(c:0<n):∀(f:Nat)(p:Array Nat)(a q:Nat),Pm n p->a+f<=n->OG key p a->q+1<=a->(∀k,a-(q+1)<=k->k<a->K key p k=K key p (a-1)) ->
 Tw (lt O key) n (kas_desc f p a q) λr=>Pm n r.1/\a<=r.2.1/\r.2.1<=a+f/\OG key r.1 r.2.1/\r.2.2+1<=r.2.1/\(∀k,r.2.1-(r.2.2+1)<=k->k<r.2.1->K key r.1 k=K key r.1 (r.2.1-1))
 |0,p,a,q,b,_,hd,o,d=>⟨b,AE _,AE _,hd,o,d⟩
 | f + 1,p,a,q,b,E,hd,o,d=>by
   have hz:=b.size;refine⟨b.lt c _,b.lt c _,?_⟩
   cases u:lt O key (p.getD a 0) (p.getD (a-1) 0) with
   |true =>
     have t:O.klt (K key p a) (K key p (a-1)):=u
     have z:OG key p (a+1):=λi s=>by
      by_cases e:i+1=a;rw[e];have:i=a-1:=by lia
      rw[this];exact KeyOrd.kle_of_klt t;exact hd i (by lia)
     simp only[if_true];by_cases A:q > 0;rw[Ak A];have L:=SO (key:=key) (p:=p) (i:=a-(q+1)) (j:=a) (by lia) d;refine Tw_mono ?_ _ (Qe c f _ (a+1) 0 (b.rev _ _) (by lia) (λi s=>by rw[L,L];exact z i s) (by lia) (λk v w=>by rw[show k=a+1-1 by lia]));rintro r ⟨g,x,y,h,l,m⟩;exact⟨g,by lia,by lia,h,l,m⟩;rw[Aj A];refine Tw_mono ?_ _ (Qe c f _ (a+1) 0 b (by lia) z (by lia) (λk v w=>by rw[show k=a+1-1 by lia]));rintro r ⟨g,x,y,h,l,m⟩;exact⟨g,by lia,by lia,h,l,m⟩
   |false =>
     have t:O.kle (K key p (a-1)) (K key p a):=u;simp only[E9,if_false];refine⟨b.lt c _,b.lt c _,?_⟩
     cases D:lt O key (p.getD (a-1) 0) (p.getD a 0) with
     |true =>
       simp only[if_true];exact⟨b,AE _,Nat.le_add_right _ _,hd,o,d⟩
     |false =>
       have B:O.kle (K key p a) (K key p (a-1)):=D;have C:K key p a=K key p (a-1):=KeyOrd.kle_antisymm B t;simp only[E9,if_false];refine Tw_mono ?_ _ (Qe c f _ (a+1) (q+1) b (by lia) (λi s=>?_) (by lia) (λk v w=>?_));rintro r ⟨g,x,y,h,l,m⟩;exact⟨g,by lia,by lia,h,l,m⟩;by_cases e:i+1=a;rw[e];have:i=a-1:=by lia
       rw[this];exact B;exact hd i (by lia);rw[show a+1-1=a by lia];by_cases e:k=a;rw[e];rw[d k (by lia) (by lia),C]
abbrev SS (key:Nat->O.α) (n:Nat) (r:Nat×Array Nat):Prop:=Pm n r.2/\1<=r.1/\r.1<=n/\Asc key r.2 r.1
def VQ(c:0<n){a:Nat}(b:Pm n p)(d:1<=a)(k:a<=n)(hd:OG key p a):Tw (lt O key) n (kas_tail3 a n p) (SS key n):=by
 unfold kas_tail3;have l:=b.size;have L:=VP (key:=key) (p:=p) (i:=0) (j:=a) (by lia);refine Nn _ (Tw_mono ?_ _ (SQ (O:=O) (key:=key) (b.rev 0 a) c (n-a) a d));rintro m ⟨o,q,f,_⟩;refine⟨b.rev _ _,by show 1<=m;lia,by show m<=n;lia,λi g=>?_⟩;have h:i+1<m:=g;by_cases e:a-1<=i;exact f i e h;show O.kle (K key (kas_rev p 0 a) i) (K key (kas_rev p 0 a) (i+1));rw[L,L,Ak (by lia),Ak (by lia)];have:=hd (0+a-1-(i+1)) (by lia)
 rwa [show 0+a-1-(i+1)+1=0+a-1-i by lia] at this
def VR(c:0<n){a:Nat}(f:Pm n p)(g:1<=a)(s:a+1<=n)(hd:OG key p (a+1)):Tw (lt O key) n (kas_descPart a n p) (SS key n):=by
 unfold kas_descPart;refine Nn _ (Tw_mono ?_ _ (Qe (O:=O) (key:=key) c (n-(a+1)) p (a+1) 0 f (by lia) hd (by lia) (λk g t=>by rw[show k=a+1-1 by lia])));rintro⟨R,m,q⟩ ⟨b,h,l,d,o,e⟩;dsimp only at b h l d o e ⊢;have u:=b.size;split;have L:=SO (key:=key) (p:=R) (i:=m-(q+1)) (j:=m) (by lia) e;exact VQ c (b.rev _ _) (by lia) (by lia) λi r=>by rw[L,L];exact d i r
 exact VQ c b (by lia) (by lia) d
def YT(b:0<n)(a:Pm n p):Tw (lt O key) n (kas_count n p) (SS key n):=by
 unfold kas_count;have w:=a.size;refine Nn _ (Tw_mono ?_ _ (SQ (O:=O) (key:=key) a b (n-1) 1 (AE _)));rintro m ⟨c,x,r,s⟩;have d:Asc key p m:=λi f=>r i (by lia) f;by_cases g:(m==n)=true;rw[Ak g];exact⟨a,c,by show m<=n;lia,d⟩;rw[Aj g]
 have y:m<n:=by
  have:m≠n:=λq=>g (by rw[q];exact beq_self_eq_true _);lia
 have l:=s (by lia);by_cases o:m > 1;rw[Ak o];refine⟨a.lt b _,a.lt b _,?_⟩
 cases t:lt O key (p.getD 0 0) (p.getD (m-1) 0) with
 |true =>
   simp only[if_true];exact⟨a,c,by show m<=n;lia,d⟩
 |false =>
   have v:O.kle (K key p (m-1)) (K key p 0):=t;simp only[E9,if_false]
   have h:∀k,0<=k->k<m->K key p k=K key p (m-1):=λk ζ u =>
    KeyOrd.kle_antisymm (d.le' (by lia) (by lia)) (KeyOrd.kle_trans v (d.le' (by lia) u))
   have L:=SO (key:=key) (p:=p) (i:=0) (j:=m) (by lia) h;refine VR b (a.rev _ _) c (by lia) λi f=>?_;rw[L,L];by_cases e:i+1=m;rw[e,show i=m-1 by lia];exact KeyOrd.kle_of_klt l;rw[h i (by lia) (by lia),h (i+1) (by lia) (by lia)];exact KeyOrd.kle_refl _
 rw[Aj o];refine VR b a c (by lia) λi f=>?_;have:m=1:=(by lia);subst this;obtain rfl:i=0:=by lia
 exact KeyOrd.kle_of_klt l
theorem SU(c:0<n){p:Array Nat}{k:Nat}(d:Pm n p)(g:Asc key p k):∀(f l r:Nat),r-l<=f->l<=r->r<=k->(∀i,i<l->O.kle (K key p i) (K key p k))->(∀i,r<=i->i<k->O.klt (K key p k) (K key p i)) ->
 Tw (lt O key) n (kas_place p k f l r) λm=>m<=k/\(∀i,i<m->O.kle (K key p i) (K key p k))/\(∀i,m<=i->i<k->O.klt (K key p k) (K key p i))
 |0,l,r,t,u,q,h,j=>⟨by lia,h,λi a b=>j i (by lia) b⟩
 | f + 1,l,r,t,u,q,h,j=>by
   unfold kas_place;by_cases e:l ≥ r;rw[Ak e];exact⟨by lia,h,λi a b=>j i (by lia) b⟩;rw[Aj e];refine⟨d.lt c _,d.lt c _,?_⟩
   cases s:lt O key (p.getD k 0) (p.getD ((l+r)/2) 0) with
   |true =>
     have o:O.klt (K key p k) (K key p ((l+r)/2)):=s;simp only[if_true];exact SU c d g f l ((l+r)/2) (by lia) (by lia) (by lia) h λi a b=>KeyOrd.klt_of_klt_of_kle o (g.le' a b)
   |false =>
     have o:O.kle (K key p ((l+r)/2)) (K key p k):=s;simp only[E9,if_false];exact SU c d g f ((l+r)/2+1) r (by lia) (by lia) q (λi a=>KeyOrd.kle_trans (g.le' (by lia) (by lia)) o) j
theorem Ho (h0:0<n):∀ (f:Nat) (p:Array Nat) (k:Nat),Pm n p->k+f=n->Asc key p k->Tw (lt O key) n (kas_bin f p k) fun R=>Pm n R/\Asc key R n
 | 0, p, k, hp, hk, ha => ⟨hp, by have : k = n := by lia
                                  rw[<-this];exact ha⟩
 |f+1,p,k,hp,hk,ha=>by
   have hz:=hp.size;unfold kas_bin;refine Nn _ (Tw_mono ?_ _ (SU (O:=O) (key:=key) h0 hp ha k 0 k (by lia) (by lia) (AE _) (λi h=>by lia) λi a b=>by lia));rintro l ⟨b1,b2,b3⟩;have L:=YS (key:=key) (p:=p) (k:=k) (l:=l) (by lia) b1;refine Ho h0 f _ (k+1) (hp.bub _ _) (by lia) λi hi=>?_;rw[L,L];by_cases e1:i=l;rw[Ak e1,Aj (by lia)];by_cases e2:i+1<=k;rw[Ak (by lia)];exact KeyOrd.kle_of_klt (b3 (i+1-1) (by lia) (by lia));lia;rw[Aj e1];by_cases e2:i+1=l;rw[Ak e2,Aj (by lia)];exact b2 i (by lia);rw[Aj e2];by_cases e3:l<i;rw[Ak (by lia),Ak (by lia)];have:=ha (i-1) (by lia)
   rwa [show i-1+1=i+1-1 by lia] at this
   rw[Aj (by lia),Aj (by lia)];exact ha i (by lia)
def sort_ok(h0:0<n):Tw (lt O key) n (kas_sort n) λp=>Pm n p/\Asc key p n:=by
 unfold kas_sort;refine Nn _ (Tw_mono ?_ _ (YT (O:=O) (key:=key) h0 (Array.Perm.refl _)));rintro⟨m,p⟩ ⟨b1,b2,b3,b4⟩;dsimp only at b1 b2 b3 b4 ⊢;split;rw[show max m 1=m by lia];exact Ho h0 _ _ _ b1 (by lia) b4
 exact ⟨b1, by have : m = n := by lia
               rw[<-this];exact b4⟩
end
end KasM
namespace L2
open PySem PySem.Spec PyProof.Rows
section
variable {prog:Program} {w:World} {A:Around} {E:D'} {s:Shared}
def YU{O:KeyOrd}{key:Nat->O.α}{κ:SortKind}{a:Addr}{vs:List Value}{n:Nat}{P:PySem.Fin->Shared->Prop}(f:s.heap.get? a=some (seqObj "list" vs.toArray n))(J:vs.length<64)
 (T:2<=vs.length->∀(h':Heap),(∀b o,b≠a->s.heap.get? b=some o->h'.get? b=some o)->∀(Q:SortKind->Shared->Prop),Q κ {s with heap:=h'}->wpAny (model prog w) A (keyKind' vs.toArray) Q (λζ ζ=>False) {s with heap:=h'})
 (M:∀(h':Heap),(∀b o,b≠a->s.heap.get? b=some o->h'.get? b=some o)->∀(i j:Nat)(C:Bool->Shared->Prop),i<vs.length->j<vs.length->C (O.blt (key i) (key j)) {s with heap:=h'}->PySem.W.kas_ask prog w A κ vs i j C {s with heap:=h'})
 (h:∀d:List Nat,d.Perm (List.range vs.length)->(∀i,i+1<d.length->O.kle (key (d.getD i 0)) (key (d.getD (i+1) 0)))->P (.done (.ret .none)) {s with heap:=sortedHeap s.heap a vs (d.map λi=>vs.getD i Value.none).toArray}) :
 wpAny (model prog w) A (Builtin.«list.sort» ⟨[.ref a],[]⟩) P E s:=by
 rw[list_sort_plain];have v:a<s.heap.objs.size:=Bl f;have V:vs.toArray.size=vs.length:=(by simp);refine Ad (listItems_at f rfl ?_);refine Ad (listUpdate_at f rfl ?_ (by rw[Cf,sizeLine_eq];lia) (C7 _));obtain⟨r,z⟩:∃r,(s.heap.update a (Obj.mapSeq λζ=>#[])).get? a=some (seqObj "list" #[] r):=⟨_,get?_update_seq f (λζ=>#[])⟩;refine Ad (seqEpoch_at z rfl ?_);refine Ad (wpAny_newTuple ?_ (by show vs.length<=_;rw[sizeLine_eq];lia));refine Ad (wpAny_newList ?_ (C7 _));refine Fa ?_
 have l:(((s.heap.update a (Obj.mapSeq λζ=>#[])).push (seqObj "tuple" vs.toArray 0)).push (seqObj "list" #[] 0)).get? a=some (seqObj "list" #[] r):=by
  rw[Heap.get?_push_ne _ _ _ (by rw[size_push',Heap.size_update];exact Cq (Nat.lt_succ_of_lt v)),Heap.get?_push_ne _ _ _ (by rw[Heap.size_update];exact Cq v)];exact z
 have keep:∀b o,b≠a->s.heap.get? b=some o->(((s.heap.update a (Obj.mapSeq λζ=>#[])).push (seqObj "tuple" vs.toArray 0)).push (seqObj "list" #[] 0)).get? b=some o:=λb o hb q=>by
  refine Ba _ (Ba _ ?_);rw[Heap.get?_update_ne _ _ _ _ hb];exact q
 show wpAny (model prog w) A _ P E {s with heap:=((s.heap.update a (Obj.mapSeq λζ=>#[])).push (seqObj "tuple" vs.toArray 0)).push (seqObj "list" #[] 0)};dsimp only;by_cases g:vs.toArray.size<2;rw[Ak g,Ak g];refine Ad (Au ?_);rw[StateT.run_pure];refine Ad (Au ?_);dsimp only;refine Ad (seqEpoch_at l rfl ?_);refine Ad (listUpdate_at l rfl ?_ (C7 _) (by rw[Array.size_map];show(pairsOf vs).size<=_;rw[pairsOf_size,sizeLine_eq];lia));simp only[bne_self_eq_false,E9,if_false];have:=h (List.range vs.length) (List.Perm.refl _) (λi t=>by rw[List.length_range] at t;lia)
 have e:((List.range vs.length).map λi=>vs.getD i Value.none).toArray=(arrOf (SortSt.mk' general' (vs.toArray.zip vs.toArray) #[] 7 none)).map (·.2):=by
  apply Array.toList_inj.mp;show(List.range vs.length).map (λi=>vs.getD i Value.none)=((vs.toArray.zip vs.toArray).map (·.2)).toList;apply List.ext_getElem?;intro k;by_cases y:k<vs.length;simp[y,EA];simp[y]
 rw[e] at this;exact Au this;rw[Aj g,Aj g];have B:2<=vs.length:=(by lia);refine Ad (Fy (T B _ keep (λκ' L=>κ'=κ/\L=_) ⟨rfl,rfl⟩) ?_ λζ ζ x=>x.elim);rintro κ' L ⟨rfl,rfl⟩
 refine Ad (Fy (PySem.W.kat_run (Q:=λm L=>∃p:Array Nat,arrOf m=p.map (PySem.W.kas_item (vs.toArray.zip vs.toArray))/\failedOf m=none/\KasM.Pm vs.length p/\KasM.Asc key p vs.length/\L={s with heap:=((s.heap.update a (Obj.mapSeq λζ=>#[])).push (seqObj "tuple" vs.toArray 0)).push (seqObj "list" #[] 0)})
  (G:=λp L=>KasM.Pm vs.length p/\KasM.Asc key p vs.length/\L={s with heap:=((s.heap.update a (Obj.mapSeq λζ=>#[])).push (seqObj "tuple" vs.toArray 0)).push (seqObj "list" #[] 0)})
  rfl B J (λR m L U D F u=>⟨R,D,F,u.1,u.2.1,u.2.2⟩)
  (KasM.Tw_wp (lt:=KasM.lt O key) (n:=vs.length) (M _ keep) _ (KasM.Tw_mono (λp c=>⟨c.1,c.2,rfl⟩) _ (KasM.sort_ok (O:=O) (key:=key) (by lia))))) ?_ λζ ζ e=>e)
 rintro⟨⟨⟩,m⟩ L ⟨p,K,H,c,N,rfl⟩;dsimp only;have S:=PySem.W.kat_snds (ks:=vs) (vs:=vs) rfl K;rw[S];refine Ad (seqEpoch_at l rfl ?_);refine Ad (listUpdate_at l rfl ?_ (C7 _) (by rw[Cf,Al,Array.length_toList,c.size,sizeLine_eq];lia));rw[H];simp only[bne_self_eq_false,E9,if_false];refine Au (h p.toList (by have:=Array.perm_iff_toList_perm.mp c;simpa using this) λi t=>?_);have I:=c.size;have:=N i (by simpa [I] using t);simpa [KasM.K,Array.getD_eq_getD_getElem?,EA] using this
def YV{O:KeyOrd}{key:Nat->O.α}{κ:SortKind}{l:Addr}{vs:List Value}{Q:D'}(g:s.heap.IsList l vs.toArray)(v:vs.length<64)
 (y:2<=vs.length->∀(h':Heap),(∀b o,s.heap.get? b=some o->h'.get? b=some o)->∀(Q:SortKind->Shared->Prop),Q κ {s with heap:=h'}->wpAny (model prog w) A.in1.in1 (keyKind' vs.toArray) Q (λζ ζ=>False) {s with heap:=h'})
 (x:∀(h':Heap),(∀b o,s.heap.get? b=some o->h'.get? b=some o)->∀(i j:Nat)(C:Bool->Shared->Prop),i<vs.length->j<vs.length->C (O.blt (key i) (key j)) {s with heap:=h'}->PySem.W.kas_ask prog w A.in1.in1 κ vs i j C {s with heap:=h'})
 (h:∀(D:Addr)(h':Heap)(n:Nat)(a:List Nat),(∀b o,s.heap.get? b=some o->h'.get? b=some o)->(∀b o,s.heap.get? b=some o->b≠D)->a.Perm (List.range vs.length)->(∀i,i+1<a.length->O.kle (key (a.getD i 0)) (key (a.getD (i+1) 0))) ->
  h'.get? D=some (seqObj "list" (a.map λi=>vs.getD i Value.none).toArray n)->Q (.ref D) {s with heap:=h'}) :
 wpAny (model prog w) A (call (.builtin "sorted") [.ref l]) Q E s:=by
 refine Calls.call_function_entry kind_sorted plain_sorted entry_sorted (args_sorted1 _) ?_;unfold Builtin.«sorted»;refine Ad (m:=checkCount "sorted" 1 1 _) (Au ?_);refine Ad (collect_list g ?_ (by rw[sizeLine_eq];lia));refine Ad (wpAny_newList ?_ (by rw[sizeLine_eq];lia))
 have d:((s.heap.push (seqObj "list" #[] 0)).update s.heap.objs.size (Obj.mapSeq (·++vs.toArray))).objs.size=s.heap.objs.size+1:=by
  rw[Heap.size_update,size_push']
 have e:(((s.heap.push (seqObj "list" #[] 0)).update s.heap.objs.size (Obj.mapSeq (·++vs.toArray))).push (seqObj "list" vs.toArray 0)).get? (s.heap.objs.size+1)=some (seqObj "list" vs.toArray 0):=by
  rw[<-d];exact B9 _ rfl
 have keep:∀b o,s.heap.get? b=some o->(((s.heap.push (seqObj "list" #[] 0)).update s.heap.objs.size (Obj.mapSeq (·++vs.toArray))).push (seqObj "list" vs.toArray 0)).get? b=some o:=λb o q=>by
  have f:b<s.heap.objs.size:=Bl q;rw[Heap.get?_push_ne _ _ _ (by rw[d];exact Cq (Nat.lt_succ_of_lt f)),Heap.get?_update_ne _ _ _ _ (Cq f),Heap.get?_push_ne _ _ _ (Cq f)];exact q
 have c:∀b o,s.heap.get? b=some o->b≠s.heap.objs.size+1:=λb o q=>Cq (Nat.lt_succ_of_lt (Bl q));show wpAny _ _ _ _ _ {s with heap:=((s.heap.push (seqObj "list" #[] 0)).update s.heap.objs.size (Obj.mapSeq (·++vs.toArray))).push (seqObj "list" vs.toArray 0)};rw[d];refine Ad (Fa (wpAny_call_entry slot_list_sort ⟨_,e,rfl⟩ entry_list_sort ?body (args_list_sort _)))
 case body =>
  refine YU (s:={s with heap:=((s.heap.push (seqObj "list" #[] 0)).update s.heap.objs.size (Obj.mapSeq (·++vs.toArray))).push (seqObj "list" vs.toArray 0)}) (key:=key) (κ:=κ) e v
   (λp h' k=>y p h' λb o q=>k b o (c b o q) (keep b o q)) (λh' k=>x h' λb o q=>k b o (c b o q) (keep b o q)) λa r t=>?_
  obtain⟨n,u⟩:=sortedHeap_at (vs:=vs) (out:=(a.map λi=>vs.getD i Value.none).toArray) e;refine⟨_,rfl,Au ⟨_,rfl,h (s.heap.objs.size+1) _ n a (λb o q=>?_) c r t u⟩⟩;show(sortedHeap (((s.heap.push (seqObj "list" #[] 0)).update s.heap.objs.size (Obj.mapSeq (·++vs.toArray))).push (seqObj "list" vs.toArray 0)) (s.heap.objs.size+1) vs _).get? b=some o;rw[sortedHeap_old (c b o q) (Bl (keep b o q))];exact keep b o q
end
@[reducible] def Eh (O P:KeyOrd):KeyOrd where
 α:=O.α×P.α
 blt x y:=O.blt x.1 y.1 || (!O.blt y.1 x.1 && P.blt x.2 y.2)
 irrefl x:=by simp[O.irrefl,P.irrefl]
 trans x y z h1 h2:=by
  simp only[Bool.or_eq_true,Bool.and_eq_true,Bool.not_eq_true'] at h1 h2 ⊢;rcases h1 with h1|⟨h1,k1⟩<;>rcases h2 with h2|⟨h2,k2⟩;exact .inl (O.trans _ _ _ h1 h2);exact .inl (KeyOrd.klt_of_klt_of_kle h1 h2);exact .inl (KeyOrd.klt_of_kle_of_klt h1 h2);exact .inr ⟨KeyOrd.kle_trans (O:=O) h1 h2,P.trans _ _ _ k1 k2⟩
 negTrans x y z h:=by
  simp only[Bool.or_eq_true,Bool.and_eq_true,Bool.not_eq_true'] at h ⊢;rcases h with h|⟨h,k⟩;rcases O.negTrans _ y.1 _ h with h|h;exact .inl (.inl h);exact .inr (.inl h)
  cases e1:O.blt x.1 y.1 with
  |true=>exact .inl (.inl rfl)
  |false =>
    cases e2:O.blt y.1 z.1 with
    |true=>exact .inr (.inl rfl)
    |false =>
      have a1:O.kle y.1 x.1:=e1;have a2:O.kle z.1 y.1:=e2;have a3:O.kle x.1 z.1:=h;have b1:O.blt y.1 x.1=false:=KeyOrd.kle_trans (O:=O) a3 a2;have b2:O.blt z.1 y.1=false:=KeyOrd.kle_trans (O:=O) a1 a3;rcases P.negTrans _ y.2 _ k with k|k;exact .inl (.inr ⟨b1,k⟩);exact .inr (.inr ⟨b2,k⟩)
 total x y h1 h2:=by
  simp only[Bool.or_eq_false_iff,Bool.and_eq_false_iff,Bool.not_eq_false'] at h1 h2;have e1:x.1=y.1:=O.total _ _ h1.1 h2.1;have e2:x.2=y.2:=P.total _ _ (by rcases h1.2 with z|z;exact absurd (h2.1.symm.trans z) (by simp);exact z) (by rcases h2.2 with z|z;exact absurd (h1.1.symm.trans z) (by simp);exact z);exact Prod.ext e1 e2
@[reducible] def OH:KeyOrd where
 α:=Str
 blt a b:=decide (a.cps.toList<b.cps.toList)
 irrefl a:=by simpa using List.lt_irrefl a.cps.toList
 trans a b c h1 h2:=by simp only[decide_eq_true_eq] at *;exact List.lt_trans h1 h2
 negTrans a b c h:=by
  simp only[decide_eq_true_eq] at *
  by_cases hab:a.cps.toList<b.cps.toList;exact .inl hab;exact .inr (List.lt_of_le_of_lt (List.not_lt.mp hab) h)
 total a b h1 h2:=by simp only[decide_eq_false_iff_not] at *;exact ext_toList (List.le_antisymm (List.not_lt.mp h2) (List.not_lt.mp h1))
@[reducible] def OI:KeyOrd where
 α:=Int
 blt a b:=decide (a<b)
 irrefl a:=by simp
 trans a b c h1 h2:=by simp only[decide_eq_true_eq] at *;lia
 negTrans a b c h:=by simp only[decide_eq_true_eq] at *;lia
 total a b h1 h2:=by simp only[decide_eq_false_iff_not] at *;lia
structure SV where
 O:KeyOrd
 val:O.α->V
 dflt:O.α
 T:Value
 tT:(T==T)=true
 tN:(T != Value.type "tuple")=true
 look:∀(M:Model)(h:Heap)(a:O.α)(u:Value),RelV (val a) u->PySem.W.Looks M h (typeOf u) T
 eqB:∀(prog:Program)(w:World)(A:Around)(E:D')(s:Shared)(a b:O.α)(u v:Value)(Q:Bool->Shared->Prop),RelV (val a) u->RelV (val b) v->(∀e:Bool,(e=true↔a=b)->Q e s)->wpAny (model prog w) A (eqBool u v) Q E s
 ltB:∀(prog:Program)(w:World)(A:Around)(E:D')(s:Shared)(a b:O.α)(u v:Value)(Q:Bool->Shared->Prop),RelV (val a) u->RelV (val b) v->Q (O.blt a b) s->wpAny (model prog w) A (oneLt' true u v) Q E s
 ltC:∀(prog:Program)(w:World)(A:Around)(E:D')(s:Shared)(a b:O.α)(u v:Value)(Q:Bool->Shared->Prop),RelV (val a) u->RelV (val b) v->Q (O.blt a b) s->wpAny (model prog w) A (oneLt' false u v) Q E s
@[reducible] def LQ:SV where
 O:=OH
 val:=V.str
 dflt:=default
 T:=.type "str"
 tT:=by decide
 tN:=by decide
 look M h a u r:=by obtain⟨t,rfl⟩:=r;exact PySem.W.Looks.of_pure rfl
 eqB prog w A E s a b u v Q r r' h:=by
  obtain⟨t,rfl⟩:=r;obtain⟨t',rfl⟩:=r';exact eqBool_str (h _ (by simp))
 ltB prog w A E s a b u v Q r r' h:=by
  obtain⟨t,rfl⟩:=r;obtain⟨t',rfl⟩:=r';exact oneLt_str h
 ltC prog w A E s a b u v Q r r' h:=by
  obtain⟨t,rfl⟩:=r;obtain⟨t',rfl⟩:=r';exact PySem.W.kat_one _ _ (PySem.P.lt_str h)
@[reducible] def LR:SV where
 O:=OI
 val:=V.int
 dflt:=0
 T:=.type "int"
 tT:=by decide
 tN:=by decide
 look M h a u r:=by obtain⟨t,rfl⟩:=r;exact PySem.W.Looks.of_pure rfl
 eqB prog w A E s a b u v Q r r' h:=by
  obtain⟨t,rfl⟩:=r;obtain⟨t',rfl⟩:=r';exact wpAny_eqBool_int (h _ (by simp))
 ltB prog w A E s a b u v Q r r' h:=by
  obtain⟨t,rfl⟩:=r;obtain⟨t',rfl⟩:=r';exact oneLt_int h
 ltC prog w A E s a b u v Q r r' h:=by
  obtain⟨t,rfl⟩:=r;obtain⟨t',rfl⟩:=r';exact PySem.W.kat_one _ _ (PySem.P.lt_int h)
section
variable {prog:Program} {w:World} {A:Around} {E:D'} {s:Shared}
end
theorem VS{α:Type}{R:α->α->Prop}(tr:∀a b c,R a b->R b c->R a c):∀(l:List α),(∀i a b,l[i]?=some a->l[i+1]?=some b->R a b)->l.Pairwise R
 |[],_=>.nil
 |[x],_=>by simp
 |x::y::r,h=>by
   have f:=VS tr (y::r) λi a b j k=>h (i+1) a b (by simpa using j) (by simpa using k);have g:R x y:=h 0 x y rfl rfl;refine List.pairwise_cons.mpr ⟨λz d=>?_,f⟩;rcases BV.mp d with e|d;rw[e];exact g;exact tr _ _ _ g ((List.pairwise_cons.mp f).1 z d)
section
variable {X:Cx}
abbrev Row (c d:SV):Type:=V×(Eh c.O d.O).α
def YW{α β:Type}{R:α->β->Prop}{xs:List α}{ys:List β}(h:Paired R xs ys):∀(i:Nat)(b:α)(c:β),i<xs.length->R (xs.getD i b) (ys.getD i c):=by
 induction h with
 |nil=>intro i b c h;simp at h
 |cons a r d =>
   intro i b c h
   cases i with
   |zero=>exact a
   |succ i=>simpa using d i b c (by simpa using h)
theorem VT{α β γ:Type}{R:α->β->Prop}{f:γ->α}{g:γ->β}:∀(l:List γ),(∀x∈l,R (f x) (g x))->Paired R (l.map f) (l.map g)
 |[],_=>.nil
 |x::l,h=>.cons (h x Bu) (VT l λy a=>h y (B8 _ a))
end
open Ord
abbrev FE (p:Str×Int):Dt:=.tup [.str p.1,.int p.2]
abbrev D9:Type:=List (Str×Int)×List Str
abbrev Kt (s:D9):Dt:=.tup [.lst (s.1.map FE),.lst (s.2.map Dt.str)]
def Ei (K:Ah) (H:Hp) (a:Addr) (gs:List (Str×Int)):Prop:=∃vs,Ae K H a vs/\Ai K H vs (gs.map FE)
def Hq (K:Ah) (H:Hp) (a:Addr) (ss:List D9):Prop:=∃vs,Ae K H a vs/\Ai K H vs (ss.map Kt)
def Ei.same{K:Ah}{H H':Hp}{a:Addr}{gs:List (Str×Int)}(e:Ac H H')(h:Ei K H a gs):Ei K H' a gs:=by
 obtain⟨b,c,d⟩:=h;exact⟨b,e.seq c,d.same e⟩
theorem VU{K:Ah}{H:Hp}:∀{vs:List V}{xs:List Str},Ai K H vs (xs.map Dt.str)->vs=xs.map V.str
 |_,[],.nil=>rfl
 |_,_::_,.cons h t=>by cases h;rw[VU t];rfl
variable {H:Hp}{v:V}{p:Str×Int}
def Hr{K:Ah}(h:An K H v (FE p)):∃t,v=.ref t/\Ar K H t [.str p.1,.int p.2]:=by
 cases h with
 | tup h t =>
   cases t with
   |cons a t =>
     cases t with
     |cons b t =>
       cases t;cases a;cases b;exact⟨_,rfl,h⟩
variable {vs:List V}{gs:List (Str×Int)}{i:Nat}
def Ai.goes_get{K:Ah}(h:Ai K H vs (gs.map FE))(hv:vs[i]?=some v):∃p t,gs[i]?=some p/\v=.ref t/\Ar K H t [.str p.1,.int p.2]:=by
 obtain⟨d,hd,a⟩:=h.get hv;rw[A3] at hd
 cases e:gs[i]? with
 |none=>rw[e] at hd;cases hd
 |some p =>
   rw[e] at hd;cases hd;obtain⟨t,b,c⟩:=Hr a;exact⟨p,t,rfl,b,c⟩
def FF{K:Ah}{s:D9}(h:An K H v (Kt s)):∃t g e,v=.ref t/\Ar K H t [.ref g,.ref e]/\Ei K H g s.1/\Ae K H e (s.2.map V.str):=by
 cases h with
 | tup h t =>
   cases t with
   |cons b t =>
     cases t with
     |cons c t =>
       cases t
       cases b with
       |lst d f =>
         cases c with
         |lst a i =>
           rw[VU i] at a;exact⟨_,_,_,rfl,h,⟨_,d,f⟩,a⟩
variable {α:Type}
def Ai.len_map{K:Ah}{f:α->Dt}{xs:List α}(h:Ai K H vs (xs.map f)):vs.length=xs.length:=by
 have:=h.length
 rwa [Al] at this
section
variable {X:Cx}
end
abbrev Ku (K:Ah) (H:Hp) (z:Row LQ LR):Prop:=∃t,z.1=.ref t/\Ar K H t [V.str z.2.1,V.int z.2.2]
theorem VV{K:Ah}{H:Hp}:∀{ts:List Addr}{gs:List (Str×Int)},ts.length=gs.length->(∀(n:Nat)(a:Addr)(p:Str×Int),ts[n]?=some a->gs[n]?=some p->H a=some (.tup [.str p.1,.int p.2])) ->
 ∃zs:List (Row LQ LR),zs.map (·.1)=ts.map V.ref/\zs.map (·.2)=gs/\∀z∈zs,Ku K H z
 |[],[],_,_=>⟨[],rfl,rfl,λz hz=>by cases hz⟩
 |[],_::_,h,_=>by simp at h
 |_::_,[],h,_=>by simp at h
 |a::ts,p::gs,h,k=>by
   obtain⟨zs,b,c,d⟩:=VV (K:=K) (H:=H) (ts:=ts) (gs:=gs) (by simpa using h) λn a p b c=>k (n+1) a p (by simpa using b) (by simpa using c);refine⟨(V.ref a,p)::zs,by rw[Eu,b];rfl,by rw[Eu,c],λz hz=>?_⟩;rcases BV.mp hz with e|hz;rw[e];exact⟨a,rfl,Ar.of (k 0 a p rfl rfl)⟩;exact d z hz
theorem VW{K:Ah}{H:Hp}:∀(zs:List (Row LQ LR)),(∀z∈zs,Ku K H z)->Ai K H (zs.map (·.1)) ((zs.map (·.2)).map FE)
 |[],_=>.nil
 |z::zs,h=>by
   obtain⟨t,e,a⟩:=h z Bu;refine .cons ?_ (VW zs λy b=>h y (B8 _ b));show An K H z.1 (FE z.2);rw[e];exact .tup a (.cons (.str _) (.cons (.int _) .nil))
structure A8 (K:Ah) (F:Addr->Prop) (H:Hp) (D:Addr) (us:List Addr) (rs:List D9):Prop where
 len:us.length=rs.length
 at_:∀(i:Nat)(u:Addr)(r:D9),us[i]?=some u->rs[i]?=some r->∃G E xs,H u=some (.tup [.ref G,.ref E])/\Ei K H G r.1/\H G=some (.lst xs)/\H E=some (.lst (r.2.map V.str))/\G≠D/\E≠D/\F G/\F E
variable {F:Addr->Prop}{D:Addr}
def A8.nil{K:Ah}:A8 K F H D [] []:=⟨rfl,λi u r h=>by simp at h⟩
def A8.same{K:Ah}{F:Addr->Prop}{H H':Hp}{D:Addr}{us:List Addr}{rs:List D9}(e:Ac H H')(h:A8 K F H D us rs):A8 K F H' D us rs:=by
 refine⟨h.len,λi u r a b=>?_⟩;obtain⟨G,E,c,d,f,g,j,k,l,m⟩:=h.at_ i u r a b;exact⟨G,E,c,e _ _ d,f.same e,e _ _ g,e _ _ j,k,l,m⟩
variable {u G E:Addr}{xs:List V}{us:List Addr}{rs:List D9}
def A8.snoc{K:Ah}{r:D9}(h:A8 K F H D us rs)(d:H u=some (.tup [.ref G,.ref E]))(f:Ei K H G r.1)(g:H G=some (.lst xs))(j:H E=some (.lst (r.2.map V.str)))(k:G≠D)(l:E≠D)(m:F G)(n:F E):A8 K F H D (us++[u]) (rs++[r]):=by
 refine⟨by rw[AZ,AZ,h.len];rfl,λi v q a b=>?_⟩;rcases Nat.lt_or_ge i us.length with c|p;rw[D1 c] at a;rw[D1 (by rw[<-h.len];exact c)] at b;exact h.at_ i v q a b;have o:i<(us++[u]).length:=(AN.mp a).1;rw[AZ,DS] at o;have e:i=us.length:=(by lia);subst e;rw[EB (AE _),Nat.sub_self] at a;rw[EB (by rw[h.len];exact AE _),h.len,Nat.sub_self] at b;cases a;cases b;exact⟨G,E,xs,d,f,g,j,k,l,m,n⟩
def GW:([]:List V).length+1+1+1<=sizeLine:=by decide
theorem A8.dts{K:Ah}{F:Addr->Prop}{H:Hp}{D:Addr}:∀{us:List Addr}{rs:List D9},A8 K F H D us rs->Ai K H (us.map V.ref) (rs.map Kt)
 |[],[],_=>.nil
 |[],_::_,h=>by have:=h.len;simp at this
 |_::_,[],h=>by have:=h.len;simp at this
 |u::us,r::rs,h=>by
   obtain⟨G,E,xs,a,⟨g,b,f⟩,j,c,_⟩:=h.at_ 0 u r rfl rfl;refine .cons (.tup (Ar.of a) (.cons (.lst b f) (.cons (.lst (Ae.of c) (Ai.strs _)) .nil))) ?_;exact A8.dts (D:=D) ⟨by simpa using h.len,λi v q d e=>h.at_ (i+1) v q (by simpa using d) (by simpa using e)⟩
variable {a:Addr}
def A8.stts{K:Ah}(e:H a=some (.lst (us.map V.ref)))(h:A8 K F H a us rs):Hq K H a rs:=⟨_,Ae.of e,h.dts⟩
variable {O:KeyOrd}
def Qf{l m:List O.α}(h:l.Perm m)(c:l.Pairwise O.kle)(d:m.Pairwise O.kle):l=m:=
 h.eq_of_pairwise (λa b ζ ζ x y=>KeyOrd.kle_antisymm x y) c d
def Hs(p q:Str×Int):C6 2 (FE p) (FE q):=.tup (.cons (.str _ _) (.cons (.int _ _) (.nil _)))
structure GT (H:Hp) (ts:List Addr) (gs:List (Str×Int)):Prop where
 len:ts.length=gs.length
 at_:∀(n:Nat)(t:Addr)(p:Str×Int),ts[n]?=some t->gs[n]?=some p->H t=some (.tup [.str p.1,.int p.2])
variable {H':Hp}{ts:List Addr}
def GT.same(e:Ac H H')(h:GT H ts gs):GT H' ts gs:=⟨h.len,λn t p a b=>e _ _ (h.at_ n t p a b)⟩
def GT.snoc{t:Addr}(h:GT H ts gs)(e:H t=some (.tup [.str p.1,.int p.2])):GT H (ts++[t]) (gs++[p]):=by
 refine⟨by rw[AZ,AZ,h.len];rfl,λn v q a b=>?_⟩;rcases Nat.lt_or_ge n ts.length with c|g;rw[D1 c] at a;rw[D1 (by rw[<-h.len];exact c)] at b;exact h.at_ n v q a b;have f:n<(ts++[t]).length:=(AN.mp a).1;rw[AZ,DS] at f;have d:n=ts.length:=(by lia);subst d;rw[EB (AE _),Nat.sub_self] at a;rw[EB (by rw[h.len];exact AE _),h.len,Nat.sub_self] at b;cases a;cases b;exact e
def GT.dts{K:Ah}(h:GT H ts gs):Ai K H (ts.map V.ref) (gs.map FE):=by
 obtain⟨a,b,c,d⟩:=VV (K:=K) h.len h.at_;rw[<-b,<-c];exact VW a d
variable {te:TE}{σ:St}{n:Nat}
def No{k:Nat}{d:List Nat}{g:TG}{Y:Hp}{Q:Addr->Hp->Prop}{lo:Int}(Pv:Addr->Nat->List V->Hp->Prop)
 (e:∀D,Y D=none->Pv D 0 [] (upd Y D (.lst [])))
 (f:∀(D:Addr)(i:Nat)(ys:List V)(a:Hp)(R:VK),Y D=none->i<n->Pv D i ys a->(∀y b,b D=some (.lst ys)->ys.length<sizeLine->Pv D (i+1) (ys++[y]) (upd b D (.lst (ys++[y])))->R y b)->g (.int (lo+i)) (Fe k d σ) a λσ4 h=>te σ4 h R)
 (hd:∀D ys a,Y D=none->Pv D n ys a->Q D a):Iq (Lj lo n) k d g Hm te σ Y Q:=LJ n Pv e (λD i ys a p c=>c) (λD ys a p=>AE _) (λD i ys a x l R m j c p y k o=>by obtain⟨rfl,rfl⟩:=y;exact f D i ys _ R j c p k) hd
structure Keeps (M:Addr->Prop) (H H':Hp):Prop where
 at_:∀x o,H x=some o->¬M x->H' x=some o
 ls:∀x o,M x->H x=some o->∃xs,o=HO.lst xs
section
variable {K:Ah} {M:Addr->Prop} {H H':Hp}
def Keeps.refl(h:∀x o,M x->H x=some o->∃xs,o=HO.lst xs):Keeps M H H:=⟨λζ ζ e ζ=>e,h⟩
def Keeps.set{o:HO}(k:Keeps M H H')(a:M D):Keeps M H (upd H' D o):=⟨λx u e n=>by
 have b:x≠D:=λz=>n (by rw[z];exact a)
 rw[AC b];exact k.at_ x u e n,k.ls⟩
def Keeps.one{o:HO}(a:H D=some (.lst xs)):Keeps (·=D) H (upd H D o):=
 ⟨λx u e n=>by rw[AC n];exact e,λx u m e=>by rw[m,a] at e;exact⟨xs,(Br e).symm⟩⟩
def Keeps.same{a:Hp}(k:Keeps M H H')(s:Ac H' a):Keeps M H a:=⟨λx o e n=>s _ _ (k.at_ x o e n),k.ls⟩
def Keeps.noT(k:Keeps M H H')(h:H a=some (.tup xs)):¬M a:=λm=>by
 obtain⟨_,e⟩:=k.ls _ _ m h;cases e
def Keeps.tup(k:Keeps M H H'){a:Addr}{xs:List V}(h:H a=some (.tup xs)):H' a=some (.tup xs):=k.at_ _ _ h (k.noT h)
end
def SW{K:Ah}{k:Nat}{l:List Nat}{g:TG}{tc:TT}{Y:Hp}{Q:Addr->Hp->Prop}(Pv:Addr->Nat->List V->Hp->Prop)
 (m:∀D,Y D=none->Pv D 0 [] (upd Y D (.lst []))) (f:∀D i ys c,Pv D i ys c->Ae K c a xs)
 (n:∀D i x ys c(R:VK)(e:Hp->Prop),Y D=none->xs[i]?=some x->Pv D i ys c->(∀y h,h D=some (.lst ys)->ys.length<sizeLine->Pv D (i+1) (ys++[y]) (upd h D (.lst (ys++[y])))->R y h)->(∀d,Pv D (i+1) ys d->e d)->g x (Fe k l σ) c λσ4 o=>tc σ4 o λb d=>if b=true then te σ4 d R else e d)
 (hd:∀D ys c,Y D=none->Pv D xs.length ys c->Q D c):Iq (Nc K a) k l g tc te σ Y Q:=LJ xs.length Pv m (λD i ys c p j=>⟨xs,xs[i],f D i ys c p,by simp[j]⟩) (λD ys c p=>⟨xs,f D _ ys c p,AE _⟩) (λD i ys c x s R e q j p y k r=>by obtain⟨rfl,y⟩:=y;exact n D i x ys _ R e q (y xs (f D i ys _ p)) p k r) hd
structure FU (K:Ah) (F:Addr->Prop) (H:Hp) (t:Addr) (rs:List D9) (n:Int) (ord:A'):Prop where
 ex:∃(a o:Addr)(us:List Addr)(ts:List Addr),H t=some (.tup [.ref a,.int n,.ref o])/\F a/\F o/\a≠o/\H a=some (.lst (us.map V.ref))/\A8 K F H a us rs/\H o=some (.lst (ts.map V.ref))/\Ff H ts ord
def FU.same{K:Ah}{F:Addr->Prop}{H H':Hp}{t:Addr}{rs:List D9}{n:Int}{ord:A'}(s:Ac H H')(h:FU K F H t rs n ord):FU K F H' t rs n ord:=by
 obtain⟨a,o,us,ts,b,c,d,e,f,g,i,j⟩:=h.ex;exact⟨a,o,us,ts,s _ _ b,c,d,e,s _ _ f,g.same s,s _ _ i,j.same s⟩
section
variable {X:Cx}
end
abbrev BG:C'->Dt
 |none=>.non
 |some p=>FE p
def GX (K:Ah) (H:Hp) (a:Addr) (as:List (C')):Prop:=∃vs,Ae K H a vs/\Ai K H vs (as.map BG)
abbrev Qu:Type:=Int×Int×List Str
abbrev VX (q:Qu):Dt:=.tup [.int q.1,.int q.2.1,.tup (q.2.2.map Dt.str)]
section
variable {K:Ah} {H H':Hp} {a:Addr}
def GX.same{as:List (C')}(e:Ac H H')(h:GX K H a as):GX K H' a as:=by
 obtain⟨vs,b,c⟩:=h;exact⟨vs,e.seq b,c.same e⟩
def LS{o:C'}(h:An K H v (BG o)):(o=none/\v=.non)\/∃p t,o=some p/\v=.ref t/\Ar K H t [.str p.1,.int p.2]:=by
 cases o with
 |none=>cases h;exact .inl ⟨rfl,rfl⟩
 |some p =>
   obtain⟨t,e,a⟩:=Hr h;exact .inr ⟨p,t,rfl,e,a⟩
def GX.get{as:List (C')}(h:GX K H a as){k:Nat}(f:k<as.length):∃vs v,Ae K H a vs/\vs[k]?=some v/\((as[k]?=some none/\v=.non)\/∃p t,as[k]?=some (some p)/\v=.ref t/\Ar K H t [.str p.1,.int p.2]):=by
 obtain⟨vs,g,j⟩:=h;have b:=AD f;obtain⟨v,l,hd⟩:=j.get' (i:=k) (d:=BG as[k]) (by rw[A3,b];rfl);refine⟨vs,v,g,l,?_⟩;rcases LS hd with⟨c,e⟩|⟨p,t,c,e,m⟩;exact .inl ⟨by rw[b,c],e⟩;exact .inr ⟨p,t,by rw[b,c],e,m⟩
def Ei.get(h:Ei K H a gs){k:Nat}(b:gs[k]?=some p):∃vs t,Ae K H a vs/\vs[k]?=some (.ref t)/\Ar K H t [.str p.1,.int p.2]:=by
 obtain⟨vs,c,e⟩:=h;obtain⟨v,f,hd⟩:=e.get' (i:=k) (d:=FE p) (by rw[A3,b];rfl);obtain⟨t,rfl,g⟩:=Hr hd;exact⟨vs,t,c,f,g⟩
end
structure QT (H:Hp) (ts:List Addr) (qs:List Qu):Prop where
 len:ts.length=qs.length
 at_:∀(n:Nat)(t:Addr)(q:Qu),ts[n]?=some t->qs[n]?=some q->∃u,H t=some (.tup [.int q.1,.int q.2.1,.ref u])/\H u=some (.tup (q.2.2.map V.str))
def QT.nil:QT H [] []:=⟨rfl,λn t p h=>by simp at h⟩
variable {qs:List Qu}
def QT.same(e:Ac H H')(h:QT H ts qs):QT H' ts qs:=⟨h.len,λn t p a b=>by
 obtain⟨u,c,d⟩:=h.at_ n t p a b
 exact⟨u,e _ _ c,e _ _ d⟩⟩
variable {M:Addr->Prop}
def QT.keeps(k:Keeps M H H')(h:QT H ts qs):QT H' ts qs:=⟨h.len,λn t p a b=>by
 obtain⟨u,c,d⟩:=h.at_ n t p a b
 exact⟨u,k.tup c,k.tup d⟩⟩
def GT.keeps(k:Keeps M H H')(h:GT H ts gs):GT H' ts gs:=⟨h.len,λn t p a b=>k.tup (h.at_ n t p a b)⟩
def QT.snoc{t:Addr}{q:Qu}(h:QT H ts qs)(e:H t=some (.tup [.int q.1,.int q.2.1,.ref u]))(d:H u=some (.tup (q.2.2.map V.str))):QT H (ts++[t]) (qs++[q]):=by
 refine⟨by rw[AZ,AZ,h.len];rfl,λn v f a b=>?_⟩;rcases Nat.lt_or_ge n ts.length with c|j;rw[D1 c] at a;rw[D1 (by rw[<-h.len];exact c)] at b;exact h.at_ n v f a b;have i:n<(ts++[t]).length:=(AN.mp a).1;rw[AZ,DS] at i;have g:n=ts.length:=(by lia);subst g;rw[EB (AE _),Nat.sub_self] at a;rw[EB (by rw[h.len];exact AE _),h.len,Nat.sub_self] at b;cases a;cases b;exact⟨u,e,d⟩
def QT.dts{K:Ah}(h:QT H ts qs):Ai K H (ts.map V.ref) (qs.map VX):=by
 refine Ai.of_get (by simpa using h.len) λn v d a b=>?_;rw[A3] at a b;obtain⟨t,c,rfl⟩:=E7.mp a;obtain⟨q,e,rfl⟩:=E7.mp b;obtain⟨u,f,g⟩:=h.at_ n t q c e;exact .tup (Ar.of f) (.cons (.int _) (.cons (.int _) (.cons (.tup (Ar.of g) (Ai.strs _)) .nil)))
def DI (ths:List (Str×Int)) (as:List (C')) (q:Int):Str×Int:=match as[q.toNat]? with
 |some (some p)=>if p.1=("thing" : Str) then(match ths[p.2.toNat]? with
   |some k=>if k.1=("part" : Str) then("to",k.2) else("no",0)
   |none=>("no",0)) else("no",0)
 |some none=>("open",q)
 |none=>("no",0)
def C0 (ths:List (Str×Int)) (as:List (C')) (p:Str×Int):Str×Int:=
 if p.1=("part" : Str) then("to",p.2) else if p.1=("sort" : Str) then DI ths as p.2 else("no",0)
structure EI (ths:List (Str×Int)) (as:List (C')):Prop where
 q:∀p∈ths,p.1=("sort" : Str)->0<=p.2/\p.2<as.length
 t:∀p,some p∈as->p.1=("thing" : Str)->0<=p.2/\p.2<ths.length
variable {ths:List (Str×Int)}{as:List (C')}
def YX(h:as[n]?=some none):DI ths as (n:Int)=(("open" : Str),(n:Int)):=by
 unfold DI;rw[Bk,h]
def YY(h:as[n]?=some (some p))(a:p.1≠("thing" : Str)):DI ths as (n:Int)=(("no" : Str),0):=by
 unfold DI;rw[Bk,h];exact Aj a
variable {m:Nat}
def YZ{k:Str×Int}(h:as[n]?=some (some p))(a:p.1=("thing" : Str))(b:p.2=(m:Int))(c:ths[m]?=some k)(d:k.1=("part" : Str)):DI ths as (n:Int)=(("to" : Str),k.2):=by
 unfold DI;rw[Bk,h]
 show(if p.1=("thing" : Str) then _ else _)=_
 rw[Ak a,b,Bk,c];exact Ak d
def Y0{k:Str×Int}(h:as[n]?=some (some p))(a:p.1=("thing" : Str))(b:p.2=(m:Int))(c:ths[m]?=some k)(d:k.1≠("part" : Str)):DI ths as (n:Int)=(("no" : Str),0):=by
 unfold DI;rw[Bk,h]
 show(if p.1=("thing" : Str) then _ else _)=_
 rw[Ak a,b,Bk,c];exact Aj d
variable {x:Str}
def VY{X:Cx}{pos:Pos}{e:Expr}{op:Operator}{a:R2}{t:Pos}(b:X.N.Nodup)(c:X.N[i]?=some x)(d:Loc X.env.scope x)(f:PE X e te)(g:DF X (inplaceOp op) a)(h:X.fn x=true\/X.env.scope.names.lookup x=some .local:=by first|exact .inl rfl|exact .inr rfl|assumption) :
 PS X (.AugAssign (.Name x t) op e pos) (N2 i te a):=Lg b c d f g h
abbrev Ch:Type:=Str×Str×Int
abbrev LV (p:Ch):List V:=[.str p.1,.str p.2.1,.int p.2.2]
abbrev CN:Type:=Str×Str×Str×Int
abbrev Ga (p:CN):List V:=[.str p.1,.str p.2.1,.str p.2.2.1,.int p.2.2.2]
abbrev OJ (p:Ch):Dt:=.tup [.str p.1,.str p.2.1,.int p.2.2]
abbrev OK (p:CN):Dt:=.tup [.str p.1,.str p.2.1,.str p.2.2.1,.int p.2.2.2]
section
variable {α:Type} {f:α->List V} {H H':Hp} {ts:List Addr} {rs:List α}
structure RT (f:α->List V) (H:Hp) (ts:List Addr) (rs:List α):Prop where
 len:ts.length=rs.length
 at_:∀(n:Nat)(t:Addr)(r:α),ts[n]?=some t->rs[n]?=some r->H t=some (.tup (f r))
def RT.nil:RT f H [] []:=⟨rfl,λn t p h=>by simp at h⟩
def RT.same(e:Ac H H')(h:RT f H ts rs):RT f H' ts rs:=⟨h.len,λn t p a b=>e _ _ (h.at_ n t p a b)⟩
def RT.keeps(k:Keeps M H H')(h:RT f H ts rs):RT f H' ts rs:=⟨h.len,λn t p a b=>k.tup (h.at_ n t p a b)⟩
def RT.snoc{t:Addr}{r:α}(h:RT f H ts rs)(e:H t=some (.tup (f r))):RT f H (ts++[t]) (rs++[r]):=by
 refine⟨by rw[AZ,AZ,h.len];rfl,λn v q a b=>?_⟩;rcases Nat.lt_or_ge n ts.length with c|i;rw[D1 c] at a;rw[D1 (by rw[<-h.len];exact c)] at b;exact h.at_ n v q a b;have g:n<(ts++[t]).length:=(AN.mp a).1;rw[AZ,DS] at g;have d:n=ts.length:=(by lia);subst d;rw[EB (AE _),Nat.sub_self] at a;rw[EB (by rw[h.len];exact AE _),h.len,Nat.sub_self] at b;cases a;cases b;exact e
def RT.dts{K:Ah}{g:α->Dt}(c:∀(r:α)(t:Addr),H t=some (.tup (f r))->An K H (.ref t) (g r))(h:RT f H ts rs):Ai K H (ts.map V.ref) (rs.map g):=by
 refine Ai.of_get (by simpa using h.len) λn v d a b=>?_;rw[A3] at a b;obtain⟨t,e,rfl⟩:=E7.mp a;obtain⟨q,i,rfl⟩:=E7.mp b;exact c q t (h.at_ n t q e i)
end
def LW{K:Ah}(r:Ch)(t:Addr)(h:H t=some (.tup (LV r))):An K H (.ref t) (OJ r):=.tup (Ar.of h) (.cons (.str _) (.cons (.str _) (.cons (.int _) .nil)))
def LX{K:Ah}(r:CN)(t:Addr)(h:H t=some (.tup (Ga r))):An K H (.ref t) (OK r):=.tup (Ar.of h) (.cons (.str _) (.cons (.str _) (.cons (.str _) (.cons (.int _) .nil))))
abbrev Bp:Type:=List Ch×List CN
abbrev Ht (s:Bp):Dt:=.tup [.lst (s.1.map OJ),.lst (s.2.map OK)]
structure GY (H:Hp) (u G E:Addr) (s:Bp):Prop where
 u:H u=some (.tup [.ref G,.ref E])
 g:∃ts:List Addr,H G=some (.lst (ts.map V.ref))/\RT LV H ts s.1
 e:∃ts:List Addr,H E=some (.lst (ts.map V.ref))/\RT Ga H ts s.2
def GY.same{H H':Hp}{u G E:Addr}{s:Bp}(e:Ac H H')(h:GY H u G E s):GY H' u G E s:=by
 obtain⟨a,⟨ts,b,c⟩,⟨us,d,f⟩⟩:=h;exact⟨e _ _ a,⟨ts,e _ _ b,c.same e⟩,⟨us,e _ _ d,f.same e⟩⟩
def GY.keeps{M:Addr->Prop}{H H':Hp}{u G E:Addr}{s:Bp}(k:Keeps M H H')(b:¬M G)(c:¬M E)(h:GY H u G E s):GY H' u G E s:=by
 obtain⟨a,⟨ts,d,e⟩,⟨us,f,g⟩⟩:=h;exact⟨k.tup a,⟨ts,k.at_ _ _ d b,e.keeps k⟩,⟨us,k.at_ _ _ f c,g.keeps k⟩⟩
variable {s:Bp}
def GY.dt{K:Ah}(h:GY H u G E s):An K H (.ref u) (Ht s):=by
 obtain⟨a,⟨ts,b,c⟩,⟨us,d,e⟩⟩:=h;exact .tup (Ar.of a) (.cons (.lst (Ae.of b) (c.dts LW)) (.cons (.lst (Ae.of d) (e.dts LX)) .nil))
structure C9 (H:Hp) (D:Addr) (us Gs Es:List Addr) (ss:List Bp):Prop where
 top:H D=some (.lst (us.map V.ref))
 lu:us.length=ss.length
 lg:Gs.length=ss.length
 le:Es.length=ss.length
 at_:∀(i:Nat)(u G E:Addr)(s:Bp),us[i]?=some u->Gs[i]?=some G->Es[i]?=some E->ss[i]?=some s->GY H u G E s
def C9.same{H H':Hp}{D:Addr}{us a b:List Addr}{ss:List Bp}(e:Ac H H')(h:C9 H D us a b ss):C9 H' D us a b ss:=
 ⟨e _ _ h.top,h.lu,h.lg,h.le,λi u G E s c d f g=>(h.at_ i u G E s c d f g).same e⟩
variable {Gs Es:List Addr}{ss:List Bp}
def C9.get(h:C9 H D us Gs Es ss)(a:i<ss.length) :
 ∃u G E,us[i]?=some u/\Gs[i]?=some G/\Es[i]?=some E/\ss[i]?=some ss[i]/\GY H u G E ss[i]:=by
 have b:us[i]?=some (us[i]'(by rw[h.lu];exact a)):=AD _;have c:Gs[i]?=some (Gs[i]'(by rw[h.lg];exact a)):=AD _;have d:Es[i]?=some (Es[i]'(by rw[h.le];exact a)):=AD _;exact⟨_,_,_,b,c,d,AD a,h.at_ i _ _ _ _ b c d (AD a)⟩
def C9.keeps{M:Addr->Prop}{H H':Hp}{D:Addr}{us Gs Es:List Addr}{ss:List Bp}(k:Keeps M H H')(d:¬M D)(a:∀x∈Gs++Es,¬M x)(h:C9 H D us Gs Es ss):C9 H' D us Gs Es ss:=
 ⟨k.at_ _ _ h.top d,h.lu,h.lg,h.le,λi u G E s e b c f=>(h.at_ i u G E s e b c f).keeps k (a _ (Ef _ (A6 b))) (a _ (CY _ (A6 c)))⟩
def C9.dts{K:Ah}(h:C9 H D us Gs Es ss):Ai K H (us.map V.ref) (ss.map Ht):=by
 refine Ai.of_get (by simpa using h.lu) λn v d a b=>?_;rw[A3] at a b;obtain⟨u,g,rfl⟩:=E7.mp a;obtain⟨s,c,rfl⟩:=E7.mp b;have i:n<ss.length:=(AN.mp c).1;obtain⟨k,G,E,e,l,m,f,j⟩:=h.get i;rw[g] at e;cases e;rw[c] at f;rw[Br f];exact j.dt
def C9.alive(h:C9 H D us Gs Es ss):∀x∈Gs++Es,∃xs,H x=some (.lst xs):=λx a=>by
 rcases BL.mp a with a|a;obtain⟨j,b⟩:=List.getElem?_of_mem a;have f:j<ss.length:=by rw[<-h.lg];exact(AN.mp b).1
 obtain⟨g,i,k,l,c,d,m,⟨_,⟨n,e,_⟩,_⟩⟩:=h.get f;rw[b] at c;cases c;exact⟨_,e⟩;obtain⟨j,b⟩:=List.getElem?_of_mem a;have f:j<ss.length:=by rw[<-h.le];exact(AN.mp b).1
 obtain⟨g,i,k,l,c,d,m,⟨_,_,⟨n,e,_⟩⟩⟩:=h.get f;rw[b] at d;cases d;exact⟨_,e⟩
def C9.nil(h:H D=some (.lst [])):C9 H D [] [] [] []:=⟨h,rfl,rfl,rfl,λi u G E s a=>by simp at a⟩
def C9.snoc(h:C9 H D us Gs Es ss)(g:GY H u G E s)(j:G≠D)(l:E≠D)(f:∀x∈Gs++Es,x≠D) :
 C9 (upd H D (.lst (us.map V.ref++[.ref u]))) D (us++[u]) (Gs++[G]) (Es++[E]) (ss++[s]):=by
 have k:Keeps (·=D) H (upd H D (.lst (us.map V.ref++[.ref u]))):=Keeps.one h.top;refine⟨by rw[Aa,Bh];rfl,by simp[h.lu],by simp[h.lg],by simp[h.le],λi m n o L d a b c=>?_⟩;rcases Nat.lt_or_ge i ss.length with e|r;rw[D1 (by rw[h.lu];exact e)] at d;rw[D1 (by rw[h.lg];exact e)] at a;rw[D1 (by rw[h.le];exact e)] at b;rw[D1 e] at c;exact(h.at_ i m n o L d a b c).keeps k (f _ (Ef _ (A6 a))) (f _ (CY _ (A6 b)));have q:i<(ss++[s]).length:=(AN.mp c).1;rw[AZ,DS] at q;have p:i=ss.length:=(by lia);subst p;rw[EB (by rw[h.lu];exact AE _),h.lu,Nat.sub_self] at d;rw[EB (by rw[h.lg];exact AE _),h.lg,Nat.sub_self] at a;rw[EB (by rw[h.le];exact AE _),h.le,Nat.sub_self] at b;rw[EB (AE _),Nat.sub_self] at c;cases d;cases a;cases b;cases c;exact g.keeps k j l
def Y1(a:(D::(Gs++Es)).Nodup)(b:G∉D::(Gs++Es))(c:E∉D::(Gs++Es))(d:G≠E):(D::((Gs++[G])++(Es++[E]))).Nodup:=by
 have p:(D::((Gs++[G])++(Es++[E]))).Perm (G::E::(D::(Gs++Es))):=by
  have e:(D::((Gs++[G])++(Es++[E]))).Perm (E::(D::((Gs++[G])++Es))):=by
   have:(D::((Gs++[G])++(Es++[E])))=(D::((Gs++[G])++Es))++[E]:=(by simp);rw[this];exact List.perm_append_singleton _ _
  have J:(D::((Gs++[G])++Es)).Perm (G::(D::(Gs++Es))):=by
   have:(D::((Gs++[G])++Es))=(D::Gs)++G::Es:=(by simp);rw[this];exact List.perm_middle
  exact(e.trans (J.cons E)).trans (List.Perm.swap _ _ _)
 rw[p.nodup_iff,FM,FM];refine⟨λz=>?_,c,a⟩;rcases BV.mp z with z|z;exact d z;exact b z
def BE (ths:List (Str×Int)) (as:List (C')) (p:Ch):Str×Int:=
 if p.2.1=("to" : Str) then("to",p.2.2) else match as[p.2.2.toNat]? with
 |some (some w)=>if w.1=("thing" : Str) then(match ths[w.2.toNat]? with
   |some k=>C0 ths as k
   |none=>("no",0)) else("no",0)
 |some none=>("open",p.2.2)
 |none=>("no",0)
def Y2{p:Ch}(h:p.2.1=("to" : Str)):BE ths as p=(("to" : Str),p.2.2):=Ak h
def Y3{p:Ch}(h:p.2.1≠("to" : Str))(a:p.2.2=(n:Int))(b:as[n]?=some none):BE ths as p=(("open" : Str),p.2.2):=by
 unfold BE;rw[Aj h,a,Bk,b]
def Y4{p:Ch}{w:Str×Int}(h:p.2.1≠("to" : Str))(a:p.2.2=(n:Int))(b:as[n]?=some (some w))(c:w.1≠("thing" : Str)):BE ths as p=(("no" : Str),0):=by
 unfold BE;rw[Aj h,a,Bk,b];exact Aj c
def Y5{p:Ch}{w k:Str×Int}(h:p.2.1≠("to" : Str))(a:p.2.2=(n:Int))(b:as[n]?=some (some w))(c:w.1=("thing" : Str))(d:w.2=(m:Int))(e:ths[m]?=some k):BE ths as p=C0 ths as k:=by
 unfold BE;rw[Aj h,a,Bk,b]
 show(if w.1=("thing" : Str) then _ else _)=_
 rw[Ak c,d,Bk,e]
section
variable {X:Cx}
end
def SX (s q:Int) (p:Str×Int):Prop:=(p.1=("plain" : Str)/\p.2=0)\/(p.1=("part" : Str)/\0<=p.2/\p.2<s)\/(p.1=("sort" : Str)/\0<=p.2/\p.2<q)
def LY (s q:Int) (p:Ch):Prop:=(p.2.1=("to" : Str)/\0<=p.2.2/\p.2.2<s)\/(p.2.1=("by" : Str)/\0<=p.2.2/\p.2.2<q)
def LZ (t q:Int) (p:CN):Prop:=(p.2.2.1=("thing" : Str)/\0<=p.2.2.2/\p.2.2.2<t)\/(p.2.2.1=("by" : Str)/\0<=p.2.2.2/\p.2.2.2<q)
structure Fg (H:Hp) (S T R:Addr) (us Gs Es ts qt:List Addr) (ss:List Bp) (gs:List (Str×Int)) (qs:List Qu):Prop where
 sc:C9 H S us Gs Es ss
 et:H T=some (.lst (ts.map V.ref))
 tg:GT H ts gs
 er:H R=some (.lst (qt.map V.ref))
 tq:QT H qt qs
def Fg.same{H H':Hp}{S T R:Addr}{us Gs Es ts a:List Addr}{ss:List Bp}{gs:List (Str×Int)}{qs:List Qu}(e:Ac H H')(h:Fg H S T R us Gs Es ts a ss gs qs):Fg H' S T R us Gs Es ts a ss gs qs:=
 ⟨h.sc.same e,e _ _ h.et,h.tg.same e,e _ _ h.er,h.tq.same e⟩
abbrev Hu (ss:List Bp) (gs:List (Str×Int)) (qs:List Qu):Dt:=.tup [.lst (ss.map Ht),.lst (gs.map FE),.lst (qs.map VX)]
def Fg.dt{K:Ah}{a S T R:Addr}{b:List Addr}(h:Fg H S T R us Gs Es ts b ss gs qs)(e:H a=some (.tup [.ref S,.ref T,.ref R])):An K H (.ref a) (Hu ss gs qs):=
 .tup (Ar.of e) (.cons (.lst (Ae.of h.sc.top) h.sc.dts) (.cons (.lst (Ae.of h.et) h.tg.dts) (.cons (.lst (Ae.of h.er) h.tq.dts) .nil)))
def Jd(s r:Bp):C6 4 (Ht s) (Ht r):=by
 refine .tup (.cons (.lst (Bo.of λd hd e a=>?_)) (.cons (.lst (Bo.of λd hd e a=>?_)) (.nil _)));obtain⟨p,_,rfl⟩:=AL.mp hd;obtain⟨q,_,rfl⟩:=AL.mp a;exact .tup (.cons (.str _ _) (.cons (.str _ _) (.cons (.int _ _) (.nil _))));obtain⟨p,_,rfl⟩:=AL.mp hd;obtain⟨q,_,rfl⟩:=AL.mp a;exact .tup (.cons (.str _ _) (.cons (.str _ _) (.cons (.str _ _) (.cons (.int _ _) (.nil _)))))
def Je(ss b:List Bp)(gs c:List (Str×Int))(qs f:List Qu):C6 6 (Hu ss gs qs) (Hu b c f):=by
 refine .tup (.cons (.lst (Bo.of λd hd e a=>?_)) (.cons (.lst (Bo.of λd hd e a=>?_)) (.cons (.lst (Bo.of λd hd e a=>?_)) (.nil _))));obtain⟨p,_,rfl⟩:=AL.mp hd;obtain⟨q,_,rfl⟩:=AL.mp a;exact Jd p q;obtain⟨p,_,rfl⟩:=AL.mp hd;obtain⟨q,_,rfl⟩:=AL.mp a;exact .tup (.cons (.str _ _) (.cons (.int _ _) (.nil _)));obtain⟨p,_,rfl⟩:=AL.mp hd;obtain⟨q,_,rfl⟩:=AL.mp a;refine .tup (.cons (.int _ _) (.cons (.int _ _) (.cons (.tup (Bo.of λd hd e a=>?_)) (.nil _))));obtain⟨p,_,rfl⟩:=AL.mp hd;obtain⟨q,_,rfl⟩:=AL.mp a;exact .str _ _
abbrev Jf (K:Ah):List V->Hp->VK->Prop:=λxs H Q=>∃p ys,xs=[V.ref p]/\(Ae K H p ys\/Ar K H p ys)/\∀l,H l=none->Q (V.ref l) (upd H l (HO.lst ys))
def C9.tell(h:C9 H D us Gs Es ss)(q:(D::(Gs++Es)).Nodup){t:Addr}{p:CN}(g:i<ss.length)(b:Es[i]?=some E)(r:H E=some (.lst (ts.map V.ref)))(T:RT Ga H ts ss[i].2)(v:H t=some (.tup (Ga p))) :
 C9 (upd H E (.lst (ts.map V.ref++[.ref t]))) D us Gs Es (ss.set i (ss[i].1,ss[i].2++[p])):=by
 have k:Keeps (·=E) H (upd H E (.lst (ts.map V.ref++[.ref t]))):=Keeps.one r;obtain⟨w,C⟩:=FM.mp q;obtain⟨K,ne,F⟩:=List.nodup_append.mp C;have l:E∈Es:=A6 b;refine⟨k.at_ _ _ h.top λz=>w (z▸CY _ l),by rw[G1];exact h.lu,by rw[G1];exact h.lg,by rw[G1];exact h.le,λj u G m s n f c d=>?_⟩;have o:G≠E:=λz=>F G (A6 f) E l z;by_cases e:i=j;subst e;rw[b] at c;cases c;rw[List.getElem?_set_self g] at d;cases d;obtain⟨a,⟨I,x,y⟩,_⟩:=h.at_ i u G E _ n f b (AD g);exact⟨k.tup a,⟨I,k.at_ _ _ x o,y.keeps k⟩,⟨ts++[t],by rw[Aa,Bh];rfl,(T.keeps k).snoc (k.tup v)⟩⟩;rw[List.getElem?_set_ne e] at d
 have J:m≠E:=λz=>by
  subst z;obtain⟨L,A⟩:=AN.mp c;obtain⟨M,B⟩:=AN.mp b;exact e ((List.getElem_inj ne).mp (B.trans A.symm))
 exact(h.at_ j u G m s n f c d).keeps k o J
open PySem.SeqAt
open PySem.AutoSeq1 (wpAny_loadPart')
open PySem.MeetsSeq PySem.MeetsSeq2 PySem.MeetsSeq3
def B5 (A:Around) (s:Shared) (x y:Value) (b:Bool):Prop:=
 ∀(prog:Program)(w:World)(E:D')(Q:D'),Q (.bool b) s->wpAny (model prog w) A (richCompare .Lt x y) Q E s
inductive BF (A:Around) (s:Shared):List Value->List Value->Bool->Prop where
 |nil:BF A s [] [] false
 |lt (w:Value) (ws:List Value):BF A s [] (w::ws) true
 |gt (v:Value) (vs:List Value):BF A s (v::vs) [] false
 |eq {v w:Value} {vs ws:List Value} {b:Bool} (h:EqAt A s v w true) (t:BF A s vs ws b):BF A s (v::vs) (w::ws) b
 |ne {v w:Value} {vs ws:List Value} {b:Bool} (h:EqAt A s v w false) (l:B5 A s v w b):BF A s (v::vs) (w::ws) b
def Y6(l b:Addr)(f e:Array Value)(n C:Nat)(D J:Option Addr)(E K:Array (Option Value))(c:Bool) :
 Meets (Builtin.«tuple.__lt__» ⟨[.ref l,.ref b],[]⟩)
  (λA R s=>s.heap.get? l=some {cls:=.type "tuple",dict:=D,data:=.seq f n,slots:=E}/\s.heap.get? b=some {cls:=.type "tuple",dict:=J,data:=.seq e C,slots:=K} /\
   BF A.in1 s f.toList e.toList c/\R (.ok (.ret (.bool c))) s):=
 .of_wp λu w A R s h=>by
  obtain⟨v,g,d,tk,z⟩:=s;obtain⟨F,hb,i,h⟩:=h;have N:=AutoSeq1.sub_tuple_tuple
  wp_walk using wpAny_loadPart' F,wpAny_loadPart' hb,wpAny_forIn_list _ (λj b L=>b.1=none/\L=⟨v,g,d,tk,z⟩/\∃(vs k:List Value),j=vs.zip k /\
   BF A.in1 ⟨v,g,d,tk,z⟩ vs k c/\vs.length+e.size=k.length+f.size) _
  case turn =>
   rintro⟨y,x⟩ j b L ⟨q,rfl,vs,k,a,r,m⟩
   cases r with
   |nil=>rw[List.zip_nil_left] at a;cases a
   |lt=>rw[List.zip_nil_left] at a;cases a
   |gt=>rw[List.zip_nil_right] at a;cases a
   |eq o G =>
     rw[List.zip_cons_cons] at a;injection a with t B;injection t with p i;subst p i;simp only[Ew] at m;refine Ad (o u w _ _ ?_)
     wp_walk
     exact⟨rfl,rfl,_,_,B,G,by lia⟩
   |ne o H =>
     rw[List.zip_cons_cons] at a;injection a with t B;injection t with p i;subst p i;refine Ad (o u w _ _ ?_);have M:=H u w
     wp_walk using M
     exact⟨_,rfl,by simpa using h⟩
  case fin =>
   rintro⟨O,P⟩ L ⟨q,rfl,vs,k,a,r,m⟩;simp only at q;subst q
   have I:c=decide (f.size<e.size):=by
    cases r with
    |nil =>
      simp only[GO] at m;exact(Dw (by lia)).symm
    |lt =>
      simp only[GO,Ew] at m;exact(By (by lia)).symm
    |gt =>
      simp only[GO,Ew] at m;exact(Dw (by lia)).symm
    |eq=>rw[List.zip_cons_cons] at a;cases a
    |ne=>rw[List.zip_cons_cons] at a;cases a
   rw[I] at h
   wp_walk
   exact⟨_,rfl,by simpa [Builtin.Tuple.tupleCompareSizes] using h⟩
  case h =>
   exact⟨rfl,rfl,f.toList,e.toList,rfl,i,by simp[Nat.add_comm]⟩
def Y7(l b:Addr)(f e:Array Value)(n B:Nat)(C M:Option Addr)(D N:Array (Option Value))(c:Bool)(k:Nat) :
 ∀i:Nat,f.size-i=k->i<=f.size->i<=e.size->Meets (Builtin.«list.__eq__.loop» ⟨[.ref l,.ref b,rawInt i,rawInt 0],[]⟩)
  (λA R s=>s.heap.get? l=some {cls:=.type "list",dict:=C,data:=.seq f n,slots:=D}/\s.heap.get? b=some {cls:=.type "list",dict:=M,data:=.seq e B,slots:=N} /\
   BF A.in1 s (f.toList.drop i) (e.toList.drop i) c/\R (.ok (.ret (.bool c))) s):=by
 induction k with
 |zero =>
   intro i E F O p w A R s h;obtain⟨G,g,d,tk,H⟩:=s;obtain⟨j,hb,a,h⟩:=h;have t:f.toList.drop i=[]:=by simp;lia
   rw[t] at a
   have u:c=decide (f.size<e.size):=by
    generalize m:e.toList.drop i=r at a;have v:=Bw List.length m;simp only[G2,Array.length_toList] at v
    cases a with
    |nil=>simp only[GO] at v;exact(Dw (by lia)).symm
    |lt=>simp only[Ew] at v;exact(By (by lia)).symm
   wp_walk using wpAny_loadPart' j,wpAny_loadPart' hb
   have o:f[((i:Nat):Int).toNat]?=none:=by simp;lia
   rw[o]
   wp_walk using wpAny_loadPart' j,wpAny_loadPart' hb
   show R (.ok (.ret (.bool (decide (f.size<e.size))))) _;rw[<-u];exact h
 |succ k I =>
   intro i E F O p w A R s h;obtain⟨G,g,d,tk,H⟩:=s;obtain⟨j,hb,a,h⟩:=h;have y:i<f.size:=(by lia);have o:f[((i:Nat):Int).toNat]?=some f[i]:=(by simp[y]);have t:f.toList.drop i=f[i]::f.toList.drop (i+1):=(by simp[MX,y]);rw[t] at a
   wp_walk using wpAny_loadPart' j,wpAny_loadPart' hb
   by_cases z:i<e.size;have q:e[((i:Nat):Int).toNat]?=some e[i]:=(by simp[z]);have m:e.toList.drop i=e[i]::e.toList.drop (i+1):=(by simp[MX,z]);have J:((i:Int)+1)=((i+1:Nat):Int):=by push_cast;rfl
   rw[m] at a;rw[o,q]
   cases a with
   |eq x K =>
     refine Ad (x p w _ _ ?_)
     wp_walk
     rw[J]
     exact⟨plainId_quiet plain_eq_loop _,codeAny_builtin entry_eq_loop (by
      rw[Around.under_plainId plain_eq_loop _]
      exact I (i+1) (by lia) (by lia) (by lia) p w A R _ ⟨j,hb,K,h⟩)⟩
   |ne x L =>
     refine Ad (x p w _ _ ?_);have P:=L p w
     wp_walk using wpAny_loadPart' j,wpAny_loadPart' hb
     rw[o,q]
     wp_walk using P
     exact h
   have q:e[((i:Nat):Int).toNat]?=none:=by simp;lia
   have m:e.toList.drop i=[]:=by simp;lia
   rw[m] at a
   have u:c=decide (f.size<e.size):=by
    cases a;exact(Dw (by lia)).symm
   rw[o,q]
   wp_walk using wpAny_loadPart' j,wpAny_loadPart' hb
   show R (.ok (.ret (.bool (decide (f.size<e.size))))) _;rw[<-u];exact h
def VZ(l b:Addr)(f e:Array Value)(n a:Nat)(i m:Option Addr)(j o:Array (Option Value))(c:Bool) :
 Meets (Builtin.«list.__lt__» ⟨[.ref l,.ref b],[]⟩)
  (λA R s=>s.heap.get? l=some {cls:=.type "list",dict:=i,data:=.seq f n,slots:=j}/\s.heap.get? b=some {cls:=.type "list",dict:=m,data:=.seq e a,slots:=o} /\
   BF A.in1 s f.toList e.toList c/\R (.ok (.ret (.bool c))) s):=by
 intro q w A R s h;obtain⟨r,g,d,tk,t⟩:=s;obtain⟨k,hb,p,h⟩:=h;have u:=AutoSeq1.sub_list_list
 wp_walk using wpAny_loadPart' k,wpAny_loadPart' hb
 exact⟨plainId_quiet plain_eq_loop _,codeAny_builtin entry_eq_loop (by
  rw[Around.under_plainId plain_eq_loop _]
  exact Y7 l b f e n a i m j o c _ 0 rfl (C7 _) (C7 _) q w A R _ ⟨k,hb,by simpa using p,h⟩)⟩
section
variable {A:Around} {s:Shared}
variable {l b:Addr}{f e:Array Value}{c:Bool}
def B5.tuples(k:IsTup s.heap l f)(hb:IsTup s.heap b e)(m:BF A.in1 s f.toList e.toList c)(o:A.units<cLine):B5 A s (.ref l) (.ref b) c:=λy w E Q h=>by
 obtain⟨⟨v,p,z,q⟩,a,d,n,hd⟩:=id k;obtain⟨⟨B,t,data2,u⟩,g,i,r,j⟩:=id hb;simp only at d hd i j;subst d hd i j
 exact richCompare_meets_room (op:=.Lt) ⟨_,a,rfl⟩ ⟨_,g,rfl⟩ PySem.F.slot_tuple_lt PySem.F.entry_tuple_lt (PySem.F.args_tuple_lt_2 _ _) (Y6 l b f e n r p t q u c)
  ⟨a,g,m,show Value.bool c≠Value.notImplemented/\Q (.bool c) s from⟨(λx=>nomatch x),h⟩⟩ o
def B5.lists(k:s.heap.IsList l f)(hb:s.heap.IsList b e)(m:BF A.in1 s f.toList e.toList c)(o:A.units<cLine):B5 A s (.ref l) (.ref b) c:=λy w E Q h=>by
 obtain⟨⟨v,p,z,q⟩,a,d,n,hd⟩:=id k;obtain⟨⟨B,t,data2,u⟩,g,i,r,j⟩:=id hb;simp only at d hd i j;subst d hd i j
 exact richCompare_meets_room (op:=.Lt) ⟨_,a,rfl⟩ ⟨_,g,rfl⟩ PySem.F.slot_list_lt PySem.F.entry_list_lt (PySem.F.args_list_lt_2 _ _) (VZ l b f e n r p t q u c)
  ⟨a,g,m,show Value.bool c≠Value.notImplemented/\Q (.bool c) s from⟨(λx=>nomatch x),h⟩⟩ o
def V0{prog:Program}{w:World}{E:D'}{Q:Bool->Shared->Prop}(j:s.heap.IsList l f)(hb:s.heap.IsList b e)(k:BF A.in1 s f.toList e.toList c)(m:A.units<cLine)(h:Q c s) :
 wpAny (model prog w) A (oneLt' true (.ref l) (.ref b)) Q E s:=by
 obtain⟨⟨v,o,x,p⟩,a,d,n,hd⟩:=id j;obtain⟨⟨y,r,data2,t⟩,u,g,q,i⟩:=id hb;simp only at d hd g i;subst d hd g i;rw[oneLt'_eq];simp only[if_true];refine Ad (wpAny_cRoomFor m ?_);refine Ad (wpAny_callSpecialIfBound?_slot (T:= "list") ⟨_,a,rfl⟩ PySem.F.slot_list_lt (call_meets PySem.F.slot_list_lt ⟨_,a,rfl⟩ PySem.F.entry_list_lt (PySem.F.args_list_lt_2 _ _) (VZ l b f e n q o r p t c) ⟨a,u,k,?_⟩));exact F0 h
end
def EJ (O:KeyOrd):List O.α->List O.α->Bool
 |[],[]=>false
 |[],_::_=>true
 |_::_,[]=>false
 |x::xs,y::ys=>O.blt x y || (!O.blt y x && EJ O xs ys)
def L0(O:KeyOrd)(x y:O.α)(xs ys:List O.α):EJ O (x::xs) (y::ys)=(O.blt x y || (!O.blt y x && EJ O xs ys)):=rfl
theorem V1(O:KeyOrd):∀xs,EJ O xs xs=false
 |[]=>rfl
 |x::xs=>by rw[L0,O.irrefl,V1 O xs];rfl
theorem V2(O:KeyOrd):∀xs ys zs,EJ O xs ys=true->EJ O ys zs=true->EJ O xs zs=true
 |[],[],_,h,_=>by cases h
 |[],_::_,[],_,k=>by cases k
 |[],_::_,_::_,_,_=>rfl
 |_::_,[],_,h,_=>by cases h
 |_::_,_::_,[],_,k=>by cases k
 |x::xs,y::ys,z::zs,a,b=>by
   rw[L0] at *;simp only[Bool.or_eq_true,Bool.and_eq_true,Bool.not_eq_true'] at a b ⊢
   rcases a with a|⟨a,c⟩<;>rcases b with b|⟨b,d⟩;exact .inl (O.trans _ _ _ a b);exact .inl (KeyOrd.klt_of_klt_of_kle a b);exact .inl (KeyOrd.klt_of_kle_of_klt a b);exact .inr ⟨KeyOrd.kle_trans (O:=O) a b,V2 O xs ys zs c d⟩
theorem V3(O:KeyOrd):∀xs ys zs,EJ O xs zs=true->EJ O xs ys=true\/EJ O ys zs=true
 |[],[],[],h=>by cases h
 |[],[],_::_,_=>.inr rfl
 |[],_::_,_,_=>.inl rfl
 |_::_,_,[],h=>by cases h
 |_::_,[],_::_,_=>.inr rfl
 | x :: xs,y :: ys,z :: zs,h=>by
   rw[L0] at *;rw[L0];simp only[Bool.or_eq_true,Bool.and_eq_true,Bool.not_eq_true'] at h ⊢
   rcases h with h|⟨h,k⟩;rcases O.negTrans _ y _ h with h|h;exact .inl (.inl h);exact .inr (.inl h)
   cases b:O.blt x y with
   |true=>exact .inl (.inl rfl)
   |false =>
     cases c:O.blt y z with
     |true=>exact .inr (.inl rfl)
     |false =>
       have d:O.kle y x:=b;have e:O.kle z y:=c;have a:O.kle x z:=h;have f:O.blt y x=false:=KeyOrd.kle_trans (O:=O) a e;have g:O.blt z y=false:=KeyOrd.kle_trans (O:=O) d a;rcases V3 O xs ys zs k with k|k;exact .inl (.inr ⟨f,k⟩);exact .inr (.inr ⟨g,k⟩)
theorem V4(O:KeyOrd):∀xs ys,EJ O xs ys=false->EJ O ys xs=false->xs=ys
 |[],[],_,_=>rfl
 |[],_::_,h,_=>by cases h
 |_::_,[],_,k=>by cases k
 |x::xs,y::ys,a,b=>by
   rw[L0] at a b;simp only[Bool.or_eq_false_iff,Bool.and_eq_false_iff,Bool.not_eq_false'] at a b;have c:x=y:=O.total _ _ a.1 b.1;have d:xs=ys:=V4 O xs ys (by rcases a.2 with z|z;exact absurd (b.1.symm.trans z) (by simp);exact z) (by rcases b.2 with z|z;exact absurd (a.1.symm.trans z) (by simp);exact z);rw[c,d]
@[reducible] def OL (O:KeyOrd):KeyOrd where
 α:=List O.α
 blt:=EJ O
 irrefl:=V1 O
 trans:=V2 O
 negTrans:=V3 O
 total:=V4 O
def Np{P:KeyOrd}(x y:(Eh O P).α)(e:x.1=y.1):(Eh O P).blt x y=P.blt x.2 y.2:=by
 show(O.blt x.1 y.1 || (!O.blt y.1 x.1 && P.blt x.2 y.2))=_;rw[e,O.irrefl];rfl
def Nq{P:KeyOrd}(x y:(Eh O P).α)(e:x.1≠y.1):(Eh O P).blt x y=O.blt x.1 y.1:=by
 show(O.blt x.1 y.1 || (!O.blt y.1 x.1 && P.blt x.2 y.2))=_
 cases a:O.blt x.1 y.1 with
 |true=>rfl
 |false =>
   cases b:O.blt y.1 x.1 with
   |true=>rfl
   |false=>exact absurd (O.total _ _ a b) e
def Y8(x:O.α)(xs ys:List O.α):EJ O (x::xs) (x::ys)=EJ O xs ys:=by
 rw[L0,O.irrefl];rfl
def Y9{x y:O.α}(xs ys:List O.α)(e:x≠y):EJ O (x::xs) (y::ys)=O.blt x y:=by
 rw[L0]
 cases a:O.blt x y with
 |true=>rfl
 |false =>
   cases b:O.blt y x with
   |true=>rfl
   |false=>exact absurd (O.total _ _ a b) e
mutual
theorem C6.mono {n m:Nat}{d e:Dt} (c:C6 n d e) (h:n<=m):C6 m d e:=by
 cases c with
 | non=>exact .non
 | bl a b=>exact .bl a b
 | int a b=>exact .int a b
 | str a b=>exact .str a b
 | tup t=>cases m with
   | zero=>exact absurd h (Nat.not_succ_le_zero _)
   | succ m=>exact .tup (Bo.mono t (Nat.le_of_succ_le_succ h))
 | lst t=>cases m with
   | zero=>exact absurd h (Nat.not_succ_le_zero _)
   | succ m=>exact .lst (Bo.mono t (Nat.le_of_succ_le_succ h))
 | apart a=>cases m with
   | zero=>exact absurd h (Nat.not_succ_le_zero _)
   | succ m=>exact .apart a
theorem Bo.mono {n m:Nat}{a es:List Dt} (c:Bo n a es) (h:n<=m):Bo m a es:=by
 cases c with
 | nil=>exact .nil _
 | nil'=>exact .nil' _
 | cons c t=>exact .cons (C6.mono c h) (Bo.mono t h)
end
structure Enc where
 O:KeyOrd
 D:O.α->Dt
 dflt:O.α
 dep:Nat
 cmp:∀a b,C6 dep (D a) (D b)
 inj:∀a b,D a=D b->a=b
 lt:∀{X:Cx}{pins:B'}{σ:St}{H:Hp}{s:Shared},Inv X pins σ H s->∀{a b:O.α}{v u:V}{x y:Value}{A:Around},An X.K H v (D a)->An X.K H u (D b)->RelV v x->RelV u y->A.units+dep<cLine->B5 A s x y (O.blt a b)
section
variable {X:Cx} {pins:B'} {σ:St} {H:Hp} {s:Shared}
def Enc.eq(c:Enc)(I:Inv X pins σ H s){a b:c.O.α}{u:V}{x y:Value}{A:Around}(hv:An X.K H v (c.D a))(d:An X.K H u (c.D b))(e:RelV v x)(f:RelV u y)(g:A.units+c.dep<cLine):EqAt A s x y (dec (a=b)):=by
 have:=VL (A:=A) I (c.cmp a b) hv d e f g
 rwa [Nm (p:=c.D a=c.D b) (q:=a=b) ⟨c.inj a b,λz=>by rw[z]⟩] at this
def Enc.lex(c:Enc)(I:Inv X pins σ H s){a b:c.O.α}{u:V}{x y:Value}{A:Around}{vs ws:List Value}{e f:Bool}(hv:An X.K H v (c.D a))(h:An X.K H u (c.D b))(i:RelV v x)(j:RelV u y)(k:A.units+c.dep<cLine)(l:a=b->BF A s vs ws e/\f=e)(m:a≠b->f=c.O.blt a b):BF A s (x::vs) (y::ws) f:=by
 have d:=c.eq (A:=A) I hv h i j k;by_cases g:a=b;rw[Ex g] at d;obtain⟨t,rfl⟩:=l g;exact .eq d t;rw[Fp g] at d;rw[m g];exact .ne d (c.lt I hv h i j k)
end
@[reducible] def FG:Enc where
 O:=OI
 D:=Dt.int
 dflt:=(0:Int)
 dep:=0
 cmp a b:=.int a b
 inj a b h:=Dt.int.inj h
 lt {X pins σ H s} I {a b v u x y A} hv hu rx ry _:=by
  cases hv;cases hu;obtain⟨t,rfl⟩:=rx;obtain⟨t',rfl⟩:=ry;exact λprog w E Q h=>(PySem.P.lt_int h:wpAny (model prog w) _ (compareOp .Lt _ _) Q E _)
@[reducible] def SY:Enc where
 O:=OH
 D:=Dt.str
 dflt:=(default:Str)
 dep:=0
 cmp a b:=.str a b
 inj a b h:=Dt.str.inj h
 lt {X pins σ H s} I {a b v u x y A} hv hu rx ry _:=by
  cases hv;cases hu;obtain⟨t,rfl⟩:=rx;obtain⟨t',rfl⟩:=ry;exact λprog w E Q h=>(PySem.P.lt_str h:wpAny (model prog w) _ (compareOp .Lt _ _) Q E _)
section
variable {X:Cx} {pins:B'} {σ:St} {H:Hp} {s:Shared}
def Enc.lexL(c:Enc)(I:Inv X pins σ H s){A:Around}(j:A.units+c.dep<cLine):∀{as bs:List c.O.α}{vs us:List V}{xs ys:List Value},Ai X.K H vs (as.map c.D)->Ai X.K H us (bs.map c.D)->At vs xs->At us ys->BF A s xs ys (EJ c.O as bs):=by
 intro as
 induction as with
 |nil =>
   intro bs vs us xs ys g d i f;cases g;cases i
   cases bs with
   |nil=>cases d;cases f;exact .nil
   |cons b bs=>cases d;cases f;exact .lt _ _
 |cons a as k =>
   intro bs vs us xs ys g d i f
   cases g with
   |cons h t=>cases i with
     |cons r q=>cases bs with
       |nil=>cases d;cases f;exact .gt _ _
       |cons b bs=>cases d with
         |cons l m=>cases f with
           |cons n o=>exact c.lex I h l r n j (λe=>⟨k t m q o,by subst e;exact Y8 a as bs⟩) (λe=>Y9 as bs e)
end
theorem V5(c:Enc):∀{a b:List c.O.α},a.map c.D=b.map c.D->a=b
 |[],[],_=>rfl
 |[],_::_,h=>by cases h
 |_::_,[],h=>by cases h
 |x::a,y::b,h=>by
   rw[Eu,Eu] at h;injection h with d e;rw[c.inj x y d,V5 c e]
@[reducible] def Ej (c:Enc):Enc where
 O:=OL c.O
 D l:=Dt.lst (l.map c.D)
 dflt:=([]:List c.O.α)
 dep:=c.dep+1
 cmp a b:=.lst (Bo.of λd hd e he=>by
  obtain⟨x,_,rfl⟩:=AL.mp hd;obtain⟨y,_,rfl⟩:=AL.mp he
  exact c.cmp x y)
 inj a b h:=V5 c (Dt.lst.inj h)
 lt {X pins σ H s} I {a b v u x y A} hv hu rx ry hA:=by
  cases hv with
  |lst h t =>
    cases hu with
    |lst h' t' =>
      cases rx;cases ry;obtain⟨its,r,p,_⟩:=I.list h;obtain⟨its',r',R,_⟩:=I.list h';exact B5.lists p.isList R.isList (c.lexL (A:=A.in1) I (by rw[GV];lia) t t' r r') (by lia)
def L1{K:Ah}{d e:Dt}(h:Ai K H vs [d,e]):∃a b,vs=[a,b]/\An K H a d/\An K H b e:=by
 cases h with
 |cons c t=>cases t with
   |cons f t=>cases t;exact⟨_,_,rfl,c,f⟩
def OM{K:Ah}{d e f:Dt}(h:Ai K H vs [d,e,f]):∃a b c,vs=[a,b,c]/\An K H a d/\An K H b e/\An K H c f:=by
 cases h with
 |cons g t=>obtain⟨a,b,rfl,i,j⟩:=L1 t;exact⟨_,_,_,rfl,g,i,j⟩
def Hv{x y z:V}{us:List Value}(r:At [x,y,z] us):∃u w v,us=[u,w,v]/\RelV x u/\RelV y w/\RelV z v:=by
 cases r with
 |cons c d=>obtain⟨a,b,rfl,e,f⟩:=Kl d;exact⟨_,_,_,rfl,c,e,f⟩
@[reducible] def L3 (c d:Enc):Enc where
 O:=Eh c.O d.O
 D p:=Dt.tup [c.D p.1,d.D p.2]
 dflt:=(c.dflt,d.dflt)
 dep:=max c.dep d.dep+1
 cmp a b:=.tup (.cons ((c.cmp a.1 b.1).mono (Nat.le_max_left _ _)) (.cons ((d.cmp a.2 b.2).mono (Nat.le_max_right _ _)) (.nil _)))
 inj a b h:=by
  injection h with h;injection h with h1 h2;injection h2 with h2 _;exact Prod.ext (c.inj _ _ h1) (d.inj _ _ h2)
 lt {X pins σ H s} I {a b v u x y A} hv hu rx ry hA:=by
  have m1:=Nat.le_max_left c.dep d.dep;have m2:=Nat.le_max_right c.dep d.dep
  cases hv with
  |tup h t =>
    cases hu with
    |tup h' t' =>
      cases rx;cases ry;obtain⟨its,r,p,_⟩:=I.tuple h;obtain⟨its',r',R,_⟩:=I.tuple h';obtain⟨v1,v2,rfl,t1,t2⟩:=L1 t;obtain⟨u1,u2,rfl,s1,s2⟩:=L1 t';obtain⟨x1,x2,rfl,r1,r2⟩:=Kl r;obtain⟨y1,y2,rfl,q1,q2⟩:=Kl r';refine B5.tuples p R (c.lex (A:=A.in1) I t1 s1 r1 q1 (by rw[GV];lia) (λe=>⟨d.lex (A:=A.in1) I t2 s2 r2 q2 (by rw[GV];lia) (λe'=>⟨.nil,?_⟩) λe'=>rfl,Np a b e⟩) λe=>Nq a b e) (by lia);rw[e',d.O.irrefl]
@[reducible] def Kv (c d e:Enc):Enc where
 O:=Eh c.O (Eh d.O e.O)
 D p:=Dt.tup [c.D p.1,d.D p.2.1,e.D p.2.2]
 dflt:=(c.dflt,d.dflt,e.dflt)
 dep:=max c.dep (max d.dep e.dep)+1
 cmp a b:=.tup (.cons ((c.cmp a.1 b.1).mono (Nat.le_max_left _ _)) (.cons ((d.cmp a.2.1 b.2.1).mono (by lia)) (.cons ((e.cmp a.2.2 b.2.2).mono (by lia)) (.nil _))))
 inj a b h:=by
  injection h with h;injection h with h1 h2;injection h2 with h2 h3;injection h3 with h3 _;exact Prod.ext (c.inj _ _ h1) (Prod.ext (d.inj _ _ h2) (e.inj _ _ h3))
 lt {X pins σ H s} I {a b v u x y A} hv hu rx ry hA:=by
  have m1:=Nat.le_max_left c.dep (max d.dep e.dep);have m2:=Nat.le_max_right c.dep (max d.dep e.dep);have m3:=Nat.le_max_left d.dep e.dep;have m4:=Nat.le_max_right d.dep e.dep
  cases hv with
  |tup h t =>
    cases hu with
    |tup h' t' =>
      cases rx;cases ry;obtain⟨its,r,p,_⟩:=I.tuple h;obtain⟨its',r',R,_⟩:=I.tuple h';obtain⟨v1,v2,v3,rfl,t1,t2,t3⟩:=OM t;obtain⟨u1,u2,u3,rfl,s1,s2,s3⟩:=OM t';obtain⟨x1,x2,x3,rfl,r1,r2,r3⟩:=Hv r;obtain⟨y1,y2,y3,rfl,q1,q2,q3⟩:=Hv r';refine B5.tuples p R (c.lex (A:=A.in1) I t1 s1 r1 q1 (by rw[GV];lia) (λg=>⟨d.lex (A:=A.in1) I t2 s2 r2 q2 (by rw[GV];lia) (λg'=>⟨e.lex (A:=A.in1) I t3 s3 r3 q3 (by rw[GV];lia) (λg''=>⟨.nil,?_⟩) λζ=>rfl,Np a.2 b.2 g'⟩) λg'=>Nq a.2 b.2 g',Np a b g⟩) λg=>Nq a b g) (by lia);rw[g'',e.O.irrefl]
section
variable {X:Cx}
abbrev Dz (c:Enc):Type:=V×c.O.α
def Qg (X:Cx) (c:Enc):List V->Hp->VK->Prop:=λvs H Q=>∃(l:Addr)(zs:List (Dz c)),vs=[.ref l]/\Ae X.K H l (zs.map (·.1))/\zs.length<64 /\
 (∀z∈zs,An X.K H z.1 (c.D z.2))/\∀(D:Addr)(zs':List (Dz c)),zs'.Perm zs->(zs'.map (·.2)).Pairwise c.O.kle->H D=none->Q (.ref D) (upd H D (.lst (zs'.map (·.1))))
theorem S0(c:Enc)(κ:SortKind)
 (aj:∀(pins:B')(σ:St)(H:Hp)(s:Shared)(zs:List (Dz c))(g:List Value)(Q:SortKind->Shared->Prop),Inv X pins σ H s->At (zs.map (·.1)) g->(∀z∈zs,An X.K H z.1 (c.D z.2))->2<=g.length->Q κ s->wpAny (model X.prog X.w) X.A.in1.in1 (keyKind' g.toArray) Q (λζ ζ=>False) s)
 (ai:∀(pins:B')(σ:St)(H:Hp)(s:Shared)(z m:Dz c)(x y:Value)(C:Bool->Shared->Prop),Inv X pins σ H s->An X.K H z.1 (c.D z.2)->An X.K H m.1 (c.D m.2)->RelV z.1 x->RelV m.1 y->C (c.O.blt z.2 m.2) s->wpAny (model X.prog X.w) X.A.in1.in1 (keyLt' κ x y) C (λζ ζ=>False) s) :
 Bi X (.builtin "sorted") (Qg X c):=by
 intro pins s σ H vs us Q I r h;obtain⟨l,zs,rfl,M,an,v,q⟩:=h;obtain⟨u,rfl,N⟩:=FP r;obtain rfl:u=Value.ref l:=N;obtain⟨g,p,P,_⟩:=I.list M;have J:zs.length=g.length:=by have:=p.length;rwa [Al] at this
 let b:Dz c:=(V.non,c.dflt)
 have t:∀i,i<zs.length->RelV (zs.getD i b).1 (g.getD i Value.none)/\An X.K H (zs.getD i b).1 (c.D (zs.getD i b).2):=λi d=>by
  have:=YW p i V.non Value.none (by rw[Al];exact d)
  have e:(zs.map (·.1)).getD i V.non=(zs.getD i b).1:=by
   rw[EA,A3,EA,AD d];rfl
  rw[e] at this;refine⟨this,v _ ?_⟩;rw[EA,AD d];exact Ec d
 refine YV (O:=c.O) (key:=λi=>(zs.getD i b).2) (κ:=κ) (vs:=g) P.isList (by lia) (λo w k R S=>?_) (λw k i j C d hj T=>?_) λD w n f L A G ae U=>?_;exact aj pins σ H _ zs g R (I.kept (t':=s.toks) k) p v o S;obtain⟨W,Y⟩:=t i (by lia);obtain⟨Z,b2⟩:=t j (by lia);unfold PySem.W.kas_ask;exact ai pins σ H _ _ _ _ _ C (I.kept (t':=s.toks) k) Y b2 W Z T
 have af:∀i∈f,i<zs.length:=λi d=>by
  have:=G.mem_iff.mp d;rw[J];simpa using this
 have ak:(List.range zs.length).map (λi=>zs.getD i b)=zs:=by
  apply List.ext_getElem?;intro k;by_cases B:k<zs.length;simp[B,EA];simp[B]
 have K:(f.map λi=>zs.getD i b).Perm zs:=by
  have:=G.map (λi=>zs.getD i b)
  rwa [<-J,ak] at this
 have hv:At ((f.map λi=>zs.getD i b).map (·.1)) (f.map λi=>g.getD i Value.none):=by
  rw[DT];exact VT f λi d=>(t i (af i d)).1
 have ag:((f.map λi=>zs.getD i b).map (·.2)).Pairwise c.O.kle:=by
  refine VS (λζ ζ ζ=>KeyOrd.kle_trans) _ λi a al E o=>?_;rw[DT,A3,E7] at E o;obtain⟨x,e1,rfl⟩:=E;obtain⟨y,F,rfl⟩:=o;obtain⟨ah,_⟩:=AN.mp F;have:=ae i ah;have aa:f.getD i 0=x:=by rw[EA,e1];rfl
  have ab:f.getD (i+1) 0=y:=by rw[EA,F];rfl
  rw[aa,ab] at this;exact this
 exact⟨.ref D,upd H D (.lst ((f.map λi=>zs.getD i b).map (·.1))),I.laidN (t':=s.toks) L A ⟨by rw[Al,K.length_eq];exact Cn (BH (by lia)),_,n,hv,U⟩,rfl,q D _ K ag (I.freshN A)⟩
def S1{pins:B'}{s:Shared}{M:Model}(I:Inv X pins σ H s){a:List Dt}{x:Value}(h:An X.K H v (.lst a))(r:RelV v x):PySem.W.Looks M s.heap (typeOf x) (.type "list"):=by
 cases h with
 |lst h t =>
   cases r;obtain⟨d,_,p,_⟩:=I.list h;obtain⟨o,b,c,_⟩:=p.isList;rw[<-c];exact(PySem.W.Looks.ld b).andThen .now
def Za(c:Enc)(G:X.A.units+64<cLine)(hd:c.dep<=50):Bi X (.builtin "sorted") (Qg X (Ej c)):=by
 refine S0 (Ej c) oneType' (λF σ H s f D Q I b g j k=>?_) λF σ H s z l x y C I h a r m n=>?_;refine PySem.W.kas_kind (T:=.type "list") j (λv o=>?_) (by decide) (by decide) k;obtain⟨i,d⟩:=List.getElem?_of_mem o;have J:=(AN.mp d).1;have q:=b.length;rw[Al] at q;obtain⟨x,e,w⟩:=b.get (i:=i) (x:=(f[i]'(by lia)).1) (by rw[A3,AD (by lia)];rfl);rw[d] at e;cases e;exact S1 I (g _ (Ec (by lia))) w;rw[keyLt'_oneType];obtain⟨v,as⟩:=z;obtain⟨u,bs⟩:=l
 cases h with
 |lst h t =>
   cases a with
   |lst a A =>
     cases r;cases m;obtain⟨D,B,p,_⟩:=I.list h;obtain⟨K,E,R,_⟩:=I.list a;exact V0 p.isList R.isList (c.lexL I (by show _+1+1+1+_<_;lia) t A B E) (by show _+1+1<_;lia) n
theorem S3(c:Enc){pins:B'}{σ:St}{H:Hp}{s:Shared}(I:Inv X pins σ H s){g:c.O.α->List Dt}:∀{zs:List (V×c.O.α)}{f:List Value}{k:c.O.α->List Dt},At (zs.map (·.1)) f->(∀z∈zs,∃b,k z.2=Dt.lst b::g z.2/\An X.K H z.1 (.tup (k z.2))) ->
 ∃fs,PySem.W.KatTups s.heap f fs/\fs.length=zs.length/\∀v∈fs,∃(u:V)(b:List Dt),An X.K H u (.lst b)/\RelV u v
 |[],_,_,.nil,_=>⟨[],.nil,rfl,λζ x=>by cases x⟩
 | z :: zs,_,k,.cons r i,h=>by
   obtain⟨fs,j,l,m⟩:=S3 c I (zs:=zs) i λy p=>h y (B8 _ p);obtain⟨b,e,hd⟩:=h z Bu;rw[e] at hd;obtain⟨v,a⟩:=z;dsimp only at r hd
   cases hd with
   | tup q t =>
     cases r;obtain⟨f,A,⟨o,B,C,n,D⟩,_⟩:=I.tuple q
     cases t with
     |cons E G =>
       cases A with
       |cons F J =>
         refine⟨_::fs,.cons B C D rfl j,by simp[l],λw d=>?_⟩;rcases BV.mp d with e|d;exact⟨_,b,E,e▸F⟩;exact m w d
def S4{A:Around}{s:Shared}{prog:Program}{w:World}{E:D'}{x y:Value}{b:Bool}{Q:Bool->Shared->Prop}(h:B5 A s x y b)(q:Q b s):wpAny (model prog w) A (oneLt' false x y) Q E s:=
 PySem.W.kat_one _ _ (h prog w E _ q)
def Hw(c:Enc){pins:B'}{s:Shared}(I:Inv X pins σ H s){A:Around}{as bs:List c.O.α}{u:V}{x y:Value}{prog:Program}{w:World}{E:D'}{Q:Bool->Shared->Prop}(h:An X.K H v ((Ej c).D as))(h':An X.K H u ((Ej c).D bs))(r:RelV v x)(a:RelV u y)(f:A.units+(c.dep+1)<cLine)(q:Q (EJ c.O as bs) s):wpAny (model prog w) A (oneLt' true x y) Q E s:=by
 cases h with
 |lst h t =>
   cases h' with
   |lst h' b =>
     cases r;cases a;obtain⟨g,d,p,_⟩:=I.list h;obtain⟨i,e,R,_⟩:=I.list h';exact V0 p.isList R.isList (c.lexL I (by rw[GV];lia) t b d e) (by lia) q
def Zb (c d:Enc) (hu:X.A.units + 64 < cLine) (h1:c.dep<=50) (h2:d.dep<=50):Bi X (.builtin "sorted") (Qg X (L3 (Ej c) d)):=by
 refine S0 (L3 (Ej c) d) (tuples' true) (λah σ H s zs Z ai I o M hl N=>?_) λah σ H s z O x aj C I h w r y a=>?_;obtain⟨fs,P,k2,Q⟩:=S3 (L3 (Ej c) d) I (k:=λp=>[(Ej c).D p.1,d.D p.2]) (g:=λp=>[d.D p.2]) o λz aa=>⟨_,rfl,M z aa⟩;have ab:=o.length;rw[Al] at ab;refine PySem.W.kat_kind (T:=.type "list") P (by lia) (λv R=>?_) (by decide) N;obtain⟨u,ds,S,U⟩:=Q v R;exact S1 I S U;obtain⟨v,p⟩:=z;obtain⟨u,q⟩:=O;dsimp only at h w r y
 change C ((L3 (Ej c) d).O.blt p q) s at a
 have j:X.A.in1.in1.units=X.A.units+1+1:=rfl
 cases h with
 | tup V t =>
   cases w with
   | tup ae b =>
     cases r;cases y;obtain⟨Z,e,⟨ox,af,_,n,W⟩,_⟩:=I.tuple V;obtain⟨ak,f,⟨oy,ag,_,m,Y⟩,_⟩:=I.tuple ae
     cases t with
     | cons B t=>cases t with
       | cons D t=>cases t; cases b with
         | cons E b=>cases b with
           | cons F b=>cases b; cases e with
             |cons G e=>cases e with
               |cons J e=>cases e; cases f with
                 |cons K f=>cases f with
                   |cons L f =>
                     cases f;refine PySem.W.kat_lt af W ag Y (PySem.W.kat_cons ((Ej c).eq (A:=X.A.in1.in1) I B E G K (by rw[j];show _+(c.dep+1)<_;lia) _ _ _ _ ?_));by_cases i:p.1=q.1;rw[Ex i]
                     rw[show(L3 (Ej c) d).O.blt p q=d.O.blt p.2 q.2 from Np p q i] at a;refine PySem.W.kat_yes (PySem.W.kat_cons (d.eq (A:=X.A.in1.in1) I D F J L (by rw[j];lia) _ _ _ _ ?_))
                     by_cases l:p.2=q.2;rw[Ex l];refine PySem.W.kat_yes (PySem.W.kat_nil ?_);rw[l,d.O.irrefl] at a;exact a;rw[Fp l];exact PySem.W.kat_no (S4 (d.lt I D F J L (by rw[j];lia)) a);rw[Fp i]
                     rw[show(L3 (Ej c) d).O.blt p q=EJ c.O p.1 q.1 from Nq p q i] at a;exact PySem.W.kat_no (Hw c I B E G K (by rw[j];lia) a)
def Zc (c d e:Enc) (hu:X.A.units + 64 < cLine) (h1:c.dep<=50) (h2:d.dep<=50) (h3:e.dep<=50):Bi X (.builtin "sorted") (Qg X (Kv (Ej c) d e)):=by
 refine S0 (Kv (Ej c) d e) (tuples' true) (λai σ H s zs aa aj I y S hl U=>?_) λai σ H s z V x ak C I h B r D a=>?_;obtain⟨fs,W,k2,Y⟩:=S3 (Kv (Ej c) d e) I (k:=λp=>[(Ej c).D p.1,d.D p.2.1,e.D p.2.2]) (g:=λp=>[d.D p.2.1,e.D p.2.2]) y λz ab=>⟨_,rfl,S z ab⟩;have ae:=y.length;rw[Al] at ae;refine PySem.W.kat_kind (T:=.type "list") W (by lia) (λv Z=>?_) (by decide) U;obtain⟨u,ds,a1,a2⟩:=Y v Z;exact S1 I a1 a2;obtain⟨v,p⟩:=z;obtain⟨u,q⟩:=V;dsimp only at h B r D
 change C ((Kv (Ej c) d e).O.blt p q) s at a
 have j:X.A.in1.in1.units=X.A.units+1+1:=rfl
 cases h with
 | tup hs t =>
   cases B with
   | tup af b =>
     cases r;cases D;obtain⟨aa,f,⟨ox,ag,_,n,dx⟩,_⟩:=I.tuple hs;obtain⟨al,i,⟨oy,ah,_,m,dy⟩,_⟩:=I.tuple af
     cases t with
     | cons E t=>cases t with
       | cons F t=>cases t with
         | cons G t=>cases t; cases b with
           | cons J b=>cases b with
             | cons K b=>cases b with
               | cons L b=>cases b; cases f with
                 | cons M f=>cases f with
                   | cons N f=>cases f with
                     |cons O f=>cases f; cases i with
                       |cons P i=>cases i with
                         |cons Q i=>cases i with
                           |cons R i =>
                             cases i;refine PySem.W.kat_lt ag dx ah dy (PySem.W.kat_cons ((Ej c).eq (A:=X.A.in1.in1) I E J M P (by rw[j];show _+(c.dep+1)<_;lia) _ _ _ _ ?_));by_cases l:p.1=q.1;rw[Ex l]
                             rw[show(Kv (Ej c) d e).O.blt p q=(Eh d.O e.O).blt p.2 q.2 from Np p q l] at a;refine PySem.W.kat_yes (PySem.W.kat_cons (d.eq (A:=X.A.in1.in1) I F K N Q (by rw[j];lia) _ _ _ _ ?_))
                             by_cases o:p.2.1=q.2.1;rw[Ex o]
                             rw[show(Eh d.O e.O).blt p.2 q.2=e.O.blt p.2.2 q.2.2 from Np p.2 q.2 o] at a;refine PySem.W.kat_yes (PySem.W.kat_cons (e.eq (A:=X.A.in1.in1) I G L O R (by rw[j];lia) _ _ _ _ ?_))
                             by_cases w:p.2.2=q.2.2;rw[Ex w];refine PySem.W.kat_yes (PySem.W.kat_nil ?_);rw[w,e.O.irrefl] at a;exact a;rw[Fp w];exact PySem.W.kat_no (S4 (e.lt I G L O R (by rw[j];lia)) a);rw[Fp o]
                             rw[show(Eh d.O e.O).blt p.2 q.2=d.O.blt p.2.1 q.2.1 from Nq p.2 q.2 o] at a;exact PySem.W.kat_no (S4 (d.lt I F K N Q (by rw[j];lia)) a)
                             rw[Fp l]
                             rw[show(Kv (Ej c) d e).O.blt p q=EJ c.O p.1 q.1 from Nq p q l] at a;exact PySem.W.kat_no (Hw c I E J M P (by rw[j];lia) a)
end
def Ea:List (Str×Int)->Str->Option Int
 |[],_=>none
 |(y,n)::r,x=>if y=x then some n else Ea r x
def DX:Option Int->V
 |some n=>.int n
 |none=>.non
theorem Hx:∀{gs:List (Str×Int)}{i:Nat}{p:Str×Int}{x:Str},gs[i]?=some p->p.1=x->(∀q∈gs.take i,q.1≠x)->Ea gs x=some p.2
 |[],_,_,_,h,_,_=>by simp at h
 |q::r,0,p,x,h,e,_=>by
   simp at h;subst h;obtain⟨y,n⟩:=q;exact Ak e
 |q::r,i+1,p,x,h,e,k=>by
   obtain⟨y,n⟩:=q;have a:y≠x:=k (y,n) (by simp);show(if y=x then some n else Ea r x)=_;rw[Aj a];exact Hx (i:=i) (by simpa using h) e λq b=>k q (by simp[b])
theorem V6:∀{gs:List (Str×Int)}{x:Str},(∀q∈gs,q.1≠x)->Ea gs x=none
 |[],_,_=>rfl
 |(y,n)::r,x,k=>by
   show(if y=x then some n else Ea r x)=_;rw[Aj (k (y,n) (by simp))];exact V6 λq a=>k q (by simp[a])
theorem V7:∀{gs:List (Str×Int)}{x:Str}{n:Int},Ea gs x=some n->(x,n)∈gs
 |[],_,_,h=>by cases h
 |(y,m)::r,x,n,h=>by
   have h':(if y=x then some m else Ea r x)=some n:=h
   by_cases e:y=x;rw[Ak e] at h';rw[<-e,<-Br h'];exact Bu;rw[Aj e] at h';exact B8 _ (V7 h')
abbrev Ao:Type:=Int×Str×Int
abbrev GD (m:Ao):List V:=[.int m.1,.str m.2.1,.int m.2.2]
abbrev AK:Type:=List Ao×Int×Int
structure Wd where
 ss:List Bp
 gs:List (Str×Int)
 as:List (C')
 sts:List D9
abbrev Gn:Type:=Ao×(Str×Int)×Int
def EK (W:Wd) (sc:Int) (go:List (Str×Int)) (p:Ch) (i:Nat):List Gn:=match Ea go p.1 with
 |some a=>[((sc,("step" : Str),(i:Int)),BE W.gs W.as p,a)]
 |none=>[]
def Eb (W:Wd) (sc:Int) (go:List (Str×Int)):List Ch->Nat->List Gn
 |[],_=>[]
 |p::r,i=>EK W sc go p i++Eb W sc go r (i+1)
def BO (W:Wd) (sc:Int):List Ch:=match W.ss[sc.toNat]? with
 |some s=>s.1
 |none=>[]
def DJ (W:Wd) (st:Int):List (Str×Int):=match W.sts[st.toNat]? with
 |some s=>s.1
 |none=>[]
def FV (W:Wd) (sc st:Int):List Gn:=Eb W sc (DJ W st) (BO W sc) 0
theorem V8(W:Wd)(a:Int)(go:List (Str×Int))(p:Ch):∀(l:List Ch)(i:Nat),Eb W a go (l++[p]) i=Eb W a go l i++EK W a go p (i+l.length)
 |[],i=>by simp[Eb]
 |q::l,i=>by
   show EK W a go q i++Eb W a go (l++[p]) (i+1)=(EK W a go q i++Eb W a go l (i+1))++_;rw[V8 W a go p l (i+1),FZ,Ew,show i+1+l.length=i+(l.length+1) by lia]
variable {W:Wd}{sc:Int}{r:Gn}
def EL{go:List (Str×Int)}{p:Ch}:r∈EK W sc go p i↔∃a,Ea go p.1=some a/\r=((sc,("step" : Str),(i:Int)),BE W.gs W.as p,a):=by
 unfold EK
 cases e:Ea go p.1 with
 |none=>simp
 |some a=>simp
theorem BJ{W:Wd}{sc:Int}{go:List (Str×Int)}{r:Gn}:∀{l:List Ch}{i:Nat},r∈Eb W sc go l i↔∃(j:Nat)(p:Ch)(a:Int),l[j]?=some p/\Ea go p.1=some a/\r=((sc,("step" : Str),((i+j:Nat):Int)),BE W.gs W.as p,a)
 |[],i=>by simp[Eb]
 | q :: l,i=>by
   show r∈EK W sc go q i++Eb W sc go l (i+1)↔_;rw[BL,EL,BJ (l:=l) (i:=i+1)];constructor;rintro(⟨a,b,c⟩|⟨j,p,a,b,c,d⟩);exact⟨0,q,a,rfl,b,by rw[c];rfl⟩;exact⟨j+1,p,a,by simpa using b,c,by rw[d,show i+1+j=i+(j+1) by lia]⟩;rintro⟨j,p,a,b,c,d⟩
   cases j with
   |zero =>
     simp at b;subst b;exact .inl ⟨a,c,by rw[d];rfl⟩
   |succ j=>exact .inr ⟨j,p,a,by simpa using b,c,by rw[d,show i+1+j=i+(j+1) by lia]⟩
theorem V9(W:Wd)(sc:Int)(go:List (Str×Int)):∀(l:List Ch)(i:Nat),(Eb W sc go l i).Pairwise (λr b=>r.1≠b.1)
 |[],i=>List.Pairwise.nil
 |q::l,i=>by
   show(EK W sc go q i++Eb W sc go l (i+1)).Pairwise _;refine List.pairwise_append.mpr ⟨?_,V9 W sc go l (i+1),λr c b d e=>?_⟩;unfold EK;split;exact List.pairwise_singleton _ _;exact List.Pairwise.nil;obtain⟨a,_,rfl⟩:=EL.mp c;obtain⟨j,p,f,_,_,rfl⟩:=BJ.mp d;have:=Bw (λm:Ao=>m.2.2) e;simp only at this;lia
theorem Nr(W:Wd)(sc:Int)(go:List (Str×Int)):∀(l:List Ch)(i:Nat),(Eb W sc go l i).length<=l.length
 |[],i=>AE _
 |q::l,i=>by
   show(EK W sc go q i++Eb W sc go l (i+1)).length<=_;have a:(EK W sc go q i).length<=1:=by unfold EK;split<;>simp
   have b:=Nr W sc go l (i+1);rw[AZ,Ew];lia
def Wa{go:List (Str×Int)}{l:List Ch}{b:Gn}(h:r∈Eb W sc go l i)(h':b∈Eb W sc go l i)(e:r.1=b.1):r=b:=by
 obtain⟨j,p,a,f,g,rfl⟩:=BJ.mp h;obtain⟨k,R,o,c,d,rfl⟩:=BJ.mp h';have:=Bw (λm:Ao=>m.2.2) e;simp only at this;have n:j=k:=(by lia);subst n;rw[f] at c;cases c;rw[g] at d;cases d;rfl
def AY (b:AK):List Int:=b.1.map (·.1)++[b.2.1]
def kid (b:AK) (r:Gn):Option AK:=if r.2.1.1=("to" : Str)/\r.2.1.2∉AY b then some (b.1++[r.1],r.2.1.2,r.2.2) else none
def CG (W:Wd) (b:AK):List AK:=(FV W b.2.1 b.2.2).filterMap (kid b)
variable {b:AK}
set_option tactic.hygienic true in
def AM{c:AK}:c∈CG W b↔∃r∈FV W b.2.1 b.2.2,r.2.1.1=("to" : Str)/\r.2.1.2∉AY b/\c=(b.1++[r.1],r.2.1.2,r.2.2):=by
 unfold CG kid;rw[List.mem_filterMap];constructor;rintro⟨r,a,e⟩;split at e;rename_i h;exact⟨r,a,h.1,h.2,(Br e).symm⟩;cases e;rintro⟨r,a,d,f,e⟩;exact⟨r,a,by rw[Ak ⟨d,f⟩,e]⟩
def Zd(W:Wd)(b:AK):(CG W b).length<=(BO W b.2.1).length:=E8 (List.length_filterMap_le _ _) (Nr _ _ _ _ _)
def Jg(W:Wd)(b:AK):(CG W b).Nodup:=by
 refine List.Pairwise.filterMap (kid b) (λr g f c a h d e=>?_) (V9 W b.2.1 (DJ W b.2.2) (BO W b.2.1) 0);unfold kid at a d;split at a;split at d;cases a;cases d;have:=Bw Prod.fst e;simp only at this;have:=(List.append_inj' this rfl).2;exact f (by simpa using this);cases d;cases a
inductive AS (W:Wd) (sc st:Int):AK->Prop where
 |root:AS W sc st ([],sc,st)
 |kid {b c:AK} (h:AS W sc st b) (k:c∈CG W b):AS W sc st c
structure BP (W:Wd):Prop where
 s5:W.ss.length<=100
 st:∀s∈W.ss,s.1.length<=8
 kst:∀s∈W.ss,∀p∈s.1,LY W.ss.length W.as.length p
 kth:∀p∈W.gs,SX W.ss.length W.as.length p
 an:∀p,some p∈W.as->p.1=("thing" : Str)->0<=p.2/\p.2<W.gs.length
 go:∀s∈W.sts,∀p∈s.1,0<=p.2/\p.2<W.sts.length
 few:∀(sc st:Int)(F:List AK),(0<=sc/\sc<W.ss.length)->(0<=st/\st<W.sts.length)->F.Nodup->(∀b∈F,AS W sc st b)->F.length<=62
def BP.net(h:BP W):EI W.gs W.as:=⟨λp b e=>by
 rcases h.kth p b with⟨a,_⟩|⟨a,_⟩|⟨_,c⟩;rw[e] at a;exact absurd a (by decide +kernel);rw[e] at a;exact absurd a (by decide +kernel)
 exact c,h.an⟩
def BP.by_(h:BP W)(a:s∈W.ss){p:Ch}(b:p∈s.1)(c:p.2.1≠("to" : Str)):0<=p.2.2/\p.2.2<W.as.length:=by
 rcases h.kst s a p b with⟨e,_⟩|⟨_,e⟩;exact absurd e c;exact e
def Kw:(("no" : Str),(0:Int)).1≠("to" : Str):=by decide +kernel
def Wb:("open" : Str)≠("to" : Str):=by decide +kernel
def Wc(h:BP W){k:Str×Int}(c:k∈W.gs)(b:k.1=("part" : Str)):0<=k.2/\k.2<W.ss.length:=by
 rcases h.kth k c with⟨a,_⟩|⟨_,d⟩|⟨a,_⟩;rw[b] at a;exact absurd a (by decide +kernel);exact d;rw[b] at a;exact absurd a (by decide +kernel)
variable {g:Str×Int}
set_option tactic.hygienic true in
def Ze(h:BP W){q:Int}(e:DI W.gs W.as q=g)(a:g.1=("to" : Str)):0<=g.2/\g.2<W.ss.length:=by
 unfold DI at e;split at e;split at e;split at e;rename_i k b;split at e;rename_i c;subst e;exact Wc (k:=k) h (A6 b) c;subst e;exact absurd a Kw;subst e;exact absurd a Kw;subst e;exact absurd a Kw;subst e;exact absurd a Wb;subst e;exact absurd a Kw
set_option tactic.hygienic true in
def S5(h:BP W)(b:p∈W.gs)(e:C0 W.gs W.as p=g)(a:g.1=("to" : Str)):0<=g.2/\g.2<W.ss.length:=by
 unfold C0 at e;split at e;rename_i c;subst e;exact Wc (k:=p) h b c;split at e;exact Ze h e a;subst e;exact absurd a Kw
set_option tactic.hygienic true in
def Zf(h:BP W)(c:s∈W.ss){p:Ch}(d:p∈s.1)(e:BE W.gs W.as p=g)(a:g.1=("to" : Str)):0<=g.2/\g.2<W.ss.length:=by
 unfold BE at e;split at e;rename_i j;subst e;rcases h.kst s c p d with⟨_,f⟩|⟨b,_⟩;exact f;rw[j] at b;exact absurd b (by decide +kernel);split at e;split at e;split at e;rename_i k i;exact S5 h (A6 i) e a;subst e;exact absurd a Kw;subst e;exact absurd a Kw;subst e;exact absurd a Wb;subst e;exact absurd a Kw
structure Db (W:Wd) (b:AK):Prop where
 nd:(AY b).Nodup
 rng:∀x∈AY b,0<=x/\x<W.ss.length
 st:0<=b.2.2/\b.2.2<W.sts.length
set_option tactic.hygienic true in
def Zg{p:Ch}(h:p∈BO W sc):∃s∈W.ss,p∈s.1:=by
 unfold BO at h;split at h;rename_i s a;exact⟨s,A6 a,h⟩;cases h
variable {st:Int}
set_option tactic.hygienic true in
def Zh(h:p∈DJ W st):∃s∈W.sts,p∈s.1:=by
 unfold DJ at h;split at h;rename_i s a;exact⟨s,A6 a,h⟩;cases h
def Nt(h:r∈FV W sc st):∃(j:Nat)(p:Ch)(a:Int),(BO W sc)[j]?=some p/\Ea (DJ W st) p.1=some a/\r=((sc,("step" : Str),(j:Int)),BE W.gs W.as p,a):=by
 obtain⟨j,p,a,b,c,d⟩:=BJ.mp h;exact⟨j,p,a,b,c,by rw[d,Nat.zero_add]⟩
def Zi(h:r∈FV W b.2.1 b.2.2):AY (b.1++[r.1],r.2.1.2,r.2.2)=AY b++[r.2.1.2]:=by
 obtain⟨j,p,a,_,_,rfl⟩:=Nt h;unfold AY
 simp
def Db.kid(ok:BP W){c:AK}(h:Db W b)(k:c∈CG W b):Db W c:=by
 obtain⟨r,e,g,i,rfl⟩:=AM.mp k;have f:=Zi e;obtain⟨j,p,a,l,m,rfl⟩:=Nt e;obtain⟨s,n,o⟩:=Zg (A6 l);refine⟨?_,?_,?_⟩;rw[f,List.nodup_append]
 exact⟨h.nd,by simp,λx d y q=>by
  rw[AW.mp q]
  exact λz=>i (z▸d)⟩
 rw[f];intro x d;rcases BL.mp d with d|d;exact h.rng x d;rw[AW.mp d];exact Zf ok n o rfl g;obtain⟨t,u,v⟩:=Zh (V7 m);exact ok.go t u _ v
def AS.ok{W:Wd}(ok:BP W){sc st:Int}(d:0<=sc/\sc<W.ss.length)(e:0<=st/\st<W.sts.length){b:AK}(h:AS W sc st b):Db W b:=by
 induction h with
 |root=>exact⟨by simp[AY],λx a=>by simp[AY] at a;rw[a];exact d,e⟩
 |kid _ k c=>exact c.kid ok k
def AS.uniq(h:AS W sc st b):∀{c:AK},AS W sc st c->b.1=c.1->b=c:=by
 induction h with
 |root =>
   intro c a e
   cases a with
   |root=>rfl
   |kid _ k =>
     obtain⟨r,_,_,_,rfl⟩:=AM.mp k;simp at e
 |@kid o p q k d =>
   intro c a e;obtain⟨r,f,s,t,rfl⟩:=AM.mp k
   cases a with
   |root=>simp at e
   |@kid u _ m g =>
     obtain⟨v,n,w,x,rfl⟩:=AM.mp g;simp only at e;obtain⟨i,j⟩:=List.append_inj' e rfl;have l:=d m i;subst l;have:=Wa f n (by simpa using j);subst this;rfl
theorem Jh:∀(n:Nat)(l:List Int),l.Nodup->(∀x∈l,0<=x/\x<(n:Int))->l.length<=n
 |0,[],_,_=>AE _
 |0,x::l,_,h=>by have:=h x Bu;lia
 |n+1,l,b,h=>by
   have e:(l.erase (n:Int)).Nodup:=b.erase _
   have c:∀x∈l.erase (n:Int),0<=x/\x<(n:Int):=λx d=>by
    obtain⟨f,a⟩:=(b.mem_erase_iff).mp d;have:=h x a;lia
   have:=Jh n _ e c
   have g:l.length<=(l.erase (n:Int)).length+1:=by
    by_cases a:(n:Int)∈l;rw[List.length_erase_of_mem a];lia;rw[List.erase_of_not_mem a];lia
   lia
set_option tactic.hygienic true in
def Qh(ok:BP W)(sc:Int):(BO W sc).length<=8:=by
 unfold BO;split;rename_i s a;exact ok.st s (A6 a);exact C7 _
structure GF (W:Wd) (sc st:Int) (F:List AK) (p:Nat):Prop where
 root:([],sc,st)∈F
 is:∀b∈F,AS W sc st b
 nd:F.Nodup
 done:∀(j:Nat)(b:AK),j<p->F[j]?=some b->∀c∈CG W b,c∈F
 src:∀c∈F,c=([],sc,st)\/∃(j:Nat)(b:AK),j<p/\F[j]?=some b/\c∈CG W b
 le:p<=F.length
def GF.start(W:Wd)(sc st:Int):GF W sc st [([],sc,st)] 0 where
 root:=Bu
 is b hb:=by rw[AW.mp hb];exact .root
 nd:=by simp
 done j b d:=by lia
 src c a:=.inl (AW.mp a)
 le:=C7 _
def GF.turn{F:List AK}{p:Nat}(h:GF W sc st F p)(hb:F[p]?=some b):GF W sc st (F++CG W b) (p+1):=by
 have w:p<F.length:=(AN.mp hb).1;have x:=A6 hb;have o:=h.is b x;have n:∀(j:Nat),j<F.length->(F++CG W b)[j]?=F[j]?:=λj f=>D1 f
 have one:∀(j:Nat)(c:AK),j<p+1->(F++CG W b)[j]?=some c->(j<p/\F[j]?=some c)\/c=b:=λj c f e=>by
  rw[n j (by lia)] at e;by_cases y:j<p;exact .inl ⟨y,e⟩;have:j=p:=(by lia);subst this;rw[hb] at e;exact .inr (Br e).symm
 refine⟨Ef _ h.root,λc a=>?_,?_,λj c f e d hd=>?_,λc a=>?_,by rw[AZ];lia⟩;rcases BL.mp a with a|a;exact h.is c a;exact .kid o a;refine List.nodup_append.mpr ⟨h.nd,Jg W b,λc a d hd e=>?_⟩;subst e;obtain⟨r,B,_,_,k⟩:=AM.mp hd;rcases h.src c a with l|⟨j,g,f,i,m⟩;rw[l] at k;have:=Bw Prod.fst k;simp at this;obtain⟨C,G,_,_,z⟩:=AM.mp m
 have q:g.1=b.1:=by
  have:=Bw Prod.fst (z.symm.trans k);simp only at this;exact(List.append_inj' this rfl).1
 have s:=(h.is g (A6 i)).uniq o q;subst s;obtain⟨D,t⟩:=AN.mp i;obtain⟨E,u⟩:=AN.mp hb;have:=(List.getElem_inj h.nd).mp (t.trans u.symm);lia;rcases one j c f e with⟨A,v⟩|rfl;exact Ef _ (h.done j c A v d hd);exact CY _ hd;rcases BL.mp a with a|a;rcases h.src c a with l|⟨j,g,f,i,m⟩;exact .inl l;exact .inr ⟨j,g,by lia,by rw[n j (by lia)];exact i,m⟩;exact .inr ⟨p,b,by lia,by rw[n p w];exact hb,a⟩
def GF.few{W:Wd}(ok:BP W){sc st:Int}(a:0<=sc/\sc<W.ss.length)(b:0<=st/\st<W.sts.length){F:List AK}{p:Nat}(h:GF W sc st F p):F.length<=62:=ok.few sc st F a b h.nd h.is
abbrev Nu:Enc:=Kv FG SY FG
abbrev DA:Enc:=Kv (Ej Nu) FG FG
structure C1 (W:Wd) (sc st:Int) (bs:List AK):Prop where
 mem:∀b,b∈bs↔AS W sc st b
 nd:bs.Nodup
 srt:bs.Pairwise DA.O.kle
 few:bs.length<=62
def C1.uniq{l m:List AK}(h:C1 W sc st l)(k:C1 W sc st m):l=m:=
 Qf (O:=DA.O) ((List.perm_ext_iff_of_nodup h.nd k.nd).mpr λb=>(h.mem b).trans (k.mem b).symm) h.srt k.srt
def GF.all(ok:BP W)(f:0<=sc/\sc<W.ss.length)(g:0<=st/\st<W.sts.length){F l:List AK}(h:GF W sc st F F.length)(a:l.Perm F)(d:l.Pairwise DA.O.kle):C1 W sc st l:=by
 refine⟨λb=>?_,a.nodup_iff.mpr h.nd,d,by rw[a.length_eq];exact h.few ok f g⟩;rw[a.mem_iff];refine⟨h.is b,λhb=>?_⟩
 induction hb with
 |root=>exact h.root
 |kid _ k e =>
   obtain⟨j,c⟩:=List.getElem?_of_mem e;exact h.done j _ (AN.mp c).1 c _ k
def Dr (F:Addr->Prop) (H:Hp) (t:Addr) (b:AK):Prop:=∃(l:Addr)(ms:List Addr),H t=some (.tup [.ref l,.int b.2.1,.int b.2.2])/\H l=some (.lst (ms.map V.ref))/\RT GD H ms b.1/\F l
def Dr.same{F:Addr->Prop}{H H':Hp}{t:Addr}{b:AK}(e:Ac H H')(h:Dr F H t b):Dr F H' t b:=by
 obtain⟨l,a,c,d,f,g⟩:=h;exact⟨l,a,e _ _ c,e _ _ d,f.same e,g⟩
def Dr.mono{G:Addr->Prop}{t:Addr}(e:∀x,F x->G x)(h:Dr F H t b):Dr G H t b:=by
 obtain⟨l,a,c,d,f,g⟩:=h;exact⟨l,a,c,d,f,e _ g⟩
def Dr.keeps{M F:Addr->Prop}{H H':Hp}{t:Addr}{b:AK}(k:Keeps M H H')(c:∀x,F x->¬M x)(h:Dr F H t b):Dr F H' t b:=by
 obtain⟨l,d,e,f,g,a⟩:=h;exact⟨l,d,k.tup e,k.at_ _ _ f (c _ a),g.keeps k,a⟩
abbrev Qi (m:Ao):Dt:=.tup [.int m.1,.str m.2.1,.int m.2.2]
def Hy{K:Ah}(r:Ao)(t:Addr)(h:H t=some (.tup (GD r))):An K H (.ref t) (Qi r):=.tup (Ar.of h) (.cons (.int _) (.cons (.str _) (.cons (.int _) .nil)))
def Dr.dt{K:Ah}{t:Addr}(h:Dr F H t b):An K H (.ref t) (DA.D b):=by
 obtain⟨l,e,a,c,d,f⟩:=h;exact .tup (Ar.of a) (.cons (.lst (Ae.of c) (d.dts Hy)) (.cons (.int _) (.cons (.int _) .nil)))
def Kx (H:Hp) (t:Addr) (r:Gn):Prop:=∃m,H t=some (.tup [.ref m,.str r.2.1.1,.int r.2.1.2,.int r.2.2])/\H m=some (.tup (GD r.1))
def Kx.same{t:Addr}(e:Ac H H')(h:Kx H t r):Kx H' t r:=by
 obtain⟨m,a,b⟩:=h;exact⟨m,e _ _ a,e _ _ b⟩
def Kx.keeps{t:Addr}(k:Keeps M H H')(h:Kx H t r):Kx H' t r:=by
 obtain⟨m,a,b⟩:=h;exact⟨m,k.tup a,k.tup b⟩
structure Bq (K:Ah) (H:Hp) (nt A t:Addr) (W:Wd):Prop where
 net:∃(S T R:Addr)(us Gs Es ts qt:List Addr)(qs:List Qu),H nt=some (.tup [.ref S,.ref T,.ref R])/\Fg H S T R us Gs Es ts qt W.ss W.gs qs
 ans:GX K H A W.as
 tab:∃(a o:Addr)(inn:V),Ar K H t [.ref a,inn,.ref o]/\Hq K H a W.sts
def Bq.same{K:Ah}{H H':Hp}{b A t:Addr}{W:Wd}(e:Ac H H')(h:Bq K H b A t W):Bq K H' b A t W:=by
 obtain⟨S,T,R,us,Gs,Es,ts,c,qs,d,f⟩:=h.net;obtain⟨a,o,k,g,vs,i,j⟩:=h.tab;exact⟨⟨S,T,R,us,Gs,Es,ts,c,qs,e _ _ d,f.same e⟩,h.ans.same e,⟨a,o,k,e.seqT g,vs,e.seq i,j.same e⟩⟩
def Dr.mono'{G:Addr->Prop}{t:Addr}(e:∀x o,H x=some o->F x->G x)(h:Dr F H t b):Dr G H t b:=by
 obtain⟨l,c,d,a,f,g⟩:=h;exact⟨l,c,d,a,f,e _ _ a g⟩
def FU.caseT{K:Ah}{t:Addr}{n:Int}{ord:A'}(h:FU K F H t rs n ord):∃(a o:Addr)(inn:V),Ar K H t [.ref a,inn,.ref o]/\Hq K H a rs:=by
 obtain⟨a,o,us,ts,b,_,_,_,c,d,_⟩:=h.ex;exact⟨a,o,_,Ar.of b,d.stts c⟩
def Gj{x:Int}{l:List Int}:Dt.int x∈l.map Dt.int↔x∈l:=⟨λh=>by
 obtain⟨y,a,z⟩:=AL.mp h
 rw[<-Dt.int.inj z];exact a,λh=>AL.mpr ⟨x,h,rfl⟩⟩
theorem Hz{K:Ah}{H:Hp}:∀(l:List Int),Ai K H (l.map V.int) (l.map Dt.int)
 |[]=>.nil
 |x::l=>.cons (.int x) (Hz l)
def S6(xs:List α)(x:α):Bz (xs++[x]) (-1)=some x:=by
 have e:GQ (xs++[x]).length (-1)=some xs.length:=by
  unfold GQ;rw[Aj (by decide),Ak (by rw[AZ,DS];lia),AZ,DS];congr 1;lia
 unfold Bz;rw[e];show(xs++[x])[xs.length]?=some x
 simp
abbrev ON (sts:List D9) (inn:Int) (ord:A'):Dt:=.tup [.lst (sts.map Kt),.int inn,.lst (ord.map VN)]
def Ji(s r:D9):C6 4 (Kt s) (Kt r):=by
 refine .tup (.cons (.lst (Bo.of λd hd e a=>?_)) (.cons (.lst (Bo.of λd hd e a=>?_)) (.nil _)));obtain⟨p,_,rfl⟩:=AL.mp hd;obtain⟨q,_,rfl⟩:=AL.mp a;exact Hs p q;obtain⟨p,_,rfl⟩:=AL.mp hd;obtain⟨q,_,rfl⟩:=AL.mp a;exact .str _ _
def Zj(s r:List D9)(m n:Int)(o u:A'):C6 6 (ON s m o) (ON r n u):=by
 refine .tup (.cons (.lst (Bo.of λd hd e a=>?_)) (.cons (.int _ _) (.cons (.lst (Bo.of λd hd e a=>?_)) (.nil _))));obtain⟨p,_,rfl⟩:=AL.mp hd;obtain⟨q,_,rfl⟩:=AL.mp a;exact Ji p q;obtain⟨p,_,rfl⟩:=AL.mp hd;obtain⟨q,_,rfl⟩:=AL.mp a;exact .tup (.cons (.str _ _) (.cons (.str _ _) (.nil _)))
def FU.dt{K:Ah}{t:Addr}{b:List D9}{inn:Int}{ord:A'}(h:FU K F H t b inn ord):An K H (.ref t) (ON b inn ord):=by
 obtain⟨a,o,us,ts,c,_,_,_,d,e,f,TO⟩:=h.ex;exact .tup (Ar.of c) (.cons (.lst (Ae.of d) e.dts) (.cons (.int _) (.cons (.lst (Ae.of f) TO.dts) .nil)))
def Zk(x y:C'):C6 2 (BG x) (BG y):=by
 cases x with
 |none=>cases y with
   |none=>exact .non
   |some q=>exact .apart rfl
 |some p=>cases y with
   |none=>exact .apart rfl
   |some q=>exact Hs p q
def Zl(l m:List (C')):C6 3 (Dt.lst (l.map BG)) (Dt.lst (m.map BG)):=.lst (Bo.of λd hd e a=>by
 obtain⟨b,_,rfl⟩:=AL.mp hd;obtain⟨c,_,rfl⟩:=AL.mp a
 exact Zk b c)
abbrev Cr:Enc:=Ej Nu
def Fh (W:Wd) (sc:Int):List CN:=match W.ss[sc.toNat]? with
 |some s=>s.2
 |none=>[]
def Gk (W:Wd) (st:Int):List Str:=match W.sts[st.toNat]? with
 |some s=>s.2
 |none=>[]
def Ey (W:Wd) (b:AK) (x:Str) (q:CN) (i:Nat):List (List Ao):=if q.2.1=x/\q.1∈Gk W b.2.2 then[b.1++[(b.2.1,("told" : Str),(i:Int))]] else[]
def Cs (W:Wd) (b:AK) (x:Str):List CN->Nat->List (List Ao)
 |[],_=>[]
 |q::r,i=>Ey W b x q i++Cs W b x r (i+1)
def DK (W:Wd) (x:Str) (bs:List AK):List (List Ao):=bs.flatMap λb=>Cs W b x (Fh W b.2.1) 0
theorem We(W:Wd)(b:AK)(x:Str)(q:CN):∀(l:List CN)(i:Nat),Cs W b x (l++[q]) i=Cs W b x l i++Ey W b x q (i+l.length)
 |[],i=>by simp[Cs]
 |p::l,i=>by
   show Ey W b x p i++Cs W b x (l++[q]) (i+1)=(Ey W b x p i++Cs W b x l (i+1))++_;rw[We W b x q l (i+1),FZ,Ew,show i+1+l.length=i+(l.length+1) by lia]
theorem Wf(W:Wd)(b:AK)(x:Str):∀(l:List CN)(i:Nat),(Cs W b x l i).length<=l.length
 |[],i=>AE _
 |q::l,i=>by
   show(Ey W b x q i++Cs W b x l (i+1)).length<=_;have a:(Ey W b x q i).length<=1:=by unfold Ey;split<;>simp
   have c:=Wf W b x l (i+1);rw[AZ,Ew];lia
set_option tactic.hygienic true in
theorem OO{W:Wd}{b:AK}{x:Str}{w:List Ao}:∀{l:List CN}{i:Nat},w∈Cs W b x l i->∃(j:Nat)(q:CN),l[j]?=some q/\q.2.1=x/\q.1∈Gk W b.2.2/\w=b.1++[(b.2.1,("told" : Str),((i+j:Nat):Int))]
 |[],i,h=>by cases h
 |q::l,i,h=>by
   rcases BL.mp (show w∈Ey W b x q i++Cs W b x l (i+1) from h) with h|h
   unfold Ey at h;split at h;rename_i a;exact⟨0,q,rfl,a.1,a.2,AW.mp h⟩;cases h;obtain⟨j,c,d,e,f,g⟩:=OO h;exact⟨j+1,c,by simpa using d,e,f,by rw[g,show i+1+j=i+(j+1) by lia]⟩
def S7{bs:List AK}{w:List Ao}(h:w∈DK W x bs):∃b∈bs,∃(j:Nat)(q:CN),(Fh W b.2.1)[j]?=some q/\q.2.1=x/\q.1∈Gk W b.2.2/\w=b.1++[(b.2.1,("told" : Str),(j:Int))]:=by
 obtain⟨b,hb,a⟩:=List.mem_flatMap.mp h;obtain⟨j,q,c,d,e,f⟩:=OO a;exact⟨b,hb,j,q,c,d,e,by rw[f,Nat.zero_add]⟩
theorem Wg{α:Type}{f:AK->List α}{k:Nat}:∀(bs:List AK),(∀b,(f b).length<=k)->(bs.flatMap f).length<=bs.length*k
 |[],_=>by simp
 |b::bs,h=>by
   rw[List.flatMap_cons,AZ,Ew,Nat.succ_mul];have:=h b;have:=Wg bs h;lia
structure Nv (W:Wd) (x:Str) (bs:List AK) (ws:List (List Ao)):Prop where
 perm:ws.Perm (DK W x bs)
 srt:ws.Pairwise Cr.O.kle
def Nv.uniq{bs:List AK}{l m:List (List Ao)}(h:Nv W x bs l)(k:Nv W x bs m):l=m:=Qf (O:=Cr.O) (h.perm.trans k.perm.symm) h.srt k.srt
def CC (F:Addr->Prop) (H:Hp) (l:Addr) (w:List Ao):Prop:=∃ms:List Addr,H l=some (.lst (ms.map V.ref))/\RT GD H ms w/\F l
def CC.same{F:Addr->Prop}{H H':Hp}{t:Addr}{b:List Ao}(e:Ac H H')(h:CC F H t b):CC F H' t b:=by
 obtain⟨a,c,d,f⟩:=h;exact⟨a,e _ _ c,d.same e,f⟩
def CC.mono'{G:Addr->Prop}{t:Addr}{b:List Ao}(e:∀x o,H x=some o->F x->G x)(h:CC F H t b):CC G H t b:=by
 obtain⟨c,a,d,f⟩:=h;exact⟨c,a,d,e _ _ a f⟩
def CC.keeps{M F:Addr->Prop}{H H':Hp}{t:Addr}{b:List Ao}(k:Keeps M H H')(c:∀x,F x->¬M x)(h:CC F H t b):CC F H' t b:=by
 obtain⟨d,e,f,a⟩:=h;exact⟨d,k.at_ _ _ e (c _ a),f.keeps k,a⟩
def CC.dt{K:Ah}{t:Addr}{b:List Ao}(h:CC F H t b):An K H (.ref t) (Cr.D b):=by
 obtain⟨d,a,c,_⟩:=h;exact .lst (Ae.of a) (c.dts Hy)
def Wh{c:Enc}{zs:List (Addr×c.O.α)}{d:List (Dz c)}(a:d.Perm (zs.map λz=>((V.ref z.1,z.2):Dz c))) :
 ∃ws:List (Addr×c.O.α),d.map (·.1)=(ws.map λz=>V.ref z.1)/\d.map (·.2)=ws.map (·.2)/\(ws.map (·.2)).Perm (zs.map (·.2))/\∀z∈ws,z∈zs:=by
 have:∀{l:List (Dz c)},(∀y∈l,y∈zs.map λz=>((V.ref z.1,z.2):Dz c))->∃ws:List (Addr×c.O.α),l=ws.map λz=>(V.ref z.1,z.2):=by
  intro l
  induction l with
  |nil=>exact λζ=>⟨[],rfl⟩
  |cons y l f =>
    intro h;obtain⟨ws,rfl⟩:=f λz g=>h z (B8 _ g);obtain⟨z,_,rfl⟩:=AL.mp (h y Bu);exact⟨z::ws,rfl⟩
 obtain⟨ws,rfl⟩:=this λy b=>a.mem_iff.mp b;refine⟨ws,by rw[DT];rfl,by rw[DT];rfl,?_,λz k=>?_⟩;have:=a.map (·.2);rw[DT,DT] at this;exact this;have:=a.mem_iff.mp (AL.mpr ⟨z,k,rfl⟩);obtain⟨y,b,e⟩:=AL.mp this;injection e with i j;have:y=z:=Prod.ext (V.ref.inj i) j;rw[<-this];exact b
abbrev Qj:Enc:=L3 (Ej Nu) FG
abbrev Ow:Type:=List Ao×Int
def ow (b:AK) (r:Gn):Option Ow:=if r.2.1.1=("open" : Str) then some (b.1++[r.1],r.2.1.2) else none
def Fq (W:Wd) (bs:List AK):List Ow:=bs.flatMap λb=>(FV W b.2.1 b.2.2).filterMap (ow b)
set_option tactic.hygienic true in
def S8{bs:List AK}{w:Ow}(h:w∈Fq W bs):∃b∈bs,∃(j:Nat)(p:Ch)(a:Int),(BO W b.2.1)[j]?=some p/\Ea (DJ W b.2.2) p.1=some a/\(BE W.gs W.as p).1=("open" : Str)/\w=(b.1++[(b.2.1,("step" : Str),(j:Int))],(BE W.gs W.as p).2):=by
 obtain⟨b,hb,c⟩:=List.mem_flatMap.mp h;obtain⟨r,d,e⟩:=List.mem_filterMap.mp c;obtain⟨j,p,a,f,g,rfl⟩:=Nt d;unfold ow at e;split at e;rename_i i;exact⟨b,hb,j,p,a,f,g,i,(Br e).symm⟩;cases e
structure OP (W:Wd) (bs:List AK) (ws:List Ow):Prop where
 perm:ws.Perm (Fq W bs)
 srt:ws.Pairwise Qj.O.kle
def OP.uniq{bs:List AK}{l m:List Ow}(h:OP W bs l)(k:OP W bs m):l=m:=Qf (O:=Qj.O) (h.perm.trans k.perm.symm) h.srt k.srt
def Fs (F:Addr->Prop) (H:Hp) (t:Addr) (p:Ow):Prop:=∃(l:Addr)(ms:List Addr),H t=some (.tup [.ref l,.int p.2])/\H l=some (.lst (ms.map V.ref))/\RT GD H ms p.1/\F l
def Fs.same{F:Addr->Prop}{H H':Hp}{t:Addr}{b:Ow}(e:Ac H H')(h:Fs F H t b):Fs F H' t b:=by
 obtain⟨l,a,c,d,f,g⟩:=h;exact⟨l,a,e _ _ c,e _ _ d,f.same e,g⟩
def Fs.mono'{G:Addr->Prop}{t:Addr}{b:Ow}(e:∀x o,H x=some o->F x->G x)(h:Fs F H t b):Fs G H t b:=by
 obtain⟨l,c,d,a,f,g⟩:=h;exact⟨l,c,d,a,f,e _ _ a g⟩
def Fs.keeps{M F:Addr->Prop}{H H':Hp}{t:Addr}{b:Ow}(k:Keeps M H H')(c:∀x,F x->¬M x)(h:Fs F H t b):Fs F H' t b:=by
 obtain⟨l,d,e,f,g,a⟩:=h;exact⟨l,d,k.tup e,k.at_ _ _ f (c _ a),g.keeps k,a⟩
def Fs.dt{K:Ah}{t:Addr}{b:Ow}(h:Fs F H t b):An K H (.ref t) (Qj.D b):=by
 obtain⟨l,e,a,c,d,_⟩:=h;exact .tup (Ar.of a) (.cons (.lst (Ae.of c) (d.dts Hy)) (.cons (.int _) .nil))
def Zm{bs:List AK}(h:bs[i]?=some b):Fq W (bs.take (i+1))=Fq W (bs.take i)++(FV W b.2.1 b.2.2).filterMap (ow b):=by
 rw[EG,h];show(bs.take i++[b]).flatMap _=_;rw[List.flatMap_append];simp[Fq]
def L4{β:Type}(f:α->Option β)(l:List α)(x:α):(l++[x]).filterMap f=l.filterMap f++(f x).toList:=by
 rw[List.filterMap_append];cases e:f x<;>simp[e]
def Jj(h:r.2.1.1=("open" : Str)):ow b r=some (b.1++[r.1],r.2.1.2):=Ak h
def Jk(h:r.2.1.1≠("open" : Str)):ow b r=none:=Aj h
structure Be (W:Wd):Prop where
 tl:∀s∈W.ss,∀p∈s.2,LZ W.gs.length W.as.length p
 fnd:∀(x:Str)(sc st:Int)(bs:List AK),(0<=sc/\sc<W.ss.length)->(0<=st/\st<W.sts.length)->C1 W sc st bs->(DK W x bs).length<=62
 owd:∀(sc st:Int)(bs:List AK),(0<=sc/\sc<W.ss.length)->(0<=st/\st<W.sts.length)->C1 W sc st bs->(Fq W bs).length<=62
def FH (ss:List Bp) (m:Ao):Str:=match ss[m.1.toNat]? with
 |some s=>if m.2.1=("step" : Str) then(match s.1[m.2.2.toNat]? with
   |some p=>p.1
   |none=>default) else(match s.2[m.2.2.toNat]? with
   |some p=>p.1
   |none=>default)
 |none=>default
def Ek (ss:List Bp) (m:Ao):Prop:=∃(n k:Nat)(s:Bp),m.1=(n:Int)/\m.2.2=(k:Int)/\ss[n]?=some s/\((m.2.1=("step" : Str)/\k<s.1.length)\/(m.2.1=("told" : Str)/\k<s.2.length))
def Zn{m:Ao}{k:Nat}{p:Ch}(a:m.1=(n:Int))(b:m.2.2=(k:Int))(c:ss[n]?=some s)(d:m.2.1=("step" : Str))(e:s.1[k]?=some p):FH ss m=p.1:=by
 unfold FH;rw[a,b,Bk,Bk,c];dsimp only;rw[Ak d,e]
def Zo{m:Ao}{k:Nat}{p:CN}(a:m.1=(n:Int))(b:m.2.2=(k:Int))(c:ss[n]?=some s)(d:m.2.1≠("step" : Str))(e:s.2[k]?=some p):FH ss m=p.1:=by
 unfold FH;rw[a,b,Bk,Bk,c];dsimp only;rw[Aj d,e]
def S9:("told" : Str)≠("step" : Str):=by decide +kernel
open Classical in
noncomputable def BZ (ss:List Bp) (ord:A'):List Ao->List Ao->Bool
 |m::ms,q::qs=>if m=q then BZ ss ord ms qs else dec ((FH ss m,FH ss q)∈ord)
 |_,_=>false
def Ny(ss:List Bp)(ord:A')(m:Ao)(a qs:List Ao):BZ ss ord (m::a) (m::qs)=BZ ss ord a qs:=by
 rw[BZ];exact Ak rfl
def Ky(ss:List Bp)(ord:A'){m q:Ao}(a qs:List Ao)(h:m≠q):BZ ss ord (m::a) (q::qs)=dec ((FH ss m,FH ss q)∈ord):=by
 rw[BZ];exact Aj h
theorem Jl(ss:List Bp)(ord:A'):∀{l m:List Ao},l=[]\/m=[]->BZ ss ord l m=false
 |[],_,_=>by rw[BZ];intros;simp at *
 |_::_,[],_=>by rw[BZ];intros;simp at *
 |_::_,_::_,h=>by simp at h
def Wi(ok:BP W)(t:0<=sc/\sc<W.ss.length)(u:0<=st/\st<W.sts.length)(h:AS W sc st b):∀m∈b.1,Ek W.ss m:=by
 induction h with
 |root=>intro m c;cases c
 |@kid d w i k l =>
   obtain⟨r,o,_,_,rfl⟩:=AM.mp k;intro m c;rcases BL.mp c with c|c;exact l m c;rw[AW.mp c];have hb:=i.ok ok t u;have q:=hb.rng d.2.1 (by unfold AY;simp);obtain⟨j,p,a,e,_,rfl⟩:=Nt o;obtain⟨n,f⟩:=DU q.1;have v:n<W.ss.length:=(by lia);have g:=AD v;have s:BO W d.2.1=W.ss[n].1:=by unfold BO;rw[f,Bk,g]
   rw[s] at e;exact⟨n,j,_,f,rfl,g,.inl ⟨rfl,(AN.mp e).1⟩⟩
def Qk(ok:BP W)(h:0<=sc/\sc<W.ss.length)(i:0<=st/\st<W.sts.length){bs:List AK}(k:C1 W sc st bs){w:List Ao}(l:w∈DK W x bs):(∀m∈w,Ek W.ss m)/\w.length<=100:=by
 obtain⟨b,hb,j,q,d,_,_,rfl⟩:=S7 l;have e:=(k.mem b).mp hb;have c:=e.ok ok h i;have o:=c.rng b.2.1 (by unfold AY;simp);refine⟨λm a=>?_,?_⟩;rcases BL.mp a with a|a;exact Wi ok h i e m a;rw[AW.mp a];obtain⟨n,f⟩:=DU o.1;have r:n<W.ss.length:=(by lia);have g:=AD r;have p:Fh W b.2.1=W.ss[n].2:=by unfold Fh;rw[f,Bk,g]
 rw[p] at d;exact⟨n,j,_,f,rfl,g,.inr ⟨rfl,(AN.mp d).1⟩⟩;have:=Jh W.ss.length (AY b) c.nd c.rng;rw[show(AY b).length=b.1.length+1 by unfold AY;simp] at this;have:=ok.s5;rw[AZ,DS];lia
def Wj(ok:BP W)(i:0<=sc/\sc<W.ss.length)(k:0<=st/\st<W.sts.length){bs:List AK}(l:C1 W sc st bs){w:Ow}(o:w∈Fq W bs):(∀m∈w.1,Ek W.ss m)/\w.1.length<=100:=by
 obtain⟨b,hb,j,p,a,e,_,_,rfl⟩:=S8 o;have f:=(l.mem b).mp hb;have d:=f.ok ok i k;have q:=d.rng b.2.1 (by unfold AY;simp);refine⟨λm c=>?_,?_⟩;rcases BL.mp c with c|c;exact Wi ok i k f m c;rw[AW.mp c];obtain⟨n,g⟩:=DU q.1;have s:n<W.ss.length:=(by lia);have h:=AD s;have r:BO W b.2.1=W.ss[n].1:=by unfold BO;rw[g,Bk,h]
 rw[r] at e;exact⟨n,j,_,g,rfl,h,.inl ⟨rfl,(AN.mp e).1⟩⟩;have:=Jh W.ss.length (AY b) d.nd d.rng;rw[show(AY b).length=b.1.length+1 by unfold AY;simp] at this;have:=ok.s5;show(b.1++[(b.2.1,("step" : Str),(j:Int))]).length<=100;rw[AZ,DS];lia
def Zp(h:n<=40000):n<sizeLine:=Nat.lt_of_le_of_lt h (by decide)
def Jm (ss:List Bp) (w:List Ao):Prop:=(∀m∈w,Ek ss m)/\w.length<=100
end L2
namespace PySem
section
variable {prog:Program} {w:World} {K:Type} [DecidableEq K] {knd:HeapKind prog w K} {A:Around} {E:D'} {s:Shared}
def Zq{d a:Addr}{xs:List (K×Addr×Value)}{k:K}{v:Value}{Q:D'}(l:knd.room A)(i:knd.is s.heap k a)(r:s.heap.DictOfH knd d xs)
 (t:∀p,atKey xs k=some p->Q p.2 {s with toks:=s.toks+knd.draws k})
 (u:atKey xs k=none->∀h',h'.DictOfH knd d (storedH xs k a v)->Heap.SameBut d s.heap h'->Q v {s with heap:=h',toks:=s.toks+knd.draws k})
 (hsz:xs.length<=sizeLine:=by size_fits) :
 wpAny (model prog w) A (dictSetDefault d (.ref a) v) Q E s:=by
 obtain⟨o,D,z,c,B,hd,g,q,h⟩:=r;unfold dictSetDefault
 try with_reducible refine Fa ?_
 refine Ad (knd.pyHash l i ?_);refine Ad (wpAny_dictFind_heap (s:={s with toks:=s.toks+knd.draws k}) l i c hd g q h ?_ ?_);intro f;have C:k∉xs.map (·.1):=not_mem_keys_of_get f
 refine Ad (G4 (Ad (wpAny_updateDictKeys (hz:=by have e:=size_of_entries g;lia) (s:={s with toks:=s.toks+knd.draws k}) c hd (Au (u (atKey_none_of_get f) _ ⟨_,_,z+1,Heap.get?_update_self _ c (Obj.isFreed_of_dict (Obj.data_mapDictKeys hd _)),
  B.mapDictKeys _,Obj.data_mapDictKeys hd _,?_,?_,?_⟩ (Heap.SameBut.update ..))))))
 rw[storedH_new (atKey_none_of_get f)];simp[g,entryOfKey];rw[storedH_new (atKey_none_of_get f)];intro x b;rcases BL.mp b with b|b;exact knd.keeps (q x b) c hd (Heap.SameBut.update ..);simp only[AW] at b;subst b;exact knd.keeps i c hd (Heap.SameBut.update ..);rw[storedH_new (atKey_none_of_get f)];rw[Bh,List.nodup_append];refine⟨h,by simp,?_⟩;intro x b y m;simp only[Eu,NQ,AW] at m;subst m;exact λe=>C (e▸b);intro j p n;refine Ad (wpAny_dictEntries (s:={s with toks:=s.toks+knd.draws k}) c hd ?_);rw[entry_at g j,n];exact Ad (G4 (Au (t p (atKey_of_get h n))))
def Zr(d a:Addr)(hd:(d==sysModules)=false)(b:Value) :
 MeetsIn prog w (Builtin.«dict.setdefault» ⟨[.ref d,.ref a,b],[]⟩) (λA R s=>knd.room A.in1/\∃k xs,knd.is s.heap k a/\s.heap.DictOfH knd d xs/\xs.length<=sizeLine /\
  (∀p,atKey xs k=some p->R (.ok (.ret p.2)) {s with toks:=s.toks+knd.draws k}) /\
  (atKey xs k=none->∀h',h'.DictOfH knd d (storedH xs k a b)->Heap.SameBut d s.heap h'->R (.ok (.ret b)) {s with heap:=h',toks:=s.toks+knd.draws k})):=
 .of_wp λA R s l=>by
  obtain⟨e,k,xs,o,c,f,g,h⟩:=l;unfold Builtin.«dict.setdefault»;refine Ad ?_;unfold Builtin.Dict.keyAndDefault;refine Ad (wpAny_notOrdered_dict c.typeIs ?_);show wpAny _ _ (pure (d,Value.ref a,some b)) _ _ s;refine Au ?_;show wpAny _ _ (if(d==sysModules)=true then _ else(dictSetDefault d (.ref a) b >>= _)) _ _ s;rw[Aj (by rw[hd];exact CB)];exact Ad (Zq (hsz:=f) e o c (λp i=>Au ⟨p.2,rfl,g p i⟩) λj h' m n=>Au ⟨b,rfl,h j h' m n⟩)
end
section
variable {prog:Program} {w:World} {A:Around} {E:D'} {s:Shared}
variable {d:Addr}{es:Array DictEntry}{ep:Nat}
theorem Zs{o:Obj}{Q:D'}(hd:(d==sysModules)=false)(a:s.heap.get? d=some o)(e:o.ExactDict)(c:o.data=.dict es ep)
 (f:Q (.ref s.heap.objs.size) {s with heap:=s.heap.push {cls:=.type "dict_keyiterator",data:=.fields #[.ref d,.int 0 0,.int es.size 0,.int ep 0]}}) :
 wpAny (model prog w) A (pyIter (.ref d)) Q E s:=by
 have b:s.TypeIs (.ref d) "dict" :=⟨o,a,e.1⟩;refine wpAny_pyIter_slot b F.slot_dict_iter (wpAny_call_entry F.slot_dict_iter b F.entry_dict_iter ?_ (F.args_dict_iter_1 _));unfold Builtin.«dict.__iter__»;refine Ad ?_;unfold Builtin.Dict.dictSlotNone;refine Ad (wpAny_notOrdered_dict b ?_);show wpAny _ _ (pure (Value.ref d)) _ _ s;refine Au ?_;show wpAny _ _ (Builtin.Dict.showsAll d >>= _) _ _ s;unfold Builtin.Dict.showsAll;rw[Aj (by rw[hd];exact CB)];refine Ad (Au ?_);refine Ad (wpAny_dictEntries a c ?_);refine Ad (wpAny_dictEpoch a c ?_);refine Ad (wpAny_newObj_type (Au ⟨_,rfl, "dict_keyiterator",_,⟨_,B9 _ rfl,rfl⟩,F.slot_dict_keyiterator_next.lookup,?_⟩));simpa [rawInt] using f
theorem Zt{it:Addr}{i:Nat}{b:Obj}{Q:Option Value->Shared->Prop}(hit:s.heap.IsKeyIter it d i es.size ep)
 (c:s.heap.get? d=some b) (e:b.data=.dict es ep) (j:i<es.size)
 (g:∀h',h'.IsKeyIter it d (i+1) es.size ep->Heap.SameBut it s.heap h'->Q (some es[i].key) {s with heap:=h'}) :
 wpAny (model prog w) A (pyNext (.ref it)) Q E s:=by
 obtain⟨o,a,h,hd⟩:=id hit;unfold pyNext
 refine Ad (wpAny_attempt (wpAny_callSpecial?_slot (name:=Str.ofString "__next__") hit.typeIs F.slot_dict_keyiterator_next
  (wpAny_call_entry F.slot_dict_keyiterator_next hit.typeIs F.entry_dict_keyiterator_next ?_ (F.args_dict_keyiterator_next_1 _))))
 refine Ad (Au ?_);refine Ad ?_;refine Ad ?_
 first|refine Ad (wpAny_typeNameOfWhole_keyiter hit.typeIs (Au ?_))|refine Ad (wpAny_typeNameOf_keyiter hit.typeIs (Au ?_))
 refine Ad (wpAny_fieldsOf a hd ?_);have k:Builtin.Dict_items.ownsTuple "dict_keyiterator" = false:=(by decide)
 simp only[k,E9,if_false];show wpAny _ _ (if(Value.ref d==Value.none)=true then _ else _) _ _ s;rw[Aj (show ¬((Value.ref d==Value.none)=true) from CB)];refine Ad (Au ?_);refine Ad (wpAny_dictEntries c e ?_);rw[Aj (by simp)];refine Ad (Au ?_);refine Ad (wpAny_dictEpoch c e ?_);rw[Aj (by simp)];refine Au ?_;simp only[show ¬((i:Int)<0) from by lia,if_false,Bk,Array.getElem?_eq_getElem j];refine Ad ?_
 first|refine Ad (wpAny_typeNameOfWhole_keyiter hit.typeIs (Au ?_))|refine Ad (wpAny_typeNameOf_keyiter hit.typeIs (Au ?_))
 refine Ad (wpAny_isOneOf_keyiter hit.typeIs ?_);show wpAny _ _ (setField (.ref it) 1 (rawInt ((i:Int)+1)) >>= _) _ _ s;refine Ad (wpAny_setField a hd (by simp) ?_)
 have f:(s.heap.update it (Obj.mapFields (·.setIfInBounds 1 (rawInt ((i:Int)+1))))).IsKeyIter it d (i+1) es.size ep:=
  ⟨_,Heap.get?_update_self _ a (Obj.isFreed_of_fields (Obj.data_mapFields hd _)),(Obj.cls_mapFields ..).trans h,by rw[Obj.data_mapFields hd];simp[rawInt]⟩
 refine Ad (Fa ?_);refine Ad (wpAny_isOneOf_keyiter (s:={s with heap:=s.heap.update it (Obj.mapFields (·.setIfInBounds 1 (rawInt ((i:Int)+1))))}) f.typeIs ?_);show wpAny _ _ (pure es[i].key) _ _ _;exact Au (Au ⟨_,rfl,Au (g _ f (Heap.SameBut.update ..))⟩)
theorem Zu{it:Addr}{i:Nat}{c:Obj}{Q:Option Value->Shared->Prop}(h:A.handled=none)(hit:s.heap.IsKeyIter it d i es.size ep)
 (f:s.heap.get? d=some c) (g:c.data=.dict es ep) (k:es.size<=i)
 (j:∀h',Heap.ExtBut it s.heap h'->Q none {s with heap:=h'}):wpAny (model prog w) A (pyNext (.ref it)) Q E s:=by
 obtain⟨o,e,n,hd⟩:=id hit;unfold pyNext
 refine Ad (wpAny_attempt (wpAny_callSpecial?_slot (name:=Str.ofString "__next__") hit.typeIs F.slot_dict_keyiterator_next
  (wpAny_call_entry F.slot_dict_keyiterator_next hit.typeIs F.entry_dict_keyiterator_next ?_ (F.args_dict_keyiterator_next_1 _))))
 refine Ad (Au ?_);refine Ad ?_;refine Ad ?_
 first|refine Ad (wpAny_typeNameOfWhole_keyiter hit.typeIs (Au ?_))|refine Ad (wpAny_typeNameOf_keyiter hit.typeIs (Au ?_))
 refine Ad (wpAny_fieldsOf e hd ?_);have l:Builtin.Dict_items.ownsTuple "dict_keyiterator" = false:=(by decide)
 simp only[l,E9,if_false];show wpAny _ _ (if(Value.ref d==Value.none)=true then _ else _) _ _ s;rw[Aj (show ¬((Value.ref d==Value.none)=true) from CB)];refine Ad (Au ?_);refine Ad (wpAny_dictEntries f g ?_);rw[Aj (by simp)];refine Ad (Au ?_);refine Ad (wpAny_dictEpoch f g ?_);rw[Aj (by simp)];refine Au ?_;simp only[show ¬((i:Int)<0) from by lia,if_false,Bk,Array.getElem?_eq_none k];refine Ad ?_
 first|refine Ad (wpAny_typeNameOfWhole_keyiter hit.typeIs (Au ?_))|refine Ad (wpAny_typeNameOf_keyiter hit.typeIs (Au ?_))
 show wpAny _ _ (setField (.ref it) 0 .none >>= _) _ _ s;refine Ad (wpAny_setField e hd (by simp) ?_);show wpAny _ _ (newExc (.type "StopIteration") [] >>= _) _ _ _
 refine Ad ?_;simp only[newExc,newTuple];refine Ad (wpAny_newObj_type ?_ (by size_fits));refine Ad (m:=firstArgMember _ _) (wpAny_of_eq (a:=Value.none) (by first|rfl|(simp only[firstArgMember];rfl)) ?_);refine wpAny_newObj_type ?_ (by size_fits);simp only[raiseNew];refine Ad (wpAny_handled ?_);rw[show A.in1.handled=none from h];refine Ad (Au (wpAny_throw ?_))
 refine Ad (wpAny_isInstance (T:= "StopIteration") (b:=true) ⟨_,B9 _ rfl,rfl⟩ isSubtype_stop ?_);exact Au (j _ (((Heap.SameBut.update ..).extBut.push _).push _))
end
end PySem
namespace L2
open PySem PySem.Spec PyProof.Rows
section
variable {X:Cx}
def OQ:V->List V->Hp->VK->Prop:=λx vs H Q=>∃a kvs k b d,x=.ref a/\vs=[.ref b,d]/\H a=some (.dT kvs)/\H b=some (.tup (k.map kV))/\kvs.length<sizeLine/\(∀v,AH kvs k=some v->Q v H)/\(AH kvs k=none->Q d (upd H a (.dT (AV kvs k d))))
def Zv(w:X.A.units+1<cLine):Km X "dict.setdefault" OQ:=by
 intro Y s σ H x S v T Q I A B h;obtain⟨a,g,k,b,d,rfl,rfl,hd,hb,U,C,D⟩:=h;cases A;obtain⟨u,r,rfl,E,l⟩:=Kl B;cases(show u=Value.ref b from E);obtain⟨z,m,n,j,o⟩:=Hi I.hok hd
 have i:n.length<=sizeLine:=by rw[<-Paired.length j];exact z
 have f:=j.val k
 refine call_meetsIn PySem.F.slot_dict_setdefault o.typeIs PySem.F.entry_dict_setdefault (PySem.F.args_dict_setdefault_3 _ _ _) (Zr (knd:=tupleKind (EC X.prog X.w)) a b m r)
  ⟨tupleKind_room_in1 w,k,n,Lz I.hok hb,o,i,λy F=>?_,λG V R J=>?_⟩
 rw[F] at f
 cases e:AH g k with
 |none=>rw[e] at f;exact False.elim f
 |some v0 =>
   rw[e] at f;exact⟨v0,H,I.tok _,f,C v0 e⟩
 rw[G] at f
 cases e:AH g k with
 |some v0=>rw[e] at f;exact False.elim f
 |none =>
   have i:(AV g k d).length<=sizeLine:=by have:=Ov g k d;lia
   obtain⟨q,K,L,p,M,N,O,_,P⟩:=R;refine⟨d,_,Ox (ob:=.dT (AV g k d)) I (by rw[hd];exact True.intro) J ⟨q,p⟩ ⟨i,m,_,(j.put k hb l).keeps λc W t=>?_,q,K,L,p,M,N,O,P⟩,l,D e⟩;rw[AC (Na t hd (λz=>nomatch z))];exact t
def Ql (H Y H2:Hp):Prop:=∀b,H2 b=Y b\/H b=none/\∃kvs o,Y b=some (.dT kvs)/\H2 b=some (.frz o (.dT kvs))
def Inv.frz{pins:B'}{s:Shared}{σ:St}{H d:Hp}(I:Inv X pins σ H s)(h:∀b,d b=H b\/∃a o,s.heap.get? b=some o/\H b=some (.dT a)/\d b=some (.frz o (.dT a))):Inv X pins σ d s:=by
 have same:∀b u,H b=some u->(∀a,u≠.dT a)->d b=some u:=λb u e n=>by
  rcases h b with z|⟨a,o,_,z,_⟩;rw[z];exact e;rw[e] at z;cases z;exact absurd rfl (n a)
 refine I.step (g':=s.gens) (t':=s.toks) (d':=s.drawn) (h':=s.heap) (ch:=[]) (λb hb=>nomatch hb) (λb o ζ ζ ζ z ζ=>z) (λb o ζ ζ ζ z ζ=>⟨o.slots,z⟩) (λb o ζ ζ n=>?_) (λb o ζ z=>⟨o,z⟩)
  (λb i z=>same b _ z λζ q=>nomatch q) (λb o u z=>same b _ z λζ q=>nomatch q) (λb l z=>⟨#[],by rw[same b _ z λζ q=>nomatch q];simp⟩) (λm j=>j) (λb u z=>?_) I.bare
 rcases h b with z|⟨a,o,_,z,_⟩;rw[z];exact n;rw[n] at z;cases z;have f:∀{v:HO},H b=some v->AB X.prog X.w d s.heap b v:=λ{v}e=>(I.hok b v e).stay (λζ ζ ζ q=>q) (λc q=>same c _ q λζ q=>nomatch q) λc i q=>same c _ q λζ q=>nomatch q;rcases h b with y|⟨a,o,g,y,k⟩;rw[y] at z;exact f z;rw[k] at z;cases z;exact⟨g,f y⟩
def Ta (t:TE):TE:=λσ H Q=>t σ H λv Y=>∀H2,Ql H Y H2->(∀b kvs,H b=none->Y b=some (.dT kvs)->∃o,H2 b=some (.frz o (.dT kvs)))->Q v H2
set_option tactic.hygienic true in
def HA{e:Expr}{t:TE}(m:PE X e t):PE X e (Ta t):=by
 intro r s σ H Q I h;refine AU (m r s σ H _ I h) λu i⟨x,Y,k,n,p⟩=>?_
 classical
 let c:Hp:=λb=>if H b=none then(match Y b,i.heap.get? b with
  |some (.dT a),some o=>some (.frz o (.dT a))
  |z,_=>z) else Y b
 have j:∀b,c b=Y b\/H b=none /\ ∃a o,i.heap.get? b=some o/\Y b=some (.dT a)/\c b=some (.frz o (.dT a)):=λb=>by
  by_cases hb:H b=none
  have e:c b=(match Y b,i.heap.get? b with
   |some (.dT a),some o=>some (.frz o (.dT a))
   |z,_=>z):=Ak hb
  by_cases hd:∃a o,Y b=some (.dT a)/\i.heap.get? b=some o;obtain⟨a,o,d,f⟩:=hd;rw[d,f] at e;exact .inr ⟨hb,a,o,f,d,e⟩;refine .inl ?_;rw[e];split;rename_i a o d f;exact absurd ⟨a,o,d,f⟩ hd;rfl;exact .inl (Aj hb)
 refine⟨x,c,k.frz λb=>(j b).imp id λ⟨_,z⟩=>z,n,p c (λb=>(j b).imp id λ⟨hb,a,o,_,d,f⟩=>⟨hb,a,o,d,f⟩) λb a hb z=>?_⟩;rcases j b with y|⟨_,v,o,_,l,q⟩;exfalso
 obtain⟨_,_,_,_,o,w,A,g,_⟩:=(show AB X.prog X.w Y i.heap b (.dT a) from k.hok b _ z)
 have e:c b=some (.frz o (.dT a)):=by
  show(if H b=none then _ else _)=_;rw[Ak hb,z,g]
 rw[e,z] at y;cases y;rw[z] at l;cases l;exact⟨o,q⟩
def Tb (a:Addr) (o:Obj) (kvs:List (List AJ×V)):It:=
 ⟨λi H=>H a=some (.frz o (.dT kvs))/\i<kvs.length,λi H x H'=>H'=H/\∃k v b,kvs[i]?=some (k,v)/\x=.ref b/\H b=some (.tup (k.map kV)),λi H=>H a=some (.frz o (.dT kvs))/\kvs.length<=i⟩
def L5{α β:Type}{F:α->β->Prop}{l:List α}{m:List β}(h:Paired F l m):∀{i:Nat}(a:i<l.length),∃y,m[i]?=some y/\F l[i] y:=by
 induction h with
 |nil=>intro i a;exact absurd a (Nat.not_lt_zero _)
 |cons r t b =>
   intro i a
   cases i with
   |zero=>exact⟨_,rfl,r⟩
   |succ i=>exact b (i:=i) (by simpa using a)
def Zw{P:Program}{w:World}{K:Ah}{R:Expr}{a it:Addr}{o:Obj}{m:List (List AJ×V)}{es:Array DictEntry}{ep:Nat}(hd:o.data=.dict es ep) :
 F7 P w K R (Tb a o m) [it] it (λi h=>h.IsKeyIter it a i es.size ep) where
 mem:=by simp
 obj:=λi h f b hb=>by
  have e:b=it:=(by simpa using hb);subst e;obtain⟨o,e,c,d⟩:=f;exact⟨o,e,λah z=>by rw[d] at z;cases z⟩
 keep:=λi h n f k=>f.at λo e=>k it (by simp) o e
 item:=by
  intro X r t u M i Q s σ H E I p f v;subst r t u;obtain⟨x,A⟩:=v;obtain⟨j,z,y,S,L,T,ab,ae,g,U,l,B,W⟩:=(show AB X.prog X.w H s.heap a (.frz o (.dT m)) from I.hok a _ x);rw[j] at g;cases g;rw[hd] at l;cases l;obtain⟨q,Y,e1,Z,e3⟩:=L5 L A;have N:=entry_at (knd:=tupleKind (EC X.prog X.w)) B i;rw[Y] at N;obtain⟨af,ag⟩:=Array.getElem?_eq_some_iff.mp N;obtain⟨C,D,aa,F,G,J⟩:=p it (by simp);refine Zt f j hd af λn O sb=>?_;have I1:Inv X Q σ H {s with heap:=n}:=I.turned (t':=s.toks) (λb o hb e=>(sb.2 b hb).trans e) C D F G J;obtain⟨oi,e,c,d⟩:=id O;refine⟨_,rfl,G7 (s:={s with heap:=n}) e c d (by decide) ⟨.ref q.2.1,H,I1,?_,⟨rfl,m[i].1,m[i].2,q.2.1,by simp[A],rfl,Z⟩,O,λb hb=>(p b hb).1⟩⟩;rw[ag];rfl
 done:=by
  intro X r t u M i Q s σ H E I p f v;subst r t u;obtain⟨x,A⟩:=v;obtain⟨j,z,y,S,L,T,ab,ae,g,U,l,B,W⟩:=(show AB X.prog X.w H s.heap a (.frz o (.dT m)) from I.hok a _ x);rw[j] at g;cases g;rw[hd] at l;cases l;have ai:=size_of_entries B;have hl:=Paired.length L;obtain⟨C,D,aa,F,G,J⟩:=p it (by simp);exact Zu (I.ok.hd M) f j hd (by lia) λn eb=>⟨rfl,I.turned (t':=s.toks) (λb o hb e=>eb b o hb e) C D F G J⟩
 self:=λζ ζ ζ ζ ζ f h=>wpAny_pyIter_keyiter f h
def OR (tl:TE):TI:=λσ H R=>tl σ H λx Y=>∃a kvs,x=.ref a/\Rd Y a (.dT kvs)/\∀o,(Y a=some (.dT kvs)\/Y a=some (.frz o (.dT kvs)))->R (Tb a o kvs) (upd Y a (.frz o (.dT kvs)))
def Jn{p l:Expr}{j:TE}(r:PE X l j):PI X p l (OR j):=by
 intro n s σ H R I h;refine AU (r n s σ H _ I h) λv c⟨x,Y,f,t,u⟩=>?_;obtain⟨a,d,e,k,q⟩:=u;subst e;cases t;obtain⟨_,w,B,_,o,C,D,g,y,m,_⟩:=(show AB X.prog X.w Y c.heap a (.dT d) from Hh f.hok k)
 have hb:Y a=some (.dT d)\/Y a=some (.frz o (.dT d)):=by
  rcases k with z|⟨A,z⟩;exact .inl z
  have:=(show AB X.prog X.w Y c.heap a (.frz A (.dT d)) from f.hok a _ z).1
  rw[g] at this;cases this;exact .inr z
 have i:Inv X n σ (upd Y a (.frz o (.dT d))) c:=f.frz λb=>by
  by_cases e:b=a;subst e;rcases hb with z|z;exact .inr ⟨d,o,g,z,Aa⟩;exact .inl (Aa.trans z.symm);exact .inl (AC e)
 refine Zs w g y m ?_;refine⟨c.heap.objs.size,[c.heap.objs.size],_,_,_,rfl,i.kept (t':=c.toks) λb o e=>Ba _ e,Zw m,⟨_,B9 _ rfl,rfl,rfl⟩,λb hb=>?_,q o hb⟩;have e:b=c.heap.objs.size:=(by simpa using hb);subst e;exact i.fpOk (AE _) (i.hok.fresh (AE _))
def Zx{a:Addr}{o:Obj}{c:List (List AJ×V)}{g:TG}{tb:TS}{D:Ends}{σ:St}{H:Hp}(Pv:Nat->St->Hp->Prop)(f:Pv 0 σ H)(e:∀i σ H,i<=c.length->Pv i σ H->H a=some (.frz o (.dT c)))
 (h:∀i k v b σ H,c[i]?=some (k,v)->H b=some (.tup (k.map kV))->Pv i σ H->g (.ref b) σ H λσ2 j=>tb {D with nx:=Pv (i+1),ct:=Pv (i+1),bk:=D.nx} σ2 j) (hd:∀σ H,Pv c.length σ H->D.nx σ H):Fz (Tb a o c) g tb D σ H:=N8 c.length Pv f (λi σ H p d=>⟨e i σ H (Cn d) p,d⟩) (λσ H p=>⟨e _ σ H (AE _) p,AE _⟩) (λi x σ H n p d y=>by obtain⟨rfl,k,v,b,l,rfl,m⟩:=y;exact h i k v b σ _ l m p) hd
end
end L2
namespace PySem
section
variable {prog:Program} {w:World} {A:Around} {E:D'} {s:Shared}
theorem Wk{a:Addr}{o:Obj}{xs:Array Value}{k:Nat}{Q:Option Value->Shared->Prop}
 (f:s.heap.get? a=some o) (i:o.cls=.type "list") (n:o.data=.seq xs k) (hd:o.dict=none) (p:A.handled=none)
 (h:∀h' tk,(∀b o,s.heap.get? b=some o->h'.get? b=some o)->Q none {s with heap:=h',toks:=tk}):wpAny (model prog w) A (getAttr? (.ref a) "keys") Q E s:=by
 obtain⟨c,dct,G,q⟩:=o;simp only at i n hd;subst i n hd;obtain⟨r,g,d,tk,t⟩:=s;have j:∀l,(⟨r,g,d,l,t⟩:Shared).TypeIs (.ref a) "list" :=λζ=>⟨_,f,rfl⟩;have v:=sub_AttributeError;have x:=F.slot_list_getattribute.lookup;have y:=F.slot_list_getattribute.bind (.ref a);have z:=am_list_getattr_none;have u:typeLookup (.type "list") "keys" = pure none:=by rw[typeLookup_type,builtinLookup_eq_fast];kernel_rfl
 unfold getAttr? getAttrBy? getAttrBy
 repeat (any_goals (first|assumption|exact j _|((with_reducible show wpAny _ _ (call (Value.builtin "list.__getattribute__") _ _) _ _ _);refine call_meets F.slot_list_getattribute (j _) am_entry_list_getattribute (F.args_list_getattribute_2 _ _) (meets_getattribute_miss_list a xs k q "keys" _ u (by decide) (by size_fits)) ⟨f,p,λh' l e m=>?_⟩)|wp_step))
 obtain⟨B,C,D⟩:=m.there;show wpAny _ _ (getattributeRaised _ _ _ _ _ _ _) _ _ _;unfold getattributeRaised
 repeat (any_goals (first|assumption|wp_step))
 exact h _ _ m.keeps
namespace F
def args_minD(a v:Value):argsOk "min" ⟨[a],[(Str.ofString "default",v)]⟩:=by unfold argsOk;kernel_rfl
def entry_upd_loop:entryFor table "dict.update.loop" = some Builtin.«dict.update.loop»:=entryFor_of_tree (by kernel_rfl)
def plain_upd_loop:plainId "dict.update.loop" = true:=by decide +kernel
end F
variable {R:Result->Shared->Prop} {I:Addr} {fp u:List Addr} {n:Nat} {P:Nat->Value->Prop} {St:Nat->Heap->Prop}
def Qm:(toString "min" ++ toString ".loop" : String) = "min.loop" :=by decide
theorem Tc(W:Walks prog w A.in1 I fp u n P St)(d:Nat->Nat->Bool)(E:CmpOf prog w A.in1 .Lt P d)(S:Addr)(m:S∉fp)(r:List (Str×Value)) :
 ∀(k j:Nat)(s:Shared)(a:Value)(c:Nat),n=j+1+k->St (j+1) s.heap->P (argBest d j) a->s.heap.get? S=some {cls:=.type "list",data:=.seq #[a,a] c} ->
 (∀v h' tk,P (argBest d (n-1)) v->(∀b o,b∉u->b≠S->s.heap.get? b=some o->h'.get? b=some o)->R (.ok (.ret v)) {s with heap:=h',toks:=tk}) ->
 codeAny (model prog w) A (.builtin "min.loop" ⟨[.ref I,.none,.ref S],r⟩) R s
 |0,j,s,a,c,G,y,q,l,p=>by
   subst G;refine codeAny_builtin F.entry_min_loop ?_;rw[Around.under_plainId F.plain_min_loop _];show wpAny _ A.in1 (seqItems? (.ref S) >>= _) _ _ s;refine Ad (F2 l rfl ?_);show wpAny _ A.in1 (tryCatch (pyNext (.ref I)) _ >>= _) _ _ s;refine Ad (wpAny_tryCatch (W.done s _ _ y λh' tk g=>?_));show wpAny _ A.in1 (updateSeq S (λζ=>#[]) >>= _) _ _ _;refine Ad (wpAny_updateSeq (g S _ (λh=>m (W.sub _ h)) l) rfl (Ad (wpAny_letGo (Au (p a _ tk q λb o f i e=>?_)))));exact(Heap.get?_update_other _ _ (Ne.symm i)).trans (g b o f e)
 | k + 1,j,s,a,c,G,y,q,l,p=>by
   refine codeAny_builtin F.entry_min_loop ?_;rw[Around.under_plainId F.plain_min_loop _];show wpAny _ A.in1 (seqItems? (.ref S) >>= _) _ _ s;refine Ad (F2 l rfl ?_);show wpAny _ A.in1 (tryCatch (pyNext (.ref I)) _ >>= _) _ _ s;refine Ad (wpAny_tryCatch (W.item (j+1) s _ _ (by lia) y λv h' tk H J g=>?_));have z:=g S _ (λh=>m (W.sub _ h)) l;show wpAny _ A.in1 (tryCatch (holding [v,v] (richCompare .Lt v a >>= _)) _ >>= _) _ _ _;refine Ad (wpAny_tryCatch (Fa (Ad (E (j+1) (argBest d j) v a _ _ _ H q (Ad (Fa (F0 (Ad (wpAny_letGo (Au ?_))))))))))
   cases hb:d (j+1) (argBest d j) with
   |true =>
     simp only[if_true];refine Ad (wpAny_updateSeq z rfl (Ad (wpAny_letGo ?_)));rw[Qm];refine Au ⟨plainId_quiet F.plain_min_loop _,Tc W d E S m r k (j+1) _ v _ (by lia) (W.frame _ _ _ J λb K o e=>?_) (by simp only[argBest,hb,if_true];exact H) (Heap.get?_update_self _ z rfl) λt x B C D=>?_⟩;exact(Heap.get?_update_other _ _ (λh:S=b=>m (by rw[h];exact K))).trans e;exact p t x B C λb o f i e=>D b o f i ((Heap.get?_update_other _ _ (Ne.symm i)).trans (g b o f e))
   |false =>
     simp only[E9,if_false];refine Ad (wpAny_letGo ?_);rw[Qm]
     exact Au ⟨plainId_quiet F.plain_min_loop _,Tc W d E S m r k (j+1) _ a c (by lia) J (by simp only[argBest,hb,E9,if_false];exact q) z λt x B C D =>
      p t x B C λb o f i e=>D b o f i (g b o f e)⟩
theorem Zy{x d:Value}{Q:D'}
 (h:wpAny (model prog w) A.in1 (pyIter x) (λit c=>∃I fp u n P St f,it=.ref I/\Walks prog w A.in1 I fp u n P St/\St 0 c.heap/\(∀b∈fp,b<c.heap.objs.size)/\CmpOf prog w A.in1 .Lt P f /\
  ∀v h' tk,(if n=0 then v=d else P (argBest f (n-1)) v)->(∀b o,b∉u->c.heap.get? b=some o->h'.get? b=some o)->Q v {c with heap:=h',toks:=tk}) E s) :
 wpAny (model prog w) A (call (.builtin "min") [x] [(Str.ofString "default",d)]) Q E s:=by
 refine wpAny_call (codeAny_call_builtin F.plain_min F.entry_min (wpAny_of_eq (a:=()) (by
  have j:=F.args_minD x d;simp only[checkBuiltinCall,F.kind_min];unfold argsOk at j
  cases M:Manifest.signature? "min" with
  |none=>rfl
  |some R=>rw[M] at j;exact j) ?_))
 show wpAny _ A.in1 (Builtin.Builtins.bindParams "min" ["key", "default"] 0 ⟨[],[(Str.ofString "default",d)]⟩ >>= _) _ _ s
 refine Ad (wpAny_of_eq (show Builtin.Builtins.bindParams "min" ["key", "default"] 0 ⟨[],[(Str.ofString "default",d)]⟩=pure [none,some d] from rfl) ?_)
 refine Ad (Au ?_);refine Ad (Fy h (λit c r=>?_) λζ ζ e=>e);obtain⟨I,fp,u,n,P,St,f,rfl,W,C,D,N,l⟩:=r;refine Ad (wpAny_newObj_type ?_);have k:c.heap.objs.size∉fp:=λt=>G3 _ (D _ t);have G:c.heap.objs.size∉u:=λh=>k (W.sub _ h);rw[Qm];have m:(c.heap.push {cls:=.type "list",data:=.seq #[]}).get? c.heap.objs.size=some {cls:=.type "list",data:=.seq #[]}:=B9 _ rfl;have q:=W.frame _ _ (c.heap.push {cls:=.type "list",data:=.seq #[]}) C λb ζ o e=>Ba _ e;refine Au ⟨plainId_quiet F.plain_min_loop _,codeAny_builtin F.entry_min_loop ?_⟩;rw[Around.under_plainId F.plain_min_loop _];show wpAny _ A.in1 (seqItems? (.ref c.heap.objs.size) >>= _) _ _ _;refine Ad (F2 m rfl ?_);show wpAny _ A.in1 (tryCatch (pyNext (.ref I)) _ >>= _) _ _ _
 cases n with
 |zero =>
   refine Ad (wpAny_tryCatch (W.done _ _ _ q λh' tk g=>?_));exact Ad (G4 (Au (l d _ tk (by rw[Ak rfl]) λb o i e=>g b o i (Ba _ e))))
 |succ n =>
   refine Ad (wpAny_tryCatch (W.item 0 _ _ _ (Nat.succ_pos _) q λv h' tk y O g=>?_));have p:=g _ _ G m;show wpAny _ A.in1 (updateSeq c.heap.objs.size (λζ=>#[v,v]) >>= _) _ _ _;refine Ad (wpAny_updateSeq p rfl ?_);rw[Qm];refine Au ⟨plainId_quiet F.plain_min_loop _,Tc W f N _ k _ n 0 _ v _ (by lia) (W.frame _ _ _ O λb H o e=>?_) y (Heap.get?_update_self _ p rfl) λz B J K L=>?_⟩;exact(Heap.get?_update_other _ _ (λh:c.heap.objs.size=b=>k (by rw[h];exact H))).trans e;refine l z B J (by rw[Aj (Nat.succ_ne_zero n)];exact K) λb o i e=>?_;have hb:b≠c.heap.objs.size:=Cq (Bl e);exact L b o i hb ((Heap.get?_update_other _ _ (Ne.symm hb)).trans (g b o i (Ba _ e)))
end
end PySem
namespace L2
open PySem PySem.Spec PyProof.Rows
section
variable {X:Cx}
def NA:List Int->V
 |[]=>.non
 |n::ns=>.int (ns.foldl min n)
theorem Td(f:Nat->Int):∀n,f (argBest (λi j=>decide (f i<f j)) n)=((List.range n).map λi=>f (i+1)).foldl min (f 0)
 |0=>rfl
 |n+1=>by
   have a:=Td f n;rw[List.range_succ,Bh,NR];show f (if _ then _ else _)=min _ (f (n+1));rw[<-a]
   by_cases h:f (n+1)<f (argBest (λi j=>decide (f i<f j)) n);rw[Ak (By h)];lia;rw[Aj (by simpa using h)];lia
def Wl(n:Int)(ns:List Int):((List.range ns.length).map λi=>(n::ns).getD (i+1) 0)=ns:=by
 apply List.ext_getElem?;intro i;rw[A3];by_cases h:i<ns.length;rw[List.getElem?_range h,Option.map_some,EA,List.getElem?_cons_succ,AD h];rfl;rw[D6 (by simpa using h),D6 (by lia)];rfl
def OS (ta:TA):TE:=λσ H Q=>ta σ H λvs Y=>∃p ns,vs=[.ref p]/\Y p=some (.lst (ns.map V.int))/\Q (NA ns) Y
def Jo{e:Expr}{k:TA}{p pos y J:Pos}{j:Nat}(B:X.calm=true)(C:Gl X "min")(D:X.mg "min" = none)(E:PA X [e] k)
 (hb:backTo pos (starEach [e] X.env)=(false,eval e X.env)::backTo pos (starEach [] X.env):=by rfl) (O:(backTo pos (starEach [e] X.env)).any (·.1)=false:=by rfl) :
 PE X (.Call (.Name "min" p) [e] [⟨some "default",.Constant .none j y,J⟩] pos) (OS k):=by
 intro R s σ H Q I h;refine wpAny_Call_Name_kw (Kg I C D (u:=.builtin "min") (by decide +kernel) (callWith_kw (AU (E pos R s σ H _ I h) λT c⟨U,Y,g,F,G⟩=>kws_cons (Constant_none (kws_nil ?_))) hb O))
 obtain⟨l,a,rfl,K,q⟩:=G;obtain⟨u,rfl,L⟩:=FP F;cases L;obtain⟨z,f,n,r,e⟩:=(show AB X.prog X.w Y c.heap l (.lst (a.map V.int)) from g.hok l _ K);have w:=Vg r;have x:c.heap.IsList l f.toArray:=⟨_,e,rfl,n,rfl⟩
 have S:f.length=a.length:=by have:=r.length;rw[Al] at this;exact this.symm
 refine Zy (wpAny_pyIter_list x ⟨_,[c.heap.objs.size,l],[c.heap.objs.size],_,λi v=>f.toArray[i]?=some v,λi h=>h.IsListIter c.heap.objs.size l i/\h.IsList l f.toArray,λi j=>decide (a.getD i 0<a.getD j 0),rfl,Walks.list (A:=X.A.in1) (g.ok.hd B) c.heap.objs.size l (Cq (Bl e)) f.toArray,
  ⟨⟨_,B9 _ rfl,rfl,rfl⟩,x.push _⟩,λb hb=>?_,CmpOf.ints_lt (λi=>a.getD i 0) (λi v d=>w.int_at i v (by simpa using d)),λv M tk d N=>?_⟩)
 show b<(c.heap.push _).objs.size;rw[Heap.size_push];rcases BV.mp hb with rfl|hb;exact PM _;rw[AW.mp hb];exact Nat.lt_succ_of_lt (Bl e);have P:∀b o,c.heap.get? b=some o->M.get? b=some o:=λb o z=>N b o (by simpa using Cq (Bl z)) (Ba _ z);refine⟨NA a,Y,g.kept P,?_,q⟩;rw[Cf,S] at d
 cases a with
 |nil=>exact d
 |cons m a =>
   rw[Ew,Aj (Nat.succ_ne_zero _),Nat.add_sub_cancel] at d;obtain⟨t,rfl⟩:=w.int_at (argBest (λi j=>decide ((m::a).getD i 0<(m::a).getD j 0)) a.length) v (by rw[<-List.getElem?_toArray];exact d);refine⟨t,?_⟩;rw[Td λi=>(m::a).getD i 0,Wl];rfl
def Kz (acc:List (List AJ×V)) (ps:List (List AJ×V)):List (List AJ×V):=ps.foldl (λa kv=>AV a kv.1 kv.2) acc
def EM (H:Hp) (xs:List V) (ps:List (List AJ×V)):Prop:=Paired (λx(p:List AJ×V)=>∃t b,x=.ref t/\H t=some (.tup [.ref b,p.2])/\H b=some (.tup (p.1.map kV))) xs ps
def Zz{pins:B'}{σ:St}{A:Around}{R:Result->Shared->Prop}{H:Hp}{p l it:Addr}(Z:A.units+1<cLine)(hh:A.in1.handled=none)(h:H p=none)(E:it≠p) :
 ∀(xs:List V)(j:List (List AJ×V))(d:List V)(acc:List (List AJ×V))(s:Shared),EM H xs j->H l=some (.lst (d++xs))->acc.length+xs.length<=sizeLine->Inv X pins σ (upd H p (.dT acc)) s ->
 s.heap.IsListIter it l d.length->CZ X pins H it->(∀L,Inv X pins σ (upd H p (.dT (Kz acc j))) L->R (.ok (.ret .none)) L)->∀n:Int,
 codeAny (model X.prog X.w) A (.builtin "dict.update.loop" ⟨[.ref p,.ref it,rawInt n,.none],[]⟩) R s:=by
 intro xs j d acc s hx
 induction hx generalizing d acc s with
 |nil =>
   intro f J I r k u n;have F:upd H p (.dT acc) l=some (.lst (d++[])):=(AC (A1 f h)).trans f;obtain⟨v,w,aa,y,B,C⟩:=k;have G:upd H p (.dT acc) it=none:=(AC E).trans v;obtain⟨z,U,c,D,e⟩:=(show AB X.prog X.w _ s.heap l (.lst (d++[])) from I.hok l _ F);have an:=D.length;rw[FN] at an;refine codeAny_builtin PySem.F.entry_upd_loop ?_;rw[Around.under_plainId PySem.F.plain_upd_loop _];show wpAny _ A.in1 (pyNext (.ref it) >>= _) _ _ s;refine Ad (wpAny_pyNext_list_end hh r ⟨_,e,rfl,c,rfl⟩ (by simp;lia) λg eb=>?_);exact Ad (Au (Au (u _ (I.turned (t':=s.toks) (λb o hb e=>eb b o hb e) G w y B C))))
 |@cons x q xs j hq tl ih =>
   intro f J I r k u n;obtain⟨t,b,rfl,K,hb⟩:=hq;have F:upd H p (.dT acc) l=some (.lst (d++.ref t::xs)):=(AC (A1 f h)).trans f;have af:upd H p (.dT acc) t=some (.tup [.ref b,q.2]):=(AC (A1 K h)).trans K;have W:upd H p (.dT acc) b=some (.tup (q.1.map kV)):=(AC (A1 hb h)).trans hb;obtain⟨v,w,aa,y,B,C⟩:=id k;have G:upd H p (.dT acc) it=none:=(AC E).trans v;obtain⟨z,U,c,D,e⟩:=(show AB X.prog X.w _ s.heap l (.lst (d++.ref t::xs)) from I.hok l _ F);obtain⟨ao,ag,ru⟩:=D.get (i:=d.length) (x:=.ref t) (by simp);cases ru;refine codeAny_builtin PySem.F.entry_upd_loop ?_;rw[Around.under_plainId PySem.F.plain_upd_loop _];show wpAny _ A.in1 (pyNext (.ref it) >>= _) _ _ s;refine Ad (wpAny_pyNext_list_item r (⟨_,e,rfl,c,rfl⟩:s.heap.IsList l U.toArray) (x:=.ref t) (by simpa using ag) λg ah sb=>?_);have m:Inv X pins σ (upd H p (.dT acc)) {s with heap:=g}:=I.turned (t':=s.toks) (λb o hb e=>(sb.2 b hb).trans e) G w y B C;obtain⟨_,ts,rt,ot,M,ct,nt,dt⟩:=(show AB X.prog X.w _ g t (.tup [.ref b,q.2]) from m.hok t _ af);obtain⟨u1,N,rfl,r1,r2⟩:=Kl rt;cases(show u1=Value.ref b from r1);obtain⟨zd,hm,es,Y,dd⟩:=Hi m.hok (Aa (H:=H) (a:=p) (o:=.dT acc))
   have ai:es.length<=sizeLine:=by rw[<-Paired.length Y];exact zd
   have aq:(AV acc q.1 q.2).length<=acc.length+1:=Ov acc q.1 q.2;rw[Ew] at J;refine Ad (Fa (Ad (wpAny_tryCatch ?_)));show wpAny _ A.in1 (Builtin.Dict.pairItems (.ref t)) _ _ _;unfold Builtin.Dict.pairItems;refine Ad (M4 (s:={s with heap:=g}) (T:= "tuple") ⟨ot,M,ct⟩ ?_);rw[Ak (by decide)];refine Ad (F2 (s:={s with heap:=g}) M dt (Au ?_));show wpAny _ A.in1 (holding [Value.ref b,N] (dictSet p (.ref b) N)) _ _ _;refine Fa (wpAny_dictSet_heap (hsz:=ai) (knd:=tupleKind (EC X.prog X.w)) (tupleKind_room_in1 Z) (Lz m.hok W) dd λh2 aj O=>?_);obtain⟨P,ak,al,Q,ab,ae,g4,_,g5⟩:=aj
   have I2:Inv X pins σ (upd H p (.dT (AV acc q.1 q.2))) {s with heap:=h2,toks:=s.toks+(tupleKind (EC X.prog X.w)).draws q.1}:=by
    have:=Ox (t':=s.toks+(tupleKind (EC X.prog X.w)).draws q.1) (ob:=.dT (AV acc q.1 q.2)) m (by rw[Aa];exact True.intro) O ⟨P,Q⟩ ⟨by lia,hm,_,(Y.put q.1 W r2).keeps λc ys S=>?_,P,ak,al,Q,ab,ae,g4,g5⟩;rw[UT] at this;exact this;rw[AC (Na S Aa (λz=>nomatch z))];exact S
   refine Au ⟨plainId_quiet PySem.F.plain_upd_loop _,?_⟩;have:=ih (d++[.ref t]) (AV acc q.1 q.2) _ (by rw[FZ];exact f) (by lia) I2 (by rw[AZ];exact ah.at λo e=>(O.2 it E).trans e) k u (n+1);exact this
def Jp:List V->Hp->VK->Prop:=λvs H Q=>∃l xs ps,vs=[.ref l]/\H l=some (.lst xs)/\xs.length<sizeLine/\EM H xs ps/\∀p,H p=none->Q (.ref p) (upd H p (.dT (Kz [] ps)))
def ZA(j:X.calm=true)(y:X.A.units+2<cLine):Bi X (.type "dict") Jp:=by
 intro pins s σ H K M Q I r h;obtain⟨l,k,B,rfl,m,N,C,q⟩:=h;obtain⟨u,rfl,D⟩:=FP r;cases D;have n:H s.heap.objs.size=none:=I.hok.fresh (AE _);refine callType_codes (Q₁:=λw p=>w=.ref s.heap.objs.size/\p={s with heap:=s.heap.push {cls:=.type "dict",data:=.dict #[]}}) PySem.F.kt_called_dict (PySem.F.kt_typeCall_dict_1 _) PySem.F.entry_dict_init (kt_code_dict_new _ ⟨rfl,rfl⟩) ?_;rintro w p ⟨rfl,rfl⟩;have E:=I.laid (a:=s.heap.objs.size) (o:=.dT []) (t':=s.toks) (h':=s.heap.push {cls:=.type "dict",data:=.dict #[]}) (λζ ζ q=>Ba _ q) (AE _) (Vt s.heap I.big)
 obtain⟨z,P,c,O,e⟩:=(show AB X.prog X.w _ s.heap l (.lst k) from I.hok l _ m)
 have f:=Ba {cls:=.type "dict",data:=.dict #[]} e;have t:Shared.TypeIs {s with heap:=s.heap.push {cls:=.type "dict",data:=.dict #[]}} (.ref s.heap.objs.size) "dict" :=⟨_,B9 _ rfl,rfl⟩;refine⟨t,PySem.F.args_dict_init_2 _ _,?_⟩;unfold Builtin.«dict.__init__»;refine Ad ?_;unfold Builtin.Dict.selfAndRest;refine Ad (wpAny_notOrdered_dict t ?_);show wpAny _ _ (pure (s.heap.objs.size,[Value.ref l])) _ _ _;refine Au ?_;show wpAny _ _ (Builtin.Dict.updateFrom "dict.__init__" s.heap.objs.size (.ref l) [] .none) _ _ _;unfold Builtin.Dict.updateFrom;refine Ad (M4 (T:= "list") ⟨_,f,rfl⟩ ?_)
 rw[Ak (by decide)];refine Ad (Wk f rfl rfl rfl (I.ok.hd j) λd tk v=>?_);rw[Ak (show(none:Option Value).isNone=true from rfl)];have g:=E.kept (t':=tk) v;refine Ad (G4 (Ad (wpAny_pyIter_list (s:={s with heap:=d,toks:=tk}) ⟨_,v _ _ f,rfl,c,rfl⟩ ?_)))
 have F:=g.kept (t':=tk) (h':=d.push {cls:=.type "list_iterator",data:=.fields #[.ref l,.int 0 0]}) λb o e=>Ba _ e;obtain⟨i,G⟩:=g.fpOk (AE d.objs.size) (g.hok.fresh (AE _));have x:d.objs.size≠s.heap.objs.size:=λz=>by rw[z,Aa] at i;cases i
 refine Au ⟨plainId_quiet PySem.F.plain_upd_loop _,Zz (A:=X.A.in1) (X:=X) (pins:=pins) (σ:=σ) (l:=l) (H:=H) y (I.ok.hd j) n x k B [] [] _ C m (by rw[GO];lia) F ⟨_,B9 _ rfl,rfl,rfl⟩ ⟨(AC x).symm.trans i,G⟩ (λL J=>⟨rfl,.ref _,_,J,rfl,q _ n⟩) 0⟩
end
open Ord
def ZB{bs:List Bool}:(List.range bs.length).any (λi=>bs.getD i false)=bs.any id:=by
 rw[Bool.eq_iff_iff,Gf,Gf];constructor;rintro⟨i,a,h⟩;have c:=List.mem_range.mp a;rw[EA,AD c] at h;exact⟨_,Ec c,h⟩;rintro⟨b,hb,h⟩;obtain⟨i,a,e⟩:=PK.mp hb;refine⟨i,List.mem_range.mpr a,?_⟩;rw[EA,AD a,e];exact h
def Tf (K:Ah):List V->Hp->VK->Prop:=λvs H Q=>∃(a:Addr)(bs:List Bool),vs=[.ref a]/\Ae K H a (bs.map V.bl)/\Q (.bl (bs.any id)) H
def Wm{X:Cx}(g:X.calm=true):Bi X (.builtin "any") (Tf X.K):=by
 intro B s σ H t w Q I r h;obtain⟨a,bs,rfl,j,q⟩:=h;obtain⟨u,rfl,k⟩:=FP r;obtain rfl:u=Value.ref a:=k;obtain⟨c,d,p,x⟩:=I.list j;have f:=d.length;rw[Al] at f;have n:a<s.heap.objs.size:=by obtain⟨_,e,_⟩:=p.isList;exact Bl e
 refine call_any_walk (wpAny_pyIter_list p.isList ?_);refine⟨s.heap.objs.size,[s.heap.objs.size,a],[s.heap.objs.size],c.toArray.size,(λi v=>c.toArray[i]?=some v),(λi h=>h.IsListIter s.heap.objs.size a i/\h.IsList a c.toArray),(λi=>bs.getD i false),rfl,Walks.list (A:=X.A.in1) (I.ok.hd g) s.heap.objs.size a (Cq n) c.toArray,⟨⟨_,B9 _ rfl,rfl,rfl⟩,p.isList.push _⟩,Vv d,λy tk l=>?_⟩;refine⟨.bl (bs.any id),H,I.kept λb o e=>l b o (λz=>?_) (Ba _ e),?_,q⟩;have m:b=s.heap.objs.size:=(by simpa using z);exact absurd (Bl e) (by rw[m];exact G3 _);have e:c.toArray.size=bs.length:=(by rw[Cf,f]);show Value.bool _=Value.bool _;rw[e,ZB]
section
variable {prog:Program} {w:World} {A:Around} {E:D'} {s:Shared}
end
section
variable {X:Cx}
end
end L2
namespace TreeM
def Tg{β:Type}{P:List β->Prop}(nil:P [])(snoc:∀l x,P l->P (l++[x]))(l:List β):P l:=by
 have:∀l:List β,P l.reverse:=λl=>by
  induction l with
  |nil=>exact nil
  |cons x l a=>rw[List.reverse_cons];exact snoc _ _ a
 rw[<-List.reverse_reverse l];exact this _
variable {α:Type} [DecidableEq α]
abbrev Ws (α:Type):=List (Nat×List α)
def nxt (p:List α) (w:List α):Option α:=if p <+: w then w[p.length]? else none
def keysAt (ws:Ws α) (p:List α):List (α×Nat):=ws.foldl (λks kw=>match nxt p kw.2 with
 |some m=>if m∈ks.map (·.1) then ks else ks++[(m,kw.1)]
 |none=>ks) []
theorem KA(ws:Ws α)(k:Nat)(w p:List α):keysAt (ws++[(k,w)]) p=match nxt p w with
 |some m=>if m∈(keysAt ws p).map (·.1) then keysAt ws p else keysAt ws p++[(m,k)]
 |none=>keysAt ws p:=by
 unfold keysAt;rw[NR];rfl
def Jq(p:List α):nxt p p=none:=by
 unfold nxt;rw[Ak (List.prefix_refl p)];exact D6 (AE _)
def ZC(p:List α)(m:α):nxt p (p++[m])=some m:=by
 unfold nxt;rw[Ak (Ii p [m]),EB (AE _),Nat.sub_self];rfl
variable {p:List α}{m:α}
def ZD{q:List α}(h:p≠q):nxt p (q++[m])=nxt p q:=by
 unfold nxt;by_cases a:p <+: q;rw[Ak a,Ak (a.trans (Ii q [m]))]
 have l:p.length<q.length:=by
  rcases Nat.lt_or_ge p.length q.length with x|x;exact x;exact absurd (a.eq_of_length_le x) h
 exact D1 l;rw[Aj a];by_cases b:p <+: q++[m];rw[Ak b];rcases List.prefix_concat_iff.mp b with e|e;rw[e];exact D6 (AE _);exact absurd e a;rw[Aj b]
def ZE(ws:Ws α)(k:Nat)(p:List α):keysAt (ws++[(k,[])]) p=keysAt ws p:=by
 rw[KA]
 have:nxt p ([]:List α)=none:=by
  unfold nxt;by_cases a:p <+: [];rw[Ak a];rfl;rw[Aj a]
 rw[this]
variable {ws:Ws α}
def Ti{k:Nat}{q:List α}(h:p≠q):keysAt (ws++[(k,q++[m])]) p=keysAt (ws++[(k,q)]) p:=by
 rw[KA,KA,ZD h]
def Wn(ws:Ws α)(k:Nat)(q:List α)(m:α):keysAt (ws++[(k,q++[m])]) q =
 if m∈(keysAt (ws++[(k,q)]) q).map (·.1) then keysAt (ws++[(k,q)]) q else keysAt (ws++[(k,q)]) q++[(m,k)]:=by
 rw[KA,KA,ZC,Jq]
def FI{w:List α}:nxt p w=some m↔p++[m] <+: w:=by
 unfold nxt;by_cases a:p <+: w;rw[Ak a];obtain⟨t,rfl⟩:=a;rw[EB (AE _),Nat.sub_self]
 cases t with
 |nil =>
   refine⟨λe=>(nomatch e),λe=>?_⟩;have:=e.length_le;rw[FN,AZ] at this;exact absurd this (by show ¬p.length+1<=p.length;lia)
 |cons x t =>
   refine⟨λe=>?_,λe=>?_⟩;cases e;exact⟨t,by simp⟩;obtain⟨u,e⟩:=e;rw[FZ] at e;have:=List.append_cancel_left e;simp at this;rw[this.1];rfl
 rw[Aj a];exact⟨λe=>(nomatch e),λe=>absurd ((Ii p [m]).trans e) a⟩
def keysAt_mem:m∈(keysAt ws p).map (·.1)↔∃a∈ws,p++[m] <+: a.2:=by
 induction ws using Tg with
 |nil=>exact⟨λh=>(nomatch h),λ⟨_,h,_⟩=>(nomatch h)⟩
 |snoc ws a c =>
   obtain⟨k,w⟩:=a;rw[KA]
   have both:(∃a∈ws++[(k,w)],p++[m] <+: a.2)↔(∃a∈ws,p++[m] <+: a.2)\/p++[m] <+: w:=by
    constructor;rintro⟨x,b,e⟩;rcases BL.mp b with y|y;exact .inl ⟨x,y,e⟩;rw[AW.mp y] at e;exact .inr e;rintro(⟨x,b,e⟩|e);exact⟨x,Ef _ b,e⟩;exact⟨_,CY _ (AW.mpr rfl),e⟩
   rw[both,<-c,<-FI]
   cases b:nxt p w with
   |none=>exact⟨.inl,λz=>z.elim id λe=>(nomatch e)⟩
   |some x =>
     dsimp only;by_cases d:x∈(keysAt ws p).map (·.1);rw[Ak d];exact⟨.inl,λz=>z.elim id λe=>by cases e;exact d⟩;rw[Aj d,Bh,BL];refine or_congr Iff.rfl ?_;simp[eq_comm]
def Wo{k:Nat}(l:(ws.map (·.1)).Pairwise (· < ·))(h:(m,k)∈keysAt ws p):(∃w,(k,w)∈ws/\p++[m] <+: w)/\∀j w,(j,w)∈ws->p++[m] <+: w->k<=j:=by
 induction ws using Tg with
 |nil=>cases h
 |snoc ws o q =>
   obtain⟨n,v⟩:=o;rw[Bh,List.pairwise_append] at l;obtain⟨r,-,s⟩:=l;have z:∀j w,(j,w)∈ws->j<n:=λj w e=>s j (AL.mpr ⟨_,e,rfl⟩) n (AW.mpr rfl);rw[KA] at h
   have i:(m,k)∈keysAt ws p->(∃w,(k,w)∈ws++[(n,v)]/\p++[m] <+: w)/\∀j w,(j,w)∈ws++[(n,v)]->p++[m] <+: w->k<=j:=λt=>by
    obtain⟨⟨w,a,b⟩,c⟩:=q r t;refine⟨⟨w,Ef _ a,b⟩,λj u e f=>?_⟩;rcases BL.mp e with y|y;exact c j u y f;cases AW.mp y;exact Cn (z _ _ a)
   cases g:nxt p v with
   |none=>rw[g] at h;exact i h
   |some x =>
     rw[g] at h;dsimp only at h;by_cases d:x∈(keysAt ws p).map (·.1);rw[Ak d] at h;exact i h;rw[Aj d] at h;rcases BL.mp h with y|y;exact i y;cases AW.mp y;refine⟨⟨v,CY _ (AW.mpr rfl),FI.mp g⟩,λj u e f=>?_⟩;rcases BL.mp e with y|y;exact absurd (keysAt_mem.mpr ⟨_,y,f⟩) d;cases AW.mp y;exact AE _
section
variable (bet:α->α->Bool)
def AO:List α->List α->Bool
 |x::s,m::t=>if x=m then AO s t else bet x m
 |_,_=>false
def gat (ws:Ws α):List α->List α->List Nat
 |_,[]=>[]
 |a,m::t=>((keysAt ws a).filter λxk=>bet xk.1 m).map (·.2)++gat ws (a++[m]) t
end
variable {bet:α->α->Bool}
def L6{a b:List α}{x:α}{t:List α}(h:a++[x] <+: b)(c:x≠m):AO bet b (a++m::t)=bet x m:=by
 obtain⟨u,rfl⟩:=h
 induction a with
 |nil=>show(if x=m then _ else bet x m)=_;rw[Aj c]
 |cons y a d=>show(if y=y then _ else _)=_;rw[Ak rfl];exact d
theorem Wp{ws:Ws α}(g:(ws.map (·.1)).Pairwise (· < ·))(i:∀m,bet m m=false):∀(b a:List α)(k:Nat),k∈gat bet ws a b->∃w,(k,w)∈ws/\AO bet w (a++b)=true
 |[],_,_,h=>nomatch h
 |m::t,a,k,h=>by
   rcases BL.mp h with y|y;obtain⟨⟨x,j⟩,z,rfl⟩:=AL.mp y;obtain⟨l,d⟩:=Kd.mp z;obtain⟨⟨w,f,c⟩,-⟩:=Wo g l;refine⟨w,f,?_⟩;rw[L6 c (λe=>?_)];exact d;rw[e,i] at d;cases d;obtain⟨w,f,c⟩:=Wp g i t (a++[m]) k y;refine⟨w,f,?_⟩;rw[FZ] at c;exact c
theorem Wq:∀{b w:List α},AO bet w b=true->∃a x m t,b=a++m::t/\a++[x] <+: w/\x≠m/\bet x m=true
 |m::t,x::s,h=>by
   by_cases e:x=m;subst e;have h':AO bet s t=true:=(by simpa [AO] using h);obtain⟨a,y,n,u,rfl,c,d,f⟩:=Wq h';exact⟨x::a,y,n,u,rfl,List.cons_prefix_cons.mpr ⟨rfl,c⟩,d,f⟩;have h':bet x m=true:=(by simpa [AO,e] using h);exact⟨[],x,m,t,rfl,List.cons_prefix_cons.mpr ⟨rfl,List.nil_prefix⟩,e,h'⟩
 |[],[],h=>nomatch h
 |[],_::_,h=>nomatch h
 |_::_,[],h=>nomatch h
theorem Wr{ws:Ws α}:∀{a b c:List α}{m x:α}{t:List α}{k:Nat},(x,k)∈keysAt ws (c++a)->bet x m=true->b=a++m::t->k∈gat bet ws c b
 |[],b,c,m,x,t,k,d,e,f=>by
   subst f;rw[FN] at d;exact Ef _ (AL.mpr ⟨_,Kd.mpr ⟨d,e⟩,rfl⟩)
 |y::a,b,c,m,x,t,k,d,e,f=>by
   subst f;refine CY _ (Wr (a:=a) (m:=m) (x:=x) (t:=t) ?_ e rfl);rw[FZ];exact d
def ZF(i:(ws.map (·.1)).Pairwise (· < ·)){b w:List α}{j:Nat}(h:(j,w)∈ws)(l:AO bet w b=true):∃k∈gat bet ws [] b,k<=j:=by
 obtain⟨a,x,m,t,e,d,-,n⟩:=Wq l;obtain⟨⟨y,k⟩,f,g⟩:=AL.mp (keysAt_mem.mpr ⟨_,h,d⟩);dsimp only at g;subst g;exact⟨k,Wr (a:=a) (c:=[]) f n e,(Wo i f).2 j w h d⟩
end TreeM
namespace L2
open PySem PySem.Spec PyProof.Rows Ord TreeM
variable {A:Around}
def L7{k:Nat}(a:BX k A):A.units+2<cLine:=Nat.lt_of_le_of_lt (Nat.add_le_add_left (by decide:2<=64) _) a.units
abbrev FW (m:Ao):List AJ:=[.inl m.1,.inr m.2.1,.inl m.2.2]
def ZG{a b:Ao}(h:FW a=FW b):a=b:=by
 obtain⟨c,d,e⟩:=a;obtain⟨f,g,i⟩:=b;simp only[FW,List.cons.injEq,Sum.inl.injEq,Sum.inr.injEq,and_true] at h;rw[h.1,h.2.1,h.2.2]
def DB (ws:Ws Ao) (c:List Ao->Ao->Addr) (p:List Ao):List (List AJ×V):=(keysAt ws p).map λmk=>(FW mk.1,V.ref (c p mk.1))
theorem Wu{c:Ao->Addr}{m:Ao}:∀{ks:List (Ao×Nat)},AH (ks.map λmk=>(FW mk.1,V.ref (c mk.1))) (FW m)=if m∈ks.map (·.1) then some (.ref (c m)) else none
 |[]=>rfl
 | (x,k) :: ks=>by
   rw[Eu];by_cases h:x=m;subst h;rw[GR rfl,Ak (by simp)];rw[GS (λz=>h (ZG z)),Wu]
   have:(m∈List.map (·.1) ((x,k)::ks))↔m∈ks.map (·.1):=by
    rw[Eu,BV];exact⟨λz=>z.elim (λe=>absurd e.symm h) id,.inr⟩
   by_cases a:m∈ks.map (·.1);rw[Ak a,Ak (this.mpr a)];rw[Aj a,Aj (λz=>a (this.mp z))]
variable {ws:Ws Ao}{c:List Ao->Ao->Addr}{p:List Ao}{m:Ao}
def OT:AH (DB ws c p) (FW m)=if m∈(keysAt ws p).map (·.1) then some (.ref (c p m)) else none:=Wu (c:=c p)
def DY (ws:Ws Ao) (p:List Ao):Prop:=p=[]\/∃kw∈ws,p <+: kw.2
def Wv(h:¬DY ws p):keysAt ws p=[]:=by
 cases e:keysAt ws p with
 |nil=>rfl
 |cons x l =>
   exfalso;obtain⟨a,b,c⟩:=keysAt_mem.mp (show x.1∈(keysAt ws p).map (·.1) by rw[e];simp);exact h (.inr ⟨a,b,(Ii p _).trans c⟩)
def Fi:DY ws (p++[m])↔m∈(keysAt ws p).map (·.1):=by
 rw[keysAt_mem];exact⟨λh=>h.elim (λe=>absurd e (by simp)) id,.inr⟩
structure Bf (φ:Hp->Addr->List (List AJ×V)->Prop) (H:Hp) (ws:Ws Ao) (d:List Ao->Addr) (c:List Ao->Ao->Addr):Prop where
 dct:∀p,DY ws p->φ H (d p) (DB ws c p)
 tup:∀p m k,(m,k)∈keysAt ws p->H (c p m)=some (.tup [.int (k:Int),.ref (d (p++[m]))])
 inj:∀p q,DY ws p->DY ws q->d p=d q->p=q
abbrev dW:Hp->Addr->List (List AJ×V)->Prop:=λH a kvs=>H a=some (.dT kvs)
abbrev dF:Hp->Addr->List (List AJ×V)->Prop:=λH a kvs=>∃o,H a=some (.frz o (.dT kvs))
variable {H H':Hp}{d:List Ao->Addr}
def Bf.same(e:Ac H H')(h:Bf dF H ws d c):Bf dF H' ws d c:=
 ⟨λp a=>let ⟨o,x⟩:=h.dct p a;⟨o,e _ _ x⟩,λp m k b=>e _ _ (h.tup p m k b),h.inj⟩
def Bf.sameW(e:Ac H H')(h:Bf dW H ws d c):Bf dW H' ws d c:=
 ⟨λp a=>e _ _ (h.dct p a),λp m k b=>e _ _ (h.tup p m k b),h.inj⟩
variable {n:Nat}{g:List Ao}
def Qn(d:m∈(keysAt (ws++[(n,g)]) g).map (·.1)):DY (ws++[(n,g++[m])]) p↔DY (ws++[(n,g)]) p:=by
 constructor;rintro(h|⟨b,c,a⟩);exact .inl h;rcases BL.mp c with y|y;exact .inr ⟨b,Ef _ y,a⟩;rw[AW.mp y] at a;rcases List.prefix_concat_iff.mp a with e|e;rw[e];exact Fi.mpr d;exact .inr ⟨_,CY _ (AW.mpr rfl),e⟩;rintro(h|⟨b,c,a⟩);exact .inl h;rcases BL.mp c with y|y;exact .inr ⟨b,Ef _ y,a⟩;rw[AW.mp y] at a;exact .inr ⟨_,CY _ (AW.mpr rfl),a.trans (Ii g [m])⟩
def Bf.stay{φ:Hp->Addr->List (List AJ×V)->Prop}(h:Bf φ H (ws++[(n,g)]) d c)(a:m∈(keysAt (ws++[(n,g)]) g).map (·.1)):Bf φ H (ws++[(n,g++[m])]) d c:=by
 have f:∀p,keysAt (ws++[(n,g++[m])]) p=keysAt (ws++[(n,g)]) p:=λp=>by
  by_cases e:p=g;subst e;rw[Wn,Ak a];exact Ti e
 refine⟨λp b=>?_,λp x k i=>h.tup p x k (by rw[<-f];exact i),λp q b j=>h.inj p q ((Qn a).mp b) ((Qn a).mp j)⟩;have:=h.dct p ((Qn a).mp b);unfold DB at this ⊢;rw[f];exact this
variable {v:V}
def ZH{a:List (List AJ×V)}{k:List AJ}(h:AH a k=none):AV a k v=a++[(k,v)]:=by
 unfold AV;rw[Aj (by rw[Ot,h];simp)]
variable {e T:Addr}
def Bf.grow{u:Hp}(h:Bf dW H (ws++[(n,g)]) d c)(j:m∉(keysAt (ws++[(n,g)]) g).map (·.1))
 (G:H e=none) (I:∀p,DY (ws++[(n,g)]) p->u (d p)=none) (U:u e=none) (s:Ac H H') (J:H' e=some (.dT [])) (C:H' T=some (.tup [.int (n:Int),.ref e])) :
 ∃d' K,Bf dW (upd H' (d g) (.dT (AV (DB (ws++[(n,g)]) c g) (FW m) (.ref T)))) (ws++[(n,g++[m])]) d' K/\d' (g++[m])=e/\(∀p,DY (ws++[(n,g++[m])]) p->u (d' p)=none)/\d' []=d []:=by
 have r:DY (ws++[(n,g)]) g:=.inr ⟨_,CY _ (AW.mpr rfl),List.prefix_refl g⟩;have L:AH (DB (ws++[(n,g)]) c g) (FW m)=none:=(by rw[OT,Aj j])
 have w:∀{p},DY (ws++[(n,g++[m])]) p->p=g++[m]\/p≠g++[m]/\DY (ws++[(n,g)]) p:=λ{p}a=>by
  by_cases e:p=g++[m];exact .inl e;refine .inr ⟨e,?_⟩;rcases a with z|⟨M,N,A⟩;exact .inl z;rcases BL.mp N with y|y;exact .inr ⟨M,Ef _ y,A⟩;rw[AW.mp y] at A;rcases List.prefix_concat_iff.mp A with z|z;exact absurd z e;exact .inr ⟨_,CY _ (AW.mpr rfl),z⟩
 have B:∀p,DY (ws++[(n,g)]) p->d p≠e:=λp a z=>by have this:H (d p)=some _:=h.dct p a;rw[z,G] at this;cases this
 have W:T≠d g:=λz=>by
  have:=s _ _ (h.dct g r);rw[<-z,C] at this;cases this
 have O:¬DY (ws++[(n,g)]) (g++[m]):=λz=>j (Fi.mp z)
 have P:keysAt (ws++[(n,g++[m])]) (g++[m])=[]:=by
  rw[Ti (by simp)];exact Wv O
 have D:∀p,p≠g->keysAt (ws++[(n,g++[m])]) p=keysAt (ws++[(n,g)]) p:=λp a=>Ti a;have F:keysAt (ws++[(n,g++[m])]) g=keysAt (ws++[(n,g)]) g++[(m,n)]:=(by rw[Wn,Aj j])
 refine⟨λp=>if p=g++[m] then e else d p,λp x=>if p=g/\x=m then T else c p x,⟨λp a=>?_,λp x k o=>?_,λp q a Q X=>?_⟩,Ak rfl,λp a=>?_,Aj (by simp)⟩
 show upd _ _ _ (if p=g++[m] then e else d p)=some _
 rcases w a with z|⟨z,f⟩;subst z;rw[Ak rfl,AC (Ne.symm (B g r)),J];unfold DB;rw[P];rfl;rw[Aj z];by_cases b:p=g;subst b;rw[Aa,ZH L];unfold DB;rw[F,Bh]
 have:∀l:List (Ao×Nat),m∉l.map (·.1)->(l.map λmk=>(FW mk.1,V.ref (c p mk.1)))=l.map λmk=>(FW mk.1,V.ref (if p=p/\mk.1=m then T else c p mk.1)):=λl R=>List.map_congr_left λmk Y=>by
  rw[Aj (λz=>R (AL.mpr ⟨mk,Y,z.2⟩))]
 rw[this _ j,Eu,NQ];dsimp only;rw[Ak ⟨rfl,rfl⟩];rw[AC (λS=>b (h.inj p g f r S))];have:=s _ _ (h.dct p f);unfold DB at this ⊢;rw[D p b,this]
 congr 2
 exact List.map_congr_left λmk ζ=>by
  show _=(FW mk.1,V.ref (if p=g/\mk.1=m then T else c p mk.1));rw[Aj (λz=>b z.1)]
 show upd _ _ _ (if p=g/\x=m then T else c p x)=some (.tup [_,.ref (if p++[x]=g++[m] then e else d (p++[x]))])
 by_cases b:p=g;subst b;rw[F] at o;by_cases v:x=m;subst v;rw[Ak ⟨rfl,rfl⟩,Ak rfl,AC W,C];rcases BL.mp o with y|y;exact absurd (AL.mpr ⟨_,y,rfl⟩) j;cases AW.mp y;rfl;rcases BL.mp o with y|y;rw[Aj (λz=>v z.2),Aj (λz=>v (by simpa using z))];have t:=h.tup p x k y;rw[AC (λz=>by have this:H (d p)=some _:=h.dct p r;rw[<-z,t] at this;cases this)];exact s _ _ t;cases AW.mp y;exact absurd rfl v;rw[D p b] at o
 rw[Aj (λz=>b z.1),Aj (show ¬(p++[x]=g++[m]) from λz=>b (List.append_inj_left' z rfl))];have t:=h.tup p x k o;rw[AC (λz=>by have this:H (d g)=some _:=h.dct g r;rw[<-z,t] at this;cases this)];exact s _ _ t
 have i:(if p=g++[m] then e else d p)=(if q=g++[m] then e else d q):=X
 rcases w a with z|⟨z,f⟩<;>rcases w Q with y|⟨y,E⟩;rw[z,y];rw[Ak z,Aj y] at i;exact absurd i.symm (B q E);rw[Aj z,Ak y] at i;exact absurd i (B p f);rw[Aj z,Aj y] at i;exact h.inj p q f E i
 show u (if p=g++[m] then e else d p)=none
 rcases w a with z|⟨z,f⟩;rw[Ak z];exact U;rw[Aj z];exact I p f
def Ww(ws:Ws Ao)(n:Nat)(p:List Ao):keysAt (ws++[(n,[])]) p=keysAt ws p:=ZE ws n p
def Bf.begin{φ:Hp->Addr->List (List AJ×V)->Prop}(h:Bf φ H ws d c):Bf φ H (ws++[(n,[])]) d c:=by
 have i:∀{p},DY (ws++[(n,[])]) p->DY ws p:=λ{p}a=>by
  rcases a with z|⟨e,f,b⟩;exact .inl z;rcases BL.mp f with y|y;exact .inr ⟨e,y,b⟩;rw[AW.mp y] at b;exact .inl (List.prefix_nil.mp b)
 refine⟨λp a=>?_,λp m k g=>h.tup p m k (by rw[<-Ww];exact g),λp q a j=>h.inj p q (i a) (i j)⟩;have:=h.dct p (i a);unfold DB at this ⊢;rw[Ww];exact this
def Bf.frz{H Y a:Hp}{ws:Ws Ao}{d:List Ao->Addr}{c:List Ao->Ao->Addr}(h:Bf dW Y ws d c)(i:∀p,DY ws p->H (d p)=none)(f:Ql H Y a)(j:∀b e,H b=none->Y b=some (.dT e)->∃o,a b=some (.frz o (.dT e))):Bf dF a ws d c:=by
 refine⟨λp g=>j _ _ (i p g) (h.dct p g),λp m k l=>?_,h.inj⟩;have t:=h.tup p m k l;rcases f (c p m) with z|⟨_,e,o,z,_⟩;rw[z];exact t;rw[t] at z;cases z
variable {Y:Hp}
def Ql.same{a:Hp}(s:Ac H Y)(f:Ql H Y a):Ac H a:=λb o e=>by
 rcases f b with z|⟨z,_⟩;rw[z];exact s _ _ e;rw[e] at z;cases z
def Tj(ws:Ws Ao)(p:List Ao):(keysAt ws p).length<=ws.length:=by
 induction ws using Tg with
 |nil=>exact AE _
 |snoc ws a b =>
   obtain⟨k,w⟩:=a;rw[KA,AZ];split;split;lia;rw[AZ];simp;exact b;lia
abbrev Fj (p:Str×Str):List AJ:=[.inr p.1,.inr p.2]
def EM.tups(e:∀b xs,H b=some (.tup xs)->H' b=some (.tup xs)):∀{xs:List V}{a:List (List AJ×V)},EM H xs a->EM H' xs a:=λh =>
 Paired.mapP h λ_ _⟨t,b,c,d,f⟩=>⟨t,b,c,e _ _ d,e _ _ f⟩
theorem Wx{k:List AJ}:∀{a acc:List (List AJ×V)},(AH (Kz acc a) k).isSome=true↔(AH acc k).isSome=true\/k∈a.map (·.1)
 |[],acc=>by simp[Kz]
 |p::a,acc=>by
   show(AH (Kz (AV acc p.1 p.2) a) k).isSome=true↔_;rw[Wx,Ou,Eu,BV];by_cases h:k=p.1;rw[Ak h];simp[h];rw[Aj h];simp[h]
def HB (H:Hp) (p:Addr) (ord:A'):Prop:=∃kvs,H p=some (.dT kvs)/\∀a b,(AH kvs (Fj (a,b))).isSome=dec ((a,b)∈ord)
variable {ord:A'}
def HB.same{p:Addr}(e:Ac H H')(h:HB H p ord):HB H' p ord:=let ⟨k,a,b⟩:=h;⟨k,e _ _ a,b⟩
def ZI(a b:Str):(AH (Kz [] (ord.map λp=>(Fj p,V.bl true))) (Fj (a,b))).isSome=dec ((a,b)∈ord):=by
 have:(AH (Kz [] (ord.map λp=>(Fj p,V.bl true))) (Fj (a,b))).isSome=true ↔ (a,b)∈ord:=by
  rw[Wx];constructor;rintro(h|h);simp[AH] at h;rw[DT] at h;obtain⟨q,c,e⟩:=AL.mp h;obtain⟨d,f⟩:=q;simp at e;rw[<-e.1,<-e.2];exact c;intro h;refine .inr ?_;rw[DT];exact AL.mpr ⟨_,h,rfl⟩
 by_cases h:(a,b)∈ord;rw[Ex h];exact this.mpr h;rw[Fp h]
 cases e:(AH (Kz [] (ord.map λp=>(Fj p,V.bl true))) (Fj (a,b))).isSome with
 |false=>rfl
 |true=>exact absurd (this.mp e) h
def A9 (l:List (List Ao)):Ws Ao:=l.zipIdx.map λp=>(p.2,p.1)
def ZJ(l:List (List Ao))(w:List Ao):A9 (l++[w])=A9 l++[(l.length,w)]:=by
 unfold A9;rw[List.zipIdx_append,Bh]
 simp
variable {l:List (List Ao)}{i:Nat}{w:List Ao}
def ZK(h:l[i]?=some w):A9 (l.take (i+1))=A9 (l.take i)++[(i,w)]:=by
 have a:=(AN.mp h).1;rw[EG,h];show A9 (l.take i++[w])=_;rw[ZJ,Fn,Nat.min_eq_left (Cn a)]
def Wy(l:List (List Ao)):((A9 l).map (·.1)).Pairwise (· < ·):=by
 have:(A9 l).map (·.1)=List.range l.length:=by
  unfold A9;rw[DT,List.range_eq_range'];exact List.zipIdx_map_snd 0 l
 rw[this];exact List.pairwise_lt_range
def Dc{k:Nat}:(k,w)∈A9 l↔l[k]?=some w:=by
 unfold A9;rw[AL];constructor;rintro⟨⟨a,b⟩,h,e⟩;cases e;exact List.mem_zipIdx_iff_getElem?.mp h;intro h;exact⟨(w,k),List.mem_zipIdx_iff_getElem?.mpr h,rfl⟩
noncomputable def Cb (ss:List Bp) (ord:A') (x m:Ao):Bool:=dec ((FH ss x,FH ss m)∈ord)
variable {ss:List Bp}
def ZL(h:∀x,(x,x)∉ord)(m:Ao):Cb ss ord m m=false:=Fp (h _)
theorem Tl(ss:List Bp)(ord:A'):∀(a b:List Ao),AO (Cb ss ord) a b=BZ ss ord a b
 |x::s,m::t=>by
   show(if x=m then _ else Cb ss ord x m)=_
   by_cases e:x=m;subst e;rw[Ak rfl,Ny];exact Tl ss ord s t;rw[Aj e,Ky ss ord s t e];rfl
 |[],m=>by rw[Jl ss ord (.inl rfl)];rfl
 |_::_,[]=>by rw[Jl ss ord (.inr rfl)];rfl
def Jr(h:∀x,(x,x)∉ord):gat (Cb ss ord) (A9 l) [] w=[]↔∀v∈l,BZ ss ord v w=false:=by
 constructor;intro e v b;obtain⟨k,d⟩:=List.mem_iff_getElem?.mp b
 cases a:BZ ss ord v w with
 |false=>rfl
 |true =>
   obtain⟨j,c,_⟩:=ZF (Wy l) (Dc.mpr d) (by rw[Tl];exact a);rw[e] at c;cases c
 intro f
 cases e:gat (Cb ss ord) (A9 l) [] w with
 |nil=>rfl
 |cons k g =>
   exfalso;obtain⟨v,b,a⟩:=Wp (Wy l) (ZL h) w [] k (by rw[e];simp);rw[List.nil_append,Tl] at a;rw[f v (List.mem_iff_getElem?.mpr ⟨k,Dc.mp b⟩)] at a;cases a
noncomputable def Co (ss:List Bp) (ord:A') (all l:List (List Ao)):List (List Ao):=l.filter λw=>!all.any λv=>BZ ss ord v w
def Wz{all:List (List Ao)}(h:l[i]?=some w):Co ss ord all (l.take (i+1))=if(all.any λv=>BZ ss ord v w)=true then Co ss ord all (l.take i) else Co ss ord all (l.take i)++[w]:=by
 unfold Co;rw[EG,h,M1];show _++List.filter _ [w]=_;rw[MY]
 cases all.any λv=>BZ ss ord v w with
 |true=>rw[Ak rfl];simp
 |false=>simp
def ZM{all:List (List Ao)}:(Co ss ord all l).length<=l.length:=PL _ _
def CD{ks:List Nat}:NA (ks.map λk:Nat=>(k:Int))=.non↔ks=[]:=by
 cases ks with
 |nil=>exact⟨λζ=>rfl,λζ=>rfl⟩
 |cons k ks=>exact⟨λh=>(nomatch h),λh=>(nomatch h)⟩
def Qo(h:∀x,(x,x)∉ord):gat (Cb ss ord) (A9 l) [] w=[]↔(l.any λv=>BZ ss ord v w)=false:=by
 rw[Jr h,List.any_eq_false];exact⟨λz v a=>by rw[z v a];simp,λz v a=>by have:=z v a;simpa using this⟩
variable {caps:List Nat}{te:TE}{σ:St}{Q:Addr->Hp->Prop}
def ZN{k:Nat}{g:TG}{tc:TT}{lo:Int}(Pv:Addr->Nat->List V->Hp->Prop)
 (h:∀D,Y D=none->Pv D 0 [] (upd Y D (.lst [])))
 (j:∀(D:Addr)(i:Nat)(ys:List V)(a:Hp)(R:VK)(d:Hp->Prop),Y D=none->i<n->Pv D i ys a->(∀y e,e D=some (.lst ys)->ys.length<sizeLine->Pv D (i+1) (ys++[y]) (upd e D (.lst (ys++[y])))->R y e)->(∀c,Pv D (i+1) ys c->d c)->g (.int (lo+i)) (Fe k caps σ) a λσ4 l=>tc σ4 l λb c=>if b=true then te σ4 c R else d c)
 (hd:∀D ys a,Y D=none->Pv D n ys a->Q D a):Iq (Lj lo n) k caps g tc te σ Y Q:=LJ n Pv h (λD i ys a p f=>f) (λD ys a p=>AE _) (λD i ys a x q R d m f p y k o=>by obtain⟨rfl,rfl⟩:=y;exact j D i ys _ R d m f p k o) hd
section
variable {prog:Program} {w:World} {A:Around} {E:D'} {s:Shared}
theorem Qp{j p:Addr}{k:Nat}{vs:Array Value}{y:Value}{Q:D'}(c:s.heap.IsTupleIter j p k)(d:s.heap.IsTuple p vs)(e:vs[k]?=some y)
 (q:∀g,g.IsTupleIter j p (k+1)->Heap.SameBut j s.heap g->Q y {s with heap:=g}):wpAny (model prog w) A (Builtin.SmallTypes.nextOf (.ref j)) Q E s:=by
 obtain⟨l,b,f,a⟩:=id c;obtain⟨m,h,_,_,i⟩:=d;unfold Builtin.SmallTypes.nextOf;refine Ad (wpAny_callSpecial?_slot (name:=Str.ofString "__next__") c.typeIs F.slot_tuple_iterator_next (wpAny_call_entry F.slot_tuple_iterator_next c.typeIs F.entry_tuple_iterator_next ?_ (F.args_tuple_iterator_next_1 _)))
 show wpAny _ _ (field (.ref j) 0 >>= _) _ _ s;refine Ad (wpAny_field b a (x:=.ref p) rfl ?_);show wpAny _ _ (if(Value.ref p==Value.none)=true then _ else _) _ _ s;rw[Aj (show ¬((Value.ref p==Value.none)=true) from CB)];show wpAny _ _ (field (.ref j) 1 >>= _) _ _ s;refine Ad (wpAny_field b a (x:=.int k 0) rfl ?_);show wpAny _ _ (seqItems? (.ref p) >>= _) _ _ s;refine Ad (F2 h i ?_);simp only[Bk,e];refine Ad (wpAny_setField b a (by simp) (Au ⟨y,rfl,Au (q _ ⟨_,Heap.get?_update_self _ b (Obj.isFreed_of_fields (Obj.data_mapFields a _)),(Obj.cls_mapFields ..).trans f,by rw[Obj.data_mapFields a];simp[rawInt]⟩ (Heap.SameBut.update ..))⟩))
theorem To{j p:Addr}{k:Nat}{vs:Array Value}{Q:D'}(e:A.handled=none)(b:s.heap.IsTupleIter j p k)(f:s.heap.IsTuple p vs)(h:vs[k]?=none)
 (q:∀g x,Heap.ExtBut j s.heap g->(∃o,g.get? x=some o/\o.cls=.type "StopIteration")->E (.ref x) {s with heap:=g}):wpAny (model prog w) A (Builtin.SmallTypes.nextOf (.ref j)) Q E s:=by
 obtain⟨n,c,r,d⟩:=id b;obtain⟨t,i,_,_,l⟩:=f;unfold Builtin.SmallTypes.nextOf;refine Ad (wpAny_callSpecial?_slot (name:=Str.ofString "__next__") b.typeIs F.slot_tuple_iterator_next (wpAny_call_entry F.slot_tuple_iterator_next b.typeIs F.entry_tuple_iterator_next ?_ (F.args_tuple_iterator_next_1 _)))
 show wpAny _ _ (field (.ref j) 0 >>= _) _ _ s;refine Ad (wpAny_field c d (x:=.ref p) rfl ?_);show wpAny _ _ (if(Value.ref p==Value.none)=true then _ else _) _ _ s;rw[Aj (show ¬((Value.ref p==Value.none)=true) from CB)];show wpAny _ _ (field (.ref j) 1 >>= _) _ _ s;refine Ad (wpAny_field c d (x:=.int k 0) rfl ?_);show wpAny _ _ (seqItems? (.ref p) >>= _) _ _ s;refine Ad (F2 i l ?_);simp only[Bk,h];refine Ad (G4 (Ad (wpAny_setField c d (by simp) ?_)))
 show wpAny _ _ (newExc (.type "StopIteration") [] >>= _) _ _ _
 refine Ad ?_;simp only[newExc,newTuple];refine Ad (wpAny_newObj_type (Ad (m:=firstArgMember _ _) (wpAny_of_eq (a:=Value.none) (by first|rfl|(simp only[firstArgMember];rfl)) (wpAny_newObj_type ?_ (by size_fits)))) (by size_fits));simp only[raiseNew];refine Ad (wpAny_handled ?_)
 first|rw[show A.in1.handled=none from e]|rw[e]
 exact Ad (Au (wpAny_throw (q _ _ (((Heap.SameBut.update ..).extBut.push _).push _) ⟨_,B9 _ rfl,rfl⟩)))
end
variable {prog:Program}
def HC{w:World}(c:A.handled=none)(j p:Addr)(d:p≠j)(vs:Array Value):Draws prog w A j [j,p] vs.size (λi v=>vs[i]?=some v) (λi h=>h.IsTupleIter j p i/\h.IsTuple p vs) where
 live _ _ st:=let ⟨o,e,_⟩:=st.1;⟨o,e⟩
 frame _ _ _ st k:=by
  obtain⟨⟨o,f,l⟩,u,m,n⟩:=st;exact⟨⟨o,k j (by simp) _ f,l⟩,u,k p (by simp) _ m,n⟩
 item i s Q E a st q:=Qp st.1 st.2 (y:=vs[i]) (by simp[a]) λg r b=>q _ g s.toks (by simp[a]) ⟨r,st.2.extBut b.extBut d⟩ b
 done s Q E st q:=To c st.1 st.2 (by simp) q
set_option tactic.hygienic true in
def ZO(p:Addr)(vs:Array Value)(n:Nat)(dct:Option Addr)(e:Array (Option Value)) :
 Meets (Builtin.«enumerate.__new__» ⟨[.type "enumerate",.ref p],[]⟩) (λζ R s=>s.heap.get? p=some {cls:=.type "tuple",dict:=dct,data:=.seq vs n,slots:=e}/\R (.ok (.ret (.ref (s.heap.push {cls:=.type "tuple_iterator",data:=.fields #[.ref p,.int 0 0]}).objs.size))) {s with heap:=(s.heap.push {cls:=.type "tuple_iterator",data:=.fields #[.ref p,.int 0 0]}).push {cls:=.type "enumerate",data:=.fields #[.none,.bool false,.ref s.heap.objs.size,rawInt 0,.none,.none]}}):=
 .of_wp λprog w A R s h=>by
  obtain⟨f,g,d,tk,i⟩:=s;obtain⟨a,h⟩:=h;have k:=sub_enumerate;have b:Heap.IsTuple (Shared.heap ⟨f,g,d,tk,i⟩) p vs:=⟨_,a,rfl,n,rfl⟩
  wp_walk using AutoSeq1.wpAny_loadPart' a
  refine wpAny_stack_any λj=>Au ?_;split;rename_i c _ _ _ _ _;cases(c==Value.type "enumerate")<;>(wp_walk using AutoSeq1.wpAny_loadPart' a,wpAny_pyIter_tuple b;exact⟨_,rfl,h⟩)
  wp_walk using AutoSeq1.wpAny_loadPart' a,wpAny_pyIter_tuple b
  exact⟨_,rfl,h⟩
variable {E:D'}{s:Shared}
theorem ZP{w:World}{p:Addr}{vs:Array Value}{Q:D'}(i:s.heap.IsTuple p vs)
 (h:∀g,IsEnum g (s.heap.objs.size+1) s.heap.objs.size 0 .none->g.IsTupleIter s.heap.objs.size p 0->g.objs.size=s.heap.objs.size+2->(∀b o,s.heap.get? b=some o->g.get? b=some o)->Q (.ref (s.heap.objs.size+1)) {s with heap:=g}) :
 wpAny (model prog w) A (call (.type "enumerate") [.ref p]) Q E s:=by
 obtain⟨⟨c,dct,dt,j⟩,k,a,n,hd⟩:=i
 replace a:c=.type "tuple" :=a
 replace hd:dt=.seq vs n:=hd
 subst a hd;refine callType_new F.called_enumerate (by decide) (F.typeCall_enumerate_1 _) (F.newCall_enumerate_1 _) (λl=>F.args_object_init_2 l _) F.entry_enumerate_new (ZO p vs n dct j) ⟨k,?_⟩;have d:(s.heap.push {cls:=.type "tuple_iterator",data:=.fields #[.ref p,.int 0 0]}).objs.size=s.heap.objs.size+1:=Heap.size_push ..;show _/\_;rw[d]
 have f:IsEnum ((s.heap.push {cls:=.type "tuple_iterator",data:=.fields #[.ref p,.int 0 0]}).push {cls:=.type "enumerate",data:=.fields #[.none,.bool false,.ref s.heap.objs.size,rawInt 0,.none,.none]}) (s.heap.objs.size+1) s.heap.objs.size 0 .none:=by
  have e:=B9 (s.heap.push {cls:=.type "tuple_iterator",data:=.fields #[.ref p,.int 0 0]}) (o:={cls:=.type "enumerate",data:=.fields #[.none,.bool false,.ref s.heap.objs.size,rawInt 0,.none,.none]}) rfl
  rwa [d] at e
 exact⟨⟨_,f,rfl⟩,h _ f ⟨_,Ba _ (B9 _ rfl),rfl,rfl⟩ (by rw[Heap.size_push,d]) λb o x=>Ba _ (Ba _ x)⟩
section
variable {X:Cx}
end
section
variable {prog:Program} {w:World} {A:Around} {E:D'} {s:Shared}
def ZQ{z a o i j p q:Addr}{k m:Nat}{xs ys:Array Value}{x y u v:Value}{Q:D'}(D:ZipApart z a o i j p q)(B:IsZip s.heap z a o .none)(ea:IsPair s.heap a (.ref i) (.ref j))(eo:IsPair s.heap o u v)
 (ei:s.heap.IsTupleIter i p k) (ej:s.heap.IsTupleIter j q m) (tp:s.heap.IsTuple p xs) (tq:s.heap.IsTuple q ys) (hx:xs[k]?=some x) (hy:ys[m]?=some y)
 (ah:∀g,IsZip g z a o (rawInt s.heap.objs.size)->IsPair g o x y->g.IsTupleIter i p (k+1)->g.IsTupleIter j q (m+1)->IsPair g s.heap.objs.size x y->g.objs.size=s.heap.objs.size+1->(∀c d,c≠z->c≠o->c≠i->c≠j->s.heap.get? c=some d->g.get? c=some d)->Q (.ref s.heap.objs.size) {s with heap:=g}) :
 wpAny (model prog w) A (Builtin.«zip.__next__» ⟨[.ref z],[]⟩) (λf t=>∃v,f=.done (.ret v)/\Q v t) E s:=by
 show wpAny _ _ (field (.ref z) 2 >>= _) _ _ _;refine Ad (wpAny_field B rfl (x:=.bool false) rfl ?_);show wpAny _ _ (field (.ref z) 3 >>= _) _ _ _;refine Ad (wpAny_field B rfl (x:=.ref a) rfl (Ad (F2 ea rfl ?_)));show wpAny _ _ (Builtin.SmallTypes.ownedTupleIsFree (.ref z) >>= _) _ _ _;refine Ad ?_;unfold Builtin.SmallTypes.ownedTupleIsFree;refine Ad (wpAny_field B rfl (x:=.none) rfl (Au ?_));simp only[if_true];refine Ad (G4 (Ad (wpAny_field B rfl (x:=.ref o) rfl (Ad (wpAny_setField_rec B (by simp) λaa M h=>?_)))))
 replace M:IsZip aa z a o .ellipsis:=M
 refine Ad ?_;simp only[List.zipIdx_cons,List.zipIdx_nil,List.forIn_cons,List.forIn_nil];refine Ad (Ad (wpAny_onRaise ?_));show wpAny _ _ (Builtin.SmallTypes.nextOf (.ref i) >>= _) _ _ _;refine Ad (Qp (ei.extBut h.extBut D.i1z) (tp.extBut h.extBut D.l1z) hx λab i2 l=>Au ?_);have U:IsPair ab o u v:=l.extBut _ _ D.TOi1 (h.extBut _ _ D.TOz eo);refine Ad (F2 U rfl (Ad (wpAny_updateSeq_pair U λae N r=>Ad (wpAny_letGo (Au ?_)))))
 replace N:IsPair ae o x v:=N
 refine Ad (Ad (wpAny_onRaise ?_));show wpAny _ _ (Builtin.SmallTypes.nextOf (.ref j) >>= _) _ _ _;refine Ad (Qp (((ej.extBut h.extBut D.i2z).extBut l.extBut D.i12.symm).extBut r.extBut D.TOi2.symm) (((tq.extBut h.extBut D.l2z).extBut l.extBut D.l2i1).extBut r.extBut D.l2TO) hy λg4 j4 C=>Au ?_);have V:IsPair g4 o x v:=C.extBut _ _ D.TOi2 N;refine Ad (F2 V rfl (Ad (wpAny_updateSeq_pair V λb H F=>Ad (wpAny_letGo (Au (Au ?_))))))
 replace H:IsPair b o x y:=H
 refine Ad (F2 H rfl (Ad (wpAny_newTuple ?_)));have sz:b.objs.size=s.heap.objs.size:=(by rw[F.1,C.1,r.1,l.1,h.1]);have W:IsZip b z a o .ellipsis:=F.extBut _ _ D.TOz.symm (C.extBut _ _ D.i2z.symm (r.extBut _ _ D.TOz.symm (l.extBut _ _ D.i1z.symm M)));have k5:∀c d,c≠z->c≠o->c≠i->c≠j->s.heap.get? c=some d->b.get? c=some d:=λc d I J O P e=>F.extBut _ _ J (C.extBut _ _ P (r.extBut _ _ J (l.extBut _ _ O (h.extBut _ _ I e))));have i5:b.IsTupleIter i p (k+1):=((i2.extBut r.extBut D.TOi1.symm).extBut C.extBut D.i12).extBut F.extBut D.TOi1.symm;have j5:b.IsTupleIter j q (m+1):=j4.extBut F.extBut D.TOi2.symm;have X:z<b.objs.size:=Bl W;show wpAny _ _ (Builtin.SmallTypes.ownedTupleHandOut (.ref z) (.ref b.objs.size) >>= _) _ _ _;refine Ad ?_;unfold Builtin.SmallTypes.ownedTupleHandOut;have z6:IsZip (b.push {cls:=.type "tuple",data:=.seq #[x,y]}) z a o .ellipsis:=Ba _ W;refine Ad (wpAny_setField_rec z6 (by simp) λg7 R S=>?_)
 replace R:IsZip g7 z a o (rawInt b.objs.size):=R
 refine wpAny_setField_rec R (by simp) λG K T=>?_
 replace K:IsZip G z a o (rawInt b.objs.size):=K
 have L:∀c d,c≠z->b.get? c=some d->G.get? c=some d:=λc d n e=>T.extBut _ _ n (S.extBut _ _ n (Ba _ e));have Y:IsPair G b.objs.size x y:=T.extBut _ _ (Nat.ne_of_gt X) (S.extBut _ _ (Nat.ne_of_gt X) (B9 _ rfl));have Z:G.objs.size=b.objs.size+1:=(by rw[T.1,S.1,Heap.size_push]);rw[sz] at K Y Z;refine Au ⟨_,rfl,?_⟩;show Q (.ref b.objs.size) _;rw[sz];obtain⟨oi,e1,e2⟩:=i5;obtain⟨oj,af,ag⟩:=j5;exact ah G K (L _ _ D.TOz H) ⟨oi,L _ _ D.i1z e1,e2⟩ ⟨oj,L _ _ D.i2z af,ag⟩ Y Z λc d I J O P e=>L c d I (k5 c d I J O P e)
def ZR{z a o i j p q:Addr}{k m:Nat}{xs ys:Array Value}{u v:Value}{Q:PySem.Fin->Shared->Prop}(J:A.handled=none)(D:ZipApart z a o i j p q)(r:IsZip s.heap z a o .none)(U:IsPair s.heap a (.ref i) (.ref j))(V:IsPair s.heap o u v)
 (K:s.heap.IsTupleIter i p k) (W:s.heap.IsTupleIter j q m) (L:s.heap.IsTuple p xs) (X:s.heap.IsTuple q ys) (aa:xs[k]?=none\/ys[m]?=none)
 (T:∀g e,(∀c d,c≠z->c≠o->c≠i->c≠j->s.heap.get? c=some d->g.get? c=some d)->(∃d,g.get? e=some d/\d.cls=.type "StopIteration")->E (.ref e) {s with heap:=g}) :
 wpAny (model prog w) A (Builtin.«zip.__next__» ⟨[.ref z],[]⟩) Q E s:=by
 show wpAny _ _ (field (.ref z) 2 >>= _) _ _ _;refine Ad (wpAny_field r rfl (x:=.bool false) rfl ?_);show wpAny _ _ (field (.ref z) 3 >>= _) _ _ _;refine Ad (wpAny_field r rfl (x:=.ref a) rfl (Ad (F2 U rfl ?_)));show wpAny _ _ (Builtin.SmallTypes.ownedTupleIsFree (.ref z) >>= _) _ _ _;refine Ad ?_;unfold Builtin.SmallTypes.ownedTupleIsFree;refine Ad (wpAny_field r rfl (x:=.none) rfl (Au ?_));simp only[if_true];refine Ad (G4 (Ad (wpAny_field r rfl (x:=.ref o) rfl (Ad (wpAny_setField_rec r (by simp) λY C b=>?_)))))
 replace C:IsZip Y z a o .ellipsis:=C
 refine Ad ?_;simp only[List.zipIdx_cons,List.zipIdx_nil,List.forIn_cons,List.forIn_nil];refine Ad (Ad (wpAny_onRaise ?_));show wpAny _ _ (Builtin.SmallTypes.nextOf (.ref i) >>= _) _ _ _
 cases F:xs[k]? with
 |none =>
   refine Ad (To J (K.extBut b.extBut D.i1z) (L.extBut b.extBut D.l1z) F λG e f H=>?_);obtain⟨d,l,y⟩:=H;have M:IsZip G z a o .ellipsis:=f _ _ D.i1z.symm C;have ne:e≠z:=λt=>by subst t;rw[M] at l;cases l;simp at y
   exact wpAny_setField_rec M (by simp) λN ζ n=>T N e (λc d B ζ I ζ t=>n.extBut _ _ B (f _ _ I (b.extBut _ _ B t))) ⟨d,n.extBut _ _ ne l,y⟩
 |some x =>
   have Z:ys[m]?=none:=by
    rcases aa with h|h;rw[F] at h;cases h;exact h
   refine Ad (Qp (K.extBut b.extBut D.i1z) (L.extBut b.extBut D.l1z) F λG i2 f=>Au ?_);have O:IsPair G o u v:=f.extBut _ _ D.TOi1 (b.extBut _ _ D.TOz V);refine Ad (F2 O rfl (Ad (wpAny_updateSeq_pair O λN o3 n=>Ad (wpAny_letGo (Au ?_)))));refine Ad (Ad (wpAny_onRaise ?_));show wpAny _ _ (Builtin.SmallTypes.nextOf (.ref j) >>= _) _ _ _;refine Ad (To J (((W.extBut b.extBut D.i2z).extBut f.extBut D.i12.symm).extBut n.extBut D.TOi2.symm) (((X.extBut b.extBut D.l2z).extBut f.extBut D.l2i1).extBut n.extBut D.l2TO) Z λg4 e P H=>?_);obtain⟨d,l,y⟩:=H;have R:IsZip g4 z a o .ellipsis:=P _ _ D.i2z.symm (n.extBut _ _ D.TOz.symm (f.extBut _ _ D.i1z.symm C));have ne:e≠z:=λt=>by subst t;rw[R] at l;cases l;simp at y
   exact wpAny_setField_rec R (by simp) λg5 ζ S=>T g5 e (λc d B n2 I n4 t=>S.extBut _ _ B (P _ _ n4 (n.extBut _ _ n2 (f.extBut _ _ I (b.extBut _ _ B t))))) ⟨d,S.extBut _ _ ne l,y⟩
end
abbrev Qq (h:Heap) (p:Addr):Heap:=h.push {cls:=.type "tuple_iterator",data:=.fields #[.ref p,.int 0 0]}
abbrev Qr (h:Heap) (p q:Addr):Heap:=(Qq h p).push {cls:=.type "tuple_iterator",data:=.fields #[.ref q,.int 0 0]}
abbrev Qs (h:Heap) (p q:Addr):Heap:=(Qr h p q).push {cls:=.type "tuple",data:=.seq #[.ref h.objs.size,.ref (Qq h p).objs.size]}
abbrev Qt (h:Heap) (p q:Addr):Heap:=(Qs h p q).push {cls:=.type "tuple",data:=.seq #[.none,.none]}
abbrev L8 (h:Heap) (p q:Addr):Heap:=(Qt h p q).push {cls:=.type "zip",data:=.fields #[.none,.bool false,.bool false,.ref (Qr h p q).objs.size,.ref (Qs h p q).objs.size]}
def ZS(p q:Addr)(xs ys:Array Value):Meets (Builtin.«zip.__new__» ⟨[.type "zip",.ref p,.ref q],[]⟩) (λζ R s=>s.heap.IsTuple p xs/\s.heap.IsTuple q ys/\R (.ok (.ret (.ref (Qt s.heap p q).objs.size))) {s with heap:=L8 s.heap p q}):=
 .of_wp λprog w A R s h=>by
  obtain⟨a,g,d,tk,b⟩:=s;obtain⟨c,e,h⟩:=h;have j:=sub_zip;have f:Heap.IsTuple (Shared.heap ⟨a,g,d,tk,b⟩) p xs:=c;have i:Heap.IsTuple (Shared.heap ⟨a.push {cls:=.type "tuple_iterator",data:=.fields #[.ref p,.int 0 0]},g,d,tk,b⟩) q ys:=Heap.IsTuple.push e _
  wp_walk using wpAny_pyIter_tuple f,wpAny_pyIter_tuple i
  exact⟨_,rfl,h⟩
theorem ZT{w:World}{p q:Addr}{xs ys:Array Value}{Q:D'}(m:s.heap.IsTuple p xs)(n:s.heap.IsTuple q ys)
 (h:∀g,IsZip g (s.heap.objs.size+4) (s.heap.objs.size+2) (s.heap.objs.size+3) .none->IsPair g (s.heap.objs.size+2) (.ref s.heap.objs.size) (.ref (s.heap.objs.size+1))->IsPair g (s.heap.objs.size+3) .none .none->g.IsTupleIter s.heap.objs.size p 0->g.IsTupleIter (s.heap.objs.size+1) q 0->g.objs.size=s.heap.objs.size+5->(∀c o,s.heap.get? c=some o->g.get? c=some o)->Q (.ref (s.heap.objs.size+4)) {s with heap:=g}) :
 wpAny (model prog w) A (call (.type "zip") [.ref p,.ref q]) Q E s:=by
 refine callType_new F.called_zip (by decide) (F.typeCall_zip_2 _ _) (F.newCall_zip_2 _ _) (λu=>F.args_object_init_3 u _ _) F.entry_zip_new (ZS p q xs ys) ⟨m,n,?_⟩;have a:(Qq s.heap p).objs.size=s.heap.objs.size+1:=Heap.size_push ..;have b:(Qr s.heap p q).objs.size=s.heap.objs.size+2:=(by rw[Heap.size_push,a]);have d:(Qs s.heap p q).objs.size=s.heap.objs.size+3:=(by rw[Heap.size_push,b]);have f:(Qt s.heap p q).objs.size=s.heap.objs.size+4:=(by rw[Heap.size_push,d]);have r:(L8 s.heap p q).objs.size=s.heap.objs.size+5:=(by rw[Heap.size_push,f]);have i:(L8 s.heap p q).get? (Qt s.heap p q).objs.size=some _:=B9 _ rfl;have j:(L8 s.heap p q).get? (Qs s.heap p q).objs.size=some _:=Ba _ (B9 _ rfl);have k:(L8 s.heap p q).get? (Qr s.heap p q).objs.size=some _:=Ba _ (Ba _ (B9 _ rfl));have l:(L8 s.heap p q).get? (Qq s.heap p).objs.size=some _:=Ba _ (Ba _ (Ba _ (B9 _ rfl)));have t:(L8 s.heap p q).get? s.heap.objs.size=some _:=Ba _ (Ba _ (Ba _ (Ba _ (B9 _ rfl))));show _/\_;rw[b,d,f] at i;rw[a,b] at k;rw[d] at j;rw[a] at l;rw[f];exact⟨⟨_,i,rfl⟩,h _ i k j ⟨_,t,rfl,rfl⟩ ⟨_,l,rfl,rfl⟩ r λc o e=>Ba _ (Ba _ (Ba _ (Ba _ (Ba _ e))))⟩
section
variable {X:Cx} {pins:B'} {σ:St} {H:Hp} {s:Shared} {h':Heap} {t':Nat} {fp:List Addr}
def Inv.turnL(I:Inv X pins σ H s)(a:∀b∈fp,CZ X pins H b)(keep:∀b o,b∉fp->s.heap.get? b=some o->h'.get? b=some o):Inv X pins σ H {s with heap:=h',toks:=t'}:=by
 have f:∀b u,H b=some u->b∉fp:=λb u e z=>by rw[(a b z).1] at e;cases e
 refine I.step (g':=s.gens) (d':=s.drawn) (ch:=fp) (λb hb=>⟨(a b hb).2.2.2.1,(a b hb).2.1,(a b hb).2.2.2.2⟩) (λb o ζ ζ hb e ζ=>keep b o hb e) (λb o ζ ζ hb e ζ=>⟨o.slots,keep b o hb e⟩) (λζ ζ ζ ζ n=>n) (λb o hb e=>⟨o,keep b o hb e⟩) (λζ ζ e=>e) (λζ ζ ζ e=>e) (λb k e=>⟨#[],by rw[e];simp⟩)
  (λm g=>?_) (λb u e=>(I.hok b u e).stay (λc v d q=>keep c v ?_ q) (λζ q=>q) λζ ζ q=>q) I.bare
 obtain⟨o,h,i,j,r⟩:=g;exact⟨o,h,i,keep _ o (λz=>(a _ z).2.1 rfl) j,r⟩;rcases d with rfl|d;exact f _ _ e;exact f _ _ d
def Inv.turnP{a c:Value}{x y:V}(I:Inv X pins σ H s)(d:∀b∈fp,CZ X pins H b)(keep:∀b o,b∉fp->s.heap.get? b=some o->h'.get? b=some o)(ob:∀b∈fp,∃o,s.heap.get? b=some o/\∀v,o.data≠.cell v)
 (f:h'.get? s.heap.objs.size=some {cls:=.type "tuple",data:=.seq #[a,c]}) (h:RelV x a) (i:RelV y c) :
 Inv X pins σ (upd H s.heap.objs.size (.tup [x,y])) {s with heap:=h',toks:=t'}/\H s.heap.objs.size=none/\∀b∈fp,upd H s.heap.objs.size (.tup [x,y]) b=none:=by
 have g:H s.heap.objs.size=none:=I.hok.fresh (AE _);refine⟨(I.turnL (t':=t') d keep).track (I.fpOk (AE _) g) ⟨_,f⟩ ⟨by show 2<=sizeLine;decide,[a,c],.cons h (.cons i .nil),⟨_,f,rfl,_,rfl⟩⟩,g,λb hb=>?_⟩;obtain⟨o,e,_⟩:=ob b hb;rw[AC (Cq (Bl e))];exact(d b hb).1
def Inv.newFp(I:Inv X pins σ H s)(hb:∀b∈fp,s.heap.objs.size<=b):∀b∈fp,CZ X pins H b:=λb z=>I.fpOk (hb b z) (I.hok.fresh (hb b z))
end
structure Tp where
 sq:Ah->Hp->Addr->List V->Prop
 ent:Ah->Hp->Addr->List V->Prop
 it:Heap->Addr->Addr->Nat->Prop
 is:Heap->Addr->Array Value->Prop
 obj:∀{h:Heap}{i l:Addr}{n:Nat},it h i l n->∃o,h.get? i=some o/\∀v,o.data≠.cell v
 keep:∀{h h':Heap}{i l:Addr}{n:Nat},it h i l n->(∀o,h.get? i=some o->h'.get? i=some o)->it h' i l n
 get:∀{X:Cx}{pins:B'}{σ:St}{H:Hp}{s:Shared}{l:Addr}{xs:List V},Inv X pins σ H s->sq X.K H l xs->∃its:List Value,At xs its/\is s.heap l its.toArray/\l<s.heap.objs.size
 uniq:∀{X:Cx}{pins:B'}{σ:St}{H:Hp}{s:Shared}{l:Addr}{xs ys:List V},Inv X pins σ H s->sq X.K H l xs->sq X.K H l ys->xs=ys
 entS:∀{K:Ah}{H:Hp}{l:Addr}{xs:List V},ent K H l xs->sq K H l xs
 zitem:∀{prog:Program}{w:World}{A:Around}{E:D'}{s:Shared}{z a o i j p q:Addr}{k m:Nat}{xs ys:Array Value}{x y u v:Value}{Q:Option Value->Shared->Prop},ZipApart z a o i j p q->IsZip s.heap z a o .none->IsPair s.heap a (.ref i) (.ref j)->IsPair s.heap o u v->it s.heap i p k->it s.heap j q m->is s.heap p xs->is s.heap q ys->xs[k]?=some x->ys[m]?=some y ->
  (∀g,IsZip g z a o (rawInt s.heap.objs.size)->IsPair g o x y->it g i p (k+1)->it g j q (m+1)->IsPair g s.heap.objs.size x y->g.objs.size=s.heap.objs.size+1->(∀c d,c≠z->c≠o->c≠i->c≠j->s.heap.get? c=some d->g.get? c=some d)->Q (some (.ref s.heap.objs.size)) {s with heap:=g})->wpAny (model prog w) A (pyNext (.ref z)) Q E s
 zend:∀{prog:Program}{w:World}{A:Around}{E:D'}{s:Shared}{z a o i j p q:Addr}{k m:Nat}{xs ys:Array Value}{u v:Value}{Q:Option Value->Shared->Prop},A.handled=none->ZipApart z a o i j p q->IsZip s.heap z a o .none->IsPair s.heap a (.ref i) (.ref j)->IsPair s.heap o u v->it s.heap i p k->it s.heap j q m->is s.heap p xs->is s.heap q ys->xs[k]?=none\/ys[m]?=none ->
  (∀g,(∀c d,c≠z->c≠o->c≠i->c≠j->s.heap.get? c=some d->g.get? c=some d)->Q none {s with heap:=g})->wpAny (model prog w) A (pyNext (.ref z)) Q E s
 zcall:∀{prog:Program}{w:World}{A:Around}{E:D'}{s:Shared}{p q:Addr}{xs ys:Array Value}{Q:D'},is s.heap p xs->is s.heap q ys ->
  (∀g,IsZip g (s.heap.objs.size+4) (s.heap.objs.size+2) (s.heap.objs.size+3) .none->IsPair g (s.heap.objs.size+2) (.ref s.heap.objs.size) (.ref (s.heap.objs.size+1))->IsPair g (s.heap.objs.size+3) .none .none->it g s.heap.objs.size p 0->it g (s.heap.objs.size+1) q 0->g.objs.size=s.heap.objs.size+5->(∀c o,s.heap.get? c=some o->g.get? c=some o)->Q (.ref (s.heap.objs.size+4)) {s with heap:=g})->wpAny (model prog w) A (call (.type "zip") [.ref p,.ref q]) Q E s
 eitem:∀{prog:Program}{w:World}{A:Around}{E:D'}{s:Shared}{e j l:Addr}{i:Nat}{xs:Array Value}{x old:Value}{Q:Option Value->Shared->Prop},A.handled=none->e≠j->e≠l->l≠j->IsEnum s.heap e j i old->it s.heap j l i->is s.heap l xs->xs[i]?=some x ->
  (∀g tk,IsEnumOut g e j ((i:Int)+1) x s.heap.objs.size->it g j l (i+1)->g.get? s.heap.objs.size=some {cls:=.type "tuple",data:=.seq #[.int i tk,x]}->(∀b o,b≠e->b≠j->s.heap.get? b=some o->g.get? b=some o)->Q (some (.ref s.heap.objs.size)) {s with heap:=g,toks:=tk+1})->wpAny (model prog w) A (pyNext (.ref e)) Q E s
 eend:∀{prog:Program}{w:World}{A:Around}{E:D'}{s:Shared}{e j l:Addr}{xs:Array Value}{old:Value}{Q:Option Value->Shared->Prop},A.handled=none->l≠j->IsEnum s.heap e j xs.size old->it s.heap j l xs.size->is s.heap l xs->(∀g,Heap.ExtBut j s.heap g->Q none {s with heap:=g})->wpAny (model prog w) A (pyNext (.ref e)) Q E s
 ecall:∀{X:Cx}{pins:B'}{σ:St}{H:Hp}{s:Shared}{A:Around}{E:D'}{l:Addr}{xs:List V}{Q:D'},Inv X pins σ H s->ent X.K H l xs ->
  (∀g,IsEnum g (s.heap.objs.size+1) s.heap.objs.size 0 .none->it g s.heap.objs.size l 0->g.objs.size=s.heap.objs.size+2->(∀b o,s.heap.get? b=some o->g.get? b=some o)->Q (.ref (s.heap.objs.size+1)) {s with heap:=g})->wpAny (model X.prog X.w) A (call (.type "enumerate") [.ref l]) Q E s
def LK:Tp where
 sq:=Ae
 ent:=λζ H l xs=>H l=some (.lst xs)
 it:=Heap.IsListIter
 is:=Heap.IsList
 obj:=λ⟨o,e,_,d⟩=>⟨o,e,λv q=>by rw[d] at q;cases q⟩
 keep:=λh k=>h.at k
 get:=λI h=>let ⟨its,r,p,_⟩:=I.list h;⟨its,r,p.isList,let ⟨_,e,_⟩:=p.isList;Bl e⟩
 uniq:=λI h h'=>I.list_inj h h'
 entS:=Ae.of
 zitem:=wpAny_pyNext_zip_item
 zend:=wpAny_pyNext_zip_end
 zcall:=call_zip_2
 eitem:=λζ n1 ζ ζ he hi hl hx q=>wpAny_pyNext_enum_item he hi hl hx n1 λg a b c ζ k=>q g _ a b c k
 eend:=λhh ζ he hi hl q=>wpAny_pyNext_enum_end hh he hi hl (by simp) q
 ecall:=λI hq q=>let ⟨_,_,_,_,e⟩:=I.hok _ _ hq;call_enumerate_1 e q
def TK:Tp where
 sq:=Ar
 ent:=Ar
 it:=Heap.IsTupleIter
 is:=Heap.IsTuple
 obj:=λ⟨o,e,_,d⟩=>⟨o,e,λv q=>by rw[d] at q;cases q⟩
 keep:=λ⟨o,e,r⟩k=>⟨o,k o e,r⟩
 get:=λI h=>let ⟨its,r,p,_⟩:=I.tuple h;⟨its,r,p,let ⟨_,e,_⟩:=p;Bl e⟩
 uniq:=λI h h'=>I.tuple_inj h h'
 entS:=id
 zitem:=λ{_ _ _ _ s z _ _ _ _ _ _ _ _ _ _ _ _ _ _ _}D ez ea eo ei ej tp tq hx hy fin=>by
  have tz:s.TypeIs (.ref z) "zip" :=⟨_,ez,rfl⟩;unfold pyNext;exact Ad (wpAny_attempt (wpAny_callSpecial?_slot (name:=Str.ofString "__next__") tz F.slot_zip_next (wpAny_call_entry F.slot_zip_next tz F.entry_zip_next (ZQ D ez ea eo ei ej tp tq hx hy λg a1 a2 a3 a4 a5 a6 a7=>Au (fin g a1 a2 a3 a4 a5 a6 a7)) (F.args_zip_next_1 _))))
 zend:=λ{_ _ _ _ s z _ _ _ _ _ _ _ _ _ _ _ _ _}hh D ez ea eo ei ej tp tq hend fin=>by
  have tz:s.TypeIs (.ref z) "zip" :=⟨_,ez,rfl⟩;unfold pyNext;refine Ad (wpAny_attempt (wpAny_callSpecial?_slot (name:=Str.ofString "__next__") tz F.slot_zip_next (wpAny_call_entry F.slot_zip_next tz F.entry_zip_next (ZR hh D ez ea eo ei ej tp tq hend λg e hk he=>?_) (F.args_zip_next_1 _))));obtain⟨d,h1,h2⟩:=he;exact Ad (wpAny_isInstance (T:= "StopIteration") (b:=true) ⟨d,h1,h2⟩ isSubtype_stop (Au (fin _ hk)))
 zcall:=ZT
 eitem:=λ{_ _ A _ _ e j l i xs x _ _}hh n1 n2 n3 he hi hl hx q=>by
  refine wpAny_pyNext_enum_itemD (HC (A:=A.in1) hh j l n3 xs) he ⟨hi,hl⟩ (Array.getElem?_eq_some_iff.mp hx).1 n1 (by simp;exact⟨n1,n2⟩) λy g tk hy a b c ζ k=>?_;rw[hx] at hy;cases hy;exact q g tk a b.1 c k
 eend:=λ{_ _ A _ _ _ j l xs _ _}hh n3 he hi hl q=>wpAny_pyNext_enum_endD (HC (A:=A.in1) hh j l n3 xs) he ⟨hi,hl⟩ q
 ecall:=λI hq q=>let ⟨_,_,p,_⟩:=I.tuple hq;ZP p q
section
variable (k:Tp)
def HD (K:Ah) (f lq:Addr):It:=
 ⟨λi H=>∃xs ys x y,k.sq K H f xs/\k.sq K H lq ys/\xs[i]?=some x/\ys[i]?=some y,
  λi H v H'=>∃T x y,H T=none/\v=.ref T/\H'=upd H T (.tup [x,y])/\(∀xs,k.sq K H f xs->xs[i]?=some x)/\∀ys,k.sq K H lq ys->ys[i]?=some y,
  λi H=>∃xs ys,k.sq K H f xs/\k.sq K H lq ys/\(xs.length<=i\/ys.length<=i)⟩
def OU (z TI TO i1 i2 f lq:Addr) (i:Nat) (h:Heap):Prop:=IsZip h z TI TO .none/\IsPair h TI (.ref i1) (.ref i2)/\(∃a b,IsPair h TO a b)/\k.it h i1 f i/\k.it h i2 lq i
def HE (K:Ah) (l:Addr):It:=
 ⟨λi H=>∃xs x,k.sq K H l xs/\xs[i]?=some x,
  λi H v H'=>∃T x,H T=none/\v=.ref T/\H'=upd H T (.tup [.int i,x])/\∀xs,k.sq K H l xs->xs[i]?=some x,
  λi H=>∃xs,k.sq K H l xs/\xs.length=i⟩
def OV (e it l:Addr) (i:Nat) (h:Heap):Prop:=(∃old,IsEnum h e it i old)/\k.it h it l i
variable {k}
variable {f lq:Addr}
def WA{z TI TO d e:Addr}{h:Heap}(st:OU k z TI TO d e f lq i h):∀b∈[z,TI,TO,d,e],∃o,h.get? b=some o/\∀v,o.data≠.cell v:=λb hb=>by
 obtain⟨g,m,⟨a,c,n⟩,j,l⟩:=st;simp at hb;rcases hb with rfl|rfl|rfl|rfl|rfl;exact⟨_,g,λv q=>by cases q⟩;exact⟨_,m,λv q=>by cases q⟩;exact⟨_,n,λv q=>by cases q⟩;exact k.obj j;exact k.obj l
def WB{it l:Addr}{h:Heap}(st:OV k e it l i h):∀b∈[e,it],∃o,h.get? b=some o/\∀v,o.data≠.cell v:=λb hb=>by
 obtain⟨⟨d,a⟩,c⟩:=st;simp at hb;rcases hb with rfl|rfl;exact⟨_,a,λv q=>by cases q⟩;exact k.obj c
variable {P:Program} {w:World} {K:Ah} {es:List Expr} {L:Nat} {pos:Pos}
def ZU{z TI TO q r:Addr}(D:ZipApart z TI TO q r f lq):F7 P w K (.Tuple es L pos) (HD k K f lq) [z,TI,TO,q,r] z (OU k z TI TO q r f lq) where
 mem:=by simp
 obj:=λζ ζ d b hb=>WA d b hb
 keep:=λi h h' d L=>by
  obtain⟨g,j,⟨a,c,p⟩,m,n⟩:=d;exact⟨L z (by simp) _ g,L TI (by simp) _ j,⟨a,c,L TO (by simp) _ p⟩,k.keep m λo e=>L q (by simp) o e,k.keep n λo e=>L r (by simp) o e⟩
 item:=by
  intro X A B C R i ai s σ H E I F d G;subst A B C;obtain⟨W,Y,x,y,u,v,S,T⟩:=G;have Z:=WA d;obtain⟨g,j,⟨a,c,p⟩,m,n⟩:=d;obtain⟨aj,N,M,_⟩:=k.get I u;obtain⟨ak,O,J,_⟩:=k.get I v;obtain⟨U,aa,ab⟩:=N.get S;obtain⟨V,ae,af⟩:=O.get T;refine k.zitem D g j p m n M J (x:=U) (y:=V) (by simpa using aa) (by simpa using ae) λh' a1 a2 a3 a4 a5 a6 t=>?_;refine⟨_,rfl,wpAny_letOwnedTupleGo_zip (s:={s with heap:=h'}) a1 λag al l=>?_⟩;obtain⟨I2,ah,fr⟩:=I.turnP (t':=s.toks) (h':=ag) F (λb o hb e=>by simp at hb;exact(l.2 b hb.1).trans (t b o hb.1 hb.2.2.1 hb.2.2.2.1 hb.2.2.2.2 e)) Z ((l.2 _ (Nat.ne_of_gt (Bl g))).trans a5) ab af
  exact⟨.ref s.heap.objs.size,_,I2,rfl,⟨s.heap.objs.size,x,y,ah,rfl,rfl,λzs Q=>by rw[k.uniq I Q u];exact S,λzs Q=>by rw[k.uniq I Q v];exact T⟩,
   ⟨al,l.extBut _ _ D.TIz (t _ _ D.TIz D.TITO D.TIi1 D.TIi2 j),⟨U,V,l.extBut _ _ D.TOz a2⟩,k.keep a3 λo e=>l.extBut _ _ D.i1z e,k.keep a4 λo e=>l.extBut _ _ D.i2z e⟩,fr⟩
 done:=by
  intro X A B C R i ai s σ H E I F d G;subst A B C;obtain⟨W,Y,u,v,aq⟩:=G;obtain⟨g,j,⟨a,c,p⟩,m,n⟩:=d;obtain⟨aj,N,M,_⟩:=k.get I u;obtain⟨ak,O,J,_⟩:=k.get I v;have an:=N.length;have ao:=O.length;exact k.zend (I.ok.hd R) D g j p m n M J (by simp;lia) λh' t=>⟨rfl,I.turnL (t':=s.toks) F λb o hb e=>by simp at hb;exact t b o hb.1 hb.2.2.1 hb.2.2.2.1 hb.2.2.2.2 e⟩
 self:=λζ ζ ζ ζ ζ d h=>wpAny_pyIter_zip d.1 h
def ZV{it l:Addr}(C:e≠it)(T:e≠l)(D:l≠it):F7 P w K (.Tuple es L pos) (HE k K l) [e,it] e (OV k e it l) where
 mem:=by simp
 obj:=λζ ζ a b hb=>WB a b hb
 keep:=λi h h' a L=>by
  obtain⟨⟨f,c⟩,d⟩:=a;exact⟨⟨f,L e (by simp) _ c⟩,k.keep d λo x=>L it (by simp) o x⟩
 item:=by
  intro X j m n p i aa s σ H E I q a r;subst j m n;obtain⟨z,x,g,A⟩:=r;have G:=WB a;obtain⟨⟨f,c⟩,d⟩:=a;obtain⟨F,u,t,_⟩:=k.get I g;obtain⟨B,U,V⟩:=u.get A;refine k.eitem (I.ok.hd p) C T D c d t (x:=B) (by simpa using U) λh' tk J M N O=>?_;refine⟨_,rfl,wpAny_letOwnedTupleGo_enum (s:={s with heap:=h',toks:=tk+1}) J λW ab v=>?_⟩;obtain⟨Q,Y,R⟩:=I.turnP (t':=tk+1) (h':=W) (x:=.int i) (y:=x) q (λb o hb e=>by simp at hb;exact(v.2 b hb.1).trans (O b o hb.1 hb.2 e)) G ((v.2 _ (Nat.ne_of_gt (Bl c))).trans N) ⟨_,rfl⟩ V;exact⟨.ref s.heap.objs.size,_,Q,rfl,⟨s.heap.objs.size,x,Y,rfl,rfl,λzs Z=>by rw[k.uniq I Z g];exact A⟩,⟨⟨B,by simpa using ab⟩,k.keep M λo e=>v.extBut _ _ (Ne.symm C) e⟩,R⟩
 done:=by
  intro X j m n p i aa s σ H E I q a r;subst j m n;obtain⟨z,g,rfl⟩:=r;obtain⟨⟨f,c⟩,d⟩:=a;obtain⟨F,u,t,_⟩:=k.get I g;rw[show z.length=F.toArray.size by rw[u.length];simp] at c d;exact k.eend (I.ok.hd p) D c d t λh' S=>⟨rfl,I.turnL (t':=s.toks) q λb o hb e=>by simp at hb;exact S b o hb.2 e⟩
 self:=λζ ζ ζ ζ ζ a h=>by
  obtain⟨⟨f,c⟩,_⟩:=a;exact wpAny_pyIter_enum c h
variable (k)
def L9 (K:Ah) (ta:TA):TI:=λσ H R=>ta σ H λvs Y=>∃l,vs=[.ref l]/\(∃xs,k.ent K Y l xs)/\R (HE k K l) Y
variable {X:Cx}
def NB{j:Pos}{a:Expr}{d:TA}{p:Pos}(i:Gl X "enumerate")(m:X.mg "enumerate" = none)(n:PA X [a] d)(o:starEach [a] X.env=[(false,eval a X.env)]:=by rfl) :
 PI X (.Tuple es L j) (.Call (.Name "enumerate" p) [a] [] pos) (L9 k X.K d):=by
 intro A s σ H R I h;refine Call_ (Kg I i m (u:=.type "enumerate") (by decide +kernel) (PyProof.Rows.callWith_type1 (AU (n pos A s σ H _ I h) λB b⟨C,Y,c,r,t⟩=>?_) (by rw[o];rfl) (by rfl)));obtain⟨l,rfl,⟨D,e⟩,q⟩:=t;obtain⟨v,rfl,z⟩:=FP r;obtain rfl:v=Value.ref l:=z;obtain⟨_,_,_,f⟩:=k.get c (k.entS e);refine k.ecall c e λw g x E y=>?_;refine wpAny_pyIter_enum (s:={b with heap:=w}) g ?_;exact⟨_,[b.heap.objs.size+1,b.heap.objs.size],_,_,Y,rfl,c.kept (t':=b.toks) y,ZV (Nat.succ_ne_self _) (Nat.ne_of_gt (Nat.lt_succ_of_lt f)) (Cq f),⟨⟨_,g⟩,x⟩,c.newFp (by simp),q⟩
variable {k}
def WC{pins:B'}{a:Shared}{c:Expr}{R:It->Hp->Prop}(e:∃es L pos,c=.Tuple es L pos)(b:Inv X pins σ Y a)(g:∃xs,k.sq X.K Y f xs)(h:∃ys,k.sq X.K Y lq ys)(q:R (HD k X.K f lq) Y) :
 wpAny (model X.prog X.w) X.A (call (.type "zip") [.ref f,.ref lq]) (λv i=>wpAny (model X.prog X.w) X.A (pyIter v) (R8 X pins σ c R) E i) E a:=by
 obtain⟨es,L,pos,rfl⟩:=e;obtain⟨xs,p⟩:=g;obtain⟨ys,r⟩:=h;obtain⟨_,_,j,l⟩:=k.get b p;obtain⟨_,_,J,m⟩:=k.get b r;refine k.zcall j J λn d t u w x y o=>?_;refine wpAny_pyIter_zip (s:={a with heap:=n}) d ?_;exact⟨_,[a.heap.objs.size+4,a.heap.objs.size+2,a.heap.objs.size+3,a.heap.objs.size,a.heap.objs.size+1],_,_,Y,rfl,b.kept (t':=a.toks) o,ZU (zipApart_new l m),⟨d,t,⟨_,_,u⟩,w,x⟩,b.newFp (by simp),q⟩
def OW (K:Ah) (ta:TA):TI:=λσ H R=>ta σ H λvs Y=>∃f lq,vs=[.ref f,.ref lq]/\(((∃xs,Ae K Y f xs)/\(∃ys,Ae K Y lq ys)/\R (HD LK K f lq) Y)\/((∃xs,Ar K Y f xs)/\(∃ys,Ar K Y lq ys)/\R (HD TK K f lq) Y))
def Js{j:Pos}{a b:Expr}{e:TA}{p:Pos}(l:Gl X "zip")(m:X.mg "zip" = none)(n:PA X [a,b] e)(o:starEach [a,b] X.env=[(false,eval a X.env),(false,eval b X.env)]:=by rfl)(i:starEach [b] X.env=[(false,eval b X.env)]:=by rfl) :
 PI X (.Tuple es L j) (.Call (.Name "zip" p) [a,b] [] pos) (OW X.K e):=by
 intro A s σ H R I h;refine Call_ (Kg I l m (u:=.type "zip") (by decide +kernel) (PyProof.Rows.callWith_type1 (AU (n pos A s σ H _ I h) λB C⟨D,Y,g,r,t⟩=>?_) (by rw[o,i]) (by rw[i];rfl)));obtain⟨f,lq,rfl,v⟩:=t;obtain⟨w,x,rfl,y,z⟩:=Kl r;obtain rfl:w=Value.ref f:=y;obtain rfl:x=Value.ref lq:=z;rcases v with⟨c,d,q⟩|⟨c,d,q⟩;exact WC (k:=LK) ⟨_,_,_,rfl⟩ g c d q;exact WC (k:=TK) ⟨_,_,_,rfl⟩ g c d q
variable {g:TG} {tb:TS} {D:Ends} {σ:St} {H:Hp}
variable (k)
def WD{xs ys:List V}(Pv:Nat->St->Hp->Prop)(b:Pv 0 σ H)(a:∀i σ H,Pv i σ H->k.sq K H f xs/\k.sq K H lq ys)
 (c:∀i x y T σ H,xs[i]?=some x->ys[i]?=some y->H T=none->Pv i σ H->g (.ref T) σ (upd H T (.tup [x,y])) λσ2 d=>tb {D with nx:=Pv (i+1),ct:=Pv (i+1),bk:=D.nx} σ2 d) (hd:∀σ H,Pv (min xs.length ys.length) σ H->D.nx σ H):Fz (HD k K f lq) g tb D σ H:=by
 refine N8 (min xs.length ys.length) Pv b (λi σ H p e=>?_) (λσ H p=>⟨xs,ys,(a _ σ H p).1,(a _ σ H p).2,by lia⟩) (λi v σ H H' p e y=>?_) hd;have h:i<xs.length:=(by lia);have j:i<ys.length:=(by lia);exact⟨xs,ys,xs[i],ys[i],(a i σ H p).1,(a i σ H p).2,by simp[h],by simp[j]⟩;obtain⟨T,x,l,m,rfl,rfl,n,o⟩:=y;exact c i x l T σ H (n xs (a i σ H p).1) (o ys (a i σ H p).2) m p
def Qv{l:Addr}{xs:List V}(Pv:Nat->St->Hp->Prop)(c:Pv 0 σ H)(a:∀i σ H,Pv i σ H->k.sq K H l xs)
 (d:∀i x T σ H,xs[i]?=some x->H T=none->Pv i σ H->g (.ref T) σ (upd H T (.tup [.int i,x])) λσ2 e=>tb {D with nx:=Pv (i+1),ct:=Pv (i+1),bk:=D.nx} σ2 e) (hd:∀σ H,Pv xs.length σ H->D.nx σ H):Fz (HE k K l) g tb D σ H:=by
 refine N8 xs.length Pv c (λi σ H p b=>⟨xs,xs[i],a i σ H p,by simp[b]⟩) (λσ H p=>⟨xs,a _ σ H p,rfl⟩) (λi v σ H H' p b y=>?_) hd;obtain⟨T,x,f,rfl,rfl,h⟩:=y;exact d i x T σ H (h xs (a i σ H p)) f p
end
mutual
inductive A5 (F:Addr->Prop) (H:Hp):V->Dt->Prop where
 | non:A5 F H .non .non
 | bl (b:Bool):A5 F H (.bl b) (.bl b)
 | int (i:Int):A5 F H (.int i) (.int i)
 | str (x:Str):A5 F H (.str x) (.str x)
 | tup {a:Addr} {vs:List V} {ds:List Dt} (h:H a=some (.tup vs)) (t:Ax F H vs ds):A5 F H (.ref a) (.tup ds)
 | lst {a:Addr} {vs:List V} {ds:List Dt} (h:H a=some (.lst vs)) (f:F a) (t:Ax F H vs ds):A5 F H (.ref a) (.lst ds)
inductive Ax (F:Addr->Prop) (H:Hp):List V->List Dt->Prop where
 | nil:Ax F H [] []
 | cons {v:V} {d:Dt} {vs:List V} {ds:List Dt} (h:A5 F H v d) (t:Ax F H vs ds):Ax F H (v :: vs) (d :: ds)
end
mutual
theorem A5.go {F G:Addr->Prop}{H H':Hp} (e:∀ a vs,H a=some (.tup vs)->H' a=some (.tup vs)) (l:∀ a vs,H a=some (.lst vs)->F a->H' a=some (.lst vs)/\G a) {v:V} {d:Dt} (h:A5 F H v d):A5 G H' v d:=by
 cases h with
 | non=>exact .non
 | bl b=>exact .bl b
 | int i=>exact .int i
 | str x=>exact .str x
 | tup h t=>exact .tup (e _ _ h) (Ax.go e l t)
 | lst h f t=>exact .lst (l _ _ h f).1 (l _ _ h f).2 (Ax.go e l t)
theorem Ax.go {F G:Addr->Prop}{H H':Hp} (e:∀ a vs,H a=some (.tup vs)->H' a=some (.tup vs)) (l:∀ a vs,H a=some (.lst vs)->F a->H' a=some (.lst vs)/\G a) {vs:List V} {b:List Dt} (h:Ax F H vs b):Ax G H' vs b:=by
 cases h with
 | nil=>exact .nil
 | cons h t=>exact .cons (A5.go e l h) (Ax.go e l t)
end
mutual
theorem A5.dt {K:Ah}{F:Addr->Prop}{H:Hp}{v:V}{d:Dt} (h:A5 F H v d):An K H v d:=by
 cases h with
 | non=>exact .non
 | bl b=>exact .bl b
 | int i=>exact .int i
 | str x=>exact .str x
 | tup h t=>exact .tup (Ar.of h) (Ax.dts t)
 | lst h f t=>exact .lst (Ae.of h) (Ax.dts t)
theorem Ax.dts {K:Ah}{F:Addr->Prop}{H:Hp}{vs:List V}{a:List Dt} (h:Ax F H vs a):Ai K H vs a:=by
 cases h with
 | nil=>exact .nil
 | cons h t=>exact .cons (A5.dt h) (Ax.dts t)
end
section
variable {F G M:Addr->Prop} {H H':Hp} {v:V} {d:Dt} {vs us:List V} {ds es:List Dt}
def A5.same(s:Ac H H')(h:A5 F H v d):A5 F H' v d:=h.go (λζ ζ q=>s _ _ q) λζ ζ q f=>⟨s _ _ q,f⟩
def Ax.same(s:Ac H H')(h:Ax F H vs ds):Ax F H' vs ds:=h.go (λζ ζ q=>s _ _ q) λζ ζ q f=>⟨s _ _ q,f⟩
def Ax.keeps(k:Keeps M H H')(a:∀x,F x->¬M x)(h:Ax F H vs ds):Ax F H' vs ds:=h.go (λζ ζ q=>k.tup q) λζ ζ q f=>⟨k.at_ _ _ q (a _ f),f⟩
def A5.mono(e:∀x o,H x=some o->F x->G x)(h:A5 F H v d):A5 G H v d:=h.go (λζ ζ q=>q) λζ ζ q f=>⟨q,e _ _ q f⟩
def Ax.mono(e:∀x o,H x=some o->F x->G x)(h:Ax F H vs ds):Ax G H vs ds:=h.go (λζ ζ q=>q) λζ ζ q f=>⟨q,e _ _ q f⟩
theorem Ax.length:∀{vs:List V}{ds:List Dt},Ax F H vs ds->vs.length=ds.length
 |_,_,.nil=>rfl
 |_,_,.cons _ t=>by rw[Ew,Ew,Ax.length t]
theorem Ax.snoc:∀{vs:List V}{ds:List Dt},Ax F H vs ds->A5 F H v d->Ax F H (vs++[v]) (ds++[d])
 |_,_,.nil,h=>.cons h .nil
 |_,_,.cons a t,h=>.cons a (Ax.snoc t h)
theorem Ax.get:∀{vs:List V}{ds:List Dt}{i:Nat}{v:V},Ax F H vs ds->vs[i]?=some v->∃d,ds[i]?=some d/\A5 F H v d
 |_,_,i,v,.nil,e=>by simp at e
 |_,_,0,v,.cons a t,e=>by simp at e;subst e;exact⟨_,rfl,a⟩
 |_,_,i+1,v,.cons a t,e=>by
   obtain⟨d,b,c⟩:=Ax.get (i:=i) t (by simpa using e);exact⟨d,by simpa using b,c⟩
theorem Ax.of_all{α:Type}{f:α->V}{g:α->Dt}:∀{l:List α},(∀x∈l,A5 F H (f x) (g x))->Ax F H (l.map f) (l.map g)
 |[],_=>.nil
 |x::l,h=>.cons (h x Bu) (Ax.of_all λy a=>h y (B8 _ a))
end
theorem Tq{α:Type}{f:α->List V}{D:α->Dt}{F:Addr->Prop}{H:Hp}(c:∀(r:α)(t:Addr),H t=some (.tup (f r))->A5 F H (.ref t) (D r)):∀{ts:List Addr}{rs:List α},RT f H ts rs->Ax F H (ts.map V.ref) (rs.map D)
 |[],[],_=>.nil
 |[],_::_,h=>by have:=h.len;simp at this
 |_::_,[],h=>by have:=h.len;simp at this
 |t::ts,r::rs,h=>.cons (c r t (h.at_ 0 t r rfl rfl)) (Tq c ⟨by simpa using h.len,λn a b d e=>h.at_ (n+1) a b (by simpa using d) (by simpa using e)⟩)
variable {F:Addr->Prop}
def HF(r:Ao)(t:Addr)(h:H t=some (.tup (GD r))):A5 F H (.ref t) (Qi r):=.tup h (.cons (.int _) (.cons (.str _) (.cons (.int _) .nil)))
def CC.own{t:Addr}(h:CC F H t w):A5 F H (.ref t) (Cr.D w):=by
 obtain⟨d,a,b,c⟩:=h;exact .lst a c (Tq HF b)
variable {b:AK}
def Dr.own{t:Addr}(h:Dr F H t b):A5 F H (.ref t) (DA.D b):=by
 obtain⟨l,f,a,c,d,e⟩:=h;exact .tup a (.cons (.lst c e (Tq HF d)) (.cons (.int _) (.cons (.int _) .nil)))
def Jt (ss:List Bp) (m:Ao):CN:=match ss[m.1.toNat]? with
 |some s=>(match s.2[m.2.2.toNat]? with
   |some p=>p
   |none=>default)
 |none=>default
def Tr{k:Nat}{s:Bp}{p:CN}(a:m.1=(n:Int))(b:m.2.2=(k:Int))(c:ss[n]?=some s)(d:s.2[k]?=some p):Jt ss m=p:=by
 unfold Jt;rw[a,b,Bk,Bk,c];dsimp only;rw[d]
def Ci (ss:List Bp) (w:List Ao):CN:=match w.getLast? with
 |some m=>Jt ss m
 |none=>default
def CH (ss:List Bp) (w:List Ao):Prop:=∃(v:List Ao)(m:Ao),w=v++[m]/\Ek ss m/\m.2.1=("told" : Str)
def Qw(ss:List Bp)(v:List Ao)(m:Ao):Ci ss (v++[m])=Jt ss m:=by
 unfold Ci;rw[List.getLast?_concat]
def DZ (W:Wd) (w:List Ao):Option Int:=if(Ci W.ss w).2.2.1=("by" : Str)/\W.as[(Ci W.ss w).2.2.2.toNat]?=some none then some (Ci W.ss w).2.2.2 else none
def EF (W:Wd):List (List Ao)->Option Ow
 |[]=>none
 |w::ws=>match DZ W w with
   |some q=>some (w,q)
   |none=>EF W ws
def Bg (W:Wd) (w:List Ao):Option Int:=if(Ci W.ss w).2.2.1=("thing" : Str) then some (Ci W.ss w).2.2.2 else match W.as[(Ci W.ss w).2.2.2.toNat]? with
 |some (some p)=>if p.1=("thing" : Str) then some p.2 else none
 |_=>none
noncomputable def EN (ss:List Bp) (ord:A') (ws:List (List Ao)):List Ow->Option Ow
 |[]=>none
 |o::os=>if(ws.any λv=>BZ ss ord v o.1)=true then EN ss ord ws os else some o
abbrev Wt:Type:=Int×List Ao×Int
abbrev HG:Option Wt->Dt
 |none=>.non
 |some p=>.tup [.int p.1,Cr.D p.2.1,.int p.2.2]
def GG:Option Int->Dt
 |none=>.non
 |some n=>.int n
noncomputable def Ds (W:Wd) (ord:A') (ws:List (List Ao)) (os:List Ow):Option Ow:=match EN W.ss ord ws os with
 |some o=>some o
 |none=>EF W (Co W.ss ord ws ws)
def CI (W:Wd) (seen:List (List Ao)) (at_:Int):Str×Int:=if ∀w∈seen,Bg W w=none then("none",at_) else match seen with
 |[]=>("none",at_)
 |w::_=>(match Bg W w with
   |some n=>if ∀v∈seen,Bg W v=some n then("thing",n) else("torn",at_)
   |none=>("torn",at_))
noncomputable def BQ (W:Wd) (ord:A') (ws:List (List Ao)) (os:List Ow) (at_:Int):C'×Option Wt:=match Ds W ord ws os with
 |some o=>(none,some (at_,o.1,o.2))
 |none=>(some (CI W (Co W.ss ord ws ws) at_),none)
variable {W:Wd}{os:List Ow}{at_:Int}{o:Ow}
def KC{ws:List (List Ao)}(h:Ds W ord ws os=some o):BQ W ord ws os at_=(none,some (at_,o.1,o.2)):=by unfold BQ;rw[h]
def GH{ws:List (List Ao)}(h:Ds W ord ws os=none):BQ W ord ws os at_=(some (CI W (Co W.ss ord ws ws) at_),none):=by unfold BQ;rw[h]
def WE{ws:List (List Ao)}(h:Ds W ord ws os=none):EF W (Co W.ss ord ws ws)=none:=by
 unfold Ds at h
 cases e:EN W.ss ord ws os with
 |some o=>rw[e] at h;cases h
 |none=>rw[e] at h;exact h
def NC{a:List (List Ao)}(h:∀w∈a,Bg W w=none):CI W a at_=(("none" : Str),at_):=Ak h
variable {r:List (List Ao)}
def Qx(h:¬∀v∈w::r,Bg W v=none)(k:¬∀v∈w::r,Bg W v=Bg W w):CI W (w::r) at_=(("torn" : Str),at_):=by
 unfold CI;rw[Aj h];dsimp only
 cases e:Bg W w with
 |none=>rfl
 |some n =>
   rw[e] at k;exact Aj k
def OX(h:¬∀v∈w::r,Bg W v=none)(k:∀v∈w::r,Bg W v=Bg W w):∃n,Bg W w=some n/\CI W (w::r) at_=(("thing" : Str),n):=by
 cases e:Bg W w with
 |none=>exact absurd (λv a=>by rw[k v a,e]) h
 |some n =>
   refine⟨n,rfl,?_⟩;unfold CI;rw[Aj h];dsimp only;rw[e];exact Ak λv a=>by rw[k v a,e]
def WF{a b:Option Int}(h:DX a=DX b):a=b:=by
 cases a<;>cases b<;>first|rfl|(cases h;rfl)|cases h
def Ju{a:Option Int}:DX a=.non↔a=none:=⟨λh=>WF (b:=none) h,λh=>by rw[h];rfl⟩
def ZW(a b:Option Int):Lp (DX a) (DX b)=true:=by cases a<;>cases b<;>rfl
def FJ:(((l.map λw=>DX (Bg W w)).map λv=>decide (v=V.non)).all id=true)↔∀w∈l,Bg W w=none:=by
 simp only[List.all_map,List.all_eq_true,Function.comp,id,decide_eq_true_eq,Ju]
def HH:(((l.map λw=>DX (Bg W w)).map λv=>!decide (v=DX (Bg W w))).any id=true)↔¬∀v∈l,Bg W v=Bg W w:=by
 simp only[List.any_map,Gf,Function.comp,id,Bool.not_eq_true',decide_eq_false_iff_not];refine⟨λ⟨v,a,b⟩h=>b (by rw[h v a]),λh=>?_⟩;refine Classical.byContradiction λn=>h λv c=>?_;exact Classical.byContradiction λm=>n ⟨v,c,λz=>m (WF z)⟩
abbrev Lk:Type:=List AK×List (List Ao)×List (List Ao)
abbrev ND (l:Lk):Dt:=.tup [.lst (l.1.map DA.D),.lst (l.2.1.map Cr.D),.lst (l.2.2.map Cr.D)]
structure Cm (W:Wd) (ord:A') (sc st:Int) (x:Str) (l:Lk) (os:List Ow):Prop where
 b:C1 W sc st l.1
 f:Nv W x l.1 l.2.1
 s:l.2.2=Co W.ss ord l.2.1 l.2.1
 o:OP W l.1 os
abbrev B6 (W:Wd) (n:Int):Str×Int:=match W.gs[n.toNat]? with
 |some p=>C0 W.gs W.as p
 |none=>("no",0)
inductive LU (W:Wd) (inn:Int) (ord:A'):Int->Int->List Str->Int->C'->Option Wt->List Lk->List Int->Prop where
 |stop {sc st:Int} {x:Str} {r:List Str} {at_:Int} {l:Lk} {os:List Ow} {a:C'} {w:Option Wt} (h:Cm W ord sc st x l os) (e:BQ W ord l.2.1 os at_=(a,w)) (n:(∀k,a≠some (("thing" : Str),k))\/r=[]):LU W inn ord sc st (x::r) at_ a w [l] []
 |opn {sc st:Int} {x y:Str} {r:List Str} {at_:Int} {l:Lk} {os:List Ow} {n q:Int} {w:Option Wt} (h:Cm W ord sc st x l os) (e:BQ W ord l.2.1 os at_=(some (("thing" : Str),n),w)) (i:B6 W n=(("open" : Str),q)):LU W inn ord sc st (x::y::r) at_ none (some (at_,[],q)) [l] [n]
 |no {sc st:Int} {x y:Str} {r:List Str} {at_:Int} {l:Lk} {os:List Ow} {n q:Int} {w:Option Wt} (h:Cm W ord sc st x l os) (e:BQ W ord l.2.1 os at_=(some (("thing" : Str),n),w)) (i:B6 W n=(("no" : Str),q)):LU W inn ord sc st (x::y::r) at_ (some ("none",at_+1)) none [l] [n]
 |go {sc st:Int} {x y:Str} {r:List Str} {at_:Int} {l:Lk} {os:List Ow} {n q:Int} {w w':Option Wt} {a:C'} {ls:List Lk} {ts:List Int} (h:Cm W ord sc st x l os) (e:BQ W ord l.2.1 os at_=(some (("thing" : Str),n),w)) (i:B6 W n=(("to" : Str),q)) (k:LU W inn ord q inn (y::r) (at_+1) a w' ls ts):LU W inn ord sc st (x::y::r) at_ a w' (l::ls) (n::ts)
variable {sc st:Int}{x:Str}
def Ts(ok:BP W)(e:0<=sc/\sc<W.ss.length)(f:0<=st/\st<W.sts.length){bs:List AK}(c:C1 W sc st bs)(a:w∈DK W x bs):CH W.ss w:=by
 have d:=(Qk ok e f c a).1;obtain⟨b,hb,j,q,g,_,_,rfl⟩:=S7 a;exact⟨b.1,_,rfl,d _ (by simp),rfl⟩
def NE{all:List (List Ao)}(h:w∈Co ss ord all l):w∈l:=(Kd.mp h).1
def Ma(c:Be W)(h:CH W.ss w):LZ W.gs.length W.as.length (Ci W.ss w):=by
 obtain⟨v,m,rfl,⟨n,k,s,d,f,a,g⟩,i⟩:=h;rcases g with⟨e,_⟩|⟨_,b⟩;exact absurd (i.symm.trans e) S9;rw[Qw,Tr d f a (AD b)];exact c.tl s (A6 a) _ (Ec b)
def WG{l:Addr}{v:List Ao}(h:CC F H l (v++[m])):∃(a:List Addr)(t:Addr),H l=some (.lst (a.map V.ref))/\Bz (a.map V.ref) (-1)=some (.ref t)/\H t=some (.tup (GD m)):=by
 obtain⟨a,f,b,_⟩:=h;have g:=b.len;rw[AZ,DS] at g;have d:v.length<a.length:=(by lia);have i:=AD d;refine⟨a,a[v.length],f,?_,b.at_ v.length _ m i (by simp)⟩
 have e:a.map V.ref=(a.take v.length).map V.ref++[V.ref a[v.length]]:=by
  have:a=a.take v.length++[a[v.length]]:=by
   have c:=List.take_append_drop v.length a;rw[MX d,List.drop_eq_nil_of_le (by lia)] at c;exact c.symm
  conv=>lhs;rw[this]
  rw[Bh];rfl
 rw[e];exact S6 _ _
def Tt (F:Addr->Prop) (H:Hp) (v:V):Option Ow->Prop
 |none=>v=.non
 |some o=>∃p l,v=.ref p/\H p=some (.tup [.ref l,.int o.2])/\CC F H l o.1
def Fs.way{t:Addr}{p:Ow}(h:Fs F H t p):∃l,H t=some (.tup [.ref l,.int p.2])/\CC F H l p.1:=by
 obtain⟨l,a,b,c,d,e⟩:=h;exact⟨l,b,a,c,d,e⟩
variable {α:Type}
def Tu{l:List α}{x:α}(h:l[i]?=some x):l.drop i=x::l.drop (i+1):=by
 obtain⟨a,rfl⟩:=AN.mp h;exact MX a
def Tv{ws:List (List Ao)}(h:(ws.any λv=>BZ ss ord v o.1)=false):EN ss ord ws (o::os)=some o:=by
 unfold EN;rw[h,Aj CB]
def Tx{ws:List (List Ao)}(h:(ws.any λv=>BZ ss ord v o.1)=true):EN ss ord ws (o::os)=EN ss ord ws os:=by
 conv=>lhs;unfold EN
 rw[h,Ak rfl]
variable {q:Int}
def Tz{ws:List (List Ao)}(h:DZ W w=some q):EF W (w::ws)=some (w,q):=by
 unfold EF;rw[h]
def OY{ws:List (List Ao)}(h:DZ W w=none):EF W (w::ws)=EF W ws:=by
 conv=>lhs;unfold EF
 rw[h]
theorem TC{W:Wd}:∀{ws:List (List Ao)},EF W ws=none->∀w∈ws,DZ W w=none
 |[],_,w,h=>by cases h
 | x :: ws,e,w,h=>by
   cases ex:DZ W x with
   |some q=>rw[Tz ex] at e;cases e
   |none =>
     rw[OY ex] at e;rcases BV.mp h with rfl|h;exact ex;exact TC e w h
def A5.two{m:Addr}{d e:Dt}(h:A5 F H (.ref m) (.tup [d,e])):∃x y,H m=some (.tup [x,y])/\A5 F H x d/\A5 F H y e:=by
 cases h with
 | tup h t =>
   cases t with
   |cons a t =>
     cases t with
     |cons b t =>
       cases t with
       |nil=>exact⟨_,_,h,a,b⟩
def A5.ansN(h:A5 F H v (BG none)):v=.non:=by cases h;rfl
def A5.ansS{p:Str×Int}(h:A5 F H v (BG (some p))):∃t,v=.ref t/\H t=some (.tup [.str p.1,.int p.2]):=by
 have c:A5 F H v (.tup [.str p.1,.int p.2]):=h
 cases v with
 |ref m =>
   obtain⟨x,y,e,a,b⟩:=c.two;cases a;cases b;exact⟨m,rfl,e⟩
 |_=>cases c
def Qy:("none" : Str)≠("thing" : Str):=by decide +kernel
def TD:("torn" : Str)≠("thing" : Str):=by decide +kernel
set_option tactic.hygienic true in
def ZX{a:List (List Ao)}{n:Int}(h:CI W a at_=(("thing" : Str),n)):∃w∈a,Bg W w=some n:=by
 unfold CI at h;split at h;exact absurd (Bw Prod.fst h) Qy;split at h;exact absurd (Bw Prod.fst h) Qy;rename_i w r _;split at h;rename_i m b;split at h;refine⟨w,Bu,?_⟩;have e:m=n:=Bw Prod.snd h;rw[b,e];exact absurd (Bw Prod.fst h) TD;exact absurd (Bw Prod.fst h) TD
set_option tactic.hygienic true in
def ZY(ok:BP W)(a:Be W)(b:CH W.ss w){n:Int}(h:Bg W w=some n):0<=n/\n<W.gs.length:=by
 have tk:=Ma a b;unfold Bg at h;split at h;rename_i c;have e:=Br h;rcases tk with⟨_,d⟩|⟨hb,_⟩;rw[<-e];exact d;rw[c] at hb;exact absurd hb (by decide +kernel);split at h;rename_i p f;split at h;rename_i g;rw[<-Br h];exact ok.an p (A6 f) g;cases h;cases h
def Iu(ok:BP W)(a:Be W){ws:List (List Ao)}{n:Int}{w:Option Wt}(b:∀w∈ws,CH W.ss w)(h:BQ W ord ws os at_=(some (("thing" : Str),n),w)):0<=n/\n<W.gs.length:=by
 unfold BQ at h;split at h;cases Bw Prod.fst h;obtain⟨w,c,d⟩:=ZX (Br (Bw Prod.fst h));exact ZY ok a (b w (NE c)) d
def ZZ(ths:List (Str×Int))(as:List (C'))(q:Int):(DI ths as q).1=("to" : Str)\/(DI ths as q).1=("open" : Str)\/(DI ths as q).1=("no" : Str):=by
 unfold DI;split;split;split;split;exact .inl rfl;exact .inr (.inr rfl);exact .inr (.inr rfl);exact .inr (.inr rfl);exact .inr (.inl rfl);exact .inr (.inr rfl)
def Z0(ths:List (Str×Int))(as:List (C'))(p:Str×Int):(C0 ths as p).1=("to" : Str)\/(C0 ths as p).1=("open" : Str)\/(C0 ths as p).1=("no" : Str):=by
 unfold C0;split;exact .inl rfl;split;exact ZZ ths as p.2;exact .inr (.inr rfl)
structure LC (K:Ah) (F:Addr->Prop) (H:Hp) (nt A t:Addr) (W:Wd) (qs:List Qu) (inn:Int) (ord:A'):Prop where
 net:∃(S T R:Addr)(us Gs Es ts qt:List Addr),H nt=some (.tup [.ref S,.ref T,.ref R])/\Fg H S T R us Gs Es ts qt W.ss W.gs qs
 ans:GX K H A W.as
 tab:FU K F H t W.sts inn ord
structure KD (W:Wd) (qs:List Qu) (inn:Int) (ord:A'):Prop where
 ok:BP W
 sm:Be W
 ol:ord.length<=40
 irr:∀x,(x,x)∉ord
 inn:0<=inn/\inn<W.sts.length
 q:∀q∈qs,(0<=q.1/\q.1<W.ss.length)/\(0<=q.2.1/\q.2.1<W.sts.length)/\1<=q.2.2.length/\q.2.2.length<=8
def LC.same{K:Ah}{F:Addr->Prop}{H H':Hp}{a A t:Addr}{W:Wd}{qs:List Qu}{inn:Int}{ord:A'}(e:Ac H H')(h:LC K F H a A t W qs inn ord):LC K F H' a A t W qs inn ord:=by
 obtain⟨⟨S,T,R,d,f,g,i,j,k,l⟩,b,c⟩:=h;exact⟨⟨S,T,R,d,f,g,i,j,e _ _ k,l.same e⟩,b.same e,c.same e⟩
variable {inn:Int}
def LC.caseH{K:Ah}{a A t:Addr}{qs:List Qu}(h:LC K F H a A t W qs inn ord):Bq K H a A t W:=by
 obtain⟨⟨S,T,R,d,e,f,g,i,j,k⟩,b,c⟩:=h;exact⟨⟨S,T,R,d,e,f,g,i,qs,j,k⟩,b,c.caseT⟩
variable {a:C'}{ls:List Lk}{ts:List Int}
def Mb{p:List Str}{w:Option Wt}(h:LU W inn ord sc st p at_ a w ls ts):ls.length<=p.length:=by
 induction h with
 |stop=>simp
 |opn=>simp
 |no=>simp
 |go _ _ _ _ b=>simpa using b
def Dn:Nat->Dt->Prop
 |0,_=>False
 |_+1,.non=>True
 |_+1,.bl _=>False
 |_+1,.int _=>True
 |_+1,.str _=>True
 |n+1,.tup l=>∀d∈l,Dn n d
 |n+1,.lst l=>∀d∈l,Dn n d
variable {us:List Ow}
def Qz{l m:Lk}(h:Cm W ord sc st x l os)(k:Cm W ord sc st x m us):l=m/\os=us:=by
 have a:=h.b.uniq k.b;have b:=h.f;have c:=h.o;rw[a] at b c;have d:=b.uniq k.f;have e:l.2.2=m.2.2:=(by rw[h.s,k.s,d]);exact⟨Prod.ext a (Prod.ext d e),c.uniq k.o⟩
def LU.inv{r:List Str}{w:Option Wt}(k:LU W inn ord sc st (x::r) at_ a w ls ts):∃l os,Cm W ord sc st x l os /\
 (∀b d,BQ W ord l.2.1 os at_=(b,d)->((∀k,b≠some (("thing" : Str),k))\/r=[])->b=a/\d=w/\ls=[l]/\ts=[]) /\
 ∀n d,BQ W ord l.2.1 os at_=(some (("thing" : Str),n),d)->r≠[]->∀s q,B6 W n=(s,q)->(s=("open" : Str)->a=none/\w=some (at_,[],q)/\ls=[l]/\ts=[n])/\(s=("no" : Str)->a=some (("none" : Str),at_+1)/\w=none/\ls=[l]/\ts=[n])/\(s=("to" : Str)->∃p t,LU W inn ord q inn r (at_+1) a w p t/\ls=l::p/\ts=n::t):=by
 have g:("open" : Str)≠("no" : Str):=(by decide +kernel);have j:("open" : Str)≠("to" : Str):=(by decide +kernel);have o:("no" : Str)≠("to" : Str):=(by decide +kernel)
 cases k with
 |stop h e n=>exact⟨_,_,h,λb d c ζ=>(by rw[e] at c;cases c;exact⟨rfl,rfl,rfl,rfl⟩),λm d c u=>(by rw[e] at c;cases c;exact(n.elim (λn=>n _ rfl) u).elim)⟩
 |opn h e i=>exact⟨_,_,h,λb d c n=>(by rw[e] at c;cases c;exact(n.elim (λn=>n _ rfl) nofun).elim),λm d c ζ s q f=>(by rw[e] at c;cases c;rw[i] at f;cases f;exact⟨λζ=>⟨rfl,rfl,rfl,rfl⟩,λz=>absurd z g,λz=>absurd z j⟩)⟩
 |no h e i=>exact⟨_,_,h,λb d c n=>(by rw[e] at c;cases c;exact(n.elim (λn=>n _ rfl) nofun).elim),λm d c ζ s q f=>(by rw[e] at c;cases c;rw[i] at f;cases f;exact⟨λz=>absurd z.symm g,λζ=>⟨rfl,rfl,rfl,rfl⟩,λz=>absurd z o⟩)⟩
 |go h e i k=>exact⟨_,_,h,λb d c n=>(by rw[e] at c;cases c;exact(n.elim (λn=>n _ rfl) nofun).elim),λm d c ζ s q f=>(by rw[e] at c;cases c;rw[i] at f;cases f;exact⟨λz=>absurd z.symm j,λz=>absurd z.symm o,λζ=>⟨_,_,k,rfl,rfl⟩⟩)⟩
def Jv{p:List Str}{w:Option Wt}(h:LU W inn ord sc st p at_ a w ls ts):∀{d:C'}{f:Option Wt}{g:List Lk}{j:List Int},LU W inn ord sc st p at_ d f g j->a=d/\w=f/\ls=g/\ts=j:=by
 induction h with
 |stop h e n =>
   intro d f g j k;obtain⟨l,os,b,c,_⟩:=k.inv;obtain⟨rfl,rfl⟩:=Qz h b;obtain⟨rfl,rfl,rfl,rfl⟩:=c _ _ e n;exact⟨rfl,rfl,rfl,rfl⟩
 |opn h e i =>
   intro d f g j k;obtain⟨l,os,b,_,c⟩:=k.inv;obtain⟨rfl,rfl⟩:=Qz h b;obtain⟨rfl,rfl,rfl,rfl⟩:=(c _ _ e nofun _ _ i).1 rfl;exact⟨rfl,rfl,rfl,rfl⟩
 |no h e i =>
   intro d f g j k;obtain⟨l,os,b,_,c⟩:=k.inv;obtain⟨rfl,rfl⟩:=Qz h b;obtain⟨rfl,rfl,rfl,rfl⟩:=(c _ _ e nofun _ _ i).2.1 rfl;exact⟨rfl,rfl,rfl,rfl⟩
 |go h e i u m =>
   intro d f g j k;obtain⟨l,os,b,_,c⟩:=k.inv;obtain⟨rfl,rfl⟩:=Qz h b;obtain⟨_,_,o,rfl,rfl⟩:=(c _ _ e nofun _ _ i).2.2 rfl;obtain⟨q,r,s,t⟩:=m o;exact⟨q,r,by rw[s],by rw[t]⟩
section
variable {ss:List Bp} {ord:A'}
def HI{p:Prop}(h:dec p=true):p:=by
 by_cases e:p;exact e;rw[Fp e] at h;cases h
theorem WH(j:∀x,(x,x)∉ord)(tr:∀x y z,(x,y)∈ord->(y,z)∈ord->(x,z)∈ord):∀(a b c:List Ao),BZ ss ord a b=true->BZ ss ord b c=true->BZ ss ord a c=true
 |x::s,y::t,z::u,d,f=>by
   by_cases h:x=y;subst h;rw[Ny] at d;by_cases g:x=z;subst g;rw[Ny] at f ⊢;exact WH j tr s t u d f;rw[Ky ss ord _ _ g] at f ⊢;exact f;rw[Ky ss ord _ _ h] at d;by_cases g:y=z;subst g;rw[Ky ss ord _ _ h];exact d;rw[Ky ss ord _ _ g] at f;have i:=tr _ _ _ (HI d) (HI f);have k:x≠z:=λe=>j _ (by rw[<-e] at i;exact i);rw[Ky ss ord _ _ k];exact Ex i
 |[],_,_,d,_=>by rw[Jl ss ord (.inl rfl)] at d;cases d
 |_::_,[],_,d,_=>by rw[Jl ss ord (.inr rfl)] at d;cases d
 |_::_,_::_,[],_,f=>by rw[Jl ss ord (.inr rfl)] at f;cases f
theorem WI:∀(a:List Ao),BZ ss ord a a=false
 |[]=>Jl ss ord (.inl rfl)
 |x::s=>by rw[Ny];exact WI s
end
structure Later (as as':List (C')):Prop where
 len:as'.length=as.length
 old:∀(n:Nat)(p:Str×Int),as[n]?=some (some p)->as'[n]?=some (some p)
section
variable {ths:List (Str×Int)} {as as':List (C')}
def QA(h:Later as as')(e:as[n]?=none):as'[n]?=none:=by
 rw[List.getElem?_eq_none_iff] at e ⊢;rw[h.len];exact e
def Z1(h:Later as as')(a:(DI ths as q).1≠("open" : Str)):DI ths as' q=DI ths as q:=by
 unfold DI at a ⊢
 cases e:as[q.toNat]? with
 |none=>rw[QA h e]
 |some o =>
   cases o with
   |none=>rw[e] at a;exact absurd rfl a
   |some p=>rw[h.old _ _ e]
def WJ(h:Later as as'){k:Str×Int}(c:(C0 ths as k).1≠("open" : Str)):C0 ths as' k=C0 ths as k:=by
 unfold C0 at c ⊢;by_cases a:k.1=("part" : Str);rw[Ak a,Ak a];rw[Aj a] at c;rw[Aj a,Aj a];by_cases b:k.1=("sort" : Str);rw[Ak b] at c;rw[Ak b,Ak b];exact Z1 h c;rw[Aj b,Aj b]
def TF(h:Later as as'){p:Ch}(a:(BE ths as p).1≠("open" : Str)):BE ths as' p=BE ths as p:=by
 unfold BE at a ⊢;by_cases b:p.2.1=("to" : Str);rw[Ak b,Ak b];rw[Aj b] at a;rw[Aj b,Aj b]
 cases e:as[p.2.2.toNat]? with
 |none=>rw[QA h e]
 |some o =>
   cases o with
   |none=>rw[e] at a;exact absurd rfl a
   |some w =>
     rw[h.old _ _ e];rw[e] at a;dsimp only at a ⊢;by_cases c:w.1=("thing" : Str);rw[Ak c] at a;rw[Ak c,Ak c]
     cases d:ths[w.2.toNat]? with
     |none=>rfl
     |some k=>rw[d] at a;exact WJ h a
     rw[Aj c,Aj c]
def Z2(h:Later as as'){p:Ch}(a:(BE ths as' p).1=("open" : Str)):(BE ths as p).1=("open" : Str):=by
 by_cases e:(BE ths as p).1=("open" : Str);exact e;rw[TF h e] at a;exact a
end
abbrev Wd.late (W:Wd) (as':List (C')):Wd:=⟨W.ss,W.gs,as',W.sts⟩
def Iv (W:Wd) (sc st:Int) (o:List Ao):Prop:=∃b,AS W sc st b/\∃(j:Nat)(p:Ch)(a:Int),(BO W b.2.1)[j]?=some p/\Ea (DJ W b.2.2) p.1=some a/\(BE W.gs W.as p).1=("open" : Str)/\o=b.1++[(b.2.1,("step" : Str),(j:Int))]
section
variable {W:Wd} {as':List (C')} {sc st:Int}
def Jw:("to" : Str)≠("open" : Str):=by decide +kernel
def TH{j:Nat}{p:Ch}{a:Int}{s t:Int}(b:(BO W s)[j]?=some p)(c:Ea (DJ W t) p.1=some a):((s,("step" : Str),(j:Int)),BE W.gs W.as p,a)∈FV W s t:=
 BJ.mpr ⟨j,p,a,b,c,by rw[Nat.zero_add]⟩
def Z3(h:Later W.as as')(hb:AS W sc st b):AS (W.late as') sc st b:=by
 induction hb with
 |root=>exact .root
 |@kid b c _ k f =>
   obtain⟨r,g,d,i,rfl⟩:=AM.mp k;obtain⟨j,p,a,l,m,rfl⟩:=Nt g;have e:=TF h (p:=p) (ths:=W.gs) (by rw[show(BE W.gs W.as p).1=_ from d];exact Jw);refine .kid f (AM.mpr ⟨_,TH (W:=W.late as') l m,?_⟩);show(BE W.gs as' p).1=_/\(BE W.gs as' p).2∉_/\_=(_,(BE W.gs as' p).2,_);rw[e];exact⟨d,i,rfl⟩
def WK(h:Later W.as as')(hb:AS (W.late as') sc st b):AS W sc st b\/∃o,Iv W sc st o/\o <+: b.1:=by
 induction hb with
 |root=>exact .inl .root
 |@kid b c _ k d =>
   obtain⟨r,m,n,q,rfl⟩:=AM.mp k;obtain⟨j,p,a,f,g,rfl⟩:=Nt m;rcases d with d|⟨o,s,t⟩;by_cases e:(BE W.gs W.as p).1=("open" : Str);exact .inr ⟨_,⟨b,d,j,p,a,f,g,e,rfl⟩,List.prefix_refl _⟩;have u:=TF h e;refine .inl (.kid d (AM.mpr ⟨_,TH f g,?_⟩));show(BE W.gs W.as p).1=_/\(BE W.gs W.as p).2∉_/\(_,(BE W.gs as' p).2,_)=(_,(BE W.gs W.as p).2,_);have i:(BE W.gs as' p).1=("to" : Str):=n;have l:(BE W.gs as' p).2∉AY b:=q;rw[u] at i l ⊢;exact⟨i,l,rfl⟩;exact .inr ⟨o,s,t.trans (Ii _ _)⟩
def Z4(h:Later W.as as'){o:List Ao}(d:Iv (W.late as') sc st o):∃c,Iv W sc st c/\c <+: o:=by
 obtain⟨b,hb,j,p,a,e,f,g,rfl⟩:=d;rcases WK h hb with hb|⟨c,i,k⟩;exact⟨_,⟨b,hb,j,p,a,e,f,Z2 h g,rfl⟩,List.prefix_refl _⟩;exact⟨c,i,k.trans (Ii _ _)⟩
def Jx (W:Wd) (sc st:Int) (x:Str) (w:List Ao):Prop:=∃b,AS W sc st b/\∃(j:Nat)(q:CN),(Fh W b.2.1)[j]?=some q/\q.2.1=x/\q.1∈Gk W b.2.2/\w=b.1++[(b.2.1,("told" : Str),(j:Int))]
def WL(h:Later W.as as')(a:Jx W sc st x w):Jx (W.late as') sc st x w:=by
 obtain⟨b,hb,r⟩:=a;exact⟨b,Z3 h hb,r⟩
def Z5(h:Later W.as as')(a:Jx (W.late as') sc st x w):Jx W sc st x w\/∃o,Iv W sc st o/\o <+: w:=by
 obtain⟨b,hb,j,q,c,d,e,rfl⟩:=a;rcases WK h hb with hb|⟨f,g,i⟩;exact .inl ⟨b,hb,j,q,c,d,e,rfl⟩;exact .inr ⟨f,g,i.trans (Ii _ _)⟩
theorem TJ{ss:List Bp}{ord:A'}:∀{f o w:List Ao},BZ ss ord f o=true->o <+: w->BZ ss ord f w=true
 |x::f,y::o,w,h,a=>by
   obtain⟨u,rfl⟩:=a;by_cases e:x=y;subst e;rw[Ny] at h;show BZ ss ord (x::f) (x::(o++u))=true;rw[Ny];exact TJ h (Ii o u);rw[Ky ss ord _ _ e] at h;show BZ ss ord (x::f) (y::(o++u))=true;rw[Ky ss ord _ _ e];exact h
 |[],_,_,h,_=>by rw[Jl ss ord (.inl rfl)] at h;cases h
 |_::_,[],_,h,_=>by rw[Jl ss ord (.inr rfl)] at h;cases h
def Z6(t:∀x,(x,x)∉ord)(tr:∀x y z,(x,y)∈ord->(y,z)∈ord->(x,z)∈ord)(h:Later W.as as'){ws i:List (List Ao)}
 (n:∀w,w∈ws↔Jx W sc st x w) (p:∀w,w∈i↔Jx (W.late as') sc st x w) (s:∀o,Iv W sc st o->∃f∈ws,BZ ss ord f o=true) (w:List Ao):w∈Co ss ord i i↔w∈Co ss ord ws ws:=by
 have sub:∀v∈ws,v∈i:=λv m=>(p v).mpr (WL h ((n v).mp m))
 have r:∀v∈i,v∈ws\/∃f∈ws,BZ ss ord f v=true:=λv m=>by
  rcases Z5 h ((p v).mp m) with e|⟨o,j,c⟩;exact .inl ((n v).mpr e);obtain⟨f,k,g⟩:=s o j;exact .inr ⟨f,k,TJ g c⟩
 have q:∀(l:List (List Ao))v,v∈Co ss ord l l↔v∈l/\∀u∈l,BZ ss ord u v=false:=λl v=>by
  unfold Co;rw[Kd,Bool.not_eq_true',List.any_eq_false];exact⟨λ⟨a,b⟩=>⟨a,λu d=>by have:=b u d;simpa using this⟩,λ⟨a,b⟩=>⟨a,λu d=>by rw[b u d];simp⟩⟩
 rw[q,q];constructor;rintro⟨j,c⟩;rcases r w j with e|⟨f,k,g⟩;exact⟨e,λu d=>c u (sub u d)⟩;rw[c f (sub f k)] at g;cases g;rintro⟨j,c⟩;refine⟨sub w j,λu d=>?_⟩;rcases r u d with e|⟨f,k,g⟩;exact c u e
 cases e:BZ ss ord u w with
 |false=>rfl
 |true =>
   have:=WH t tr f u w g e;rw[c f k] at this;cases this
def Z7(h:Later W.as as'){ws a:List (List Ao)}(sub:∀v∈ws,v∈a)(b:∀o,Iv W sc st o->∃f∈ws,BZ ss ord f o=true):∀o,Iv (W.late as') sc st o->∃f∈a,BZ ss ord f o=true:=λo c=>by
 obtain⟨d,e,g⟩:=Z4 h c;obtain⟨f,i,j⟩:=b d e;exact⟨f,sub f i,TJ j g⟩
end
section
variable {W:Wd} {sc st:Int}
def Jy(h:AS W sc st b)(e:b.1=[]):b=([],sc,st):=by
 cases h with
 |root=>rfl
 |kid _ k =>
   obtain⟨r,_,_,_,rfl⟩:=AM.mp k;simp at e
def Jz(h:AS W sc st b):∀{c:AK},AS W sc st c->b.1=c.1->b=c:=by
 induction h with
 |root=>intro c a e;exact(Jy a e.symm).symm
 |@kid b p hb k i =>
   intro c a e;obtain⟨r,j,_,_,rfl⟩:=AM.mp k
   cases a with
   |root=>simp at e
   |@kid d _ hd l =>
     obtain⟨f,o,_,_,rfl⟩:=AM.mp l;have g:b.1++[r.1]=d.1++[f.1]:=e;have m:=List.append_inj_left' g rfl;have n:r.1=f.1:=(by simpa using List.append_inj_right' g rfl);have:=i hd m;subst this;rw[Wa j o n]
theorem WM{b:AK}{x:Str}:∀{l:List CN}{i j:Nat}{q:CN},l[j]?=some q->q.2.1=x->q.1∈Gk W b.2.2->b.1++[(b.2.1,("told" : Str),((i+j:Nat):Int))]∈Cs W b x l i
 |p::l,i,0,q,a,c,d=>by
   cases a;refine Ef _ ?_;unfold Ey;rw[Ak ⟨c,d⟩];exact AW.mpr rfl
 |p::l,i,j+1,q,a,c,d=>by
   refine CY _ ?_;rw[show i+(j+1)=i+1+j by lia];exact WM (by simpa using a) c d
def WN{bs:List AK}(a:∀b,b∈bs↔AS W sc st b)(w:List Ao):w∈DK W x bs↔Jx W sc st x w:=by
 constructor;intro h;obtain⟨b,hb,r⟩:=S7 h;exact⟨b,(a b).mp hb,r⟩;rintro⟨b,hb,j,q,c,d,e,rfl⟩;refine List.mem_flatMap.mpr ⟨b,(a b).mpr hb,?_⟩;have:=WM (b:=b) (i:=0) c d e;rw[Nat.zero_add] at this;exact this
theorem WO{b:AK}{x:Str}:∀{l:List CN}{i:Nat},(Cs W b x l i).Nodup
 |[],_=>List.nodup_nil
 |q::l,i=>by
   refine List.nodup_append.mpr ⟨?_,WO,λv hv c a e=>?_⟩;unfold Ey;split;exact List.pairwise_singleton _ _;exact List.nodup_nil;subst e;unfold Ey at hv;split at hv;rw[AW.mp hv] at a;obtain⟨j,d,_,_,_,e⟩:=OO a;have:=List.append_inj_right' e rfl;simp at this;lia;cases hv
theorem WP{α β:Type}{f:α->List β}:∀{l:List α},(∀a∈l,(f a).Nodup)->l.Pairwise (λa b=>∀x∈f a,x∉f b)->(l.flatMap f).Nodup
 |[],_,_=>List.nodup_nil
 |a::l,d,g=>by
   rw[List.flatMap_cons];obtain⟨h,i⟩:=List.pairwise_cons.mp g;refine List.nodup_append.mpr ⟨d a Bu,WP (λb hb=>d b (B8 _ hb)) i,λx j y c e=>?_⟩;subst e;obtain⟨b,hb,c⟩:=List.mem_flatMap.mp c;exact h b hb x j c
def WQ{bs:List AK}(c:C1 W sc st bs):(DK W x bs).Nodup:=by
 refine WP (λb ζ=>WO) ?_;refine c.nd.imp_of_mem λ{a b}d hb h v e i=>?_;obtain⟨j,q,_,_,_,f⟩:=OO e;obtain⟨k,l,_,_,_,g⟩:=OO i;exact h (Jz ((c.mem a).mp d) ((c.mem b).mp hb) (List.append_inj_left' (f.symm.trans g) rfl))
def WR{bs:List AK}(g:C1 W sc st bs)(o:List Ao):Iv W sc st o↔∃r∈Fq W bs,r.1=o:=by
 constructor;rintro⟨b,hb,j,p,a,c,d,f,rfl⟩;refine⟨(_,(BE W.gs W.as p).2),List.mem_flatMap.mpr ⟨b,(g.mem b).mpr hb,List.mem_filterMap.mpr ⟨_,TH c d,?_⟩⟩,rfl⟩;unfold ow;exact Ak f;rintro⟨r,h,rfl⟩;obtain⟨b,hb,j,p,a,c,d,f,e⟩:=S8 h;exact⟨b,(g.mem b).mp hb,j,p,a,c,d,f,by rw[e]⟩
def JA{ws a:List (List Ao)}(b:ws.Nodup)(c:a.Nodup)(d:ws.Pairwise Cr.O.kle)(e:a.Pairwise Cr.O.kle)(h:∀w,w∈Co ss ord a a↔w∈Co ss ord ws ws):Co ss ord a a=Co ss ord ws ws:=
 Qf (O:=Cr.O) ((List.perm_ext_iff_of_nodup (c.filter _) (b.filter _)).mpr h) (e.filter _) (d.filter _)
end
theorem DC{ss:List Bp}{ord:A'}{ws:List (List Ao)}:∀{os:List Ow},EN ss ord ws os=none↔∀o∈os,(ws.any λv=>BZ ss ord v o.1)=true
 |[]=>⟨λζ o b=>(by cases b),λζ=>rfl⟩
 | o :: os=>by
   cases e:ws.any λv=>BZ ss ord v o.1 with
   |true =>
     rw[Tx e,DC];refine⟨λh p a=>?_,λh p a=>h p (B8 _ a)⟩;rcases BV.mp a with rfl|a;exact e;exact h p a
   |false =>
     rw[Tv e];refine⟨λh=>(by cases h),λh=>?_⟩;have:=h o Bu;rw[e] at this;cases this
theorem WS{W:Wd}:∀{ws:List (List Ao)},(∀w∈ws,DZ W w=none)->EF W ws=none
 |[],_=>rfl
 |w::ws,h=>by rw[OY (h w Bu)];exact WS λv hv=>h v (B8 _ hv)
def Z8{ws:List (List Ao)}(h:Ds W ord ws os=none):EN W.ss ord ws os=none:=by
 unfold Ds at h
 cases e:EN W.ss ord ws os with
 |some o=>rw[e] at h;cases h
 |none=>rfl
def Z9{ws:List (List Ao)}(a:EN W.ss ord ws os=none)(b:EF W (Co W.ss ord ws ws)=none):Ds W ord ws os=none:=by
 unfold Ds;rw[a];exact b
variable {as as':List (C')}
def dA(h:Later as as')(e:as'[n]?=some none):as[n]?=some none:=by
 cases c:as[n]? with
 |none=>rw[QA h c] at e;cases e
 |some o =>
   cases o with
   |none=>rfl
   |some p=>rw[h.old n p c] at e;cases e
section
variable {W:Wd} {as':List (C')} {ord:A'} {sc st:Int}
def dB(h:Later W.as as')(e:DZ W w=none):DZ (W.late as') w=none:=by
 unfold DZ at e ⊢;refine Aj λc=>?_;rw[Ak ⟨c.1,dA h c.2⟩] at e;cases e
def dC(h:Later W.as as')(b:Be W)(d:CH W.ss w)(e:DZ W w=none):Bg (W.late as') w=Bg W w:=by
 unfold Bg
 show(if(Ci W.ss w).2.2.1=("thing" : Str) then some (Ci W.ss w).2.2.2 else match as'[(Ci W.ss w).2.2.2.toNat]? with
  |some (some p)=>if p.1=("thing" : Str) then some p.2 else none
  |_=>none)=_
 rcases Ma b d with⟨hb,_⟩|⟨hb,_⟩;rw[Ak hb,Ak hb];by_cases a:(Ci W.ss w).2.2.1=("thing" : Str);rw[Ak a,Ak a];rw[Aj a,Aj a];unfold DZ at e
 cases c:W.as[(Ci W.ss w).2.2.2.toNat]? with
 |none=>rw[QA h c]
 |some o =>
   cases o with
   |none=>rw[Ak ⟨hb,c⟩] at e;cases e
   |some p=>rw[h.old _ p c]
def dD(A:∀x,(x,x)∉ord)(tr:∀x y z,(x,y)∈ord->(y,z)∈ord->(x,z)∈ord)(h:Later W.as as')(ok:BP W)(q:Be W)(B:0<=sc/\sc<W.ss.length)(C:0<=st/\st<W.sts.length){l m:Lk}(a:Cm W ord sc st x l os)(b:Cm (W.late as') ord sc st x m us)(g:Ds W ord l.2.1 os=none) :
 m.2.2=l.2.2/\Ds (W.late as') ord m.2.1 us=none/\∀w∈l.2.2,Bg (W.late as') w=Bg W w:=by
 have i:∀w,w∈l.2.1↔Jx W sc st x w:=λw=>a.f.perm.mem_iff.trans (WN a.b.mem w);have j:∀w,w∈m.2.1↔Jx (W.late as') sc st x w:=λw=>b.f.perm.mem_iff.trans (WN b.b.mem w)
 have k:∀o,Iv W sc st o->∃f∈l.2.1,BZ W.ss ord f o=true:=λo d=>by
  obtain⟨r,s,e⟩:=(WR a.b o).mp d;have:=DC.mp (Z8 g) r (a.o.perm.mem_iff.mpr s);rw[e] at this;exact Gf.mp this
 have D:=Z6 (ss:=W.ss) A tr h i j k
 have n:m.2.2=l.2.2:=by
  rw[b.s,a.s];exact JA (a.f.perm.nodup_iff.mpr (WQ a.b)) (b.f.perm.nodup_iff.mpr (WQ b.b)) a.f.srt b.f.srt D
 have p:∀w∈l.2.2,DZ W w=none:=by
  have:=TC (WE g);rw[<-a.s] at this;exact this
 refine⟨n,Z9 ?_ ?_,λw c=>?_⟩;refine DC.mpr λo d=>?_;have t:Iv (W.late as') sc st o.1:=(WR b.b o.1).mpr ⟨o,b.o.perm.mem_iff.mp d,rfl⟩;exact Gf.mpr (Z7 (ss:=W.ss) h (λv u=>(j v).mpr (WL h ((i v).mp u))) k o.1 t);have:EF (W.late as') m.2.2=none:=WS λw c=>dB h (p w (by rw[<-n];exact c));rw[b.s] at this;exact this;refine dC h q ?_ (p w c);rw[a.s] at c;exact Ts ok B C a.b (a.f.perm.mem_iff.mp (NE c))
def WT:∀{b:List (List Ao)}(at_:Int),(∀w∈b,Bg (W.late as') w=Bg W w)->CI (W.late as') b at_=CI W b at_:=λ{b}at_ h=>by
 by_cases c:∀w∈b,Bg W w=none;rw[NC c,NC λw d=>by rw[h w d];exact c w d]
 cases b with
 |nil=>exact absurd (λw d=>by cases d) c
 |cons w r =>
   have f:¬∀v∈w::r,Bg (W.late as') v=none:=λz=>c λv a=>by rw[<-h v a];exact z v a
   by_cases e:∀v∈w::r,Bg W v=Bg W w;have m:∀v∈w::r,Bg (W.late as') v=Bg (W.late as') w:=λv a=>by rw[h v a,h w Bu];exact e v a
   obtain⟨n,i,j⟩:=OX (at_:=at_) c e;obtain⟨k,g,l⟩:=OX (at_:=at_) f m;rw[h w Bu,i] at g;rw[j,l,Br g];rw[Qx c e,Qx f λz=>e λv a=>by rw[<-h v a,<-h w Bu];exact z v a]
def WU{ws:List (List Ao)}(h:BQ W ord ws os at_=(a,none)):Ds W ord ws os=none/\a=some (CI W (Co W.ss ord ws ws) at_):=by
 cases e:Ds W ord ws os with
 |some o=>rw[KC e] at h;cases Bw Prod.snd h
 |none=>rw[GH e] at h;exact⟨rfl,(Bw Prod.fst h).symm⟩
def TM{ws:List (List Ao)}{n:Int}{w:Option Wt}(h:BQ W ord ws os at_=(some (("thing" : Str),n),w)):w=none:=by
 cases e:Ds W ord ws os with
 |some o=>rw[KC e] at h;cases Bw Prod.fst h
 |none=>rw[GH e] at h;exact(Bw Prod.snd h).symm
def TN(o:∀x,(x,x)∉ord)(tr:∀x y z,(x,y)∈ord->(y,z)∈ord->(x,z)∈ord)(h:Later W.as as')(ok:BP W)(g:Be W)(p:0<=sc/\sc<W.ss.length)(q:0<=st/\st<W.sts.length){l m:Lk}(b:Cm W ord sc st x l os)(d:Cm (W.late as') ord sc st x m us)(e:BQ W ord l.2.1 os at_=(a,none)) :
 m.2.2=l.2.2/\BQ (W.late as') ord m.2.1 us at_=(a,none):=by
 obtain⟨c,i⟩:=WU e;obtain⟨f,j,k⟩:=dD o tr h ok g p q b d c;refine⟨f,?_⟩;rw[GH j,i];show(some (CI (W.late as') (Co W.ss ord m.2.1 m.2.1) at_),none)=_
 have n:Co W.ss ord m.2.1 m.2.1=Co W.ss ord l.2.1 l.2.1:=by
  have:=d.s;rw[<-b.s,<-f,this]
 rw[n,WT at_ λw c=>k w (by rw[b.s];exact c)]
def WV(h:Later W.as as'){n:Int}(a:(B6 W n).1≠("open" : Str)):B6 (W.late as') n=B6 W n:=by
 unfold B6 at a ⊢
 show(match W.gs[n.toNat]? with
  |some p=>C0 W.gs as' p
  |none=>(("no" : Str),(0:Int)))=_
 cases e:W.gs[n.toNat]? with
 |none=>rfl
 |some p =>
   rw[e] at a;exact WJ h a
def OZ(ok:BP W){n:Int}(b:0<=n/\n<W.gs.length)(h:B6 W n=(("to" : Str),q)):0<=q/\q<W.ss.length:=by
 obtain⟨j,c⟩:=DU b.1;have a:j<W.gs.length:=(by lia);have d:B6 W n=C0 W.gs W.as W.gs[j]:=by unfold B6;rw[c,Bk,AD a]
 rw[d] at h;have:=S5 ok (Ec a) rfl (Bw Prod.fst h);rw[Bw Prod.snd h] at this;exact this
def GI(ok:BP W)(c:0<=sc/\sc<W.ss.length)(d:0<=st/\st<W.sts.length){l:Lk}(a:Cm W ord sc st x l os):∀w∈l.2.1,CH W.ss w:=λw b=>Ts ok c d a.b (a.f.perm.mem_iff.mp b)
end
def dE:("no" : Str)≠("open" : Str):=by decide +kernel
def dG:("to" : Str)≠("open" : Str):=by decide +kernel
def JB(A:∀x,(x,x)∉ord)(tr:∀x y z,(x,y)∈ord->(y,z)∈ord->(x,z)∈ord)(h:Later W.as as')(ok:BP W)(u:Be W)(K:0<=inn/\inn<W.sts.length){p:List Str}{w:Option Wt}(k:LU W inn ord sc st p at_ a w ls ts) :
 w=none->0<=sc/\sc<W.ss.length->0<=st/\st<W.sts.length->∀{g:C'}{j:Option Wt}{s:List Lk}{v:List Int},LU (W.late as') inn ord sc st p at_ g j s v->g=a/\j=none/\s.map (·.2.2)=ls.map (·.2.2):=by
 induction k with
 |stop b e n =>
   intro l d f g j s v m;subst l;obtain⟨C,D,t,c,_⟩:=m.inv;obtain⟨o,q⟩:=TN A tr h ok u d f b t e;obtain⟨rfl,rfl,rfl,_⟩:=c _ _ q n;exact⟨rfl,rfl,by rw[List.map_singleton,List.map_singleton,o]⟩
 |opn b e i=>intro l;cases l
 |no b e i =>
   intro _ d f g j s v m;have B:=TM e;subst B;have r:=WV h (n:=_) (show(B6 W _).1≠("open" : Str) by rw[i];exact dE);rw[i] at r;obtain⟨C,D,t,_,c⟩:=m.inv;obtain⟨o,q⟩:=TN A tr h ok u d f b t e;obtain⟨rfl,rfl,rfl,_⟩:=(c _ _ q nofun _ _ r).2.1 rfl;exact⟨rfl,rfl,by rw[List.map_singleton,List.map_singleton,o]⟩
 |go b e i L E =>
   intro l d f g j s v m;have B:=TM e;subst B;have r:=WV h (n:=_) (show(B6 W _).1≠("open" : Str) by rw[i];exact dG);rw[i] at r;obtain⟨C,D,t,_,c⟩:=m.inv;obtain⟨o,q⟩:=TN A tr h ok u d f b t e;obtain⟨_,_,F,rfl,rfl⟩:=(c _ _ q nofun _ _ r).2.2 rfl;have G:=Iu ok u (GI ok d f b) e;obtain⟨H,I,J⟩:=E l (OZ ok G i) K F;exact⟨H,I,by rw[Eu,Eu,o,J]⟩
def Mc (as:List (C')) (q:Int):Prop:=0<=q/\q<as.length/\as[q.toNat]?=some none
def KE:("no" : Str)≠("open" : Str):=by decide +kernel
def TQ:("to" : Str)≠("open" : Str):=by decide +kernel
section
variable {ths:List (Str×Int)} {as:List (C')}
def dH(a:0<=q/\q<as.length)(h:(DI ths as q).1=("open" : Str)):Mc as (DI ths as q).2:=by
 unfold DI at h ⊢
 cases e:as[q.toNat]? with
 |none=>rw[e] at h;exact absurd h KE
 |some o =>
   cases o with
   |none=>rw[e] at h;exact⟨a.1,a.2,e⟩
   |some p =>
     rw[e] at h;dsimp only at h;split at h;split at h;split at h;exact absurd h TQ;exact absurd h KE;exact absurd h KE;exact absurd h KE
def WW(ok:EI ths as){p:Str×Int}(a:p∈ths)(h:(C0 ths as p).1=("open" : Str)):Mc as (C0 ths as p).2:=by
 unfold C0 at h ⊢;by_cases c:p.1=("part" : Str);rw[Ak c] at h;exact absurd h TQ;rw[Aj c] at h ⊢;by_cases d:p.1=("sort" : Str);rw[Ak d] at h ⊢;exact dH (ok.q p a d) h;rw[Aj d] at h;exact absurd h KE
def dI(ok:EI ths as){s:Int}{p:Ch}(a:LY s as.length p)(h:(BE ths as p).1=("open" : Str)):Mc as (BE ths as p).2:=by
 unfold BE at h ⊢;rcases a with⟨c,_⟩|⟨c,b,d⟩;rw[Ak c] at h;exact absurd h TQ;have g:¬p.2.1=("to" : Str):=λz=>by rw[z] at c;exact absurd c (by decide +kernel)
 rw[Aj g] at h ⊢
 cases e:as[p.2.2.toNat]? with
 |none=>rw[e] at h;exact absurd h KE
 |some o =>
   cases o with
   |none=>exact⟨b,d,e⟩
   |some w =>
     rw[e] at h;dsimp only at h ⊢;by_cases t:w.1=("thing" : Str);rw[Ak t] at h ⊢
     cases f:ths[w.2.toNat]? with
     |none=>rw[f] at h;exact absurd h KE
     |some k=>rw[f] at h;exact WW ok (A6 f) h
     rw[Aj t] at h;exact absurd h KE
end
section
variable {W:Wd} {ord:A'} {sc st:Int}
def dJ(ok:BP W){bs:List AK}{w:Ow}(d:w∈Fq W bs):Mc W.as w.2:=by
 obtain⟨b,_,j,p,a,c,_,f,rfl⟩:=S8 d;refine dI ok.net (s:=W.ss.length) ?_ f;unfold BO at c
 cases e:W.ss[b.2.1.toNat]? with
 |none=>rw[e] at c;cases c
 |some s=>rw[e] at c;exact ok.kst s (A6 e) p (A6 c)
theorem WX{ss:List Bp}{ws:List (List Ao)}:∀{os:List Ow}{o:Ow},EN ss ord ws os=some o->o∈os/\(ws.any λv=>BZ ss ord v o.1)=false
 |[],o,h=>by cases h
 | p :: os,o,h=>by
   cases e:ws.any λv=>BZ ss ord v p.1 with
   |true =>
     rw[Tx e] at h;obtain⟨a,b⟩:=WX h;exact⟨B8 _ a,b⟩
   |false =>
     rw[Tv e] at h;cases h;exact⟨Bu,e⟩
theorem WY:∀{ws:List (List Ao)}{o:Ow},EF W ws=some o->o.1∈ws/\DZ W o.1=some o.2
 |[],o,h=>by cases h
 | w :: ws,o,h=>by
   cases e:DZ W w with
   |some q=>rw[Tz e] at h;cases h;exact⟨Bu,e⟩
   |none =>
     rw[OY e] at h;obtain⟨a,b⟩:=WY h;exact⟨B8 _ a,b⟩
set_option tactic.hygienic true in
def JC(ok:BP W)(m:Be W)(g:0<=sc/\sc<W.ss.length)(i:0<=st/\st<W.sts.length){l:Lk}(b:Cm W ord sc st x l os)(h:Ds W ord l.2.1 os=some o):Mc W.as o.2/\(l.2.1.any λv=>BZ W.ss ord v o.1)=false/\Jm W.ss o.1:=by
 unfold Ds at h
 cases e:EN W.ss ord l.2.1 os with
 |some p =>
   rw[e] at h;cases h;obtain⟨f,a⟩:=WX e;have d:=b.o.perm.mem_iff.mp f;exact⟨dJ ok d,a,Wj ok g i b.b d⟩
 |none =>
   rw[e] at h;obtain⟨f,a⟩:=WY h;have d:=NE f;have n:=b.f.perm.mem_iff.mp d;refine⟨?_,?_,Qk ok g i b.b n⟩;have tk:=Ma m (GI ok g i b _ d);unfold DZ at a;split at a;rename_i c;rw[<-Br a];rcases tk with⟨j,_⟩|⟨_,k⟩;rw[c.1] at j;exact absurd j (by decide +kernel);exact⟨k.1,k.2,c.2⟩;cases a;have:=(Kd.mp f).2;rw[Bool.not_eq_true'] at this;exact this
end
def HJ (W:Wd) (inn sc0 st0:Int) (ls:List Lk):Nat->Int->Int->Prop
 |0,sc,st=>sc=sc0/\st=st0
 |i+1,sc,st=>st=inn/\∃(l:Lk)(w0:List Ao)(r:List (List Ao))(n:Int),ls[i]?=some l/\l.2.2=w0::r/\Bg W w0=some n/\CH W.ss w0/\(0<=n/\n<W.gs.length)/\B6 W n=(("to" : Str),sc)
theorem HJ.more{m o b c:Int}{l:Lk}{a:List Ao}{n:Int}(e:l.2.2=a::r)(d:Bg W a=some n)(f:CH W.ss a)(g:0<=n/\n<W.gs.length)(i:B6 W n=(("to" : Str),b))(k:c=inn):∀{j:Nat}{sc st:Int},HJ W inn b c ls j sc st->HJ W inn m o (l::ls) (j+1) sc st
 |0,sc,st,h=>⟨h.2.trans k,l,a,r,n,rfl,e,d,f,g,by rw[h.1];exact i⟩
 |j+1,sc,st,h=>h
def dL{ws:List (List Ao)}{n:Int}{w:Option Wt}(h:BQ W ord ws os at_=(some (("thing" : Str),n),w)):∃d r,Co W.ss ord ws ws=d::r/\Bg W d=some n:=by
 have b:=TM h;subst b;obtain⟨_,a⟩:=WU h;have a:=(Br a).symm;generalize Co W.ss ord ws ws=g at a;by_cases c:∀w∈g,Bg W w=none;rw[NC c] at a;exact absurd (Bw Prod.fst a) Qy
 cases g with
 |nil=>exact absurd (λw b=>by cases b) c
 |cons w r =>
   refine⟨w,r,rfl,?_⟩;by_cases f:∀v∈w::r,Bg W v=Bg W w;obtain⟨k,i,j⟩:=OX (at_:=at_) c f;rw[j] at a;have e:k=n:=Bw Prod.snd a;rw[i,e];rw[Qx c f] at a;exact absurd (Bw Prod.fst a) TD
set_option tactic.hygienic true in
def WZ{p:List Str}{w:Option Wt}(k:LU W inn ord sc st p at_ a w ls ts):(a=none/\∃t,w=some t)\/(∃x,a=some x)/\w=none:=by
 induction k with
 |stop h e n =>
   rename_i os _ _
   cases b:Ds W ord _ os with
   |some o=>rw[KC b] at e;cases e;exact .inl ⟨rfl,_,rfl⟩
   |none=>rw[GH b] at e;cases e;exact .inr ⟨⟨_,rfl⟩,rfl⟩
 |opn=>exact .inl ⟨rfl,_,rfl⟩
 |no=>exact .inr ⟨⟨_,rfl⟩,rfl⟩
 |go _ _ _ _ c=>exact c
def dM(ss:List Bp):Jm ss []:=⟨λm a=>(by cases a),C7 _⟩
def JD(l:List (List Ao)):(l.any λv=>BZ ss ord v [])=false:=by
 rw[List.any_eq_false];exact λv ζ=>by rw[Jl ss ord (.inr rfl)];exact CB
set_option tactic.hygienic true in
def JE(ok:BP W)(s:Be W)(S:0<=inn/\inn<W.sts.length){h m:Int}{p:List Str}{w:Option Wt}(k:LU W inn ord h m p at_ a w ls ts) :
 0<=h/\h<W.ss.length->0<=m/\m<W.sts.length->∀{t:Wt},w=some t->∃(j:Nat)(sc st:Int)(x:Str)(l:Lk)(os:List Ow),t.1=at_+j/\p[j]?=some x/\Cm W ord sc st x l os/\(0<=sc/\sc<W.ss.length)/\(0<=st/\st<W.sts.length)/\Mc W.as t.2.2/\(l.2.1.any λv=>BZ W.ss ord v t.2.1)=false/\Jm W.ss t.2.1/\HJ W inn h m ls j sc st:=by
 induction k with
 |stop b e n =>
   intro d f t c;rename_i sc st x r at_ l os a w
   cases u:Ds W ord l.2.1 os with
   |none=>rw[GH u] at e;cases e;cases c
   |some o =>
     rw[KC u] at e;cases e;cases c;obtain⟨z,A,B⟩:=JC ok s d f b u;exact⟨0,sc,st,x,l,os,by simp,rfl,b,d,f,z,A,B,rfl,rfl⟩
 |opn b e i =>
   intro d f t c;rename_i sc st x y r at_ l os n q w;cases c;have g:=Iu ok s (GI ok d f b) e;refine⟨0,sc,st,x,l,os,by simp,rfl,b,d,f,?_,JD _,dM _,rfl,rfl⟩;obtain⟨j,F⟩:=DU g.1;have E:j<W.gs.length:=(by lia);have G:B6 W n=C0 W.gs W.as W.gs[j]:=by unfold B6;rw[F,Bk,AD E]
   rw[G] at i;have:=WW ok.net (Ec E) (Bw Prod.fst i);rw[Bw Prod.snd i] at this;exact this
 |no=>intro _ _ t c;cases c
 |go b e i Z H =>
   intro d f t c;rename_i sc st x y r at_ l os n q w w' a ls ts;have g:=Iu ok s (GI ok d f b) e;obtain⟨j,T,U,I,J,V,z,A,B,K,L,M,N,O,P⟩:=H (OZ ok g i) S c;obtain⟨C,Q,D,R⟩:=dL e;have X:l.2.2=C::Q:=by rw[b.s];exact D
   have Y:C∈l.2.1:=NE (ss:=W.ss) (ord:=ord) (all:=l.2.1) (by rw[D];exact Bu);refine⟨j+1,T,U,I,J,V,by rw[z];push_cast;lia,A,B,K,L,M,N,O,HJ.more X R (GI ok d f b _ Y) g i rfl P⟩
def Gb (xs:Array Nat):Prop:=xs.toList.Pairwise (· < ·)
variable {xs:Array Nat}
def Gb.lt(h:Gb xs){a b:Nat}(d:a<b)(hb:b<xs.size):xs.getD a 0<xs.getD b 0:=by
 have c:a<xs.size:=(by lia);have:=(List.pairwise_iff_getElem.mp h) a b (by simpa using c) (by simpa using hb) d;rw[Array.getD_eq_getD_getElem?,Array.getD_eq_getD_getElem?,Array.getElem?_eq_getElem c,Array.getElem?_eq_getElem hb];simpa using this
def Gb.le(h:Gb xs){a b:Nat}(c:a<=b)(hb:b<xs.size):xs.getD a 0<=xs.getD b 0:=by
 rcases Nat.lt_or_eq_of_le c with e|e;exact Cn (h.lt e hb);rw[e];exact AE _
def JF{d:Nat}(h:i<xs.size):xs.getD i d=xs.getD i 0:=by
 rw[Array.getD_eq_getD_getElem?,Array.getD_eq_getD_getElem?,Array.getElem?_eq_getElem h];rfl
theorem TR{xs:Array Nat}(e:Gb xs)(j:Nat):∀(b lo a:Nat),a<=xs.size->lo<=a->a-lo<=b->(∀i,i<lo->xs.getD i 0<j)->(∀i,a<=i->i<xs.size->j<=xs.getD i 0) ->
 SetTable.below.go xs j b lo a<=xs.size/\(∀i,i<SetTable.below.go xs j b lo a->xs.getD i 0<j)/\∀i,SetTable.below.go xs j b lo a<=i->i<xs.size->j<=xs.getD i 0
 |0,lo,a,f,m,n,g,h=>by
   have:lo=a:=(by lia);subst this;exact⟨f,g,h⟩
 |b+1,lo,a,f,m,n,g,h=>by
   unfold SetTable.below.go;by_cases c:lo<a;rw[Ak c];dsimp only;have k:(lo+a)/2<xs.size:=(by lia);rw[JF k];by_cases d:xs.getD ((lo+a)/2) 0<j;rw[Ak d];exact TR e j b _ a f (by lia) (by lia) (λi l=>Nat.lt_of_le_of_lt (e.le (by lia) k) d) h;rw[Aj d];exact TR e j b lo _ (by lia) (by lia) (by lia) g (λi l o=>E8 (Nat.le_of_not_lt d) (e.le l o));rw[Aj c];have:lo=a:=(by lia);subst this;exact⟨f,g,h⟩
def TU(a:Gb xs)(j:Nat):SetTable.below xs j<=xs.size/\(∀i,i<SetTable.below xs j->xs.getD i 0<j)/\∀i,SetTable.below xs j<=i->i<xs.size->j<=xs.getD i 0:=
 TR a j xs.size 0 xs.size (AE _) (C7 _) (by lia) (λi h=>by lia) (λi b c=>by lia)
def dN(a:Gb xs):SetTable.below xs 0=0:=by
 obtain⟨_,b,_⟩:=TU a 0
 cases e:SetTable.below xs 0 with
 |zero=>rfl
 |succ n=>have:=b 0 (by lia);lia
variable {j:Nat}
def dO(a:Gb xs)(h:xs[i]?=some j):SetTable.below xs (j+1)=i+1:=by
 obtain⟨f,b,d⟩:=TU a (j+1);have e:i<xs.size:=(Array.getElem?_eq_some_iff.mp h).1;have g:xs.getD i 0=j:=by rw[Array.getD_eq_getD_getElem?,h];rfl
 rcases Nat.lt_trichotomy (SetTable.below xs (j+1)) (i+1) with c|c|c;have:=d i (by lia) e;lia;exact c;have k:=b (i+1) c;have l:xs.getD i 0<xs.getD (i+1) 0:=a.lt (PM i) (show i+1<xs.size by lia);lia
def dP(xs:Array α)(p:Nat)(x:α)(a:p<=xs.size):(SetTable.insertAt xs p x).toList=xs.toList.take p++[x]++xs.toList.drop p:=by
 unfold SetTable.insertAt;simp[Array.toList_extract];exact List.take_of_length_le (by simp)
def dQ(e:Gb xs)(m:xs[SetTable.below xs j]?≠some j):Gb (SetTable.insertAt xs (SetTable.below xs j) j):=by
 obtain⟨n,f,o⟩:=TU e j;generalize SetTable.below xs j=p at n f o m;unfold Gb;rw[dP xs p j n]
 have g:∀{i:Nat}(c:i<xs.toList.length),xs.toList[i]=xs.getD i 0:=λ{i}c=>by
  have l:i<xs.size:=(by simpa using c);rw[Array.getD_eq_getD_getElem?,Array.getElem?_eq_getElem l];simp
 refine List.pairwise_append.mpr ⟨List.pairwise_append.mpr ⟨e.sublist (List.take_sublist _ _),List.pairwise_singleton _ _,λa d b hb=>?_⟩,e.sublist (List.drop_sublist _ _),λa d b hb=>?_⟩;rw[AW.mp hb];obtain⟨i,c,rfl⟩:=List.getElem_of_mem d;rw[Fn] at c;rw[List.getElem_take,g (by lia)];exact f i (by lia);obtain⟨i,c,rfl⟩:=List.getElem_of_mem hb;rw[G2] at c;rw[List.getElem_drop,g (by lia)];have l:p+i<xs.size:=by simp at c;lia
 have r:j<xs.getD p 0:=by
  have h:p<xs.size:=(by lia);have:=o p (AE _) h;have ne:xs.getD p 0≠j:=λz=>m (by rw[Array.getElem?_eq_getElem h];rw[Array.getD_eq_getD_getElem?,Array.getElem?_eq_getElem h] at z;exact Bw some z);lia
 have s:=e.le (show p<=p+i by lia) l;rcases BL.mp d with d|d;obtain⟨k,q,rfl⟩:=List.getElem_of_mem d;rw[Fn] at q;rw[List.getElem_take,g (by lia)];have:=f k (by lia);lia;rw[AW.mp d];lia
structure Gm (led:Bool) (t:SetTable):Prop where
 ris:Gb t.place
 dum:t.dummies=#[]
 led:t.led=led
theorem W0{t:SetTable}{hashAt:Nat->Int}{h:Int}(hd:t.dummies=#[]):∀(a:Nat)(p:SetTable.Probe){j:Nat}{d:Option Nat},p.dummy=none->SetTable.probe.go t hashAt h a p=some (.empty j d)->t.slot j=.empty/\d=none
 |0,p,j,d,_,e=>by cases e
 |a+1,p,j,d,b,e=>by
   unfold SetTable.probe.go at e
   have l:∀q:SetTable.Probe,q.dummy=none->(t.advance q).dummy=none:=λq f=>by
    unfold SetTable.advance;split;exact f;exact f
   cases c:t.slot p.j with
   |empty=>rw[c] at e;cases e;exact⟨c,b⟩
   |dummy =>
     exfalso;have k:SetTable.has t.dummies p.j=false:=by rw[hd];unfold SetTable.has;simp
     unfold SetTable.slot at c;dsimp only at c;rw[k] at c;by_cases g:(t.place[SetTable.below t.place p.j]?==some p.j)=true;rw[Ak g] at c;cases c;rw[Aj g] at c;cases c
   |live i =>
     rw[c] at e;dsimp only at e;split at e;cases e;exact W0 hd a _ (l p b) e
def dR{t:SetTable}(h:t.slot j=.empty):t.place[SetTable.below t.place j]?≠some j:=λe=>by
 unfold SetTable.slot at h;simp only[e] at h;simp at h
variable {led:Bool}
def QB{t:SetTable}(h:Gm led t)(n:Nat):Gm led (t.standIn n):=⟨by
 show Gb (Array.range n);unfold Gb;rw[Array.toList_range]
 exact List.pairwise_lt_range,rfl,h.led⟩
def Md{t:SetTable}(h:Gm led t)(a:t.slot j=.empty):Gm led (t.put j).1:=by
 refine⟨dQ h.ris (dR a),?_,h.led⟩;show(if SetTable.has t.dummies j then SetTable.eraseAt t.dummies (SetTable.below t.dummies j) else t.dummies)=#[];rw[h.dum]
 have:SetTable.has #[] j=false:=by unfold SetTable.has;simp
 rw[this];rfl
def dS {t:SetTable} (h:Gm led t) (es:Array (Int × Value)) (k:Int) (x:Value):Gm led (layNew t es k x).2.1:=by
 unfold layNew
 cases e:t.freeSlot k with
 |none=>exact QB h _
 | some r =>
   obtain⟨i,l⟩:=r;dsimp only
   have b:t.slot i=.empty:=by
    unfold SetTable.freeSlot at e
    cases c:t.probe (λζ=>k+1) k (t.probeStart k) with
    |none=>rw[c] at e;cases e
    |some m =>
      rw[c] at e
      cases m with
      |candidate=>cases e
      |empty j d =>
        obtain⟨f,g⟩:=W0 h.dum _ _ rfl c;subst g;cases e;exact f
   have a:=Md h b;unfold SetTable.orStandIn;split;exact a;exact QB a _
def JG{e l k:Nat}{plain:Bool}{f:Array Int}{r:SetTable×Array Nat}(h:SetTable.laid e l k led plain f=some r):Gm led r.1:=by
 unfold SetTable.laid at h
 cases c:SetTable.layClean e f with
 |none=>rw[c] at h;cases h
 |some owner =>
   rw[c] at h;cases h;refine⟨?_,rfl,rfl⟩;unfold Gb;dsimp only
   have:(List.map (λx=>x.1) (List.filterMap (λj=>Option.map (λx=>(j,x)) (owner.getD j none)) (List.range (e+1)))).Pairwise (· < ·):=by
    rw[List.pairwise_map];refine List.Pairwise.filterMap _ (λa b i c g d hd=>?_) (List.pairwise_lt_range (n:=e+1));obtain⟨x,_,rfl⟩:=E7.mp g;obtain⟨y,_,rfl⟩:=E7.mp hd;exact i
   exact this
def dU{t:SetTable}(h:Gm led t)(es:Array (Int×Value))(a:Nat):Gm led (relayAll t es a).2.1:=by
 unfold relayAll
 cases c:t.relaid (es.map (·.1)) a with
 |none=>exact QB h _
 |some r =>
   obtain⟨b,order⟩:=r;dsimp only;split;have:=JG c;rw[h.led] at this;exact this;exact QB h _
section
variable {prog:Program} {w:World} {α:Type} [DecidableEq α] [BEq α] [LawfulBEq α]
def B0 (knd:KeyKind prog w α) (I:Bool) (hp:Heap) (D:Addr) (M:α->Bool) (n:Nat):Prop:=
 ∃(ob:Obj)(es:Array (Int×Value))(ep:Nat)(tb:SetTable),hp.get? D=some ob/\ob.ExactSet/\ob.data=.set es ep tb/\ElemsOf knd es.toList/\(∀y,M y=true↔∃e∈es.toList,knd.is y e.2=true)/\es.size<scanBound/\tb.fits es.size=true/\es.size=n/\Gm I tb
variable {knd:KeyKind prog w α} {I:Bool} {A:Around} {E:D'} {s:Shared} {D:Addr}
variable {M:α->Bool}
def B0.keep{a b:Heap}(x:B0 knd I a D M n)(k:∀ob,a.get? D=some ob->b.get? D=some ob):B0 knd I b D M n:=by
 obtain⟨ob,c,d,e,f,x⟩:=x;exact⟨ob,c,d,e,k _ f,x⟩
def B0.cong{a:Heap}{b:α->Bool}{c:Nat}(x:B0 knd I a D M n)(d:∀y,b y=M y)(e:c=n):B0 knd I a D b c:=by
 obtain⟨f,g,h,i,j,k,l,m,o,p,q,r,s⟩:=x;exact⟨f,g,h,i,j,k,l,m,λy=>by rw[d];exact o y,p,q,by rw[e];exact r,s⟩
variable {tb:SetTable}
def Me(x:Gm I tb):Gm I {tb with plain:=false}:=⟨x.ris,x.dum,x.led⟩
def W1{ob:Obj}{es a:Array (Int×Value)}{ep:Nat}{b:SetTable}(h:s.heap.get? D=some ob)(d:ob.ExactSet)(i:ob.data=.set es ep tb)(j:ElemsOf knd a.toList)(k:∀y,M y=true↔∃e∈a.toList,knd.is y e.2=true)(f:a.size<scanBound)(l:b.fits a.size=true)(n:Gm I b){Q:Unit->Shared->Prop}
 (q:∀c,Heap.SameBut D s.heap c->(∃g,c.get? D=some g/\g.ExactSet/\g.data=.set a (ep+1) b)->B0 knd I c D M a.size->Q () {s with heap:=c}):wpAny (model prog w) A (storeSet D a b) Q E s:=by
 obtain⟨m,_⟩:=SetOf_store (knd:=knd) h d i j k f l;exact wpAny_storeSet_of h i (q _ (Heap.SameBut.update ..) ⟨_,m,d,rfl⟩ ⟨_,a,ep+1,b,m,d,rfl,j,k,f,l,rfl,n⟩) (fits_of_scanBound f)
def W2{l:Array (Int×Value)}{m:List (Int×Value)}(p:l.toList.Perm m):l.size=m.length:=by rw[<-Array.length_toList,p.length_eq]
def TV(b:Bool){u:Shared}{Q:Unit->Shared->Prop}(q:Q () u):wpAny (model prog w) A (match b with|true=>rule "set.scan.the-table-gave-way"|false=>pure ()) Q E u:=by
 cases b;exact Au q;exact G4 q
def W3{ob:Obj}{es c:Array (Int×Value)}{ep:Nat}{d:SetTable}(r:s.heap.get? D=some ob)(t:ob.ExactSet)(v:ob.data=.set es ep tb)(i:ElemsOf knd c.toList)(j:∀y,M y=true↔∃e∈c.toList,knd.is y e.2=true)(k:c.size<scanBound)(x:d.fits c.size=true)(l:Gm I d){z:Bool}{Q:Option Bool->Shared->Prop}
 {g:Bool->Sem Unit} (B:∀(b:Bool)(u:Shared)(m:Unit->Shared->Prop),m () u->wpAny (model prog w) A (g b) m E u)
 (q:∀f,Heap.SameBut D s.heap f->B0 knd I f D M c.size->Q (some true) {s with heap:=f}) :
 wpAny (model prog w) A (storeSet D c d >>= λζ=>if(!z && d.tooFull)=true then g (relayAll d c (SetTable.grown c.size)).2.2 >>= λζ=>storeSet D (relayAll d c (SetTable.grown c.size)).1 (relayAll d c (SetTable.grown c.size)).2.1 >>= λζ=>pure (some true) else pure (some true)) Q E s:=by
 refine Ad (W1 r t v i j k x l λf n⟨S,C,F,G⟩H=>?_);split;have h:=relayAll_perm d c (SetTable.grown c.size);have o:=relayAll_fits d c (SetTable.grown c.size);have tk:=dU l c (SetTable.grown c.size);generalize relayAll d c (SetTable.grown c.size)=J at h o tk;obtain⟨K,P,R⟩:=J;have p:K.size=c.size:=(W2 h).trans (Array.length_toList ..);refine Ad (B _ _ _ (Ad ?_));refine W1 (s:={s with heap:=f}) C F G (i.perm h) (λy=>(j y).trans ⟨λ⟨e,a,b⟩=>⟨e,h.mem_iff.mpr a,b⟩,λ⟨e,a,b⟩=>⟨e,h.mem_iff.mp a,b⟩⟩) (by rw[p];exact k) o tk λL N ζ O=>?_;exact Au (q L (n.trans N) (O.cong (λζ=>rfl) p.symm));exact Au (q f n H)
def JH{y:α}{x:Value}{Q:Bool->Shared->Prop}(t:knd.is y x=true)(v:x.scannable=true)(S:B0 knd I s.heap D M n)(aa:n+1<scanBound)
 (q:∀a,Heap.SameBut D s.heap a->B0 knd I a D (λz=>M z || decide (z=y)) (if M y then n else n+1)->Q (!M y) {s with heap:=a}):wpAny (model prog w) A (setAddHashed D x (knd.hash y)) Q E s:=by
 obtain⟨T,d,U,tb,g,B,h,o,p,G,C,H,J⟩:=S;unfold setAddHashed setAddHashedIn;refine Fa (Ad (wpAny_setState_of g h C ?_));dsimp only;rw[byScan_of v G o,Ak rfl];unfold setAddByScan;refine Ad (Ad (G4 (Ad (wpAny_setScan_of t g h C o ?_))))
 cases fd:List.findIdx? (λe=>knd.is y e.2) d.toList with
 |some j =>
   obtain⟨V,W,_⟩:=List.findIdx?_eq_some_iff_getElem.mp fd;have i:M y=true:=(p y).mpr ⟨_,Ec V,W⟩;dsimp only;refine Au (Au ?_)
   have P:=q s.heap (Heap.SameBut.refl ..) ⟨T,d,U,tb,g,B,h,o,λz=>by
    rw[<-p z,Bool.or_eq_true,decide_eq_true_eq];refine⟨λc=>?_,.inl⟩;rcases c with c|c;exact c;rw[c];exact i,G,C,by rw[i];exact H,J⟩
   rw[i] at P;exact P
 |none =>
   have i:M y=false:=by
    cases c:M y with
    |false=>rfl
    |true =>
      obtain⟨e,X,Y⟩:=(p y).mp c;have:=List.findIdx?_eq_none_iff.mp fd e X;rw[Y] at this;cases this
   dsimp only;have f:=layNew_perm tb d (knd.hash y) x;have k:=layNew_fits tb d (knd.hash y) x;have tk:=dS J d (knd.hash y) x;generalize layNew tb d (knd.hash y) x=Z at f k tk;obtain⟨r,t1,wd,gv⟩:=Z;dsimp only at f k tk;rw[Array.toList_push] at f;have K:r.size=n+1:=by rw[W2 f,AZ,Array.length_toList,H];rfl
   have L:ElemsOf knd r.toList:=(o.push t v).perm f;have N:=mem_push_iff t p f;have O:r.size<scanBound:=by rw[K];exact aa
   have R:∀a,Heap.SameBut D s.heap a->B0 knd I a D (λz=>M z || decide (z=y)) r.size->Q true {s with heap:=a}:=λa l m=>by
    have:=q a l;rw[i] at this;exact this (m.cong (λζ=>rfl) K.symm)
   refine Ad (TV _ ?_);split;rw[hashByValue_scannable 8 v];refine Ad (Au ?_);refine W3 g B h L N O (by split;exact k;exact SetTable.fits_plain_off k) (by split;exact tk;exact Me tk) (λb u Q' F=>TV b F) λa l m=>?_;exact Au (R a l m);refine Ad (Au ?_);rw[Ak rfl];exact W3 g B h L N O k tk (λb u Q' F=>TV b F) λa l m=>Au (R a l m)
end
abbrev BR (w:World):Bool:=!(w.params.followText "set-order")
abbrev HK (b:Bool):Obj:={cls:=.type "set",dict:=none,data:=.set #[] 0 (.fresh 0 0 b)}
section
variable {prog:Program} {w:World} {A:Around} {E:D'} {s:Shared}
theorem JI(x:Value){Q:D'}(q:Q (.ref s.heap.objs.size) {s with heap:=s.heap.push (HK (BR w))}) :
 codeAny (model prog w) A (.call (.builtin "set.__new__") ⟨[.type "set",x],[]⟩) (wants Q E) s:=by
 refine codeAny_of_tree ?_;show wpAny _ A.in1 (checkBuiltinCall "set.__new__" ⟨[.type "set",x],[]⟩ >>= λζ=>again (.builtin "set.__new__" ⟨[.type "set",x],[]⟩)) _ _ s;refine Ad (wpAny_of_eq (F.newCall_set_1 x) (Au ⟨plainId_quiet F.plain_set_new _,codeAny_builtin F.entry_set_new ?_⟩));rw[Around.under_plainId F.plain_set_new _];have a:=sub_set_self;unfold Builtin.«set.__new__» Builtin.Frozenset.newClass
 cases s with
 |mk b g d tk os =>
   dsimp only at q ⊢
   wp_walk
   refine wpAny_askSetting (Au ?_);dsimp only;simp only[newObj];exact Ad (wpAny_alloc (Au (Au q)))
end
def B1 (f:Nat->Int) (i:Nat):List Int:=((List.range i).map f).foldl step_dedup []
def O0(f:Nat->Int)(i:Nat):B1 f (i+1)=step_dedup (B1 f i) (f i):=by
 unfold B1;rw[List.range_succ,Bh,NR];rfl
def HL(l:List Int)(x:Int):(step_dedup l x).length=if l.any (·==x) then l.length else l.length+1:=by
 unfold step_dedup;split<;>simp
def HM(l:List Int)(x y:Int):(step_dedup l x).any (·==y)=(l.any (·==y) || decide (y=x)):=by
 unfold step_dedup;by_cases h:l.any (·==x)=true;rw[Ak h];by_cases e:y=x;subst e;rw[h];rfl;rw[Dw e,Bool.or_false];rw[Aj h,List.any_append];congr 1;by_cases e:y=x;subst e;simp;rw[Dw e]
 simp
 exact λz=>e z.symm
theorem W4(f:Nat->Int):∀i,(B1 f i).length<=i
 |0=>AE _
 |i+1=>by
   have:=W4 f i;rw[O0,HL];split<;>lia
theorem W5(f:Nat->Int):∀(i:Nat)(y:Int),(B1 f i).any (·==y)=true↔∃j,j<i/\f j=y
 |0,y=>by
   constructor;intro h;cases h;rintro⟨j,h,_⟩;lia
 |i+1,y=>by
   rw[O0,HM,Bool.or_eq_true,W5 f i y,decide_eq_true_iff];constructor;rintro(⟨j,h,e⟩|e);exact⟨j,by lia,e⟩;exact⟨i,by lia,e.symm⟩;rintro⟨j,h,e⟩;by_cases a:j=i;subst a;exact .inr e.symm;exact .inl ⟨j,by lia,e⟩
section
variable {prog:Program} {w:World} {A:Around} {R:Result->Shared->Prop} {It:Addr} {fp u:List Addr} {G:Array GenState->Array GenState->Prop} {n:Nat} {Pn:Nat->Value->Prop} {Sn:Nat->Shared->Prop}
theorem dV(c:WalksS prog w A.in1 It fp u G n Pn Sn)(D:Addr)(j:D∉fp)(f:Nat->Int)(q:∀i v,Pn i v->∃t,v=.int (f i) t)(Q:n+1<scanBound) :
 ∀(k i:Nat)(s:Shared),n-i=k->i<=n->Sn i s->B0 (intKind prog w) (BR w) s.heap D (λy=>(B1 f i).any (·==y)) (B1 f i).length ->
  (∀L,Moved (D::u) G s L->B0 (intKind prog w) (BR w) L.heap D (λy=>(B1 f n).any (·==y)) (B1 f n).length->R (.ok (.ret .none)) L) ->
  codeAny (model prog w) A (.builtin "set.update.loop" ⟨[.ref D,.ref It],[]⟩) R s:=by
 have m:D∉u:=λz=>j (c.sub _ z);have sub:∀b∈u,b∈D::u:=λb z=>B8 _ z;intro k
 induction k with
 |zero =>
   intro i s r x st g h;obtain rfl:i=n:=by lia
   refine codeAny_builtin F.entry_set_update_loop ?_;rw[Around.under_plainId F.plain_set_update_loop _];show wpAny _ A.in1 (pyNext (.ref It) >>= _) _ _ s;refine Ad (c.done s _ _ st λa d=>?_);show wpAny _ A.in1 (ret Value.none) _ _ a;refine Au (h a (d.mono sub) ?_);exact g.keep λB e=>d.heap D _ m e
 |succ k C =>
   intro i s r x st g h;have lt:i<n:=(by lia);refine codeAny_builtin F.entry_set_update_loop ?_;rw[Around.under_plainId F.plain_set_update_loop _];show wpAny _ A.in1 (pyNext (.ref It) >>= _) _ _ s;refine Ad (c.item i s _ _ lt st λv a pv I d=>?_);obtain⟨t,rfl⟩:=q i v pv;have J:B0 (intKind prog w) (BR w) a.heap D (λy=>(B1 f i).any (·==y)) (B1 f i).length:=g.keep λB e=>d.heap D _ m e;show wpAny _ A.in1 (holding [Value.int (f i) t] (setAdd D (.int (f i) t)) >>= _) _ _ a;refine Ad (Fa ?_);unfold setAdd;refine Fa ?_;have p:(intKind prog w).is (f i) (.int (f i) t)=true:=intKind_is _ _ _ _;refine Ad ((intKind prog w).pyHash (k:=f i) p ?_);have P:(B1 f i).length+1<scanBound:=by have:=W4 f i;lia
   refine JH (knd:=intKind prog w) (s:={a with toks:=a.toks+1}) p rfl J P λE l K=>?_
   have M:B0 (intKind prog w) (BR w) E D (λy=>(B1 f (i+1)).any (·==y)) (B1 f (i+1)).length:=
    K.cong (λy=>by rw[O0,HM]) (by rw[O0,HL])
   refine Au ⟨plainId_quiet F.plain_set_update_loop _,C (i+1) _ (by lia) lt (c.frame _ a _ _ I (Nat.le_succ _) λb hb o e=>?_) M λH N O=>?_⟩;rw[l.2 b λz:b=D=>j (by rw[<-z];exact hb)];exact e;refine h H (Moved.trans c.gtrans ((d.mono sub).then_heap (Nat.le_succ _) λb o hb e=>?_) N) O;rw[l.2 b λz:b=D=>hb (by rw[z];exact Bu)];exact e
end
section
variable {prog:Program} {w:World} {A:Around} {E:D'} {s:Shared}
set_option maxRecDepth 100000 in
set_option maxHeartbeats 3200000 in
theorem dX {l:Addr} {a:Array Value} {f:Nat->Int} {Q:D'} (I:A.handled=none) (J:s.heap.IsList l a) (K:∀ (i:Nat) (v:Value),a[i]? = some v -> ∃ t,v=.int (f i) t) (hb:a.size + 1 < scanBound)
 (h:∀(h':Heap)(tk:Nat),B0 (intKind prog w) (BR w) h' s.heap.objs.size (λy=>(B1 f a.size).any (·==y)) (B1 f a.size).length ->
  (∀b o,b<s.heap.objs.size->s.heap.get? b=some o->h'.get? b=some o)->Q (.ref s.heap.objs.size) {s with heap:=h',toks:=tk}) :
 wpAny (model prog w) A (call (.type "set") [.ref l]) Q E s:=by
 obtain⟨c,tl,an⟩:=F.called_set.mro;have au:=F.called_set.made;have ao:=F.called_set.sub;refine wpAny_call (codeAny_of_tree ?_);show wpAny _ _ (callAny (.type "set") _) _ _ _;refine Au ⟨Code.quiet_builtin _ (by decide +kernel),codeAny_builtin F.entry_type_call ?_⟩;rw[Around.under_plain (weight_type_call_type "set" [.ref l] []) rfl];have h1:=F.called_set.notType;have h2:=F.called_set.canCreate;have ah:=F.typeCall_set_1 (.ref l)
 repeat (any_goals (first|assumption|wp_step))
 refine codeAny_mono (JI (.ref l) (E:=E) (Q:=λm n=>m=.ref s.heap.objs.size/\n={s with heap:=s.heap.push (HK (BR w))}) ⟨rfl,rfl⟩) λr n g=>?_
 cases r with
 |error e=>exact g
 | ok L =>
   cases L with
   | ret m =>
     obtain⟨rfl,rfl⟩:=g;have p:(s.heap.push (HK (BR w))).get? s.heap.objs.size=some (HK (BR w)):=B9 _ rfl;have M:Shared.TypeIs {s with heap:=s.heap.push (HK (BR w))} (.ref s.heap.objs.size) "set" :=⟨_,p,rfl⟩;have ai:=F.called_set.init.lookup;have aj:=F.called_set.init.bind (.ref s.heap.objs.size)
     repeat (any_goals (first|assumption|wp_step))
     refine codeAny_mono (codeAny_call_builtin (R:=wants (λr q=>r=.none/\∃h' tk,q={s with heap:=h',toks:=tk}/\B0 (intKind prog w) (BR w) h' s.heap.objs.size (λy=>(B1 f a.size).any (·==y)) (B1 f a.size).length /\
      (∀b o,b<s.heap.objs.size->s.heap.get? b=some o->h'.get? b=some o)) E) F.called_set.init.plain F.entry_set_init (check_set_init_1 M ?_)) λN q j=>?_
     . obtain⟨⟨oc,O,ak,V⟩,B,C,u,D⟩:=J
       simp only at C D;subst C;subst D;have ag:(s.heap.push (HK (BR w))).get? l=some {cls:=.type "list",dict:=O,data:=.seq a u,slots:=V}:=Ba _ B;have aq:=F.sub_list_set;have ar:=F.sub_list_frozenset;have al:(Value.type "list" == Value.type "dict")=false:=(by decide);have G:(s.heap.push (HK (BR w))).IsList l a:=⟨_,ag,rfl,u,rfl⟩;unfold Builtin.«set.__init__» noKeywords Builtin.Frozenset.updateFrom;generalize W:pyIter=PI
       wp_walk
       subst W;refine wpAny_pyIter_list G (Ad (wpAny_runValue ?_));have H:l<s.heap.objs.size:=Bl B;have X:A.in1.in1.in1.handled=none:=(by simp[I])
       have Y:l≠(s.heap.push (HK (BR w))).objs.size:=by
        rw[Heap.size_push];exact Cq (Nat.lt_succ_of_lt H)
       have Z:s.heap.objs.size∉[(s.heap.push (HK (BR w))).objs.size,l]:=by
        rw[Heap.size_push];intro z;rcases BV.mp z with z|z;exact absurd z (Cq (PM _));exact absurd (AW.mp z) (Nat.ne_of_gt H)
       refine dV ((Walks.list X _ l Y a).toS) s.heap.objs.size Z f K hb (a.size-0) 0 _ (by lia) (C7 _) ⟨⟨_,B9 _ rfl,rfl,rfl⟩,(G.push _)⟩ ?hS0 ?hR
       case hS0 =>
        have P:((s.heap.push (HK (BR w))).push {cls:=.type "list_iterator",data:=.fields #[.ref l,.int 0 0]}).get? s.heap.objs.size=some (HK (BR w)):=Ba _ p;exact⟨_,#[],0,_,P,⟨rfl,rfl,rfl⟩,rfl,(λe S=>by simp at S),(λy=>by simp[B1]),by decide,rfl,rfl,⟨List.Pairwise.nil,rfl,rfl⟩⟩
       case hR =>
        rintro⟨h',T,U,aa,ab⟩ d k;obtain rfl:T=s.gens:=d.gens;obtain rfl:U=s.drawn:=d.drawn;obtain rfl:ab=s.os:=d.os;show wpAny _ _ _ _ _ _;refine Au ?_;show wpAny _ _ (ret Value.none) _ _ _;refine Au ⟨rfl,h',aa,rfl,k,λb o hb e=>?_⟩;refine d.heap b o (λz=>?_) (Ba _ (Ba _ e));rcases BV.mp z with z|z;exact absurd z (Cq hb);have x:=AW.mp z;rw[Heap.size_push] at x;exact absurd x (Cq (Nat.lt_succ_of_lt hb))
     . cases N with
       |error e=>exact j
       |ok ae =>
         cases ae with
         |ret r =>
           obtain⟨rfl,h',tk,rfl,k,af⟩:=j
           repeat (any_goals (first|assumption|wp_step))
           exact h _ _ k af
         |_=>exact j.elim
   |_=>exact g.elim
end
def dY:entryFor table "set.__iter__" = some Builtin.«frozenset.__iter__»:=entryFor_alias (id':= "frozenset.__iter__") (by kernel_rfl) rfl (by decide +kernel) (by kernel_rfl)
def BB:Slot "set_iterator" "__next__" "set_iterator.__next__" :=.of (owner:= "set_iterator") (n:= "__next__") (by rw[typeLookup_type,builtinLookup_eq_fast];kernel_rfl) (by decide +kernel) (by decide +kernel) (by decide +kernel) (by first|exact .inl (by decide +kernel)|exact .inr (by decide +kernel)) (by rw[isSubtype_type];kernel_rfl)
def QC:entryFor table "set_iterator.__next__" = some Builtin.«set_iterator.__next__»:=entryFor_of_tree (by kernel_rfl)
def W6:Manifest.owners.lookup (String.ofList ['r','o','t','a','r','e','t','i','_','t','e','s'].reverse)=some Manifest.sig_set_iterator:=by kernel_rfl
def QD(a:Value):argsOk "set_iterator.__next__" ⟨[a],[]⟩:=by
 unfold argsOk;rw[signature?_of (id:= "set_iterator.__next__") (n:=['_','_','t','x','e','n','_','_']) (o:=['r','o','t','a','r','e','t','i','_','t','e','s']) (by kernel_rfl) W6];kernel_rfl
abbrev El (f:Value) (i n ep:Nat) (D:Addr):Obj:={cls:=.type "set_iterator",data:=.fields #[f,rawInt i,.ref D,rawInt n,rawInt ep]}
structure EO (hp:Heap) (D:Addr) (es:Array (Int×Value)) (ep:Nat) (tb:SetTable):Prop where
 ex:∃ob,hp.get? D=some ob/\ob.ExactSet/\ob.data=.set es ep tb
 fit:tb.fits es.size=true
section
variable {prog:Program} {w:World} {A:Around} {E:D'} {s:Shared} {It D:Addr} {es:Array (Int×Value)} {ep:Nat} {tb:SetTable}
def EO.entries(x:EO s.heap D es ep tb){Q:Array (Int×Value)->Shared->Prop}(q:Q es s):wpAny (model prog w) A (setEntries D) Q E s:=by
 obtain⟨b,a,_,c⟩:=x.ex;exact wpAny_setEntries_of a c x.fit q
def EO.state(x:EO s.heap D es ep tb){Q:(Array (Int×Value)×Nat×SetTable)->Shared->Prop}(q:Q (es,ep,tb) s):wpAny (model prog w) A (setState D) Q E s:=by
 obtain⟨b,a,_,c⟩:=x.ex;exact wpAny_setState_of a c x.fit q
def EO.keep{c d:Heap}(x:EO c D es ep tb)(k:∀ob,c.get? D=some ob->d.get? D=some ob):EO d D es ep tb:=by
 obtain⟨ob,a,b⟩:=x.ex;exact⟨⟨ob,k _ a,b⟩,x.fit⟩
def dZ{c a:Nat}{v:Value}{Q:Option Value->Shared->Prop}(hit:s.heap.get? It=some (El (rawInt c) i es.size ep D))(g:EO s.heap D es ep tb)
 (h:∀(B:Around)(j:D')(d:Option (Value×Nat)->Shared->Prop),d (some (v,a)) s->wpAny (model prog w) B (setNext D c i ep) d j s)
 (q:∀b,b.get? It=some (El (rawInt a) (i+1) es.size ep D)->Heap.SameBut It s.heap b->Q (some v) {s with heap:=b}):wpAny (model prog w) A (pyNext (.ref It)) Q E s:=by
 have e:s.TypeIs (.ref It) "set_iterator" :=⟨_,hit,rfl⟩;unfold pyNext;refine Ad (wpAny_attempt (wpAny_callSpecial?_slot (name:=Str.ofString "__next__") e BB (wpAny_call_entry BB e QC ?_ (QD _))));unfold Builtin.«set_iterator.__next__» slotArgs;simp only[List.isEmpty_nil,Bool.not_true,E9,↓reduceIte,GO,bne_self_eq_false];refine Ad (Au ?_);refine Ad (wpAny_fieldsOf hit rfl ?_);show wpAny _ _ (setEntries D >>= _) _ _ s;refine Ad (g.entries ?_);rw[Aj (by simp)];refine Ad (h _ _ _ ?_);show wpAny _ _ (setField (Value.ref It) 0 (rawInt a) >>= _) _ _ s;refine Ad (wpAny_setField hit rfl (by simp) ?_);have f:(s.heap.update It (Obj.mapFields (·.setIfInBounds 0 (rawInt a)))).get? It=some (El (rawInt a) i es.size ep D):=Heap.get?_update_self _ hit rfl;refine Ad (wpAny_setField f rfl (by simp) ?_);have k:=Heap.get?_update_self (Obj.mapFields (·.setIfInBounds 1 (rawInt ((i:Int)+1)))) f rfl;exact Au ⟨_,rfl,Au (q _ k ((Heap.SameBut.update ..).trans (Heap.SameBut.update ..)))⟩
def W7{vs:Array Value}{ob:Obj}{Q:Option Value->Shared->Prop}(d:A.handled=none)(hit:s.heap.get? It=some ob)(hd:ob.data=.fields vs)(hz:2<vs.size)
 (q:∀c,Heap.ExtBut It s.heap c->Q none {s with heap:=c}):wpAny (model prog w) A.in1 (setField (Value.ref It) 2 Value.none >>= λζ=>newExc (Value.type "StopIteration") [] >>= λe=>raiseNew (α:=Fin) e) (λf L=>∃v,f=Fin.done (Flow.ret v)/\wpAny (model prog w) A (pure (some v)) Q E L)
  (λe L=>wpAny (model prog w) A (isInstance e (Value.type "StopIteration") >>= λb=>if b=true then pure none else throw e) Q E L) s:=by
 refine Ad (wpAny_setField hit hd hz ?_);refine Ad ?_;simp only[newExc,newTuple];refine Ad (wpAny_newObj_type ?_ (by size_fits));refine Ad (m:=firstArgMember _ _) (wpAny_of_eq (a:=Value.none) (by first|rfl|(simp only[firstArgMember];rfl)) ?_);refine wpAny_newObj_type ?_ (by size_fits);simp only[raiseNew];refine Ad (wpAny_handled ?_);rw[show A.in1.handled=none from d];refine Ad (Au (wpAny_throw ?_))
 refine Ad (wpAny_isInstance (T:= "StopIteration") (b:=true) ⟨_,B9 _ rfl,rfl⟩ isSubtype_stop ?_);exact Au (q _ (((Heap.SameBut.update ..).extBut.push _).push _))
def d0{a:Nat}{Q:Option Value->Shared->Prop}(e:A.handled=none)(hit:s.heap.get? It=some (El (rawInt a) i es.size ep D))(f:EO s.heap D es ep tb)
 (g:∀(B:Around)(h:D')(b:Option (Value×Nat)->Shared->Prop),b none s->wpAny (model prog w) B (setNext D a i ep) b h s)
 (q:∀c,Heap.ExtBut It s.heap c->Q none {s with heap:=c}):wpAny (model prog w) A (pyNext (.ref It)) Q E s:=by
 have d:s.TypeIs (.ref It) "set_iterator" :=⟨_,hit,rfl⟩;unfold pyNext;refine Ad (wpAny_attempt (wpAny_callSpecial?_slot (name:=Str.ofString "__next__") d BB (wpAny_call_entry BB d QC ?_ (QD _))));unfold Builtin.«set_iterator.__next__» slotArgs;simp only[List.isEmpty_nil,Bool.not_true,E9,↓reduceIte,GO,bne_self_eq_false];refine Ad (Au ?_);refine Ad (wpAny_fieldsOf hit rfl ?_);show wpAny _ _ (setEntries D >>= _) _ _ s;refine Ad (f.entries ?_);rw[Aj (by simp)];refine Ad (g _ _ _ ?_);exact W7 e hit rfl (by simp) q
def d3{b:Array Value}{p:Nat}{t:Tok}{v:Value}{hv:Int}{Q:Option Value->Shared->Prop}(hit:s.heap.get? It=some (El (.ref T) i es.size ep D))(c:EO s.heap D es ep tb)(g:s.heap.IsTuple T b)(a:b[i]?=some (.int p t))(hv:es[p]?=some (hv,v))
 (q:∀a,a.get? It=some (El (.ref T) (i+1) es.size ep D)->Heap.SameBut It s.heap a->Q (some v) {s with heap:=a}):wpAny (model prog w) A (pyNext (.ref It)) Q E s:=by
 have d:s.TypeIs (.ref It) "set_iterator" :=⟨_,hit,rfl⟩;obtain⟨h,e,j,nn,dt⟩:=g;unfold pyNext;refine Ad (wpAny_attempt (wpAny_callSpecial?_slot (name:=Str.ofString "__next__") d BB (wpAny_call_entry BB d QC ?_ (QD _))));unfold Builtin.«set_iterator.__next__» slotArgs;simp only[List.isEmpty_nil,Bool.not_true,E9,↓reduceIte,GO,bne_self_eq_false];refine Ad (Au ?_);refine Ad (wpAny_fieldsOf hit rfl ?_);show wpAny _ _ (setEntries D >>= _) _ _ s;refine Ad (c.entries ?_);rw[Aj (by simp)];show wpAny _ _ (seqItems? (.ref T) >>= _) _ _ s;refine Ad (F2 e dt ?_)
 show wpAny _ _ (match b[i]? with|some (Value.int place tok)=>_|some val=>_|none=>_) _ _ s
 rw[a];show wpAny _ _ (setNextDrawn D p ep >>= _) _ _ s;refine Ad ?_;unfold setNextDrawn;refine Ad (c.state ?_);dsimp only;rw[Aj (by simp)];rw[hv];refine Au ?_;show wpAny _ _ (setField (Value.ref It) 1 (rawInt ((i:Int)+1)) >>= _) _ _ s;refine Ad (wpAny_setField hit rfl (by simp) ?_);have f:=Heap.get?_update_self (Obj.mapFields (·.setIfInBounds 1 (rawInt ((i:Int)+1)))) hit rfl;exact Au ⟨_,rfl,Au (q _ f (Heap.SameBut.update ..))⟩
def d4{b:Array Value}{Q:Option Value->Shared->Prop}(d:A.handled=none)(hit:s.heap.get? It=some (El (.ref T) i es.size ep D))(e:EO s.heap D es ep tb)(h:s.heap.IsTuple T b)(a:b[i]?=none)
 (q:∀a,Heap.ExtBut It s.heap a->Q none {s with heap:=a}):wpAny (model prog w) A (pyNext (.ref It)) Q E s:=by
 have c:s.TypeIs (.ref It) "set_iterator" :=⟨_,hit,rfl⟩;obtain⟨j,f,k,nn,dt⟩:=h;unfold pyNext;refine Ad (wpAny_attempt (wpAny_callSpecial?_slot (name:=Str.ofString "__next__") c BB (wpAny_call_entry BB c QC ?_ (QD _))));unfold Builtin.«set_iterator.__next__» slotArgs;simp only[List.isEmpty_nil,Bool.not_true,E9,↓reduceIte,GO,bne_self_eq_false];refine Ad (Au ?_);refine Ad (wpAny_fieldsOf hit rfl ?_);show wpAny _ _ (setEntries D >>= _) _ _ s;refine Ad (e.entries ?_);rw[Aj (by simp)];show wpAny _ _ (seqItems? (.ref T) >>= _) _ _ s;refine Ad (F2 f dt ?_)
 show wpAny _ _ (match b[i]? with|some (Value.int place tok)=>_|some val=>_|none=>_) _ _ s
 rw[a];show wpAny _ _ (setField (Value.ref It) 0 (rawInt 0) >>= _) _ _ s;refine Ad (wpAny_setField hit rfl (by simp) ?_);have g:=Heap.get?_update_self (Obj.mapFields (·.setIfInBounds 0 (rawInt 0))) hit rfl;exact W7 d g rfl (by simp) λa ex=>q a ((Heap.SameBut.update ..).extBut.trans ex)
def HN{v:Value}{n:Int}(h:(intKind prog w).is n v=true):∃t,v=.int n t:=by
 have a:Value.isInt n v=true:=h;cases v<;>simp[Value.isInt] at a;subst a;exact⟨_,rfl⟩
theorem TX{α:Type}:∀{l:List α}{i:Nat}(h:i<l.length),(l[i]::l.eraseIdx i).Perm l
 |x::l,0,_=>List.Perm.refl _
 |x::l,i+1,h=>(List.Perm.swap x _ _).trans (List.Perm.cons x (TX (l:=l) (i:=i) (by simpa using h)))
theorem W8{α:Type}(nx:Nat->Nat):∀(a k:Nat)(left:List α)(out:Array α),left.length=a->(pickOrder.go nx a k left out).toList.Perm (out.toList++left)
 |0,k,left,out,h=>by
   rw[List.length_eq_zero_iff.mp h];unfold pickOrder.go
   simp
 |a+1,k,left,out,h=>by
   have b:nx k%left.length<left.length:=Nat.mod_lt _ (by lia);unfold pickOrder.go;rw[AD b];dsimp only;refine(W8 nx a (k+1) _ _ (by rw[List.length_eraseIdx,Ak b];lia)).trans ?_;rw[Array.toList_push,FZ];refine List.Perm.append_left _ ?_;exact TX b
def d5{c:Source}{Q:Nat->Shared->Prop}(a:n≠0)(q:∀i b,i<n->Q i {s with drawn:=b}):wpAny (model prog w) A (choose c n) Q E s:=
 λζ ζ ζ=>⟨a,q _ _ (Nat.mod_lt _ (Nat.pos_of_ne_zero a))⟩
theorem W9{α:Type}:∀(n:Nat)(xs:List α){A:Around}{E:D'}{s:Shared}{Q:List α->Shared->Prop},xs.length=n->(∀ys b,ys.Perm xs->Q ys {s with drawn:=b})->wpAny (model prog w) A (drawOrder n xs) Q E s
 |0,xs,A,E,s,Q,h,q=>by
   have e:=List.length_eq_zero_iff.mp h;subst e;unfold drawOrder;exact Au (q [] s.drawn (List.Perm.refl _))
 |n+1,[],A,E,s,Q,h,q=>by cases h
 |n+1,x::xs,A,E,s,Q,h,q=>by
   unfold drawOrder;refine Ad (d5 (by simp) λi b a=>?_);rw[AD a];dsimp only;refine Ad (W9 n _ (by rw[List.length_eraseIdx,Ak a];lia) λys d c=>?_);exact Au (q _ d ((List.Perm.cons _ c).trans (TX a)))
end
def Xa:Slot "set_iterator" "__iter__" "set_iterator.__iter__" :=.of (owner:= "set_iterator") (n:= "__iter__") (by rw[typeLookup_type,builtinLookup_eq_fast];kernel_rfl) (by decide +kernel) (by decide +kernel) (by decide +kernel) (by first|exact .inl (by decide +kernel)|exact .inr (by decide +kernel)) (by rw[isSubtype_type];kernel_rfl)
def d6:entryFor table "set_iterator.__iter__" = some Builtin.«dict_keyiterator.__iter__»:=entryFor_alias (id':= "dict_keyiterator.__iter__") (by kernel_rfl) rfl (by decide +kernel) (by kernel_rfl)
def d7(a:Value):argsOk "set_iterator.__iter__" ⟨[a],[]⟩:=by
 unfold argsOk;rw[signature?_of (id:= "set_iterator.__iter__") (n:=['_','_','r','e','t','i','_','_']) (o:=['r','o','t','a','r','e','t','i','_','t','e','s']) (by kernel_rfl) W6];kernel_rfl
section
variable {prog:Program} {w:World} {A:Around} {E:D'} {s:Shared} {It D:Addr} {es:Array (Int×Value)} {ep:Nat} {tb:SetTable}
def Xb{f:Value}{Q:D'}(hit:s.heap.get? It=some (El f i n ep D))(q:Q (.ref It) s):wpAny (model prog w) A (pyIter (.ref It)) Q E s:=by
 have a:s.TypeIs (.ref It) "set_iterator" :=⟨_,hit,rfl⟩;refine wpAny_pyIter_slot a Xa (wpAny_call_entry Xa a d6 ?_ (d7 _));show wpAny _ _ (ret (.ref It)) _ _ s;exact Au ⟨_,rfl, "set_iterator",_,a,BB.lookup,q⟩
def Mf{b:Addr}(h:b∈[It]):b∈[It,D]:=by rw[AW.mp h];exact Bu
def Xc(p:A.handled=none)(r:It≠D)(f:Nat->Nat)(vs:List Value)(G:vs.length=es.size)
 (t:∀(i:Nat)(v:Value)(s:Shared)(B:Around)(d:D')(c:Option (Value×Nat)->Shared->Prop),vs[i]?=some v->EO s.heap D es ep tb->c (some (v,f (i+1))) s->wpAny (model prog w) B (setNext D (f i) i ep) c d s)
 (u:∀(s:Shared)(B:Around)(d:D')(c:Option (Value×Nat)->Shared->Prop),EO s.heap D es ep tb->c none s->wpAny (model prog w) B (setNext D (f es.size) es.size ep) c d s) :
 Walks prog w A It [It,D] [It] es.size (λi v=>vs[i]?=some v) (λi h=>h.get? It=some (El (rawInt (f i)) i es.size ep D)/\EO h D es ep tb) where
 sub:=λb hb=>Mf hb
 frame:=λi h H⟨a,b⟩k=>⟨k It Bu _ a,b.keep λy e=>k D (by simp) _ e⟩
 item:=λi s Q E I⟨a,b⟩q=>by
  have F:i<vs.length:=(by lia);have m:=AD F;refine dZ (v:=vs[i]) a b (λB d c g=>t i _ s B d c m b g) λj C n=>?_;have:=q vs[i] j s.toks m ⟨C,b.keep λy e=>(n.2 D (Ne.symm r)).trans e⟩ λx o l e=>(n.2 x (λz=>l (by rw[z];exact Bu))).trans e;exact this
 done:=λs Q E⟨a,b⟩q=>d0 p a b (λB d c g=>u s B d c b g) λj ex=>q j s.toks λx o l e=>ex x o (λz=>l (by rw[z];exact Bu)) e
 self:=λi s Q E⟨a,_⟩q=>Xb a q
def d8(m:A.handled=none)(n:It≠D)(r:It≠T)(f:List Nat)(vs:List Value)(G:vs.length=es.size)(hv:∀(i:Nat)(v:Value),vs[i]?=some v->∃(p:Nat)(x:Int),f[i]?=some p/\es[p]?=some (x,v))(d:f.length=es.size) :
 Walks prog w A It [It,D,T] [It] es.size (λi v=>vs[i]?=some v) (λi h=>h.get? It=some (El (.ref T) i es.size ep D)/\EO h D es ep tb/\h.IsTuple T (f.map λp:Nat=>rawInt (p:Int)).toArray) where
 sub:=λb hb=>by rw[AW.mp hb];exact Bu
 frame:=λi h H⟨a,b,c⟩k=>⟨k It Bu _ a,b.keep λu e=>k D (by simp) _ e,let ⟨o,e,x⟩:=c;⟨o,k T (by simp) _ e,x⟩⟩
 item:=λi s Q E I⟨a,b,c⟩q=>by
  have F:i<vs.length:=(by lia);have l:=AD F;obtain⟨p,x,y,B⟩:=hv i _ l;refine d3 (v:=vs[i]) (hv:=x) (t:=0) a b c (by simp[y,rawInt]) B λd C g=>?_;exact q vs[i] d s.toks l ⟨C,b.keep λu e=>(g.2 D (Ne.symm n)).trans e,let ⟨o,e,x⟩:=c;⟨o,(g.2 T (Ne.symm r)).trans e,x⟩⟩ λx o j e=>(g.2 x (λz=>j (by rw[z];exact Bu))).trans e
 done:=λs Q E⟨a,b,c⟩q=>d4 m a b c (by simp[d]) λd ex=>q d s.toks λx o j e=>ex x o (λz=>j (by rw[z];exact Bu)) e
 self:=λi s Q E⟨a,_⟩q=>Xb a q
structure EQ (prog:Program) (w:World) (A:Around) (h0 hp:Heap) (D It:Addr) (ks:List Int):Prop where
 walk:∃(fp:List Addr)(St:Nat->Heap->Prop),Walks prog w A It fp [It] ks.length (λi v=>∃t,v=.int (ks.getD i 0) t) St/\St 0 hp/\∀b∈fp,b=D\/h0.objs.size<=b
 keep:∀b o,h0.get? b=some o->hp.get? b=some o
 new:h0.objs.size<=It
def Walks.weaker{a u:List Addr}{P b:Nat->Value->Prop}{St:Nat->Heap->Prop}(W:Walks prog w A It a u n P St)(h:∀i v,P i v->b i v):Walks prog w A It a u n b St where
 sub:=W.sub
 frame:=W.frame
 item:=λi s Q E c st q=>W.item i s Q E c st λv d tk pv=>q v d tk (h i v pv)
 done:=W.done
 self:=W.self
def TY{M:Int->Bool}{vs:List Value}(s:ElemsOf (intKind prog w) es.toList)(u:∀y,M y=true↔∃e∈es.toList,(intKind prog w).is y e.2=true)(f:vs.Perm (es.toList.map (·.2))):∃ks:List Int,ks.length=vs.length/\(∀(i:Nat)(v:Value),vs[i]?=some v->∃t,v=.int (ks.getD i 0) t)/\∀y,M y=true↔y∈ks:=by
 have z:∀v∈vs,∃n t,v=Value.int n t:=λv g=>by
  obtain⟨e,c,rfl⟩:=AL.mp (f.mem_iff.mp g);obtain⟨⟨k,A,_⟩,_⟩:=s e c;obtain⟨t,j⟩:=HN A;exact⟨k,t,j⟩
 have B:∀l:List Value,(∀v∈l,∃n t,v=Value.int n t)->∃ks:List Int,ks.length=l.length/\∀(i:Nat)(v:Value),l[i]?=some v->∃t,v=.int (ks.getD i 0) t:=λl=>by
  induction l with
  |nil=>exact λζ=>⟨[],rfl,λi v h=>by cases h⟩
  |cons x l C =>
    intro q;obtain⟨ks,a,b⟩:=C λv g=>q v (B8 _ g);obtain⟨n,t,e⟩:=q x Bu;refine⟨n::ks,by simp[a],λi v h=>?_⟩
    cases i with
    |zero=>simp at h;subst h;exact⟨t,e⟩
    |succ i=>simpa using b i v (by simpa using h)
 obtain⟨ks,a,b⟩:=B vs z;refine⟨ks,a,b,λy=>?_⟩;rw[u y];constructor;rintro⟨e,c,m⟩;obtain⟨t,j⟩:=HN m;have D:e.2∈vs:=f.mem_iff.mpr (AL.mpr ⟨e,c,rfl⟩);obtain⟨i,o,p⟩:=List.getElem_of_mem D;obtain⟨G,d⟩:=b i _ (AD o);rw[p,j] at d;have E:y=ks.getD i 0:=(by injection d);rw[E,EA,AD (show i<ks.length by lia)];exact Ec _;intro m;obtain⟨i,o,p⟩:=List.getElem_of_mem m;have r:i<vs.length:=(by lia);obtain⟨t,d⟩:=b i _ (AD r);obtain⟨e,c,F⟩:=AL.mp (f.mem_iff.mp (Ec r));refine⟨e,c,?_⟩;rw[F,d,EA,AD o];show(intKind prog w).is y (.int ks[i] t)=true;rw[p];exact intKind_is _ _ _ _
def Xd{ks:List Int}:∀{vs:List Value},vs.length=ks.length->(∀(i:Nat)(v:Value),vs[i]?=some v->∃t,v=.int (ks.getD i 0) t)->IntsAre vs ks:=by
 induction ks with
 |nil=>intro vs a _;cases vs with
   |nil=>exact .nil
   |cons _ _=>simp at a
 |cons x r b =>
   intro vs a h
   cases vs with
   |nil=>simp at a
   |cons v vs =>
     obtain⟨t,e⟩:=h 0 v rfl;obtain rfl:v=.int x t:=e;exact .cons _ _ (b (by simpa using a) λi u c=>h (i+1) u (by simpa using c))
def EQ.of{a c:Heap}{d:List Addr}{m:Nat}{vs:List Value}{St:Nat->Heap->Prop}{ks:List Int}(W:Walks prog w A It d [It] m (λi v=>vs[i]?=some v) St)(e:ks.length=m)(f:∀(i:Nat)(v:Value),vs[i]?=some v->∃t,v=.int (ks.getD i 0) t)(st:St 0 c)(lt:∀b∈d,b=D\/a.objs.size<=b)(g:∀b o,a.get? b=some o->c.get? b=some o)(h:a.objs.size<=It):EQ prog w A a c D It ks:=
 ⟨⟨d,St,by rw[e];exact Walks.weaker W f,st,lt⟩,g,h⟩
def TZ{f:Value}{Q:D'}(b:EO s.heap D es ep tb)(q:Q (.ref s.heap.objs.size) {s with heap:=s.heap.push (El f 0 es.size ep D)}) :
 wpAny (model prog w) A (setEpoch D >>= λe=>newFields "set_iterator" [f,rawInt 0,Value.ref D,rawInt ↑es.size,rawInt ↑e] >>= λv=>ret v) (λg L=>∃v,g=Fin.done (Flow.ret v)/\∃d r,L.TypeIs v d/\typeLookup (Value.type d) (Str.ofString "__next__")=pure (some r)/\Q v L) E s:=by
 obtain⟨h,a,_,c⟩:=b.ex;refine Ad (wpAny_setEpoch_of a c b.fit ?_);refine Ad (wpAny_newObj_type (Au ⟨_,rfl, "set_iterator",_,⟨_,B9 _ rfl,rfl⟩,BB.lookup,?_⟩));exact q
def Xe{nx:Nat->Nat}{a:Nat}{v:Option (Value×Nat)}(hb:w.params.followText "set-order" = true)(d:w.params.setOrder D ep=nx)(hv:((pickOrder nx es)[i]?).map (λe=>(e.2,a))=v)(b:EO s.heap D es ep tb){Q:Option (Value×Nat)->Shared->Prop}(q:Q v s):wpAny (model prog w) A (setNext D a i ep) Q E s:=by
 unfold setNext;refine Ad (b.state ?_);dsimp only;unfold setsByText;refine Ad (Ad (wpAny_askSetting (Au ?_)));have c:(model prog w).w.params.followText "set-order" = true:=hb;dsimp only;rw[c,Ak rfl];rw[Aj (by simp)];refine Ad ?_;unfold setWalk setsByText;refine Ad (b.state ?_);dsimp only;refine Ad (Ad (wpAny_askSetting (Au ?_)));dsimp only;rw[c,Ak rfl];refine Ad (wpAny_askSetting ?_);refine Au ?_;have f:(model prog w).w.params.setOrder D ep=nx:=d;dsimp only;rw[f,hv];exact Au q
def Xf{a:Nat}{v:Option (Value×Nat)}(hb:w.params.followText "set-order" = false)(c:(!tb.plain && decide (es.size > 1))=false)(d:tb.led=true)(hv:(∃h x j,es[SetTable.below tb.place a]?=some (h,x)/\tb.place[SetTable.below tb.place a]?=some j/\v=some (x,j+1))\/(es[SetTable.below tb.place a]?=none/\v=none))(e:EO s.heap D es ep tb){Q:Option (Value×Nat)->Shared->Prop}(q:Q v s):wpAny (model prog w) A (setNext D a i ep) Q E s:=by
 unfold setNext;refine Ad (e.state ?_);dsimp only;unfold setsByText;refine Ad (Ad (wpAny_askSetting (Au ?_)));have g:(model prog w).w.params.followText "set-order" = false:=hb
 dsimp only;rw[g,Aj CB];refine wpAny_ite_split (λh=>absurd (show(!tb.plain && decide (es.size > 1))=true from h) (by rw[c];exact CB)) (λζ=>?_);refine Ad ?_;show wpAny _ _ (if(!tb.led && !es.isEmpty)=true then _ else _) _ _ _;rw[d];simp only[Bool.not_true,Bool.false_and,E9,↓reduceIte];refine Au ?_
 rcases hv with⟨h,x,j,b,f,rfl⟩|⟨b,rfl⟩;rw[b,f];exact Au q;rw[b];exact Au q
theorem d9 {M:Int->Bool}{Q:D'} (I:A.handled=none) (hS:B0 (intKind prog w) (BR w) s.heap D M n)
 (q:∀(It:Addr)(r:Heap)(J:Drawn)(ks:List Int),ks.length=n->(∀y,M y=true↔y∈ks)->EQ prog w A s.heap r D It ks->Q (.ref It) {s with heap:=r,drawn:=J}):wpAny (model prog w) A (pyIter (.ref D)) Q E s:=by
 obtain⟨t,es,ep,tb,K,Y,x3,N,O,x6,Z,P,R⟩:=hS;have k:EO s.heap D es ep tb:=⟨⟨t,K,Y,x3⟩,Z⟩;have hT:s.TypeIs (.ref D) "set" :=⟨t,K,Y.1⟩;have aa:D<s.heap.objs.size:=Bl K;refine wpAny_pyIter_slot hT F.slot_set_iter (wpAny_call_entry F.slot_set_iter hT dY ?_ (F.args_set_iter_1 _));unfold Builtin.«frozenset.__iter__» Builtin.Frozenset.slot0 slotArgs;simp only[List.isEmpty_nil,Bool.not_true,E9,↓reduceIte,bind_assoc,GO,bne_self_eq_false];unfold Builtin.Frozenset.addrOf Builtin.Frozenset.sizeOf;refine Ad (Au ?_);dsimp only;refine Ad (Au ?_);refine Ad (Ad (k.entries (Au ?_)));unfold setDrawn setsByText;refine Ad (Ad (k.state ?_));dsimp only;refine Ad (Ad (wpAny_askSetting (Au ?_)));refine Au ?_;dsimp only;have n0:s.heap.objs.size≠D:=Nat.ne_of_gt aa
 have ab:∀{b:Addr},b∈[s.heap.objs.size,D]->b=D\/s.heap.objs.size<=b:=λ{b}hb=>by
  rcases BV.mp hb with rfl|hb;exact .inr (AE _);exact .inl (AW.mp hb)
 cases C:(model prog w).w.params.followText "set-order" with
 |true =>
   simp only[Bool.not_true,Bool.false_and,E9,↓reduceIte];refine Ad (Au ?_);refine TZ k ?_
   have S:((pickOrder (w.params.setOrder D ep) es).toList).Perm es.toList:=by
    have:=W8 (w.params.setOrder D ep) es.size 0 es.toList #[] (by simp);show(pickOrder.go (w.params.setOrder D ep) es.size 0 es.toList #[]).toList.Perm es.toList;simpa using this
   obtain⟨ks,d,u,z⟩:=TY N O (S.map (·.2));have a:((pickOrder (w.params.setOrder D ep) es).toList.map (·.2)).length=es.size:=by rw[Al,S.length_eq];simp
   have W:=Xc (prog:=prog) (w:=w) (A:=A) (It:=s.heap.objs.size) (D:=D) (es:=es) (ep:=ep) (tb:=tb) I n0 (λζ=>0) _ a
    (λi v L B U V g l m=>Xe (nx:=w.params.setOrder D ep) C rfl (by
     rw[A3] at g;obtain⟨e,c,rfl⟩:=E7.mp g
     rw[<-Array.getElem?_toList,c];rfl) l m)
    (λL B U V l m=>Xe (nx:=w.params.setOrder D ep) C rfl (by
     have hz:(pickOrder (w.params.setOrder D ep) es).toList.length=es.size:=by rw[S.length_eq];simp
     rw[<-Array.getElem?_toList,D6 (by lia)];rfl) l m)
   refine q _ _ s.drawn ks (by rw[d,a,P]) z (EQ.of W (d.trans a) u ⟨B9 _ rfl,k.keep λt e=>Ba _ e⟩ (λb hb=>ab hb) (λb o e=>Ba _ e) (AE _))
 |false =>
   have ae:tb.led=true:=by
    rw[R.led];unfold BR;have:w.params.followText "set-order" = false:=C;rw[this];rfl
   simp only[Bool.not_false,Bool.true_and]
   cases H:(!tb.plain && decide (es.size > 1)) with
   |true =>
     refine wpAny_ite_split (λζ=>?_) (λh=>absurd (show(!tb.plain && decide (es.size > 1))=true from H) h);refine Ad (W9 es.size _ List.length_range λj J r=>?_)
     have X:j.length=es.size:=by rw[r.length_eq];exact List.length_range
     refine Ad (wpAny_newObj_type ?_ (by show(List.map (λi:Nat=>rawInt (i:Int)) j).toArray.size<=sizeLine;rw[Cf,Al,X];exact fits_of_scanBound x6));have af:EO (s.heap.push {cls:=.type "tuple",data:=.seq (j.map λi:Nat=>rawInt (i:Int)).toArray}) D es ep tb:=k.keep λt e=>Ba _ e;refine TZ af ?_;have ah:∀p∈j,p<es.size:=λp h=>List.mem_range.mp (r.mem_iff.mp h)
     have vp:(j.map λp=>(es.getD p (0,.none)).2).Perm (es.toList.map (·.2)):=by
      have c:es.toList.map (·.2)=(List.range es.size).map λp=>(es.getD p (0,.none)).2:=by
       refine List.ext_getElem (by simp) λi h1 h2=>?_;simp at h1;simp[h1]
      rw[c];exact r.map _
     obtain⟨ks,d,u,z⟩:=TY N O vp;have a:(j.map λp=>(es.getD p (0,.none)).2).length=es.size:=(by rw[Al,X])
     have W:=d8 (prog:=prog) (w:=w) (A:=A) (It:=(s.heap.push {cls:=.type "tuple",data:=.seq (j.map λi:Nat=>rawInt (i:Int)).toArray}).objs.size) (D:=D) (T:=s.heap.objs.size) (es:=es) (ep:=ep) (tb:=tb) I (by rw[Heap.size_push];exact Nat.ne_of_gt (Nat.lt_succ_of_lt aa)) (by rw[Heap.size_push];exact Nat.succ_ne_self _) j _ a (λi v g=>by
      rw[A3] at g;obtain⟨p,c,rfl⟩:=E7.mp g;have ai:=ah p (A6 c);refine⟨p,(es.getD p (0,.none)).1,c,?_⟩
      simp[ai]) X
     refine q _ _ J ks (by rw[d,a,P]) z (EQ.of W (d.trans a) u ⟨B9 _ rfl,af.keep λt e=>Ba _ e,⟨_,Ba _ (B9 _ rfl),rfl,_,rfl⟩⟩ (λb hb=>?_) (λb o e=>Ba _ (Ba _ e)) (by rw[Heap.size_push];exact Nat.le_succ _));rcases BV.mp hb with rfl|hb;rw[Heap.size_push];exact .inr (Nat.le_succ _);rcases BV.mp hb with rfl|hb;exact .inl rfl;rw[AW.mp hb];exact .inr (AE _)
   |false =>
     refine wpAny_ite_split (λh=>absurd (show(!tb.plain && decide (es.size > 1))=true from h) (by rw[H];exact CB)) (λζ=>?_);refine Ad (Au ?_);refine TZ k ?_;obtain⟨ks,d,u,z⟩:=TY N O (List.Perm.refl _)
     have a:(es.toList.map (·.2)).length=es.size:=by simp
     have f:tb.place.size=es.size:=by
      have:=Z;unfold SetTable.fits at this;simp at this;exact this.1
     have ag:∀i,i<=tb.place.size->SetTable.below tb.place (if i=0 then 0 else tb.place.getD (i-1) 0+1)=i:=λi G=>by
      cases i with
      |zero=>exact dN R.ris
      |succ i =>
        have aj:i<tb.place.size:=G;simp only[Nat.add_eq_zero_iff,Nat.one_ne_zero,and_false,↓reduceIte,Nat.add_sub_cancel];refine dO R.ris ?_;rw[Array.getD_eq_getD_getElem?,Array.getElem?_eq_getElem aj];rfl
     have W:=Xc (prog:=prog) (w:=w) (A:=A) (It:=s.heap.objs.size) (D:=D) (es:=es) (ep:=ep) (tb:=tb) I n0 (λi=>if i=0 then 0 else tb.place.getD (i-1) 0+1) _ a
      (λi v L B U V g l m=>Xf C H ae (.inl (by
       rw[A3] at g;obtain⟨⟨h,x⟩,c,rfl⟩:=E7.mp g;rw[Array.getElem?_toList] at c;have G:i<tb.place.size:=by rw[f];exact(Array.getElem?_eq_some_iff.mp c).1
       have hb:=ag i (Cn G);refine⟨h,x,tb.place.getD i 0,by rw[hb];exact c,?_,by simp⟩
       rw[hb,Array.getD_eq_getD_getElem?,Array.getElem?_eq_getElem G];rfl)) l m)
      (λL B U V l m=>Xf C H ae (.inr ⟨by
       rw[ag es.size (Nat.le_of_eq f.symm)];simp,rfl⟩) l m)
     refine q _ _ s.drawn ks (by rw[d,a,P]) z (EQ.of W (d.trans a) u ⟨B9 _ rfl,k.keep λt e=>Ba _ e⟩ (λb hb=>ab hb) (λb o e=>Ba _ e) (AE _))
end
section
variable {prog:Program} {w:World} {A:Around} {E:D'} {s:Shared} {D:Addr}
theorem eF(a:s.TypeIs (.ref D) "set"){Q:Bool->Shared->Prop}(q:∀b,Q b s):wpAny (model prog w) A (Builtin.List.listLengthHint (.ref D)) Q E s:=by
 unfold Builtin.List.listLengthHint;refine Ad (wpAny_specialOf a F.slot_set_len.lookup ?_);generalize AO:("set.__len__" : String)=c
 wp_delta
 rw[show splitId c=some ("set", "__len__") by subst AO;decide +kernel];subst AO;refine Ad (wpAny_isInstance (T:= "set") (b:=true) a (by rw[isSubtype_type];kernel_rfl) (wpAny_ite_split (λh=>absurd h (by decide)) λζ=>?_));refine wpAny_ite_split (λζ=>Ad (M4 a (Au (q _)))) λh=>absurd (by decide +kernel) h
theorem JJ{M:Int->Bool}{R:Result->Shared->Prop}(N:A.handled=none)(p:B0 (intKind prog w) (BR w) s.heap D M n){S:Addr}(r:S≠D)(res:Value)(u:s.heap.get? S=some {cls:=.type "list",data:=.seq #[]})(O:n<=sizeLine)
 (q:∀h' d tk acc c(ks:List Int),(∀b o,b≠S->s.heap.get? b=some o->h'.get? b=some o)->h'.get? S=some {cls:=.type "list",dict:=none,data:=.seq acc c,slots:=#[]}->ItemsOf (λi v=>∃t,v=.int (ks.getD i 0) t) acc ks.length->ks.length=n->(∀y,M y=true↔y∈ks)->R (.ok (.ret res)) {s with heap:=h',drawn:=d,toks:=tk}) :
 wpAny (model prog w) A.in1 (Builtin.List.listExtendWith (.ref S) (.ref D) res)
  (λaa L=>match aa with|.done f=>R (.ok f) L|.again x=>x.quiet=true/\codeAny (model prog w) A x R L) (λe L=>R (.error e) L) s:=by
 have B:s.TypeIs (.ref D) "set" :=by obtain⟨j,_,_,_,a,b,_⟩:=p;exact⟨j,a,b.1⟩
 have ab:S<s.heap.objs.size:=Bl u;unfold Builtin.List.listExtendWith;refine Ad (M4 B ?_);rw[Aj (by simp[Builtin.List.listSameRef,r])];refine Ad (d9 (A:=A.in1) N p λIt k d ks C P Q=>?_);obtain⟨⟨T,St,W,st,far⟩,g,U⟩:=Q;have l:=g _ _ u;have E:S∉T:=λz=>(far S z).elim r λy=>absurd ab (Nat.not_lt_of_le y)
 have J:∀(h:Heap)(m:Nat),St 0 h->(∀b o,b≠S->s.heap.get? b=some o->h.get? b=some o)->h.get? S=some {cls:=.type "list",data:=.seq #[] m} ->
  codeAny (model prog w) A (.builtin "list.extend.loop" ⟨[.ref S,.ref It,res],[]⟩) R {s with heap:=h,drawn:=d}:=λh m ae V X=>by
  refine codeAny_extend_loopS W.toS (by rw[C];exact O) S E res ks.length 0 _ #[] m rfl (C7 _) ae X (ItemsOf.nil _) λL acc c G Y af=>?_;rw[Moved.eq_with G];refine q L.heap d L.toks acc c ks (λb o H e=>G.heap b o (λz=>?_) (V b o H e)) Y af C P;rcases BV.mp z with y|y;exact H y;have:=Bl e;rw[AW.mp y] at this;exact absurd this (Nat.not_lt_of_le U)
 have quiet:(Code.builtin "list.extend.loop" ⟨[.ref S,.ref It,res],[]⟩).quiet=true:=plainId_quiet F.plain_extend_loop _;refine Ad (Fa (eF (s:={s with heap:=k,drawn:=d}) (by obtain⟨j,a,b⟩:=B;exact⟨j,g _ _ a,b⟩) λb=>?_));refine wpAny_ite_split (λζ=>?_) λζ=>Au ⟨quiet,J _ 0 st (λb o ζ e=>g b o e) l⟩;refine Ad (G4 (Ad ?_));show wpAny _ _ (updateSeq S (·.push .none) >>= λζ=>updateSeq S (·.pop)) _ _ _;refine Ad (wpAny_updateSeq l rfl ?_);have I:=Heap.get?_update_self (Obj.mapSeq (·.push Value.none)) l rfl;refine wpAny_updateSeq (hz:=by seq_fits) I rfl ?_;have Z:=Heap.get?_update_self (Obj.mapSeq (·.pop)) I rfl;have K:∀b,b≠S->((k.update S (Obj.mapSeq (·.push Value.none))).update S (Obj.mapSeq (·.pop))).get? b=k.get? b:=λb hb=>(Heap.get?_update_other _ _ (Ne.symm hb)).trans (Heap.get?_update_other _ _ (Ne.symm hb));exact Au ⟨quiet,J _ _ (W.frame 0 _ _ st λb hb o e=>(K b λz=>E (z▸hb)).trans e) (λb o hb e=>(K b hb).trans (g b o e)) Z⟩
theorem eH{M:Int->Bool}{Q:List Value->Shared->Prop}(t:A.handled=none)(p:B0 (intKind prog w) (BR w) s.heap D M n)(u:n<=sizeLine)
 (q:∀h' d tk acc(ks:List Int),(∀b o,s.heap.get? b=some o->h'.get? b=some o)->IntsAre acc ks->ks.length=n->(∀y,M y=true↔y∈ks)->Q acc {s with heap:=h',drawn:=d,toks:=tk}):wpAny (model prog w) A (collect (.ref D)) Q E s:=by
 have G:D<s.heap.objs.size:=by obtain⟨z,_,_,_,a,_⟩:=p;exact Bl a
 unfold collect;refine Ad (wpAny_runValue (codeAny_builtin entry_proto_collect' ?_));rw[Around.under_plainId F.plain_proto_collect _];show wpAny _ A.in1 (newList [] >>= λl=>again (.builtin "list.__iadd__" ⟨[l,.ref D],[]⟩)) _ _ s;refine Ad (wpAny_newObj_type (Au ⟨plainId_quiet F.plain_list_iadd _,codeAny_builtin entry_list_iadd' ?_⟩));rw[Around.under_plainId F.plain_list_iadd _];show wpAny _ A.in1 (Builtin.List.listExtendWith (.ref s.heap.objs.size) (.ref D) (.ref s.heap.objs.size)) _ _ _
 refine Fy (JJ (A:=A) (s:={s with heap:=s.heap.push {cls:=.type "list",data:=.seq ([]:List Value).toArray}}) (S:=s.heap.objs.size)
  (R:=λr L=>∃h' d tk acc c,∃ks:List Int,r=.ok (.ret (.ref s.heap.objs.size))/\L={s with heap:=h',drawn:=d,toks:=tk}/\(∀b o,s.heap.get? b=some o->h'.get? b=some o)/\h'.get? s.heap.objs.size=some {cls:=.type "list",dict:=none,data:=.seq acc c,slots:=#[]}/\IntsAre acc.toList ks/\ks.length=n/\∀y,M y=true↔y∈ks)
  t (p.keep λz e=>Ba _ e) (Nat.ne_of_gt G) _ (B9 _ rfl) u λh' d tk acc c ks h j g k m=>⟨h',d,tk,acc,c,ks,rfl,rfl,λb o e=>h b o (Cq (Bl e)) (Ba _ e),j,?_,k,m⟩) (λH L x=>?_) λe L x=>?_
 exact Xd (by rw[Array.length_toList,g.1]) λi v B=>g.2 i v (by rw[<-Array.getElem?_toList];exact B)
 . cases H with
   |done f =>
     obtain⟨h',d,tk,acc,c,ks,e,rfl,h,j,g,k,m⟩:=x;cases e;show wpAny _ A (load s.heap.objs.size >>= _) _ _ _;exact Ad (wpAny_load j (Au (q h' d tk acc.toList ks h g k m)))
   |again I =>
     refine⟨x.1,codeAny_mono x.2 λr J y=>?_⟩;obtain⟨h',d,tk,acc,c,ks,rfl,rfl,h,j,g,k,m⟩:=y;show wpAny _ A (load s.heap.objs.size >>= _) _ _ _;exact Ad (wpAny_load j (Au (q h' d tk acc.toList ks h g k m)))
 obtain⟨_,_,_,_,_,_,C,_⟩:=x;cases C
end
def Mg{l:List Int}:∀{m:List Int},l.Nodup->(∀x∈l,x∈m)->m.length<=l.length->m.Nodup:=by
 induction l with
 |nil=>intro m _ _ h;rw[List.length_eq_zero_iff.mp (Nat.le_zero.mp h)];exact List.nodup_nil
 |cons a l g =>
   intro m d f i;obtain⟨j,k⟩:=FM.mp d;have c:=List.perm_cons_erase (f a Bu)
   have n:(m.erase a).length<=l.length:=by
    have:=c.length_eq;simp at this i;lia
   have sub:∀x∈l,x∈m.erase a:=λx b=>by
    have:=c.mem_iff.mp (f x (B8 _ b));rcases BV.mp this with e|e;exact absurd (e▸b) j;exact e
   refine c.nodup_iff.mpr (FM.mpr ⟨λo=>?_,g k sub n⟩)
   have:(a::l).length<=(m.erase a).length:=Ord.nodup_sub_length d λx b=>by
    rcases BV.mp b with e|e;rw[e];exact o;exact sub x e
   simp at this;lia
def JK{l:List Int}(h:l.Pairwise (·<=·))(c:l.Nodup):l.Pairwise (· < ·):=(h.and c).imp λ{a b}⟨x,y⟩=>by lia
set_option tactic.hygienic true in
def O1{l:List Int}{x:Int}(h:l.Nodup):(step_dedup l x).Nodup:=by
 unfold step_dedup;split;exact h;rename_i c;refine List.nodup_append.mpr ⟨h,List.pairwise_singleton _ _,λa d b hb e=>c ?_⟩;rw[AW.mp hb] at e;rw[Gf];exact⟨a,d,by rw[e];simp⟩
theorem Xg(f:Nat->Int):∀i,(B1 f i).Nodup
 |0=>List.nodup_nil
 |i+1=>by rw[O0];exact O1 (Xg f i)
def Mh (P:Program) (w:World) (a:Addr) (ns:List Int):HO:=.ext λh=>∃ds:List Int,ds.Nodup/\(∀y,y∈ds↔y∈ns)/\B0 (intKind P w) (BR w) h a (λy=>ds.any (·==y)) ds.length
section
variable {prog:Program} {w:World} {A:Around} {E:D'} {s:Shared} {D:Addr}
def eI{M:Int->Bool}{Q:D'}(l:A.handled=none)(p:B0 (intKind prog w) (BR w) s.heap D M n)(z:n<64)
 (q:∀(R:Addr)h' c tk k out(ks:List Int),(∀b o,s.heap.get? b=some o->h'.get? b=some o)->(∀b o,s.heap.get? b=some o->b≠R)->h'.get? R=some {cls:=.type "list",data:=.seq out k}->IntsAre out.toList ks->ks.length=n->(∀y,M y=true↔y∈ks)->ks.Pairwise (·<=·)->Q (.ref R) {s with heap:=h',drawn:=c,toks:=tk}) :
 wpAny (model prog w) A (call (.builtin "sorted") [.ref D]) Q E s:=by
 refine Calls.call_function_entry kind_sorted plain_sorted entry_sorted (args_sorted1 _) ?_;unfold Builtin.«sorted»;refine Ad (m:=checkCount "sorted" 1 1 _) (Au ?_);refine Ad (eH (A:=A.in1) l p (Cn (BH (by lia))) λd c tk a ks f h i r=>?_);have t:a.length<64:=by rw[h.length,i];exact z
 refine Ad (wpAny_newList ?_ (Cn (BH (by lia))));have g:(d.push {cls:=.type "list",data:=.seq a.toArray}).get? d.objs.size=some (seqObj "list" a.toArray 0):=B9 _ rfl;refine Ad (Fa (wpAny_call_entry slot_list_sort ⟨_,g,rfl⟩ entry_list_sort (list_sort_tree g h t λout B u j v=>⟨_,rfl,?_⟩) (args_list_sort _)));obtain⟨k,x⟩:=sortedHeap_at (vs:=a) (out:=out) g;refine Au ⟨_,rfl,q d.objs.size _ c tk k out B (λb o e=>?_) (λb o e=>Cq (Bl (f b o e))) x u (by rw[j.length_eq,i]) (λy=>by rw[r,j.mem_iff]) v⟩;have hb:=Bl (f b o e);rw[sortedHeap_old (Cq hb) (by rw[Heap.size_push];exact Nat.lt_succ_of_lt hb)];exact Ba _ (f b o e)
end
section
variable {X:Cx} {pins:B'} {σ:L2.St} {H:Hp} {s:Shared}
def Inv.drew(I:Inv X pins σ H s)(a:Drawn):Inv X pins σ H {s with drawn:=a}:=
 I.step (h':=s.heap) (H':=H) (g':=s.gens) (t':=s.toks) (d':=a) (ch:=[]) (λζ z=>nomatch z) (λζ ζ ζ ζ ζ e ζ=>e) (λζ o ζ ζ ζ e ζ=>⟨o.slots,e⟩) (λζ ζ ζ ζ n=>n) (λζ o ζ e=>⟨o,e⟩) (λζ ζ e=>e) (λζ ζ ζ e=>e) (λζ b e=>⟨#[],by rw[e];simp⟩) (λζ h=>h) I.hok I.bare
def O2 (P:Program) (w:World) (K:Ah):List V->Hp->VK->Prop:=λvs H Q=>∃(p:Addr)(ns:List Int),vs=[.ref p]/\Ae K H p (ns.map V.int)/\ns.length<=4000/\∀q,H q=none->Q (.ref q) (upd H q (Mh P w q ns))
def eJ{ns:List Int}{a:List Value}(r:At (ns.map V.int) a):∀(i:Nat)(v:Value),a.toArray[i]?=some v->∃t,v=.int (ns.getD i 0) t:=λi v e=>by
 have d:a[i]?=some v:=(by simpa using e);have f:=r.length;rw[Al] at f;have b:i<ns.length:=by have:=(AN.mp d).1;lia
 obtain⟨u,c,g⟩:=r.get (i:=i) (x:=.int ns[i]) (by rw[A3,AD b];rfl);rw[d] at c;cases c;rw[EA,AD b];exact g
def eK(v:X.calm=true):Bi X (.type "set") (O2 X.prog X.w X.K):=by
 intro pins s σ H M us Q I r h;obtain⟨p,c,rfl,w,N,q⟩:=h;obtain⟨u,rfl,z⟩:=FP r;obtain rfl:u=Value.ref p:=z;obtain⟨g,l,A,_⟩:=I.list w;have m:=l.length;rw[Al] at m;have t:g.toArray.size=c.length:=(by rw[Cf,m]);refine dX (f:=λi=>c.getD i 0) (I.ok.hd v) A.isList (eJ l) (by rw[t];unfold scanBound;lia) λB tk n k=>?_;have L:∀b u,s.heap.get? b=some u->B.get? b=some u:=λb u e=>k b u (Bl e) e;refine⟨.ref s.heap.objs.size,upd H s.heap.objs.size (Mh X.prog X.w s.heap.objs.size c),I.laid (t':=tk) L (AE _) ?_,rfl,q _ I.fresh⟩;refine⟨⟨_,Xg _ _,λy=>?_,n⟩,?_,λO P⟨C,D,E,F⟩G=>⟨C,D,E,F.keep λJ e=>G J e⟩⟩;have:=W5 (λi=>c.getD i 0) g.toArray.size y;rw[Gf] at this;have e:(∃x,x∈B1 (λi=>c.getD i 0) g.toArray.size/\(x==y)=true)↔y∈B1 (λi=>c.getD i 0) g.toArray.size:=⟨λ⟨x,a,b⟩=>by rw[<-eq_of_beq b];exact a,λa=>⟨y,a,by simp⟩⟩;rw[<-e,this,t];constructor;rintro⟨j,d,rfl⟩;rw[EA,AD d];exact Ec d;intro K;obtain⟨j,d,e⟩:=List.getElem_of_mem K;exact⟨j,d,by rw[EA,AD d];exact e⟩;obtain⟨o,_,_,_,e,_⟩:=n;exact⟨o,e⟩
def Mi (P:Program) (w:World):List V->Hp->VK->Prop:=λvs H Q=>∃(d:Addr)(ns:List Int),vs=[.ref d]/\H d=some (Mh P w d ns)/\(∀ds:List Int,ds.Nodup->(∀y∈ds,y∈ns)->ds.length<64)/\∀D(ms:List Int),ms.Pairwise (· < ·)->(∀y,y∈ms↔y∈ns)->H D=none->Q (.ref D) (upd H D (.lst (ms.map V.int)))
def eQ(n:X.calm=true):Bi X (.builtin "sorted") (Mi X.prog X.w):=by
 intro pins s σ H G us Q I r h;obtain⟨d,J,rfl,hd,D,q⟩:=h;obtain⟨u,rfl,o⟩:=FP r;obtain rfl:u=Value.ref d:=o;obtain⟨⟨f,g,i,p⟩,_,_⟩:=I.hok d _ hd;have t:=D f g λy e=>(i y).mp e;refine eI (I.ok.hd n) p t λR K v tk k E c L j w z l A B=>?_
 have m:∀y,y∈c↔y∈f:=λy=>by
  rw[<-A y,Gf];exact⟨λ⟨x,a,b⟩=>by rw[<-eq_of_beq b];exact a,λa=>⟨y,a,by simp⟩⟩
 have C:c.Nodup:=Mg g (λy e=>(m y).mpr e) (Nat.le_of_eq l);have F:(c.map V.int).length<=sizeLine:=by rw[Al,l];exact Cn (BH (by lia))
 exact⟨.ref R,upd H R (.lst (c.map V.int)),(I.drew v).laidN (t':=tk) L j ⟨F,E.toList,k,Qa z,by rw[Array.toArray_toList];exact w⟩,rfl,q R c (JK B C) (λy=>(m y).trans (i y)) (I.freshN j)⟩
end
def ER (gs:List (Str×Int)) (n:Int):List Int:=match gs[n.toNat]? with
 |some p=>if p.1=("sort" : Str) then[p.2] else[]
 |none=>[]
def Fk (gs:List (Str×Int)) (as:List (C')) (q:Int):List Int:=match as[q.toNat]? with
 |some (some w)=>if w.1=("thing" : Str) then ER gs w.2 else[]
 |_=>[]
def FK (W:Wd) (st:Int) (p:Ch):List Int:=if p.2.1=("by" : Str)/\(Ea (DJ W st) p.1).isSome=true then p.2.2::Fk W.gs W.as p.2.2 else[]
def Bt (W:Wd) (b:AK):List Int:=(BO W b.2.1).flatMap (FK W b.2.2)
def ES (ss:List Bp) (w:List Ao):List Int:=if(Ci ss w).2.2.1=("by" : Str) then[(Ci ss w).2.2.2] else[]
def Ft (W:Wd) (l:Lk):List Int:=l.1.flatMap (Bt W)++l.2.1.flatMap (ES W.ss)
def Ct (W:Wd) (ls:List Lk) (ts:List Int):List Int:=ls.flatMap (Ft W)++ts.flatMap (ER W.gs)
def FX (as as':List (C')) (U:List Int):Prop:=∀q∈U,as'[q.toNat]?=as[q.toNat]?
section
variable {ths:List (Str×Int)} {as as':List (C')}
def Xh{n:Int}{k:Str×Int}(h:ths[n.toNat]?=some k)(c:FX as as' (ER ths n)):C0 ths as' k=C0 ths as k:=by
 unfold C0;by_cases b:k.1=("part" : Str);rw[Ak b,Ak b];rw[Aj b,Aj b];by_cases a:k.1=("sort" : Str);rw[Ak a,Ak a];have:as'[k.2.toNat]?=as[k.2.toNat]?:=c _ (by unfold ER;rw[h];dsimp only;rw[Ak a];exact AW.mpr rfl);unfold DI;rw[this];rw[Aj a,Aj a]
def eR{p:Ch}(h:p.2.1=("to" : Str)\/FX as as' (p.2.2::Fk ths as p.2.2)):BE ths as' p=BE ths as p:=by
 unfold BE;by_cases a:p.2.1=("to" : Str);rw[Ak a,Ak a];rw[Aj a,Aj a];have c:=h.resolve_left a;have d:=c _ Bu;rw[d]
 cases e:as[p.2.2.toNat]? with
 |none=>rfl
 |some o =>
   cases o with
   |none=>rfl
   |some w =>
     dsimp only;by_cases b:w.1=("thing" : Str);rw[Ak b,Ak b]
     cases f:ths[w.2.toNat]? with
     |none=>rfl
     |some k =>
       refine Xh f λq g=>c q (B8 _ ?_);unfold Fk;rw[e];dsimp only;rw[Ak b];exact g
     rw[Aj b,Aj b]
end
section
variable {W:Wd} {as':List (C')} {ord:A'} {sc st:Int}
theorem Xi{go:List (Str×Int)}{s:Int}:∀{l:List Ch}{i:Nat},(∀p∈l,(Ea go p.1).isSome=true->BE W.gs as' p=BE W.gs W.as p)->Eb (W.late as') s go l i=Eb W s go l i
 |[],i,_=>rfl
 |p::l,i,h=>by
   show EK (W.late as') s go p i++Eb (W.late as') s go l (i+1)=EK W s go p i++Eb W s go l (i+1);rw[Xi λq b=>h q (B8 _ b)];congr 1;unfold EK
   cases e:Ea go p.1 with
   |none=>rfl
   |some a=>dsimp only;rw[h p Bu (by rw[e];rfl)]
def Xj(ok:BP W)(f:FX W.as as' (Bt W b)):FV (W.late as') b.2.1 b.2.2=FV W b.2.1 b.2.2:=by
 refine Xi λp d g=>eR ?_
 have h:LY W.ss.length W.as.length p:=by
  have a:p∈BO W b.2.1:=d;unfold BO at a
  cases e:W.ss[b.2.1.toNat]? with
  |none=>rw[e] at a;cases a
  |some s=>rw[e] at a;exact ok.kst s (A6 e) p a
 rcases h with⟨c,_⟩|⟨c,_⟩;exact .inl c;refine .inr λq i=>f q (List.mem_flatMap.mpr ⟨p,d,?_⟩);unfold FK;rw[Ak ⟨c,g⟩];exact i
def JL(ok:BP W){bs:List AK}(d:∀b,b∈bs↔AS W sc st b)(e:FX W.as as' (bs.flatMap (Bt W)))(b:AK):AS (W.late as') sc st b↔AS W sc st b:=by
 have kd:∀c,AS W sc st c->CG (W.late as') c=CG W c:=λc f=>by
  unfold CG;rw[Xj ok λq g=>e q (List.mem_flatMap.mpr ⟨c,(d c).mpr f,g⟩)]
 constructor;intro h
 induction h with
 |root=>exact .root
 |@kid b c _ k a=>rw[kd b a] at k;exact .kid a k
 intro h
 induction h with
 |root=>exact .root
 |@kid b c hb k a=>rw[<-kd b hb] at k;exact .kid a k
theorem Xk{b:AK}{x:Str}:∀(l:List CN)(i:Nat),Cs (W.late as') b x l i=Cs W b x l i
 |[],_=>rfl
 |q::l,i=>by
   show Ey (W.late as') b x q i++Cs (W.late as') b x l (i+1)=Ey W b x q i++Cs W b x l (i+1);rw[Xk l (i+1)];rfl
def eS(bs:List AK):DK (W.late as') x bs=DK W x bs:=by
 unfold DK;congr 1;funext b;exact Xk _ _
theorem Xl{α β:Type}{f g:α->List β}:∀{l:List α},(∀a∈l,f a=g a)->l.flatMap f=l.flatMap g
 |[],_=>rfl
 |a::l,h=>by rw[List.flatMap_cons,List.flatMap_cons,h a Bu,Xl λb hb=>h b (B8 _ hb)]
def QE(ok:BP W){l:Lk}(h:Cm W ord sc st x l os)(a:FX W.as as' (l.1.flatMap (Bt W))):Cm (W.late as') ord sc st x l os:=by
 refine⟨⟨λb=>(h.b.mem b).trans (JL ok h.b.mem a b).symm,h.b.nd,h.b.srt,h.b.few⟩,⟨by rw[eS];exact h.f.perm,h.f.srt⟩,h.s,⟨?_,h.o.srt⟩⟩
 have:Fq (W.late as') l.1=Fq W l.1:=by
  unfold Fq;refine Xl λb hb=>?_;rw[Xj ok λq c=>a q (List.mem_flatMap.mpr ⟨b,hb,c⟩)]
 rw[this];exact h.o.perm
def eV(a:FX W.as as' (ES W.ss w)):DZ (W.late as') w=DZ W w:=by
 unfold DZ
 show(if(Ci W.ss w).2.2.1=("by" : Str)/\as'[(Ci W.ss w).2.2.2.toNat]?=some none then some (Ci W.ss w).2.2.2 else none)=_
 by_cases c:(Ci W.ss w).2.2.1=("by" : Str);rw[a _ (by unfold ES;rw[Ak c];exact AW.mpr rfl)];rw[Aj λz=>c z.1,Aj λz=>c z.1]
set_option tactic.hygienic true in
def eW(a:Be W)(b:CH W.ss w)(c:FX W.as as' (ES W.ss w)):Bg (W.late as') w=Bg W w:=by
 unfold Bg
 show(if(Ci W.ss w).2.2.1=("thing" : Str) then some (Ci W.ss w).2.2.2 else match as'[(Ci W.ss w).2.2.2.toNat]? with
  |some (some p)=>if p.1=("thing" : Str) then some p.2 else none
  |_=>none)=_
 rcases Ma a b with⟨hb,_⟩|⟨hb,_⟩;rw[Ak hb,Ak hb]
 rw[c _ (by unfold ES;rw[Ak hb];exact AW.mpr rfl)]<;>(cases W.as[(Ci W.ss w).2.2.2.toNat]?<;>first|rfl|(rename_i o;cases o<;>rfl))
theorem Xm:∀{ws:List (List Ao)},(∀w∈ws,DZ (W.late as') w=DZ W w)->EF (W.late as') ws=EF W ws
 |[],_=>rfl
 |w::ws,h=>by
   unfold EF;rw[h w Bu,Xm λv hv=>h v (B8 _ hv)]
def QF(ok:BP W)(e:Be W)(i:0<=sc/\sc<W.ss.length)(j:0<=st/\st<W.sts.length){l:Lk}(h:Cm W ord sc st x l os)(f:FX W.as as' (l.2.1.flatMap (ES W.ss)))(at_:Int):BQ (W.late as') ord l.2.1 os at_=BQ W ord l.2.1 os at_:=by
 have sub:∀w∈Co W.ss ord l.2.1 l.2.1,w∈l.2.1:=λw a=>NE a;have c:∀w∈l.2.1,FX W.as as' (ES W.ss w):=λw a q g=>f q (List.mem_flatMap.mpr ⟨w,a,g⟩)
 have d:Ds (W.late as') ord l.2.1 os=Ds W ord l.2.1 os:=by
  unfold Ds
  show(match EN W.ss ord l.2.1 os with|some o=>some o|none=>EF (W.late as') (Co W.ss ord l.2.1 l.2.1))=_
  rw[Xm λw a=>eV (c w (sub w a))]<;>(cases EN W.ss ord l.2.1 os<;>rfl)
 cases b:Ds W ord l.2.1 os with
 |some o=>rw[KC b,KC (d.trans b)]
 |none =>
   rw[GH b,GH (d.trans b)];have:CI (W.late as') (Co W.ss ord l.2.1 l.2.1) at_=CI W (Co W.ss ord l.2.1 l.2.1) at_:=WT at_ λw a=>eW e (GI ok i j h w (sub w a)) (c w (sub w a));rw[<-this]
def T1{n:Int}(a:FX W.as as' (ER W.gs n)):B6 (W.late as') n=B6 W n:=by
 unfold B6
 show(match W.gs[n.toNat]? with|some p=>C0 W.gs as' p|none=>(("no" : Str),(0:Int)))=_
 cases e:W.gs[n.toNat]? with
 |none=>rfl
 |some p=>exact Xh e a
end
def FX.sub{U V:List Int}(h:FX as as' U)(s:∀q∈V,q∈U):FX as as' V:=λq a=>h q (s q a)
def Mj(ok:BP W)(g:Be W)(v:0<=inn/\inn<W.sts.length){p:List Str}{w:Option Wt}(k:LU W inn ord sc st p at_ a w ls ts) :
 0<=sc/\sc<W.ss.length->0<=st/\st<W.sts.length->FX W.as as' (Ct W ls ts)->LU (W.late as') inn ord sc st p at_ a w ls ts:=by
 have j:∀{l:Lk}{ls:List Lk}{ts:List Int},∀q∈l.1.flatMap (Bt W),q∈Ct W (l::ls) ts:=λq b=>Ef _ (List.mem_flatMap.mpr ⟨_,Bu,Ef _ b⟩);have m:∀{l:Lk}{ls:List Lk}{ts:List Int},∀q∈l.2.1.flatMap (ES W.ss),q∈Ct W (l::ls) ts:=λq b=>Ef _ (List.mem_flatMap.mpr ⟨_,Bu,CY _ b⟩);have o:∀{n:Int}{ls:List Lk}{ts:List Int},∀q∈ER W.gs n,q∈Ct W ls (n::ts):=λq b=>CY _ (List.mem_flatMap.mpr ⟨_,Bu,b⟩)
 induction k with
 |stop h e n=>exact λd f c=>.stop (QE ok h (c.sub j)) ((QF ok g d f h (c.sub m) _).trans e) n
 |opn h e i=>exact λd f c=>.opn (QE ok h (c.sub j)) ((QF ok g d f h (c.sub m) _).trans e) ((T1 (c.sub o)).trans i)
 |no h e i=>exact λd f c=>.no (QE ok h (c.sub j)) ((QF ok g d f h (c.sub m) _).trans e) ((T1 (c.sub o)).trans i)
 |go h e i x t =>
   intro d f c;have u:=Iu ok g (GI ok d f h) e;refine .go (QE ok h (c.sub j)) ((QF ok g d f h (c.sub m) _).trans e) ((T1 (c.sub o)).trans i) (t (OZ ok u i) v (c.sub λq b=>?_));rcases BL.mp b with b|b;obtain⟨r,s,b⟩:=List.mem_flatMap.mp b;exact Ef _ (List.mem_flatMap.mpr ⟨r,B8 _ s,b⟩);obtain⟨r,s,b⟩:=List.mem_flatMap.mp b;exact CY _ (List.mem_flatMap.mpr ⟨r,B8 _ s,b⟩)
section
variable {X:Cx}
def O3:R2:=λx y H Q=>∃l xs n,x=.ref l/\y=.int n/\H l=some (.lst xs)/\(0<=n/\n<=1000)/\xs.length*n.toNat<=1000/\∀p,H p=none->Q (.ref p) (upd H p (.lst (List.replicate n.toNat xs).flatten))
theorem Xn:∀(n:Nat){xs:List V}{us:List Value},At xs us->At (List.replicate n xs).flatten (List.replicate n us).flatten
 |0,_,_,_=>.nil
 |n+1,xs,us,h=>by
   rw[List.replicate_succ,List.replicate_succ,List.flatten_cons,List.flatten_cons];exact h.append (Xn n h)
theorem Xo:DF X (binaryOp .Mult) O3:=by
 intro w s σ H x y v u Q I i j h;obtain⟨l,xs,n,rfl,rfl,k,p,d,q⟩:=h;obtain rfl:v=Value.ref l:=i;obtain⟨t,rfl⟩:=j;obtain⟨z,b,c,f,e⟩:=(show AB X.prog X.w _ s.heap l (.lst xs) from I.hok l _ k);have g:=f.length
 have r:b.toArray.size*n.toNat<=1000:=by rw[Cf,<-g];exact d
 have A:b.length*n.toNat<=1000:=by rw[<-g];exact d
 refine wpAny_binaryOp_repeat_ref (T:= "list") (U:= "int") (by decide) ⟨_,e,rfl⟩ (λL=>typeIs_int L n t) noFill_list_mul F.fills_int_mul F.slot_int_rmul repeat_list F.slot_int_index.lookup
  (call_meets F.slot_int_rmul (typeIs_int s n t) F.entry_int_rmul (F.args_int_rmul_2 _ _) (int___rmul___int_list n t l b.toArray c)
   ⟨e,rfl,⟨_,e,rfl⟩,call_meets F.slot_list_mul ⟨_,e,rfl⟩ F.entry_list_mul (F.args_list_mul_2 _ _) (AutoListH.list___mul___list_int_3 l b.toArray c n t (by simp[Builtin.List.listFitsIndex];lia) (by lia) (by simp[Builtin.List.listTooLong,sizeLine];lia)) ⟨e,?_⟩⟩)
 rw[listMul_foldl_if];have m:=Xn n.toNat f;refine⟨.ref s.heap.objs.size,_,I.laid (a:=s.heap.objs.size) (o:=.lst (List.replicate n.toNat xs).flatten) (t':=s.toks) (λζ ζ q=>Ba _ q) (AE _) ⟨?_,_,0,m,B9 _ rfl⟩,rfl,q _ (I.hok.fresh (AE _))⟩;rw[List.length_flatten,List.map_replicate,List.sum_replicate_nat,Nat.mul_comm];exact Cn (BH (by lia))
def O4:List V->Hp->VK->Prop:=λvs H Q=>∃n:Int,vs=[.int n]/\∀p,H p=none->Q (.ref p) (upd H p (.rng 0 n))
def eX:Bi X (.type "range") O4:=by
 intro d s σ H c us Q I r h;obtain⟨n,rfl,q⟩:=h;obtain⟨u,rfl,b⟩:=FP r;obtain⟨t,rfl⟩:=b;refine call_range_1 ⟨.ref s.heap.objs.size,_,I.laid (a:=s.heap.objs.size) (o:=.rng 0 n) (t':=s.toks+1+1) (λζ ζ q=>Ba _ q) (AE _) ⟨_,_,_,B9 _ rfl⟩,rfl,q _ (I.hok.fresh (AE _))⟩
def Mk:List V->Hp->VK->Prop:=λvs H Q=>∃(p:Addr)(n:Nat),vs=[.ref p]/\H p=some (.rng 0 (n:Int))/\n<=1000/\∀l,H l=none->Q (.ref l) (upd H l (.lst ((List.range n).map λi:Nat=>V.int i)))
def eY(j:X.calm=true):Bi X (.type "list") Mk:=by
 intro D s σ H z us Q I r h;obtain⟨p,n,rfl,k,A,q⟩:=h;obtain⟨u,rfl,l⟩:=FP r;obtain rfl:u=Value.ref p:=l;obtain⟨t,B,v,e⟩:=(show AB X.prog X.w _ s.heap p (.rng 0 (n:Int)) from I.hok p _ k)
 have m:Builtin.Range.rangeSize 0 (n:Int) 1=n:=by rw[rangeSize_one];split<;>lia
 refine call_list_range (n:=n) (I.ok.hd j) e (small_one (by lia) (by lia) (by lia) (by lia)) m (by lia) λC tk d c w x f=>?_
 have y:IntsAre d.toList ((List.range n).map λi:Nat=>(i:Int)):=Xd (by simp[f.1]) λi v b=>by
  have g:i<d.size:=by
   have:=(AN.mp b).1;simpa using this
  obtain⟨t,e⟩:=f.2 i v (by rw[<-Array.getElem?_toList];exact b);rw[f.1] at g;refine⟨t,?_⟩;rw[e,EA,A3,List.getElem?_range g]
  simp
 have b:=Qa y;rw[DT] at b;refine⟨.ref s.heap.objs.size,_,I.laid (a:=s.heap.objs.size) (o:=.lst ((List.range n).map λi:Nat=>V.int i)) (t':=tk) w (AE _) ⟨?_,d.toList,c,b,by rw[Array.toArray_toList];exact x⟩,rfl,q _ (I.hok.fresh (AE _))⟩;rw[Al,List.length_range];exact Cn (BH (by lia))
def Ml (H:Hp) (xs:List V) (ps:List (AJ×V)):Prop:=Paired (λx(p:AJ×V)=>∃t,x=.ref t/\H t=some (.tup [kV p.1,p.2])) xs ps
def e9{pins:B'}{R:Result->Shared->Prop}{p l it:Addr}(W:A.in1.handled=none)(k:H p=none)(D:it≠p) :
 ∀(xs:List V)(h:List (AJ×V))(d:List V)(acc:List (AJ×V))(s:Shared),Ml H xs h->H l=some (.lst (d++xs))->acc.length+xs.length<=sizeLine->Inv X pins σ (upd H p (.dK acc)) s ->
 s.heap.IsListIter it l d.length->CZ X pins H it->(∀L,Inv X pins σ (upd H p (.dK (Kq acc h))) L->R (.ok (.ret .none)) L)->∀n:Int,
 codeAny (model X.prog X.w) A (.builtin "dict.update.loop" ⟨[.ref p,.ref it,rawInt n,.none],[]⟩) R s:=by
 intro xs h d acc s Y
 induction Y generalizing d acc s with
 |nil =>
   intro f G I st j m n;have E:upd H p (.dK acc) l=some (.lst (d++[])):=(AC (A1 f k)).trans f;obtain⟨r,u,Z,v,w,y⟩:=j;have F:upd H p (.dK acc) it=none:=(AC D).trans r;obtain⟨z,Q,c,B,e⟩:=(show AB X.prog X.w _ s.heap l (.lst (d++[])) from I.hok l _ E);have ah:=B.length;rw[FN] at ah;refine codeAny_builtin PySem.F.entry_upd_loop ?_;rw[Around.under_plainId PySem.F.plain_upd_loop _];show wpAny _ A.in1 (pyNext (.ref it) >>= _) _ _ s;refine Ad (wpAny_pyNext_list_end W st ⟨_,e,rfl,c,rfl⟩ (by simp;lia) λg eb=>?_);exact Ad (Au (Au (m _ (I.turned (t':=s.toks) (λb o hb e=>eb b o hb e) F u v w y))))
 |@cons x q xs h hq tl ih =>
   intro f G I st j m n;obtain⟨t,rfl,J⟩:=hq;have E:upd H p (.dK acc) l=some (.lst (d++.ref t::xs)):=(AC (A1 f k)).trans f;have aa:upd H p (.dK acc) t=some (.tup [kV q.1,q.2]):=(AC (A1 J k)).trans J;obtain⟨r,u,Z,v,w,y⟩:=id j;have F:upd H p (.dK acc) it=none:=(AC D).trans r;obtain⟨z,Q,c,B,e⟩:=(show AB X.prog X.w _ s.heap l (.lst (d++.ref t::xs)) from I.hok l _ E);obtain⟨ai,ab,ru⟩:=B.get (i:=d.length) (x:=.ref t) (by simp);cases ru;refine codeAny_builtin PySem.F.entry_upd_loop ?_;rw[Around.under_plainId PySem.F.plain_upd_loop _];show wpAny _ A.in1 (pyNext (.ref it) >>= _) _ _ s;refine Ad (wpAny_pyNext_list_item st (⟨_,e,rfl,c,rfl⟩:s.heap.IsList l Q.toArray) (x:=.ref t) (by simpa using ab) λg ae sb=>?_);have C:Inv X pins σ (upd H p (.dK acc)) {s with heap:=g}:=I.turned (t':=s.toks) (λb o hb e=>(sb.2 b hb).trans e) F u v w y;obtain⟨_,ts,rt,ot,K,ct,nt,dt⟩:=(show AB X.prog X.w _ g t (.tup [kV q.1,q.2]) from C.hok t _ aa);obtain⟨M,N,rfl,r1,r2⟩:=Kl rt;obtain⟨zd,hm,es,S,dd⟩:=Ko C.hok (Aa (H:=H) (a:=p) (o:=.dK acc))
   have af:es.length<=sizeLine:=by rw[<-S.length];exact zd
   have aj:(AV acc q.1 q.2).length<=acc.length+1:=Ov acc q.1 q.2;rw[Ew] at G;refine Ad (Fa (Ad (wpAny_tryCatch ?_)));show wpAny _ A.in1 (Builtin.Dict.pairItems (.ref t)) _ _ _;unfold Builtin.Dict.pairItems;refine Ad (M4 (s:={s with heap:=g}) (T:= "tuple") ⟨ot,K,ct⟩ ?_);rw[Ak (by decide)];refine Ad (F2 (s:={s with heap:=g}) K dt (Au ?_));show wpAny _ A.in1 (holding [M,N] (dictSet p M N)) _ _ _;have ag:(AV acc q.1 q.2).length<=sizeLine:=(by lia);refine Fa (wpAny_dictSet_pairs (hsz:=af) (Ng r1) dd λO U P=>?_);have he:∃o,O.get? p=some o:=let ⟨o,_,_,ho,_⟩:=U;⟨o,ho⟩
   have I2:∀tk,Inv X pins σ (upd H p (.dK (AV acc q.1 q.2))) {s with heap:=O,toks:=tk}:=λtk=>by
    have:=Ox (t':=tk) (ob:=.dK (AV acc q.1 q.2)) C (by rw[Aa];exact True.intro) P he (Hk ag hm (S.put q.1 r2) U);rw[UT] at this;exact this
   refine Au ⟨plainId_quiet PySem.F.plain_upd_loop _,?_⟩;have:=ih (d++[.ref t]) (AV acc q.1 q.2) _ (by rw[FZ];exact f) (by lia) (I2 (s.toks+1)) (by rw[AZ];exact ae.at λo e=>(P.2 it D).trans e) j m (n+1);exact this
def Mm:List V->Hp->VK->Prop:=λvs H Q=>∃l xs ps,vs=[.ref l]/\H l=some (.lst xs)/\xs.length<sizeLine/\Ml H xs ps/\∀p,H p=none->Q (.ref p) (upd H p (.dK (Kq [] ps)))
def fA(j:X.calm=true):Bi X (.type "dict") Mm:=by
 intro pins s σ H G us Q I r h;obtain⟨l,xs,x,rfl,k,J,y,q⟩:=h;obtain⟨u,rfl,B⟩:=FP r;cases B;have m:H s.heap.objs.size=none:=I.hok.fresh (AE _);refine callType_codes (Q₁:=λv n=>v=.ref s.heap.objs.size/\n={s with heap:=s.heap.push {cls:=.type "dict",data:=.dict #[]}}) PySem.F.kt_called_dict (PySem.F.kt_typeCall_dict_1 _) PySem.F.entry_dict_init (kt_code_dict_new _ ⟨rfl,rfl⟩) ?_;rintro v n ⟨rfl,rfl⟩;have C:=I.laid (a:=s.heap.objs.size) (o:=.dK []) (t':=s.toks) (h':=s.heap.push {cls:=.type "dict",data:=.dict #[]}) (λζ ζ q=>Ba _ q) (AE _) (Vs s.heap I.big)
 obtain⟨z,M,c,K,e⟩:=(show AB X.prog X.w _ s.heap l (.lst xs) from I.hok l _ k)
 have f:=Ba {cls:=.type "dict",data:=.dict #[]} e;have p:Shared.TypeIs {s with heap:=s.heap.push {cls:=.type "dict",data:=.dict #[]}} (.ref s.heap.objs.size) "dict" :=⟨_,B9 _ rfl,rfl⟩;refine⟨p,PySem.F.args_dict_init_2 _ _,?_⟩;unfold Builtin.«dict.__init__»;refine Ad ?_;unfold Builtin.Dict.selfAndRest;refine Ad (wpAny_notOrdered_dict p ?_);show wpAny _ _ (pure (s.heap.objs.size,[Value.ref l])) _ _ _;refine Au ?_;show wpAny _ _ (Builtin.Dict.updateFrom "dict.__init__" s.heap.objs.size (.ref l) [] .none) _ _ _;unfold Builtin.Dict.updateFrom;refine Ad (M4 (T:= "list") ⟨_,f,rfl⟩ ?_)
 rw[Ak (by decide)];refine Ad (Wk f rfl rfl rfl (I.ok.hd j) λd tk t=>?_);rw[Ak (show(none:Option Value).isNone=true from rfl)];have g:=C.kept (t':=tk) t;refine Ad (G4 (Ad (wpAny_pyIter_list (s:={s with heap:=d,toks:=tk}) ⟨_,t _ _ f,rfl,c,rfl⟩ ?_)))
 have D:=g.kept (t':=tk) (h':=d.push {cls:=.type "list_iterator",data:=.fields #[.ref l,.int 0 0]}) λb o e=>Ba _ e;obtain⟨i,E⟩:=g.fpOk (AE d.objs.size) (g.hok.fresh (AE _));have w:d.objs.size≠s.heap.objs.size:=λz=>by rw[z,Aa] at i;cases i
 refine Au ⟨plainId_quiet PySem.F.plain_upd_loop _,e9 (A:=X.A.in1) (X:=X) (pins:=pins) (σ:=σ) (l:=l) (H:=H) (I.ok.hd j) m w xs x [] [] _ y k (by rw[GO];lia) D ⟨_,B9 _ rfl,rfl,rfl⟩ ⟨(AC w).symm.trans i,E⟩ (λL F=>⟨rfl,.ref _,_,F,rfl,q _ m⟩) 0⟩
end
abbrev AI:Type:=C'
def Fd (W:Wd) (inn:Int) (ord:A') (q:Qu) (as:List AI) (a:AI):Prop:=∃(w:Option Wt)(ls:List Lk)(ts:List Int),LU (W.late as) inn ord q.1 q.2.1 q.2.2 0 a w ls ts
structure HP (W:Wd) (qs:List Qu) (as:List AI):Prop where
 len:as.length=qs.length
 rng:∀p,some p∈as->p.1=("thing" : Str)->0<=p.2/\p.2<W.gs.length
structure SOk (W:Wd) (qs:List Qu) (inn:Int) (ord:A'):Prop where
 all:∀as,HP W qs as->KD (W.late as) qs inn ord
 tr:∀x y z,(x,y)∈ord->(y,z)∈ord->(x,z)∈ord
structure GJ (W:Wd) (qs:List Qu) (inn:Int) (ord:A') (as as':List AI):Prop where
 len:as'.length=as.length
 old:∀(k:Nat)(p:Str×Int),as[k]?=some (some p)->as'[k]?=some (some p)
 new:∀(k:Nat)(q:Qu),qs[k]?=some q->as[k]?=some none->∃a,Fd W inn ord q as a/\as'[k]?=some a
inductive Run (W:Wd) (qs:List Qu) (inn:Int) (ord:A'):Nat->List AI->List Int->Prop where
 |zero:Run W qs inn ord 0 (List.replicate qs.length none) (List.replicate qs.length 0)
 |succ {n:Nat} {as as':List AI} {ts ts':List Int} (h:Run W qs inn ord n as ts) (e:n=0\/∃k:Nat,ts[k]?=some (n:Int)) (x:GJ W qs inn ord as as') (l:ts'.length=ts.length)
  (t:∀k:Nat,k<qs.length->ts'[k]?=if as[k]?=some none/\as'[k]?≠some none then some ((n:Int)+1) else ts[k]?):Run W qs inn ord (n+1) as' ts'
section
variable {W:Wd} {qs:List Qu} {inn:Int} {ord:A'} {n:Nat} {as as':List AI} {ts:List Int}
def GJ.late(h:GJ W qs inn ord as as'):Later as as':=⟨h.len,h.old⟩
def Mn{V:Wd}(ok:BP V)(g:Be V)(o:0<=inn/\inn<V.sts.length){p:List Str}{a:AI}{w:Option Wt}(k:LU V inn ord sc st p at_ a w ls ts):(0<=sc/\sc<V.ss.length)->(0<=st/\st<V.sts.length)->∀x,a=some x->x.1=("thing" : Str)->0<=x.2/\x.2<V.gs.length:=by
 induction k with
 |stop h e n =>
   rintro d f ⟨y,m⟩ rfl j;cases(show y=_ from j);exact Iu ok g (GI ok d f h) e
 |opn h e i=>intro _ _ x b;cases b
 |no h e i =>
   intro _ _ x b c;cases b
   exact absurd (show("none" : Str)=_ from c) Qy
 |go h e i q l=>exact λd f x b c=>l (OZ ok (Iu ok g (GI ok d f h) e) i) o x b c
def JM{p:Str×Int}{l:List AI}(h:some p∈l):∃k:Nat,l[k]?=some (some p):=List.mem_iff_getElem?.mp h
def GJ.aok(G:SOk W qs inn ord)(h:HP W qs as)(x:GJ W qs inn ord as as'):HP W qs as':=by
 refine⟨x.len.trans h.len,λp f c=>?_⟩;obtain⟨k,b⟩:=JM f;have m:k<as.length:=by rw[<-x.len];exact(AN.mp b).1
 cases e:as[k]? with
 |none=>rw[List.getElem?_eq_none_iff] at e;lia
 |some o =>
   cases o with
   |some R =>
     have:=x.old k R e;rw[b] at this;cases this;exact h.rng p (A6 e) c
   |none =>
     have g:=AD (show k<qs.length by rw[<-h.len];exact m);obtain⟨a,⟨w,ls,ts,i⟩,d⟩:=x.new k _ g e;have L:=G.all as h;obtain⟨j,l,_⟩:=L.q _ (Ec _);rw[b] at d;exact Mn L.ok L.sm L.inn i j l p (Br d).symm c
def Run.aok(G:SOk W qs inn ord)(h:Run W qs inn ord n as ts):HP W qs as/\ts.length=qs.length:=by
 induction h with
 |zero=>exact⟨⟨List.length_replicate,λp b ζ=>by cases List.eq_of_mem_replicate b⟩,List.length_replicate⟩
 |succ h e x l t a=>exact⟨x.aok G a.1,l.trans a.2⟩
def JN(G:SOk W qs inn ord)(c:HP W qs as)(d:Later as as'){k:Nat}{q:Qu}(e:qs[k]?=some q){p:Str×Int}{b:AI}(h:Fd W inn ord q as (some p))(h':Fd W inn ord q as' b):b=some p:=by
 obtain⟨w,ls,m,a⟩:=h;obtain⟨l,n,o,j⟩:=h';have L:=G.all as c;obtain⟨f,g,_⟩:=L.q _ (A6 e)
 have i:w=none:=by
  rcases WZ a with⟨z,_⟩|⟨_,z⟩;cases z;exact z
 exact(JB (W:=W.late as) (as':=as') L.irr G.tr d L.ok L.sm L.inn a i f g j).1
def JO{q:Qu}{a b:AI}(h:Fd W inn ord q as a)(h':Fd W inn ord q as b):a=b:=by
 obtain⟨_,_,_,c⟩:=h;obtain⟨_,_,_,d⟩:=h';exact(Jv c d).1
def Run.found(G:SOk W qs inn ord)(h:Run W qs inn ord n as ts):∀(k:Nat)(q:Qu)(p:Str×Int),qs[k]?=some q->as[k]?=some (some p)->∃B,HP W qs B/\Later B as/\Fd W inn ord q B (some p):=by
 induction h with
 |zero=>intro k q p _ e;rw[List.getElem?_replicate] at e;split at e<;>cases e
 |@succ n as as' ts y h e x l t i =>
   intro k q p c e;have d:=(h.aok G).1;have w:k<qs.length:=(AN.mp c).1
   cases b:as[k]? with
   |none=>rw[List.getElem?_eq_none_iff,d.len] at b;lia
   |some o =>
     cases o with
     |some R =>
       have:=x.old k R b;rw[e] at this;cases this;obtain⟨B,m,f,s⟩:=i k q p c b;exact⟨B,m,⟨x.len.trans f.len,λj r u=>x.old j r (f.old j r u)⟩,s⟩
     |none =>
       obtain⟨a,v,g⟩:=x.new k q c b;rw[e] at g;cases g;exact⟨as,d,x.late,v⟩
def Run.still(G:SOk W qs inn ord)(h:Run W qs inn ord n as ts)(f:GJ W qs inn ord as as){k:Nat}{q:Qu}(c:qs[k]?=some q){b:AI}(hb:Fd W inn ord q as b):as[k]?=some b:=by
 have g:=(h.aok G).1;have r:k<as.length:=by rw[g.len];exact(AN.mp c).1
 cases e:as[k]? with
 |none=>rw[List.getElem?_eq_none_iff] at e;lia
 |some o =>
   cases o with
   |none =>
     obtain⟨a,i,d⟩:=f.new k q c e;rw[e] at d;cases d;rw[JO hb i]
   |some p =>
     obtain⟨B,j,l,m⟩:=h.found G k q p c e;rw[JN G j l c m hb]
end
def qA (gs:List (Str×Int)):C'->List Int
 |some w=>if w.1=("thing" : Str) then ER gs w.2 else[]
 |none=>[]
def JP{gs:List (Str×Int)}{k:Nat}{o:C'}(h:as[k]?=some o):Fk gs as (k:Int)=qA gs o:=by
 unfold Fk;rw[Bk,h];cases o<;>rfl
section
variable {F:Addr->Prop} {H:Hp} {v:V} {d e f:Dt}
def Mo{i:Int}(h:A5 F H v (.int i)):v=.int i:=by cases h;rfl
def Mp(h:A5 F H v (.str x)):v=.str x:=by cases h;rfl
def O5(h:A5 F H v (.tup [d,e,f])):∃t x y z,v=.ref t/\H t=some (.tup [x,y,z])/\A5 F H x d/\A5 F H y e/\A5 F H z f:=by
 cases h with
 | tup h t =>
   cases t with
   |cons a t =>
     cases t with
     |cons b t =>
       cases t with
       |cons c t =>
         cases t with
         |nil=>exact⟨_,_,_,_,rfl,h,a,b,c⟩
def T4{b:List Dt}(h:A5 F H v (.lst b)):∃a vs,v=.ref a/\H a=some (.lst vs)/\Ax F H vs b:=by
 cases h with
 |lst h f t=>exact⟨_,_,rfl,h,t⟩
def Mq(h:A5 F H v (DA.D b)):∃t x,v=.ref t/\H t=some (.tup [x,.int b.2.1,.int b.2.2]):=by
 obtain⟨t,x,y,z,c,a,_,d,e⟩:=O5 (show A5 F H v (.tup [Cr.D b.1,.int b.2.1,.int b.2.2]) from h);rw[Mo d,Mo e] at a;exact⟨t,x,c,a⟩
def O6(h:A5 F H v (Qi m)):∃t,v=.ref t/\H t=some (.tup (GD m)):=by
 obtain⟨t,x,y,z,b,a,c,d,e⟩:=O5 h;rw[Mo c,Mp d,Mo e] at a;exact⟨t,b,a⟩
theorem Ax.app_inv:∀{es b:List Dt}{vs:List V},Ax F H vs (es++b)->∃xs ys,vs=xs++ys/\Ax F H ys b
 |[],_,vs,h=>⟨[],vs,rfl,h⟩
 |_::es,_,_,.cons a t=>by
   obtain⟨xs,ys,e,h⟩:=Ax.app_inv (es:=es) t;exact⟨_::xs,ys,by rw[e];rfl,h⟩
def JQ(h:A5 F H v (Cr.D (w++[m]))):∃a vs t,v=.ref a/\H a=some (.lst vs)/\Bz vs (-1)=some (.ref t)/\H t=some (.tup (GD m)):=by
 obtain⟨a,vs,c,d,b⟩:=T4 (show A5 F H v (.lst ((w++[m]).map Qi)) from h);rw[Bh] at b;obtain⟨xs,g,rfl,e⟩:=b.app_inv
 cases e with
 |cons a t =>
   cases t with
   |nil =>
     obtain⟨t,rfl,f⟩:=O6 a;exact⟨_,_,t,c,d,S6 _ _,f⟩
def NF{f:α->Dt}{l:List α}{vs:List V}(h:Ax F H vs (l.map f))(hv:vs[i]?=some v):∃b,l[i]?=some b/\A5 F H v (f b):=by
 obtain⟨d,a,c⟩:=h.get hv;rw[A3] at a;obtain⟨b,hb,rfl⟩:=E7.mp a;exact⟨b,hb,c⟩
end
def Mr(h:n<=9000):n<sizeLine:=Nat.lt_of_le_of_lt h (by decide)
theorem NG{α β:Type}{f:α->List β}{n:Nat}:∀{l:List α},(∀a∈l,(f a).length<=n)->(l.flatMap f).length<=n*l.length
 |[],_=>C7 _
 |a::l,h=>by
   have c:=h a Bu;have d:=NG λb hb=>h b (B8 _ hb);rw[List.flatMap_cons,AZ,Ew,Nat.mul_succ];lia
def O7{β:Type}{f:α->List β}{l:List α}{a:α}(h:l[i]?=some a):(l.take (i+1)).flatMap f=(l.take i).flatMap f++f a:=by
 rw[EG,h];show(l.take i++[a]).flatMap f=_;rw[List.flatMap_append]
 simp
def O8{β:Type}{f:α->List β}{l:List α}(i:Nat):((l.take i).flatMap f).length<=(l.flatMap f).length:=by
 have:l.flatMap f=(l.take i).flatMap f++(l.drop i).flatMap f:=(by rw[<-List.flatMap_append,List.take_append_drop]);rw[this,AZ];lia
def T6(gs:List (Str×Int))(n:Int):(ER gs n).length<=1:=by
 unfold ER;split;split<;>simp
 simp
def Ms(gs:List (Str×Int))(o:C'):(qA gs o).length<=1:=by
 unfold qA;split;split;exact T6 _ _
 simp
 simp
def fB(gs:List (Str×Int))(as:List (C'))(q:Int):(Fk gs as q).length<=1:=by
 unfold Fk;split;split;exact T6 _ _
 simp
 simp
def fC(W:Wd)(st:Int)(p:Ch):(FK W st p).length<=2:=by
 unfold FK;have:=fB W.gs W.as p.2.2;split;rw[Ew];lia
 simp
def fE(ss:List Bp)(w:List Ao):(ES ss w).length<=1:=by
 unfold ES;split<;>simp
def fF{b:Int}{p:Ch}(a:p∈BO W b):∃s∈W.ss,p∈s.1:=by
 unfold BO at a
 cases e:W.ss[b.toNat]? with
 |none=>rw[e] at a;cases a
 |some s=>rw[e] at a;exact⟨s,A6 e,a⟩
def fG(a:∀s∈W.ss,s.1.length<=3)(b:AK):(Bt W b).length<=6:=by
 unfold Bt;have c:=NG (f:=FK W b.2.2) (n:=2) (l:=BO W b.2.1) λp ζ=>fC W b.2.2 p
 have d:(BO W b.2.1).length<=3:=by
  unfold BO
  cases e:W.ss[b.2.1.toNat]? with
  |none=>exact C7 _
  |some s=>exact a s (A6 e)
 lia
structure HQ (W:Wd) (l:Lk):Prop where
 b:l.1.length<=62
 f:l.2.1.length<=62
 bo:∀b∈l.1,Db W b
 en:∀w∈l.2.1,CH W.ss w
def QG(ok:BP W)(d:Be W){l:Lk}(a:0<=sc/\sc<W.ss.length)(c:0<=st/\st<W.sts.length)(h:Cm W ord sc st x l os):HQ W l:=by
 refine⟨h.b.few,?_,λb hb=>((h.b.mem b).mp hb).ok ok a c,GI ok a c h⟩;have e:=h.f.perm.length_eq;have f:=d.fnd x sc st _ a c h.b;lia
def fH(ok:BP W)(f:Be W)(r:0<=inn/\inn<W.sts.length){p:List Str}{w:Option Wt}(k:LU W inn ord sc st p at_ a w ls ts) :
 0<=sc/\sc<W.ss.length->0<=st/\st<W.sts.length->(∀l∈ls,HQ W l)/\(∀n∈ts,0<=n/\n<W.gs.length)/\ts.length<=ls.length:=by
 induction k with
 |stop h e n=>exact λb c=>⟨λl d=>by rw[AW.mp d];exact QG ok f b c h,(λζ z=>by cases z),C7 _⟩
 |opn h e i=>exact λb c=>⟨λl d=>by rw[AW.mp d];exact QG ok f b c h,λn g=>by rw[AW.mp g];exact Iu ok f (GI ok b c h) e,AE _⟩
 |no h e i=>exact λb c=>⟨λl d=>by rw[AW.mp d];exact QG ok f b c h,λn g=>by rw[AW.mp g];exact Iu ok f (GI ok b c h) e,AE _⟩
 |go h e i s m =>
   intro b c;have g:=Iu ok f (GI ok b c h) e;obtain⟨o,q,t⟩:=m (OZ ok g i) r;refine⟨λl d=>?_,λn j=>?_,by rw[Ew,Ew];lia⟩;rcases BV.mp d with rfl|d;exact QG ok f b c h;exact o l d;rcases BV.mp j with rfl|j;exact g;exact q n j
def fI(g:∀s∈W.ss,s.1.length<=3)(e:∀l∈ls,HQ W l)(i:ls.length<=8)(j:ts.length<=8):(Ct W ls ts).length<=4000:=by
 unfold Ct;rw[AZ]
 have k:=NG (f:=Ft W) (n:=434) (l:=ls) λl h=>by
  unfold Ft;rw[AZ];have a:=NG (f:=Bt W) (n:=6) (l:=l.1) λb ζ=>fG g b;have b:=NG (f:=ES W.ss) (n:=1) (l:=l.2.1) λw ζ=>fE W.ss w;have c:=(e l h).b;have d:=(e l h).f;lia
 have m:=NG (f:=ER W.gs) (n:=1) (l:=ts) λn ζ=>T6 W.gs n;lia
set_option tactic.hygienic true in
def Xp(ok:BP W){n:Int}(h:q∈ER W.gs n):0<=q/\q<W.as.length:=by
 unfold ER at h
 cases e:W.gs[n.toNat]? with
 |none=>rw[e] at h;cases h
 |some p =>
   rw[e] at h;dsimp only at h;split at h;rename_i a;rw[AW.mp h];exact ok.net.q p (A6 e) a;cases h
set_option tactic.hygienic true in
def Xq(ok:BP W)(f:Be W)(g:∀l∈ls,HQ W l)(h:q∈Ct W ls ts):0<=q/\q<W.as.length:=by
 unfold Ct at h;rcases BL.mp h with h|h;obtain⟨l,i,c⟩:=List.mem_flatMap.mp h;unfold Ft at c;rcases BL.mp c with c|c;obtain⟨b,_,d⟩:=List.mem_flatMap.mp c;unfold Bt at d;obtain⟨p,j,a⟩:=List.mem_flatMap.mp d;obtain⟨s,k,m⟩:=fF j;unfold FK at a;split at a;rename_i o;rcases BV.mp a with rfl|a;exact ok.by_ k m λz=>by rw[o.1] at z;exact absurd z (by decide +kernel)
 unfold Fk at a;split at a;split at a;exact Xp ok a;cases a;cases a;cases a;obtain⟨w,r,d⟩:=List.mem_flatMap.mp c;unfold ES at d;split at d;rename_i hb;rw[AW.mp d];rcases Ma f ((g l i).en w r) with⟨e,_⟩|⟨_,e⟩;rw[hb] at e;exact absurd e (by decide +kernel);exact e;cases d;obtain⟨n,_,c⟩:=List.mem_flatMap.mp h;exact Xp ok c
def T8:∀{a:List Int},a.Nodup->(∀y∈a,0<=y/\y<(n:Int))->a.length<=n:=λhd h=>Jh n _ hd h
structure LN (K:Ah) (F:Addr->Prop) (H:Hp) (nt t:Addr) (W:Wd) (qs:List Qu) (inn:Int) (ord:A'):Prop where
 net:∃(S T R:Addr)(us Gs Es ts qt:List Addr),H nt=some (.tup [.ref S,.ref T,.ref R])/\Fg H S T R us Gs Es ts qt W.ss W.gs qs
 tab:FU K F H t W.sts inn ord
section
variable {K:Ah} {F:Addr->Prop} {H H':Hp} {nt A t:Addr} {W:Wd} {qs:List Qu} {inn:Int} {ord:A'} {as:List AI}
def LN.same(h:LN K F H nt t W qs inn ord)(e:Ac H H'):LN K F H' nt t W qs inn ord:=by
 obtain⟨⟨S,T,R,us,a,b,ts,d,f,g⟩,c⟩:=h;exact⟨⟨S,T,R,us,a,b,ts,d,e _ _ f,g.same e⟩,c.same e⟩
def LN.lc(h:LN K F H nt t W qs inn ord)(a:GX K H A as):LC K F H nt A t (W.late as) qs inn ord:=⟨h.net,a,h.tab⟩
def Tk (H H':Hp):Prop:=∀a vs,H a=some (.tup vs)->H' a=some (.tup vs)
def Ac.tk(s:Ac H H'):Tk H H':=λζ ζ e=>s _ _ e
def KG{x:Addr}{vs:List V}{o:HO}(h:H x=some (.lst vs)):Tk H (upd H x o):=λa us e=>by
 rw[AC λz=>by rw[z,h] at e;cases e];exact e
variable {kvs:List (AJ×V)}
def JR{x:Addr}{o:HO}(h:H x=some (.dK kvs)):Tk H (upd H x o):=λa us e=>by
 rw[AC λz=>by rw[z,h] at e;cases e];exact e
def Tk.trans{c:Hp}(a:Tk H H')(b:Tk H' c):Tk H c:=λx d e=>b _ _ (a _ _ e)
abbrev Gc:Addr->Prop:=λζ=>False
def A5.tk{d:Dt}(k:Tk H H')(h:A5 Gc H v d):A5 Gc H' v d:=h.go k λζ ζ ζ f=>f.elim
def Ax.tk{vs:List V}{a:List Dt}(k:Tk H H')(h:Ax Gc H vs a):Ax Gc H' vs a:=h.go k λζ ζ ζ f=>f.elim
def ET (H:Hp) (A:Addr) (as:List AI):Prop:=∃vs,H A=some (.lst vs)/\Ax Gc H vs (as.map BG)
def ET.ans(h:ET H A as):GX K H A as:=by
 obtain⟨a,e,h⟩:=h;exact⟨a,Ae.of e,h.dts⟩
def ET.go(h:ET H A as)(k:Tk H H')(a:∀vs,H A=some (.lst vs)->H' A=some (.lst vs)):ET H' A as:=by
 obtain⟨vs,e,h⟩:=h;exact⟨vs,a _ e,h.tk k⟩
def QH (W:Wd) (qs:List Qu) (inn:Int) (ord:A') (H:Hp) (kvs:List (AJ×V)) (k:Nat) (B:List AI) (l:Addr) (us:List Int):Prop:=
 AH kvs (.inl (k:Int))=some (.ref l)/\H l=some (.lst (us.map V.int))/\us.length<=1000/\(∀u∈us,0<=u)/\∃(q:Qu)(w:Option Wt)(ls:List Lk)(ts:List Int),qs[k]?=some q/\LU (W.late B) inn ord q.1 q.2.1 q.2.2 0 none w ls ts/\∀x∈Ct (W.late B) ls ts,x∈us
def Iw (kvs:List (AJ×V)) (n:Nat):Prop:=(kvs.map (·.1)).Nodup/\∀x∈kvs.map (·.1),∃i:Nat,i<n/\x=.inl (i:Int)
set_option tactic.hygienic true in
def fJ(kvs:List (AJ×V))(k:AJ)(v:V):((AV kvs k v).map (·.1)=kvs.map (·.1))\/(k∉kvs.map (·.1)/\(AV kvs k v).map (·.1)=kvs.map (·.1)++[k]):=by
 unfold AV;split;left;rw[DT];congr 1;funext a
 show(if a.1=k then(a.1,v) else a).1=a.1
 split<;>rfl;rename_i h;right;refine⟨λm=>h ?_,by rw[Bh];rfl⟩;obtain⟨p,b,e⟩:=AL.mp m;exact Gf.mpr ⟨p,b,By e⟩
def Iw.put(h:Iw kvs n)(d:i<n)(v:V):Iw (AV kvs (.inl (i:Int)) v) n:=by
 unfold Iw;rcases fJ kvs (.inl (i:Int)) v with e|⟨f,e⟩;rw[e];exact h;rw[e];refine⟨?_,λx c=>?_⟩;rw[List.nodup_append];refine⟨h.1,by simp,λa g b hb=>?_⟩;rw[AW.mp hb];exact λz=>f (by rw[<-z];exact g);rcases BL.mp c with c|c;exact h.2 x c;exact⟨i,d,AW.mp c⟩
def Iw.len(h:Iw kvs n):kvs.length<=n:=by
 have:((kvs.map (·.1)).map λk:AJ=>match k with|.inl i=>i|.inr _=>(0:Int)).Nodup:=by
  rw[List.nodup_iff_pairwise_ne,List.pairwise_map];refine(List.nodup_iff_pairwise_ne.mp h.1).imp_of_mem λ{a b}d hb g=>?_;obtain⟨i,_,rfl⟩:=h.2 a d;obtain⟨j,_,rfl⟩:=h.2 b hb;exact λz=>g (by dsimp only at z;rw[z])
 have c:=T8 (n:=n) this λy e=>by
  obtain⟨x,f,rfl⟩:=AL.mp e;obtain⟨i,l,rfl⟩:=h.2 x f;dsimp only;lia
 rw[Al,Al] at c;exact c
structure FT (W:Wd) (qs:List Qu) (inn:Int) (ord:A') (as:List AI) (H H':Hp) (kvs kvs':List (AJ×V)) (ds:List Int) (fs:List (Int×(Str×Int))):Prop where
 fd:∀f∈fs,∃(k:Nat)(q:Qu),f.1=(k:Int)/\(k:Int)∈ds/\qs[k]?=some q/\Fd W inn ord q as (some f.2)
 al:∀k:Nat,(k:Int)∈ds->(∃p,((k:Int),p)∈fs)\/∃l us,H l=none/\QH W qs inn ord H' kvs' k as l us
 kp:∀k:Nat,(k:Int)∉ds->AH kvs' (.inl (k:Int))=AH kvs (.inl (k:Int))
 ko:Iw kvs' qs.length
variable {H'':Hp} {kvs kvs':List (AJ×V)} {ds:List Int} {fs:List (Int×(Str×Int))} {k:Nat} {q:Qu}
def FT.hit(h:FT W qs inn ord as H H' kvs kvs' ds fs)(i:∀l vs,H l=none->H' l=some (.lst vs)->H'' l=some (.lst vs))(m:qs[k]?=some q){p:Str×Int}(n:Fd W inn ord q as (some p)):FT W qs inn ord as H H'' kvs kvs' (ds++[(k:Int)]) (fs++[((k:Int),p)]):=by
 refine⟨λf g=>?_,λj e=>?_,λj e=>h.kp j λz=>e (Ef _ z),h.ko⟩;rcases BL.mp g with g|g;obtain⟨j,r,a,b,c,d⟩:=h.fd f g;exact⟨j,r,a,Ef _ b,c,d⟩;rw[AW.mp g];exact⟨k,q,rfl,by simp,m,n⟩;rcases BL.mp e with e|e;rcases h.al j e with⟨p,o⟩|⟨l,us,a,b,c,d⟩;exact .inl ⟨p,Ef _ o⟩;exact .inr ⟨l,us,a,b,i _ _ a c,d⟩;rw[AW.mp e];exact .inl ⟨p,by simp⟩
def FT.wait(h:FT W qs inn ord as H H' kvs kvs' ds fs)(m:∀l vs,H l=none->H' l=some (.lst vs)->H'' l=some (.lst vs))(i:qs[k]?=some q){w:Option Wt}(n:LU (W.late as) inn ord q.1 q.2.1 q.2.2 0 none w ls ts){l:Addr}{us:List Int}(o:H l=none)(s:H'' l=some (.lst (us.map V.int)))(t:us.length<=1000)(v:∀u∈us,0<=u)(y:∀x∈Ct (W.late as) ls ts,x∈us):FT W qs inn ord as H H'' kvs (AV kvs' (.inl (k:Int)) (.ref l)) (ds++[(k:Int)]) fs:=by
 have A:k<qs.length:=(AN.mp i).1;refine⟨λf D=>?_,λj g=>?_,λj g=>?_,h.ko.put A _⟩;obtain⟨j,r,a,b,c,d⟩:=h.fd f D;exact⟨j,r,a,Ef _ b,c,d⟩;by_cases e:(j:Int)=(k:Int);have:j=k:=(by lia);subst this;exact .inr ⟨l,us,o,by rw[Ou,Ak rfl],s,t,v,q,w,ls,ts,i,n,y⟩;rcases BL.mp g with g|g;rcases h.al j g with⟨p,B⟩|⟨C,E,a,b,c,d⟩;exact .inl ⟨p,B⟩;exact .inr ⟨C,E,a,by rw[Ou,Aj λz=>e (Sum.inl.inj z)];exact b,m _ _ a c,d⟩;exact absurd (AW.mp g) e;rw[Ou,Aj λz=>g (CY _ (by rw[Sum.inl.inj z];simp))];exact h.kp j λz=>g (Ef _ z)
end
abbrev fD (f:Int×(Str×Int)):Dt:=.tup [.int f.1,BG (some f.2)]
structure JS (W:Wd) (qs:List Qu) (inn:Int) (ord:A'):Prop extends SOk W qs inn ord where
 s3:∀s∈W.ss,s.1.length<=3
 lq:qs.length<=40
def AO{G:Prop}(h:∀N:Prop,(G->N)->N):G:=h G λz=>z
def Ix{g:TG}{t:TS}{D:Ends}(h:let N:=D.nx;let C:=D.ct;g v σ H λσ2 a=>t {D with nx:=N,ct:=C} σ2 a):g v σ H (λσ2 a=>t D σ2 a):=h
def fK{K:Ah}{a:Addr}{xs:List V}{k:Nat}{g:TG}(Pv:Addr->Nat->List V->Hp->Prop)
 (f:∀D,Y D=none->Pv D 0 [] (upd Y D (.lst []))) (c:∀D i ys b,Pv D i ys b->Ae K b a xs)
 (h:∀D i x T ys b(R:VK),Y D=none->xs[i]?=some x->b T=none->Pv D i ys b->(∀y d,d D=some (.lst ys)->ys.length<sizeLine->Pv D (i+1) (ys++[y]) (upd d D (.lst (ys++[y])))->R y d)->g (.ref T) (Fe k caps σ) (upd b T (.tup [.int i,x])) λσ4 j=>te σ4 j R)
 (hd:∀D ys b,Y D=none->Pv D xs.length ys b->Q D b):Iq (HE LK K a) k caps g Hm te σ Y Q:=LJ xs.length Pv f (λD i ys b p e=>⟨xs,xs[i],c D i ys b p,by simp[e]⟩) (λD ys b p=>⟨xs,c D _ ys b p,rfl⟩) (λD i ys b x o R q l e p y k r=>by obtain⟨T,v,m,rfl,rfl,n⟩:=y;exact h D i v T ys _ R l (n xs (c D i ys _ p)) m p k) hd
abbrev CJ:Type:=List (Int×(Str×Int))
def BS (as:List AI) (fs:CJ):List AI:=fs.foldl (λa f=>a.set f.1.toNat (some f.2)) as
def C3 (ts:List Int) (n:Int) (fs:CJ):List Int:=fs.foldl (λa f=>a.set f.1.toNat n) ts
variable {f:Int×(Str×Int)}
def fL{as:List AI}{fs:CJ}(h:fs[i]?=some f):BS as (fs.take (i+1))=(BS as (fs.take i)).set f.1.toNat (some f.2):=by
 rw[EG,h];show BS as (fs.take i++[f])=_;unfold BS;rw[NR];rfl
def fM{n:Int}{fs:CJ}(h:fs[i]?=some f):C3 ts n (fs.take (i+1))=(C3 ts n (fs.take i)).set f.1.toNat n:=by
 rw[EG,h];show C3 ts n (fs.take i++[f])=_;unfold C3;rw[NR];rfl
theorem QI:∀(fs:CJ)(as:List AI),(BS as fs).length=as.length
 |[],_=>rfl
 |f::fs,as=>by show(BS (as.set f.1.toNat (some f.2)) fs).length=_;rw[QI fs,G1]
theorem Ua{n:Int}:∀(fs:CJ)(ts:List Int),(C3 ts n fs).length=ts.length
 |[],_=>rfl
 |f::fs,ts=>by show(C3 (ts.set f.1.toNat n) n fs).length=_;rw[Ua fs,G1]
theorem Mt{k:Nat}:∀{fs:CJ}{as:List AI},(∀f∈fs,f.1.toNat≠k)->(BS as fs)[k]?=as[k]?
 |[],_,_=>rfl
 |f::fs,as,h=>by
   show(BS (as.set f.1.toNat (some f.2)) fs)[k]?=_;rw[Mt λg a=>h g (B8 _ a),List.getElem?_set_ne (h f Bu)]
theorem Ub{k:Nat}{n:Int}:∀{fs:CJ}{ts:List Int},(∀f∈fs,f.1.toNat≠k)->(C3 ts n fs)[k]?=ts[k]?
 |[],_,_=>rfl
 |f::fs,ts,h=>by
   show(C3 (ts.set f.1.toNat n) n fs)[k]?=_;rw[Ub λg a=>h g (B8 _ a),List.getElem?_set_ne (h f Bu)]
theorem QJ{k:Nat}:∀{fs:CJ}{as:List AI},k<as.length->(∃f∈fs,f.1.toNat=k)->∃f∈fs,f.1.toNat=k/\(BS as fs)[k]?=some (some f.2)
 |[],_,_,⟨_,h,_⟩=>by cases h
 |f::fs,as,d,h=>by
   show ∃g∈f::fs,g.1.toNat=k/\(BS (as.set f.1.toNat (some f.2)) fs)[k]?=some (some g.2);by_cases c:∃g∈fs,g.1.toNat=k;obtain⟨g,a,b,e⟩:=QJ (as:=as.set f.1.toNat (some f.2)) (by rw[G1];exact d) c;exact⟨g,B8 _ a,b,e⟩;obtain⟨g,a,b⟩:=h;rcases BV.mp a with rfl|a;refine⟨g,Bu,b,?_⟩;rw[Mt λx i z=>c ⟨x,i,z⟩,b,List.getElem?_set_self d];exact absurd ⟨g,a,b⟩ c
theorem Uc{k:Nat}{n:Int}:∀{fs:CJ}{ts:List Int},k<ts.length->(∃f∈fs,f.1.toNat=k)->(C3 ts n fs)[k]?=some n
 |[],_,_,⟨_,h,_⟩=>by cases h
 |f::fs,ts,b,h=>by
   show(C3 (ts.set f.1.toNat n) n fs)[k]?=some n;by_cases c:∃g∈fs,g.1.toNat=k;exact Uc (by rw[G1];exact b) c;obtain⟨g,a,d⟩:=h;rcases BV.mp a with rfl|a;rw[Ub λx e z=>c ⟨x,e,z⟩,d,List.getElem?_set_self b];exact absurd ⟨g,a,d⟩ c
def nn (as:List AI):Nat:=as.countP λa=>a.isNone
def HR(as:List AI)(k:Nat)(p:Str×Int):nn (as.set k (some p))<=nn as/\(as[k]?=some none->nn (as.set k (some p))<nn as):=by
 unfold nn;by_cases b:k<as.length;rw[List.countP_set b];have c:((some p:AI).isNone=true)=False:=(by simp);simp only[Option.isNone_some,E9,if_false,Nat.add_zero];refine⟨Nat.sub_le _ _,λe=>?_⟩;rw[AD b] at e;rw[Br e];have:0<as.countP λa=>a.isNone:=List.countP_pos_iff.mpr ⟨none,by rw[<-Br e];exact Ec b,rfl⟩;simp only[Option.isNone_none,if_true];lia;rw[List.set_eq_of_length_le (by lia)];exact⟨AE _,λe=>by rw[D6 (by lia)] at e;cases e⟩
theorem Ud:∀(fs:CJ)(as:List AI),nn (BS as fs)<=nn as
 |[],_=>AE _
 |f::fs,as=>E8 (Ud fs (as.set f.1.toNat (some f.2))) (HR as _ _).1
def O9{fs:CJ}{as:List AI}(h:as[f.1.toNat]?=some none):nn (BS as (f::fs))<nn as:=Nat.lt_of_le_of_lt (Ud fs _) ((HR as _ _).2 h)
section
variable {W:Wd} {qs:List Qu} {inn:Int} {ord:A'} {H H':Hp} {kvs kvs':List (AJ×V)} {n:Nat} {as:List AI} {ts:List Int} {due:List Int} {fs:CJ} {X:Addr->Prop}
structure HS (W:Wd) (qs:List Qu) (inn:Int) (ord:A') (X:Addr->Prop) (H:Hp) (kvs:List (AJ×V)) (n:Nat) (as:List AI) (ts:List Int) (due:List Int):Prop where
 run:Run W qs inn ord n as ts
 du:∀k∈due,∃j:Nat,k=(j:Int)/\j<qs.length/\as[j]?=some none
 la:due=[]\/n=0\/∃k:Nat,ts[k]?=some (n:Int)
 us:∀k:Nat,k<qs.length->as[k]?=some none->(k:Int)∈due\/∃B l us,¬X l/\HP W qs B/\QH W qs inn ord H kvs k B l us/\FX B as us
 ko:Iw kvs qs.length
structure NH (W:Wd) (qs:List Qu) (inn:Int) (ord:A') (X:Addr->Prop) (H:Hp) (kvs:List (AJ×V)) (n:Nat) (as:List AI) (ts:List Int) (fs:CJ):Prop where
 run:Run W qs inn ord n as ts
 us:∀k:Nat,k<qs.length->as[k]?=some none->∃B l us,¬X l/\HP W qs B/\QH W qs inn ord H kvs k B l us/\∀u∈us,(∀f∈fs,f.1≠u)->as[u.toNat]?=B[u.toNat]?
 ko:Iw kvs qs.length
 fs:fs=[]\/∃k:Nat,ts[k]?=some (n:Int)
def HU(G:SOk W qs inn ord){B:List AI}(b:HP W qs B)(j:HP W qs as){k:Nat}{l:Addr}{us:List Int}(h:QH W qs inn ord H kvs k B l us)(c:FX B as us):∃q,qs[k]?=some q/\Fd W inn ord q as none:=by
 obtain⟨_,_,_,_,q,w,ls,d,a,e,f⟩:=h;have L:=G.all B b;obtain⟨g,i,_⟩:=L.q q (A6 a);exact⟨q,a,w,ls,d,Mj (W:=W.late B) (as':=as) L.ok L.sm L.inn e g i (c.sub f)⟩
def HS.nxt(G:SOk W qs inn ord)(T:HS W qs inn ord X H kvs n as ts due)(F:FT W qs inn ord as H H' kvs kvs' due fs):GJ W qs inn ord as (BS as fs):=by
 have m:=(T.run.aok G).1
 have x:∀f∈fs,∃(k:Nat)(q:Qu),f.1=(k:Int)/\k<qs.length/\as[k]?=some none/\qs[k]?=some q/\Fd W inn ord q as (some f.2):=λf b=>by
  obtain⟨k,q,g,y,i,r⟩:=F.fd f b;obtain⟨j,v,A,C⟩:=T.du _ y;have:k=j:=(by lia);subst this;exact⟨k,q,g,A,C,i,r⟩
 refine⟨QI _ _,λk p e=>?_,λk q s e=>?_⟩;rw[Mt λf b z=>?_];exact e;obtain⟨j,q,g,_,i,_⟩:=x f b;rw[g,Bk] at z;rw[z,e] at i;cases i;have w:k<qs.length:=(AN.mp s).1;by_cases c:∃f∈fs,f.1.toNat=k;obtain⟨f,t,o,D⟩:=QJ (as:=as) (by rw[m.len];exact w) c;obtain⟨j,a,g,_,i,r,v⟩:=x f t;have:j=k:=by rw[g,Bk] at o;exact o
 subst this;have:a=q:=Br (r.symm.trans s);subst this;exact⟨_,v,D⟩;rw[Mt λf b z=>c ⟨f,b,z⟩];refine⟨none,?_,e⟩
 have K:∃a,qs[k]?=some a/\Fd W inn ord a as none:=by
  by_cases d:(k:Int)∈due;rcases F.al k d with⟨p,E⟩|⟨l,us,_,u⟩;exact absurd ⟨_,E,Bk k⟩ c;exact HU G m m u λζ ζ=>rfl;rcases T.us k w e with h|⟨B,l,us,_,I,u,J⟩;exact absurd h d;exact HU G I m u J
 obtain⟨a,t,o⟩:=K;have:a=q:=Br (t.symm.trans s);subst this;exact o
def HS.aft(G:SOk W qs inn ord)(T:HS W qs inn ord X H kvs n as ts due)(hd:due≠[])(F:FT W qs inn ord as H H' kvs kvs' due fs)(I:∀l,H l=none->¬X l)(J:∀l vs,¬X l->H l=some (.lst vs)->H' l=some (.lst vs)):NH W qs inn ord X H' kvs' (n+1) (BS as fs) (C3 ts ((n:Int)+1) fs) fs:=by
 have v:=(T.run.aok G).1;have y:=(T.run.aok G).2;have nx:=T.nxt G F
 have x:∀f∈fs,∃k:Nat,f.1=(k:Int)/\k<qs.length/\as[k]?=some none:=λf a=>by
  obtain⟨k,q,b,o,A,R⟩:=F.fd f a;obtain⟨j,S,K,L⟩:=T.du _ o;have:k=j:=(by lia);subst this;exact⟨k,b,K,L⟩
 refine⟨.succ T.run (T.la.resolve_left hd) nx (Ua _ _) λk i=>?_,λk i e=>?_,F.ko,?_⟩;by_cases c:∃f∈fs,f.1.toNat=k;obtain⟨f,C,w,s⟩:=QJ (as:=as) (by rw[v.len];exact i) c;obtain⟨j,b,o,A⟩:=x f C;have:j=k:=by rw[b,Bk] at w;exact w
 subst this;rw[Ak ⟨A,by rw[s];simp⟩];exact Uc (by rw[y];exact i) c;have b:=Mt (as:=as) (k:=k) (fs:=fs) λf a z=>c ⟨f,a,z⟩;rw[Ub λf a z=>c ⟨f,a,z⟩,Aj λz=>z.2 (by rw[b];exact z.1)]
 have D:¬∃f∈fs,f.1.toNat=k:=λc=>by
  obtain⟨f,C,w,s⟩:=QJ (as:=as) (by rw[v.len];exact i) c;rw[e] at s;cases s
 have M:as[k]?=some none:=by rw[<-e,Mt λf a z=>D ⟨f,a,z⟩]
 have same:∀u:Int,0<=u->(∀f∈fs,f.1≠u)->(BS as fs)[u.toNat]?=as[u.toNat]?:=λu U m=>Mt λf a z=>by
  obtain⟨j,b,_⟩:=x f a;exact m f a (by lia)
 by_cases d:(k:Int)∈due;rcases F.al k d with⟨p,N⟩|⟨l,us,O,g⟩;exact absurd ⟨_,N,Bk k⟩ D;exact⟨as,l,us,I l O,v,g,λu t m=>same u (g.2.2.2.1 u t) m⟩;rcases T.us k i M with h|⟨B,l,us,E,P,g,Q⟩;exact absurd h d;refine⟨B,l,us,E,P,⟨by rw[F.kp k d];exact g.1,J _ _ E g.2.1,g.2.2⟩,λu t m=>?_⟩;rw[same u (g.2.2.2.1 u t) m,Q u t]
 cases e:fs with
 |nil=>exact .inl rfl
 |cons f r =>
   right;have a:f∈fs:=by rw[e];exact Bu
   obtain⟨k,b,o,_⟩:=x f a;refine⟨k,?_⟩;rw[<-e,Uc (by rw[y];exact o) ⟨f,a,by rw[b,Bk]⟩]
   push_cast;rfl
def NH.trn(A:NH W qs inn ord X H kvs n as ts fs)(g:∀k∈due,∃j:Nat,k=(j:Int)/\j<qs.length/\as[j]?=some none)(i:fs=[]->due=[])(m:∀k:Nat,k<qs.length->as[k]?=some none->(k:Int)∈due\/∃(l:Addr)(us:List Int),AH kvs (.inl (k:Int))=some (.ref l)/\H l=some (.lst (us.map V.int))/\∀u∈us,∀f∈fs,f.1≠u):HS W qs inn ord X H kvs n as ts due:=by
 refine⟨A.run,g,?_,λk b e=>?_,A.ko⟩;rcases A.fs with h|h;exact .inl (i h);exact .inr (.inr h);rcases m k b e with h|⟨l,us,o,p,q⟩;exact .inl h;right;obtain⟨B,r,d,s,t,a,v⟩:=A.us k b e;have w:l=r:=V.ref.inj (Br (o.symm.trans a.1));subst w;have x:us.map V.int=d.map V.int:=HO.lst.inj (Br (p.symm.trans a.2.1));refine⟨B,l,d,s,t,a,λu c=>v u c (q u ?_)⟩;have:V.int u∈us.map V.int:=by rw[x];exact AL.mpr ⟨u,c,rfl⟩
 obtain⟨C,y,z⟩:=AL.mp this;rw[<-V.int.inj z];exact y
def HS.end_(G:SOk W qs inn ord)(T:HS W qs inn ord X H kvs n as ts []):GJ W qs inn ord as as:=by
 have b:=(T.run.aok G).1;refine⟨rfl,λζ ζ e=>e,λk q a e=>⟨none,?_,e⟩⟩;rcases T.us k (AN.mp a).1 e with h|⟨B,l,us,_,c,d,f⟩;cases h;obtain⟨g,i,j⟩:=HU G c b d f;have:g=q:=Br (i.symm.trans a);subst this;exact j
def HS.start:HS W qs inn ord X H [] 0 (List.replicate qs.length none) (List.replicate qs.length 0) ((List.range qs.length).map λi:Nat=>(i:Int)):=by
 refine⟨.zero,λk a=>?_,.inr (.inl rfl),λk a ζ=>.inl (AL.mpr ⟨k,List.mem_range.mpr a,rfl⟩),by simp,λx b=>by cases b⟩;obtain⟨j,c,rfl⟩:=AL.mp a;have:=List.mem_range.mp c;exact⟨j,rfl,this,by rw[List.getElem?_replicate,Ak this]⟩
def NH.keep{H'':Hp}(A:NH W qs inn ord X H kvs n as ts fs)(c:∀l vs,¬X l->H l=some (.lst vs)->H'' l=some (.lst vs)):NH W qs inn ord X H'' kvs n as ts fs:=
 ⟨A.run,λk d e=>by
  obtain⟨B,l,us,b,f,a,g⟩:=A.us k d e
  exact⟨B,l,us,b,f,⟨a.1,c _ _ b a.2.1,a.2.2⟩,g⟩,A.ko,A.fs⟩
end
theorem Xr:∀(a acc:List (AJ×V))(k:AJ),(AH (Kq acc a) k).isSome=((AH acc k).isSome || a.any λp=>decide (p.1=k))
 |[],acc,k=>by simp[Kq]
 |p::a,acc,k=>by
   show(AH (Kq (AV acc p.1 p.2) a) k).isSome=_;rw[Xr a,Ou,List.any_cons];by_cases e:k=p.1;rw[Ak e];simp[e];rw[Aj e];have:decide (p.1=k)=false:=Dw λz=>e z.symm;rw[this];simp
theorem Ax.set{F:Addr->Prop}{H:Hp}{v:V}{d:Dt}(h:A5 F H v d):∀{vs:List V}{b:List Dt}(j:Nat),Ax F H vs b->Ax F H (vs.set j v) (b.set j d)
 |_,_,_,.nil=>.nil
 |_,_,0,.cons _ t=>.cons h t
 |_,_,j+1,.cons a t=>.cons a (Ax.set h j t)
theorem HV{H:Hp}:∀{c:List V}{fs:CJ},Ax Gc H c (fs.map fD)->∃b,Ml H c b/\b.map (·.1)=fs.map λf=>(.inl f.1:AJ)
 |_,[],.nil=>⟨[],.nil,rfl⟩
 | _,f :: fs,.cons a t=>by
   obtain⟨b,d,g⟩:=HV (fs:=fs) t;have h:A5 Gc H _ (.tup [.int f.1,BG (some f.2)]):=a
   cases h with
   | tup e u =>
     cases u with
     |cons x u =>
       cases u with
       |cons y u =>
         cases u with
         |nil =>
           rw[Mo x] at e;exact⟨(.inl f.1,_)::b,.cons ⟨_,rfl,e⟩ d,by rw[Eu,g];rfl⟩
def Xs{a:List (AJ×V)}{fs:CJ}(h:a.map (·.1)=fs.map λf=>(.inl f.1:AJ))(u:Int):(AH (Kq [] a) (.inl u)).isSome=fs.any λf=>decide (f.1=u):=by
 rw[Xr];show(false || _)=_;rw[Bool.false_or];have e:(a.any λp=>decide (p.1=(.inl u:AJ)))=(a.map (·.1)).any λk=>decide (k=(.inl u:AJ)):=by rw[List.any_map];rfl
 rw[e,h,List.any_map];congr 1;funext f;show decide ((Sum.inl f.1:AJ)=Sum.inl u)=decide (f.1=u);by_cases c:f.1=u;rw[By c,By (by rw[c])];rw[Dw c,Dw λz=>c (Sum.inl.inj z)]
def Xu(n:Nat)(x:α):(List.replicate n [x]).flatten=List.replicate n x:=by
 induction n with
 |zero=>rfl
 |succ n a=>rw[List.replicate_succ,List.flatten_cons,a];rfl
def Mu{m:Nat}(h:i<m):Oq (.int (i:Int)) ((List.range m).map λj:Nat=>V.int j)=true:=by
 unfold Oq;exact Gf.mpr ⟨.int i,AL.mpr ⟨i,List.mem_range.mpr h,rfl⟩,by simp[IW]⟩
def fN(m:Nat):(((List.range m).map λj:Nat=>V.int j).all IV)=true:=by
 rw[List.all_map];exact List.all_eq_true.mpr λζ ζ=>rfl
def ET.get{A:Addr}{as:List AI}(h:ET H A as){k:Nat}(f:k<as.length):∃vs v,H A=some (.lst vs)/\Bz vs (k:Int)=some v/\((as[k]?=some none/\v=.non)\/∃p t,as[k]?=some (some p)/\v=.ref t/\H t=some (.tup [.str p.1,.int p.2])):=by
 obtain⟨vs,e,h⟩:=h;have b:k<vs.length:=by rw[h.length,Al];exact f
 obtain⟨a,c,d⟩:=NF h (AD b);refine⟨vs,_,e,B3 (AD b),?_⟩
 cases a with
 |none=>exact .inl ⟨c,d.ansN⟩
 |some p =>
   obtain⟨t,g,i⟩:=d.ansS;exact .inr ⟨p,t,c,g,i⟩
def NI (W:Wd) (inn:Int) (ord:A') (q:Qu) (o:Option AI) (v:Option Int):Prop:=(∃p,o=some (some p)/\v=none)\/(o=some none/\∃(w:Wt)(ls:List Lk)(ts:List Int),LU W inn ord q.1 q.2.1 q.2.2 0 none (some w) ls ts/\v=some w.2.2)
def oV:Option Int->V
 |none=>.non
 |some n=>.int n
def Pa{d e:Dt}(h:A5 F H v (.tup [d,e])):∃p x y,v=.ref p/\H p=some (.tup [x,y])/\A5 F H x d/\A5 F H y e:=by
 cases h with
 |tup c h =>
   cases h with
   |cons a h=>cases h with
     |cons b h=>cases h;exact⟨_,_,_,rfl,c,a,b⟩
section
variable {X:Cx}
def Mv (K:Ah):V->List V->Hp->VK->Prop:=λx vs H Q=>∃l y n d ds xs,∃j:Nat,x=.ref l/\vs=[y]/\(∀e∈ds,C6 n e d)/\n<=60/\An K H y d/\Ae K H l xs/\Ai K H xs ds/\ds[j]?=some d/\(∀m,m<j->ds[m]?≠some d)/\Q (.int j) H
def Ue(W:X.A.units+64<cLine):Km X "list.index" (Mv X.K):=by
 intro ab s σ H x Y v us Q I B C h;obtain⟨l,y,n,d,c,xs,j,rfl,rfl,D,Z,M,E,t,f,F,q⟩:=h;cases B;obtain⟨u,rfl,G⟩:=C.one;obtain⟨b,r,p,hz⟩:=I.list E;obtain⟨J,h2⟩:=SM (A:=X.A.in1) I r t D M G (by rw[GV];lia);obtain⟨⟨oc,K,oD,os⟩,e,L,k,N⟩:=p.isList;cases L;cases N;have ll:=r.length;have lt:=t.length;have aa:j<c.length:=(AN.mp f).1;have o:j<b.toArray.size:=by rw[Cf];lia
 have at_:∀m(h:m<b.toArray.size),dec (∃a,RelV a b.toArray[m]/\An X.K H a d)=true↔c[m]?=some d:=λm h=>by
  have O:m<b.length:=(by simpa using h);obtain⟨P,w,g⟩:=r.get (i:=m) (x:=xs[m]'(by lia)) (AD (by lia));obtain⟨e',R,te⟩:=t.get (i:=m) (v:=xs[m]'(by lia)) (AD (by lia))
  have S:b.toArray[m]=P:=by
   rw[AD O] at w;simpa using w
  rw[D7,S,R];refine⟨λ⟨a,T,U⟩=>?_,λz=>?_⟩;have:=g.inj T;subst this;rw[An.inj I te U];cases z;exact⟨_,g,te⟩
 have sl:=Lr;have hs:sizeLine=16777216:=sizeLine_eq;refine call_meets PySem.F.slot_list_index ⟨_,e,rfl⟩ PySem.F.entry_list_index (PySem.F.args_list_index_2 _ _) (SeqAt.list_indexAt l b.toArray k K os u (λy=>dec (∃a,RelV a y/\An X.K H a d)) j o (by lia) ((at_ j o).mpr f) λm h V=>?_) ⟨e,J,?_⟩;exact Bool.eq_false_iff.mpr λz=>F m V ((at_ m h).mp z);exact⟨.int j,H,I.tok _,⟨_,rfl⟩,q⟩
def Xv(w:X.calm=true):Bi X (.builtin "min") (λxs H Q=>∃p n ns,xs=[.ref p]/\H p=some (.lst ((n::ns).map V.int))/\Q (NA (n::ns)) H):=by
 intro G a σ Y F us Q f x h;obtain⟨l,m,ns,rfl,y,q⟩:=h;obtain⟨u,rfl,B⟩:=FP x;cases B;obtain⟨z,c,n,g,e⟩:=(show AB X.prog X.w Y a.heap l (.lst ((m::ns).map V.int)) from f.hok l _ y);have k:=Vg g;have r:a.heap.IsList l c.toArray:=⟨_,e,rfl,n,rfl⟩
 have s:c.length=(m::ns).length:=by have:=g.length;rw[Al] at this;exact this.symm
 refine call_min_walk (wpAny_pyIter_list r ⟨_,[a.heap.objs.size,l],[a.heap.objs.size],_,λi v=>c.toArray[i]?=some v,λi h=>h.IsListIter a.heap.objs.size l i/\h.IsList l c.toArray,λi j=>decide ((m::ns).getD i 0<(m::ns).getD j 0),rfl,Walks.list (A:=X.A.in1) (f.ok.hd w) a.heap.objs.size l (Cq (Bl e)) c.toArray,
  ⟨⟨_,B9 _ rfl,rfl,rfl⟩,r.push _⟩,λb hb=>?_,by rw[Cf,s];exact Nat.succ_pos _,CmpOf.ints_lt (λi=>(m::ns).getD i 0) (λi v d=>k.int_at i v (by simpa using d)),λv C tk d D=>?_⟩)
 show b<(a.heap.push _).objs.size;rw[Heap.size_push];rcases BV.mp hb with rfl|hb;exact PM _;rw[AW.mp hb];exact Nat.lt_succ_of_lt (Bl e);have E:∀b o,a.heap.get? b=some o->C.get? b=some o:=λb o z=>D b o (by simpa using Cq (Bl z)) (Ba _ z);refine⟨NA (m::ns),Y,f.kept E,?_,q⟩;rw[Cf,s,Ew,Nat.add_sub_cancel] at d;obtain⟨t,rfl⟩:=k.int_at (argBest (λi j=>decide ((m::ns).getD i 0<(m::ns).getD j 0)) ns.length) v (by rw[<-List.getElem?_toArray];exact d);refine⟨t,?_⟩;rw[Td λi=>(m::ns).getD i 0,Wl];rfl
end
def fO{K:Ah}{a:Addr}{xs:List V}{k:Nat}{g:TG}{tc:TT}(Pv:Addr->Nat->List V->Hp->Prop)
 (l:∀D,Y D=none->Pv D 0 [] (upd Y D (.lst []))) (f:∀D i ys c,Pv D i ys c->Ae K c a xs)
 (m:∀D i x T ys c(R:VK)(e:Hp->Prop),Y D=none->xs[i]?=some x->c T=none->Pv D i ys c->(∀y h,h D=some (.lst ys)->ys.length<sizeLine->Pv D (i+1) (ys++[y]) (upd h D (.lst (ys++[y])))->R y h)->(∀d,Pv D (i+1) ys d->e d)->g (.ref T) (Fe k caps σ) (upd c T (.tup [.int i,x])) λσ4 n=>tc σ4 n λb d=>if b=true then te σ4 d R else e d)
 (hd:∀D ys c,Y D=none->Pv D xs.length ys c->Q D c):Iq (HE LK K a) k caps g tc te σ Y Q:=LJ xs.length Pv l (λD i ys c p j=>⟨xs,xs[i],f D i ys c p,by simp[j]⟩) (λD ys c p=>⟨xs,f D _ ys c p,rfl⟩) (λD i ys c x t R e o j p y k q=>by obtain⟨T,v,r,rfl,rfl,s⟩:=y;exact m D i v T ys _ R e o (s xs (f D i ys _ p)) r p k q) hd
def nx (ws:E') (x:Int):Option Int:=if 0<=x then(ws[x.toNat]?).bind id else none
def it (ws:E') (f:Int):Nat->Option Int
 |0=>some f
 |n+1=>(it ws f n).bind (nx ws)
def Cl (ws:E'):Prop:=∀x o,nx ws x=some o->∃o',nx ws o=some o'
def CF{ws:E'}{x o:Int}:nx ws x=some o↔0<=x/\ws[x.toNat]?=some (some o):=by
 unfold nx;by_cases h:0<=x;rw[Ak h]
 cases e:ws[x.toNat]? with
 |none=>exact⟨nofun,λz=>by cases z.2⟩
 |some y=>exact⟨λz=>⟨h,Bw some z⟩,λz=>Br z.2⟩
 rw[Aj h];exact⟨nofun,λz=>absurd z.1 h⟩
def KH{ws:E'}{x o:Int}(h:nx ws x=some o):0<=x/\x<ws.length:=by
 obtain⟨b,a⟩:=CF.mp h;have:=(AN.mp a).1;lia
structure Rw (ws:E') (f:Int) (row:List Int):Prop where
 ne:row≠[]
 nd:row.Nodup
 op:∀x∈row,∃o,nx ws x=some o
 st:∀(i:Nat)(x y:Int),row[i]?=some x->row[i+1]?=some y->nx ws x=some y
 hd:∀(i:Nat)(x:Int),row[i]?=some x->it ws f i=some x
def JT (ws:E') (R:List Int):Prop:=∀(i:Nat)(x:Int),R[i]?=some x->∃y,R[(i+1)%R.length]?=some y/\nx ws x=some y
structure Gd (ws:E') (f:Int) (R:List Int):Prop where
 ne:R≠[]
 nd:R.Nodup
 low:∀x,R[0]?=some x->∀y∈R,x<=y
 cyc:JT ws R
 hit:∃n x,n<=ws.length/\it ws f n=some x/\x∈R
section
variable {ws:E'} {f:Int} {row R:List Int}
def Rw.one{o:Int}(h:nx ws f=some o):Rw ws f [f] where
 ne:=nofun
 nd:=FM.mpr ⟨nofun,List.nodup_nil⟩
 op x b:=⟨o,by rw[AW.mp b];exact h⟩
 st i x y _ c:=by cases i<;>cases c
 hd i x a:=by
  cases i with
  |zero=>exact a
  |succ i=>cases a
def Rw.few(r:Rw ws f row):row.length<=ws.length:=Jh ws.length _ r.nd λy a=>by
 obtain⟨o,b⟩:=r.op y a;exact KH b
def Rw.more(r:Rw ws f row)(c:Cl ws){x o:Int}(l:row[row.length-1]?=some x)(j:nx ws x=some o)(m:o∉row):Rw ws f (row++[o]):=by
 have n:0<row.length:=List.length_pos_iff.mpr r.ne;refine⟨by simp,List.nodup_append.mpr ⟨r.nd,FM.mpr ⟨nofun,List.nodup_nil⟩,λa d b hb=>by rw[AW.mp hb];exact λz=>m (z▸d)⟩,λy g=>?_,λi a b d hb=>?_,λi a d=>?_⟩;rcases BL.mp g with g|g;exact r.op y g;rw[AW.mp g];exact c _ _ j;have k:=(AN.mp hb).1;rw[AZ,DS] at k;rw[D1 (by lia)] at d;rcases Nat.lt_or_ge (i+1) row.length with h|h;rw[D1 h] at hb;exact r.st i a b d hb;have e:i=row.length-1:=(by lia);subst e;rw[EB h,show row.length-1+1-row.length=0 by lia] at hb;rw[l] at d;cases d;cases hb;exact j;rcases Nat.lt_or_ge i row.length with h|h;rw[D1 h] at d;exact r.hd i a d;rw[EB h] at d;have k:=(AN.mp d).1;rw[DS] at k;have e:i=row.length-1+1:=(by lia);subst e;rw[show row.length-1+1-row.length=0 by lia] at d;cases d;show(it ws f (row.length-1)).bind (nx ws)=_;rw[r.hd _ _ l];exact j
def Rw.cyc(r:Rw ws f row){x o:Int}(d:row[row.length-1]?=some x)(e:nx ws x=some o)(c:row[i]?=some o):JT ws (row.drop i):=by
 have g:=(AN.mp c).1;intro j a b;rw[List.getElem?_drop] at b;have k:=(AN.mp b).1;rw[G2];rcases Nat.lt_or_ge (j+1) (row.length-i) with h|h;rw[Nat.mod_eq_of_lt h];have hb:=AD (show i+j+1<row.length by lia);exact⟨_,by rw[List.getElem?_drop];exact hb,r.st _ _ _ b hb⟩;rw[show j+1=row.length-i by lia,Nat.mod_self];rw[show i+j=row.length-1 by lia,d] at b;cases b;exact⟨o,by rw[List.getElem?_drop];exact c,e⟩
def Pb{l:List α}(a:j<=l.length)(b:i<l.length):(l.drop j++l.take j)[i]?=l[(i+j)%l.length]?:=by
 rcases Nat.lt_or_ge i (l.length-j) with h|h;rw[D1 (by rw[G2];exact h),List.getElem?_drop,Nat.mod_eq_of_lt (by lia),Nat.add_comm];rw[EB (by rw[G2];exact h),G2,List.getElem?_take_of_lt (by lia),show i+j=i-(l.length-j)+l.length by lia,Nat.add_mod_right,Nat.mod_eq_of_lt (by lia)]
def NJ(l:List α)(j:Nat):(l.drop j++l.take j).length=l.length:=by
 rw[AZ,G2,Fn];lia
def JT.rot{l:List Int}(c:JT ws l)(e:j<=l.length):JT ws (l.drop j++l.take j):=by
 intro i a d;have f:=(AN.mp d).1;rw[NJ] at f ⊢;rw[Pb e f] at d;obtain⟨b,g,h⟩:=c _ _ d;refine⟨b,?_,h⟩;rw[Pb e (Nat.mod_lt _ (by lia)),Nat.mod_add_mod,show i+1+j=i+j+1 by lia];rw[Nat.mod_add_mod] at g;exact g
def Rw.ring(r:Rw ws f row){x o m:Int}(l:row[row.length-1]?=some x)(n:nx ws x=some o)(e:row[i]?=some o)(h:(row.drop i)[j]?=some m)(p:∀y∈row.drop i,m<=y):Gd ws f ((row.drop i).drop j++(row.drop i).take j):=by
 have c:=r.cyc l n e;have d:=(AN.mp h).1;have q:=(AN.mp e).1
 have g:((row.drop i).drop j++(row.drop i).take j).Perm (row.drop i):=by
  refine List.perm_append_comm.trans ?_;rw[List.take_append_drop]
 refine⟨λz=>?_,g.nodup_iff.mpr (List.Sublist.nodup (List.drop_sublist _ _) r.nd),λa k b hb=>?_,c.rot (Cn d),⟨i,o,?_,r.hd i o e,?_⟩⟩;have:=Bw List.length z;rw[NJ] at this;rw[this] at d;cases d;rw[Pb (Cn d) (by lia),Nat.zero_add,Nat.mod_eq_of_lt d,h] at k;cases k;exact p b (g.mem_iff.mp hb);have:=r.few;lia;exact g.mem_iff.mpr (A6 (i:=0) (by rw[List.getElem?_drop];exact e))
theorem Gd.stay(r:Gd ws f R):∀(d n:Nat)(x:Int),it ws f n=some x->x∈R->∃y,it ws f (n+d)=some y/\y∈R
 |0,n,x,h,m=>⟨x,h,m⟩
 |d+1,n,x,h,m=>by
   obtain⟨y,a,b⟩:=r.stay d n x h m;obtain⟨k,c⟩:=List.mem_iff_getElem?.mp b;obtain⟨z,g,e⟩:=r.cyc k y c;refine⟨z,?_,A6 g⟩;show(it ws f (n+d)).bind (nx ws)=_;rw[a];exact e
def Gd.end_(r:Gd ws f R):∃y,it ws f ws.length=some y/\y∈R:=by
 obtain⟨n,x,a,h,m⟩:=r.hit;have:=r.stay (ws.length-n) n x h m;rw[show n+(ws.length-n)=ws.length by lia] at this;exact this
end
def Xw(n:Int):∀ns:List Int,ns.foldl min n∈n::ns/\∀y∈n::ns,ns.foldl min n<=y:=by
 intro ns
 induction ns generalizing n with
 |nil=>exact⟨Bu,λy a=>by rw[AW.mp a];exact Int.le_refl _⟩
 |cons m ns d =>
   obtain⟨e,b⟩:=d (min n m);have c:=b _ Bu;refine⟨?_,λy a=>?_⟩;rcases BV.mp e with h|h;show ns.foldl min (min n m)∈_;rw[h];rcases Int.le_total n m with g|g;rw[Int.min_eq_left g];exact Bu;rw[Int.min_eq_right g];exact B8 _ Bu;exact B8 _ (B8 _ h);show ns.foldl min (min n m)<=y;rcases BV.mp a with rfl|a;exact Int.le_trans c (Int.min_le_left _ _);rcases BV.mp a with rfl|a;exact Int.le_trans c (Int.min_le_right _ _);exact b y (B8 _ a)
theorem QK{x:Int}:∀{l:List Int},x∈l->∃i:Nat,l[i]?=some x/\∀m,m<i->l[m]?≠some x
 |y::l,h=>by
   by_cases e:y=x;exact⟨0,Bw some e,λm a=>absurd a (Nat.not_lt_zero _)⟩;rcases BV.mp h with h|h;exact absurd h.symm e;obtain⟨i,b,c⟩:=QK h;refine⟨i+1,b,λm a=>?_⟩
   cases m with
   |zero=>exact λz=>e (Br z)
   |succ m=>exact c m (by lia)
def EU{l:List Int}{x:Int}:(l.map Dt.int)[i]?=some (.int x)↔l[i]?=some x:=by
 rw[A3]
 cases l[i]? with
 |none=>exact⟨nofun,nofun⟩
 |some y=>exact⟨λz=>by cases z;rfl,λz=>by cases z;rfl⟩
def QL{l:List Int}{x:Int}:∀e∈l.map Dt.int,C6 1 e (.int x):=λe a=>by
 obtain⟨y,_,rfl⟩:=AL.mp a;exact .int _ _
def HW{l:List Int}{x:Int}:Dt.int x∈l.map Dt.int↔x∈l:=by
 rw[AL];exact⟨λ⟨y,h,e⟩=>by cases e;exact h,λh=>⟨x,h,rfl⟩⟩
def opn (ws:E') (i:Nat):List Int:=((List.range i).filter λk=>((ws[k]?).bind id).isSome).map λk:Nat=>(k:Int)
def Uf{ws:E'}{o:Int}(h:ws[i]?=some (some o)):opn ws (i+1)=opn ws i++[(i:Int)]:=by
 unfold opn;rw[List.range_succ,M1,Bh,MY,h];rfl
def Ug{ws:E'}(h:ws[i]?=some none):opn ws (i+1)=opn ws i:=by
 unfold opn;rw[List.range_succ,M1,Bh,MY,h];exact FN _
def Xx(ws:E')(i:Nat):(opn ws i).length<=i:=by
 unfold opn;rw[Al];exact E8 (PL _ _) (Nat.le_of_eq List.length_range)
def Uh{ws:E'}{k:Nat}{o:Int}(a:k<i)(h:ws[k]?=some (some o)):(k:Int)∈opn ws i:=
 AL.mpr ⟨k,Kd.mpr ⟨List.mem_range.mpr a,by rw[h];rfl⟩,rfl⟩
theorem Pc{ws:E'}:∀{i:Nat}{z:Int}{zs:List Int},opn ws i=z::zs->∃(f:Nat)(o:Int),z=f/\ws[f]?=some (some o)/\∀k,k<f->∀b,ws[k]?≠some (some b)
 |0,_,_,h=>by cases h
 | i + 1,z,zs,h=>by
   rcases Nat.lt_or_ge i ws.length with c|c
   cases e:ws[i]? with
   |none=>rw[List.getElem?_eq_none_iff] at e;lia
   |some w =>
     cases w with
     |none=>rw[Ug e] at h;exact Pc h
     |some o =>
       rw[Uf e] at h
       cases a:opn ws i with
       |nil =>
         rw[a] at h;cases h;exact⟨i,o,rfl,e,λk d b z=>by have:=Uh d z;rw[a] at this;cases this⟩
       |cons y ys =>
         rw[a] at h;cases h;exact Pc a
   have e:opn ws (i+1)=opn ws i:=by
    unfold opn;rw[List.range_succ,M1,Bh,MY,D6 c];exact FN _
   rw[e] at h;exact Pc h
theorem KI{ws:E'}{f:Int}:∀{n:Nat}{y:Int},it ws f n=some y->∀m,m<=n->∃z,it ws f m=some z
 |0,y,h,m,a=>⟨y,by rw[Nat.le_zero.mp a];exact h⟩
 |n+1,y,h,m,a=>by
   rcases Nat.lt_or_ge n m with g|g;rw[show m=n+1 by lia];exact⟨y,h⟩
   cases e:it ws f n with
   |none=>rw[show it ws f (n+1)=(it ws f n).bind (nx ws) from rfl,e] at h;cases h
   |some z=>exact KI e m g
def QM (W:Wd) (inn:Int) (ord:A') (qs:List Qu) (ws:E'):Prop:=ws.length=qs.length/\∀(k:Nat)(q:Qu)(o:Option Int),qs[k]?=some q->ws[k]?=some o->NI W inn ord q W.as[k]? o
section
variable {W:Wd} {inn:Int} {ord:A'} {qs:List Qu} {ws:E'}
def JU(G:KD W qs inn ord)(h:QM W inn ord qs ws){k:Nat}{o:Int}(e:ws[k]?=some (some o)):Mc W.as o:=by
 have b:=(AN.mp e).1;have a:=AD (show k<qs.length by rw[<-h.1];exact b);rcases h.2 _ _ _ a e with⟨_,_,z⟩|⟨_,w,ls,ts,c,z⟩;cases z;cases z;obtain⟨d,f,_⟩:=G.q _ (A6 a);obtain⟨_,_,_,_,_,_,_,_,_,_,_,g,_⟩:=JE G.ok G.sm G.inn c d f rfl;exact g
def Pd(c:qs.length=W.as.length)(h:QM W inn ord qs ws){k:Nat}(b:k<qs.length):(W.as[k]?=some none/\∃o,ws[k]?=some (some o))\/((∃p,W.as[k]?=some (some p))/\ws[k]?=some none):=by
 have a:=AD (show k<ws.length by rw[h.1];exact b);rcases h.2 _ _ _ (AD b) a with⟨p,e,z⟩|⟨e,w,_,_,_,z⟩;rw[z] at a;exact .inr ⟨⟨p,e⟩,a⟩;rw[z] at a;exact .inl ⟨e,_,a⟩
def Pe(G:KD W qs inn ord)(a:qs.length=W.as.length)(h:QM W inn ord qs ws):Cl ws:=λx o e=>by
 obtain⟨b,f,c⟩:=JU G h (CF.mp e).2;rcases Pd a h (k:=o.toNat) (by lia) with⟨_,d,g⟩|⟨⟨p,g⟩,_⟩;exact⟨d,CF.mpr ⟨b,g⟩⟩;rw[c] at g;cases g
theorem NK{K:Ah}{H:Hp}:∀ws:E',Ai K H (ws.map oV) (ws.map GG)
 |[]=>.nil
 |none::ws=>.cons .non (NK ws)
 |some n::ws=>.cons (.int n) (NK ws)
end
section
variable {W:Wd} {sc st:Int} {x:Str}
def Xy(a:∀s∈W.ss,s.1=[])(b:AK):FV W b.2.1 b.2.2=[]:=by
 have:BO W b.2.1=[]:=by
  unfold BO
  cases e:W.ss[b.2.1.toNat]? with
  |none=>rfl
  |some s=>exact a s (A6 e)
 unfold FV;rw[this];rfl
def Xz(a:∀s∈W.ss,s.1=[])(h:AS W sc st b):b=([],sc,st):=by
 induction h with
 |root=>rfl
 |kid h k c=>unfold CG at k;rw[Xy a] at k;cases k
def XA(g:∀s∈W.ss,s.1=[]){bs:List AK}(h:C1 W sc st bs):bs=[([],sc,st)]:=by
 have d:([],sc,st)∈bs:=(h.mem _).mpr .root;have a:∀b∈bs,b=([],sc,st):=λb hb=>Xz g ((h.mem b).mp hb);have f:=h.nd
 match bs,d,a,f with
 |[],d,_,_=>cases d
 |[b],_,a,_=>rw[a b (by simp)]
 |b::c::r,_,a,f =>
   have e:b=c:=(a b (by simp)).trans (a c (by simp)).symm;exact absurd (by rw[e];simp) (FM.mp f).1
def XB(a:∀s∈W.ss,s.1=[])(bs:List AK):Fq W bs=[]:=by
 unfold Fq;rw[List.flatMap_eq_nil_iff];intro b _;rw[Xy a];rfl
set_option tactic.hygienic true in
def Mw(b:∀s∈W.ss,s.1=[]){w:Option Wt}(h:LU W inn ord sc st [x] at_ a w ls ts) :
 ∃ws:List (List Ao),ws.Perm (Cs W ([],sc,st) x (Fh W sc) 0)/\BQ W ord ws [] at_=(a,w):=by
 cases h with
 |stop h e n =>
   rename_i l os;have hb:=XA b h.b;have d:os=[]:=List.Perm.eq_nil (by have:=h.o.perm;rw[XB b] at this;exact this);have c:=h.f.perm;rw[hb] at c;refine⟨l.2.1,by simpa [DK] using c,by rw[<-e,d]⟩
end
def Mx (ls:List (Str×Int)) (as:List AI) (i:Nat):AI:=match ls[i]? with
 |some p=>if p.1=("by" : Str) then(match as[p.2.toNat]? with
  |some none=>none
  |some (some q)=>if q.1=("thing" : Str) then some ("thing",q.2) else some ("none",0)
  |none=>some ("none",0)) else some p
 |none=>none
structure EV (W:Wd) (qs:List Qu) (lb:Str) (nm nm':Nat->Str) (hr:Nat->Nat) (c:Nat->Bool) (ls:List (Str×Int)):Prop where
 sts:W.sts=[([],[lb])]
 len:qs.length=ls.length
 q:∀i,i<ls.length->qs[i]?=some ((hr i:Int),0,[nm i])
 sc:∀i,i<ls.length->∀p,ls[i]?=some p->W.ss[hr i]?=some ([],(if c i=true then[(lb,nm' i,("thing" : Str),(i:Int))] else[])++if p.1=("none" : Str) then[] else[(lb,nm i,p.1,p.2)])
 ne:∀i,i<ls.length->nm' i≠nm i
 nos:∀s∈W.ss,s.1=[]
 kd:∀p∈ls,p=(("none" : Str),(0:Int))\/(p.1=("thing" : Str)/\0<=p.2/\p.2<W.gs.length)\/(p.1=("by" : Str)/\0<=p.2/\p.2<ls.length)
def JV:("none" : Str)≠("by" : Str):=by decide
def fP:("thing" : Str)≠("by" : Str):=by decide
def JW:("by" : Str)≠("none" : Str):=by decide
def fQ:("thing" : Str)≠("none" : Str):=by decide
section
variable {W:Wd} {qs:List Qu} {lb:Str} {nm nm':Nat->Str} {hr:Nat->Nat} {c:Nat->Bool} {ls:List (Str×Int)}
def fR(N:EV W qs lb nm nm' hr c ls){as:List AI}{p:Str×Int}(d:ls[i]?=some p) :
 Cs (W.late as) ([],(hr i:Int),0) (nm i) (Fh (W.late as) (hr i:Int)) 0=if p.1=("none" : Str) then[] else[[((hr i:Int),("told" : Str),((if c i=true then 1 else 0:Nat):Int))]]:=by
 have e:=(AN.mp d).1;have h:=N.sc i e p d
 have j:Fh (W.late as) (hr i:Int)=(if c i=true then[(lb,nm' i,("thing" : Str),(i:Int))] else[])++if p.1=("none" : Str) then[] else[(lb,nm i,p.1,p.2)]:=by
  unfold Fh
  show(match W.ss[((hr i:Nat):Int).toNat]? with|some s=>s.2|none=>[])=_
  rw[Bk,h]
 have f:Gk (W.late as) 0=[lb]:=by
  unfold Gk
  show(match W.sts[(0:Int).toNat]? with|some s=>s.2|none=>[])=_
  rw[N.sts];rfl
 rw[j];have g:=N.ne i e;by_cases a:c i=true<;>by_cases b:p.1=("none" : Str);simp[a,b,Cs,Ey,g];simp[a,b,Cs,Ey,g,f];simp[a,b,Cs];simp[a,b,Cs,Ey,f]
def fS(N:EV W qs lb nm nm' hr c ls){p:Str×Int}(a:ls[i]?=some p)(b:p.1≠("none" : Str)) :
 Ci W.ss [((hr i:Int),("told" : Str),((if c i=true then 1 else 0:Nat):Int))]=(lb,nm i,p.1,p.2):=by
 have e:=(AN.mp a).1;have f:=N.sc i e p a;show Jt W.ss _=_;refine Tr rfl rfl f ?_;by_cases d:c i=true;simp[d,b];simp[d,b]
def XC(N:EV W qs lb nm nm' hr c ls){as:List AI}(H:as.length=ls.length){p:Str×Int}(t:ls[i]?=some p){a:AI}{w:Option Wt}{I:List Lk}(h:LU (W.late as) 0 [] (hr i:Int) 0 [nm i] 0 a w I ts):a=Mx ls as i/\∀u,w=some u->p=(("by" : Str),u.2.2):=by
 obtain⟨ws,j,k⟩:=Mw (W:=W.late as) N.nos h;rw[fR N t] at j;have D:=N.kd p (A6 t);unfold Mx;rw[t];dsimp only;by_cases b:p.1=("none" : Str);rw[Ak b] at j;have:=j.eq_nil;subst this
 have J:BQ (W.late as) [] [] [] 0=(some (("none" : Str),(0:Int)),none):=by
  rw[GH (by rfl),NC (by intro w j;cases j)]
 rw[J] at k;obtain⟨d,f⟩:=Prod.mk.inj k
 have L:p=(("none" : Str),(0:Int)):=by
  rcases D with z|z|z;exact z;rw[z.1] at b;exact absurd b fQ;rw[z.1] at b;exact absurd b JW
 rw[Aj (by rw[b];exact JV),<-d,L];exact⟨rfl,λu g=>by rw[<-f] at g;cases g⟩;rw[Aj b] at j;have:=List.perm_singleton.mp j;subst this
 have x:Co (W.late as).ss [] [[((hr i:Int),("told" : Str),((if c i=true then 1 else 0:Nat):Int))]] [[((hr i:Int),("told" : Str),((if c i=true then 1 else 0:Nat):Int))]]=[[((hr i:Int),("told" : Str),((if c i=true then 1 else 0:Nat):Int))]]:=by
  unfold Co;simp[WI]
 have C:Ci (W.late as).ss [((hr i:Int),("told" : Str),((if c i=true then 1 else 0:Nat):Int))]=(lb,nm i,p.1,p.2):=fS N t b
 generalize [((hr i:Int),("told" : Str),((if c i=true then 1 else 0:Nat):Int))]=m at x C k
 have s:Ds (W.late as) [] [m] []=match DZ (W.late as) m with|some q=>some (m,q)|none=>none:=by
  unfold Ds;show EF _ _=_;rw[x];rfl
 have l:DZ (W.late as) m=if p.1=("by" : Str)/\as[p.2.toNat]?=some none then some p.2 else none:=by
  unfold DZ;rw[C]
 have F:Bg (W.late as) m=if p.1=("thing" : Str) then some p.2 else match as[p.2.toNat]? with
  |some (some q)=>if q.1=("thing" : Str) then some q.2 else none
  |_=>none:=by
  unfold Bg;rw[C];rfl
 have G:CI (W.late as) [m] 0=match Bg (W.late as) m with|some n=>(("thing" : Str),n)|none=>(("none" : Str),0):=by
  cases e:Bg (W.late as) m with
  |none=>exact NC λw j=>by rw[AW.mp j];exact e
  |some n =>
    obtain⟨M,d,f⟩:=OX (W:=W.late as) (w:=m) (r:=[]) (at_:=0) (λz=>by have:=z m (by simp);rw[e] at this;cases this) (λv K=>by rw[AW.mp K]);rw[e] at d;cases d;exact f
 rcases D with z|⟨z,_⟩|⟨z,O,P⟩;rw[z] at b;exact absurd rfl b;have E:¬p.1=("by" : Str):=by rw[z];exact fP
 rw[Aj λy=>E y.1] at l;rw[l] at s;rw[GH s,x,G,F,Ak z] at k;obtain⟨d,f⟩:=Prod.mk.inj k;rw[Aj E,<-d];refine⟨?_,λu g=>by rw[<-f] at g;cases g⟩;show some (("thing" : Str),p.2)=some p;rw[<-z];rw[Ak z];have Q:p.2.toNat<as.length:=by rw[H];lia
 cases A:as[p.2.toNat]? with
 |none=>rw[List.getElem?_eq_none_iff] at A;lia
 |some o =>
   cases o with
   |none =>
     rw[Ak ⟨z,A⟩] at l;rw[l] at s;rw[KC s] at k;obtain⟨d,f⟩:=Prod.mk.inj k;refine⟨d.symm,λu g=>?_⟩;rw[g] at f;cases f;show p=(("by" : Str),p.2);rw[<-z]
   |some q =>
     rw[Aj (λy=>by rw[A] at y;cases y.2)] at l;rw[l] at s;rw[GH s,x,G,F,Aj (by rw[z];decide),A] at k;obtain⟨d,f⟩:=Prod.mk.inj k;refine⟨?_,λu g=>by rw[<-f] at g;cases g⟩;rw[<-d];dsimp only;by_cases B:q.1=("thing" : Str);rw[Ak B,Ak B];rw[Aj B,Aj B]
end
inductive Dp (ls:List (Str×Int)):Nat->Nat->Str×Int->Prop where
 |one {i:Nat} {p:Str×Int} (h:ls[i]?=some p) (n:p.1≠("by" : Str)):Dp ls i 1 p
 |far {i d:Nat} {j:Int} {p:Str×Int} (h:ls[i]?=some (("by" : Str),j)) (k:Dp ls j.toNat d p):Dp ls i (d+1) p
section
variable {ls:List (Str×Int)} {i d d':Nat} {p R:Str×Int}
def Dp.pos(h:Dp ls i d p):1<=d:=by cases h<;>lia
def Dp.end_(h:Dp ls i d p):p.1≠("by" : Str)/\p∈ls:=by
 induction h with
 |one h n=>exact⟨n,A6 h⟩
 |far h k a=>exact a
def Dp.uniq(h:Dp ls i d p)(k:Dp ls i d' R):d=d'/\p=R:=by
 induction h generalizing d' R with
 |one h n =>
   cases k with
   |one a b=>rw[h] at a;cases a;exact⟨rfl,rfl⟩
   |far a k=>rw[h] at a;cases a;exact absurd rfl n
 |far h g c =>
   cases k with
   |one a b=>rw[h] at a;cases a;exact absurd rfl b
   |far a k=>rw[h] at a;cases a;obtain⟨e,f⟩:=c k;exact⟨by rw[e],f⟩
def Dp.down(h:Dp ls i d p):∀t,1<=t->t<=d->∃k,k<ls.length/\Dp ls k t p:=by
 induction h with
 |one h n=>intro t a b;exact⟨_,(AN.mp h).1,by rw[show t=1 by lia];exact .one h n⟩
 |@far i d j p h k c =>
   intro t a b;by_cases e:t=d+1;exact⟨i,(AN.mp h).1,by rw[e];exact .far h k⟩;exact c t a (by lia)
def Bc (ls:List (Str×Int)):Nat->Nat->Nat->AI×Int
 |0,_,_=>(none,0)
 |f+1,i,t=>match ls[i]? with
   |some p=>if p.1=("by" : Str) then Bc ls f p.2.toNat (t+1) else(some p,(t:Int))
   |none=>(none,0)
theorem XD:∀(f i t:Nat),i<ls.length->(∀p∈ls,p.1=("by" : Str)->p.2.toNat<ls.length)->(∃d p,Dp ls i d p/\d<=f/\Bc ls f i t=(some p,((t+d-1:Nat):Int)))\/((∀d p,Dp ls i d p->f<d)/\Bc ls f i t=(none,0))
 |0,i,t,_,_=>.inr ⟨λd p h=>h.pos,rfl⟩
 |f+1,i,t,l,hb=>by
   have e:=AD l;generalize ls[i]=p at e;unfold Bc;rw[e];dsimp only;by_cases h:p.1=("by" : Str);rw[Ak h]
   obtain⟨a,j⟩:=p;cases(show a=_ from h)
   rcases XD f j.toNat (t+1) (hb _ (A6 e) rfl) hb with⟨d,p,c,g,m⟩|⟨c,g⟩;exact .inl ⟨d+1,p,.far e c,by lia,by rw[m,show t+1+d-1=t+(d+1)-1 by lia]⟩;refine .inr ⟨λd p k=>?_,g⟩
   cases k with
   |one b n=>rw[e] at b;cases b;exact absurd rfl n
   |far b k=>rw[e] at b;cases b;have:=c _ _ k;lia
   rw[Aj h];exact .inl ⟨1,p,.one e h,by lia,by rw[show t+1-1=t by lia]⟩
end
section
variable {W:Wd} {qs:List Qu} {lb:Str} {nm nm':Nat->Str} {hr:Nat->Nat} {c:Nat->Bool} {ls:List (Str×Int)} {n:Nat} {as as':List AI} {ts:List Int}
def Pf (ls:List (Str×Int)) (n:Nat) (as:List AI) (ts:List Int) (i:Nat):Prop:=(∃d p,Dp ls i d p/\d<=n/\as[i]?=some (some p)/\ts[i]?=some (d:Int))\/((∀d p,Dp ls i d p->n<d)/\as[i]?=some none/\ts[i]?=some 0)
def EV.nx(N:EV W qs lb nm nm' hr c ls)(d:as.length=ls.length)(x:GJ W qs 0 [] as as')(b:i<ls.length)(h:as[i]?=some none):as'[i]?=some (Mx ls as i):=by
 obtain⟨a,⟨w,f,t,k⟩,e⟩:=x.new i _ (N.q i b) h;rw[e,(XC N d (AD b) k).1]
theorem XE{j:Int}(h:ls[i]?=some (("by" : Str),j)):Mx ls as i=(match as[j.toNat]? with
      |some none=>none
      |some (some q)=>if q.1=("thing" : Str) then some ("thing",q.2) else some ("none",0)
      |none=>some ("none",0)):=by
 unfold Mx;rw[h];rfl
def XF{p:Str×Int}(h:ls[i]?=some p)(n:p.1≠("by" : Str)):Mx ls as i=some p:=by
 unfold Mx;rw[h];exact Aj n
def EV.same(N:EV W qs lb nm nm' hr c ls){d:Nat}{p:Str×Int}(h:Dp ls i d p):(if p.1=("thing" : Str) then some (("thing" : Str),p.2) else some ("none",0))=some p:=by
 obtain⟨n,m⟩:=h.end_;rcases N.kd p m with z|⟨z,_⟩|⟨z,_⟩;rw[z];exact Aj (by decide);rw[Ak z];show some (("thing" : Str),p.2)=some p;rw[<-z];exact absurd z n
def EV.jlt(N:EV W qs lb nm nm' hr c ls){j:Int}(h:ls[i]?=some (("by" : Str),j)):j.toNat<ls.length/\0<=j:=by
 rcases N.kd _ (A6 h) with z|⟨z,_⟩|⟨_,a,b⟩;cases z
 exact absurd (show("by" : Str)=_ from z) (by decide)
 have a:0<=j:=a;have b:j<ls.length:=b;lia
def EV.run(N:EV W qs lb nm nm' hr c ls)(h:Run W qs 0 [] n as ts):as.length=ls.length/\ts.length=ls.length/\∀i,i<ls.length->Pf ls n as ts i:=by
 induction h with
 |zero =>
   refine⟨by rw[List.length_replicate,N.len],by rw[List.length_replicate,N.len],λi m=>.inr ⟨λd p k=>k.pos,?_,?_⟩⟩;rw[List.getElem?_replicate,Ak (by rw[N.len];exact m)];rw[List.getElem?_replicate,Ak (by rw[N.len];exact m)]
 |@succ n as as' ts E h e x l t r =>
   obtain⟨u,lt,r⟩:=r;refine⟨x.len.trans u,l.trans lt,λi m=>?_⟩;have g:=t i (by rw[N.len];exact m);rcases r i m with⟨d,p,k,hd,o,s⟩|⟨v,o,s⟩;rw[Aj (λz=>by rw[o] at z;cases z.1)] at g;exact .inl ⟨d,p,k,by lia,x.old i p o,by rw[g,s]⟩;have b:=N.nx u x m o;have f:=AD m;generalize ls[i]=p at f;by_cases hb:p.1=("by" : Str);obtain⟨a,j⟩:=p
   cases(show a=_ from hb);obtain⟨w,D⟩:=N.jlt f;rw[XE f] at b
   rcases r j.toNat w with⟨d,p,k,hd,g1,g2⟩|⟨C,g1,g2⟩;rw[g1] at b;dsimp only at b;rw[N.same k] at b;rw[Ak ⟨o,by rw[b];simp⟩] at g;have:=v _ _ (.far f k);have y:d=n:=(by lia);subst y;exact .inl ⟨d+1,p,.far f k,AE _,b,by rw[g];push_cast;rfl⟩;rw[g1] at b;rw[Aj (λz=>z.2 b),s] at g;refine .inr ⟨λd p k=>?_,b,g⟩
   cases k with
   |one q A=>rw[f] at q;cases q;exact absurd rfl A
   |far q k=>rw[f] at q;cases q;have:=C _ _ k;lia
   rw[XF f hb] at b;have:=v _ _ (.one f hb);have B:n=0:=(by lia);subst B;rw[Ak ⟨o,by rw[b];simp⟩] at g;exact .inl ⟨1,p,.one f hb,by lia,b,by rw[g];rfl⟩
theorem EV.still(N:EV W qs lb nm nm' hr c ls)(h:Run W qs 0 [] n as ts)(x:GJ W qs 0 [] as as):∀i,i<ls.length->(∃d p,Dp ls i d p/\d<=ls.length/\as[i]?=some (some p)/\ts[i]?=some (d:Int))\/((∀d p,¬Dp ls i d p)/\as[i]?=some none/\ts[i]?=some 0):=by
 obtain⟨s,lt,r⟩:=N.run h
 have u:∀{i d:Nat}{p:Str × Int},Dp ls i d p->as[i]? ≠ some none:=by
  intro i d p k
  induction k with
  |@one i p f v =>
    intro z;have e:=(AN.mp f).1;have:=N.nx s x e z;rw[z,XF f v] at this;cases this
  |@far i d j p f k w =>
    intro z;have e:=(AN.mp f).1;obtain⟨A,_⟩:=N.jlt f;have:=N.nx s x e z;rw[z,XE f] at this;rcases r j.toNat A with⟨_,q,l,_,g1,_⟩|⟨_,g1,_⟩;rw[g1] at this;dsimp only at this;rw[N.same l] at this;cases this;exact w g1
 have inn:∀{i d:Nat}{p:Str×Int},Dp ls i d p->(d:Int)∈ts:=by
  intro i d p k;obtain⟨B,e,m⟩:=k.down d k.pos (AE _);rcases r B e with⟨G,J,l,_,_,g2⟩|⟨_,g1,_⟩;rw[(m.uniq l).1];exact A6 g2;exact absurd g1 (u m)
 intro i e;rcases r i e with⟨d,p,k,_,g,o⟩|⟨_,g,o⟩;refine .inl ⟨d,p,k,?_,g,o⟩
 have C:((List.range d).map λt:Nat=>((t+1:Nat):Int)).Nodup:=by
  refine List.Pairwise.map _ (λa b F=>?_) List.nodup_range;intro z;apply F;lia
 have:=C.length_le_of_subset (l₂:=ts) λy D=>by
  obtain⟨t,E,rfl⟩:=AL.mp D;obtain⟨m,H,L⟩:=k.down (t+1) (by lia) (by have:=List.mem_range.mp E;lia);exact inn L
 rw[Al,List.length_range,lt] at this;exact this;exact .inr ⟨λd p k=>u k g,g,o⟩
end
abbrev KJ (p:Str×Int):List V:=[.str p.1,.int p.2]
structure XG (H:Hp) (dts:List Addr) (ls:List (Str×Int)):Prop where
 len:dts.length=ls.length
 at_:∀(i:Nat)(t:Addr),dts[i]?=some t->∃v,H t=some (.tup [v,.int (Bc ls ls.length i 1).2])/\A5 Gc H v (BG (Bc ls ls.length i 1).1)
def D0 (ls:List (Str×Int)):E':=(List.range ls.length).map λi=>if(Bc ls ls.length i 1).1.isNone=true then(ls[i]?).map (·.2) else none
section
variable {ls:List (Str×Int)} {ws:E'}
def Pg(ls:List (Str×Int)):(D0 ls).length=ls.length:=by unfold D0;rw[Al,List.length_range]
def Ui{p:Str×Int}(h:ls[i]?=some p):(D0 ls)[i]?=some (if(Bc ls ls.length i 1).1.isNone=true then some p.2 else none):=by
 unfold D0;rw[A3,List.getElem?_range (AN.mp h).1,Option.map_some,h];rfl
def Ph{x o:Int}(h:nx (D0 ls) x=some o):0<=x/\∃p,ls[x.toNat]?=some p/\p.2=o:=by
 obtain⟨c,a⟩:=CF.mp h;have b:=(AN.mp a).1;rw[Pg] at b;have e:=AD b;refine⟨c,_,e,?_⟩;rw[Ui e] at a;split at a;cases a;rfl;cases a
def KL{a:List Addr}{x o:Int}(T:RT KJ H a ls)(h:nx (D0 ls) x=some o):∃b s,Bz (a.map V.ref) x=some (.ref b)/\H b=some (.tup [.str s,.int o]):=by
 obtain⟨d,p,e,rfl⟩:=Ph h;have f:=(AN.mp e).1;have eta:=AD (show x.toNat<a.length by rw[T.len];exact f);have c:=B3 (xs:=a.map V.ref) (j:=x.toNat) (v:=.ref _) (by rw[A3,eta];rfl);rw[Int.toNat_of_nonneg d] at c;exact⟨_,_,c,T.at_ _ _ _ eta e⟩
def JT.ext{A B:List Int}(a:JT ws A)(b:JT ws B)(g:A.length=B.length)(j:A[0]?=B[0]?):A=B:=by
 refine List.ext_getElem? λi=>?_
 induction i with
 |zero=>exact j
 |succ i k =>
   rcases Nat.lt_or_ge (i+1) A.length with h|h;have c:=AD (show i<A.length by lia);obtain⟨y,d,l⟩:=a _ _ c;obtain⟨z,e,f⟩:=b _ _ (k.symm.trans c);rw[Nat.mod_eq_of_lt h] at d;rw[<-g,Nat.mod_eq_of_lt h] at e;rw[l] at f;cases f;rw[d,e];rw[D6 h,D6 (by lia)]
end
section
variable {W:Wd} {qs:List Qu} {lb:Str} {nm nm':Nat->Str} {hr:Nat->Nat} {c:Nat->Bool} {ls:List (Str×Int)} {n:Nat} {as:List AI} {ts:List Int}
def EV.hb(N:EV W qs lb nm nm' hr c ls):∀p∈ls,p.1=("by" : Str)->0<=p.2/\p.2.toNat<ls.length:=λp a e=>by
 obtain⟨j,b⟩:=List.mem_iff_getElem?.mp a;have:=N.jlt (i:=j) (j:=p.2) (by rw[b,<-e]);exact⟨this.2,this.1⟩
abbrev Fl (ls:List (Str×Int)):List AI:=(List.range ls.length).map λi=>(Bc ls ls.length i 1).1
abbrev NL (ls:List (Str×Int)):List Int:=(List.range ls.length).map λi=>(Bc ls ls.length i 1).2
def EV.due(N:EV W qs lb nm nm' hr c ls)(h:Run W qs 0 [] n as ts)(x:GJ W qs 0 [] as as):as=Fl ls/\ts=NL ls:=by
 obtain⟨o,lt,_⟩:=N.run h
 have j:∀i,i<ls.length->as[i]?=some (Bc ls ls.length i 1).1/\ts[i]?=some (Bc ls ls.length i 1).2:=λi a=>by
  rcases XD (ls:=ls) ls.length i 1 a (λp l e=>(N.hb p l e).2) with⟨d,p,k,hd,e⟩|⟨m,e⟩<;>rcases N.still h x i a with⟨q,R,g,r,b,f⟩|⟨no,b,f⟩;obtain⟨rfl,rfl⟩:=k.uniq g;rw[e,b,f,show 1+d-1=d by lia];exact⟨rfl,rfl⟩;exact absurd k (no _ _);exact absurd (m _ _ g) (by lia);rw[e,b,f];exact⟨rfl,rfl⟩
 refine⟨List.ext_getElem? λi=>?_,List.ext_getElem? λi=>?_⟩<;>rcases Nat.lt_or_ge i ls.length with a|a;rw[(j i a).1,A3,List.getElem?_range a];rfl;rw[D6 (by lia),D6 (by rw[Al,List.length_range];exact a)];rw[(j i a).2,A3,List.getElem?_range a];rfl;rw[D6 (by lia),D6 (by rw[Al,List.length_range];exact a)]
def EV.wts(N:EV W qs lb nm nm' hr c ls){ws:E'}(d:QM (W.late (Fl ls)) 0 [] qs ws):ws=D0 ls:=by
 have i:(Fl ls).length=ls.length:=(by rw[Al,List.length_range]);refine List.ext_getElem? λk=>?_;rcases Nat.lt_or_ge k ls.length with a|a;have f:=AD a;generalize ls[k]=p at f;rw[Ui f];have j:=d.1;have g:=AD (show k<ws.length by rw[j,N.len];exact a);have h:(Fl ls)[k]?=some (Bc ls ls.length k 1).1:=by rw[A3,List.getElem?_range a];rfl
 rcases d.2 k _ _ (N.q k a) g with⟨R,e,z⟩|⟨e,w,lk,t,l,z⟩;have b:(Fl ls)[k]?=some (some R):=e;rw[h] at b;rw[g,z,Br b];rfl;have b:(Fl ls)[k]?=some none:=e;rw[h] at b;have:=(XC N i f l).2 w rfl;rw[g,z,Br b,this];rfl;rw[D6 (by rw[d.1,N.len];exact a),D6 (by rw[Pg];exact a)]
end
end L2
abbrev L2.SF (n:List (PySem.Str×PySem.NameKind)):PySem.Scope:={kind:=.function,names:=n,isGenerator:=false,isCoroutine:=false,more:=[]}
def L2.new_at{H:L2.Hp}{a:PySem.Addr}{o:L2.HO}(h:H a=none):∃H':L2.Hp,H'=L2.upd H a o/\L2.Ac H H'/\H' a=some o:=⟨_,rfl,L2.AR h,L2.Aa⟩
variable {i:Nat}
def L2.getm{α β:Type}{f:α->β}{l:List α}{x:β}(h:(l.map f)[i]?=some x):∃z,l[i]?=some z/\f z=x:=by
 rw[A3] at h;exact E7.mp h
namespace K40
open PySem PySem.Spec PyProof.Rows L2 Ord
local macro_rules | `(tactic| trivial) => `(tactic| exact ⟨rfl, rfl, rfl, by decide +kernel, rfl, by decide +kernel, by decide +kernel⟩)
local macro_rules | `(tactic| trivial) => `(tactic| exact ⟨rfl, by decide +kernel, by decide +kernel, by decide +kernel, rfl, by decide +kernel, by decide +kernel⟩)
local macro_rules | `(tactic| rfl') => `(tactic| try dsimp only[AG,Cx.nox,Cx.wish])
def Iy:Ag ["_law_cell", "_law_many", "_law_letters", "_law_long", "_law_at", "_law_some", "_law_k", "_law_name", "_law_j", "_law_sign"] ["_law_cell", "_law_many"] (A0 Rj):=by trivial
def fT:Ag ["_law_script", "_law_k"] ["_law_script", "_law_k"] (A0 Rk):=by trivial
def QN:Ag ["_law_script", "_law_i", "_law_many", "_law_cell", "_law_number", "_law_spots"] ["_law_script", "_law_i", "_law_many"] (A0 Rl):=by trivial
def GK:Ag ["_law_script", "_law_names_here", "_law_label", "_law_head", "_law_many", "_law_off", "_law_scopes", "_law_questions", "_law_links", "_law_i", "_law_here", "_law_which", "_law_things"] ["_law_script"] (A0 M5):=by trivial
def CO:Am (A0 M5) ["_law_script", "_law_names_here", "_law_label", "_law_head", "_law_many", "_law_off", "_law_scopes", "_law_questions", "_law_links", "_law_i", "_law_here", "_law_which", "_law_things"] (SF [(".0",.local),("_law_k",.local)]) ["_law_k"] 1 []:=by trivial
def CP:Am (A0 M5) ["_law_script", "_law_names_here", "_law_label", "_law_head", "_law_many", "_law_off", "_law_scopes", "_law_questions", "_law_links", "_law_i", "_law_here", "_law_which", "_law_things"] (SF [ (".0",.local),("_law_i",.local),("_law_link",.globalImplicit),("_law_many",.free),("_law_script",.free)]) ["_law_i", "_law_script", "_law_many"] 1 [0,4]:=by trivial
def CQ:Am (A0 M5) ["_law_script", "_law_names_here", "_law_label", "_law_head", "_law_many", "_law_off", "_law_scopes", "_law_questions", "_law_links", "_law_i", "_law_here", "_law_which", "_law_things"] (SF [(".0",.local),("_law_k",.local)]) ["_law_k"] 1 []:=by trivial
def QO:Ag ["_law_links", "_law_i", "_law_here", "_law_turn"] ["_law_links", "_law_i"] (A0 Rm):=by trivial
def QP:Ag ["table", "state", "label", "goes", "known", "number"] ["table", "state", "label"] (A0 Rn):=by trivial
def QQ:Ag ["net", "answers", "question", "answer", "kind", "number"] ["net", "answers", "question"] (A0 Ro):=by trivial
def Uj:Ag ["net", "answers", "thing", "kind", "number"] ["net", "answers", "thing"] (A0 Rp):=by trivial
def Pj:Ag ["net", "answers", "step", "label", "kind", "number", "answer"] ["net", "answers", "step"] (A0 Rq):=by trivial
def My:Ag ["net", "answers", "table", "scope", "state", "gone", "index", "step", "after", "kind", "number"] ["net", "answers", "table", "scope", "state"] (A0 Rr):=by trivial
def Iz:Ag ["net", "answers", "table", "beginning", "marks", "last", "then", "come_to", "longer", "mark", "kind", "number", "after"] ["net", "answers", "table", "beginning"] (A0 PP):=by trivial
def BC:Am (A0 PP) ["net", "answers", "table", "beginning", "marks", "last", "then", "come_to", "longer", "mark", "kind", "number", "after"] (SF [(".0",.local),("mark",.local)]) ["mark"] 1 []:=by trivial
def QR:Ag ["net", "answers", "table", "scope", "state", "found", "place"] ["net", "answers", "table", "scope", "state"] (A0 Rs):=by trivial
def XH:Ag ["table", "state", "label", "ends"] ["table", "state", "label"] (A0 Rt):=by trivial
def Mz:Ag ["net", "table", "begun", "name", "ways", "marks", "last", "then", "index", "telling"] ["net", "table", "begun", "name"] (A0 Ru):=by trivial
def fU:Ag ["table"] ["table"] (A0 PQ):=by trivial
def Cc:Am (A0 PQ) ["table"] (SF [(".0",.local),("pair",.local)]) ["pair"] 1 []:=by trivial
def MA:Ag ["ways", "tree", "number", "way", "branch", "mark"] ["ways"] (A0 Rv):=by trivial
def NM:Ag ["net", "mark", "scope", "kind", "index", "steps", "tellings"] ["net", "mark"] (A0 Rx):=by trivial
def MB:Ag ["net", "better", "tree", "way", "numbers", "branch", "mark", "label", "beside"] ["net", "better", "tree", "way"] (A0 Ry):=by trivial
def Uk:Ag ["net", "table", "ways", "better", "tree"] ["net", "table", "ways"] (A0 PR):=by trivial
def CS:Am (A0 PR) ["net", "table", "ways", "better", "tree"] (SF [ (".0",.local),("way",.local),("first_hider",.globalImplicit),("list",.globalImplicit),("better",.free),("net",.free),("tree",.free)]) ["way", "net", "better", "tree"] 1 [0,3,4]:=by trivial
def XI:Ag ["net", "table", "begun", "name", "found"] ["net", "table", "begun", "name"] (A0 Rz):=by trivial
def Pk:Ag ["net", "table", "found", "owed", "better", "tree", "way", "question"] ["net", "table", "found", "owed"] (A0 RA):=by trivial
def Pl:Ag ["net", "mark", "scope", "kind", "index", "tellings"] ["net", "mark"] (A0 RB):=by trivial
def NN:Ag ["net", "answers", "seen", "way", "label", "name", "kind", "number"] ["net", "answers", "seen"] (A0 RC):=by trivial
def MC:Ag ["net", "answers", "way", "label", "name", "kind", "number"] ["net", "answers", "way"] (A0 RD):=by trivial
def JX:Ag ["net", "answers", "table", "owed", "look", "at", "begun", "found", "seen", "waiting", "way", "question", "meanings"] ["net", "answers", "table", "owed", "look", "at"] (A0 M6):=by trivial
def Go:Am (A0 M6) ["net", "answers", "table", "owed", "look", "at", "begun", "found", "seen", "waiting", "way", "question", "meanings"] (SF [ (".0",.local),("way",.local),("meaning",.globalImplicit),("answers",.free),("net",.free)]) ["way", "net", "answers"] 1 [0,1]:=by trivial
def Gp:Am (A0 M6) ["net", "answers", "table", "owed", "look", "at", "begun", "found", "seen", "waiting", "way", "question", "meanings"] (SF [(".0",.local),("thing",.local)]) ["thing"] 1 []:=by trivial
def Gq:Am (A0 M6) ["net", "answers", "table", "owed", "look", "at", "begun", "found", "seen", "waiting", "way", "question", "meanings"] (SF [ (".0",.local),("thing",.local),("meanings",.free)]) ["thing", "meanings"] 1 [12]:=by trivial
def JY:Ag ["net", "answers", "table", "begun", "ways", "marks", "last", "then", "mark", "kind", "number", "after"] ["net", "answers", "table", "begun"] (A0 RE):=by trivial
def Ge:Ag ["net", "answers", "table", "asked", "scope", "state", "path", "looks", "things", "at", "name", "begun", "answer", "wait", "kind", "number"] ["net", "answers", "table", "asked"] (A0 RF):=by trivial
def Ul:Ag ["net", "thing", "kind", "number"] ["net", "thing"] (A0 RG):=by trivial
def fV:Ag ["net", "answer"] ["net", "answer"] (A0 RH):=by trivial
def KN:Ag ["net", "answers", "table", "begun", "questions", "marks", "last", "then", "label", "kind", "number"] ["net", "answers", "table", "begun"] (A0 RI):=by trivial
def MD:Ag ["net", "found", "questions", "way", "label", "name", "kind", "number"] ["net", "found"] (A0 RJ):=by trivial
def NO:Ag ["net", "answers", "table", "looks", "things", "questions", "begun", "found", "seen", "thing"] ["net", "answers", "table", "looks", "things"] (A0 RK):=by trivial
def ME:Ag ["net", "answers", "table", "due", "uses", "found", "question", "answer", "wait", "looks", "things"] ["net", "answers", "table", "due", "uses"] (A0 RL):=by trivial
def fW:Ag ["questions", "new"] ["questions", "new"] (A0 PU):=by trivial
def Dd:Am (A0 PU) ["questions", "new"] (SF [ (".0",.local),("question",.local),("new",.free)]) ["question", "new"] 1 [1]:=by trivial
def XJ:Ag ["net", "answers", "table", "answered", "question"] ["net", "answers", "table", "answered"] (A0 RM):=by trivial
def GZ:Ag ["net", "table", "known", "those", "answers", "turns", "uses", "due", "turn", "found", "question", "answer", "new"] ["net", "table", "known", "those"] (A0 M7):=by trivial
def Cu:Am (A0 M7) ["net", "table", "known", "those", "answers", "turns", "uses", "due", "turn", "found", "question", "answer", "new"] (SF [ (".0",.local),("question",.local),("answer",.local),("those",.free)]) ["question", "answer", "those"] 2 [3]:=by trivial
def DL:Am (A0 M7) ["net", "table", "known", "those", "answers", "turns", "uses", "due", "turn", "found", "question", "answer", "new"] (SF [ (".0",.local),("question",.local),("uses_one",.globalImplicit),("answers",.free),("new",.free),("uses",.free)]) ["question", "new", "answers", "uses"] 1 [12,4,6]:=by trivial
def DM:Am (A0 M7) ["net", "table", "known", "those", "answers", "turns", "uses", "due", "turn", "found", "question", "answer", "new"] (SF [ (".0",.local),("question",.local),("answers",.free)]) ["question", "answers"] 1 [4]:=by trivial
def XM:Ag ["net", "table", "many"] ["net", "table"] (A0 RN):=by trivial
def Um:Ag ["_law_found", "_law_due_here", "_law_one", "_law_other"] ["_law_found", "_law_due_here"] (A0 NS):=by trivial
def Po:Ag ["net", "answers", "table", "question", "answer", "wait", "looks", "things"] ["net", "answers", "table", "question"] (A0 RO):=by trivial
def QS:Ag ["net", "answers", "table", "question", "at", "way", "other"] ["net", "answers", "table", "question"] (A0 RP):=by trivial
def fX:Ag ["net", "answers", "table"] ["net", "answers", "table"] (A0 PV):=by trivial
def EW:Am (A0 PV) ["net", "answers", "table"] (SF [ (".0",.local),("question",.local),("waited_for",.globalImplicit),("answers",.free),("net",.free),("table",.free)]) ["question", "net", "answers", "table"] 1 [0,1,2]:=by trivial
def NP:Ag ["net", "answers", "table", "waiting", "still_open", "row", "ring", "least"] ["net", "answers", "table"] (A0 PX):=by trivial
def Cv:Am (A0 PX) ["net", "answers", "table", "waiting", "still_open", "row", "ring", "least"] (SF [ (".0",.local),("question",.local),("other",.local)]) ["question", "other"] 2 []:=by trivial
def MF:Ag ["_law_links", "_law_dues", "_law_starts", "_law_here", "_law_k", "_law_some", "_law_at"] ["_law_links", "_law_dues"] (A0 PY):=by trivial
def CT:Am (A0 PY) ["_law_links", "_law_dues", "_law_starts", "_law_here", "_law_k", "_law_some", "_law_at"] (SF [ (".0",.local),("_law_i",.local),("_law_dues",.free)]) ["_law_i", "_law_dues"] 1 [1]:=by trivial
def HX:Ag ["_law_script", "_law_net", "_law_table", "_law_links", "_law_handed", "_law_dues", "_law_told", "_law_answers", "_law_some", "_law_due_here", "_law_again"] ["_law_script"] (A0 GP):=by trivial
def Gr:Am (A0 GP) ["_law_script", "_law_net", "_law_table", "_law_links", "_law_handed", "_law_dues", "_law_told", "_law_answers", "_law_some", "_law_due_here", "_law_again"] (SF [ (".0",.local),("_law_i",.local),("_law_due",.globalImplicit),("_law_links",.free)]) ["_law_i", "_law_links"] 1 [3]:=by trivial
def Gu:Am (A0 GP) ["_law_script", "_law_net", "_law_table", "_law_links", "_law_handed", "_law_dues", "_law_told", "_law_answers", "_law_some", "_law_due_here", "_law_again"] (SF [(".0",.local),("_law_due_here",.local)]) ["_law_due_here"] 1 []:=by trivial
def Gv:Am (A0 GP) ["_law_script", "_law_net", "_law_table", "_law_links", "_law_handed", "_law_dues", "_law_told", "_law_answers", "_law_some", "_law_due_here", "_law_again"] (SF [(".0",.local),("_law_due_here",.local)]) ["_law_due_here"] 1 []:=by trivial
def Gw:Am (A0 GP) ["_law_script", "_law_net", "_law_table", "_law_links", "_law_handed", "_law_dues", "_law_told", "_law_answers", "_law_some", "_law_due_here", "_law_again"] (SF [ (".0",.local),("_law_i",.local),("int",.globalImplicit),("_law_dues",.free),("_law_links",.free)]) ["_law_i", "_law_links", "_law_dues"] 1 [3,5]:=by trivial
structure BK (mg:Str->Option Value):Prop where
 b_all:mg "all" = none
 b_any:mg "any" = none
 b_bool:mg "bool" = none
 b_dict:mg "dict" = none
 b_enumerate:mg "enumerate" = none
 b_int:mg "int" = none
 b_isinstance:mg "isinstance" = none
 b_len:mg "len" = none
 b_list:mg "list" = none
 b_min:mg "min" = none
 b_range:mg "range" = none
 b_set:mg "set" = none
 b_sorted:mg "sorted" = none
 b_str:mg "str" = none
 b_tuple:mg "tuple" = none
 b_zip:mg "zip" = none
 c_MOST_BEGINNINGS:∃t,mg "MOST_BEGINNINGS" = some (.int 200 t)
variable {us:List Value}
def HY(h:us.length=1):∃a,us=[a]:=by
 cases us with
 |nil=>cases h
 |cons a t=>exact⟨a,by rw[List.length_eq_zero_iff.mp (Nat.succ.inj h)]⟩
def HZ(h:us.length=2):∃a b,us=[a,b]:=by
 cases us with
 |nil=>cases h
 |cons a t =>
   obtain⟨b,rfl⟩:=HY (Nat.succ.inj h);exact⟨a,b,rfl⟩
def KO(h:us.length=3):∃a b c,us=[a,b,c]:=by
 cases us with
 |nil=>cases h
 |cons a t =>
   obtain⟨b,c,rfl⟩:=HZ (Nat.succ.inj h);exact⟨a,b,c,rfl⟩
def KP(h:us.length=4):∃a b c d,us=[a,b,c,d]:=by
 cases us with
 |nil=>cases h
 |cons a t =>
   obtain⟨b,c,d,rfl⟩:=KO (Nat.succ.inj h);exact⟨a,b,c,d,rfl⟩
def KQ(h:us.length=5):∃a b c d e,us=[a,b,c,d,e]:=by
 cases us with
 |nil=>cases h
 |cons a t =>
   obtain⟨b,c,d,e,rfl⟩:=KP (Nat.succ.inj h);exact⟨a,b,c,d,e,rfl⟩
def KR(h:us.length=6):∃a b c d e f,us=[a,b,c,d,e,f]:=by
 cases us with
 |nil=>cases h
 |cons a t =>
   obtain⟨b,c,d,e,f,rfl⟩:=KQ (Nat.succ.inj h);exact⟨a,b,c,d,e,f,rfl⟩
open PySem PySem.Spec PyProof.Rows L2 in
def Ca{P:Program}{w:World}{K:Ah}{h:Str->Option Value}{m:Heap}{x g:Str}{st:Stmt}{f:Addr}{j:FuncData}{N b:List Str}{k:Nat}{sp:Sp}(F:BA K x g st f j)(n:h x=some (.ref f))(S:Ag N b (A0 st))(len:∀vs H Q E,sp vs H Q E->vs.length=b.length)
  (v:∀(e:Value)(A:Around)(y:List Env)(s:Shared)(H:Hp)(vs:List V)(Q:VK)(E:XK),BX k (A.deeper (envOfC g (A0 st) s.heap.objs.size f e))->sp vs H Q E -> ∃t,F3 (AG Ip P w K h m N g (A0 st) f e A y s H E).nox (Ik st) t/\t {nx:=λζ H'=>Q .non H',rt:=Q} (start N vs) H)
  (o:∀(kV u p:Value)(q:Option Addr)(e ct:Value)(us:List Value),us.length=b.length->bindArgs (PySem.W.fnOf x g (Ke st) (Ik st) (A0 st) .none kV u p q e ct) ⟨us,[]⟩=pure (b.zip us):=by intro _ _ _ _ _ _ us a;first|(obtain⟨c,rfl⟩:=HY a;rfl)|(obtain⟨c,d,rfl⟩:=HZ a;rfl)|(obtain⟨c,d,i,rfl⟩:=KO a;rfl)|(obtain⟨c,d,i,l,rfl⟩:=KP a;rfl)|(obtain⟨c,d,i,l,r,rfl⟩:=KQ a;rfl)|(obtain⟨c,d,i,l,r,z,rfl⟩:=KR a;rfl)):BI P w K h m x (k+1) b sp:=⟨f,j,F.ok S len v,n,F.kp,F.binds o⟩
def Pp(h:us.length=7):∃a b c d e f g,us=[a,b,c,d,e,f,g]:=by
 cases us with
 |nil=>cases h
 |cons a t =>
   obtain⟨b,c,d,e,f,g,rfl⟩:=KR (Nat.succ.inj h);exact⟨a,b,c,d,e,f,g,rfl⟩
def XN(h:us.length=8):∃a b c d e f g i,us=[a,b,c,d,e,f,g,i]:=by
 cases us with
 |nil=>cases h
 |cons a t =>
   obtain⟨b,c,d,e,f,g,i,rfl⟩:=Pp (Nat.succ.inj h);exact⟨a,b,c,d,e,f,g,i,rfl⟩
section
set_option maxHeartbeats 4000000
seal L2.PE L2.PA L2.PS L2.F3 L2.PT L2.PW L2.PC L2.PG L2.N0 L2.PI L2.PF L2.II L2.DF L2.P8 L2.Bi L2.Km L2.Io L2.Sf L2.PO
variable {P:Program} {w:World} {K:Ah} {mg:Str->Option Value} {base:Heap} {f:Addr} {fd:FuncData}
def XO:(("abcdefghijklmnopqrstuvwxyz" : Str)).cps.toList.length=26:=by decide +kernel
def QU(w:Str)(c:Nat):(w++(⟨#[c]⟩:Str)).length=w.length+1:=by
 show(w.cps++#[c]).size=w.cps.size+1
 simp
def MG:∀n,n<26->(("abcdefghijklmnopqrstuvwxyz" : Str)).cps.toList[n]?=some (97+n):=by decide +kernel
def XQ(n:Int):Bz (("abcdefghijklmnopqrstuvwxyz" : Str)).cps.toList (n%26)=some (97+(n%26).toNat):=by
 have a:=Gg n (by decide:(26:Int)≠0);have c:=Ij n (by decide:(0:Int)<26);obtain⟨k,b⟩:=DU a;rw[b,Bk];exact B3 (MG k (by lia))
def fY(w:Str)(c:Nat):(w++(⟨#[c]⟩:Str)).cps.toList=w.cps.toList++[c]:=by
 show(w.cps++#[c]).toList=_
 simp
abbrev GL (n:Int):Str:=⟨#[97+(n%26).toNat]⟩
def MH (c:Int) (k j:Nat):Int:=c/(64+3*(j:Int))+(j:Int)*(c/64%2)+(k:Int)*(if(j:Int)=c/8%(1+c%8) then 1 else 0)
def Ez (c:Int) (k:Nat):Nat->Str
 |0 => ""
 |j+1=>Ez c k j++GL (MH c k j)
def FY (c:Int) (m:Nat):List Str:=(List.range m).map λk=>Ez c k (1+c%8).toNat
def Gx (c:Int) (m:Nat):List Str:=if c/128%3=1/\1+c%8<8 then(FY c m).set 1 (Ez c 0 (1+c%8).toNat++GL (c/384)) else FY c m
theorem JZ(c:Int)(k:Nat):∀j,(Ez c k j).length=j
 |0=>show("" : Str).length=0 by decide +kernel
 |j+1=>by
   show(Ez c k j++GL (MH c k j)).length=j+1;rw[QU,JZ c k j]
theorem Uo(c:Int)(k:Nat){a:Nat}:∀{j:Nat},a<j->(Ez c k j).cps.toList[a]?=some (97+(MH c k a%26).toNat)
 |0,h=>absurd h (Nat.not_lt_zero _)
 |j+1,h=>by
   show(Ez c k j++GL (MH c k j)).cps.toList[a]?=_;rw[fY];have b:(Ez c k j).cps.toList.length=j:=by rw[Array.length_toList];exact JZ c k j
   by_cases d:a<j;rw[D1 (by rw[b];exact d)];exact Uo c k d;have e:a=j:=(by lia);subst e;rw[EB (by rw[b];exact AE _),b,Nat.sub_self];rfl
def Pq(c:Int)(m:Nat):(FY c m).length=m:=by unfold FY;rw[Al,List.length_range]
def Up(c:Int)(m:Nat):(Gx c m).length=m:=by
 unfold Gx;split;rw[G1,Pq];exact Pq c m
variable {c:Int}
def MJ{j:Nat}(l:i<26)(m:j<26)(h:Ez c i (1+c%8).toNat=Ez c j (1+c%8).toNat):i=j:=by
 have g:=Gg (c/8) (show(1+c%8)≠0 by lia);have n:=Ij (c/8) (show 0<1+c%8 by lia);obtain⟨a,k⟩:=DU g;have f:a<(1+c%8).toNat:=(by lia);have e:=Uo c i f;rw[h,Uo c j f] at e;have d:=Br e;unfold MH at d;rw[Ak k.symm] at d;generalize c/(64+3*(a:Int))+(a:Int)*(c/64%2)=b at d;lia
variable {m:Nat}
def H1(d:m<=26):(FY c m).Nodup:=by
 unfold FY;refine List.pairwise_iff_getElem.mpr λi j a b f e=>?_;rw[Al,List.length_range] at a b;rw[List.getElem_map,List.getElem_map,List.getElem_range,List.getElem_range] at e;have:=MJ (by lia) (by lia) e;lia
def fZ:∀y∈FY c m,y.length=(1+c%8).toNat:=λy a=>by
 obtain⟨k,_,rfl⟩:=AL.mp a;exact JZ _ _ _
def f0(a:m<=26):(Gx c m).Nodup:=by
 unfold Gx;split;refine List.pairwise_iff_getElem.mpr λi j f g h e=>?_;rw[G1,Pq] at f g;have d:∀(k:Nat)(b:k<(FY c m).length),(FY c m)[k].length=(1+c%8).toNat:=λk b=>fZ _ (Ec b);rw[List.getElem_set,List.getElem_set] at e;split at e;rw[Aj (by lia)] at e;have:=Bw Str.length e;rw[QU,JZ,d] at this;lia;split at e;have:=Bw Str.length e;rw[QU,JZ,d] at this;lia;exact absurd e ((List.pairwise_iff_getElem.mp (H1 (c:=c) a)) i j _ _ h);exact H1 a
def f5{k:Nat}:(Ez c k (1+c%8).toNat).length<=8:=by rw[JZ];lia
set_option tactic.hygienic true in
def KS:∀x∈Gx c m,x.length<=8:=by
 intro x a;unfold Gx at a
 have b:∀y∈FY c m,y.length<=8:=λy d=>by
  obtain⟨k,_,rfl⟩:=AL.mp d;exact f5
 split at a;rename_i e;rcases List.mem_or_eq_of_mem_set a with h|rfl;exact b x h;rw[QU,JZ];lia;exact b x a
inductive De (K:Ah) (vs:List V) (H:Hp) (Q:VK):Prop where
 |mk (c:Int) (m:Nat) (h0:vs=[.int c,.int m]) (h1:2<=m) (h2:m<=26) (h3:∀(L:Addr)(H':Hp),H L=none->Ac H H'->H' L=some (.lst ((Gx c m).map V.str))->Q (.ref L) H'):De K vs H Q
def f6 (K:Ah):Sp:=λvs H Q ζ=>De K vs H Q
abbrev Uq(P w K mg base):=BI P w K mg base "_law_names" 1 ["_law_cell", "_law_many"] (f6 K)
theorem f7(B:BK mg)(F:BA K "_law_names" "_law_names" Rj f fd)(N:mg "_law_names" = some (.ref f)):Uq P w K mg base:=by
 refine Ca F N Iy (λO H Q E h=>?_) (λae A ag s H O Q E hr h=>?_);obtain⟨c,m,rfl,_⟩:=h;rfl
 . obtain⟨c,m,rfl,m0,m9,q⟩:=h
   refine⟨_,(Ap (AX (i:=2) Iy.nd BN)
    (Ap (AX (i:=3) Iy.nd (A2 F8 Aq (A2 Dy (pv 0) Aq)))
    (Ap (AX (i:=4) Iy.nd (A2 Dy (A2 Gh (pv 0) Aq) (pv 3)))
    (Ap (AX (i:=5) Iy.nd (Cg Af))
    (Ap (Do CK rfl (G8 rfl B.b_range (Ab (pv 1) Af)) (Ay (i:=6) Iy.nd) (Ap (AX (i:=7) Iy.nd BN)
     (Ap (Do CK rfl (G8 rfl B.b_range (Ab (pv 3) Af)) (Ay (i:=8) Iy.nd) (Ap (AX (i:=9) Iy.nd (A2 F8 (A2 Gh (pv 0) (A2 F8 Aq (A2 Lo Aq (pv 8)))) (A2 Lo (pv 8) (A2 Dy (A2 Gh (pv 0) Aq) Aq))))
      (AA (AX (i:=7) Iy.nd (A2 U9 (pv 7) (Av Aw (pv 2) (A2 Dy (A2 F8 (pv 9) (A2 Lo (pv 6) (IR Va B.b_int (Ab (Kk Dq (pv 8) (pv 4) (BW _)) Af)))) Aq)))))))
     (AA (DD (DG Dx Fu Fv FD (pv 5) (Ab (pv 7) Af)))))))
    (Ap (Bv (PW.pt (IH (B2 Dq (A2 Dy (A2 Gh (pv 0) Aq) Aq) Aq (BW _)) (IG (B2 Nd (pv 3) Aq (BW _))))) (AA (DE (A2 U9 (Av Aw (pv 5) Aq) (Av Aw (pv 2) (A2 Dy (A2 Gh (pv 0) Aq) Aq))) (P5 (pv 5) Aq Sh))) Bx)
    (AA (AQ (pv 5))))))))),?_⟩
   rfl';refine SA ?_;cbv;refine⟨(by show(0:Int)<8;decide),?_⟩;cbv;have z0:1<=1+c%8/\1+c%8<=8:=(by lia);refine⟨⟨by decide,by decide⟩,(by show 0<1+c%8;lia),?_⟩;cbv;refine⟨by decide,λL t=>?_⟩;obtain⟨aa,U,R,W⟩:=new_at (o:=.lst []) t;rw[<-U];refine⟨by lia,by lia,N9 (lo:=0) (n:=m) (λi σ g=>∃u v a d,σ=[some (.int c),some (.int m),some (.str "abcdefghijklmnopqrstuvwxyz"),some (.int (1+c%8)),some (.int (c/8%(1+c%8))),some (.ref L),u,v,a,d]/\Ac H g/\g L=some (.lst ((FY c i).map V.str))) ⟨none,none,none,none,rfl,R,W⟩ ?_ ?_⟩;rotate_left
   . refine λσ M G=>AO λS r=>?_
     obtain⟨u,v,a,d,rfl,p,l⟩:=G;refine r ?_;clear r;cbv;refine Nl (λσ' g=>σ'=[some (.int c),some (.int m),some (.str "abcdefghijklmnopqrstuvwxyz"),some (.int (1+c%8)),some (.int (c/8%(1+c%8))),some (.ref L),u,v,a,d]/\Ac H g/\g L=some (.lst ((Gx c m).map V.str))) ?_ (λab x=>?_)
     case refine_2 =>
      refine⟨⟨by decide,by decide⟩,(by show(0:Int)<3;decide),rfl,rfl,As (λy=>?_) (λy=>Bb ?_)⟩;rotate_left;have I:¬c/128%3=1:=λe=>y (By (by show V.int (c/128%3)=V.int 1;rw[e]));refine x _ _ ⟨rfl,p,?_⟩;unfold Gx;rw[Aj λz=>I z.1];exact l;have I:c/128%3=1:=V.int.inj (BM y);refine⟨rfl,As (λC=>?_) (λC=>?_)⟩;rotate_left;have J:¬1+c%8<8:=λe=>C (By e);refine x _ _ ⟨rfl,p,?_⟩;unfold Gx;rw[Aj λz=>J z.2];exact l;have J:1+c%8<8:=BM C;have hl:(FY c m).length=m:=Pq c m
      have X:(FY c m)[0]?=some (Ez c 0 (1+c%8).toNat):=by
       unfold FY;rw[A3,List.getElem?_range (by lia)];rfl
      have Y:Bz ((FY c m).map V.str) 0=some (V.str (Ez c 0 (1+c%8).toNat)):=B3 (j:=0) (by rw[A3,X];rfl);refine Or.inl ⟨_,.str (Ez c 0 (1+c%8).toNat),Ae.of l,Y,⟨by decide,by decide⟩,(by show(0:Int)<26;decide),Or.inr (Or.inr ⟨_,_,_,rfl,rfl,by decide +kernel,XQ (c/384),Ez c 0 (1+c%8).toNat,_,rfl,rfl,?_,L,_,_,1,rfl,rfl,l,?_,?_⟩)⟩;show(Ez c 0 (1+c%8).toNat).length+1<=sizeLine;rw[JZ];exact Cn (BH (by lia));exact SD (k:=1) (by decide) (by rw[Al];lia);refine x _ _ ⟨rfl,λb o e=>?_,?_⟩;rw[AC (A1 e t)];exact p _ _ e;unfold Gx;rw[Aa,Ak ⟨I,J⟩,List.map_set]
     rintro σ' D ⟨rfl,T,Z⟩;exact q L D t T Z
   refine λi σ M hi G=>AO λS r=>?_;obtain⟨u,v,a,d,rfl,p,l⟩:=G;refine r ?_;clear r;refine SA ?_;cbv;refine⟨by lia,by lia,N9 (lo:=0) (n:=(1+c%8).toNat) (λj σ g=>∃(a d:Option V),σ=[some (.int c),some (.int m),some (.str "abcdefghijklmnopqrstuvwxyz"),some (.int (1+c%8)),some (.int (c/8%(1+c%8))),some (.ref L),some (.int (0+(i:Int))),some (.str (Ez c i j)),a,d]/\g=M) ⟨_,_,rfl,rfl⟩ ?_ ?_⟩;rotate_left;rintro σ D ⟨a,d,rfl,rfl⟩;refine⟨Or.inl ⟨rfl,_,Ae.of l⟩,_,l,by rw[Al,Pq];exact BH (by lia),?_⟩;refine⟨_,_,_,_,rfl,λb o e=>?_,?_⟩;rw[AC (A1 e t)];exact p _ _ e;rw[Aa];unfold FY;rw[List.range_succ,Bh,Bh];rfl;rintro j σ D hj ⟨a,d,rfl,rfl⟩;have af:j<8:=(by lia);refine⟨Or.inl ⟨by lia,by lia⟩,⟨by lia,by lia⟩,⟨by decide,by decide⟩,(by show(0:Int)<2;decide),Or.inl ⟨by lia,by lia⟩,?_⟩;refine⟨rfl,Or.inr ⟨_,rfl,Or.inl ⟨by lia,by lia⟩,(by show(0:Int)<26;decide),Or.inr (Or.inr ⟨_,_,_,rfl,rfl,by decide +kernel,XQ _,Ez c i j,_,rfl,rfl,?_,?_⟩)⟩⟩;show(Ez c i j).length+1<=sizeLine;rw[JZ];exact Cn (BH (by lia));refine⟨some (.int (0+(j:Int))),some (.int (c/(64+3*(0+(j:Int)))+(0+(j:Int))*(c/64%2))),?_,rfl⟩
   have e:Ez c i (j+1)=Ez c i j++GL (c/(64+3*(0+(j:Int)))+(0+(j:Int))*(c/64%2)+(0+(i:Int))*(if decide (V.int (0+(j:Int))=V.int (c/8%(1+c%8)))=true then 1 else 0)):=by
    show Ez c i j++GL (MH c i j)=_;unfold MH;simp only[Int.zero_add,decide_eq_true_eq,V.int.injEq]
   rw[e];rfl
variable {ns:List Int}
def f8{k:Int}(b:0<=k)(c:k<ns.length):Bz (ns.map V.int) k=some (V.int (Bj ns k)):=by
 obtain⟨n,rfl⟩:=DU b;have a:n<ns.length:=(by lia);refine B3 ?_;rw[A3,AD a];show some (V.int ns[n])=some (V.int ((ns[((n:Int)).toNat]?).getD 0));rw[Bk,AD a];rfl
def f9{k:Int}(a:0<=k)(b:¬k<ns.length):Bj ns k=0:=by
 unfold Bj;rw[D6 (by lia)];rfl
def gA (K:Ah):Sp:=λvs H Q ζ=>∃a ns k,vs=[.ref a,.int k]/\0<=k/\Ae K H a (ns.map V.int)/\Q (.int (Bj ns k)) H
abbrev QV(P w K mg base):=BI P w K mg base "_law_cell_at" 1 ["_law_script", "_law_k"] (gA K)
theorem gB(B:BK mg)(F:BA K "_law_cell_at" "_law_cell_at" Rk f fd)(g:mg "_law_cell_at" = some (.ref f)):QV P w K mg base:=by
 refine Ca F g fT (λi H Q E h=>?_) (λl A m s H i Q E j h=>?_);obtain⟨a,ns,k,rfl,_⟩:=h;rfl;obtain⟨a,ns,k,rfl,d,e,q⟩:=h
 refine⟨_,(Ap (Bv (B2 Nd (pv 1) (CM Gi B.b_len (Ab (pv 0) Af)) (BW _)) (AA (AQ (Av Aw (pv 0) (pv 1)))) Bx)
  (AA (AQ Aq))),?_⟩
 rfl';refine⟨_,Or.inl ⟨_,e,rfl⟩,rfl,?_⟩;rw[Al];refine As (λb=>?_) (λc=>?_);have b:=BM b;exact Or.inl ⟨_,_,e,f8 d b,q⟩;have c:¬k<(ns.length:Int):=λz=>c (By z);show Q (.int 0) H;rw[f9 d c] at q;exact q
def G0 (ns:List Int) (i:Nat):Int:=(Bj ns (6+(i:Int))+Bj ns 4%65521*(2*(i:Int)+1))*48271%2147483647
def Bd (ns:List Int) (m i:Nat):Str×Int:=
 if Bj ns 5%4=1 then
  if((i:Int)=Bj ns 5/4%m\/(i:Int)=Bj ns 5/160%m)/\((i:Int)=Bj ns 5/4%m\/G0 ns i%3=0) then
   (if G0 ns i%3=0 then("thing",G0 ns i/3%80) else if G0 ns i%3=1 then("none",0) else("by",G0 ns i/3%m))
  else("by",((i:Int)+1)%m)
 else if G0 ns i%8=0 then("none",0) else if G0 ns i%8<3 then("thing",G0 ns i/8%80) else if G0 ns i%8<6 then("by",((i:Int)+1)%m) else("by",G0 ns i/8%m)
def KU(c:1<=m)(i:Nat):Bd ns m i=(("none" : Str),(0:Int))\/((Bd ns m i).1=("thing" : Str)/\0<=(Bd ns m i).2/\(Bd ns m i).2<80)\/((Bd ns m i).1=("by" : Str)/\0<=(Bd ns m i).2/\(Bd ns m i).2<m):=by
 have a:∀x:Int,(("by" : Str),x%m).1=("by" : Str)/\0<=x%(m:Int)/\x%(m:Int)<m:=λx=>⟨rfl,Gg _ (by lia),Ij _ (by lia)⟩;have b:∀x:Int,(("thing" : Str),x%80).1=("thing" : Str)/\0<=x%(80:Int)/\x%(80:Int)<80:=λx=>⟨rfl,Gg _ (by lia),Ij _ (by lia)⟩;unfold Bd;split;split;split;exact .inr (.inl (b _));split;exact .inl rfl;exact .inr (.inr (a _));exact .inr (.inr (a _));split;exact .inl rfl;split;exact .inr (.inl (b _));split;exact .inr (.inr (a _));exact .inr (.inr (a _))
def XR(u v:Int):(u==v)=decide (v=u):=by
 rw[Bool.eq_iff_iff,beq_iff_eq,decide_eq_true_iff];exact⟨Eq.symm,Eq.symm⟩
def MK(x a b:Int):Oq (V.int x) [.int a,.int b]=decide (x=a\/x=b):=by
 show((a==x) || ((b==x) || false))=_;rw[XR,XR,Bool.or_false,Bool.decide_or]
abbrev gC (K:Ah):TE:=DW (FR K) (Lu (FQ (IM (FQ (tC (.str "thing")) (FQ (DW LM (DW OD (Bs 4) (tC (.int 3))) (tC (.int 80))) Fc))) (FQ (IM (FQ (tC (.str "none")) (FQ (tC (.int 0)) Fc))) (FQ (IM (FQ (tC (.str "by")) (FQ (DW LM (DW OD (Bs 4) (tC (.int 3))) (Bs 2)) Fc))) Fc)))) (DW LM (Bs 4) (tC (.int 3)))
def KW{t u v w:Option V}{n:Int}{Y:Hp}{Q:VK}(y:0<m)(q:∀p e,Y p=none->Ac Y e->e p=some (.tup [.str (if n%3=0 then(("thing" : Str),n/3%80) else if n%3=1 then(("none" : Str),(0:Int)) else(("by" : Str),n/3%m)).1,.int (if n%3=0 then(("thing" : Str),n/3%80) else if n%3=1 then(("none" : Str),(0:Int)) else(("by" : Str),n/3%m)).2])->Q (.ref p) e) :
 gC K [t,u,some (.int m),v,some (.int n),w] Y Q:=by
 have z:=Gg n (by decide:(3:Int)≠0);have A:=Ij n (by decide:(0:Int)<3);refine⟨⟨by decide,by decide⟩,(by show(0:Int)<80;decide),B4,λa l=>⟨B4,λb r=>⟨⟨by decide,by decide⟩,(by show(0:Int)<m;lia),B4,λJ s=>⟨(by show 3<=sizeLine;decide),λD x=>⟨(by show(0:Int)<3;decide),?_⟩⟩⟩⟩⟩;have f:=(AR (o:=.tup [.str "thing",.int (n/3%80)]) l);have g:=(AR (o:=.tup [.str "none",.int 0]) r);have h:=(AR (o:=.tup [.str "by",.int (n/3%m)]) s);have c:=AR (o:=.lst [.ref a,.ref b,.ref J]) x;have i:Ae K (upd (upd (upd (upd Y a (.tup [.str "thing",.int (n/3%80)])) b (.tup [.str "none",.int 0])) J (.tup [.str "by",.int (n/3%m)])) D (.lst [.ref a,.ref b,.ref J])) D [.ref a,.ref b,.ref J]:=Ae.of Aa;have k:=f.trans (g.trans (h.trans c));by_cases d:n%3=0;refine Or.inl ⟨_,.ref a,i,(by show Bz _ (n%3)=_;rw[d];rfl),q a _ l k ?_⟩;rw[Ak d];exact c _ _ (h _ _ (g _ _ Aa));by_cases j:n%3=1;refine Or.inl ⟨_,.ref b,i,(by show Bz _ (n%3)=_;rw[j];rfl),q b _ (f.free r) k ?_⟩;rw[Aj d,Ak j];exact c _ _ (h _ _ Aa);refine Or.inl ⟨_,.ref J,i,(by show Bz _ (n%3)=_;rw[show n%3=2 by lia];rfl),q J _ ((f.trans g).free s) k ?_⟩;rw[Aj d,Aj j];exact c _ _ Aa
inductive DN (K:Ah) (vs:List V) (H:Hp) (Q:VK):Prop where
 |mk (a:Addr) (ns:List Int) (i m:Nat) (h0:vs=[.ref a,.int i,.int m]) (h1:Ae K H a (ns.map V.int)) (h2:i<m) (h3:m<=40) (h4:∀(p:Addr)(H':Hp),H p=none->Ac H H'->H' p=some (.tup [.str (Bd ns m i).1,.int (Bd ns m i).2])->Q (.ref p) H'):DN K vs H Q
def gD (K:Ah):Sp:=λvs H Q ζ=>DN K vs H Q
abbrev Ur(P w K mg base):=BI P w K mg base "_law_link" 2 ["_law_script", "_law_i", "_law_many"] (gD K)
def gE(ab:BK mg)(l:QV P w K mg base)(F:BA K "_law_link" "_law_link" Rl f fd)(O:mg "_law_link" = some (.ref f)):Ur P w K mg base:=by
 refine Ca F O QN (λR H Q E h=>?_) (λag ae aj af H R Q E hr h=>?_);obtain⟨a,ns,i,m,rfl,_⟩:=h;rfl;obtain⟨a,ns,i,m,rfl,g,ah,ai,q⟩:=h;have b0:=Gg (Bj ns 4) (by decide:(65521:Int)≠0);have b1:=Ij (Bj ns 4) (by decide:(0:Int)<65521);have r:∀k Y p,Bd ns m i=k->Ac H Y->Y p=none->Q (.ref p) (upd Y p (.tup [.str k.1,.int k.2])):=λk Y p v L b=>q p _ (L.free b) (L.trans (AR b)) (by rw[Aa,<-v])
 refine⟨_,(Ap (AX (i:=3) QN.nd (A2 F8 (A7 l (Ab (pv 0) (Ab (A2 F8 Aq (pv 1)) Af))) (A2 Lo (A2 Dy (A7 l (Ab (pv 0) (Ab Aq Af))) Aq) (A2 F8 (A2 Lo Aq (pv 1)) Aq))))
  (Ap (AX (i:=4) QN.nd (A2 Dy (A2 Lo (pv 3) Aq) Aq))
  (Ap (Bv (B2 Dq (A2 Dy (A7 l (Ab (pv 0) (Ab Aq Af))) Aq) Aq (BW _)) (Ap (AX (i:=5) QN.nd (Cg (Ab (A2 Dy (A2 Gh (A7 l (Ab (pv 0) (Ab Aq Af))) Aq) (pv 2)) (Ab (A2 Dy (A2 Gh (A7 l (Ab (pv 0) (Ab Aq Af))) Aq) (pv 2)) Af))))
   (Ap (Bv (PW.pt (IH (B2 Vj (pv 1) (pv 5) (by with_unfolding_all rfl)) (IG (PW.pt (P1 (B2 Dq (pv 1) (Av Aw (pv 5) Aq) (BW _)) (RX (B2 Dq (A2 Dy (pv 4) Aq) Aq (BW _)))))))) (AA (AQ (Av Aw (Cg (Ab (Bn (Ab BN (Ab (A2 Dy (A2 Gh (pv 4) Aq) Aq) Af))) (Ab (Bn (Ab BN (Ab Aq Af))) (Ab (Bn (Ab BN (Ab (A2 Dy (A2 Gh (pv 4) Aq) (pv 2)) Af))) Af)))) (A2 Dy (pv 4) Aq)))) Bx)
   (AA (AQ (Bn (Ab BN (Ab (A2 Dy (A2 F8 (pv 1) Aq) (pv 2)) Af))))))) Bx)
  (Ap (Bv (B2 Dq (A2 Dy (pv 4) Aq) Aq (BW _)) (AA (AQ (Bn (Ab BN (Ab Aq Af))))) Bx)
  (Ap (Bv (B2 Nd (A2 Dy (pv 4) Aq) Aq (BW _)) (AA (AQ (Bn (Ab BN (Ab (A2 Dy (A2 Gh (pv 4) Aq) Aq) Af))))) Bx)
  (Ap (Bv (B2 Nd (A2 Dy (pv 4) Aq) Aq (BW _)) (AA (AQ (Bn (Ab BN (Ab (A2 Dy (A2 F8 (pv 1) Aq) (pv 2)) Af))))) Bx)
  (AA (AQ (Bn (Ab BN (Ab (A2 Dy (A2 Gh (pv 4) Aq) (pv 2)) Af))))))))))),?_⟩
 rfl';refine⟨a,ns,6+(i:Int),rfl,by lia,g,a,ns,4,rfl,by decide,g,(by show(0:Int)<65521;decide),Or.inl ⟨by decide,by decide⟩,Or.inl ⟨(by show -(2 ^ 64)<Bj ns 4%65521;lia),(by show Bj ns 4%65521<2 ^ 64;lia)⟩,?_⟩;refine⟨Or.inr ⟨by decide,by decide⟩,(by show(0:Int)<2147483647;decide),?_⟩;cbv
 rw[show(Bj ns (6+(i:Int))+Bj ns 4%65521*(2*(i:Int)+1))*48271%2147483647=G0 ns i from rfl];obtain⟨n,c⟩:∃n,n=G0 ns i:=⟨_,rfl⟩;rw[<-c];refine⟨a,ns,5,rfl,by decide,g,(by show(0:Int)<4;decide),rfl,rfl,As (λx=>?_) (λx=>?_)⟩
 have d:Bj ns 5%4=1:=V.int.inj (BM x);refine⟨a,ns,5,rfl,by decide,g,⟨by decide,by decide⟩,(by show(0:Int)<m;lia),a,ns,5,rfl,by decide,g,⟨by decide,by decide⟩,(by show(0:Int)<m;lia),B4,λS W=>?_⟩;obtain⟨Y,X,y,M⟩:=new_at (o:=.lst [.int (Bj ns 5/4%m),.int (Bj ns 5/160%m)]) W;rw[<-X];have N:∀k,Bd ns m i=k->∀p,Y p=none->Q (.ref p) (upd Y p (.tup [.str k.1,.int k.2])):=λk v p b=>r k Y p v y b;have no:¬(((i:Int)=Bj ns 5/4%m\/(i:Int)=Bj ns 5/160%m)/\((i:Int)=Bj ns 5/4%m\/n%3=0))->Bd ns m i=(("by" : Str),((i:Int)+1)%m):=λh=>(Ak d).trans (Aj (by rw[<-c];exact h))
 have Z:(((i:Int)=Bj ns 5/4%m\/(i:Int)=Bj ns 5/160%m)/\((i:Int)=Bj ns 5/4%m\/n%3=0))->Bd ns m i=(if n%3=0 then(("thing" : Str),n/3%80) else if n%3=1 then(("none" : Str),(0:Int)) else(("by" : Str),n/3%m)):=λh=>by
  unfold Bd;rw[Ak d,Ak (by rw[<-c];exact h),<-c]
 have t0:=Gg n (by decide:(3:Int)≠0);have t1:=Ij n (by decide:(0:Int)<3);refine⟨S,_,rfl,Or.inl (Ae.of M),rfl,rfl,?_⟩;rw[MK];refine⟨rfl,As (λA=>?_) (λA=>?_)⟩;have I:=BM A
 have go:((i:Int)=Bj ns 5/4%m\/n%3=0)->∀p j,Y p=none->Ac Y j->j p=some (.tup [.str (if n%3=0 then(("thing" : Str),n/3%80) else if n%3=1 then(("none" : Str),(0:Int)) else(("by" : Str),n/3%m)).1,.int (if n%3=0 then(("thing" : Str),n/3%80) else if n%3=1 then(("none" : Str),(0:Int)) else(("by" : Str),n/3%m)).2])->Q (.ref p) j:=λT p j b U e=>q p j (y.free b) (y.trans U) (by rw[Z ⟨I,T⟩];exact e)
 refine Or.inl ⟨_,_,Ae.of M,rfl,rfl,rfl,As (λB=>?_) (λB=>?_)⟩;exact BY (KW (by lia) (go (.inl (V.int.inj (BM B)))));have aa:¬(i:Int)=Bj ns 5/4%m:=λe=>B (By (by rw[e]));refine⟨(by show(0:Int)<3;decide),rfl,rfl,?_⟩;by_cases t:n%3=0;rw[By (show V.int (n%3)=V.int 0 by rw[t])];exact BY (KW (by lia) (go (.inr t)));rw[Dw (λe=>t (V.int.inj e))];refine Bb ?_;exact⟨(by show(0:Int)<m;lia),B4,N (("by" : Str),((i:Int)+1)%m) (no λz=>z.2.elim aa t)⟩;have I:¬_:=λe=>A (By e);refine Bb ?_;exact⟨(by show(0:Int)<m;lia),B4,N (("by" : Str),((i:Int)+1)%m) (no λz=>I z.1)⟩;have d:¬Bj ns 5%4=1:=λe=>x (By (by show V.int (Bj ns 5%4)=V.int 1;rw[e]));refine⟨(by show(0:Int)<8;decide),rfl,rfl,As (λC=>?_) (λC=>?_)⟩;have s:n%8=0:=V.int.inj (BM C);exact⟨B4,λp b=>r (("none" : Str),0) H p ((Aj d).trans (Ak (by rw[<-c];exact s))) (Ac.refl _) b⟩;have s:¬n%8=0:=λe=>C (By (by show V.int (n%8)=V.int 0;rw[e]));refine⟨(by show(0:Int)<8;decide),rfl,As (λD=>?_) (λD=>?_)⟩;have u:n%8<3:=BM D;exact⟨⟨by decide,by decide⟩,(by show(0:Int)<80;decide),B4,λp b=>r (("thing" : Str),n/8%80) H p (by unfold Bd;rw[Aj d,<-c,Aj s,Ak u]) (Ac.refl _) b⟩;have u:¬n%8<3:=λe=>D (By e);refine⟨(by show(0:Int)<8;decide),rfl,As (λG=>?_) (λG=>?_)⟩;have J:n%8<6:=BM G;exact⟨(by show(0:Int)<m;lia),B4,λp b=>r (("by" : Str),((i:Int)+1)%m) H p (by unfold Bd;rw[Aj d,<-c,Aj s,Aj u,Ak J]) (Ac.refl _) b⟩;have J:¬n%8<6:=λe=>G (By e);exact⟨⟨by decide,by decide⟩,(by show(0:Int)<m;lia),B4,λp b=>r (("by" : Str),n/8%m) H p (by unfold Bd;rw[Aj d,<-c,Aj s,Aj u,Aj J]) (Ac.refl _) b⟩
structure MI (H0 H:Hp) (S R L Nh:Addr) (us Gs Es:List Addr) (ss:List Bp) (qt:List Addr) (qs:List Qu) (tl:List Addr) (ls:List (Str×Int)) (nms:List Str):Prop where
 s0:Ac H0 H
 sc:C9 H S us Gs Es ss
 nd:(S::(Gs++Es)).Nodup
 na:∀x∈S::(Gs++Es),x≠R/\x≠L/\x≠Nh
 nr:R≠L/\R≠Nh
 fr:H0 R=none/\∀x∈Gs++Es,H0 x=none
 er:H R=some (.lst (qt.map V.ref))
 tq:QT H qt qs
 el:H L=some (.lst (tl.map V.ref))
 tl:RT KJ H tl ls
 en:H Nh=some (.lst (nms.map V.str))
section
variable {H0 H H':Hp} {S R L Nh:Addr} {us Gs Es:List Addr} {ss:List Bp} {qt:List Addr} {qs:List Qu} {tl:List Addr} {ls:List (Str×Int)} {nms:List Str}
def MI.same(e:Ac H H')(h:MI H0 H S R L Nh us Gs Es ss qt qs tl ls nms):MI H0 H' S R L Nh us Gs Es ss qt qs tl ls nms:=
 ⟨h.s0.trans e,h.sc.same e,h.nd,h.na,h.nr,h.fr,e _ _ h.er,h.tq.same e,e _ _ h.el,h.tl.same e,e _ _ h.en⟩
def MI.tell(h:MI H0 H S R L Nh us Gs Es ss qt qs tl ls nms){i:Nat}{E t:Addr}{ts:List Addr}{p:CN}(f:i<ss.length)(a:Es[i]?=some E)(c:H E=some (.lst (ts.map V.ref)))(T:RT Ga H ts ss[i].2)(g:H t=some (.tup (Ga p))) :
 MI H0 (upd H E (.lst (ts.map V.ref++[.ref t]))) S R L Nh us Gs Es (ss.set i (ss[i].1,ss[i].2++[p])) qt qs tl ls nms:=by
 have k:Keeps (·=E) H (upd H E (.lst (ts.map V.ref++[.ref t]))):=Keeps.one c;have d:E∈Gs++Es:=CY _ (A6 a);obtain⟨j,l,m⟩:=h.na E (B8 _ d);refine⟨λb o e=>?_,h.sc.tell h.nd f a c T g,h.nd,h.na,h.nr,h.fr,?_,h.tq.keeps k,?_,h.tl.keeps k,?_⟩;rw[AC (A1 e (h.fr.2 E d))];exact h.s0 _ _ e;rw[AC (Ne.symm j)];exact h.er;rw[AC (Ne.symm l)];exact h.el;rw[AC (Ne.symm m)];exact h.en
def MI.ask(h:MI H0 H S R L Nh us Gs Es ss qt qs tl ls nms){t u:Addr}{q:Qu}(a:H t=some (.tup [.int q.1,.int q.2.1,.ref u]))(c:H u=some (.tup (q.2.2.map V.str))) :
 MI H0 (upd H R (.lst (qt.map V.ref++[.ref t]))) S R L Nh us Gs Es ss (qt++[t]) (qs++[q]) tl ls nms:=by
 have k:Keeps (·=R) H (upd H R (.lst (qt.map V.ref++[.ref t]))):=Keeps.one h.er;refine⟨λb o e=>?_,h.sc.keeps k (h.na S (by simp)).1 (λx d=>(h.na x (B8 _ d)).1),h.nd,h.na,h.nr,h.fr,?_,(h.tq.snoc a c).keeps k,?_,h.tl.keeps k,?_⟩;rw[AC (A1 e h.fr.1)];exact h.s0 _ _ e;rw[Aa,Bh];rfl;rw[AC (Ne.symm h.nr.1)];exact h.el;rw[AC (Ne.symm h.nr.2)];exact h.en
end
abbrev J1 (ns:List Int):List Str:=Gx (Bj ns 0) 2
abbrev C4 (ns:List Int):Str:=(Gx (Bj ns 1) 2).getD 0 default
abbrev KX (ns:List Int):Int:=if Bj ns 2/40%8=7 then 40 else 24
abbrev kM (ns:List Int):Nat:=(1+Bj ns 2%KX ns).toNat
abbrev Dv (ns:List Int) (i:Nat):Nat:=((Bj ns 3+(i:Int))%(kM ns:Int)).toNat
abbrev GN (ns:List Int) (i:Nat):Nat:=((Bj ns 3/40+(i:Int)*(i:Int))%2).toNat
abbrev Ia (ns:List Int) (i:Nat):Str:=(J1 ns).getD (GN ns i) default
abbrev ML (ns:List Int) (i:Nat):Str:=(J1 ns).getD (1-GN ns i) default
abbrev kC (ns:List Int) (i:Nat):Bool:=decide ((Bj ns 3/80+(i:Int))%4<2)
abbrev Bm (ns:List Int):List (Str×Int):=(List.range (kM ns)).map (Bd ns (kM ns))
abbrev Em (ns:List Int) (n:Nat):List Qu:=(List.range n).map λi=>((Dv ns i:Int),0,[Ia ns i])
abbrev KY (ns:List Int) (i:Nat):List CN:=(if kC ns i=true then[(C4 ns,ML ns i,("thing" : Str),(i:Int))] else[])++if(Bd ns (kM ns) i).1=("none" : Str) then[] else[(C4 ns,Ia ns i,(Bd ns (kM ns) i).1,(Bd ns (kM ns) i).2)]
abbrev Fm:List (Str×Int):=List.replicate 80 (("plain" : Str),(0:Int))
def MM(ns:List Int):1<=kM ns/\kM ns<=40:=by
 unfold kM KX;split<;>lia
def Us(ns:List Int)(i:Nat):Dv ns i<kM ns:=by
 have:=MM ns;have a:=Gg (Bj ns 3+(i:Int)) (show(kM ns:Int)≠0 by lia);have b:=Ij (Bj ns 3+(i:Int)) (show(0:Int)<kM ns by lia);unfold Dv;lia
def XS{j:Nat}(b:i<kM ns)(c:j<kM ns)(h:Dv ns i=Dv ns j):i=j:=by
 have d:=MM ns
 have e:(Bj ns 3+(i:Int))%(kM ns:Int)=(Bj ns 3+(j:Int))%(kM ns:Int):=by
  have f:=Gg (Bj ns 3+(i:Int)) (show(kM ns:Int)≠0 by lia);have g:=Gg (Bj ns 3+(j:Int)) (show(kM ns:Int)≠0 by lia);unfold Dv at h;lia
 have a:=Int.emod_add_cancel_left.mp e;rw[Int.emod_eq_of_lt (by lia) (by lia),Int.emod_eq_of_lt (by lia) (by lia)] at a;lia
def Pr{x:Int}(a:0<=x)(b:x<8):Bz [V.int 24,.int 24,.int 24,.int 24,.int 24,.int 24,.int 24,.int 40] x=some (.int (if x=7 then 40 else 24)):=by
 have:x=0\/x=1\/x=2\/x=3\/x=4\/x=5\/x=6\/x=7:=(by lia);rcases this with rfl|rfl|rfl|rfl|rfl|rfl|rfl|rfl<;>rfl
def XT:([]:List V).length+1+1+1+1<=sizeLine:=by decide
def Ut:([]:List V).length+1<=sizeLine:=by decide
structure Gy (ns:List Int) (n:Nat) (ss:List Bp):Prop where
 len:ss.length=kM ns
 old:∀i,i<n->i<kM ns->ss[Dv ns i]?=some ([],KY ns i)
 new:∀i,n<=i->i<kM ns->ss[Dv ns i]?=some ([],[])
structure MN (ss ss1:List Bp) (h:Nat) (l:List CN):Prop where
 len:ss1.length=ss.length
 here:ss1[h]?=some ([],l)
 old:∀j,j≠h->ss1[j]?=ss[j]?
def MN.more{ss a:List Bp}{h:Nat}{l:List CN}{p:CN}(P:MN ss a h l)(b:h<a.length):MN ss (a.set h (a[h].1,a[h].2++[p])) h (l++[p]):=by
 have e:a[h]=([],l):=by
  have:=P.here;rw[AD b] at this;exact Br this
 refine⟨by rw[G1];exact P.len,?_,λj c=>?_⟩;rw[List.getElem?_set_self b,e];rw[List.getElem?_set_ne (Ne.symm c)];exact P.old j c
def Gy.snoc{ss c:List Bp}(b:i<kM ns)(P:Gy ns i ss)(U:MN ss c (Dv ns i) (KY ns i)):Gy ns (i+1) c:=by
 refine⟨by rw[U.len,P.len],λj d a=>?_,λj d a=>?_⟩;by_cases h:j=i;rw[h];exact U.here;rw[U.old _ (λz=>h (XS a b z))];exact P.old j (by lia) a;rw[U.old _ (λz=>absurd (XS a b z) (by lia))];exact P.new j (by lia) a
inductive DO (K:Ah) (vs:List V) (H:Hp) (Q:VK):Prop where
 |mk (a:Addr) (ns:List Int) (h0:vs=[.ref a]) (h1:Ae K H a (ns.map V.int)) (h2:∀(r nt t L S T R:Addr)(us Gs Es gt qt tl:List Addr)(ss:List Bp)(H':Hp),Ac H H'->H' r=some (.tup [.ref nt,.ref t,.ref L])->H' nt=some (.tup [.ref S,.ref T,.ref R])->Fg H' S T R us Gs Es gt qt ss Fm (Em ns (kM ns))->Gy ns (kM ns) ss->FU K (λζ=>True) H' t [([],[C4 ns])] 0 []->H' L=some (.lst (tl.map V.ref))->RT KJ H' tl (Bm ns)->Q (.ref r) H'):DO K vs H Q
def gF (K:Ah):Sp:=λvs H Q ζ=>DO K vs H Q
abbrev QW(P w K mg base):=BI P w K mg base "_law_made" 3 ["_law_script"] (gF K)
def gG(ah:BK mg)(a6:Uq P w K mg base)(aj:QV P w K mg base)(aW:Ur P w K mg base)(F:BA K "_law_made" "_law_made" M5 f fd)(hm:mg "_law_made" = some (.ref f)):QW P w K mg base:=by
 refine Ca F hm GK (λvs ab aQ aR h=>?_) (λbC ae bM b9 ab vs aQ aR hr h=>?_);obtain⟨a,ns,rfl,_⟩:=h;rfl
 . obtain⟨a,ns,rfl,hS,q⟩:=h
   refine⟨_,(Ap (AX (i:=1) GK.nd (A7 a6 (Ab (A7 aj (Ab (pv 0) (Ab Aq Af))) (Ab Aq Af))))
    (Ap (AX (i:=2) GK.nd (Av Aw (A7 a6 (Ab (A7 aj (Ab (pv 0) (Ab Aq Af))) (Ab Aq Af))) Aq))
    (Ap (AX (i:=3) GK.nd (A7 aj (Ab (pv 0) (Ab Aq Af))))
    (Ap (AX (i:=4) GK.nd (A2 F8 Aq (A2 Dy (pv 3) (Av Aw (Cg (Ab Aq (Ab Aq (Ab Aq (Ab Aq (Ab Aq (Ab Aq (Ab Aq (Ab Aq Af))))))))) (A2 Dy (A2 Gh (pv 3) Aq) Aq)))))
    (Ap (AX (i:=5) GK.nd (A7 aj (Ab (pv 0) (Ab Aq Af))))
    (Ap (LL (i:=6) GK.nd rfl (Or.inl rfl) rfl CO (G8 rfl ah.b_range (Ab (pv 4) Af)) (λζ ζ ζ ζ ζ=>(Ay (i:=0) CO.nd)) (λζ ζ ζ ζ ζ=>F9) (λζ ζ ζ ζ ζ=>(Bn (Ab (Cg Af) (Ab (Cg Af) Af)))))
    (Ap (AX (i:=7) GK.nd (Cg Af))
    (Ap (LL (i:=8) GK.nd rfl (Or.inl rfl) rfl CP (G8 rfl ah.b_range (Ab (pv 4) Af)) (λζ ζ ζ ζ ζ=>(Ay (i:=0) CP.nd)) (λζ ζ ζ ζ ζ=>F9) (λζ ζ ζ ζ ζ=>(A7 aW (Ab (pv 1) (Ab (pv 0) (Ab (pv 2) Af))))))
    (Ap (Do CK rfl (G8 rfl ah.b_range (Ab (pv 4) Af)) (Ay (i:=9) GK.nd) (Ap (AX (i:=10) GK.nd (A2 Dy (A2 F8 (pv 5) (pv 9)) (pv 4)))
     (Ap (AX (i:=11) GK.nd (A2 Dy (A2 F8 (A2 Gh (pv 5) Aq) (A2 Lo (pv 9) (pv 9))) Aq))
     (Ap (Bv (B2 Nd (A2 Dy (A2 F8 (A2 Gh (pv 5) Aq) (pv 9)) Aq) Aq (BW _)) (AA (DD (DG Dx Fu Fv FD (Av Aw (Av Aw (pv 6) (pv 10)) Aq) (Ab (Bn (Ab (pv 2) (Ab (Av Aw (pv 1) (A2 G9 Aq (pv 11))) (Ab BN (Ab (pv 9) Af))))) Af)))) Bx)
     (Ap (Bv (B2 Lq (Av Aw (Av Aw (pv 8) (pv 9)) Aq) BN (BW _)) (AA (DD (DG Dx Fu Fv FD (Av Aw (Av Aw (pv 6) (pv 10)) Aq) (Ab (Bn (Ab (pv 2) (Ab (Av Aw (pv 1) (pv 11)) (Ab (Av Aw (Av Aw (pv 8) (pv 9)) Aq) (Ab (Av Aw (Av Aw (pv 8) (pv 9)) Aq) Af))))) Af)))) Bx)
     (AA (DD (DG Dx Fu Fv FD (pv 7) (Ab (Bn (Ab (pv 10) (Ab Aq (Ab (Bn (Ab (Av Aw (pv 1) (pv 11)) Af)) Af)))) Af)))))))))
    (Ap (LL (i:=12) GK.nd rfl (Or.inl rfl) rfl CQ (G8 rfl ah.b_range (Ab Aq Af)) (λζ ζ ζ ζ ζ=>(Ay (i:=0) CQ.nd)) (λζ ζ ζ ζ ζ=>F9) (λζ ζ ζ ζ ζ=>(Bn (Ab BN (Ab Aq Af)))))
    (AA (AQ (Bn (Ab (Bn (Ab (pv 6) (Ab (pv 12) (Ab (pv 7) Af)))) (Ab (Bn (Ab (Cg (Ab (Bn (Ab (Cg Af) (Ab (Cg (Ab (pv 2) Af)) Af))) Af)) (Ab Aq (Ab (Cg Af) Af)))) (Ab (pv 8) Af)))))))))))))))),?_⟩
   rfl';refine⟨a,ns,0,rfl,by decide,hS,_,2,rfl,by decide,by decide,λN bA bD s1 aX=>?_⟩;have bB:(J1 ns).length=2:=Up _ _;have ll:(Gx (Bj ns 1) 2).length=2:=Up _ _;refine⟨a,ns,1,rfl,by decide,s1.seq hS,_,2,rfl,by decide,by decide,λLh H2 bE s2 aY=>Or.inl ⟨_,.str (C4 ns),Ae.of aY,B3 (j:=0) (SN (by lia)),?_⟩⟩;have a7:=s1.trans s2;refine⟨a,ns,2,rfl,by decide,a7.seq hS,?_⟩;have y0:=Gg (Bj ns 2/40) (by decide:(8:Int)≠0);have y1:=Ij (Bj ns 2/40) (by decide:(0:Int)<8);have kd:0<KX ns:=by unfold KX;split<;>decide
   refine⟨(by show 8<=sizeLine;decide),λD8 aZ=>⟨⟨by decide,by decide⟩,(by show(0:Int)<8;decide),Or.inl ⟨_,.int (KX ns),Ae.of Aa,Pr y0 y1,kd,?_⟩⟩⟩;have s3:=AR (o:=.lst [.int 24,.int 24,.int 24,.int 24,.int 24,.int 24,.int 24,.int 40]) aZ;generalize upd H2 D8 (.lst [.int 24,.int 24,.int 24,.int 24,.int 24,.int 24,.int 24,.int 40])=H3 at s3 ⊢;obtain⟨m1,ba⟩:=MM ns
   have aU:1+Bj ns 2%KX ns=((kM ns:Nat):Int):=by
    have:=Gg (Bj ns 2) (show KX ns≠0 by lia);show _=((1+Bj ns 2%KX ns).toNat:Int);lia
   dsimp only[Kj,G6];rw[aU];have ak:=a7.trans s3;refine⟨a,ns,3,rfl,by decide,ak.seq hS,?_⟩;have aq:=s3 _ _ (s2 _ _ aX)
   refine⟨by lia,by lia,No (n:=((kM ns:Nat):Int).toNat) (λD i v l=>∃us m r:List Addr,v=us.map V.ref/\Ac H3 l/\C9 l D us m r (List.replicate i (([],[]):Bp))/\(D::(m++r)).Nodup/\∀x∈m++r,H3 x=none)
    (λD C=>⟨[],[],[],rfl,AR C,C9.nil Aa,by simp,λx b=>by simp at b⟩) (λD i v H7 RR C E H k=>?_) (λS v H7 a8 H=>?_)⟩
   refine AO λNz g=>?_;obtain⟨us,m,r,rfl,s7,SC,nd,bb⟩:=H;refine g ?_;clear g;have a9:=SC.lu;rw[List.length_replicate] at a9;refine⟨by decide,λG O=>?_⟩;obtain⟨H8,av,c,Z⟩:=new_at (o:=.lst []) O;rw[<-av];refine⟨by decide,λA J=>?_⟩;obtain⟨H9,bc,t2,bd⟩:=new_at (o:=.lst []) J;rw[<-bc];refine⟨B4,λu hu=>?_⟩;obtain⟨aa,b0,t3,eu⟩:=new_at (o:=.tup [.ref G,.ref A]) hu;rw[<-b0];have aA:=(c.trans t2).trans t3;have be:=t2.trans t3;have aB:=SC.same aA;have al:=SC.alive
   have nG:G∉D::(m++r):=λy=>by
    rcases BV.mp y with y|y;rw[y,SC.top] at O;cases O;obtain⟨xs,e⟩:=al G y;rw[e] at O;cases O
   have nE:A∉D::(m++r):=λy=>by
    rcases BV.mp y with y|y;rw[y,c _ _ SC.top] at J;cases J;obtain⟨xs,e⟩:=al A y;rw[c _ _ e] at J;cases J
   have bf:G≠A:=λy=>by rw[<-y,Z] at J;cases J
   have bg:GY aa u G A ([],[]):=⟨eu,⟨[],be _ _ Z,RT.nil⟩,⟨[],t3 _ _ bd,RT.nil⟩⟩;have bh:=aB.snoc bg (λz=>nG (z▸Bu)) (λz=>nE (z▸Bu)) (λx b z=>(FM.mp nd).1 (z▸b));refine k _ _ aB.top (by rw[Al,a9];exact BH (by lia)) ⟨us++[u],m++[G],r++[A],by rw[Bh];rfl,λai o e=>?_,?_,Y1 nd nG nE bf,λx b=>?_⟩;rw[AC (A1 e C)];exact aA _ _ (s7 _ _ e);rw[List.replicate_succ'];exact bh
   have:x∈m++r\/x=G\/x=A:=by
    simp only[BL,AW] at b ⊢;rcases b with(h|h)|(h|h);exact .inl (.inl h);exact .inr (.inl h);exact .inl (.inr h);exact .inr (.inr h)
   rcases this with h|h|h;exact bb x h;rw[h];exact s7.free O;rw[h];exact(s7.trans c).free J;refine AO λNz g=>?_;obtain⟨us,m,r,rfl,s4,an,bi,aC⟩:=H;refine g ?_;clear g;rw[Bk] at an;refine⟨by decide,λR hR=>?_⟩;obtain⟨H8,av,s5,aD⟩:=new_at (o:=.lst []) hR;rw[<-av];have aE:=(ak.trans s4).trans s5
   refine⟨by lia,by lia,No (n:=((kM ns:Nat):Int).toNat) (λD i v l=>∃s:List Addr,v=s.map V.ref/\Ac H8 l/\l D=some (.lst v)/\RT KJ l s ((List.range i).map (Bd ns (kM ns))))
    (λD C=>⟨[],rfl,AR C,Aa,RT.nil⟩) (λD i v H9 RR C E H k=>?_) (λL v H9 hL H=>?_)⟩
   obtain⟨s,rfl,U,eD,af⟩:=H;have lt:=af.len;rw[Al,List.length_range] at lt;refine⟨a,ns,i,kM ns,?_,(aE.trans U).seq hS,by lia,ba,λp aa hp ao ep=>?_⟩;show[V.ref a,V.int (0+(i:Int)),V.int (kM ns:Int)]=_;rw[Int.zero_add]
   have T2:RT KJ aa (s++[p]) ((List.range (i+1)).map (Bd ns (kM ns))):=by
    rw[List.range_succ,Bh];exact(af.same ao).snoc ep
   refine k _ _ (ao _ _ eD) (by rw[Al,lt];exact BH (by lia)) ⟨s++[p],by rw[Bh];rfl,λai o e=>?_,Aa,T2.keeps (Keeps.one (ao _ _ eD))⟩;rw[AC (A1 e C)];exact ao _ _ (U ai o e);obtain⟨s,rfl,U,eL,T9⟩:=H;rw[Bk] at T9;have bj:=an.alive
   have M0:MI ab H9 S R L N us m r (List.replicate (kM ns) ([],[])) [] [] s (Bm ns) (J1 ns):=by
    have aF:∀{x:Addr}{o:HO},H8 x=some o->x≠L:=λe=>A1 e hL;have bk:∀{x:Addr}{o:HO},H7 x=some o->x≠R:=λe=>A1 e hR
    have nN:∀x∈S::(m++r),x≠N:=λx b z=>by
     rcases BV.mp b with b|b;rw[<-b,z,aq] at a8;cases a8;have:=aC x b;rw[z,aq] at this;cases this
    have ex:∀x∈S::(m++r),∃o,H7 x=some o:=λx b=>by
     rcases BV.mp b with b|b;exact⟨_,by rw[b];exact an.top⟩;obtain⟨xs,e⟩:=bj x b;exact⟨_,e⟩
    refine⟨aE.trans U,(an.same s5).same U,bi,λx b=>?_,⟨aF aD,λz=>?_⟩,⟨(ak.trans s4).free hR,λx b=>ak.free (aC x b)⟩,U _ _ aD,QT.nil,eL,T9,U _ _ (s5 _ _ (s4 _ _ aq))⟩;obtain⟨o,e⟩:=ex x b;exact⟨bk e,aF (s5 _ _ e),nN x b⟩;rw[z,s4 _ _ aq] at hR;cases hR
   refine⟨by lia,by lia,N9 (lo:=0) (n:=((kM ns:Nat):Int).toNat) (λi σ l=>∃u9 aw ax I Q,σ=[some (.ref a),some (.ref N),some (.str (C4 ns)),some (.int (Bj ns 2)),some (.int (kM ns)),some (.int (Bj ns 3)),some (.ref S),some (.ref R),some (.ref L),u9,aw,ax,none]/\MI ab l S R L N us m r I Q (Em ns i) s (Bm ns) (J1 ns)/\Gy ns i I) ⟨none,none,none,_,[],rfl,M0,by rw[List.length_replicate],λi E=>absurd E (Nat.not_lt_zero _),λi ζ E=>by rw[List.getElem?_replicate,Ak (Us ns i)]⟩ ?_ ?_⟩
   . refine λi σ aa E ay=>AO λNz g=>?_
     obtain⟨u9,aw,ax,I,Q,rfl,M,P⟩:=ay;refine g ?_;clear g;refine Ix ?_;intro Nx Cy;rw[Bk] at E;rw[Int.zero_add];have hh:=Us ns i;have bF:GN ns i<2:=by unfold GN;lia
     have eh:(Bj ns 3+(i:Int))%(kM ns:Int)=(Dv ns i:Int):=by
      have h1:=Gg (Bj ns 3+(i:Int)) (show(kM ns:Int)≠0 by lia);unfold Dv;lia
     have ew:(Bj ns 3/40+(i:Int)*(i:Int))%2=(GN ns i:Int):=by unfold GN;lia
     refine⟨(by show(0:Int)<(kM ns:Int);lia),?_⟩;dsimp only[G6];rw[eh];refine⟨⟨by decide,by decide⟩,Or.inl ⟨(by show -(2 ^ 64)<(i:Int);lia),(by show(i:Int)<2 ^ 64;lia)⟩,(by show(0:Int)<2;decide),?_⟩;dsimp only[G6];rw[ew];have bG:=P.len;have U0:MN I I (Dv ns i) []:=⟨rfl,P.new i (AE _) E,λζ ζ=>rfl⟩
     have bl:Bz ((J1 ns).map V.str) (1-(GN ns i:Int))=some (.str (ML ns i)):=by
      rw[show 1-(GN ns i:Int)=((1-GN ns i:Nat):Int) by lia];exact B3 (SN (by lia))
     have aG:Bz ((J1 ns).map V.str) (GN ns i:Int)=some (.str (Ia ns i)):=B3 (SN (by lia))
     refine Nl (λσ' l=>∃T,σ'=[some (.ref a),some (.ref N),some (.str (C4 ns)),some (.int (Bj ns 2)),some (.int (kM ns)),some (.int (Bj ns 3)),some (.ref S),some (.ref R),some (.ref L),some (.int i),some (.int (Dv ns i)),some (.int (GN ns i)),none]/\MI ab l S R L N us m r T Q (Em ns i) s (Bm ns) (J1 ns)/\MN I T (Dv ns i) (if kC ns i=true then[(C4 ns,ML ns i,("thing" : Str),(i:Int))] else[])) ?_ (λNX ag=>?_)
     rotate_left
     . refine⟨⟨by decide,by decide⟩,(by show(0:Int)<4;decide),rfl,As (λd=>?_) (λd=>?_)⟩
       rotate_left;exact ag _ _ ⟨I,rfl,M,by rw[Aj d];exact U0⟩;have Y:Dv ns i<I.length:=(by lia);refine AO λNz g=>?_;obtain⟨u,G,A,ar,aV,au,g4,⟨c0,_,⟨tE,W,b2⟩⟩⟩:=M.sc.get Y;refine g ?_;clear g;have a3:Bz (us.map V.ref) (Dv ns i:Int)=some (.ref u):=B3 (by rw[A3,ar];rfl);refine Or.inl ⟨_,.ref u,Ae.of M.sc.top,a3,Or.inr (Or.inl ⟨_,.ref A,Ar.of c0,rfl,Or.inl ⟨rfl,_,Ae.of W⟩,Or.inl ⟨_,.str (ML ns i),Ae.of M.en,bl,XT,λt X=>?_⟩⟩)⟩;have c:=AR (o:=.tup [.str (C4 ns),.str (ML ns i),.str "thing",.int i]) X
       have lE:(tE.map V.ref).length=0:=by
        have:=U0.here;rw[g4] at this;rw[Al,b2.len,Br this];rfl
       refine⟨_,c _ _ W,by rw[lE];exact BH (by lia),ag _ _ ⟨_,rfl,(M.same c).tell (p:=(C4 ns,ML ns i, "thing",(i:Int))) Y au (c _ _ W) (b2.same c) Aa,by rw[Ak d];exact U0.more Y⟩⟩
     rintro σ' aH ⟨T,rfl,B,U1⟩;refine Nl (λσ' l=>∃T,σ'=[some (.ref a),some (.ref N),some (.str (C4 ns)),some (.int (Bj ns 2)),some (.int (kM ns)),some (.int (Bj ns 3)),some (.ref S),some (.ref R),some (.ref L),some (.int i),some (.int (Dv ns i)),some (.int (GN ns i)),none]/\MI ab l S R L N us m r T Q (Em ns i) s (Bm ns) (J1 ns)/\MN I T (Dv ns i) (KY ns i)) ?_ (λNX ag=>?_);rotate_left
     . have bm:=B.tl.len
       rw[Al,List.length_range] at bm;have bn:(Bm ns)[i]?=some (Bd ns (kM ns) i):=by rw[A3,List.getElem?_range E];rfl
       have eta:=AD (show i<s.length by lia);generalize s[i]'(by lia)=ta at eta;have ea:=B.tl.at_ i _ _ eta bn;have e1:Bz (s.map V.ref) ((i:Nat):Int)=some (.ref ta):=B3 (by rw[A3,eta];rfl);refine Or.inl ⟨_,_,Ae.of B.el,e1,Or.inr (Or.inl ⟨_,_,Ar.of ea,rfl,rfl,rfl,As (λd=>?_) (λd=>?_)⟩)⟩;rotate_left;have d':(Bd ns (kM ns) i).1=("none" : Str):=Classical.byContradiction λz=>d (by rw[Dw λe=>z (V.str.inj e)];rfl);refine ag _ _ ⟨T,rfl,B,?_⟩;unfold KY;rw[Ak d',FN];exact U1;have d':¬(Bd ns (kM ns) i).1=("none" : Str):=λz=>by rw[z] at d;cases d
       have Y:Dv ns i<T.length:=by rw[U1.len];lia
       refine AO λNz g=>?_;obtain⟨u,G,A,ar,aV,au,g4,⟨c0,_,⟨tE,W,b2⟩⟩⟩:=B.sc.get Y;refine g ?_;clear g;have a3:Bz (us.map V.ref) (Dv ns i:Int)=some (.ref u):=B3 (by rw[A3,ar];rfl);refine Or.inl ⟨_,.ref u,Ae.of B.sc.top,a3,Or.inr (Or.inl ⟨_,.ref A,Ar.of c0,rfl,Or.inl ⟨rfl,_,Ae.of W⟩,Or.inl ⟨_,.str (Ia ns i),Ae.of B.en,aG,Or.inl ⟨_,_,Ae.of B.el,e1,Or.inr (Or.inl ⟨_,_,Ar.of ea,rfl,Or.inl ⟨_,_,Ae.of B.el,e1,Or.inr (Or.inl ⟨_,_,Ar.of ea,rfl,XT,λt X=>?_⟩)⟩⟩)⟩⟩⟩)⟩;have c:=AR (o:=.tup [.str (C4 ns),.str (Ia ns i),.str (Bd ns (kM ns) i).1,.int (Bd ns (kM ns) i).2]) X
       have lE:(tE.map V.ref).length<=1:=by
        have:=U1.here;rw[g4] at this;rw[Al,b2.len,Br this];dsimp only;split;exact AE _;exact C7 _
       refine⟨_,c _ _ W,BH (by lia),ag _ _ ⟨_,rfl,(B.same c).tell (p:=(C4 ns,Ia ns i,(Bd ns (kM ns) i).1,(Bd ns (kM ns) i).2)) Y au (c _ _ W) (b2.same c) Aa,?_⟩⟩;unfold KY;rw[Aj d'];exact U1.more Y
     rintro σ' bo ⟨aS,rfl,M2,U2⟩;have lq:(Q.map V.ref).length=i:=(by rw[Al,M2.tq.len,Al,List.length_range]);refine⟨Or.inl ⟨rfl,_,Ae.of M2.er⟩,Or.inl ⟨_,.str (Ia ns i),Ae.of M2.en,aG,Ut,λu hu=>?_⟩⟩;obtain⟨bp,a4,c,eu⟩:=new_at (o:=.tup [.str (Ia ns i)]) hu;rw[<-a4];refine⟨GW,λt X=>?_⟩;have t2:=AR (o:=.tup [.int (Dv ns i),.int 0,.ref u]) X;have M3:=(M2.same c).same t2;refine⟨_,M3.er,by rw[lq];exact BH (by lia),?_⟩;refine⟨_,_,_,aS,Q++[t],rfl,?_,P.snoc E U2⟩;rw[show Em ns (i+1)=Em ns i++[((Dv ns i:Int),0,[Ia ns i])] by unfold Em;rw[List.range_succ,Bh];rfl];exact M3.ask (q:=((Dv ns i:Int),0,[Ia ns i])) Aa (t2 _ _ eu)
   refine λσ aa ay=>AO λNz g=>?_;obtain⟨u9,aw,ax,I,Q,rfl,M,P⟩:=ay;refine g ?_;clear g;rw[Bk] at M P
   refine⟨by decide,by decide,No (n:=(80:Int).toNat) (λD i v l=>∃ts:List Addr,v=ts.map V.ref/\Ac aa l/\l D=some (.lst v)/\GT l ts (List.replicate i (("plain" : Str),(0:Int))))
    (λD C=>⟨[],rfl,AR C,Aa,⟨rfl,λn t p h=>by simp at h⟩⟩) (λD i v aH RR C E H k=>?_) (λaf v aH hT H=>?_)⟩
   obtain⟨ts,rfl,az,eD,G⟩:=H;have lt:=G.len;rw[List.length_replicate] at lt;have bH:i<80:=E;refine⟨B4,λp hp=>?_⟩;have c:=AR (o:=.tup [.str "plain",.int 0]) hp;refine k _ _ (c _ _ eD) (by rw[Al,lt];exact BH (by lia)) ⟨ts++[p],by rw[Bh];rfl,λai o e=>?_,Aa,?_⟩;rw[AC (A1 e C)];exact c _ _ (az ai o e);rw[List.replicate_succ'];exact((G.same c).snoc Aa).keeps (Keeps.one (c _ _ eD));obtain⟨gt,rfl,az,eT,bq⟩:=H;have B:=M.same az;refine⟨GW,λnt br=>?_⟩;obtain⟨bo,b1,bs,bt⟩:=new_at (o:=.tup [.ref S,.ref af,.ref R]) br;rw[<-b1];refine⟨by decide,λG O=>?_⟩;obtain⟨bp,a4,bu,Z⟩:=new_at (o:=.lst []) O;rw[<-a4];refine⟨Ut,λA J=>?_⟩;obtain⟨bI,b3,aI,eE⟩:=new_at (o:=.lst [.str (C4 ns)]) J;rw[<-b3];refine⟨B4,λu hu=>?_⟩;obtain⟨bv,b4,a0,eu⟩:=new_at (o:=.tup [.ref G,.ref A]) hu;rw[<-b4];refine⟨Ut,λae hA=>?_⟩;obtain⟨bJ,b5,bw,eA⟩:=new_at (o:=.lst [.ref u]) hA;rw[<-b5];refine⟨by decide,λa5 hO=>?_⟩;obtain⟨bK,b6,bx,eO⟩:=new_at (o:=.lst []) hO;rw[<-b6];refine⟨GW,λt X=>?_⟩;obtain⟨bL,b7,bz,et⟩:=new_at (o:=.tup [.ref ae,.int 0,.ref a5]) X;rw[<-b7];refine⟨GW,λaT hr=>?_⟩;obtain⟨aJ,b8,aK,er⟩:=new_at (o:=.tup [.ref nt,.ref t,.ref L]) hr;rw[<-b8];have aL:=bz.trans aK;have aM:=bx.trans aL;have aN:=bw.trans aM;have aO:=a0.trans aN;have a1:=aI.trans aO;have aP:=bu.trans a1;have a2:=bs.trans aP;have M9:=B.same a2;have nA:∀{x:Addr}{o:HO},bv x=some o->x≠ae:=λe=>A1 e hA;have SR:A8 K (λζ=>True) aJ ae [u] [([],[C4 ns])]:=A8.snoc (us:=[]) (rs:=[]) A8.nil (aN _ _ eu) ⟨[],Ae.of (a1 _ _ Z),.nil⟩ (a1 _ _ Z) (aO _ _ eE) (nA ((aI.trans a0) _ _ Z)) (nA (a0 _ _ eE)) True.intro True.intro;exact q aT nt t L S af R us m r gt Q s I aJ M9.s0 er (aP _ _ bt) ⟨M9.sc,a2 _ _ eT,bq.same a2,M9.er,M9.tq⟩ P ⟨ae,a5,[u],[],aK _ _ et,True.intro,True.intro,A1 eA hO,aM _ _ eA,SR,aL _ _ eO,Ff.nil⟩ M9.el M9.tl
variable {ls:List (Str×Int)}
def J2{f t:Nat}{p:Str×Int}(h:ls[i]?=some p)(b:p.1=("by" : Str)):Bc ls (f+1) i t=Bc ls f p.2.toNat (t+1):=by
 rw[Bc,h];exact Ak b
def J3{f t:Nat}{p:Str×Int}(h:ls[i]?=some p)(b:p.1≠("by" : Str)):Bc ls (f+1) i t=(some p,(t:Int)):=by
 rw[Bc,h];exact Aj b
inductive En (K:Ah) (vs:List V) (H:Hp) (Q:VK):Prop where
 |mk (L:Addr) (ts:List Addr) (ls:List (Str×Int)) (i:Nat) (h0:vs=[.ref L,.int i]) (h1:H L=some (.lst (ts.map V.ref))) (h2:RT KJ H ts ls) (h3:i<ls.length) (h4:ls.length<=40) (h5:(∀p∈ls,p.1=("by" : Str)->0<=p.2/\p.2.toNat<ls.length)) (h6:∀(t:Addr)(v:V)(H':Hp),H t=none->Ac H H'->H' t=some (.tup [v,.int (Bc ls ls.length i 1).2])->A5 Gc H' v (BG (Bc ls ls.length i 1).1)->Q (.ref t) H'):En K vs H Q
def gH (K:Ah):Sp:=λvs H Q ζ=>En K vs H Q
abbrev QX(P w K mg base):=BI P w K mg base "_law_due" 1 ["_law_links", "_law_i"] (gH K)
theorem gI(B:BK mg)(F:BA K "_law_due" "_law_due" Rm f fd)(C:mg "_law_due" = some (.ref f)):QX P w K mg base:=by
 refine Ca F C QO (λD H Q E h=>?_) (λR A W s H D Q E a h=>?_);obtain⟨L,b,ls,i,rfl,_⟩:=h;rfl;obtain⟨L,b,ls,i,rfl,j,x,G,S,hb,q⟩:=h;have N:=x.len
 refine⟨_,(Ap (AX (i:=2) QO.nd (pv 1))
  (Ap (Do CK rfl (Yg rfl B.b_range (Ab Aq (Ab (A2 F8 (CM Gi B.b_len (Ab (pv 0) Af)) Aq) Af))) (Ay (i:=3) QO.nd) (Ap (Bv (B2 Lq (Av Aw (Av Aw (pv 0) (pv 2)) Aq) BN (BW _)) (AA (AQ (Bn (Ab (Av Aw (pv 0) (pv 2)) (Ab (pv 3) Af))))) Bx)
   (AA (AX (i:=2) QO.nd (Av Aw (Av Aw (pv 0) (pv 2)) Aq)))))
  (AA (AQ (Bn (Ab F4 (Ab Aq Af))))))),?_⟩
 rfl';have U:((b.map V.ref).length:Nat)=ls.length:=(by rw[Al,N]);refine⟨_,Or.inl ⟨_,Ae.of j,rfl⟩,1,_,rfl,⟨by decide,by decide,by lia,by lia⟩,?_⟩;refine N9 (lo:=1) (n:=(((b.map V.ref).length:Nat):Int)+1-1 |>.toNat) (λt σ l=>∃(m:Option V)(h:Nat),σ=[some (.ref L),some (.int i),some (.int h),m]/\l=H/\h<ls.length/\Bc ls (ls.length-t) h (t+1)=Bc ls ls.length i 1) ⟨none,i,rfl,rfl,G,rfl⟩ ?_ ?_;refine λt σ l O v=>AO λI d=>?_;obtain⟨m,h,rfl,rfl,y,hd⟩:=v;refine d ?_;clear d;have T:t<ls.length:=(by lia);have c:=AD y;generalize ls[h]=p at c;have eta:=AD (show h<b.length by lia);generalize b[h]'(by lia)=k at eta;have o:=x.at_ h _ _ eta c;have u:Bz (b.map V.ref) ((h:Nat):Int)=some (.ref k):=B3 (by rw[A3,eta];rfl);rw[show ls.length-t=ls.length-t-1+1 by lia] at hd;refine Or.inl ⟨_,_,Ae.of j,u,Or.inr (Or.inl ⟨_,_,Ar.of o,rfl,rfl,rfl,?_⟩)⟩;by_cases g:p.1=("by" : Str);rw[g];refine Bb ?_;obtain⟨J,M⟩:=hb p (A6 c) g;refine Or.inl ⟨_,_,Ae.of j,u,Or.inr (Or.inl ⟨_,_,Ar.of o,rfl,?_⟩)⟩;refine⟨some (.int (1+(t:Int))),p.2.toNat,?_,rfl,M,?_⟩;rw[Int.toNat_of_nonneg J];rfl;rw[J2 c g] at hd;rw[<-hd,show ls.length-(t+1)=ls.length-t-1 by lia];rw[J3 c g] at hd;rw[Dw (λe=>g (V.str.inj e))];refine BY ?_;refine Or.inl ⟨_,_,Ae.of j,u,B4,λr a=>q r (.ref k) _ a (AR a) ?_ ?_⟩;rw[Aa,<-hd];show some (HO.tup [.ref k,.int (1+(t:Int))])=some (HO.tup [.ref k,.int ((t+1:Nat):Int)]);rw[show(1+(t:Int))=((t+1:Nat):Int) by lia];rw[<-hd];exact .tup (AR a _ _ o) (.cons (.str _) (.cons (.int _) .nil));refine λσ l v=>AO λI d=>?_;obtain⟨m,h,rfl,rfl,y,hd⟩:=v;refine d ?_;clear d;rw[show ls.length-((((b.map V.ref).length:Nat):Int)+1-1).toNat=0 by lia] at hd;have z:(none,0)=Bc ls ls.length i 1:=hd;refine⟨B4,λr a=>q r .non _ a (AR a) ?_ ?_⟩;rw[Aa,<-z];rw[<-z];exact .non
inductive Df (K:Ah) (vs:List V) (H:Hp) (Q:VK):Prop where
 |mk (t a o:Addr) (inn:V) (ss:List D9) (n:Int) (k:Nat) (s:D9) (x:Str) (h0:vs=[.ref t,.int n,.str x]) (h1:n=k) (h2:Ar K H t [.ref a,inn,.ref o]) (h3:Hq K H a ss) (h4:ss[k]?=some s) (h5:Q (DX (Ea s.1 x)) H):Df K vs H Q
def gJ (K:Ah):Sp:=λvs H Q ζ=>Df K vs H Q
abbrev QY(P w K mg base):=BI P w K mg base "next_state" 1 ["table", "state", "label"] (gJ K)
theorem gK(B:BK mg)(F:BA K "next_state" "next_state" Rn f fd)(C:mg "next_state" = some (.ref f)):QY P w K mg base:=by
 refine Ca F C QP (λl H Q E h=>?_) (λaf aa ag s H l Q E hr h=>?_);obtain⟨t,a,o,U,D,n,k,s,x,rfl,_⟩:=h;rfl;obtain⟨t,a,o,U,D,n,k,s,x,rfl,rfl,G,⟨l,I,J⟩,L,q⟩:=h;obtain⟨ab,M,W⟩:=J.get' (i:=k) (d:=Kt s) (by rw[A3,L];rfl);obtain⟨N,g,e,rfl,X,⟨O,u,A⟩,he⟩:=FF W;have Y:=A.len_map
 refine⟨_,(Ap (AX (i:=3) QP.nd (Av Aw (Av Aw (Av Aw (pv 0) Aq) (pv 1)) Aq))
  (Ap (Do CK rfl (Dm (pv 3)) (Ck (n:=2) rfl (AF (Ay (i:=4) QP.nd) (AF (Ay (i:=5) QP.nd) Cj))) (AA (Bv (B2 Dq (pv 4) (pv 2) (BW _)) (AA (AQ (pv 5))) Bx)))
  (AA (AQ F4)))),?_⟩
 rfl';refine Or.inr (Or.inl ⟨_,.ref a,G,rfl,?_⟩);refine Or.inl ⟨l,.ref N,I,B3 M,?_⟩;refine Or.inr (Or.inl ⟨_,.ref g,X,rfl,?_⟩);refine⟨⟨_,u⟩,FA (xs:=O) (λi σ v=>∃m r,σ=[some (.ref t),some (.int k),some (.str x),some (.ref g),m,r]/\v=H/\∀q∈s.1.take i,q.1≠x) ⟨none,none,rfl,rfl,λq b=>by simp at b⟩ (λi σ v ζ Z=>by obtain⟨_,_,_,e,_⟩:=Z;exact by rw[e];exact u) ?_ ?_⟩;rintro i ae σ R S ⟨m,r,rfl,rfl,j⟩;obtain⟨p,t',y,rfl,T⟩:=A.goes_get S;refine⟨_,T,rfl,?_⟩;refine⟨rfl,rfl,?_⟩;refine As (λc=>?_) (λc=>?_);have c:p.1=x:=V.str.inj (BM c);rw[Hx y c j] at q;exact q;have c:p.1≠x:=λz=>c (By (by rw[z]));refine⟨_,_,rfl,rfl,λq b=>?_⟩;rw[EG,y] at b;rcases BL.mp b with b|b;exact j q b;rw[AW.mp b];exact c;rintro σ R ⟨m,r,rfl,rfl,j⟩;rw[Y,Ev] at j;rw[V6 j] at q;exact q
inductive Cd (K:Ah) (vs:List V) (H:Hp) (Q:VK):Prop where
 |mk (t S T R A:Addr) (ths:List (Str×Int)) (as:List (C')) (n:Int) (k:Nat) (h0:vs=[.ref t,.ref A,.int n]) (h1:n=k) (h2:k<as.length) (h3:Ar K H t [.ref S,.ref T,.ref R]) (h4:Ei K H T ths) (h5:GX K H A as) (h6:EI ths as) (h7:∀(r:Addr)(H':Hp),H r=none->Ac H H'->H' r=some (.tup [.str (DI ths as n).1,.int (DI ths as n).2])->Q (.ref r) H'):Cd K vs H Q
def gL (K:Ah):Sp:=λvs H Q ζ=>Cd K vs H Q
abbrev Uu(P w K mg base):=BI P w K mg base "inside_of_sort" 1 ["net", "answers", "question"] (gL K)
def gM(B:BK mg)(F:BA K "inside_of_sort" "inside_of_sort" Ro f fd)(c:mg "inside_of_sort" = some (.ref f)):Uu P w K mg base:=by
 refine Ca F c QQ (λg H Q E h=>?_) (λaa A ab s H g Q E a h=>?_);obtain⟨t,S,T,R,A,e,x,n,k,rfl,_⟩:=h;rfl;obtain⟨t,S,T,R,A,e,x,n,k,rfl,rfl,y,C,D,G,ok,q⟩:=h;obtain⟨g,v,N,I,L⟩:=G.get y
 refine⟨_,(Ap (AX (i:=3) QQ.nd (Av Aw (pv 1) (pv 2)))
  (Ap (Bv (Fo (F5 (pv 3))) (AA (AQ (Bn (Ab BN (Ab (pv 2) Af))))) Bx)
  (Ap (Bv (B2 Dq (Av Aw (pv 3) Aq) BN (BW _)) (Ap (DE (Av Aw (Av Aw (pv 0) Aq) (Av Aw (pv 3) Aq)) (Ck (n:=2) rfl (AF (Ay (i:=4) QQ.nd) (AF (Ay (i:=5) QQ.nd) Cj))))
   (AA (Bv (B2 Dq (pv 4) BN (BW _)) (AA (AQ (Bn (Ab BN (Ab (pv 5) Af))))) Bx))) Bx)
  (AA (AQ (Bn (Ab BN (Ab Aq Af)))))))),?_⟩
 rfl';refine Or.inl ⟨g,v,N,B3 I,?_⟩;rcases L with⟨b,rfl⟩|⟨p,Z,b,rfl,u⟩;refine⟨rfl,As (λζ=>?_) (λh=>absurd (By rfl) h)⟩;refine⟨B4,λr a=>?_⟩;rw[YX b] at q;exact q r _ a (AR a) Aa;refine⟨rfl,As (λh=>absurd (BM h) (by simp)) (λζ=>?_)⟩;refine Or.inr (Or.inl ⟨_,.str p.1,u,rfl,rfl,rfl,As (λh=>?_) (λh=>?_)⟩);have d:p.1=("thing" : Str):=V.str.inj (BM h);obtain⟨M,p1⟩:=ok.t p (A6 b) d;obtain⟨m,c⟩:=DU M;have O:m<e.length:=(by lia);have j:=AD O;obtain⟨J,o,U,W,X⟩:=D.get j;have Y:Bz J p.2=some (.ref o):=by rw[c];exact B3 W
 refine Or.inr (Or.inl ⟨_,.ref T,C,rfl,Or.inr (Or.inl ⟨_,.int p.2,u,rfl,Or.inl ⟨J,.ref o,U,Y,?_⟩⟩)⟩);refine⟨_,X,rfl,?_⟩;refine⟨rfl,rfl,As (λh=>?_) (λh=>?_)⟩;have l:e[m].1=("part" : Str):=V.str.inj (BM h);refine⟨B4,λr a=>?_⟩;rw[YZ b d c j l] at q;exact q r _ a (AR a) Aa;have l:e[m].1≠("part" : Str):=λz=>h (By (by rw[z]));refine⟨B4,λr a=>?_⟩;rw[Y0 b d c j l] at q;exact q r _ a (AR a) Aa;have d:p.1≠("thing" : Str):=λz=>h (By (by rw[z]));refine⟨B4,λr a=>?_⟩;rw[YY b d] at q;exact q r _ a (AR a) Aa
inductive FL (K:Ah) (vs:List V) (H:Hp) (Q:VK):Prop where
 |mk (t S T R A:Addr) (ths:List (Str×Int)) (as:List (C')) (n:Int) (k:Nat) (p:Str×Int) (h0:vs=[.ref t,.ref A,.int n]) (h1:n=k) (h2:ths[k]?=some p) (h3:Ar K H t [.ref S,.ref T,.ref R]) (h4:Ei K H T ths) (h5:GX K H A as) (h6:EI ths as) (h7:∀(r:Addr)(H':Hp),H r=none->Ac H H'->H' r=some (.tup [.str (C0 ths as p).1,.int (C0 ths as p).2])->Q (.ref r) H'):FL K vs H Q
def gN (K:Ah):Sp:=λvs H Q ζ=>FL K vs H Q
abbrev QZ(P w K mg base):=BI P w K mg base "inside" 2 ["net", "answers", "thing"] (gN K)
def gO(B:BK mg)(C:Uu P w K mg base)(F:BA K "inside" "inside" Rp f fd)(g:mg "inside" = some (.ref f)):QZ P w K mg base:=by
 refine Ca F g Uj (λu H Q E h=>?_) (λM A N s H u Q E a h=>?_);obtain⟨t,S,T,R,A,c,b,n,k,p,rfl,_⟩:=h;rfl;obtain⟨t,S,T,R,A,c,b,n,k,p,rfl,rfl,j,l,o,v,ok,q⟩:=h;obtain⟨J,x,D,G,I⟩:=o.get j
 refine⟨_,(Ap (DE (Av Aw (Av Aw (pv 0) Aq) (pv 2)) (Ck (n:=2) rfl (AF (Ay (i:=3) Uj.nd) (AF (Ay (i:=4) Uj.nd) Cj))))
  (Ap (Bv (B2 Dq (pv 3) BN (BW _)) (AA (AQ (Bn (Ab BN (Ab (pv 4) Af))))) Bx)
  (Ap (Bv (B2 Dq (pv 3) BN (BW _)) (AA (AQ (A7 C (Ab (pv 0) (Ab (pv 1) (Ab (pv 4) Af)))))) Bx)
  (AA (AQ (Bn (Ab BN (Ab Aq Af)))))))),?_⟩
 rfl';refine Or.inr (Or.inl ⟨_,.ref T,l,rfl,Or.inl ⟨J,.ref x,D,B3 G,?_⟩⟩);refine⟨_,I,rfl,?_⟩;refine⟨rfl,rfl,As (λh=>?_) (λh=>?_)⟩;have d:p.1=("part" : Str):=V.str.inj (BM h);refine⟨B4,λr a=>?_⟩
 rw[show C0 c b p=(("to" : Str),p.2) from Ak d] at q
 exact q r _ a (AR a) Aa;have d:p.1≠("part" : Str):=λz=>h (By (by rw[z]));refine⟨rfl,rfl,As (λh=>?_) (λh=>?_)⟩;have e:p.1=("sort" : Str):=V.str.inj (BM h)
 obtain⟨y,L⟩:=ok.q p (A6 j) e;obtain⟨m,g⟩:=DU y;rw[show C0 c b p=DI c b p.2 from(Aj d).trans (Ak e)] at q;exact⟨t,S,T,R,A,c,b,p.2,m,rfl,g,by lia,l,o,v,ok,q⟩
 have e:p.1≠("sort" : Str):=λz=>h (By (by rw[z]));refine⟨B4,λr a=>?_⟩
 rw[show C0 c b p=(("no" : Str),0) from(Aj d).trans (Aj e)] at q
 exact q r _ a (AR a) Aa
inductive Ib (K:Ah) (vs:List V) (H:Hp) (Q:VK):Prop where
 |mk (t S T R A st:Addr) (ths:List (Str×Int)) (as:List (C')) (p:Ch) (h0:vs=[.ref t,.ref A,.ref st]) (h1:Ar K H t [.ref S,.ref T,.ref R]) (h2:Ei K H T ths) (h3:GX K H A as) (h4:EI ths as) (h5:Ar K H st (LV p)) (h6:(p.2.1≠("to" : Str)->0<=p.2.2/\p.2.2<as.length)) (h7:∀(r:Addr)(H':Hp),H r=none->Ac H H'->H' r=some (.tup [.str (BE ths as p).1,.int (BE ths as p).2])->Q (.ref r) H'):Ib K vs H Q
def J4 (K:Ah):Sp:=λvs H Q ζ=>Ib K vs H Q
abbrev Uv(P w K mg base):=BI P w K mg base "goal" 3 ["net", "answers", "step"] (J4 K)
def gP(B:BK mg)(U:QZ P w K mg base)(F:BA K "goal" "goal" Rq f fd)(e:mg "goal" = some (.ref f)):Uv P w K mg base:=by
 refine Ca F e Pj (λg H Q E h=>?_) (λaa A ab s H g Q E a h=>?_);obtain⟨t,S,T,R,A,D,o,u,p,rfl,_⟩:=h;rfl;obtain⟨t,S,T,R,A,D,o,u,p,rfl,G,I,x,ok,W,J,q⟩:=h
 refine⟨_,(Ap (DE (pv 2) (Ck (n:=3) rfl (AF (Ay (i:=3) Pj.nd) (AF (Ay (i:=4) Pj.nd) (AF (Ay (i:=5) Pj.nd) Cj)))))
  (Ap (Bv (B2 Dq (pv 4) BN (BW _)) (AA (AQ (Bn (Ab BN (Ab (pv 5) Af))))) Bx)
  (Ap (AX (i:=6) Pj.nd (Av Aw (pv 1) (pv 5)))
  (Ap (Bv (Fo (F5 (pv 6))) (AA (AQ (Bn (Ab BN (Ab (pv 5) Af))))) Bx)
  (Ap (Bv (B2 Dq (Av Aw (pv 6) Aq) BN (BW _)) (AA (AQ (A7 U (Ab (pv 0) (Ab (pv 1) (Ab (Av Aw (pv 6) Aq) Af)))))) Bx)
  (AA (AQ (Bn (Ab BN (Ab Aq Af)))))))))),?_⟩
 rfl';refine⟨_,W,rfl,?_⟩;refine⟨rfl,rfl,As (λh=>?_) (λh=>?_)⟩;have b:p.2.1=("to" : Str):=V.str.inj (BM h);refine⟨B4,λr a=>?_⟩;rw[Y2 b] at q;exact q r _ a (AR a) Aa;have b:p.2.1≠("to" : Str):=λz=>h (By (by rw[z]));obtain⟨L,Z⟩:=J b;obtain⟨n,j⟩:=DU L;obtain⟨g,v,X,M,N⟩:=x.get (k:=n) (by lia);have Y:Bz g p.2.2=some v:=by rw[j];exact B3 M
 refine Or.inl ⟨g,v,X,Y,?_⟩;rcases N with⟨d,rfl⟩|⟨c,ta,d,rfl,y⟩;refine⟨rfl,As (λζ=>?_) (λh=>absurd (By rfl) h)⟩;refine⟨B4,λr a=>?_⟩;rw[Y3 b j d] at q;exact q r _ a (AR a) Aa;refine⟨rfl,As (λh=>absurd (BM h) (by simp)) (λζ=>?_)⟩;refine Or.inr (Or.inl ⟨_,.str c.1,y,rfl,rfl,rfl,As (λh=>?_) (λh=>?_)⟩);have l:c.1=("thing" : Str):=V.str.inj (BM h);obtain⟨O,q1⟩:=ok.t c (A6 d) l;obtain⟨m,e⟩:=DU O;have C:=AD (show m<o.length by lia);rw[Y5 b j d l e C] at q;exact Or.inr (Or.inl ⟨_,.int c.2,y,rfl,t,S,T,R,A,o,u,c.2,m,_,rfl,e,C,G,I,x,ok,q⟩);have l:c.1≠("thing" : Str):=λz=>h (By (by rw[z]));refine⟨B4,λr a=>?_⟩;rw[Y4 b j d l] at q;exact q r _ a (AR a) Aa
def J5:([]:List V).length+1+1+1+1<=sizeLine:=by decide
variable {W:Wd}{s:D9}
def gQ{k:Nat}(h:W.sts[k]?=some s):DJ W (k:Int)=s.1:=by unfold DJ;rw[Bk,h]
def gR{k:Nat}{s:Bp}(h:W.ss[k]?=some s):BO W (k:Int)=s.1:=by unfold BO;rw[Bk,h]
def gS{b:Int}{go:List (Str×Int)}{p:Ch}{a:Int}(h:Ea go p.1=some a):EK W b go p i=[((b,("step" : Str),(i:Int)),BE W.gs W.as p,a)]:=by unfold EK;rw[h]
def gT{a:Int}{go:List (Str×Int)}{p:Ch}(h:Ea go p.1=none):EK W a go p i=[]:=by unfold EK;rw[h]
inductive Dg (K:Ah) (vs:List V) (H:Hp) (Q:VK):Prop where
 |mk (nt A t:Addr) (W:Wd) (sc st:Int) (h0:vs=[.ref nt,.ref A,.ref t,.int sc,.int st]) (h1:Bq K H nt A t W) (h2:BP W) (h3:(0<=sc/\sc<W.ss.length)) (h4:(0<=st/\st<W.sts.length)) (h5:∀(D:Addr)(zs:List (Addr×Gn))(H':Hp),H D=none->Ac H H'->H' D=some (.lst (zs.map λz=>V.ref z.1))->(∀z∈zs,Kx H' z.1 z.2)->zs.map (·.2)=FV W sc st->Q (.ref D) H'):Dg K vs H Q
def gU (K:Ah):Sp:=λvs H Q ζ=>Dg K vs H Q
abbrev Q0(P w K mg base):=BI P w K mg base "steps_gone" 4 ["net", "answers", "table", "scope", "state"] (gU K)
def gW(aj:BK mg)(az:QY P w K mg base)(a0:Uv P w K mg base)(F:BA K "steps_gone" "steps_gone" Rr f fd)(c:mg "steps_gone" = some (.ref f)):Q0 P w K mg base:=by
 refine Ca F c My (λvs H ak al h=>?_) (λaN A aP s H vs ak al hr h=>?_);obtain⟨B,A,t,W,sc,aw,rfl,_⟩:=h;rfl
 . obtain⟨B,A,t,W,sc,aw,rfl,C,ok,a1,a2,an⟩:=h
   obtain⟨S,ao,aq,us,Gs,Es,ts,qt,qs,eN,x⟩:=C.net;obtain⟨ar,o,a3,b1,au,b2,b3⟩:=C.tab;obtain⟨n,hn⟩:=DU a1.1;obtain⟨k,hk⟩:=DU a2.1;subst hn hk;have T:n<W.ss.length:=(by lia);have a4:k<W.sts.length:=(by lia);obtain⟨u,aa,E1,ax,aL,aM,g4,⟨c0,⟨tG,c1,E⟩,_⟩⟩:=x.sc.get T;have ab:=AD a4;have j:=gR g4;have eG:=gQ ab;have a5:Bz (us.map V.ref) (n:Int)=some (.ref u):=B3 (by rw[A3,ax];rfl);have aO:=ok.st _ (Ec T)
   refine⟨_,(Ap (AX (i:=5) My.nd (Cg Af))
    (Ap (Do CK rfl (NB LK rfl aj.b_enumerate (Ab (Av Aw (Av Aw (Av Aw (pv 0) Aq) (pv 3)) Aq) Af)) (Ck (n:=2) rfl (AF (Ay (i:=6) My.nd) (AF (Ay (i:=7) My.nd) Cj))) (Ap (AX (i:=8) My.nd (A7 az (Ab (pv 2) (Ab (pv 4) (Ab (Av Aw (pv 7) Aq) Af)))))
     (AA (Bv (Fo (Nb (pv 8))) (Ap (DE (A7 a0 (Ab (pv 0) (Ab (pv 1) (Ab (pv 7) Af)))) (Ck (n:=2) rfl (AF (Ay (i:=9) My.nd) (AF (Ay (i:=10) My.nd) Cj))))
      (AA (DD (DG Dx Fu Fv FD (pv 5) (Ab (Bn (Ab (Bn (Ab (pv 3) (Ab BN (Ab (pv 6) Af)))) (Ab (pv 9) (Ab (pv 10) (Ab (pv 8) Af))))) Af))))) Bx))))
    (AA (AQ (pv 5))))),?_⟩
   rfl';refine⟨by decide,λD G=>?_⟩;obtain⟨aH,a6,l,a7⟩:=new_at (o:=.lst []) G;rw[<-a6];refine Or.inr (Or.inl ⟨_,.ref S,Ar.of (l _ _ eN),rfl,Or.inl ⟨_,.ref u,Ae.of (l _ _ x.sc.top),a5,Or.inr (Or.inl ⟨_,.ref aa,Ar.of (l _ _ c0),rfl,aa,rfl,⟨_,l _ _ c1⟩,?_⟩)⟩⟩)
   refine Qv LK (xs:=tG.map V.ref) (λi σ y=>∃I J L M U b,σ=[some (.ref B),some (.ref A),some (.ref t),some (.int n),some (.int k),some (.ref D),I,J,L,M,U]/\Ac H y/\y D=some (.lst (b.map λz:Addr×Gn=>V.ref z.1))/\(∀z∈b,Kx y z.1 z.2)/\b.map (·.2)=Eb W n (DJ W k) ((BO W n).take i) 0)
    ⟨none,none,none,none,none,[],rfl,l,a7,λz d=>by simp at d,by rw[Ee];rfl⟩ (λi σ y a8=>by obtain⟨_,_,_,_,_,_,_,s,_⟩:=a8;exact Ae.of (s _ _ c1)) ?_ ?_
   rotate_left;refine λσ H2 X=>AO λNz r=>?_;obtain⟨I,J,L,M,U,b,rfl,N,v,d,c⟩:=X;refine r ?_;clear r;refine an D b H2 G N v d ?_;rw[c,Al,E.len,j,Ev];unfold FV;rw[j];refine λi aI T' σ H2 hx a9 X=>AO λNz r=>?_;obtain⟨I,J,L,M,U,b,rfl,N,v,d,c⟩:=X;refine r ?_;clear r;obtain⟨O,ae,rfl⟩:=getm hx;have ag:i<W.ss[n].1.length:=by rw[<-E.len];exact(AN.mp ae).1
   have Q:=AD ag;have Y:=E.at_ i O _ ae Q;have mp:=Ec ag;generalize W.ss[n].1[i]=p at Q Y mp;obtain⟨H3,aA,g,aB⟩:=new_at (o:=.tup [.int i,.ref O]) a9;rw[<-aA];have a:=N.trans g
   have ah:Eb W n (DJ W k) ((BO W n).take (i+1)) 0=Eb W n (DJ W k) ((BO W n).take i) 0++EK W n (DJ W k) p i:=by
    rw[EG,j,Q];show Eb W n (DJ W k) (W.ss[n].1.take i++[p]) 0=_;rw[V8,Fn,Nat.zero_add,Nat.min_eq_left (by lia)]
   refine⟨_,Ar.of aB,rfl,?_⟩;refine Or.inr (Or.inl ⟨_,.str p.1,Ar.of (a _ _ Y),rfl,t,ar,o,a3,W.sts,k,k,_,p.1,rfl,rfl,a.seqT b1,⟨au,a.seq b2,b3.same a⟩,ab,?_⟩);rw[<-eG]
   cases eg:Ea (DJ W k) p.1 with
   |none =>
     refine⟨rfl,As (λh=>absurd h (by simp[DX])) (λζ=>?_)⟩;refine⟨_,_,_,_,_,b,rfl,a,g _ _ v,λz h=>(d z h).same g,?_⟩;rw[ah,gT eg,FN,c]
   |some af =>
     refine⟨rfl,As (λζ=>?_) (λh=>absurd (by simp[DX]) h)⟩;refine⟨B,S,ao,aq,A,O,W.gs,W.as,p,rfl,Ar.of (a _ _ eN),⟨_,Ae.of (a _ _ x.et),(x.tg.same a).dts⟩,C.ans.same a,ok.net,Ar.of (a _ _ Y),λe=>ok.by_ (Ec T) mp e,λaJ H4 hr s4 er=>?_⟩;refine⟨_,Ar.of er,rfl,?_⟩;have aC:=s4 _ _ (g _ _ v);refine⟨Or.inl ⟨rfl,_,Ae.of aC⟩,GW,λm aD=>?_⟩;obtain⟨H5,aE,s5,ay⟩:=new_at (o:=.tup [.int n,.str "step",.int i]) aD;rw[<-aE];refine⟨J5,λz aF=>?_⟩;obtain⟨H6,aG,s6,ez⟩:=new_at (o:=.tup [.ref m,.str (BE W.gs W.as p).1,.int (BE W.gs W.as p).2,DX (some af)]) aF;rw[<-aG];have Z:=(s4.trans s5).trans s6;have ai:=Z _ _ (g _ _ v);have R:Keeps (·=D) H6 (upd H6 D (.lst (b.map (λz=>V.ref z.1)++[.ref z]))):=Keeps.one ai
     have lz:b.length<=8:=by
      have e1:=Bw List.length c;have e2:=Nr W n (DJ W k) ((BO W n).take i) 0;rw[Fn,j] at e2;rw[Al] at e1;rw[j] at e1;lia
     refine⟨_,ai,by rw[Al];exact BH (by lia),?_⟩;refine⟨_,_,_,_,_,b++[(z,(((n:Int),("step" : Str),(i:Int)),BE W.gs W.as p,af))],rfl,λaK o e=>?_,by rw[Aa,Bh];rfl,λav q=>?_,?_⟩;rw[AC (A1 e G)];exact Z _ _ (a _ _ e);rcases BL.mp q with q|q;exact((d av q).same (g.trans Z)).keeps R;rw[AW.mp q];exact⟨m,R.tup ez,R.tup (s6 _ _ ay)⟩;rw[ah,gS eg,Bh,c];rfl
variable {b:AK}
def gX{r:Gn}(a:r.2.1.1=("to" : Str))(c:r.2.1.2∉AY b):kid b r=some (b.1++[r.1],r.2.1.2,r.2.2):=Ak ⟨a,c⟩
def gY{r:Gn}(h:¬(r.2.1.1=("to" : Str)/\r.2.1.2∉AY b)):kid b r=none:=Aj h
def J6{α β:Type}(f:α->Option β)(l:List α)(x:α):(l++[x]).filterMap f=l.filterMap f++(f x).toList:=by
 rw[List.filterMap_append];cases e:f x<;>simp[e]
def gZ(b:AK):(AY b).length=b.1.length+1:=by unfold AY;simp
inductive BU (K:Ah) (vs:List V) (H:Hp) (Q:VK):Prop where
 |mk (nt A t bt:Addr) (W:Wd) (b:AK) (h0:vs=[.ref nt,.ref A,.ref t,.ref bt]) (h1:Bq K H nt A t W) (h2:BP W) (h3:Db W b) (h4:(∃F,Dr F H bt b)) (h5:∀(D:Addr)(zs:List (Addr×AK))(H':Hp),H D=none->Ac H H'->H' D=some (.lst (zs.map λz=>V.ref z.1))->(∀z∈zs,Dr (λl=>H l=none/\l≠D) H' z.1 z.2)->zs.map (·.2)=CG W b->Q (.ref D) H'):BU K vs H Q
def g0 (K:Ah):Sp:=λvs H Q ζ=>BU K vs H Q
abbrev Uw(P w K mg base):=BI P w K mg base "longer_by_a_step" 5 ["net", "answers", "table", "beginning"] (g0 K)
def g6(B:BK mg)(a2:Q0 P w K mg base)(F:BA K "longer_by_a_step" "longer_by_a_step" PP f fd)(d:mg "longer_by_a_step" = some (.ref f)):Uw P w K mg base:=by
 refine Ca F d Iz (λvs H ax ay h=>?_) (λaK A aO s H vs ax ay hr h=>?_);obtain⟨nt,A,t,bt,W,b,rfl,_⟩:=h;rfl
 . obtain⟨nt,A,t,bt,W,b,rfl,hC,ok,hb,⟨F,l,g,E,q,j,_⟩,az⟩:=h
   have aL:g.length<=100:=by
    have:=Jh W.ss.length (AY b) hb.nd hb.rng;rw[gZ] at this;have:=ok.s5;rw[j.len];lia
   have a3:=hb.rng b.2.1 (by unfold AY;simp)
   refine⟨_,(Ap (DE (pv 3) (Ck (n:=3) rfl (AF (Ay (i:=4) Iz.nd) (AF (Ay (i:=5) Iz.nd) (AF (Ay (i:=6) Iz.nd) Cj)))))
    (Ap (AX (i:=7) Iz.nd (A2 Nf (GC (te:=DW (FR K) (Bs 0) (tC (.int ((0:Nat):Int)))) rfl BC (Dm (pv 4)) (λζ ζ ζ ζ ζ=>(Ay (i:=0) BC.nd)) (λζ ζ ζ ζ ζ=>F9) (λζ ζ ζ ζ ζ=>(Av Aw (pv 0) Aq))) (Cg (Ab (pv 5) Af))))
    (Ap (AX (i:=8) Iz.nd (Cg Af))
    (Ap (Do CK rfl (Dm (A7 a2 (Ab (pv 0) (Ab (pv 1) (Ab (pv 2) (Ab (pv 5) (Ab (pv 6) Af))))))) (Ck (n:=4) rfl (AF (Ay (i:=9) Iz.nd) (AF (Ay (i:=10) Iz.nd) (AF (Ay (i:=11) Iz.nd) (AF (Ay (i:=12) Iz.nd) Cj))))) (AA (Bv (PW.pt (IH (B2 Dq (pv 10) BN (BW _)) (IG (B2 (VM hr.units) (pv 11) (pv 7) (by with_unfolding_all rfl))))) (AA (DD (DG Dx Fu Fv FD (pv 8) (Ab (Bn (Ab (A2 Nf (pv 4) (Cg (Ab (pv 9) Af))) (Ab (pv 11) (Ab (pv 12) Af)))) Af)))) Bx)))
    (AA (AQ (pv 8))))))),?_⟩
   rfl';refine⟨_,Ar.of E,rfl,?_⟩
   refine⟨⟨_,Ae.of q⟩,OF (xs:=g.map V.ref) (λD i J p=>Ac H p/\p D=some (.lst J)/\J=(b.1.take i).map λm=>V.int m.1)
    (λD r=>⟨AR r,Aa,by rw[Ee];rfl⟩) (λD i J p af=>by obtain⟨s,_⟩:=af;exact Ae.of (s _ _ q)) (λD i x J H2 RR r M hv k=>?_) (λa0 J aH aM hv=>?_)⟩
   obtain⟨N,eD,rfl⟩:=hv;obtain⟨tm,ao,rfl⟩:=getm M;have a4:i<b.1.length:=by rw[<-j.len];exact(AN.mp ao).1
   have d:=AD a4;have a5:=j.at_ i tm _ ao d;have aa:b.1.take (i+1)=b.1.take i++[b.1[i]]:=by rw[EG,d];rfl
   have a6:=j.len;refine Or.inr (Or.inl ⟨_,.int b.1[i].1,Ar.of (N _ _ a5),rfl,?_⟩);refine k _ _ eD (by rw[Al,Fn];exact BH (by lia)) ⟨λx o e=>?_,Aa,by rw[aa,Bh];rfl⟩;rw[AC (A1 e r)];exact N _ _ e;obtain⟨s1,eC,rfl⟩:=hv;rw[Al,j.len,Ev] at eC;refine⟨Ir,λC2 a7=>?_⟩;obtain⟨H2,a8,N,a9⟩:=new_at (o:=.lst [.int b.2.1]) a7;rw[<-a8];have a6:=j.len;refine⟨a0,C2,_,_,rfl,rfl,N _ _ eC,a9,?_,λB hB=>?_⟩;rw[Al];exact Cn (BH (by show b.1.length+1<=1000;lia));have s3:=AR (o:=.lst ((b.1.map λm=>V.int m.1)++[.int b.2.1])) hB
   have U:(upd H2 B (.lst ((b.1.map λm=>V.int m.1)++[.int b.2.1]))) B=some (.lst ((AY b).map V.int)):=by
    rw[Aa];unfold AY
    simp
   generalize upd H2 B (.lst ((b.1.map λm=>V.int m.1)++[.int b.2.1]))=H3 at s3 U ⊢;have aq:=(s1.trans N).trans s3;refine⟨by decide,λD r=>?_⟩;have ab:H D=none:=aq.free r;obtain⟨H4,aA,s4,ag⟩:=new_at (o:=.lst []) r;rw[<-aA];have ar:=aq.trans s4;refine⟨nt,A,t,W,b.2.1,b.2.2,rfl,hC.same ar,ok,a3,hb.st,λaI u H5 hG X eG aB au=>⟨⟨_,Ae.of eG⟩,?_⟩⟩;have ae:=ar.trans X
   have aN:u.length<=8:=by
    have E:=Bw List.length au;have q:=Nr W b.2.1 (DJ W b.2.2) (BO W b.2.1) 0;have j:=Qh ok b.2.1;rw[Al] at E;unfold FV at E;lia
   refine FA (xs:=u.map λz=>V.ref z.1) (λi σ p=>∃u9 ah ai aj a,σ=[some (.ref nt),some (.ref A),some (.ref t),some (.ref bt),some (.ref l),some (.int b.2.1),some (.int b.2.2),some (.ref B),some (.ref D),u9,ah,ai,aj]/\Keeps (·=D) H5 p/\p D=some (.lst (a.map λz:Addr×AK=>V.ref z.1))/\(∀z∈a,Dr (λl=>H l=none/\l≠D) p z.1 z.2)/\a.map (·.2)=((u.map (·.2)).take i).filterMap (kid b))
    ⟨none,none,none,none,[],rfl,Keeps.refl λx o m e=>by rw[m,X _ _ ag] at e;exact⟨_,(Br e).symm⟩,X _ _ ag,λz v=>by simp at v,by rw[Ee];rfl⟩ (λi σ p ζ af=>by obtain⟨_,_,_,_,_,_,k,_⟩:=af;exact Ae.of (k.at_ _ _ eG λz=>by rw[z,ag] at hG;cases hG)) ?_ ?_
   rotate_left;refine λσ H6 I=>AO λNz S=>?_;obtain⟨u9,ah,ai,aj,a,rfl,c,C,v,d⟩:=I;refine S ?_;clear S;refine az D a H6 ab (λx o e=>?_) C v ?_;exact c.at_ _ _ (ae _ _ e) (A1 e ab);rw[d,Al,<-Al (f:=(·.2)),Ev,au];rfl;refine λi x σ H6 M I=>AO λNz S=>?_;obtain⟨u9,ah,ai,aj,a,rfl,c,C,v,d⟩:=I;refine S ?_;clear S;refine Ix ?_;intro Nx Cy;obtain⟨z,I,rfl⟩:=getm M;obtain⟨m,ak,al⟩:=aB z (A6 I);have ak:=c.tup ak;have al:=c.tup al
   have aa:((u.map (·.2)).take (i+1)).filterMap (kid b)=((u.map (·.2)).take i).filterMap (kid b)++(kid b z.2).toList:=by
    rw[EG,A3,I];exact J6 _ _ _
   have lz:a.length<=8:=by
    have E:=Bw List.length d;have q:=List.length_filterMap_le (kid b) ((u.map (·.2)).take i);rw[Fn,Al] at q;rw[Al] at E;lia
   refine⟨_,Ar.of ak,rfl,?_⟩
   have skip:¬(z.2.2.1.1=("to" : Str)/\z.2.2.1.2∉AY b)->a.map (·.2)=((u.map (·.2)).take (i+1)).filterMap (kid b):=λhn=>by
    rw[aa,gY hn,d];simp
   have aC:=c.at_ _ _ ((s4.trans X) _ _ U) (λz=>by rw[z,r] at U;cases U);refine⟨rfl,rfl,As (λO=>?_) (λO=>Bb ?_)⟩;rotate_left;exact⟨_,_,_,_,a,rfl,c,C,v,skip λh=>O (By (by rw[h.1]))⟩;have O:z.2.2.1.1=("to" : Str):=V.str.inj (BM O);refine⟨2,.int z.2.2.1.2,(AY b).map Dt.int,B,_,λaJ hd=>?_,by decide,.int _,rfl,Ae.of aC,Hz _,rfl,As (λG=>?_) (λG=>?_)⟩;obtain⟨y,_,rfl⟩:=AL.mp hd;exact .int _ _;rotate_left;refine⟨_,_,_,_,a,rfl,c,C,v,skip λh=>G ?_⟩;rw[Fp λz=>h.2 (Gj.mp z)];rfl
   have G:z.2.2.1.2∉AY b:=λz=>by
    rw[Ex (Gj.mpr z)] at G;cases G
   have aD:=c.at_ _ _ (ae _ _ q) (A1 q ab);refine⟨Or.inl ⟨rfl,_,Ae.of C⟩,Ir,λa1 hM=>?_⟩;obtain⟨H7,aE,Y,eM⟩:=new_at (o:=.lst [.ref m]) hM;rw[<-aE];refine⟨l,a1,_,_,rfl,rfl,Y _ _ aD,eM,by rw[Al];exact Cn (BH (by show g.length+1<=1000;lia)),λL Z=>?_⟩
   have aF:H L=none:=by
    have h6:=Y.free Z
    cases e:H L with
    |none=>rfl
    |some o=>rw[c.at_ _ _ (ae _ _ e) (A1 e ab)] at h6;cases h6
   have av:L≠D:=λy=>by rw[y,Y _ _ C] at Z;cases Z
   have s8:=AR (o:=.lst (g.map V.ref++[.ref m])) Z;have eL:(upd H7 L (.lst (g.map V.ref++[.ref m]))) L=some (.lst ((g++[m]).map V.ref)):=by rw[Aa,Bh];rfl
   generalize upd H7 L (.lst (g.map V.ref++[.ref m]))=H8 at s8 eL ⊢;refine⟨GW,λan hr=>?_⟩;obtain⟨H9,aG,s9,er⟩:=new_at (o:=.tup [.ref L,.int z.2.2.1.2,.int z.2.2.2]) hr;rw[<-aG];have T:=(Y.trans s8).trans s9;have aw:=T _ _ C;have Q:Keeps (·=D) H9 (upd H9 D (.lst (a.map (λz=>V.ref z.1)++[.ref an]))):=Keeps.one aw;refine⟨_,aw,by rw[Al];exact BH (by lia),?_⟩;refine⟨_,_,_,_,a++[(an,(b.1++[z.2.1],z.2.2.1.2,z.2.2.2))],rfl,⟨λx o e n=>?_,c.ls⟩,by rw[Aa,Bh];rfl,λy R=>?_,?_⟩;rw[AC n];exact T _ _ (c.at_ x o e n);rcases BL.mp R with R|R;exact((v y R).same T).keeps Q λx M=>M.2;rw[AW.mp R];refine⟨L,g++[m],Q.tup er,Q.at_ _ _ (s9 _ _ eL) av,?_,aF,av⟩;refine RT.snoc ?_ (Q.tup ((T) _ _ al));exact((j.same ae).keeps c |>.same T).keeps Q;rw[aa,gX O G,Bh,d];rfl
inductive Dh (K:Ah) (vs:List V) (H:Hp) (Q:VK):Prop where
 |mk (nt A t:Addr) (W:Wd) (sc st:Int) (h0:vs=[.ref nt,.ref A,.ref t,.int sc,.int st]) (h1:Bq K H nt A t W) (h2:BP W) (h3:(0<=sc/\sc<W.ss.length)) (h4:(0<=st/\st<W.sts.length)) (h5:∀(D:Addr)(zs:List (Addr×AK))(H':Hp),H D=none->Ac H H'->H' D=some (.lst (zs.map λz=>V.ref z.1))->(∀z∈zs,Dr (λl=>H l=none/\l≠D) H' z.1 z.2)->C1 W sc st (zs.map (·.2))->Q (.ref D) H'):Dh K vs H Q
def g8 (K:Ah):Sp:=λvs H Q ζ=>Dh K vs H Q
abbrev Ux(P w K mg base):=BI P w K mg base "beginnings" 6 ["net", "answers", "table", "scope", "state"] (g8 K)
theorem g9(B:BK mg)(aq:Uw P w K mg base)(F:BA K "beginnings" "beginnings" Rs f fd)(hm:mg "beginnings" = some (.ref f)):Ux P w K mg base:=by
 refine Ca F hm QR (λvs H al an h=>?_) (λaB A aD s H vs al an Y h=>?_);obtain⟨L,A,t,W,g,j,rfl,_⟩:=h;rfl
 . obtain⟨L,A,t,W,g,j,rfl,hC,ok,Q,R,ao⟩:=h
   refine⟨_,(Ap (AX (i:=5) QR.nd (Cg (Ab (Bn (Ab (Cg Af) (Ab (pv 3) (Ab (pv 4) Af)))) Af)))
    (Ap (AX (i:=6) QR.nd Aq)
    (Ap (P6 CK (B2 Nd (pv 6) (CM Gi B.b_len (Ab (pv 5) Af)) (BW _)) (Ap (DD (DG Dx PySem.F.slot_list_extend PySem.F.type_list_extend OC (pv 5) (Ab (A7 aq (Ab (pv 0) (Ab (pv 1) (Ab (pv 2) (Ab (Av Aw (pv 5) (pv 6)) Af))))) Af)))
     (Ap (Bv (B2 Oc (CM Gi B.b_len (Ab (pv 5) Af)) (ID (v:=.int 200) rfl (Classical.choose_spec B.c_MOST_BEGINNINGS) ⟨_,rfl⟩) (BW _)) (AA Yb) Bx)
     (AA (VY (i:=6) QR.nd rfl (Or.inl rfl) Aq U3)))))
    (AA (AQ (CM (Zc Nu FG FG Y.units (by decide) (by decide) (by decide)) B.b_sorted (Ab (pv 5) Af))))))),?_⟩
   rfl';refine⟨by decide,λl hl=>?_⟩;obtain⟨a8,ar,s1,el⟩:=new_at (o:=.lst []) hl;rw[<-ar];refine⟨GW,λaf Y=>?_⟩;obtain⟨H2,au,Z,er⟩:=new_at (o:=.tup [.ref l,.int g,.int j]) Y;rw[<-au];refine⟨Ir,λD hD=>?_⟩;have ag:=s1.trans Z;have av:H D=none:=ag.free hD;have aw:l≠D:=A1 (Z _ _ el) hD;obtain⟨H3,ax,s3,ay⟩:=new_at (o:=.lst [.ref af]) hD;rw[<-ax];have az:=ag.trans s3;refine EE ?_;cbv;refine SA ?_;cbv;refine Nl (λσ' d=>∃(u6:V)(a:List (Addr×AK)),σ'=[some (.ref L),some (.ref A),some (.ref t),some (.int g),some (.int j),some (.ref D),some u6]/\Ac H d/\d D=some (.lst (a.map λz=>V.ref z.1))/\(∀z∈a,Dr (λl=>H l=none/\l≠D) d z.1 z.2)/\GF W g j (a.map λz:Addr×AK=>z.2) (a.map λz:Addr×AK=>z.2).length) ?_ (λa9 hN=>?_);refine λσ' H4 S=>AO λNz C=>?_;obtain⟨u6,a,rfl,I,E,k,u⟩:=S;refine C ?_;clear C;have hf:=u.few ok Q R;rw[Al] at hf;refine⟨D,a.map λz=>(V.ref z.1,z.2),rfl,?_,by rw[Al];lia,λy M=>?_,λD2 G hp hs U=>?_⟩;rw[DT];exact Ae.of E;obtain⟨z,T,rfl⟩:=AL.mp M;exact(k z T).dt;have n:=AR (o:=.lst (G.map (·.1))) U
   obtain⟨c,rfl⟩:∃c:List (Addr×AK),G=c.map λz=>(V.ref z.1,z.2):=by
    have:∀{l:List (Dz DA)},(∀y∈l,y∈a.map λz=>((V.ref z.1,z.2):Dz DA))->∃c:List (Addr×AK),l=c.map λz=>(V.ref z.1,z.2):=by
     intro l
     induction l with
     |nil=>exact λζ=>⟨[],rfl⟩
     |cons y l ih =>
       intro h;obtain⟨c,rfl⟩:=ih λz k=>h z (B8 _ k);obtain⟨z,_,rfl⟩:=AL.mp (h y Bu);exact⟨z::c,rfl⟩
    exact this λy M=>hp.mem_iff.mp M
   have N:(c.map λz=>((V.ref z.1,z.2):Dz DA)).map (·.2)=c.map (·.2):=by rw[DT];rfl
   have O:(c.map λz=>((V.ref z.1,z.2):Dz DA)).map (·.1)=c.map λz=>V.ref z.1:=by rw[DT];rfl
   have a0:(c.map (·.2)).Perm (a.map (·.2)):=by
    have:=hp.map (·.2)
    rwa [N,DT] at this
   rw[N] at hs;rw[O] at n ⊢
   have nm:∀z∈c,z∈a:=λz T=>by
    have:=hp.mem_iff.mp (AL.mpr ⟨z,T,rfl⟩);obtain⟨y,M,e⟩:=AL.mp this;injection e with O N;have:y=z:=Prod.ext (V.ref.inj O) N;rw[<-this];exact M
   refine ao D2 c _ (I.free U) (I.trans n) Aa (λz T=>?_) (u.all ok Q R a0 hs);refine((k z (nm z T)).mono' ?_).same n;intro x o ex q;exact⟨q.1,λy=>by rw[y,U] at ex;cases ex⟩;refine⟨λm σ d=>∃(p:Nat)(a:List (Addr×AK)),σ=[some (.ref L),some (.ref A),some (.ref t),some (.int g),some (.int j),some (.ref D),some (.int p)]/\Ac H d/\d D=some (.lst (a.map λz=>V.ref z.1))/\(∀z∈a,Dr (λl=>H l=none/\l≠D) d z.1 z.2)/\GF W g j (a.map λz:Addr×AK=>z.2) p/\m=62-p,⟨_,0,[(af,([],g,j))],rfl,az,ay,λz k=>?_,GF.start W g j,rfl⟩,?_⟩;rw[AW.mp k];exact⟨l,[],s3 _ _ er,(Z.trans s3) _ _ el,RT.nil,hl,aw⟩;refine λm σ H4 S=>AO λNz C=>?_;obtain⟨p,a,rfl,I,E,k,u,aA⟩:=S;refine C ?_;clear C;have hf:=u.few ok Q R;have a1:=u.le;rw[Al] at hf a1;refine⟨_,Or.inl ⟨_,Ae.of E,rfl⟩,rfl,?_⟩;by_cases ah:p<a.length;rotate_left;have ep:p=a.length:=(by lia);rw[Dw (by rw[Al];lia)];refine Bb (hN _ _ ⟨_,a,rfl,I,E,k,?_⟩);rw[Al,<-ep];exact u;rw[By (by rw[Al];lia)];refine BY ?_;have ai:=AD ah;have aj:(a.map (·.2))[p]?=some a[p].2:=by rw[A3,ai];rfl
   have aa:=u.turn aj;have ib:=(u.is _ (A6 aj)).ok ok Q R;refine⟨λσ' d=>∃(G:List (Addr×AK)),σ'=[some (.ref L),some (.ref A),some (.ref t),some (.int g),some (.int j),some (.ref D),some (.int ((p+1:Nat):Int))]/\Ac H d/\d D=some (.lst (G.map λz=>V.ref z.1))/\(∀z∈G,Dr (λl=>H l=none/\l≠D) d z.1 z.2)/\GF W g j (G.map λz:Addr×AK=>z.2) (p+1),?_,?_⟩;refine λσ' d S=>AO λNz C=>?_;obtain⟨G,rfl,n,X,a2,a3⟩:=S;refine C ?_;clear C;exact⟨_,by lia,p+1,G,rfl,n,X,a2,a3,rfl⟩;have a4:Bz (a.map λz=>V.ref z.1) (p:Int)=some (.ref a[p].1):=B3 (by rw[A3,ai];rfl);refine⟨Or.inl ⟨rfl,_,Ae.of E⟩,Or.inl ⟨_,.ref a[p].1,Ae.of E,a4,L,A,t,a[p].1,W,a[p].2,rfl,hC.same I,ok,ib,⟨_,k _ (Ec ah)⟩,λD2 r J U n a5 a6 ab=>?_⟩⟩
   have aC:r.length<=8:=by
    have O:=Bw List.length ab;have N:=Zd W a[p].2;have e3:=Qh ok a[p].2.2.1;rw[Al] at O;lia
   have X:=n _ _ E;have k5:Keeps (·=D) J (upd J D (.lst (a.map (λz=>V.ref z.1)++r.map λz=>V.ref z.1))):=Keeps.one X;refine⟨D,D2,_,_,rfl,rfl,X,a5,by rw[Al,Al];exact Cn (BH (by lia)),?_⟩;have a7:=aa.few ok Q R;rw[<-ab,<-Bh,Al] at a7;rw[<-ab,<-Bh] at aa;have ae:(upd J D (.lst (a.map (λz=>V.ref z.1)++r.map λz=>V.ref z.1))) D=some (.lst ((a++r).map λz=>V.ref z.1)):=(by rw[Aa,Bh])
   have sn:Ac H (upd J D (.lst (a.map (λz=>V.ref z.1)++r.map λz=>V.ref z.1))):=λb o e=>by
    rw[AC (A1 e av)];exact n _ _ (I _ _ e)
   have ak:∀z∈a++r,Dr (λl=>H l=none/\l≠D) (upd J D (.lst (a.map (λz=>V.ref z.1)++r.map λz=>V.ref z.1))) z.1 z.2:=λz h=>by
    rcases BL.mp h with h|h;exact((k z h).same n).keeps k5 λx q=>q.2;refine((a6 z h).mono λx q=>⟨I.free q.1,?_⟩).keeps k5 λx q=>q.2;intro y;rw[y,E] at q;cases q.1
   generalize upd J D (.lst (a.map (λz=>V.ref z.1)++r.map λz=>V.ref z.1))=H6 at ae sn ak ⊢;refine⟨_,Or.inl ⟨_,Ae.of ae,rfl⟩,rfl,?_⟩;rw[Dw (by rw[Al];lia)];refine Bb ?_;refine⟨_,rfl,a++r,?_,sn,ae,ak,aa⟩
   simp
inductive EX (K:Ah) (vs:List V) (H:Hp) (Q:VK):Prop where
 |mk (t a o:Addr) (inn:V) (ss:List D9) (n:Int) (k:Nat) (s:D9) (x:Str) (h0:vs=[.ref t,.int n,.str x]) (h1:n=k) (h2:Ar K H t [.ref a,inn,.ref o]) (h3:Hq K H a ss) (h4:ss[k]?=some s) (h5:Q (.bl (dec (x∈s.2))) H):EX K vs H Q
def hE (K:Ah):Sp:=λvs H Q ζ=>EX K vs H Q
abbrev Uy(P w K mg base):=BI P w K mg base "has_end" 1 ["table", "state", "label"] (hE K)
def hH(B:BK mg)(F:BA K "has_end" "has_end" Rt f fd)(c:mg "has_end" = some (.ref f)):Uy P w K mg base:=by
 refine Ca F c XH (λb H Q E h=>?_) (λR A S s H b Q E j h=>?_);obtain⟨t,a,o,L,l,n,k,s,x,rfl,_⟩:=h;rfl;obtain⟨t,a,o,L,l,n,k,s,x,rfl,rfl,m,⟨b,p,r⟩,u,q⟩:=h;obtain⟨v,C,M⟩:=r.get' (i:=k) (d:=Kt s) (by rw[A3,u];rfl);obtain⟨D,g,e,rfl,N,O,G⟩:=FF M
 refine⟨_,(Ap (AX (i:=3) XH.nd (Av Aw (Av Aw (Av Aw (pv 0) Aq) (pv 1)) Aq))
  (AA (AQ (Kk (LP j.units) (pv 2) (pv 3) (by with_unfolding_all rfl))))),?_⟩
 rfl';refine Or.inr (Or.inl ⟨_,.ref a,m,rfl,?_⟩);refine Or.inl ⟨b,.ref D,p,B3 C,?_⟩;refine Or.inr (Or.inl ⟨_,.ref e,N,rfl,?_⟩);refine⟨2,.str x,s.2.map Dt.str,e,_,λd hd=>?_,by decide,.str x,rfl,G,Ai.strs _,?_⟩;obtain⟨y,_,rfl⟩:=AL.mp hd;exact .str _ _
 have I:dec (Dt.str x∈s.2.map Dt.str)=dec (x∈s.2):=Nm ⟨λh=>by
  obtain⟨y,J,z⟩:=AL.mp h
  rw[<-Dt.str.inj z];exact J,λh=>AL.mpr ⟨x,h,rfl⟩⟩
 rw[I];exact q
def J7{k:Nat}(h:W.sts[k]?=some s):Gk W (k:Int)=s.2:=by unfold Gk;rw[Bk,h]
def hI{k:Nat}{s:Bp}(h:W.ss[k]?=some s):Fh W (k:Int)=s.2:=by unfold Fh;rw[Bk,h]
variable {x:Str}
def MO{q:CN}(a:q.2.1=x)(c:q.1∈Gk W b.2.2):Ey W b x q i=[b.1++[(b.2.1,("told" : Str),(i:Int))]]:=Ak ⟨a,c⟩
def J8{q:CN}(h:¬(q.2.1=x/\q.1∈Gk W b.2.2)):Ey W b x q i=[]:=Aj h
def XU{bs:List AK}(h:bs[i]?=some b):DK W x (bs.take (i+1))=DK W x (bs.take i)++Cs W b x (Fh W b.2.1) 0:=by
 rw[EG,h];show(bs.take i++[b]).flatMap _=_;rw[List.flatMap_append];simp[DK]
def Ps{bs:List AK}(i:Nat):(DK W x (bs.take i)).length<=(DK W x bs).length:=by
 have:DK W x bs=DK W x (bs.take i)++DK W x (bs.drop i):=by
  unfold DK;rw[<-List.flatMap_append,List.take_append_drop]
 rw[this,AZ];lia
theorem XV(W:Wd)(b:AK)(x:Str):∀(l:List CN)(j i:Nat),(Cs W b x (l.take j) i).length<=(Cs W b x l i).length
 |[],j,i=>by rw[List.take_nil];exact AE _
 |q::l,0,i=>C7 _
 |q::l,j+1,i=>by
   show(Ey W b x q i++Cs W b x (l.take j) (i+1)).length<=(Ey W b x q i++Cs W b x l (i+1)).length;rw[AZ,AZ];have:=XV W b x l j (i+1);lia
inductive Cw (K:Ah) (vs:List V) (H:Hp) (Q:VK):Prop where
 |mk (nt A t D:Addr) (x:Str) (F:Addr->Prop) (W:Wd) (zs:List (Addr×AK)) (h0:vs=[.ref nt,.ref t,.ref D,.str x]) (h1:Bq K H nt A t W) (h2:BP W) (h3:H D=some (.lst (zs.map λz=>V.ref z.1))) (h4:(∀z∈zs,Dr F H z.1 z.2)) (h5:(∀z∈zs,Db W z.2)) (h6:(DK W x (zs.map (·.2))).length<=62) (h7:∀(D2:Addr)(ws:List (Addr×List Ao))(H':Hp),H D2=none->Ac H H'->H' D2=some (.lst (ws.map λz=>V.ref z.1))->(∀z∈ws,CC (λl=>H l=none/\l≠D2) H' z.1 z.2)->Nv W x (zs.map (·.2)) (ws.map (·.2))->Q (.ref D2) H'):Cw K vs H Q
def hJ (K:Ah):Sp:=λvs H Q ζ=>Cw K vs H Q
abbrev Uz(P w K mg base):=BI P w K mg base "found_behind" 2 ["net", "table", "begun", "name"] (hJ K)
def hQ(an:BK mg)(aE:Uy P w K mg base)(F:BA K "found_behind" "found_behind" Ru f fd)(r:mg "found_behind" = some (.ref f)):Uz P w K mg base:=by
 refine Ca F r Mz (λvs H a3 a4 h=>?_) (λbd ao bh s H vs a3 a4 hr h=>?_);obtain⟨nt,ao,t,D,x,F,W,u,rfl,_⟩:=h;rfl
 . obtain⟨nt,ao,t,D,x,F,W,u,rfl,hC,ok,eD,hz,aF,be,a5⟩:=h
   obtain⟨a6,aY,aZ,us,Gs,Es,ts,qt,qs,eN,N3⟩:=hC.net;obtain⟨a7,o,aG,b1,a8,b2,b3⟩:=hC.tab
   refine⟨_,(Ap (AX (i:=4) Mz.nd (Cg Af))
    (Ap (Do CK rfl (Dm (pv 2)) (Ck (n:=3) rfl (AF (Ay (i:=5) Mz.nd) (AF (Ay (i:=6) Mz.nd) (AF (Ay (i:=7) Mz.nd) Cj)))) (AA (Do CK rfl (NB LK rfl an.b_enumerate (Ab (Av Aw (Av Aw (Av Aw (pv 0) Aq) (pv 6)) Aq) Af)) (Ck (n:=2) rfl (AF (Ay (i:=8) Mz.nd) (AF (Ay (i:=9) Mz.nd) Cj))) (AA (Bv (PW.pt (IH (B2 Dq (Av Aw (pv 9) Aq) (pv 3) (BW _)) (IG (F6 (A7 aE (Ab (pv 1) (Ab (pv 7) (Ab (Av Aw (pv 9) Aq) Af)))))))) (AA (DD (DG Dx Fu Fv FD (pv 4) (Ab (A2 Nf (pv 5) (Cg (Ab (Bn (Ab (pv 6) (Ab BN (Ab (pv 8) Af)))) Af))) Af)))) Bx)))))
    (AA (AQ (CM (Za Nu hr.units (by decide)) an.b_sorted (Ab (pv 4) Af)))))),?_⟩
   rfl';refine⟨by decide,λP hP=>?_⟩;obtain⟨Y,aH,s1,ar⟩:=new_at (o:=.lst []) hP;rw[<-aH];have bf:D≠P:=A1 eD hP;have N:∀{d:Hp},Keeps (·=P) Y d->Ac H d:=λk x o e=>k.at_ _ _ (s1 _ _ e) (A1 e hP)
   refine⟨⟨_,Ae.of (s1 _ _ eD)⟩,FA (xs:=u.map λz=>V.ref z.1) (λi σ d=>∃u5 u6 u7 v A a,σ=[some (.ref nt),some (.ref t),some (.ref D),some (.str x),some (.ref P),u5,u6,u7,v,A]/\Keeps (·=P) Y d/\d P=some (.lst (a.map λz:Addr×List Ao=>V.ref z.1))/\(∀z∈a,CC (λl=>H l=none/\l≠P) d z.1 z.2)/\a.map (·.2)=DK W x ((u.map (·.2)).take i))
    ⟨none,none,none,none,none,[],rfl,Keeps.refl λx o m e=>by rw[m,ar] at e;exact⟨_,(Br e).symm⟩,ar,λz hz=>by simp at hz,by rw[Ee];rfl⟩ (λi σ d ζ af=>by obtain⟨_,_,_,_,_,_,_,k,_⟩:=af;exact Ae.of (N k _ _ eD)) ?_ ?_⟩
   rotate_left;refine λσ H2 C=>AO λI b=>?_;obtain⟨u5,u6,u7,v,A,a,rfl,R,ag,S,r⟩:=C;refine b ?_;clear b;rw[Al,<-Al (f:=(·.2)),Ev] at r;have lw:a.length<=62:=by have:=Bw List.length r;rw[Al] at this;lia
   refine⟨P,a.map λz=>(V.ref z.1,z.2),rfl,?_,by rw[Al];lia,λy g=>?_,λD2 aI J hs ah=>?_⟩;rw[DT];exact Ae.of ag;obtain⟨z,ai,rfl⟩:=AL.mp g;exact(S z ai).dt;obtain⟨vs,r1,r2,r3,r4⟩:=Wh (c:=Cr) J;have s3:=AR (o:=.lst (aI.map (·.1))) ah;rw[r1] at s3 ⊢;rw[r2] at hs;have q:=N R;refine a5 D2 vs _ (q.free ah) (q.trans s3) Aa (λz ai=>?_) ⟨by rw[<-r];exact r3,hs⟩;refine((S z (r4 z ai)).mono' ?_).same s3;intro x o ex hx;exact⟨hx.1,λy=>by rw[y,ah] at ex;cases ex⟩;refine λi y σ H2 g C=>AO λI b=>?_;obtain⟨u5,u6,u7,v,A,a,rfl,R,ag,S,r⟩:=C;refine b ?_;clear b;obtain⟨z,au,rfl⟩:=getm g;have mz:=A6 au;have aa:=aF z mz;have q:=N R;refine AO λI b=>?_;obtain⟨l,B,aA,aB,e3,_⟩:=hz z mz;refine b ?_;clear b;have e1:=q _ _ aA;have aJ:=aa.rng z.2.2.1 (by unfold AY;simp);have aK:=aa.st;obtain⟨n,T⟩:=DU aJ.1;obtain⟨k,hk⟩:=DU aK.1;have aL:n<W.ss.length:=(by lia);have aM:k<W.sts.length:=(by lia);refine AO λI b=>?_;obtain⟨aq,ba,E1,aC,bb,bc,g4,⟨c0,_,⟨tE,c1,c2⟩⟩⟩:=N3.sc.get aL;refine b ?_;clear b;have av:=AD aM;have eT:Fh W z.2.2.1=W.ss[n].2:=by rw[T];exact hI g4
   have eE:Gk W z.2.2.2=W.sts[k].2:=by rw[hk];exact J7 av
   have aN:Bz (us.map V.ref) z.2.2.1=some (.ref aq):=by rw[T];exact B3 (by rw[A3,aC];rfl)
   have aw:(u.map (·.2))[i]?=some z.2:=by rw[A3,au];rfl
   have bg:B.length<=100:=by
    have:=Jh W.ss.length (AY z.2) aa.nd aa.rng;rw[show(AY z.2).length=z.2.1.length+1 by unfold AY;simp] at this;have:=ok.s5;rw[e3.len];lia
   have aO:=Ps (W:=W) (x:=x) (bs:=u.map (·.2)) (i+1);rw[XU aw,AZ] at aO;refine⟨_,Ar.of e1,rfl,?_⟩;refine Or.inr (Or.inl ⟨_,.ref a6,Ar.of (q _ _ eN),rfl,Or.inl ⟨_,.ref aq,Ae.of (q _ _ N3.sc.top),aN,Or.inr (Or.inl ⟨_,.ref E1,Ar.of (q _ _ c0),rfl,E1,rfl,⟨_,q _ _ c1⟩,?_⟩)⟩⟩)
   refine Qv LK (xs:=tE.map V.ref) (λj σ d=>∃v A a,σ=[some (.ref nt),some (.ref t),some (.ref D),some (.str x),some (.ref P),some (.ref l),some (.int z.2.2.1),some (.int z.2.2.2),v,A]/\Keeps (·=P) Y d/\d P=some (.lst (a.map λz:Addr×List Ao=>V.ref z.1))/\(∀z∈a,CC (λl=>H l=none/\l≠P) d z.1 z.2)/\a.map (·.2)=DK W x ((u.map (·.2)).take i)++Cs W z.2 x ((Fh W z.2.2.1).take j) 0)
    ⟨_,_,a,rfl,R,ag,S,by rw[r,Ee];simp[Cs]⟩ (λj σ d af=>by obtain⟨_,_,_,_,k,_⟩:=af;exact Ae.of (N k _ _ c1)) ?_ ?_
   rotate_left;refine λσ H3 C=>AO λI b=>?_;obtain⟨v,A,a,rfl,U,aj,ak,O⟩:=C;refine b ?_;clear b;refine⟨_,_,_,_,_,a,rfl,U,aj,ak,?_⟩;rw[XU aw,O,Al,c2.len,eT,Ev];refine λj y T' σ H3 g aP C=>AO λI b=>?_;obtain⟨v,A,a,rfl,U,aj,ak,O⟩:=C;refine b ?_;clear b;obtain⟨tp,ax,rfl⟩:=getm g;have aQ:j<W.ss[n].2.length:=by rw[<-c2.len];exact(AN.mp ax).1
   have J:=AD aQ;have ay:=c2.at_ j tp _ ax J;generalize W.ss[n].2[j]=p at J ay;obtain⟨H4,aR,X,aS⟩:=new_at (o:=.tup [.int j,.ref tp]) aP;rw[<-aR];have aT:=N U;have E:=aT.trans X;have k4:Keeps (·=P) Y H4:=U.same X;have Q:=X _ _ aj;have al:∀z∈a,CC (λl=>H l=none/\l≠P) H4 z.1 z.2:=λz h=>(ak z h).same X;have a2:=Ar.of (K:=K) (E _ _ ay)
   have az:Cs W z.2 x ((Fh W z.2.2.1).take (j+1)) 0=Cs W z.2 x ((Fh W z.2.2.1).take j) 0++Ey W z.2 x p j:=by
    rw[EG,eT,J];show Cs W z.2 x (W.ss[n].2.take j++[p]) 0=_;rw[We,Fn,Nat.zero_add,Nat.min_eq_left (by lia)]
   have skip:¬(p.2.1=x/\p.1∈Gk W z.2.2.2)->a.map (·.2)=DK W x ((u.map (·.2)).take i)++Cs W z.2 x ((Fh W z.2.2.1).take (j+1)) 0:=λT=>by
    rw[az,J8 T,FN,O]
   have lw:a.length<100:=by
    have:=Bw List.length O;rw[Al,AZ] at this;have G:=XV W z.2 x (Fh W z.2.2.1) j 0;lia
   refine⟨_,Ar.of aS,rfl,?_⟩;refine Or.inr (Or.inl ⟨_,.str p.2.1,a2,rfl,rfl,rfl,As (λG=>?_) (λG=>Bb ?_)⟩);rotate_left;exact⟨_,_,a,rfl,k4,Q,al,skip λh=>G (By (by rw[h.1]))⟩;have G:p.2.1=x:=V.str.inj (BM G);refine Or.inr (Or.inl ⟨_,.str p.1,a2,rfl,t,a7,o,aG,W.sts,z.2.2.2,k,_,p.1,rfl,hk,E.seqT b1,⟨a8,E.seq b2,b3.same E⟩,av,rfl,As (λM=>?_) (λM=>?_)⟩);rotate_left;exact⟨_,_,a,rfl,k4,Q,al,skip λh=>M (Ex (by rw[<-eE];exact h.2))⟩;have M:p.1∈Gk W z.2.2.2:=by rw[eE];exact D7.mp M
   refine⟨Or.inl ⟨rfl,_,Ae.of Q⟩,GW,λm aU=>?_⟩;obtain⟨H5,aV,s5,aD⟩:=new_at (o:=.tup [.int z.2.2.1,.str "told",.int j]) aU;rw[<-aV];refine⟨Ir,λa9 hM=>?_⟩;obtain⟨H6,aW,s6,eM⟩:=new_at (o:=.lst [.ref m]) hM;rw[<-aW];have ab:=s5.trans s6;refine⟨l,a9,_,_,rfl,rfl,ab _ _ (E _ _ aB),eM,by rw[Al];exact Cn (BH (by show B.length+1<=1000;lia)),λL Z=>?_⟩;have aX:H L=none:=(E.trans ab).free Z;have a0:L≠P:=λy=>by rw[y,ab _ _ Q] at Z;cases Z
   have s7:=AR (o:=.lst (B.map V.ref++[.ref m])) Z;have eL:(upd H6 L (.lst (B.map V.ref++[.ref m]))) L=some (.lst ((B++[m]).map V.ref)):=by rw[Aa,Bh];rfl
   generalize upd H6 L (.lst (B.map V.ref++[.ref m]))=H7 at s7 eL ⊢;have ae:=ab.trans s7;have a1:=ae _ _ Q;have k7:Keeps (·=P) H7 (upd H7 P (.lst (a.map (λz=>V.ref z.1)++[.ref L]))):=Keeps.one a1;refine⟨_,a1,by rw[Al];exact BH (by lia),?_⟩;refine⟨_,_,a++[(L,z.2.1++[(z.2.2.1,("told" : Str),(j:Int))])],rfl,(k4.same ae).set rfl,by rw[Aa,Bh];rfl,λy g=>?_,?_⟩;rcases BL.mp g with g|g;exact((al y g).same ae).keeps k7 λx hx=>hx.2;rw[AW.mp g];refine⟨B++[m],k7.at_ _ _ eL a0,?_,aX,a0⟩;exact RT.snoc ((e3.same (E.trans ae)).keeps k7) (k7.tup ((s6.trans s7) _ _ aD));rw[az,MO G M,Bh,O,FZ];rfl
inductive Cz (K:Ah) (vs:List V) (H:Hp) (Q:VK):Prop where
 |mk (t:Addr) (F:Addr->Prop) (sts:List D9) (inn:Int) (ord:A') (h0:vs=[.ref t]) (h1:FU K F H t sts inn ord) (h2:ord.length<=40) (h3:∀(p:Addr)(H':Hp),H p=none->Ac H H'->HB H' p ord->Q (.ref p) H'):Cz K vs H Q
def hV (K:Ah):Sp:=λvs H Q ζ=>Cz K vs H Q
abbrev Q1(P w K mg base):=BI P w K mg base "better_pairs" 1 ["table"] (hV K)
theorem hW(B:BK mg)(F:BA K "better_pairs" "better_pairs" PQ f fd)(J:mg "better_pairs" = some (.ref f)):Q1 P w K mg base:=by
 refine Ca F J fU (λL H Q E h=>?_) (λak ag an s H L Q E M h=>?_);obtain⟨t,F,X,Y,v,rfl,_⟩:=h;rfl;obtain⟨t,F,X,Y,v,rfl,N,aj,q⟩:=h;obtain⟨ta,o,al,Z,O,_,_,_,_,_,x,TO⟩:=N.ex;refine⟨_,(AA (AQ (IR (ZA rfl (L7 M)) B.b_dict (Ab (GC rfl Cc (Dm (Av Aw (pv 0) Aq)) (λζ ζ ζ ζ ζ=>(Ay (i:=0) Cc.nd)) (λζ ζ ζ ζ ζ=>F9) (λζ ζ ζ ζ ζ=>(Bn (Ab (pv 0) (Ab Il Af))))) Af)))),?_⟩;rfl'
 refine Or.inr (Or.inl ⟨_,.ref o,Ar.of O,rfl,⟨_,Ae.of x⟩,OF (xs:=Z.map V.ref) (λP i a g=>Ac H g/\g P=some (.lst a)/\a.length=i/\EM g a ((v.take i).map λp=>(Fj p,V.bl true)))
  (λP j=>⟨AR j,Aa,rfl,.nil⟩) (λP i a g aa=>by obtain⟨s,_⟩:=aa;exact Ae.of (s _ _ x)) (λP i ah a R RR j S n k=>?_) (λP a R j n=>?_)⟩)
 obtain⟨c,r,d,m⟩:=n;obtain⟨y,D,rfl⟩:=getm S;have ab:i<v.length:=by rw[<-TO.len];exact(AN.mp D).1
 have G:=AD ab;have ae:=c _ _ (TO.at_ i _ _ D G);refine⟨B4,λT U=>?_⟩;obtain⟨A,af,l,W⟩:=new_at (o:=.tup [.ref y,.bl true]) U;rw[<-af];have I:=l _ _ r
 have u:∀b xs,A b=some (.tup xs)->(upd A P (.lst (a++[.ref T]))) b=some (.tup xs):=λb xs e=>by
  rw[AC (Na e I (λz=>nomatch z))];exact e
 refine k _ _ I (by rw[d];exact BH (by lia)) ⟨λb ai e=>?_,Aa,by rw[AZ,d];rfl,?_⟩;rw[AC (A1 e j)];exact l _ _ (c _ _ e);rw[EG,G,Bh];exact Paired.snoc ((m.tups λb xs e=>l _ _ e).tups u) ⟨T,y,rfl,u _ _ W,u _ _ (l _ _ ae)⟩;obtain⟨c,r,d,m⟩:=n;rw[Al,TO.len,Ev] at m;rw[Al,TO.len] at d;refine⟨P,a,_,rfl,r,by rw[d];exact BH (by lia),m,λp C=>?_⟩;exact q p _ (c.free C) (c.trans (AR C)) ⟨_,Aa,ZI⟩
inductive EY (K:Ah) (vs:List V) (H:Hp) (Q:VK):Prop where
 |mk (D:Addr) (F:Addr->Prop) (zs:List (Addr×List Ao)) (h0:vs=[.ref D]) (h1:H D=some (.lst (zs.map λz=>V.ref z.1))) (h2:(∀z∈zs,CC F H z.1 z.2)) (h3:zs.length<=100) (h4:∀(d:List Ao->Addr)(c:List Ao->Ao->Addr)(H':Hp),Ac H H'->Bf dW H' (A9 (zs.map (·.2))) d c->(∀p,DY (A9 (zs.map (·.2))) p->H (d p)=none)->Q (.ref (d [])) H'):EY K vs H Q
def hX (K:Ah):Sp:=λvs H Q ζ=>EY K vs H Q
abbrev Q2(P w K mg base):=BI P w K mg base "tree_of" 1 ["ways"] (hX K)
def iA(an:BK mg)(F:BA K "tree_of" "tree_of" Rv f fd)(l:mg "tree_of" = some (.ref f)):Q2 P w K mg base:=by
 refine Ca F l MA (λvs H ao aq h=>?_) (λaD a9 aG s H vs ao aq hr h=>?_);obtain⟨D,F,a,rfl,_⟩:=h;rfl
 . obtain⟨D,F,a,rfl,eD,hz,lz,ar⟩:=h
   refine⟨_,(Ap (AX (i:=1) MA.nd Ss)
    (Ap (Do CK rfl (NB LK rfl an.b_enumerate (Ab (pv 0) Af)) (Ck (n:=2) rfl (AF (Ay (i:=2) MA.nd) (AF (Ay (i:=3) MA.nd) Cj))) (Ap (AX (i:=4) MA.nd (pv 1))
     (AA (Do CK rfl (Dm (pv 3)) (Ay (i:=5) MA.nd) (AA (AX (i:=4) MA.nd (Av Aw (DG PySem.F.plainAttrs_dict PySem.F.slot_dict_setdefault PySem.F.type_dict_setdefault (Zv (LI hr)) (pv 4) (Ab (pv 5) (Ab (Bn (Ab (pv 2) (Ab Ss Af))) Af))) Aq)))))))
    (AA (AQ (pv 1))))),?_⟩
   rfl';refine λt ht=>?_;obtain⟨au,ax,s1,et⟩:=new_at (o:=.dT []) ht;rw[<-ax]
   refine⟨D,rfl,⟨_,s1 _ _ eD⟩,Qv LK (xs:=a.map λz=>V.ref z.1) (λi σ v=>∃(S T U A:Option V)(d:List Ao->Addr)(c:List Ao->Ao->Addr),σ=[some (.ref D),some (.ref t),S,T,U,A]/\Ac H v/\d []=t/\Bf dW v (A9 ((a.map (·.2)).take i)) d c/\∀p,DY (A9 ((a.map (·.2)).take i)) p->H (d p)=none)
    ⟨none,none,none,none,λζ=>t,λζ ζ=>t,rfl,s1,rfl,?_,λp u=>ht⟩ (λi σ v aa=>by obtain⟨_,_,_,_,_,_,_,s,_⟩:=aa;exact Ae.of (s _ _ eD)) ?_ ?_⟩
   have nil:∀p,DY (A9 ((a.map (·.2)).take 0)) p->p=[]:=λp u=>by
    rcases u with h|⟨kw,h,_⟩;exact h;rw[Ee] at h;cases h
   refine⟨λp u=>?_,λp m k l=>?_,λp av u ay ζ=>(nil p u).trans (nil av ay).symm⟩;show au t=some (.dT (DB _ _ p));rw[et,Ee];rfl;rw[Ee] at l;cases l;rotate_left;refine λσ H2 E=>AO λL q=>?_;obtain⟨S,T,U,A,d,c,rfl,W,rfl,M,N⟩:=E;refine q ?_;clear q;rw[Al,<-Al (f:=(·.2)),Ev] at M N;exact ar d c H2 W M N;refine λi y aA σ H2 X hT E=>AO λL q=>?_;obtain⟨S,T,U,A,d,c,rfl,W,hd,M,N⟩:=E;refine q ?_;clear q;refine Ix ?_;intro Nx Cy;obtain⟨z,ab,rfl⟩:=getm X;have mz:=A6 ab;have aE:=(AN.mp ab).1;have az:(a.map (·.2))[i]?=some z.2:=by rw[A3,ab];rfl
   obtain⟨H3,a0,s3,eT⟩:=new_at (o:=.tup [.int (i:Int),.ref z.1]) hT;rw[<-a0];have ai:=W.trans s3;obtain⟨Y,ag,Z,_⟩:=(hz z mz).same ai;refine⟨_,Ar.of eT,rfl,?_⟩
   refine⟨⟨_,Ae.of ag⟩,FA (xs:=Y.map V.ref) (λj σ v=>∃(A:Option V)(d:List Ao->Addr)(c:List Ao->Ao->Addr),σ=[some (.ref D),some (.ref t),some (.int (i:Int)),some (.ref z.1),some (.ref (d (z.2.take j))),A]/\Ac H v/\RT GD v Y z.2/\v z.1=some (.lst (Y.map V.ref))/\d []=t/\Bf dW v (A9 ((a.map (·.2)).take i)++[(i,z.2.take j)]) d c/\∀p,DY (A9 ((a.map (·.2)).take i)++[(i,z.2.take j)]) p->H (d p)=none)
    ⟨A,d,c,by rw[Ee,hd];rfl,ai,Z,ag,hd,by rw[Ee];exact(M.sameW s3).begin,λp u=>N p ?_⟩ (λj σ v ζ aa=>by obtain⟨_,_,_,_,_,_,e,_⟩:=aa;exact Ae.of e) ?_ ?_⟩
   rw[Ee] at u;rcases u with h|⟨kw,h1,I⟩;exact .inl h;rcases BL.mp h1 with y|y;exact .inr ⟨kw,y,I⟩;rw[AW.mp y] at I;exact .inl (List.prefix_nil.mp I);rotate_left;refine λσ H4 E=>AO λL q=>?_;obtain⟨A,d,c,rfl,J,_,_,Q,B,G⟩:=E;refine q ?_;clear q;rw[Al,Z.len,Ev,<-ZK az] at B G;exact⟨_,_,_,_,d,c,rfl,J,Q,B,G⟩;refine λj y σ H4 X E=>AO λL q=>?_;obtain⟨A,d,c,rfl,J,O,e4,Q,B,G⟩:=E;refine q ?_;clear q;refine Ix ?_;intro Nx Cy;obtain⟨mk,aj,rfl⟩:=getm X;have hj:j<z.2.length:=by rw[<-Z.len];exact(AN.mp aj).1
   have ae:=AD hj;have ah:=O.at_ j _ _ aj ae;have tk:z.2.take (j+1)=z.2.take j++[z.2[j]]:=by rw[EG,ae];rfl
   generalize z.2[j]=m at ae ah tk;generalize hg:z.2.take j=g at B G tk ⊢;have ak:DY (A9 ((a.map (·.2)).take i)++[(i,g)]) g:=.inr ⟨_,CY _ (AW.mpr rfl),List.prefix_refl g⟩;have eB:=B.dct g ak;have aC:=Tj (A9 ((a.map (·.2)).take i)++[(i,g)]) g
   have aF:(A9 ((a.map (·.2)).take i)++[(i,g)]).length<=101:=by
    unfold A9;rw[AZ,Al,List.length_zipIdx,Fn,Al,DS];lia
   have lr:(DB (A9 ((a.map (·.2)).take i)++[(i,g)]) c g).length<sizeLine:=by unfold DB;rw[Al];exact BH (by lia)
   refine⟨Or.inr (Or.inr (Or.inl ⟨rfl,Or.inr ⟨_,eB⟩⟩)),λe he=>?_⟩;have s5:=AR (o:=.dT []) he;have ee:(upd H4 e (.dT [])) e=some (.dT []):=Aa;have al:=he;generalize upd H4 e (.dT [])=H5 at s5 ee ⊢;refine⟨B4,λT5 a1=>?_⟩;obtain⟨H6,a2,s6,R⟩:=new_at (o:=.tup [.int (i:Int),.ref e]) a1;rw[<-a2];have r:=s5.trans s6;refine⟨d g,_,FW m,mk,.ref T5,rfl,rfl,r _ _ eB,r _ _ ah,lr,λaB C=>?_,λC=>?_⟩;rw[OT] at C;by_cases l:m∈(TreeM.keysAt (A9 ((a.map (·.2)).take i)++[(i,g)]) g).map (·.1);rw[Ak l] at C;cases C;obtain⟨⟨m',k⟩,hk,rfl⟩:=AL.mp l;have a3:=B.tup g m' k hk;refine Or.inr (Or.inl ⟨_,.ref (d (g++[m'])),Ar.of (r _ _ a3),rfl,?_⟩);refine⟨some (.ref mk),d,c,by rw[tk];rfl,J.trans r,O.same r,r _ _ e4,Q,by rw[tk];exact(B.sameW r).stay l,λp u=>G p ((Qn l).mp (by rw[tk] at u;exact u))⟩;rw[Aj l] at C;cases C;have l:m∉(TreeM.keysAt (A9 ((a.map (·.2)).take i)++[(i,g)]) g).map (·.1):=λl=>by rw[OT,Ak l] at C;cases C
   refine AO λL q=>?_;obtain⟨d',c',T7,a4,a5,a6⟩:=B.grow l al G (J.free al) r (s6 _ _ ee) R;refine q ?_;clear q;have a7:∀{b o},H b=some o->b≠d g:=λ{b o}hb z=>by rw[z,G g ak] at hb;cases hb
   have s7:Ac H (upd H6 (d g) (.dT (AV (DB (A9 ((a.map (·.2)).take i)++[(i,g)]) c g) (FW m) (.ref T5)))):=λb o hb=>by
    rw[AC (a7 hb)];exact r _ _ (J _ _ hb)
   have af:=r _ _ eB;have a8:T5≠d g:=λy=>by rw[y,af] at R;cases R
   refine Or.inr (Or.inl ⟨_,.ref e,Ar.of (by rw[AC a8];exact R),rfl,?_⟩);refine⟨some (.ref mk),d',c',by rw[tk,a4];rfl,s7,⟨O.len,λn aw b h1 I=>?_⟩,?_,a6.trans Q,by rw[tk];exact T7,by rw[tk];exact a5⟩;have x:=r _ _ (O.at_ n aw b h1 I);rw[AC (Na x af (λz=>nomatch z))];exact x;have x:=r _ _ e4;rw[AC (Na x af (λz=>nomatch z))];exact x
inductive Eo (K:Ah) (vs:List V) (H:Hp) (Q:VK):Prop where
 |mk (nt S T R mk:Addr) (us Gs Es:List Addr) (ss:List Bp) (m:Ao) (h0:vs=[.ref nt,.ref mk]) (h1:Ar K H nt [.ref S,.ref T,.ref R]) (h2:C9 H S us Gs Es ss) (h3:Ar K H mk (GD m)) (h4:Ek ss m) (h5:Q (.str (FH ss m)) H):Eo K vs H Q
def iB (K:Ah):Sp:=λvs H Q ζ=>Eo K vs H Q
abbrev UA(P w K mg base):=BI P w K mg base "label_at" 1 ["net", "mark"] (iB K)
def iC(ab:BK mg)(F:BA K "label_at" "label_at" Rx f fd)(t:mg "label_at" = some (.ref f)):UA P w K mg base:=by
 refine Ca F t NM (λG H Q E h=>?_) (λai ae aj s H G Q E hr h=>?_);obtain⟨I,S,T,R,mk,us,J,M,A,m,rfl,_⟩:=h;rfl;obtain⟨I,S,T,R,mk,us,J,M,A,m,rfl,N,B,t,⟨n,k,L,v,g,j,C⟩,q⟩:=h;have Z:n<A.length:=(AN.mp j).1;obtain⟨u,af,E1,O,ag,ah,D,⟨U,⟨l,W,o⟩,⟨p,X,r⟩⟩⟩:=B.get Z;rw[j] at D;have Y:=Br D;rw[<-Y] at o r;have aa:Bz (us.map V.ref) m.1=some (.ref u):=by rw[v];exact B3 (by rw[A3,O];rfl)
 refine⟨_,(Ap (DE (pv 1) (Ck (n:=3) rfl (AF (Ay (i:=2) NM.nd) (AF (Ay (i:=3) NM.nd) (AF (Ay (i:=4) NM.nd) Cj)))))
  (Ap (DE (Av Aw (Av Aw (pv 0) Aq) (pv 2)) (Ck (n:=2) rfl (AF (Ay (i:=5) NM.nd) (AF (Ay (i:=6) NM.nd) Cj))))
  (Ap (Bv (B2 Dq (pv 3) BN (BW _)) (AA (AQ (Av Aw (Av Aw (pv 5) (pv 4)) Aq))) Bx)
  (AA (AQ (Av Aw (Av Aw (pv 6) (pv 4)) Aq)))))),?_⟩
 rfl';refine⟨_,t,rfl,?_⟩;refine Or.inr (Or.inl ⟨_,.ref S,N,rfl,Or.inl ⟨_,.ref u,Ae.of B.top,aa,?_⟩⟩);refine⟨_,Ar.of U,rfl,?_⟩;refine⟨rfl,rfl,As (λh=>?_) (λh=>?_)⟩;have b:m.2.1=("step" : Str):=V.str.inj (BM h);rcases C with⟨_,a⟩|⟨e,_⟩;have c:=AD a;rw[Zn v g j b c] at q;have d:l[k]?=some (l[k]'(by rw[o.len];exact a)):=AD _;have x:=o.at_ _ _ _ d c;have y:Bz (l.map V.ref) m.2.2=some (.ref (l[k]'(by rw[o.len];exact a))):=by rw[g];exact B3 (by rw[A3,d];rfl)
 exact Or.inl ⟨_,_,Ae.of W,y,Or.inr (Or.inl ⟨_,.str L.1[k].1,Ar.of x,rfl,q⟩)⟩;exact absurd (e.symm.trans b) S9;have b:m.2.1≠("step" : Str):=λz=>h (By (by rw[z]));rcases C with⟨e,_⟩|⟨_,a⟩;exact absurd e b;have c:=AD a;rw[Zo v g j b c] at q;have d:p[k]?=some (p[k]'(by rw[r.len];exact a)):=AD _;have x:=r.at_ _ _ _ d c;have y:Bz (p.map V.ref) m.2.2=some (.ref (p[k]'(by rw[r.len];exact a))):=by rw[g];exact B3 (by rw[A3,d];rfl)
 exact Or.inl ⟨_,_,Ae.of X,y,Or.inr (Or.inl ⟨_,.str L.2[k].1,Ar.of x,rfl,q⟩)⟩
def XW{bet:Ao->Ao->Bool}{ws:TreeM.Ws Ao}{a:List Ao}{m:Ao}{t:List Ao}:TreeM.gat bet ws a (m::t)=((TreeM.keysAt ws a).filter λb=>bet b.1 m).map (·.2)++TreeM.gat bet ws (a++[m]) t:=rfl
theorem XX{bet:Ao->Ao->Bool}{ws:TreeM.Ws Ao}:∀{b a:List Ao},(TreeM.gat bet ws a b).length<=b.length*ws.length
 |[],_=>C7 _
 |m::t,a=>by
   rw[XW,AZ,Al,Ew];have d:=PL (λc:Ao×Nat=>bet c.1 m) (TreeM.keysAt ws a);have e:=Tj ws a;have f:=XX (bet:=bet) (ws:=ws) (b:=t) (a:=a++[m]);rw[Nat.add_mul,Nat.one_mul];lia
inductive CU (K:Ah) (vs:List V) (H:Hp) (Q:VK):Prop where
 |mk (nt S T R bp l:Addr) (us Gs Es:List Addr) (ss:List Bp) (ord:A') (ws:TreeM.Ws Ao) (d:List Ao->Addr) (c:List Ao->Ao->Addr) (F:Addr->Prop) (w:List Ao) (h0:vs=[.ref nt,.ref bp,.ref (d []),.ref l]) (h1:H nt=some (.tup [.ref S,.ref T,.ref R])) (h2:C9 H S us Gs Es ss) (h3:HB H bp ord) (h4:Bf dF H ws d c) (h5:ws.length<=100) (h6:(∀kw∈ws,∀m∈kw.2,Ek ss m)) (h7:CC F H l w) (h8:Jm ss w) (h9:∀H',Ac H H'->Q (NA ((TreeM.gat (Cb ss ord) ws [] w).map λk:Nat=>(k:Int))) H'):CU K vs H Q
def iD (K:Ah):Sp:=λvs H Q ζ=>CU K vs H Q
abbrev Q3(P w K mg base):=BI P w K mg base "first_hider" 2 ["net", "better", "tree", "way"] (iD K)
def iE(a2:BK mg)(ao:UA P w K mg base)(F:BA K "first_hider" "first_hider" Ry f fd)(B:mg "first_hider" = some (.ref f)):Q3 P w K mg base:=by
 refine Ca F B MB (λvs H a3 a4 h=>?_) (λaQ aL aU s H vs a3 a4 hr h=>?_);obtain⟨L,S,T,R,O,l,us,Gs,Es,n,r,ws,d,c,F,w,rfl,_⟩:=h;rfl
 . obtain⟨L,S,T,R,O,l,us,Gs,Es,n,r,ws,d,c,F,w,rfl,eN,SC,BD,TT,a7,a8,⟨ms,el,rl,_⟩,ok,a5⟩:=h
   obtain⟨kb,eb,hb⟩:=BD
   refine⟨_,(Ap (AX (i:=4) MB.nd (Cg Af))
    (Ap (AX (i:=5) MB.nd (pv 2))
    (Ap (Do CK rfl (Dm (pv 3)) (Ay (i:=6) MB.nd) (Ap (AX (i:=7) MB.nd (A7 ao (Ab (pv 0) (Ab (pv 6) Af))))
     (Ap (Do CK rfl (Jn (pv 5)) (Ay (i:=8) MB.nd) (AA (Bv (B2 (VF (LI hr)) (Bn (Ab (A7 ao (Ab (pv 0) (Ab (pv 8) Af))) (Ab (pv 7) Af))) (pv 1) (by with_unfolding_all rfl)) (AA (DD (DG Dx Fu Fv FD (pv 4) (Ab (Av Aw (Vr (LI hr) (pv 5) (pv 8) (λζ ζ=>rfl)) Aq) Af)))) Bx)))
     (AA (AX (i:=5) MB.nd (Av Aw (YA (LI hr) (pv 5) (pv 6) (Bn (Ab Aq (Ab Ss Af))) ⟨rfl,rfl,rfl,rfl⟩) Aq))))))
    (AA (AQ (Jo rfl (by rfl) a2.b_min (Ab (pv 4) Af))))))),?_⟩
   rfl';refine⟨by decide,λN Y=>?_⟩;obtain⟨aM,a9,s1,aA⟩:=new_at (o:=.lst []) Y;rw[<-a9];refine EE ?_;cbv;refine EE ?_;cbv
   refine⟨⟨_,Ae.of (s1 _ _ el)⟩,FA (xs:=ms.map V.ref) (λj σ p=>∃(a:Addr)(u6 u7 C:Option V)(ns:List Nat),σ=[some (.ref L),some (.ref O),some (.ref (d [])),some (.ref l),some (.ref N),some (.ref a),u6,u7,C]/\Ac H p/\p N=some (.lst ((ns.map λk:Nat=>(k:Int)).map V.int))/\ns++TreeM.gat (Cb n r) ws (w.take j) (w.drop j)=TreeM.gat (Cb n r) ws [] w/\a≠N/\((DY ws (w.take j)/\a=d (w.take j))\/(¬DY ws (w.take j)/\H a=none/\Rd p a (.dT []))))
    ⟨d [],none,none,none,[],rfl,s1,aA,rfl,?_,.inl ⟨.inl rfl,rfl⟩⟩ (λj σ p ζ ae=>by obtain⟨_,_,_,_,_,_,s,_⟩:=ae;exact Ae.of (s _ _ el)) ?_ ?_⟩
   obtain⟨o,x⟩:=TT.dct [] (.inl rfl);exact A1 x Y;rotate_left;refine λσ D af=>AO λNz U=>?_;obtain⟨a,u6,u7,C,ns,rfl,A,ag,u,_⟩:=af;refine U ?_;clear U;rw[Al,rl.len,List.drop_length] at u;have u:ns=_:=(FN ns).symm.trans u;subst u;exact⟨N,_,rfl,ag,a5 D A⟩;refine λj aN σ D hy af=>AO λNz U=>?_;obtain⟨a,u6,u7,C,ns,rfl,A,ag,u,aq,ah⟩:=af;refine U ?_;clear U;refine Ix ?_;intro Nx Cy;obtain⟨mk,ar,rfl⟩:=getm hy;have hj:j<w.length:=by rw[<-rl.len];exact(AN.mp ar).1
   have ai:=AD hj;have ab:=rl.at_ j _ _ ar ai;have au:=ok.1 _ (Ec hj);have tk:w.take (j+1)=w.take j++[w[j]]:=by rw[EG,ai];rfl
   have dk:w.drop j=w[j]::w.drop (j+1):=MX hj;rw[dk,XW] at u;generalize w[j]=m at ai ab tk au u;generalize aR:w.take j=g at tk u ah ⊢;refine⟨L,S,T,R,mk,us,Gs,Es,n,m,rfl,Ar.of (A _ _ eN),SC.same A,Ar.of (A _ _ ab),au,?_⟩;refine EE ?_;cbv
   have aB:Rd D a (.dT (DB ws c g)):=by
    rcases ah with⟨v,q⟩|⟨v,_,q⟩;obtain⟨o,x⟩:=TT.dct g v;rw[q];exact .inr ⟨o,A _ _ x⟩;unfold DB;rw[Wv v];exact q
   refine Nl (λσ' p=>∃(C:Option V),σ'=[some (.ref L),some (.ref O),some (.ref (d [])),some (.ref l),some (.ref N),some (.ref a),some (.ref mk),some (.str (FH n m)),C]/\Ac H p/\p N=some (.lst (((ns++((TreeM.keysAt ws g).filter λE=>Cb n r E.1 m).map (·.2)).map λk:Nat=>(k:Int)).map V.int))/\Rd p a (.dT (DB ws c g))) ?_ (λN' aC=>?_)
   case refine_2 =>
    refine⟨a,_,rfl,aB,λo G=>?_⟩
    have Q:Ac H (upd D a (.frz o (.dT (DB ws c g)))):=λb a6 e=>by
     by_cases av:b=a;subst av;rw[Aa];rcases ah with⟨v,q⟩|⟨_,q,_⟩;obtain⟨o',x⟩:=TT.dct g v;rw[<-q] at x;have x2:=A _ _ x;rcases G with G|G;rw[x2] at G;cases G;rw[x2] at G;cases G;rw[x] at e;exact e;rw[e] at q;cases q;rw[AC av];exact A _ _ e
    have M:(upd D a (.frz o (.dT (DB ws c g)))) N=_:=(AC (Ne.symm aq)).trans ag;have aw:(upd D a (.frz o (.dT (DB ws c g)))) a=some (.frz o (.dT (DB ws c g))):=Aa;generalize upd D a (.frz o (.dT (DB ws c g)))=H3 at Q M aw ⊢
    refine Zx (λi σ p=>∃(C:Option V),σ=[some (.ref L),some (.ref O),some (.ref (d [])),some (.ref l),some (.ref N),some (.ref a),some (.ref mk),some (.str (FH n m)),C]/\Ac H p/\p N=some (.lst (((ns++(((TreeM.keysAt ws g).take i).filter λE=>Cb n r E.1 m).map (·.2)).map λk:Nat=>(k:Int)).map V.int))/\p a=some (.frz o (.dT (DB ws c g))))
     ⟨_,rfl,Q,by rw[Ee];show H3 N=some (.lst (((ns++[]).map _).map _));rw[FN];exact M,aw⟩ (λi σ p ζ ae=>by obtain⟨_,_,_,_,e⟩:=ae;exact e) ?_ ?_
    rotate_left;rintro σ H4 ⟨aj,rfl,I,J,W⟩;unfold DB at J;rw[Al,Ev] at J;exact aC _ _ ⟨aj,rfl,I,J,.inr ⟨o,W⟩⟩;rintro i k aO b σ H4 hi ax ⟨aj,rfl,I,J,W⟩;unfold DB at hi;rw[A3] at hi;obtain⟨⟨x,aa⟩,hx,e⟩:=E7.mp hi;have e1:=Bw Prod.fst e;have e2:=Bw Prod.snd e;dsimp only at e1 e2;subst e1 e2;have mx:=A6 hx;have ak:x∈(TreeM.keysAt ws g).map (·.1):=AL.mpr ⟨_,mx,rfl⟩
    have aD:Ek n x:=by
     obtain⟨kw,v,q⟩:=TreeM.keysAt_mem.mp ak;exact a8 kw v x (q.subset (by simp))
    have aE:=TT.tup g x aa mx
    have aS:DY ws g:=by
     obtain⟨kw,v,q⟩:=TreeM.keysAt_mem.mp ak;exact .inr ⟨kw,v,(Ii g _).trans q⟩
    have ay:(TreeM.keysAt ws g).take (i+1)=(TreeM.keysAt ws g).take i++[(x,aa)]:=by rw[EG,hx];rfl
    refine⟨L,S,T,R,b,us,Gs,Es,n,x,rfl,Ar.of (I _ _ eN),SC.same I,Ar.of ax,aD,?_⟩;refine⟨B4,λaP hp=>?_⟩;obtain⟨H5,al,t,ep⟩:=new_at (o:=.tup [.str (FH n x),.str (FH n m)]) hp;rw[<-al];have y:=I.trans t;refine⟨O,_,rfl,C8.t (k:=Fj (FH n x,FH n m)) (y _ _ eb) ep,rfl,?_⟩;rw[hb];refine As (λh=>?_) (λh=>?_);have an:Cb n r x m=true:=(by simpa [Cb] using h);refine⟨Or.inl ⟨rfl,_,Ae.of (t _ _ J)⟩,a,.ref (c g x),rfl,?_,Or.inr (Or.inl ⟨_,.int (aa:Int),Ar.of (y _ _ aE),rfl,_,t _ _ J,?_,?_⟩)⟩;refine .inr ⟨_,FW x,b,.inr ⟨o,t _ _ W⟩,rfl,t _ _ ax,?_⟩;rw[OT,Ak ak];rw[Al,Al,AZ,Al];have v:=PL (λE:Ao×Nat=>Cb n r E.1 m) ((TreeM.keysAt ws g).take i);have q:=Tj ws g;have h3:(((TreeM.keysAt ws g).take i)).length<=(TreeM.keysAt ws g).length:=by rw[Fn];lia
    have h4:=Bw List.length u;have h5:=XX (bet:=Cb n r) (ws:=ws) (b:=w) (a:=[]);have h6:w.length*ws.length<=100*100:=Nat.mul_le_mul ok.2 a7;rw[AZ] at h4;exact Zp (by lia);refine⟨_,rfl,λb' a6 e=>?_,?_,?_⟩;rw[AC (A1 e Y)];exact y _ _ e;rw[Aa,ay,M1,MY,Ak an]
    simp
    rw[AC aq];exact t _ _ W;have an:¬Cb n r x m=true:=(by simpa [Cb] using h);refine⟨_,rfl,y,?_,t _ _ W⟩;rw[ay,M1,MY,Aj an];simpa using t _ _ J
   rintro σ' H3 ⟨aj,rfl,Q,M,a1⟩;have aT:((DB ws c g).map (·.1)).length=(DB ws c g).length:=Al _;refine⟨a,rfl,.inr ⟨_,a1⟩,λe Z=>?_⟩;obtain⟨H4,aF,I,ee⟩:=new_at (o:=.dT []) Z;rw[<-aF];refine⟨B4,λT5 aG=>?_⟩;obtain⟨H5,al,t,aH⟩:=new_at (o:=.tup [.int 0,.ref e]) aG;rw[<-al];have X:=I.trans t;have y:=Q.trans X;have aK:Rd H5 a (.dT (DB ws c g)):=a1.elim (λz=>.inl (X _ _ z)) λ⟨o,z⟩=>.inr ⟨o,X _ _ z⟩;have aI:e≠N:=λz=>by rw[z,M] at Z;cases Z
   refine⟨_,.inr ⟨_,FW m,mk,aK,rfl,y _ _ ab,rfl⟩,?_⟩;rw[OT];have az:(ns++((TreeM.keysAt ws g).filter λE=>Cb n r E.1 m).map (·.2))++TreeM.gat (Cb n r) ws (g++[m]) (w.drop (j+1))=TreeM.gat (Cb n r) ws [] w:=by rw[FZ];exact u
   by_cases B:m∈(TreeM.keysAt ws g).map (·.1);rw[Ak B];obtain⟨⟨m',k⟩,hk,rfl⟩:=AL.mp B;have aJ:=TT.tup g m' k hk;have a0:=Fi.mpr B;refine Or.inr (Or.inl ⟨_,.ref (d (g++[m'])),Ar.of (y _ _ aJ),rfl,?_⟩);refine⟨_,_,_,_,_,rfl,y,X _ _ M,by rw[tk];exact az,?_,.inl ⟨by rw[tk];exact a0,by rw[tk]⟩⟩;obtain⟨o,x⟩:=TT.dct _ a0;exact A1 x Y;rw[Aj B];refine Or.inr (Or.inl ⟨_,.ref e,Ar.of aH,rfl,?_⟩);exact⟨_,_,_,_,_,rfl,y,X _ _ M,by rw[tk];exact az,aI,.inr ⟨λz=>B (Fi.mp (by rw[tk] at z;exact z)),Q.free Z,.inl (t _ _ ee)⟩⟩
inductive DP (K:Ah) (vs:List V) (H:Hp) (Q:VK):Prop where
 |mk (nt S T R t D:Addr) (us Gs Es:List Addr) (ss:List Bp) (F G:Addr->Prop) (sts:List D9) (inn:Int) (ord:A') (zs:List (Addr×List Ao)) (h0:vs=[.ref nt,.ref t,.ref D]) (h1:H nt=some (.tup [.ref S,.ref T,.ref R])) (h2:C9 H S us Gs Es ss) (h3:FU K F H t sts inn ord) (h4:ord.length<=40) (h5:(∀x,(x,x)∉ord)) (h6:H D=some (.lst (zs.map λz=>V.ref z.1))) (h7:(∀z∈zs,CC G H z.1 z.2)) (h8:(∀z∈zs,Jm ss z.2)) (h9:zs.length<=100) (h10:∀(P:Addr)(ys:List (Addr×List Ao))(H':Hp),H P=none->Ac H H'->H' P=some (.lst (ys.map λz=>V.ref z.1))->(∀z∈ys,CC (λl=>H l=none/\l≠P) H' z.1 z.2)->ys.map (·.2)=Co ss ord (zs.map (·.2)) (zs.map (·.2))->Q (.ref P) H'):DP K vs H Q
def iF (K:Ah):Sp:=λvs H Q ζ=>DP K vs H Q
abbrev UB(P w K mg base):=BI P w K mg base "seen_ways" 3 ["net", "table", "ways"] (iF K)
def iG(ar:BK mg)(a0:Q1 P w K mg base)(a1:Q2 P w K mg base)(a2:Q3 P w K mg base)(F:BA K "seen_ways" "seen_ways" PR f fd)(L:mg "seen_ways" = some (.ref f)):UB P w K mg base:=by
 refine Ca F L Uk (λa H au av h=>?_) (λaB a9 aE s H a au av hr h=>?_);obtain⟨nt,S,aa,ab,t,ae,us,Gs,Es,g,F,G,ag,ah,n,d,rfl,_⟩:=h;rfl;obtain⟨nt,S,aa,ab,t,ae,us,Gs,Es,g,F,G,ag,ah,n,d,rfl,eN,SC,TB,ay,ai,M,q,aj,lz,aw⟩:=h
 refine⟨_,(Ap (AX (i:=3) Uk.nd (A7 a0 (Ab (pv 1) Af)))
  (Ap (AX (i:=4) Uk.nd (HA (A7 a1 (Ab (pv 2) Af))))
  (AA (AQ (GC (te:=P9 (Jf K) (FQ (Bs 0) Fc)) rfl CS (Dm (pv 2)) (λζ ζ ζ ζ ζ=>(Ay (i:=0) CS.nd)) (λζ ζ ζ ζ ζ=>(OB (Fo (F5 (A7 a2 (Ab (pv 1) (Ab (pv 2) (Ab (pv 3) (Ab (pv 0) Af))))))))) (λζ ζ ζ ζ ζ=>(IR Vk ar.b_list (Ab (pv 0) Af)))))))),?_⟩
 rfl';refine⟨t,F,ag,ah,n,rfl,TB,ay,λbp aA aC N BD=>?_⟩;refine⟨ae,G,d,rfl,N _ _ M,λz h=>(q z h).same N,lz,λax c H2 s2 T2 ak H3 r f4=>?_⟩;have s3:=r.same s2;have T3:=T2.frz ak r f4;have a3:=BD.same s3;clear T2 ak r f4 s2 BD;have p:=N.trans s3;have lw:(A9 (d.map (·.2))).length<=100:=by unfold A9;rw[Al,List.length_zipIdx,Al];exact lz
 have a4:∀kw∈A9 (d.map (·.2)),∀m∈kw.2,Ek g m:=λkw a5 m L=>by
  obtain⟨z,h1,h2⟩:=AL.mp (A6 (Dc.mp a5));exact(aj z h1).1 m (by rw[h2];exact L)
 refine⟨⟨_,Ae.of (p _ _ M)⟩,SW (xs:=d.map λz=>V.ref z.1) (λP i u C=>∃a:List (Addr×List Ao),u=(a.map λz=>V.ref z.1)/\Ac H3 C/\C P=some (.lst u)/\(∀z∈a,CC (λl=>H l=none/\l≠P) C z.1 z.2)/\a.map (·.2)=Co g n (d.map (·.2)) ((d.map (·.2)).take i)/\a.length<=i)
  (λP y=>⟨[],rfl,AR y,Aa,λz q=>by simp at q,by rw[Ee];rfl,AE _⟩) (λP i u C a6=>by obtain⟨_,_,s,_⟩:=a6;exact Ae.of (s _ _ (p _ _ M))) (λP i af u H4 RR R0 y hy O k k0=>?_) (λP u H4 y O=>?_)⟩
 refine AO λNz A=>?_;obtain⟨a,rfl,j,Q,J,B,lv⟩:=O;refine A ?_;clear A;obtain⟨z,U,rfl⟩:=getm hy;have aD:i<d.length:=(AN.mp U).1;have R:=A6 U;have al:(d.map (·.2))[i]?=some z.2:=by rw[A3,U];rfl
 have W:=p.trans j;refine⟨nt,S,aa,ab,bp,z.1,us,Gs,Es,g,n,_,ax,c,G,z.2,rfl,W _ _ eN,SC.same W,a3.same j,T3.same j,lw,a4,(q z R).same W,aj z R,λH5 D=>?_⟩;have X:=j.trans D;have an:=p.trans X;have Y:=D _ _ Q;refine⟨rfl,As (λh=>?_) (λh=>?_)⟩;have Z:=(Qo ai).mp (CD.mp (BM h));obtain⟨ms,az,r,_⟩:=(q z R).same an;refine⟨z.1,_,rfl,Or.inl (Ae.of az),λl E=>?_⟩;obtain⟨H6,a7,I,el⟩:=new_at (o:=.lst (ms.map V.ref)) E;rw[<-a7];have ao:=I _ _ Y;have aq:l≠P:=λaf=>by rw[af,Y] at E;cases E
 have T:Keeps (·=P) H6 (upd H6 P (.lst (a.map (λz=>V.ref z.1)++[.ref l]))):=Keeps.one ao;refine k _ _ ao (by rw[Al];exact BH (by lia)) ⟨a++[(l,z.2)],by rw[Bh];rfl,λb o e=>?_,Aa,λw a8=>?_,?_,by rw[AZ,DS];lia⟩;rw[AC (A1 e y)];exact I _ _ (X _ _ e);rcases BL.mp a8 with h|h;exact((J w h).same (D.trans I)).keeps T λx hx=>hx.2;rw[AW.mp h];exact⟨ms,T.at_ _ _ el aq,(r.same I).keeps T,an.free E,aq⟩;rw[Wz al,Aj (by rw[Z];exact CB),Bh,B];rfl
 have Z:((d.map (·.2)).any λv=>BZ g n v z.2)=true:=by
  cases e:(d.map (·.2)).any λv=>BZ g n v z.2 with
  |true=>rfl
  |false=>exact absurd (By (CD.mpr ((Qo ai).mpr e))) h
 exact k0 _ ⟨a,rfl,X,Y,λw hw=>(J w hw).same D,by rw[Wz al,Ak Z];exact B,by lia⟩;refine AO λNz A=>?_;obtain⟨a,rfl,j,Q,J,B,lv⟩:=O;refine A ?_;clear A;rw[Al,<-Al (f:=(·.2)),Ev] at B;exact aw P a H4 ((p).free y) (p.trans j) Q J B
inductive Ep (K:Ah) (vs:List V) (H:Hp) (Q:VK):Prop where
 |mk (nt A t D:Addr) (x:Str) (F G:Addr->Prop) (W:Wd) (inn:Int) (ord:A') (sc st:Int) (zs:List (Addr×AK)) (h0:vs=[.ref nt,.ref t,.ref D,.str x]) (h1:Bq K H nt A t W) (h2:FU K F H t W.sts inn ord) (h3:BP W) (h4:Be W) (h5:ord.length<=40) (h6:(∀x,(x,x)∉ord)) (h7:(0<=sc/\sc<W.ss.length)) (h8:(0<=st/\st<W.sts.length)) (h9:H D=some (.lst (zs.map λz=>V.ref z.1))) (h10:(∀z∈zs,Dr G H z.1 z.2)) (h11:C1 W sc st (zs.map (·.2))) (h12:∀(r D2 P:Addr)(ws ys:List (Addr×List Ao))(H':Hp),Ac H H'->H' r=some (.tup [.ref D,.ref D2,.ref P])->H D2=none->H' D2=some (.lst (ws.map λz=>V.ref z.1))->(∀z∈ws,CC (λl=>H l=none) H' z.1 z.2)->Nv W x (zs.map (·.2)) (ws.map (·.2))->H P=none->H' P=some (.lst (ys.map λz=>V.ref z.1))->(∀z∈ys,CC (λl=>H l=none) H' z.1 z.2)->ys.map (·.2)=Co W.ss ord (ws.map (·.2)) (ws.map (·.2))->Q (.ref r) H'):Ep K vs H Q
def iH (K:Ah):Sp:=λvs H Q ζ=>Ep K vs H Q
abbrev UC(P w K mg base):=BI P w K mg base "look_for" 4 ["net", "table", "begun", "name"] (iH K)
def iI(aj:BK mg)(aa:Uz P w K mg base)(ab:UB P w K mg base)(F:BA K "look_for" "look_for" Rz f fd)(N:mg "look_for" = some (.ref f)):UC P w K mg base:=by
 refine Ca F N XI (λO H Q E h=>?_) (λal A an s H O Q E y h=>?_);obtain⟨j,A,t,D,x,F,G,W,J,L,k,l,m,rfl,_⟩:=h;rfl;obtain⟨j,A,t,D,x,F,G,W,J,L,k,l,m,rfl,B,U,ok,C,V,ae,e,g,X,Y,c,q⟩:=h;obtain⟨S,T,R,us,Z,Es,ts,qt,qs,eN,N3⟩:=B.net
 refine⟨_,(Ap (AX (i:=4) XI.nd (A7 aa (Ab (pv 0) (Ab (pv 1) (Ab (pv 2) (Ab (pv 3) Af))))))
  (AA (AQ (Bn (Ab (pv 2) (Ab (pv 4) (Ab (A7 ab (Ab (pv 0) (Ab (pv 1) (Ab (pv 4) Af)))) Af))))))),?_⟩
 rfl';refine⟨j,A,t,D,x,G,W,m,rfl,B,ok,X,Y,λz af=>((c.mem _).mp (AL.mpr ⟨z,af,rfl⟩)).ok ok e g,C.fnd x k l _ e g c,λn d ak ag a M I p=>?_⟩;have ah:∀z∈d,z.2∈DK W x (m.map (·.2)):=λz h=>p.perm.mem_iff.mp (AL.mpr ⟨z,h,rfl⟩)
 have lw:d.length<=100:=by
  have h1:=p.perm.length_eq;have h2:=C.fnd x k l _ e g c;rw[Al] at h1;lia
 refine⟨j,S,T,R,t,n,us,Z,Es,W.ss,F,_,W.sts,J,L,d,rfl,a _ _ eN,N3.sc.same a,U.same a,V,ae,M,I,λz h=>Qk ok e g c (ah z h),lw,λP ys H2 hP u eP hy ai=>?_⟩;refine⟨GW,λr y=>?_⟩;have b:=AR (o:=.tup [.ref D,.ref n,.ref P]) y;refine q r n P d ys _ ((a.trans u).trans b) Aa ag (b _ _ (u _ _ M)) (λz h=>(((I z h).mono' λζ ζ ζ v=>v.1).same u).same b) p (a.free hP) (b _ _ eP) (λz h=>((hy z h).mono' λx o ζ v=>a.free v.1).same b) ai
inductive Di (K:Ah) (vs:List V) (H:Hp) (Q:VK):Prop where
 |mk (nt S T R t D O:Addr) (us Gs Es:List Addr) (ss:List Bp) (F G:Addr->Prop) (sts:List D9) (inn:Int) (ord:A') (ws:List (Addr×List Ao)) (os:List (Addr×Ow)) (h0:vs=[.ref nt,.ref t,.ref D,.ref O]) (h1:H nt=some (.tup [.ref S,.ref T,.ref R])) (h2:C9 H S us Gs Es ss) (h3:FU K F H t sts inn ord) (h4:ord.length<=40) (h5:(∀x,(x,x)∉ord)) (h6:H D=some (.lst (ws.map λz=>V.ref z.1))) (h7:(∀z∈ws,CC G H z.1 z.2)) (h8:(∀z∈ws,Jm ss z.2)) (h9:ws.length<=100) (h10:H O=some (.lst (os.map λz=>V.ref z.1))) (h11:(∀z∈os,Fs G H z.1 z.2)) (h12:(∀z∈os,Jm ss z.2.1)) (h13:∀(v:V)(H':Hp),Ac H H'->Tt G H' v (EN ss ord (ws.map (·.2)) (os.map (·.2)))->Q v H'):Di K vs H Q
def iJ (K:Ah):Sp:=λvs H Q ζ=>Di K vs H Q
abbrev UD(P w K mg base):=BI P w K mg base "first_owed" 3 ["net", "table", "found", "owed"] (iJ K)
def iK(a1:BK mg)(aq:Q1 P w K mg base)(ar:Q2 P w K mg base)(au:Q3 P w K mg base)(F:BA K "first_owed" "first_owed" RA f fd)(u:mg "first_owed" = some (.ref f)):UD P w K mg base:=by
 refine Ca F u Pk (λvs aj ak al h=>?_) (λa4 a2 a6 s aj vs ak al hr h=>?_);obtain⟨y,S,T,R,t,D,O,us,J,L,b,F,G,aa,ab,g,a,p,rfl,_⟩:=h;rfl
 . obtain⟨y,S,T,R,t,D,O,us,J,L,b,F,G,aa,ab,g,a,p,rfl,eN,SC,TB,ao,ae,eD,hw,av,af,M,ho,aw,q⟩:=h
   refine⟨_,(Ap (AX (i:=4) Pk.nd (A7 aq (Ab (pv 1) Af)))
    (Ap (AX (i:=5) Pk.nd (HA (A7 ar (Ab (pv 2) Af))))
    (Ap (Do CK rfl (Dm (pv 3)) (Ck (n:=2) rfl (AF (Ay (i:=6) Pk.nd) (AF (Ay (i:=7) Pk.nd) Cj))) (AA (Bv (Fo (F5 (A7 au (Ab (pv 0) (Ab (pv 4) (Ab (pv 5) (Ab (pv 6) Af))))))) (AA (AQ (Bn (Ab (pv 6) (Ab (pv 7) Af))))) Bx)))
    (AA (AQ F4))))),?_⟩
   rfl';refine⟨t,F,aa,ab,g,rfl,TB,ao,λN a3 a5 A Q=>?_⟩;refine⟨D,G,a,rfl,A _ _ eD,λz h=>(hw z h).same A,af,λd c H2 U W ag H3 B X=>?_⟩;have Y:=B.same U;have T3:=W.frz ag B X;have ax:=Q.same Y;clear W ag B X U Q;have r:=A.trans Y;have lw:(A9 (a.map (·.2))).length<=100:=by unfold A9;rw[Al,List.length_zipIdx,Al];exact af
   have ay:∀Z∈A9 (a.map (·.2)),∀m∈Z.2,Ek b m:=λZ az m u=>by
    obtain⟨z,h1,h2⟩:=AL.mp (A6 (Dc.mp az));exact(av z h1).1 m (by rw[h2];exact u)
   refine⟨⟨_,Ae.of (r _ _ M)⟩,FA (xs:=p.map λz=>V.ref z.1) (λi σ H'=>∃C E,σ=[some (.ref y),some (.ref t),some (.ref D),some (.ref O),some (.ref N),some (.ref (d [])),C,E]/\Ac H3 H'/\EN b g (a.map (·.2)) (p.map (·.2))=EN b g (a.map (·.2)) ((p.map (·.2)).drop i))
    ⟨none,none,rfl,λζ ζ e=>e,rfl⟩ (λi σ H' ζ a0=>by obtain⟨_,_,_,s,_⟩:=a0;exact Ae.of (s _ _ (r _ _ M))) ?_ ?_⟩
   rotate_left;rintro σ H4 ⟨C,E,rfl,j,k⟩;rw[Al,<-Al (f:=(·.2)),List.drop_length] at k;refine q _ _ (r.trans j) ?_;rw[k];rfl;rintro i x σ H4 hx ⟨C,E,rfl,j,k⟩;obtain⟨z,ah,rfl⟩:=getm hx;have mz:=A6 ah;have H:=r.trans j;obtain⟨l,e1,wl⟩:=((ho z mz).same H).way;have hd:=Tu (l:=p.map (·.2)) (i:=i) (x:=z.2) (by rw[A3,ah];rfl);rw[hd] at k;refine⟨_,Ar.of e1,rfl,?_⟩;refine⟨y,S,T,R,N,l,us,J,L,b,g,_,d,c,G,z.2.1,rfl,H _ _ eN,SC.same H,ax.same j,T3.same j,lw,ay,wl,aw z mz,λH5 s5=>?_⟩;have ai:=j.trans s5;refine⟨rfl,As (λh=>?_) (λh=>?_)⟩;have I:=(Qo ae).mp (CD.mp (BM h));refine⟨B4,λan hp=>?_⟩;have s6:=AR (o:=.tup [.ref l,.int z.2.2]) hp;refine q _ _ ((r.trans ai).trans s6) ?_;rw[k,Tv I];exact⟨an,l,rfl,Aa,(wl.same s5).same s6⟩
   have I:((a.map (·.2)).any λv=>BZ b g v z.2.1)=true:=by
    cases e:(a.map (·.2)).any λv=>BZ b g v z.2.1 with
    |true=>rfl
    |false=>exact absurd (By (CD.mpr ((Qo ae).mpr e))) h
   exact⟨_,_,rfl,ai,by rw[k,Tx I]⟩
inductive Dj (K:Ah) (vs:List V) (H:Hp) (Q:VK):Prop where
 |mk (nt S T R mk:Addr) (us Gs Es:List Addr) (ss:List Bp) (m:Ao) (h0:vs=[.ref nt,.ref mk]) (h1:Ar K H nt [.ref S,.ref T,.ref R]) (h2:C9 H S us Gs Es ss) (h3:Ar K H mk (GD m)) (h4:Ek ss m) (h5:m.2.1=("told" : Str)) (h6:∀t,H t=some (.tup (Ga (Jt ss m)))->Q (.ref t) H):Dj K vs H Q
def iL (K:Ah):Sp:=λvs H Q ζ=>Dj K vs H Q
abbrev Pt(P w K mg base):=BI P w K mg base "telling_at" 1 ["net", "mark"] (iL K)
def iM(B:BK mg)(F:BA K "telling_at" "telling_at" RB f fd)(c:mg "telling_at" = some (.ref f)):Pt P w K mg base:=by
 refine Ca F c Pl (λx H Q E h=>?_) (λag A ah s H x Q E hr h=>?_);obtain⟨y,S,T,R,mk,us,z,C,j,m,rfl,_⟩:=h;rfl;obtain⟨y,S,T,R,mk,us,z,C,j,m,rfl,D,l,c,⟨n,k,aa,o,p,d,G⟩,Y,q⟩:=h;have W:n<j.length:=(AN.mp d).1;obtain⟨u,ab,I,J,ae,af,r,⟨L,⟨tG,b1,M⟩,⟨a,N,b⟩⟩⟩:=l.get W;rw[d] at r;have O:=Br r;rw[<-O] at M b;have X:Bz (us.map V.ref) m.1=some (.ref u):=by rw[o];exact B3 (by rw[A3,J];rfl)
 refine⟨_,(Ap (DE (pv 1) (Ck (n:=3) rfl (AF (Ay (i:=2) Pl.nd) (AF (Ay (i:=3) Pl.nd) (AF (Ay (i:=4) Pl.nd) Cj)))))
  (Ap (AX (i:=5) Pl.nd (Av Aw (Av Aw (Av Aw (pv 0) Aq) (pv 2)) Aq))
  (AA (AQ (Av Aw (pv 5) (pv 4)))))),?_⟩
 rfl';refine⟨_,c,rfl,?_⟩;refine Or.inr (Or.inl ⟨_,.ref S,D,rfl,Or.inl ⟨_,.ref u,Ae.of l.top,X,Or.inr (Or.inl ⟨_,.ref I,Ar.of L,rfl,?_⟩)⟩⟩);rcases G with⟨e,_⟩|⟨_,g⟩;exact absurd (Y.symm.trans e) S9;have t:=AD g;rw[Tr o p d t] at q;have v:a[k]?=some (a[k]'(by rw[b.len];exact g)):=AD _;have U:=b.at_ _ _ _ v t;have Z:Bz (a.map V.ref) m.2.2=some (.ref (a[k]'(by rw[b.len];exact g))):=by rw[p];exact B3 (by rw[A3,v];rfl)
 exact Or.inl ⟨_,_,Ae.of N,Z,q _ U⟩
inductive Dk (K:Ah) (vs:List V) (H:Hp) (Q:VK):Prop where
 |mk (nt A t P:Addr) (G:Addr->Prop) (W:Wd) (ys:List (Addr×List Ao)) (h0:vs=[.ref nt,.ref A,.ref P]) (h1:Bq K H nt A t W) (h2:Be W) (h3:H P=some (.lst (ys.map λz=>V.ref z.1))) (h4:(∀z∈ys,CC G H z.1 z.2)) (h5:(∀z∈ys,CH W.ss z.2)) (h6:∀(v:V)(H':Hp),Ac H H'->Tt G H' v (EF W (ys.map (·.2)))->Q v H'):Dk K vs H Q
def iN (K:Ah):Sp:=λvs H Q ζ=>Dk K vs H Q
abbrev UE(P w K mg base):=BI P w K mg base "first_open" 2 ["net", "answers", "seen"] (iN K)
def iO(an:BK mg)(aj:Pt P w K mg base)(F:BA K "first_open" "first_open" RC f fd)(hm:mg "first_open" = some (.ref f)):UE P w K mg base:=by
 refine Ca F hm NN (λvs H Q aa h=>?_) (λao A ar s H vs Q aa hr h=>?_);obtain⟨g,A,t,P,ab,W,c,rfl,_⟩:=h;rfl
 . obtain⟨g,A,t,P,ab,W,c,rfl,I,sm,J,hy,R,q⟩:=h
   obtain⟨ae,af,ag,us,Gs,Es,ts,qt,qs,eN,N3⟩:=I.net
   refine⟨_,(Ap (Do CK rfl (Dm (pv 2)) (Ay (i:=3) NN.nd) (Ap (DE (A7 aj (Ab (pv 0) (Ab (Av Aw (pv 3) (IK IL Aq)) Af))) (Ck (n:=4) rfl (AF (Ay (i:=4) NN.nd) (AF (Ay (i:=5) NN.nd) (AF (Ay (i:=6) NN.nd) (AF (Ay (i:=7) NN.nd) Cj))))))
    (AA (Bv (PW.pt (IH (B2 Dq (pv 6) BN (BW _)) (IG (Fo (F5 (Av Aw (pv 1) (pv 7))))))) (AA (AQ (Bn (Ab (pv 3) (Ab (pv 7) Af))))) Bx))))
    (AA (AQ F4))),?_⟩
   try dsimp only[AG,Cx.nox,Cx.wish]
   refine⟨⟨_,Ae.of J⟩,FA (xs:=c.map λz=>V.ref z.1) (λi σ L=>∃j r u v y,σ=[some (.ref g),some (.ref A),some (.ref P),j,r,u,v,y]/\Ac H L/\EF W (c.map (·.2))=EF W ((c.map (·.2)).drop i))
    ⟨none,none,none,none,none,rfl,λζ ζ e=>e,rfl⟩ (λi σ L ζ ak=>by obtain⟨_,_,_,_,_,_,s,_⟩:=ak;exact Ae.of (s _ _ J)) ?_ ?_⟩
   rotate_left;refine λσ H4 E=>AO λNz d=>?_;obtain⟨j,r,u,v,y,rfl,a,b⟩:=E;refine d ?_;clear d;rw[Al,<-Al (f:=(·.2)),List.drop_length] at b;refine q _ _ a ?_;rw[b];rfl;refine λi x σ H4 hx E=>AO λNz d=>?_;obtain⟨j,r,u,v,y,rfl,a,b⟩:=E;refine d ?_;clear d;obtain⟨z,S,rfl⟩:=getm hx;have B:=A6 S;have hd:=Tu (l:=c.map (·.2)) (i:=i) (x:=z.2) (by rw[A3,S];rfl);rw[hd] at b;have tk:=Ma sm (R z B);have M:=(hy z B).same a;obtain⟨vv,m,N,mo,ai⟩:=R z B;have T:=M;rw[N] at T;obtain⟨ms,mk,l1,l2,l3⟩:=WG T;refine Or.inl ⟨_,.ref mk,Ae.of l1,l2,g,ae,af,ag,mk,us,Gs,Es,W.ss,m,rfl,Ar.of (a _ _ eN),N3.sc.same a,Ar.of l3,mo,ai,λtp U=>?_⟩;have et:Jt W.ss m=Ci W.ss z.2:=(by rw[N,Qw]);rw[et] at U;refine⟨_,Ar.of U,rfl,?_⟩;refine⟨rfl,rfl,As (λh=>?_) (λh=>?_)⟩;rotate_left;have hn:(Ci W.ss z.2).2.2.1≠("by" : Str):=λe=>h (By (by rw[e]));refine Bb ?_;refine⟨_,_,_,_,_,rfl,a,?_⟩;rw[b,OY (Aj λe=>hn e.1)];have X:(Ci W.ss z.2).2.2.1=("by" : Str):=V.str.inj (BM h);rcases tk with⟨e,_⟩|⟨_,k0,k1⟩;rw[X] at e;exact absurd e (by decide +kernel);obtain⟨k,C⟩:=DU k0;have al:k<W.as.length:=(by lia);obtain⟨G,ah,Y,hv,hc⟩:=(I.ans.same a).get al;have Z:Bz G (Ci W.ss z.2).2.2.2=some ah:=by rw[C];exact B3 hv
   rcases hc with⟨D,rfl⟩|⟨p,ta,D,rfl,aq⟩;refine Or.inl ⟨G,_,Y,Z,rfl,As (λζ=>?_) (λh=>absurd (By rfl) h)⟩;refine⟨B4,λp hp=>?_⟩;have O:=AR (o:=.tup [.ref z.1,.int (Ci W.ss z.2).2.2.2]) hp;refine q _ _ (a.trans O) ?_;rw[b,Tz (q:=(Ci W.ss z.2).2.2.2) (Ak ⟨X,by rw[C,Bk];exact D⟩)];exact⟨p,z.1,rfl,Aa,M.same O⟩;refine Or.inl ⟨G,_,Y,Z,rfl,As (λh=>absurd (BM h) (by simp)) (λζ=>?_)⟩;refine⟨_,_,_,_,_,rfl,a,?_⟩;rw[b,OY (Aj λe=>by have:=e.2;rw[C,Bk,D] at this;cases this)]
inductive EZ (K:Ah) (vs:List V) (H:Hp) (Q:VK):Prop where
 |mk (nt A t l:Addr) (G:Addr->Prop) (W:Wd) (w:List Ao) (h0:vs=[.ref nt,.ref A,.ref l]) (h1:Bq K H nt A t W) (h2:Be W) (h3:CC G H l w) (h4:CH W.ss w) (h5:DZ W w=none) (h6:Q (DX (Bg W w)) H):EZ K vs H Q
def iP (K:Ah):Sp:=λvs H Q ζ=>EZ K vs H Q
abbrev UF(P w K mg base):=BI P w K mg base "meaning" 2 ["net", "answers", "way"] (iP K)
def iQ(ai:BK mg)(aa:Pt P w K mg base)(F:BA K "meaning" "meaning" RD f fd)(C:mg "meaning" = some (.ref f)):UF P w K mg base:=by
 refine Ca F C MC (λD H Q E h=>?_) (λaj A ak s H D Q E hr h=>?_);obtain⟨g,A,t,l,G,W,w,rfl,_⟩:=h;rfl;obtain⟨g,A,t,l,G,W,w,rfl,j,I,o,r,d,q⟩:=h;obtain⟨S,T,R,us,J,L,ts,qt,qs,M,N⟩:=j.net;have tk:=Ma I r;obtain⟨vv,m,u,O,U⟩:=r;have X:Jt W.ss m=Ci W.ss w:=(by rw[u,Qw]);rw[u] at o;obtain⟨ms,mk,Y,Z,l3⟩:=WG o
 refine⟨_,(Ap (DE (A7 aa (Ab (pv 0) (Ab (Av Aw (pv 2) (IK IL Aq)) Af))) (Ck (n:=4) rfl (AF (Ay (i:=3) MC.nd) (AF (Ay (i:=4) MC.nd) (AF (Ay (i:=5) MC.nd) (AF (Ay (i:=6) MC.nd) Cj))))))
  (Ap (Bv (B2 Dq (pv 5) BN (BW _)) (AA (AQ (pv 6))) Bx)
  (Ap (DE (Av Aw (pv 1) (pv 6)) (Ck (n:=2) rfl (AF (Ay (i:=5) MC.nd) (AF (Ay (i:=6) MC.nd) Cj))))
  (Ap (Bv (B2 Dq (pv 5) BN (BW _)) (AA (AQ (pv 6))) Bx)
  (AA (AQ F4)))))),?_⟩
 rfl';refine Or.inl ⟨_,.ref mk,Ae.of Y,Z,g,S,T,R,mk,us,J,L,W.ss,m,rfl,Ar.of M,N.sc,Ar.of l3,O,U,λtp z=>?_⟩;rw[X] at z;refine⟨_,Ar.of z,rfl,?_⟩;refine⟨rfl,rfl,As (λh=>?_) (λh=>?_)⟩;have ht:(Ci W.ss w).2.2.1=("thing" : Str):=V.str.inj (BM h)
 rw[show Bg W w=some (Ci W.ss w).2.2.2 from Ak ht] at q;exact q
 have x:(Ci W.ss w).2.2.1≠("thing" : Str):=λe=>h (By (by rw[e]));rcases tk with⟨e,_⟩|⟨ab,k0,k1⟩;exact absurd e x;obtain⟨k,a⟩:=DU k0;have ae:k<W.as.length:=(by lia);obtain⟨B,v,af,hv,hc⟩:=j.ans.get ae;have ag:Bz B (Ci W.ss w).2.2.2=some v:=by rw[a];exact B3 hv
 rcases hc with⟨b,rfl⟩|⟨p,ta,b,rfl,ah⟩;unfold DZ at d;rw[Ak ⟨ab,by rw[a,Bk];exact b⟩] at d;cases d
 have y:Bg W w=if p.1=("thing" : Str) then some p.2 else none:=by
  unfold Bg;rw[Aj x,a,Bk,b]
 refine Or.inl ⟨B,_,af,ag,?_⟩;refine⟨_,ah,rfl,?_⟩;refine⟨rfl,rfl,As (λh=>?_) (λh=>?_)⟩;have c:p.1=("thing" : Str):=V.str.inj (BM h);rw[y,Ak c] at q;exact q;have c:p.1≠("thing" : Str):=λe=>h (By (by rw[e]));rw[y,Aj c] at q;exact q
inductive KZ (K:Ah) (vs:List V) (H:Hp) (Q:VK):Prop where
 |mk (nt A t O r D D2 P:Addr) (F G:Addr->Prop) (W:Wd) (inn:Int) (ord:A') (ws ys:List (Addr×List Ao)) (os:List (Addr×Ow)) (at_:Int) (h0:vs=[.ref nt,.ref A,.ref t,.ref O,.ref r,.int at_]) (h1:Bq K H nt A t W) (h2:FU K F H t W.sts inn ord) (h3:Be W) (h4:ord.length<=40) (h5:(∀x,(x,x)∉ord)) (h6:H r=some (.tup [.ref D,.ref D2,.ref P])) (h7:H D2=some (.lst (ws.map λz=>V.ref z.1))) (h8:(∀z∈ws,CC G H z.1 z.2)) (h9:(∀z∈ws,Jm W.ss z.2)) (h10:ws.length<=100) (h11:(∀z∈ws,CH W.ss z.2)) (h12:H P=some (.lst (ys.map λz=>V.ref z.1))) (h13:(∀z∈ys,CC G H z.1 z.2)) (h14:ys.map (·.2)=Co W.ss ord (ws.map (·.2)) (ws.map (·.2))) (h15:H O=some (.lst (os.map λz=>V.ref z.1))) (h16:(∀z∈os,Fs G H z.1 z.2)) (h17:(∀z∈os,Jm W.ss z.2.1)) (h18:∀(v:Addr)(a:C')(w:Option Wt)(H':Hp),Ac H H'->BQ W ord (ws.map (·.2)) (os.map (·.2)) at_=(a,w)->A5 G H' (.ref v) (.tup [BG a,HG w])->Q (.ref v) H'):KZ K vs H Q
def MP (K:Ah):Sp:=λvs H Q ζ=>KZ K vs H Q
abbrev Ic(P w K mg base):=BI P w K mg base "met" 4 ["net", "answers", "table", "owed", "look", "at"] (MP K)
def iR(ah:BK mg)(a3:UD P w K mg base)(a4:UE P w K mg base)(a5:UF P w K mg base)(F:BA K "met" "met" M6 f fd)(hm:mg "met" = some (.ref f)):Ic P w K mg base:=by
 refine Ca F hm JX (λm ai av aw h=>?_) (λaM A aO s ai m av aw hr h=>?_);obtain⟨R,A,t,ae,aj,ak,D2,P,F,G,W,an,ord,a,p,S,at_,rfl,_⟩:=h;rfl
 . obtain⟨R,A,t,ae,aj,ak,D2,P,F,G,W,an,ord,a,p,S,at_,rfl,hC,TB,sm,a1,a6,er,a7,hw,a8,lw,a9,eP,hy,N,eO,ho,aA,q⟩:=h
   obtain⟨ax,ay,az,us,Gs,Es,ts,qt,qs,eN,N3⟩:=hC.net
   have ao:∀z∈p,CH W.ss z.2:=λz h=>by
    have g:z.2∈p.map (·.2):=AL.mpr ⟨z,h,rfl⟩;rw[N] at g;obtain⟨y,r,h3⟩:=AL.mp (NE g);rw[<-h3];exact a9 y r
   have ly:p.length<=100:=by
    have g:=Bw List.length N;have r:=ZM (ss:=W.ss) (ord:=ord) (all:=a.map (·.2)) (l:=a.map (·.2));rw[Al] at g r;lia
   refine⟨_,(Ap (DE (pv 4) (Ck (n:=3) rfl (AF (Ay (i:=6) JX.nd) (AF (Ay (i:=7) JX.nd) (AF (Ay (i:=8) JX.nd) Cj)))))
    (Ap (AX (i:=9) JX.nd (A7 a3 (Ab (pv 0) (Ab (pv 2) (Ab (pv 7) (Ab (pv 3) Af))))))
    (Ap (Bv (Fo (F5 (pv 9))) (AA (AX (i:=9) JX.nd (A7 a4 (Ab (pv 0) (Ab (pv 1) (Ab (pv 8) Af)))))) Bx)
    (Ap (Bv (Fo (Nb (pv 9))) (Ap (DE (pv 9) (Ck (n:=2) rfl (AF (Ay (i:=10) JX.nd) (AF (Ay (i:=11) JX.nd) Cj))))
     (AA (AQ (Bn (Ab F4 (Ab (Bn (Ab (pv 5) (Ab (pv 10) (Ab (pv 11) Af)))) Af)))))) Bx)
    (Ap (AX (i:=12) JX.nd (GC rfl Go (Dm (pv 8)) (λζ ζ ζ ζ ζ=>(Ay (i:=0) Go.nd)) (λζ ζ ζ ζ ζ=>F9) (λζ ζ ζ ζ ζ=>(A7 a5 (Ab (pv 1) (Ab (pv 2) (Ab (pv 0) Af)))))))
    (Ap (Bv (F6 (CM (YG rfl) ah.b_all (Ab (GC rfl Gp (Dm (pv 12)) (λζ ζ ζ ζ ζ=>(Ay (i:=0) Gp.nd)) (λζ ζ ζ ζ ζ=>F9) (λζ ζ ζ ζ ζ=>(RV (F5 (pv 0))))) Af))) (AA (AQ (Bn (Ab (Bn (Ab BN (Ab (pv 5) Af))) (Ab F4 Af))))) Bx)
    (Ap (Bv (F6 (CM (Wm rfl) ah.b_any (Ab (GC (te:=DW U4 (Bs 0) (DW (FR K) (Bs 1) (tC (.int ((0:Nat):Int))))) rfl Gq (Dm (pv 12)) (λζ ζ ζ ζ ζ=>(Ay (i:=0) Gq.nd)) (λζ ζ ζ ζ ζ=>F9) (λζ ζ ζ ζ ζ=>(Kk Lq (pv 0) (Av Aw (pv 1) Aq) (BW _)))) Af))) (AA (AQ (Bn (Ab (Bn (Ab BN (Ab (pv 5) Af))) (Ab F4 Af))))) Bx)
    (AA (AQ (Bn (Ab (Bn (Ab BN (Ab (Av Aw (pv 12) Aq) Af))) (Ab F4 Af)))))))))))),?_⟩
   rfl';refine⟨_,Ar.of er,rfl,?_⟩;refine⟨R,ax,ay,az,t,D2,ae,us,Gs,Es,W.ss,F,G,W.sts,an,ord,a,S,rfl,eN,N3.sc,TB,a1,a6,a7,hw,a8,lw,eO,ho,aA,λa2 aK T aa=>?_⟩;refine EE ?_;cbv;refine Nl (λσ' H=>∃v,σ'=[some (.ref R),some (.ref A),some (.ref t),some (.ref ae),some (.ref aj),some (.int at_),some (.ref ak),some (.ref D2),some (.ref P),some v,none,none,none]/\Ac ai H/\Tt G H v (Ds W ord (a.map (·.2)) (S.map (·.2)))) ?_ (λaL hN=>?_);rotate_left
   cases e:EN W.ss ord (a.map (·.2)) (S.map (·.2)) with
   |none =>
     rw[e] at aa;obtain rfl:a2=.non:=aa;refine⟨rfl,As (λζ=>?_) (λh=>absurd (By rfl) h)⟩;refine⟨R,A,t,P,G,W,p,rfl,hC.same T,sm,T _ _ eP,λz h=>(hy z h).same T,ao,λv2 H2 u aq=>?_⟩;refine hN _ _ ⟨v2,rfl,T.trans u,?_⟩;unfold Ds;rw[e];rw[N] at aq;exact aq
   |some o =>
     rw[e] at aa;obtain⟨al,l,rfl,g,r⟩:=aa;refine⟨rfl,As (λh=>absurd (BM h) (by simp)) (λζ=>?_)⟩;refine hN _ _ ⟨_,rfl,T,?_⟩;unfold Ds;rw[e];exact⟨al,l,rfl,g,r⟩
   rintro σ' H2 ⟨v,rfl,u,j⟩
   cases e:Ds W ord (a.map (·.2)) (S.map (·.2)) with
   |some o =>
     rw[e] at j;obtain⟨al,l,rfl,g,r⟩:=j;refine⟨rfl,As (λζ=>?_) (λh=>absurd rfl h)⟩;refine⟨_,Ar.of g,rfl,?_⟩;refine⟨GW,λJ D=>?_⟩;obtain⟨H3,aB,x,e3⟩:=new_at (o:=.tup [.int at_,.ref l,.int o.2]) D;rw[<-aB];refine⟨B4,λB E=>?_⟩;have c:=AR (o:=.tup [.non,.ref J]) E;exact q B _ _ _ ((u.trans x).trans c) (KC e) (.tup Aa (.cons .non (.cons (.tup (c _ _ e3) (.cons (.int _) (.cons ((r.same x).same c).own (.cons (.int _) .nil)))) .nil)))
   |none =>
     rw[e] at j;obtain rfl:v=.non:=j;refine⟨rfl,As (λh=>absurd h (by decide)) (λζ=>?_)⟩;have aC:=TC (WE e)
     refine⟨⟨_,Ae.of (u _ _ eP)⟩,OF (xs:=p.map λz=>V.ref z.1) (λM i m H=>Ac H2 H/\H M=some (.lst m)/\m=((p.map (·.2)).take i).map λw=>DX (Bg W w))
      (λM hM=>⟨AR hM,Aa,by rw[Ee];rfl⟩) (λM i m H aD=>by obtain⟨s,_⟩:=aD;exact Ae.of (s _ _ (u _ _ eP))) (λM i y m H3 RR hM aE j k=>?_) (λM m H3 hM j=>?_)⟩
     obtain⟨x,I,rfl⟩:=j;obtain⟨z,ar,rfl⟩:=getm aE;have mz:=A6 ar;have O:=u.trans x;have mo:z.2∈Co W.ss ord (a.map (·.2)) (a.map (·.2)):=by rw[<-N];exact AL.mpr ⟨z,mz,rfl⟩
     refine⟨R,A,t,z.1,G,W,z.2,rfl,hC.same O,sm,(hy z mz).same O,ao z mz,aC _ mo,?_⟩;refine k _ _ I ?_ ⟨λb o e=>?_,Aa,?_⟩;rw[Al,Fn,Al];exact BH (by lia);rw[AC (A1 e hM)];exact x _ _ e;rw[EG,A3,ar,Bh];rfl
     obtain⟨x,I,rfl⟩:=j;rw[Al,<-Al (f:=(·.2)),Ev,N] at I;generalize af:Co W.ss ord (a.map (·.2)) (a.map (·.2))=d at *
     have ls:d.length<=100:=by rw[<-N,Al];exact ly
     have O:=u.trans x;refine EE ?_;cbv;refine⟨⟨_,Ae.of I⟩,Sz (xs:=d.map λw=>DX (Bg W w)) (λv=>V.bl (decide (v=V.non))) (by rw[Al];exact Cn (BH (by lia))) (Ae.of I) (λa0 y H4 D4 R4 aN c aF k4=>(k4 _ (Ac.refl _))) (λH4 D4 c aF e4=>?_)⟩;refine⟨D4,(d.map λw=>DX (Bg W w)).map λv=>decide (v=V.non),rfl,Ae.of (by rw[e4,DT (f:=λv=>decide (v=V.non))];rfl),rfl,As (λh=>?_) (λh=>?_)⟩;refine⟨B4,λJ D=>?_⟩;obtain⟨H5,aG,C,e5⟩:=new_at (o:=.tup [.str "none",.int at_]) D;rw[<-aG];refine⟨B4,λB E=>?_⟩;have L:=AR (o:=.tup [.ref J,.non]) E;refine q B (some ("none",at_)) none _ (((O.trans c).trans C).trans L) ?_ (.tup Aa (.cons (.tup (L _ _ e5) (.cons (.str _) (.cons (.int _) .nil))) (.cons .non .nil)));rw[GH e,af,NC (FJ.mp h)];have U:¬∀w∈d,Bg W w=none:=λz=>h (FJ.mpr z)
     cases Q:d with
     |nil=>rw[Q] at U;exact absurd (λw hw=>by cases hw) U
     |cons X r0 =>
       have ab:=c _ _ I;have h0:Bz (d.map λw=>DX (Bg W w)) ((0:Nat):Int)=some (DX (Bg W X)):=B3 (by rw[Q];rfl);refine⟨⟨_,Ae.of ab⟩,Sz (xs:=d.map λw=>DX (Bg W w)) (λv=>V.bl (!decide (v=DX (Bg W X)))) (by rw[Al];exact Cn (BH (by lia))) (Ae.of ab) (λa0 y H5 D5 R5 aH C aI k5=>?_) (λH5 D5 C aI e5=>?_)⟩;obtain⟨w,_,rfl⟩:=getm aH;exact Or.inl ⟨_,_,Ae.of (C _ _ ab),h0,ZW _ _,k5 _ (Ac.refl _)⟩;refine⟨D5,(d.map λw=>DX (Bg W w)).map λv=>!decide (v=DX (Bg W X)),rfl,Ae.of (by rw[e5,DT (f:=λv=>!decide (v=DX (Bg W X)))];rfl),rfl,As (λh5=>?_) (λh5=>?_)⟩;refine⟨B4,λJ D=>?_⟩;obtain⟨H6,ag,L,e6⟩:=new_at (o:=.tup [.str "torn",.int at_]) D;rw[<-ag];refine⟨B4,λB E=>?_⟩;have Y:=AR (o:=.tup [.ref J,.non]) E;refine q B (some ("torn",at_)) none _ ((((O.trans c).trans C).trans L).trans Y) ?_ (.tup Aa (.cons (.tup (Y _ _ e6) (.cons (.str _) (.cons (.int _) .nil))) (.cons .non .nil)));have Z:=HH.mp h5;rw[Q] at U Z;rw[GH e,af,Q,Qx U Z];have Z:∀v∈d,Bg W v=Bg W X:=Classical.byContradiction λz=>h5 (HH.mpr z);have au:=U;rw[Q] at au Z;obtain⟨n,en,ea⟩:=OX (at_:=at_) au Z;have aJ:=C _ _ ab;rw[en] at h0;refine Or.inl ⟨_,.int n,Ae.of aJ,h0,B4,λJ D=>?_⟩;obtain⟨H6,ag,L,e6⟩:=new_at (o:=.tup [.str "thing",.int n]) D;rw[<-ag];refine⟨B4,λB E=>?_⟩;have Y:=AR (o:=.tup [.ref J,.non]) E;refine q B (some ("thing",n)) none _ ((((O.trans c).trans C).trans L).trans Y) ?_ (.tup Aa (.cons (.tup (Y _ _ e6) (.cons (.str _) (.cons (.int _) .nil))) (.cons .non .nil)));rw[GH e,af,Q,ea]
inductive CV (K:Ah) (vs:List V) (H:Hp) (Q:VK):Prop where
 |mk (nt A t D:Addr) (F:Addr->Prop) (W:Wd) (zs:List (Addr×AK)) (h0:vs=[.ref nt,.ref A,.ref t,.ref D]) (h1:Bq K H nt A t W) (h2:BP W) (h3:H D=some (.lst (zs.map λz=>V.ref z.1))) (h4:(∀z∈zs,Dr F H z.1 z.2)) (h5:(∀z∈zs,Db W z.2)) (h6:zs.length<=62) (h7:(Fq W (zs.map (·.2))).length<=62) (h8:∀(D2:Addr)(ws:List (Addr×Ow))(H':Hp),H D2=none->Ac H H'->H' D2=some (.lst (ws.map λz=>V.ref z.1))->(∀z∈ws,Fs (λl=>H l=none/\l≠D2) H' z.1 z.2)->OP W (zs.map (·.2)) (ws.map (·.2))->Q (.ref D2) H'):CV K vs H Q
def iS (K:Ah):Sp:=λvs H Q ζ=>CV K vs H Q
abbrev UG(P w K mg base):=BI P w K mg base "owed_behind" 5 ["net", "answers", "table", "begun"] (iS K)
def iT(a0:BK mg)(a7:Q0 P w K mg base)(F:BA K "owed_behind" "owed_behind" RE f fd)(C:mg "owed_behind" = some (.ref f)):UG P w K mg base:=by
 refine Ca F C JY (λa H a1 a2 h=>?_) (λaL A aU s H a a1 a2 hr h=>?_);obtain⟨Y,A,t,af,F,W,D,rfl,_⟩:=h;rfl
 . obtain⟨Y,A,t,af,F,W,D,rfl,hC,ok,eD,hz,a8,aM,aN,a3⟩:=h
   refine⟨_,(Ap (AX (i:=4) JY.nd (Cg Af))
    (Ap (Do CK rfl (Dm (pv 3)) (Ck (n:=3) rfl (AF (Ay (i:=5) JY.nd) (AF (Ay (i:=6) JY.nd) (AF (Ay (i:=7) JY.nd) Cj)))) (AA (Do CK rfl (Dm (A7 a7 (Ab (pv 0) (Ab (pv 1) (Ab (pv 2) (Ab (pv 6) (Ab (pv 7) Af))))))) (Ck (n:=4) rfl (AF (Ay (i:=8) JY.nd) (AF (Ay (i:=9) JY.nd) (AF (Ay (i:=10) JY.nd) (AF (Ay (i:=11) JY.nd) Cj))))) (AA (Bv (B2 Dq (pv 9) BN (BW _)) (AA (DD (DG Dx Fu Fv FD (pv 4) (Ab (Bn (Ab (A2 Nf (pv 5) (Cg (Ab (pv 8) Af))) (Ab (pv 10) Af))) Af)))) Bx)))))
    (AA (AQ (CM (Zb Nu FG hr.units (by decide) (by decide)) a0.b_sorted (Ab (pv 4) Af)))))),?_⟩
   rfl';refine⟨by decide,λP Z=>?_⟩;obtain⟨aq,a9,s1,av⟩:=new_at (o:=.lst []) Z;rw[<-a9];have ag:∀{p:Hp},Keeps (·=P) aq p->Ac H p:=λk x o e=>k.at_ _ _ (s1 _ _ e) (A1 e Z)
   refine⟨⟨_,Ae.of (s1 _ _ eD)⟩,FA (xs:=D.map λz=>V.ref z.1) (λi σ p=>∃u5 u6 u7 I J M N u,σ=[some (.ref Y),some (.ref A),some (.ref t),some (.ref af),some (.ref P),u5,u6,u7,I,J,M,N]/\Keeps (·=P) aq p/\p P=some (.lst (u.map λz:Addr×Ow=>V.ref z.1))/\(∀z∈u,Fs (λl=>H l=none/\l≠P) p z.1 z.2)/\u.map (·.2)=Fq W ((D.map (·.2)).take i))
    ⟨none,none,none,none,none,none,none,[],rfl,Keeps.refl λx o m e=>by rw[m,av] at e;exact⟨_,(Br e).symm⟩,av,λz hz=>by simp at hz,by rw[Ee];rfl⟩ (λi σ p ζ ah=>by obtain⟨_,_,_,_,_,_,_,_,_,k,_⟩:=ah;exact Ae.of (ag k _ _ eD)) ?_ ?_⟩
   rotate_left;refine λσ H2 O=>AO λNz d=>?_;obtain⟨u5,u6,u7,I,J,M,N,u,rfl,S,U,hw,C⟩:=O;refine d ?_;clear d;rw[Al,<-Al (f:=(·.2)),Ev] at C;have lw:u.length<=62:=by have:=Bw List.length C;rw[Al] at this;lia
   refine⟨P,u.map λz=>(V.ref z.1,z.2),rfl,?_,by rw[Al];lia,λy r=>?_,λD2 aA hp hs ai=>?_⟩;rw[DT];exact Ae.of U;obtain⟨z,aj,rfl⟩:=AL.mp r;exact(hw z aj).dt;obtain⟨a,r1,r2,r3,r4⟩:=Wh (c:=Qj) hp;have q:=AR (o:=.lst (aA.map (·.1))) ai;rw[r1] at q ⊢;rw[r2] at hs;have G:=ag S;refine a3 D2 a _ (G.free ai) (G.trans q) Aa (λz aj=>?_) ⟨by rw[<-C];exact r3,hs⟩;refine((hw z (r4 z aj)).mono' ?_).same q;intro x o ex hx;exact⟨hx.1,λy=>by rw[y,ai] at ex;cases ex⟩;refine λi y σ H2 r O=>AO λNz d=>?_;obtain⟨u5,u6,u7,I,J,M,N,u,rfl,S,U,hw,C⟩:=O;refine d ?_;clear d;obtain⟨z,ak,rfl⟩:=getm r;have aO:i<D.length:=(AN.mp ak).1;have mz:=A6 ak;have aa:=a8 z mz;have G:=ag S;refine AO λNz d=>?_;obtain⟨l,v,a6,au,e3,_⟩:=hz z mz;refine d ?_;clear d;have e1:=G _ _ a6;have aB:=aa.rng z.2.2.1 (by unfold AY;simp);have aC:(D.map (·.2))[i]?=some z.2:=by rw[A3,ak];rfl
   have aP:v.length<=100:=by
    have:=Jh W.ss.length (AY z.2) aa.nd aa.rng;rw[show(AY z.2).length=z.2.1.length+1 by unfold AY;simp] at this;have:=ok.s5;rw[e3.len];lia
   have aD:u.length<=8*i:=by
    have E:=Bw List.length C;rw[Al] at E;have h2:=Wg (f:=λb=>(FV W b.2.1 b.2.2).filterMap (ow b)) (k:=8) ((D.map (·.2)).take i) λb=>E8 (List.length_filterMap_le _ _) (E8 (Nr W b.2.1 (DJ W b.2.2) (BO W b.2.1) 0) (Qh ok b.2.1));rw[Fn,Al] at h2;unfold Fq at E;have h3:min i D.length=i:=(by lia);rw[h3] at h2;lia
   refine⟨_,Ar.of e1,rfl,?_⟩;refine⟨Y,A,t,W,z.2.2.1,z.2.2.2,rfl,hC.same G,ok,aB,aa.st,λa4 Q H3 hG q eG aE aw=>⟨⟨_,Ae.of eG⟩,?_⟩⟩;have aF:a4≠P:=λy=>by rw[y,U] at hG;cases hG
   have aQ:Q.length<=8:=by
    have e1:=Bw List.length aw;have e2:=Nr W z.2.2.1 (DJ W z.2.2.2) (BO W z.2.2.1) 0;have e3:=Qh ok z.2.2.1;rw[Al] at e1;unfold FV at e1;lia
   refine FA (xs:=Q.map λz=>V.ref z.1) (λj σ p=>∃I J M N a,σ=[some (.ref Y),some (.ref A),some (.ref t),some (.ref af),some (.ref P),some (.ref l),some (.int z.2.2.1),some (.int z.2.2.2),I,J,M,N]/\Keeps (·=P) H3 p/\p P=some (.lst (a.map λz:Addr×Ow=>V.ref z.1))/\(∀z∈a,Fs (λl=>H l=none/\l≠P) p z.1 z.2)/\a.map (·.2)=Fq W ((D.map (·.2)).take i)++((Q.map (·.2)).take j).filterMap (ow z.2)/\a.length<=8*i+j)
    ⟨_,_,_,_,u,rfl,Keeps.refl λx o m e=>by rw[m,q _ _ U] at e;exact⟨_,(Br e).symm⟩,q _ _ U,λz h=>(hw z h).same q,by rw[C,Ee];simp,aD⟩ (λj σ p ζ ah=>by obtain⟨_,_,_,_,_,_,k,_⟩:=ah;exact Ae.of (k.at_ _ _ eG aF)) ?_ ?_
   rotate_left;refine λσ H4 O=>AO λNz d=>?_;obtain⟨I,J,M,N,a,rfl,B,R,ab,ae,_⟩:=O;refine d ?_;clear d;refine⟨_,_,_,_,_,_,_,a,rfl,⟨λx o e n=>B.at_ _ _ (q _ _ (S.at_ x o e n)) n,S.ls⟩,R,ab,?_⟩;rw[Zm aC,ae,Al,<-Al (f:=(·.2)),Ev,aw];refine λj y σ H4 r O=>AO λNz d=>?_;obtain⟨I,J,M,N,a,rfl,B,R,ab,ae,aR⟩:=O;refine d ?_;clear d;obtain⟨g,al,rfl⟩:=getm r;have aS:j<Q.length:=(AN.mp al).1;obtain⟨m,an,ao⟩:=aE g (A6 al);have an:=B.tup an;have ao:=B.tup ao
   have ax:((Q.map (·.2)).take (j+1)).filterMap (ow z.2)=((Q.map (·.2)).take j).filterMap (ow z.2)++(ow z.2 g.2).toList:=by
    rw[EG,A3,al];exact L4 _ _ _
   refine⟨_,Ar.of an,rfl,?_⟩;refine⟨rfl,rfl,As (λE=>?_) (λE=>?_)⟩;rotate_left;refine⟨_,_,_,_,a,rfl,B,R,ab,?_,by lia⟩;rw[ax,Jk (λe=>E (By (by rw[e]))),ae];simp;have E:g.2.2.1.1=("open" : Str):=V.str.inj (BM E);have aT:Ac H2 H3:=q;have aG:H4 l=some (.lst (v.map V.ref)):=B.at_ _ _ (q _ _ (G _ _ au)) (A1 au Z);have aH:RT GD H4 v z.2.1:=(e3.same (G.trans q)).keeps B;refine⟨Or.inl ⟨rfl,_,Ae.of R⟩,Ir,λa5 hM=>?_⟩;obtain⟨H5,aI,s5,eM⟩:=new_at (o:=.lst [.ref m]) hM;rw[<-aI];refine⟨l,a5,_,_,rfl,rfl,s5 _ _ aG,eM,by rw[Al];exact Cn (BH (by show v.length+1<=1000;lia)),λL hL=>?_⟩
   have aJ:H L=none:=by
    have h4:=s5.free hL
    cases e:H L with
    |none=>rfl
    |some o=>rw[B.at_ _ _ (q _ _ (G _ _ e)) (A1 e Z)] at h4;cases h4
   have ay:L≠P:=λy=>by rw[y,s5 _ _ R] at hL;cases hL
   have s6:=AR (o:=.lst (v.map V.ref++[.ref m])) hL;have eL:(upd H5 L (.lst (v.map V.ref++[.ref m]))) L=some (.lst ((v++[m]).map V.ref)):=by rw[Aa,Bh];rfl
   generalize upd H5 L (.lst (v.map V.ref++[.ref m]))=H6 at s6 eL ⊢;refine⟨B4,λar hr=>?_⟩;obtain⟨H7,aK,s7,er⟩:=new_at (o:=.tup [.ref L,.int g.2.2.1.2]) hr;rw[<-aK];have X:=(s5.trans s6).trans s7;have az:=X _ _ R;have T:Keeps (·=P) H7 (upd H7 P (.lst (a.map (λz=>V.ref z.1)++[.ref ar]))):=Keeps.one az;refine⟨_,az,by rw[Al];exact BH (by lia),?_⟩;refine⟨_,_,_,_,a++[(ar,(z.2.1++[g.2.1],g.2.2.1.2))],rfl,(B.same X).set rfl,by rw[Aa,Bh];rfl,λy r=>?_,?_,by rw[AZ,DS];lia⟩;rcases BL.mp r with r|r;exact((ab y r).same X).keeps T λx hx=>hx.2;rw[AW.mp r];refine⟨L,v++[m],T.tup er,T.at_ _ _ (s7 _ _ eL) ay,?_,aJ,ay⟩;exact RT.snoc ((aH.same X).keeps T) (T.tup (X _ _ ao));rw[ax,Jj E,Bh,ae,FZ];rfl
def both{A G:Prop}(k:A->G)(a:A):G:=k a
def Pu:([]:List V).length+1+1+1+1<=sizeLine:=by decide
inductive E3 (K:Ah) (vs:List V) (H:Hp) (Q:VK):Prop where
 |mk (nt A t ask u:Addr) (F:Addr->Prop) (W:Wd) (inn:Int) (ord:A') (q:Qu) (h0:vs=[.ref nt,.ref A,.ref t,.ref ask]) (h1:Bq K H nt A t W) (h2:FU K F H t W.sts inn ord) (h3:BP W) (h4:Be W) (h5:ord.length<=40) (h6:(∀x,(x,x)∉ord)) (h7:(0<=inn/\inn<W.sts.length)) (h8:H ask=some (.tup [.int q.1,.int q.2.1,.ref u])) (h9:H u=some (.tup (q.2.2.map V.str))) (h10:(0<=q.1/\q.1<W.ss.length)) (h11:(0<=q.2.1/\q.2.1<W.sts.length)) (h12:1<=q.2.2.length) (h13:q.2.2.length<=8) (h14:∀(r L T:Addr)(av wv:V)(lv:List V)(a:C')(w:Option Wt)(ls:List Lk)(ts:List Int)(H':Hp),Ac H H'->H' r=some (.tup [av,wv,.ref L,.ref T])->H L=none->H' L=some (.lst lv)->H' T=some (.lst (ts.map V.int))->A5 (λx=>H x=none) H' av (BG a)->A5 (λx=>H x=none) H' wv (HG w)->Ax (λx=>H x=none/\x≠L) H' lv (ls.map ND)->LU W inn ord q.1 q.2.1 q.2.2 0 a w ls ts->Q (.ref r) H'):E3 K vs H Q
def iU (K:Ah):Sp:=λvs H Q ζ=>E3 K vs H Q
abbrev Pw(P w K mg base):=BI P w K mg base "look_up" 7 ["net", "answers", "table", "asked"] (iU K)
def iV(aO:BK mg)(b8:Ux P w K mg base)(b9:UC P w K mg base)(bA:Ic P w K mg base)(bB:UG P w K mg base)(bC:QZ P w K mg base)(F:BA K "look_up" "look_up" RF f fd)(hm:mg "look_up" = some (.ref f)):Pw P w K mg base:=by
 refine Ca F hm Ge (λvs H aP bx h=>?_) (λcl A cx s H vs aP bx hr h=>?_);obtain⟨U,A,t,ask,az,F,W,Y,Z,q,rfl,_⟩:=h;rfl
 . obtain⟨U,A,t,ask,az,F,W,Y,Z,q,rfl,hC,TB,ok,sm,aR,aS,ca,eq,eu,bD,bE,cm,cn,qk⟩:=h
   obtain⟨bz,Tn,b0,us,Gs,Es,cp,qt,qs,eN,N3⟩:=hC.net
   refine⟨_,(Ap (DE (pv 3) (Ck (n:=3) rfl (AF (Ay (i:=4) Ge.nd) (AF (Ay (i:=5) Ge.nd) (AF (Ay (i:=6) Ge.nd) Cj)))))
    (Ap (AX (i:=7) Ge.nd (Cg Af))
    (Ap (AX (i:=8) Ge.nd (Cg Af))
    (AA (Do CK rfl (NB TK rfl aO.b_enumerate (Ab (pv 6) Af)) (Ck (n:=2) rfl (AF (Ay (i:=9) Ge.nd) (AF (Ay (i:=10) Ge.nd) Cj))) (Ap (AX (i:=11) Ge.nd (A7 b8 (Ab (pv 0) (Ab (pv 1) (Ab (pv 2) (Ab (pv 4) (Ab (pv 5) Af)))))))
     (Ap (DD (DG Dx Fu Fv FD (pv 7) (Ab (A7 b9 (Ab (pv 0) (Ab (pv 2) (Ab (pv 11) (Ab (pv 10) Af))))) Af)))
     (Ap (DE (A7 bA (Ab (pv 0) (Ab (pv 1) (Ab (pv 2) (Ab (A7 bB (Ab (pv 0) (Ab (pv 1) (Ab (pv 2) (Ab (pv 11) Af))))) (Ab (Av Aw (pv 7) (IK IL Aq)) (Ab (pv 9) Af))))))) (Ck (n:=2) rfl (AF (Ay (i:=12) Ge.nd) (AF (Ay (i:=13) Ge.nd) Cj))))
     (Ap (Bv (PW.pt (P1 (Fo (F5 (pv 12))) (P1 (B2 Lq (Av Aw (pv 12) Aq) BN (BW _)) (RX (B2 Dq (pv 9) (A2 G9 (CM Gi aO.b_len (Ab (pv 6) Af)) Aq) (BW _)))))) (AA (AQ (Bn (Ab (pv 12) (Ab (pv 13) (Ab (pv 7) (Ab (pv 8) Af))))))) Bx)
     (Ap (DD (DG Dx Fu Fv FD (pv 8) (Ab (Av Aw (pv 12) Aq) Af)))
     (Ap (DE (A7 bC (Ab (pv 0) (Ab (pv 1) (Ab (Av Aw (pv 12) Aq) Af)))) (Ck (n:=2) rfl (AF (Ay (i:=14) Ge.nd) (AF (Ay (i:=15) Ge.nd) Cj))))
     (Ap (Bv (B2 Dq (pv 14) BN (BW _)) (AA (AQ (Bn (Ab F4 (Ab (Bn (Ab (pv 9) (Ab (Cg Af) (Ab (pv 15) Af)))) (Ab (pv 7) (Ab (pv 8) Af))))))) Bx)
     (Ap (Bv (B2 Dq (pv 14) BN (BW _)) (AA (AQ (Bn (Ab (Bn (Ab BN (Ab (A2 F8 (pv 9) Aq) Af))) (Ab F4 (Ab (pv 7) (Ab (pv 8) Af))))))) Bx)
     (Ap (AX (i:=4) Ge.nd (pv 15))
     (AA (AX (i:=5) Ge.nd (Av Aw (pv 2) Aq))))))))))))))))),?_⟩
   rfl';refine⟨_,Ar.of eq,rfl,?_⟩;refine⟨by decide,λL hL=>?_⟩;obtain⟨aQ,bF,s1,a1⟩:=new_at (o:=.lst []) hL;rw[<-bF];refine EE ?_;cbv;refine⟨by decide,λT hT=>?_⟩;have s2:=AR (o:=.lst []) hT;have aT:(upd aQ T (.lst [])) T=some (.lst []):=Aa;have aU:=s2 _ _ a1;generalize upd aQ T (.lst [])=H2 at s2 aT aU ⊢;have aV:L≠T:=λz=>by rw[z,hT] at a1;cases a1
   have bG:H T=none:=s1.free hT;refine EE ?_;cbv
   refine⟨az,rfl,⟨_,Ar.of ((s1.trans s2) _ _ eu)⟩,Qv TK (xs:=q.2.2.map V.str) (λi σ H'=>∃(B C:Int)(u9 aW aX aY aZ ba bb:Option V)(d:List V)(ls:List Lk)(l:List Int),σ=[some (.ref U),some (.ref A),some (.ref t),some (.ref ask),some (.int B),some (.int C),some (.ref az),some (.ref L),some (.ref T),u9,aW,aX,aY,aZ,ba,bb]/\Ac H H'/\H' L=some (.lst d)/\H' T=some (.lst (l.map V.int))/\Ax (λx=>H x=none/\x≠L/\x≠T) H' d (ls.map ND)/\d.length=i/\l.length=i/\i<q.2.2.length/\(0<=B/\B<W.ss.length)/\(0<=C/\C<W.sts.length)/\∀a w aj ak,LU W Y Z B C (q.2.2.drop i) i a w aj ak->LU W Y Z q.1 q.2.1 q.2.2 0 a w (ls++aj) (l++ak))
    ⟨_,_,none,none,none,none,none,none,none,[],[],[],rfl,s1.trans s2,aU,aT,.nil,rfl,rfl,by lia,bD,bE,λa w aj ak z=>z⟩ (λi σ H' bH=>by obtain⟨_,_,_,_,_,_,_,_,_,_,_,_,_,s,_⟩:=bH;exact Ar.of (s _ _ eu)) ?_ ?_⟩
   rotate_left;refine λσ H' a2=>AO λNz O=>?_;obtain⟨_,_,_,_,_,_,_,_,_,_,_,_,_,_,_,_,_,_,_,hi,_⟩:=a2;refine O ?_;clear O;rw[Al] at hi;exact absurd hi (G3 _);refine λi xv Te σ H3 hx bI a2=>AO λNz O=>?_;obtain⟨B,C,u9,aW,aX,aY,aZ,ba,bb,d,ls,l,rfl,s3,bJ,bK,bL,bM,bN,hi,Q,R,ax⟩:=a2;refine O ?_;clear O;refine Ix ?_;intro Nx Cy;obtain⟨x,bO,rfl⟩:=getm hx;have af:=Tu bO;obtain⟨H4,bP,s4,bQ⟩:=new_at (o:=.tup [.int i,.str x]) bI;rw[<-bP];have al:=s3.trans s4;have an:=s4 _ _ bJ;have a3:=s4 _ _ bK;refine⟨_,Ar.of bQ,rfl,?_⟩;refine⟨U,A,t,W,B,C,rfl,hC.same al,ok,Q,R,λai g H5 hD s5 eD hz D=>?_⟩;refine EE ?_;cbv;have aa:=al.trans s5;have S:=s5 _ _ an;have ag:=s5 _ _ a3;have EH:∀{Hn:Hp}{x:Addr},Ac H Hn->Hn L=some (.lst d)->Hn T=some (.lst (l.map V.int))->Hn x=none->H x=none/\x≠L/\x≠T:=λ{Hn x}s X e2 h=>⟨s.free h,λz=>(by rw[z,X] at h;cases h),λz=>(by rw[z,e2] at h;cases h)⟩;refine⟨Or.inl ⟨rfl,_,Ae.of S⟩,U,A,t,ai,x,F,_,W,Y,Z,B,C,g,rfl,hC.same aa,TB.same aa,ok,sm,aR,aS,Q,R,eD,hz,D,λr D2 P e u H6 s6 er a4 bc hw hF hP eP c bd=>?_⟩;have bR:=aa.trans s6;have be:=s6 _ _ S;have bS:=s6 _ _ ag;have v:Keeps (·=L) H6 (upd H6 L (.lst (d++[.ref r]))):=Keeps.one be;have ao:Ac H (upd H6 L (.lst (d++[.ref r]))):=λb o ae=>by rw[AC (A1 ae hL)];exact bR _ _ ae
   have a5:(upd H6 L (.lst (d++[.ref r]))) L=some (.lst (d++[.ref r])):=Aa;refine⟨_,be,BH (by lia),?_⟩;generalize upd H6 L (.lst (d++[.ref r]))=M at v ao a5 ⊢;have nD:ai≠L:=λz=>by rw[z,an] at hD;cases hD
   have bT:D2≠L:=λz=>by rw[z,S] at a4;cases a4
   have nP:P≠L:=λz=>by rw[z,S] at hP;cases hP
   have bf:=v.at_ _ _ bS (Ne.symm aV);have a6:=v.tup er;have a7:=v.at_ _ _ (s6 _ _ eD) nD;have aJ:=v.at_ _ _ bc bT;have a8:=v.at_ _ _ eP nP;have a9:∀z∈g,Dr (λx=>H x=none/\x≠L/\x≠T) M z.1 z.2:=λz h=>(((hz z h).mono' λy o ζ c=>EH al an a3 c.1).same s6).keeps v λy c=>c.2.1;have aA:∀z∈e,CC (λx=>H x=none/\x≠L/\x≠T) M z.1 z.2:=λz h=>((hw z h).mono' λy o ζ c=>EH aa S ag c).keeps v λy c=>c.2.1;have aB:∀z∈u,CC (λx=>H x=none/\x≠L/\x≠T) M z.1 z.2:=λz h=>((c z h).mono' λy o ζ c=>EH aa S ag c).keeps v λy c=>c.2.1;have bs:Ax (λx=>H x=none/\x≠L/\x≠T) M d (ls.map ND):=(((bL.same s4).same s5).same s6).keeps v λy c=>c.2.1;have cq:=D;have bg:=D.few;rw[Al] at bg;refine⟨U,A,t,ai,_,W,g,rfl,hC.same ao,ok,a7,a9,λz bU=>((D.mem _).mp (AL.mpr ⟨z,bU,rfl⟩)).ok ok Q R,bg,sm.owd B C _ Q R D,λb1 a0 H8 hO E eO ho bh=>?_⟩;have aC:=ao.trans E;have bi:=E _ _ a5;have bV:=E _ _ bf;have bj:∀z∈e,z.2∈DK W x (g.map (·.2)):=λz h=>hF.perm.mem_iff.mp (AL.mpr ⟨z,h,rfl⟩)
   have lw:e.length<=100:=by
    have h1:=hF.perm.length_eq;have h2:=sm.fnd x B C _ Q R D;rw[Al] at h1;lia
   have bk:∀z∈e,CH W.ss z.2:=λz h=>Ts ok Q R D (bj z h);have cb:∀{x:Addr},M x=none->H x=none/\x≠L/\x≠T:=λ{x}h=>⟨ao.free h,λz=>(by rw[z,a5] at h;cases h),λz=>(by rw[z,bf] at h;cases h)⟩;refine Or.inl ⟨_,.ref r,Ae.of bi,S6 _ _,U,A,t,b1,r,ai,D2,P,F,(λx=>H x=none/\x≠L/\x≠T),W,Y,Z,e,u,a0,(i:Int),rfl,hC.same aC,TB.same aC,sm,aR,aS,E _ _ a6,E _ _ aJ,λz h=>(aA z h).same E,λz h=>Qk ok Q R D (bj z h),lw,bk,E _ _ a8,λz h=>(aB z h).same E,bd,eO,λz h=>(ho z h).mono' λy o ζ c=>cb c.1,λz h=>Wj ok Q R D (bh.perm.mem_iff.mp (AL.mpr ⟨z,h,rfl⟩)),λm a w G s9 bt hm=>?_⟩;have aD:=aC.trans s9;have bl:=s9 _ _ bi;have aq:=s9 _ _ bV;obtain⟨av,wv,b2,ha,bW⟩:=hm.two;have LK:Cm W Z B C x (g.map (·.2),e.map (·.2),u.map (·.2)) (a0.map (·.2)):=⟨D,hF,bd,bh⟩
   have bm:A5 (λx=>H x=none/\x≠L/\x≠T) G (.ref r) (ND (g.map (·.2),e.map (·.2),u.map (·.2))):=by
    have b3:=EH al an a3 hD;have b4:=EH aa S ag a4;have b5:=EH aa S ag hP
    have b6:Ax (λx=>H x=none/\x≠L/\x≠T) M (g.map λz=>V.ref z.1) ((g.map (·.2)).map DA.D):=by
     rw[DT];exact Ax.of_all λz h=>(a9 z h).own
    have b7:Ax (λx=>H x=none/\x≠L/\x≠T) M (e.map λz=>V.ref z.1) ((e.map (·.2)).map Cr.D):=by
     rw[DT];exact Ax.of_all λz h=>(aA z h).own
    have f3:Ax (λx=>H x=none/\x≠L/\x≠T) M (u.map λz=>V.ref z.1) ((u.map (·.2)).map Cr.D):=by
     rw[DT];exact Ax.of_all λz h=>(aB z h).own
    exact((A5.tup a6 (.cons (.lst a7 b3 b6) (.cons (.lst aJ b4 b7) (.cons (.lst a8 b5 f3) .nil)))).same E).same s9
   have bu:Ax (λx=>H x=none/\x≠L/\x≠T) G (d++[.ref r]) ((ls++[(g.map (·.2),e.map (·.2),u.map (·.2))]).map ND):=by
    rw[Bh];exact((bs.same E).same s9).snoc bm
   clear aA aB a9 bs bm hw c hz ho eD bc eP er a7 aJ a8 a6 v;refine⟨_,Ar.of b2,rfl,?_⟩
   have ar:((∀k,a≠some (("thing" : Str),k))\/q.2.2.drop (i+1)=[])->∀N,G N=none->aP (.ref N) (upd G N (.tup [av,wv,.ref L,.ref T])):=λcg N bX=>by
    have j:=AR (o:=.tup [av,wv,.ref L,.ref T]) bX;refine qk N L T av wv (d++[.ref r]) a w _ l _ (aD.trans j) Aa hL (j _ _ bl) (j _ _ aq) ((ha.mono λζ ζ ζ h=>h.1).same j) ((bW.mono λζ ζ ζ h=>h.1).same j) ((bu.mono λζ ζ ζ h=>⟨h.1,h.2.1⟩).same j) ?_;have:=ax a w [(g.map (·.2),e.map (·.2),u.map (·.2))] [] (by rw[af];exact .stop LK bt cg);rw[FN] at this;exact this
   cases a with
   |none =>
     obtain rfl:=ha.ansN;exact⟨rfl,As (λζ=>BY ⟨Pu,ar (.inl λk z=>(by cases z))⟩) (λh=>absurd (By rfl) h)⟩
   |some p =>
     obtain⟨pa,rfl,aE⟩:=ha.ansS;refine⟨rfl,As (λh=>absurd (BM h) (by simp)) (λζ=>?_)⟩;refine Or.inr (Or.inl ⟨_,.str p.1,Ar.of aE,rfl,rfl,rfl,As (λh=>?_) (λh=>?_)⟩);refine BY ⟨Pu,ar (.inl λk z=>?_)⟩;have:p.1=("thing" : Str):=Bw Prod.fst (Br z);rw[this] at h;simp at h
     have hp:p.1=("thing" : Str):=Classical.byContradiction λz=>h (by
      have:decide (V.str p.1=V.str "thing")=false:=Dw λy=>z (V.str.inj y)
      rw[this];rfl)
     have ay:BQ W Z (e.map (·.2)) (a0.map (·.2)) i=(some (("thing" : Str),p.2),w):=(by rw[bt,<-hp]);refine⟨_,Or.inr ⟨_,Ar.of (aD _ _ eu),rfl⟩,rfl,rfl,As (λh2=>?_) (λh2=>?_)⟩;have e2:(i:Int)=((q.2.2.map V.str).length:Nat)-1:=V.int.inj (BM h2);rw[Al] at e2;exact⟨Pu,ar (.inr (List.drop_eq_nil_of_le (by lia)))⟩
     have bn:i+1<q.2.2.length:=by
      refine Classical.byContradiction λz=>h2 (By ?_);rw[Al];congr 1;lia
     clear ar;have rng:=Iu ok sm (λck hv=>by obtain⟨z,h1,rfl⟩:=AL.mp hv;exact bk z h1) ay;obtain⟨n,hn⟩:=DU rng.1;have bo:n<W.gs.length:=(by lia);have hg:=AD bo;have au:Keeps (·=T) G (upd G T (.lst (l.map V.int++[.int p.2]))):=Keeps.one aq;have j:Ac H (upd G T (.lst (l.map V.int++[.int p.2]))):=λb o ae=>by rw[AC (A1 ae bG)];exact aD _ _ ae
     have bv:(upd G T (.lst (l.map V.int++[.int p.2]))) T=some (.lst ((l++[p.2]).map V.int)):=by rw[Aa,Bh];rfl
     refine⟨Or.inl ⟨rfl,_,Ae.of aq⟩,Or.inr (Or.inl ⟨_,.int p.2,Ar.of aE,rfl,_,aq,by rw[Al];exact BH (by lia),?_⟩)⟩;generalize upd G T (.lst (l.map V.int++[.int p.2]))=cs at au j bv ⊢;have cc:=au.at_ _ _ bl aV;have ch:=au.tup aE;have cj:=bu.keeps au λy c=>c.2.2;have cd:=hC.same j;refine Or.inr (Or.inl ⟨_,.int p.2,Ar.of ch,rfl,U,bz,Tn,b0,A,W.gs,W.as,p.2,n,W.gs[n],rfl,hn,hg,Ar.of (j _ _ eN),⟨_,Ae.of (j _ _ N3.et),(N3.tg.same j).dts⟩,cd.ans,ok.net,λb ct hb aw eb=>?_⟩);have ah:=j.trans aw;have aK:=aw _ _ cc;have aL:=aw _ _ bv;have aN:=cj.same aw
     have ei:B6 W p.2=C0 W.gs W.as W.gs[n]:=by
      show(match W.gs[p.2.toNat]? with|some p=>C0 W.gs W.as p|none=>("no",0))=_
      rw[hn,Bk,hg]
     obtain⟨y2,N,bw⟩:∃y2 N,q.2.2.drop (i+1)=y2::N:=⟨_,_,MX bn⟩;rw[bw] at af;refine⟨_,Ar.of eb,rfl,?_⟩;generalize bp:C0 W.gs W.as W.gs[n]=I at *;refine⟨rfl,rfl,As (λh3=>?_) (λh3=>?_)⟩
     have e3:I.1=("open" : Str):=V.str.inj (BM h3);refine⟨by decide,λe0 bq=>?_⟩;obtain⟨bY,aM,aF,bZ⟩:=new_at (o:=.lst []) bq;rw[<-aM];refine⟨GW,λX aG=>?_⟩;obtain⟨cu,cf,br,aH⟩:=new_at (o:=.tup [.int i,.ref e0,.int I.2]) aG;rw[<-cf];refine⟨Pu,λr3 aI=>?_⟩;have ab:=AR (o:=.tup [.non,.ref X,.ref L,.ref T]) aI;have J:=(aF.trans br).trans ab;refine qk r3 L T .non (.ref X) (d++[.ref r]) none (some ((i:Int),[],I.2)) _ _ _ (ah.trans J) Aa hL (J _ _ aK) (J _ _ aL) .non (.tup (ab _ _ aH) (.cons (.int _) (.cons (.lst ((br.trans ab) _ _ bZ) (ah.free bq) .nil) (.cons (.int _) .nil)))) ((aN.mono λζ ζ ζ h=>⟨h.1,h.2.1⟩).same J) ?_;exact ax none (some ((i:Int),[],I.2)) [(g.map (·.2),e.map (·.2),u.map (·.2))] [p.2] (by rw[af];exact .opn LK ay (ei.trans (Prod.ext e3 rfl)));have e3:I.1≠("open" : Str):=λz=>h3 (By (by rw[z]));refine⟨rfl,rfl,As (λh4=>?_) (λh4=>?_)⟩;have e4:I.1=("no" : Str):=V.str.inj (BM h4);refine⟨B4,λX aG=>?_⟩;obtain⟨bY,aM,aF,aH⟩:=new_at (o:=.tup [.str "none",.int ((i:Int)+1)]) aG;rw[<-aM];refine⟨Pu,λr3 aI=>?_⟩;have ab:=AR (o:=.tup [.ref X,.non,.ref L,.ref T]) aI;have J:=aF.trans ab;refine qk r3 L T (.ref X) .non (d++[.ref r]) (some (("none" : Str),(i:Int)+1)) none _ _ _ (ah.trans J) Aa hL (J _ _ aK) (J _ _ aL) (.tup (ab _ _ aH) (.cons (.str _) (.cons (.int _) .nil))) .non ((aN.mono λζ ζ ζ h=>⟨h.1,h.2.1⟩).same J) ?_;exact ax (some (("none" : Str),(i:Int)+1)) none [(g.map (·.2),e.map (·.2),u.map (·.2))] [p.2] (by rw[af];exact .no LK ay (ei.trans (Prod.ext e4 rfl)));have e4:I.1≠("no" : Str):=λz=>h4 (By (by rw[z]))
     have e5:I.1=("to" : Str):=by
      have:=Z0 W.gs W.as W.gs[n];rw[bp] at this;rcases this with h|h|h;exact h;exact absurd h e3;exact absurd h e4
     have rg:=S5 ok (Ec bo) bp e5;refine AO λNz O=>?_;obtain⟨ta,o,cv,cw,et,_⟩:=TB.ex;refine O ?_;clear O;refine EE ?_;cbv;refine Or.inr (Or.inl ⟨_,.int Y,Ar.of (ah _ _ et),rfl,?_⟩);refine⟨I.2,Y,_,_,_,_,_,_,_,d++[.ref r],ls++[(g.map (·.2),e.map (·.2),u.map (·.2))],l++[p.2],rfl,ah,aK,aL,aN,by simp[bM],by simp[bN],bn,rg,ca,λa w aj ak z=>?_⟩;rw[FZ,FZ];refine ax a w _ _ ?_;rw[af];rw[bw] at z;exact .go LK ay (ei.trans (Prod.ext e5 rfl)) z
inductive E4 (K:Ah) (vs:List V) (H:Hp) (Q:VK):Prop where
 |mk (nt A t:Addr) (W:Wd) (n:Int) (h0:vs=[.ref nt,.int n]) (h1:Bq K H nt A t W) (h2:(0<=n/\n<W.gs.length)) (h3:∀(D:Addr)(H':Hp),H D=none->Ac H H'->H' D=some (.lst ((ER W.gs n).map V.int))->Q (.ref D) H'):E4 K vs H Q
def iW (K:Ah):Sp:=λvs H Q ζ=>E4 K vs H Q
abbrev Q4(P w K mg base):=BI P w K mg base "of_sort" 1 ["net", "thing"] (iW K)
def iX(B:BK mg)(F:BA K "of_sort" "of_sort" RG f fd)(b:mg "of_sort" = some (.ref f)):Q4 P w K mg base:=by
 refine Ca F b Ul (λr H Q E h=>?_) (λM A N s H r Q E C h=>?_);obtain⟨u,A,t,W,n,rfl,_⟩:=h;rfl;obtain⟨u,A,t,W,n,rfl,v,x,q⟩:=h;obtain⟨S,T,R,us,G,I,c,J,L,y,d⟩:=v.net;obtain⟨m,b⟩:=DU x.1;have j:m<W.gs.length:=(by lia);have o:m<c.length:=by rw[d.tg.len];exact j
 have k:W.gs[n.toNat]?=some W.gs[m]:=by rw[b,Bk];exact AD j
 have g:=d.tg.at_ m _ _ (AD o) (AD j);have l:Bz (c.map V.ref) n=some (.ref c[m]):=by rw[b];exact B3 (by rw[A3,AD o];rfl)
 generalize W.gs[m]=p at k g;generalize c[m]=z at l g
 have eq:ER W.gs n=if p.1=("sort" : Str) then[p.2] else[]:=by unfold ER;rw[k]
 refine⟨_,(Ap (DE (Av Aw (Av Aw (pv 0) Aq) (pv 1)) (Ck (n:=2) rfl (AF (Ay (i:=2) Ul.nd) (AF (Ay (i:=3) Ul.nd) Cj))))
  (Ap (Bv (B2 Dq (pv 2) BN (BW _)) (AA (AQ (Cg (Ab (pv 3) Af)))) Bx)
  (AA (AQ (Cg Af))))),?_⟩
 rfl';refine Or.inr (Or.inl ⟨_,.ref T,Ar.of y,rfl,Or.inl ⟨_,.ref z,Ae.of d.et,l,?_⟩⟩);refine⟨_,Ar.of g,rfl,?_⟩;refine⟨rfl,rfl,As (λh=>?_) (λh=>?_)⟩;have e:p.1=("sort" : Str):=V.str.inj (BM h);refine⟨Ir,λD a=>q D _ a (AR a) ?_⟩;rw[Aa,eq,Ak e];rfl;have e:p.1≠("sort" : Str):=λe=>h (By (by rw[e]));refine⟨by decide,λD a=>q D _ a (AR a) ?_⟩;rw[Aa,eq,Aj e];rfl
inductive DQ (K:Ah) (vs:List V) (H:Hp) (Q:VK):Prop where
 |mk (nt A t:Addr) (W:Wd) (v:V) (o:C') (h0:vs=[.ref nt,v]) (h1:Bq K H nt A t W) (h2:((o=none/\v=.non)\/∃p ta,o=some p/\v=.ref ta/\Ar K H ta [.str p.1,.int p.2])) (h3:(∀p,o=some p->p.1=("thing" : Str)->0<=p.2/\p.2<W.gs.length)) (h4:∀(D:Addr)(H':Hp),H D=none->Ac H H'->H' D=some (.lst ((qA W.gs o).map V.int))->Q (.ref D) H'):DQ K vs H Q
def iY (K:Ah):Sp:=λvs H Q ζ=>DQ K vs H Q
abbrev UH(P w K mg base):=BI P w K mg base "of_answer" 2 ["net", "answer"] (iY K)
def iZ(B:BK mg)(n:Q4 P w K mg base)(F:BA K "of_answer" "of_answer" RH f fd)(i:mg "of_answer" = some (.ref f)):UH P w K mg base:=by
 refine Ca F i fV (λj H Q E h=>?_) (λC A G s H j Q E u h=>?_);obtain⟨b,A,t,W,v,o,rfl,_⟩:=h;rfl;obtain⟨b,A,t,W,v,o,rfl,k,l,r,q⟩:=h;have d:qA W.gs o=[]->∀D,H D=none->Q (.ref D) (upd H D (.lst [])):=λe D a=>q D _ a (AR a) (by rw[Aa,e];rfl)
 refine⟨_,(Ap (Bv (PW.pt (P1 (Fo (F5 (pv 1))) (RX (B2 Lq (Av Aw (pv 1) Aq) BN (BW _))))) (AA (AQ (Cg Af))) Bx)
  (AA (AQ (A7 n (Ab (pv 0) (Ab (Av Aw (pv 1) Aq) Af)))))),?_⟩
 rfl';rcases l with⟨rfl,rfl⟩|⟨p,x,rfl,rfl,g⟩;exact⟨rfl,As (λζ=>BY ⟨by decide,d rfl⟩) (λh=>absurd (By rfl) h)⟩;refine⟨rfl,As (λh=>absurd (BM h) (by simp)) (λζ=>?_)⟩;refine Or.inr (Or.inl ⟨_,.str p.1,g,rfl,rfl,rfl,As (λh=>?_) (λh=>?_)⟩);refine⟨by decide,d ?_⟩;refine Aj λe=>?_;rw[e] at h;simp at h
 have c:p.1=("thing" : Str):=Classical.byContradiction λz=>h (by
  have:decide (V.str p.1=V.str "thing")=false:=Dw λy=>z (V.str.inj y)
  rw[this];rfl)
 refine Or.inr (Or.inl ⟨_,.int p.2,g,rfl,b,A,t,W,p.2,rfl,k,r p rfl c,λD m a s e=>q D m a s ?_⟩);rw[e]
 show some (HO.lst ((ER W.gs p.2).map V.int))=some (HO.lst ((if p.1=("thing" : Str) then ER W.gs p.2 else[]).map V.int))
 rw[Ak c]
def i0{k:Nat}{s:Bp}(h:W.ss[k]?=some s):BO W (k:Int)=s.1:=by unfold BO;rw[Bk,h]
def J9{k:Nat}(h:W.sts[k]?=some s):DJ W (k:Int)=s.1:=by unfold DJ;rw[Bk,h]
inductive Er (K:Ah) (vs:List V) (H:Hp) (Q:VK):Prop where
 |mk (nt A t:Addr) (W:Wd) (v:V) (F:Addr->Prop) (bs:List AK) (h0:vs=[.ref nt,.ref A,.ref t,v]) (h1:Bq K H nt A t W) (h2:BP W) (h3:A5 F H v (.lst (bs.map DA.D))) (h4:(∀b∈bs,Db W b)) (h5:(bs.flatMap (Bt W)).length<=4000) (h6:∀(D:Addr)(H':Hp),H D=none->Ac H H'->H' D=some (.lst ((bs.flatMap (Bt W)).map V.int))->Q (.ref D) H'):Er K vs H Q
def i3 (K:Ah):Sp:=λvs H Q ζ=>Er K vs H Q
abbrev UI(P w K mg base):=BI P w K mg base "of_steps" 3 ["net", "answers", "table", "begun"] (i3 K)
def i4(aR:BK mg)(a8:QY P w K mg base)(a9:UH P w K mg base)(F:BA K "of_steps" "of_steps" RI f fd)(z:mg "of_steps" = some (.ref f)):UI P w K mg base:=by
 refine Ca F z KN (λvs H az a0 h=>?_) (λaX A ba s H vs az a0 hr h=>?_);obtain⟨G,A,t,W,a1,F,bs,rfl,_⟩:=h;rfl
 . obtain⟨G,A,t,W,a1,F,bs,rfl,I,ok,hv,aA,hl,a2⟩:=h
   obtain⟨a3,aS,aT,us,Gs,Es,ts,qt,qs,eN,N3⟩:=I.net;obtain⟨a4,o,aB,b1,a5,b2,b3⟩:=I.tab;obtain⟨P,bv,rfl,eP,hb⟩:=T4 hv
   refine⟨_,(Ap (AX (i:=4) KN.nd (Cg Af))
    (Ap (Do CK rfl (Dm (pv 3)) (Ck (n:=3) rfl (AF (Ay (i:=5) KN.nd) (AF (Ay (i:=6) KN.nd) (AF (Ay (i:=7) KN.nd) Cj)))) (AA (Do CK rfl (Dm (Av Aw (Av Aw (Av Aw (pv 0) Aq) (pv 6)) Aq)) (Ck (n:=3) rfl (AF (Ay (i:=8) KN.nd) (AF (Ay (i:=9) KN.nd) (AF (Ay (i:=10) KN.nd) Cj)))) (AA (Bv (PW.pt (IH (B2 Dq (pv 9) BN (BW _)) (IG (Fo (Nb (A7 a8 (Ab (pv 2) (Ab (pv 7) (Ab (pv 8) Af))))))))) (Ap (DD (DG Dx Fu Fv FD (pv 4) (Ab (pv 10) Af)))
          (AA (DD (DG Dx PySem.F.slot_list_extend PySem.F.type_list_extend OC (pv 4) (Ab (A7 a9 (Ab (pv 0) (Ab (Av Aw (pv 1) (pv 10)) Af))) Af))))) Bx)))))
    (AA (AQ (pv 4))))),?_⟩
   rfl';refine⟨by decide,λD J=>?_⟩;obtain⟨aU,aC,s1,aD⟩:=new_at (o:=.lst []) J;rw[<-aC]
   refine⟨⟨_,Ae.of (s1 _ _ eP)⟩,FA (xs:=bv) (λi σ g=>∃Q R S q r u,σ=[some (.ref G),some (.ref A),some (.ref t),some (.ref P),some (.ref D),Q,R,S,q,r,u]/\Ac H g/\g D=some (.lst (((bs.take i).flatMap (Bt W)).map V.int)))
    ⟨none,none,none,none,none,none,rfl,s1,by rw[aD,Ee];rfl⟩ (λi σ g ζ aa=>by obtain⟨_,_,_,_,_,_,_,s,_⟩:=aa;exact Ae.of (s _ _ eP)) ?_ ?_⟩
   rotate_left;refine λσ H2 v=>AO λL a=>?_;obtain⟨Q,R,S,q,r,u,rfl,d,M⟩:=v;refine a ?_;clear a;rw[hb.length,Al,Ev] at M;exact a2 D _ J d M;refine λi x σ H2 hx v=>AO λL a=>?_;obtain⟨Q,R,S,q,r,u,rfl,d,M⟩:=v;refine a ?_;clear a;refine Ix ?_;intro Nx Cy;obtain⟨b,ak,aE⟩:=NF (hb.same d) hx;have al:=aA b (A6 ak);obtain⟨tb,x0,rfl,aF⟩:=Mq aE;have aG:=al.rng b.2.1 (by unfold AY;simp);have aH:=al.st;obtain⟨n,hn⟩:=DU aG.1;obtain⟨k,hk⟩:=DU aH.1;have an:n<W.ss.length:=(by lia);have aI:k<W.sts.length:=(by lia);refine AO λL a=>?_;obtain⟨ah,a6,E1,a7,aV,aW,g4,⟨c0,⟨tG,c1,T⟩,_⟩⟩:=N3.sc.get an;refine a ?_;clear a;have ao:=AD aI;have U:BO W b.2.1=W.ss[n].1:=by rw[hn];exact i0 g4
   have eG:DJ W b.2.2=W.sts[k].1:=by rw[hk];exact J9 ao
   have aJ:Bz (us.map V.ref) b.2.1=some (.ref ah):=by rw[hn];exact B3 (by rw[A3,a7];rfl)
   have aq:=O7 (f:=Bt W) ak;have aP:=O8 (f:=Bt W) (l:=bs) (i+1);rw[aq,AZ] at aP;refine⟨_,Ar.of aF,rfl,?_⟩;refine Or.inr (Or.inl ⟨_,.ref a3,Ar.of (d _ _ eN),rfl,Or.inl ⟨_,.ref ah,Ae.of (d _ _ N3.sc.top),aJ,Or.inr (Or.inl ⟨_,.ref a6,Ar.of (d _ _ c0),rfl,⟨_,Ae.of (d _ _ c1)⟩,?_⟩)⟩⟩)
   refine FA (xs:=tG.map V.ref) (λj σ g=>∃q r u,σ=[some (.ref G),some (.ref A),some (.ref t),some (.ref P),some (.ref D),some x0,some (.int b.2.1),some (.int b.2.2),q,r,u]/\Ac H g/\g D=some (.lst (((bs.take i).flatMap (Bt W)++((BO W b.2.1).take j).flatMap (FK W b.2.2)).map V.int)))
    ⟨_,_,_,rfl,d,by rw[M,Ee];simp⟩ (λj σ g ζ aa=>by obtain⟨_,_,_,_,s,_⟩:=aa;exact Ae.of (s _ _ c1)) ?_ ?_
   rotate_left;refine λσ B v=>AO λL a=>?_;obtain⟨q,r,u,rfl,c,E⟩:=v;refine a ?_;clear a;refine⟨_,_,_,_,_,_,rfl,c,?_⟩;rw[E,aq,Al,T.len,U,Ev,<-U];rfl;refine λj ai σ B hy v=>AO λL a=>?_;obtain⟨q,r,u,rfl,c,E⟩:=v;refine a ?_;clear a;refine Ix ?_;intro Nx Cy;obtain⟨tp,ar,rfl⟩:=getm hy;have au:j<W.ss[n].1.length:=by rw[<-T.len];exact(AN.mp ar).1
   have X:=AD au;have av:=T.at_ j tp _ ar X;have mp:=Ec au;generalize W.ss[n].1[j]=p at X av mp;have ab:=O7 (f:=FK W b.2.2) (show(BO W b.2.1)[j]?=some p by rw[U];exact X);have ae:=O8 (f:=FK W b.2.2) (l:=BO W b.2.1) (j+1);rw[ab,AZ] at ae;have aY:(Bt W b).length=((BO W b.2.1).flatMap (FK W b.2.2)).length:=rfl
   have skip:¬(p.2.1=("by" : Str)/\(Ea (DJ W b.2.2) p.1).isSome=true)->B D=some (.lst (((bs.take i).flatMap (Bt W)++((BO W b.2.1).take (j+1)).flatMap (FK W b.2.2)).map V.int)):=λaK=>by
    have:FK W b.2.2 p=[]:=Aj aK;rw[E,ab,this,FN]
   refine⟨_,Ar.of (c _ _ av),rfl,?_⟩;refine⟨rfl,rfl,As (λy=>?_) (λy=>Bb ?_)⟩;rotate_left;exact⟨_,_,_,rfl,c,skip λh=>y (By (by rw[h.1]))⟩;have y:p.2.1=("by" : Str):=V.str.inj (BM y);refine⟨t,a4,o,aB,W.sts,b.2.2,k,_,p.1,rfl,hk,c.seqT b1,⟨a5,c.seq b2,b3.same c⟩,ao,?_⟩;rw[<-eG]
   cases eg:Ea (DJ W b.2.2) p.1 with
   |none =>
     refine⟨rfl,As (λh=>absurd h (by simp[DX])) (λζ=>?_)⟩;exact⟨_,_,_,rfl,c,skip λh=>by rw[eg] at h;cases h.2⟩
   |some af =>
     refine⟨rfl,As (λζ=>?_) (λh=>absurd (by simp[DX]) h)⟩;have aw:FK W b.2.2 p=p.2.2::Fk W.gs W.as p.2.2:=Ak ⟨y,by rw[eg];rfl⟩;have aL:=ok.by_ (Ec an) mp λaj=>by rw[y] at aj;exact absurd aj (by decide +kernel)
     obtain⟨m,z⟩:=DU aL.1;have N:m<W.as.length:=(by lia);have ax:=JP (gs:=W.gs) (AD N);rw[aw,Ew] at ae;have O:Ac H (upd B D (.lst (((bs.take i).flatMap (Bt W)++((BO W b.2.1).take j).flatMap (FK W b.2.2)).map V.int++[.int p.2.2]))):=λai o e=>by rw[AC (A1 e J)];exact c _ _ e
     have ag:(upd B D (.lst (((bs.take i).flatMap (Bt W)++((BO W b.2.1).take j).flatMap (FK W b.2.2)).map V.int++[.int p.2.2]))) D=some (.lst (((bs.take i).flatMap (Bt W)++((BO W b.2.1).take j).flatMap (FK W b.2.2)).map V.int++[.int p.2.2])):=Aa;refine⟨Or.inl ⟨rfl,_,Ae.of E⟩,_,E,by rw[Al,AZ];exact Mr (by lia),?_⟩;generalize upd B D (.lst (((bs.take i).flatMap (Bt W)++((BO W b.2.1).take j).flatMap (FK W b.2.2)).map V.int++[.int p.2.2]))=H4 at O ag ⊢;obtain⟨ay,Y,aM,aN,hc⟩:=(I.same O).ans.get N;have aQ:Bz ay p.2.2=some Y:=by rw[z];exact B3 aN
     refine⟨Or.inl ⟨rfl,_,Ae.of ag⟩,Or.inl ⟨ay,Y,aM,aQ,G,A,t,W,Y,W.as[m],rfl,I.same O,?_,λZ e C=>ok.net.t Z (by rw[<-e];exact Ec N) C,λD2 H5 aZ s5 aO=>?_⟩⟩;rw[AD N] at hc;rcases hc with⟨e1,C⟩|⟨Z,ta,e1,C,e3⟩;exact .inl ⟨Br e1,C⟩;exact .inr ⟨Z,ta,Br e1,C,e3⟩;refine⟨D,D2,_,_,rfl,rfl,s5 _ _ ag,aO,?_,?_⟩;have:=Ms W.gs W.as[m];rw[z,ax] at ae;rw[AZ,Al,Al,AZ,DS];exact Cn (Mr (by lia));refine⟨_,_,_,rfl,λai o e=>?_,?_⟩;rw[AC (A1 e J)];exact s5 _ _ (O _ _ e);rw[Aa,ab,aw,z,ax]
     simp
inductive CW (K:Ah) (vs:List V) (H:Hp) (Q:VK):Prop where
 |mk (nt A t:Addr) (W:Wd) (v:V) (F:Addr->Prop) (ws:List (List Ao)) (h0:vs=[.ref nt,v]) (h1:Bq K H nt A t W) (h2:A5 F H v (.lst (ws.map Cr.D))) (h3:(∀w∈ws,CH W.ss w)) (h4:(ws.flatMap (ES W.ss)).length<=4000) (h5:∀(D:Addr)(H':Hp),H D=none->Ac H H'->H' D=some (.lst ((ws.flatMap (ES W.ss)).map V.int))->Q (.ref D) H'):CW K vs H Q
def i6 (K:Ah):Sp:=λvs H Q ζ=>CW K vs H Q
abbrev UJ(P w K mg base):=BI P w K mg base "of_tellings" 2 ["net", "found"] (i6 K)
def i7(ah:BK mg)(ab:Pt P w K mg base)(F:BA K "of_tellings" "of_tellings" RJ f fd)(Y:mg "of_tellings" = some (.ref f)):UJ P w K mg base:=by
 refine Ca F Y MD (λZ H Q E h=>?_) (λaj A al s H Z Q E hr h=>?_);obtain⟨g,A,t,W,v,F,j,rfl,_⟩:=h;rfl
 . obtain⟨g,A,t,W,v,F,j,rfl,hC,hv,he,hl,q⟩:=h
   obtain⟨S,T,R,us,Gs,Es,ts,qt,qs,eN,N3⟩:=hC.net;obtain⟨P,wv,rfl,G,I⟩:=T4 hv
   refine⟨_,(Ap (AX (i:=2) MD.nd (Cg Af))
    (Ap (Do CK rfl (Dm (pv 1)) (Ay (i:=3) MD.nd) (Ap (DE (A7 ab (Ab (pv 0) (Ab (Av Aw (pv 3) (IK IL Aq)) Af))) (Ck (n:=4) rfl (AF (Ay (i:=4) MD.nd) (AF (Ay (i:=5) MD.nd) (AF (Ay (i:=6) MD.nd) (AF (Ay (i:=7) MD.nd) Cj))))))
     (AA (Bv (B2 Dq (pv 6) BN (BW _)) (AA (DD (DG Dx Fu Fv FD (pv 2) (Ab (pv 7) Af)))) Bx))))
    (AA (AQ (pv 2))))),?_⟩
   rfl';refine⟨by decide,λD k=>?_⟩;obtain⟨ai,ae,J,af⟩:=new_at (o:=.lst []) k;rw[<-ae]
   refine⟨⟨_,Ae.of (J _ _ G)⟩,FA (xs:=wv) (λi σ p=>∃r u y z B,σ=[some (.ref g),some (.ref P),some (.ref D),r,u,y,z,B]/\Ac H p/\p D=some (.lst (((j.take i).flatMap (ES W.ss)).map V.int)))
    ⟨none,none,none,none,none,rfl,J,by rw[af,Ee];rfl⟩ (λi σ p ζ ag=>by obtain⟨_,_,_,_,_,_,s,_⟩:=ag;exact Ae.of (s _ _ G)) ?_ ?_⟩
   rotate_left;refine λσ H2 C=>AO λL a=>?_;obtain⟨r,u,y,z,B,rfl,c,d⟩:=C;refine a ?_;clear a;rw[I.length,Al,Ev] at d;exact q D _ k c d;refine λi x σ H2 hx C=>AO λL a=>?_;obtain⟨r,u,y,z,B,rfl,c,d⟩:=C;refine a ?_;clear a;obtain⟨w,M,N⟩:=NF (I.same c) hx;have ew:=he w (A6 M);obtain⟨vv,m,O,mo,aa⟩:=ew;rw[O] at N;refine AO λL a=>?_;obtain⟨l,ms,mk,rfl,l1,l2,l3⟩:=JQ N;refine a ?_;clear a;have et:Jt W.ss m=Ci W.ss w:=(by rw[O,Qw]);have ak:=O8 (f:=ES W.ss) (l:=j) i;have U:=O7 (f:=ES W.ss) M;refine Or.inl ⟨_,.ref mk,Ae.of l1,l2,g,S,T,R,mk,us,Gs,Es,W.ss,m,rfl,Ar.of (c _ _ eN),N3.sc.same c,Ar.of l3,mo,aa,λtp X=>?_⟩;rw[et] at X;refine⟨_,Ar.of X,rfl,?_⟩;refine⟨rfl,rfl,As (λh=>?_) (λh=>?_)⟩;have hb:(Ci W.ss w).2.2.1=("by" : Str):=V.str.inj (BM h);refine⟨Or.inl ⟨rfl,_,Ae.of d⟩,_,d,by rw[Al];exact Mr (by lia),?_⟩;refine⟨_,_,_,_,_,rfl,λb o e=>?_,?_⟩;rw[AC (A1 e k)];exact c _ _ e;rw[Aa,U,Bh];unfold ES;rw[Ak hb];rfl;have hb:(Ci W.ss w).2.2.1≠("by" : Str):=λe=>h (By (by rw[e]));refine⟨_,_,_,_,_,rfl,c,?_⟩;rw[d,U];have:ES W.ss w=[]:=Aj hb;rw[this,FN]
inductive CA (K:Ah) (vs:List V) (H:Hp) (Q:VK):Prop where
 |mk (nt A t L T:Addr) (F:Addr->Prop) (W:Wd) (lv:List V) (ls:List Lk) (ts:List Int) (h0:vs=[.ref nt,.ref A,.ref t,.ref L,.ref T]) (h1:Bq K H nt A t W) (h2:BP W) (h3:H L=some (.lst lv)) (h4:Ax F H lv (ls.map ND)) (h5:(∀l∈ls,HQ W l)) (h6:H T=some (.lst (ts.map V.int))) (h7:(∀n∈ts,0<=n/\n<W.gs.length)) (h8:(Ct W ls ts).length<=4000) (h9:(∀q∈Ct W ls ts,0<=q/\q<((40:Nat):Int))) (h10:∀(D:Addr)(us:List Int)(H':Hp),H D=none->Ac H H'->H' D=some (.lst (us.map V.int))->(∀q,q∈us↔q∈Ct W ls ts)->us.length<=40->Q (.ref D) H'):CA K vs H Q
def i8 (K:Ah):Sp:=λvs H Q ζ=>CA K vs H Q
abbrev UK(P w K mg base):=BI P w K mg base "questions_of" 4 ["net", "answers", "table", "looks", "things"] (i8 K)
theorem i9(B:BK mg)(aq:UI P w K mg base)(ar:UJ P w K mg base)(au:Q4 P w K mg base)(F:BA K "questions_of" "questions_of" RK f fd)(C:mg "questions_of" = some (.ref f)):UK P w K mg base:=by
 refine Ca F C NO (λvs H aj ak h=>?_) (λa6 A aA s H vs aj ak hr h=>?_);obtain⟨j,A,t,L,T,F,W,lv,ls,k,rfl,_⟩:=h;rfl;obtain⟨j,A,t,L,T,F,W,lv,ls,k,rfl,O,ok,eL,S,av,eT,aw,N,ab,al⟩:=h;have a7:(ls.flatMap (Ft W)).length<=4000:=by unfold Ct at N;rw[AZ] at N;lia
 refine⟨_,(Ap (AX (i:=5) NO.nd (Cg Af))
  (Ap (Do CK rfl (Dm (pv 3)) (Ck (n:=3) rfl (AF (Ay (i:=6) NO.nd) (AF (Ay (i:=7) NO.nd) (AF (Ay (i:=8) NO.nd) Cj)))) (Ap (DD (DG Dx PySem.F.slot_list_extend PySem.F.type_list_extend OC (pv 5) (Ab (A7 aq (Ab (pv 0) (Ab (pv 1) (Ab (pv 2) (Ab (pv 6) Af))))) Af)))
   (AA (DD (DG Dx PySem.F.slot_list_extend PySem.F.type_list_extend OC (pv 5) (Ab (A7 ar (Ab (pv 0) (Ab (pv 7) Af))) Af))))))
  (Ap (Do CK rfl (Dm (pv 4)) (Ay (i:=9) NO.nd) (AA (DD (DG Dx PySem.F.slot_list_extend PySem.F.type_list_extend OC (pv 5) (Ab (A7 au (Ab (pv 0) (Ab (pv 9) Af))) Af)))))
  (AA (AQ (CM (eQ rfl) B.b_sorted (Ab (IR (eK rfl) B.b_set (Ab (pv 5) Af)) Af))))))),?_⟩
 rfl';refine⟨by decide,λD hD=>?_⟩;obtain⟨a4,ax,s1,ay⟩:=new_at (o:=.lst []) hD;rw[<-ax];have Q:∀{a:Hp}{zs:List V},Ac H a->Ac H (upd a D (.lst zs)):=λs b o aa=>by rw[AC (A1 aa hD)];exact s _ _ aa
 refine⟨⟨_,Ae.of (s1 _ _ eL)⟩,FA (xs:=lv) (λi σ a=>∃E G I m,σ=[some (.ref j),some (.ref A),some (.ref t),some (.ref L),some (.ref T),some (.ref D),E,G,I,m]/\Ac H a/\a D=some (.lst (((ls.take i).flatMap (Ft W)).map V.int)))
  ⟨none,none,none,none,rfl,s1,by rw[ay,Ee];rfl⟩ (λi σ a ζ U=>by obtain⟨_,_,_,_,_,s,_⟩:=U;exact Ae.of (s _ _ eL)) ?_ ?_⟩
 refine λi x σ H2 J X=>AO λNz d=>?_;obtain⟨E,G,I,m,rfl,p,r⟩:=X;refine d ?_;clear d;obtain⟨l,Y,az⟩:=NF (S.same p) J;have ae:=av l (A6 Y);refine AO λNz d=>?_;obtain⟨an,x1,x2,x3,rfl,er,h1,h2,_⟩:=O5 az;refine d ?_;clear d;have v:=O7 (f:=Ft W) Y;have Z:=O8 (f:=Ft W) (l:=ls) (i+1);rw[v,AZ] at Z;have hq:(Ft W l).length=(l.1.flatMap (Bt W)).length+(l.2.1.flatMap (ES W.ss)).length:=by unfold Ft;rw[AZ]
 refine⟨_,Ar.of er,rfl,?_⟩;refine⟨Or.inl ⟨rfl,_,Ae.of r⟩,j,A,t,W,x1,F,l.1,rfl,O.same p,ok,h1,ae.bo,by lia,λu q M c g=>?_⟩;refine⟨D,u,_,_,rfl,rfl,c _ _ r,g,by rw[Al,Al];exact Cn (Mr (by lia)),?_⟩;have e:=Q (zs:=((ls.take i).flatMap (Ft W)).map V.int++(l.1.flatMap (Bt W)).map V.int) (p.trans c);have z:(upd q D (.lst (((ls.take i).flatMap (Ft W)).map V.int++(l.1.flatMap (Bt W)).map V.int))) D=some (.lst (((ls.take i).flatMap (Ft W)).map V.int++(l.1.flatMap (Bt W)).map V.int)):=Aa
 have af:A5 F (upd q D (.lst (((ls.take i).flatMap (Ft W)).map V.int++(l.1.flatMap (Bt W)).map V.int))) x2 (.lst (l.2.1.map Cr.D)):=by
  obtain⟨r',y1,y2,y3,e',ag,_,a0,_⟩:=O5 ((NF (S.same e) J).elim λl' h=>by
   have:l'=l:=Br (h.1.symm.trans Y)
   rw[this] at h;exact h.2)
  have:an=r':=V.ref.inj e';subst this;have a1:=(Keeps.one (H:=q) (o:=.lst (((ls.take i).flatMap (Ft W)).map V.int++(l.1.flatMap (Bt W)).map V.int)) (c _ _ r)).tup (c _ _ er);rw[a1] at ag;have e2:=HO.tup.inj (Br ag);cases e2;exact a0
 generalize upd q D (.lst (((ls.take i).flatMap (Ft W)).map V.int++(l.1.flatMap (Bt W)).map V.int))=H4 at e z af ⊢;refine⟨Or.inl ⟨rfl,_,Ae.of z⟩,j,A,t,W,x2,F,l.2.1,rfl,O.same e,af,ae.en,by lia,λD3 H5 a8 s5 a2=>?_⟩;refine⟨D,D3,_,_,rfl,rfl,s5 _ _ z,a2,by rw[AZ,Al,Al,Al];exact Cn (Mr (by lia)),?_⟩;refine⟨_,_,_,_,rfl,Q (e.trans s5),?_⟩;rw[Aa,v];unfold Ft;rw[Bh,Bh,FZ];refine λσ H2 X=>AO λNz d=>?_;obtain⟨E,G,I,m,rfl,p,r⟩:=X;refine d ?_;clear d;rw[S.length,Al,Ev] at r
 refine⟨⟨_,Ae.of (p _ _ eT)⟩,FA (xs:=k.map V.int) (λi σ a=>∃m,σ=[some (.ref j),some (.ref A),some (.ref t),some (.ref L),some (.ref T),some (.ref D),E,G,I,m]/\Ac H a/\a D=some (.lst ((ls.flatMap (Ft W)++(k.take i).flatMap (ER W.gs)).map V.int)))
  ⟨_,rfl,p,by rw[r,Ee];simp⟩ (λi σ a ζ U=>by obtain⟨_,_,s,_⟩:=U;exact Ae.of (s _ _ eT)) ?_ ?_⟩
 rintro i x σ q J ⟨m,rfl,c,g⟩;obtain⟨n,ah,rfl⟩:=getm J;have v:=O7 (f:=ER W.gs) ah;have Z:=O8 (f:=ER W.gs) (l:=k) (i+1);rw[v,AZ] at Z;have ai:=N;unfold Ct at ai;rw[AZ] at ai;refine⟨Or.inl ⟨rfl,_,Ae.of g⟩,j,A,t,W,n,rfl,O.same c,aw n (A6 ah),λu H4 M e z=>?_⟩;refine⟨D,u,_,_,rfl,rfl,e _ _ g,z,by rw[Al,Al,AZ];exact Cn (Mr (by lia)),?_⟩;refine⟨_,rfl,Q (c.trans e),?_⟩;rw[Aa,v]
 simp
 rintro σ q ⟨a9,rfl,c,g⟩;rw[Al,Ev] at g;refine⟨D,Ct W ls k,rfl,Ae.of g,N,λao hz=>?_⟩;refine⟨ao,Ct W ls k,rfl,Aa,λds hd hs=>?_,λu ms a3 C M=>?_⟩;have:=T8 hd λy R=>ab y (hs y R);lia;exact al u ms _ (c.free ((AR hz).free M)) ((c.trans (AR hz)).trans (AR M)) Aa C (T8 (a3.imp λ{a5 b}h=>by lia) λy R=>ab y ((C y).mp R))
inductive Cp (K:Ah) (vs:List V) (H:Hp) (Q:VK):Prop where
 |mk (nt A t P U:Addr) (F:Addr->Prop) (W:Wd) (qs:List Qu) (inn:Int) (ord:A') (as:List AI) (due:List Int) (kvs:List (AJ×V)) (H0:Hp) (h0:vs=[.ref nt,.ref A,.ref t,.ref P,.ref U]) (h1:Ac H0 H) (h2:H0 U=none) (h3:LN K F H0 nt t W qs inn ord) (h4:JS W qs inn ord) (h5:HP W qs as) (h6:ET H A as) (h7:H U=some (.dK kvs)) (h8:Iw kvs qs.length) (h9:H P=some (.lst (due.map V.int))) (h10:(∀k∈due,0<=k/\k<qs.length)) (h11:due.length<=40) (h12:∀(R:Addr)(rv:List V)(fs:List (Int×(Str×Int)))(kvs':List (AJ×V))(H':Hp),H R=none->(∀x o,H x=some o->x≠U->H' x=some o)->H' U=some (.dK kvs')->H' R=some (.lst rv)->Ax Gc H' rv (fs.map fD)->fs.length<=40->FT W qs inn ord as H H' kvs kvs' due fs->Q (.ref R) H'):Cp K vs H Q
def jA (K:Ah):Sp:=λvs H Q ζ=>Cp K vs H Q
abbrev UL(P w K mg base):=BI P w K mg base "found_in_turn" 8 ["net", "answers", "table", "due", "uses"] (jA K)
def jB(aY:BK mg)(aF:Pw P w K mg base)(aG:UK P w K mg base)(F:BA K "found_in_turn" "found_in_turn" RL f fd)(hm:mg "found_in_turn" = some (.ref f)):UL P w K mg base:=by
 refine Ca F hm ME (λI a6 a7 a8 h=>?_) (λbc A bj s a6 I a7 a8 hr h=>?_);obtain⟨Z,A,t,P,U,F,W,J,ag,ah,j,due,ai,H0,rfl,_⟩:=h;rfl
 . obtain⟨Z,A,t,P,U,F,W,J,ag,ah,j,due,ai,H0,rfl,s0,aH,hN,G,hA,an,eU,hK,L,aX,bi,a9⟩:=h
   obtain⟨aZ,ba,R0,bd,Gs,Es,be,M,eN,N3⟩:=hN.net;have ok:=G.all j hA;have aI:A≠U:=λz=>by obtain⟨_,e,_⟩:=an;rw[z,eU] at e;cases e
   have aJ:P≠U:=λz=>by rw[z,eU] at L;cases L
   refine⟨_,(Ap (AX (i:=5) ME.nd (Cg Af))
    (Ap (Do CK rfl (Dm (pv 3)) (Ay (i:=6) ME.nd) (Ap (DE (A7 aF (Ab (pv 0) (Ab (pv 1) (Ab (pv 2) (Ab (Av Aw (Av Aw (pv 0) Aq) (pv 6)) Af))))) (Ck (n:=4) rfl (AF (Ay (i:=7) ME.nd) (AF (Ay (i:=8) ME.nd) (AF (Ay (i:=9) ME.nd) (AF (Ay (i:=10) ME.nd) Cj))))))
     (AA (Bv (Fo (F5 (pv 7))) (AA (DE (A7 aG (Ab (pv 0) (Ab (pv 1) (Ab (pv 2) (Ab (pv 9) (Ab (pv 10) Af)))))) (P5 (pv 4) (pv 6) (YM (LI hr))))) (AA (DD (DG Dx Fu Fv FD (pv 5) (Ab (Bn (Ab (pv 6) (Ab (pv 7) Af))) Af))))))))
    (AA (AQ (pv 5))))),?_⟩
   rfl';refine⟨by decide,λR u=>?_⟩;obtain⟨af,aK,p,aa⟩:=new_at (o:=.lst []) u;rw[<-aK];have au:=p _ _ eU;have aw:R≠U:=λz=>by rw[z,au] at aa;cases aa
   have aL:H0 R=none:=s0.free u
   refine⟨⟨_,Ae.of (p _ _ L)⟩,FA (xs:=due.map V.int) (λi σ v=>∃u6 u7 u8 u9 aj d fs r,σ=[some (.ref Z),some (.ref A),some (.ref t),some (.ref P),some (.ref U),some (.ref R),u6,u7,u8,u9,aj]/\(∀x o,af x=some o->x≠U->x≠R->v x=some o)/\v U=some (.dK r)/\v R=some (.lst d)/\Ax Gc v d (fs.map fD)/\fs.length<=i/\FT W J ag ah j af v ai r (due.take i) fs)
    ⟨none,none,none,none,none,[],[],ai,rfl,λx o e ζ ζ=>e,au,aa,.nil,AE _,⟨λf hf=>by simp at hf,λk N=>by simp at N,λk ζ=>rfl,hK⟩⟩ (λi σ v ζ aM=>by obtain⟨_,_,_,_,_,_,_,_,_,b,_⟩:=aM;exact Ae.of (b _ _ (p _ _ L) aJ (A1 L u))) ?_ ?_⟩
   rotate_left;refine λσ B ak=>AO λNz S=>?_;obtain⟨u6,u7,u8,u9,aj,d,fs,r,rfl,q,C,E,T,ax,g⟩:=ak;refine S ?_;clear S;rw[Al,Ev] at g;refine a9 R d fs r B u (λx o e n=>q _ _ (p _ _ e) n (A1 e u)) C E T (by rw[Al] at ax;lia) ⟨g.fd,λk N=>?_,g.kp,g.ko⟩;rcases g.al k N with h|⟨l,us,a,b⟩;exact .inl h;exact .inr ⟨l,us,p.free a,b⟩;refine λi x σ B hx ak=>AO λNz S=>?_;obtain⟨u6,u7,u8,u9,aj,d,fs,r,rfl,q,C,E,T,ax,g⟩:=ak;refine S ?_;clear S;refine Ix ?_;intro Nx Cy;obtain⟨n,al,rfl⟩:=getm hx;have bf:i<due.length:=(AN.mp al).1;have hn:=aX n (A6 al);obtain⟨k,N⟩:=DU hn.1;subst N;have ay:k<J.length:=(by lia);have aN:k<M.length:=by rw[N3.tq.len];exact ay
   have az:=AD aN;have ab:=AD ay;obtain⟨aA,eq,eu⟩:=N3.tq.at_ k _ _ az ab;have aO:Bz (M.map V.ref) (k:Int)=some (.ref M[k]):=B3 (by rw[A3,az];rfl);have aP:=ok.q _ (A6 ab);obtain⟨aq,ar,aD,g4⟩:=aP;generalize J[k]=qk at *
   have a0:due.take (i+1)=due.take i++[(k:Int)]:=by rw[EG,al];rfl
   have X:Ac H0 B:=λy o e=>q _ _ (p _ _ (s0 _ _ e)) (λz=>by rw[z,aH] at e;cases e) (λz=>by rw[z,aL] at e;cases e)
   have aQ:ET B A j:=by
    refine an.go (λa I e=>q _ _ (p _ _ e) (λz=>by rw[z,eU] at e;cases e) (A1 e u)) λI e=>q _ _ (p _ _ e) aI (A1 e u)
   have ao:=(hN.same X).lc (K:=K) aQ.ans;refine Or.inr (Or.inl ⟨_,.ref R0,Ar.of (X _ _ eN),rfl,Or.inl ⟨_,.ref M[k],Ae.of (X _ _ N3.er),aO,Z,A,t,M[k],aA,F,W.late j,ag,ah,qk,rfl,ao.caseH,ao.tab,ok.ok,ok.sm,ok.ol,ok.irr,ok.inn,X _ _ eq,X _ _ eu,aq,ar,aD,g4,λbb aB T2 av wv lv a w ls ts H3 O er hL eL eT ha hw aR ae=>?_⟩⟩);refine⟨_,Ar.of er,rfl,?_⟩;have Y:=fH ok.ok ok.sm ok.inn ae aq ar;have bg:=Mb ae
   cases a with
   |none =>
     obtain rfl:=ha.ansN;refine⟨rfl,As (λζ=>?_) (λh=>absurd (By rfl) h)⟩;have aS:=ao.same O;refine⟨Z,A,t,aB,T2,_,W.late j,lv,ls,ts,rfl,aS.caseH,ok.ok,eL,aR,Y.1,eT,Y.2.1,fI (W:=W.late j) G.s3 Y.1 (by lia) (by lia),λy Q=>?_,λD us H4 hD s4 eD a1 bh=>?_⟩;have h1:=Xq ok.ok ok.sm Y.1 Q;have h2:(W.late j).as.length=J.length:=hA.len;have:=G.lq;lia;have c:=O.trans s4;have a2:=c _ _ C;refine⟨U,_,rfl,Hj.k (k:=.inl (k:Int)) a2 (Mr (by have:=g.ko.len;have:=G.lq;lia)),?_⟩;have H:B D=none:=O.free hD;have a3:D≠U:=λz=>by rw[z,C] at H;cases H
     have tk:Tk B (upd H4 U (.dK (AV r (.inl (k:Int)) (.ref D)))):=c.tk.trans (JR a2);refine⟨_,_,_,_,_,d,fs,AV r (.inl (k:Int)) (.ref D),rfl,λy o e n1 n2=>?_,Aa,?_,T.tk tk,by lia,?_⟩;rw[AC n1];exact c _ _ (q _ _ e n1 n2);rw[AC aw];exact c _ _ E;rw[a0];refine g.wait (λl I hl e=>?_) ab ae (l:=D) (us:=us) ?_ ?_ (by lia) (λy Q=>(Xq ok.ok ok.sm Y.1 ((a1 y).mp Q)).1) λy Q=>(a1 y).mpr Q;rw[AC λz=>by rw[z,C] at e;cases e];exact c _ _ e;refine Classical.byContradiction λz=>?_
     cases e:af D with
     |none=>exact z e
     |some o =>
       by_cases a4:D=R;rw[a4,E] at H;cases H;rw[q _ _ e a3 a4] at H;cases H
     rw[AC a3];exact eD
   |some aC =>
     obtain⟨pa,rfl,aT⟩:=ha.ansS;refine⟨rfl,As (λh=>absurd (BM h) (by simp)) (λζ=>?_)⟩;have aU:=O _ _ E;refine⟨Or.inl ⟨rfl,_,Ae.of aU⟩,B4,λm hm=>?_⟩;obtain⟨H4,aV,s4,aE⟩:=new_at (o:=.tup [.int k,.ref pa]) hm;rw[<-aV];have c:=O.trans s4;have a5:=c _ _ E;have aW:d.length<=1000:=by have:=T.length;rw[Al] at this;lia
     refine⟨_,a5,BH aW,?_⟩;have tk:Tk H4 (upd H4 R (.lst (d++[.ref m]))):=KG a5;refine⟨_,_,_,_,_,d++[.ref m],fs++[((k:Int),aC)],r,rfl,λy o e n1 n2=>?_,?_,Aa,?_,by rw[AZ,DS];lia,?_⟩;rw[AC n2];exact c _ _ (q _ _ e n1 n2);rw[AC (Ne.symm aw)];exact c _ _ C;rw[Bh];exact(T.tk (c.tk.trans tk)).snoc (.tup (tk _ _ aE) (.cons (.int _) (.cons (.tup (tk _ _ (s4 _ _ aT)) (.cons (.str _) (.cons (.int _) .nil))) .nil)));rw[a0];refine g.hit (λl I hl e=>?_) ab ⟨w,ls,ts,ae⟩;rw[AC λz=>by rw[z,aa] at hl;cases hl];exact c _ _ e
inductive Et (K:Ah) (vs:List V) (H:Hp) (Q:VK):Prop where
 |mk (l N:Addr) (us:List Int) (kvs:List (AJ×V)) (h0:vs=[.ref l,.ref N]) (h1:H l=some (.lst (us.map V.int))) (h2:us.length<=1000) (h3:H N=some (.dK kvs)) (h4:∀H',Ac H H'->Q (.bl (us.any λu=>(AH kvs (.inl u)).isSome)) H'):Et K vs H Q
def XY (K:Ah):Sp:=λvs H Q ζ=>Et K vs H Q
abbrev UM(P w K mg base):=BI P w K mg base "uses_one" 1 ["questions", "new"] (XY K)
theorem jC(B:BK mg)(F:BA K "uses_one" "uses_one" PU f fd)(e:mg "uses_one" = some (.ref f)):UM P w K mg base:=by
 refine Ca F e fW (λg H Q E h=>?_) (λC A D s H g Q E m h=>?_);obtain⟨l,N,us,b,rfl,_⟩:=h;rfl;obtain⟨l,N,us,b,rfl,c,n,o,q⟩:=h;refine⟨_,(AA (AQ (CM (Wm rfl) B.b_any (Ab (GC rfl Dd (Dm (pv 0)) (λζ ζ ζ ζ ζ=>(Ay (i:=0) Dd.nd)) (λζ ζ ζ ζ ζ=>F9) (λζ ζ ζ ζ ζ=>(Kk (VF (LI m)) (pv 0) (pv 1) (by with_unfolding_all rfl)))) Af)))),?_⟩;rfl'
 refine⟨⟨_,Ae.of c⟩,Sz (xs:=us.map V.int) (λv=>match v with|.int u=>V.bl (AH b (.inl u)).isSome|_=>V.bl false) (by rw[Al];exact Cn (BH n)) (Ae.of c) (λj y p d R2 r a z t=>?_) (λp d a z x=>?_)⟩
 obtain⟨u,_,rfl⟩:=getm r;refine⟨N,_,rfl,C8.k (k:=.inl u) (a _ _ o),?_⟩;have:=t _ (Ac.refl _);simpa using this;refine⟨d,us.map λu=>(AH b (.inl u)).isSome,rfl,Ae.of (by rw[x,DT,DT];rfl),?_⟩;have:=q _ a;rw[List.any_map];exact this
inductive Ce (K:Ah) (vs:List V) (H:Hp) (Q:VK):Prop where
 |mk (nt A t P:Addr) (F:Addr->Prop) (W:Wd) (qs:List Qu) (inn:Int) (ord:A') (ks:List Int) (h0:vs=[.ref nt,.ref A,.ref t,.ref P]) (h1:LC K F H nt A t W qs inn ord) (h2:KD W qs inn ord) (h3:H P=some (.lst (ks.map V.int))) (h4:(∀k∈ks,0<=k/\k<qs.length)) (h5:∀H',Ac H H'->Q .non H'):Ce K vs H Q
def jD (K:Ah):Sp:=λvs H Q ζ=>Ce K vs H Q
abbrev UN(P w K mg base):=BI P w K mg base "refuse_tangled" 8 ["net", "answers", "table", "answered"] (jD K)
def jE(ai:BK mg)(aa:Pw P w K mg base)(F:BA K "refuse_tangled" "refuse_tangled" RM f fd)(C:mg "refuse_tangled" = some (.ref f)):UN P w K mg base:=by
 refine Ca F C XJ (λD H Q E h=>?_) (λao A aq s H D Q E hr h=>?_);obtain⟨c,A,t,P,F,W,d,p,r,j,rfl,_⟩:=h;rfl
 . obtain⟨c,A,t,P,F,W,d,p,r,j,rfl,l,ok,m,ab,q⟩:=h
   obtain⟨aj,T,R,us,Gs,Es,G,b,I,e⟩:=l.net;refine⟨_,(AA (Do CK rfl (Dm (pv 3)) (Ay (i:=4) XJ.nd) (AA (DD (A7 aa (Ab (pv 0) (Ab (pv 1) (Ab (pv 2) (Ab (Av Aw (Av Aw (pv 0) Aq) (pv 4)) Af))))))))),?_⟩;try dsimp only[AG,Cx.nox,Cx.wish]
   refine⟨⟨_,Ae.of m⟩,FA (xs:=j.map V.int) (λi σ o=>∃g,σ=[some (.ref c),some (.ref A),some (.ref t),some (.ref P),g]/\Ac H o)
    ⟨none,rfl,Ac.refl _⟩ (λi σ o ζ ae=>by obtain⟨_,_,s⟩:=ae;exact Ae.of (s _ _ m)) ?_ ?_⟩
   rotate_left;rintro σ J ⟨g,rfl,a⟩;exact q _ a;rintro i x σ J L ⟨g,rfl,a⟩;obtain⟨n,af,rfl⟩:=getm L;have M:=ab n (A6 af);obtain⟨k,N⟩:=DU M.1;have v:k<d.length:=(by lia);have ag:k<b.length:=by rw[e.tq.len];exact v
   have y:=AD ag;have z:=AD v;obtain⟨u,eq,O⟩:=e.tq.at_ k _ _ y z;have ah:Bz (b.map V.ref) n=some (.ref b[k]):=by rw[N];exact B3 (by rw[A3,y];rfl)
   obtain⟨S,U,X,Y⟩:=ok.q _ (A6 z);have B:=l.same a;refine Or.inr (Or.inl ⟨_,.ref R,Ar.of (a _ _ I),rfl,Or.inl ⟨_,.ref b[k],Ae.of (a _ _ e.er),ah,c,A,t,b[k],u,F,W,p,r,d[k],rfl,B.caseH,B.tab,ok.ok,ok.sm,ok.ol,ok.irr,ok.inn,a _ _ eq,a _ _ O,S,U,X,Y,λak al T av wv lv an w ls G H3 Z ζ ζ ζ ζ ζ ζ ζ ζ=>?_⟩⟩);exact⟨_,rfl,a.trans Z⟩
def Px(m:Nat):((List.range m).map λj:Nat=>V.int j)=((List.range m).map λj:Nat=>(j:Int)).map V.int:=by rw[DT];rfl
def FF(h:i<m):((List.range m).map λj:Nat=>V.int j)[i]?=some (.int i):=by rw[A3,List.getElem?_range h];rfl
variable {H:Hp}{v:V}{d:Dt}
def MQ{F:Addr->Prop}{e:Dt}(h:A5 F H v (.tup [d,e])):∃m x y,v=.ref m/\H m=some (.tup [x,y])/\A5 F H x d/\A5 F H y e:=by
 cases h with
 | tup h t =>
   cases t with
   |cons a t =>
     cases t with
     |cons b t =>
       cases t with
       |nil=>exact⟨_,_,_,rfl,h,a,b⟩
inductive E5 (K:Ah) (vs:List V) (H:Hp) (Q:VK):Prop where
 |mk (nt t Kn Th:Addr) (F:Addr->Prop) (W:Wd) (qs:List Qu) (inn:Int) (ord:A') (h0:vs=[.ref nt,.ref t,.ref Kn,.ref Th]) (h1:LN K F H nt t W qs inn ord) (h2:JS W qs inn ord) (h3:H Kn=some (.lst (List.replicate qs.length .non))) (h4:H Th=some (.lst ((List.range qs.length).map λj:Nat=>V.int j))) (h5:∀(r A Tn:Addr)(n:Nat)(as:List AI)(ts:List Int)(H':Hp),Ac H H'->H A=none->H Tn=none->A≠Tn->H' r=some (.tup [.ref A,.ref Tn])->ET H' A as->H' Tn=some (.lst (ts.map V.int))->Run W qs inn ord n as ts->GJ W qs inn ord as as->Q (.ref r) H'):E5 K vs H Q
def jF (K:Ah):Sp:=λvs H Q ζ=>E5 K vs H Q
abbrev UO(P w K mg base):=BI P w K mg base "settled" 9 ["net", "table", "known", "those"] (jF K)
def jG(av:BK mg)(bo:UL P w K mg base)(bp:UM P w K mg base)(bq:UN P w K mg base)(F:BA K "settled" "settled" M7 f fd)(hm:mg "settled" = some (.ref f)):UO P w K mg base:=by
 refine Ca F hm GZ (λd H bi bj h=>?_) (λbO A bS s H d bi bj hr h=>?_);obtain⟨nt,t,Kn,Th,F,W,qs,inn,ord,rfl,_⟩:=h;rfl;obtain⟨nt,t,Kn,Th,F,W,qs,inn,ord,rfl,hN,G,a9,aa,bk⟩:=h
 have lq:=G.lq;generalize hm:qs.length=m at *
 refine⟨_,(Ap (AX (i:=4) GZ.nd (GC (g:=Lf K 2 (N1 (Im 0) (N1 (Im 1) Le))) (te:=UY (tB (DW (Vi K false) (Bs 0) (Bs 2))) (tC .non) (Bs 1)) rfl Cu (NB LK rfl av.b_enumerate (Ab (pv 2) Af)) (λζ ζ ζ ζ ζ=>(Ck (n:=2) rfl (AF (Ay (i:=0) Cu.nd) (AF (Ay (i:=1) Cu.nd) Cj)))) (λζ ζ ζ ζ ζ=>F9) (λζ ζ ζ ζ ζ=>(X9 (B2 Vj (pv 0) (pv 2) (by with_unfolding_all rfl)) F4 (pv 1)))))
  (Ap (AX (i:=5) GZ.nd (A2 Xo (Cg (Ab Aq Af)) (CM Gi av.b_len (Ab (pv 4) Af))))
  (Ap (AX (i:=6) GZ.nd Yz)
  (Ap (AX (i:=7) GZ.nd (pv 3))
  (Ap (AX (i:=8) GZ.nd Aq)
  (Ap (P6 CK (VG (pv 7)) (Ap (VY (i:=8) GZ.nd rfl (Or.inl rfl) Aq U3)
   (Ap (AX (i:=9) GZ.nd (A7 bo (Ab (pv 0) (Ab (pv 4) (Ab (pv 1) (Ab (pv 7) (Ab (pv 6) Af)))))))
   (Ap (Do CK rfl (Dm (pv 9)) (Ck (n:=2) rfl (AF (Ay (i:=10) GZ.nd) (AF (Ay (i:=11) GZ.nd) Cj))) (Ap (DE (pv 11) (P5 (pv 4) (pv 10) Sh))
    (AA (DE (pv 8) (P5 (pv 5) (pv 10) Sh)))))
   (Ap (AX (i:=12) GZ.nd (IR (fA rfl) av.b_dict (Ab (pv 9) Af)))
   (AA (LL (i:=7) GZ.nd rfl (Or.inl rfl) (tc:=NU (tB (IF (DW (FR K) (Bs 2) (Bs 0)))) (tB (Hc (XY K) [] E0 (FQ (Kp (Bs 3) (Bs 0)) (FQ (Bs 1) Fc))))) rfl DL (Dm (pv 3)) (λζ ζ ζ ζ ζ=>(Ay (i:=0) DL.nd)) (λζ ζ ζ ζ ζ=>(OB (PW.pt (IH (Fo (F5 (Av Aw (pv 2) (pv 0)))) (IG (F6 (A7 bp (Ab (Vr (LI hr) (pv 3) (pv 0) (λζ ζ=>rfl)) (Ab (pv 1) Af))))))))) (λζ ζ ζ ζ ζ=>(pv 0)))))))))
  (Ap (DD (A7 bq (Ab (pv 0) (Ab (pv 4) (Ab (pv 1) (Ab (GC (tc:=tB (Kh (DW (FR K) (Bs 1) (Bs 0)))) rfl DM (Dm (pv 3)) (λζ ζ ζ ζ ζ=>(Ay (i:=0) DM.nd)) (λζ ζ ζ ζ ζ=>(OB (Fo (Nb (Av Aw (pv 1) (pv 0)))))) (λζ ζ ζ ζ ζ=>(pv 0))) Af))))))
  (AA (AQ (Bn (Ab (pv 4) (Ab (pv 5) Af)))))))))))),?_⟩
 rfl';refine⟨Kn,rfl,⟨_,a9⟩,fK (xs:=List.replicate m .non) (λD i y q=>Ac H q/\q D=some (.lst y)/\y=List.replicate i .non) (λD C=>⟨AR C,Aa,rfl⟩) (λD i y H2 p=>Ae.of (p.1 _ _ a9)) (λD i x bM y H2 ae C r hT p k=>?_) (λA y bN aK p=>?_)⟩;obtain⟨s2,br,rfl⟩:=p;rw[List.getElem?_replicate] at r;have hi:i<m:=Classical.byContradiction λz=>by rw[Aj z] at r;cases r
 have M:=AR (o:=.tup [.int i,x]) hT;refine⟨_,Ar.of Aa,rfl,?_⟩;refine⟨Th,_,rfl,Or.inl (Ae.of ((s2.trans M) _ _ aa)),rfl,fN m,rfl,As (λζ=>?_) (λh=>absurd (Mu hi) h)⟩;refine k _ _ (M _ _ br) (by rw[List.length_replicate];exact BH (by lia)) ⟨λb o e=>?_,Aa,?_⟩;rw[AC (A1 e C)];exact M _ _ (s2 _ _ e);rw[List.replicate_succ'];obtain⟨s1,aA,rfl⟩:=p;rw[List.length_replicate] at aA;refine⟨Ir,λbl hZ=>?_⟩;obtain⟨H2,bs,s2,eZ⟩:=new_at (o:=.lst [.int 0]) hZ;rw[<-bs];have an:=s2 _ _ aA;refine⟨_,Or.inl ⟨_,Ae.of an,rfl⟩,bl,_,_,rfl,rfl,eZ,?_,?_,λu aB=>?_⟩;rw[List.length_replicate];lia;rw[List.length_replicate,Bk];show 1*m<=1000;lia;have M:=AR (o:=.lst (List.replicate (((List.replicate m V.non).length:Nat):Int).toNat [V.int 0]).flatten) aB
 have a5:(upd H2 u (.lst (List.replicate (((List.replicate m V.non).length:Nat):Int).toNat [V.int 0]).flatten)) u=some (.lst ((List.replicate m (0:Int)).map V.int)):=by
  rw[Aa,List.length_replicate,Bk,Xu,List.map_replicate]
 generalize upd H2 u (.lst (List.replicate (((List.replicate m V.non).length:Nat):Int).toNat [V.int 0]).flatten)=H3 at M a5 ⊢;intro U hU;obtain⟨H4,bt,s4,bu⟩:=new_at (o:=.dK []) hU;rw[<-bt];have aL:=s4 _ _ (M _ _ an);have bd:=s4 _ _ a5;have aM:=((s1.trans s2).trans M).trans s4;have be:H u=none:=s1.free (s2.free aB);have aN:H U=none:=s1.free (s2.free (M.free hU));have ay:A≠u:=A1 an aB;have aC:A≠U:=A1 (M _ _ an) hU;have aO:u≠U:=A1 a5 hU;have a8:=HS.start (W:=W) (qs:=qs) (inn:=inn) (ord:=ord) (X:=λl=>l=A\/l=u) (H:=H4);rw[hm] at a8
 have bv:ET H4 A (List.replicate m none):=⟨_,aL,by
  rw[List.map_replicate];clear aL an aA a8 hm bd a5 a9 aa hN lq
  induction m with
  |zero=>exact .nil
  |succ m ih=>exact .cons .non (ih)⟩
 refine⟨λmm σ q=>∃(n:Nat)(as:List AI)(N:List Int)(due:List Int)(P:Addr)(az:List (AJ×V))(u9 ah ai aD:Option V),σ=[some (.ref nt),some (.ref t),some (.ref Kn),some (.ref Th),some (.ref A),some (.ref u),some (.ref U),some (.ref P),some (.int n),u9,ah,ai,aD]/\Ac H q/\q P=some (.lst (due.map V.int))/\ET q A as/\q u=some (.lst (N.map V.int))/\q U=some (.dK az)/\HS W qs inn ord (λl=>l=A\/l=u) q az n as N due/\due.length<=40/\mm=nn as+(if due=[] then 0 else 1),⟨_,0,_,_,_,Th,[],none,none,none,none,rfl,aM,by rw[<-Px];exact aM _ _ aa,bv,bd,bu,a8,by rw[Al,List.length_range];exact lq,rfl⟩,?_⟩;refine λmm σ H5 J=>AO λS a=>?_;obtain⟨n,as,N,due,P,az,u9,ah,ai,aD,rfl,s5,aE,ab,au,a0,T,bm,bw⟩:=J;refine a ?_;clear a;have hA:=(T.run.aok G.toSOk).1;have bf:as.length=m:=hA.len.trans hm;refine⟨P,_,rfl,Ae.of aE,?_⟩
 by_cases hd:due=[];subst hd;refine Bb ?_;have nx:=T.end_ G.toSOk;refine⟨⟨_,Ae.of (s5 _ _ aa)⟩,SW (xs:=(List.range m).map λj:Nat=>V.int j) (λD i y q=>∃c:List Int,y=c.map V.int/\Ac H5 q/\q D=some (.lst y)/\c.length<=i/\∀k∈c,0<=k/\k<(m:Int)) (λD C=>⟨[],rfl,AR C,Aa,AE _,λk E=>by cases E⟩) (λD i y q p=>?_) (λD i x y O ae R0 C r p k k0=>?_) (λD y O C p=>?_)⟩;obtain⟨c,_,s,_⟩:=p;exact Ae.of (s _ _ (s5 _ _ aa));refine AO λS a=>?_;obtain⟨c,rfl,Q,a1,lz,L⟩:=p;refine a ?_;clear a;have hi:i<m:=by have:=(AN.mp r).1;rw[Al,List.length_range] at this;exact this
 rw[FF hi] at r;cases r;have aj:ET O A as:=ab.go Q.tk λζ e=>Q _ _ e;obtain⟨d,v,e1,e2,_⟩:=aj.get (k:=i) (by lia);refine Or.inl ⟨d,v,Ae.of e1,e2,rfl,As (λζ=>?_) (λζ=>?_)⟩;refine k _ _ a1 (by rw[Al];exact BH (by lia)) ⟨c++[(i:Int)],by rw[Bh];rfl,λb o e=>?_,Aa,by rw[AZ,DS];lia,λa6 I=>?_⟩;rw[AC (A1 e C)];exact Q _ _ e;rcases BL.mp I with I|I;exact L a6 I;rw[AW.mp I];lia;exact k0 _ ⟨c,rfl,Q,a1,by lia,L⟩;refine AO λS a=>?_;obtain⟨c,rfl,Q,a1,_,L⟩:=p;refine a ?_;clear a;have aj:ET O A as:=ab.go Q.tk λζ e=>Q _ _ e;refine⟨nt,A,t,D,F,W.late as,qs,inn,ord,c,rfl,(hN.same (s5.trans Q)).lc aj.ans,G.all as hA,a1,λk E=>by rw[hm];exact L k E,λY s7=>?_⟩;refine⟨B4,λaw bx=>?_⟩;have Z:=AR (o:=.tup [.ref A,.ref u]) bx;have a2:=(Q.trans s7).trans Z;exact bk aw A u n as N _ (s5.trans a2) aK be ay Aa (ab.go a2.tk λζ e=>a2 _ _ e) (a2 _ _ au) T.run nx;refine As (λζ=>?_) (λh=>absurd (by cases due with|nil=>exact absurd rfl hd|cons a7 aw=>rfl) h);refine⟨_,λζ ζ h=>h,?_⟩;refine⟨_,rfl,?_⟩;cbv
 have bI:∀k∈due,0<=k/\k<qs.length:=λk E=>by
  obtain⟨j,rfl,h1,_⟩:=T.du k E;lia
 refine⟨nt,A,t,P,U,F,W,qs,inn,ord,as,due,az,H,rfl,s5,aN,hN,G,hA,ab,a0,T.ko,aE,bI,bm,λae rv fs bg O hR b6 bz aF aG bP ft=>?_⟩;have ao:∃d,H5 A=some (.lst d):=by obtain⟨d,e,_⟩:=ab;exact⟨d,e⟩
 obtain⟨bR,ao⟩:=ao;have aP:ae≠A:=λz=>by rw[z,ao] at hR;cases hR
 have aQ:ae≠u:=λz=>by rw[z,au] at hR;cases hR
 have b0:Ac H O:=λx o e=>b6 _ _ (s5 _ _ e) (λz=>by rw[z,aN] at e;cases e);have aj:ET O A as:=ab.go (λa7 d e=>b6 _ _ e (λz=>by rw[z,a0] at e;cases e)) λd e=>b6 _ _ e aC;have aR:=b6 _ _ ao aC;have aJ:=b6 _ _ au aO
 have af:=T.aft G.toSOk hd ft (λl hl r=>by
  rcases r with rfl|rfl;rw[ao] at hl;cases hl
  rw[au] at hl;cases hl) (λl d r e=>b6 _ _ e (λz=>by rw[z,a0] at e;cases e))
 have opn:∀f∈fs,∃k:Nat,f.1=(k:Int)/\k<m/\as[k]?=some none:=λf hf=>by
  refine AO λS a=>?_;obtain⟨k,_,e1,e2,_,_⟩:=ft.fd f hf;refine a ?_;clear a;obtain⟨j,e5,e6,e7⟩:=T.du _ e2;have:k=j:=(by lia);subst this;exact⟨k,e1,by lia,e7⟩
 have b1:N.length=m:=(T.run.aok G.toSOk).2.trans hm;clear ab au a0 aE
 refine⟨⟨_,Ae.of aF⟩,FA (xs:=rv) (λi σ q=>∃ah ai,σ=[some (.ref nt),some (.ref t),some (.ref Kn),some (.ref Th),some (.ref A),some (.ref u),some (.ref U),some (.ref P),some (.int ((n:Int)+1)),some (.ref ae),ah,ai,aD]/\(∀x o,O x=some o->x≠A->x≠u->q x=some o)/\ET q A (BS as (fs.take i))/\q u=some (.lst ((C3 N ((n:Int)+1) (fs.take i)).map V.int)))
  ⟨_,_,rfl,λζ ζ e ζ ζ=>e,by rw[Ee];exact aj,by rw[Ee];exact aJ⟩ (λi σ q ζ b2=>by obtain⟨_,_,_,b,_⟩:=b2;exact Ae.of (b _ _ aF aP aQ)) ?_ ?_⟩
 refine λi x σ Y r J=>AO λS a=>?_;obtain⟨ah,ai,rfl,R,aq,al⟩:=J;refine a ?_;clear a;refine Ix ?_;intro Nx Cy;have a3:Tk O Y:=λa7 d e=>R _ _ e (λz=>by rw[z,aR] at e;cases e) (λz=>by rw[z,aJ] at e;cases e);obtain⟨f,aH,b3⟩:=NF (aG.tk a3) r;refine AO λS a=>?_;obtain⟨fm,x1,y1,rfl,bn,b4,b5⟩:=MQ b3;refine a ?_;clear a;obtain rfl:=Mo b4;obtain⟨k,ek,E,_⟩:=opn f (A6 aH);have aS:f.1.toNat=k:=(by rw[ek,Bk]);obtain⟨d,aT,aU⟩:=aq;have b7:d.length=m:=by rw[aU.length,Al,QI];exact bf
 have b8:((C3 N ((n:Int)+1) (fs.take i)).map V.int).length=m:=by rw[Al,Ua];exact b1
 refine⟨_,Ar.of bn,rfl,?_⟩;refine⟨A,d,f.1,k,rfl,rfl,aT,?_,?_⟩;rw[ek,b7,SD (by lia) (by lia),Bk];refine⟨u,_,f.1,k,rfl,rfl,(AC (Ne.symm ay)).trans al,?_,?_⟩;rw[ek,b8,SD (by lia) (by lia),Bk];have b9:Tk Y (upd (upd Y A (.lst (d.set k y1))) u (.lst (((C3 N ((n:Int)+1) (fs.take i)).map V.int).set k (.int ((n:Int)+1))))):=(KG aT).trans (KG ((AC (Ne.symm ay)).trans al));refine⟨_,_,rfl,λx o e n1 n2=>?_,⟨d.set k y1,?_,?_⟩,?_⟩;rw[AC n2,AC n1];exact R _ _ e n1 n2;rw[AC ay,Aa];rw[fL aH,aS,List.map_set];exact(aU.set b5 k).tk b9;rw[Aa,fM aH,aS,List.map_set];refine λσ Y J=>AO λS a=>?_;obtain⟨ah,ai,rfl,R,aq,al⟩:=J;refine a ?_;clear a;have aV:rv.length=fs.length:=(by rw[aG.length,Al]);rw[aV,Ev] at aq al;have a3:Tk O Y:=λa7 d e=>R _ _ e (λz=>by rw[z,aR] at e;cases e) (λz=>by rw[z,aJ] at e;cases e);have bA:Ac H Y:=λx o e=>R _ _ (b0 _ _ e) (λz=>by rw[z,aK] at e;cases e) (λz=>by rw[z,be] at e;cases e);have aW:=R _ _ bz (Ne.symm aC) (Ne.symm aO);have aX:=af.keep (H'':=Y) λl d r e=>R _ _ e (λz=>r (.inl z)) (λz=>r (.inr z));obtain⟨ps,bB,bh⟩:=HV (aG.tk a3);refine⟨ae,rv,ps,rfl,R _ _ aF aP aQ,by rw[aV];exact BH (by lia),bB,λNw bC=>?_⟩;obtain⟨H8,bD,Z,bE⟩:=new_at (o:=.dK (Kq [] ps)) bC;rw[<-bD];have aI:=bA.trans Z;have aY:=aX.keep (H'':=H8) λl d ζ e=>Z _ _ e;have aZ:ET H8 A (BS as fs):=aq.go Z.tk λζ e=>Z _ _ e;have ba:=Z _ _ aW;have bJ:=Z _ _ al;have lA:(BS as fs).length=m:=by rw[QI];exact bf
 clear af aX aq aj a3 aW al R
 refine⟨⟨_,Ae.of (aI _ _ aa)⟩,SW (xs:=(List.range m).map λj:Nat=>V.int j) (λD i y q=>∃c:List Int,y=c.map V.int/\Ac H8 q/\q D=some (.lst y)/\c.length<=i/\(∀k∈c,∃j:Nat,k=(j:Int)/\j<qs.length/\(BS as fs)[j]?=some none)/\(fs=[]->c=[])/\∀k:Nat,k<i->(BS as fs)[k]?=some none->(k:Int)∈c\/∃(l:Addr)(us:List Int),AH bg (.inl (k:Int))=some (.ref l)/\H8 l=some (.lst (us.map V.int))/\∀ax∈us,∀f∈fs,f.1≠ax)
  (λD C=>⟨[],rfl,AR C,Aa,AE _,(λk E=>by cases E),λζ=>rfl,λk E=>absurd E (Nat.not_lt_zero _)⟩) (λD i y q p=>?_) (λD i x y H9 RR R0 C r p k k0=>?_) (λD y H9 C p=>?_)⟩
 obtain⟨c,_,s,_⟩:=p;exact Ae.of (s _ _ (aI _ _ aa));refine AO λS a=>?_;obtain⟨c,rfl,B,ar,lz,L,J,ak⟩:=p;refine a ?_;clear a;have hi:i<m:=by have:=(AN.mp r).1;rw[Al,List.length_range] at this;exact this
 rw[FF hi] at r;cases r;have bF:ET H9 A (BS as fs):=aZ.go B.tk λζ e=>B _ _ e;obtain⟨d,v,e1,e2,hc⟩:=bF.get (k:=i) (by lia);refine Or.inl ⟨d,v,Ae.of e1,e2,rfl,?_⟩;rcases hc with⟨ho,rfl⟩|⟨p,tt,ho,rfl,_⟩;refine As (λζ=>?_) (λh=>absurd (By rfl) h);obtain⟨av,l,us,r,hB,hu,ag⟩:=aY.us i (by lia) ho;refine⟨U,.ref l,rfl,by rw[<-hu.1];exact C8.k (k:=.inl (i:Int)) (B _ _ ba),l,Nw,us,Kq [] ps,rfl,B _ _ hu.2.1,hu.2.2.1,B _ _ bE,λbQ a4=>⟨rfl,As (λhb=>?_) (λhb=>?_)⟩⟩;obtain⟨ax,_,bb⟩:=Gf.mp hb;rw[Xs bh] at bb;obtain⟨f,hf,_⟩:=Gf.mp bb;have bK:=B.trans a4;refine k _ _ (a4 _ _ ar) (by rw[Al];exact BH (by lia)) ⟨c++[(i:Int)],by rw[Bh];rfl,λb o e=>?_,Aa,by rw[AZ,DS];lia,λa6 I=>?_,λe=>(by rw[e] at hf;cases hf),λj hj e=>?_⟩;rw[AC (A1 e C)];exact bK _ _ e;rcases BL.mp I with I|I;exact L a6 I;exact⟨i,AW.mp I,by lia,ho⟩;by_cases ej:j=i;subst ej;exact .inl (by simp);rcases ak j (by lia) e with h|h;exact .inl (Ef _ h);exact .inr h;refine k0 _ ⟨c,rfl,B.trans a4,a4 _ _ ar,by lia,L,J,λj hj e=>?_⟩;by_cases ej:j=i;subst ej;refine .inr ⟨l,us,hu.1,hu.2.1,λax bG f hf z=>hb (Gf.mpr ⟨ax,bG,?_⟩)⟩;rw[Xs bh];exact Gf.mpr ⟨f,hf,By z⟩;exact ak j (by lia) e;refine As (λh=>absurd (BM h) (by simp)) (λζ=>Bb (k0 _ ⟨c,rfl,B,ar,by lia,L,J,λj hj e=>?_⟩));by_cases ej:j=i;subst ej;rw[ho] at e;cases e;exact ak j (by lia) e;refine AO λS a=>?_;obtain⟨c,rfl,B,ar,lz,L,J,ak⟩:=p;refine a ?_;clear a;rw[Al,List.length_range] at lz ak;have bL:((n+1:Nat):Int)=(n:Int)+1:=by push_cast;rfl
 have bH:=aY.keep (H'':=H9) λl d ζ e=>B _ _ e;refine⟨nn (BS as fs)+(if c=[] then 0 else 1),?_,n+1,BS as fs,C3 N ((n:Int)+1) fs,c,D,bg,_,_,_,_,by rw[bL];rfl,aI.trans B,ar,aZ.go B.tk λζ e=>B _ _ e,B _ _ bJ,B _ _ ba,bH.trn L J λk E e=>?_,by lia,rfl⟩
 rw[bw,Aj hd]
 cases bc:fs with
 |nil =>
   rw[Ak (J bc)];exact Nat.lt_succ_of_le (Ud [] as)
 |cons f aw =>
   obtain⟨k,e1,e2,e3⟩:=opn f (by rw[bc];exact Bu);have:=O9 (f:=f) (fs:=aw) (as:=as) (by rw[e1,Bk];exact e3);by_cases z0:c=[];rw[Ak z0];lia;rw[Aj z0];lia
 rcases ak k (by lia) e with h|⟨l,us,h1,h2,h3⟩;exact .inl h;exact .inr ⟨l,us,h1,B _ _ h2,h3⟩
inductive Gz (K:Ah) (vs:List V) (H:Hp) (Q:VK):Prop where
 |mk (nt t:Addr) (F:Addr->Prop) (W:Wd) (qs:List Qu) (inn:Int) (ord:A') (h0:vs=[.ref nt,.ref t]) (h1:LN K F H nt t W qs inn ord) (h2:JS W qs inn ord) (h3:∀(r A Tn:Addr)(n:Nat)(as:List AI)(ts:List Int)(H':Hp),Ac H H'->H A=none->H Tn=none->A≠Tn->H' r=some (.tup [.ref A,.ref Tn])->ET H' A as->H' Tn=some (.lst (ts.map V.int))->Run W qs inn ord n as ts->GJ W qs inn ord as as->Q (.ref r) H'):Gz K vs H Q
def jH (K:Ah):Sp:=λvs H Q ζ=>Gz K vs H Q
abbrev Q5(P w K mg base):=BI P w K mg base "still" 10 ["net", "table"] (jH K)
theorem jI(B:BK mg)(aa:UO P w K mg base)(F:BA K "still" "still" RN f fd)(v:mg "still" = some (.ref f)):Q5 P w K mg base:=by
 refine Ca F v XM (λx H Q E h=>?_) (λal A ao s H x Q E hr h=>?_);obtain⟨d,t,F,W,a,l,m,rfl,_⟩:=h;rfl;obtain⟨d,t,F,W,a,l,m,rfl,e,G,q⟩:=h;obtain⟨aj,ak,R,us,Gs,Es,an,y,z,g⟩:=e.net;have lq:=G.lq;have ai:(((y.map V.ref).length:Nat):Int)=((a.length:Nat):Int):=(by rw[Al,g.tq.len])
 refine⟨_,(Ap (AX (i:=2) XM.nd (CM Gi B.b_len (Ab (Av Aw (pv 0) Aq) Af)))
  (AA (AQ (A7 aa (Ab (pv 0) (Ab (pv 1) (Ab (A2 Xo (Cg (Ab F4 Af)) (pv 2)) (Ab (IR (eY rfl) B.b_list (Ab (IR eX B.b_range (Ab (pv 2) Af)) Af)) Af)))))))),?_⟩
 rfl';refine Or.inr (Or.inl ⟨_,.ref R,Ar.of z,rfl,_,Or.inl ⟨_,Ae.of g.er,rfl⟩,?_⟩);rw[ai];refine⟨Ir,λZ C=>?_⟩;have D:=AR (o:=.lst [.non]) C;refine⟨Z,_,_,rfl,rfl,Aa,by lia,?_,λb ab=>?_⟩;show 1*_<=1000;rw[Bk];lia;have u:(upd (upd H Z (.lst [.non])) b (.lst (List.replicate ((a.length:Nat):Int).toNat [V.non]).flatten)) b=some (.lst (List.replicate a.length .non)):=(by rw[Aa,Bk,Xu]);have j:=D.trans (AR (o:=.lst (List.replicate ((a.length:Nat):Int).toNat [V.non]).flatten) ab);generalize upd (upd H Z (.lst [.non])) b (.lst (List.replicate ((a.length:Nat):Int).toNat [V.non]).flatten)=H2 at u j ⊢;refine⟨_,rfl,λp I=>⟨p,a.length,rfl,Aa,by lia,λJ ae=>?_⟩⟩;have L:=AR (o:=.rng 0 ((a.length:Nat):Int)) I;have k:=L.trans (AR (o:=.lst ((List.range a.length).map λi:Nat=>V.int i)) ae);have c:=j.trans k;exact⟨d,t,b,J,F,W,a,l,m,rfl,e.same c,G,k _ _ u,Aa,λr A M n N O S T U af ag X Y ah ru nx=>q r A M n N O S (c.trans T) (c.free U) (c.free af) ag X Y ah ru nx⟩
def XZ{b:List Dt}(h:An K H v (.lst b)):∃a vs,v=.ref a/\Ae K H a vs/\Ai K H vs b:=by cases h with|lst h t=>exact⟨_,_,rfl,h,t⟩
def X0{b:List Dt}(h:An K H v (.tup b)):∃a vs,v=.ref a/\Ar K H a vs/\Ai K H vs b:=by cases h with|tup h t=>exact⟨_,_,rfl,h,t⟩
def Py:Dt->Ty
 |.non=>.non
 |.bl _=>.bool
 |.int _=>.int
 |.str _=>.str
 |.tup _=>.tup
 |.lst _=>.lst
def Q6(h:An K H v d):I0 K H v (Py d):=by
 cases h with
 |non=>exact .non
 |bl b=>exact .bl b
 |int i=>exact .int i
 |str x=>exact .str x
 |tup h t=>exact .tup h
 |lst h t=>exact .lst h
def Ka(h:An K H v d):v=.non↔d=.non:=by
 cases h<;>simp
def Q7 (K:Ah) (n:Nat):Sp:=λvs H Q ζ=>∃(x y:V)(d e:Dt),vs=[x,y]/\An K H x d/\An K H y e/\Dn n d/\Dn n e/\∀(b:Bool)(H':Hp),Ac H H'->(b=true↔d=e)->Q (.bl b) H'
abbrev jJ (K:Ah):Sp:=Q7 K 8
theorem jK(B:BK mg)(n:Nat)(aj:BI P w K mg base "_law_same" (0+n) ["_law_found", "_law_due_here"] (Q7 K n))(F:BA K "_law_same" "_law_same" NS f fd):Eg P w K mg base Ip (0+n+1) f fd ["_law_found", "_law_due_here"] (Q7 K (n+1)):=by
 refine F.ok Um (λvs H ag ah h=>?_) (λal ak an s H vs ag ah hr h=>?_);obtain⟨x,y,d,af,rfl,_⟩:=h;rfl;obtain⟨x,y,d,af,rfl,g,G,hd,S,q⟩:=h
 refine⟨_,(Ap (Bv (Fo (F5 (pv 1))) (AA (AQ (RV (F5 (pv 0))))) Bx)
  (Ap (Bv (F6 (CM I7 B.b_isinstance (Ab (pv 1) (Ab (Ja "str" rfl B.b_str (by decide +kernel)) Af)))) (AA (AQ (P4 (CM I7 B.b_isinstance (Ab (pv 0) (Ab (Ja "str" rfl B.b_str (by decide +kernel)) Af))) (RY (Kk Dq (pv 0) (pv 1) (BW _)))))) Bx)
  (Ap (Bv (F6 (CM I7 B.b_isinstance (Ab (pv 1) (Ab (Ja "int" rfl B.b_int (by decide +kernel)) Af)))) (AA (AQ (P4 (CM I7 B.b_isinstance (Ab (pv 0) (Ab (Ja "int" rfl B.b_int (by decide +kernel)) Af))) (P4 (K8 (CM I7 B.b_isinstance (Ab (pv 0) (Ab (Ja "bool" rfl B.b_bool (by decide +kernel)) Af)))) (RY (Kk Dq (pv 0) (pv 1) (BW _))))))) Bx)
  (Ap (Bv (PW.pt (IH (F6 (CM I7 B.b_isinstance (Ab (pv 1) (Ab (Ja "list" rfl B.b_list (by decide +kernel)) Af)))) (IG (Ki (F6 (CM I7 B.b_isinstance (Ab (pv 0) (Ab (Ja "list" rfl B.b_list (by decide +kernel)) Af)))))))) (AA (AQ Il)) Bx)
  (Ap (Bv (PW.pt (IH (F6 (CM I7 B.b_isinstance (Ab (pv 1) (Ab (Ja "tuple" rfl B.b_tuple (by decide +kernel)) Af)))) (IG (Ki (F6 (CM I7 B.b_isinstance (Ab (pv 0) (Ab (Ja "tuple" rfl B.b_tuple (by decide +kernel)) Af)))))))) (AA (AQ Il)) Bx)
  (Ap (Bv (B2 Lq (CM Gi B.b_len (Ab (pv 0) Af)) (CM Gi B.b_len (Ab (pv 1) Af)) (BW _)) (AA (AQ Il)) Bx)
  (Ap (Do CK rfl (Js rfl B.b_zip (Ab (pv 0) (Ab (pv 1) Af))) (Ck (n:=2) rfl (AF (Ay (i:=2) Um.nd) (AF (Ay (i:=3) Um.nd) Cj))) (AA (Bv (Ki (F6 (A7 aj (Ab (pv 2) (Ab (pv 3) Af)) (hr.mono (by lia))))) (AA (AQ Il)) Bx)))
  (AA (AQ Il))))))))),?_⟩
 try dsimp only[AG,Cx.nox,Cx.wish]
 cases af with
 |non =>
   cases G;refine⟨rfl,As (λζ=>?_) (λh=>absurd (By rfl) h)⟩;exact q _ _ (Ac.refl _) ((decide_eq_true_iff).trans (Ka g))
 |bl b=>exact False.elim S
 |int s =>
   cases G;refine⟨rfl,As (λh=>absurd (BM h) (by simp)) (λζ=>?_)⟩;refine⟨_,.str,.int,rfl,.int s,rfl,Bb ?_⟩;refine⟨_,.int,.int,rfl,.int s,rfl,BY ?_⟩;refine⟨_,.int,Py d,rfl,Q6 g,_,rfl,?_⟩
   cases d with
   |bl _=>exact False.elim hd
   |int ai =>
     cases g;refine BY ⟨_,.bool,.int,rfl,.int _,_,rfl,_,rfl,BY ⟨rfl,?_⟩⟩;refine q _ _ (Ac.refl _) ⟨λz=>?_,λz=>?_⟩;rw[V.int.inj (BM z)];cases z;exact By rfl
   |_=>exact Bb (q false _ (Ac.refl _) ⟨λz=>(by cases z),λz=>(by cases z)⟩)
 |str s =>
   cases G;refine⟨rfl,As (λh=>absurd (BM h) (by simp)) (λζ=>?_)⟩;refine⟨_,.str,.str,rfl,.str s,rfl,BY ?_⟩;refine⟨_,.str,Py d,rfl,Q6 g,_,rfl,?_⟩
   cases d with
   |bl _=>exact False.elim hd
   |str ai =>
     cases g;refine BY ⟨rfl,?_⟩;refine q _ _ (Ac.refl _) ⟨λz=>?_,λz=>?_⟩;rw[V.str.inj (BM z)];cases z;exact By rfl
   |_=>exact Bb (q false _ (Ac.refl _) ⟨λz=>(by cases z),λz=>(by cases z)⟩)
 | lst k =>
   obtain⟨b,U,rfl,e,I⟩:=XZ G;have p:=I.length;refine⟨rfl,As (λh=>absurd (BM h) (by simp)) (λζ=>?_)⟩;refine⟨_,.str,.lst,rfl,.lst e,rfl,Bb ?_⟩;refine⟨_,.int,.lst,rfl,.lst e,rfl,Bb ?_⟩;refine⟨_,.lst,.lst,rfl,.lst e,rfl,BY ⟨_,.lst,Py d,rfl,Q6 g,rfl,?_⟩⟩
   cases d with
   |lst r =>
     obtain⟨a,us,rfl,t,J⟩:=XZ g;have u:=J.length;refine Bb ⟨_,.tup,.lst,rfl,.lst e,rfl,Bb (Bb ?_)⟩;refine⟨_,Or.inl ⟨_,t,rfl⟩,_,Or.inl ⟨_,e,rfl⟩,rfl,rfl,As (λh=>?_) (λh=>?_)⟩;refine q false _ (Ac.refl _) ⟨λz=>(by cases z),λz=>?_⟩;cases z;rw[u,p] at h;simp at h
     have W:r.length=k.length:=by
      rw[u,p] at h;simp at h;lia
     refine⟨a,b,rfl,Or.inl ⟨⟨_,t⟩,⟨_,e⟩,WD LK (xs:=us) (ys:=U) (λi σ L=>∃v A,σ=[some (.ref a),some (.ref b),v,A]/\Ac H L/\∀j:Nat,j<i->r[j]?=k[j]?) ⟨none,none,rfl,Ac.refl _,λj M=>absurd M (Nat.not_lt_zero _)⟩ (λi σ L aa=>by obtain⟨_,_,_,s,_⟩:=aa;exact⟨s.seq t,s.seq e⟩) ?_ ?_⟩⟩;rintro i x y T σ Y ab ae X ⟨v,A,rfl,C,D⟩;obtain⟨N,l,Z⟩:=J.get ab;obtain⟨O,E,t2⟩:=I.get ae;have Q:=AR (o:=.tup [x,y]) X;refine⟨_,Ar.of Aa,rfl,?_⟩;generalize upd Y T (.tup [x,y])=H2 at Q ⊢;have m:=C.trans Q;refine⟨x,y,N,O,rfl,Z.same m,t2.same m,hd N (A6 l),S O (A6 E),λbb H3 R hb=>⟨rfl,?_⟩⟩
     cases bb with
     |false =>
       refine BY (q false _ (m.trans R) ⟨λz=>(by cases z),λz=>?_⟩);have e1:r=k:=by cases z;rfl
       rw[e1,E] at l;have:=hb.mpr (Br l).symm;cases this
     |true =>
       refine Bb ⟨_,_,rfl,m.trans R,λj M=>?_⟩;by_cases c:j=i;rw[c,l,E,hb.mp rfl];exact D j (by lia)
     rintro σ Y ⟨v,A,rfl,C,D⟩;refine q true _ C ⟨λζ=>?_,λζ=>rfl⟩;congr 1;refine List.ext_getElem? λj=>?_;by_cases c:j<k.length
     exact D j (by simp only[p,u,W,Nat.min_self] at *;lia)
     rw[D6 (by lia),D6 (by lia)]
   |bl _=>exact False.elim hd
   |_=>exact BY (q false _ (Ac.refl _) ⟨λz=>(by cases z),λz=>(by cases z)⟩)
 | tup k =>
   obtain⟨b,U,rfl,e,I⟩:=X0 G;have p:=I.length;refine⟨rfl,As (λh=>absurd (BM h) (by simp)) (λζ=>?_)⟩;refine⟨_,.str,.tup,rfl,.tup e,rfl,Bb ?_⟩;refine⟨_,.int,.tup,rfl,.tup e,rfl,Bb ?_⟩;refine⟨_,.lst,.tup,rfl,.tup e,rfl,Bb (Bb ?_)⟩;refine⟨_,.tup,.tup,rfl,.tup e,rfl,BY ⟨_,.tup,Py d,rfl,Q6 g,rfl,?_⟩⟩
   cases d with
   |tup r =>
     obtain⟨a,us,rfl,t,J⟩:=X0 g;have u:=J.length;refine Bb ?_;refine⟨_,Or.inr ⟨_,t,rfl⟩,_,Or.inr ⟨_,e,rfl⟩,rfl,rfl,As (λh=>?_) (λh=>?_)⟩;refine q false _ (Ac.refl _) ⟨λz=>(by cases z),λz=>?_⟩;cases z;rw[u,p] at h;simp at h
     have W:r.length=k.length:=by
      rw[u,p] at h;simp at h;lia
     refine⟨a,b,rfl,Or.inr ⟨⟨_,t⟩,⟨_,e⟩,WD TK (xs:=us) (ys:=U) (λi σ L=>∃v A,σ=[some (.ref a),some (.ref b),v,A]/\Ac H L/\∀j:Nat,j<i->r[j]?=k[j]?) ⟨none,none,rfl,Ac.refl _,λj M=>absurd M (Nat.not_lt_zero _)⟩ (λi σ L aa=>by obtain⟨_,_,_,s,_⟩:=aa;exact⟨s.seqT t,s.seqT e⟩) ?_ ?_⟩⟩;rintro i x y T σ Y ab ae X ⟨v,A,rfl,C,D⟩;obtain⟨N,l,Z⟩:=J.get ab;obtain⟨O,E,t2⟩:=I.get ae;have Q:=AR (o:=.tup [x,y]) X;refine⟨_,Ar.of Aa,rfl,?_⟩;generalize upd Y T (.tup [x,y])=H2 at Q ⊢;have m:=C.trans Q;refine⟨x,y,N,O,rfl,Z.same m,t2.same m,hd N (A6 l),S O (A6 E),λbb H3 R hb=>⟨rfl,?_⟩⟩
     cases bb with
     |false =>
       refine BY (q false _ (m.trans R) ⟨λz=>(by cases z),λz=>?_⟩);have e1:r=k:=by cases z;rfl
       rw[e1,E] at l;have:=hb.mpr (Br l).symm;cases this
     |true =>
       refine Bb ⟨_,_,rfl,m.trans R,λj M=>?_⟩;by_cases c:j=i;rw[c,l,E,hb.mp rfl];exact D j (by lia)
     rintro σ Y ⟨v,A,rfl,C,D⟩;refine q true _ C ⟨λζ=>?_,λζ=>rfl⟩;congr 1;refine List.ext_getElem? λj=>?_;by_cases c:j<k.length
     exact D j (by simp only[p,u,W,Nat.min_self] at *;lia)
     rw[D6 (by lia),D6 (by lia)]
   |bl _=>exact False.elim hd
   |_=>exact BY (q false _ (Ac.refl _) ⟨λz=>(by cases z),λz=>(by cases z)⟩)
def jL(B:BK mg)(F:BA K "_law_same" "_law_same" NS f fd)(a:mg "_law_same" = some (.ref f))(n:Nat):BI P w K mg base "_law_same" (0+n) ["_law_found", "_law_due_here"] (Q7 K n):=by
 have b:Binds K fd ["_law_found", "_law_due_here"] []:=F.binds λζ ζ ζ ζ ζ ζ us c=>(by obtain⟨g,i,rfl⟩:=HZ c;rfl)
 induction n with
 |zero=>exact⟨f,fd,⟨λd H Q E h=>(by obtain⟨_,_,_,_,_,_,_,h,_⟩:=h;exact False.elim h),λA k s H j us d Q E ζ ζ ζ ζ h=>(by obtain⟨_,_,_,_,_,_,_,h,_⟩:=h;exact False.elim h)⟩,a,F.kp,b⟩
 |succ n e=>exact⟨f,fd,jK B n e F,a,F.kp,b⟩
abbrev Q8(P w K mg base):=BI P w K mg base "_law_same" 8 ["_law_found", "_law_due_here"] (jJ K)
def jM(B:BK mg)(F:BA K "_law_same" "_law_same" NS f fd)(a:mg "_law_same" = some (.ref f)):Q8 P w K mg base:=
 jL B F a 8
inductive Ie (K:Ah) (vs:List V) (H:Hp) (Q:VK):Prop where
 |mk (nt A t:Addr) (F:Addr->Prop) (W:Wd) (qs:List Qu) (inn:Int) (ord:A') (n:Int) (k:Nat) (q:Qu) (h0:vs=[.ref nt,.ref A,.ref t,.int n]) (h1:n=k) (h2:qs[k]?=some q) (h3:LC K F H nt A t W qs inn ord) (h4:KD W qs inn ord) (h5:∀(v:V)(a:C')(w:Option Wt)(ls:List Lk)(ts:List Int)(H':Hp),Ac H H'->A5 (λx=>H x=none) H' v (.tup [BG a,HG w])->LU W inn ord q.1 q.2.1 q.2.2 0 a w ls ts->Q v H'):Ie K vs H Q
def Kb (K:Ah):Sp:=λvs H Q ζ=>Ie K vs H Q
abbrev UP(P w K mg base):=BI P w K mg base "find" 8 ["net", "answers", "table", "question"] (Kb K)
def jN(af:BK mg)(Y:Pw P w K mg base)(F:BA K "find" "find" RO f fd)(x:mg "find" = some (.ref f)):UP P w K mg base:=by
 refine Ca F x Po (λy H Q E h=>?_) (λal A ao s H y Q E hr h=>?_);obtain⟨j,A,t,F,W,l,p,r,n,k,q,rfl,_⟩:=h;rfl;obtain⟨j,A,t,F,W,l,p,r,n,k,q,rfl,rfl,c,d,ok,z⟩:=h;obtain⟨ag,T,R,us,Gs,Es,m,b,B,e⟩:=d.net;have Z:k<l.length:=(AN.mp c).1;have aa:k<b.length:=by rw[e.tq.len];exact Z
 have v:=AD aa;obtain⟨u,eq,C⟩:=e.tq.at_ k _ q v c;have ab:Bz (b.map V.ref) (k:Int)=some (.ref b[k]):=B3 (by rw[A3,v];rfl);obtain⟨D,G,I,J⟩:=ok.q q (A6 c)
 refine⟨_,(Ap (DE (A7 Y (Ab (pv 0) (Ab (pv 1) (Ab (pv 2) (Ab (Av Aw (Av Aw (pv 0) Aq) (pv 3)) Af))))) (Ck (n:=4) rfl (AF (Ay (i:=4) Po.nd) (AF (Ay (i:=5) Po.nd) (AF (Ay (i:=6) Po.nd) (AF (Ay (i:=7) Po.nd) Cj))))))
  (AA (AQ (Bn (Ab (pv 4) (Ab (pv 5) Af)))))),?_⟩
 rfl';refine Or.inr (Or.inl ⟨_,.ref R,Ar.of B,rfl,Or.inl ⟨_,.ref b[k],Ae.of e.er,ab,j,A,t,b[k],u,F,W,p,r,q,rfl,d.caseH,d.tab,ok.ok,ok.sm,ok.ol,ok.irr,ok.inn,eq,C,D,G,I,J,λah ai T L M lv a w ls m aj N O hL eL eT S U an ae=>?_⟩⟩);refine⟨_,Ar.of O,rfl,?_⟩;refine⟨B4,λak X=>?_⟩;have g:=AR (o:=.tup [L,M]) X;exact z _ a w ls m _ (N.trans g) (.tup Aa (.cons (S.same g) (.cons (U.same g) .nil))) ae
inductive Dl (K:Ah) (vs:List V) (H:Hp) (Q:VK):Prop where
 |mk (nt A t:Addr) (F:Addr->Prop) (W:Wd) (qs:List Qu) (inn:Int) (ord:A') (n:Int) (k:Nat) (q:Qu) (h0:vs=[.ref nt,.ref A,.ref t,.int n]) (h1:n=k) (h2:qs[k]?=some q) (h3:LC K F H nt A t W qs inn ord) (h4:KD W qs inn ord) (h5:k<W.as.length) (h6:(W.as[k]?=some none->∀a w ls ts,LU W inn ord q.1 q.2.1 q.2.2 0 a w ls ts->a=none)) (h7:∀(v:Option Int)(H':Hp),Ac H H'->NI W inn ord q W.as[k]? v->Q (oV v) H'):Dl K vs H Q
def jO (K:Ah):Sp:=λvs H Q ζ=>Dl K vs H Q
abbrev UQ(P w K mg base):=BI P w K mg base "waited_for" 9 ["net", "answers", "table", "question"] (jO K)
def jP(B:BK mg)(R:UP P w K mg base)(F:BA K "waited_for" "waited_for" RP f fd)(z:mg "waited_for" = some (.ref f)):UQ P w K mg base:=by
 refine Ca F z QS (λb H Q E h=>?_) (λag A ai s H b Q E hr h=>?_);obtain⟨d,A,t,F,W,g,r,u,n,k,q,rfl,_⟩:=h;rfl
 . obtain⟨d,A,t,F,W,g,r,u,n,k,q,rfl,rfl,C,j,ok,S,T,l⟩:=h
   obtain⟨b,v,D,G,y⟩:=j.ans.get S;have U:Bz b (k:Int)=some v:=B3 G
   refine⟨_,(Ap (Bv (Fo (Nb (Av Aw (pv 1) (pv 3)))) (AA (AQ F4)) Bx)
    (Ap (DE (Av Aw (A7 R (Ab (pv 0) (Ab (pv 1) (Ab (pv 2) (Ab (pv 3) Af))))) Aq) (Ck (n:=3) rfl (AF (Ay (i:=4) QS.nd) (AF (Ay (i:=5) QS.nd) (AF (Ay (i:=6) QS.nd) Cj)))))
    (AA (AQ (pv 6))))),?_⟩
   rfl';refine Or.inl ⟨_,v,D,U,rfl,As (λh=>?_) (λh=>?_)⟩;refine l none _ (Ac.refl _) (.inl ?_);rcases y with⟨_,rfl⟩|⟨p,_,e,_⟩;exact absurd h (by decide);exact⟨p,e,rfl⟩
   have m:W.as[k]?=some none:=by
    rcases y with⟨e,_⟩|⟨p,t',_,rfl,_⟩;exact e;exact absurd rfl h
   refine⟨d,A,t,F,W,g,r,u,_,k,q,rfl,rfl,C,j,ok,λfv aa w ls I ab J V c=>?_⟩;obtain rfl:=T m _ _ _ _ c;rcases WZ c with⟨_,o,rfl⟩|⟨⟨x,L⟩,_⟩;rotate_left;cases L;refine AO λM a=>?_;obtain⟨ep,ex,ey,rfl,X,ah,Y⟩:=Pa V;refine a ?_;clear a;refine AO λM a=>?_;obtain⟨N,x,ae,af,rfl,Z,_,_,O⟩:=O5 Y;refine a ?_;clear a;obtain rfl:=Mo O;refine Or.inr (Or.inl ⟨_,.ref N,Ar.of X,rfl,_,Ar.of Z,rfl,?_⟩);exact l (some o.2.2) _ J (.inr ⟨m,o,ls,I,c,rfl⟩)
variable {n:Nat}
def MR(h:n<=100):n<sizeLine:=Nat.lt_of_le_of_lt h (by decide)
inductive GA (K:Ah) (vs:List V) (H:Hp) (Q:VK):Prop where
 |mk (nt A t:Addr) (F:Addr->Prop) (W:Wd) (qs:List Qu) (inn:Int) (ord:A') (h0:vs=[.ref nt,.ref A,.ref t]) (h1:LC K F H nt A t W qs inn ord) (h2:KD W qs inn ord) (h3:qs.length=W.as.length) (h4:qs.length<=100) (h5:(∀(k:Nat)(q:Qu),qs[k]?=some q->W.as[k]?=some none->∀a w ls ts,LU W inn ord q.1 q.2.1 q.2.2 0 a w ls ts->a=none)) (h6:∀(D:Addr)(ws:E')(H':Hp),H D=none->Ac H H'->H' D=some (.lst (ws.map oV))->ws.length=qs.length->(∀(k:Nat)(q:Qu)(o:Option Int),qs[k]?=some q->ws[k]?=some o->NI W inn ord q W.as[k]? o)->Q (.ref D) H'):GA K vs H Q
def jQ (K:Ah):Sp:=λvs H Q ζ=>GA K vs H Q
abbrev Pz(P w K mg base):=BI P w K mg base "waits" 10 ["net", "answers", "table"] (jQ K)
theorem jR(B:BK mg)(aa:UQ P w K mg base)(F:BA K "waits" "waits" PV f fd)(T:mg "waits" = some (.ref f)):Pz P w K mg base:=by
 refine Ca F T fX (λU H Q E h=>?_) (λag A ai s H U Q E hr h=>?_);obtain⟨L,A,t,F,W,c,I,J,rfl,_⟩:=h;rfl;obtain⟨L,A,t,F,W,c,I,J,rfl,M,ok,V,ah,ab,X⟩:=h;obtain⟨S,Y,ae⟩:=M.ans;have la:S.length=c.length:=(by rw[ae.length,Al,V]);refine⟨_,(AA (AQ (GC rfl EW (G8 rfl B.b_range (Ab (CM Gi B.b_len (Ab (pv 1) Af)) Af)) (λζ ζ ζ ζ ζ=>(Ay (i:=0) EW.nd)) (λζ ζ ζ ζ ζ=>F9) (λζ ζ ζ ζ ζ=>(A7 aa (Ab (pv 1) (Ab (pv 2) (Ab (pv 3) (Ab (pv 0) Af))))))))),?_⟩;rfl'
 refine⟨_,Or.inl ⟨_,Y,rfl⟩,(by lia),(by lia),No (lo:=0) (n:=S.length) (λD i m N=>Ac H N/\N D=some (.lst m)/\∃a:E',m=a.map oV/\a.length=i/\∀(k:Nat)(q:Qu)(o:Option Int),c[k]?=some q->a[k]?=some o->NI W I J q W.as[k]? o)
  (λD x=>⟨AR x,Aa,[],rfl,rfl,λk q o ζ z=>by cases z⟩) (λD i m O RR x hi g k=>?_) (λZ m O af g=>?_)⟩
 refine AO λNz l=>?_;obtain⟨p,y,a,rfl,r,C⟩:=g;refine l ?_;clear l;have u:=AD (show i<c.length by lia);generalize c[i]'(by lia)=q at u;refine⟨L,A,t,F,W,c,I,J,_,i,q,rfl,Int.zero_add _,u,M.same p,ok,by lia,ab i q u,λv H6 R g=>?_⟩;refine k _ _ (R _ _ y) (by rw[Al,r];exact MR (by lia)) ⟨λb o e=>?_,Aa,a++[v],by rw[Bh];rfl,by rw[AZ,r];rfl,λj q' o' G d=>?_⟩;rw[AC (A1 e x)];exact R _ _ (p _ _ e);rcases Nat.lt_or_ge j a.length with h|h;rw[D1 h] at d;exact C j q' o' G d;rw[EB h] at d
 have e:j=i:=by
  have:=(AN.mp d).1;rw[DS] at this;lia
 subst e;rw[r,Nat.sub_self] at d;cases d;rw[u] at G;cases G;exact g;refine AO λNz l=>?_;obtain⟨p,y,a,rfl,r,C⟩:=g;refine l ?_;clear l;exact X Z a O af p y (by lia) C
def UR{o:Option Int}:oV o=.non↔o=none:=by cases o<;>simp[oV]
def MS(h:n<=60):n<sizeLine:=Nat.lt_of_le_of_lt h (by decide)
def jS (ws:E') (R:List Int):Prop:=((∀(k:Nat)(o:Int),ws[k]?≠some (some o))/\R=[])\/∃(f:Nat)(o:Int),ws[f]?=some (some o)/\(∀k,k<f->∀o',ws[k]?≠some (some o'))/\Gd ws f R
inductive E6 (K:Ah) (vs:List V) (H:Hp) (Q:VK):Prop where
 |mk (nt A t:Addr) (F:Addr->Prop) (W:Wd) (qs:List Qu) (inn:Int) (ord:A') (h0:vs=[.ref nt,.ref A,.ref t]) (h1:LC K F H nt A t W qs inn ord) (h2:KD W qs inn ord) (h3:qs.length=W.as.length) (h4:qs.length<=50) (h5:(∀(k:Nat)(q:Qu),qs[k]?=some q->W.as[k]?=some none->∀a w ls ts,LU W inn ord q.1 q.2.1 q.2.2 0 a w ls ts->a=none)) (h6:(∀ws:E',ws.length=qs.length->(∀(k:Nat)(q:Qu)(o:Option Int),qs[k]?=some q->ws[k]?=some o->NI W inn ord q W.as[k]? o)->Cl ws)) (h7:∀(D:Addr)(R:List Int)(ws:E')(H':Hp),H D=none->Ac H H'->H' D=some (.lst (R.map V.int))->ws.length=qs.length->(∀(k:Nat)(q:Qu)(o:Option Int),qs[k]?=some q->ws[k]?=some o->NI W inn ord q W.as[k]? o)->jS ws R->Q (.ref D) H'):E6 K vs H Q
def jT (K:Ah):Sp:=λvs H Q ζ=>E6 K vs H Q
abbrev Q9(P w K mg base):=BI P w K mg base "ring_of" 11 ["net", "answers", "table"] (jT K)
def jU(ae:BK mg)(ar:Pz P w K mg base)(F:BA K "ring_of" "ring_of" PX f fd)(q:mg "ring_of" = some (.ref f)):Q9 P w K mg base:=by
 refine Ca F q NP (λvs H al E h=>?_) (λaE A aJ s H vs al E X h=>?_);obtain⟨Y,A,t,F,W,qs,ag,ah,rfl,_⟩:=h;rfl;obtain⟨Y,A,t,F,W,qs,ag,ah,rfl,hC,ok,hl,aF,au,av,qk⟩:=h
 refine⟨_,(Ap (AX (i:=3) NP.nd (A7 ar (Ab (pv 0) (Ab (pv 1) (Ab (pv 2) Af)))))
  (Ap (LL (i:=4) NP.nd rfl (Or.inl rfl) (g:=Lf K 2 (N1 (Im 0) (N1 (Im 1) Le))) rfl Cv (NB LK rfl ae.b_enumerate (Ab (pv 3) Af)) (λζ ζ ζ ζ ζ=>(Ck (n:=2) rfl (AF (Ay (i:=0) Cv.nd) (AF (Ay (i:=1) Cv.nd) Cj)))) (λζ ζ ζ ζ ζ=>(OB (Fo (Nb (pv 1))))) (λζ ζ ζ ζ ζ=>(pv 0)))
  (Ap (Bv (Ki (VG (pv 4))) (AA (AQ (Cg Af))) Bx)
  (Ap (AX (i:=5) NP.nd (Cg (Ab (Av Aw (pv 4) Aq) Af)))
  (Ap (P6 CK (B2 (VM X.units) (Av Aw (pv 3) (Av Aw (pv 5) (IK IL Aq))) (pv 5) (by with_unfolding_all rfl)) (AA (DD (DG Dx Fu Fv FD (pv 5) (Ab (Av Aw (pv 3) (Av Aw (pv 5) (IK IL Aq))) Af)))))
  (Ap (AX (i:=6) NP.nd (Oi Op (pv 5) (Oh (DG Dx PySem.F.slot_list_index PySem.F.type_list_index (Ue X.units) (pv 5) (Ab (Av Aw (pv 3) (Av Aw (pv 5) (IK IL Aq))) Af))) Og))
  (Ap (AX (i:=7) NP.nd (DG Dx PySem.F.slot_list_index PySem.F.type_list_index (Ue X.units) (pv 6) (Ab (CM (Xv rfl) ae.b_min (Ab (pv 6) Af)) Af)))
  (AA (AQ (A2 Nf (Oi Op (pv 6) (Oh (pv 7)) Og) (Oi Op (pv 6) Og (Oh (pv 7))))))))))))),?_⟩
 rfl';refine⟨Y,A,t,F,W,qs,ag,ah,rfl,hC,ok,hl,by lia,au,λD c an hD s1 M Z hw=>?_⟩;have cl:=av c Z hw;refine⟨D,rfl,⟨_,M⟩,fO (xs:=c.map oV) (λE i I B=>Ac an B/\B E=some (.lst I)/\I=(opn c i).map V.int) (λE N=>⟨AR N,Aa,rfl⟩) (λE i I O p=>Ae.of (p.1 _ _ M)) (λE i x aD I O af J N r hT p k k0=>?_) (λE I O N p=>?_)⟩;obtain⟨C,u,rfl⟩:=p;obtain⟨o,y,rfl⟩:=getm r;have Q:i<c.length:=(AN.mp y).1;obtain⟨H3,aw,d,eT⟩:=new_at (o:=.tup [.int i,oV o]) hT;rw[<-aw];refine⟨_,Ar.of eT,rfl,rfl,As (λh=>?_) (λh=>?_)⟩
 cases o with
 |none=>exact absurd h (by decide)
 |some o=>exact k _ _ (d _ _ u) (by rw[Al];exact Nat.lt_of_le_of_lt (Xx c i) (MS (by lia))) ⟨λb ao e=>by rw[AC (A1 e N)];exact d _ _ (C _ _ e),Aa,by rw[Uf y,Bh];rfl⟩
 cases o with
 |none=>exact k0 _ ⟨C.trans d,d _ _ u,by rw[Ug y]⟩
 |some o=>exact absurd rfl h
 obtain⟨C,u,rfl⟩:=p;have T:=s1.trans C;rw[Al] at u;refine⟨E,_,rfl,Ae.of u,?_⟩
 cases ez:opn c c.length with
 |nil =>
   refine BY ⟨by decide,λaf R=>?_⟩;have d:=AR (o:=.lst []) R;refine qk af [] c _ (T.free R) (T.trans d) Aa Z hw (.inl ⟨λk o z=>?_,rfl⟩);have:=Uh (AN.mp z).1 z;rw[ez] at this;cases this
 |cons z zs =>
   obtain⟨f,o0,rfl,hf,hb⟩:=Pc ez;rw[ez] at u;have n0:nx c f=some o0:=CF.mpr ⟨by lia,hf⟩;refine Bb ?_;refine Or.inl ⟨_,.int f,Ae.of u,B3 (j:=0) rfl,Ir,λP hP=>?_⟩;have d:=AR (o:=.lst [.int f]) hP;have eP:(upd O P (.lst [.int f])) P=some (.lst ([(f:Int)].map V.int)):=Aa;generalize upd O P (.lst [.int f])=H3 at d eP ⊢;have ax:=T.free hP;have ay:D≠P:=A1 (C _ _ M) hP;refine⟨λmm σ B=>∃a:List Int,σ=[some (.ref Y),some (.ref A),some (.ref t),some (.ref D),some (.ref E),some (.ref P),none,none]/\Ac H B/\B D=some (.lst (c.map oV))/\B P=some (.lst (a.map V.int))/\Rw c f a/\mm=c.length-a.length,⟨_,_,rfl,T.trans d,d _ _ (C _ _ M),eP,.one n0,rfl⟩,?_⟩;refine λmm σ H5 az=>AO λNz ai=>?_;obtain⟨a,rfl,s5,U,l,L,rfl⟩:=az;refine ai ?_;clear ai;have aG:0<a.length:=List.length_pos_iff.mpr L.ne;have aI:=L.few;have r:=AD (show a.length-1<a.length by lia);generalize a[a.length-1]'(by lia)=x at r;obtain⟨o,y⟩:=L.op x (A6 r);have aa:Bz (a.map V.int) (-1)=some (.int x):=VO (by rw[Al,A3,r];rfl);obtain⟨a0,a1⟩:=CF.mp y
   have ab:Bz (c.map oV) x=some (.int o):=by
    have:=B3 (xs:=c.map oV) (j:=x.toNat) (v:=.int o) (by rw[A3,a1];rfl);rw[Int.toNat_of_nonneg a0] at this;exact this
   refine Or.inl ⟨_,.int x,Ae.of l,aa,Or.inl ⟨_,.int o,Ae.of U,ab,1,.int o,a.map Dt.int,P,_,QL,by decide,.int o,rfl,Ae.of l,Hz a,rfl,As (λh=>?_) (λh=>?_)⟩⟩;have hn:o∉a:=λz=>by rw[Ex (HW.mpr z)] at h;cases h
   have r6:=L.more cl r y hn;have a2:=r6.few;rw[AZ,DS] at a2;refine⟨_,λζ ζ z=>z,Or.inl ⟨rfl,_,Ae.of l⟩,Or.inl ⟨_,.int x,Ae.of l,aa,Or.inl ⟨_,.int o,Ae.of U,ab,_,l,by rw[Al];exact MS (by lia),?_⟩⟩⟩;refine⟨_,?_,a++[o],rfl,λb ao e=>by rw[AC (A1 e ax)];exact s5 _ _ e,by rw[AC ay];exact U,by rw[Aa,Bh];rfl,r6,rfl⟩;rw[AZ,DS];lia;have a3:o∈a:=Classical.byContradiction λz=>h (by rw[Fp λaq=>z (HW.mp aq)];rfl);obtain⟨i,Q,a4⟩:=QK a3;have aH:=(AN.mp Q).1;refine⟨Or.inl ⟨rfl,_,Ae.of l⟩,Or.inl ⟨_,.int x,Ae.of l,aa,Or.inl ⟨_,.int o,Ae.of U,ab,P,.int o,1,.int o,a.map Dt.int,_,i,rfl,rfl,QL,by decide,.int o,Ae.of l,Hz a,EU.mpr Q,λm q z=>a4 m q (EU.mp z),_,rfl,P,_,rfl,Ae.of l,λJ a5=>?_⟩⟩⟩;rw[SE,<-Rh];obtain⟨H6,a6,s6,G⟩:=new_at (o:=.lst ((a.drop i).map V.int)) a5;rw[<-a6];have rg:=λj m S q=>L.ring (j:=j) (m:=m) r y Q S q
   have aj:a.drop i≠[]:=λz=>by
    have:=Bw List.length z;rw[G2] at this;simp at this;lia
   have a7:(a.drop i).length<=50:=by rw[G2];lia
   generalize a.drop i=rd at G rg aj a7 ⊢;obtain⟨n,ns,rfl⟩:=List.exists_cons_of_ne_nil aj;obtain⟨lm,ll⟩:=Xw n ns;obtain⟨j,S,a8⟩:=QK lm;refine⟨Or.inl ⟨rfl,_,Ae.of G⟩,J,n,ns,rfl,G,J,.int (ns.foldl min n),1,.int (ns.foldl min n),(n::ns).map Dt.int,_,j,rfl,rfl,QL,by decide,.int _,Ae.of G,Hz (n::ns),EU.mpr S,λm q z=>a8 m q (EU.mp z),?_⟩;have R:=rg j _ S ll;refine⟨_,rfl,J,_,rfl,Ae.of G,λRa a9=>?_⟩;rw[SE,<-Rh];obtain⟨H7,aA,s7,e7⟩:=new_at (o:=.lst (((n::ns).drop j).map V.int)) a9;rw[<-aA];refine⟨_,rfl,J,_,rfl,Ae.of (s7 _ _ G),λRb aB=>?_⟩;rw[VD,<-List.map_take];obtain⟨H8,aC,s8,e8⟩:=new_at (o:=.lst (((n::ns).take j).map V.int)) aB;rw[<-aC];refine⟨Ra,Rb,_,_,rfl,rfl,s8 _ _ e7,e8,?_,λRc ak=>?_⟩;rw[Al,Al,<-AZ,NJ];exact Cn (MS (by lia));have s9:=AR (o:=.lst (((n::ns).drop j).map V.int++((n::ns).take j).map V.int)) ak;have sx:=((s5.trans s6).trans s7).trans s8;refine qk Rc _ c _ (sx.free ak) (sx.trans s9) (by rw[Aa,Bh]) Z hw (.inr ⟨f,o0,hf,hb,R⟩)
inductive DR (K:Ah) (vs:List V) (H:Hp) (Q:VK):Prop where
 |mk (L D:Addr) (tl dts:List Addr) (ls:List (Str×Int)) (R:List Int) (h0:vs=[.ref L,.ref D]) (h1:H L=some (.lst (tl.map V.ref))) (h2:RT KJ H tl ls) (h3:ls.length<=40) (h4:H D=some (.lst (dts.map V.ref))) (h5:XG H dts ls) (h6:(((∀(k:Nat)(o:Int),(D0 ls)[k]?≠some (some o))/\R=[])\/∃(f:Nat)(o:Int),(D0 ls)[f]?=some (some o)/\(∀k,k<f->∀o',(D0 ls)[k]?≠some (some o'))/\Gd (D0 ls) f R)) (h7:∀(r:Addr)(H':Hp),Ac H H'->H' r=some (.lst (R.map V.int))->Q (.ref r) H'):DR K vs H Q
def jV (K:Ah):Sp:=λvs H Q ζ=>DR K vs H Q
abbrev Re(P w K mg base):=BI P w K mg base "_law_ring" 1 ["_law_links", "_law_dues"] (jV K)
theorem jW(B:BK mg)(F:BA K "_law_ring" "_law_ring" PY f fd)(hm:mg "_law_ring" = some (.ref f)):Re P w K mg base:=by
 refine Ca F hm MF (λvs H au E h=>?_) (λaO aN aS s H vs au E T h=>?_);obtain⟨aa,ab,U,dts,ls,R,rfl,_⟩:=h;rfl;obtain⟨aa,ab,U,dts,ls,R,rfl,X,hT,aP,eD,ak,q,aj⟩:=h;have ax:=ak.len;have aM:(dts.map V.ref).length=ls.length:=(by rw[Al,ax]);have ay:=hT.len;have aR:(U.map V.ref).length=ls.length:=(by rw[Al,ay])
 refine⟨_,(Ap (LL (i:=2) MF.nd rfl (Or.inl rfl) (tc:=tB (IF (DW (FR K) (DW (FR K) (Bs 1) (Bs 0)) (tC (.int ((0:Nat):Int)))))) rfl CT (G8 rfl B.b_range (Ab (CM Gi B.b_len (Ab (pv 1) Af)) Af)) (λζ ζ ζ ζ ζ=>(Ay (i:=0) CT.nd)) (λζ ζ ζ ζ ζ=>(OB (Fo (F5 (Av Aw (Av Aw (pv 1) (pv 0)) Aq))))) (λζ ζ ζ ζ ζ=>(pv 0)))
  (Ap (Bv (B2 (SJ T.units) (pv 2) (Cg Af) (BW _)) (AA (AQ (Cg Af))) Bx)
  (Ap (AX (i:=3) MF.nd (Av Aw (pv 2) Aq))
  (Ap (Do CK rfl (G8 rfl B.b_range (Ab (CM Gi B.b_len (Ab (pv 0) Af)) Af)) (Ay (i:=4) MF.nd) (AA (AX (i:=3) MF.nd (Av Aw (Av Aw (pv 0) (pv 3)) Aq))))
  (Ap (AX (i:=5) MF.nd (Cg (Ab (pv 3) Af)))
  (Ap (P6 CK (B2 Lq (Av Aw (Av Aw (pv 0) (Av Aw (pv 5) (IK IL Aq))) Aq) (pv 3) (BW _)) (AA (DD (DG Dx Fu Fv FD (pv 5) (Ab (Av Aw (Av Aw (pv 0) (Av Aw (pv 5) (IK IL Aq))) Aq) Af)))))
  (Ap (AX (i:=6) MF.nd (DG Dx PySem.F.slot_list_index PySem.F.type_list_index (Ue T.units) (pv 5) (Ab (CM (Xv rfl) B.b_min (Ab (pv 5) Af)) Af)))
  (AA (AQ (A2 Nf (Oi Op (pv 5) (Oh (pv 6)) Og) (Oi Op (pv 5) Og (Oh (pv 6))))))))))))),?_⟩
 rfl';refine⟨_,Or.inl ⟨_,Ae.of eD,rfl⟩,by lia,by lia,ZN (n:=(((dts.map V.ref).length:Nat):Int).toNat) (λE i Y C=>Ac H C/\C E=some (.lst Y)/\Y=(opn (D0 ls) i).map V.int) (λE Z=>⟨AR Z,Aa,rfl⟩) (λE i Y H2 RR R0 Z hi p k k0=>?_) (λE Y H2 Z p=>?_)⟩;obtain⟨u,N,rfl⟩:=p;have az:i<ls.length:=(by lia);have ae:=AD (show i<dts.length by lia);generalize dts[i]'(by lia)=t at ae;obtain⟨v,et,ow⟩:=ak.at_ i t ae;have e1:Bz (dts.map V.ref) (0+(i:Int))=some (.ref t):=by rw[Int.zero_add];exact B3 (by rw[A3,ae];rfl)
 have ep:=AD az;generalize ls[i]=p at ep;have ew:=Ui ep;have lo:=Xx (D0 ls) i
 cases ea:(Bc ls ls.length i 1).1 with
 |none =>
   rw[ea] at ow ew;cases ow;refine Or.inl ⟨_,_,Ae.of (u _ _ eD),e1,Or.inr (Or.inl ⟨_,_,Ar.of (u _ _ et),rfl,rfl,BY ?_⟩)⟩;refine k _ _ N (by rw[Al];exact BH (by lia)) ⟨λb av e=>by rw[AC (A1 e Z)];exact u _ _ e,Aa,?_⟩;rw[Uf (o:=p.2) ew,Bh,Int.zero_add];rfl
 |some z =>
   rw[ea] at ow ew;cases ow;refine Or.inl ⟨_,_,Ae.of (u _ _ eD),e1,Or.inr (Or.inl ⟨_,_,Ar.of (u _ _ et),rfl,rfl,Bb ?_⟩)⟩;exact k0 _ ⟨u,N,by rw[Ug ew]⟩
 obtain⟨u,N,rfl⟩:=p;rw[Bk,aM] at N;refine⟨by decide,λp I=>?_⟩;obtain⟨H3,a0,s3,ep⟩:=new_at (o:=.lst []) I;rw[<-a0];have af:=u.trans s3;have ag:=s3 _ _ N;refine⟨1,.lst ((opn (D0 ls) ls.length).map Dt.int),.lst [],.lst (.nil' _),by decide,.lst (Ae.of ag) (Hz _),.lst (Ae.of ep) .nil,rfl,?_⟩
 cases ez:opn (D0 ls) ls.length with
 |nil =>
   rw[Ex (show Dt.lst (List.map Dt.int [])=Dt.lst [] from rfl)];refine BY ⟨by decide,λaw T=>?_⟩;have A:=AR (o:=.lst []) T;refine aj aw _ (af.trans A) ?_
   rcases q with⟨_,rfl⟩|⟨f,o,hf,_⟩;exact Aa;have:=Uh (i:=ls.length) (by rw[<-Pg];exact(AN.mp hf).1) hf;rw[ez] at this;cases this
 |cons z zs =>
   obtain⟨D,o0,rfl,al,a3⟩:=Pc ez;rw[ez] at ag;rw[Fp nofun];refine Bb ?_;rcases q with⟨a4,_⟩|⟨f,o,hf,hb,q⟩;exact absurd al (a4 _ _)
   have a5:D=f:=by
    rcases Nat.lt_trichotomy D f with h|h|h;exact absurd al (hb _ h _);exact h;exact absurd hf (a3 _ h _)
   subst a5;obtain⟨J,ah,a6⟩:=q.end_;rw[Pg] at ah;refine Or.inl ⟨_,.int D,Ae.of ag,B3 (j:=0) rfl,?_⟩;refine⟨_,Or.inl ⟨_,Ae.of (af _ _ X),rfl⟩,by lia,by lia,N9 (lo:=0) (n:=(((U.map V.ref).length:Nat):Int).toNat) (λi σ C=>∃y u4,σ=[some (.ref aa),some (.ref ab),some (.ref E),some (.int y),u4,none,none]/\Ac H C/\it (D0 ls) D i=some y) ⟨D,_,rfl,af,rfl⟩ ?_ ?_⟩;rintro i σ H4 hi ⟨y,u4,rfl,A,L⟩
   obtain⟨z,O⟩:=KI ah (i+1) (by lia);have a7:=O;rw[show it (D0 ls) D (i+1)=(it (D0 ls) D i).bind (nx (D0 ls)) from rfl,L] at O;obtain⟨ta,s,a1,a2⟩:=KL (hT.same A) O;exact Or.inl ⟨_,_,Ae.of (A _ _ X),a1,Or.inr (Or.inl ⟨_,.int z,Ar.of a2,rfl,z,_,rfl,A,a7⟩)⟩
   rintro σ H4 ⟨y,u4,rfl,A,L⟩;rw[show((((U.map V.ref).length:Nat):Int).toNat)=ls.length by lia,ah] at L;cases L
   have a8:=Jh (D0 ls).length _ q.nd λz O=>by
    obtain⟨k,hk⟩:=List.mem_iff_getElem?.mp O;obtain⟨z',_,e⟩:=q.cyc k z hk;exact KH e
   rw[Pg] at a8;obtain⟨j,hj⟩:=List.mem_iff_getElem?.mp a6;have ai:=(AN.mp hj).1;have cyc:=q.cyc.rot (Cn ai)
   have I:(R.drop j++R.take j).Perm R:=by
    refine List.perm_append_comm.trans ?_;rw[List.take_append_drop]
   have lr:=NJ R j;have Q:(R.drop j++R.take j)[0]?=some J:=(by rw[Pb (Cn ai) (by lia),Nat.zero_add,Nat.mod_eq_of_lt ai,hj]);have nd:=I.nodup_iff.mpr q.nd;have an:∀x,R[0]?=some x->x∈R.drop j++R.take j:=λx d=>I.mem_iff.mpr (A6 d);have ao:∀x,R[0]?=some x->∀y∈R.drop j++R.take j,x<=y:=λx d y L=>q.low x d y (I.mem_iff.mp L);generalize R.drop j++R.take j=W at cyc lr Q nd an ao;clear I;refine⟨Ir,λP hP=>?_⟩;obtain⟨H5,a9,s5,eP⟩:=new_at (o:=.lst [.int J]) hP;rw[<-a9];have aA:=A.free hP
   have tk:W.take (0+1)=[J]:=by
    cases W with
    |nil=>cases Q
    |cons x l=>cases Q;rfl
   refine⟨λmm σ C=>∃n,σ=[some (.ref aa),some (.ref ab),some (.ref E),some (.int J),u4,some (.ref P),none]/\Ac H C/\C P=some (.lst ((W.take (n+1)).map V.int))/\n<W.length/\mm=W.length-n,⟨_,0,rfl,A.trans s5,by rw[tk];exact eP,by lia,rfl⟩,?_⟩;refine λmm σ H6 aB=>AO λNz aq=>?_;obtain⟨n,rfl,S,r,hn,rfl⟩:=aB;refine aq ?_;clear aq;have d:=AD hn;generalize W[n]=x at d;have M:Bz ((W.take (n+1)).map V.int) (-1)=some (.int x):=VO (by rw[Al,Fn,Nat.min_eq_left (by lia),A3,Nat.add_sub_cancel,List.getElem?_take_of_lt (by lia),d];rfl);obtain⟨o,G,aC⟩:=cyc n x d;obtain⟨ta,s,a1,a2⟩:=KL (hT.same S) aC;refine Or.inl ⟨_,.int x,Ae.of r,M,Or.inl ⟨_,_,Ae.of (S _ _ X),a1,Or.inr (Or.inl ⟨_,.int o,Ar.of a2,rfl,rfl,rfl,As (λh=>?_) (λh=>?_)⟩)⟩⟩;have aD:o≠J:=λz=>by rw[z] at h;simp at h
   have ar:n+1<W.length:=by
    rcases Nat.lt_or_ge (n+1) W.length with g|g;exact g;rw[show n+1=W.length by lia,Nat.mod_self,Q] at G;cases G;exact absurd rfl aD
   rw[Nat.mod_eq_of_lt ar] at G;refine⟨_,λζ ζ z=>z,Or.inl ⟨rfl,_,Ae.of r⟩,Or.inl ⟨_,.int x,Ae.of r,M,Or.inl ⟨_,_,Ae.of (S _ _ X),a1,Or.inr (Or.inl ⟨_,.int o,Ar.of a2,rfl,_,r,by rw[Al,Fn];exact BH (by lia),?_⟩)⟩⟩⟩;refine⟨_,?_,n+1,rfl,λb av e=>by rw[AC (A1 e aA)];exact S _ _ e,?_,ar,rfl⟩;lia;rw[Aa,List.take_add_one (i:=n+1),G,Bh];rfl;have aE:o=J:=Classical.byContradiction λz=>h (by rw[Dw λe=>z (V.int.inj e)];rfl)
   have aQ:n+1=W.length:=by
    rcases Nat.lt_or_ge (n+1) W.length with g|g;rw[Nat.mod_eq_of_lt g,aE,<-Q] at G;rw[AD g,AD (show 0<W.length by lia)] at G;exact absurd (Br G).symm ((List.pairwise_iff_getElem.mp nd) 0 (n+1) (by lia) g (by lia));lia
   rw[List.take_of_length_le (by lia)] at r;obtain⟨c,ns,rfl⟩:=List.exists_cons_of_ne_nil (l:=W) (by intro z;rw[z] at hn;cases hn);obtain⟨lm,ll⟩:=Xw c ns;obtain⟨a,ha,aF⟩:=QK lm;have M:=(AN.mp ha).1
   have aG:(c::ns).drop a++(c::ns).take a=R:=by
    refine(JT.ext q.cyc (cyc.rot (Cn M)) (by rw[NJ];exact lr.symm) ?_).symm;rw[Pb (Cn M) (by lia),Nat.zero_add,Nat.mod_eq_of_lt M,ha];have d:=AD (show 0<R.length by lia);have l1:=ao _ d _ lm;have l2:=ll _ (an _ d);rw[d,show R[0]=ns.foldl min c by lia]
   refine⟨Or.inl ⟨rfl,_,Ae.of r⟩,P,c,ns,rfl,r,P,.int (ns.foldl min c),1,.int (ns.foldl min c),(c::ns).map Dt.int,_,a,rfl,rfl,QL,by decide,.int _,Ae.of r,Hz (c::ns),EU.mpr ha,λm hm z=>aF m hm (EU.mp z),?_⟩;refine⟨_,rfl,P,_,rfl,Ae.of r,λRa aH=>?_⟩;rw[SE,<-Rh];obtain⟨H7,aI,s7,e7⟩:=new_at (o:=.lst (((c::ns).drop a).map V.int)) aH;rw[<-aI];refine⟨_,rfl,P,_,rfl,Ae.of (s7 _ _ r),λRb aJ=>?_⟩;rw[VD,<-List.map_take];obtain⟨H8,aK,s8,e8⟩:=new_at (o:=.lst (((c::ns).take a).map V.int)) aJ;rw[<-aK];refine⟨Ra,Rb,_,_,rfl,rfl,s8 _ _ e7,e8,?_,λRc aL=>?_⟩;rw[Al,Al,<-AZ,NJ];exact Cn (BH (by lia));have s9:=AR (o:=.lst (((c::ns).drop a).map V.int++((c::ns).take a).map V.int)) aL;exact aj Rc _ (((S.trans s7).trans s8).trans s9) (by rw[Aa,<-Bh,aG])
section
variable {ns:List Int} {ss U:List Bp}
def X1{h:Nat}(b:h<kM ns):∃i,i<kM ns/\Dv ns i=h:=by
 have c:=MM ns;have a:=Gg ((h:Int)-Bj ns 3) (show(kM ns:Int)≠0 by lia);have d:=Ij ((h:Int)-Bj ns 3) (show(0:Int)<kM ns by lia);refine⟨(((h:Int)-Bj ns 3)%(kM ns:Int)).toNat,by lia,?_⟩;unfold Dv;rw[Int.toNat_of_nonneg a,Int.add_emod_emod,show Bj ns 3+((h:Int)-Bj ns 3)=(h:Int) by lia,Int.emod_eq_of_lt (by lia) (by lia)];rfl
def Gy.two(P:Gy ns (kM ns) ss){s:Bp}(d:s∈ss):∃i,i<kM ns/\s=([],KY ns i):=by
 obtain⟨h,b⟩:=List.mem_iff_getElem?.mp d;have c:=(AN.mp b).1;rw[P.len] at c;obtain⟨i,a,e⟩:=X1 c;have:=P.old i a a;rw[e,b] at this;exact⟨i,a,Br this⟩
def Gy.uniq(a:Gy ns (kM ns) ss)(b:Gy ns (kM ns) U):ss=U:=by
 refine List.ext_getElem? λh=>?_;rcases Nat.lt_or_ge h (kM ns) with c|c;obtain⟨i,d,rfl⟩:=X1 c;rw[a.old i d d,b.old i d d];rw[D6 (by rw[a.len];exact c),D6 (by rw[b.len];exact c)]
theorem MT:∀(l:List Str),l.length=2->l.Nodup->∀w,w<2->l.getD (1-w) default≠l.getD w default
 |[a,b],_,d,w,e=>by
   have c:a≠b:=λz=>(FM.mp d).1 (by rw[z];simp);have:w=0\/w=1:=(by lia);rcases this with rfl|rfl;exact Ne.symm c;exact c
def PB:(Bm ns).length=kM ns:=by rw[Al,List.length_range]
def US(h:i<kM ns):(Bm ns)[i]?=some (Bd ns (kM ns) i):=by rw[A3,List.getElem?_range h];rfl
def Gy.lkn(P:Gy ns (kM ns) ss):EV ⟨ss,Fm,[],[([],[C4 ns])]⟩ (Em ns (kM ns)) (C4 ns) (Ia ns) (ML ns) (Dv ns) (kC ns) (Bm ns) where
 sts:=rfl
 len:=by rw[PB,Al,List.length_range]
 q i a:=by rw[PB] at a;rw[A3,List.getElem?_range a];rfl
 sc i a p b:=by
  rw[PB] at a;rw[US a] at b;rw[<-Br b];exact P.old i a a
 ne i a:=MT _ (Up _ _) (f0 (by decide)) _ (by unfold GN;lia)
 nos s c:=by
  obtain⟨i,_,rfl⟩:=P.two c;rfl
 kd p b:=by
  obtain⟨i,a,rfl⟩:=AL.mp b;rw[PB];exact KU (MM ns).1 i
def Kc(i:Nat):(KY ns i).length<=2:=by
 unfold KY;rw[AZ];split<;>split<;>simp
set_option tactic.hygienic true in
def Gy.sok(P:Gy ns (kM ns) ss):JS ⟨ss,Fm,[],[([],[C4 ns])]⟩ (Em ns (kM ns)) 0 []:=by
 have N:=P.lkn;obtain⟨l,w⟩:=MM ns;have lq:(Em ns (kM ns)).length=kM ns:=(by rw[Al,List.length_range]);refine {all:=λd g=>?_,tr:=(λx y z h=>by cases h),s3:=λs a=>by rw[N.nos s a];exact C7 _,lq:=by lia};have m:d.length=kM ns:=g.len.trans lq;refine⟨⟨by show ss.length<=100;rw[P.len];lia,(λs a=>by rw[N.nos s a];exact C7 _),(λs a p c=>by rw[N.nos s a] at c;cases c),λp c=>.inl ?_,g.rng,λs a p c=>?_,λe f F ζ ζ n o=>?_⟩,⟨λs a p c=>?_,λx e f bs r t hb=>?_,λe f bs r t hb=>?_⟩,C7 _,(λx h=>by cases h),⟨by decide,(by show(0:Int)<1;decide)⟩,λq u=>?_⟩;rw[List.eq_of_mem_replicate c];exact⟨rfl,rfl⟩;rw[AW.mp a] at c;cases c;have:=n.length_le_of_subset (l₂:=[([],e,f)]) λb hb=>AW.mpr (Xz (W:=⟨ss,Fm,d,[([],[C4 ns])]⟩) N.nos (o b hb));exact E8 this (by show 1<=62;decide);obtain⟨i,j,rfl⟩:=P.two a;have v:(Fm.length:Int)=80:=(by decide);show LZ Fm.length d.length p;rw[m,v];rcases BL.mp c with h|h;split at h;rw[AW.mp h];exact .inl ⟨rfl,by show(0:Int)<=i;lia,by show(i:Int)<80;lia⟩;cases h;split at h;cases h;rename_i k;rw[AW.mp h];rcases KU (ns:=ns) l i with z|z|z;rw[z] at k;exact absurd rfl k;exact .inl z;exact .inr z;rw[XA (W:=⟨ss,Fm,d,[([],[C4 ns])]⟩) N.nos hb];show(Cs _ _ x _ 0++[]).length<=62;rw[FN];refine E8 (Wf _ _ _ _ _) ?_;unfold Fh;split;rename_i s a;obtain⟨i,j,rfl⟩:=P.two (A6 a);exact E8 (Kc i) (by decide);exact C7 _;rw[XB (W:=⟨ss,Fm,d,[([],[C4 ns])]⟩) N.nos];exact C7 _;obtain⟨i,j,rfl⟩:=AL.mp u;have:=Us ns i;exact⟨⟨by show(0:Int)<=Dv ns i;lia,by show(Dv ns i:Int)<ss.length;rw[P.len];lia⟩,⟨by show(0:Int)<=0;decide,by show(0:Int)<1;decide⟩,AE 1,by show 1<=8;decide⟩
end
abbrev MU (as:List AI) (ts:List Int):Dt:=.tup [.lst (as.map BG),.lst (ts.map Dt.int)]
def Ig(as:List AI)(ts:List Int):Dn 8 (MU as ts):=λd hd=>by
 rcases BV.mp hd with rfl|hd;intro d hd;obtain⟨o,_,rfl⟩:=AL.mp hd
 cases o with
 |none=>exact True.intro
 |some p =>
   intro d hd;rcases BV.mp hd with rfl|hd;exact True.intro;rw[AW.mp hd];exact True.intro
 rw[AW.mp hd];intro d hd;obtain⟨o,_,rfl⟩:=AL.mp hd;exact True.intro
def Rf(ws:E'):Dn 8 (.lst (ws.map GG)):=λd hd=>by
 obtain⟨o,_,rfl⟩:=AL.mp hd;cases o<;>exact True.intro
def K0(ws:List Int):Dn 8 (.lst (ws.map Dt.int)):=λd hd=>by
 obtain⟨o,_,rfl⟩:=AL.mp hd;exact True.intro
def MV(l m:List (Str×Int)):C6 (n+2) (.lst (l.map FE)) (.lst (m.map FE)):=.lst (Bo.of λd hd e a=>by
 obtain⟨p,_,rfl⟩:=AL.mp hd;obtain⟨q,_,rfl⟩:=AL.mp a
 exact .tup (.cons (.str _ _) (.cons (.int _ _) (.nil _))))
def K1{L:Addr}{a:List Addr}(e:H L=some (.lst (a.map V.ref)))(T:RT KJ H a ls):An K H (.ref L) (.lst (ls.map FE)):=.lst (Ae.of e) (T.dts λp t h=>.tup (Ar.of h) (.cons (.str _) (.cons (.int _) .nil)))
inductive K2 (K:Ah) (vs:List V) (H:Hp) (Q:VK):Prop where
 |mk (a:Addr) (ns:List Int) (h0:vs=[.ref a]) (h1:Ae K H a (ns.map V.int)) (h2:ns.length<=63) (h3:∀H',Q (.bl true) H'):K2 K vs H Q
def PD (K:Ah):Sp:=λvs H Q ζ=>K2 K vs H Q
theorem Ih(B:BK mg)(aZ:QW P w K mg base)(bK:QX P w K mg base)(ba:Q5 P w K mg base)(a3:Q8 P w K mg base)(bb:Pz P w K mg base)(bL:Q9 P w K mg base)(bM:Re P w K mg base)(F:BA K "law" "law" GP f fd):Eg P w K mg base Ip 12 f fd ["_law_script"] (PD K):=by
 refine F.ok HX (λvs H a2 E h=>?_) (λcE A db s H vs a2 E hr h=>?_);obtain⟨a,ns,rfl,_⟩:=h;rfl;obtain⟨a,ns,rfl,hS,cY,kq⟩:=h
 refine⟨_,(Ap (DE (A7 aZ (Ab (pv 0) Af)) (Ck (n:=3) rfl (AF (Ay (i:=1) HX.nd) (AF (Ay (i:=2) HX.nd) (AF (Ay (i:=3) HX.nd) Cj)))))
  (Ap (AX (i:=4) HX.nd (A7 aZ (Ab (pv 0) Af)))
  (Ap (AX (i:=5) HX.nd (GC rfl Gr (G8 rfl B.b_range (Ab (CM Gi B.b_len (Ab (pv 3) Af)) Af)) (λζ ζ ζ ζ ζ=>(Ay (i:=0) Gr.nd)) (λζ ζ ζ ζ ζ=>F9) (λζ ζ ζ ζ ζ=>(A7 bK (Ab (pv 1) (Ab (pv 0) Af))))))
  (Ap (AX (i:=6) HX.nd (A7 ba (Ab (Av Aw (pv 4) Aq) (Ab (Av Aw (pv 4) Aq) Af))))
  (Ap (Bv (Ki (F6 (A7 a3 (Ab (pv 6) (Ab (Bn (Ab (GC (te:=DW (FR K) (Bs 0) (tC (.int ((0:Nat):Int)))) rfl Gu (Dm (pv 5)) (λζ ζ ζ ζ ζ=>(Ay (i:=0) Gu.nd)) (λζ ζ ζ ζ ζ=>F9) (λζ ζ ζ ζ ζ=>(Av Aw (pv 0) Aq))) (Ab (GC (te:=DW (FR K) (Bs 0) (tC (.int ((1:Nat):Int)))) rfl Gv (Dm (pv 5)) (λζ ζ ζ ζ ζ=>(Ay (i:=0) Gv.nd)) (λζ ζ ζ ζ ζ=>F9) (λζ ζ ζ ζ ζ=>(Av Aw (pv 0) Aq))) Af))) Af))))) (AA (AQ Il)) Bx)
  (Ap (AX (i:=7) HX.nd (IR Vk B.b_list (Ab (Av Aw (pv 6) Aq) Af)))
  (Ap (AX (i:=8) HX.nd (A7 bb (Ab (Av Aw (pv 4) Aq) (Ab (pv 7) (Ab (Av Aw (pv 4) Aq) Af)))))
  (Ap (LL (i:=9) HX.nd rfl (Or.inl rfl) (te:=DW (FR K) (Lu (FQ (tC .non) (FQ (DW (FR K) (DW (FR K) (Bs 1) (Bs 0)) (tC (.int ((1:Nat):Int)))) Fc))) (P9 (λxs H a2=>(∃i,xs=[V.int i]/\a2 (.int i) H)\/∃k,xs=[V.bl k]/\a2 (.int (if k then 1 else 0)) H) (FQ (IF (DW (FR K) (DW (FR K) (Bs 2) (Bs 0)) (tC (.int ((0:Nat):Int))))) Fc))) rfl Gw (G8 rfl B.b_range (Ab (CM Gi B.b_len (Ab (pv 3) Af)) Af)) (λζ ζ ζ ζ ζ=>(Ay (i:=0) Gw.nd)) (λζ ζ ζ ζ ζ=>F9) (λζ ζ ζ ζ ζ=>(Av Aw (Cg (Ab F4 (Ab (Av Aw (Av Aw (pv 1) (pv 0)) Aq) Af))) (IR Va B.b_int (Ab (RV (F5 (Av Aw (Av Aw (pv 2) (pv 0)) Aq))) Af)))))
  (Ap (Bv (Ki (F6 (A7 a3 (Ab (pv 8) (Ab (pv 9) Af))))) (AA (AQ Il)) Bx)
  (Ap (DD (Hf Dx PySem.F.slot_list_clear PySem.F.type_list_clear VE (pv 8)))
  (Ap (DD (Hf Dx PySem.F.slot_list_clear PySem.F.type_list_clear VE (Av Aw (pv 6) Aq)))
  (Ap (DD (DG Dx Fu Fv FD (Av Aw (pv 6) Aq) (Ab Aq Af)))
  (Ap (Bv (Ki (F6 (A7 a3 (Ab (A7 bL (Ab (Av Aw (pv 4) Aq) (Ab (pv 7) (Ab (Av Aw (pv 4) Aq) Af)))) (Ab (A7 bM (Ab (pv 3) (Ab (pv 5) Af))) Af))))) (AA (AQ Il)) Bx)
  (Ap (Bv (Ki (F6 (A7 a3 (Ab (A7 bb (Ab (Av Aw (pv 4) Aq) (Ab (pv 7) (Ab (Av Aw (pv 4) Aq) Af)))) (Ab (pv 9) Af))))) (AA (AQ Il)) Bx)
  (Ap (AX (i:=10) HX.nd (A7 ba (Ab (Av Aw (pv 4) Aq) (Ab (Av Aw (pv 4) Aq) Af))))
  (AA (AQ (P4 (Kk (SJ hr.units) (Av Aw (pv 10) Aq) (pv 7) (BW _)) (RY (Kk (SJ hr.units) (pv 4) (Bn (Ab (pv 1) (Ab (pv 2) (Ab (pv 3) Af)))) (BW _))))))))))))))))))))),?_⟩
 rfl';refine⟨a,ns,rfl,hS,λc8 nt t L bH bI bJ us Gs Es gt qt l u c9 s1 er eN N3 P TB eL TL=>?_⟩;refine⟨_,Ar.of er,rfl,?_⟩;refine⟨a,ns,rfl,s1.seq hS,λr2 r m Lb S2 T2 R2 bN bO bP bQ bR cF cA H2 s2 bc bd be P2 bf bS bT=>?_⟩;obtain rfl:=P.uniq P2;have N:=P.lkn;have al:=P.sok;obtain⟨m1,cG⟩:=MM ns;have aJ:=PB (ns:=ns);have bU:=TL.len;have cB:(l.map V.ref).length=kM ns:=(by rw[Al,bU,aJ]);have bg:(Em ns (kM ns)).length=kM ns:=(by rw[Al,List.length_range])
 refine⟨_,Or.inl ⟨_,Ae.of (s2 _ _ eL),rfl⟩,by lia,by lia,No (n:=(((l.map V.ref).length:Nat):Int).toNat) (λaa i c g=>∃dts:List Addr,c=dts.map V.ref/\Ac H2 g/\g aa=some (.lst c)/\dts.length=i/\∀(j:Nat)(t:Addr),dts[j]?=some t->∃v,g t=some (.tup [v,.int (Bc (Bm ns) (Bm ns).length j 1).2])/\A5 Gc g v (BG (Bc (Bm ns) (Bm ns).length j 1).1))
  (λaa hD=>⟨[],rfl,AR hD,Aa,rfl,λj t h=>by cases h⟩) (λaa i c J RR hD hi hv k=>?_) (λaa c J hD hv=>?_)⟩
 refine AO λNz aq=>?_;obtain⟨dts,rfl,M,Q,ab,hd⟩:=hv;refine aq ?_;clear aq;have D:=s2.trans M;refine⟨L,l,Bm ns,i,?_,D _ _ eL,TL.same D,by lia,by lia,N.hb,λt v H4 ht G et ow=>?_⟩;show[V.ref L,V.int (0+(i:Int))]=_;rw[Int.zero_add];have bh:=G _ _ Q;have tk:Tk H4 (upd H4 aa (.lst (dts.map V.ref++[.ref t]))):=KG bh;refine k _ _ bh (by rw[Al,ab];exact BH (by lia)) ⟨dts++[t],by rw[Bh];rfl,λb o e=>by rw[AC (A1 e hD)];exact G _ _ (M _ _ e),Aa,by rw[AZ,ab];rfl,λj t' q=>?_⟩;rcases Nat.lt_or_ge j dts.length with an|an;rw[D1 an] at q;obtain⟨v',y,I⟩:=hd j t' q;exact⟨v',tk _ _ (G _ _ y),(I.same G).tk tk⟩;have R:=(AN.mp q).1;rw[AZ,DS] at R;obtain rfl:j=i:=by lia
 rw[<-ab,List.getElem?_concat_length] at q;cases q;exact⟨v,tk _ _ et,ow.tk tk⟩;refine AO λNz aq=>?_;obtain⟨dts,rfl,M,Q,ab,hd⟩:=hv;refine aq ?_;clear aq;rw[show(((l.map V.ref).length:Nat):Int).toNat=kM ns by lia] at ab;have bi:(dts.map V.ref).length=(Bm ns).length:=(by rw[Al (f:=V.ref),ab,aJ]);have Du:XG J dts (Bm ns):=⟨by lia,hd⟩;have D:=s2.trans M;have cH:LN K (λζ=>True) J nt t ⟨u,Fm,[],[([],[C4 ns])]⟩ (Em ns (kM ns)) 0 []:=⟨⟨bH,bI,bJ,us,Gs,Es,gt,qt,D _ _ eN,N3.same D⟩,TB.same D⟩;have aK:LN K (λζ=>True) J r m ⟨u,Fm,[],[([],[C4 ns])]⟩ (Em ns (kM ns)) 0 []:=⟨⟨S2,T2,R2,bN,bO,bP,bQ,bR,M _ _ bd,be.same M⟩,bf.same M⟩;have ae:=M _ _ bc;refine Or.inr (Or.inl ⟨_,.ref r,Ar.of ae,rfl,Or.inr (Or.inl ⟨_,.ref m,Ar.of ae,rfl,r,m,λζ=>True,⟨u,Fm,[],[([],[C4 ns])]⟩,Em ns (kM ns),0,[],rfl,aK,al,λr3 A S n cD tu H4 G hA bV bW bj bX bz ru nx=>?_⟩)⟩);obtain⟨rfl,rfl⟩:=N.due ru nx;obtain⟨a4,cI⟩:=ru.aok al.toSOk;obtain⟨O,bk,aL⟩:=bX;have cJ:O.length=kM ns:=by rw[aL.length,Al];exact a4.len.trans bg
 have bl:∀{j:Nat}{x:V},(dts.map V.ref)[j]?=some x->∃t v,x=.ref t/\J t=some (.tup [v,.int (Bc (Bm ns) (Bm ns).length j 1).2])/\A5 Gc J v (BG (Bc (Bm ns) (Bm ns).length j 1).1):=λh=>by
  rw[A3] at h;obtain⟨t,h1,h2⟩:=E7.mp h;obtain⟨v,y,I⟩:=Du.at_ _ t h1;exact⟨t,v,h2.symm,y,I⟩
 refine⟨⟨_,Ae.of (G _ _ Q)⟩,OF (xs:=dts.map V.ref) (λE i c g=>Ac H4 g/\g E=some (.lst c)/\c.length=i/\∀(j:Nat)(v:V),c[j]?=some v->A5 Gc g v (BG (Bc (Bm ns) (Bm ns).length j 1).1)) (λE C=>⟨AR C,Aa,rfl,λj v h=>by cases h⟩) (λE i c H5 p=>Ae.of (p.1 _ _ (G _ _ Q))) (λE i x c H5 RR C hx p k=>?_) (λE1 c H5 cK p=>?_)⟩;obtain⟨s5,eE,ly,hy⟩:=p;obtain⟨t,v,rfl,y,I⟩:=bl hx;have hi:=(AN.mp hx).1;rw[Al] at hi;have X:=G.trans s5;have tk:Tk H5 (upd H5 E (.lst (c++[v]))):=KG eE;refine Or.inr (Or.inl ⟨_,v,Ar.of (X _ _ y),rfl,k _ _ eE (by rw[ly];exact BH (by lia)) ⟨λb o e=>by rw[AC (A1 e C)];exact s5 _ _ e,Aa,by rw[AZ,ly];rfl,λj v' q=>?_⟩⟩);rcases Nat.lt_or_ge j c.length with an|an;rw[D1 an] at q;exact(hy j v' q).tk tk;have R:=(AN.mp q).1;rw[AZ,DS] at R;obtain rfl:j=i:=by lia
 rw[<-ly,List.getElem?_concat_length] at q;cases q;exact(I.same X).tk tk;obtain⟨s5,bm,ly,hy⟩:=p;rw[bi] at ly;have X:=G.trans s5;refine⟨⟨_,Ae.of (X _ _ Q)⟩,OF (xs:=dts.map V.ref) (λE i c g=>Ac H5 g/\g E=some (.lst c)/\c=((List.range i).map λj=>(Bc (Bm ns) (Bm ns).length j 1).2).map V.int) (λE C=>⟨AR C,Aa,rfl⟩) (λE i c H6 p=>Ae.of (p.1 _ _ (X _ _ Q))) (λE i x c H6 RR C hx p k=>?_) (λE2 cL H6 cM p=>?_)⟩;obtain⟨s6,eE,rfl⟩:=p;obtain⟨t,v,rfl,y,I⟩:=bl hx;have hi:=(AN.mp hx).1;rw[Al] at hi;refine Or.inr (Or.inl ⟨_,.int (Bc (Bm ns) (Bm ns).length i 1).2,Ar.of (s6 _ _ (X _ _ y)),rfl,k _ _ eE (by rw[Al,Al,List.length_range];exact BH (by lia)) ⟨λb o e=>by rw[AC (A1 e C)];exact s6 _ _ e,Aa,?_⟩⟩);rw[List.range_succ,Bh,Bh];rfl;obtain⟨s6,aM,rfl⟩:=p;rw[bi] at aM;refine⟨B4,λp hp=>?_⟩;obtain⟨H7,bY,s7,ep⟩:=new_at (o:=.tup [.ref E1,.ref E2]) hp;rw[<-bY];have a5:=s6.trans s7;have af:=s5.trans a5
 have bn:Ai K H7 c ((Fl (Bm ns)).map BG):=Ai.of_get (ly.trans ((a4.len.trans (bg.trans aJ.symm)).symm.trans (Al (f:=BG)).symm)) λj v d h1 h2=>by
  have q:=(AN.mp h1).1;rw[A3,A3,List.getElem?_range (by lia)] at h2;cases h2;exact((hy j v h1).same a5).dt
 refine⟨_,_,MU (Fl (Bm ns)) (NL (Bm ns)),MU (Fl (Bm ns)) (NL (Bm ns)),rfl,.tup (Ar.of (af _ _ bj)) (.cons (.lst (Ae.of (af _ _ bk)) (aL.same af).dts) (.cons (.lst (Ae.of (af _ _ bz)) (Hz _)) .nil)),.tup (Ar.of ep) (.cons (.lst (Ae.of (a5 _ _ bm)) bn) (.cons (.lst (Ae.of (s7 _ _ aM)) (Hz _)) .nil)),Ig _ _,Ig _ _,λb H8 s8 hb=>?_⟩;rw[hb.mpr rfl];refine⟨rfl,Bb ?_⟩;have ar:=af.trans s8;clear a5 bn ep s7 bm aM hy s6 s5 X s8 af;have aN:=ar _ _ bk;have b0:=ar _ _ bz;have bo:=ar _ _ bj;have c0:=aL.same ar;have bZ:=G.trans ar;refine Or.inr (Or.inl ⟨_,.ref A,Ar.of bo,rfl,A,O,rfl,Or.inl (Ae.of aN),λLK au=>?_⟩);have s9:=AR (o:=.lst O) au;have a7:(upd H8 LK (.lst O)) LK=some (.lst O):=Aa;have ca:LK≠A:=λz=>by rw[z,aN] at au;cases au
 have cb:LK≠S:=λz=>by rw[z,b0] at au;cases au
 generalize upd H8 LK (.lst O)=H9 at s9 a7 ⊢;have av:=bZ.trans s9;have b1:=c0.same s9;have Lk:=al.all _ a4;have R:(Em ns (kM ns)).length=(Fl (Bm ns)).length:=a4.len.symm
 have aO:∀(k:Nat)(ao:Qu),(Em ns (kM ns))[k]?=some ao->(Fl (Bm ns))[k]?=some none->∀a w ls ts,LU ⟨u,Fm,Fl (Bm ns),[([],[C4 ns])]⟩ 0 [] ao.1 ao.2.1 ao.2.2 0 a w ls ts->a=none:=λk ao hq e a w ls l cc=>by
  have:=ru.still al.toSOk nx hq (b:=a) ⟨w,ls,l,cc⟩;rw[e] at this;cases this;rfl
 have lc:∀{g:Hp},Ac J g->g LK=some (.lst O)->Ax Gc g O ((Fl (Bm ns)).map BG)->LC K (λζ=>True) g r LK m ⟨u,Fm,Fl (Bm ns),[([],[C4 ns])]⟩ (Em ns (kM ns)) 0 []:=λs e h=>(aK.same s).lc (ET.ans ⟨O,e,h⟩);have bp:=av _ _ ae;refine Or.inr (Or.inl ⟨_,.ref r,Ar.of bp,rfl,Or.inr (Or.inl ⟨_,.ref m,Ar.of bp,rfl,r,LK,m,λζ=>True,⟨u,Fm,Fl (Bm ns),[([],[C4 ns])]⟩,Em ns (kM ns),0,[],rfl,lc av a7 b1,Lk,R,by lia,aO,λWs ws cd Y a6 bq U W=>?_⟩)⟩);obtain rfl:=N.wts ⟨U,W⟩;have b2:=av.trans a6;refine⟨_,Or.inl ⟨_,Ae.of ((D.trans b2) _ _ eL),rfl⟩,by lia,by lia,No (n:=(((l.map V.ref).length:Nat):Int).toNat) (λE i c g=>Ac cd g/\g E=some (.lst c)/\c=((List.range i).map λi=>if(Bc (Bm ns) (Bm ns).length i 1).1.isNone=true then((Bm ns)[i]?).map (·.2) else none).map oV) (λE C=>⟨AR C,Aa,rfl⟩) (λE i c br RR C hi p k=>?_) (λEd c br ag p=>?_)⟩
 obtain⟨aw,eE,rfl⟩:=p;have bs:i<kM ns:=(by lia);have aT:=b2.trans aw;have eta:=AD (show i<l.length by lia);generalize l[i]'(by lia)=ta at eta;have ea:=(TL.same (D.trans aT)).at_ i _ _ eta (US bs);have y:Bz (l.map V.ref) (0+(i:Int))=some (.ref ta):=by rw[Int.zero_add];exact B3 (by rw[A3,eta];rfl)
 have aP:=AD (show i<dts.length by lia);generalize dts[i]'(by lia)=aG at aP;obtain⟨v,et,ow⟩:=Du.at_ i aG aP;have I:Bz (dts.map V.ref) (0+(i:Int))=some (.ref aG):=by rw[Int.zero_add];exact B3 (by rw[A3,aP];rfl)
 refine Or.inl ⟨_,.ref ta,Ae.of ((D.trans aT) _ _ eL),y,Or.inr (Or.inl ⟨_,.int (Bd ns (kM ns) i).2,Ar.of ea,rfl,B4,λTW cf=>?_⟩)⟩;obtain⟨T,c1,t1,bt⟩:=new_at (o:=.lst [.non,.int (Bd ns (kM ns) i).2]) cf;rw[<-c1];have a8:=aT.trans t1
 have bu:∀aH,aH=oV (if(Bc (Bm ns) (Bm ns).length i 1).1.isNone=true then((Bm ns)[i]?).map (·.2) else none)->RR aH T:=λaH ey=>by
  refine k _ _ (t1 _ _ eE) (by rw[Al,Al,List.length_range];exact BH (by lia)) ⟨λb o e=>by rw[AC (A1 e C)];exact t1 _ _ (aw _ _ e),Aa,?_⟩;rw[List.range_succ,Bh,Bh,ey];rfl
 refine Or.inl ⟨_,.ref aG,Ae.of (a8 _ _ Q),I,Or.inr (Or.inl ⟨_,v,Ar.of (a8 _ _ et),rfl,Or.inr ⟨_,rfl,?_⟩⟩)⟩;show FR K (.ref TW) (.int (if decide (v=V.non)=true then 1 else 0)) T RR
 cases ez:(Bc (Bm ns) (Bm ns).length i 1).1 with
 |none =>
   rw[ez] at ow;cases ow;exact Or.inl ⟨_,_,Ae.of bt,B3 (j:=1) rfl,bu _ (by rw[ez,US bs];rfl)⟩
 |some z =>
   rw[ez] at ow;cases ow;exact Or.inl ⟨_,_,Ae.of bt,B3 (j:=0) rfl,bu _ (by rw[ez];rfl)⟩
 obtain⟨aw,ax,rfl⟩:=p;rw[show(((l.map V.ref).length:Nat):Int).toNat=(Bm ns).length by lia] at ax;have ax:br Ed=some (.lst ((D0 (Bm ns)).map oV)):=ax;have bB:=aw _ _ bq;refine⟨_,_,.lst ((D0 (Bm ns)).map GG),.lst ((D0 (Bm ns)).map GG),rfl,.lst (Ae.of bB) (NK _),.lst (Ae.of ax) (NK _),Rf _,Rf _,λb T aQ hb=>?_⟩;rw[hb.mpr rfl];refine⟨rfl,Bb ?_⟩;have ai:=(a6.trans aw).trans aQ;have aD:=aQ _ _ bB;have bC:=aQ _ _ ax;have cg:Ed≠Ws:=λz=>by rw[z,bq] at ag;cases ag
 have aR:=s9 _ _ aN;have aS:=s9 _ _ b0;have ch:Ed≠A:=λz=>by rw[z,a6 _ _ aR] at ag;cases ag
 have cj:Ed≠S:=λz=>by rw[z,a6 _ _ aS] at ag;cases ag
 have ck:Ws≠A:=λz=>by rw[z,aR] at Y;cases Y
 have cl:Ws≠S:=λz=>by rw[z,aS] at Y;cases Y
 have cm:LK≠Ws:=λz=>by rw[<-z,a7] at Y;cases Y
 have c2:J Ws=none:=av.free Y;have bD:=ai _ _ a7;have bE:=b1.same ai;have a8:=av.trans ai;refine⟨Or.inl ⟨rfl,_,Ae.of aD⟩,Ws,_,rfl,rfl,aD,?_⟩;have Z:∀x o,T x=some o->x≠Ws->(upd T Ws (.lst [])) x=some o:=λx o e n=>by rw[AC n];exact e
 have a9:Tk T (upd T Ws (.lst [])):=KG aD;generalize upd T Ws (.lst [])=ay at Z a9 ⊢;have aU:=a9 _ _ ((s9.trans ai) _ _ bo);have aA:=Z _ _ (ai _ _ aR) (Ne.symm ck);refine Or.inr (Or.inl ⟨_,.ref A,Ar.of aU,rfl,Or.inl ⟨rfl,_,Ae.of aA⟩,A,_,rfl,rfl,aA,?_⟩);have ah:∀x o,ay x=some o->x≠A->(upd ay A (.lst [])) x=some o:=λx o e n=>by rw[AC n];exact e
 have aB:Tk ay (upd ay A (.lst [])):=KG aA;generalize upd ay A (.lst [])=az at ah aB ⊢;have aE:=ah _ _ (Z _ _ (ai _ _ aS) (Ne.symm cl)) (Ne.symm bW);have b3:=aB _ _ aU;refine Or.inr (Or.inl ⟨_,.ref S,Ar.of b3,rfl,Or.inl ⟨rfl,_,Ae.of aE⟩,_,aE,by rw[Al,Al,List.length_range];exact BH (by lia),?_⟩);have a0:∀x o,az x=some o->x≠S->(upd az S (.lst ((NL (Bm ns)).map V.int++[.int 0]))) x=some o:=λx o e n=>by rw[AC n];exact e
 have aV:Tk az (upd az S (.lst ((NL (Bm ns)).map V.int++[.int 0]))):=KG aE;generalize upd az S (.lst ((NL (Bm ns)).map V.int++[.int 0]))=cn at a0 aV ⊢;have aj:Ac J cn:=λx o e=>a0 _ _ (ah _ _ (Z _ _ (a8 _ _ e) (λz=>by rw[z,c2] at e;cases e)) (λz=>by rw[z,hA] at e;cases e)) (λz=>by rw[z,bV] at e;cases e);have aW:=a0 _ _ (ah _ _ (Z _ _ bD cm) ca) cb;have c6:=a0 _ _ (ah _ _ (Z _ _ bC cg) ch) cj;have aX:=((bE.tk a9).tk aB).tk aV;clear aA aE b3 aU Z ah a0 a9 aB aV bD bC bE aD;have b4:=aj _ _ ae;refine Or.inr (Or.inl ⟨_,.ref r,Ar.of b4,rfl,Or.inr (Or.inl ⟨_,.ref m,Ar.of b4,rfl,r,LK,m,λζ=>True,⟨u,Fm,Fl (Bm ns),[([],[C4 ns])]⟩,Em ns (kM ns),0,[],rfl,lc aj aW aX,Lk,R,by lia,aO,λws U W=>Pe Lk R ⟨U,W⟩,λcC Rg ws cN hC bv eC U W rg=>?_⟩)⟩);obtain rfl:=N.wts ⟨U,W⟩;have aC:=aj.trans bv;have b5:=D.trans aC;refine⟨L,aa,l,dts,Bm ns,Rg,rfl,b5 _ _ eL,TL.same b5,by lia,aC _ _ Q,⟨Du.len,λi t h=>?_⟩,rg,λrr cO bw cp=>?_⟩;obtain⟨v,y,I⟩:=Du.at_ i t h;exact⟨v,aC _ _ y,I.same aC⟩;refine⟨_,_,.lst (Rg.map Dt.int),.lst (Rg.map Dt.int),rfl,.lst (Ae.of (bw _ _ eC)) (Hz _),.lst (Ae.of cp) (Hz _),K0 _,K0 _,λb cP cq hb=>?_⟩;rw[hb.mpr rfl];refine⟨rfl,Bb ?_⟩;have aF:=(bv.trans bw).trans cq;have b6:=aj.trans aF;have b7:=b6 _ _ ae;refine Or.inr (Or.inl ⟨_,.ref r,Ar.of b7,rfl,Or.inr (Or.inl ⟨_,.ref m,Ar.of b7,rfl,r,LK,m,λζ=>True,⟨u,Fm,Fl (Bm ns),[([],[C4 ns])]⟩,Em ns (kM ns),0,[],rfl,lc b6 (aF _ _ aW) (aX.same aF),Lk,R,by lia,aO,λWt ws cQ cR cs ct U W=>?_⟩)⟩);obtain rfl:=N.wts ⟨U,W⟩;have bF:=aF.trans cs;refine⟨_,_,.lst ((D0 (Bm ns)).map GG),.lst ((D0 (Bm ns)).map GG),rfl,.lst (Ae.of ct) (NK _),.lst (Ae.of (bF _ _ c6)) (NK _),Rf _,Rf _,λb cS cu hb=>?_⟩;rw[hb.mpr rfl];refine⟨rfl,Bb ?_⟩;have bG:=bF.trans cu;have b8:=aj.trans bG;have b9:=b8 _ _ ae;refine Or.inr (Or.inl ⟨_,.ref r,Ar.of b9,rfl,Or.inr (Or.inl ⟨_,.ref m,Ar.of b9,rfl,r,m,λζ=>True,⟨u,Fm,[],[([],[C4 ns])]⟩,Em ns (kM ns),0,[],rfl,aK.same b8,al,λr4 A4 cT n4 cU cV bx cv cW cZ da c3 c4 dc cw cx=>?_⟩)⟩);obtain⟨rfl,rfl⟩:=N.due cw cx;obtain⟨cX,c5,c7⟩:=c4;have aY:=bG.trans cv;refine Or.inr (Or.inl ⟨_,.ref A4,Ar.of c3,rfl,3,_,_,Zl (Fl (Bm ns)) (Fl (Bm ns)),by decide,.lst (Ae.of c5) c7.dts,.lst (Ae.of (aY _ _ aW)) (aX.same aY).dts,?_⟩);rw[Ex rfl];refine⟨_,rfl,BY ⟨GW,λaI cy=>?_⟩⟩;have cz:=AR (o:=.tup [.ref nt,.ref t,.ref L]) cy;have bA:=(aj.trans aY).trans cz;have ak:=M.trans bA;have a1:=D.trans bA;have d1:An K (upd bx aI (.tup [.ref nt,.ref t,.ref L])) (.ref aI) (.tup [Hu u Fm (Em ns (kM ns)),ON [([],[C4 ns])] 0 [],.lst ((Bm ns).map FE)]):=.tup (Ar.of Aa) (.cons ((N3.same a1).dt (a1 _ _ eN)) (.cons (TB.same a1).dt (.cons (K1 (a1 _ _ eL) (TL.same a1)) .nil)));have d2:An K (upd bx aI (.tup [.ref nt,.ref t,.ref L])) (.ref r2) (.tup [Hu u Fm (Em ns (kM ns)),ON [([],[C4 ns])] 0 [],.lst ((Bm ns).map FE)]):=.tup (Ar.of (ak _ _ bc)) (.cons ((be.same ak).dt (ak _ _ bd)) (.cons (bf.same ak).dt (.cons (K1 (ak _ _ bS) (bT.same ak)) .nil)));refine⟨7,_,_,.tup (.cons (Je _ _ _ _ _ _) (.cons (Zj _ _ _ _ _ _) (.cons (MV _ _) (.nil _)))),by decide,d2,d1,?_⟩;rw[Ex rfl];exact kq _
abbrev PH(P w K mg base):=BI P w K mg base "law" 12 ["_law_script"] (PD K)
def PJ(B:BK mg)(c:QW P w K mg base)(d:QX P w K mg base)(e:Q5 P w K mg base)(g:Q8 P w K mg base)(h:Pz P w K mg base)(i:Q9 P w K mg base)(j:Re P w K mg base)(F:BA K "law" "law" GP f fd)(a:mg "law" = some (.ref f)):PH P w K mg base:=
 ⟨f,fd,Ih B c d e g h i j F,a,F.kp,F.binds λζ ζ ζ ζ ζ ζ us b=>(by obtain⟨k,rfl⟩:=HY b;rfl)⟩
end
abbrev Fin (K:Ah) (mg:Str->Option Value) (x:Str) (st:Stmt):Prop:=∃f fd,BA K x x st f fd/\mg x=some (.ref f)
def B7{K:Ah}{h:Heap}{b:Str->Option Value}(X:K.In h)(G:h.Ns mainGlobals b){x:Str}{st:Stmt}(q:Fx K x st):Fin K b x st:=by
 obtain⟨f,d,e,g,m,kV,n,i,o,j,a,l,c,k⟩:=q;exact⟨f,_,Hl l c k,PySem.W.mg_of X G a⟩
def all_mk{l:PySem.W.OpenLaw}{w:World}{K:Ah}{h:Heap}{a:Str->Option Value}{f:Addr}(X:K.In h)(G:h.Ns mainGlobals a)(U:a "law" = some (.ref f))(q:Kf K)
 : ∃g:FuncData,(∀(s:Shared)(v:Value),BindsTo s g ⟨[v],[]⟩ [("_law_script",v)])/\∀b:Heap,K.In b->b.Ns mainGlobals a->Eg l.prog w K a b Ip 12 f g ["_law_script"] (PD K):=by
 obtain⟨bO,bP,bQ,bp,bR,bq,br,bs,bt,bu,V,W,Y,Z⟩:=q.q43;have e:=U.symm.trans (PySem.W.mg_of X G V);cases e;have B:BK a:=⟨FO X G q.z_all,FO X G q.z_any,FO X G q.z_bool,FO X G q.z_dict,FO X G q.z_enumerate,FO X G q.z_int,FO X G q.z_isinstance,FO X G q.z_len,FO X G q.z_list,FO X G q.z_min,FO X G q.z_range,FO X G q.z_set,FO X G q.z_sorted,FO X G q.z_str,FO X G q.z_tuple,FO X G q.z_zip,q.y_MOST_BEGINNINGS.imp λζ y=>PySem.W.mg_of X G y⟩;obtain⟨_,_,u,x⟩:=B7 X G q.q0;obtain⟨_,_,z,A⟩:=B7 X G q.q1;obtain⟨_,_,C,D⟩:=B7 X G q.q2;obtain⟨_,_,E,F⟩:=B7 X G q.q3;obtain⟨_,_,H,I⟩:=B7 X G q.q4;obtain⟨_,_,J,L⟩:=B7 X G q.q5;obtain⟨_,_,M,N⟩:=B7 X G q.q6;obtain⟨_,_,O,P⟩:=B7 X G q.q7;obtain⟨_,_,Q,R⟩:=B7 X G q.q8;obtain⟨_,_,S,T⟩:=B7 X G q.q9;obtain⟨_,_,aa,ab⟩:=B7 X G q.q10;obtain⟨_,_,ae,af⟩:=B7 X G q.q11;obtain⟨_,_,ag,ah⟩:=B7 X G q.q12;obtain⟨_,_,ai,aj⟩:=B7 X G q.q13;obtain⟨_,_,ak,al⟩:=B7 X G q.q14;obtain⟨_,_,an,ao⟩:=B7 X G q.q15;obtain⟨_,_,aq,ar⟩:=B7 X G q.q16;obtain⟨_,_,au,av⟩:=B7 X G q.q17;obtain⟨_,_,aw,ax⟩:=B7 X G q.q18;obtain⟨_,_,ay,az⟩:=B7 X G q.q19;obtain⟨_,_,a0,a1⟩:=B7 X G q.q20;obtain⟨_,_,a2,a3⟩:=B7 X G q.q21;obtain⟨_,_,a4,a5⟩:=B7 X G q.q22;obtain⟨_,_,a6,a7⟩:=B7 X G q.q23;obtain⟨_,_,a8,a9⟩:=B7 X G q.q24;obtain⟨_,_,aA,aB⟩:=B7 X G q.q25;obtain⟨_,_,aC,aD⟩:=B7 X G q.q26;obtain⟨_,_,aE,aF⟩:=B7 X G q.q27;obtain⟨_,_,aG,aH⟩:=B7 X G q.q28;obtain⟨_,_,aI,aJ⟩:=B7 X G q.q29;obtain⟨_,_,aK,aL⟩:=B7 X G q.q30;obtain⟨_,_,aM,aN⟩:=B7 X G q.q31;obtain⟨_,_,aO,aP⟩:=B7 X G q.q32;obtain⟨_,_,aQ,aR⟩:=B7 X G q.q33;obtain⟨_,_,aS,aT⟩:=B7 X G q.q34;obtain⟨_,_,aU,aV⟩:=B7 X G q.q35;obtain⟨_,_,aW,aX⟩:=B7 X G q.q36;obtain⟨_,_,aY,aZ⟩:=B7 X G q.q37;obtain⟨_,_,ba,bb⟩:=B7 X G q.q38;obtain⟨_,_,bc,bd⟩:=B7 X G q.q39;obtain⟨_,_,be,bf⟩:=B7 X G q.q40;obtain⟨_,_,bg,bh⟩:=B7 X G q.q41;obtain⟨_,_,bi,bj⟩:=B7 X G q.q42;have bk:=Hl (st:=GP) W Y Z;refine⟨PySem.W.fnOf "law" "law" (Ke GP) (Ik GP) (A0 GP) .none bq br bs bp bt bu,λs v=>.of_eq rfl,λb ζ ζ=>?_⟩;have bl:Uq l.prog w K a b:=f7 B u x;have i:QV l.prog w K a b:=gB B z A;have bm:Ur l.prog w K a b:=gE B i C D;have bn:QW l.prog w K a b:=gG B bl i bm E F;have bo:QX l.prog w K a b:=gI B H I;have j:QY l.prog w K a b:=gK B J L;have bv:Uu l.prog w K a b:=gM B M N;have k:QZ l.prog w K a b:=gO B bv O P;have bw:Uv l.prog w K a b:=gP B k Q R;have m:Q0 l.prog w K a b:=gW B j bw S T;have bx:Uw l.prog w K a b:=g6 B m aa ab;have bz:Ux l.prog w K a b:=g9 B bx ae af;have b0:Uy l.prog w K a b:=hH B ag ah;have b1:Uz l.prog w K a b:=hQ B b0 ai aj;have n:Q1 l.prog w K a b:=hW B ak al;have o:Q2 l.prog w K a b:=iA B an ao;have b2:UA l.prog w K a b:=iC B aq ar;have p:Q3 l.prog w K a b:=iE B b2 au av;have b3:UB l.prog w K a b:=iG B n o p aw ax;have b4:UC l.prog w K a b:=iI B b1 b3 ay az;have b5:UD l.prog w K a b:=iK B n o p a0 a1;have c:Pt l.prog w K a b:=iM B a2 a3;have b6:UE l.prog w K a b:=iO B c a4 a5;have b7:UF l.prog w K a b:=iQ B c a6 a7;have b8:Ic l.prog w K a b:=iR B b5 b6 b7 a8 a9;have b9:UG l.prog w K a b:=iT B m aA aB;have d:Pw l.prog w K a b:=iV B bz b4 b8 b9 k aC aD;have r:Q4 l.prog w K a b:=iX B aE aF;have bA:UH l.prog w K a b:=iZ B r aG aH;have bB:UI l.prog w K a b:=i4 B j bA aI aJ;have bC:UJ l.prog w K a b:=i7 B c aK aL;have bD:UK l.prog w K a b:=i9 B bB bC r aM aN;have bE:UL l.prog w K a b:=jB B d bD aO aP;have bF:UM l.prog w K a b:=jC B aQ aR;have bG:UN l.prog w K a b:=jE B d aS aT;have bH:UO l.prog w K a b:=jG B bE bF bG aU aV;have bI:Q5 l.prog w K a b:=jI B bH aW aX;have bJ:Q8 l.prog w K a b:=jM B aY aZ;have bK:UP l.prog w K a b:=jN B d ba bb;have bL:UQ l.prog w K a b:=jP B bK bc bd;have t:Pz l.prog w K a b:=jR B bL be bf;have bM:Q9 l.prog w K a b:=jU B t bg bh;have bN:Re l.prog w K a b:=jW B bi bj;exact Ih B bn bo bI bJ t bM bN bk
def walk{l:PySem.W.OpenLaw}{q:Program}{loose:List Str}{XP:(Str->Option Value)->Heap->Prop}{YP:World->Heap->Prop}{d:DefRec}{K:Params->Ah}(i:l.most=some 63)(r:d.params.defaults=[])
 (j:∀(w:World)(h:Heap),YP w h->(K w.params).In h)
 (F:∀(w:World)(b:Str->Option Value)(e:Addr)(h:Heap),(K w.params).In h->h.Ns mainGlobals b->b d.name=some (.ref e) ->
  ∃g:FuncData,(∀(s:Shared)(u:Value),BindsTo s g ⟨[u],[]⟩ [("_law_script",u)])/\∀c:Heap,(K w.params).In c->c.Ns mainGlobals b->Eg l.prog w (K w.params) b c Ip 12 e g ["_law_script"] (PD (K w.params))) :
 PySem.W.WalkO q loose XP YP l.row.toRowW d [] (λf vs=>PySem.call f vs):=
 L2.IZ (n:=63) (k:=12) (x:= "_law_script") (CX:=λζ=>Ip) (sp:=λw=>PD (K w.params)) i (by decide) r ⟨rfl,by decide,by decide⟩ j F (λζ ζ a m o ζ p=>⟨a,m,rfl,p,o,λζ=>rfl⟩) λζ ζ ζ ζ ζ z=>z
end K40
open PySem PySem.W PyProof.Rows in
theorem PySem.Challenge.cw_namepaths_k40_by_one_another_holds : PySem.Challenge.rw_namepaths_k40_by_one_another.Holds :=
 K40.hd λK q YP d h1 h2 hY=>K40.walk (l:=PySem.Challenge.rw_namepaths_k40_by_one_another) rfl h1 hY λw mg fa h X G hm=>K40.all_mk X G (h2▸hm) (q w)
