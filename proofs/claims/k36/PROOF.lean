import PyProof.Rows.All
import Wide.All
import OpenK.AllK
import Wide.FinOn
import Lean
import PyProof.EqAt
import PyProof.EqKinds
import PyProof.TupleCall
import PySem.Challenge.RW_namepaths_k36_walked_and_used
set_option Elab.async false
set_option linter.all false
set_option maxRecDepth 100000
set_option compiler.extract_closed false
set_option maxHeartbeats 1000000
noncomputable section
local macro_rules|`(def $n $s:optDeclSig $v:declVal)=>`(noncomputable def $n $s:optDeclSig $v:declVal)
abbrev Aj:=PySem.W.Frag
def Ak:=@List.length_map
def AA:=@List.getElem?_eq_getElem
def AQ:=@List.length_append
def A6:=@List.map_append
def Bh:=@List.getElem?_eq_some_iff
def BI:=@List.mem_append
def AX:=@List.getElem?_map
def Bc:=@List.mem_of_getElem?
def AN:=@List.mem_map
def A7:=@List.mem_singleton
def Cw:=@List.size_toArray
def B2:=@List.mem_cons_self
def Cc:=@List.mem_cons
def Ev:=@List.mem_append_right
def Ew:=@List.map_cons
def DW:=@List.mem_cons_of_mem
def BW:=@List.getD_eq_getElem?_getD
def D7:=@List.take_succ
def Cr:=@List.take_length
def Ft:=@List.getElem?_append_left
def Ef:=@List.length_singleton
def DX:=@List.getElem_mem
def EJ:=@List.length_take
def EE:=@List.map_map
def FL:=@List.getElem?_append_right
def EF:=@List.take_zero
def GW:=@List.mem_append_left
def EG:=@List.length_cons
def Gh:=@List.nodup_cons
def Hj:=@List.length_set
def FX:=@List.append_assoc
def Ky:=@List.length_drop
def Pk:=@List.mem_iff_getElem
def EK:=@List.append_nil
def MU:=@List.lookup_cons
def Hk:=@List.getElem?_eq_none
def Ny:=@List.mem_filter
def Kz:=@List.drop_eq_getElem_cons
def MV:=@List.filter_cons
def GX:=@List.length_nil
def NA:=@List.map_nil
def MW:=@List.prefix_append
def Jb:=@List.any_eq_true
def MX:=@List.find?_cons
def NB:=@List.filter_append
def KA:=@List.foldl_append
def Pl:=@List.length_filter_le
def E8:=@Option.map_eq_some_iff
def AI:=@Nat.le_refl
def GY:=@Nat.lt_irrefl
def CQ:=@Nat.le_of_lt
def CF:=@Nat.ne_of_lt
def Po:=@Nat.lt_succ_self
def CO:=@Nat.zero_le
def Fu:=@Int.emod_lt_of_pos
def Fe:=@Int.emod_nonneg
def Cz:=@Int.eq_ofNat_of_zero_le
def Bw:=@Int.toNat_natCast
def AY:=@decide_eq_true
def D8:=@decide_eq_false
def A3:=@of_decide_eq_true
def Dd:=@PySem.F.plainAttrs_list
def EL:=@PySem.F.slot_list_append
def EM:=@PySem.F.type_list_append
def CS:=@Bool.false_ne_true
def BJ:=@Option.some.inj
def Ao:=@if_neg
def Ar:=@if_pos
def FY:=@Nat.lt_of_lt_of_le
def EN:=@Nat.le_trans
def FU:=@Bool.false_eq_true
def Ri:=@List.filterMap_cons
def BB:=@congrArg
open PySem PySem.Spec PyProof.Rows in
def Ag:=@wpAny_bind
open PySem PySem.Spec PyProof.Rows in
def Az:=@wpAny_pure
open PySem PySem.Spec PyProof.Rows in
def FZ:=@wpAny_holding
open PySem PySem.Spec PyProof.Rows in
def Gi:=@wpAny_truthy_bool
open PySem PySem.Spec PyProof.Rows in
def Bn:=@Heap.get?_push_of_some
open PySem PySem.Spec PyProof.Rows in
def Bj:=@Heap.lt_size
open PySem PySem.Spec PyProof.Rows in
def Co:=@Heap.get?_push_size
open PySem PySem.Spec PyProof.Rows in
def B8:=@PassesOwn.never
open PySem PySem.Spec PyProof.Rows in
def F0:=@PySem.W.mg_none_of
open PySem PySem.Spec PyProof.Rows in
def Gu:=@PySem.mem_of_lookup
open PySem PySem.Spec PyProof.Rows in
def Pp:=@wpAny_typeOf
open PySem PySem.Spec PyProof.Rows in
def F1:=@wpAny_mono
open PySem PySem.Spec PyProof.Rows in
def GG:=@wpAny_seqItems
open PySem PySem.Spec PyProof.Rows in
def IH:=@wpAny_rule
noncomputable section
noncomputable def PySem.W.Fast.tw17277029197013350135:PySem.Program:=PySem.Challenge.pw_namepaths_k36_walked_and_used
theorem PySem.W.Fast.te17277029197013350135:PySem.Challenge.pw_namepaths_k36_walked_and_used=PySem.W.Fast.tw17277029197013350135:=rfl
namespace L2
open PySem PySem.Spec PyProof.Rows
noncomputable def KC (s:Stmt):Arguments:=match s with
 |.FunctionDef _ a _ _ _ _ _ _ _ _=>a
 |_=>{posonlyargs:=[],args:=[],vararg:=none,kwonlyargs:=[],kw_defaults:=[],kwarg:=none,defaults:=[]}
noncomputable def II (s:Stmt):List Stmt:=match s with
 |.FunctionDef _ _ b _ _ _ _ _ _ _=>b
 |_=>[]
noncomputable def AS (s:Stmt):Scope:=match s with
 |.FunctionDef _ _ _ _ _ _ sc _ _ _=>sc
 |_=>{kind:=.function,names:=[],isGenerator:=false,isCoroutine:=false}
section
open PySem.W PySem.W.Fast
noncomputable def GZ (p:Program) (w:World) (N:Nat):Option Shared:=((tw10274390034422433532 tw14364793385576792824 (opening p) w N (PySem.start (opening p)).1 (PySem.start (opening p)).2).bind (tw14289696077712309145 p)).bind λs₀ =>
 match s₀.heap.isNs mainGlobals && s₀.gens.size==0 with
 |true=>(tw14082659384304107361 tw14364793385576792824 p w s₀.heap.objs.size (s₀.heap.nsMap mainGlobals "__annotations__") N s₀ (topStub p)).bind λs₁=>match staticsOk (tw5923862056798008813 p.main.body) s₀.heap s₁.heap && namesBound p s₁.heap && gensDone s₁ && laidKept s₀.heap s₁.heap with
   |true=>some s₁
   |false=>none
 |false=>none
def Jc{p q:Program}{loose:List Str}{Xt:Shared->Bool}{α:Type}{Yf:Shared->α}{Ya:World->α}{N:Nat}
 (A:∀w:World,Option.map (λs=>tw4187177175401517315 q loose (tw5923862056798008813 p.main.body) Xt true s) (GZ p w N)=some (openGood q loose))
 (B:∀w:World,Option.map Yf (GZ p w N)=some (Ya w)):LeftO p q loose Xt Yf Ya N:=by
 intro w;have a:=A w;have b:=B w
 have h:Option.map (λs=>(tw4187177175401517315 q loose (tw5923862056798008813 p.main.body) Xt true s,Yf s)) (GZ p w N)=some (openGood q loose,Ya w):=by
  cases e:GZ p w N with
  |none=>rw[e] at a;cases a
  |some s =>
    rw[e] at a b;simp only[Option.map_some] at a b ⊢;rw[BJ a,BJ b]
 unfold GZ at h;rw[<-te14082659384304107361,<-te10274390034422433532,<-te14364793385576792824,<-te4187177175401517315,<-te5923862056798008813,<-te14289696077712309145] at h;exact h
end
end L2
namespace K36
open PySem PySem.Spec PyProof.Rows PySem.W L2
noncomputable def top (i:Nat):Stmt:=PySem.Challenge.pw_namepaths_k36_walked_and_used.main.body.getD i (.Pass ⟨0,0,0,0⟩)
abbrev Rj:Stmt:=top 45
abbrev Rk:Stmt:=top 44
abbrev Rl:Stmt:=top 46
abbrev Rm:Stmt:=top 47
abbrev Rn:Stmt:=top 48
abbrev Ro:Stmt:=top 49
abbrev Rp:Stmt:=top 50
abbrev Rq:Stmt:=top 51
abbrev Rr:Stmt:=top 52
abbrev Pq:Stmt:=top 53
abbrev NC:Stmt:=top 54
abbrev Rs:Stmt:=top 55
abbrev Rt:Stmt:=top 11
abbrev Ru:Stmt:=top 3
abbrev Rv:Stmt:=top 1
abbrev Rx:Stmt:=top 2
abbrev Ry:Stmt:=top 21
abbrev Pr:Stmt:=top 20
abbrev Rz:Stmt:=top 15
abbrev RA:Stmt:=top 62
abbrev RB:Stmt:=top 65
abbrev RC:Stmt:=top 66
abbrev RD:Stmt:=top 12
abbrev RE:Stmt:=top 18
abbrev RF:Stmt:=top 16
abbrev RG:Stmt:=top 63
abbrev RH:Stmt:=top 57
abbrev RI:Stmt:=top 58
abbrev RJ:Stmt:=top 59
abbrev RK:Stmt:=top 60
abbrev ND:Stmt:=top 64
abbrev RL:Stmt:=top 19
abbrev RM:Stmt:=top 17
abbrev RN:Stmt:=top 61
abbrev Ld:Stmt:=top 67
abbrev NE:Stmt:=top 56
abbrev Ps:Stmt:=top 24
abbrev RO:Stmt:=top 25
abbrev RP:Stmt:=top 8
abbrev RQ:Stmt:=top 26
abbrev Pt:Stmt:=top 23
abbrev RS:Stmt:=top 29
abbrev RU:Stmt:=top 31
abbrev RV:Stmt:=top 9
abbrev RW:Stmt:=top 32
abbrev RX:Stmt:=top 33
abbrev MY:Stmt:=top 30
abbrev RY:Stmt:=top 28
abbrev RZ:Stmt:=top 37
abbrev R1:Stmt:=top 35
abbrev R3:Stmt:=top 42
abbrev R6:Stmt:=top 41
abbrev R7:Stmt:=top 39
abbrev R8:Stmt:=top 40
abbrev R9:Stmt:=top 38
abbrev Sa:Stmt:=top 36
abbrev KD:Stmt:=top 68
noncomputable def own:Stmt->Bool
 |.Assign [.Name x _] _ _=>x != "__name__"
 |_=>true
noncomputable def view:Program:={PySem.Challenge.pw_namepaths_k36_walked_and_used with main:={PySem.Challenge.pw_namepaths_k36_walked_and_used.main with body:=PySem.Challenge.pw_namepaths_k36_walked_and_used.main.body.filter own}}
noncomputable abbrev Fx (K:Frag) (x:Str) (st:Stmt):Prop:=∃(f:Addr)(oc:Value)(od an:Option Addr)(osl:Array (Option Value))(kV doc pm cdv ct:Value),nsIn K mainGlobals x=some (some (.ref f))/\K.lookup f=some ⟨oc,od,.func (fnOf x x (KC st) (II st) (AS st) .none kV doc pm an cdv ct),osl⟩/\codeIn K cdv x=true/\keepIn K (.ref f)=true
def Av{K:Frag}{x:Str}{st:Stmt}{f:Addr}{d:Value}{e g:Option Addr}{i:Array (Option Value)}{kV j h b ct:Value}(a:nsIn K mainGlobals x=some (some (.ref f)))(l:K.lookup f=some ⟨d,e,.func (fnOf x x (KC st) (II st) (AS st) .none kV j h g b ct),i⟩)(c:codeIn K b x=true)(k:keepIn K (.ref f)=true):Fx K x st:=⟨f,d,e,g,i,kV,j,h,b,ct,a,l,c,k⟩
def Sb{K:Frag}{x:Str}{v:Int}{t:Tok}(h:nsIn K mainGlobals x=some (some (.int v t))):∃t,nsIn K mainGlobals x=some (some (.int v t)):=⟨t,h⟩
structure KE (K:Frag):Prop where
 q0:Fx K "_law_names" Rj
 q1:Fx K "_law_cell_at" Rk
 q2:Fx K "_law_ranks" Rl
 q3:Fx K "_law_order" Rm
 q4:Fx K "_law_table" Rn
 q5:Fx K "_law_question" Ro
 q6:Fx K "_law_thing" Rp
 q7:Fx K "_law_step" Rq
 q8:Fx K "_law_telling" Rr
 q9:Fx K "_law_scopes" Pq
 q10:Fx K "_law_made" NC
 q11:Fx K "_law_answers" Rs
 q12:Fx K "next_state" Rt
 q13:Fx K "inside_of_sort" Ru
 q14:Fx K "inside" Rv
 q15:Fx K "goal" Rx
 q16:Fx K "steps_gone" Ry
 q17:Fx K "longer_by_a_step" Pr
 q18:Fx K "beginnings" Rz
 q19:Fx K "_law_next" RA
 q20:Fx K "_law_sort" RB
 q21:Fx K "_law_asked" RC
 q22:Fx K "has_end" RD
 q23:Fx K "found_behind" RE
 q24:Fx K "found_ways" RF
 q25:Fx K "_law_told" RG
 q26:Fx K "_law_label" RH
 q27:Fx K "_law_hides" RI
 q28:Fx K "_law_hidden" RJ
 q29:Fx K "_law_meant" RK
 q30:Fx K "_law_end" ND
 q31:Fx K "owed_behind" RL
 q32:Fx K "owed_ways" RM
 q33:Fx K "_law_inside" RN
 q34:Fx K "_law_due" Ld
 q35:Fx K "_law_same" NE
 q36:Fx K "better_pairs" Ps
 q37:Fx K "tree_of" RO
 q38:Fx K "label_at" RP
 q39:Fx K "first_hider" RQ
 q40:Fx K "seen_ways" Pt
 q41:Fx K "look_for" RS
 q42:Fx K "first_owed" RU
 q43:Fx K "telling_at" RV
 q44:Fx K "first_open" RW
 q45:Fx K "meaning" RX
 q46:Fx K "met" MY
 q47:Fx K "look_up" RY
 q48:Fx K "scopes_of" RZ
 q49:Fx K "walked" R1
 q50:Fx K "of_sort" R3
 q51:Fx K "of_answer" R6
 q52:Fx K "of_steps" R7
 q53:Fx K "of_tellings" R8
 q54:Fx K "questions_of" R9
 q55:Fx K "used" Sa
 q56:Fx K "law" KD
 z_all:nsIn K mainGlobals "all" = some none
 z_any:nsIn K mainGlobals "any" = some none
 z_bool:nsIn K mainGlobals "bool" = some none
 z_dict:nsIn K mainGlobals "dict" = some none
 z_enumerate:nsIn K mainGlobals "enumerate" = some none
 z_int:nsIn K mainGlobals "int" = some none
 z_isinstance:nsIn K mainGlobals "isinstance" = some none
 z_len:nsIn K mainGlobals "len" = some none
 z_list:nsIn K mainGlobals "list" = some none
 z_min:nsIn K mainGlobals "min" = some none
 z_range:nsIn K mainGlobals "range" = some none
 z_set:nsIn K mainGlobals "set" = some none
 z_sorted:nsIn K mainGlobals "sorted" = some none
 z_str:nsIn K mainGlobals "str" = some none
 z_sum:nsIn K mainGlobals "sum" = some none
 z_tuple:nsIn K mainGlobals "tuple" = some none
 z_zip:nsIn K mainGlobals "zip" = some none
 y_MOST_BEGINNINGS:∃t,nsIn K mainGlobals "MOST_BEGINNINGS" = some (some (.int 200 t))
theorem Hw(w:World):Option.map (λs=>Fast.tw4187177175401517315 view [] (Fast.tw5923862056798008813 PySem.Challenge.pw_namepaths_k36_walked_and_used.main.body) (λs=>xlAt view [] s && recOk [] s) true s) (GZ PySem.Challenge.pw_namepaths_k36_walked_and_used w 40000)=some (openGood view []):=by kernel_rfl
end K36
abbrev A' := List (PySem.Str × PySem.Str)
abbrev B' := List (PySem.Addr × PySem.Obj)
abbrev C' := Option (PySem.Str × Int)
abbrev G' := PySem.Value → PySem.Shared → Prop
local macro_rules | `(tactic| lia) => `(tactic| omega)
local macro_rules | `(tactic| cbv) => `(tactic| try dsimp only)
set_option tactic.hygienic false
section
open PySem PySem.W PyProof.Rows
local macro_rules | `(tactic| o_head $H:term) => `(tactic| refine holds_open (q := K36.view) (loose := []) (Xt := fun s => xlAt K36.view [] s && recOk [] s) (XP := XL K36.view []) (Yf := Hook.obs $H) (Ya := Hook.val $H) (YP := Hook.says $H) (N := 40000) ?hl (Hook.of $H) (Hook.keeps $H) (fun s e => xl_of s (Bool.and_eq_true_iff.mp e).1) XL.keeps (by rfl) (by rfl) (by rfl) (fun s e => recFacts_of (Bool.and_eq_true_iff.mp e).2) (by rfl) (by first | assumption | decide +kernel) (by decide +kernel) ⟨rfl, rfl, rfl, rfl, rfl, by decide +kernel⟩ ?hw ?hc)
set_option maxHeartbeats 0 in
theorem K36.hd(a:∀K:Params->Frag,(∀w:World,K36.KE (K w.params))->∀(YP:World->Heap->Prop)(d:DefRec),d.params.defaults=[]->d.name = "law" -> (∀(w:World)(h:Heap),YP w h->(K w.params).In h)->WalkO K36.view [] (XL K36.view []) YP PySem.Challenge.rw_namepaths_k36_walked_and_used.row.toRowW d [] (λf vs=>PySem.call f vs)):PySem.Challenge.rw_namepaths_k36_walked_and_used.Holds:=by
 w_on;o_law;k_head
 case hl =>
  refine L2.Jc K36.Hw λw=>?_
  kernel_rfl
 case hw=>w_witness2
 k_fill
 refine a _ (λw=>?fx) _ _ rfl rfl (λw h Y=>PySem.W.kIn_of Y)
 case fx =>
  refine' ⟨K36.Av ?a0 ?l0 ?c0 ?k0,K36.Av ?a1 ?l1 ?c1 ?k1,K36.Av ?a2 ?l2 ?c2 ?k2,K36.Av ?a3 ?l3 ?c3 ?k3,K36.Av ?a4 ?l4 ?c4 ?k4,K36.Av ?a5 ?l5 ?c5 ?k5,K36.Av ?a6 ?l6 ?c6 ?k6,K36.Av ?a7 ?l7 ?c7 ?k7,K36.Av ?a8 ?l8 ?c8 ?k8,K36.Av ?a9 ?l9 ?c9 ?k9,K36.Av ?a10 ?l10 ?c10 ?k10,K36.Av ?a11 ?l11 ?c11 ?k11,K36.Av ?a12 ?l12 ?c12 ?k12,K36.Av ?a13 ?l13 ?c13 ?k13,K36.Av ?a14 ?l14 ?c14 ?k14,K36.Av ?a15 ?l15 ?c15 ?k15,K36.Av ?a16 ?l16 ?c16 ?k16,K36.Av ?a17 ?l17 ?c17 ?k17,K36.Av ?a18 ?l18 ?c18 ?k18,K36.Av ?a19 ?l19 ?c19 ?k19,K36.Av ?a20 ?l20 ?c20 ?k20,K36.Av ?a21 ?l21 ?c21 ?k21,K36.Av ?a22 ?l22 ?c22 ?k22,K36.Av ?a23 ?l23 ?c23 ?k23,K36.Av ?a24 ?l24 ?c24 ?k24,K36.Av ?a25 ?l25 ?c25 ?k25,K36.Av ?a26 ?l26 ?c26 ?k26,K36.Av ?a27 ?l27 ?c27 ?k27,K36.Av ?a28 ?l28 ?c28 ?k28,K36.Av ?a29 ?l29 ?c29 ?k29,K36.Av ?a30 ?l30 ?c30 ?k30,K36.Av ?a31 ?l31 ?c31 ?k31,K36.Av ?a32 ?l32 ?c32 ?k32,K36.Av ?a33 ?l33 ?c33 ?k33,K36.Av ?a34 ?l34 ?c34 ?k34,K36.Av ?a35 ?l35 ?c35 ?k35,K36.Av ?a36 ?l36 ?c36 ?k36,K36.Av ?a37 ?l37 ?c37 ?k37,K36.Av ?a38 ?l38 ?c38 ?k38,K36.Av ?a39 ?l39 ?c39 ?k39,K36.Av ?a40 ?l40 ?c40 ?k40,K36.Av ?a41 ?l41 ?c41 ?k41,K36.Av ?a42 ?l42 ?c42 ?k42,K36.Av ?a43 ?l43 ?c43 ?k43,K36.Av ?a44 ?l44 ?c44 ?k44,K36.Av ?a45 ?l45 ?c45 ?k45,K36.Av ?a46 ?l46 ?c46 ?k46,K36.Av ?a47 ?l47 ?c47 ?k47,K36.Av ?a48 ?l48 ?c48 ?k48,K36.Av ?a49 ?l49 ?c49 ?k49,K36.Av ?a50 ?l50 ?c50 ?k50,K36.Av ?a51 ?l51 ?c51 ?k51,K36.Av ?a52 ?l52 ?c52 ?k52,K36.Av ?a53 ?l53 ?c53 ?k53,K36.Av ?a54 ?l54 ?c54 ?k54,K36.Av ?a55 ?l55 ?c55 ?k55,K36.Av ?a56 ?l56 ?c56 ?k56,?z_all,?z_any,?z_bool,?z_dict,?z_enumerate,?z_int,?z_isinstance,?z_len,?z_list,?z_min,?z_range,?z_set,?z_sorted,?z_str,?z_sum,?z_tuple,?z_zip,K36.Sb ?y_MOST_BEGINNINGS⟩
  case a0|l0|c0|k0|a1|l1|c1|k1|a2|l2|c2|k2|a3|l3|c3|k3|a4|l4|c4|k4|a5|l5|c5|k5|a6|l6|c6|k6|a7|l7|c7|k7|a8|l8|c8|k8|a9|l9|c9|k9|a10|l10|c10|k10|a11|l11|c11|k11|a12|l12|c12|k12|a13|l13|c13|k13|a14|l14|c14|k14|a15|l15|c15|k15|a16|l16|c16|k16|a17|l17|c17|k17|a18|l18|c18|k18|a19|l19|c19|k19|a20|l20|c20|k20|a21|l21|c21|k21|a22|l22|c22|k22|a23|l23|c23|k23|a24|l24|c24|k24|a25|l25|c25|k25|a26|l26|c26|k26|a27|l27|c27|k27|a28|l28|c28|k28|a29|l29|c29|k29|a30|l30|c30|k30|a31|l31|c31|k31|a32|l32|c32|k32|a33|l33|c33|k33|a34|l34|c34|k34|a35|l35|c35|k35|a36|l36|c36|k36|a37|l37|c37|k37|a38|l38|c38|k38|a39|l39|c39|k39|a40|l40|c40|k40|a41|l41|c41|k41|a42|l42|c42|k42|a43|l43|c43|k43|a44|l44|c44|k44|a45|l45|c45|k45|a46|l46|c46|k46|a47|l47|c47|k47|a48|l48|c48|k48|a49|l49|c49|k49|a50|l50|c50|k50|a51|l51|c51|k51|a52|l52|c52|k52|a53|l53|c53|k53|a54|l54|c54|k54|a55|l55|c55|k55|a56|l56|c56|k56|z_all|z_any|z_bool|z_dict|z_enumerate|z_int|z_isinstance|z_len|z_list|z_min|z_range|z_set|z_sorted|z_str|z_sum|z_tuple|z_zip|y_MOST_BEGINNINGS=>k_is
end
set_option Elab.async false
set_option linter.all false
set_option maxRecDepth 100000
namespace L2
open PySem PySem.Spec PyProof.Rows
abbrev A8:=Sum Int Str
def Le:A8->Value->Bool
 |.inl k,v=>Value.isInt k v
 |.inr x,v=>Value.isStrOf x v
def Sc (w:World):A8->Int
 |.inl k=>hashInt k
 |.inr x=>hashStr w x
theorem IJ:∀{k:A8}{v:Value},Le k v=true->(∃i t,k=Sum.inl i/\v=Value.int i t)\/(∃x t,k=Sum.inr x/\v=Value.str x t)
 |.inl i,v,h=>by
   obtain⟨t,e⟩:=Value.isInt_shape (k:=i) (v:=v) h;exact .inl ⟨i,t,rfl,e⟩
 |.inr x,v,h=>by
   obtain⟨t,e⟩:=Value.isStrOf_shape (x:=x) (v:=v) h;exact .inr ⟨x,t,rfl,e⟩
def X7(i:Int)(t:Tok):Le (.inl i) (.int i t)=true:=by simp[Le,Value.isInt]
def X8(x:Str)(t:Tok):Le (.inr x) (.str x t)=true:=by simp[Le,Value.isStrOf]
def Lf(a b:Int):decide ((Sum.inl a:A8)=Sum.inl b)=(a==b):=by
 by_cases e:a=b;subst e;simp;have h:¬(Sum.inl a:A8)=Sum.inl b:=λq=>e (Sum.inl.inj q);rw[D8 h];exact(beq_eq_false_iff_ne.mpr e).symm
def Lg(a b:Str):decide ((Sum.inr a:A8)=Sum.inr b)=decide (a=b):=by
 by_cases e:a=b;subst e;simp;have h:¬(Sum.inr a:A8)=Sum.inr b:=λq=>e (Sum.inr.inj q);rw[D8 h,D8 e]
def Lh(a:Int)(b:Str):decide ((Sum.inl a:A8)=Sum.inr b)=false:=D8 (λq=>nomatch q)
def Li(a:Str)(b:Int):decide ((Sum.inr a:A8)=Sum.inl b)=false:=D8 (λq=>nomatch q)
def Ff (prog:Program) (w:World):PySem.KeyKind prog w A8 where
 is:=Le
 hash:=Sc w
 inj:=λv a b ha hb=>by
  rcases IJ ha with⟨i,t,rfl,rfl⟩|⟨x,t,rfl,rfl⟩;rcases IJ hb with⟨j,u,rfl,e⟩|⟨y,u,rfl,e⟩;injection e with e1 _;rw[e1];exact nomatch e;rcases IJ hb with⟨j,u,rfl,e⟩|⟨y,u,rfl,e⟩;exact nomatch e;injection e with e1 _;rw[e1]
 byValue:=λk v h=>by
  rcases IJ h with⟨i,t,rfl,rfl⟩|⟨x,t,rfl,rfl⟩<;>rfl
 pyHash:=λhv h=>by
  rcases IJ hv with⟨i,t,rfl,rfl⟩|⟨x,t,rfl,rfl⟩;exact wpAny_pyHash_int h;exact wpAny_pyHash_str h
 eqBool:=λhu hv h=>by
  rcases IJ hu with⟨i,t,rfl,rfl⟩|⟨x,t,rfl,rfl⟩;rcases IJ hv with⟨j,u,rfl,rfl⟩|⟨y,u,rfl,rfl⟩;rw[Lf] at h;exact wpAny_eqBool_int h;rw[Lh] at h;exact SeqAt.EqAt.int_str i t y u _ _ _ _ h;rcases IJ hv with⟨j,u,rfl,rfl⟩|⟨y,u,rfl,rfl⟩;rw[Li] at h;exact SeqAt.EqAt.str_int x t j u _ _ _ _ h;rw[Lg] at h;exact wpAny_eqBool_str h
 «strs»:=λk x t v h=>by
  rcases IJ h with⟨i,u,rfl,e⟩|⟨y,u,rfl,e⟩;exact nomatch e;injection e with e1 _;subst e1;cases v<;>rfl
def X9(prog:Program)(w:World)(i:Int)(t:Tok):(Ff prog w).is (.inl i) (.int i t)=true:=X7 i t
def Yb(prog:Program)(w:World)(x:Str)(t:Tok):(Ff prog w).is (.inr x) (.str x t)=true:=X8 x t
inductive V where
 |non|bl (b:Bool)|int (i:Int)|str (x:Str)|byt (b:Array UInt8)|flt (b:UInt64)|ref (a:Addr)|ty (n:String)
 deriving DecidableEq
def RelV:V->Value->Prop
 |.non,u=>u=Value.none
 |.bl b,u=>u=Value.bool b
 |.int i,u=>∃t,u=Value.int i t
 |.str x,u=>∃t,u=Value.str x t
 |.byt b,u=>∃t,u=Value.bytes b t
 |.flt b,u=>∃t,u=Value.float b t
 |.ref a,u=>u=Value.ref a
 |.ty n,u=>u=Value.type n
abbrev Ay:List V->List Value->Prop:=Paired RelV
def Ay.length{xs:List V}{a:List Value}(r:Ay xs a):xs.length=a.length:=Paired.length r
theorem Ay.get:∀{xs:List V}{a:List Value}{i:Nat}{x:V},Ay xs a->xs[i]?=some x->∃u,a[i]?=some u/\RelV x u
 |_,_,_,_,.nil,e=>by simp at e
 |_,_,0,_,.cons r _,e=>by simp at e;subst e;exact⟨_,rfl,r⟩
 |_,_,i+1,x,.cons _ t,e=>by
   obtain⟨u,b,c⟩:=Ay.get (i:=i) (x:=x) t (by simpa using e);exact⟨u,by simpa using b,c⟩
theorem Ay.set{x:V}{u:Value}(r:RelV x u):∀{xs:List V}{a:List Value}(i:Nat),Ay xs a->Ay (xs.set i x) (a.set i u)
 |_,_,_,.nil=>.nil
 |_,_,0,.cons _ t=>.cons r t
 |_,_,i+1,.cons q t=>.cons q (Ay.set r i t)
theorem Ay.append:∀{xs ys:List V}{a ws:List Value},Ay xs a->Ay ys ws->Ay (xs++ys) (a++ws)
 |_,_,_,_,.nil,s=>s
 |_,_,_,_,.cons r t,s=>.cons r (Ay.append t s)
theorem Ay.take:∀{xs:List V}{a:List Value}(n:Nat),Ay xs a->Ay (xs.take n) (a.take n)
 |_,_,0,_=>.nil
 |_,_,_+1,.nil=>.nil
 |_,_,n+1,.cons r t=>.cons r (Ay.take n t)
theorem Ay.drop:∀{xs:List V}{a:List Value}(n:Nat),Ay xs a->Ay (xs.drop n) (a.drop n)
 |_,_,0,r=>r
 |_,_,_+1,.nil=>.nil
 |_,_,n+1,.cons _ t=>Ay.drop n t
def Ex:Option V->Option Value->Prop
 |some v,some u=>RelV v u
 |none,none=>True
 |_,_=>False
def KV {κ:Type}:List (κ×V)->List (κ×Value)->Prop:=Paired λ(p:κ×V)(q:κ×Value)=>p.1=q.1/\RelV p.2 q.2
def kV:A8->V
 |.inl i=>.int i
 |.inr x=>.str x
inductive HO where
 |lst (xs:List V)
 |tup (xs:List V)
 |dK (kvs:List (A8×V))|dT (kvs:List (List A8×V))
 |set (S:Int->Bool) (n:Nat)
 |ins (C dx:Addr) (fs:List (Str×V))
 |own (x:Addr)
 |xd (fs:List (Str×V))
 |met (f x:Addr)
 |rng (lo hi:Int)
 |frz (o:Obj) (u:HO)
 |tbl (ps:Array Value)
 |ext (φ:Heap->Prop)
abbrev Hp:=Addr->Option HO
def upd (H:Hp) (a:Addr) (o:HO):Hp:=λb=>if b=a then some o else H b
variable {H:Hp}{a:Addr}{o:HO}
def Aa:upd H a o a=some o:=by unfold upd;rw[Ar rfl]
variable {b:Addr}
def AE(h:b≠a):upd H a o b=H b:=by unfold upd;rw[Ao h]
variable {u:HO}
def Jd:upd (upd H a o) a u=upd H a u:=by
 funext b;unfold upd;split<;>rfl
def MZ(h:H a=some o)(h':H b=some u)(d:o≠u):a≠b:=by
 intro e;subst e;rw[h] at h';exact d (BJ h')
def AU(h:H a=some o)(h':H b=none):a≠b:=by
 intro e;subst e;rw[h] at h';cases h'
section
variable (P:Program) (w:World)
def AF (H:Hp) (h:Heap) (a:Addr):HO->Prop
 |.lst xs=>xs.length<=sizeLine/\∃(its:List Value)(n:Nat),Ay xs its/\h.get? a=some {cls:=.type "list",data:=.seq its.toArray n}
 |.tup xs=>xs.length<=sizeLine/\∃its:List Value,Ay xs its/\IsTup h a its.toArray
 |.dK kvs=>kvs.length<=sizeLine/\(a==sysModules)=false/\∃vs,KV kvs vs/\h.DictOf (Ff P w) a vs
 |.dT kvs=>kvs.length<=sizeLine/\(a==sysModules)=false/\∃xs:List (List A8×Addr×Value),
  Paired (λ(p:List A8×V)(q:List A8×Addr×Value)=>p.1=q.1/\H q.2.1=some (.tup (p.1.map kV))/\RelV p.2 q.2.2) kvs xs /\
  ∃o es ep,h.get? a=some o/\o.ExactDict/\o.data=.dict es ep/\es.toList=xs.map (entryOfKey (tupleKind (Ff P w)))/\(xs.map (·.1)).Nodup
 |.set S n=>h.SetOf (intKind P w) a S n
 |.ins C dx fs=>H dx=some (.own a)/\fs.length<=1000/\dx≠a/\h.get? a=some (PySem.W.instObj C dx) /\
  ∃mA,h.Ns1 dx mA/\(∀f,Ex (fs.lookup f) (mA f))/\PySem.Within mA (fs.map (·.1))
 |.own _=>∃o,h.get? a=some o
 |.xd fs=>∃mA,h.Ns1 a mA/\∀f,Ex (fs.lookup f) (mA f)
 |.rng lo hi=>∃t u v,h.get? a=some {cls:=.type "range",data:=.fields #[.int lo t,.int hi u,.int 1 v]}
 |.frz o u=>h.get? a=some o/\AF H h a u
 |.tbl ps=>h.get? a=some {cls:=.none,data:=.fields ps}
 |.met f x=>h.get? a=some (PySem.W.methodObj (.ref f) (.ref x))
 |.ext φ=>φ h/\(∃o,h.get? a=some o)/\∀h1 h2:Heap,φ h1->(∀o,h1.get? a=some o->h2.get? a=some o)->φ h2
def CT (H:Hp) (h:Heap):Prop:=∀a o,H a=some o->AF P w H h a o
end
section
variable {P:Program} {w:World} {H H':Hp} {h h':Heap} {a:Addr} {o:HO}
def AF.lt(x:AF P w H h a o):a<h.objs.size:=by
 cases o with
 |lst b=>obtain⟨_,_,_,_,e⟩:=x;exact Bj e
 |tup b=>obtain⟨_,_,_,p⟩:=x;exact p.lt
 |dK c=>obtain⟨_,_,_,_,o,_,_,e,_⟩:=x;exact Bj e
 |dT c=>obtain⟨_,_,_,_,o,_,_,e,_⟩:=x;exact Bj e
 |set S n=>obtain⟨o,_,_,_,e,_⟩:=x;exact Bj e
 |ins C d fs=>obtain⟨_,_,_,e,_⟩:=x;exact Bj e
 |own y=>obtain⟨_,e⟩:=x;exact Bj e
 |xd fs=>obtain⟨_,⟨_,_,_,e,_⟩,_⟩:=x;exact Bj e
 |rng lo g=>obtain⟨_,_,_,e⟩:=x;exact Bj e
 |frz i u=>obtain⟨e,_⟩:=x;exact Bj e
 |tbl j=>exact Bj (show h.get? a=some _ from x)
 |met f y=>exact Bj (show h.get? a=some _ from x)
 |ext φ=>obtain⟨_,⟨_,e⟩,_⟩:=x;exact Bj e
theorem Paired.mapP{α β:Type}{F G:α->β->Prop}:∀{c:List α}{l₂:List β},Paired F c l₂->(∀a b,F a b->G a b)->Paired G c l₂
 |_,_,.nil,_=>.nil
 |_,_,.cons r t,f=>.cons (f _ _ r) (Paired.mapP t f)
def AF.stay(x:AF P w H h a o)(k:∀b u,(b=a\/H b=some (.own a))->h.get? b=some u->h'.get? b=some u)
 (B:∀b,H b=some (.own a)->H' b=some (.own a)) (D:∀b xs,H b=some (.tup xs)->H' b=some (.tup xs)):AF P w H' h' a o:=by
 induction o with
 |lst xs=>obtain⟨z,m,n,r,e⟩:=x;exact⟨z,m,n,r,k _ _ (.inl rfl) e⟩
 |tup xs=>obtain⟨z,m,r,g,e,c⟩:=x;exact⟨z,m,r,g,k _ _ (.inl rfl) e,c⟩
 |dK I=>obtain⟨z,y,E,r,g,i,j,e,c⟩:=x;exact⟨z,y,E,r,g,i,j,k _ _ (.inl rfl) e,c⟩
 |dT I =>
   obtain⟨z,y,xs,r,g,i,j,e,c⟩:=x;exact⟨z,y,xs,Paired.mapP r λp q z=>⟨z.1,D _ _ z.2.1,z.2.2⟩,g,i,j,k _ _ (.inl rfl) e,c⟩
 |set S n=>obtain⟨g,i,j,t,e,c⟩:=x;exact⟨g,i,j,t,k _ _ (.inl rfl) e,c⟩
 |ins C J fs =>
   obtain⟨d,z,ne,e,mA,⟨l,i,j,F,c⟩,r⟩:=x;exact⟨B _ d,z,ne,k _ _ (.inl rfl) e,mA,⟨l,i,j,k _ _ (.inr d) F,c⟩,r⟩
 |own y=>obtain⟨g,e⟩:=x;exact⟨g,k _ _ (.inl rfl) e⟩
 |xd fs=>obtain⟨mA,⟨l,i,j,e,c⟩,r⟩:=x;exact⟨mA,⟨l,i,j,k _ _ (.inl rfl) e,c⟩,r⟩
 |rng lo K=>obtain⟨t,u,v,e⟩:=x;exact⟨t,u,v,k _ _ (.inl rfl) e⟩
 |frz g u G=>obtain⟨e,q⟩:=x;exact⟨k _ _ (.inl rfl) e,G q⟩
 |tbl s =>
   have e:h.get? a=some {cls:=.none,data:=.fields s}:=x;show h'.get? a=some {cls:=.none,data:=.fields s};exact k a _ (.inl rfl) e
 |met f y =>
   have e:h.get? a=some (PySem.W.methodObj (.ref f) (.ref y)):=x;show h'.get? a=some (PySem.W.methodObj (.ref f) (.ref y));exact k a _ (.inl rfl) e
 |ext φ=>obtain⟨p,⟨o,e⟩,A⟩:=x;exact⟨A _ _ p λo q=>k _ _ (.inl rfl) q,⟨o,k _ _ (.inl rfl) e⟩,A⟩
def CT.lt(x:CT P w H h)(e:H a=some o):a<h.objs.size:=(x a o e).lt
def CT.fresh(x:CT P w H h)(e:h.objs.size<=a):H a=none:=by
 cases q:H a with
 |none=>rfl
 |some u=>exact absurd (FY (x.lt q) e) (GY _)
def CT.kept(x:CT P w H h)(k:∀b u,h.get? b=some u->h'.get? b=some u):CT P w H h':=λa o e =>
 (x a o e).stay (λb u ζ q=>k b u q) (λζ q=>q) λζ ζ q=>q
def CT.laid(x:CT P w H h)(k:∀b u,h.get? b=some u->h'.get? b=some u)(g:h.objs.size<=a)(i:AF P w (upd H a o) h' a o):CT P w (upd H a o) h':=λb u e=>by
 have d:=x.fresh g;by_cases f:b=a;subst f;rw[Aa] at e;cases e;exact i;rw[AE f] at e;exact(x b u e).stay (λc v ζ q=>k c v q) (λc q=>by rw[AE (AU q d)];exact q) λc j q=>by rw[AE (AU q d)];exact q
end
def Rd (H:Hp) (a:Addr) (u:HO):Prop:=H a=some u\/∃o,H a=some (.frz o u)
variable {P:Program}{w:World}{h:Heap}
def Rd.ok(r:Rd H a u)(x:CT P w H h):AF P w H h a u:=by
 rcases r with r|⟨o,r⟩;exact x a u r;obtain⟨_,q⟩:=x a _ r;exact q
def NF:Option HO->Prop
 |some (.lst _)=>True
 |some (.dK _)=>True
 |some (.dT _)=>True
 |some (.set _ _)=>True
 |some (.ins _ _ _)=>True
 |some (.ext _)=>True
 |_=>False
section
variable {P:Program} {w:World} {H:Hp} {h h':Heap} {x e:Addr} {o':HO}
def CT.write(ok:CT P w H h)(a:NF (H x))(j:e=x\/H e=some (.own x))(k:∀b u,b≠e->h.get? b=some u->h'.get? b=some u)(o:∃u,h'.get? e=some u)
 (p:AF P w (upd H x o') h' x o'):CT P w (upd H x o') h':=λb u q=>by
 have m:∀c y,H c=some (.own y)->c≠x:=λc y r z=>by subst z;rw[r] at a;exact a
 have s:∀c d,H c=some (.tup d)->c≠x:=λc d r z=>by subst z;rw[r] at a;exact a
 by_cases f:b=x;subst f;rw[Aa] at q;cases q;exact p;rw[AE f] at q;by_cases i:b=e
 have l:H b=some (.own x):=by
  rcases j with z|z;exact absurd (i.trans z) f;rw[i];exact z
 rw[q] at l;cases l;obtain⟨v,n⟩:=o;exact⟨v,by rw[i];exact n⟩;refine(ok b u q).stay (λc v g r=>k c v ?_ r) (λc r=>by rw[AE (m c b r)];exact r) λc d r=>by rw[AE (s c d r)];exact r
 rcases g with rfl|g;exact i;rintro rfl;rcases j with z|z;exact m c b g z;rw[g] at z;cases z;exact f rfl
end
structure Un (fs ex:List Addr) (H H':Hp) (h h':Heap):Prop where
 keep:∀b o,h.get? b=some o->H b=none->b∉fs->b∉ex->h'.get? b=some o
 slot:∀b o,h.get? b=some o->H b=none->b∈fs->b∉ex->∃sl,h'.get? b=some {o with slots:=sl}
 free:∀b o,h.get? b=some o->H b=none->b∉ex->H' b=none
 there:∀b o,h.get? b=some o->b∉ex->∃o',h'.get? b=some o'
 tups:∀b xs,H b=some (.tup xs)->H' b=some (.tup xs)
 frzs:∀b o u,H b=some (.frz o u)->H' b=some (.frz o u)
 tbls:∀b ps,H b=some (.tbl ps)->∃more,H' b=some (.tbl (ps++more))
section
variable {fs fs' ex ex':List Addr} {H U Y:Hp} {h h1 h2 h':Heap} {a x e:Addr} {o:HO}
def Un.any(u:Un fs ex H U h h1){ob:Obj}(q:h.get? b=some ob)(n:H b=none)(a:b∉ex):∃d,h1.get? b=some {ob with slots:=d}:=by
 by_cases c:b∈fs;exact u.slot b ob q n c a;exact⟨ob.slots,u.keep b ob q n c a⟩
def Un.kept(k:∀b u,h.get? b=some u->h'.get? b=some u):Un fs ex H H h h':=
 ⟨λb a q ζ ζ ζ=>k b a q,λb a q ζ ζ ζ=>⟨a.slots,k b a q⟩,λζ ζ ζ n ζ=>n,λb a q ζ=>⟨a,k b a q⟩,λζ ζ q=>q,λζ ζ ζ q=>q,λζ c q=>⟨#[],by rw[q];simp⟩⟩
def Un.refl:Un fs ex H H h h:=Un.kept λζ ζ q=>q
def Un.laid(k:∀b u,h.get? b=some u->h'.get? b=some u)(d:h.objs.size<=a)(c:H a=none):Un fs ex H (upd H a o) h h' where
 keep:=λb u q ζ ζ ζ=>k b u q
 slot:=λb u q ζ ζ ζ=>⟨u.slots,k b u q⟩
 free:=λb u q n ζ=>by rw[AE (CF (FY (Bj q) d))];exact n
 there:=λb u q ζ=>⟨u,k b u q⟩
 tups:=λb e q=>by rw[AE (AU q c)];exact q
 frzs:=λb u e q=>by rw[AE (AU q c)];exact q
 tbls:=λb f q=>⟨#[],by rw[AE (AU q c),q];simp⟩
def Un.write(a:NF (H x))(i:e=x\/H e=some (.own x))(k:∀b u,b≠e->h.get? b=some u->h'.get? b=some u)(m:∃u,h'.get? e=some u):Un fs ex H (upd H x o) h h':=by
 have d:∀b,H b=none->b≠x:=λb n z=>by subst z;rw[n] at a;exact a
 have f:∀b,H b=none->b≠e:=λb n z=>by
  subst z;rcases i with r|r;exact d b n r;rw[n] at r;cases r
 have c:∀b u,H b=some u->¬NF (some u)->b≠x:=λb u q j z=>by subst z;rw[q] at a;exact j a
 refine⟨λb u q n ζ ζ=>k b u (f b n) q,λb u q n ζ ζ=>⟨u.slots,k b u (f b n) q⟩,λb u q n ζ=>by rw[AE (d b n)];exact n,λb u q ζ=>?_,
  λb l q=>by rw[AE (c b _ q λz=>z)];exact q,λb u l q=>by rw[AE (c b _ q λz=>z)];exact q,λb p q=>⟨#[],by rw[AE (c b _ q λz=>z),q];simp⟩⟩
 by_cases g:b=e;subst g;exact m;exact⟨u,k b u g q⟩
end
def M0 (h:Heap) (H:Hp):List Addr:=(List.range h.objs.size).filter λa=>(H a).isSome
def FM (h:Heap) (H:Hp):Heap:=PySem.W.hideAll h (M0 h H)
def Yc(h:Heap)(H:Hp):(FM h H).objs.size=h.objs.size:=PySem.W.hideAll_size _ _
def Yd{o:Obj}(e:h.get? b=some o)(n:H b=none):(FM h H).get? b=some o:=
 PySem.W.hideAll_get _ e λa=>by
  have q:(H b).isSome=true:=(Ny.mp a).2;rw[n] at q;simp at q
def Je{o:Obj}(e:(FM h H).get? b=some o):h.get? b=some o/\H b=none:=by
 have a:h.get? b=some o:=PySem.W.of_hideAll (M0 h H) e;refine⟨a,?_⟩
 cases q:H b with
 |none=>rfl
 |some x =>
   have c:b∈M0 h H:=Ny.mpr ⟨List.mem_range.mpr (Bj a),by simp[q]⟩;have z:(FM h H).get? b=none:=PySem.W.hideAll_none (M0 h H) c;rw[z] at e;cases e
structure Mod (K:Aj) (mg:Str->Option Value) (base:Heap):Prop where
 kin:K.In base
 glob:base.Ns mainGlobals mg
 blt:∃mb,base.Ns builtinsNs mb/\∀x:Str,x ≠ "__name__" -> mb x=bootBuiltins x
 nolimit:base.NoLimit
structure Cx where
 prog:Program
 w:World
 K:Aj
 mg:Str->Option Value
 base:Heap
 A:Around
 N:List Str
 s₀:Shared
 H₀:Hp
 env:Env
 outer:List Env
 stack:List Env
 ex:List Addr
 fn:Str->Bool
 calm:Bool
 pn:B'
 xe:Value->Shared->Prop
def Fv (l:List Env):List Addr:=l.filterMap (·.frame)
abbrev Cx.fs (X:Cx):List Addr:=Fv X.outer
def Pu (sc:Scope) (x:Str):Prop:=sc.names.lookup x=some .local\/sc.names.lookup x=some .cell\/sc.names.lookup x=some .free
def Loc (sc:Scope) (x:Str):Prop:=sc.names.lookup x=some .local\/sc.names.lookup x=some .cell
def Look (env:Env) (h:Heap) (m:Str->Option Value) (x:Str) (u:Value):Prop:=
 (env.kindOf x=some .local/\m x=some u)\/((env.kindOf x=some .cell\/env.kindOf x=some .free)/\∃c,env.cells.lookup x=some c/\h.IsCell c (some u))
structure Cx.Ok (X:Cx):Prop where
 mod:Mod X.K X.mg X.base
 kind:X.env.scope.kind=.function
 glob:X.env.globals=mainGlobals
 blt:X.env.builtins=builtinsNs
 above:X.s₀.heap.objs.size<=X.env.locals
 inj:∀x y c,X.env.cells.lookup x=some c->X.env.cells.lookup y=some c->x=y
 has:∀x,(X.env.kindOf x=some .cell\/X.env.kindOf x=some .free)->∃c,X.env.cells.lookup x=some c
 cab:∀x c,X.fn x=true->X.env.cells.lookup x=some c->X.s₀.heap.objs.size<=c
 hd:X.calm=true->X.A.handled=none
 frames:X.A.frames=some X.stack
 stk:X.stack=X.outer\/(X.stack=X.env::X.outer/\X.env.frame=some X.env.locals)
 exf:∀b∈X.ex,b≠X.env.locals/\∀x c,X.env.cells.lookup x=some c->c≠b
 bs:∀b o,X.base.get? b=some o->X.s₀.heap.get? b=some o/\X.H₀ b=none
 bsz:X.base.objs.size<=X.s₀.heap.objs.size
 noex:∀b o,X.base.get? b=some o->b∉X.ex
 exfs:∀b∈X.ex,b∉X.fs
 funs:X.s₀.heap.FunFrames X.base X.outer
 frf:∀b∈X.fs,X.H₀ b=none
structure Inv (X:Cx) (pins:B') (σ:List (Option V)) (H:Hp) (s:Shared):Prop where
 ok:X.Ok
 os:s.os=X.s₀.os
 bare:AllBare s.gens
 base:Un X.fs X.ex X.H₀ H X.s₀.heap s.heap
 loc:∃m,s.heap.Ns X.env.locals m/\∀(i:Nat)(x:Str)(v:V),X.N[i]?=some x->σ[i]?=some (some v)->Pu X.env.scope x->∃u,RelV v u/\Look X.env s.heap m x u
 cell:∀x c,X.env.cells.lookup x=some c->∃v,s.heap.IsCell c v
 free:H X.env.locals=none
 freeC:∀x c,X.env.cells.lookup x=some c->H c=none
 pin:∀p∈X.pn++pins,s.heap.get? p.1=some p.2/\H p.1=none/\p.1≠X.env.locals/\p.1∉X.fs/\∀v,p.2.data≠.cell v
 hok:CT X.prog X.w H s.heap
 len:σ.length=X.N.length
section
variable {X:Cx} {pins:B'} {σ:List (Option V)} {H H':Hp} {s:Shared} {h':Heap}
def Cx.Ok.nofr(ok:X.Ok){o:Obj}(e:X.base.get? b=some o):b∉X.fs:=λa=>by
 have:=(ok.funs.mem a).1;rw[e] at this;cases this
def Inv.bs(I:Inv X pins σ H s):∀b o,X.base.get? b=some o->s.heap.get? b=some o/\H b=none:=λb o e =>
 ⟨I.base.keep b o (I.ok.bs b o e).1 (I.ok.bs b o e).2 (I.ok.nofr e) (I.ok.noex b o e),I.base.free b o (I.ok.bs b o e).1 (I.ok.bs b o e).2 (I.ok.noex b o e)⟩
def Inv.bk(I:Inv X pins σ H s):∀b o,X.base.get? b=some o->s.heap.get? b=some o:=λb o e=>(I.bs b o e).1
def Inv.mod(I:Inv X pins σ H s):Mod X.K X.mg X.base:=I.ok.mod
def Inv.kIn(I:Inv X pins σ H s):X.K.In s.heap:=I.ok.mod.kin.keeps I.bk
def Inv.lt(I:Inv X pins σ H s):X.env.locals<s.heap.objs.size:=let ⟨_,a,_⟩:=I.loc;a.lt
def Inv.sz(I:Inv X pins σ H s):X.s₀.heap.objs.size<=s.heap.objs.size:=EN I.ok.above (CQ I.lt)
def Inv.nofs(I:Inv X pins σ H s)(h:s.heap.objs.size<=a):a∉X.fs:=λb=>by
 obtain⟨_,o,c,_⟩:=I.ok.funs.mem b;exact absurd (FY (Bj c) (EN I.sz h)) (GY _)
def Inv.cne(I:Inv X pins σ H s):∀x c,X.env.cells.lookup x=some c->c≠X.env.locals:=λx c e z=>by
 obtain⟨v,o,a,hd⟩:=I.cell x c e;obtain⟨m,⟨f,g,h,b,d,_⟩,_⟩:=I.loc;rw[z,b] at a;cases a;rw[d] at hd;cases hd
def Inv.funs(I:Inv X pins σ H s):s.heap.FunFrames X.base X.outer:=by
 have all:∀(l:List Env),(∀b∈Fv l,b∈X.fs)->X.s₀.heap.FunFrames X.base l->s.heap.FunFrames X.base l:=by
  intro l
  induction l with
  |nil=>intro _ _;trivial
  |cons p r g =>
    intro f h;obtain⟨i,⟨L,o,a,j,k,hd⟩,m⟩:=h;have c:L∈X.fs:=f L (by unfold Fv;rw[Ri,a];exact B2);obtain⟨n,e⟩:=I.base.slot L o k (I.ok.frf L c) c λz=>I.ok.exfs L z c;exact⟨i,⟨L,_,a,j,e,hd⟩,g (λb d=>f b (by unfold Fv;rw[Ri,a];exact DW _ d)) m⟩
 exact all X.outer (λζ d=>d) I.ok.funs
def Inv.stack(I:Inv X pins σ H s):s.heap.FunFrames X.base X.stack:=by
 rcases I.ok.stk with e|⟨e,a⟩;rw[e];exact I.funs;rw[e];obtain⟨m,b,_⟩:=I.loc;refine .cons (by rw[I.ok.kind];decide) a b ?_ I.funs;exact Heap.get?_none_of_le (EN I.ok.bsz I.ok.above)
def Inv.stkSub(I:Inv X pins σ H s):∀b∈Fv X.stack,b∈X.env.locals::X.fs:=λb a=>by
 rcases I.ok.stk with e|⟨e,c⟩;rw[e] at a;exact DW _ a;rw[e] at a;unfold Fv at a;rw[Ri,c] at a;exact a
def Inv.stkFree(I:Inv X pins σ H s):∀b∈Fv X.stack,H b=none:=λb a=>by
 rcases Cc.mp (I.stkSub b a) with e|a;rw[e];exact I.free;obtain⟨_,o,c,_⟩:=I.ok.funs.mem a;exact I.base.free b o c (I.ok.frf b a) λz=>I.ok.exfs b z a
variable {t':Nat}{ch:List Addr}
def Inv.step{g':Array GenState}{d':Drawn}(I:Inv X pins σ H s)
 (w:∀b∈ch,(b∈X.ex\/X.s₀.heap.objs.size<=b)/\b≠X.env.locals/\(∀x c,X.env.cells.lookup x=some c->c≠b)/\∀p∈X.pn++pins,p.1≠b)
 (keep:∀b o,b≠X.env.locals->b∉X.fs->b∉ch->s.heap.get? b=some o->H b=none->h'.get? b=some o)
 (G:∀b o,b≠X.env.locals->b∈X.fs->b∉ch->s.heap.get? b=some o->H b=none->∃B,h'.get? b=some {o with slots:=B}) (free:∀b o,b∉ch->s.heap.get? b=some o->H b=none->H' b=none)
 (there:∀b o,b∉ch->s.heap.get? b=some o->∃j,h'.get? b=some j)
 (tups:∀b xs,H b=some (.tup xs)->H' b=some (.tup xs)) (S:∀b o u,H b=some (.frz o u)->H' b=some (.frz o u)) (T:∀b ps,H b=some (.tbl ps)->∃more,H' b=some (.tbl (ps++more)))
 (ns:∀m,s.heap.Ns X.env.locals m->h'.Ns X.env.locals m) (Q:CT X.prog X.w H' h') (K:AllBare g') :
 Inv X pins σ H' {s with heap:=h',gens:=g',drawn:=d',toks:=t'}:=by
 have F:∀b o,X.s₀.heap.get? b=some o->b≠X.env.locals:=λb o e=>CF (FY (Bj e) I.ok.above)
 have A:∀b o,X.s₀.heap.get? b=some o->b∉X.ex->b∉ch:=λb o e a g=>by
  rcases(w b g).1 with z|z;exact a z;exact absurd (FY (Bj e) z) (GY _)
 have J:∀x c,X.env.cells.lookup x=some c->∀v,s.heap.IsCell c v->h'.IsCell c v:=λx c e v⟨o,h,hd⟩=>by
  have y:c∉ch:=λz=>(w c z).2.2.1 x c e rfl;by_cases C:c∈X.fs;obtain⟨B,q⟩:=G c o (I.cne x c e) C y h (I.freeC x c e);exact⟨_,q,hd⟩;exact⟨o,keep c o (I.cne x c e) C y h (I.freeC x c e),hd⟩
 refine⟨I.ok,I.os,K,⟨λb o e n g a=>?_,λb o e n g a=>?_,λb o e n a=>?_,λb o e a=>?_,λb xs e=>tups b xs (I.base.tups b xs e),λb o xs e=>S b o xs (I.base.frzs b o xs e),λb ps e=>?_⟩,?_,λx c e=>?_,?_,λx c e=>?_,λp D=>?_,Q,I.len⟩;exact keep b o (F b o e) g (A b o e a) (I.base.keep b o e n g a) (I.base.free b o e n a);obtain⟨B,f⟩:=I.base.slot b o e n g a;obtain⟨R,t⟩:=G b _ (F b o e) g (A b o e a) f (I.base.free b o e n a);exact⟨R,t⟩;obtain⟨j,f⟩:=I.base.there b o e a;exact free b j (A b o e a) f (I.base.free b o e n a);obtain⟨j,f⟩:=I.base.there b o e a;exact there b j (A b o e a) f;obtain⟨L,f⟩:=I.base.tbls b ps e;obtain⟨M,t⟩:=T b _ f;exact⟨L++M,by rw[t,Array.append_assoc]⟩;obtain⟨m,N,O⟩:=I.loc;refine⟨m,ns m N,λi x v f t P=>?_⟩;obtain⟨u,r,l⟩:=O i x v f t P;refine⟨u,r,?_⟩;rcases l with l|⟨k,c,e,z⟩;exact .inl l;exact .inr ⟨k,c,e,J x c e _ z⟩;obtain⟨v,z⟩:=I.cell x c e;exact⟨v,J x c e v z⟩;obtain⟨m,⟨o,_,_,h,_⟩,_⟩:=I.loc;exact free _ o (λz=>(w _ z).2.1 rfl) h I.free;obtain⟨v,o,h,hd⟩:=I.cell x c e;exact free c o (λz=>(w c z).2.2.1 x c e rfl) h (I.freeC x c e);obtain⟨e,n,ne,E,d⟩:=I.pin p D;have y:p.1∉ch:=λz=>(w p.1 z).2.2.2 p D rfl;exact⟨keep p.1 p.2 ne E y e n,free p.1 p.2 y e n,ne,E,d⟩
def Inv.un(I:Inv X pins σ H s)(u:Un X.fs [] H H' s.heap h')(i:CT X.prog X.w H' h'):Inv X pins σ H' {s with heap:=h',toks:=t'}:=by
 obtain⟨m,⟨o,l,p,c,r⟩,_⟩:=id I.loc;obtain⟨q,f⟩:=u.any c I.free (by simp)
 exact I.step (g':=s.gens) (d':=s.drawn) (ch:=[]) (λζ z=>nomatch z) (λb o ζ a ζ e n=>u.keep b o e n a (by simp)) (λb o ζ a ζ e n=>u.slot b o e n a (by simp)) (λb o ζ e n=>u.free b o e n (by simp)) (λb o ζ e=>u.there b o e (by simp)) u.tups u.frzs u.tbls (λt g=>by
  obtain⟨v,j,k,d,h⟩:=g;rw[c] at d;cases d
  exact⟨_,j,k,f,h⟩) i I.bare
def Inv.call{g':Array GenState}{d':Drawn}(I:Inv X pins σ H s)(u:Un (Fv X.stack) ch H H' s.heap h')(q:CT X.prog X.w H' h')(i:AllBare g')
 (g:∀b∈ch,(b∈X.ex\/X.s₀.heap.objs.size<=b)/\b≠X.env.locals/\(∀x c,X.env.cells.lookup x=some c->c≠b)/\∀p∈X.pn++pins,p.1≠b) :
 Inv X pins σ H' {s with heap:=h',gens:=g',drawn:=d',toks:=t'}:=by
 obtain⟨m,⟨o,w,y,f,r⟩,_⟩:=id I.loc;obtain⟨A,d⟩:=u.any f I.free λz=>(g _ z).2.1 rfl
 exact I.step (ch:=ch) g (λb o d j a e n=>u.keep b o e n (λz=>(Cc.mp (I.stkSub b z)).elim d j) a) (λb o ζ ζ a e n=>u.any e n a) (λb o a e n=>u.free b o e n a) (λb o a e=>u.there b o e a) u.tups u.frzs u.tbls (λB k=>by
  obtain⟨C,t,v,h,l⟩:=k;rw[f] at h;cases h
  exact⟨_,t,v,d,l⟩) q i
def Inv.turned{a:Addr}(I:Inv X pins σ H s)(k:∀b o,b≠a->s.heap.get? b=some o->h'.get? b=some o)(h:H a=none)(f:a≠X.env.locals)
 (i:a∈X.ex\/X.s₀.heap.objs.size<=a) (j:∀x c,X.env.cells.lookup x=some c->c≠a) (l:∀p∈X.pn++pins,p.1≠a):Inv X pins σ H {s with heap:=h',toks:=t'}:=by
 have g:∀b u,H b=some u->b≠a:=λb u e z=>by rw[z,h] at e;cases e
 refine I.step (g':=s.gens) (d':=s.drawn) (ch:=[a]) (λb t=>?_) (λb o ζ ζ d e ζ=>k b o (λz=>d (by simp[z])) e) (λb o ζ ζ d e ζ=>⟨o.slots,k b o (λz=>d (by simp[z])) e⟩) (λζ ζ ζ ζ n=>n)
  (λb o d e=>⟨o,k b o (λz=>d (by simp[z])) e⟩) (λζ ζ e=>e) (λζ ζ ζ e=>e) (λb C e=>⟨#[],by rw[e];simp⟩) (λm w=>?_) (λb u e=>?_) I.bare
 have e:b=a:=(by simpa using t);subst e;exact⟨i,f,j,l⟩;obtain⟨o,y,A,B,r⟩:=w;exact⟨o,y,A,k _ o (Ne.symm f) B,r⟩;refine(I.hok b u e).stay (λc v d q=>k c v ?_ q) (λζ q=>q) λζ ζ q=>q;rcases d with z|z;rw[z];exact g b u e;exact g c _ z
def Inv.tok(I:Inv X pins σ H s)(t:Nat):Inv X pins σ H {s with toks:=t}:=I.un (h':=s.heap) (t':=t) Un.refl I.hok
def Inv.kept{t':Nat}(I:Inv X pins σ H s)(k:∀b u,s.heap.get? b=some u->h'.get? b=some u):Inv X pins σ H {s with heap:=h',toks:=t'}:=I.un (Un.kept k) (I.hok.kept k)
def Inv.laid{a:Addr}{o:HO}{t':Nat}(I:Inv X pins σ H s)(k:∀b u,s.heap.get? b=some u->h'.get? b=some u)(c:s.heap.objs.size<=a)(d:AF X.prog X.w (upd H a o) h' a o) :
 Inv X pins σ (upd H a o) {s with heap:=h',toks:=t'}:=I.un (Un.laid k c (I.hok.fresh c)) (I.hok.laid k c d)
def Inv.write{x e:Addr}{o:HO}{t':Nat}(I:Inv X pins σ H s)(a:NF (H x))(c:e=x\/H e=some (.own x))(k:∀b u,b≠e->s.heap.get? b=some u->h'.get? b=some u)(d:∃u,h'.get? e=some u)
 (f:AF X.prog X.w (upd H x o) h' x o):Inv X pins σ (upd H x o) {s with heap:=h',toks:=t'}:=I.un (Un.write a c k d) (I.hok.write a c k d f)
def Inv.pins_of{a:B'}(I:Inv X pins σ H s)(h:∀p∈a,s.heap.get? p.1=some p.2/\H p.1=none/\p.1≠X.env.locals/\p.1∉X.fs/\∀v,p.2.data≠.cell v):Inv X a σ H s:=
 ⟨I.ok,I.os,I.bare,I.base,I.loc,I.cell,I.free,I.freeC,λp b=>(BI.mp b).elim (λz=>I.pin p (GW _ z)) (h p),I.hok,I.len⟩
variable {i:Nat}{x:Str}
def Vl{N:List Str}(c:N.Nodup){j:Nat}(a:N[i]?=some x)(b:N[j]?=some x):i=j:=by
 obtain⟨f,d⟩:=Bh.mp a;obtain⟨g,e⟩:=Bh.mp b;exact(List.getElem_inj c).mp (d.trans e.symm)
def Vm{ai:Model}{A:Around}{E:G'}{v:V}{u:Value}{Q:Unit->Shared->Prop}(I:Inv X pins σ H s)(U:X.N.Nodup)(D:X.N[i]?=some x)(m:Loc X.env.scope x)(r:RelV v u)
 (h:∀Z,Inv X pins (σ.set i (some v)) H Z->(∃a,Heap.SameBut a s.heap Z.heap/\(a=X.env.locals\/X.env.cells.lookup x=some a))->Q () Z) (hf:X.fn x=true\/X.env.scope.names.lookup x=some .local:=by first|exact .inl rfl|exact .inr rfl|assumption):wpAny ai A (storeName X.env x u) Q E s:=by
 obtain⟨aj,J,W⟩:=id I.loc;have an:(X.env.scope.kind==.class || (X.env.scope.kind==.module && X.env.locals != X.env.globals))=false:=by rw[I.ok.kind];rfl
 have aa:i<σ.length:=by rw[I.len];exact(Bh.mp D).1
 have cne:=I.cne
 have ah:∀{a:Addr}{h':Heap},(∃o,s.heap.get? a=some o/\H a=none)->Heap.SameBut a s.heap h'->CT X.prog X.w H h':=λ{a h'}ha f b ob e=>by
  obtain⟨_,_,ag⟩:=ha;refine(I.hok b ob e).stay (λc F l q=>(f.2 c ?_).trans q) (λζ q=>q) λζ ζ q=>q;rintro rfl;rcases l with rfl|l;rw[ag] at e;cases e;rw[ag] at l;cases l
 rcases m with w|w;refine wpAny_storeName_local w J (λh' ak f=>?_) an;obtain⟨oL,_,_,al,_⟩:=id J;refine h _ ⟨I.ok,I.os,I.bare,⟨λb o e n B m=>?_,λb o e n B m=>?_,I.base.free,λb o e m=>?_,I.base.tups,I.base.frzs,I.base.tbls⟩,⟨_,ak,λj y K g t L=>?_⟩,λy c e=>?_,I.free,I.freeC,λp M=>?_,ah ⟨oL,al,I.free⟩ f,by simpa using I.len⟩ ⟨_,f,.inl rfl⟩;exact(f.2 b (CF (FY (Bj e) I.ok.above))).trans (I.base.keep b o e n B m);obtain⟨N,g⟩:=I.base.slot b o e n B m;exact⟨N,(f.2 b (CF (FY (Bj e) I.ok.above))).trans g⟩;obtain⟨O,g⟩:=I.base.there b o e m;exact⟨O,(f.2 b (CF (FY (Bj e) I.ok.above))).trans g⟩;by_cases C:j=i;subst C;rw[D] at g;cases g;rw[List.getElem?_set_self aa] at t;cases t;exact⟨u,r,.inl ⟨w,by simp⟩⟩;rw[List.getElem?_set_ne (Ne.symm C)] at t;obtain⟨P,R,q⟩:=W j y K g t L;refine⟨P,R,?_⟩;rcases q with⟨k,e⟩|⟨k,c,e,z⟩;refine .inl ⟨k,?_⟩;have:y≠x:=λe=>C (Vl U g (e▸D));simp[this,e];exact .inr ⟨k,c,e,z.sameBut f (cne y c e)⟩;obtain⟨F,z⟩:=I.cell y c e;exact⟨F,z.sameBut f (cne y c e)⟩;obtain⟨e,n,ne,S,d⟩:=I.pin p M;exact⟨(f.2 p.1 ne).trans e,n,ne,S,d⟩
 have T:X.fn x=true:=by
  rcases hf with z|z;exact z;rw[z] at w;cases w
 obtain⟨c,l⟩:=I.ok.has x (.inl w);obtain⟨F,z⟩:=I.cell x c l;refine wpAny_storeName_cell I.ok.kind w l z (λh' ab f=>?_);obtain⟨Y,ae,ao⟩:=id z;refine h {s with heap:=h'} ⟨I.ok,I.os,I.bare,⟨λb o e n B m=>?_,λb o e n B m=>?_,I.base.free,λb o e m=>?_,I.base.tups,I.base.frzs,I.base.tbls⟩,⟨aj,J.sameBut f (Ne.symm (cne x c l)),λj y K g t L=>?_⟩,λy G e=>?_,I.free,I.freeC,λp M=>?_,ah ⟨Y,ae,I.freeC x c l⟩ f,by simpa using I.len⟩ ⟨c,f,.inr l⟩;exact(f.2 b (CF (FY (Bj e) (I.ok.cab x c T l)))).trans (I.base.keep b o e n B m);obtain⟨N,g⟩:=I.base.slot b o e n B m;exact⟨N,(f.2 b (CF (FY (Bj e) (I.ok.cab x c T l)))).trans g⟩;obtain⟨O,g⟩:=I.base.there b o e m;exact⟨O,(f.2 b (CF (FY (Bj e) (I.ok.cab x c T l)))).trans g⟩;by_cases C:j=i;subst C;rw[D] at g;cases g;rw[List.getElem?_set_self aa] at t;cases t;exact⟨u,r,.inr ⟨.inl w,c,l,ab⟩⟩;rw[List.getElem?_set_ne (Ne.symm C)] at t;obtain⟨P,R,q⟩:=W j y K g t L;refine⟨P,R,?_⟩;rcases q with q|⟨k,G,e,z'⟩;exact .inl q;refine .inr ⟨k,G,e,z'.sameBut f ?_⟩;rintro rfl;exact C (Vl U g (I.ok.inj _ _ _ e l▸D));by_cases af:G=c;subst af;exact⟨_,ab⟩;obtain⟨w2,z2⟩:=I.cell y G e;exact⟨w2,z2.sameBut f af⟩;obtain⟨e,n,ne,S,d⟩:=I.pin p M;refine⟨(f.2 p.1 ?_).trans e,n,ne,S,d⟩;intro q;rw[q,ae] at e;have q':Y=p.2:=BJ e;exact d F (by rw[<-q'];exact ao)
def Sd{M:Model}{A:Around}{E:G'}{v:V}{u:Value}{Q:Unit->Shared->Prop}(I:Inv X pins σ H s)(a:X.N.Nodup)(b:X.N[i]?=some x)(c:Loc X.env.scope x)(r:RelV v u)
 (h:∀Z,Inv X pins (σ.set i (some v)) H Z->Q () Z) (d:X.fn x=true\/X.env.scope.names.lookup x=some .local:=by first|exact .inl rfl|exact .inr rfl|assumption):wpAny M A (storeName X.env x u) Q E s:=
 Vm I a b c r (λZ e ζ=>h Z e) d
def Inv.call'{Z:Shared}(I:Inv X pins σ H s)(a:Z.os=s.os)(u:Un (Fv X.stack) ch H H' s.heap Z.heap)(g:CT X.prog X.w H' Z.heap)(d:AllBare Z.gens)
 (h:∀b∈ch,(b∈X.ex\/X.s₀.heap.objs.size<=b)/\b≠X.env.locals/\(∀x c,X.env.cells.lookup x=some c->c≠b)/\∀p∈X.pn++pins,p.1≠b):Inv X pins σ H' Z:=by
 obtain⟨h',g',d',t',f⟩:=Z;have e:f=s.os:=a;subst e;exact I.call (g':=g') (t':=t') (d':=d') u g d h
end
abbrev XK:=Value->Option Addr->Hp->Prop
abbrev St:=List (Option V)
abbrev VK:=V->Hp->Prop
abbrev TE:=St->Hp->VK->Prop
abbrev TT:=St->Hp->(Bool->Hp->Prop)->Prop
abbrev TA:=St->Hp->(List V->Hp->Prop)->Prop
structure Ends where
 nx:St->Hp->Prop
 rt:VK
 bk:St->Hp->Prop:=λζ ζ=>False
 ct:St->Hp->Prop:=λζ ζ=>False
abbrev TS:=Ends->St->Hp->Prop
def EP (X:Cx) (pins:B') (σ:St) (Q:VK) (u:Value) (Z:Shared):Prop:=∃v H',Inv X pins σ H' Z/\RelV v u/\Q v H'
def TP (X:Cx) (pins:B') (σ:St) (Q:Bool->Hp->Prop) (b:Bool) (Z:Shared):Prop:=∃H',Inv X pins σ H' Z/\Q b H'
def AP (X:Cx) (pins:B') (σ:St) (Q:List V->Hp->Prop) (us:List Value) (Z:Shared):Prop:=∃vs H',Inv X pins σ H' Z/\Ay vs us/\Q vs H'
def SP (X:Cx) (pins:B') (D:Ends) (f:Flow) (Z:Shared):Prop:=
 match f with
 |.next=>∃σ' H',Inv X pins σ' H' Z/\D.nx σ' H'
 |.brk=>∃σ' H',Inv X pins σ' H' Z/\D.bk σ' H'
 |.cont=>∃σ' H',Inv X pins σ' H' Z/\D.ct σ' H'
 |.ret u=>∃v σ' H',Inv X pins σ' H' Z/\RelV v u/\D.rt v H'
def PE (X:Cx) (e:Expr) (t:TE):Prop:=
 ∀(pins:B')(s:Shared)(σ:St)(H:Hp)(Q:VK),Inv X pins σ H s->t σ H Q->wpAny (model X.prog X.w) X.A (eval e X.env) (EP X pins σ Q) X.xe s
def PT (X:Cx) (e:Expr) (t:TT):Prop:=
 ∀(pins:B')(s:Shared)(σ:St)(H:Hp)(Q:Bool->Hp->Prop),Inv X pins σ H s->t σ H Q->wpAny (model X.prog X.w) X.A (isTrue e X.env (eval e X.env)) (TP X pins σ Q) X.xe s
def PW (X:Cx) (e:Expr) (t:TT):Prop:=
 ∀(whole:Sem Value)(pins:B')(s:Shared)(σ:St)(H:Hp)(Q:Bool->Hp->Prop),Inv X pins σ H s->t σ H Q->wpAny (model X.prog X.w) X.A (isTrue e X.env whole) (TP X pins σ Q) X.xe s
variable {X:Cx}{e:Expr}
def PW.pt{t:TT}(h:PW X e t):PT X e t:=h _
def PA (X:Cx) (es:List Expr) (t:TA):Prop:=
 ∀(L:Pos)(pins:B')(s:Shared)(σ:St)(H:Hp)(Q:List V->Hp->Prop),Inv X pins σ H s->t σ H Q->wpAny (model X.prog X.w) X.A (spliced (backTo L (starEach es X.env))) (AP X pins σ Q) X.xe s
def PS (X:Cx) (st:Stmt) (t:TS):Prop:=
 ∀(pins:B')(s:Shared)(σ:St)(H:Hp)(D:Ends),Inv X pins σ H s->t D σ H->wpAny (model X.prog X.w) X.A (exec st X.env) (SP X pins D) X.xe s
def Gv (X:Cx) (st:List Stmt) (t:TS):Prop:=
 ∀(pins:B')(s:Shared)(σ:St)(H:Hp)(D:Ends),Inv X pins σ H s->t D σ H->wpAny (model X.prog X.w) X.A (execs st X.env) (SP X pins D) X.xe s
variable {A:Around}{E:G'}{s:Shared}
def AV{α:Type}{t:Sem α}{Q b:α->Shared->Prop}{M:Model}(h:wpAny M A t Q E s)(c:∀a s,Q a s->b a s):wpAny M A t b E s:=F1 h c λζ ζ x=>x
section
variable {X:Cx}
def mV:Option (Option V)->(V->Prop)->Prop|some (some v),q=>q v|_,_=>(λζ=>False) Nat.repr
def mB:V->(Bool->Prop)->Prop|.bl c,q=>0=0/\q c|_,_=>(λζ=>False) Nat.repr
def mI:V->(Int->Prop)->Prop|.int i,q=>q i|_,_=>(λζ=>False) Nat.repr
def IK:V->V->(Int->Int->Prop)->Prop|.int i,.int j,q=>q i j|_,_,_=>(λζ=>False) Nat.repr
def mR:V->(Addr->Prop)->Prop|.ref a,q=>q a|_,_=>(λζ=>False) Nat.repr
def mT:V->(Addr->List V->Prop)->Prop|.ref a,q=>∃xs,q a xs|_,_=>(λζ=>False) Nat.repr
def mX:V->V->(Addr->List V->Int->V->Prop)->Prop|.ref p,.int i,q=>∃xs v,q p xs i v|_,_,_=>(λζ=>False) Nat.repr
def mC:List V->(V->List V->Prop)->Prop|v::r,q=>q v r|_,_=>(λζ=>False) Nat.repr
def mN:List V->Prop->Prop|[],q=>q|_,_=>(λζ=>False) Nat.repr
def mL:List V->(V->Nat->Prop)->Prop|[x],q=>∃n,q x n|_,_=>(λζ=>False) Nat.repr
def mA:V->List V->(Addr->List V->V->Prop)->Prop|.ref l,[y],q=>∃xs,q l xs y|_,_,_=>(λζ=>False) Nat.repr
def mJ:List V->(Int->Prop)->Prop|[.int j],q=>q j|_,_=>(λζ=>False) Nat.repr
def mV.ex{o:Option (Option V)}{q:V->Prop}(h:mV o q):∃v,o=some (some v)/\q v:=by
 unfold mV at h;split at h;exact⟨_,rfl,h⟩;exact False.elim h
variable {x:V}
def mB.ex{q:Bool->Prop}(h:mB x q):∃c,x=.bl c/\q c:=by
 unfold mB at h;split at h;exact⟨_,rfl,h.2⟩;exact False.elim h
def mI.ex{q:Int->Prop}(h:mI x q):∃i,x=.int i/\q i:=by
 unfold mI at h;split at h;exact⟨_,rfl,h⟩;exact False.elim h
def IK.ex{y:V}{q:Int->Int->Prop}(h:IK x y q):∃i j,x=.int i/\y=.int j/\q i j:=by
 unfold IK at h;split at h;exact⟨_,_,rfl,rfl,h⟩;exact False.elim h
def mR.ex{q:Addr->Prop}(h:mR x q):∃a,x=.ref a/\q a:=by
 unfold mR at h;split at h;exact⟨_,rfl,h⟩;exact False.elim h
def mT.ex{q:Addr->List V->Prop}(h:mT x q):∃a xs,x=.ref a/\q a xs:=by
 unfold mT at h;split at h;exact⟨_,h.choose,rfl,h.choose_spec⟩;exact False.elim h
def mX.ex{y:V}{q:Addr->List V->Int->V->Prop}(h:mX x y q):∃p xs i v,x=.ref p/\y=.int i/\q p xs i v:=by
 unfold mX at h;split at h;obtain⟨xs,v,h⟩:=h;exact⟨_,xs,_,v,rfl,rfl,h⟩;exact False.elim h
variable {vs:List V}
def mC.ex{q:V->List V->Prop}(h:mC vs q):∃v r,vs=v::r/\q v r:=by
 unfold mC at h;split at h;exact⟨_,_,rfl,h⟩;exact False.elim h
def mN.ex{q:Prop}(h:mN vs q):vs=[]/\q:=by
 unfold mN at h;split at h;exact⟨rfl,h⟩;exact False.elim h
def mL.ex{q:V->Nat->Prop}(h:mL vs q):∃x n,vs=[x]/\q x n:=by
 unfold mL at h;split at h;exact⟨_,h.choose,rfl,h.choose_spec⟩;exact False.elim h
def mA.ex{q:Addr->List V->V->Prop}(h:mA x vs q):∃l xs y,x=.ref l/\vs=[y]/\q l xs y:=by
 unfold mA at h;split at h;exact⟨_,h.choose,_,rfl,rfl,h.choose_spec⟩;exact False.elim h
def mJ.ex{q:Int->Prop}(h:mJ vs q):∃j,vs=[.int j]/\q j:=by
 unfold mJ at h;split at h;exact⟨_,rfl,h⟩;exact False.elim h
def Cs (i:Nat):TE:=λσ H Q=>mV σ[i]? λv=>Q v H
def tC (v:V):TE:=λζ H Q=>Q v H
variable {L:Pos}
def Lj{i:Nat}{x:Str}(g:X.N[i]?=some x)(hv:Pu X.env.scope x)(hd:(x==("__debug__" : Str))=false:=by decide)(o:(x==("__classdict__" : Str))=false:=by decide):PE X (.Name x L) (Cs i):=by
 intro p s σ H Q I h
 replace h:=mV.ex h
 obtain⟨v,e,h⟩:=h;obtain⟨m,j,k⟩:=I.loc;obtain⟨u,r,l⟩:=k i x v g e hv;have b:EP X p σ Q u s:=⟨v,H,I,r,h⟩;rcases l with⟨a,n⟩|⟨a,c,d,f⟩;exact wpAny_Name (wpAny_loadName_local I.ok.kind a j n b) hd;rcases a with a|a;exact wpAny_Name (wpAny_loadName_cell I.ok.kind a d f b) hd;exact wpAny_Name (wpAny_loadName_free I.ok.kind a d f b o) hd
def Ah{i j L}:PE X (.Constant (.int i) j L) (tC (.int i)):=λζ ζ ζ H ζ I h=>wpAny_Constant_int ⟨.int i,H,I.tok _,⟨_,rfl⟩,h⟩
def G3{b j L}:PE X (.Constant (.bool b) j L) (tC (.bl b)):=λζ ζ ζ H ζ I h=>Constant_bool ⟨.bl b,H,I,rfl,h⟩
def GH{j L}:PE X (.Constant .none j L) (tC .non):=λζ ζ ζ H ζ I h=>Constant_none ⟨.non,H,I,rfl,h⟩
def Bb{x j L}:PE X (.Constant (.str x) j L) (tC (.str x)):=λζ ζ ζ H ζ I h=>Calls.Constant_str ⟨.str x,H,I.tok _,⟨_,rfl⟩,h⟩
def Gl (X:Cx) (x:Str):Prop:=X.env.kindOf x=some .globalImplicit
def Vn{pins:B'}{σ:St}{x:Str}{u:Value}{Q:G'}(I:Inv X pins σ H s)(a:Gl X x)(b:X.mg x=some u)(h:Q u s)
 (hd:(x==("__debug__" : Str))=false:=by decide):wpAny (model X.prog X.w) X.A (eval (.Name x L) X.env) Q E s:=
 Calls.Name_function_global I.ok.kind a (Calls.loadGlobal_global (by rw[I.ok.glob];exact I.mod.glob.keeps I.bk) b h) hd
def Jf{pins:B'}{σ:St}{x:Str}{u:Value}{Q:G'}(I:Inv X pins σ H s)(a:Gl X x)(b:X.mg x=none)(hv:bootBuiltins x=some u)(h:Q u s)
 (c:x ≠ "__name__" :=by decide) (hd:(x==("__debug__" : Str))=false:=by decide):wpAny (model X.prog X.w) X.A (eval (.Name x L) X.env) Q E s:=by
 obtain⟨f,d,e⟩:=I.mod.blt;exact Calls.Name_function_global I.ok.kind a (Calls.loadGlobal_builtin (by rw[I.ok.glob];exact I.mod.glob.keeps I.bk) b (by rw[I.ok.blt];exact d.keeps I.bk) ((e x c).trans hv) h) hd
def Jg{x:Str}{v:V}{u:Value}(a:Gl X x)(b:X.mg x=some u)(r:RelV v u)(hd:(x==("__debug__" : Str))=false:=by decide):PE X (.Name x L) (tC v):=
 λζ ζ ζ H ζ I h=>Vn I a b ⟨v,H,I,r,h⟩ hd
def Jh{x:Str}{v:V}{u:Value}(a:Gl X x)(b:X.mg x=none)(hv:bootBuiltins x=some u)(r:RelV v u)(c:x ≠ "__name__" :=by decide)(hd:(x==("__debug__" : Str))=false:=by decide):PE X (.Name x L) (tC v):=
 λζ ζ ζ H ζ I h=>Jf I a b hv ⟨v,H,I,r,h⟩ c hd
variable {a b:Expr} {ta tb:TE} {L:Pos}
def PC (X:Cx) (op:CmpOp) (a b:Expr) (t:TE):Prop:=
 ∀(pins:B')(s:Shared)(σ:St)(H:Hp)(Q:VK),Inv X pins σ H s->t σ H Q ->
  wpAny (model X.prog X.w) X.A (eval a X.env) (λv s₁=>wpAny (model X.prog X.w) X.A (eval b X.env) (λu s₂=>wpAny (model X.prog X.w) X.A (compareOp op v u) (EP X pins σ Q) X.xe s₂) X.xe s₁) X.xe s
variable {op:CmpOp}
def Vo(b:Expr)(h:op≠.In)(a:op≠.NotIn):behindInMarks op b=false:=by
 have c:(op==CmpOp.In)=false:=by cases op<;>first|rfl|exact absurd rfl h
 have d:(op==CmpOp.NotIn)=false:=by cases op<;>first|rfl|exact absurd rfl a
 cases b<;>simp[behindInMarks,c,d]
def Se (ta:TE):TE:=λσ H Q=>ta σ H λx U=>Q (.bl (decide (x=.non))) U
def NG (ta:TE):TE:=λσ H Q=>ta σ H λx U=>Q (.bl (!decide (x=.non))) U
def RelV.none_iff{v:Value}(r:RelV x v):(v==Value.none)=decide (x=.non):=by
 cases x with
 |non=>cases r;rfl
 |bl _=>cases r;rfl
 |int _=>obtain⟨t,rfl⟩:=r;rfl
 |str _=>obtain⟨t,rfl⟩:=r;rfl
 |byt _=>obtain⟨t,rfl⟩:=r;rfl
 |flt _=>obtain⟨t,rfl⟩:=r;rfl
 |ref _=>cases r;rfl
 |ty _=>cases r;rfl
def G4{j t}(b:PE X a ta):PC X .Is a (.Constant .none j t) (Se ta):=by
 intro f s σ H Q I h;refine AV (b f s σ H _ I h) λv g⟨x,U,c,d,e⟩=>?_;exact Constant_none (is_none_gen ⟨.bl _,U,c,by rw[d.none_iff];rfl,e⟩)
def NH{j t}(b:PE X a ta):PC X .IsNot a (.Constant .none j t) (NG ta):=by
 intro f s σ H Q I h;refine AV (b f s σ H _ I h) λv g⟨x,U,c,d,e⟩=>?_;exact Constant_none (isnot_none_gen ⟨.bl _,U,c,by rw[d.none_iff];rfl,e⟩)
def tB (t:TE):TT:=λσ H Q=>t σ H λx U=>mB x λc=>Q c U
def Hx{t:TE}(h:PC X op a b t)(c:behindInMarks op b=false:=by first|exact Vo _ (by decide) (by decide)|rfl):PE X (.Compare a [op] [b] L) t:=λe s σ H Q I d=>wpAny_Compare1 (h e s σ H Q I d) c
def Gj{t:TE}(h:PC X op a b t)(e:behindInMarks op b=false:=by first|exact Vo _ (by decide) (by decide)|rfl):PT X (.Compare a [op] [b] L) (tB t):=by
 intro l s σ H Q I g;refine wpAny_isTrue_Compare1 (AV (h l s σ H _ I g) λv m e=>AV e λu n i=>AV i λc o⟨x,U,j,k,f⟩=>?_) e
 replace f:=mB.ex f
 obtain⟨d,rfl,q⟩:=f;cases k;exact Gi ⟨U,j,q⟩
def Gk{t:TE}(h:PE X e t)(b:∀whole,isTrue e X.env whole=(do let v <-whole;standAt e.pos;holding [v] (truthy v)):=by intro _;rfl):PT X e (tB t):=by
 intro i s σ H Q I c;refine isTrue_plain (AV (h i s σ H _ I c) λv j⟨x,U,f,g,a⟩=>?_) (b _)
 replace a:=mB.ex a
 obtain⟨d,rfl,q⟩:=a;cases g;exact Gi ⟨U,f,q⟩
variable {g tB':TT} {j:List Expr}
def Sf (t u:TT):TT:=λσ H Q=>t σ H λc U=>if c=true then u σ U Q else Q false U
def Ye (t u:TT):TT:=λσ H Q=>t σ H λc U=>if c=true then Q true U else u σ U Q
def NI (t:TT):TT:=λσ H Q=>t σ H λc U=>Q (!c) U
def Gw(b:PT X a g):PW X (.BoolOp .And [a] L) g:=by
 intro f d s σ H Q I h;refine isTrue_and (AV (b d s σ H Q I h) λc i e=>?_)
 cases c with
 |true=>exact isTrue_and_nil e
 |false=>exact e
def Sg(b:PT X a g):PW X (.BoolOp .Or [a] L) g:=by
 intro f d s σ H Q I h;refine isTrue_or (AV (b d s σ H Q I h) λc i e=>?_)
 cases c with
 |false=>exact isTrue_or_nil e
 |true=>exact e
def Gx(i:PT X a g)(k:PW X (.BoolOp .And (b::j) L) tB'):PW X (.BoolOp .And (a::b::j) L) (Sf g tB'):=by
 intro l f s σ H Q I h;refine isTrue_and (AV (i f s σ H _ I h) λc m⟨U,d,e⟩=>?_)
 cases c with
 |true=>exact k l f m σ U Q d e
 |false=>exact⟨U,d,e⟩
def Pw(i:PT X a g)(k:PW X (.BoolOp .Or (b::j) L) tB'):PW X (.BoolOp .Or (a::b::j) L) (Ye g tB'):=by
 intro l f s σ H Q I h;refine isTrue_or (AV (i f s σ H _ I h) λc m⟨U,d,e⟩=>?_)
 cases c with
 |true=>exact⟨U,d,e⟩
 |false=>exact k l f m σ U Q d e
def KG(b:PT X a g):PT X (.UnaryOp .Not a L) (NI g):=by
 intro d s σ H Q I h;exact isTrue_not (b d s σ H (λc U=>Q (!c) U) I h)
def NJ (ta tb:TE):TE:=λσ H Q=>ta σ H λx U=>∃c,x=.bl c/\if c=true then tb σ U Q else Q (.bl false) U
def NK (ta:TE):TE:=λσ H Q=>ta σ H λx U=>∃c,x=.bl c/\Q (.bl (!c)) U
def Sh{op}{t:TE}(h:PE X a t):PE X (.BoolOp op [a] L) t:=λc s σ H Q I b=>BoolOp_one (h c s σ H Q I b)
def Px(g:PE X a ta)(i:PE X (.BoolOp .And (b::j) L) tb):PE X (.BoolOp .And (a::b::j) L) (NJ ta tb):=by
 intro f s σ H Q I h;refine BoolOp_and (AV (g f s σ H _ I h) λv k⟨x,U,e,l,d⟩=>?_);obtain⟨c,rfl,d⟩:=d;cases l;refine Gi ?_
 cases c with
 |true=>exact i f k σ U Q e d
 |false=>exact⟨.bl false,U,e,rfl,d⟩
def Ll(d:PE X a ta):PE X (.UnaryOp .Not a L) (NK ta):=by
 intro g s σ H Q I h;refine UnaryOp_ (AV (d g s σ H _ I h) λv i⟨x,U,e,f,b⟩=>?_);obtain⟨c,rfl,b⟩:=b;cases f;exact not_of (Gi ⟨.bl (!c),U,e,rfl,b⟩)
end
def Af (K:Aj) (H:Hp) (a:Addr) (xs:List V):Prop:=
 Rd H a (.lst xs) \/
  ∃(o:Obj)(its:Array Value)(n:Nat),K.lookup a=some o/\o.cls=.type "list" /\ o.dict=none/\o.data=.seq its n/\its.size<=sizeLine/\Ay xs its.toList
def Al (K:Aj) (H:Hp) (a:Addr) (xs:List V):Prop:=
 Rd H a (.tup xs) \/
  ∃(o:Obj)(its:Array Value)(n:Nat),K.lookup a=some o/\o.cls=.type "tuple" /\ o.data=.seq its n/\its.size<=sizeLine/\Ay xs its.toList
def Si:Value->Option V
 |.none=>some .non
 |.bool b=>some (.bl b)
 |.int i _=>some (.int i)
 |.str x _=>some (.str x)
 |.bytes b _=>some (.byt b)
 |.float b _=>some (.flt b)
 |.ref a=>some (.ref a)
 |.type n=>some (.ty n)
 |_=>none
variable {x:V}
def RelV.abs{u:Value}(r:RelV x u):Si u=some x:=by
 cases x with
 |non=>cases r;rfl
 |bl _=>cases r;rfl
 |int _=>obtain⟨t,rfl⟩:=r;rfl
 |str _=>obtain⟨t,rfl⟩:=r;rfl
 |byt _=>obtain⟨t,rfl⟩:=r;rfl
 |flt _=>obtain⟨t,rfl⟩:=r;rfl
 |ref _=>cases r;rfl
 |ty _=>cases r;rfl
def RelV.inj{y:V}{u:Value}(r:RelV x u)(q:RelV y u):x=y:=BJ (r.abs.symm.trans q.abs)
theorem Ay.inj:∀{xs ys:List V}{a:List Value},Ay xs a->Ay ys a->xs=ys
 |_,_,_,.nil,.nil=>rfl
 |_,_,_,.cons r t,.cons b t'=>by rw[r.inj b,Ay.inj t t']
section
variable {X:Cx} {pins:B'} {σ:St} {H:Hp} {s:Shared} {a:Addr} {xs ys:List V}
def Af.of{K:Aj}(h:H a=some (.lst xs)):Af K H a xs:=.inl (.inl h)
def Al.of{K:Aj}(h:H a=some (.tup xs)):Al K H a xs:=.inl (.inl h)
def Inv.list(I:Inv X pins σ H s)(h:Af X.K H a xs):∃b:List Value,Ay xs b/\PlainL s.heap a b.toArray/\xs.length<=sizeLine:=by
 rcases h with h|⟨o,b,n,c,d,hd,f,g,r⟩;obtain⟨z,b,n,r,e⟩:=h.ok I.hok;exact⟨b,r,⟨_,n,e,rfl,rfl,rfl⟩,z⟩;refine⟨b.toList,r,⟨o,n,I.kIn a o c,d,hd,by simpa using f⟩,?_⟩;have e:=r.length;simp only[Array.length_toList] at e;lia
def Inv.tuple(I:Inv X pins σ H s)(h:Al X.K H a xs):∃b:List Value,Ay xs b/\IsTup s.heap a b.toArray/\xs.length<=sizeLine:=by
 rcases h with h|⟨o,b,n,c,d,f,g,r⟩;obtain⟨z,b,r,p⟩:=h.ok I.hok;exact⟨b,r,p,z⟩;refine⟨b.toList,r,⟨o,I.kIn a o c,d,n,by simpa using f⟩,?_⟩;have e:=r.length;simp only[Array.length_toList] at e;lia
def Inv.list_inj(I:Inv X pins σ H s)(h:Af X.K H a xs)(h':Af X.K H a ys):xs=ys:=by
 obtain⟨i,r,⟨o,n,e,_,_,d⟩,_⟩:=I.list h;obtain⟨j,f,⟨k,l,b,_,_,c⟩,_⟩:=I.list h';rw[e] at b;cases b;rw[d] at c;injection c with g _;have:i=j:=(by simpa using BB Array.toList g);subst this;exact r.inj f
def Inv.tuple_inj(I:Inv X pins σ H s)(h:Al X.K H a xs)(h':Al X.K H a ys):xs=ys:=by
 obtain⟨i,r,⟨o,e,_,n,d⟩,_⟩:=I.tuple h;obtain⟨j,f,⟨k,b,_,l,c⟩,_⟩:=I.tuple h';rw[e] at b;cases b;rw[d] at c;injection c with g _;have:i=j:=(by simpa using BB Array.toList g);subst this;exact r.inj f
end
abbrev Cx.wish (X:Cx) (E:G'):Cx:={X with xe:=E}
abbrev Cx.nox (X:Cx):Cx:=X.wish λζ ζ=>False
def Cx.Ok.wish{X:Cx}(ok:X.Ok)(E:G'):(X.wish E).Ok:=
 ⟨ok.mod,ok.kind,ok.glob,ok.blt,ok.above,ok.inj,ok.has,ok.cab,ok.hd,ok.frames,ok.stk,ok.exf,ok.bs,ok.bsz,ok.noex,ok.exfs,ok.funs,ok.frf⟩
def Cx.Ok.unwish(ok:(X.wish E).Ok):X.Ok:=
 ⟨ok.mod,ok.kind,ok.glob,ok.blt,ok.above,ok.inj,ok.has,ok.cab,ok.hd,ok.frames,ok.stk,ok.exf,ok.bs,ok.bsz,ok.noex,ok.exfs,ok.funs,ok.frf⟩
section
variable {X:Cx} {pins:B'} {σ:St} {H:Hp} {s:Shared} {E:G'}
def Inv.wish(I:Inv X pins σ H s)(E:G'):Inv (X.wish E) pins σ H s:=⟨I.ok.wish E,I.os,I.bare,I.base,I.loc,I.cell,I.free,I.freeC,I.pin,I.hok,I.len⟩
def Inv.unwish(I:Inv (X.wish E) pins σ H s):Inv X pins σ H s:=⟨I.ok.unwish,I.os,I.bare,I.base,I.loc,I.cell,I.free,I.freeC,I.pin,I.hok,I.len⟩
def SP.unwish{D:Ends}{f:Flow}{Z:Shared}(h:SP (X.wish E) pins D f Z):SP X pins D f Z:=by
 cases f with
 |next=>obtain⟨σ',a,I,q⟩:=h;exact⟨σ',a,I.unwish,q⟩
 |brk=>obtain⟨σ',a,I,q⟩:=h;exact⟨σ',a,I.unwish,q⟩
 |cont=>obtain⟨σ',a,I,q⟩:=h;exact⟨σ',a,I.unwish,q⟩
 |ret u=>obtain⟨v,σ',a,I,r,q⟩:=h;exact⟨v,σ',a,I.unwish,r,q⟩
def Gv.nox{st:List Stmt}{t:TS}(h:Gv X.nox st t):Gv X st t:=λpins s σ H D I a =>
 F1 (h pins s σ H D (I.wish _) a) (λζ ζ q=>q.unwish) λζ ζ z=>False.elim z
end
section
variable {X:Cx} {st:Stmt} {j:List Stmt} {t u:TS} {e:Expr} {te:TE} {L:Pos}
def NL:TS:=λD σ H=>D.nx σ H
def Lm (t u:TS):TS:=λD σ H=>(λζ=>t {D with nx:=u D} σ H) Nat.repr
def A4:Gv X [] NL:=λζ ζ σ H ζ I h=>wpAny_execs_nil ⟨σ,H,I,h⟩
def Am(b:PS X st t)(c:Gv X j u):Gv X (st::j) (Lm t u):=by
 intro a s σ H D I h;refine wpAny_execs_cons (AV (b a s σ H {D with nx:=u D} I h) λf d q=>?_)
 cases f with
 |next =>
   obtain⟨σ',e,g,q⟩:=q;exact c a d σ' e D g q
 |ret v=>exact q
 |brk=>exact q
 |cont=>exact q
def Au(a:PS X st t):Gv X [st] t:=by
 intro b s σ H D I h;refine wpAny_execs_cons (AV (a b s σ H D I h) λf c q=>?_)
 cases f with
 |next=>exact wpAny_execs_nil q
 |ret v=>exact q
 |brk=>exact q
 |cont=>exact q
def Inv.quiet{pins:B'}{σ:St}(I:Inv X pins σ H s):interactive X.env=false:=by simp[interactive,I.ok.kind]
def NM (te:TE):TS:=λD σ H=>te σ H λζ U=>D.nx σ U
def Dp(a:PE X e te)(b:swapsWith e none L.line X.env=pure false:=by rfl):PS X (.Expr e L) (NM te):=by
 intro f s σ H D I h;exact wpAny_Expr_any (AV (a f s σ H _ I h) λv g⟨x,U,c,i,d⟩=>⟨σ,U,c,d⟩) I.quiet b
def Sj (te:TE):TS:=λD σ H=>te σ H D.rt
def AH(a:PE X e te):PS X (.Return (some e) L) (Sj te):=by
 intro f s σ H D I h;exact wpAny_Return_some (AV (a f s σ H _ I h) λv g⟨x,U,b,c,d⟩=>⟨x,σ,U,b,c,d⟩)
def Sk (c:TT) (t u:TS):TS:=λD σ H=>c σ H λb U=>if b=true then t D σ U else u D σ U
def A5{c:Expr}{a b:List Stmt}{tc:TT}(j:PT X c tc)(k:Gv X a t)(l:Gv X b u):PS X (.If c a b L) (Sk tc t u):=by
 intro e s σ H D I h;refine wpAny_If (AV (j e s σ H _ I h) λd f⟨U,g,i⟩=>?_)
 cases d with
 |true=>exact k e f σ U D g i
 |false=>exact l e f σ U D g i
def Ln:TS:=λζ ζ ζ=>False
def Yg:PS X st Ln:=λζ ζ ζ ζ ζ ζ h=>h.elim
end
abbrev TG:=V->St->Hp->(St->Hp->Prop)->Prop
abbrev Lo:=List V->St->Hp->(St->Hp->Prop)->Prop
def PG (X:Cx) (target:Expr) (t:TG):Prop:=
 ∀(pins:B')(s:Shared)(σ:St)(H:Hp)(v:V)(u:Value)(Q:St->Hp->Prop),Inv X pins σ H s->RelV v u->t v σ H Q ->
  wpAny (model X.prog X.w) X.A (assign target X.env u) (λζ Z=>∃σ' H',Inv X pins σ' H' Z/\Q σ' H') X.xe s
def NN (X:Cx) (ts:List Expr) (t:Lo):Prop:=
 ∀(pins:B')(s:Shared)(σ:St)(H:Hp)(vs:List V)(us:List Value)(Q:St->Hp->Prop),Inv X pins σ H s->Ay vs us->t vs σ H Q ->
  wpAny (model X.prog X.w) X.A (assignInOrder ((assignEach ts X.env).map (·.2)) us) (λζ Z=>∃σ' H',Inv X pins σ' H' Z/\Q σ' H') X.xe s
abbrev Lp:=V->V->V->Hp->(Hp->Prop)->Prop
def Ji (X:Cx) (t:Lp):Prop:=
 ∀(pins:B')(s:Shared)(σ:St)(H:Hp)(o i v:V)(ov iv u:Value)(Q:Hp->Prop),Inv X pins σ H s->RelV o ov->RelV i iv->RelV v u->t o i v H Q ->
  wpAny (model X.prog X.w) X.A (setItem ov iv u) (λζ Z=>∃H',Inv X pins σ H' Z/\Q H') X.xe s
abbrev Sl:=V->V->Hp->VK->Prop
def Yh (X:Cx) (op:Operator) (t:Sl):Prop:=
 ∀(pins:B')(s:Shared)(σ:St)(H:Hp)(x y:V)(v u:Value)(Q:VK),Inv X pins σ H s->RelV x v->RelV y u->t x y H Q ->
  wpAny (model X.prog X.w) X.A (inplaceOp op v u) (EP X pins σ Q) X.xe s
section
variable {X:Cx} {L:Pos}
def M1 (i:Nat):TG:=λv σ H Q=>Q (σ.set i (some v)) H
variable {i:Nat}
def Aw{x:Str}(a:X.N.Nodup)(b:X.N[i]?=some x:=by rfl)(c:Loc X.env.scope x:=by first|exact .inl rfl|exact .inr rfl)(d:X.fn x=true\/X.env.scope.names.lookup x=some .local:=by first|exact .inl rfl|exact .inr rfl|assumption):PG X (.Name x L) (M1 i):=by
 intro f s σ H v u Q I r h;exact wpAny_assign_Name (Sd I a b c r (λZ e=>⟨_,H,e,h⟩) d)
def Sm:Lo:=λvs σ H Q=>mN vs (Q σ H)
def NO (t:TG) (u:Lo):Lo:=λvs σ H Q=>mC vs λv r=>t v σ H λσ' H'=>u r σ' H' Q
def BS:NN X [] Sm:=by
 intro c s σ H a b Q I r h
 replace h:=mN.ex h
 obtain⟨e,h⟩:=h;subst e;cases r;exact assignInOrder_nil ⟨σ,H,I,h⟩
def AD{es:List Expr}{t:TG}{u:Lo}(b:PG X e t)(c:NN X es u)
 (d:(assignEach (e::es) X.env).map (·.2)=assign e X.env::(assignEach es X.env).map (·.2):=by rfl):NN X (e::es) (NO t u):=by
 intro a s σ H l m Q I r h
 replace h:=mC.ex h
 obtain⟨v,n,f,h⟩:=h;subst f
 cases r with
 |cons r g =>
   rw[d];refine assignInOrder_cons (AV (b a s σ H _ _ _ I r h) λ_ i⟨σ1,U,j,k⟩=>?_);exact c a i σ1 U _ _ Q j g k
def So (K:Aj) (n:Nat) (t:Lo):TG:=λv σ H Q=>mT v λa xs=>Al K H a xs/\xs.length=n/\t xs σ H Q
def BU{es:List Expr}{k:Nat}{t:Lo}{n:Nat}(g:X.calm=true)(h:NN X es t)
 (i:(assignEach es X.env).length=n:=by rfl) (z:(assignEach es X.env).findIdx? (·.1)=none:=by rfl):PG X (.Tuple es k L) (So X.K n t):=by
 intro f s σ H v u Q I r c
 replace c:=mT.ex c
 obtain⟨a,j,l,m,p,c⟩:=c;subst l;cases r;obtain⟨B,d,q,A⟩:=I.tuple m;refine assign_Tuple_tuple (I.ok.hd g) q (by simp[i,<-p,d.length]) z λw x=>?_;have y:Inv X f σ H {s with heap:=w}:=I.kept (t':=s.toks) λb o e=>x b o (CF (Bj e)) e;exact h f _ σ H j _ Q y (by simpa using d) c
def Sq (g ti:TE) (t:Lp):TG:=λv σ H Q=>g σ H λo U=>ti σ U λi Y=>t o i v Y λH3=>Q σ H3
def Hy{o i:Expr}{g d:TE}{t:Lp}(e:PE X o g)(f:PE X i d)(j:Ji X t)
 (k:∀v,assign (.Subscript o i L) X.env v=(do
  let a <-holding [v] (eval o X.env)
  let b <-holding [v,a] (eval i X.env)
  standAt L
  holding [v,a,b] (setItem a b v)
  release [v,a,b] []):=by intro _;rfl):PG X (.Subscript o i L) (Sq g d t):=by
 intro c s σ H v u Q I r h;rw[k];refine Ag (FZ (AV (e c s σ H _ I h) λa l⟨x,U,m,n,p⟩=>?_));refine Ag (FZ (AV (f c l σ U _ m p) λb q⟨y,Y,w,z,A⟩=>?_));refine Ag (wpAny_standAt (Ag (FZ (AV (j c q σ Y x y v a b u _ w n z r A) λ_ E⟨B,C,D⟩=>?_))));exact wpAny_release ⟨σ,B,C,D⟩
def Jj (te:TE) (g:TG):TS:=λD σ H=>(λζ=>te σ H λx U=>g x σ U D.nx) Nat.repr
variable {te:TE}
def D9{a:Expr}{g:TG}(c:PE X e te)(d:PG X a g)(f:swapsWithSole [a] e L.line X.env=pure false:=by rfl)(i:swappedStores [a] e X.env=pure none:=by rfl)
 (j:(assignEach [a] X.env).map (·.2)=[assign a X.env]:=by rfl):PS X (.Assign [a] e L) (Jj te g):=by
 intro b s σ H D I h;refine wpAny_Assign_stores (AV (c b s σ H _ I h) λv k⟨x,U,l,m,n⟩=>?_) f i;rw[j];exact AV (d b k σ U x v _ l m n) λζ o q=>q
def AK{x:Str}{t:Pos}(a:X.N.Nodup)(b:PE X e te)(c:X.N[i]?=some x:=by rfl)(d:Loc X.env.scope x:=by first|exact .inl rfl|exact .inr rfl)(f:swapsWith e (some (.Name x t)) L.line X.env=pure false:=by rfl)(g:X.fn x=true\/X.env.scope.names.lookup x=some .local:=by first|exact .inl rfl|exact .inr rfl|assumption) :
 PS X (.Assign [.Name x t] e L) (Jj te (M1 i)):=by
 intro n s σ H D I h;refine wpAny_Assign_Name (AV (b n s σ H _ I h) λv o⟨y,U,j,k,l⟩=>?_) f;exact Sd j a c d k (λp m=>⟨_,U,m,l⟩) g
def NP (i:Nat) (te:TE) (ti:Sl):TS:=λD σ H=>∃x,σ[i]?=some (some x)/\te σ H λy U=>ti x y U λz Y=>D.nx (σ.set i (some z)) Y
def Lq{x:Str}{op:Operator}{f:Sl}{t:Pos}(j:X.N.Nodup)(g:X.N[i]?=some x)(b:Loc X.env.scope x)(n:PE X e te)(o:Yh X op f)(p:X.fn x=true\/X.env.scope.names.lookup x=some .local:=by first|exact .inl rfl|exact .inr rfl|assumption) :
 PS X (.AugAssign (.Name x t) op e L) (NP i te f):=by
 intro d s σ H D I h;obtain⟨v,q,h⟩:=h;obtain⟨m,A,B⟩:=I.loc;have S:Pu X.env.scope x:=by rcases b with k|k;exact .inl k;exact .inr (.inl k)
 obtain⟨u,r,l⟩:=B i x v g q S;refine wpAny_AugAssign_Name ?_
 have go:wpAny (model X.prog X.w) X.A (eval e X.env) (λw C=>wpAny (model X.prog X.w) X.A (inplaceOp op u w) (λr E=>wpAny (model X.prog X.w) X.A (storeName X.env x r) (λζ=>SP X d D .next) X.xe E) X.xe C) X.xe s:=by
  refine AV (n d s σ H _ I h) λw F⟨y,U,G,J,K⟩=>?_;refine AV (o d F σ U v y u w _ G r J K) λz V⟨W,Y,M,N,O⟩=>?_;exact Sd M j g b N (λZ P=>⟨_,Y,P,O⟩) p
 rcases l with⟨a,Q⟩|⟨a,c,R,T⟩;exact wpAny_loadName_local I.ok.kind a A Q go;rcases a with a|a;exact wpAny_loadName_cell I.ok.kind a R T go;rcases b with k|k;have:X.env.scope.names.lookup x=some .free:=a;rw[k] at this;cases this;have:X.env.scope.names.lookup x=some .free:=a;rw[k] at this;cases this
end
section
variable {X:Cx} {L:Pos}
def Lr (c:TT) (tb:TS):TS:=λD σ H=>∃W:Nat->St->Hp->Prop,(∃m,W m σ H)/\∀m σ H,W m σ H ->
 c σ H λb U=>if b=true then ∃N:St->Hp->Prop,(∀σ' H',N σ' H'->∃m',m'<m/\W m' σ' H')/\tb {D with nx:=N,ct:=N,bk:=D.nx} σ U else D.nx σ U
def Yi{c:Expr}{body:List Stmt}{tc:TT}{tb:TS}(o:PassesOwn (model X.prog X.w) X.A X.env X.xe)(t:PT X c tc)(u:Gv X body tb):PS X (.While c body [] L) (Lr tc tb):=by
 intro m s σ H D I h;obtain⟨W,⟨w,x⟩,turn⟩:=h;refine wpAny_While (codeAny_whileLoop (λn Z=>∃σ' p,Inv X m σ' p Z/\W n σ' p) ?_ w ⟨σ,H,I,x⟩);rintro n y ⟨σ1,U,z,A⟩;refine wpAny_passesOwn o (AV (t m y σ1 U _ z (turn n σ1 U A)) λb B⟨Y,q,d⟩=>?_)
 cases b with
 |true =>
   obtain⟨N,r,d⟩:=d;rw[Ar rfl];refine wpAny_passesOwn o (AV (u m B σ1 Y _ q d) λf C e=>?_)
   cases f with
   |next =>
     obtain⟨σ3,a,g,i⟩:=e;obtain⟨j,k,l⟩:=r σ3 a i;exact⟨j,k,σ3,a,g,l⟩
   |cont =>
     obtain⟨σ3,a,g,i⟩:=e;obtain⟨j,k,l⟩:=r σ3 a i;exact⟨j,k,σ3,a,g,l⟩
   |brk=>exact e
   |ret v=>exact e
 |false =>
   rw[Ao CS];exact wpAny_execs_nil ⟨σ1,Y,q,d⟩
end
structure It where
 go:Nat->Hp->Prop
 yld:Nat->Hp->V->Hp->Prop
 stop:Nat->Hp->Prop
def Dq (X:Cx) (pins:B') (H:Hp) (b:Addr):Prop:=
 H b=none/\b≠X.env.locals/\b∉X.fs/\(b∈X.ex\/X.s₀.heap.objs.size<=b)/\(∀x c,X.env.cells.lookup x=some c->c≠b)/\∀p∈X.pn++pins,p.1≠b
variable {pins:B'}{σ:St}
def Inv.fpOk{H':Hp}(I:Inv X pins σ H s)(a:s.heap.objs.size<=b)(d:H' b=none):Dq X pins H' b:=by
 refine⟨d,Nat.ne_of_gt (FY I.lt a),I.nofs a,.inr (EN I.sz a),λx c e z=>?_,λp f z=>?_⟩;obtain⟨v,q⟩:=I.cell x c e;exact absurd (FY q.lt (by rw[z];exact a)) (GY _);exact absurd (FY (Bj (I.pin p f).1) (by rw[z];exact a)) (GY _)
structure FN (P:Program) (w:World) (K:Aj) (tg:Expr) (J:It) (fp:List Addr) (it:Addr) (tn:Nat->Heap->Prop):Prop where
 mem:it∈fp
 obj:∀i h,tn i h->∀b∈fp,∃o,h.get? b=some o/\∀v,o.data≠.cell v
 keep:∀i h h',tn i h->(∀b∈fp,∀o,h.get? b=some o->h'.get? b=some o)->tn i h'
 item:∀(X:Cx),X.prog=P->X.w=w->X.K=K->X.calm=true->∀(i:Nat)(pins:B')(s:Shared)(σ:St)(H:Hp)(E:G'),Inv X pins σ H s->(∀b∈fp,Dq X pins H b)->tn i s.heap->J.go i H ->
  wpAny (model P w) X.A (pyNext (.ref it)) (λr s1=>∃u,r=some u /\
   wpAny (model P w) X.A (letOwnedTupleGo tg (.ref it) u) (λζ s2=>∃x H',Inv X pins σ H' s2/\RelV x u/\J.yld i H x H'/\tn (i+1) s2.heap/\∀b∈fp,H' b=none) E s1) E s
 done:∀(X:Cx),X.prog=P->X.w=w->X.K=K->X.calm=true->∀(i:Nat)(pins:B')(s:Shared)(σ:St)(H:Hp)(E:G'),Inv X pins σ H s->(∀b∈fp,Dq X pins H b)->tn i s.heap->J.stop i H ->
  wpAny (model P w) X.A (pyNext (.ref it)) (λr s1=>r=none/\Inv X pins σ H s1) E s
 self:∀(A:Around)(i:Nat)(s:Shared)(Q:G')(E:G'),tn i s.heap->Q (.ref it) s->wpAny (model P w) A (pyIter (.ref it)) Q E s
abbrev TI:=St->Hp->(It->Hp->Prop)->Prop
def Sr (X:Cx) (pins:B') (σ:St) (tg:Expr) (R:It->Hp->Prop) (itv:Value) (s2:Shared):Prop:=
 ∃(it:Addr)(fp:List Addr)(tn:Nat->Heap->Prop)(J:It)(H':Hp),itv=.ref it/\Inv X pins σ H' s2/\FN X.prog X.w X.K tg J fp it tn/\tn 0 s2.heap/\(∀b∈fp,Dq X pins H' b)/\R J H'
def PI (X:Cx) (tg j:Expr) (wi:TI):Prop:=
 ∀(pins:B')(s:Shared)(σ:St)(H:Hp)(R:It->Hp->Prop),Inv X pins σ H s->wi σ H R ->
  wpAny (model X.prog X.w) X.A (eval j X.env) (λv s1=>wpAny (model X.prog X.w) X.A (pyIter v) (Sr X pins σ tg R) X.xe s1) X.xe s
variable {tg:Expr}
def Py{M:Model}{b:Addr}{u:Value}{o:Obj}{n:String}{vs:Array Value}{Q:Unit->Shared->Prop}(c:s.heap.get? b=some o)(d:o.cls=.type n)(hd:o.data=.fields vs)
 (e:["enumerate", "zip", "dict_itemiterator", "dict_reverseitemiterator", "odict_iterator", "itertools.zip_longest", "itertools.pairwise"].contains n=false) (a:Q () s):wpAny M A (letOwnedTupleGo tg (.ref b) u) Q E s:=by
 unfold letOwnedTupleGo
 cases tg<;>first
  |exact Az a
  |(cases u<;>first
   |exact Az a
   | (refine Ag (wpAny_load c ?_)
      rw[d,hd]
      show wpAny M A (if(["enumerate", "zip", "dict_itemiterator", "dict_reverseitemiterator", "odict_iterator", "itertools.zip_longest", "itertools.pairwise"].contains n && vs[0]?==some (rawInt _))=true then _ else _) Q E s
      rw[Ao (by intro h;rw[e,Bool.false_and] at h;cases h)]
      exact Az a))
def M3 (K:Aj) (a:Addr):It:=
 ⟨λi H=>∃xs x,Af K H a xs/\xs[i]?=some x,λi H x H'=>H'=H/\∀xs,Af K H a xs->xs[i]?=some x,λi H=>∃xs,Af K H a xs/\xs.length<=i⟩
def M4 (lo:Int) (n:Nat):It:=⟨λi ζ=>i<n,λi H x H'=>H'=H/\x=.int (lo+i),λi ζ=>n<=i⟩
theorem Yj{K:Aj}(a g:Addr):FN P w K tg (M3 K a) [g] g (λi h=>h.IsListIter g a i) where
 mem:=by simp
 obj:=λi h f b j=>by
  have e:b=g:=(by simpa using j);subst e;obtain⟨o,e,c,d⟩:=f;exact⟨o,e,λv z=>by rw[d] at z;cases z⟩
 keep:=λi h l f k=>f.at λo e=>k g (by simp) o e
 item:=by
  intro X q r t L i pins s σ H E I m f y;subst q r t;obtain⟨N,x,n,A⟩:=y;obtain⟨Y,B,p,O⟩:=I.list n;obtain⟨u,Q,R⟩:=B.get A;obtain⟨C,D,S,F,G,J⟩:=m g (by simp);refine wpAny_pyNext_list_item f p.isList (x:=u) (by simpa using Q) λl M T=>?_;have U:Inv X pins σ H {s with heap:=l}:=I.turned (t':=s.toks) (λb o j e=>(T.2 b j).trans e) C D F G J;obtain⟨o,e,c,d⟩:=id M;exact⟨u,rfl,Py (s:={s with heap:=l}) e c d (by decide) ⟨x,H,U,R,⟨rfl,λZ V=>by rw[I.list_inj V n];exact A⟩,M,λb j=>(m b j).1⟩⟩
 done:=by
  intro X q r t L i pins s σ H E I m f y;subst q r t;obtain⟨N,n,A⟩:=y;obtain⟨Y,B,p,O⟩:=I.list n;obtain⟨C,D,S,F,G,J⟩:=m g (by simp);have hl:=B.length;exact wpAny_pyNext_list_end (I.ok.hd L) f p.isList (by simp;lia) λl W=>⟨rfl,I.turned (t':=s.toks) (λb o j e=>W b o j e) C D F G J⟩
 self:=λζ ζ ζ ζ ζ f h=>wpAny_pyIter_listiter f h
def Yk{K:Aj}(c:Addr)(lo:Int)(n:Nat):FN P w K tg (M4 lo n) [c] c (λi h=>IsRangeIter h c (lo+(i:Nat)*1) ((n:Int)-(i:Nat)) 1) where
 mem:=by simp
 obj:=λi h a b d=>by
  have e:b=c:=(by simpa using d);subst e
  exact⟨_,a,λv z=>by
   have D:Data.fields _=Data.cell v:=z
   cases D⟩
 keep:=λi h f a k=>k c (by simp) _ a
 item:=by
  intro X j l m p i pins s σ H E I g a q;subst j l m;obtain⟨r,u,F,x,y,A⟩:=g c (by simp);have W:=Walks.range (prog:=X.prog) (w:=X.w) (I.ok.hd p) c lo 1 n;refine W.item i s _ _ q a λv f B G C Z=>?_;obtain⟨t,rfl⟩:=G;have J:Inv X pins σ H {s with heap:=f,toks:=B}:=I.turned (λb o d e=>Z b o (by simpa using d) e) r u x y A;refine⟨_,rfl,Py (s:={s with heap:=f,toks:=B}) (n:= "range_iterator") C rfl rfl (by decide) ⟨.int (lo+i),H,J,⟨t,?_⟩,⟨rfl,rfl⟩,C,λb d=>(g b d).1⟩⟩;rw[Int.mul_one]
 done:=by
  intro X j l m p i pins s σ H E I g a q;subst j l m;obtain⟨r,u,F,x,y,A⟩:=g c (by simp);exact wpAny_pyNext_range_end (I.ok.hd p) a (by have:n<=i:=q;lia) λf L=>⟨rfl,I.turned (t':=s.toks) (λb o d e=>L b o d e) r u x y A⟩
 self:=λζ ζ ζ ζ ζ a h=>wpAny_pyIter_rangeiter a h
section
variable {X:Cx} {tg:Expr}
def NQ (K:Aj) (tl:TE):TI:=λσ H R=>tl σ H λx U=>mR x λa=>(∃xs,Af K U a xs)/\R (M3 K a) U
def Ct{l:Expr}{g:TE}(i:PE X l g):PI X tg l (NQ X.K g):=by
 intro pins s σ H R I h;refine AV (i pins s σ H _ I h) λv c⟨x,U,d,j,f⟩=>?_
 replace f:=mR.ex f
 obtain⟨a,e,⟨n,k⟩,q⟩:=f;subst e;cases j;obtain⟨u,r,p,t⟩:=d.list k;refine wpAny_pyIter_list p.isList ?_;refine⟨c.heap.objs.size,[c.heap.objs.size],_,_,U,rfl,d.kept (t':=c.toks) λb o e=>Bn _ e,Yj a _,⟨_,Co _ rfl,rfl,rfl⟩,λb m=>?_,q⟩;have e:b=c.heap.objs.size:=(by simpa using m);subst e;exact d.fpOk (AI _) (d.hok.fresh (AI _))
def Vp{R:It->Hp->Prop}{lo a:Int}{t u v:Tok}{c:Nat}(I:Inv X pins σ H s)(f:-(2 ^ 62)<=lo)(g:lo<2 ^ 62)(h:-(2 ^ 62)<=a)(i:a<2 ^ 62)
 (q:R (M4 lo (a-lo).toNat) H):wpAny (model X.prog X.w) X.A (pyIter (.ref s.heap.objs.size)) (Sr X pins σ tg R) E {s with heap:=s.heap.push {cls:=.type "range",data:=.fields #[.int lo t,.int a u,.int 1 v]},toks:=c}:=by
 refine wpAny_pyIter_range (IsRange.new ..) (small_one f g h i) ?_;have d:Inv X pins σ H {s with heap:=s.heap.push {cls:=.type "range",data:=.fields #[.int lo t,.int a u,.int 1 v]},toks:=c}:=I.kept λb o e=>Bn _ e
 refine⟨(s.heap.push {cls:=.type "range",data:=.fields #[.int lo t,.int a u,.int 1 v]}).objs.size,[(s.heap.push {cls:=.type "range",data:=.fields #[.int lo t,.int a u,.int 1 v]}).objs.size],_,_,H,rfl,
  d.kept (t':=c) λb o e=>Bn _ e,Yk _ lo (a-lo).toNat,?_,λb j=>?_,q⟩
 have k:lo+((0:Nat):Int)*1=lo:=(by simp);have l:(((a-lo).toNat:Nat):Int)-((0:Nat):Int)=Builtin.Range.rangeSize lo a 1:=by rw[rangeSize_one];split<;>lia
 show IsRangeIter _ _ (lo+((0:Nat):Int)*1) ((((a-lo).toNat:Nat):Int)-((0:Nat):Int)) 1;rw[k,l];exact Co _ rfl;have e:b=(s.heap.push {cls:=.type "range",data:=.fields #[.int lo t,.int a u,.int 1 v]}).objs.size:=(by simpa using j);subst e;exact d.fpOk (AI _) (d.hok.fresh (AI _))
def NR (ta:TA):TI:=λσ H R=>ta σ H λvs U=>mJ vs λj=>-(2 ^ 62)<=j/\j<2 ^ 62/\R (M4 0 j.toNat) U
def NS (ta:TA):TI:=λσ H R=>ta σ H λvs U=>∃i j:Int,vs=[.int i,.int j]/\(-(2 ^ 62)<=i/\i<2 ^ 62/\-(2 ^ 62)<=j/\j<2 ^ 62)/\R (M4 i (j-i).toNat) U
variable {L:Pos}
def Jk{a:Expr}{c:TA}{p:Pos}(d:Gl X "range")(f:X.mg "range" = none)(g:PA X [a] c)(i:starEach [a] X.env=[(false,eval a X.env)]:=by rfl):PI X tg (.Call (.Name "range" p) [a] [] L) (NR c):=by
 intro pins s σ H R I h;refine Call_ (Jf I d f boot_range (PyProof.Rows.callWith_type1 (AV (g L pins s σ H _ I h) λo u⟨v,U,k,l,b⟩=>?_) i rfl))
 replace b:=mJ.ex b
 obtain⟨j,e,b,m,q⟩:=b;subst e
 cases l with
 |cons r n =>
   cases n;obtain⟨t,rfl⟩:=r;exact call_range_1 (Vp k (by lia) (by lia) b m (by simpa using q))
def Yl{a b:Expr}{f:TA}{p:Pos}(k:Gl X "range")(l:X.mg "range" = none)(m:PA X [a,b] f)(n:starEach [a,b] X.env=[(false,eval a X.env),(false,eval b X.env)]:=by rfl)(g:starEach [b] X.env=[(false,eval b X.env)]:=by rfl) :
 PI X tg (.Call (.Name "range" p) [a,b] [] L) (NS f):=by
 intro pins s σ H R I h;refine Call_ (Jf I k l boot_range (PyProof.Rows.callWith_type1 (AV (m L pins s σ H _ I h) λz A⟨B,U,o,u,c⟩=>?_) (by rw[n,g]) (by rw[g];rfl)));obtain⟨i,j,e,⟨c,v,w,x⟩,q⟩:=c;subst e
 cases u with
 |cons r d =>
   cases d with
   |cons y d =>
     cases d;obtain⟨t,rfl⟩:=r;obtain⟨C,rfl⟩:=y;exact call_range_2 (Vp o c v w x q)
def F2 (J:It) (g:TG) (tb:TS) (D:Ends) (σ:St) (U:Hp):Prop:=∃W:Nat->Nat->St->Hp->Prop,(∃m,W 0 m σ U)/\∀i m σ H,W i m σ H ->
 (J.stop i H/\D.nx σ H)\/(J.go i H/\∃N:St->Hp->Prop,(∀σ' H',N σ' H'->∃m',m'<m/\W (i+1) m' σ' H')/\∀x H',J.yld i H x H'->g x σ H' λσ2 Y=>tb {D with nx:=N,ct:=N,bk:=D.nx} σ2 Y)
def Ss (wi:TI) (g:TG) (tb:TS):TS:=λD σ H=>wi σ H λJ U=>F2 J g tb D σ U
def NT (fp:List Addr) (h:Heap):B':=fp.filterMap λb=>(h.get? b).map λo=>(b,o)
variable {fp:List Addr}
def Pz{o:Obj}(a:b∈fp)(e:h.get? b=some o):(b,o)∈NT fp h:=List.mem_filterMap.mpr ⟨b,a,by rw[e];rfl⟩
def Ym{p:Addr×Obj}(a:p∈NT fp h):p.1∈fp/\h.get? p.1=some p.2:=by
 obtain⟨b,c,e⟩:=List.mem_filterMap.mp a
 cases q:h.get? b with
 |none=>rw[q] at e;cases e
 |some o =>
   rw[q] at e;have d:(b,o)=p:=BJ e;subst d;exact⟨c,q⟩
theorem Inv.pinned(I:Inv X pins σ H s)(f:∀b∈fp,Dq X pins H b)(g:∀b∈fp,∃o,s.heap.get? b=some o/\∀v,o.data≠.cell v):Inv X (pins++NT fp s.heap) σ H s:=
 I.pins_of λp h=>(BI.mp h).elim (λz=>I.pin p (Ev _ z)) λz=>by
  obtain⟨a,e⟩:=Ym z;obtain⟨i,j,k,_⟩:=f p.1 a;obtain⟨o,c,d⟩:=g p.1 a;rw[e] at c;cases c;exact⟨e,i,j,k,d⟩
theorem Inv.unpinned{a:B'}(I:Inv X (pins++a) σ H s):Inv X pins σ H s:=I.pins_of λp b=>I.pin p (Ev _ (GW _ b))
def Ca{j:Expr}{body:List Stmt}{B:TI}{g:TG}{tb:TS}(p:PassesOwn (model X.prog X.w) X.A X.env X.xe)(C:X.calm=true)(P:PI X tg j B)(Q:PG X tg g)(a:Gv X body tb)
 (R:∀x,foldedSetIterable j X.env x=pure x:=by intro _;rfl):PS X (.For tg j body [] L) (Ss B g tb):=by
 intro pins s σ H af I h;refine wpAny_For (AV (P pins s σ H _ I h) λv s1 S=>AV S λai s2 U=>?_) R;obtain⟨it,fp,D,ag,Y,e,V,T,aa,E,W,⟨m0,w0⟩,turn⟩:=U;subst e;have A:∀{k:Hp},(∀b∈fp,k b=none)->∀b∈fp,Dq X pins k b:=λhn b a=>⟨hn b a,(E b a).2⟩;refine codeAny_forLoop_any (λn Z=>∃i σ' k,Inv X pins σ' k Z/\D i Z.heap/\(∀b∈fp,k b=none)/\W i n σ' k) ?_ m0 ⟨0,σ,Y,V,aa,λb a=>(E b a).1,w0⟩;rintro n F ⟨i,σ3,t,G,M,O,w3⟩;rcases turn i n σ3 t w3 with⟨stop,qn⟩|⟨go,N,hN,step⟩
 . refine wpAny_passesOwn p (AV (T.done X rfl rfl rfl C i pins F σ3 t X.xe G (A O) M stop) λr s4⟨w,I4⟩=>?_)
   subst w;exact wpAny_execs_nil ⟨σ3,t,I4,qn⟩
 . refine wpAny_passesOwn p (AV (T.item X rfl rfl rfl C i pins F σ3 t X.xe G (A O) M go) λr s4⟨u,w,h4⟩=>?_)
   subst w;refine wpAny_passesOwn p (AV h4 λ_ J⟨x,K,I5,r5,y5,z,ab⟩=>?_);have ae:=I5.pinned (A ab) (T.obj _ _ z);refine wpAny_passesOwn p (AV (Q _ J σ3 K x u _ ae r5 (step x K y5)) λ_ s6⟨σ6,H6,I6,q6⟩=>?_);refine wpAny_passesOwn p (AV (a _ s6 σ6 H6 _ I6 q6) λf y l=>?_)
   have again:∀{σ7:St}{c:Hp},Inv X (pins++NT fp J.heap) σ7 c y->N σ7 c->∃m,m<n/\∃i σ' k,Inv X pins σ' k y/\D i y.heap/\(∀b∈fp,k b=none)/\W i m σ' k:=λ{σ7 c}d q=>by
    obtain⟨m',hm,w7⟩:=hN σ7 c q;refine⟨m',hm,i+1,σ7,c,d.unpinned,T.keep _ _ _ z λb a o e=>(d.pin (b,o) (Ev _ (Ev _ (Pz a e)))).1,λb a=>?_,w7⟩;obtain⟨o,e,ah⟩:=T.obj _ _ z b a;exact(d.pin (b,o) (Ev _ (Ev _ (Pz a e)))).2.1
   cases f with
   |next=>obtain⟨σ7,c,d,q⟩:=l;exact again d q
   |cont=>obtain⟨σ7,c,d,q⟩:=l;exact again d q
   |brk=>obtain⟨σ7,c,d,l⟩:=l;exact⟨σ7,c,d.unpinned,l⟩
   |ret v=>obtain⟨x7,σ7,c,d,r7,l⟩:=l;exact⟨x7,σ7,c,d.unpinned,r7,l⟩
end
variable {g:TG}{tb:TS}{D:Ends}
def NU{J:It}(n:Nat)(Pv:Nat->St->Hp->Prop)(b:Pv 0 σ H)(go:∀i σ H,Pv i σ H->i<n->J.go i H)(stop:∀σ H,Pv n σ H->J.stop n H)
 (c:∀i v σ H H',Pv i σ H->i<n->J.yld i H v H'->g v σ H' λσ2 Y=>tb {D with nx:=Pv (i+1),ct:=Pv (i+1),bk:=D.nx} σ2 Y) (hd:∀σ H,Pv n σ H->D.nx σ H):F2 J g tb D σ H:=by
 unfold F2;refine⟨λi m σ H=>m=n-i/\i<=n/\Pv i σ H,⟨_,rfl,CO _,b⟩,?_⟩;rintro i m σ H ⟨rfl,e,p⟩;by_cases a:i<n;exact .inr ⟨go i σ H p a,Pv (i+1),λσ' H' d=>⟨n-(i+1),by lia,rfl,a,d⟩,λv H' y=>c i v σ H H' p a y⟩
 . obtain rfl:i=n:=by lia
   exact .inl ⟨stop σ H p,hd σ H p⟩
def Eg{K:Aj}{xs:List V}(Pv:Nat->St->Hp->Prop)(d:Pv 0 σ H)(c:∀i σ H,i<=xs.length->Pv i σ H->Af K H a xs)
 (e:∀i x σ H,xs[i]?=some x->Pv i σ H->g x σ H λσ2 Y=>tb {D with nx:=Pv (i+1),ct:=Pv (i+1),bk:=D.nx} σ2 Y) (hd:∀σ H,Pv xs.length σ H->D.nx σ H):F2 (M3 K a) g tb D σ H:=NU xs.length Pv d (λi σ H p b=>⟨xs,xs[i],c i σ H (CQ b) p,by simp[b]⟩) (λσ H p=>⟨xs,c _ σ H (AI _) p,AI _⟩) (λi v σ H f p b y=>by obtain⟨rfl,y⟩:=y;exact e i v σ _ (y xs (c i σ _ (CQ b) p)) p) hd
def KH{lo:Int}{n:Nat}(Pv:Nat->St->Hp->Prop)(b:Pv 0 σ H)
 (c:∀i σ H,i<n->Pv i σ H->g (.int (lo+i)) σ H λσ2 Y=>tb {D with nx:=Pv (i+1),ct:=Pv (i+1),bk:=D.nx} σ2 Y) (hd:∀σ H,Pv n σ H->D.nx σ H):F2 (M4 lo n) g tb D σ H:=NU n Pv b (λi σ H p a=>a) (λσ H p=>AI _) (λi v σ H d p a y=>by obtain⟨rfl,rfl⟩:=y;exact c i σ _ a p) hd
abbrev R2:=V->V->Hp->VK->Prop
def Dr (X:Cx) (f:Value->Value->Sem Value) (r:R2):Prop:=
 ∀(pins:B')(s:Shared)(σ:St)(H:Hp)(x y:V)(v u:Value)(Q:VK),Inv X pins σ H s->RelV x v->RelV y u->r x y H Q ->
  wpAny (model X.prog X.w) X.A (f v u) (EP X pins σ Q) X.xe s
def PB (X:Cx) (f:Value->Sem Value) (r:V->Hp->VK->Prop):Prop:=
 ∀(pins:B')(s:Shared)(σ:St)(H:Hp)(x:V)(v:Value)(Q:VK),Inv X pins σ H s->RelV x v->r x H Q ->
  wpAny (model X.prog X.w) X.A (f v) (EP X pins σ Q) X.xe s
def Bo (X:Cx) (f:Value) (r:List V->Hp->VK->Prop):Prop:=
 ∀(pins:B')(s:Shared)(σ:St)(H:Hp)(xs:List V)(us:List Value)(Q:VK),Inv X pins σ H s->Ay xs us->r xs H Q ->
  wpAny (model X.prog X.w) X.A (call f us) (EP X pins σ Q) X.xe s
def Hl (r:R2) (ta tb:TE):TE:=λσ H Q=>ta σ H λx U=>tb σ U λy Y=>r x y Y Q
def Su (r:V->Hp->VK->Prop) (ta:TE):TE:=λσ H Q=>ta σ H λx U=>r x U Q
def rI (C:Int->Int->Prop) (g:Int->Int->V):R2:=λx y H Q=>IK x y λi j=>C i j/\Q (g i j) H
def IL (g:Int->Int->V):R2:=λx y H Q=>IK x y λi j=>Q (g i j) H
def rU (g:Int->V):V->Hp->VK->Prop:=λx H Q=>mI x λi=>Q (g i) H
section
variable {X:Cx} {a b c:Expr} {ta tb tc:TE} {L:Pos}
variable {f:Value->Value->Sem Value}
def Ls(d:PE X a ta)(e:PE X b tb){R:V->V->Hp->Prop}(I:Inv X pins σ H s)
 (h:ta σ H λx U=>tb σ U λy Y=>R x y Y) {Q:G'} (g:∀v u c x y Y,Inv X pins σ Y c->RelV x v->RelV y u->R x y Y->wpAny (model X.prog X.w) X.A (f v u) Q X.xe c) :
 wpAny (model X.prog X.w) X.A (eval a X.env) (λv i=>wpAny (model X.prog X.w) X.A (eval b X.env) (λu j=>wpAny (model X.prog X.w) X.A (f v u) Q X.xe j) X.xe i) X.xe s:=by
 refine AV (d pins s σ H _ I h) λv k⟨x,U,l,m,n⟩=>?_;refine AV (e pins k σ U _ l n) λu c⟨y,Y,o,p,q⟩=>?_;exact g v u c x y Y o m p q
def AB{op:Operator}{r:R2}(c:Dr X (binaryOp op) r)(d:PE X a ta)(e:PE X b tb):PE X (.BinOp a op b L) (Hl r ta tb):=by
 intro pins s σ H Q I h;exact wpAny_BinOp (Ls d e I h λv u f x y Y g i j q=>c pins f σ Y x y v u Q g i j q)
def M5{op:UnaryOp}{r:V->Hp->VK->Prop}(b:PB X (unaryOp op) r)(c:PE X a ta):PE X (.UnaryOp op a L) (Su r ta):=by
 intro pins s σ H Q I h;exact UnaryOp_ (AV (c pins s σ H _ I h) λv d⟨x,U,e,f,g⟩=>b pins d σ U x v Q e f g)
def PD{C:Int->Int->Prop}{g:Int->Int->Int}
 (e:∀(i j:Int)(t u:Tok)(s:Shared)(Q:G')(E:G'),C i j->Q (.int (g i j) s.toks) {s with toks:=s.toks+1}->wpAny (model X.prog X.w) X.A (f (.int i t) (.int j u)) Q E s) :
 Dr X f (rI C λi j=>.int (g i j)):=by
 intro pins s σ H x y v u Q I a b h
 replace h:=IK.ex h
 obtain⟨i,j,rfl,rfl,c,q⟩:=h;obtain⟨t,rfl⟩:=a;obtain⟨d,rfl⟩:=b;exact e i j t d s _ _ c ⟨.int (g i j),H,I.tok _,⟨_,rfl⟩,q⟩
def Jl{g:Int->Int->Int}
 (d:∀(i j:Int)(t u:Tok)(s:Shared)(Q:G')(E:G'),Q (.int (g i j) s.toks) {s with toks:=s.toks+1}->wpAny (model X.prog X.w) X.A (f (.int i t) (.int j u)) Q E s) :
 Dr X f (IL λi j=>.int (g i j)):=by
 intro pins s σ H x y v u Q I a b h
 replace h:=IK.ex h
 obtain⟨i,j,rfl,rfl,q⟩:=h;obtain⟨t,rfl⟩:=a;obtain⟨c,rfl⟩:=b;exact d i j t c s _ _ ⟨.int (g i j),H,I.tok _,⟨_,rfl⟩,q⟩
def NV{g:Int->Int->Bool}
 (d:∀(i j:Int)(t u:Tok)(s:Shared)(Q:G')(E:G'),Q (.bool (g i j)) s->wpAny (model X.prog X.w) X.A (f (.int i t) (.int j u)) Q E s) :
 Dr X f (IL λi j=>.bl (g i j)):=by
 intro pins s σ H x y v u Q I a b h
 replace h:=IK.ex h
 obtain⟨i,j,rfl,rfl,q⟩:=h;obtain⟨t,rfl⟩:=a;obtain⟨c,rfl⟩:=b;exact d i j t c s _ _ ⟨.bl (g i j),H,I,rfl,q⟩
def Sv (i j:Int):Prop:=0<j/\j<1073741824
def Sw (i j:Int):Prop:=0<=j/\j<=1000000/\i.natAbs<2 ^ 64
def Lu (i j:Int):Prop:=(-(2 ^ 64)<i/\i<2 ^ 64)\/(-(2 ^ 64)<j/\j<2 ^ 64)
def Lu.ok{i j:Int}(h:Lu i j):IntMulOk i j:=by
 rcases h with⟨a,b⟩|⟨a,b⟩;exact .of_left (intBits_le_64 a b);exact .of_right (intBits_le_64 a b)
def Hz:Dr X (binaryOp .Add) (IL λi j=>.int (i+j)):=Jl λζ ζ ζ ζ ζ ζ ζ q=>add_int q
def HA:Dr X (binaryOp .Sub) (IL λi j=>.int (i-j)):=Jl λζ ζ ζ ζ ζ ζ ζ q=>sub_int q
def E9:Dr X (binaryOp .Mult) (rI Lu λi j=>.int (i*j)):=PD λζ ζ ζ ζ ζ ζ ζ a q=>mul_int q a.ok
def Fg:Dr X (binaryOp .FloorDiv) (rI Sv λi j=>.int (i/j)):=PD λi j ζ ζ ζ ζ ζ a q=>by
 have b:(0:Int)<j:=a.1;have c:j<1073741824:=a.2;exact floordiv_int (by lia) (by rw[Int.fdiv_eq_ediv_of_nonneg i (by lia)];exact q) (.inl (PyProof.noPylong_small (by lia)))
def Bq:Dr X (binaryOp .Mod) (rI (λζ j=>0<j) λi j=>.int (i%j)):=PD λi j ζ ζ ζ ζ ζ a q=>by
 have b:(0:Int)<j:=a;exact mod_int' (by lia) (by rw[Int.fmod_eq_emod_of_nonneg i (by lia)];exact q)
def Sx:Dr X (binaryOp .LShift) (rI Sw λi j=>.int (i*2 ^ j.toNat)):=PD λζ ζ ζ ζ ζ ζ ζ a q=>lshift_int_small a.1 a.2.1 a.2.2 q
def NW:Dr X (binaryOp .BitOr) (IL λi j=>.int (Builtin.bitOr i j)):=Jl λζ ζ ζ ζ ζ ζ ζ q=>or_int q
def Jm:Dr X (inplaceOp .Add) (IL λi j=>.int (i+j)):=Jl λζ ζ ζ ζ ζ ζ ζ q=>iadd_int q
def Yn{f:Value->Sem Value}{g:Int->Int}
 (b:∀(i:Int)(t:Tok)(s:Shared)(Q:G')(E:G'),Q (.int (g i) s.toks) {s with toks:=s.toks+1}->wpAny (model X.prog X.w) X.A (f (.int i t)) Q E s) :
 PB X f (rU λi=>.int (g i)):=by
 intro pins s σ H x v Q I a h
 replace h:=mI.ex h
 obtain⟨i,rfl,q⟩:=h;obtain⟨t,rfl⟩:=a;exact b i t s _ _ ⟨.int (g i),H,I.tok _,⟨_,rfl⟩,q⟩
def M6:PB X (unaryOp .USub) (rU λi=>.int (-i)):=Yn λζ ζ ζ ζ ζ q=>neg_int q
end
def Lv:V->V->Bool
 |.non,.non=>true|.non,.int _=>true|.int _,.non=>true|.non,.bl _=>true|.bl _,.non=>true|.non,.str _=>true|.str _,.non=>true
 |.int _,.int _=>true|.bl _,.bl _=>true|.str _,.str _=>true|.byt _,.byt _=>true
 |.int _,.str _=>true|.str _,.int _=>true|.bl _,.str _=>true|.str _,.bl _=>true
 |_,_=>false
def Vq:R2:=λx y H Q=>Lv x y=true/\Q (.bl (decide (x=y))) H
def Vr:R2:=λx y H Q=>Lv x y=true/\Q (.bl (!decide (x=y))) H
def Vs{i j:Int}:decide (V.int i=V.int j)=(i==j):=by
 rw[Bool.eq_iff_iff]
 simp
def HB{i j:Bool}:decide (V.bl i=V.bl j)=(i==j):=by
 rw[Bool.eq_iff_iff]
 simp
def Vt{i j:Str}:decide (V.str i=V.str j)=(i==j):=by
 rw[Bool.eq_iff_iff]
 simp
def Vu{i j:Array UInt8}:decide (V.byt i=V.byt j)=(i.toList==j.toList):=by
 rw[Bool.eq_iff_iff];cases i;cases j
 simp
section
variable {X:Cx} {a b c:Expr} {ta tb tc:TE} {L:Pos}
def Di{Q:VK}{k a:Bool}(I:Inv X pins σ H s)(q:Q (.bl k) H)(e:k=a):EP X pins σ Q (.bool a) s:=by
 subst e;exact⟨.bl k,H,I,rfl,q⟩
def BV:Dr X (compareOp .Eq) Vq:=by
 intro pins s σ H x y v u Q I d a h;obtain⟨c,q⟩:=h
 cases x with
 |non =>
   cases d
   cases y with
   |non=>cases a;exact PySem.EqNone.eq_none_none (Di I q (by simp))
   |bl j=>cases a;exact PySem.EqNone.eq_none_bool (Di I q (by simp))
   |int j=>obtain⟨b,rfl⟩:=a;exact PySem.EqNone.eq_none_int (Di I q (by simp))
   |str j=>obtain⟨b,rfl⟩:=a;exact PySem.EqNone.eq_none_str (Di I q (by simp))
   |_=>exact absurd (show false=true from c) CS
 |bl i =>
   cases d
   cases y with
   |non=>cases a;exact PySem.EqNone.eq_bool_none (Di I q (by simp))
   |bl j=>cases a;exact eq_bool (Di I q HB)
   |str j=>obtain⟨b,rfl⟩:=a;exact PySem.EqMixed.eq_bool_str (Di I q (by simp))
   |_=>exact absurd (show false=true from c) CS
 |int i =>
   obtain⟨t,rfl⟩:=d
   cases y with
   |non=>cases a;exact PySem.EqNone.eq_int_none (Di I q (by simp))
   |int j=>obtain⟨b,rfl⟩:=a;exact eq_int (Di I q Vs)
   |str j=>obtain⟨b,rfl⟩:=a;exact PySem.EqMixed.eq_int_str (Di I q (by simp))
   |_=>exact absurd (show false=true from c) CS
 |str i =>
   obtain⟨t,rfl⟩:=d
   cases y with
   |non=>cases a;exact PySem.EqNone.eq_str_none (Di I q (by simp))
   |bl j=>cases a;exact PySem.EqMixed.eq_str_bool (Di I q (by simp))
   |int j=>obtain⟨b,rfl⟩:=a;exact PySem.EqMixed.eq_str_int (Di I q (by simp))
   |str j=>obtain⟨b,rfl⟩:=a;exact eq_str (Di I q Vt)
   |_=>exact absurd (show false=true from c) CS
 |byt i =>
   obtain⟨t,rfl⟩:=d
   cases y with
   |byt j=>obtain⟨b,rfl⟩:=a;exact PySem.W.eq_bytes (Di I q Vu)
   |_=>exact absurd (show false=true from c) CS
 |_=>cases y<;>exact absurd (show false=true from c) CS
def M7:Dr X (compareOp .NotEq) Vr:=by
 intro pins s σ H x y v u Q I d a h;obtain⟨c,q⟩:=h
 cases x with
 |non =>
   cases d
   cases y with
   |non=>cases a;exact PySem.EqNone.ne_none_none (Di I q (by simp))
   |bl j=>cases a;exact PySem.EqNone.ne_none_bool (Di I q (by simp))
   |int j=>obtain⟨b,rfl⟩:=a;exact PySem.EqNone.ne_none_int (Di I q (by simp))
   |str j=>obtain⟨b,rfl⟩:=a;exact PySem.EqNone.ne_none_str (Di I q (by simp))
   |_=>exact absurd (show false=true from c) CS
 |bl i =>
   cases d
   cases y with
   |non=>cases a;exact PySem.EqNone.ne_bool_none (Di I q (by simp))
   |bl j=>cases a;exact ne_bool (Di I q (BB not HB))
   |str j=>obtain⟨b,rfl⟩:=a;exact PySem.EqMixed.ne_bool_str (Di I q (by simp))
   |_=>exact absurd (show false=true from c) CS
 |int i =>
   obtain⟨t,rfl⟩:=d
   cases y with
   |non=>cases a;exact PySem.EqNone.ne_int_none (Di I q (by simp))
   |int j=>obtain⟨b,rfl⟩:=a;exact ne_int (Di I q (BB not Vs))
   |str j=>obtain⟨b,rfl⟩:=a;exact PySem.EqMixed.ne_int_str (Di I q (by simp))
   |_=>exact absurd (show false=true from c) CS
 |str i =>
   obtain⟨t,rfl⟩:=d
   cases y with
   |non=>cases a;exact PySem.EqNone.ne_str_none (Di I q (by simp))
   |bl j=>cases a;exact PySem.EqMixed.ne_str_bool (Di I q (by simp))
   |int j=>obtain⟨b,rfl⟩:=a;exact PySem.EqMixed.ne_str_int (Di I q (by simp))
   |str j=>obtain⟨b,rfl⟩:=a;exact ne_str (Di I q (BB not Vt))
   |_=>exact absurd (show false=true from c) CS
 |byt i =>
   obtain⟨t,rfl⟩:=d
   cases y with
   |byt j=>obtain⟨b,rfl⟩:=a;exact PySem.W.ne_bytes (Di I q (BB not Vu))
   |_=>exact absurd (show false=true from c) CS
 |_=>cases y<;>exact absurd (show false=true from c) CS
def GI:Dr X (compareOp .Lt) (IL λi j=>.bl (decide (i<j))):=NV λζ ζ ζ ζ ζ ζ ζ q=>lt_int q
def HC:Dr X (compareOp .Gt) (IL λi j=>.bl (decide (j<i))):=NV λζ ζ ζ ζ ζ ζ ζ q=>gt_int q
variable {op:CmpOp}
def A9(b:Expr)(h:op≠.In:=by decide)(a:op≠.NotIn:=by decide):behindInMarks op b=false:=by
 have c:(op==CmpOp.In)=false:=by cases op<;>first|rfl|exact absurd rfl h
 have d:(op==CmpOp.NotIn)=false:=by cases op<;>first|rfl|exact absurd rfl a
 cases b<;>simp[behindInMarks,c,d]
variable {r:R2}
def IM(c:Dr X (compareOp op) r)(d:PE X a ta)(e:PE X b tb)(f:behindInMarks op b=false):PE X (.Compare a [op] [b] L) (Hl r ta tb):=by
 intro pins s σ H Q I h;exact wpAny_Compare1 (Ls d e I h λv u g x y Y i j k q=>c pins g σ Y x y v u Q i j k q) f
def HD (t:TE):TT:=λσ H Q=>t σ H λx H'=>mB x λk=>Q k H'
def Bl(f:Dr X (compareOp op) r)(g:PE X a ta)(i:PE X b tb)(j:behindInMarks op b=false):PT X (.Compare a [op] [b] L) (HD (Hl r ta tb)):=by
 intro pins s σ H Q I h
 refine wpAny_isTrue_Compare1 (AV (g pins s σ H _ I h) λv l⟨x,U,m,n,o⟩=>AV (i pins l σ U _ m o) λu p⟨y,Y,q,t,w⟩ =>
  AV (f pins p σ Y x y v u _ q n t w) λc D⟨z,A,B,C,d⟩=>?_) j
 replace d:=mB.ex d
 obtain⟨k,e,d⟩:=d;subst e;cases C;exact Gi ⟨A,B,d⟩
def Lw (r r':R2) (ta tb tc:TE):TE:=λσ H Q=>ta σ H λx U=>tb σ U λy Y=>r x y Y λz H3=>∃k,z=.bl k /\
 (if k=true then tc σ H3 λw' H4=>r' y w' H4 Q else Q (.bl false) H3)
def Yo{i:CmpOp}{j:R2}(o:Dr X (compareOp op) r)(aa:Dr X (compareOp i) j)(p:PE X a ta)(q:PE X b tb)(t:PE X c tc)
 (w:lastMarks [op,i] [b,c]=false:=by with_unfolding_all rfl):PT X (.Compare a [op,i] [b,c] L) (HD (Lw r j ta tb tc)):=by
 intro pins s σ H Q I h
 refine isTrue_chain (AV (p pins s σ H _ I h) λv z⟨x,U,A,B,C⟩=>test_link (AV (q pins z σ U _ A C) λu D⟨y,Y,E,l,F⟩ =>
  AV (o pins D σ Y x y v u _ E B l F) λab G⟨ae,g,m,J,k,e,n⟩=>?_)) w
 subst e;cases J;refine Gi ?_
 cases k with
 |false =>
   have d:mB (.bl false) (λk=>Q k g):=n
   replace d:=mB.ex d
   obtain⟨k',K,M⟩:=d;cases K;exact ite_ff ⟨g,m,M⟩
 |true =>
   refine ite_tt (test_last (AV (t pins G σ g _ m n) λN O⟨P,R,S,T,d⟩=>AV (aa pins O σ R y P u N _ S l T d) λd' s5⟨z2,V,W,Z,f⟩=>?_))
   replace f:=mB.ex f
   obtain⟨k2,e2,f⟩:=f;subst e2;cases Z;exact Gi ⟨V,W,f⟩
def NY:(sizeLine:Nat)<2 ^ 63:=by rw[sizeLine_eq];decide
def Vv:Dr X (binaryOp .Add) (λx y H Q=>∃i j,x=.str i/\y=.str j/\i.length+j.length<=sizeLine/\Q (.str (i++j)) H):=by
 intro pins s σ H x y v u Q I a b h;obtain⟨i,j,rfl,rfl,c,q⟩:=h;obtain⟨t,rfl⟩:=a;obtain⟨d,rfl⟩:=b;exact add_str (λd e=>⟨.str (i++j),H,I.tok _,⟨_,rfl⟩,q⟩) c
def F3{a:List Value}(r:Ay [x] a):∃u,a=[u]/\RelV x u:=by
 cases r with
 |cons b c=>cases c;exact⟨_,rfl,b⟩
def Jn{y:V}{a:List Value}(r:Ay [x,y] a):∃u b,a=[u,b]/\RelV x u/\RelV y b:=by
 cases r with
 |cons c d =>
   cases d with
   |cons e f=>cases f;exact⟨_,_,rfl,c,e⟩
def Vw(b:X.calm=true):Bo X (.builtin "min") (λxs H Q=>∃i j,xs=[.int i,.int j]/\Q (.int (if j<i then j else i)) H):=by
 intro pins s σ H xs c Q I r h;obtain⟨i,j,rfl,q⟩:=h;obtain⟨u,d,rfl,⟨t,rfl⟩,⟨e,rfl⟩⟩:=Jn r;refine min_two_ints (I.ok.hd b) λf g k=>⟨_,H,I.kept k,?_,q⟩;by_cases a:j<i;rw[Ar a,Ar a];exact⟨_,rfl⟩;rw[Ao a,Ao a];exact⟨_,rfl⟩
def Sy:Bo X (.type "int") (λxs H Q=>(∃i,xs=[.int i]/\Q (.int i) H)\/∃k,xs=[.bl k]/\Q (.int (if k then 1 else 0)) H):=by
 intro pins s σ H xs b Q I r h;rcases h with⟨i,rfl,q⟩|⟨k,rfl,q⟩;obtain⟨u,rfl,t,rfl⟩:=F3 r;exact call_int_int ⟨.int i,H,I,⟨_,rfl⟩,q⟩;obtain⟨u,rfl,a⟩:=F3 r
 cases a;exact call_int_bool ⟨.int (if k then 1 else 0),H,I.tok _,⟨_,rfl⟩,q⟩
def Sz (K:Aj) (x:V) (H:Hp) (n:Nat):Prop:=
 match x with
 |.str y=>y.length<=sizeLine/\n=y.length
 |.byt y=>y.size<=sizeLine/\n=y.size
 |.ref p=>(∃xs,Af K H p xs/\n=xs.length)\/∃xs,Al K H p xs/\n=xs.length
 |_=>False
def Ey:Bo X (.builtin "len") (λxs H Q=>mL xs λx n=>Sz X.K x H n/\Q (.int n) H):=by
 intro pins s σ H xs l Q I r h
 replace h:=mL.ex h
 obtain⟨x,n,rfl,e,q⟩:=h;obtain⟨u,rfl,b⟩:=F3 r;have m:=NY;have o:sizeLine=16777216:=sizeLine_eq
 cases x with
 |str y =>
   obtain⟨t,rfl⟩:=b;obtain⟨i,a⟩:y.length<=sizeLine/\n=y.length:=e;subst a;exact len_str (by lia) ⟨.int _,H,I.tok _,⟨_,rfl⟩,q⟩
 |byt y =>
   obtain⟨t,rfl⟩:=b;obtain⟨i,a⟩:y.size<=sizeLine/\n=y.size:=e;subst a;exact PySem.W.len_bytes (by lia) ⟨.int _,H,I.tok _,⟨_,rfl⟩,q⟩
 |ref p =>
   cases b;have a:(∃xs,Af X.K H p xs/\n=xs.length)\/∃xs,Al X.K H p xs/\n=xs.length:=e;rcases a with⟨xs,c,a⟩|⟨xs,c,a⟩;subst a;obtain⟨k,d,f,j⟩:=I.list c;have g:=d.length;exact Calls.call_len_list f.isList (by simp only[Cw];lia) ⟨.int xs.length,H,I.tok _,⟨_,by simp only[Cw];rw[g]⟩,q⟩;subst a;obtain⟨k,d,f,j⟩:=I.tuple c;have g:=d.length;exact len_tuple f (by simp only[Cw];lia) ⟨.int xs.length,H,I.tok _,⟨_,by simp only[Cw];rw[g]⟩,q⟩
 |_=>exact(show False from e).elim
end
section
variable {prog:Program} {w:World} {A:Around} {E:G'} {s:Shared} {K:Aj} {x dx C f:Addr} {mA:Str->Option Value} {name:Str} {v:Value}
end
def Ex.some_of{v:V}{o:Option Value}(r:Ex (some v) o):∃u,o=some u/\RelV v u:=by
 cases o with
 |none=>exact(show False from r).elim
 |some u=>exact⟨u,rfl,r⟩
section
variable {P:Program} {w:World} {H H':Hp} {h h':Heap} {a C dx:Addr} {fs fs':List (Str×V)}
end
section
variable {X:Cx} {pins:B'} {σ:St} {H:Hp} {s:Shared} {a C dx:Addr} {fs:List (Str×V)} {f:Str} {v:V} {A:Around} {E:G'}
end
section
variable {X:Cx} {o e d:Expr} {f:Str} {L t j:Pos} {ta J:TE}
end
section
variable {X:Cx} {pins:B'} {σ:St} {H:Hp} {s:Shared} {A:Around} {E:G'} {Q:G'} {c:Value} {b:Bool}
end
structure B3 (k:Nat) (A:Around):Prop where
 hd:A.handled=none
 dp:A.depth+3*k+5<recursionLimit
 un:A.units+16*k+200<cLine
def B3.mono{j k:Nat}(r:B3 k A)(h:j<=k):B3 j A:=⟨r.hd,by have:=r.dp;lia,by have:=r.un;lia⟩
def B3.deeper{k:Nat}{A:Around}(r:B3 (k+1) A)(env:Env):B3 k (A.deeper env):=
 ⟨r.hd,by have:=r.dp;show A.depth+1+3*k+5<_;lia,by have:=r.un;show A.units+3+16*k+200<_;lia⟩
def B3.depth{k:Nat}{A:Around}(r:B3 k A):A.depth<recursionLimit:=by have:=r.dp;lia
def B3.units{k:Nat}{A:Around}(r:B3 k A):A.units+64<cLine:=by have:=r.un;lia
def G5:TA:=λζ H Q=>Q [] H
def Hm (ta:TE) (tr:TA):TA:=λσ H Q=>ta σ H λx U=>tr σ U λxs Y=>Q (x::xs) Y
section
variable {X:Cx} {e:Expr} {es:List Expr} {te:TE} {t:TA} {L:Pos}
def Ad:PA X [] G5:=λζ ζ ζ ζ H Q I h=>Calls.spliced_nil ⟨[],H,I,.nil,h⟩
def Ab(a:PE X e te)(b:PA X es t)(c:starEach (e::es) X.env=(false,eval e X.env)::starEach es X.env:=by rfl):PA X (e::es) (Hm te t):=by
 intro L pins s σ H Q I h;rw[c];show wpAny _ _ (spliced ((false,eval e X.env)::backTo L (starEach es X.env))) _ _ s;refine Calls.spliced_cons (AV (a pins s σ H _ I h) λu d⟨x,U,f,g,i⟩=>?_);exact AV (b L pins d σ U _ f i) λn o⟨j,Y,k,l,m⟩=>⟨x::j,Y,k,.cons g l,m⟩
def SA (t:TA):TE:=λσ H Q=>t σ H λxs U=>xs.length<=sizeLine/\∀p,U p=none->Q (.ref p) (upd U p (.tup xs))
def SD (t:TA):TE:=λσ H Q=>t σ H λxs U=>xs.length<=sizeLine/\∀p,U p=none->Q (.ref p) (upd U p (.lst xs))
def Bd{d}(h:PA X es t):PE X (.Tuple es d L) (SA t):=by
 intro pins s σ H Q I f;refine wpAny_Tuple_spliced (AV (h L pins s σ H _ I f) λg a⟨i,U,c,r,z,q⟩=>⟨by rw[<-r.length];exact z,?_⟩);have j:U a.heap.objs.size=none:=c.hok.fresh (AI _);refine⟨.ref a.heap.objs.size,upd U a.heap.objs.size (.tup i),c.laid (t':=a.toks) (λb u e=>Bn _ e) (AI _) ?_,rfl,q _ j⟩;exact⟨z,g,r,⟨_,Co _ rfl,rfl,_,rfl⟩⟩
def Cb(h:PA X es t):PE X (.List es L) (SD t):=by
 intro pins s σ H Q I d;refine wpAny_List_spliced (AV (h L pins s σ H _ I d) λf a⟨g,U,c,r,z,q⟩=>⟨by rw[<-r.length];exact z,?_⟩);have i:U a.heap.objs.size=none:=c.hok.fresh (AI _);refine⟨.ref a.heap.objs.size,upd U a.heap.objs.size (.lst g),c.laid (t':=a.toks) (λb u e=>Bn _ e) (AI _) ?_,rfl,q _ i⟩;exact⟨z,f,0,r,Co _ rfl⟩
end
abbrev Sp:=List V->Hp->VK->XK->Prop
abbrev HE:=List Env->Hp->Shared->XK->Value->Shared->Prop
structure Jo (P:Program) (w:World) (K:Aj) (mg:Str->Option Value) (base:Heap) (A:Around) (outer:List Env) (s:Shared) (H:Hp):Prop where
 frames:A.frames=some outer
 mod:Mod K mg base
 bs:∀b o,base.get? b=some o->s.heap.get? b=some o/\H b=none
 bsz:base.objs.size<=s.heap.objs.size
 funs:s.heap.FunFrames base outer
 frf:∀b∈Fv outer,H b=none
 hok:CT P w H s.heap
 bare:AllBare s.gens
def CE (outer:List Env) (P:Program) (w:World) (H:Hp) (s:Shared) (Q:VK) (u:Value) (Z:Shared):Prop:=
 ∃v H',Z.os=s.os/\AllBare Z.gens/\Un (Fv outer) [] H H' s.heap Z.heap/\CT P w H' Z.heap/\RelV v u/\Q v H'
def CR (CX:HE) (outer:List Env) (P:Program) (w:World) (H:Hp) (s:Shared) (Q:VK) (E:XK) (r:Result) (Z:Shared):Prop:=
 match r with
 |.ok (.ret u)=>CE outer P w H s Q u Z
 |.ok _=>False
 |.error e=>CX outer H s E e Z
structure EO (P:Program) (w:World) (K:Aj) (mg:Str->Option Value) (base:Heap) (CX:HE) (k:Nat) (f:Addr) (fd:FuncData) (ps:List Str) (sp:Sp):Prop where
 len:∀vs H Q E,sp vs H Q E->vs.length=ps.length
 run:∀(A:Around)(outer:List Env)(s:Shared)(H:Hp)(args:Args)(us:List Value)(vs:List V)(Q:VK)(E:XK),B3 k A->Jo P w K mg base A outer s H->BindsTo s fd args (ps.zip us)->Ay vs us->sp vs H Q E ->
  codeAny (model P w) A (.call (.ref f) args) (CR CX outer P w H s Q E) s
section
variable {X:Cx} {pins:B'} {σ:St} {H:Hp} {s Z:Shared}
def Inv.env0(I:Inv X pins σ H s):Jo X.prog X.w X.K X.mg X.base X.A X.stack s H:=
 ⟨I.ok.frames,I.ok.mod,I.bs,EN I.ok.bsz I.sz,I.stack,I.stkFree,I.hok,I.bare⟩
def Inv.after{Q:VK}{u:Value}(I:Inv X pins σ H s)(h:CE X.stack X.prog X.w H s Q u Z):EP X pins σ Q u Z:=by
 obtain⟨v,a,c,j,un,f,r,q⟩:=h;obtain⟨e,g,d,t,i⟩:=Z;obtain rfl:i=s.os:=c;exact⟨v,a,I.call (h':=e) (g':=g) (d':=d) (t':=t) (ch:=[]) un f j (λb z=>absurd z (by simp)),r,q⟩
end
def M8 (sp:Sp) (c:List V) (E:XK) (t:TA):TE:=λσ H Q=>t σ H λvs U=>sp (vs++c) U Q E
def Binds (K:Aj) (fd:FuncData) (ps:List Str) (ds:List Value):Prop:=
 ∀(s:Shared)(us:List Value),K.In s.heap->(us++ds).length=ps.length->BindsTo s fd ⟨us,[]⟩ (ps.zip (us++ds))
variable {ps:List Str}
def Binds.all{K:Aj}{b:FuncData}(h:∀a:List Value,a.length=ps.length->bindArgs b ⟨a,[]⟩=pure (ps.zip a)):Binds K b ps []:=λs a ζ c=>by
 rw[EK] at c ⊢;exact .of_eq (h a c)
def SE (CX:HE) (X:Cx) (E:XK):Prop:=∀(pins:B')(σ:St)(H:Hp)(s:Shared)(e:Value)(Z:Shared),Inv X pins σ H s->CX X.stack H s E e Z->X.xe e Z
section
variable {X:Cx} {CX:HE} {k:Nat} {f C:Addr} {fd:FuncData} {ps:List Str} {sp:Sp} {c:List V} {ds:List Value} {E:XK} {x m:Str} {p L apos:Pos} {e o:Expr} {es:List Expr} {ta:TE} {t:TA}
def Lx{Q:VK}{a:List Value}{vs:List V}(F:EO X.prog X.w X.K X.mg X.base CX k f fd ps sp)(g:B3 k X.A)(i:Binds X.K fd ps ds)(hd:Ay c ds)(j:SE CX X E)
 (I:Inv X pins σ H s) (r:Ay vs a) (h:sp (vs++c) H Q E):wpAny (model X.prog X.w) X.A (call (.ref f) a) (EP X pins σ Q) X.xe s:=by
 have d:Ay (vs++c) (a++ds):=r.append hd;have l:(a++ds).length=ps.length:=by rw[<-d.length];exact F.len _ _ _ _ h
 refine wpAny_call (codeAny_mono (F.run X.A X.stack s H ⟨a,[]⟩ (a++ds) (vs++c) Q E g I.env0 (i s a I.kIn l) d h) λr Z b=>?_)
 cases r with
 |error e=>exact j pins σ H s e Z I b
 |ok m =>
   cases m with
   |ret u=>exact I.after b
   |next=>exact False.elim b
   |brk=>exact False.elim b
   |cont=>exact False.elim b
def Jp(F:EO X.prog X.w X.K X.mg X.base CX k f fd ps sp)(b:B3 k X.A)(d:Gl X x)(g:X.mg x=some (.ref f))(i:PySem.W.keepIn X.K (.ref f)=true)(j:Binds X.K fd ps ds)(hd:Ay c ds)(l:SE CX X E)
 (m:PA X (e::es) t) (o:(x==("__debug__" : Str))=false:=by decide) (n:starEach (e::es) X.env=(false,eval e X.env)::starEach es X.env:=by rfl) (u:(backTo L (starEach es X.env)).any (·.1)=false:=by rfl) :
 PE X (.Call (.Name x p) (e::es) [] L) (M8 sp c E t):=by
 intro pins s σ H Q I h;refine wpAny_Call_Name_kw (Vn I d g ?_ o);refine PySem.W.callWith_K (h₀:=X.base) I.ok.mod.kin i (AV (m L pins s σ H _ I h) λv w⟨y,U,a,r,q⟩=>⟨a.kIn,?_⟩) n u;exact Lx F b j hd l a r q
end
section
variable {X:Cx} {CX:HE} {k:Nat} {f C:Addr} {fd:FuncData} {ps ks:List Str} {sp:Sp} {E:XK} {x m:Str} {p L apos kpos:Pos} {e o:Expr} {es:List Expr} {kws:List Keyword} {te ta:TE} {t tk:TA} {nm:Option Str}
variable {g:List Value->List Value->List Value} {gV:List V->List V->List V}
end
structure Ae (N P:List Str) (sc:Scope):Prop where
 kind:sc.kind=.function
 co:sc.isCoroutine=false
 gen:sc.isGenerator=false
 nd:N.Nodup
 pre:N.take P.length=P
 par:∀x∈P,sc.names.lookup x=some .local\/sc.names.lookup x=some .cell
 nofree:∀y∈sc.names,y.2≠.free
theorem Vx{kindOf:Str->Option NameKind}{x:Str}:∀{binds:List (Str×Value)}{m:Str->Option Value},(∀v,(x,v)∉binds)->bindL kindOf binds m x=m x
 |[],_,_=>rfl
 |(n,v)::r,m,h=>by
   unfold bindL;rw[Vx λw a=>h w (DW _ a)];split;have:x≠n:=by rintro rfl;exact h v B2
   simp[this];rfl
theorem Vy{kindOf:Str->Option NameKind}{x:Str}:∀{binds:List (Str×Value)}{m:Str->Option Value},(∀v,(x,v)∉binds)->bindC kindOf binds m x=m x
 |[],_,_=>rfl
 |(n,v)::r,m,h=>by
   unfold bindC;rw[Vy λw a=>h w (DW _ a)];split;rfl;have:x≠n:=by rintro rfl;exact h v B2
   simp[this]
theorem Vz{kindOf:Str->Option NameKind}{x:Str}{v:Value}:∀{P:List Str}{vs:List Value}{i:Nat}{m:Str->Option Value},P.Nodup->P[i]?=some x->vs[i]?=some v->kindOf x=some .local ->
 bindL kindOf (P.zip vs) m x=some v
 |[],_,_,_,_,h,_,_=>by simp at h
 |_::_,[],_,_,_,_,h,_=>by simp at h
 |p::P,w::vs,0,m,c,a,b,d=>by
   simp at a b;subst a;subst b;show bindL kindOf ((p,w)::P.zip vs) m p=_;unfold bindL;rw[Vx λv hv=>(Gh.mp c).1 (List.of_mem_zip hv).1,Ar d]
   simp
 |p::P,w::vs,i+1,m,c,a,b,d=>by
   show bindL kindOf ((p,w)::P.zip vs) m x=_;unfold bindL;exact Vz (i:=i) (Gh.mp c).2 (by simpa using a) (by simpa using b) d
theorem VA{kindOf:Str->Option NameKind}{x:Str}{v:Value}:∀{P:List Str}{vs:List Value}{i:Nat}{m:Str->Option Value},P.Nodup->P[i]?=some x->vs[i]?=some v->kindOf x≠some .local ->
 bindC kindOf (P.zip vs) m x=some v
 |[],_,_,_,_,h,_,_=>by simp at h
 |_::_,[],_,_,_,_,h,_=>by simp at h
 |p::P,w::vs,0,m,c,a,b,d=>by
   simp at a b;subst a;subst b;show bindC kindOf ((p,w)::P.zip vs) m p=_;unfold bindC;rw[Vy λv hv=>(Gh.mp c).1 (List.of_mem_zip hv).1,Ao d]
   simp
 |p::P,w::vs,i+1,m,c,a,b,d=>by
   show bindC kindOf ((p,w)::P.zip vs) m x=_;unfold bindC;exact VA (i:=i) (Gh.mp c).2 (by simpa using a) (by simpa using b) d
def start (N:List Str) (vs:List V):St:=vs.map some++List.replicate (N.length-vs.length) none
def AC (CX:HE) (P:Program) (w:World) (K:Aj) (mg:Str->Option Value) (base:Heap) (N:List Str) (qual:Str) (scope:Scope) (f:Addr) (cd:Value) (A:Around) (outer:List Env) (s:Shared) (H:Hp) (E:XK):Cx where
 prog:=P
 w:=w
 K:=K
 mg:=mg
 base:=base
 A:=A.deeper (envOfC qual scope s.heap.objs.size f cd)
 N:=N
 s₀:=s
 H₀:=H
 env:=envOfC qual scope s.heap.objs.size f cd
 outer:=outer
 stack:=envOfC qual scope s.heap.objs.size f cd::outer
 ex:=[]
 calm:=true
 fn:=λζ=>true
 pn:=[]
 xe:=λe Z=>wpAny (model P w) (A.deeper (envOfC qual scope s.heap.objs.size f cd)) (leaving (envOfC qual scope s.heap.objs.size f cd) e) (λζ s''=>CX outer H s E e s'') (λe' s''=>CX outer H s E e' s'') Z
def VB{a:Scope}{n:Nat}{x:Str}(h:a.names.lookup x=some .cell):∃c,(cellsFrom n a.names []).lookup x=some c:=by
 have q:=PySem.W.cellsFrom_some a.names n [] (.inl h);exact Option.isSome_iff_exists.mp q
def Yp{CX:HE}{K:Aj}{C:Str->Option Value}{G:Heap}{N:List Str}{B:Str}{scope:Scope}{f:Addr}{m:Value}{I:List Env}{J:Shared}{E:XK}{D:List Value}{vs:List V}
 (S:Ae N ps scope) (hd:A.handled=none) (g:Jo P w K C G A I s H) (T:vs.length=ps.length) (r:Ay vs D)
 (x:InCallC s s.heap.objs.size (bindL (envOfC B scope s.heap.objs.size f m).kindOf (ps.zip D) λζ=>none) (cellsFrom (s.heap.objs.size+1) scope.names []) (bindC (envOfC B scope s.heap.objs.size f m).kindOf (ps.zip D) λζ=>none) J) :
 Inv (AC CX P w K C G N B scope f m A I s H E) [] (start N vs) H J:=by
 have X:ps.length<=N.length:=by have:=BB List.length S.pre;rw[EJ] at this;lia
 obtain⟨o,U,rfl,L⟩:=x.done;have F:∀b:Addr,b∉(AC CX P w K C G N B scope f m A I s H E).ex:=λb z=>absurd (show b∈([]:List Addr) from z) (by simp)
 refine⟨⟨g.mod,S.kind,rfl,rfl,AI _,λy z c o d=>?_,λy j=>?_,λy c ζ h=>?_,λζ=>hd,Around.frames_deeper g.frames,.inr ⟨rfl,rfl⟩,λb z=>absurd z (F b),g.bs,g.bsz,λb ζ ζ=>F b,λb z=>absurd z (F b),g.funs,g.frf⟩,
  rfl,g.bare,Un.kept L,⟨_,x.toInCall.ns,λi y v o d W=>?_⟩,λy c h=>⟨_,x.cell y c h⟩,g.hok.fresh (AI _),λy c h=>?_,λp l=>absurd (show p∈([]:B') from l) (by simp),g.hok.kept L,?_⟩
 exact name_of_addr x.apart (Gu o) (Gu d);have j:scope.names.lookup y=some .cell\/scope.names.lookup y=some .free:=j;rcases j with j|j;exact VB j;exact absurd rfl (S.nofree _ (Gu j));exact CQ (x.above y c (Gu h))
 have t:i<vs.length:=by
  unfold start at d;by_cases t:i<vs.length;exact t;rw[FL (by simpa using t)] at d;rw[List.getElem?_replicate] at d;split at d<;>cases d
 have Q:vs[i]?=some v:=by
  unfold start at d;rw[Ft (by simpa using t),AX] at d
  cases e:vs[i]? with
  |none=>rw[e] at d;cases d
  |some a=>rw[e] at d;cases d;rfl
 obtain⟨u,M,R⟩:=r.get Q
 have l:ps[i]?=some y:=by
  rw[<-S.pre,List.getElem?_take_of_lt (by lia)];exact o
 have O:ps.Nodup:=by rw[<-S.pre];exact S.nd.sublist (List.take_sublist _ _)
 refine⟨u,R,?_⟩;rcases S.par y (Bc l) with k|k;exact .inl ⟨k,Vz O l M k⟩;obtain⟨c,e⟩:=VB (n:=s.heap.objs.size+1) k;refine .inr ⟨.inl k,c,e,?_⟩;have q:=x.cell y c e;rw[VA O l M (by show scope.names.lookup y≠_;rw[k];decide)] at q;exact q;exact g.hok.fresh (CQ (x.above y c (Gu h)));unfold start;show _=N.length;rw[AQ,Ak,List.length_replicate];lia
def NZ{CX:HE}{K:Aj}{i:Str->Option Value}{j:Heap}{k:Nat}{f:Addr}{name c:Str}{M:Arguments}{body:List Stmt}{scope:Scope}{p kV F z a ct O:Value}{B R:Option Addr}
 {aa:Array (Option Value)} {N:List Str} {sp:Sp} (T:K.lookup f=some ⟨O,R,.func (PySem.W.fnOf name c M body scope p kV F z B a ct),aa⟩) (ab:PySem.W.codeIn K a c=true) (S:Ae N ps scope)
 (len:∀vs H Q E,sp vs H Q E->vs.length=ps.length)
 (af:∀(A:Around)(g:List Env)(s:Shared)(H:Hp)(vs:List V)(Q:VK)(E:XK),B3 k (A.deeper (envOfC c scope s.heap.objs.size f a))->sp vs H Q E ->
  ∃t,Gv (AC CX P w K i j N c scope f a A g s H E) body t/\t {nx:=λζ H'=>Q .non H',rt:=Q} (start N vs) H) :
 EO P w K i j CX (k+1) f (PySem.W.fnOf name c M body scope p kV F z B a ct) ps sp:=by
 refine⟨len,λA g s H ai U vs Q E l h W r G=>?_⟩;have X:=len _ _ _ _ G;have C:K.In s.heap:=h.mod.kin.keeps λb o e=>(h.bs b o e).1;have ae:s.heap.NoLimit:=h.mod.nolimit.keeps λb o e=>(h.bs b o e).1
 have ag:∀y∈ps.zip U,scope.names.lookup y.1=some .local\/(scope.names.lookup y.1=some .cell/\((cellsFrom (s.heap.objs.size+1) scope.names []).lookup y.1).isSome=true):=λ⟨n,v⟩Y=>by
  rcases S.par n (List.of_mem_zip Y).1 with q|q;exact .inl q;exact .inr ⟨q,PySem.W.cellsFrom_some _ _ _ (.inl q)⟩
 refine codeAny_call_function l.depth (C _ _ T) rfl S.co S.gen rfl (PySem.W.codeRec_of C ab) (W _ _ _ _ ?_);refine wpAny_newFunctionEnv_cells S.kind ag λah he D x=>?_;subst he;refine⟨ae.keeps x.toInCall.keep,codeAny_func ?_⟩;obtain⟨t,ht,hq⟩:=af A g s H vs Q E (l.deeper _) G;have I:Inv (AC CX P w K i j N c scope f a A g s H E) [] (start N vs) H D:=Yp S l.hd h X r x;refine F1 (ht [] D (start N vs) H _ I hq) (λfl Z d=>?_) λe Z d=>d
 have L:∀{σ':St}{H':Hp}{v:V}{u:Value},Inv (AC CX P w K i j N c scope f a A g s H E) [] σ' H' Z->RelV v u->Q v H'->CE g P w H s Q u Z:=
  λ{σ' H' v u}J m q=>⟨v,H',J.os,J.bare,J.base,J.hok,m,q⟩
 cases fl with
 |ret u =>
   obtain⟨v,σ',H',J,m,q⟩:=d;exact L J m q
 |next =>
   obtain⟨σ',H',J,q⟩:=d;exact L (v:=V.non) (u:=Value.none) J rfl q
 |brk =>
   obtain⟨_,_,_,q⟩:=d;exact False.elim q
 |cont =>
   obtain⟨_,_,_,q⟩:=d;exact False.elim q
section
variable {X:Cx} {x:Str} {p L:Pos} {e:Expr} {es:List Expr} {t:TA} {id T:String} {r:List V->Hp->VK->Prop}
def SG (r:List V->Hp->VK->Prop) (t:TA):TE:=λσ H Q=>t σ H λvs U=>r vs U Q
def BP(a:Bo X (.builtin id) r)(b:X.mg x=none)(c:PA X (e::es) t)(d:Gl X x:=by rfl)(hv:bootBuiltins x=some (.builtin id):=by decide +kernel)(f:x ≠ "__name__" :=by decide)(o:(x==("__debug__" : Str))=false:=by decide)
 (g:starEach (e::es) X.env=(false,eval e X.env)::starEach es X.env:=by rfl) (q:(backTo L (starEach es X.env)).any (·.1)=false:=by rfl):PE X (.Call (.Name x p) (e::es) [] L) (SG r t):=by
 intro pins s σ H Q I h;refine wpAny_Call_Name_kw (Jf I d b hv ?_ f o);exact PyProof.Rows.callWith_builtin1 (AV (c L pins s σ H _ I h) λi j⟨k,U,l,m,n⟩=>a pins j σ U k i Q l m n) g q
def HF(a:Bo X (.type T) r)(b:X.mg x=none)(c:PA X (e::es) t)(d:Gl X x:=by rfl)(hv:bootBuiltins x=some (.type T):=by decide +kernel)(f:x ≠ "__name__" :=by decide)(o:(x==("__debug__" : Str))=false:=by decide)
 (g:starEach (e::es) X.env=(false,eval e X.env)::starEach es X.env:=by rfl) (q:(backTo L (starEach es X.env)).any (·.1)=false:=by rfl):PE X (.Call (.Name x p) (e::es) [] L) (SG r t):=by
 intro pins s σ H Q I h;refine wpAny_Call_Name_kw (Jf I d b hv ?_ f o);exact PyProof.Rows.callWith_type1 (AV (c L pins s σ H _ I h) λi j⟨k,U,l,m,n⟩=>a pins j σ U k i Q l m n) g q
end
end L2
namespace HT
open PySem PyProof.Rows
section
open PySem.SeqAt
open PySem.AutoSeq1 (wpAny_loadPart')
open PySem.MeetsSeq PySem.MeetsSeq2 PySem.MeetsSeq3
end
section
variable {prog:Program} {w:World} {A:Around} {E:G'} {s:Shared}
def sIx (n d:Nat):Option Int->Nat
 |none=>d
 |some v=>if v<0 then(v+(n:Int)).toNat else min v.toNat n
def sIx_none(n d:Nat):sIx n d none=d:=rfl
def sIx_nat(n d k:Nat):sIx n d (some (k:Int))=min k n:=by
 show(if(k:Int)<0 then((k:Int)+(n:Int)).toNat else min (k:Int).toNat n)=min k n;rw[Ao (by lia),Bw]
end
end HT
namespace L2
open PySem PySem.Spec PyProof.Rows
abbrev TO:=St->Hp->(Option Int->Hp->Prop)->Prop
def PO (X:Cx) (e:Option Expr) (t:TO):Prop:=
 ∀(pins:B')(s:Shared)(σ:St)(H:Hp)(Q:Option Int->Hp->Prop),Inv X pins σ H s->t σ H Q ->
  wpAny (model X.prog X.w) X.A (evalPart e X.env) (λu Z=>∃o H',Inv X pins σ H' Z/\IsPart u o/\Q o H') X.xe s
def Jq:TO:=λζ H Q=>Q none H
def N0 (t:TE):TO:=λσ H Q=>t σ H λx U=>∃i,x=.int i/\Q (some i) U
def Yq{ns:List Int}:∀{a:List Value},Ay (ns.map V.int) a->IntsAre a ns:=by
 induction ns with
 |nil=>intro a r;rw[NA] at r;cases r;exact .nil
 |cons n ns b =>
   intro a r;rw[Ew] at r
   cases r with
   |cons c d =>
     obtain⟨t,e⟩:=c;subst e;exact .cons n t (b d)
section
variable {X:Cx} {e:Expr} {te:TE} {lo hi:Option Expr} {tl th:TO} {L J:Pos}
def Jr:PO X none Jq:=by
 intro a s σ H Q I h;rw[evalPart_none];exact Az ⟨none,H,I,.none,h⟩
def SI(h:PE X e te):PO X (some e) (N0 te):=by
 intro f s σ H Q I a;rw[evalPart_some];refine AV (h f s σ H _ I a) λu g⟨x,U,b,c,d⟩=>?_;obtain⟨i,rfl,q⟩:=d;obtain⟨t,rfl⟩:=c;exact⟨some i,U,b,.int i t,q⟩
def SJ (X:Cx) (r:V->Option Int->Option Int->Hp->VK->Prop):Prop:=
 ∀(pins:B')(s:Shared)(σ:St)(H:Hp)(x:V)(v vl vu:Value)(lo hi:Option Int)(sl:Addr)(Q:VK),Inv X pins σ H s->RelV x v->s.heap.IsSliceOf sl vl vu .none->IsPart vl lo->IsPart vu hi->r x lo hi H Q ->
  ∃T id,typeLookup (.type T) "__getitem__" = pure (some (.builtin id))/\s.TypeIs v T/\wpAny (model X.prog X.w) X.A (getItem v (.ref sl)) (EP X pins σ Q) X.xe s
def Yr (r:V->Option Int->Option Int->Hp->VK->Prop) (te:TE) (tl th:TO):TE:=λσ H Q=>te σ H λx U=>tl σ U λl Y=>th σ Y λu H3=>r x l u H3 Q
def VC{r:V->Option Int->Option Int->Hp->VK->Prop}(i:SJ X r)(j:PE X e te)(k:PO X lo tl)(m:PO X hi th):PE X (.Subscript e (.Slice lo hi none J) L) (Yr r te tl th):=by
 intro c s σ H Q I h;refine Subscript_ (AV (j c s σ H _ I h) λv n⟨x,U,o,p,t⟩=>?_);refine wpAny_Slice (AV (k c n σ U _ o t) λd w⟨l,Y,y,z,A⟩=>AV (m c w σ Y _ y A) λf a⟨u,g,B,C,D⟩=>?_);rw[evalPart_none];refine Az ?_;have E:Inv X c σ g {a with heap:=a.heap.push {cls:=.type "slice",data:=.fields #[d,f,.none]}}:=B.kept (t':=a.toks) λb M q=>Bn _ q;obtain⟨T,id,F,G,K⟩:=i c {a with heap:=a.heap.push {cls:=.type "slice",data:=.fields #[d,f,.none]}} σ g x v d f l u a.heap.objs.size Q E p (Heap.IsSliceOf.new ..) z C D;show wpAny (model X.prog X.w) X.A (subscriptTail e (.Slice lo hi none J) v (.ref a.heap.objs.size)) (EP X c σ Q) X.xe {a with heap:=a.heap.push {cls:=.type "slice",data:=.fields #[d,f,.none]}};exact tail_any (ops:=[.ref a.heap.objs.size,v]) G F K (by with_unfolding_all rfl)
def Fh (xs:List V) (lo hi:Option Int):List V:=(xs.drop (HT.sIx xs.length 0 lo)).take (HT.sIx xs.length xs.length hi-HT.sIx xs.length 0 lo)
def Ys(xs:List V)(lo hi:Option Int):(Fh xs lo hi).length<=xs.length:=by
 unfold Fh;rw[EJ,Ky];lia
end
def HG (n:Nat) (i:Int):Option Nat:=if 0<=i then(if i<n then some i.toNat else none) else if -(n:Int)<=i then some (i+n).toNat else none
def Bi {α:Type} (xs:List α) (i:Int):Option α:=(HG xs.length i).bind λj=>xs[j]?
variable {n:Nat}
def VD{i:Int}{j:Nat}(h:HG n i=some j):seqIndex? i n=some j/\j<n/\-(n:Int)<=i/\i<n:=by
 unfold HG at h;by_cases b:0<=i;rw[Ar b] at h;by_cases a:i<n;rw[Ar a] at h;have e:i.toNat=j:=BJ h;exact⟨by rw[seqIndex_of b a,e],by lia,by lia,a⟩;rw[Ao a] at h;cases h;rw[Ao b] at h;by_cases a:-(n:Int)<=i;rw[Ar a] at h;have e:(i+n).toNat=j:=BJ h;exact⟨by rw[seqIndex_neg (by lia) a,e],by lia,a,by lia⟩;rw[Ao a] at h;cases h
def SK{α:Type}{xs:List α}{i:Int}{v:α}(h:Bi xs i=some v):∃j,seqIndex? i xs.length=some j/\xs[j]?=some v/\j<xs.length/\-(xs.length:Int)<=i/\i<xs.length:=by
 unfold Bi at h
 cases e:HG xs.length i with
 |none=>rw[e] at h;cases h
 |some j =>
   rw[e] at h;obtain⟨a,b,c,d⟩:=VD e;exact⟨j,a,h,b,c,d⟩
def Bu{α:Type}{xs:List α}{j:Nat}{v:α}(h:xs[j]?=some v):Bi xs (j:Int)=some v:=by
 have a:j<xs.length:=(Bh.mp h).1
 have e:HG xs.length (j:Int)=some j:=by
  unfold HG;rw[Ar (by lia),Ar (by lia)];simp
 unfold Bi;rw[e];exact h
def Js (b:Expr):Prop:=∀o i,subscripted b false o i=operate [o,i] (getItem o i)
def IP (X:Cx) (r:R2):Prop:=
 ∀(d slice:Expr)(pins:B')(s:Shared)(σ:St)(H:Hp)(x y:V)(v u:Value)(Q:VK),Inv X pins σ H s->RelV x v->RelV y u->r x y H Q ->
  subscripted slice false v u=operate [v,u] (getItem v u)->wpAny (model X.prog X.w) X.A (subscriptTail d slice v u) (EP X pins σ Q) X.xe s
def KI (X:Cx) (id:String) (r:V->List V->Hp->VK->Prop):Prop:=
 ∀(pins:B')(s:Shared)(σ:St)(H:Hp)(x:V)(xs:List V)(v:Value)(us:List Value)(Q:VK),Inv X pins σ H s->RelV x v->Ay xs us->r x xs H Q ->
  wpAny (model X.prog X.w) X.A (call (.builtin id) (v::us)) (EP X pins σ Q) X.xe s
section
variable {X:Cx} {a b:Expr} {ta tb:TE} {L:Pos}
def IP.or{r a:R2}(h:IP X r)(h':IP X a):IP X (λx y H Q=>r x y H Q\/a x y H Q):=by
 intro d slice f s σ H x y v u Q I b c q e;rcases q with q|q;exact h d slice f s σ H x y v u Q I b c q e;exact h' d slice f s σ H x y v u Q I b c q e
def As{r:R2}(c:IP X r)(d:PE X a ta)(e:PE X b tb)(f:Js b:=by exact λζ ζ=>rfl):PE X (.Subscript a b L) (Hl r ta tb):=by
 intro l s σ H Q I h;exact Subscript_ (Ls d e I h λv u g x y Y i j k q=>c a b l g σ Y x y v u Q i j k q (f _ _))
def N1 (K:Aj):R2:=λx y H Q=>mX x y λp xs i v=>Af K H p xs/\Bi xs i=some v/\Q v H
def N2 (K:Aj):R2:=λx y H Q=>mX x y λp xs i v=>Al K H p xs/\Bi xs i=some v/\Q v H
def N4:R2:=λx y H Q=>∃z i c,x=.str z/\y=.int i/\z.length<=sizeLine/\Bi z.cps.toList i=some c/\Q (.str ⟨#[c]⟩) H
def Jt:IP X (N1 X.K):=by
 intro d slice l s σ H x y v u Q I m n h e
 replace h:=mX.ex h
 obtain⟨p,J,i,z,rfl,rfl,o,A,q⟩:=h;cases m;obtain⟨t,rfl⟩:=n;obtain⟨F,r,b,K⟩:=I.list o;obtain⟨j,a,B,L,C,D⟩:=SK A;obtain⟨w,f,G⟩:=r.get B;have E:=r.length;have M:=NY;have k:EP X l σ Q w s:=⟨z,H,I,G,q⟩;by_cases g:0<=i
 have c:i.toNat=j:=by
  rw[seqIndex_of g D] at a;exact BJ a
 exact item_listR b.isList g (by lia) (by rw[c];simpa using f) k e
 have c:(i+(F.toArray.size:Int)).toNat=j:=by
  rw[seqIndex_neg (by lia) C] at a;rw[Cw,<-E];exact BJ a
 exact subscriptTail_builtinR (x:=w) b.isList.typeIs slot_list_getitem.lookup
  (wpAny_getItem_list_neg (Q:=λr Z=>r=w/\EP X l σ Q r Z) b.isList (by lia) (by rw[Cw]<;>lia) (by lia) (by rw[c];simpa using f) ⟨rfl,k⟩) e
def Ly:IP X (N2 X.K):=by
 intro d slice b s σ H x y v u Q I c e h f
 replace h:=mX.ex h
 obtain⟨p,C,i,z,rfl,rfl,g,k,q⟩:=h;cases c;obtain⟨t,rfl⟩:=e;obtain⟨K,r,a,D⟩:=I.tuple g;obtain⟨j,l,m,E,F,G⟩:=SK k;obtain⟨w,n,A⟩:=r.get m;have o:=r.length;have J:=NY;have B:EP X b σ Q w s:=⟨z,H,I,A,q⟩
 exact subscriptTail_builtinR (x:=w) a.typeIs slot_tuple_getitem.lookup
  (getItem_tuple (j:=j) (Q:=λr Z=>r=w/\EP X b σ Q r Z) a (by lia) (by lia) (by rw[Cw,<-o];exact l) (by simpa using n) ⟨rfl,B⟩) f
def Lz:IP X N4:=by
 intro d slice C s σ H x y v u Q I b e h f;obtain⟨z,i,c,rfl,rfl,r,g,q⟩:=h;obtain⟨t,rfl⟩:=b;obtain⟨w,rfl⟩:=e;obtain⟨j,a,k,A,l,m⟩:=SK g;have n:z.cps.toList.length=z.length:=(by simp[Str.length]);rw[n] at a l m;have B:=NY
 exact tail_any (typeIs_str s z t) slot_str_getitem.lookup (getItem_str (c:=c) (by
  have o:decide (i < -(2 ^ 63:Int))=false:=D8 (by lia);have p:decide (i ≥ 2 ^ 63)=false:=D8 (by lia)
  rw[o,p,Bool.or_false]) (by rw[a];simpa using k) ⟨.str ⟨#[c]⟩,H,I.tok _,⟨_,rfl⟩,q⟩) f
def LA (K:Aj):R2:=λx y H Q=>N1 K x y H Q\/N2 K x y H Q\/N4 x y H Q
def At:IP X (LA X.K):=Jt.or (Ly.or Lz)
def Yt(a:List Value)(n j:Nat)(u:Value):Obj.mapSeq (·.setIfInBounds j u) {cls:=.type "list",data:=.seq a.toArray n}={cls:=.type "list",data:=.seq (a.set j u).toArray n}:=by
 simp[Obj.mapSeq]
def Inv.lst{pins:B'}{σ:St}{H:Hp}{s:Shared}{p:Addr}{xs:List V}(I:Inv X pins σ H s)(h:H p=some (.lst xs)) :
 ∃(a:List Value)(n:Nat),Ay xs a/\s.heap.get? p=some {cls:=.type "list",data:=.seq a.toArray n}/\xs.length<=sizeLine:=by
 obtain⟨z,a,n,r,e⟩:=I.hok p _ h;exact⟨a,n,r,e,z⟩
def Inv.lstUpd{pins:B'}{σ:St}{H:Hp}{s:Shared}{p:Addr}{xs ys:List V}{d its':List Value}{a:Nat}{f:Obj->Obj}(I:Inv X pins σ H s)(h:H p=some (.lst xs))
 (g:s.heap.get? p=some {cls:=.type "list",data:=.seq d.toArray n}) (c:f {cls:=.type "list",data:=.seq d.toArray n}={cls:=.type "list",data:=.seq its'.toArray a}) (r:Ay ys its') (hz:ys.length<=sizeLine) (t:Nat) :
 Inv X pins σ (upd H p (.lst ys)) {s with heap:=s.heap.update p f,toks:=t}:=by
 have e:(s.heap.update p f).get? p=some {cls:=.type "list",data:=.seq its'.toArray a}:=by
  rw[Heap.get?_update_self f g (by rw[c]<;>rfl),c]
 refine I.write (x:=p) (e:=p) (by rw[h];trivial) (.inl rfl) (λb u i q=>(Heap.get?_update_other _ _ (Ne.symm i)).trans q) ⟨_,e⟩ ?_;exact⟨hz,its',a,r,e⟩
def N5:V->V->V->Hp->(Hp->Prop)->Prop:=λo i v H Q=>∃p xs k j,o=.ref p/\i=.int k/\H p=some (.lst xs)/\HG xs.length k=some j/\Q (upd H p (.lst (xs.set j v)))
def Yu:Ji X N5:=by
 intro D s σ H o i v E F u Q I x y z h;obtain⟨p,A,k,j,rfl,rfl,e,B,q⟩:=h;cases x;obtain⟨t,rfl⟩:=y;obtain⟨w,n,r,b,C⟩:=I.lst e;obtain⟨a,G,f,g⟩:=VD B;have c:=r.length;have J:=NY
 have l:Inv X D σ (upd H p (.lst (A.set j v))) {s with heap:=s.heap.update p (Obj.mapSeq (·.setIfInBounds j u))}:=
  I.lstUpd e b (Yt w n j u) (r.set z j) (by rw[Hj];exact C) s.toks
 by_cases m:0<=k
 have d:k.toNat=j:=by
  rw[seqIndex_of m g] at a;exact BJ a
 exact PySem.W.ki_setAt b m (by lia) (by rw[Cw,<-c];exact g) (by rw[d];exact⟨_,l,q⟩)
 have d:(k+(w.toArray.size:Int)).toNat=j:=by
  rw[seqIndex_neg (by lia) f] at a;rw[Cw,<-c];exact BJ a
 exact PySem.W.ki_setBack b (by lia) (by rw[Cw,<-c];exact f) (by lia) (by rw[d];exact⟨_,l,q⟩)
def Yv(lo a:Option Int)(n:Nat):(sliceBounds lo a none n).1=((HT.sIx n 0 lo:Nat):Int)/\(sliceBounds lo a none n).2.1=((HT.sIx n n a:Nat):Int)/\(sliceBounds lo a none n).2.2=1:=by
 refine⟨?_,?_,rfl⟩
 cases lo with
 |none=>simp[sliceBounds,HT.sIx]
 |some i =>
   simp only[sliceBounds,HT.sIx,Option.getD_none,show(1:Int) > 0 by decide,if_true];by_cases h:i<0;simp only[h,if_true]<;>lia;simp only[h,if_false]<;>lia
 cases a with
 |none=>simp[sliceBounds,HT.sIx]
 |some i =>
   simp only[sliceBounds,HT.sIx,Option.getD_none,show(1:Int) > 0 by decide,if_true];by_cases h:i<0;simp only[h,if_true]<;>lia;simp only[h,if_false]<;>lia
def Yw(a:List Value)(lo b:Option Int):slicePick a.toArray lo b none=((a.drop (HT.sIx a.length 0 lo)).take (HT.sIx a.length a.length b-HT.sIx a.length 0 lo)).toArray:=by
 obtain⟨c,d,e⟩:=Yv lo b a.toArray.size;unfold slicePick;rw[c,d,e];simp only[sliceRange_one,pick_run,Cw]<;>rfl
def SM (K:Aj):V->Option Int->Option Int->Hp->VK->Prop:=λx lo hi H Q=>∃a xs,x=.ref a/\Af K H a xs/\∀p,H p=none->Q (.ref p) (upd H p (.lst (Fh xs lo hi)))
def VE:SJ X (SM X.K):=by
 intro z s σ H x v p t d e u Q I g i j k h;obtain⟨a,c,rfl,l,q⟩:=h;cases g;obtain⟨y,r,f,m⟩:=I.list l;have n:=r.length;refine⟨"list",_,slot_list_getitem.lookup,f.isList.typeIs,?_⟩;refine wpAny_getItem_list_slice f.isList i j k .none (by simp) ?_ (by rw[Cw]<;>lia);rw[Yw,<-n];refine⟨.ref s.heap.objs.size,_,I.laid (t':=s.toks) (o:=.lst (Fh c d e)) (λb w q=>Bn _ q) (AI _) ?_,rfl,q _ (I.hok.fresh (AI _))⟩;exact⟨EN (Ys c d e) m,_,0,(r.drop (HT.sIx c.length 0 d)).take (HT.sIx c.length c.length e-HT.sIx c.length 0 d),Co _ rfl⟩
def SN:Bo X (.type "list") (λxs H Q=>∃p ys,xs=[.ref p]/\(Af X.K H p ys\/Al X.K H p ys)/\∀l,H l=none->Q (.ref l) (upd H l (.lst ys))):=by
 intro y s σ H xs A Q I r h;obtain⟨p,ys,rfl,g,q⟩:=h;obtain⟨u,rfl,x⟩:=F3 r;cases x
 have w:∀(c:List Value),Ay ys c->ys.length<=sizeLine->∀(a:Heap)(d:Nat),(∀b v,s.heap.get? b=some v->a.get? b=some v) ->
  a.get? s.heap.objs.size=some {cls:=.type "list",dict:=none,data:=.seq c.toArray d,slots:=#[]}->EP X y σ Q (.ref s.heap.objs.size) {s with heap:=a}:=λc f i a d j e =>
  ⟨.ref s.heap.objs.size,_,I.laid (t':=s.toks) j (AI _) (show AF X.prog X.w _ a _ (.lst ys) from⟨i,c,d,f,e⟩),rfl,q _ (I.hok.fresh (AI _))⟩
 rcases g with g|g;obtain⟨c,f,k,i⟩:=I.list g;have z:=f.length;obtain⟨o,m,t,n,hd⟩:=k.isList;exact call_list_seq p (.inl rfl) m t hd (λa d j e=>w c f i a d j e) (by simp only[Cw]<;>lia);obtain⟨c,f,k,i⟩:=I.tuple g;have z:=f.length;obtain⟨o,m,t,n,hd⟩:=k;exact call_list_seq p (.inr rfl) m t hd (λa d j e=>w c f i a d j e) (by simp only[Cw]<;>lia)
def Yx:Bo X (.type "tuple") (λxs H Q=>∃p ys,xs=[.ref p]/\((Af X.K H p ys/\∀l,H l=none->Q (.ref l) (upd H l (.tup ys)))\/(Al X.K H p ys/\Q (.ref p) H))):=by
 intro k s σ H xs v Q I r h;obtain⟨p,ys,rfl,h⟩:=h;obtain⟨u,rfl,m⟩:=F3 r;cases m;rcases h with⟨c,q⟩|⟨c,q⟩;obtain⟨g,d,f,i⟩:=I.list c;have w:=d.length;refine call_tuple_list f.isList (λa n=>?_) (by simp only[Cw]<;>lia);have j:Inv X k σ H {s with heap:=a}:=I.kept (t':=s.toks) n
 have t:Inv X k σ (upd H a.objs.size (.tup ys)) {s with heap:=a.push {cls:=.type "tuple",data:=.seq g.toArray}}:=
  j.laid (t':=s.toks) (λb o e=>Bn _ e) (AI _) (show AF X.prog X.w _ _ _ (.tup ys) from⟨i,g,d,IsTup.new _ _⟩)
 exact⟨.ref a.objs.size,_,t,rfl,q _ (j.hok.fresh (AI _))⟩;obtain⟨g,d,f,i⟩:=I.tuple c;exact call_tuple_same f ⟨.ref p,H,I,rfl,q⟩
def SO (K:Aj) (T:String) (x:V) (H:Hp):Prop:=match x with
 |.str _=>T = "str"
 |.int _=>T = "int"
 |.ref p=>(T = "list" /\ ∃xs,Af K H p xs)\/(T = "tuple" /\ ∃o,K.lookup p=some o/\o.cls=.type "tuple" /\ o.dict=none) \/
  (T = "dict" /\ ((∃kvs,H p=some (.dK kvs))\/∃kvs,H p=some (.dT kvs)))\/(T = "set" /\ ∃S n,H p=some (.set S n))
 |_=>False
def HH{pins:List (Addr × Obj)}{σ:St}{H:Hp}{s:Shared}{T:String}{x:V}{v:Value}(I:Inv X pins σ H s)(r:RelV x v)(ty:SO X.K T x H) :
 s.TypeIs v T/\∀a,v=.ref a->∃ob,s.heap.get? a=some ob/\ob.dict=none:=by
 cases x with
 |str z =>
   obtain⟨t,rfl⟩:=r
   cases(show T = "str" from ty)
   exact⟨typeIs_str s z t,λζ e=>nomatch e⟩
 |int i =>
   obtain⟨t,rfl⟩:=r
   cases(show T = "int" from ty)
   exact⟨typeIs_int s i t,λζ e=>nomatch e⟩
 |ref p =>
   cases r;rcases ty with⟨rfl,k,g⟩|⟨rfl,o,b,h,hd⟩|⟨rfl,b⟩|⟨rfl,S,n,b⟩;obtain⟨l,_,f,_⟩:=I.list g;refine⟨f.isList.typeIs,λa e=>?_⟩;cases e;obtain⟨o,n,e,c,hd,_⟩:=f;exact⟨o,e,hd⟩;refine⟨⟨o,I.kIn p o b,h⟩,λa e=>?_⟩;cases e;exact⟨o,I.kIn _ o b,hd⟩
   have z:∃o,s.heap.get? p=some o/\o.ExactDict:=by
    rcases b with⟨j,b⟩|⟨j,b⟩;obtain⟨_,_,_,_,o,_,_,e,ex,_⟩:=I.hok p _ b;exact⟨o,e,ex⟩;obtain⟨_,_,_,_,o,_,_,e,ex,_⟩:=I.hok p _ b;exact⟨o,e,ex⟩
   obtain⟨o,e,ex⟩:=z;refine⟨⟨o,e,ex.1⟩,λa d=>?_⟩;cases d;exact⟨o,e,ex.2.1⟩;obtain⟨o,_,_,_,e,ex,_⟩:=I.hok p _ b;refine⟨⟨o,e,ex.1⟩,λa d=>?_⟩;cases d;exact⟨o,e,ex.2.1⟩
 |_=>exact False.elim ty
def SQ (K:Aj) (T:String) (r:V->List V->Hp->VK->Prop) (g:TE):TE:=λσ H Q=>g σ H λx U=>SO K T x U/\r x [] U Q
def Yy (K:Aj) (T:String) (r:V->List V->Hp->VK->Prop) (g:TE) (t:TA):TE:=λσ H Q=>g σ H λx U=>SO K T x U/\t σ U λxs Y=>r x xs Y Q
variable {o e:Expr} {es:List Expr} {g:TE} {t:TA} {name:Str} {apos cpos:Pos} {T id:String} {r:V->List V->Hp->VK->Prop}
def LB(d:PlainAttrs T)(n:Slot T name id)(m:typeOf (.builtin id)=pure (.type "method_descriptor"))(e:KI X id r)(f:PE X o g)
 (p:attributeBase o name X.env (eval o X.env)=eval o X.env:=by rfl) (q:(apos.endLine==cpos.line)=true:=by rfl):PE X (.Call (.Attribute o name apos) [] [] cpos) (SQ X.K T r g):=by
 intro c s σ H Q I h;refine wpAny_Call_method0_late p q (AV (f c s σ H _ I h) λv i⟨x,U,a,b,ty,j⟩=>?_);obtain⟨k,l⟩:=HH a b ty;exact⟨T,id,d,n,m,k,l,Calls.callWith_builtin rfl (PySem.evalArgs_none (e c i σ U x [] v [] Q a b .nil j))⟩
def Dj(f:PlainAttrs T)(D:Slot T name id)(C:typeOf (.builtin id)=pure (.type "method_descriptor"))(i:KI X id r)(j:PE X o g)(k:PA X (e::es) t)
 (F:attributeBase o name X.env (eval o X.env)=eval o X.env:=by rfl)
 (E:((backTo cpos (starEach (e::es) X.env)).all (λx=>!x.1) && (backToKw cpos (keywordEach [] X.env)).all (λx=>x.1.isSome)
  && decide ((e::es).length+([]:List Keyword).length+(if([]:List Keyword).isEmpty then 0 else 1)<30))=true:=by rfl)
 (G:(apos.endLine==cpos.line)=true:=by rfl) (l:starEach (e::es) X.env=(false,eval e X.env)::starEach es X.env:=by rfl) (J:(backTo cpos (starEach es X.env)).any (·.1)=false:=by rfl) :
 PE X (.Call (.Attribute o name apos) (e::es) [] cpos) (Yy X.K T r g t):=by
 intro a s σ H Q I h;refine wpAny_Call_method_late F E G rfl (AV (j a s σ H _ I h) λv m⟨x,U,b,c,ty,n⟩=>?_);obtain⟨p,q⟩:=HH b c ty;refine⟨T,id,f,D,C,p,q,?_⟩;have d:=k cpos a m σ U _ b n;rw[l] at d ⊢;refine Calls.callWith_builtin (by show(false || (backTo cpos (starEach es X.env)).any (·.1))=false;rw[J]<;>rfl) (Calls.evalArgs_plain ?_);exact AV d λu w⟨y,Y,z,A,B⟩=>i a w σ Y x y v u Q z c A B
end
def SS (X:Cx) (id:String) (r:V->List V->Hp->VK->Prop):Prop:=
 ∀(pins:B')(s:Shared)(σ:St)(H:Hp)(x:V)(xs:List V)(v:Value)(us:List Value)(Q:VK),Inv X pins σ H s->RelV x v->Ay xs us->r x xs H Q ->
  wpAny (model X.prog X.w) X.A (call (.builtin id) (v::us)) (EP X pins σ Q) X.xe s
theorem Ay.one:∀{x:V}{a:List Value},Ay [x] a->∃u,a=[u]/\RelV x u
 |_,_,.cons r .nil=>⟨_,rfl,r⟩
theorem Ay.zero:∀{a:List Value},Ay [] a->a=[]
 |_,.nil=>rfl
section
variable {X:Cx} {pins:B'} {σ:St} {H:Hp} {s:Shared} {l b:Addr} {xs ys zs:List V}
def Inv.lset{a its':List Value}{f:Array Value->Array Value}{t':Nat}(I:Inv X pins σ H s)(b:H l=some (.lst xs))
 (e:s.heap.get? l=some {cls:=.type "list",data:=.seq a.toArray n}) (c:f a.toArray=its'.toArray) (hv:Ay ys its') (hz:ys.length<=sizeLine) :
 Inv X pins σ (upd H l (.lst ys)) {s with heap:=s.heap.update l (Obj.mapSeq f),toks:=t'}:=by
 have q:=PySem.IsL.update e f;rw[c] at q;refine I.write (x:=l) (e:=l) (by rw[b];exact trivial) (.inl rfl) (λh u d g=>(Heap.get?_update_other s.heap (Obj.mapSeq f) (Ne.symm d)).trans g) ⟨_,q⟩ ?_;exact⟨hz,its',_,hv,q⟩
def Inv.lnew{a:List Value}{t':Nat}(I:Inv X pins σ H s)(hv:Ay ys a)(hz:ys.length<=sizeLine) :
 Inv X pins σ (upd H s.heap.objs.size (.lst ys)) {s with heap:=s.heap.push {cls:=.type "list",data:=.seq a.toArray},toks:=t'}:=
 I.laid (λζ ζ q=>Bn _ q) (AI _) ⟨hz,a,0,hv,Co _ rfl⟩
def Inv.fresh(I:Inv X pins σ H s):H s.heap.objs.size=none:=I.hok.fresh (AI _)
def Inv.lstM(I:Inv X pins σ H s)(b:H l=some (.lst xs)):xs.length<=sizeLine/\∃(a:List Value)(n:Nat),Ay xs a/\xs.length=a.length/\s.heap.get? l=some {cls:=.type "list",data:=.seq a.toArray n}:=by
 obtain⟨z,a,n,r,e⟩:=I.hok l _ b;exact⟨z,a,n,r,r.length,e⟩
def Yz(h:n<=sizeLine):Builtin.List.listTooLong n=false:=by
 unfold Builtin.List.listTooLong;exact D8 (by lia)
end
section
variable {X:Cx}
def VF:V->List V->Hp->VK->Prop:=λx vs H Q=>mA x vs λl xs y=>H l=some (.lst xs)/\xs.length<sizeLine/\Q .non (upd H l (.lst (xs++[y])))
theorem VG:SS X "list.append" VF:=by
 intro o s σ H x g v i Q I c d h
 replace h:=mA.ex h
 obtain⟨l,j,y,rfl,rfl,a,k,q⟩:=h;cases c;obtain⟨u,rfl,f⟩:=d.one;obtain⟨z,b,n,r,m,e⟩:=I.lstM a;refine call_meets F.slot_list_append ⟨_,e,rfl⟩ F.entry_list_append (F.args_list_append_2 _ _) (PySem.list_append l b.toArray n u (by rw[Cw];lia)) ⟨e,?_⟩;refine⟨.non,_,I.lset (its':=b++[u]) a e (by simp) (r.append (.cons f .nil)) ?_,rfl,q⟩;rw[AQ,Ef];lia
def VH:V->List V->Hp->VK->Prop:=λx vs H Q=>∃l b xs zs,x=.ref l/\vs=[.ref b]/\H l=some (.lst xs)/\H b=some (.lst zs)/\xs.length+zs.length<=sizeLine/\Q .non (upd H l (.lst (xs++zs)))
theorem YA:SS X "list.extend" VH:=by
 intro J s σ H x w v y Q I f g h;obtain⟨l,b,A,B,rfl,rfl,d,i,C,q⟩:=h;cases f;obtain⟨u,rfl,j⟩:=g.one;cases j;obtain⟨z,a,n,r,D,e⟩:=I.lstM d;obtain⟨E,c,k,m,G,o⟩:=I.lstM i;have p:a.toArray.size+c.toArray.size<=sizeLine:=by rw[Cw,Cw];lia
 have t:¬(!a.toArray.isEmpty && Builtin.List.listTooLong (a.toArray.size+c.toArray.size))=true:=by
  rw[Yz p,Bool.and_false];exact CS
 refine call_meets F.slot_list_extend ⟨_,e,rfl⟩ F.entry_list_extend (F.args_list_extend_2 _ _)
  (AutoSeq1.list_extend_list_list_0 l a.toArray n b c.toArray k t (by rw[Cw];lia) (by lia)) ⟨e,o,?_⟩
 refine⟨.non,_,I.lset (its':=a++c) d e (by simp) (r.append m) ?_,rfl,q⟩;rw[AQ];lia
def HI:V->List V->Hp->VK->Prop:=λx vs H Q=>∃l xs,x=.ref l/\vs=[]/\H l=some (.lst xs)/\Q .non (upd H l (.lst []))
theorem YB:SS X "list.clear" HI:=by
 intro m s σ H x g v i Q I b c h;obtain⟨l,j,rfl,rfl,a,q⟩:=h;cases b;have d:=c.zero;subst d;obtain⟨z,f,n,r,k,e⟩:=I.lstM a;refine call_meets F.slot_list_clear ⟨_,e,rfl⟩ F.entry_list_clear (F.args_list_clear_1 _) (AutoSeq1.list_clear_list_0 l f.toArray n (by rw[Cw];lia)) ⟨e,?_⟩;exact⟨.non,_,I.lset (its':=[]) (ys:=[]) a e rfl .nil (CO _),rfl,q⟩
def SU:R2:=λx y H Q=>∃l b xs zs,x=.ref l/\y=.ref b/\H l=some (.lst xs)/\H b=some (.lst zs)/\xs.length+zs.length<=sizeLine/\∀p,H p=none->Q (.ref p) (upd H p (.lst (xs++zs)))
def KJ:Dr X (binaryOp .Add) SU:=by
 intro D s σ H x y v u Q I d f h;obtain⟨l,b,o,p,rfl,rfl,g,i,t,q⟩:=h;cases d;cases f;obtain⟨z,a,n,r,w,e⟩:=I.lstM g;obtain⟨A,c,B,j,C,k⟩:=I.lstM i;refine PySem.P.add_list e k ?_ (by rw[Cw,Cw];lia);have m:a.toArray++c.toArray=(a++c).toArray:=(by simp);rw[m];exact⟨.ref _,_,I.lnew (t':=s.toks) (r.append j) (by rw[AQ];lia),rfl,q _ I.fresh⟩
end
section
variable {prog:Program} {w:World} {A:Around} {E:G'} {s:Shared}
end
section
variable {X:Cx}
end
section
variable {κ:Type} [DecidableEq κ]
def Ba (kvs:List (κ×V)) (k:κ):Option V:=(kvs.find? λkv=>decide (kv.1=k)).map (·.2)
def BC (kvs:List (κ×V)) (k:κ) (v:V):List (κ×V):=
 if(kvs.any λkv=>decide (kv.1=k))=true then kvs.map (λkv=>if kv.1=k then(kv.1,v) else kv) else kvs++[(k,v)]
def Ho{p:κ×V}{r:List (κ×V)}{k:κ}(e:p.1=k):Ba (p::r) k=some p.2:=by simp[Ba,MX,e]
def Hq{p:κ×V}{r:List (κ×V)}{k:κ}(e:¬p.1=k):Ba (p::r) k=Ba r k:=by simp[Ba,MX,e]
theorem N6(k:κ):∀kvs:List (κ×V),(kvs.any λa=>decide (a.1=k))=(Ba kvs k).isSome
 |[]=>rfl
 |p::r=>by
   rw[List.any_cons];by_cases e:p.1=k;simp only[Ho e,AY e,Bool.true_or,Option.isSome_some];rw[Hq e,D8 e,Bool.false_or];exact N6 k r
theorem VI(k j:κ)(y:V):∀kvs:List (κ×V),Ba (kvs.map λa=>if a.1=k then(a.1,y) else a) j=(Ba kvs j).map λx=>if j=k then y else x
 |[]=>rfl
 |p::r=>by
   have b:=VI k j y r;rw[Ew];by_cases h:p.1=k;rw[Ar h];by_cases e:p.1=j;rw[Ho (p:=(p.1,y)) e,Ho e,Option.map_some,Ar (e.symm.trans h)];rw[Hq (p:=(p.1,y)) e,Hq e,b];rw[Ao h];by_cases e:p.1=j;rw[Ho (p:=p) e,Ho e,Option.map_some,Ao (λz=>h (e.trans z))];rw[Hq (p:=p) e,Hq e,b]
theorem VJ(k j:κ)(y:V):∀kvs:List (κ×V),Ba kvs k=none->Ba (kvs++[(k,y)]) j=if j=k then some y else Ba kvs j
 |[],_=>by
   by_cases e:k=j;rw[Ar e.symm];exact Ho (p:=(k,y)) e;rw[Ao (λz=>e z.symm)];exact Hq (p:=(k,y)) e
 |p::r,a=>by
   rw[List.cons_append];have b:¬p.1=k:=λz=>by rw[Ho z] at a;cases a
   rw[Hq b] at a;have c:=VJ k j y r a;by_cases e:p.1=j;rw[Ho e,Ho e,Ao (λz=>b (e.trans z))];rw[Hq e,Hq e,c]
def YC(kvs:List (κ×V))(k j:κ)(y:V):Ba (BC kvs k y) j=if j=k then some y else Ba kvs j:=by
 unfold BC;by_cases a:(kvs.any λb=>decide (b.1=k))=true;rw[Ar a,VI];rw[N6] at a;by_cases e:j=k;obtain⟨x,c⟩:=Option.isSome_iff_exists.mp a;rw[Ar e,e,c,Option.map_some,Ar rfl];rw[Ao e]
 cases Ba kvs j with
 |none=>rfl
 |some x=>rw[Option.map_some,Ao e]
 rw[Ao a];refine VJ k j y kvs ?_;rw[N6] at a
 cases q:Ba kvs k with
 |none=>rfl
 |some x=>rw[q] at a;exact(a rfl).elim
def PH(kvs:List (κ×V))(k:κ)(v:V):(BC kvs k v).length<=kvs.length+1:=by
 unfold BC;split;rw[Ak];lia;rw[AQ,EG,GX];lia
def Ex.isSome_eq{o:Option V}{u:Option Value}(r:Ex o u):o.isSome=u.isSome:=by
 cases o with
 |none=>cases u with
   |none=>rfl
   |some _=>exact(show False from r).elim
 |some _=>cases u with
   |none=>exact(show False from r).elim
   |some _=>rfl
def Ex.getD{o:Option V}{u:Option Value}{d:V}{d':Value}(r:Ex o u)(a:RelV d d'):RelV (o.getD d) (u.getD d'):=by
 cases o with
 |none=>cases u with
   |none=>exact a
   |some _=>exact(show False from r).elim
 |some _=>cases u with
   |none=>exact(show False from r).elim
   |some _=>exact r
variable {kvs:List (κ×V)}{vs:List (κ×Value)}
def KV.val(r:KV kvs vs)(k:κ):Ex (Ba kvs k) (valueAt vs k):=by
 unfold KV at r
 induction r with
 |nil=>exact True.intro
 |@cons p q i a h t f =>
   obtain⟨d,g⟩:=h;by_cases e:p.1=k;have c:q.1=k:=d.symm.trans e;have b:valueAt (q::a) k=some q.2:=(by simp[valueAt,MX,c]);rw[Ho e,b];exact g;have c:¬q.1=k:=λz=>e (d.trans z);have b:valueAt (q::a) k=valueAt a k:=(by simp[valueAt,MX,c]);rw[Hq e,b];exact f
def KV.any{kvs:List (κ×V)}{vs:List (κ×Value)}(r:KV kvs vs)(k:κ):(kvs.any λa=>decide (a.1=k))=vs.any λa=>decide (a.1=k):=by
 unfold KV at r
 induction r with
 |nil=>rfl
 |cons h t b=>rw[List.any_cons,List.any_cons,b,h.1]
def KV.repl(r:KV kvs vs)(k:κ){y:V}{u:Value}(c:RelV y u) :
 KV (kvs.map λa=>if a.1=k then(a.1,y) else a) (vs.map λa=>if a.1=k then(a.1,u) else a):=by
 unfold KV at r ⊢
 induction r with
 |nil=>exact .nil
 |@cons p q g i h t d =>
   rw[Ew,Ew];refine .cons ?_ d;obtain⟨b,f⟩:=h;by_cases e:p.1=k;rw[Ar e,Ar (b.symm.trans e)];exact⟨b,c⟩;rw[Ao e,Ao (λz=>e (b.trans z))];exact⟨b,f⟩
def KV.put(r:KV kvs vs)(k:κ){y:V}{u:Value}(a:RelV y u):KV (BC kvs k y) (stored vs k u):=by
 unfold BC stored;rw[r.any k];by_cases e:(vs.any λb=>decide (b.1=k))=true;rw[Ar e,Ar e];exact r.repl k a;rw[Ao e,Ao e];exact Paired.snoc r ⟨rfl,a⟩
def KV.length{kvs:List (κ×V)}{vs:List (κ×Value)}(r:KV kvs vs):kvs.length=vs.length:=Paired.length r
end
variable {P:Program}{w:World}{u:Value}
def N7{k:A8}(r:RelV (kV k) u):(Ff P w).is k u=true:=by
 cases k with
 |inl i=>obtain⟨t,e⟩:=(show ∃t,u=Value.int i t from r);subst e;exact X9 P w i t
 |inr x=>obtain⟨t,e⟩:=(show ∃t,u=Value.str x t from r);subst e;exact Yb P w x t
theorem VL{P:Program}{w:World}:∀{ks:List A8}{a:List Value},Ay (ks.map kV) a->ItemsAre (Ff P w) ks a
 |[],_,r=>by rw[NA] at r;cases r;exact .nil
 |k::ks,_,r=>by
   rw[Ew] at r
   cases r with
   |cons h t=>exact .cons (N7 h) (VL t)
abbrev KT (H:Hp):List (List A8×V)->List (List A8×Addr×Value)->Prop:=Paired λp q=>p.1=q.1/\H q.2.1=some (.tup (p.1.map kV))/\RelV p.2 q.2.2
variable {H:Hp}{kvs:List (List A8×V)}{xs:List (List A8×Addr×Value)}
def KT.val(r:KT H kvs xs)(k:List A8):Ex (Ba kvs k) ((atKey xs k).map (·.2)):=by
 induction r with
 |nil=>exact True.intro
 |@cons p q i a h t f =>
   obtain⟨d,_,g⟩:=h;by_cases e:p.1=k;have c:q.1=k:=d.symm.trans e;have b:atKey (q::a) k=some q.2:=(by simp[atKey,MX,c]);rw[Ho e,b];exact g;have c:¬q.1=k:=λz=>e (d.trans z);have b:atKey (q::a) k=atKey a k:=(by simp[atKey,MX,c]);rw[Hq e,b];exact f
variable {y:V}
def KT.repl(r:KT H kvs xs)(k:List A8)(d:RelV y u) :
 KT H (kvs.map λb=>if b.1=k then(b.1,y) else b) (xs.map (putAt k u)):=by
 induction r with
 |nil=>exact .nil
 |@cons p q i j h t f =>
   rw[Ew,Ew];refine .cons ?_ f;obtain⟨a,c,g⟩:=h;unfold putAt;by_cases e:p.1=k;rw[Ar e,Ar (a.symm.trans e)];exact⟨a,c,d⟩;rw[Ao e,Ao (λz=>e (a.trans z))];exact⟨a,c,g⟩
def KT.put(r:KT H kvs xs)(k:List A8){b:Addr}(c:H b=some (.tup (k.map kV)))(a:RelV y u) :
 KT H (BC kvs k y) (storedH xs k b u):=by
 have e:(kvs.any λd=>decide (d.1=k))=(atKey xs k).isSome:=by
  rw[N6,(r.val k).isSome_eq,Option.isSome_map]
 unfold BC storedH;rw[e];by_cases q:(atKey xs k).isSome=true;rw[Ar q,Ar q];exact r.repl k a;rw[Ao q,Ao q];exact Paired.snoc r ⟨rfl,c,a⟩
variable {H':Hp}
def KT.keeps(r:KT H kvs xs)(a:∀b ys,H b=some (.tup ys)->H' b=some (.tup ys)):KT H' kvs xs:=
 Paired.mapP r λζ ζ z=>⟨z.1,a _ _ z.2.1,z.2.2⟩
section
variable {P:Program} {w:World} {H:Hp} {h:Heap} {a:Addr}
def HJ{u:HO}(ok:CT P w H h)(e:Rd H a u):AF P w H h a u:=e.ok ok
def M9{kvs:List (A8×V)}(ok:CT P w H h)(e:Rd H a (.dK kvs)):kvs.length<=sizeLine/\(a==sysModules)=false/\∃vs,KV kvs vs/\h.DictOf (Ff P w) a vs:=
 show AF P w H h a (.dK kvs) from HJ ok e
def N8{kvs:List (A8×V)}(ok:CT P w H h)(e:H a=some (.dK kvs)):kvs.length<=sizeLine/\(a==sysModules)=false/\∃vs,KV kvs vs/\h.DictOf (Ff P w) a vs:=M9 ok (.inl e)
def LD{ks:List A8}(ok:CT P w H h)(e:H a=some (.tup (ks.map kV))):(tupleKind (Ff P w)).is h ks a:=by
 obtain⟨_,f,r,o,b,c,n,d⟩:=(show AF P w H h a (.tup (ks.map kV)) from ok a _ e);exact⟨o,f.toArray,n,b,c,d,by simpa using VL r⟩
def Na(ok:CT P w H h)(e:Rd H a (.dT kvs)):kvs.length<=sizeLine/\(a==sysModules)=false /\
 ∃xs,KT H kvs xs/\h.DictOfH (tupleKind (Ff P w)) a xs:=by
 obtain⟨z,y,xs,r,o,d,f,g,i,j,k,n⟩:=(show AF P w H h a (.dT kvs) from HJ ok e);refine⟨z,y,xs,r,o,d,f,g,i,j,k,λx b=>?_,n⟩
 have all:∀{l:List (List A8 × V)}{m:List (List A8 × Addr × Value)},KT H l m -> ∀x∈m,(tupleKind (Ff P w)).is h x.1 x.2.1:=by
  intro l m q
  induction q with
  |nil=>intro x b;exact nomatch b
  |@cons p q u v c t s =>
    intro x b;rcases Cc.mp b with e|b;subst e;exact LD ok (by rw[<-c.1];exact c.2.1);exact s x b
 exact all r x b
def HK(ok:CT P w H h)(e:H a=some (.dT kvs)):kvs.length<=sizeLine/\(a==sysModules)=false /\
 ∃xs,KT H kvs xs/\h.DictOfH (tupleKind (Ff P w)) a xs:=Na ok (.inl e)
end
def Fi (H:Hp) (a:Addr) (y:V) (r:Option V):Prop:=
 (∃kvs k,Rd H a (.dK kvs)/\y=kV k/\r=Ba kvs k)\/∃kvs k b,Rd H a (.dT kvs)/\y=.ref b/\H b=some (.tup (k.map kV))/\r=Ba kvs k
def N9 (H:Hp) (a:Addr) (y v:V) (H':Hp):Prop:=
 (∃kvs k,H a=some (.dK kvs)/\y=kV k/\kvs.length<sizeLine/\H'=upd H a (.dK (BC kvs k v))) \/
 ∃kvs k b,H a=some (.dT kvs)/\y=.ref b/\H b=some (.tup (k.map kV))/\kvs.length<sizeLine/\H'=upd H a (.dT (BC kvs k v))
variable {a:Addr}
def Fi.t{b:Addr}{k:List A8}(e:H a=some (.dT kvs))(c:H b=some (.tup (k.map kV))):Fi H a (.ref b) (Ba kvs k):=.inr ⟨kvs,k,b,.inl e,rfl,c,rfl⟩
section
variable {X:Cx} {pins:B'} {σ:St} {H:Hp} {s:Shared} {a:Addr} {y v:V} {u r:Value} {o:Option V} {A:Around} {E:G'}
def Inv.big(I:Inv X pins σ H s):sysModules<s.heap.objs.size:=by
 have h:mainGlobals<s.heap.objs.size:=(I.mod.glob.keeps I.bk).lt;exact Nat.lt_trans (by decide) h
def YD{Q:G'}(q:A.units+1<cLine)(I:Inv X pins σ H s)(g:Fi H a y (some v))(n:RelV y u)(h:∀c Z,Inv X pins σ H Z->RelV v c->Q c Z) :
 wpAny (model X.prog X.w) A (getItem (.ref a) u) Q E s:=by
 rcases g with⟨kvs,k,e,d,l⟩|⟨kvs,k,b,e,d,r,l⟩;subst d;obtain⟨z,hd,t,j,f⟩:=M9 I.hok e;obtain⟨c,i,m⟩:=Ex.some_of (v:=v) (o:=valueAt t k) (by rw[l];exact j.val k);exact wpAny_getItem_of (N7 n) f.mapOf i (h c _ (I.tok _) m);subst d
 cases(show u=Value.ref b from n);obtain⟨z,hd,xs,j,f⟩:=Na I.hok e;obtain⟨c,i,m⟩:=Ex.some_of (v:=v) (o:=(atKey xs k).map (·.2)) (by rw[l];exact j.val k);obtain⟨p,w,x⟩:=E8.mp i;refine wpAny_getItem_heap (tupleKind_room_in1 q) (LD I.hok r) f w ?_;rw[x];exact h c _ (I.tok _) m
def SV{Q:G'}(j:A.units+1<cLine)(I:Inv X pins σ H s)(g:Fi H a y o)(i:RelV y u)(h:∀Z,Inv X pins σ H Z->Q (.bool o.isSome) Z) :
 wpAny (model X.prog X.w) A (compareOp .In u (.ref a)) Q E s:=by
 rcases g with⟨kvs,k,e,c,l⟩|⟨kvs,k,b,e,c,m,l⟩;subst c;obtain⟨z,hd,n,f,d⟩:=M9 I.hok e;refine wpAny_in_of (N7 i) hd d.mapOf ?_;rw[<-(f.val k).isSome_eq,<-l];exact h _ (I.tok _);subst c
 cases(show u=Value.ref b from i);obtain⟨z,hd,xs,f,d⟩:=Na I.hok e;refine wpAny_in_heap (tupleKind_room_in1 j) (LD I.hok m) hd d ?_;have q:=(f.val k).isSome_eq;rw[Option.isSome_map] at q;rw[<-q,<-l];exact h _ (I.tok _)
def PJ{h':Heap}{t':Nat}{ob:HO}(I:Inv X pins σ H s)(c:NF (H a))(d:Heap.SameBut a s.heap h')(f:∃q,h'.get? a=some q)(h:AF X.prog X.w (upd H a ob) h' a ob) :
 Inv X pins σ (upd H a ob) {s with heap:=h',toks:=t'}:=
 I.write (x:=a) (e:=a) c (.inl rfl) (λb q g z=>(d.2 b g).trans z) f h
def LF{h':Heap}{kvs:List (A8×V)}{vs:List (A8×Value)}(z:kvs.length<=sizeLine)(hd:(a==sysModules)=false)(c:KV kvs vs)(b:h'.DictOf (Ff P w) a vs) :
 AF P w H' h' a (.dK kvs):=⟨z,hd,vs,c,b⟩
def YE{Q:Unit->Shared->Prop}(F:A.units+1<cLine)(I:Inv X pins σ H s)(g:N9 H a y v H')(w:RelV y u)(x:RelV v r)(h:∀Z,Inv X pins σ H' Z->Q () Z) :
 wpAny (model X.prog X.w) A (setItem (.ref a) u r) Q E s:=by
 rcases g with⟨kvs,k,e,j,l,m⟩|⟨kvs,k,b,e,j,B,l,m⟩;subst j m;obtain⟨z,hd,G,d,n⟩:=N8 I.hok e;have o:G.length<=sizeLine:=by rw[<-d.length];exact z
 have p:(BC kvs k v).length<=sizeLine:=by have:=PH kvs k v;lia
 refine wpAny_setItem_pairs (hsz:=o) (N7 w) n λC i t=>h _ ?_;have J:∃q,C.get? a=some q:=let ⟨q,_,_,f,_⟩:=i;⟨q,f⟩;exact PJ I (by rw[e];exact True.intro) t J (LF p hd (d.put k x) i);subst j m
 cases(show u=Value.ref b from w);obtain⟨z,hd,xs,d,n⟩:=HK I.hok e
 have o:xs.length<=sizeLine:=by rw[<-Paired.length d];exact z
 have p:(BC kvs k v).length<=sizeLine:=by have:=PH kvs k v;lia
 refine wpAny_setItem_heap (hsz:=o) (tupleKind_room_in1 F) (LD I.hok B) n λC i t=>h _ ?_;obtain⟨q,K,L,f,M,N,O,_,P⟩:=i;refine PJ I (by rw[e];exact True.intro) t ⟨q,f⟩ ⟨p,hd,_,(d.put k B x).keeps λc R D=>?_,q,K,L,f,M,N,O,P⟩;rw[AE (MZ D e (λz=>nomatch z))];exact D
end
section
variable {X:Cx} {pins:B'} {σ:St} {H:Hp} {s:Shared} {a:Addr} {kvs:List (A8×V)} {k:A8} {u:Value} {A:Around} {E:G'}
end
def Oa (i:Expr):Prop:=∀ov iv,subscripted i false ov iv=operate [ov,iv] (getItem ov iv)
variable {s:Shared}
def Ju{prog:Program}{A:Around}{E:G'}{env:Env}{d slice:Expr}{L:Pos}{T id:String}{Q:G'}
 (j:typeLookup (.type T) "__getitem__" = pure (some (.builtin id))) (k:Oa slice)
 (h:wpAny (model prog w) A (eval d env) (λo e=>wpAny (model prog w) A (eval slice env) (λi a=>a.TypeIs o T/\wpAny (model prog w) A (getItem o i) Q E a) E e) E s) :
 wpAny (model prog w) A (eval (.Subscript d slice L) env) Q E s:=by
 refine Subscript_ (F1 h (λo e l=>F1 l (λi a b=>?_) λζ ζ x=>x) λζ ζ x=>x);obtain⟨f,b⟩:=b;unfold subscriptTail;refine Ag ?_;rw[getitemInPython_of_ne f.not_modules];refine Ag (wpAny_specialOf f j ?_)
 have c:wpAny (model prog w) A (subscripted slice false o i) (λr g=>wpAny (model prog w) A (letTemporaryGo d o r >>= λζ=>pure r) Q E g) E a:=by
  rw[k o i];exact wpAny_operating (F1 b (λr g m=>Ag (wpAny_letTemporaryGo (Az m))) λζ ζ x=>x)
 first
  |exact Az (Ag c)
  |exact Ag (Az (Ag c))
  |exact Ag c
def YF{X:Cx}{pins:B'}{σ:St}{o:Option V}(I:Inv X pins σ H s)(g:Fi H a y o):s.TypeIs (.ref a) "dict" :=by
 rcases g with⟨kvs,k,e,_,_⟩|⟨kvs,k,b,e,_,_,_⟩;obtain⟨_,_,d,_,c⟩:=M9 I.hok e;exact c.typeIs;obtain⟨_,_,xs,_,c⟩:=Na I.hok e;exact c.typeIs
def Ob (D ty:TE):TE:=λσ H Q=>D σ H λx U=>ty σ U λy Y=>∃a v,x=.ref a/\Fi Y a y (some v)/\Q v Y
section
variable {X:Cx} {o i e d:Expr} {L t j:Pos} {D ty J:TE}
def Jv(d:X.A.units+1<cLine)(e:PE X o D)(f:PE X i ty)(j:Oa i):PE X (.Subscript o i L) (Ob D ty):=by
 intro c s σ H Q I h;refine Ju PySem.F.slot_dict_getitem.lookup j (AV (e c s σ H _ I h) λu k⟨x,U,l,m,n⟩=>AV (f c k σ U _ l n) λw z⟨y,Y,b,p,a,v,ex,g,q⟩=>?_);subst ex;obtain rfl:u=Value.ref a:=m;exact⟨YF b g,YD d b g p λA B r t=>⟨v,Y,r,t,q⟩⟩
end
def YG(h:Heap)(a:sysModules<h.objs.size):AF P w H (h.push {cls:=.type "dict",data:=.dict #[]}) h.objs.size (.dK []):=
 ⟨CO _,beq_eq_false_iff_ne.mpr (Ne.symm (CF a)),[],.nil,Heap.DictOf.new h⟩
def VM(h:Heap)(a:sysModules<h.objs.size):AF P w H (h.push {cls:=.type "dict",data:=.dict #[]}) h.objs.size (.dT []):=
 ⟨CO _,beq_eq_false_iff_ne.mpr (Ne.symm (CF a)),[],.nil,_,#[],0,Co _ rfl,⟨rfl,rfl,rfl⟩,rfl,rfl,List.nodup_nil⟩
def LG:TE:=λζ H Q=>∀p,H p=none->Q (.ref p) (upd H p (.dK []))
def LH:TE:=λζ H Q=>∀p,H p=none->Q (.ref p) (upd H p (.dT []))
section
variable {X:Cx} {L:Pos}
def YH:PE X (.Dict [] [] L) LG:=λb s σ H Q I h =>
 wpAny_Dict_empty ⟨.ref s.heap.objs.size,_,I.laid (a:=s.heap.objs.size) (o:=.dK []) (t':=s.toks) (λζ ζ q=>Bn _ q) (AI _) (YG s.heap I.big),rfl,h _ (I.hok.fresh (AI _))⟩
def SW:PE X (.Dict [] [] L) LH:=λb s σ H Q I h =>
 wpAny_Dict_empty ⟨.ref s.heap.objs.size,_,I.laid (a:=s.heap.objs.size) (o:=.dT []) (t':=s.toks) (λζ ζ q=>Bn _ q) (AI _) (VM s.heap I.big),rfl,h _ (I.hok.fresh (AI _))⟩
end
structure M2 (X:Cx) (o:Expr) (m:Str) (apos:Pos) (e f:Expr) (cpos:Pos):Prop where
 base:attributeBase o m X.env (eval o X.env)=eval o X.env
 few:((backTo cpos (starEach [e,f] X.env)).all (λx=>!x.1) && (backToKw cpos (keywordEach [] X.env)).all (λx=>x.1.isSome)
  && decide (([e,f]:List Expr).length+([]:List Keyword).length+(if([]:List Keyword).isEmpty then 0 else 1)<30))=true
 line:(apos.endLine==cpos.line)=true
 trees:backTo cpos (starEach [e,f] X.env)=[(false,eval e X.env),(false,eval f X.env)]
def VN (H:Hp) (a:Addr):Prop:=(∃kvs,Rd H a (.dK kvs))\/∃kvs,Rd H a (.dT kvs)
def LI{X:Cx}{pins:B'}{σ:St}(I:Inv X pins σ H s)(d:VN H a) :
 s.TypeIs (.ref a) "dict" /\ (∀b,Value.ref a=.ref b->∃ob,s.heap.get? b=some ob/\ob.dict=none)/\(a==sysModules)=false:=by
 rcases d with⟨kvs,e⟩|⟨kvs,e⟩;obtain⟨_,hd,h,_,c⟩:=M9 I.hok e;refine⟨c.typeIs,λb q=>?_,hd⟩;cases q;obtain⟨ob,_,_,f,g,_⟩:=c;exact⟨ob,f,g.2.1⟩;obtain⟨_,hd,xs,_,c⟩:=Na I.hok e;refine⟨c.typeIs,λb q=>?_,hd⟩;cases q;obtain⟨ob,_,_,f,g,_⟩:=c;exact⟨ob,f,g.2.1⟩
section
variable {X:Cx} {pins:B'} {σ:St} {H:Hp} {s:Shared} {a:Addr} {y d:V} {u r:Value} {o:Option V} {A:Around} {E:G'}
def LJ{Q:G'}(p:A.units+1<cLine)(I:Inv X pins σ H s)(g:Fi H a y o)(j:RelV y u)(m:RelV d r)(h:∀n Z,Inv X pins σ H Z->RelV (o.getD d) n->Q n Z) :
 wpAny (model X.prog X.w) A (call (.builtin "dict.get") [.ref a,u,r]) Q E s:=by
 rcases g with⟨kvs,k,e,f,l⟩|⟨kvs,k,b,e,f,q,l⟩;subst f;obtain⟨z,hd,t,i,c⟩:=M9 I.hok e;refine call_meetsIn PySem.F.slot_dict_get c.typeIs PySem.F.entry_dict_get (PySem.F.args_dict_get_3 _ _ _) (meets_dict_get_default (Ff X.prog X.w) a (N7 j) hd r) ⟨_,c.mapOf,h _ _ (I.tok _) ?_⟩;rw[l];exact(i.val k).getD m;subst f
 cases(show u=Value.ref b from j);obtain⟨z,hd,xs,i,c⟩:=Na I.hok e;refine call_meetsIn PySem.F.slot_dict_get c.typeIs PySem.F.entry_dict_get (PySem.F.args_dict_get_3 _ _ _) (meetsH_dict_get_default (tupleKind (Ff X.prog X.w)) a b hd r) ⟨tupleKind_room_in1 p,k,xs,LD I.hok q,c,h _ _ (I.tok _) ?_⟩;rw[l];exact(i.val k).getD m
end
def LL (D ty tx:TE):TE:=λσ H Q=>D σ H λx U=>∃a,x=.ref a/\VN U a/\ty σ U λy Y=>tx σ Y λz H3=>∃o,Fi H3 a y o/\Q (o.getD z) H3
section
variable {X:Cx} {o e f:Expr} {apos cpos:Pos} {D ty tx:TE}
def YI(i:X.A.units+1<cLine)(j:PE X o D)(k:PE X e ty)(l:PE X f tx)(m:M2 X o "get" apos e f cpos):PE X (.Call (.Attribute o "get" apos) [e,f] [] cpos) (LL D ty tx):=by
 intro b s σ H Q I h;refine wpAny_Call_method m.base m.few m.line PySem.F.plainAttrs_dict PySem.F.slot_dict_get PySem.F.type_dict_get (AV (j b s σ H _ I h) λu n⟨x,U,c,p,a,ex,d,q⟩=>?_);subst ex;obtain rfl:u=Value.ref a:=p;obtain⟨r,t,_⟩:=LI c d;refine⟨r,t,?_⟩;rw[m.trees]
 refine Calls.callWith_builtin rfl (Calls.evalArgs_plain (Calls.spliced_cons (AV (k b n σ U _ c q) λL v⟨y,Y,w,A,B⟩ =>
  Calls.spliced_cons (AV (l b v σ Y _ w B) λM N⟨z,C,E,F,O,g,G⟩=>Calls.spliced_nil ?_))))
 exact LJ i E g A F λP R J K=>⟨_,C,J,K,G⟩
end
section
variable {X:Cx} {pins:B'} {σ:St} {H:Hp} {s:Shared} {a:Addr} {kvs:List (A8×V)} {A:Around} {E:G'}
end
section
variable {X:Cx} {pins:B'} {σ:St} {H:Hp} {s:Shared} {a:Addr} {y:V} {u:Value} {A:Around} {E:G'}
end
end L2
namespace Att
open PySem PySem.W PySem.Calls PyProof.Rows
def YJ{P:Params}{h:Heap}:∀(ns:List Int)(vs:List Value),WellAll P h vs (ns.map WData.int)->IntsAre vs ns:=by
 intro ns
 induction ns with
 |nil =>
   intro vs w;rw[NA] at w;cases w;exact .nil
 |cons n ns c =>
   intro vs w;rw[Ew] at w
   cases w with
   |cons a b =>
     cases a;exact .cons _ _ (c _ b)
def YK{l:OpenLaw}{n:Nat}(i:l.most=some n){P:Params}{h:Heap}{args:List WData}{f:List Value}
 (g:l.row.toRowW.claim.pre args=true) (u:WellAll P h f args) :
 ∃a vs ns,f=[Value.ref a]/\args=[WData.list (ns.map WData.int)]/\h.get? a=some {cls:=.type "list",data:=.seq vs.toArray}/\IntsAre vs ns/\ns.length<=n:=by
 have v:WShape.hasAll [] args [.list .int]=true:=(pre_splitW g).1;have e:l.pre.holds [] {args:=args}=true:=(pre_splitW g).2;obtain⟨d,r,rfl,j,k⟩:=hasAllW_cons v;obtain rfl:=hasAllW_nil k;obtain⟨y,rfl,m⟩:=hasW_list j;obtain⟨ns,rfl⟩:=items_int m
 have w:ns.length<=n:=by
  unfold OpenLaw.pre at e
  have b:(WTm.not (.lt (.lit (.int (n:Int))) (.len (.arg 0)))).holds [] {args:=[.list (ns.map .int)]}=true:=by
   have b:=(holds_andW e).1;rw[i] at b;exact b
  have c:=condW_of b (w_not (w_lt w_lit (w_len_list (w_arg rfl))));rw[Ak] at c;refine Nat.le_of_not_lt λq=>?_;have o:(n:Int)<((ns.length:Nat):Int):=(by lia)
  first
   |(rw[AY o] at c;exact absurd c (by decide))
   |(simp at c;lia)
 cases u with
 |cons p s =>
   cases s
   cases p with
   |list t x=>exact⟨_,_,ns,rfl,rfl,t,YJ ns _ x,w⟩
def YL(l:OpenLaw)(args:List WData):l.row.toRowW.claim.post args (.bool true) args=true:=
 postW_of (r:=l.row.toRowW) (X:=(true==true))
  (show WShape.has [] (.bool true) .bool=true by first|rfl|decide|simp[WShape.has,WShape.arms,WShape.armsAll])
  (show(WTm.eq .res (.lit (.bool true))).value [] {args:=args,res:=some (.bool true),after:=args}=some (.bool (true==true)) from w_eq_bool (w_res rfl) w_lit) rfl
def attach_call{l:OpenLaw}{n:Nat}{q:Program}{loose:List Str}{XP:(Str->Option Value)->Heap->Prop}{YP:World->Heap->Prop}{d:DefRec}
 (p:l.most=some n) (B:d.params.defaults=[])
 (call:∀(w:World)(h b:Shared)(e i:Str->Option Value)(c:Addr)(o:Obj)(j g k:Value)(a:Addr)(vs:List Value)(ns:List Int),
  Ground q loose [] XP w h e i b.heap->YP w b.heap ->
  b.heap.get? c=some o->o.data=.func (docDef d.name d.params d.body d.scope j g k)->b.heap.CodeRec g d.name->e d.name=some (.ref c) ->
  b.heap.get? a=some {cls:=.type "list",data:=.seq vs.toArray}->IntsAre vs ns->ns.length<=n->b.gens=#[] ->
  codeAny (model l.prog w) callerA (.call (.ref c) ⟨[.ref a],[]⟩) (λr Z=>r=.ok (.ret (.bool true))/\OldK b.heap Z.heap/\Z.os=b.os/\AllBare Z.gens) b) :
 WalkO q loose XP YP l.row.toRowW d [] (λf vs=>PySem.call f vs):=by
 intro w h b e i G Y c o j g k s kV t hd C m D u N O K F P L E M;obtain rfl:s=.none:=Dflts.none m B;obtain rfl:kV=.none:=Dflts.noKw m;obtain⟨a,vs,ns,rfl,rfl,H,J,I⟩:=YK p F E;refine enter_call (codeAny_mono (call w h b e i c o j g k a vs ns G Y t (fd_plain hd) C D H J I u) λr Z v=>?_);obtain⟨rfl,x,y,z⟩:=v;exact⟨.inl ⟨.bool true,.bool true,[],rfl,λζ=>rfl,.bool true,YL l _,λζ=>⟨List.Pairwise.nil,λζ A=>(nomatch A)⟩⟩,x,y,z⟩
section
variable {prog:Program} {w:World} {A:Around} {E:G'} {s:Shared} {K:Frag}
end
end Att
namespace L2
open PySem PySem.Spec PyProof.Rows
theorem SX:∀{vs:List Value}{ns:List Int},IntsAre vs ns->Ay (ns.map V.int) vs
 |_,_,.nil=>.nil
 |_,_,.cons n t h=>.cons ⟨t,rfl⟩ (SX h)
def LM (H:Hp):Prop:=∀b,H b=none\/∃o xs,H b=some (.frz o (.lst xs))
variable {P:Program}{w:World}{k:Nat}{a:Addr}{fd:FuncData}{x:Str}
def YM {K:Aj} {g y:Str->Option Value} {CX:HE} {A:Addr} {sp:Sp} {c:Shared} {vs:List Value} {ns:List Int}
 (E:K.In c.heap) (O:c.heap.Ns mainGlobals g) (f:c.heap.Ns builtinsNs y) (ab:∀x:Str,x ≠ "__name__" -> y x=bootBuiltins x) (ah:c.heap.NoLimit) (U:c.gens=#[])
 (p:c.heap.get? a=some {cls:=.type "list",data:=.seq vs.toArray}) (G:IntsAre vs ns) (I:ns.length<=sizeLine) (W:B3 k callerA)
 (F:∀D:Heap,K.In D->D.Ns mainGlobals g->EO P w K g D CX k A fd [x] sp) (al:∀(s:Shared)(u:Value),BindsTo s fd ⟨[u],[]⟩ [(x,u)])
 (ae:∀H:Hp,LM H->Af K H a (ns.map V.int)->sp [.ref a] H (λv ζ=>v=.bl true) λζ ζ ζ=>False)
 (af:∀H e Z,CX [] H c (λζ ζ ζ=>False) e Z->False) :
 codeAny (model P w) callerA (.call (.ref A) ⟨[.ref a],[]⟩) (λr Z=>r=.ok (.ret (.bool true))/\OldK c.heap Z.heap/\Z.os=c.os/\AllBare Z.gens) c:=by
 have J:=SX G;have ai:=G.length
 have S:∀ H:Hp,LM H->Af K H a (ns.map V.int)->CT P w H c.heap->(∀ b,H b≠none->b=a)->(H a≠none->K.lookup a=none) ->
  codeAny (model P w) callerA (.call (.ref A) ⟨[.ref a],[]⟩) (λr Z=>r=.ok (.ret (.bool true))/\OldK c.heap Z.heap/\Z.os=c.os/\AllBare Z.gens) c:=by
  intro H L X Q M Y;have T:∀{b:Addr}{o:Obj},c.heap.get? b=some o->H b=none->(FM c.heap H).get? b=some o:=λe n=>Yd e n
  have ag:∀{b:Addr}{o:Obj}{i:Array DictEntry}{j:Nat},c.heap.get? b=some o->o.data=.dict i j->H b=none:=λ{b o i j}e d=>by
   cases q:H b with
   |none=>rfl
   |some u =>
     have B:b=a:=M b (by rw[q];simp);subst B;rw[p] at e;cases e;have d':Data.seq vs.toArray _=Data.dict i j:=d;cases d'
  have t:∀{b:Addr}{m:Str->Option Value},c.heap.Ns b m->(FM c.heap H).Ns b m:=λ{b m}⟨o,i,j,e,d,r⟩=>⟨o,i,j,T e (ag e d),d,r⟩
  have R:K.In (FM c.heap H):=λb o e=>T (E b o e) (by
   cases q:H b with
   |none=>rfl
   |some u =>
     have B:b=a:=M b (by rw[q];simp);subst B
     rw[Y (by rw[q];simp)] at e;cases e)
  have hM:Mod K g (FM c.heap H):=⟨R,t O,⟨y,t f,ab⟩,let ⟨mc,h1,h2⟩:=ah;⟨mc,t h1,h2⟩⟩;have e0:Jo P w K g (FM c.heap H) callerA [] c H:=⟨rfl,hM,λb o e=>Je e,Nat.le_of_eq (Yc _ _),trivial,λb f=>absurd (show b∈([]:List Addr) from f) (by simp),Q,.of_eq U⟩;refine codeAny_mono ((F _ R (t O)).run callerA [] c H ⟨[.ref a],[]⟩ [.ref a] [.ref a] _ _ W e0 (al c (.ref a)) (.cons rfl .nil) (ae H L X)) λr Z h=>?_
  cases r with
  |error e=>exact(af H e Z h).elim
  |ok fl =>
    cases fl with
    |next=>exact False.elim h
    |brk=>exact False.elim h
    |cont=>exact False.elim h
    |ret u =>
      obtain⟨v,H',aa,aj,un,ak,r',q⟩:=h;have q':v=.bl true:=q;subst q';obtain rfl:u=Value.bool true:=r';refine⟨rfl,OldK.of_keep λb o e=>?_,aa,aj⟩
      cases q:H b with
      |none=>exact un.keep b o e q (by intro z;exact absurd (show b∈([]:List Addr) from z) (by simp)) (by simp)
      |some u =>
        rcases L b with z|⟨ob,xs,z⟩;rw[q] at z;cases z;have z2:=un.frzs b ob _ z;obtain⟨N,_⟩:=Q b _ z;obtain⟨e2,_⟩:=ak b _ z2;rw[e] at N;cases N;exact e2
 cases C:K.lookup a with
 |some o =>
   have e:=E a o C;rw[p] at e;cases e;refine S (λζ=>none) (λζ=>.inl rfl) (.inr ⟨_,vs.toArray,_,C,rfl,rfl,rfl,by rw[Cw,ai];exact I,by simpa using J⟩) (λb u z=>by have l:(none:Option HO)=some u:=z;cases l) (λb z=>absurd rfl z) λz=>absurd rfl z
 |none =>
   refine S (λb=>if b=a then some (.frz {cls:=.type "list",data:=.seq vs.toArray} (.lst (ns.map V.int))) else none) (λb=>?_) (.inl (.inr ⟨{cls:=.type "list",data:=.seq vs.toArray},Ar rfl⟩)) (λb u z=>?_) (λb z=>?_) λζ=>C
   by_cases f:b=a;exact .inr ⟨_,_,Ar f⟩;exact .inl (Ao f);by_cases f:b=a;have l:=(Ar f).symm.trans z;cases l;subst f;exact⟨p,by rw[Ak];exact I,vs,_,J,p⟩;have l:=(Ao f).symm.trans z;cases l;by_cases f:b=a;exact f;exact absurd (Ao f) z
variable {n:Nat}
def Jw{l:PySem.W.OpenLaw}{q:Program}{loose:List Str}{XP:(Str->Option Value)->Heap->Prop}{YP:World->Heap->Prop}{d:DefRec}{K:Params->Aj}{CX:World->HE}{sp:World->Sp}(m:l.most=some n)(D:n<=sizeLine)(E:d.params.defaults=[])(p:B3 k callerA)
 (r:∀(w:World)(h:Heap),YP w h->(K w.params).In h)
 (F:∀(w:World)(b:Str->Option Value)(c:Addr)(h:Heap),(K w.params).In h->h.Ns mainGlobals b->b d.name=some (.ref c) ->
  ∃fd:FuncData,(∀(s:Shared)(u:Value),BindsTo s fd ⟨[u],[]⟩ [(x,u)]) /\
   ∀g:Heap,(K w.params).In g->g.Ns mainGlobals b->EO l.prog w (K w.params) b g (CX w) k c fd [x] (sp w))
 (I:∀(w:World)(H:Hp)(a:Addr)(ns:List Int),ns.length<=n->LM H->Af (K w.params) H a (ns.map V.int)->sp w [.ref a] H (λv ζ=>v=.bl true) λζ ζ ζ=>False)
 (J:∀(w:World)(H:Hp)(s:Shared)(e:Value)(Z:Shared),CX w [] H s (λζ ζ ζ=>False) e Z->False) :
 PySem.W.WalkO q loose XP YP l.row.toRowW d [] (λf vs=>PySem.call f vs):=by
 refine Att.attach_call m E λw O t b P c o Q R T a vs ns G Y S hd U L M N j y=>?_;have i:=r w _ Y;obtain⟨fd,z,A⟩:=F w b c _ i G.T.g L;exact YM i G.T.g G.T.b G.T.builtins G.T.nolimit y M N (EN j D) p A z (λH B C=>I w H a ns j B C) λH e Z=>J w H t e Z
abbrev IQ:HE:=λζ ζ ζ ζ ζ ζ=>False
abbrev E0:XK:=λζ ζ ζ=>False
variable {X:Cx}
def Oc:SE IQ X E0:=λζ ζ ζ ζ ζ ζ ζ h=>h.elim
structure Bm (K:Aj) (x qual:Str) (st:Stmt) (f:Addr) (fd:FuncData):Prop where
 ex:∃(oc:Value)(od:Option Addr)(kV doc pm:Value)(an:Option Addr)(cdv ct:Value)(osl:Array (Option Value)),
  fd=PySem.W.fnOf x qual (KC st) (II st) (AS st) .none kV doc pm an cdv ct/\K.lookup f=some ⟨oc,od,.func fd,osl⟩/\PySem.W.codeIn K cdv qual=true
 kp:PySem.W.keepIn K (.ref f)=true
section
variable {P:Program} {w:World} {K:Aj} {mg:Str->Option Value} {base:Heap}
variable {qual:Str}{st:Stmt}{f:Addr}
def Bm.ok{N ps:List Str}{sp:Sp}(F:Bm K x qual st f fd)(S:Ae N ps (AS st))(len:∀vs H Q E,sp vs H Q E->vs.length=ps.length)
 (i:∀(a:Value)(A:Around)(b:List Env)(s:Shared)(H:Hp)(vs:List V)(Q:VK)(E:XK),B3 k (A.deeper (envOfC qual (AS st) s.heap.objs.size f a))->sp vs H Q E ->
  ∃t,Gv (AC IQ P w K mg base N qual (AS st) f a A b s H E).nox (II st) t/\t {nx:=λζ H'=>Q .non H',rt:=Q} (start N vs) H):EO P w K mg base IQ (k+1) f fd ps sp:=by
 obtain⟨j,l,kV,p,m,n,a,o,r,rfl,c,e⟩:=F.ex;refine NZ c e S len λA b s H vs Q E d g=>?_;obtain⟨t,h,q⟩:=i a A b s H vs Q E d g;exact⟨t,h.nox,q⟩
def Bm.binds{ps:List Str}(F:Bm K x qual st f fd)
 (h:∀(kV d a:Value)(b:Option Addr)(e ct:Value)(c:List Value),c.length=ps.length->bindArgs (PySem.W.fnOf x qual (KC st) (II st) (AS st) .none kV d a b e ct) ⟨c,[]⟩=pure (ps.zip c)):Binds K fd ps []:=by
 obtain⟨g,i,kV,d,a,b,e,ct,k,rfl,j,l⟩:=F.ex;exact .all (h kV d a b e ct)
def HL{g:Value}{h b:Option Addr}{i:Array (Option Value)}{kV e d a ct:Value}(l:K.lookup f=some ⟨g,h,.func (PySem.W.fnOf x qual (KC st) (II st) (AS st) .none kV e d b a ct),i⟩)
 (c:PySem.W.codeIn K a qual=true) (k:PySem.W.keepIn K (.ref f)=true):Bm K x qual st f (PySem.W.fnOf x qual (KC st) (II st) (AS st) .none kV e d b a ct):=⟨⟨g,h,kV,e,d,b,a,ct,i,rfl,l,c⟩,k⟩
end
variable {A:Around}
def Od(a:B3 k A):A.units+1<cLine:=Nat.lt_of_le_of_lt (Nat.add_le_add_left (by decide:1<=64) _) a.units
def BL(h:n<=1000):n<sizeLine:=Nat.lt_of_le_of_lt h (by decide)
section
variable {X:Cx}
def pv(i:Nat){L:Pos}(a:X.N[i]?=some x:=by rfl)(hv:Pu X.env.scope x:=by first|exact Or.inl rfl|exact Or.inr (Or.inl rfl)|exact Or.inr (Or.inr rfl))(hd:(x==("__debug__" : Str))=false:=by decide)
 (b:(x==("__classdict__" : Str))=false:=by decide):PE X (.Name x L) (Cs i):=Lj a hv hd b
end
variable {B:Prop}
def Bp{A:Prop}(h:B):if false=true then A else B:=by
 rw[Ao CS];exact h
def Cu{A:Prop}(h:A):if true=true then A else B:=by
 rw[Ar rfl];exact h
def An{c A:Prop} [Decidable c](a:c->A)(b:¬c->B):if c then A else B:=by
 by_cases h:c;rw[Ar h];exact a h;rw[Ao h];exact b h
def Ac (H H':Hp):Prop:=∀b o,H b=some o->H' b=some o
def Ac.refl(H:Hp):Ac H H:=λζ ζ h=>h
variable {H U:Hp}
def Ac.trans{Y:Hp}(a:Ac H U)(b:Ac U Y):Ac H Y:=λc o h=>b c o (a c o h)
variable {H':Hp}
def Ac.free(e:Ac H H'){l:Addr}(h:H' l=Option.none):H l=Option.none:=by
 cases q:H l with
 |none=>rfl
 |some o =>
   rw[e l o q] at h;cases h
variable {xs:List V}
def Ac.seq{K:Aj}(e:Ac H H')(h:Af K H a xs):Af K H' a xs:=by
 rcases h with(h|⟨o,h⟩)|h;exact .inl (.inl (e _ _ h));exact .inl (.inr ⟨o,e _ _ h⟩);exact .inr h
section
variable {κ:Type} [DecidableEq κ]
end
inductive Ty where
 |int|bool|str|non|lst|tup|dct
 deriving DecidableEq
def Ty.name:Ty->String
 |.int => "int"|.bool => "bool"|.str => "str"|.non => "NoneType"|.lst => "list"|.tup => "tuple"|.dct => "dict"
inductive Jx (K:Aj) (H:Hp):V->Ty->Prop where
 |int (i:Int):Jx K H (.int i) .int
 |bl (b:Bool):Jx K H (.bl b) .bool
 |str (x:Str):Jx K H (.str x) .str
 |non:Jx K H .non .non
 |lst {a:Addr} {xs:List V} (h:Af K H a xs):Jx K H (.ref a) .lst
 |tup {a:Addr} {xs:List V} (h:Al K H a xs):Jx K H (.ref a) .tup
 |dk {a:Addr} {kvs:List (A8×V)} (h:H a=some (.dK kvs)):Jx K H (.ref a) .dct
def SY:Ty->Ty->Bool
 |.int,.int=>true|.bool,.bool=>true|.bool,.int=>true|.str,.str=>true|.non,.non=>true|.lst,.lst=>true|.tup,.tup=>true|.dct,.dct=>true|_,_=>false
def S0 (K:Aj):List V->Hp->VK->Prop:=λvs H Q=>∃x T T',vs=[x,.ty (Ty.name T)]/\Jx K H x T'/\Q (.bl (SY T' T)) H
def Jy:Bo X (.builtin "isinstance") (S0 X.K):=by
 intro F s σ H g w Q I r h;obtain⟨x,T,z,rfl,ty,q⟩:=h;obtain⟨u,j,rfl,c,p⟩:=Jn r;have k:j=Value.type (Ty.name T):=p;subst k
 cases ty with
 |int i =>
   obtain⟨t,rfl⟩:=c
   cases T with
   |int=>exact IsiPair.int_int ⟨.bl true,H,I,rfl,q⟩
   |bool=>exact IsiPair.int_bool ⟨.bl false,H,I.tok _,rfl,q⟩
   |str=>exact IsiPair.int_str ⟨.bl false,H,I.tok _,rfl,q⟩
   |non=>exact IsiPair.int_NoneType ⟨.bl false,H,I.tok _,rfl,q⟩
   |lst=>exact IsiPair.int_list ⟨.bl false,H,I.tok _,rfl,q⟩
   |tup=>exact IsiPair.int_tuple ⟨.bl false,H,I.tok _,rfl,q⟩
   |dct=>exact IsiPair.int_dict ⟨.bl false,H,I.tok _,rfl,q⟩
 |bl b =>
   obtain rfl:u=Value.bool b:=c
   cases T with
   |int=>exact IsiPair.bool_int ⟨.bl true,H,I,rfl,q⟩
   |bool=>exact IsiPair.bool_bool ⟨.bl true,H,I,rfl,q⟩
   |str=>exact IsiPair.bool_str ⟨.bl false,H,I.tok _,rfl,q⟩
   |non=>exact IsiPair.bool_NoneType ⟨.bl false,H,I.tok _,rfl,q⟩
   |lst=>exact IsiPair.bool_list ⟨.bl false,H,I.tok _,rfl,q⟩
   |tup=>exact IsiPair.bool_tuple ⟨.bl false,H,I.tok _,rfl,q⟩
   |dct=>exact IsiPair.bool_dict ⟨.bl false,H,I.tok _,rfl,q⟩
 |str y =>
   obtain⟨t,rfl⟩:=c
   cases T with
   |int=>exact IsiPair.str_int ⟨.bl false,H,I.tok _,rfl,q⟩
   |bool=>exact IsiPair.str_bool ⟨.bl false,H,I.tok _,rfl,q⟩
   |str=>exact IsiPair.str_str ⟨.bl true,H,I,rfl,q⟩
   |non=>exact IsiPair.str_NoneType ⟨.bl false,H,I.tok _,rfl,q⟩
   |lst=>exact IsiPair.str_list ⟨.bl false,H,I.tok _,rfl,q⟩
   |tup=>exact IsiPair.str_tuple ⟨.bl false,H,I.tok _,rfl,q⟩
   |dct=>exact IsiPair.str_dict ⟨.bl false,H,I.tok _,rfl,q⟩
 |non =>
   obtain rfl:u=Value.none:=c
   cases T with
   |int=>exact IsiPair.NoneType_int ⟨.bl false,H,I.tok _,rfl,q⟩
   |bool=>exact IsiPair.NoneType_bool ⟨.bl false,H,I.tok _,rfl,q⟩
   |str=>exact IsiPair.NoneType_str ⟨.bl false,H,I.tok _,rfl,q⟩
   |non=>exact IsiPair.NoneType_NoneType ⟨.bl true,H,I,rfl,q⟩
   |lst=>exact IsiPair.NoneType_list ⟨.bl false,H,I.tok _,rfl,q⟩
   |tup=>exact IsiPair.NoneType_tuple ⟨.bl false,H,I.tok _,rfl,q⟩
   |dct=>exact IsiPair.NoneType_dict ⟨.bl false,H,I.tok _,rfl,q⟩
 |lst d =>
   obtain rfl:u=Value.ref _:=c;obtain⟨v,l,⟨o,n,e,a,hd,m⟩,f⟩:=I.list d
   cases T with
   |int=>exact IsiPair.list_int e a ⟨.bl false,H,I.tok _,rfl,q⟩
   |bool=>exact IsiPair.list_bool e a ⟨.bl false,H,I.tok _,rfl,q⟩
   |str=>exact IsiPair.list_str e a ⟨.bl false,H,I.tok _,rfl,q⟩
   |non=>exact IsiPair.list_NoneType e a ⟨.bl false,H,I.tok _,rfl,q⟩
   |lst=>exact IsiPair.list_list e a ⟨.bl true,H,I,rfl,q⟩
   |tup=>exact IsiPair.list_tuple e a ⟨.bl false,H,I.tok _,rfl,q⟩
   |dct=>exact IsiPair.list_dict e a ⟨.bl false,H,I.tok _,rfl,q⟩
 |tup d =>
   obtain rfl:u=Value.ref _:=c;obtain⟨v,l,⟨o,e,a,n,m⟩,f⟩:=I.tuple d
   cases T with
   |int=>exact IsiPair.tuple_int e a ⟨.bl false,H,I.tok _,rfl,q⟩
   |bool=>exact IsiPair.tuple_bool e a ⟨.bl false,H,I.tok _,rfl,q⟩
   |str=>exact IsiPair.tuple_str e a ⟨.bl false,H,I.tok _,rfl,q⟩
   |non=>exact IsiPair.tuple_NoneType e a ⟨.bl false,H,I.tok _,rfl,q⟩
   |lst=>exact IsiPair.tuple_list e a ⟨.bl false,H,I.tok _,rfl,q⟩
   |tup=>exact IsiPair.tuple_tuple e a ⟨.bl true,H,I,rfl,q⟩
   |dct=>exact IsiPair.tuple_dict e a ⟨.bl false,H,I.tok _,rfl,q⟩
 |dk d =>
   obtain rfl:u=Value.ref _:=c;obtain⟨f,A,g,E,o,B,C,e,ex,D⟩:=I.hok _ _ d;have a:=ex.1
   cases T with
   |int=>exact IsiPair.dict_int e a ⟨.bl false,H,I.tok _,rfl,q⟩
   |bool=>exact IsiPair.dict_bool e a ⟨.bl false,H,I.tok _,rfl,q⟩
   |str=>exact IsiPair.dict_str e a ⟨.bl false,H,I.tok _,rfl,q⟩
   |non=>exact IsiPair.dict_NoneType e a ⟨.bl false,H,I.tok _,rfl,q⟩
   |lst=>exact IsiPair.dict_list e a ⟨.bl false,H,I.tok _,rfl,q⟩
   |tup=>exact IsiPair.dict_tuple e a ⟨.bl false,H,I.tok _,rfl,q⟩
   |dct=>exact IsiPair.dict_dict e a ⟨.bl true,H,I,rfl,q⟩
def VO{bs:List Bool}{a:List Value}(r:Ay (bs.map V.bl) a):TruthOf P w A (λi v=>a.toArray[i]?=some v) (λi=>bs.getD i false):=by
 intro i v s Q E d f;have c:a[i]?=some v:=(by simpa using d);have g:=r.length;rw[Ak] at g;have k:i<a.length:=(Bh.mp c).1
 have h:(bs.map V.bl)[i]?=some (V.bl (bs.getD i false)):=by
  rw[AX,BW];have:bs[i]?=some bs[i]:=AA (by lia);rw[this];rfl
 obtain⟨u,b,j⟩:=r.get h;rw[c] at b;cases b;have e:v=Value.bool (bs.getD i false):=j;subst e;exact Gi f
def YN{bs:List Bool}:(List.range bs.length).all (λi=>bs.getD i false)=bs.all id:=by
 rw[Bool.eq_iff_iff,List.all_eq_true,List.all_eq_true];constructor;intro h b d;obtain⟨i,a,e⟩:=Pk.mp d;have:=h i (List.mem_range.mpr a);rw[BW,AA a] at this;rw[<-e];exact this;intro h i a;have c:=List.mem_range.mp a;rw[BW,AA c];exact h _ (DX c)
def S1 (K:Aj):List V->Hp->VK->Prop:=λvs H Q=>∃(a:Addr)(bs:List Bool),vs=[.ref a]/\Af K H a (bs.map V.bl)/\Q (.bl (bs.all id)) H
def YO(g:X.calm=true):Bo X (.builtin "all") (S1 X.K):=by
 intro C s σ H t w Q I r h;obtain⟨a,bs,rfl,j,q⟩:=h;obtain⟨u,rfl,k⟩:=F3 r;obtain rfl:u=Value.ref a:=k;obtain⟨c,d,p,x⟩:=I.list j;have f:=d.length;rw[Ak] at f;have n:a<s.heap.objs.size:=by obtain⟨_,e,_⟩:=p.isList;exact Bj e
 refine call_all_walk (wpAny_pyIter_list p.isList ?_);refine⟨s.heap.objs.size,[s.heap.objs.size,a],[s.heap.objs.size],c.toArray.size,(λi v=>c.toArray[i]?=some v),(λi h=>h.IsListIter s.heap.objs.size a i/\h.IsList a c.toArray),(λi=>bs.getD i false),rfl,Walks.list (A:=X.A.in1) (I.ok.hd g) s.heap.objs.size a (CF n) c.toArray,⟨⟨_,Co _ rfl,rfl,rfl⟩,p.isList.push _⟩,VO d,λy B l=>?_⟩;refine⟨.bl (bs.all id),H,I.kept λb o e=>l b o (λz=>?_) (Bn _ e),?_,q⟩;have m:b=s.heap.objs.size:=(by simpa using z);exact absurd (Bj e) (by rw[m];exact GY _);have e:c.toArray.size=bs.length:=(by rw[Cw,f]);show Value.bool _=Value.bool _;rw[e,YN]
variable {pins:B'}{σ:St}{s:Shared}
def Inv.track{T:Addr}{o:HO}(I:Inv X pins σ H s)(f:Dq X pins H T)(p:∃ob,s.heap.get? T=some ob)(l:AF X.prog X.w (upd H T o) s.heap T o):Inv X pins σ (upd H T o) s:=by
 obtain⟨d,g,r,h,i,j⟩:=f;refine I.step (g':=s.gens) (t':=s.toks) (d':=s.drawn) (h':=s.heap) (ch:=[T]) (λb a=>?_) (λb ob ζ ζ ζ e ζ=>e) (λb ob ζ ζ ζ e ζ=>⟨ob.slots,e⟩) (λb ob a e n=>?_) (λb ob ζ e=>⟨ob,e⟩) (λb xs e=>?_) (λb ob u e=>?_) (λb t e=>?_) (λm k=>k) (λb u e=>?_) I.bare;have e:b=T:=(by simpa using a);subst e;exact⟨h,g,i,j⟩;rw[AE (by simpa using a)];exact n;rw[AE (AU e d)];exact e;rw[AE (AU e d)];exact e;exact⟨#[],by rw[AE (AU e d),e];simp⟩;by_cases a:b=T;subst a;rw[Aa] at e;cases e;exact l;rw[AE a] at e;exact(I.hok b u e).stay (λc v ζ q=>q) (λc q=>by rw[AE (AU q d)];exact q) λc xs q=>by rw[AE (AU q d)];exact q
def VP (K:Aj) (l1 l2:Addr):It:=
 ⟨λi H=>∃xs ys x y,Af K H l1 xs/\Af K H l2 ys/\xs[i]?=some x/\ys[i]?=some y,
  λi H v H'=>∃T x y,H T=none/\v=.ref T/\H'=upd H T (.tup [x,y])/\(∀xs,Af K H l1 xs->xs[i]?=some x)/\∀ys,Af K H l2 ys->ys[i]?=some y,
  λi H=>∃xs ys,Af K H l1 xs/\Af K H l2 ys/\(xs.length<=i\/ys.length<=i)⟩
def Oe (z TI TO i1 i2 l1 l2:Addr) (i:Nat) (h:Heap):Prop:=IsZip h z TI TO .none/\IsPair h TI (.ref i1) (.ref i2)/\(∃a b,IsPair h TO a b)/\h.IsListIter i1 l1 i/\h.IsListIter i2 l2 i
variable {L:Pos}
theorem YQ{K:Aj}{es:List Expr}{z TI TO g j l1 l2:Addr}(D:ZipApart z TI TO g j l1 l2) :
 FN P w K (.Tuple es k L) (VP K l1 l2) [z,TI,TO,g,j] z (Oe z TI TO g j l1 l2) where
 mem:=by simp
 obj:=λi h C b d=>by
  obtain⟨E,F,⟨a,c,J⟩,⟨o1,e1,c1,d1⟩,⟨o2,e2,c2,d2⟩⟩:=C;simp at d;rcases d with rfl|rfl|rfl|rfl|rfl;exact⟨_,E,λv q=>by cases q⟩;exact⟨_,F,λv q=>by cases q⟩;exact⟨_,J,λv q=>by cases q⟩;exact⟨_,e1,λv q=>by rw[d1] at q;cases q⟩;exact⟨_,e2,λv q=>by rw[d2] at q;cases q⟩
 keep:=λi h h' C Z=>by
  obtain⟨E,F,⟨a,c,J⟩,M,N⟩:=C;exact⟨Z z (by simp) _ E,Z TI (by simp) _ F,⟨a,c,Z TO (by simp) _ J⟩,M.at λo e=>Z g (by simp) o e,N.at λo e=>Z j (by simp) o e⟩
 item:=by
  intro X hP hw hK A i pins s σ H ak I B C hg;subst hP hw hK;obtain⟨xs,ys,x,y,W,Y,hx,hy⟩:=hg;obtain⟨E,F,⟨a,c,J⟩,M,N⟩:=C;obtain⟨az,ae,p1,an⟩:=I.list W;obtain⟨a0,af,aa,ao⟩:=I.list Y;obtain⟨T,aq,ar⟩:=ae.get hx;obtain⟨U,au,av⟩:=af.get hy;refine wpAny_pyNext_zip_item D E F J M N p1.isList aa.isList (x:=T) (y:=U) (by simpa using aq) (by simpa using au) λh' a1 a2 a3 a4 a5 a6 G=>?_;refine⟨_,rfl,wpAny_letOwnedTupleGo_zip (s:={s with heap:=h'}) a1 λS a7 R=>?_⟩;have m:=B z (by simp);have t:=B TO (by simp);have p:=B g (by simp);have r:=B j (by simp);have M0:∀b u,H b=some u->b≠z/\b≠TO/\b≠g/\b≠j:=λb u e=>⟨AU e m.1,AU e t.1,AU e p.1,AU e r.1⟩;have keep:∀b o,b≠z->b≠TO->b≠g->b≠j->s.heap.get? b=some o->S.get? b=some o:=λb o V n2 n3 n4 e=>(R.2 b V).trans (G b o V n2 n3 n4 e);have f:∀{b:Addr},b∉[z,TO,g,j]->b≠z/\b≠TO/\b≠g/\b≠j:=λ{b}d=>by simpa using d
  have I1:Inv X pins σ H {s with heap:=S}:=by
   refine I.step (g':=s.gens) (t':=s.toks) (d':=s.drawn) (h':=S) (ch:=[z,TO,g,j]) (λb d=>?_) (λb l ζ ζ d e ζ=>keep b l (f d).1 (f d).2.1 (f d).2.2.1 (f d).2.2.2 e) (λb l ζ ζ d e ζ=>⟨l.slots,keep b l (f d).1 (f d).2.1 (f d).2.2.1 (f d).2.2.2 e⟩)
    (λζ ζ ζ ζ n=>n) (λb l d e=>⟨l,keep b l (f d).1 (f d).2.1 (f d).2.2.1 (f d).2.2.2 e⟩) (λζ ζ e=>e) (λζ ζ ζ e=>e) (λb ps e=>⟨#[],by rw[e];simp⟩) (λal hm=>?_) (λb u e=>?_) I.bare
   have:b=z\/b=TO\/b=g\/b=j:=(by simpa using d);rcases this with rfl|rfl|rfl|rfl;exact⟨m.2.2.2.1,m.2.1,m.2.2.2.2.1,m.2.2.2.2.2⟩;exact⟨t.2.2.2.1,t.2.1,t.2.2.2.2.1,t.2.2.2.2.2⟩;exact⟨p.2.2.2.1,p.2.1,p.2.2.2.2.1,p.2.2.2.2.2⟩;exact⟨r.2.2.2.1,r.2.1,r.2.2.2.2.1,r.2.2.2.2.2⟩;obtain⟨o,es,ep,ho,ab⟩:=hm;exact⟨o,es,ep,keep _ o (Ne.symm m.2.1) (Ne.symm t.2.1) (Ne.symm p.2.1) (Ne.symm r.2.1) ho,ab⟩;refine(I.hok b u e).stay (λc v A q=>?_) (λζ q=>q) λζ ζ q=>q
   have ag:∃O,H c=some O:=by
    rcases A with rfl|A;exact⟨_,e⟩;exact⟨_,A⟩
   obtain⟨O,Q⟩:=ag;obtain⟨V,n2,n3,n4⟩:=M0 c O Q;exact keep c v V n2 n3 n4 q
  have aw:s.heap.objs.size≠z:=Nat.ne_of_gt (Bj E);have ai:H s.heap.objs.size=none:=I.hok.fresh (AI _);have aj:S.get? s.heap.objs.size=some {cls:=.type "tuple",data:=.seq #[T,U]}:=(R.2 _ aw).trans a5
  have I2:Inv X pins σ (upd H s.heap.objs.size (.tup [x,y])) {s with heap:=S}:=by
   refine I1.track (I.fpOk (AI _) ai) ⟨_,aj⟩ ?_;exact⟨by show 2<=sizeLine;decide,[T,U],.cons ar (.cons av .nil),⟨_,aj,rfl,_,rfl⟩⟩
  refine⟨.ref s.heap.objs.size,_,I2,rfl,⟨s.heap.objs.size,x,y,ai,rfl,rfl,λzs ah=>by rw[I.list_inj ah W];exact hx,λzs ah=>by rw[I.list_inj ah Y];exact hy⟩,?_,λb d=>?_⟩;refine⟨a7,R.extBut _ _ D.TIz (G _ _ D.TIz D.TITO D.TIi1 D.TIi2 F),⟨T,U,R.extBut _ _ D.TOz a2⟩,a3.extBut R.extBut D.i1z,a4.extBut R.extBut D.i2z⟩;have ax:=(B b d).1;rw[AE (λq=>?_)];exact ax;have ay:b=z\/b=TI\/b=TO\/b=g\/b=j:=(by simpa using d);obtain⟨o1,e1,_⟩:=M;obtain⟨o2,e2,_⟩:=N
  have lt:b<s.heap.objs.size:=by
   rcases ay with rfl|rfl|rfl|rfl|rfl;exact Bj E;exact Bj F;exact Bj J;exact Bj e1;exact Bj e2
  rw[q] at lt;exact absurd lt (GY _)
 done:=by
  intro X hP hw hK A i pins s σ H ak I B C hg;subst hP hw hK;obtain⟨xs,ys,W,Y,aA⟩:=hg;obtain⟨E,F,⟨a,c,J⟩,M,N⟩:=C;obtain⟨az,ae,p1,an⟩:=I.list W;obtain⟨a0,af,aa,ao⟩:=I.list Y;have a8:=ae.length;have a9:=af.length;refine wpAny_pyNext_zip_end (I.ok.hd A) D E F J M N p1.isList aa.isList (by simp;lia) λh' G=>⟨rfl,?_⟩;have m:=B z (by simp);have t:=B TO (by simp);have p:=B g (by simp);have r:=B j (by simp);have f:∀{b:Addr},b∉[z,TO,g,j]->b≠z/\b≠TO/\b≠g/\b≠j:=λ{b}d=>by simpa using d
  refine I.step (g':=s.gens) (t':=s.toks) (d':=s.drawn) (h':=h') (ch:=[z,TO,g,j]) (λb d=>?_) (λb l ζ ζ d e ζ=>G b l (f d).1 (f d).2.1 (f d).2.2.1 (f d).2.2.2 e) (λb l ζ ζ d e ζ=>⟨l.slots,G b l (f d).1 (f d).2.1 (f d).2.2.1 (f d).2.2.2 e⟩)
   (λζ ζ ζ ζ n=>n) (λb l d e=>⟨l,G b l (f d).1 (f d).2.1 (f d).2.2.1 (f d).2.2.2 e⟩) (λζ ζ e=>e) (λζ ζ ζ e=>e) (λb ps e=>⟨#[],by rw[e];simp⟩) (λal hm=>?_) (λb u e=>?_) I.bare
  have:b=z\/b=TO\/b=g\/b=j:=(by simpa using d);rcases this with rfl|rfl|rfl|rfl;exact⟨m.2.2.2.1,m.2.1,m.2.2.2.2.1,m.2.2.2.2.2⟩;exact⟨t.2.2.2.1,t.2.1,t.2.2.2.2.1,t.2.2.2.2.2⟩;exact⟨p.2.2.2.1,p.2.1,p.2.2.2.2.1,p.2.2.2.2.2⟩;exact⟨r.2.2.2.1,r.2.1,r.2.2.2.2.1,r.2.2.2.2.2⟩;obtain⟨o,es,ep,ho,ab⟩:=hm;exact⟨o,es,ep,G _ o (Ne.symm m.2.1) (Ne.symm t.2.1) (Ne.symm p.2.1) (Ne.symm r.2.1) ho,ab⟩;refine(I.hok b u e).stay (λc v A q=>?_) (λζ q=>q) λζ ζ q=>q
  have ag:∃O,H c=some O:=by
   rcases A with rfl|A;exact⟨_,e⟩;exact⟨_,A⟩
  obtain⟨O,Q⟩:=ag;exact G c v (AU Q m.1) (AU Q t.1) (AU Q p.1) (AU Q r.1) q
 self:=λζ ζ ζ ζ ζ C h=>wpAny_pyIter_zip C.1 h
def S3 (K:Aj) (ta:TA):TI:=λσ H R=>ta σ H λvs U=>∃l1 l2,vs=[.ref l1,.ref l2]/\(∃xs,Af K U l1 xs)/\(∃ys,Af K U l2 ys)/\R (VP K l1 l2) U
def HM{es:List Expr}{j:Pos}{a b:Expr}{f:TA}{p:Pos}(r:Gl X "zip")(t:X.mg "zip" = none)(v:PA X [a,b] f)(w:starEach [a,b] X.env=[(false,eval a X.env),(false,eval b X.env)]:=by rfl)(n:starEach [b] X.env=[(false,eval b X.env)]:=by rfl) :
 PI X (.Tuple es k j) (.Call (.Name "zip" p) [a,b] [] L) (S3 X.K f):=by
 intro pins s σ H R I h;refine Call_ (Jf I r t (u:=.type "zip") (by decide +kernel) (PyProof.Rows.callWith_type1 (AV (v L pins s σ H _ I h) λV c⟨W,U,d,x,y⟩=>?_) (by rw[w,n]) (by rw[n];rfl)));obtain⟨g,i,rfl,⟨xs,G⟩,⟨Y,K⟩,q⟩:=y;obtain⟨z,A,rfl,M,N⟩:=Jn x;obtain rfl:z=Value.ref g:=M;obtain rfl:A=Value.ref i:=N;obtain⟨ag,Z,l,aa⟩:=d.list G;obtain⟨ah,ab,J,ae⟩:=d.list K;have B:g<c.heap.objs.size:=by obtain⟨_,e,_⟩:=l.isList;exact Bj e
 have C:i<c.heap.objs.size:=by obtain⟨_,e,_⟩:=J.isList;exact Bj e
 refine call_zip_2 l.isList J.isList λD m O P Q S af E=>?_;refine wpAny_pyIter_zip (s:={c with heap:=D}) m ?_;refine⟨_,[c.heap.objs.size+4,c.heap.objs.size+2,c.heap.objs.size+3,c.heap.objs.size,c.heap.objs.size+1],_,_,U,rfl,d.kept (t':=c.toks) E,YQ (zipApart_new B C),⟨m,O,⟨_,_,P⟩,Q,S⟩,λb F=>?_,q⟩
 have o:c.heap.objs.size<=b:=by
  have T:b=c.heap.objs.size+4\/b=c.heap.objs.size+2\/b=c.heap.objs.size+3\/b=c.heap.objs.size\/b=c.heap.objs.size+1:=(by simpa using F);rcases T with rfl|rfl|rfl|rfl|rfl;exact Nat.le_add_right _ _;exact Nat.le_add_right _ _;exact Nat.le_add_right _ _;exact AI _;exact Nat.le_add_right _ _
 exact d.fpOk o (d.hok.fresh o)
def Gm (env:Env):List (Str×NameKind)->List (Str×Addr)->List (Str×Addr)
 |[],acc=>acc
 |(n,k)::r,acc=>if k==.free then Gm env r ((n,(env.cells.lookup n).getD 0)::acc) else Gm env r acc
theorem S4{env:Env}(f:Str×NameKind->List (Str×Addr)->Sem (ForInStep (List (Str×Addr))))
 (d:∀n k g,f (n,k) g=if(k==NameKind.free)=true then(cellOf env n >>= λa=>pure (.yield ((n,a)::g))) else pure (.yield g)) :
 ∀(names:List (Str×NameKind))(acc:List (Str×Addr)),(∀x∈names,x.2=.free->∃c,env.cells.lookup x.1=some c)->forIn names acc f=pure (Gm env names acc)
 |[],acc,_=>by rw[List.forIn_nil];rfl
 |(n,k)::r,acc,h=>by
   rw[List.forIn_cons,d];unfold Gm;by_cases b:(k==NameKind.free)=true;rw[Ar b,Ar b];obtain⟨c,j⟩:=h (n,k) B2 (beq_iff_eq.mp b);have e:cellOf env n=pure c:=by unfold cellOf;rw[j]
   rw[e,j];exact S4 f d r _ λx i=>h x (DW _ i);rw[Ao b,Ao b];exact S4 f d r _ λx i=>h x (DW _ i)
variable {scope:Scope}{env:Env}
def VQ(h:∀x∈scope.names,x.2=.free->∃c,env.cells.lookup x.1=some c):closureFor scope env=pure (Gm env scope.names []):=by
 simp only[closureFor];rw[S4 (env:=env) _ (λn k b=>by cases a:k==NameKind.free<;>simp[a]) scope.names [] h];rfl
theorem PK{env:Env}:∀{names:List (Str×NameKind)}{acc:List (Str×Addr)}{x:Str}{c:Addr},(x,c)∈Gm env names acc->(x,c)∈acc\/((x,NameKind.free)∈names/\c=(env.cells.lookup x).getD 0)
 |[],_,_,_,h=>.inl h
 |(n,k)::r,acc,x,c,h=>by
   unfold Gm at h;by_cases a:(k==NameKind.free)=true;rw[Ar a] at h;rcases PK h with h|⟨h,e⟩;rcases Cc.mp h with h|h;cases h;rw[beq_iff_eq.mp a];exact .inr ⟨B2,rfl⟩;exact .inl h;exact .inr ⟨DW _ h,e⟩;rw[Ao a] at h;rcases PK h with h|⟨h,e⟩;exact .inl h;exact .inr ⟨DW _ h,e⟩
theorem S5{env:Env}:∀{names:List (Str×NameKind)}{acc:List (Str×Addr)}{p:Str×Addr},p∈acc->p∈Gm env names acc
 |[],_,_,h=>h
 |(n,k)::r,acc,p,h=>by
   unfold Gm;by_cases a:(k==NameKind.free)=true;rw[Ar a];exact S5 (DW _ h);rw[Ao a];exact S5 h
theorem Of{env:Env}:∀{names:List (Str×NameKind)}{acc:List (Str×Addr)}{x:Str},(x,NameKind.free)∈names->∃c,(x,c)∈Gm env names acc
 |(n,k)::r,acc,x,h=>by
   unfold Gm;rcases Cc.mp h with h|h;cases h;rw[Ar (show(NameKind.free==NameKind.free)=true by rfl)];exact⟨_,S5 B2⟩;by_cases a:(k==NameKind.free)=true;rw[Ar a];exact Of h;rw[Ao a];exact Of h
theorem Nb{α:Type}:∀{l:List (Str×α)}{x:Str}{c:α},(x,c)∈l->∃a,l.lookup x=some a
 |(n,d)::r,x,c,h=>by
   rw[MU]
   cases b:x==n with
   |true=>exact⟨d,rfl⟩
   |false =>
     rcases Cc.mp h with h|h;cases h;simp at b;exact Nb h
theorem KL:∀(names:List (Str×NameKind))(n:Nat)(acc:List (Str×Addr)),cellsFrom n names acc=cellsFrom n names []++acc
 |[],_,_=>rfl
 |(x,k)::r,n,acc=>by
   unfold cellsFrom;by_cases a:(k==NameKind.cell)=true;rw[Ar a,Ar a,KL r (n+1) ((x,n)::acc),KL r (n+1) [(x,n)],FX];rfl;rw[Ao a,Ao a];exact KL r n acc
theorem PL:∀{names:List (Str×NameKind)}{n:Nat}{acc:List (Str×Addr)}{x:Str}{c:Addr},(x,c)∈cellsFrom n names acc->(x,c)∈acc\/(x,NameKind.cell)∈names
 |[],_,_,_,_,h=>.inl h
 |(y,k)::r,n,acc,x,c,h=>by
   unfold cellsFrom at h;by_cases a:(k==NameKind.cell)=true;rw[Ar a] at h;rcases PL h with h|h;rcases Cc.mp h with h|h;cases h;rw[beq_iff_eq.mp a];exact .inr B2;exact .inl h;exact .inr (DW _ h);rw[Ao a] at h;rcases PL h with h|h;exact .inl h;exact .inr (DW _ h)
section
variable {M:Model} {A:Around} {E:G'} {s:Shared}
def YR{a:List (Str×Addr)}{Q:Env->Shared->Prop}
 (b:Q (newEnv scope s.heap.objs.size env.globals (cellsFrom (s.heap.objs.size+1) scope.names a) env.qual none .none (some env) builtinsNs) {s with heap:=pushCells (s.heap.push {cls:=.type "dict",data:=.dict #[]}) scope.names}) :
 wpAny M A (newFunctionEnv scope env.globals a [] env.qual none .none (some env)) Q E s:=by
 simp only[newFunctionEnv,Option.isSome_some,if_true];refine Ag (wpAny_alloc ?_);refine Ag (wpAny_layCells _ (λname d e=>by cases c:d==NameKind.cell<;>simp[c]) _ _ _ _ ?_)
 rw[show({s with heap:=s.heap.push {cls:=.type "dict",data:=.dict #[]}}:Shared).heap.objs.size=s.heap.objs.size+1 from Heap.size_push ..]
 exact Ag (Az (Az b))
end
abbrev Fj (X:Cx) (N:List Str) (scope:Scope) (cs:List (Str×Addr)) (C:Addr) (s:Shared) (H:Hp) (ex:List Addr):Cx where
 prog:=X.prog
 w:=X.w
 K:=X.K
 mg:=X.mg
 base:=X.base
 A:=X.A
 N:=N
 s₀:=s
 H₀:=H
 env:=compEnvC scope cs C X.env
 outer:=X.stack
 stack:=X.stack
 ex:=ex
 fn:=λx=>decide (scope.names.lookup x≠some .free)
 calm:=X.calm
 pn:=[]
 xe:=λζ ζ=>False
structure Ax (psc:Scope) (PN:List Str) (scope:Scope) (N:List Str) (k:Nat) (caps:List Nat):Prop where
 kind:scope.kind=.function
 loc:∀x∈scope.names,x.2=.local->scope.names.lookup x.1=some .local
 ndn:(scope.names.map (·.1)).Nodup
 nd:N.Nodup
 len:N.length=k+caps.length
 free:∀x∈scope.names,x.2=.free->psc.names.lookup x.1=some .cell\/psc.names.lookup x.1=some .free
 cap:∀p∈(N.drop k).zip caps,PN[p.2]?=some p.1/\scope.names.lookup p.1=some .free
def F4 (k:Nat) (caps:List Nat) (σ:St):St:=List.replicate k none++caps.map λj=>(σ[j]?).getD none
variable {caps:List Nat}{i:Nat}{v:V}
def VR(h:(F4 k caps σ)[i]?=some (some v)):∃j,k<=i/\caps[i-k]?=some j/\σ[j]?=some (some v):=by
 unfold F4 at h;by_cases b:i<k;rw[Ft (by simpa using b),List.getElem?_replicate,Ar b] at h;cases h;rw[FL (by simpa using b),List.length_replicate,AX] at h
 cases e:caps[i-k]? with
 |none=>rw[e] at h;cases h
 |some j =>
   rw[e] at h;have a:(σ[j]?).getD none=some v:=BJ h;refine⟨j,by lia,rfl,?_⟩
   cases q:σ[j]? with
   |none=>rw[q] at a;cases a
   |some o=>rw[q] at a;exact BB some a
def VS{a:NameKind}(h:(relabel scope env).names.lookup x=some a):∃k,(x,k)∈scope.names/\(a=k\/(k=.free/\a=.cell)):=by
 have e:=Gu h;have f:(x,a)∈scope.names.map (λ(n,k)=>if(k==NameKind.free && env.scope.kind==.function && env.kindOf n==some .cell) then(n,NameKind.cell) else(n,k)):=e;obtain⟨⟨n,k⟩,d,b⟩:=AN.mp f;dsimp only at b
 by_cases c:(k==NameKind.free && env.scope.kind==.function && env.kindOf n==some .cell)=true;rw[Ar c] at b;cases b;simp only[Bool.and_eq_true,beq_iff_eq] at c;exact⟨k,d,.inr ⟨c.1.1,rfl⟩⟩;rw[Ao c] at b;cases b;exact⟨a,d,.inl rfl⟩
theorem VT{f:Str×NameKind->Str×NameKind}(b:∀n k,f (n,k)=(n,k)\/(k=.free/\f (n,k)=(n,NameKind.cell))):∀{names:List (Str×NameKind)}{x:Str},names.lookup x=some .free->(names.map f).lookup x=some .cell\/(names.map f).lookup x=some .free
 |[],_,h=>by simp at h
 |(n,k)::r,x,h=>by
   have d:=@VT f b r x;rw[MU] at h;rw[Ew]
   cases a:x==n with
   |true =>
     rw[a] at h;cases h;rcases b n .free with e|⟨_,e⟩;right;rw[e,MU,a];left;rw[e,MU,a]
   |false =>
     rw[a] at h;have c:=d h;rcases b n k with e|⟨_,e⟩;rw[e,MU,a];exact c;rw[e,MU,a];exact c
def VU(h:scope.names.lookup x=some .free):(relabel scope env).names.lookup x=some .cell\/(relabel scope env).names.lookup x=some .free:=by
 refine VT (λn k=>?_) h;by_cases a:(k==NameKind.free && env.scope.kind==.function && env.kindOf n==some .cell)=true;right;refine⟨?_,Ar a⟩;simp only[Bool.and_eq_true,beq_iff_eq] at a;exact a.1.1;left;exact Ao a
def PM{names:List (Str×NameKind)}(h:(names.map (·.1)).Nodup){k d:NameKind}(a:(x,k)∈names)(b:(x,d)∈names):k=d:=by
 induction names with
 |nil=>simp at a
 |cons p r g =>
   rw[Ew] at h;obtain⟨e,i⟩:=Gh.mp h;rcases Cc.mp a with f|a<;>rcases Cc.mp b with c|b;rw[<-f] at c;exact(Prod.mk.inj c).2.symm;exact absurd (AN.mpr ⟨_,b,by rw[<-f]⟩) e;exact absurd (AN.mpr ⟨_,a,by rw[<-c]⟩) e;exact g i a b
variable {h1:Heap}{C:Addr}
def Un.but{fs ex:List Addr}{h f:Heap}(u:Un fs ex H H' h h1)(c:Heap.SameBut C h1 f)(g:h.objs.size<=C):Un fs ex H H' h f:=by
 have ne:∀b o,h.get? b=some o->b≠C:=λb o e=>CF (FY (Bj e) g);refine⟨λb o e n d a=>(c.2 b (ne b o e)).trans (u.keep b o e n d a),λb o e n d a=>?_,u.free,λb o e a=>?_,u.tups,u.frzs,u.tbls⟩;obtain⟨i,q⟩:=u.slot b o e n d a;exact⟨i,(c.2 b (ne b o e)).trans q⟩;obtain⟨j,q⟩:=u.there b o e a;exact⟨j,(c.2 b (ne b o e)).trans q⟩
def CT.but{d:Heap}(x:CT P w H h1)(g:Heap.SameBut C h1 d)(f:H C=none):CT P w H d:=λb u e=>by
 refine(x b u e).stay (λc v a q=>(g.2 c ?_).trans q) (λζ q=>q) λζ ζ q=>q;rintro rfl;rcases a with rfl|a;rw[f] at e;cases e;rw[f] at a;cases a
section
variable {X:Cx} {scope:Scope} {N:List Str} {k:Nat} {caps:List Nat} {psc:Scope} {PN:List Str} {pins:B'} {σ:St} {H:Hp} {s:Shared}
abbrev Eh (X:Cx) (scope:Scope) (C:Addr):List (Str×Addr):=cellsFrom (C+1) scope.names (Gm X.env scope.names [])
def VV(I:Inv X pins σ H s)(S:Ax X.env.scope X.N scope N k caps){c:Addr}(h:(x,c)∈Eh X scope C) :
 (x,c)∈cellsFrom (C+1) scope.names []\/X.env.cells.lookup x=some c:=by
 unfold Eh at h;rw[KL] at h;rcases BI.mp h with h|h;exact .inl h;rcases PK h with h|⟨h,e⟩;simp at h;obtain⟨b,a⟩:=I.ok.has x (S.free _ h rfl);rw[a] at e;exact .inr (by rw[a];exact BB some e.symm)
def YS{t:List Addr}(I:Inv X pins σ H s)(S:Ax X.env.scope X.N scope N k caps)(B:∀b∈t,Dq X pins H b)(ae:∀b∈t,∃o,s.heap.get? b=some o){D C:Nat}{t':Nat}(g:D=s.heap.objs.size)(J:C=D+1)
 (E:h1=pushCells ((s.heap.push {cls:=.type "list",data:=.seq #[]}).push {cls:=.type "dict",data:=.dict #[]}) scope.names) :
 Inv (Fj X N scope (Eh X scope C) C s H t) [] (F4 k caps σ) (upd H D (.lst [])) {s with heap:=h1,toks:=t'}:=by
 have Z:(s.heap.push {cls:=.type "list",data:=.seq #[]}).objs.size=C:=(by rw[Heap.size_push,J,g]);have aa:((s.heap.push {cls:=.type "list",data:=.seq #[]}).push {cls:=.type "dict",data:=.dict #[]}).objs.size=C+1:=(by rw[Heap.size_push,Z])
 have G:∀b o,s.heap.get? b=some o->h1.get? b=some o:=λb o e=>by
  rw[E];exact pushCells_keeps _ _ b o (Bn _ (Bn _ e))
 have ak:h1.get? D=some {cls:=.type "list",data:=.seq #[]}:=by
  rw[E,g];exact pushCells_keeps _ _ _ _ (Bn _ (Co _ rfl))
 have af:h1.Ns C (λζ=>none):=by
  rw[E,<-Z];exact(Heap.Ns.new _ (.type "dict")).keeps (pushCells_keeps _ _)
 have ok:=cellsFrom_ok scope.names ((s.heap.push {cls:=.type "list",data:=.seq #[]}).push {cls:=.type "dict",data:=.dict #[]}) (C+1) [] ⟨λζ ζ d=>(nomatch d),List.Pairwise.nil⟩ (by rw[aa];exact AI _);rw[aa] at ok;have own:∀x c,(x,c)∈cellsFrom (C+1) scope.names []->h1.IsCell c none/\C+1<=c:=λx c h=>by rw[E];exact ok.empty x c h
 have P:∀x c,X.env.cells.lookup x=some c->c<D:=λx c e=>by
  obtain⟨v,q⟩:=I.cell x c e;rw[g];exact q.lt
 have Y:∀b∈t,b<D:=λb f=>by
  obtain⟨o,e⟩:=ae b f;rw[g];exact Bj e
 have ao:H C=none:=I.hok.fresh (by rw[J,g];exact Nat.le_succ _);have split:=λx c(h:(Eh X scope C).lookup x=some c)=>VV (C:=C) I S (Gu h);have T:∀b,b≠D->H b=none->(upd H D (.lst [])) b=none:=λb f e=>by rw[AE f];exact e
 have al:∀x,scope.names.lookup x=some .free->∃c,X.env.cells.lookup x=some c/\(Eh X scope C).lookup x=some c:=λx w=>by
  have d:=Gu w;obtain⟨F,K⟩:=Of (env:=X.env) (acc:=[]) d;obtain⟨c,U⟩:=Nb (l:=Eh X scope C) (x:=x) (c:=F) (by unfold Eh;rw[KL];exact Ev _ K);refine⟨c,?_,U⟩;rcases split x c U with q|q;rcases PL q with z|z;simp at z;have:=PM S.ndn d z;cases this;exact q
 have ag:(Fj X N scope (Eh X scope C) C s H t).Ok:=by
  refine⟨I.ok.mod,S.kind,I.ok.glob,I.ok.blt,?above,?inj,?has,?cab,I.ok.hd,I.ok.frames,.inl rfl,?exf,λb o e=>I.bs b o e,EN I.ok.bsz I.sz,?noex,?exfs,I.stack,I.stkFree⟩
  case above =>
   show s.heap.objs.size<=C;rw[J,g];exact Nat.le_succ _
  case inj =>
   intro x y c L M;rcases split x c L with n|n<;>rcases split y c M with r|r;exact name_of_addr ok.apart n r;have h1:@LE.le Nat _ (C+1) c:=(own x c n).2;have a:@LT.lt Nat _ c D:=P y c r;exfalso;lia;have h1:@LE.le Nat _ (C+1) c:=(own y c r).2;have a:@LT.lt Nat _ c D:=P x c n;exfalso;lia;exact I.ok.inj x y c n r
  case has =>
   intro x w;have Q:(relabel scope X.env).names.lookup x=some .cell\/(relabel scope X.env).names.lookup x=some .free:=w
   have p:∃m,(x,m)∈scope.names/\(m=.cell\/m=.free):=by
    rcases Q with q|q;obtain⟨m,h1,a⟩:=VS q;rcases a with a|⟨a,_⟩;exact⟨m,h1,.inl a.symm⟩;exact⟨m,h1,.inr a⟩;obtain⟨m,h1,a⟩:=VS q;rcases a with a|⟨_,a⟩;exact⟨m,h1,.inr a.symm⟩;cases a
   obtain⟨m,d,p|p⟩:=p;subst p
   have q:=PySem.W.cellsFrom_some scope.names (C+1) (Gm X.env scope.names []) (x:=x) (.inl (by
    obtain⟨k2,A⟩:=Nb d
    rw[A,PM S.ndn (Gu A) d]))
   exact Option.isSome_iff_exists.mp q;subst p;obtain⟨F,K⟩:=Of (env:=X.env) (acc:=[]) d;exact Nb (c:=F) (by show(x,F)∈Eh X scope C;unfold Eh;rw[KL];exact Ev _ K)
  case cab =>
   intro x c w e;have Q:decide (scope.names.lookup x≠some .free)=true:=w;have ah:=A3 Q;show s.heap.objs.size<=c;have e':(Eh X scope C).lookup x=some c:=e;have d:=Gu e';unfold Eh at d;rw[KL] at d;rcases BI.mp d with z|z;have h1:@LE.le Nat _ (C+1) c:=(own x c z).2;have a:@LE.le Nat _ s.heap.objs.size c:=(by lia);exact a;rcases PK z with z|⟨z,_⟩;simp at z;obtain⟨k2,A⟩:=Nb z;exact absurd (by rw[A,PM S.ndn (Gu A) z]) ah
  case exf =>
   intro b f;refine⟨?_,λx c e z=>?_⟩;have h1:@LT.lt Nat _ b D:=Y b f;exact CF (show @LT.lt Nat _ b C by lia);rcases split x c e with q|q;have h1:@LE.le Nat _ (C+1) c:=(own x c q).2;have a:@LT.lt Nat _ b D:=Y b f;have V:@Eq Nat c b:=z;lia;exact(B b f).2.2.2.2.1 x c q z
  case noex =>
   intro b o e f;rcases(B b f).2.2.2.1 with q|q;exact I.ok.noex b o e q;exact absurd (FY (Bj e) (EN I.ok.bsz q)) (GY _)
  case exfs =>
   intro b f z;have V:b∈Fv X.stack:=z;rcases Cc.mp (I.stkSub b V) with q|q;exact(B b f).2.1 q;exact(B b f).2.2.1 q
 refine⟨ag,rfl,I.bare,Un.laid G (by rw[g];exact AI _) (I.hok.fresh (by rw[g];exact AI _)),⟨_,af,?loc⟩,?cell,T _ (show @Ne Nat C D by lia) ao,?freeC,λaq O=>absurd O (by simp),?hok,?len⟩
 case loc =>
  intro i x v L M e3;obtain⟨j,hi,hj,hv⟩:=VR M
  have hz:(x,j)∈(N.drop k).zip caps:=by
   refine List.mem_iff_getElem?.mpr ⟨i-k,?_⟩;rw[List.getElem?_zip_eq_some];refine⟨?_,hj⟩;rw[List.getElem?_drop,show k+(i-k)=i by lia];exact L
  obtain⟨O,R⟩:=S.cap (x,j) hz;have p:=S.free (x,.free) (Gu R) rfl;obtain⟨ar,hn,hl⟩:=I.loc;obtain⟨u,ab,l⟩:=hl j x v O hv (by rcases p with q|q;exact .inr (.inl q);exact .inr (.inr q));refine⟨u,ab,?_⟩;obtain⟨c,ai,aj⟩:=al x R
  have an:s.heap.IsCell c (some u):=by
   rcases l with⟨q,_⟩|⟨_,c',n,r⟩;have W:X.env.scope.names.lookup x=some .local:=q;rcases p with z|z;rw[W] at z;cases z;rw[W] at z;cases z;rw[ai] at n;cases n;exact r
  exact .inr ⟨VU R,c,aj,an.keeps G⟩
 case cell =>
  intro x c e;rcases split x c e with q|q;exact⟨_,(own x c q).1⟩;obtain⟨v,z⟩:=I.cell x c q;exact⟨v,z.keeps G⟩
 case freeC =>
  intro x c e;rcases split x c e with q|q;have h1:@LE.le Nat _ (C+1) c:=(own x c q).2;have a:@LE.le Nat _ s.heap.objs.size c:=(by lia);exact T c (show @Ne Nat c D by lia) (I.hok.fresh a);exact T c (CF (P x c q)) (I.freeC x c q)
 case hok =>
  exact I.hok.laid G (by rw[g];exact AI _) ⟨CO _,[],0,.nil,ak⟩
 case len =>
  show(F4 k caps σ).length=N.length;unfold F4;rw[AQ,List.length_replicate,Ak,S.len]
def YT{a:List Addr}(I:Inv X pins σ H s)(S:Ax X.env.scope X.N scope N k caps){p:B'}{σ':St}{Z:Shared}(P:∀x c,X.env.cells.lookup x=some c->c∉a)(T:s.heap.objs.size<=C)
 (J:Inv (Fj X N scope (Eh X scope C) C s H a) p σ' H' Z):Inv (Fj X N scope (Eh X scope C) C s H a) p (F4 k caps σ) H' Z:=by
 obtain⟨m,t,_⟩:=id J.loc;refine⟨J.ok,J.os,J.bare,J.base,⟨m,t,λi x v w y U=>?_⟩,J.cell,J.free,J.freeC,J.pin,J.hok,?_⟩;obtain⟨j,V,A,B⟩:=VR y
 have D:(x,j)∈(N.drop k).zip caps:=by
  refine List.mem_iff_getElem?.mpr ⟨i-k,?_⟩;rw[List.getElem?_zip_eq_some];refine⟨?_,A⟩;rw[List.getElem?_drop,show k+(i-k)=i by lia];exact w
 obtain⟨E,b⟩:=S.cap (x,j) D;have e:=S.free (x,.free) (Gu b) rfl;obtain⟨W,aa,F⟩:=I.loc;obtain⟨u,r,l⟩:=F j x v E B (by rcases e with q|q;exact .inr (.inl q);exact .inr (.inr q));refine⟨u,r,?_⟩
 have R:∃c,X.env.cells.lookup x=some c/\s.heap.IsCell c (some u):=by
  rcases l with⟨q,_⟩|⟨_,f,G,K⟩;have g:X.env.scope.names.lookup x=some .local:=q;rcases e with z|z;rw[g] at z;cases z;rw[g] at z;cases z;exact⟨f,G,K⟩
 obtain⟨c,d,o,L,hd⟩:=R
 have Q:(Eh X scope C).lookup x=some c:=by
  have h:=Gu b;obtain⟨M,O⟩:=Of (env:=X.env) (acc:=[]) h;obtain⟨f,n⟩:=Nb (l:=Eh X scope C) (x:=x) (c:=M) (by unfold Eh;rw[KL];exact Ev _ O);rcases VV (C:=C) I S (Gu n) with q|q;rcases PL q with z|z;simp at z;have:=PM S.ndn h z;cases this;rw[d] at q;cases q;exact n
 obtain⟨Y,q⟩:=J.base.any L (I.freeC x c d) (P x c d);exact .inr ⟨VU b,c,Q,_,q,hd⟩;show(F4 k caps σ).length=N.length;unfold F4;rw[AQ,List.length_replicate,Ak,S.len]
end
def PF (X:Cx) (f:List Expr) (t:TT):Prop:=
 ∀(pins:B')(s:Shared)(σ:St)(H:Hp)(Q:Bool->Hp->Prop),Inv X pins σ H s->t σ H Q ->
  wpAny (model X.prog X.w) X.A (forIn f true λc r=>if r=true then do let ok <-isTrue c X.env (eval c X.env);pure (ForInStep.yield ok) else pure (ForInStep.yield r)) (TP X pins σ Q) X.xe s
def HN:TT:=λζ H Q=>Q true H
def HP:PF X [] HN:=λζ ζ ζ H ζ I h=>wpAny_tests_nil ⟨H,I,h⟩
def PP{c:Expr}{t:TT}(h:PT X c t):PF X [c] t:=λpins s σ H Q I a=>wpAny_tests_one (h pins s σ H Q I a)
variable {l j:Expr}{f:List Expr}
def YU{prog:Program}{R:Result->Shared->Prop}{target:Expr}{d acc:Value}(I:Nat->Shared->Prop)
 (turn:∀n s,I n s->wpAny (model prog w) A (pyNext d) (λr b=>match r with
  |none=>R (.ok .next) b
  |some v=>wpAny (model prog w) A (letOwnedTupleGo target d v) (λζ b=>wpAny (model prog w) A (assign target env v) (λζ i =>
   wpAny (model prog w) A (forIn f true λc r=>if r=true then do let ok <-isTrue c env (eval c env);pure (ForInStep.yield ok) else pure (ForInStep.yield r)) (λok g =>
    if ok=true then wpAny (model prog w) A (eval l env) (λx k =>
     wpAny (model prog w) A (call (.builtin "list.append") [acc,x]) (λζ o=>∃m,m<n/\I m o) (λζ ζ=>False) k) (λζ ζ=>False) g
    else ∃m,m<n/\I m g) (λζ ζ=>False) i) (λζ ζ=>False) b) (λζ ζ=>False) b) (λζ ζ=>False) s)
 (n:Nat) (h:I n s) :
 codeAny (model prog w) A (.compLoop (.ListComp l [⟨target,j,f,0⟩] scope L) 0 d acc env) R s:=by
 refine codeAny_loop rfl I (λn s q=>?_) n h
 show wpAny _ A ((compTurn (.ListComp l [⟨target,j,f,0⟩] scope L) 0 d acc env).onRaise (λx=>do noteFrame x env;theTreesLotGoes x)) _ _ s
 refine wpAny_noted ?_;rw[compTurn_list];refine Ag (wpAny_standAt (Ag (F1 (turn n s q) (λr b e=>?_) λζ ζ a=>a.elim)))
 cases r with
 |none=>exact Az e
 |some v =>
   refine Ag (F1 e (λζ b e=>?_) λζ ζ a=>a.elim);refine Ag (F1 e (λζ i t=>Ag (F1 t (λok g p=>?_) λζ ζ a=>a.elim)) λζ ζ a=>a.elim)
   cases ok with
   |false=>exact Az ⟨rfl,p⟩
   |true =>
     exact Ag (Ag (F1 p (λx k u=>Ag (F1 u (λζ o y=>Az (Az ⟨rfl,y⟩)) λζ ζ a=>a.elim)) λζ ζ a=>a.elim))
def KN (J:It) (k:Nat) (caps:List Nat) (g:TG) (tc:TT) (te:TE) (σ:St) (U:Hp) (Q:Addr->Hp->Prop):Prop:=∀D,U D=none->∃W:Nat->Nat->List V->Hp->Prop,(∃m,W 0 m [] (upd U D (.lst [])))/\∀i m ys Y,W i m ys Y ->
 (J.stop i Y/\Q D Y)\/(J.go i Y/\∀x H3,J.yld i Y x H3->g x (F4 k caps σ) H3 λσ4 H4=>tc σ4 H4 λb H5 =>
  if b=true then te σ4 H5 λy H6=>H6 D=some (.lst ys)/\ys.length<sizeLine/\∃m',m'<m/\W (i+1) m' (ys++[y]) (upd H6 D (.lst (ys++[y]))) else ∃m',m'<m/\W (i+1) m' ys H5)
def KO (k:Nat) (caps:List Nat) (wi:TI) (g:TG) (tc:TT) (te:TE):TE:=λσ H Q=>wi σ H λJ U=>KN J k caps g tc te σ U λD Y=>Q (.ref D) Y
variable {g:TG}{tc:TT}{te:TE}
def Og{J:It}{Q:Addr->Hp->Prop}(n:Nat)(Pv:Addr->Nat->List V->Hp->Prop)(j:∀D,U D=none->Pv D 0 [] (upd U D (.lst [])))
 (go:∀D i ys Y,Pv D i ys Y->i<n->J.go i Y) (stop:∀D ys Y,Pv D n ys Y->J.stop n Y)
 (l:∀D i ys Y x c(R:VK)(h:Hp->Prop),U D=none->i<n->Pv D i ys Y->J.yld i Y x c->(∀y d,d D=some (.lst ys)->ys.length<sizeLine->Pv D (i+1) (ys++[y]) (upd d D (.lst (ys++[y])))->R y d)->(∀a,Pv D (i+1) ys a->h a)->g x (F4 k caps σ) c λσ4 o=>tc σ4 o λb a=>if b=true then te σ4 a R else h a)
 (hd:∀D ys Y,U D=none->Pv D n ys Y->Q D Y):KN J k caps g tc te σ U Q:=by
 intro D f;refine⟨λi m ys Y=>m=n-i/\i<=n/\Pv D i ys Y,⟨n,rfl,CO _,j D f⟩,?_⟩;rintro i m ys Y ⟨rfl,u,p⟩;by_cases e:i<n;exact .inr ⟨go D i ys Y p e,λx c y=>l D i ys Y x c _ _ f e p y (λv d q r s=>⟨q,r,n-(i+1),by lia,rfl,e,s⟩) λa t=>⟨n-(i+1),by lia,rfl,e,t⟩⟩
 . obtain rfl:i=n:=by lia
   exact .inl ⟨stop D ys Y p,hd D ys Y f p⟩
variable {tg:Expr}{N:List Str}
def VW{E:G'}{Q:VK}
 {R:Addr} {d:List Addr} {G:Nat->Heap->Prop} {J:It} {O:Value->Addr->Result->Shared->Prop} (hc:X.calm=true) (S:Ax X.env.scope X.N scope N k caps) (I:Inv X pins σ H s)
 (T:FN X.prog X.w X.K tg J d R G) (st:G 0 s.heap) (p:∀b∈d,Dq X pins H b)
 (hg:∀K C s H ex,PG (Fj X N scope K C s H ex) tg g) (ht:∀K C s H ex,PF (Fj X N scope K C s H ex) f tc) (he:∀K C s H ex,PE (Fj X N scope K C s H ex) l te)
 (q:KN J k caps g tc te σ H λD ak=>Q (.ref D) ak)
 (ao:∀D C H' Z m,C≠X.env.locals->(∀x c,X.env.cells.lookup x=some c->c≠C)->Z.heap.Ns C m->(∀h',Heap.SameBut C Z.heap h'->Inv X pins σ H' {Z with heap:=h'})->H' C=none->s.heap.objs.size<=C->Q (.ref D) H'->O (.ref D) C (.ok .next) Z) :
 wpAny (model X.prog X.w) X.A (newList []) (λacc s₃=>wpAny (model X.prog X.w) X.A (newFunctionEnv scope X.env.globals (Gm X.env scope.names []) [] X.env.qual none .none (some X.env)) (λai s₄ =>
  codeAny (model X.prog X.w) X.A (.compStart (.ListComp l [⟨tg,j,f,0⟩] scope L) 0 (.ref R) acc {ai with scope:=relabel scope X.env}) (O acc ai.locals) s₄) E s₃) E s:=by
 refine wpAny_newObj_type (YR ?_);generalize h:s.heap.objs.size=D;have a1:(s.heap.push {cls:=.type "list",dict:=none,data:=.seq ([]:List Value).toArray}).objs.size=D+1:=(by rw[Heap.size_push,h]);dsimp only;rw[a1];have aa:∀b∈d,∃o,s.heap.get? b=some o:=λb a=>let ⟨o,e,_⟩:=T.obj 0 _ st b a;⟨o,e⟩;have aq:H D=none:=I.hok.fresh (by rw[h];exact AI _);have J0:=YS (t':=s.toks) I S p aa (D:=D) (C:=D+1) h.symm rfl rfl;have ar:∀x c,X.env.cells.lookup x=some c->c∉d:=λx c e a=>(p c a).2.2.2.2.1 x c e rfl
 have ab:∀{F:B'}{H':Hp},(∀b∈d,H' b=none)->F=[]->∀b∈d,Dq (Fj X N scope (Eh X scope (D+1)) (D+1) s H d) F H' b:=λ{F H'}U Y b a=>by
  obtain⟨o,e⟩:=aa b a;have au:@LT.lt Nat _ b D:=by rw[<-h];exact Bj e
  subst Y;refine⟨U b a,?_,λz=>?_,.inl a,λx c e=>(J0.ok.exf b a).2 x c e,λa2 Y=>absurd Y (by simp)⟩;show @Ne Nat b (D+1);lia;have z':b∈Fv X.stack:=z;rcases Cc.mp (I.stkSub b z') with w|w;exact(p b a).2.1 w;exact(p b a).2.2.1 w
 obtain⟨W,⟨m0,w0⟩,turn⟩:=q D aq;have af:G 0 (pushCells ((s.heap.push {cls:=.type "list",data:=.seq #[]}).push {cls:=.type "dict",data:=.dict #[]}) scope.names):=T.keep 0 _ _ st λb a o e=>pushCells_keeps _ _ b o (Bn _ (Bn _ e))
 have av:∀b∈d,(upd H D (.lst [])) b=none:=λb a=>by
  obtain⟨o,e⟩:=aa b a;have au:@LT.lt Nat _ b D:=by rw[<-h];exact Bj e
  rw[AE (show @Ne Nat b D by lia)];exact(p b a).1
 have aw:∀{H':Hp}{Z:Shared}{σ':St}{F:B'},Inv (Fj X N scope (Eh X scope (D+1)) (D+1) s H d) F σ' H' Z->Q (.ref D) H'->O (.ref D) (D+1) (.ok .next) Z:=λ{H' Z σ' F}J q=>by
  obtain⟨m,U,_⟩:=id J.loc;refine ao D (D+1) H' Z m (λz=>?_) (λx c e z=>?_) U (λh' hs=>?_) J.free (by rw[h];exact Nat.le_succ _) q;have h1:@LT.lt Nat _ X.env.locals D:=by rw[<-h];exact I.lt
  have z':@Eq Nat (D+1) X.env.locals:=z;lia;obtain⟨v,y⟩:=I.cell x c e;have h1:@LT.lt Nat _ c D:=by rw[<-h];exact y.lt
  have z':@Eq Nat c (D+1):=z;lia;refine I.call' (ch:=d) J.os (J.base.but hs (by rw[h];exact Nat.le_succ _)) (J.hok.but hs J.free) J.bare λb a=>?_;exact⟨(p b a).2.2.2.1,(p b a).2.1,(p b a).2.2.2.2.1,(p b a).2.2.2.2.2⟩
 have aj:codeAny (model X.prog X.w) X.A (.compLoop (.ListComp l [⟨tg,j,f,0⟩] scope L) 0 (.ref R) (.ref D) (compEnvC scope (Eh X scope (D+1)) (D+1) X.env)) (O (.ref D) (D+1))
  {s with heap:=pushCells ((s.heap.push {cls:=.type "list",data:=.seq #[]}).push {cls:=.type "dict",data:=.dict #[]}) scope.names}:=by
  refine YU (λn Z=>∃i r H',Inv (Fj X N scope (Eh X scope (D+1)) (D+1) s H d) [] (F4 k caps σ) H' Z/\G i Z.heap/\(∀b∈d,H' b=none)/\W i n r H') ?_ m0 ⟨0,[],_,J0,af,av,w0⟩;rintro n s3 ⟨i,r,H3,I3,ag,ah,w3⟩;rcases turn i n r H3 w3 with⟨stop,qn⟩|⟨go,step⟩
  . refine AV (T.done (Fj X N scope (Eh X scope (D+1)) (D+1) s H d) rfl rfl rfl hc i [] s3 _ H3 _ I3 (ab ah rfl) ag stop) λal s4⟨hr,I4⟩=>?_
    subst hr;exact aw I4 qn
  refine AV (T.item (Fj X N scope (Eh X scope (D+1)) (D+1) s H d) rfl rfl rfl hc i [] s3 _ H3 _ I3 (ab ah rfl) ag go) λal s4⟨an,hr,h4⟩=>?_;subst hr;refine AV h4 λ_ s5⟨x,H5,I5,r5,y5,ae,ax⟩=>?_;have ay:=I5.pinned (ab ax rfl) (T.obj _ _ ae)
  have again:∀{σ7:St}{u:Hp}{A:Shared}{t:Nat}{zs:List V},Inv (Fj X N scope (Eh X scope (D+1)) (D+1) s H d) ([]++NT d s5.heap) σ7 u A->t<n->W (i+1) t zs u ->
   ∃m,m<n/\∃i r H',Inv (Fj X N scope (Eh X scope (D+1)) (D+1) s H d) [] (F4 k caps σ) H' A/\G i A.heap/\(∀b∈d,H' b=none)/\W i m r H':=λ{σ7 u A t zs}B M w7=>by
   refine⟨t,M,i+1,zs,u,YT I S ar (by rw[h];exact Nat.le_succ _) B.unpinned,T.keep _ _ _ ae λb a o e=>(B.pin (b,o) (Ev _ (Ev _ (Pz a e)))).1,λb a=>?_,w7⟩;obtain⟨o,e,a3⟩:=T.obj _ _ ae b a;exact(B.pin (b,o) (Ev _ (Ev _ (Pz a e)))).2.1
  refine AV (hg _ _ _ _ _ _ s5 _ H5 x an _ ay r5 (step x H5 y5)) λ_ s6⟨σ6,H6,I6,q6⟩=>?_;refine AV (ht _ _ _ _ _ _ s6 σ6 H6 _ I6 q6) λb A⟨u,B,P⟩=>?_
  cases b with
  |false =>
    rw[Ao CS] at P ⊢;obtain⟨t,M,w7⟩:=P;exact again B M w7
  |true =>
    rw[Ar rfl] at P ⊢;refine AV (he _ _ _ _ _ _ A σ6 u _ B P) λy s8⟨yv,H8,I8,r8,az,a0,t,M,w8⟩=>?_;refine AV (VG (X:=Fj X N scope (Eh X scope (D+1)) (D+1) s H d) _ s8 σ6 H8 (.ref D) [yv] (.ref D) [y] (λζ H9=>W (i+1) t (r++[yv]) H9) I8 rfl (.cons r8 .nil) ⟨r,az,a0,w8⟩) λ_ s9⟨_,H9,I9,_,w9⟩=>?_;exact again I9 M w9
 exact codeAny_compStart_list aj (T.self _ 0 _ _ _ af aj)
def HQ{b:TI}(c:X.calm=true)(S:Ax X.env.scope X.N scope N k caps)(d:PI X tg j b)
 (i:∀a C s H ex,PG (Fj X N scope a C s H ex) tg g) (n:∀a C s H ex,PF (Fj X N scope a C s H ex) f tc) (o:∀a C s H ex,PE (Fj X N scope a C s H ex) l te)
 (p:∀x,foldedSetIterable j X.env x=pure x:=by intro _;rfl):PE X (.ListComp l [⟨tg,j,f,0⟩] scope L) (KO k caps b g tc te):=by
 intro pins s σ H Q I h;have E:closureFor scope X.env=pure (Gm X.env scope.names []):=VQ λx r F=>I.ok.has x.1 (S.free x r F);rw[eval_ListComp];refine wpAny_comprehension_free (use:=none) rfl p E S.kind S.loc (AV (d pins s σ H _ I h) λv M h1=>AV h1 λV O t=>?_);obtain⟨P,R,U,J,Y,e,u,T,G,w,q⟩:=t;subst e;refine VW (Q:=Q) c S u T G w i n o q ?_;intro D C H' Z m _ _ y z _ _ A;exact⟨m,y,λB K=>⟨.ref D,H',z B K,rfl,A⟩⟩
def PQ{E:Pos}{t:Pos}{u:TI}(F:X.N.Nodup)(aa:X.N[i]?=some x)(n:Loc X.env.scope x)
 (G:X.calm=true) (S:Ax X.env.scope X.N scope N k caps) (J:PI X tg j u)
 (K:∀c C s H ex,PG (Fj X N scope c C s H ex) tg g) (M:∀c C s H ex,PF (Fj X N scope c C s H ex) f tc) (O:∀c C s H ex,PE (Fj X N scope c C s H ex) l te)
 (ab:swapsWith (.ListComp l [⟨tg,j,f,0⟩] scope L) (some (.Name x t)) E.line X.env=pure true:=by rfl)
 (P:∀x,foldedSetIterable j X.env x=pure x:=by intro _;rfl) (ae:X.fn x=true\/X.env.scope.names.lookup x=some .local:=by first|exact .inl rfl|exact .inr rfl|assumption) :
 PS X (.Assign [.Name x t] (.ListComp l [⟨tg,j,f,0⟩] scope L) E) (Jj (KO k caps u g tc te) (M1 i)):=by
 intro pins s σ H D I h;have af:closureFor scope X.env=pure (Gm X.env scope.names []):=VQ λx n ag=>I.ok.has x.1 (S.free x n ag);rw[exec_Assign_Name_used _ _ _ _ ab];refine Ag (wpAny_standAt (Ag ?_))
 show wpAny _ _ (do let _ <-comprehension (.ListComp l [⟨tg,j,f,0⟩] scope L) scope X.env _ (newList []) false (eval j X.env) (some (assign (.Name x t) X.env))) _ _ s
 refine Ag (F1 (wpAny_comprehension_free (use:=some (assign (.Name x t) X.env)) (Q:=λζ Z=>SP X pins D .next Z) rfl P af S.kind S.loc
  (AV (J pins s σ H _ I h) λv s1 h1=>AV h1 λav s2 R=>?_)) (λζ Z o=>Az (Az o)) λζ ζ e=>e)
 obtain⟨it,fp,tn,aq,ar,e,r,T,ah,W,q⟩:=R;subst e;refine VW (Q:=λx U=>M1 i x σ U D.nx) G S r T ah W K M O q ?_;intro w C H' Z m y A Y hI ai B o;have I3:=hI Z.heap (.refl ..);have aj:Inv X pins σ H' Z:=I3;refine wpAny_assign_Name (Vm aj F aa n (show RelV (V.ref w) (.ref w) from rfl) (λak I4⟨a,al,d⟩=>?_) ae)
 have an:C≠a:=by
  rcases d with d|d;rw[d];exact y;exact Ne.symm (A x a d)
 refine⟨m,Y.sameBut al an,λh' ao=>?_⟩;refine⟨_,H',?_,o⟩
 exact I4.turned (t':=ak.toks) (λb au hb e=>(ao.2 b hb).trans e) ai y (.inr (EN r.sz B)) A λp hp z=>by
  have:=Bj (r.pin p hp).1;rw[z] at this;exact absurd (FY this B) (GY _)
def Br (P:Program) (w:World) (K:Aj) (mg:Str->Option Value) (base:Heap) (x:Str) (k:Nat) (ps:List Str) (sp:Sp):Prop:=
 ∃f fd,EO P w K mg base IQ k f fd ps sp/\mg x=some (.ref f)/\PySem.W.keepIn K (.ref f)=true/\Binds K fd ps []
section
variable {X:Cx} {x:Str} {k:Nat} {ps:List Str} {sp:Sp} {e:Expr} {es:List Expr} {t:TA} {p L:Pos}
def AR(C:Br X.prog X.w X.K X.mg X.base x k ps sp)(a:PA X (e::es) t)(b:B3 k X.A:=by exact B3.mono (by assumption) (by decide))(c:Gl X x:=by rfl)(j:(x==("__debug__" : Str))=false:=by decide)
 (d:starEach (e::es) X.env=(false,eval e X.env)::starEach es X.env:=by rfl) (l:(backTo L (starEach es X.env)).any (·.1)=false:=by rfl):PE X (.Call (.Name x p) (e::es) [] L) (M8 sp [] E0 t):=by
 obtain⟨f,fd,F,g,h,i⟩:=C;exact Jp F b c g h i .nil Oc a j d l
end
def Jz(n:String)(a:Gl X x)(b:X.mg x=none)(hv:bootBuiltins x=some (.type n))(c:x ≠ "__name__" :=by decide)(hd:(x==("__debug__" : Str))=false:=by decide):PE X (.Name x L) (tC (.ty n)):=Jh (v:=.ty n) a b hv rfl c hd
def IR{t u:TS}{D:Ends}{σ:L2.St}(P:L2.St->Hp->Prop)(a:∀σ' H',P σ' H'->u D σ' H')(b:∀N:L2.St->Hp->Prop,(∀σ' H',P σ' H'->N σ' H')->t {D with nx:=N} σ H):Lm t u D σ H:=b (u D) a
def Ac.upd{H H':Hp}{D:Addr}{o:HO}(h:Ac H H')(a:H D=none):Ac H (upd H' D o):=λb u e=>by
 rw[AE (AU e a)];exact h b u e
def Ac.seqT{K:Aj}(e:Ac H H')(h:Al K H a xs):Al K H' a xs:=by
 rcases h with(h|⟨o,h⟩)|h;exact .inl (.inl (e _ _ h));exact .inl (.inr ⟨o,e _ _ h⟩);exact .inr h
def VX{K:Aj}{Q:Addr->Hp->Prop}(f:V->V)(r:xs.length<=sizeLine)(j:Af K U a xs)
 (q:∀(i:Nat)(x:V)(Y:Hp)(D:Addr)(R:VK),xs[i]?=some x->Ac U Y->U D=none->(∀e,Ac Y e->R (f x) e)->g x (F4 k caps σ) Y λσ4 l=>te σ4 l R)
 (hd:∀(Y:Hp)(D:Addr),Ac U Y->U D=none->Y D=some (.lst (xs.map f))->Q D Y):KN (M3 K a) k caps g HN te σ U Q:=by
 refine Og xs.length (λD i b Y=>b=(xs.take i).map f/\Ac U Y/\Y D=some (.lst b)) (λD c=>⟨rfl,(Ac.refl _).upd c,Aa⟩) (λD i b Y p m=>⟨xs,xs[i],p.2.1.seq j,by simp[m]⟩) (λD b Y p=>⟨xs,p.2.1.seq j,AI _⟩) (λD i b Y x e R s c m p y k t=>?_) λD b Y c p=>?_;obtain⟨rfl,y⟩:=y;obtain⟨rfl,d,h⟩:=p;have n:=y xs (d.seq j);refine q i x e D _ n d c λl o=>k _ _ (o _ _ h) (by rw[Ak,EJ];lia) ⟨?_,(d.trans o).upd c,Aa⟩;rw[D7,n,A6];rfl;obtain⟨rfl,d,h⟩:=p;rw[Cr] at h;exact hd Y D d c h
def Fk (ns:List Int) (k:Int):Int:=(ns[k.toNat]?).getD 0
def S6{u:TS}{D:Ends}(h:u D (σ.set i (some v)) H):Lm (Jj (tC v) (M1 i)) u D σ H:=h
def LN{k:Int}(a:0<=k)(h1:k<n):HG n k=some k.toNat:=by
 unfold HG;rw[Ar a,Ar h1]
def YV(xs:List V)(n:Nat):Fh xs (some (n:Int)) none=xs.drop n:=by
 unfold Fh;rw[HT.sIx_none,HT.sIx_nat];by_cases h:n<=xs.length;rw[Nat.min_eq_left h,List.take_of_length_le (by rw[Ky];exact AI _)];rw[Nat.min_eq_right (by lia),List.drop_of_length_le (AI _),List.drop_of_length_le (by lia)]
 simp
def YW(xs:List V)(a b:Nat)(e:a<=b):Fh xs (some (a:Int)) (some (b:Int))=(xs.drop a).take (b-a):=by
 unfold Fh;rw[HT.sIx_nat,HT.sIx_nat];by_cases c:a<=xs.length;rw[Nat.min_eq_left c];by_cases d:b<=xs.length;rw[Nat.min_eq_left d];rw[Nat.min_eq_right (show xs.length<=b by lia),List.take_of_length_le (by rw[Ky];exact AI _),List.take_of_length_le (by rw[Ky];lia)];rw[Nat.min_eq_right (show xs.length<=a by lia),List.drop_of_length_le (AI _),List.drop_of_length_le (show xs.length<=a by lia)]
 simp
def AW{p:Addr}{o:HO}(h:H p=none):Ac H (upd H p o):=(Ac.refl H).upd h
def A0{σ:L2.St}{N:L2.St->Hp->Prop}(h:N (σ.set i (some v)) H):M1 i v σ H N:=h
section
variable {X:Cx}
def EQ:KI X "list.append" VF:=VG
def Oh:KI X "list.extend" VH:=YA
def YX:KI X "list.clear" HI:=YB
end
section
variable {X:Cx}
def JA (neg:Bool):R2:=λx y H Q=>∃a o,y=.ref a/\Fi H a x o/\Q (.bl (o.isSome != neg)) H
def YY(b:X.A.units+1<cLine):Dr X (compareOp .In) (JA false):=by
 intro pins s σ H x y v u Q I c d h;obtain⟨a,o,rfl,g,q⟩:=h;cases d;refine SV b I g c λZ e=>⟨.bl _,H,e,?_,q⟩;cases o<;>rfl
def YZ:V->V->V->Hp->(Hp->Prop)->Prop:=λo i v H Q=>∃a H',o=.ref a/\N9 H a i v H'/\Q H'
def Y0(b:X.A.units+1<cLine):Ji X YZ:=by
 intro pins s σ H o i v j k u Q I c d e h;obtain⟨a,H',rfl,g,q⟩:=h;cases c;exact YE b I g d e λZ f=>⟨H',f,q⟩
end
section
variable {prog:Program} {w:World} {A:Around} {R:Result->Shared->Prop} {It:Addr} {fp r:List Addr} {G:Array GenState->Array GenState->Prop} {n:Nat} {Pn:Nat->Value->Prop} {Sn:Nat->Shared->Prop}
end
section
variable {prog:Program} {w:World} {A:Around} {E:G'} {s:Shared}
end
section
variable {X:Cx}
end
open PySem.SeqAt
inductive Dt where
 |non|bl (b:Bool)|int (i:Int)|str (x:Str)|tup (l:List Dt)|lst (l:List Dt)
mutual
inductive Ap (K:Aj) (H:Hp):V->Dt->Prop where
 | non:Ap K H .non .non
 | bl (b:Bool):Ap K H (.bl b) (.bl b)
 | int (i:Int):Ap K H (.int i) (.int i)
 | str (x:Str):Ap K H (.str x) (.str x)
 | tup {a:Addr} {vs:List V} {ds:List Dt} (h:Al K H a vs) (t:Ai K H vs ds):Ap K H (.ref a) (.tup ds)
 | lst {a:Addr} {vs:List V} {ds:List Dt} (h:Af K H a vs) (t:Ai K H vs ds):Ap K H (.ref a) (.lst ds)
inductive Ai (K:Aj) (H:Hp):List V->List Dt->Prop where
 | nil:Ai K H [] []
 | cons {v:V} {d:Dt} {vs:List V} {ds:List Dt} (h:Ap K H v d) (t:Ai K H vs ds):Ai K H (v :: vs) (d :: ds)
end
mutual
theorem Ap.same {K:Aj}{H H':Hp} (e:Ac H H') {v:V} {d:Dt} (h:Ap K H v d):Ap K H' v d:=by
 cases h with
 | non=>exact .non
 | bl b=>exact .bl b
 | int i=>exact .int i
 | str x=>exact .str x
 | tup h t=>exact .tup (e.seqT h) (Ai.same e t)
 | lst h t=>exact .lst (e.seq h) (Ai.same e t)
theorem Ai.same {K:Aj}{H H':Hp} (e:Ac H H') {vs:List V} {a:List Dt} (h:Ai K H vs a):Ai K H' vs a:=by
 cases h with
 | nil=>exact .nil
 | cons h t=>exact .cons (Ap.same e h) (Ai.same e t)
end
theorem Ai.length{K:Aj}{H:Hp}:∀{vs:List V}{a:List Dt},Ai K H vs a->vs.length=a.length
 |_,_,.nil=>rfl
 |_,_,.cons _ t=>BB (·+1) t.length
theorem Ai.get{K:Aj}{H:Hp}:∀{vs:List V}{a:List Dt}{i:Nat}{v:V},Ai K H vs a->vs[i]?=some v->∃d,a[i]?=some d/\Ap K H v d
 |_,_,_,_,.nil,e=>by simp at e
 |_,_,0,_,.cons h _,e=>by simp at e;subst e;exact⟨_,rfl,h⟩
 |_,_,i+1,v,.cons _ t,e=>by
   obtain⟨d,h1,b⟩:=Ai.get (i:=i) (v:=v) t (by simpa using e);exact⟨d,by simpa using h1,b⟩
theorem Ai.get'{K:Aj}{H:Hp}:∀{vs:List V}{a:List Dt}{i:Nat}{d:Dt},Ai K H vs a->a[i]?=some d->∃v,vs[i]?=some v/\Ap K H v d
 |_,_,_,_,.nil,e=>by simp at e
 |_,_,0,_,.cons h _,e=>by simp at e;subst e;exact⟨_,rfl,h⟩
 |_,_,i+1,v,.cons _ t,e=>by
   obtain⟨d,h1,b⟩:=Ai.get' (i:=i) (d:=v) t (by simpa using e);exact⟨d,by simpa using h1,b⟩
theorem Ai.append{K:Aj}{H:Hp}:∀{vs a:List V}{b es:List Dt},Ai K H vs b->Ai K H a es->Ai K H (vs++a) (b++es)
 |_,_,_,_,.nil,t=>t
 |_,_,_,_,.cons h r,t=>.cons h (Ai.append r t)
theorem Ai.strs{K:Aj}{H:Hp}:∀(xs:List Str),Ai K H (xs.map V.str) (xs.map Dt.str)
 |[]=>.nil
 |x::xs=>.cons (.str x) (Ai.strs xs)
section
variable {X:Cx} {pins:B'} {σ:St} {H:Hp} {s:Shared}
def Inv.not_both(I:Inv X pins σ H s){ys:List V}(h:Af X.K H a xs)(h':Al X.K H a ys):False:=by
 obtain⟨_,_,⟨o,n,e,c,_⟩,_⟩:=I.list h;obtain⟨_,_,⟨f,b,d,_⟩,_⟩:=I.tuple h';rw[e] at b;cases b;rw[c] at d;exact absurd d (by decide)
mutual
theorem Ap.inj (I:Inv X pins σ H s) {v:V} {d e:Dt} (h:Ap X.K H v d) (h':Ap X.K H v e):d=e:=by
 cases h with
 | non=>cases h';rfl
 | bl _=>cases h';rfl
 | int _=>cases h';rfl
 | str _=>cases h';rfl
 | tup h t=>cases h' with
   | tup h' a =>
     have e:=I.tuple_inj h h';subst e;rw[Ai.inj I t a]
   | lst h' _=>exact(I.not_both h' h).elim
 | lst h t=>cases h' with
   | lst h' a =>
     have e:=I.list_inj h h';subst e;rw[Ai.inj I t a]
   | tup h' _=>exact(I.not_both h h').elim
theorem Ai.inj (I:Inv X pins σ H s) {vs:List V} {a es:List Dt} (h:Ai X.K H vs a) (h':Ai X.K H vs es):a=es:=by
 cases h with
 | nil=>cases h';rfl
 | cons h t=>cases h' with
   | cons h' b=>rw[Ap.inj I h h',Ai.inj I t b]
end
end
def Dt.kd:Dt->Nat
 |.non=>0|.bl _=>1|.int _=>2|.str _=>3|.tup _=>4|.lst _=>5
def Hr (a b:Nat):Bool:=a != b && !(a==1 && b==2) && !(a==2 && b==1)
mutual
inductive Dk:Nat->Dt->Dt->Prop where
 | non {n:Nat}:Dk n .non .non
 | bl {n:Nat} (a b:Bool):Dk n (.bl a) (.bl b)
 | int {n:Nat} (a b:Int):Dk n (.int a) (.int b)
 | str {n:Nat} (a b:Str):Dk n (.str a) (.str b)
 | tup {n:Nat} {ds es:List Dt} (t:Bx n ds es):Dk (n+1) (.tup ds) (.tup es)
 | lst {n:Nat} {ds es:List Dt} (t:Bx n ds es):Dk (n+1) (.lst ds) (.lst es)
 | apart {n:Nat} {d e:Dt} (h:Hr d.kd e.kd=true):Dk (n+1) d e
inductive Bx:Nat->List Dt->List Dt->Prop where
 | nil {n:Nat} (es:List Dt):Bx n [] es
 | nil' {n:Nat} (ds:List Dt):Bx n ds []
 | cons {n:Nat} {d e:Dt} {ds es:List Dt} (h:Dk n d e) (t:Bx n ds es):Bx n (d :: ds) (e :: es)
end
theorem Bx.of{n:Nat}:∀{a es:List Dt},(∀d∈a,∀e∈es,Dk n d e)->Bx n a es
 |[],es,_=>.nil es
 |d::a,[],_=>.nil' _
 |d::a,e::es,h=>.cons (h d (by simp) e (by simp)) (Bx.of λx b y c=>h x (by simp[b]) y (by simp[c]))
open Classical in
noncomputable def dec (p:Prop):Bool:=decide p
variable {p:Prop}
def Fa(h:p):dec p=true:=@AY p (Classical.propDecidable p) h
def Go(h:¬p):dec p=false:=@D8 p (Classical.propDecidable p) h
def Ds:dec p=true↔p:=⟨λh=>@A3 p (Classical.propDecidable p) h,Fa⟩
def KP{q:Prop}(h:p↔q):dec p=dec q:=by rw[propext h]
def S7{α:Type} [BEq α] [LawfulBEq α]{a b:α}(h:p↔a=b):(a==b)=dec p:=by
 by_cases e:a=b;subst e;rw[Fa (h.mpr rfl)];exact beq_self_eq_true _;rw[Go λq=>e (h.mp q)];exact beq_false_of_ne e
variable {ds es:List Dt}
def Y1(b:ds.length=es.length)(h:∀i,i<ds.length->ds[i]?=es[i]?):ds=es:=List.ext_getElem? λi=>by
 by_cases a:i<ds.length;exact h i a;rw[Hk (by lia),Hk (by lia)]
section
variable {X:Cx} {pins:B'} {σ:St} {H:Hp} {s:Shared}
def Hs(A:Around):A.in1.units=A.units+1:=rfl
def VY(I:Inv X pins σ H s){vs c:List V}{a b:List Value}(f:Ay vs a)(g:Ay c b)(J:Ai X.K H vs ds)(n:Ai X.K H c es)
 (o:∀(i:Nat)(d e:Dt)(v u:V)(x y:Value),ds[i]?=some d->es[i]?=some e->RelV v x->RelV u y->Ap X.K H v d->Ap X.K H u e->EqAt A s x y (dec (d=e))) :
 ∀j(h1:j<a.toArray.size)(h:j<b.toArray.size),EqAt A s a.toArray[j] b.toArray[j] (dec (ds[j]?=es[j]?)):=by
 intro j h1 h;have C:=f.length;have E:=g.length;have z:j<a.length:=(by simpa using h1);have B:j<b.length:=(by simpa using h);obtain⟨x,k,r⟩:=f.get (i:=j) (x:=vs[j]'(by lia)) (AA (by lia));obtain⟨y,l,t⟩:=g.get (i:=j) (x:=c[j]'(by lia)) (AA (by lia));obtain⟨d,hd,D⟩:=J.get (i:=j) (v:=vs[j]'(by lia)) (AA (by lia));obtain⟨e,m,te⟩:=n.get (i:=j) (v:=c[j]'(by lia)) (AA (by lia))
 have ex:a.toArray[j]=x:=by
  rw[AA z] at k;simpa using k
 have w:b.toArray[j]=y:=by
  rw[AA B] at l;simpa using l
 rw[ex,w,hd,m];have:=o j d e _ _ x y hd m r t D te;rw[KP (p:=some d=some e) (q:=d=e) (by simp)];exact this
def VZ(a:n=ds.length)(b:ds.length=es.length):(List.range n).all (λj=>dec (ds[j]?=es[j]?))=dec (ds=es):=by
 subst a;by_cases h:ds=es;subst h;rw[Fa rfl,List.all_eq_true];exact λi ζ=>Fa rfl;rw[Go h,Bool.eq_false_iff];intro q;rw[List.all_eq_true] at q;exact h (Y1 b λi c=>Ds.mp (q i (List.mem_range.mpr c)))
variable {d e:Dt}{u:V}{y:Value}
def Y2(I:Inv X pins σ H s){x:Value}(h:Hr d.kd e.kd=true)(D:Ap X.K H v d)(te:Ap X.K H u e)(j:RelV v x)(f:RelV u y)(c:A.units<cLine):EqAt A s x y false/\RcAt A s x y false/\RcNeAt A s x y true:=by
 cases D with
 |non =>
   cases j
   cases te with
   |non=>exact absurd h (by simp[Hr,Dt.kd])
   |bl b =>
     cases f;exact⟨EqAt.none_bool _,RcAt.none_bool _,RcNeAt.none_bool _⟩
   |int b =>
     obtain⟨i,rfl⟩:=f;exact⟨EqAt.none_int _ _,RcAt.none_int _ _,RcNeAt.none_int _ _⟩
   |str b =>
     obtain⟨i,rfl⟩:=f;exact⟨EqAt.none_str _ _,RcAt.none_str _ _,RcNeAt.none_str _ _⟩
   |tup g i =>
     cases f;obtain⟨_,_,J,_⟩:=I.tuple g;exact⟨EqAt.none_tuple J c,RcAt.none_tuple J c,RcNeAt.none_tuple J c⟩
   |lst g i =>
     cases f;obtain⟨_,_,J,_⟩:=I.list g;have J:=J.isList;exact⟨EqAt.none_list J c,RcAt.none_list J c,RcNeAt.none_list J c⟩
 |bl a =>
   cases j
   cases te with
   |non =>
     cases f;exact⟨EqAt.bool_none _,RcAt.bool_none _,RcNeAt.bool_none _⟩
   |bl b=>exact absurd h (by simp[Hr,Dt.kd])
   |int b=>exact absurd h (by simp[Hr,Dt.kd])
   |str b =>
     obtain⟨i,rfl⟩:=f;exact⟨EqAt.bool_str _ _ _,RcAt.bool_str _ _ _,RcNeAt.bool_str _ _ _⟩
   |tup g i =>
     cases f;obtain⟨_,_,J,_⟩:=I.tuple g;exact⟨EqAt.bool_tuple _ J c,RcAt.bool_tuple _ J c,RcNeAt.bool_tuple _ J c⟩
   |lst g i =>
     cases f;obtain⟨_,_,J,_⟩:=I.list g;have J:=J.isList;exact⟨EqAt.bool_list _ J c,RcAt.bool_list _ J c,RcNeAt.bool_list _ J c⟩
 |int a =>
   obtain⟨t,rfl⟩:=j
   cases te with
   |non =>
     cases f;exact⟨EqAt.int_none _ _,RcAt.int_none _ _,RcNeAt.int_none _ _⟩
   |bl b=>exact absurd h (by simp[Hr,Dt.kd])
   |int b=>exact absurd h (by simp[Hr,Dt.kd])
   |str b =>
     obtain⟨i,rfl⟩:=f;exact⟨EqAt.int_str _ _ _ _,RcAt.int_str _ _ _ _,RcNeAt.int_str _ _ _ _⟩
   |tup g i =>
     cases f;obtain⟨_,_,J,_⟩:=I.tuple g;exact⟨EqAt.int_tuple _ _ J c,RcAt.int_tuple _ _ J c,RcNeAt.int_tuple _ _ J c⟩
   |lst g i =>
     cases f;obtain⟨_,_,J,_⟩:=I.list g;have J:=J.isList;exact⟨EqAt.int_list _ _ J c,RcAt.int_list _ _ J c,RcNeAt.int_list _ _ J c⟩
 |str a =>
   obtain⟨t,rfl⟩:=j
   cases te with
   |non =>
     cases f;exact⟨EqAt.str_none _ _,RcAt.str_none _ _,RcNeAt.str_none _ _⟩
   |bl b =>
     cases f;exact⟨EqAt.str_bool _ _ _,RcAt.str_bool _ _ _,RcNeAt.str_bool _ _ _⟩
   |int b =>
     obtain⟨i,rfl⟩:=f;exact⟨EqAt.str_int _ _ _ _,RcAt.str_int _ _ _ _,RcNeAt.str_int _ _ _ _⟩
   |str b=>exact absurd h (by simp[Hr,Dt.kd])
   |tup g i =>
     cases f;obtain⟨_,_,J,_⟩:=I.tuple g;exact⟨EqAt.str_tuple _ _ J c,RcAt.str_tuple _ _ J c,RcNeAt.str_tuple _ _ J c⟩
   |lst g i =>
     cases f;obtain⟨_,_,J,_⟩:=I.list g;have J:=J.isList;exact⟨EqAt.str_list _ _ J c,RcAt.str_list _ _ J c,RcNeAt.str_list _ _ J c⟩
 |tup h1 k =>
   cases j;obtain⟨_,_,p,_⟩:=I.tuple h1
   cases te with
   |non =>
     cases f;exact⟨EqAt.tuple_none p c,RcAt.tuple_none p c,RcNeAt.tuple_none p c⟩
   |bl b =>
     cases f;exact⟨EqAt.tuple_bool _ p c,RcAt.tuple_bool _ p c,RcNeAt.tuple_bool _ p c⟩
   |int b =>
     obtain⟨i,rfl⟩:=f;exact⟨EqAt.tuple_int _ _ p c,RcAt.tuple_int _ _ p c,RcNeAt.tuple_int _ _ p c⟩
   |str b =>
     obtain⟨i,rfl⟩:=f;exact⟨EqAt.tuple_str _ _ p c,RcAt.tuple_str _ _ p c,RcNeAt.tuple_str _ _ p c⟩
   |tup g i=>exact absurd h (by simp[Hr,Dt.kd])
   |lst g i =>
     cases f;obtain⟨_,_,J,_⟩:=I.list g;have J:=J.isList;exact⟨EqAt.tuple_list p J c,RcAt.tuple_list p J c,RcNeAt.tuple_list p J c⟩
 |lst h1 k =>
   cases j;obtain⟨_,_,p,_⟩:=I.list h1;have p:=p.isList
   cases te with
   |non =>
     cases f;exact⟨EqAt.list_none p c,RcAt.list_none p c,RcNeAt.list_none p c⟩
   |bl b =>
     cases f;exact⟨EqAt.list_bool _ p c,RcAt.list_bool _ p c,RcNeAt.list_bool _ p c⟩
   |int b =>
     obtain⟨i,rfl⟩:=f;exact⟨EqAt.list_int _ _ p c,RcAt.list_int _ _ p c,RcNeAt.list_int _ _ p c⟩
   |str b =>
     obtain⟨i,rfl⟩:=f;exact⟨EqAt.list_str _ _ p c,RcAt.list_str _ _ p c,RcNeAt.list_str _ _ p c⟩
   |tup g i =>
     cases f;obtain⟨_,_,J,_⟩:=I.tuple g;exact⟨EqAt.list_tuple p J c,RcAt.list_tuple p J c,RcNeAt.list_tuple p J c⟩
   |lst g i=>exact absurd h (by simp[Hr,Dt.kd])
def V0(I:Inv X pins σ H s){x:Value}(D:Ap X.K H v d)(te:Ap X.K H u e)(b:RelV v x)(i:RelV u y)(h:RcAt A s x y (dec (d=e))):EqAt A s x y (dec (d=e)):=by
 by_cases g:x=y;subst g;have j:=b.inj i;subst j;rw[Fa (Ap.inj I D te)];exact EqAt.same _;intro f w E Q c;unfold eqBool;refine FZ ?_;refine wpAny_ite_split (λk=>absurd (eq_of_beq k) g) (λζ=>?_)
 cases D with
 |non=>cases b;exact Ag (h f w E _ (Gi c))
 |bl a=>cases b;exact Ag (h f w E _ (Gi c))
 |int a=>obtain⟨t,rfl⟩:=b;exact Ag (h f w E _ (Gi c))
 |str a=>obtain⟨t,rfl⟩:=b;exact Ag (h f w E _ (Gi c))
 |tup _ _=>cases b;exact Ag (h f w E _ (Gi c))
 |lst _ _=>cases b;exact Ag (h f w E _ (Gi c))
def Oi(h:Hr d.kd e.kd=true):¬d=e:=λz=>by
 subst z;simp[Hr] at h
set_option tactic.hygienic true in
mutual
theorem PR (I:Inv X pins σ H s) {n:Nat} {d e:Dt} {v u:V} {x y:Value} {A:Around} (c:Dk n d e) (D:Ap X.K H v d) (te:Ap X.K H u e) (g:RelV v x) (i:RelV u y) (O:A.units+n<cLine):RcAt A s x y (dec (d=e))/\RcNeAt A s x y (!dec (d=e)):=by
 cases c with
 | non =>
   cases D;cases te;cases g;cases i;rw[Fa rfl];exact⟨RcAt.none_none,RcNeAt.none_none⟩
 | bl a b =>
   cases D;cases te;cases g;cases i;rw[<-S7 (a:=a) (b:=b) (by simp)];exact⟨RcAt.bool_bool a b,RcNeAt.bool_bool a b⟩
 | int a b =>
   cases D;cases te;obtain⟨t,rfl⟩:=g;obtain⟨f,rfl⟩:=i;rw[<-S7 (a:=a) (b:=b) (by simp)];exact⟨RcAt.int_int a t b f,RcNeAt.int_int a t b f⟩
 | str a b =>
   cases D;cases te;obtain⟨t,rfl⟩:=g;obtain⟨f,rfl⟩:=i;rw[<-S7 (a:=a) (b:=b) (by simp)];exact⟨RcAt.str_str a t b f,RcNeAt.str_str a t b f⟩
 | @tup n ds es c =>
   cases D;cases te;rename_i a F h t b G C f;cases g;cases i;obtain⟨l,r,p,_⟩:=I.tuple h;obtain⟨m,o,k,_⟩:=I.tuple C;have J:=r.length;have K:=o.length;have L:=t.length;have M:=f.length;have w:=VY (A:=A.in1) I r o t f (LO I c (by rw[Hs];lia))
   have e:dec (Dt.tup ds=Dt.tup es)=((List.range (min l.toArray.size m.toArray.size)).all (fun j=>dec (ds[j]?=es[j]?)) && l.toArray.size == m.toArray.size):=by
    rw[KP (p:=Dt.tup ds=Dt.tup es) (q:=ds=es) (by simp)];simp only[Cw];by_cases B:ds.length=es.length
    rw[show(l.length == m.length)=true from beq_iff_eq.mpr (by lia),Bool.and_true,VZ (by lia) B]
    rw[show(l.length == m.length)=false from beq_false_of_ne (by lia),Bool.and_false,Go fun z=>B (by rw[z])]
   rw[e];exact⟨RcAt.tuples (A:=A) p k (by lia) w,RcNeAt.tuples (A:=A) p k (by lia) w⟩
 | @lst n ds es c =>
   cases D;cases te;rename_i a F h t b G C f;cases g;cases i;obtain⟨l,r,p,_⟩:=I.list h;obtain⟨m,o,k,_⟩:=I.list C;have J:=r.length;have K:=o.length;have L:=t.length;have M:=f.length;by_cases B:ds.length=es.length;have w:=VY (A:=A.in1) I r o t f (LO I c (by rw[Hs];lia));rw[KP (p:=Dt.lst ds=Dt.lst es) (q:=ds=es) (by simp),<-VZ (n:=l.toArray.size) (by simp only[Cw];lia) B];exact⟨RcAt.lists (A:=A) p.isList k.isList (by simp only[Cw];lia) (by lia) w,RcNeAt.lists (A:=A) p.isList k.isList (by simp only[Cw];lia) (by lia) w⟩
   rw[Go (show ¬Dt.lst ds=Dt.lst es from fun z=>B (by cases z;rfl))]
   have E:(l.toArray.size != m.toArray.size)=true:=by simp only[Cw];rw[bne_iff_ne];lia
   exact⟨RcAt.lists_lengths p.isList k.isList E (by lia),RcNeAt.lists_lengths p.isList k.isList E (by lia)⟩
 | apart h =>
   obtain⟨_,h1,N⟩:=Y2 (A:=A) I h D te g i (by lia);rw[Go (Oi h)];exact⟨h1,N⟩
theorem LO (I:Inv X pins σ H s) {n:Nat} {ds es:List Dt} {A:Around} (c:Bx n ds es) (f:A.units+n<cLine)
 (i:Nat) (d e:Dt) (v u:V) (x y:Value) (h:ds[i]?=some d) (h':es[i]?=some e) (a:RelV v x) (b:RelV u y) (D:Ap X.K H v d) (te:Ap X.K H u e):EqAt A s x y (dec (d=e)):=by
 cases c with
 | nil=>simp at h
 | nil'=>simp at h'
 | cons c t=>cases i with
   | zero =>
     simp at h h';subst h;subst h';have g:=PR (A:=A) I c D te a b f;exact V0 I D te a b g.1
   | succ i=>exact LO I t f i d e v u x y (by simpa using h) (by simpa using h') a b D te
end
def V1(I:Inv X pins σ H s){x:Value}(c:Dk n d e)(D:Ap X.K H v d)(te:Ap X.K H u e)(a:RelV v x)(b:RelV u y)(f:A.units+n<cLine):EqAt A s x y (dec (d=e)):=
 V0 I D te a b (PR I c D te a b f).1
end
section
variable {X:Cx}
def S8 (K:Aj):R2:=λx y H Q=>∃n d e,Dk n d e/\n<=60/\Ap K H x d/\Ap K H y e/\Q (.bl (dec (d=e))) H
def S9 (K:Aj):R2:=λx y H Q=>∃n d e,Dk n d e/\n<=60/\Ap K H x d/\Ap K H y e/\Q (.bl (!dec (d=e))) H
def Ta(f:X.A.units+64<cLine):Dr X (compareOp .Eq) (S8 X.K):=by
 intro pins s σ H x y v u Q I a b h;obtain⟨n,d,e,c,g,D,te,q⟩:=h;exact(PR (A:=X.A) I c D te a b (by lia)).1 _ _ _ _ ⟨.bl _,H,I,rfl,q⟩
def LP(f:X.A.units+64<cLine):Dr X (compareOp .NotEq) (S9 X.K):=by
 intro pins s σ H x y v u Q I a b h;obtain⟨n,d,e,c,g,D,te,q⟩:=h;exact(PR (A:=X.A) I c D te a b (by lia)).2 _ _ _ _ ⟨.bl _,H,I,rfl,q⟩
def Tb (K:Aj):R2:=λx y H Q=>∃n d ds a vs,(∀e∈ds,Dk n e d)/\n<=60/\Ap K H x d/\y=.ref a/\Af K H a vs/\Ai K H vs ds/\Q (.bl (dec (d∈ds))) H
def JB (K:Aj):R2:=λx y H Q=>∃n d ds a vs,(∀e∈ds,Dk n e d)/\n<=60/\Ap K H x d/\y=.ref a/\Af K H a vs/\Ai K H vs ds/\Q (.bl (!dec (d∈ds))) H
def Tc(I:Inv X pins σ H s){d:Dt}{vs:List V}{b:List Value}{x:Value}(r:Ay vs b)(t:Ai X.K H vs ds)(B:∀e∈ds,Dk n e d)(D:Ap X.K H v d)(C:RelV v x)(E:A.units+n<cLine) :
 (∀y,y∈b.toArray->EqAt A s y x (dec (∃u,RelV u y/\Ap X.K H u d)))/\b.toArray.any (λy=>dec (∃u,RelV u y/\Ap X.K H u d))=dec (d∈ds):=by
 have L:=r.length;have lt:=t.length
 have one:∀y,y∈b->∃e∈ds,∃u,RelV u y/\Ap X.K H u e:=λy a=>by
  obtain⟨i,g,e⟩:=Pk.mp a;obtain⟨M,w,j⟩:=r.get (i:=i) (x:=vs[i]'(by lia)) (AA (by lia));obtain⟨F,c,te⟩:=t.get (i:=i) (v:=vs[i]'(by lia)) (AA (by lia));rw[AA g,e] at w;cases w;exact⟨F,Bc c,_,j,te⟩
 refine⟨λy a=>?_,?_⟩;obtain⟨e,c,u,f,te⟩:=one y (by simpa using a);have:=V1 (A:=A) I (B e c) te D f C E
 rw[KP (p:=∃u,RelV u y/\Ap X.K H u d) (q:=e=d) ⟨λ⟨G,l,m⟩=>by
  have k:=f.inj l;subst k
  exact Ap.inj I te m,λz=>⟨u,f,by rw[<-z];exact te⟩⟩]
 exact this;by_cases h:d∈ds;rw[Fa h,Array.any_eq_true];obtain⟨i,g,e⟩:=Pk.mp h;obtain⟨u,K,te⟩:=t.get' (i:=i) (d:=d) (by rw[AA g,e]);obtain⟨y,a,j⟩:=r.get K;have o:i<b.length:=(Bh.mp a).1;refine⟨i,by simpa using o,?_⟩
 have:b.toArray[i]'(by simpa using o)=y:=by
  rw[AA o] at a;simpa using a
 rw[this];exact Fa ⟨u,j,te⟩;rw[Go h,Bool.eq_false_iff];intro q;obtain⟨i,g,q⟩:=Array.any_eq_true.mp q;obtain⟨u,f,te⟩:=Ds.mp q;obtain⟨e,c,G,l,m⟩:=one (b.toArray[i]) (by simp);have k:=f.inj l;subst k;have J:=Ap.inj I te m;subst J;exact h c
def HS(i:X.A.units+64<cLine):Dr X (compareOp .In) (Tb X.K):=by
 intro pins s σ H x y v u Q I b c h;obtain⟨n,d,ds,a,j,e,k,D,rfl,f,t,q⟩:=h;cases c;obtain⟨l,r,p,_⟩:=I.list f;obtain⟨h1,g⟩:=Tc (A:=X.A.in1) I r t e D b (by rw[Hs];lia);exact in_listAt _ p.isList h1 (by rw[g];exact⟨.bl _,H,I,rfl,q⟩)
def Y3(i:X.A.units+64<cLine):Dr X (compareOp .NotIn) (JB X.K):=by
 intro pins s σ H x y v u Q I b c h;obtain⟨n,d,ds,a,j,e,k,D,rfl,f,t,q⟩:=h;cases c;obtain⟨l,r,p,_⟩:=I.list f;obtain⟨h1,g⟩:=Tc (A:=X.A.in1) I r t e D b (by rw[Hs];lia);exact notIn_listAt _ p.isList h1 (by rw[g];exact⟨.bl _,H,I,rfl,q⟩)
end
end L2
namespace Ord
variable {α:Type} [DecidableEq α]
def nodup_sub_length{l m:List α}(h:l.Nodup)(a:∀x∈l,x∈m):l.length<=m.length:=by
 induction l generalizing m with
 |nil=>simp
 |cons x r f =>
   have b:=a x (by simp);have c:=(Gh.mp h)
   have:r.length<=(m.erase x).length:=f c.2 (λy d=>by
    have g:=a y (by simp[d]);have ne:y≠x:=λe=>c.1 (e▸d)
    exact(List.mem_erase_of_ne ne).mpr g)
   rw[List.length_erase_of_mem b] at this;have i:0<m.length:=List.length_pos_of_mem b
   simp;lia
end Ord
namespace War
end War
namespace Ord
variable {α:Type} [DecidableEq α]
end Ord
namespace L2
open PySem PySem.Spec PyProof.Rows Ord
abbrev Nc (p:Str×Str):Dt:=.tup [.str p.1,.str p.2]
def IS:([]:List V).length+1<=sizeLine:=by decide
def BK:([]:List V).length+1+1<=sizeLine:=by decide
theorem Ai.of_get{K:Aj}{H:Hp}:∀{vs:List V}{a:List Dt},vs.length=a.length->(∀(n:Nat)v d,vs[n]?=some v->a[n]?=some d->Ap K H v d)->Ai K H vs a
 |[],[],_,_=>.nil
 |v::vs,d::a,b,h=>.cons (h 0 v d rfl rfl) (Ai.of_get (by simpa using b) λn x y c e=>h (n+1) x y (by simpa using c) (by simpa using e))
structure Cd (H:Hp) (ts:List Addr) (ps:A'):Prop where
 len:ts.length=ps.length
 at_:∀(n:Nat)t p,ts[n]?=some t->ps[n]?=some p->H t=some (.tup [.str p.1,.str p.2])
variable {H:Hp}
def Cd.nil:Cd H [] []:=⟨rfl,λn t p h=>by simp at h⟩
variable {ts:List Addr}{ps:A'}
def Cd.same{H':Hp}(e:Ac H H')(h:Cd H ts ps):Cd H' ts ps:=⟨h.len,λn t p a b=>e _ _ (h.at_ n t p a b)⟩
def Cd.dts{K:Aj}(h:Cd H ts ps):Ai K H (ts.map V.ref) (ps.map Nc):=by
 refine Ai.of_get (by simpa using h.len) λn v d a b=>?_;rw[AX] at a b;obtain⟨t,c,rfl⟩:=E8.mp a;obtain⟨p,e,rfl⟩:=E8.mp b;exact .tup (Al.of (h.at_ n t p c e)) (.cons (.str _) (.cons (.str _) .nil))
def Cd.snoc{t:Addr}{p:Str×Str}(h:Cd H ts ps)(e:H t=some (.tup [.str p.1,.str p.2])):Cd H (ts++[t]) (ps++[p]):=by
 refine⟨by rw[AQ,AQ,h.len];rfl,λn d f a b=>?_⟩;by_cases c:n<ts.length;rw[Ft c] at a;rw[Ft (by rw[<-h.len];exact c)] at b;exact h.at_ n d f a b
 have g:n=ts.length:=by
  have:=(Bh.mp a).1;rw[AQ,Ef] at this;lia
 subst g;rw[FL (AI _)] at a;rw[FL (by rw[h.len];exact AI _)] at b;simp at a;simp[h.len] at b;subst a;subst b;exact e
variable {a:Addr}
def Oj{K:Aj}{xs:List V}{k:Nat}{e:List Nat}{g:TG}{te:TE}{σ:St}{U:Hp}{Q:Addr->Hp->Prop}(Pv:Addr->Nat->List V->Hp->Prop)
 (f:∀D,U D=none->Pv D 0 [] (upd U D (.lst []))) (b:∀D i ys Y,Pv D i ys Y->Af K Y a xs)
 (h:∀D i x ys Y(R:VK),U D=none->xs[i]?=some x->Pv D i ys Y->(∀y c,c D=some (.lst ys)->ys.length<sizeLine->Pv D (i+1) (ys++[y]) (upd c D (.lst (ys++[y])))->R y c)->g x (F4 k e σ) Y λσ4 j=>te σ4 j R)
 (hd:∀D ys Y,U D=none->Pv D xs.length ys Y->Q D Y):KN (M3 K a) k e g HN te σ U Q:=Og xs.length Pv f (λD i ys Y p d=>⟨xs,xs[i],b D i ys Y p,by simp[d]⟩) (λD ys Y p=>⟨xs,b D _ ys Y p,AI _⟩) (λD i ys Y x m R n l d p y k o=>by obtain⟨rfl,y⟩:=y;exact h D i x ys _ R l (y xs (b D i ys _ p)) p k) hd
def AF.ex{P:Program}{w:World}{h:Heap}{o:HO}(x:AF P w H h a o):∃u,h.get? a=some u:=by
 cases o with
 |lst b=>obtain⟨_,_,_,_,e⟩:=x;exact⟨_,e⟩
 |tup b=>obtain⟨_,_,_,u,e,_⟩:=x;exact⟨u,e⟩
 |dK c=>obtain⟨_,_,_,_,u,_,_,e,_⟩:=x;exact⟨u,e⟩
 |dT c=>obtain⟨_,_,_,_,u,_,_,e,_⟩:=x;exact⟨u,e⟩
 |set S n=>obtain⟨u,_,_,_,e,_⟩:=x;exact⟨u,e⟩
 |ins C d fs=>obtain⟨_,_,_,e,_⟩:=x;exact⟨_,e⟩
 |own y=>exact x
 |xd fs=>obtain⟨_,⟨u,_,_,e,_⟩,_⟩:=x;exact⟨u,e⟩
 |rng lo g=>obtain⟨_,_,_,e⟩:=x;exact⟨_,e⟩
 |frz i u=>obtain⟨e,_⟩:=x;exact⟨_,e⟩
 |tbl ps=>exact⟨_,(show h.get? a=some _ from x)⟩
 |met f y=>exact⟨_,(show h.get? a=some _ from x)⟩
 |ext φ=>exact x.2.1
def Inv.freshN{X:Cx}{pins:B'}{σ:L2.St}{s:Shared}(I:Inv X pins σ H s)(d:∀b u,s.heap.get? b=some u->b≠a):H a=none:=by
 cases e:H a with
 |none=>rfl
 |some o =>
   obtain⟨u,c⟩:=(I.hok a o e).ex;exact absurd rfl (d a u c)
def Inv.laidN{X:Cx}{pins:B'}{σ:L2.St}{s:Shared}{h':Heap}{o:HO}{t':Nat}(I:Inv X pins σ H s)(k:∀b u,s.heap.get? b=some u->h'.get? b=some u)(h:∀b u,s.heap.get? b=some u->b≠a)(i:AF X.prog X.w (upd H a o) h' a o) :
 Inv X pins σ (upd H a o) {s with heap:=h',toks:=t'}:=by
 have d:=I.freshN h;refine I.un ⟨λb u q ζ ζ ζ=>k b u q,λb u q ζ ζ ζ=>⟨u.slots,k b u q⟩,λb u q n ζ=>by rw[AE (h b u q)];exact n,λb u q ζ=>⟨u,k b u q⟩,λb f q=>by rw[AE (AU q d)];exact q,λb u f q=>by rw[AE (AU q d)];exact q,λb ps q=>⟨#[],by rw[AE (AU q d),q];simp⟩⟩ λb u e=>?_;by_cases g:b=a;subst g;rw[Aa] at e;cases e;exact i;rw[AE g] at e;exact(I.hok b u e).stay (λc v ζ q=>k c v q) (λc q=>by rw[AE (AU q d)];exact q) λc f q=>by rw[AE (AU q d)];exact q
section
variable {prog:Program} {w:World} {A:Around} {E:G'} {s:Shared}
end
section
variable {X:Cx}
end
end L2
namespace HT
open PySem PyProof.Rows
section
open PySem.SeqAt
open PySem.AutoSeq1 (wpAny_loadPart')
open PySem.MeetsSeq PySem.MeetsSeq2 PySem.MeetsSeq3
end
section
variable {prog:Program} {w:World} {A:Around} {E:G'} {s:Shared}
end
end HT
namespace L2
open PySem PySem.Spec PyProof.Rows
section
variable {X:Cx}
def Y4{ss:List Str}:∀{c:List Value},Ay (ss.map V.str) c->StrsAre c ss:=by
 induction ss with
 |nil=>intro c h;cases h;exact .nil
 |cons x r d =>
   intro c h
   cases h with
   |cons a b =>
     obtain⟨t,rfl⟩:=a;exact .cons _ _ (d b)
end
end L2
namespace L2
end L2
namespace KasM
open PySem PySem.W PyProof.Rows
set_option autoImplicit false
def Tw {α:Type} (lt:Nat->Nat->Bool) (n:Nat):KasT α->(α->Prop)->Prop
 |.ret a,Q=>Q a
 |.ask i j k,Q=>i<n/\j<n/\Tw lt n (k (lt i j)) Q
theorem Nd{α β:Type}{lt:Nat->Nat->Bool}{n:Nat}{f:α->KasT β}{Q:β->Prop}:∀(t:KasT α),Tw lt n t (λa=>Tw lt n (f a) Q)->Tw lt n (t.bind f) Q
 |.ret _,h=>h
 |.ask _ _ k,⟨b,c,d⟩=>⟨b,c,Nd (k _) d⟩
theorem Tw_mono{α:Type}{lt:Nat->Nat->Bool}{n:Nat}{Q b:α->Prop}(c:∀a,Q a->b a):∀(t:KasT α),Tw lt n t Q->Tw lt n t b
 |.ret a,h=>c a h
 |.ask _ _ k,⟨d,e,f⟩=>⟨d,e,Tw_mono c (k _) f⟩
theorem Tw_wp{α:Type}{lt:Nat->Nat->Bool}{n:Nat}{c:Nat->Nat->(Bool->Shared->Prop)->Shared->Prop}{s:Shared}{Q:α->Shared->Prop}(b:∀i j C,i<n->j<n->C (lt i j) s->c i j C s) :
 ∀(t:KasT α),Tw lt n t (λa=>Q a s)->t.kasWp c Q s
 |.ret _,h=>h
 |.ask _ _ k,⟨d,e,f⟩=>b _ _ _ d e (Tw_wp b (k _) f)
section
variable {O:KeyOrd} {key:Nat->O.α} {n:Nat}
def K (key:Nat->O.α) (p:Array Nat) (i:Nat):O.α:=key (p.getD i 0)
def Asc (key:Nat->O.α) (p:Array Nat) (k:Nat):Prop:=∀i,i+1<k->O.kle (K key p i) (K key p (i+1))
def Ol (key:Nat->O.α) (p:Array Nat) (k:Nat):Prop:=∀i,i+1<k->O.kle (K key p (i+1)) (K key p i)
def Pm (n:Nat) (p:Array Nat):Prop:=p.Perm (List.range n).toArray
def Pm.size{p:Array Nat}(h:Pm n p):p.size=n:=by have:=h.size_eq;simpa using this
variable {p:Array Nat}
def Pm.lt(h:Pm n p)(b:0<n)(i:Nat):p.getD i 0<n:=by
 by_cases a:i<p.size;have e:p.getD i 0=p[i]:=(by simp[Array.getD,a]);rw[e];have:p[i]∈p:=Array.getElem_mem a;have c:=h.mem_iff.mp this;simpa using c;have e:p.getD i 0=0:=(by simp[Array.getD,a]);rw[e];exact b
variable {i j:Nat}
def Y5(a:j<=p.size)(k:Nat):(kas_rev p i j).getD k 0=if i<=k/\k<j then p.getD (i+j-1-k) 0 else p.getD k 0:=by
 unfold kas_rev;simp only[Array.getD_eq_getD_getElem?];rw[getElem?_mirror_all a];split<;>rfl
variable {k:Nat}
def Y6{l:Nat}(a:k<p.size)(b:l<=k)(t:Nat):(bubble p k (k-l)).getD t 0=if t=l then p.getD k 0 else if l<t/\t<=k then p.getD (t-1) 0 else p.getD t 0:=by
 simp only[Array.getD_eq_getD_getElem?];rw[getElem?_bubble a _ (by lia)];rw[show k-(k-l)=l by lia];split;rfl;split<;>rfl
def Pm.rev(h:Pm n p)(i j:Nat):Pm n (kas_rev p i j):=(mirror_perm _ _ _ _).trans h
def Pm.bub(h:Pm n p)(i j:Nat):Pm n (bubble p i j):=(bubble_perm _ _ _).trans h
def V2(a:j<=p.size)(k:Nat):K key (kas_rev p i j) k=if i<=k/\k<j then K key p (i+j-1-k) else K key p k:=by
 unfold K;rw[Y5 a];split<;>rfl
def Td(b:j<=p.size)(a:∀k,i<=k->k<j->K key p k=K key p (j-1))(k:Nat):K key (kas_rev p i j) k=K key p k:=by
 rw[V2 b];split;rw[a _ (by lia) (by lia),a k (by lia) (by lia)];rfl
def Y7{l:Nat}(a:k<p.size)(b:l<=k)(t:Nat):K key (bubble p k (k-l)) t=if t=l then K key p k else if l<t/\t<=k then K key p (t-1) else K key p t:=by
 unfold K;rw[Y6 a b];split;rfl;split<;>rfl
theorem Asc.le{p:Array Nat}{k:Nat}(h:Asc key p k){i:Nat}:∀(d:Nat),i+d<k->O.kle (K key p i) (K key p (i+d))
 |0,_=>KeyOrd.kle_refl _
 |d+1,hd=>KeyOrd.kle_trans (h.le d (by lia)) (h (i+d) (by lia))
def Asc.le'(h:Asc key p k)(b:i<=j)(a:j<k):O.kle (K key p i) (K key p j):=by
 have:=h.le (i:=i) (j-i) (by lia)
 rwa [show i+(j-i)=j by lia] at this
abbrev lt (O:KeyOrd) (key:Nat->O.α) (i j:Nat):Bool:=O.blt (key i) (key j)
theorem Tf{p:Array Nat}(b:Pm n p)(c:0<n):∀(f a:Nat),1<=a->Tw (lt O key) n (kas_asc p f a) λm=>a<=m/\m<=a+f/\(∀i,a-1<=i->i+1<m->O.kle (K key p i) (K key p (i+1)))/\(m<a+f->O.klt (K key p m) (K key p (m-1)))
 |0,a,_=>⟨AI _,AI _,λi d g=>by lia,λh=>by lia⟩
 | f + 1,a,q=>by
   refine⟨b.lt c _,b.lt c _,?_⟩
   cases j:lt O key (p.getD a 0) (p.getD (a-1) 0) with
   |true =>
     simp only[if_true];exact⟨AI _,by lia,λi d g=>by lia,λζ=>j⟩
   |false =>
     simp only[FU,if_false];refine Tw_mono ?_ _ (Tf b c f (a+1) (by lia));rintro m ⟨d,g,k,l⟩;refine⟨by lia,by lia,λi r o=>?_,λh=>l (by lia)⟩;by_cases e:i=a-1;subst e;rw[show a-1+1=a by lia];exact j;exact k i (by lia) o
theorem PU(c:0<n):∀(f:Nat)(p:Array Nat)(a q:Nat),Pm n p->a+f<=n->Ol key p a->q+1<=a->(∀k,a-(q+1)<=k->k<a->K key p k=K key p (a-1)) ->
 Tw (lt O key) n (kas_desc f p a q) λr=>Pm n r.1/\a<=r.2.1/\r.2.1<=a+f/\Ol key r.1 r.2.1/\r.2.2+1<=r.2.1/\(∀k,r.2.1-(r.2.2+1)<=k->k<r.2.1->K key r.1 k=K key r.1 (r.2.1-1))
 |0,p,a,q,b,_,hd,o,d=>⟨b,AI _,AI _,hd,o,d⟩
 | f + 1,p,a,q,b,E,hd,o,d=>by
   have hz:=b.size;refine⟨b.lt c _,b.lt c _,?_⟩
   cases u:lt O key (p.getD a 0) (p.getD (a-1) 0) with
   |true =>
     have t:O.klt (K key p a) (K key p (a-1)):=u
     have z:Ol key p (a+1):=λi s=>by
      by_cases e:i+1=a;rw[e];have:i=a-1:=by lia
      rw[this];exact KeyOrd.kle_of_klt t;exact hd i (by lia)
     simp only[if_true];by_cases A:q > 0;rw[Ar A];have Z:=Td (key:=key) (p:=p) (i:=a-(q+1)) (j:=a) (by lia) d;refine Tw_mono ?_ _ (PU c f _ (a+1) 0 (b.rev _ _) (by lia) (λi s=>by rw[Z,Z];exact z i s) (by lia) (λk v w=>by rw[show k=a+1-1 by lia]));rintro r ⟨g,x,y,h,l,m⟩;exact⟨g,by lia,by lia,h,l,m⟩;rw[Ao A];refine Tw_mono ?_ _ (PU c f _ (a+1) 0 b (by lia) z (by lia) (λk v w=>by rw[show k=a+1-1 by lia]));rintro r ⟨g,x,y,h,l,m⟩;exact⟨g,by lia,by lia,h,l,m⟩
   |false =>
     have t:O.kle (K key p (a-1)) (K key p a):=u;simp only[FU,if_false];refine⟨b.lt c _,b.lt c _,?_⟩
     cases D:lt O key (p.getD (a-1) 0) (p.getD a 0) with
     |true =>
       simp only[if_true];exact⟨b,AI _,Nat.le_add_right _ _,hd,o,d⟩
     |false =>
       have B:O.kle (K key p a) (K key p (a-1)):=D;have C:K key p a=K key p (a-1):=KeyOrd.kle_antisymm B t;simp only[FU,if_false];refine Tw_mono ?_ _ (PU c f _ (a+1) (q+1) b (by lia) (λi s=>?_) (by lia) (λk v w=>?_));rintro r ⟨g,x,y,h,l,m⟩;exact⟨g,by lia,by lia,h,l,m⟩;by_cases e:i+1=a;rw[e];have:i=a-1:=by lia
       rw[this];exact B;exact hd i (by lia);rw[show a+1-1=a by lia];by_cases e:k=a;rw[e];rw[d k (by lia) (by lia),C]
abbrev Tg (key:Nat->O.α) (n:Nat) (r:Nat×Array Nat):Prop:=Pm n r.2/\1<=r.1/\r.1<=n/\Asc key r.2 r.1
def V3(c:0<n){a:Nat}(b:Pm n p)(d:1<=a)(k:a<=n)(hd:Ol key p a):Tw (lt O key) n (kas_tail3 a n p) (Tg key n):=by
 unfold kas_tail3;have l:=b.size;have Z:=V2 (key:=key) (p:=p) (i:=0) (j:=a) (by lia);refine Nd _ (Tw_mono ?_ _ (Tf (O:=O) (key:=key) (b.rev 0 a) c (n-a) a d));rintro m ⟨o,q,f,_⟩;refine⟨b.rev _ _,by show 1<=m;lia,by show m<=n;lia,λi g=>?_⟩;have h:i+1<m:=g;by_cases e:a-1<=i;exact f i e h;show O.kle (K key (kas_rev p 0 a) i) (K key (kas_rev p 0 a) (i+1));rw[Z,Z,Ar (by lia),Ar (by lia)];have:=hd (0+a-1-(i+1)) (by lia)
 rwa [show 0+a-1-(i+1)+1=0+a-1-i by lia] at this
def V4(c:0<n){a:Nat}(f:Pm n p)(g:1<=a)(t:a+1<=n)(hd:Ol key p (a+1)):Tw (lt O key) n (kas_descPart a n p) (Tg key n):=by
 unfold kas_descPart;refine Nd _ (Tw_mono ?_ _ (PU (O:=O) (key:=key) c (n-(a+1)) p (a+1) 0 f (by lia) hd (by lia) (λk g u=>by rw[show k=a+1-1 by lia])));rintro⟨h,m,q⟩ ⟨b,l,o,d,r,e⟩;dsimp only at b l o d r e ⊢;have v:=b.size;split;have Z:=Td (key:=key) (p:=h) (i:=m-(q+1)) (j:=m) (by lia) e;exact V3 c (b.rev _ _) (by lia) (by lia) λi s=>by rw[Z,Z];exact d i s
 exact V3 c b (by lia) (by lia) d
def Y8(b:0<n)(a:Pm n p):Tw (lt O key) n (kas_count n p) (Tg key n):=by
 unfold kas_count;have w:=a.size;refine Nd _ (Tw_mono ?_ _ (Tf (O:=O) (key:=key) a b (n-1) 1 (AI _)));rintro m ⟨c,x,r,s⟩;have d:Asc key p m:=λi f=>r i (by lia) f;by_cases g:(m==n)=true;rw[Ar g];exact⟨a,c,by show m<=n;lia,d⟩;rw[Ao g]
 have y:m<n:=by
  have:m≠n:=λq=>g (by rw[q];exact beq_self_eq_true _);lia
 have l:=s (by lia);by_cases o:m > 1;rw[Ar o];refine⟨a.lt b _,a.lt b _,?_⟩
 cases t:lt O key (p.getD 0 0) (p.getD (m-1) 0) with
 |true =>
   simp only[if_true];exact⟨a,c,by show m<=n;lia,d⟩
 |false =>
   have v:O.kle (K key p (m-1)) (K key p 0):=t;simp only[FU,if_false]
   have h:∀k,0<=k->k<m->K key p k=K key p (m-1):=λk ζ u =>
    KeyOrd.kle_antisymm (d.le' (by lia) (by lia)) (KeyOrd.kle_trans v (d.le' (by lia) u))
   have Z:=Td (key:=key) (p:=p) (i:=0) (j:=m) (by lia) h;refine V4 b (a.rev _ _) c (by lia) λi f=>?_;rw[Z,Z];by_cases e:i+1=m;rw[e,show i=m-1 by lia];exact KeyOrd.kle_of_klt l;rw[h i (by lia) (by lia),h (i+1) (by lia) (by lia)];exact KeyOrd.kle_refl _
 rw[Ao o];refine V4 b a c (by lia) λi f=>?_;have:m=1:=(by lia);subst this;obtain rfl:i=0:=by lia
 exact KeyOrd.kle_of_klt l
theorem Th(c:0<n){p:Array Nat}{k:Nat}(d:Pm n p)(g:Asc key p k):∀(f l r:Nat),r-l<=f->l<=r->r<=k->(∀i,i<l->O.kle (K key p i) (K key p k))->(∀i,r<=i->i<k->O.klt (K key p k) (K key p i)) ->
 Tw (lt O key) n (kas_place p k f l r) λm=>m<=k/\(∀i,i<m->O.kle (K key p i) (K key p k))/\(∀i,m<=i->i<k->O.klt (K key p k) (K key p i))
 |0,l,r,t,u,q,h,j=>⟨by lia,h,λi a b=>j i (by lia) b⟩
 | f + 1,l,r,t,u,q,h,j=>by
   unfold kas_place;by_cases e:l ≥ r;rw[Ar e];exact⟨by lia,h,λi a b=>j i (by lia) b⟩;rw[Ao e];refine⟨d.lt c _,d.lt c _,?_⟩
   cases s:lt O key (p.getD k 0) (p.getD ((l+r)/2) 0) with
   |true =>
     have o:O.klt (K key p k) (K key p ((l+r)/2)):=s;simp only[if_true];exact Th c d g f l ((l+r)/2) (by lia) (by lia) (by lia) h λi a b=>KeyOrd.klt_of_klt_of_kle o (g.le' a b)
   |false =>
     have o:O.kle (K key p ((l+r)/2)) (K key p k):=s;simp only[FU,if_false];exact Th c d g f ((l+r)/2+1) r (by lia) (by lia) q (λi a=>KeyOrd.kle_trans (g.le' (by lia) (by lia)) o) j
theorem HU (h0:0<n):∀ (f:Nat) (p:Array Nat) (k:Nat),Pm n p->k+f=n->Asc key p k->Tw (lt O key) n (kas_bin f p k) fun p'=>Pm n p'/\Asc key p' n
 | 0, p, k, hp, hk, ha => ⟨hp, by have : k = n := by lia
                                  rw[<-this];exact ha⟩
 |f+1,p,k,hp,hk,ha=>by
   have hz:=hp.size;unfold kas_bin;refine Nd _ (Tw_mono ?_ _ (Th (O:=O) (key:=key) h0 hp ha k 0 k (by lia) (by lia) (AI _) (λi h=>by lia) λi a b=>by lia));rintro l ⟨b1,b2,b3⟩;have Z:=Y7 (key:=key) (p:=p) (k:=k) (l:=l) (by lia) b1;refine HU h0 f _ (k+1) (hp.bub _ _) (by lia) λi hi=>?_;rw[Z,Z];by_cases e1:i=l;rw[Ar e1,Ao (by lia)];by_cases e2:i+1<=k;rw[Ar (by lia)];exact KeyOrd.kle_of_klt (b3 (i+1-1) (by lia) (by lia));lia;rw[Ao e1];by_cases e2:i+1=l;rw[Ar e2,Ao (by lia)];exact b2 i (by lia);rw[Ao e2];by_cases e3:l<i;rw[Ar (by lia),Ar (by lia)];have:=ha (i-1) (by lia)
   rwa [show i-1+1=i+1-1 by lia] at this
   rw[Ao (by lia),Ao (by lia)];exact ha i (by lia)
def sort_ok(h0:0<n):Tw (lt O key) n (kas_sort n) λp=>Pm n p/\Asc key p n:=by
 unfold kas_sort;refine Nd _ (Tw_mono ?_ _ (Y8 (O:=O) (key:=key) h0 (Array.Perm.refl _)));rintro⟨m,p⟩ ⟨b1,b2,b3,b4⟩;dsimp only at b1 b2 b3 b4 ⊢;split;rw[show max m 1=m by lia];exact HU h0 _ _ _ b1 (by lia) b4
 exact ⟨b1, by have : m = n := by lia
               rw[<-this];exact b4⟩
end
end KasM
namespace L2
open PySem PySem.Spec PyProof.Rows
section
variable {prog:Program} {w:World} {A:Around} {E:G'} {s:Shared}
def Y9{O:KeyOrd}{key:Nat->O.α}{κ:SortKind}{a:Addr}{vs:List Value}{n:Nat}{P:PySem.Fin->Shared->Prop}(f:s.heap.get? a=some (seqObj "list" vs.toArray n))(L:vs.length<64)
 (T:2<=vs.length->∀(h':Heap),(∀b o,b≠a->s.heap.get? b=some o->h'.get? b=some o)->∀(Q:SortKind->Shared->Prop),Q κ {s with heap:=h'}->wpAny (model prog w) A (keyKind' vs.toArray) Q (λζ ζ=>False) {s with heap:=h'})
 (N:∀(h':Heap),(∀b o,b≠a->s.heap.get? b=some o->h'.get? b=some o)->∀(i j:Nat)(C:Bool->Shared->Prop),i<vs.length->j<vs.length->C (O.blt (key i) (key j)) {s with heap:=h'}->PySem.W.kas_ask prog w A κ vs i j C {s with heap:=h'})
 (h:∀d:List Nat,d.Perm (List.range vs.length)->(∀i,i+1<d.length->O.kle (key (d.getD i 0)) (key (d.getD (i+1) 0)))->P (.done (.ret .none)) {s with heap:=sortedHeap s.heap a vs (d.map λi=>vs.getD i Value.none).toArray}) :
 wpAny (model prog w) A (Builtin.«list.sort» ⟨[.ref a],[]⟩) P E s:=by
 rw[list_sort_plain];have v:a<s.heap.objs.size:=Bj f;have V:vs.toArray.size=vs.length:=(by simp);refine Ag (listItems_at f rfl ?_);refine Ag (listUpdate_at f rfl ?_ (by rw[Cw,sizeLine_eq];lia) (CO _));obtain⟨r,z⟩:∃r,(s.heap.update a (Obj.mapSeq λζ=>#[])).get? a=some (seqObj "list" #[] r):=⟨_,get?_update_seq f (λζ=>#[])⟩;refine Ag (seqEpoch_at z rfl ?_);refine Ag (wpAny_newTuple ?_ (by show vs.length<=_;rw[sizeLine_eq];lia));refine Ag (wpAny_newList ?_ (CO _));refine FZ ?_
 have l:(((s.heap.update a (Obj.mapSeq λζ=>#[])).push (seqObj "tuple" vs.toArray 0)).push (seqObj "list" #[] 0)).get? a=some (seqObj "list" #[] r):=by
  rw[Heap.get?_push_ne _ _ _ (by rw[size_push',Heap.size_update];exact CF (Nat.lt_succ_of_lt v)),Heap.get?_push_ne _ _ _ (by rw[Heap.size_update];exact CF v)];exact z
 have keep:∀b o,b≠a->s.heap.get? b=some o->(((s.heap.update a (Obj.mapSeq λζ=>#[])).push (seqObj "tuple" vs.toArray 0)).push (seqObj "list" #[] 0)).get? b=some o:=λb o D q=>by
  refine Bn _ (Bn _ ?_);rw[Heap.get?_update_ne _ _ _ _ D];exact q
 show wpAny (model prog w) A _ P E {s with heap:=((s.heap.update a (Obj.mapSeq λζ=>#[])).push (seqObj "tuple" vs.toArray 0)).push (seqObj "list" #[] 0)};dsimp only;by_cases g:vs.toArray.size<2;rw[Ar g,Ar g];refine Ag (Az ?_);rw[StateT.run_pure];refine Ag (Az ?_);dsimp only;refine Ag (seqEpoch_at l rfl ?_);refine Ag (listUpdate_at l rfl ?_ (CO _) (by rw[Array.size_map];show(pairsOf vs).size<=_;rw[pairsOf_size,sizeLine_eq];lia));simp only[bne_self_eq_false,FU,if_false];have:=h (List.range vs.length) (List.Perm.refl _) (λi t=>by rw[List.length_range] at t;lia)
 have e:((List.range vs.length).map λi=>vs.getD i Value.none).toArray=(arrOf (SortSt.mk' general' (vs.toArray.zip vs.toArray) #[] 7 none)).map (·.2):=by
  apply Array.toList_inj.mp;show(List.range vs.length).map (λi=>vs.getD i Value.none)=((vs.toArray.zip vs.toArray).map (·.2)).toList;apply List.ext_getElem?;intro k;by_cases y:k<vs.length;simp[y,BW];simp[y]
 rw[e] at this;exact Az this;rw[Ao g,Ao g];have B:2<=vs.length:=(by lia);refine Ag (F1 (T B _ keep (λκ' Z=>κ'=κ/\Z=_) ⟨rfl,rfl⟩) ?_ λζ ζ x=>x.elim);rintro κ' Z ⟨rfl,rfl⟩
 refine Ag (F1 (PySem.W.kat_run (Q:=λm Z=>∃p:Array Nat,arrOf m=p.map (PySem.W.kas_item (vs.toArray.zip vs.toArray))/\failedOf m=none/\KasM.Pm vs.length p/\KasM.Asc key p vs.length/\Z={s with heap:=((s.heap.update a (Obj.mapSeq λζ=>#[])).push (seqObj "tuple" vs.toArray 0)).push (seqObj "list" #[] 0)})
  (G:=λp Z=>KasM.Pm vs.length p/\KasM.Asc key p vs.length/\Z={s with heap:=((s.heap.update a (Obj.mapSeq λζ=>#[])).push (seqObj "tuple" vs.toArray 0)).push (seqObj "list" #[] 0)})
  rfl B L (λF m Z U H I u=>⟨F,H,I,u.1,u.2.1,u.2.2⟩)
  (KasM.Tw_wp (lt:=KasM.lt O key) (n:=vs.length) (N _ keep) _ (KasM.Tw_mono (λp c=>⟨c.1,c.2,rfl⟩) _ (KasM.sort_ok (O:=O) (key:=key) (by lia))))) ?_ λζ ζ e=>e)
 rintro⟨⟨⟩,m⟩ Z ⟨p,M,J,c,R,rfl⟩;dsimp only;have S:=PySem.W.kat_snds (ks:=vs) (vs:=vs) rfl M;rw[S];refine Ag (seqEpoch_at l rfl ?_);refine Ag (listUpdate_at l rfl ?_ (CO _) (by rw[Cw,Ak,Array.length_toList,c.size,sizeLine_eq];lia));rw[J];simp only[bne_self_eq_false,FU,if_false];refine Az (h p.toList (by have:=Array.perm_iff_toList_perm.mp c;simpa using this) λi t=>?_);have K:=c.size;have:=R i (by simpa [K] using t);simpa [KasM.K,Array.getD_eq_getD_getElem?,BW] using this
def Ti{O:KeyOrd}{key:Nat->O.α}{κ:SortKind}{l:Addr}{vs:List Value}{Q:G'}(g:s.heap.IsList l vs.toArray)(v:vs.length<64)
 (y:2<=vs.length->∀(h':Heap),(∀b o,s.heap.get? b=some o->h'.get? b=some o)->∀(Q:SortKind->Shared->Prop),Q κ {s with heap:=h'}->wpAny (model prog w) A.in1.in1 (keyKind' vs.toArray) Q (λζ ζ=>False) {s with heap:=h'})
 (x:∀(h':Heap),(∀b o,s.heap.get? b=some o->h'.get? b=some o)->∀(i j:Nat)(C:Bool->Shared->Prop),i<vs.length->j<vs.length->C (O.blt (key i) (key j)) {s with heap:=h'}->PySem.W.kas_ask prog w A.in1.in1 κ vs i j C {s with heap:=h'})
 (h:∀(D:Addr)(h':Heap)(n:Nat)(a:List Nat),(∀b o,s.heap.get? b=some o->h'.get? b=some o)->(∀b o,s.heap.get? b=some o->b≠D)->a.Perm (List.range vs.length)->(∀i,i+1<a.length->O.kle (key (a.getD i 0)) (key (a.getD (i+1) 0))) ->
  h'.get? D=some (seqObj "list" (a.map λi=>vs.getD i Value.none).toArray n)->Q (.ref D) {s with heap:=h'}) :
 wpAny (model prog w) A (call (.builtin "sorted") [.ref l]) Q E s:=by
 refine Calls.call_function_entry kind_sorted plain_sorted entry_sorted (args_sorted1 _) ?_;unfold Builtin.«sorted»;refine Ag (m:=checkCount "sorted" 1 1 _) (Az ?_);refine Ag (collect_list g ?_ (by rw[sizeLine_eq];lia));refine Ag (wpAny_newList ?_ (by rw[sizeLine_eq];lia))
 have d:((s.heap.push (seqObj "list" #[] 0)).update s.heap.objs.size (Obj.mapSeq (·++vs.toArray))).objs.size=s.heap.objs.size+1:=by
  rw[Heap.size_update,size_push']
 have e:(((s.heap.push (seqObj "list" #[] 0)).update s.heap.objs.size (Obj.mapSeq (·++vs.toArray))).push (seqObj "list" vs.toArray 0)).get? (s.heap.objs.size+1)=some (seqObj "list" vs.toArray 0):=by
  rw[<-d];exact Co _ rfl
 have keep:∀b o,s.heap.get? b=some o->(((s.heap.push (seqObj "list" #[] 0)).update s.heap.objs.size (Obj.mapSeq (·++vs.toArray))).push (seqObj "list" vs.toArray 0)).get? b=some o:=λb o q=>by
  have f:b<s.heap.objs.size:=Bj q;rw[Heap.get?_push_ne _ _ _ (by rw[d];exact CF (Nat.lt_succ_of_lt f)),Heap.get?_update_ne _ _ _ _ (CF f),Heap.get?_push_ne _ _ _ (CF f)];exact q
 have c:∀b o,s.heap.get? b=some o->b≠s.heap.objs.size+1:=λb o q=>CF (Nat.lt_succ_of_lt (Bj q));show wpAny _ _ _ _ _ {s with heap:=((s.heap.push (seqObj "list" #[] 0)).update s.heap.objs.size (Obj.mapSeq (·++vs.toArray))).push (seqObj "list" vs.toArray 0)};rw[d];refine Ag (FZ (wpAny_call_entry slot_list_sort ⟨_,e,rfl⟩ entry_list_sort ?body (args_list_sort _)))
 case body =>
  refine Y9 (s:={s with heap:=((s.heap.push (seqObj "list" #[] 0)).update s.heap.objs.size (Obj.mapSeq (·++vs.toArray))).push (seqObj "list" vs.toArray 0)}) (key:=key) (κ:=κ) e v
   (λp h' k=>y p h' λb o q=>k b o (c b o q) (keep b o q)) (λh' k=>x h' λb o q=>k b o (c b o q) (keep b o q)) λa r t=>?_
  obtain⟨n,u⟩:=sortedHeap_at (vs:=vs) (out:=(a.map λi=>vs.getD i Value.none).toArray) e;refine⟨_,rfl,Az ⟨_,rfl,h (s.heap.objs.size+1) _ n a (λb o q=>?_) c r t u⟩⟩;show(sortedHeap (((s.heap.push (seqObj "list" #[] 0)).update s.heap.objs.size (Obj.mapSeq (·++vs.toArray))).push (seqObj "list" vs.toArray 0)) (s.heap.objs.size+1) vs _).get? b=some o;rw[sortedHeap_old (c b o q) (Bj (keep b o q))];exact keep b o q
end
@[reducible] def BQ (O P:KeyOrd):KeyOrd where
 α:=O.α×P.α
 blt x y:=O.blt x.1 y.1 || (!O.blt y.1 x.1 && P.blt x.2 y.2)
 irrefl x:=by simp[O.irrefl,P.irrefl]
 trans x y z h1 h2:=by
  simp only[Bool.or_eq_true,Bool.and_eq_true,Bool.not_eq_true'] at h1 h2 ⊢;rcases h1 with h1|⟨h1,k1⟩<;>rcases h2 with h2|⟨h2,k2⟩;exact .inl (O.trans _ _ _ h1 h2);exact .inl (KeyOrd.klt_of_klt_of_kle h1 h2);exact .inl (KeyOrd.klt_of_kle_of_klt h1 h2);exact .inr ⟨KeyOrd.kle_trans (O:=O) h1 h2,P.trans _ _ _ k1 k2⟩
 negTrans x y z h:=by
  simp only[Bool.or_eq_true,Bool.and_eq_true,Bool.not_eq_true'] at h ⊢;rcases h with h|⟨h,k⟩;rcases O.negTrans _ y.1 _ h with h|h;exact .inl (.inl h);exact .inr (.inl h)
  cases e1:O.blt x.1 y.1 with
  |true=>exact .inl (.inl rfl)
  |false =>
    cases e2:O.blt y.1 z.1 with
    |true=>exact .inr (.inl rfl)
    |false =>
      have a1:O.kle y.1 x.1:=e1;have a2:O.kle z.1 y.1:=e2;have a3:O.kle x.1 z.1:=h;have b1:O.blt y.1 x.1=false:=KeyOrd.kle_trans (O:=O) a3 a2;have b2:O.blt z.1 y.1=false:=KeyOrd.kle_trans (O:=O) a1 a3;rcases P.negTrans _ y.2 _ k with k|k;exact .inl (.inr ⟨b1,k⟩);exact .inr (.inr ⟨b2,k⟩)
 total x y h1 h2:=by
  simp only[Bool.or_eq_false_iff,Bool.and_eq_false_iff,Bool.not_eq_false'] at h1 h2;have e1:x.1=y.1:=O.total _ _ h1.1 h2.1;have e2:x.2=y.2:=P.total _ _ (by rcases h1.2 with z|z;exact absurd (h2.1.symm.trans z) (by simp);exact z) (by rcases h2.2 with z|z;exact absurd (h1.1.symm.trans z) (by simp);exact z);exact Prod.ext e1 e2
@[reducible] def C6:KeyOrd where
 α:=Str
 blt a b:=decide (a.cps.toList<b.cps.toList)
 irrefl a:=by simpa using List.lt_irrefl a.cps.toList
 trans a b c h1 h2:=by simp only[decide_eq_true_eq] at *;exact List.lt_trans h1 h2
 negTrans a b c h:=by
  simp only[decide_eq_true_eq] at *
  by_cases hab:a.cps.toList<b.cps.toList;exact .inl hab;exact .inr (List.lt_of_le_of_lt (List.not_lt.mp hab) h)
 total a b h1 h2:=by simp only[decide_eq_false_iff_not] at *;exact ext_toList (List.le_antisymm (List.not_lt.mp h2) (List.not_lt.mp h1))
@[reducible] def JC:KeyOrd where
 α:=Int
 blt a b:=decide (a<b)
 irrefl a:=by simp
 trans a b c h1 h2:=by simp only[decide_eq_true_eq] at *;lia
 negTrans a b c h:=by simp only[decide_eq_true_eq] at *;lia
 total a b h1 h2:=by simp only[decide_eq_false_iff_not] at *;lia
structure IT where
 O:KeyOrd
 val:O.α->V
 dflt:O.α
 T:Value
 tT:(T==T)=true
 tN:(T != Value.type "tuple")=true
 look:∀(M:Model)(h:Heap)(a:O.α)(u:Value),RelV (val a) u->PySem.W.Looks M h (typeOf u) T
 eqB:∀(prog:Program)(w:World)(A:Around)(E:G')(s:Shared)(a b:O.α)(u v:Value)(Q:Bool->Shared->Prop),RelV (val a) u->RelV (val b) v->(∀e:Bool,(e=true↔a=b)->Q e s)->wpAny (model prog w) A (eqBool u v) Q E s
 ltB:∀(prog:Program)(w:World)(A:Around)(E:G')(s:Shared)(a b:O.α)(u v:Value)(Q:Bool->Shared->Prop),RelV (val a) u->RelV (val b) v->Q (O.blt a b) s->wpAny (model prog w) A (oneLt' true u v) Q E s
 ltC:∀(prog:Program)(w:World)(A:Around)(E:G')(s:Shared)(a b:O.α)(u v:Value)(Q:Bool->Shared->Prop),RelV (val a) u->RelV (val b) v->Q (O.blt a b) s->wpAny (model prog w) A (oneLt' false u v) Q E s
@[reducible] def Fl:IT where
 O:=C6
 val:=V.str
 dflt:=default
 T:=.type "str"
 tT:=by decide
 tN:=by decide
 look M h a u r:=by obtain⟨t,rfl⟩:=r;exact PySem.W.Looks.of_pure rfl
 eqB prog w A E s a b u v Q r r' h:=by
  obtain⟨t,rfl⟩:=r;obtain⟨t',rfl⟩:=r';exact eqBool_str (h _ (by simp))
 ltB prog w A E s a b u v Q r r' h:=by
  obtain⟨t,rfl⟩:=r;obtain⟨t',rfl⟩:=r';exact oneLt_str h
 ltC prog w A E s a b u v Q r r' h:=by
  obtain⟨t,rfl⟩:=r;obtain⟨t',rfl⟩:=r';exact PySem.W.kat_one _ _ (PySem.P.lt_str h)
@[reducible] def JD:IT where
 O:=JC
 val:=V.int
 dflt:=0
 T:=.type "int"
 tT:=by decide
 tN:=by decide
 look M h a u r:=by obtain⟨t,rfl⟩:=r;exact PySem.W.Looks.of_pure rfl
 eqB prog w A E s a b u v Q r r' h:=by
  obtain⟨t,rfl⟩:=r;obtain⟨t',rfl⟩:=r';exact wpAny_eqBool_int (h _ (by simp))
 ltB prog w A E s a b u v Q r r' h:=by
  obtain⟨t,rfl⟩:=r;obtain⟨t',rfl⟩:=r';exact oneLt_int h
 ltC prog w A E s a b u v Q r r' h:=by
  obtain⟨t,rfl⟩:=r;obtain⟨t',rfl⟩:=r';exact PySem.W.kat_one _ _ (PySem.P.lt_int h)
variable {c d:IT}
def JE(x y:(BQ c.O d.O).α)(e:x.1=y.1):(BQ c.O d.O).blt x y=d.O.blt x.2 y.2:=by
 show(c.O.blt x.1 y.1 || (!c.O.blt y.1 x.1 && d.O.blt x.2 y.2))=_;rw[e,c.O.irrefl];rfl
def JF(x y:(BQ c.O d.O).α)(e:x.1≠y.1):(BQ c.O d.O).blt x y=c.O.blt x.1 y.1:=by
 show(c.O.blt x.1 y.1 || (!c.O.blt y.1 x.1 && d.O.blt x.2 y.2))=_
 cases a:c.O.blt x.1 y.1 with
 |true=>rfl
 |false =>
   cases b:c.O.blt y.1 x.1 with
   |true=>rfl
   |false=>exact absurd (c.O.total _ _ a b) e
section
variable {prog:Program} {w:World} {A:Around} {E:G'} {s:Shared}
def Za(c d:IT){x y:Addr}{p q:(BQ c.O d.O).α}{b f g i:Value}{Q:Bool->Shared->Prop}(r:IsTup s.heap x #[b,f])(t:IsTup s.heap y #[g,i])(j:RelV (c.val p.1) b)(k:RelV (d.val p.2) f)(l:RelV (c.val q.1) g)(o:RelV (d.val q.2) i)
 (h:Q ((BQ c.O d.O).blt p q) s):wpAny (model prog w) A (keyLt' (tuples' true) (.ref x) (.ref y)) Q E s:=by
 obtain⟨F,B,_,n,u⟩:=r;obtain⟨G,C,_,m,v⟩:=t;refine PySem.W.kat_lt B u C v (PySem.W.kat_cons (c.eqB _ _ _ _ _ _ _ _ _ _ j l λe a=>?_))
 cases e with
 |false =>
   have D:p.1≠q.1:=λz=>CS (a.mpr z);rw[JF _ _ D] at h;exact PySem.W.kat_no (c.ltB _ _ _ _ _ _ _ _ _ _ j l h)
 |true =>
   rw[JE _ _ (a.mp rfl)] at h;refine PySem.W.kat_yes (PySem.W.kat_cons (d.eqB _ _ _ _ _ _ _ _ _ _ k o λe a=>?_))
   cases e with
   |false=>exact PySem.W.kat_no (d.ltC _ _ _ _ _ _ _ _ _ _ k o h)
   |true =>
     refine PySem.W.kat_yes (PySem.W.kat_nil ?_);rw[a.mp rfl,d.O.irrefl] at h;exact h
end
theorem PV{α:Type}{R:α->α->Prop}(tr:∀a b c,R a b->R b c->R a c):∀(l:List α),(∀i a b,l[i]?=some a->l[i+1]?=some b->R a b)->l.Pairwise R
 |[],_=>.nil
 |[x],_=>by simp
 |x::y::r,h=>by
   have f:=PV tr (y::r) λi a b j k=>h (i+1) a b (by simpa using j) (by simpa using k);have g:R x y:=h 0 x y rfl rfl;refine List.pairwise_cons.mpr ⟨λz d=>?_,f⟩;rcases Cc.mp d with e|d;rw[e];exact g;exact tr _ _ _ g ((List.pairwise_cons.mp f).1 z d)
section
variable {X:Cx}
abbrev Row (c d:IT):Type:=V×(BQ c.O d.O).α
def LQ (X:Cx) (c d:IT):List V->Hp->VK->Prop:=λvs H Q=>∃(l:Addr)(zs:List (Row c d)),vs=[.ref l]/\Af X.K H l (zs.map (·.1))/\zs.length<64 /\
 (∀z∈zs,∃t,z.1=.ref t/\Al X.K H t [c.val z.2.1,d.val z.2.2])/\∀(D:Addr)(zs':List (Row c d)),zs'.Perm zs->(zs'.map (·.2)).Pairwise (BQ c.O d.O).kle->H D=none->Q (.ref D) (upd H D (.lst (zs'.map (·.1))))
def HR (c d:IT) (h:Heap) (z:Row c d) (v:Value):Prop:=∃t u1 u2,z.1=.ref t/\v=.ref t/\IsTup h t #[u1,u2]/\RelV (c.val z.2.1) u1/\RelV (d.val z.2.2) u2
def HR.keeps{c d:IT}{h h':Heap}{z:Row c d}{v:Value}(k:∀b o,h.get? b=some o->h'.get? b=some o)(x:HR c d h z v):HR c d h' z v:=by
 obtain⟨t,a,e,f,g,i,j⟩:=x;exact⟨t,a,e,f,g,i.keeps k,j⟩
def JG{h:Heap}(zs:List (Row c d))(f:List Value)(g:Paired (HR c d h) zs f):∃fs,PySem.W.KatTups h f fs/\fs.length=zs.length/\∀v∈fs,∃a,RelV (c.val a) v:=by
 induction g with
 |nil=>exact⟨[],.nil,rfl,λζ x=>by cases x⟩
 |cons i r j =>
   obtain⟨t,k,z,A,l,⟨o,m,p,n,q⟩,s,B⟩:=i;obtain⟨fs,u,w,y⟩:=j;subst l;refine⟨k::fs,.cons m p q rfl u,by simp[w],λv b=>?_⟩;rcases Cc.mp b with e|b;exact⟨_,e▸s⟩;exact y v b
def Om{α β:Type}{R:α->β->Prop}{xs:List α}{ys:List β}(h:Paired R xs ys):∀(i:Nat)(b:α)(c:β),i<xs.length->R (xs.getD i b) (ys.getD i c):=by
 induction h with
 |nil=>intro i b c h;simp at h
 |cons a r d =>
   intro i b c h
   cases i with
   |zero=>exact a
   |succ i=>simpa using d i b c (by simpa using h)
theorem PX{α β γ:Type}{R:α->β->Prop}{f:γ->α}{g:γ->β}:∀(l:List γ),(∀x∈l,R (f x) (g x))->Paired R (l.map f) (l.map g)
 |[],_=>.nil
 |x::l,h=>.cons (h x B2) (PX l λy a=>h y (DW _ a))
theorem KQ{c d:IT}{pins:B'}{σ:L2.St}{H:Hp}{s:Shared}(I:Inv X pins σ H s):∀(zs:List (Row c d))(f:List Value),Ay (zs.map (·.1)) f->(∀z∈zs,∃t,z.1=.ref t/\Al X.K H t [c.val z.2.1,d.val z.2.2])->Paired (HR c d s.heap) zs f
 |[],f,r,_=>by cases r;exact .nil
 | z :: zs,f,r,h=>by
   cases r with
   |cons a b =>
     obtain⟨t,e,j⟩:=h z B2;obtain⟨n,g,k,_⟩:=I.tuple j
     cases g with
     |cons g i =>
       cases i with
       |cons i l =>
         cases l;dsimp only at a;rw[e] at a;exact .cons ⟨t,_,_,e,a,k,g,i⟩ (KQ I zs _ b λy m=>h y (DW _ m))
theorem V5(c d:IT):Bo X (.builtin "sorted") (LQ X c d):=by
 intro ar s σ H vs us ak I r h;obtain⟨l,b,rfl,Q,aq,R,q⟩:=h;obtain⟨u,rfl,S⟩:=F3 r;obtain rfl:u=Value.ref l:=S;obtain⟨g,U,W,_⟩:=I.list Q;have m:=KQ I b g U R;have N:b.length=g.length:=m.length
 let e:Row c d:=(V.non,(c.dflt,d.dflt))
 refine Ti (O:=BQ c.O d.O) (key:=λi=>(b.getD i e).2) (κ:=tuples' true) (vs:=g) (by obtain⟨o,n,w,p,F,A⟩:=W;exact⟨o,w,p,n,A⟩) (by lia) (λB C k Q' Y=>?_) (λC k i j al z hj hC=>?_) λD C n f Z G M ae hg=>?_;have af:Paired (HR c d C) b g:=Paired.mapP m λζ ζ x=>x.keeps k;obtain⟨fs,k1,k2,k3⟩:=JG _ _ af;refine PySem.W.kat_kind (T:=c.T) k1 (by lia) (λv E=>?_) c.tT (by rw[c.tN];exact Y);obtain⟨a,ha⟩:=k3 v E;exact c.look _ _ a v ha;obtain⟨t,u1,u2,w,p,F,A,a5⟩:=(Om m i e Value.none (by lia)).keeps k;obtain⟨t',ao,v2,b1,b2,b3,b4,b5⟩:=(Om m j e Value.none (by lia)).keeps k;unfold PySem.W.kas_ask;rw[p,b2];exact Za c d F b3 A a5 b4 b5 hC
 have ag:∀i∈f,i<b.length:=λi z=>by
  have:=M.mem_iff.mp z;rw[N];simpa using this
 have aj:(List.range b.length).map (λi=>b.getD i e)=b:=by
  apply List.ext_getElem?;intro k;by_cases J:k<b.length;simp[J,BW];simp[J]
 have P:(f.map λi=>b.getD i e).Perm b:=by
  have:=M.map (λi=>b.getD i e)
  rwa [<-N,aj] at this
 have E:Ay ((f.map λi=>b.getD i e).map (·.1)) (f.map λi=>g.getD i Value.none):=by
  rw[EE];refine PX f λi z=>?_;obtain⟨t,u1,u2,w,p,_⟩:=Om m i e Value.none (ag i z);show RelV (b.getD i e).1 (g.getD i Value.none);rw[w,p];exact rfl
 have ah:((f.map λi=>b.getD i e).map (·.2)).Pairwise (BQ c.O d.O).kle:=by
  refine PV (λζ ζ ζ=>KeyOrd.kle_trans) _ λi a an K B=>?_;rw[EE,AX,E8] at K B;obtain⟨x,e1,rfl⟩:=K;obtain⟨y,L,rfl⟩:=B;obtain⟨ai,_⟩:=Bh.mp L;have:=ae i ai;have aa:f.getD i 0=x:=by rw[BW,e1];rfl
  have ab:f.getD (i+1) 0=y:=by rw[BW,L];rfl
  rw[aa,ab] at this;exact this
 exact⟨.ref D,upd H D (.lst ((f.map λi=>b.getD i e).map (·.1))),I.laidN (t':=s.toks) Z G ⟨by rw[Ak,P.length_eq];exact CQ (BL (by lia)),_,n,E,hg⟩,rfl,q D _ P ah (I.freshN G)⟩
end
open Ord
abbrev DY (p:Str×Int):Dt:=.tup [.str p.1,.int p.2]
abbrev Ce:Type:=List (Str×Int)×List Str
abbrev JH (s:Ce):Dt:=.tup [.lst (s.1.map DY),.lst (s.2.map Dt.str)]
def C7 (K:Aj) (H:Hp) (a:Addr) (gs:List (Str×Int)):Prop:=∃vs,Af K H a vs/\Ai K H vs (gs.map DY)
def G6 (K:Aj) (H:Hp) (a:Addr) (ss:List Ce):Prop:=∃vs,Af K H a vs/\Ai K H vs (ss.map JH)
def C7.same{K:Aj}{H H':Hp}{a:Addr}{gs:List (Str×Int)}(e:Ac H H')(h:C7 K H a gs):C7 K H' a gs:=by
 obtain⟨b,c,d⟩:=h;exact⟨b,e.seq c,d.same e⟩
theorem V6{K:Aj}{H:Hp}:∀{vs:List V}{xs:List Str},Ai K H vs (xs.map Dt.str)->vs=xs.map V.str
 |_,[],.nil=>rfl
 |_,_::_,.cons h t=>by cases h;rw[V6 t];rfl
variable {H:Hp}{v:V}{p:Str×Int}
def LR{K:Aj}(h:Ap K H v (DY p)):∃t,v=.ref t/\Al K H t [.str p.1,.int p.2]:=by
 cases h with
 | tup h t =>
   cases t with
   |cons a t =>
     cases t with
     |cons b t =>
       cases t;cases a;cases b;exact⟨_,rfl,h⟩
variable {vs:List V}{gs:List (Str×Int)}{i:Nat}
def Ai.goes_get{K:Aj}(h:Ai K H vs (gs.map DY))(hv:vs[i]?=some v):∃p t,gs[i]?=some p/\v=.ref t/\Al K H t [.str p.1,.int p.2]:=by
 obtain⟨d,hd,a⟩:=h.get hv;rw[AX] at hd
 cases e:gs[i]? with
 |none=>rw[e] at hd;cases hd
 |some p =>
   rw[e] at hd;cases hd;obtain⟨t,b,c⟩:=LR a;exact⟨p,t,rfl,b,c⟩
def HV{K:Aj}{s:Ce}(h:Ap K H v (JH s)):∃t g e,v=.ref t/\Al K H t [.ref g,.ref e]/\C7 K H g s.1/\Af K H e (s.2.map V.str):=by
 cases h with
 | tup h t =>
   cases t with
   |cons b t =>
     cases t with
     |cons c t =>
       cases t
       cases b with
       |lst d f =>
         cases c with
         |lst a i =>
           rw[V6 i] at a;exact⟨_,_,_,rfl,h,⟨_,d,f⟩,a⟩
variable {α:Type}
def Ai.len_map{K:Aj}{f:α->Dt}{xs:List α}(h:Ai K H vs (xs.map f)):vs.length=xs.length:=by
 have:=h.length
 rwa [Ak] at this
def Zb{b:List Value}{ss:List Str}(c:StrsAre b ss)(a:2<=b.length):keyKind' b.toArray=pure oneType':=by
 match b,c,a with
 |[],_,a=>simp at a
 |[_],_,a=>simp at a
 |d::e::j,c,_=>exact keyKind_strs c
section
variable {X:Cx}
def LS (X:Cx):List V->Hp->VK->Prop:=λvs H Q=>∃(l:Addr)(ss:List Str),vs=[.ref l]/\Af X.K H l (ss.map V.str)/\ss.length<64/\∀(D:Addr)(ss':List Str),ss'.Perm ss->ss'.Pairwise C6.kle->H D=none->Q (.ref D) (upd H D (.lst (ss'.map V.str)))
theorem Zc:Bo X (.builtin "sorted") (LS X):=by
 intro ai s σ H vs us ab I r h;obtain⟨l,a,rfl,F,ah,q⟩:=h;obtain⟨u,rfl,G⟩:=F3 r;obtain rfl:u=Value.ref l:=G;obtain⟨g,m,J,_⟩:=I.list F;have K:=Y4 m;have C:a.length=g.length:=by have:=m.length;rwa [Ak] at this
 have p:∀i,i<a.length->∃t,g.getD i Value.none=.str (a.getD i default) t:=λi c=>by
  have:=Om m i V.non Value.none (by rw[Ak];exact c)
  have e:(a.map V.str).getD i V.non=V.str (a.getD i default):=by
   rw[BW,AX,BW,AA c];rfl
  rw[e] at this;exact this
 refine Ti (O:=C6) (key:=λi=>a.getD i default) (κ:=oneType') (vs:=g) J.isList (by lia) (λd v k Q' L=>?_) (λv k i j ae c hj M=>?_) λD v n b Z w B T N=>?_;rw[Zb K d];exact Az L;obtain⟨t,o⟩:=p i (by lia);obtain⟨t',f⟩:=p j (by lia);unfold PySem.W.kas_ask;rw[o,f,keyLt'_oneType];exact oneLt_str M
 have U:∀i∈b,i<a.length:=λi c=>by
  have:=B.mem_iff.mp c;rw[C];simpa using this
 have aa:(List.range a.length).map (λi=>a.getD i default)=a:=by
  apply List.ext_getElem?;intro k;by_cases z:k<a.length;simp[z,BW];simp[z]
 have E:(b.map λi=>a.getD i default).Perm a:=by
  have:=B.map (λi=>a.getD i default)
  rwa [<-C,aa] at this
 have P:Ay ((b.map λi=>a.getD i default).map V.str) (b.map λi=>g.getD i Value.none):=by
  rw[EE];exact PX b λi c=>p i (U i c)
 have W:(b.map λi=>a.getD i default).Pairwise C6.kle:=by
  refine PV (R:=C6.kle) (λζ ζ ζ h k=>KeyOrd.kle_trans (O:=C6) h k) _ λi af ag A d=>?_;rw[AX,E8] at A d;obtain⟨x,o,rfl⟩:=A;obtain⟨y,f,rfl⟩:=d;obtain⟨Y,_⟩:=Bh.mp f;have:=T i Y;have Q:b.getD i 0=x:=by rw[BW,o];rfl
  have S:b.getD (i+1) 0=y:=by rw[BW,f];rfl
  rw[Q,S] at this;exact this
 exact⟨.ref D,upd H D (.lst ((b.map λi=>a.getD i default).map V.str)),I.laidN (t':=s.toks) Z w ⟨by rw[Ak,E.length_eq];exact CQ (BL (by lia)),_,n,P,N⟩,rfl,q D _ E W (I.freshN w)⟩
end
abbrev PY (K:Aj) (H:Hp) (z:Row Fl JD):Prop:=∃t,z.1=.ref t/\Al K H t [V.str z.2.1,V.int z.2.2]
theorem Tj{K:Aj}{H:Hp}:∀{ts:List Addr}{gs:List (Str×Int)},ts.length=gs.length->(∀(n:Nat)(a:Addr)(p:Str×Int),ts[n]?=some a->gs[n]?=some p->H a=some (.tup [.str p.1,.int p.2])) ->
 ∃zs:List (Row Fl JD),zs.map (·.1)=ts.map V.ref/\zs.map (·.2)=gs/\∀z∈zs,PY K H z
 |[],[],_,_=>⟨[],rfl,rfl,λz hz=>by cases hz⟩
 |[],_::_,h,_=>by simp at h
 |_::_,[],h,_=>by simp at h
 |a::ts,p::gs,h,k=>by
   obtain⟨zs,b,c,d⟩:=Tj (K:=K) (H:=H) (ts:=ts) (gs:=gs) (by simpa using h) λn a p b c=>k (n+1) a p (by simpa using b) (by simpa using c);refine⟨(V.ref a,p)::zs,by rw[Ew,b];rfl,by rw[Ew,c],λz hz=>?_⟩;rcases Cc.mp hz with e|hz;rw[e];exact⟨a,rfl,Al.of (k 0 a p rfl rfl)⟩;exact d z hz
theorem Tk{K:Aj}{H:Hp}:∀(zs:List (Row Fl JD)),(∀z∈zs,PY K H z)->Ai K H (zs.map (·.1)) ((zs.map (·.2)).map DY)
 |[],_=>.nil
 |z::zs,h=>by
   obtain⟨t,e,a⟩:=h z B2;refine .cons ?_ (Tk zs λy b=>h y (DW _ b));show Ap K H z.1 (DY z.2);rw[e];exact .tup a (.cons (.str _) (.cons (.int _) .nil))
variable {a D:Addr}{o:HO}{xs:List V}
def Af.updN{K:Aj}(b:a≠D)(h:Af K H a xs):Af K (upd H D o) a xs:=by
 rcases h with(h|⟨u,h⟩)|h;exact .inl (.inl (by rw[AE b];exact h));exact .inl (.inr ⟨u,by rw[AE b];exact h⟩);exact .inr h
def Al.updL{K:Aj}{ys:List V}(b:H D=some (.lst ys))(h:Al K H a xs):Al K (upd H D o) a xs:=by
 rcases h with(h|⟨u,h⟩)|h;exact .inl (.inl (by rw[AE λz=>by rw[z,b] at h;cases h];exact h));exact .inl (.inr ⟨u,by rw[AE λz=>by rw[z,b] at h;cases h];exact h⟩);exact .inr h
theorem V7{K:Aj}{H:Hp}{D:Addr}{o:HO}{ys:List V}(b:H D=some (.lst ys)):∀{vs:List V}{gs:List (Str×Int)},Ai K H vs (gs.map DY)->Ai K (upd H D o) vs (gs.map DY)
 |_,[],.nil=>.nil
 |_,p::gs,.cons h t=>by
   obtain⟨a,e,c⟩:=LR h;subst e;exact .cons (.tup (c.updL b) (.cons (.str _) (.cons (.int _) .nil))) (V7 b t)
def C7.updL{K:Aj}{ys:List V}(b:H D=some (.lst ys))(c:a≠D)(h:C7 K H a gs):C7 K (upd H D o) a gs:=by
 obtain⟨vs,d,e⟩:=h;exact⟨vs,d.updN c,V7 b e⟩
structure AZ (K:Aj) (F:Addr->Prop) (H:Hp) (D:Addr) (us:List Addr) (rs:List Ce):Prop where
 len:us.length=rs.length
 at_:∀(i:Nat)(u:Addr)(r:Ce),us[i]?=some u->rs[i]?=some r->∃G E xs,H u=some (.tup [.ref G,.ref E])/\C7 K H G r.1/\H G=some (.lst xs)/\H E=some (.lst (r.2.map V.str))/\G≠D/\E≠D/\F G/\F E
variable {F:Addr->Prop}
def AZ.nil{K:Aj}:AZ K F H D [] []:=⟨rfl,λi u r h=>by simp at h⟩
def AZ.same{K:Aj}{F:Addr->Prop}{H H':Hp}{D:Addr}{a:List Addr}{b:List Ce}(e:Ac H H')(h:AZ K F H D a b):AZ K F H' D a b:=by
 refine⟨h.len,λi u r c d=>?_⟩;obtain⟨G,E,xs,f,g,j,k,l,m,n⟩:=h.at_ i u r c d;exact⟨G,E,xs,e _ _ f,g.same e,e _ _ j,e _ _ k,l,m,n⟩
def AZ.updL{K:Aj}{F:Addr->Prop}{H:Hp}{D:Addr}{o:HO}{ys:List V}{c:List Addr}{d:List Ce}(e:H D=some (.lst ys))(h:AZ K F H D c d):AZ K F (upd H D o) D c d:=by
 refine⟨h.len,λi u r g j=>?_⟩;obtain⟨G,E,xs,a,k,l,m,b,f,n⟩:=h.at_ i u r g j;exact⟨G,E,xs,by rw[AE λz=>by rw[z,e] at a;cases a];exact a,k.updL e b,by rw[AE b];exact l,by rw[AE f];exact m,b,f,n⟩
variable {u G E:Addr}{us:List Addr}{rs:List Ce}
def AZ.snoc{K:Aj}{r:Ce}(h:AZ K F H D us rs)(d:H u=some (.tup [.ref G,.ref E]))(f:C7 K H G r.1)(g:H G=some (.lst xs))(j:H E=some (.lst (r.2.map V.str)))(k:G≠D)(l:E≠D)(m:F G)(n:F E):AZ K F H D (us++[u]) (rs++[r]):=by
 refine⟨by rw[AQ,AQ,h.len];rfl,λi v q a b=>?_⟩;rcases Nat.lt_or_ge i us.length with c|p;rw[Ft c] at a;rw[Ft (by rw[<-h.len];exact c)] at b;exact h.at_ i v q a b;have o:i<(us++[u]).length:=(Bh.mp a).1;rw[AQ,Ef] at o;have e:i=us.length:=(by lia);subst e;rw[FL (AI _),Nat.sub_self] at a;rw[FL (by rw[h.len];exact AI _),h.len,Nat.sub_self] at b;cases a;cases b;exact⟨G,E,xs,d,f,g,j,k,l,m,n⟩
def JI:([]:List V).length+1+1+1<=sizeLine:=by decide
theorem AZ.dts{K:Aj}{F:Addr->Prop}{H:Hp}{D:Addr}:∀{us:List Addr}{rs:List Ce},AZ K F H D us rs->Ai K H (us.map V.ref) (rs.map JH)
 |[],[],_=>.nil
 |[],_::_,h=>by have:=h.len;simp at this
 |_::_,[],h=>by have:=h.len;simp at this
 |u::us,r::rs,h=>by
   obtain⟨G,E,xs,a,⟨g,b,f⟩,j,c,_⟩:=h.at_ 0 u r rfl rfl;refine .cons (.tup (Al.of a) (.cons (.lst b f) (.cons (.lst (Af.of c) (Ai.strs _)) .nil))) ?_;exact AZ.dts (D:=D) ⟨by simpa using h.len,λi v q d e=>h.at_ (i+1) v q (by simpa using d) (by simpa using e)⟩
def AZ.stts{K:Aj}(e:H a=some (.lst (us.map V.ref)))(h:AZ K F H a us rs):G6 K H a rs:=⟨_,Af.of e,h.dts⟩
variable {O:KeyOrd}
def Nf{l m:List O.α}(h:l.Perm m)(c:l.Pairwise O.kle)(d:m.Pairwise O.kle):l=m:=
 h.eq_of_pairwise (λa b ζ ζ x y=>KeyOrd.kle_antisymm x y) c d
def To(p q:Str×Int):Dk 2 (DY p) (DY q):=.tup (.cons (.str _ _) (.cons (.int _ _) (.nil _)))
structure GT (H:Hp) (ts:List Addr) (gs:List (Str×Int)):Prop where
 len:ts.length=gs.length
 at_:∀(n:Nat)(t:Addr)(p:Str×Int),ts[n]?=some t->gs[n]?=some p->H t=some (.tup [.str p.1,.int p.2])
def GT.nil:GT H [] []:=⟨rfl,λn t p h=>by simp at h⟩
variable {H':Hp}{ts:List Addr}
def GT.same(e:Ac H H')(h:GT H ts gs):GT H' ts gs:=⟨h.len,λn t p a b=>e _ _ (h.at_ n t p a b)⟩
def GT.updL(b:H a=some (.lst xs))(h:GT H ts gs):GT (upd H a o) ts gs:=⟨h.len,λn t p c d=>by
 have:=h.at_ n t p c d;rw[AE λz=>by rw[z,b] at this;cases this]
 exact this⟩
def GT.snoc{t:Addr}(h:GT H ts gs)(e:H t=some (.tup [.str p.1,.int p.2])):GT H (ts++[t]) (gs++[p]):=by
 refine⟨by rw[AQ,AQ,h.len];rfl,λn v q a b=>?_⟩;rcases Nat.lt_or_ge n ts.length with c|g;rw[Ft c] at a;rw[Ft (by rw[<-h.len];exact c)] at b;exact h.at_ n v q a b;have f:n<(ts++[t]).length:=(Bh.mp a).1;rw[AQ,Ef] at f;have d:n=ts.length:=(by lia);subst d;rw[FL (AI _),Nat.sub_self] at a;rw[FL (by rw[h.len];exact AI _),h.len,Nat.sub_self] at b;cases a;cases b;exact e
def GT.dts{K:Aj}(h:GT H ts gs):Ai K H (ts.map V.ref) (gs.map DY):=by
 obtain⟨a,b,c,d⟩:=Tj (K:=K) h.len h.at_;rw[<-b,<-c];exact Tk a d
variable {k n:Nat}{te:TE}{σ:St}
def V8{c:List Nat}{g:TG}{U:Hp}{Q:Addr->Hp->Prop}{lo:Int}(Pv:Addr->Nat->List V->Hp->Prop)
 (d:∀D,U D=none->Pv D 0 [] (upd U D (.lst [])))
 (e:∀(D:Addr)(i:Nat)(ys:List V)(Y:Hp)(R:VK),U D=none->i<n->Pv D i ys Y->(∀y a,a D=some (.lst ys)->ys.length<sizeLine->Pv D (i+1) (ys++[y]) (upd a D (.lst (ys++[y])))->R y a)->g (.int (lo+i)) (F4 k c σ) Y λσ4 f=>te σ4 f R)
 (hd:∀D ys Y,U D=none->Pv D n ys Y->Q D Y):KN (M4 lo n) k c g HN te σ U Q:=Og n Pv d (λD i ys Y p b=>b) (λD ys Y p=>AI _) (λD i ys Y x j R l h b p y k m=>by obtain⟨rfl,rfl⟩:=y;exact e D i ys _ R h b p k) hd
structure Keeps (M:Addr->Prop) (H H':Hp):Prop where
 at_:∀x o,H x=some o->¬M x->H' x=some o
 ls:∀x o,M x->H x=some o->∃xs,o=HO.lst xs
section
variable {K:Aj} {M:Addr->Prop} {H H':Hp}
def Keeps.refl(h:∀x o,M x->H x=some o->∃xs,o=HO.lst xs):Keeps M H H:=⟨λζ ζ e ζ=>e,h⟩
def Keeps.set(k:Keeps M H H')(a:M D):Keeps M H (upd H' D o):=⟨λx u e n=>by
 have b:x≠D:=λz=>n (by rw[z];exact a)
 rw[AE b];exact k.at_ x u e n,k.ls⟩
def Keeps.one(a:H D=some (.lst xs)):Keeps (·=D) H (upd H D o):=
 ⟨λx u e n=>by rw[AE n];exact e,λx u m e=>by rw[m,a] at e;exact⟨xs,(BJ e).symm⟩⟩
def Keeps.same{Y:Hp}(k:Keeps M H H')(s:Ac H' Y):Keeps M H Y:=⟨λx o e n=>s _ _ (k.at_ x o e n),k.ls⟩
def Keeps.noT(k:Keeps M H H')(h:H a=some (.tup xs)):¬M a:=λm=>by
 obtain⟨_,e⟩:=k.ls _ _ m h;cases e
def Keeps.tup(k:Keeps M H H'){a:Addr}{xs:List V}(h:H a=some (.tup xs)):H' a=some (.tup xs):=k.at_ _ _ h (k.noT h)
def Keeps.seqT(k:Keeps M H H')(h:Al K H a xs):Al K H' a xs:=by
 rcases h with(h|⟨u,h⟩)|h;exact .inl (.inl (k.tup h));refine .inl (.inr ⟨u,k.at_ _ _ h λm=>?_⟩);obtain⟨_,e⟩:=k.ls _ _ m h;cases e;exact .inr h
theorem Keeps.gos(k:Keeps M H H'):∀{vs:List V}{gs:List (Str×Int)},Ai K H vs (gs.map DY)->Ai K H' vs (gs.map DY)
 |_,[],.nil=>.nil
 |_,p::gs,.cons h t=>by
   obtain⟨a,e,b⟩:=LR h;subst e;exact .cons (.tup (k.seqT b) (.cons (.str _) (.cons (.int _) .nil))) (Keeps.gos k t)
def Keeps.tups(k:Keeps M H H'){ps:A'}(h:Cd H ts ps):Cd H' ts ps:=⟨h.len,λn t p a b=>k.tup (h.at_ n t p a b)⟩
end
def PZ{K:Aj}{j:List Nat}{g:TG}{tc:TT}{U:Hp}{Q:Addr->Hp->Prop}(Pv:Addr->Nat->List V->Hp->Prop)
 (l:∀D,U D=none->Pv D 0 [] (upd U D (.lst []))) (e:∀D i ys Y,Pv D i ys Y->Af K Y a xs)
 (m:∀D i x ys Y(R:VK)(d:Hp->Prop),U D=none->xs[i]?=some x->Pv D i ys Y->(∀y f,f D=some (.lst ys)->ys.length<sizeLine->Pv D (i+1) (ys++[y]) (upd f D (.lst (ys++[y])))->R y f)->(∀c,Pv D (i+1) ys c->d c)->g x (F4 k j σ) Y λσ4 n=>tc σ4 n λb c=>if b=true then te σ4 c R else d c)
 (hd:∀D ys Y,U D=none->Pv D xs.length ys Y->Q D Y):KN (M3 K a) k j g tc te σ U Q:=Og xs.length Pv l (λD i ys Y p h=>⟨xs,xs[i],e D i ys Y p,by simp[h]⟩) (λD ys Y p=>⟨xs,e D _ ys Y p,AI _⟩) (λD i ys Y x r R d o h p y k q=>by obtain⟨rfl,y⟩:=y;exact m D i x ys _ R d o (y xs (e D i ys _ p)) p k q) hd
structure FO (K:Aj) (F:Addr->Prop) (H:Hp) (t:Addr) (rs:List Ce) (n:Int) (ord:A'):Prop where
 ex:∃(a o:Addr)(us:List Addr)(ts:List Addr),H t=some (.tup [.ref a,.int n,.ref o])/\F a/\F o/\a≠o/\H a=some (.lst (us.map V.ref))/\AZ K F H a us rs/\H o=some (.lst (ts.map V.ref))/\Cd H ts ord
def FO.same{K:Aj}{F:Addr->Prop}{H H':Hp}{t:Addr}{rs:List Ce}{n:Int}{ord:A'}(s:Ac H H')(h:FO K F H t rs n ord):FO K F H' t rs n ord:=by
 obtain⟨a,o,us,ts,b,c,d,e,f,g,i,j⟩:=h.ex;exact⟨a,o,us,ts,s _ _ b,c,d,e,s _ _ f,g.same s,s _ _ i,j.same s⟩
section
variable {X:Cx}
end
abbrev Du:C'->Dt
 |none=>.non
 |some p=>DY p
def HW (K:Aj) (H:Hp) (a:Addr) (as:List (C')):Prop:=∃vs,Af K H a vs/\Ai K H vs (as.map Du)
abbrev Qu:Type:=Int×Int×List Str
abbrev V9 (q:Qu):Dt:=.tup [.int q.1,.int q.2.1,.tup (q.2.2.map Dt.str)]
section
variable {K:Aj} {H H':Hp} {a:Addr}
def HW.same{b:List (C')}(e:Ac H H')(h:HW K H a b):HW K H' a b:=by
 obtain⟨vs,c,d⟩:=h;exact⟨vs,e.seq c,d.same e⟩
def Gy{o:C'}(h:Ap K H v (Du o)):(o=none/\v=.non)\/∃p t,o=some p/\v=.ref t/\Al K H t [.str p.1,.int p.2]:=by
 cases o with
 |none=>cases h;exact .inl ⟨rfl,rfl⟩
 |some p =>
   obtain⟨t,e,a⟩:=LR h;exact .inr ⟨p,t,rfl,e,a⟩
def HW.get{b:List (C')}(h:HW K H a b)(g:k<b.length):∃vs v,Af K H a vs/\vs[k]?=some v/\((b[k]?=some none/\v=.non)\/∃p t,b[k]?=some (some p)/\v=.ref t/\Al K H t [.str p.1,.int p.2]):=by
 obtain⟨vs,j,l⟩:=h;have c:=AA g;obtain⟨v,m,hd⟩:=l.get' (i:=k) (d:=Du b[k]) (by rw[AX,c];rfl);refine⟨vs,v,j,m,?_⟩;rcases Gy hd with⟨e,f⟩|⟨p,t,e,f,n⟩;exact .inl ⟨by rw[c,e],f⟩;exact .inr ⟨p,t,by rw[c,e],f,n⟩
def C7.get(h:C7 K H a gs)(b:gs[k]?=some p):∃vs t,Af K H a vs/\vs[k]?=some (.ref t)/\Al K H t [.str p.1,.int p.2]:=by
 obtain⟨vs,c,e⟩:=h;obtain⟨v,f,hd⟩:=e.get' (i:=k) (d:=DY p) (by rw[AX,b];rfl);obtain⟨t,rfl,g⟩:=LR hd;exact⟨vs,t,c,f,g⟩
end
structure QT (H:Hp) (ts:List Addr) (qs:List Qu):Prop where
 len:ts.length=qs.length
 at_:∀(n:Nat)(t:Addr)(q:Qu),ts[n]?=some t->qs[n]?=some q->∃u,H t=some (.tup [.int q.1,.int q.2.1,.ref u])/\H u=some (.tup (q.2.2.map V.str))
def QT.nil:QT H [] []:=⟨rfl,λn t p h=>by simp at h⟩
variable {qs:List Qu}
def QT.same(e:Ac H H')(h:QT H ts qs):QT H' ts qs:=⟨h.len,λn t p a b=>by
 obtain⟨u,c,d⟩:=h.at_ n t p a b
 exact⟨u,e _ _ c,e _ _ d⟩⟩
variable {M:Addr->Prop}
def QT.keeps(k:Keeps M H H')(h:QT H ts qs):QT H' ts qs:=⟨h.len,λn t p a b=>by
 obtain⟨u,c,d⟩:=h.at_ n t p a b
 exact⟨u,k.tup c,k.tup d⟩⟩
def GT.keeps(k:Keeps M H H')(h:GT H ts gs):GT H' ts gs:=⟨h.len,λn t p a b=>k.tup (h.at_ n t p a b)⟩
def QT.snoc{t:Addr}{q:Qu}(h:QT H ts qs)(e:H t=some (.tup [.int q.1,.int q.2.1,.ref u]))(d:H u=some (.tup (q.2.2.map V.str))):QT H (ts++[t]) (qs++[q]):=by
 refine⟨by rw[AQ,AQ,h.len];rfl,λn v f a b=>?_⟩;rcases Nat.lt_or_ge n ts.length with c|j;rw[Ft c] at a;rw[Ft (by rw[<-h.len];exact c)] at b;exact h.at_ n v f a b;have i:n<(ts++[t]).length:=(Bh.mp a).1;rw[AQ,Ef] at i;have g:n=ts.length:=(by lia);subst g;rw[FL (AI _),Nat.sub_self] at a;rw[FL (by rw[h.len];exact AI _),h.len,Nat.sub_self] at b;cases a;cases b;exact⟨u,e,d⟩
def QT.dts{K:Aj}(h:QT H ts qs):Ai K H (ts.map V.ref) (qs.map V9):=by
 refine Ai.of_get (by simpa using h.len) λn v d a b=>?_;rw[AX] at a b;obtain⟨t,c,rfl⟩:=E8.mp a;obtain⟨q,e,rfl⟩:=E8.mp b;obtain⟨u,f,g⟩:=h.at_ n t q c e;exact .tup (Al.of f) (.cons (.int _) (.cons (.int _) (.cons (.tup (Al.of g) (Ai.strs _)) .nil)))
def ER (ths:List (Str×Int)) (as:List (C')) (q:Int):Str×Int:=match as[q.toNat]? with
 |some (some p)=>if p.1=("thing" : Str) then(match ths[p.2.toNat]? with
   |some k=>if k.1=("part" : Str) then("to",k.2) else("no",0)
   |none=>("no",0)) else("no",0)
 |some none=>("open",q)
 |none=>("no",0)
def Ei (ths:List (Str×Int)) (as:List (C')) (p:Str×Int):Str×Int:=
 if p.1=("part" : Str) then("to",p.2) else if p.1=("sort" : Str) then ER ths as p.2 else("no",0)
structure GJ (ths:List (Str×Int)) (as:List (C')):Prop where
 q:∀p∈ths,p.1=("sort" : Str)->0<=p.2/\p.2<as.length
 t:∀p,some p∈as->p.1=("thing" : Str)->0<=p.2/\p.2<ths.length
variable {ths:List (Str×Int)}{as:List (C')}
def Zd(h:as[n]?=some none):ER ths as (n:Int)=(("open" : Str),(n:Int)):=by
 unfold ER;rw[Bw,h]
def Ze(h:as[n]?=some (some p))(a:p.1≠("thing" : Str)):ER ths as (n:Int)=(("no" : Str),0):=by
 unfold ER;rw[Bw,h];exact Ao a
variable {m:Nat}
def Zf{k:Str×Int}(h:as[n]?=some (some p))(a:p.1=("thing" : Str))(b:p.2=(m:Int))(c:ths[m]?=some k)(d:k.1=("part" : Str)):ER ths as (n:Int)=(("to" : Str),k.2):=by
 unfold ER;rw[Bw,h]
 show(if p.1=("thing" : Str) then _ else _)=_
 rw[Ar a,b,Bw,c];exact Ar d
def Zg{k:Str×Int}(h:as[n]?=some (some p))(a:p.1=("thing" : Str))(b:p.2=(m:Int))(c:ths[m]?=some k)(d:k.1≠("part" : Str)):ER ths as (n:Int)=(("no" : Str),0):=by
 unfold ER;rw[Bw,h]
 show(if p.1=("thing" : Str) then _ else _)=_
 rw[Ar a,b,Bw,c];exact Ao d
variable {x:Str}
def JJ{X:Cx}{L:Pos}{e:Expr}{op:Operator}{a:R2}{t:Pos}(b:X.N.Nodup)(c:X.N[i]?=some x)(d:Loc X.env.scope x)(f:PE X e te)(g:Dr X (inplaceOp op) a)(h:X.fn x=true\/X.env.scope.names.lookup x=some .local:=by first|exact .inl rfl|exact .inr rfl|assumption) :
 PS X (.AugAssign (.Name x t) op e L) (NP i te a):=Lq b c d f g h
abbrev CA:Type:=Str×Str×Int
abbrev G7 (p:CA):List V:=[.str p.1,.str p.2.1,.int p.2.2]
abbrev DZ:Type:=Str×Str×Str×Int
abbrev Ea (p:DZ):List V:=[.str p.1,.str p.2.1,.str p.2.2.1,.int p.2.2.2]
abbrev Oo (p:CA):Dt:=.tup [.str p.1,.str p.2.1,.int p.2.2]
abbrev Op (p:DZ):Dt:=.tup [.str p.1,.str p.2.1,.str p.2.2.1,.int p.2.2.2]
section
variable {α:Type} {f:α->List V} {H H':Hp} {ts:List Addr} {rs:List α}
structure RT (f:α->List V) (H:Hp) (ts:List Addr) (rs:List α):Prop where
 len:ts.length=rs.length
 at_:∀(n:Nat)(t:Addr)(r:α),ts[n]?=some t->rs[n]?=some r->H t=some (.tup (f r))
def RT.nil:RT f H [] []:=⟨rfl,λn t p h=>by simp at h⟩
def RT.same(e:Ac H H')(h:RT f H ts rs):RT f H' ts rs:=⟨h.len,λn t p a b=>e _ _ (h.at_ n t p a b)⟩
def RT.keeps(k:Keeps M H H')(h:RT f H ts rs):RT f H' ts rs:=⟨h.len,λn t p a b=>k.tup (h.at_ n t p a b)⟩
def RT.snoc{t:Addr}{r:α}(h:RT f H ts rs)(e:H t=some (.tup (f r))):RT f H (ts++[t]) (rs++[r]):=by
 refine⟨by rw[AQ,AQ,h.len];rfl,λn v q a b=>?_⟩;rcases Nat.lt_or_ge n ts.length with c|i;rw[Ft c] at a;rw[Ft (by rw[<-h.len];exact c)] at b;exact h.at_ n v q a b;have g:n<(ts++[t]).length:=(Bh.mp a).1;rw[AQ,Ef] at g;have d:n=ts.length:=(by lia);subst d;rw[FL (AI _),Nat.sub_self] at a;rw[FL (by rw[h.len];exact AI _),h.len,Nat.sub_self] at b;cases a;cases b;exact e
def RT.dts{K:Aj}{g:α->Dt}(c:∀(r:α)(t:Addr),H t=some (.tup (f r))->Ap K H (.ref t) (g r))(h:RT f H ts rs):Ai K H (ts.map V.ref) (rs.map g):=by
 refine Ai.of_get (by simpa using h.len) λn v d a b=>?_;rw[AX] at a b;obtain⟨t,e,rfl⟩:=E8.mp a;obtain⟨q,i,rfl⟩:=E8.mp b;exact c q t (h.at_ n t q e i)
end
def LV{K:Aj}(r:CA)(t:Addr)(h:H t=some (.tup (G7 r))):Ap K H (.ref t) (Oo r):=.tup (Al.of h) (.cons (.str _) (.cons (.str _) (.cons (.int _) .nil)))
def LW{K:Aj}(r:DZ)(t:Addr)(h:H t=some (.tup (Ea r))):Ap K H (.ref t) (Op r):=.tup (Al.of h) (.cons (.str _) (.cons (.str _) (.cons (.str _) (.cons (.int _) .nil))))
abbrev Bg:Type:=List CA×List DZ
abbrev HX (s:Bg):Dt:=.tup [.lst (s.1.map Oo),.lst (s.2.map Op)]
structure Ht (H:Hp) (u G E:Addr) (s:Bg):Prop where
 u:H u=some (.tup [.ref G,.ref E])
 g:∃ts:List Addr,H G=some (.lst (ts.map V.ref))/\RT G7 H ts s.1
 e:∃ts:List Addr,H E=some (.lst (ts.map V.ref))/\RT Ea H ts s.2
def Ht.same{H H':Hp}{u G E:Addr}{s:Bg}(e:Ac H H')(h:Ht H u G E s):Ht H' u G E s:=by
 obtain⟨a,⟨ts,b,c⟩,⟨us,d,f⟩⟩:=h;exact⟨e _ _ a,⟨ts,e _ _ b,c.same e⟩,⟨us,e _ _ d,f.same e⟩⟩
def Ht.keeps{M:Addr->Prop}{H H':Hp}{u G E:Addr}{s:Bg}(k:Keeps M H H')(b:¬M G)(c:¬M E)(h:Ht H u G E s):Ht H' u G E s:=by
 obtain⟨a,⟨ts,d,e⟩,⟨us,f,g⟩⟩:=h;exact⟨k.tup a,⟨ts,k.at_ _ _ d b,e.keeps k⟩,⟨us,k.at_ _ _ f c,g.keeps k⟩⟩
variable {s:Bg}
def Ht.dt{K:Aj}(h:Ht H u G E s):Ap K H (.ref u) (HX s):=by
 obtain⟨a,⟨ts,b,c⟩,⟨us,d,e⟩⟩:=h;exact .tup (Al.of a) (.cons (.lst (Af.of b) (c.dts LV)) (.cons (.lst (Af.of d) (e.dts LW)) .nil))
structure CG (H:Hp) (D:Addr) (us Gs Es:List Addr) (ss:List Bg):Prop where
 top:H D=some (.lst (us.map V.ref))
 lu:us.length=ss.length
 lg:Gs.length=ss.length
 le:Es.length=ss.length
 at_:∀(i:Nat)(u G E:Addr)(s:Bg),us[i]?=some u->Gs[i]?=some G->Es[i]?=some E->ss[i]?=some s->Ht H u G E s
def CG.same{H H':Hp}{D:Addr}{us a b:List Addr}{ss:List Bg}(e:Ac H H')(h:CG H D us a b ss):CG H' D us a b ss:=
 ⟨e _ _ h.top,h.lu,h.lg,h.le,λi u G E s c d f g=>(h.at_ i u G E s c d f g).same e⟩
variable {Gs Es:List Addr}{ss:List Bg}
def CG.get(h:CG H D us Gs Es ss)(a:i<ss.length) :
 ∃u G E,us[i]?=some u/\Gs[i]?=some G/\Es[i]?=some E/\ss[i]?=some ss[i]/\Ht H u G E ss[i]:=by
 have b:us[i]?=some (us[i]'(by rw[h.lu];exact a)):=AA _;have c:Gs[i]?=some (Gs[i]'(by rw[h.lg];exact a)):=AA _;have d:Es[i]?=some (Es[i]'(by rw[h.le];exact a)):=AA _;exact⟨_,_,_,b,c,d,AA a,h.at_ i _ _ _ _ b c d (AA a)⟩
def CG.dts{K:Aj}(h:CG H D us Gs Es ss):Ai K H (us.map V.ref) (ss.map HX):=by
 refine Ai.of_get (by simpa using h.lu) λn v d a b=>?_;rw[AX] at a b;obtain⟨u,g,rfl⟩:=E8.mp a;obtain⟨s,c,rfl⟩:=E8.mp b;have i:n<ss.length:=(Bh.mp c).1;obtain⟨k,G,E,e,l,m,f,j⟩:=h.get i;rw[g] at e;cases e;rw[c] at f;rw[BJ f];exact j.dt
def CG.step(h:CG H D us Gs Es ss)(q:(D::(Gs++Es)).Nodup){t:Addr}{p:CA}(g:i<ss.length)(b:Gs[i]?=some G)(r:H G=some (.lst (ts.map V.ref)))(T:RT G7 H ts ss[i].1)(v:H t=some (.tup (G7 p))) :
 CG (upd H G (.lst (ts.map V.ref++[.ref t]))) D us Gs Es (ss.set i (ss[i].1++[p],ss[i].2)):=by
 have k:Keeps (·=G) H (upd H G (.lst (ts.map V.ref++[.ref t]))):=Keeps.one r;obtain⟨w,I⟩:=Gh.mp q;obtain⟨x,ne,J⟩:=List.nodup_append.mp I;have l:G∈Gs:=Bc b;refine⟨k.at_ _ _ h.top λz=>w (z▸GW _ l),by rw[Hj];exact h.lu,by rw[Hj];exact h.lg,by rw[Hj];exact h.le,λj u m E s n c f d=>?_⟩;have o:E≠G:=λz=>J G l E (Bc f) z.symm;by_cases e:i=j;subst e;rw[b] at c;cases c;rw[List.getElem?_set_self g] at d;cases d;obtain⟨a,_,⟨y,A,B⟩⟩:=h.at_ i u G E _ n b f (AA g);exact⟨k.tup a,⟨ts++[t],by rw[Aa,A6];rfl,(T.keeps k).snoc (k.tup v)⟩,⟨y,k.at_ _ _ A o,B.keeps k⟩⟩;rw[List.getElem?_set_ne e] at d
 have K:m≠G:=λz=>by
  subst z;obtain⟨L,C⟩:=Bh.mp c;obtain⟨M,F⟩:=Bh.mp b;exact e ((List.getElem_inj x).mp (F.trans C.symm))
 exact(h.at_ j u m E s n c f d).keeps k K o
def CG.alive(h:CG H D us Gs Es ss):∀x∈Gs++Es,∃xs,H x=some (.lst xs):=λx a=>by
 rcases BI.mp a with a|a;obtain⟨j,b⟩:=List.getElem?_of_mem a;have f:j<ss.length:=by rw[<-h.lg];exact(Bh.mp b).1
 obtain⟨g,i,k,l,c,d,m,⟨_,⟨n,e,_⟩,_⟩⟩:=h.get f;rw[b] at c;cases c;exact⟨_,e⟩;obtain⟨j,b⟩:=List.getElem?_of_mem a;have f:j<ss.length:=by rw[<-h.le];exact(Bh.mp b).1
 obtain⟨g,i,k,l,c,d,m,⟨_,_,⟨n,e,_⟩⟩⟩:=h.get f;rw[b] at d;cases d;exact⟨_,e⟩
def CG.nil(h:H D=some (.lst [])):CG H D [] [] [] []:=⟨h,rfl,rfl,rfl,λi u G E s a=>by simp at a⟩
def CG.snoc(h:CG H D us Gs Es ss)(g:Ht H u G E s)(j:G≠D)(l:E≠D)(f:∀x∈Gs++Es,x≠D) :
 CG (upd H D (.lst (us.map V.ref++[.ref u]))) D (us++[u]) (Gs++[G]) (Es++[E]) (ss++[s]):=by
 have k:Keeps (·=D) H (upd H D (.lst (us.map V.ref++[.ref u]))):=Keeps.one h.top;refine⟨by rw[Aa,A6];rfl,by simp[h.lu],by simp[h.lg],by simp[h.le],λi m n o Z d a b c=>?_⟩;rcases Nat.lt_or_ge i ss.length with e|r;rw[Ft (by rw[h.lu];exact e)] at d;rw[Ft (by rw[h.lg];exact e)] at a;rw[Ft (by rw[h.le];exact e)] at b;rw[Ft e] at c;exact(h.at_ i m n o Z d a b c).keeps k (f _ (GW _ (Bc a))) (f _ (Ev _ (Bc b)));have q:i<(ss++[s]).length:=(Bh.mp c).1;rw[AQ,Ef] at q;have p:i=ss.length:=(by lia);subst p;rw[FL (by rw[h.lu];exact AI _),h.lu,Nat.sub_self] at d;rw[FL (by rw[h.lg];exact AI _),h.lg,Nat.sub_self] at a;rw[FL (by rw[h.le];exact AI _),h.le,Nat.sub_self] at b;rw[FL (AI _),Nat.sub_self] at c;cases d;cases a;cases b;cases c;exact g.keeps k j l
def Zh(a:(D::(Gs++Es)).Nodup)(b:G∉D::(Gs++Es))(c:E∉D::(Gs++Es))(d:G≠E):(D::((Gs++[G])++(Es++[E]))).Nodup:=by
 have p:(D::((Gs++[G])++(Es++[E]))).Perm (G::E::(D::(Gs++Es))):=by
  have e:(D::((Gs++[G])++(Es++[E]))).Perm (E::(D::((Gs++[G])++Es))):=by
   have:(D::((Gs++[G])++(Es++[E])))=(D::((Gs++[G])++Es))++[E]:=(by simp);rw[this];exact List.perm_append_singleton _ _
  have J:(D::((Gs++[G])++Es)).Perm (G::(D::(Gs++Es))):=by
   have:(D::((Gs++[G])++Es))=(D::Gs)++G::Es:=(by simp);rw[this];exact List.perm_middle
  exact(e.trans (J.cons E)).trans (List.Perm.swap _ _ _)
 rw[p.nodup_iff,Gh,Gh];refine⟨λz=>?_,c,a⟩;rcases Cc.mp z with z|z;exact d z;exact b z
def ES (ths:List (Str×Int)) (as:List (C')) (p:CA):Str×Int:=
 if p.2.1=("to" : Str) then("to",p.2.2) else match as[p.2.2.toNat]? with
 |some (some w)=>if w.1=("thing" : Str) then(match ths[w.2.toNat]? with
   |some k=>Ei ths as k
   |none=>("no",0)) else("no",0)
 |some none=>("open",p.2.2)
 |none=>("no",0)
def Zi{p:CA}(h:p.2.1=("to" : Str)):ES ths as p=(("to" : Str),p.2.2):=Ar h
def Zj{p:CA}(h:p.2.1≠("to" : Str))(a:p.2.2=(n:Int))(b:as[n]?=some none):ES ths as p=(("open" : Str),p.2.2):=by
 unfold ES;rw[Ao h,a,Bw,b]
def Zk{p:CA}{w:Str×Int}(h:p.2.1≠("to" : Str))(a:p.2.2=(n:Int))(b:as[n]?=some (some w))(c:w.1≠("thing" : Str)):ES ths as p=(("no" : Str),0):=by
 unfold ES;rw[Ao h,a,Bw,b];exact Ao c
def Zl{p:CA}{w k:Str×Int}(h:p.2.1≠("to" : Str))(a:p.2.2=(n:Int))(b:as[n]?=some (some w))(c:w.1=("thing" : Str))(d:w.2=(m:Int))(e:ths[m]?=some k):ES ths as p=Ei ths as k:=by
 unfold ES;rw[Ao h,a,Bw,b]
 show(if w.1=("thing" : Str) then _ else _)=_
 rw[Ar c,d,Bw,e]
section
variable {X:Cx}
end
def F5 (s q:Int) (p:Str×Int):Prop:=(p.1=("plain" : Str)/\p.2=0)\/(p.1=("part" : Str)/\0<=p.2/\p.2<s)\/(p.1=("sort" : Str)/\0<=p.2/\p.2<q)
def F6 (s q:Int) (p:CA):Prop:=(p.2.1=("to" : Str)/\0<=p.2.2/\p.2.2<s)\/(p.2.1=("by" : Str)/\0<=p.2.2/\p.2.2<q)
def ET (t q:Int) (p:DZ):Prop:=(p.2.2.1=("thing" : Str)/\0<=p.2.2.2/\p.2.2.2<t)\/(p.2.2.1=("by" : Str)/\0<=p.2.2.2/\p.2.2.2<q)
structure F7 (H:Hp) (S T R:Addr) (us Gs Es ts qt:List Addr) (ss:List Bg) (gs:List (Str×Int)) (qs:List Qu):Prop where
 sc:CG H S us Gs Es ss
 et:H T=some (.lst (ts.map V.ref))
 tg:GT H ts gs
 er:H R=some (.lst (qt.map V.ref))
 tq:QT H qt qs
def F7.same{H H':Hp}{S T R:Addr}{us Gs Es ts a:List Addr}{ss:List Bg}{gs:List (Str×Int)}{qs:List Qu}(e:Ac H H')(h:F7 H S T R us Gs Es ts a ss gs qs):F7 H' S T R us Gs Es ts a ss gs qs:=
 ⟨h.sc.same e,e _ _ h.et,h.tg.same e,e _ _ h.er,h.tq.same e⟩
abbrev HY (ss:List Bg) (gs:List (Str×Int)) (qs:List Qu):Dt:=.tup [.lst (ss.map HX),.lst (gs.map DY),.lst (qs.map V9)]
def F7.dt{K:Aj}{a S T R:Addr}{b:List Addr}(h:F7 H S T R us Gs Es ts b ss gs qs)(e:H a=some (.tup [.ref S,.ref T,.ref R])):Ap K H (.ref a) (HY ss gs qs):=
 .tup (Al.of e) (.cons (.lst (Af.of h.sc.top) h.sc.dts) (.cons (.lst (Af.of h.et) h.tg.dts) (.cons (.lst (Af.of h.er) h.tq.dts) .nil)))
def JK(s r:Bg):Dk 4 (HX s) (HX r):=by
 refine .tup (.cons (.lst (Bx.of λd hd e a=>?_)) (.cons (.lst (Bx.of λd hd e a=>?_)) (.nil _)));obtain⟨p,_,rfl⟩:=AN.mp hd;obtain⟨q,_,rfl⟩:=AN.mp a;exact .tup (.cons (.str _ _) (.cons (.str _ _) (.cons (.int _ _) (.nil _))));obtain⟨p,_,rfl⟩:=AN.mp hd;obtain⟨q,_,rfl⟩:=AN.mp a;exact .tup (.cons (.str _ _) (.cons (.str _ _) (.cons (.str _ _) (.cons (.int _ _) (.nil _)))))
def JL(ss b:List Bg)(gs c:List (Str×Int))(qs f:List Qu):Dk 6 (HY ss gs qs) (HY b c f):=by
 refine .tup (.cons (.lst (Bx.of λd hd e a=>?_)) (.cons (.lst (Bx.of λd hd e a=>?_)) (.cons (.lst (Bx.of λd hd e a=>?_)) (.nil _))));obtain⟨p,_,rfl⟩:=AN.mp hd;obtain⟨q,_,rfl⟩:=AN.mp a;exact JK p q;obtain⟨p,_,rfl⟩:=AN.mp hd;obtain⟨q,_,rfl⟩:=AN.mp a;exact .tup (.cons (.str _ _) (.cons (.int _ _) (.nil _)));obtain⟨p,_,rfl⟩:=AN.mp hd;obtain⟨q,_,rfl⟩:=AN.mp a;refine .tup (.cons (.int _ _) (.cons (.int _ _) (.cons (.tup (Bx.of λd hd e a=>?_)) (.nil _))));obtain⟨p,_,rfl⟩:=AN.mp hd;obtain⟨q,_,rfl⟩:=AN.mp a;exact .str _ _
abbrev JM (K:Aj):List V->Hp->VK->Prop:=λxs H Q=>∃p ys,xs=[V.ref p]/\(Af K H p ys\/Al K H p ys)/\∀l,H l=none->Q (V.ref l) (upd H l (HO.lst ys))
def CG.tell(h:CG H D us Gs Es ss)(q:(D::(Gs++Es)).Nodup){t:Addr}{p:DZ}(g:i<ss.length)(b:Es[i]?=some E)(r:H E=some (.lst (ts.map V.ref)))(T:RT Ea H ts ss[i].2)(v:H t=some (.tup (Ea p))) :
 CG (upd H E (.lst (ts.map V.ref++[.ref t]))) D us Gs Es (ss.set i (ss[i].1,ss[i].2++[p])):=by
 have k:Keeps (·=E) H (upd H E (.lst (ts.map V.ref++[.ref t]))):=Keeps.one r;obtain⟨w,C⟩:=Gh.mp q;obtain⟨K,ne,F⟩:=List.nodup_append.mp C;have l:E∈Es:=Bc b;refine⟨k.at_ _ _ h.top λz=>w (z▸Ev _ l),by rw[Hj];exact h.lu,by rw[Hj];exact h.lg,by rw[Hj];exact h.le,λj u G m s n f c d=>?_⟩;have o:G≠E:=λz=>F G (Bc f) E l z;by_cases e:i=j;subst e;rw[b] at c;cases c;rw[List.getElem?_set_self g] at d;cases d;obtain⟨a,⟨I,x,y⟩,_⟩:=h.at_ i u G E _ n f b (AA g);exact⟨k.tup a,⟨I,k.at_ _ _ x o,y.keeps k⟩,⟨ts++[t],by rw[Aa,A6];rfl,(T.keeps k).snoc (k.tup v)⟩⟩;rw[List.getElem?_set_ne e] at d
 have J:m≠E:=λz=>by
  subst z;obtain⟨L,A⟩:=Bh.mp c;obtain⟨M,B⟩:=Bh.mp b;exact e ((List.getElem_inj ne).mp (B.trans A.symm))
 exact(h.at_ j u G m s n f c d).keeps k o J
open PySem.SeqAt
open PySem.AutoSeq1 (wpAny_loadPart')
open PySem.MeetsSeq PySem.MeetsSeq2 PySem.MeetsSeq3
def B9 (A:Around) (s:Shared) (x y:Value) (b:Bool):Prop:=
 ∀(prog:Program)(w:World)(E:G')(Q:G'),Q (.bool b) s->wpAny (model prog w) A (richCompare .Lt x y) Q E s
inductive BN (A:Around) (s:Shared):List Value->List Value->Bool->Prop where
 |nil:BN A s [] [] false
 |lt (w:Value) (ws:List Value):BN A s [] (w::ws) true
 |gt (v:Value) (vs:List Value):BN A s (v::vs) [] false
 |eq {v w:Value} {vs ws:List Value} {b:Bool} (h:EqAt A s v w true) (t:BN A s vs ws b):BN A s (v::vs) (w::ws) b
 |ne {v w:Value} {vs ws:List Value} {b:Bool} (h:EqAt A s v w false) (l:B9 A s v w b):BN A s (v::vs) (w::ws) b
def Zm(l b:Addr)(f e:Array Value)(n D:Nat)(E L:Option Addr)(F M:Array (Option Value))(c:Bool) :
 Meets (Builtin.«tuple.__lt__» ⟨[.ref l,.ref b],[]⟩)
  (λA R s=>s.heap.get? l=some {cls:=.type "tuple",dict:=E,data:=.seq f n,slots:=F}/\s.heap.get? b=some {cls:=.type "tuple",dict:=L,data:=.seq e D,slots:=M} /\
   BN A.in1 s f.toList e.toList c/\R (.ok (.ret (.bool c))) s):=
 .of_wp λu w A R s h=>by
  obtain⟨v,g,d,z,B⟩:=s;obtain⟨G,H,i,h⟩:=h;have O:=AutoSeq1.sub_tuple_tuple
  wp_walk using wpAny_loadPart' G,wpAny_loadPart' H,wpAny_forIn_list _ (λj b Z=>b.1=none/\Z=⟨v,g,d,z,B⟩/\∃(vs k:List Value),j=vs.zip k /\
   BN A.in1 ⟨v,g,d,z,B⟩ vs k c/\vs.length+e.size=k.length+f.size) _
  case turn =>
   rintro⟨y,x⟩ j b Z ⟨q,rfl,vs,k,a,r,m⟩
   cases r with
   |nil=>rw[List.zip_nil_left] at a;cases a
   |lt=>rw[List.zip_nil_left] at a;cases a
   |gt=>rw[List.zip_nil_right] at a;cases a
   |eq o I =>
     rw[List.zip_cons_cons] at a;injection a with t C;injection t with p i;subst p i;simp only[EG] at m;refine Ag (o u w _ _ ?_)
     wp_walk
     exact⟨rfl,rfl,_,_,C,I,by lia⟩
   |ne o J =>
     rw[List.zip_cons_cons] at a;injection a with t C;injection t with p i;subst p i;refine Ag (o u w _ _ ?_);have N:=J u w
     wp_walk using N
     exact⟨_,rfl,by simpa using h⟩
  case fin =>
   rintro⟨P,Q⟩ Z ⟨q,rfl,vs,k,a,r,m⟩;simp only at q;subst q
   have K:c=decide (f.size<e.size):=by
    cases r with
    |nil =>
      simp only[GX] at m;exact(D8 (by lia)).symm
    |lt =>
      simp only[GX,EG] at m;exact(AY (by lia)).symm
    |gt =>
      simp only[GX,EG] at m;exact(D8 (by lia)).symm
    |eq=>rw[List.zip_cons_cons] at a;cases a
    |ne=>rw[List.zip_cons_cons] at a;cases a
   rw[K] at h
   wp_walk
   exact⟨_,rfl,by simpa [Builtin.Tuple.tupleCompareSizes] using h⟩
  case h =>
   exact⟨rfl,rfl,f.toList,e.toList,rfl,i,by simp[Nat.add_comm]⟩
def Zn(l b:Addr)(f e:Array Value)(n C:Nat)(D O:Option Addr)(E P:Array (Option Value))(c:Bool)(k:Nat) :
 ∀i:Nat,f.size-i=k->i<=f.size->i<=e.size->Meets (Builtin.«list.__eq__.loop» ⟨[.ref l,.ref b,rawInt i,rawInt 0],[]⟩)
  (λA R s=>s.heap.get? l=some {cls:=.type "list",dict:=D,data:=.seq f n,slots:=E}/\s.heap.get? b=some {cls:=.type "list",dict:=O,data:=.seq e C,slots:=P} /\
   BN A.in1 s (f.toList.drop i) (e.toList.drop i) c/\R (.ok (.ret (.bool c))) s):=by
 induction k with
 |zero =>
   intro i F G Q q w A R s h;obtain⟨H,g,d,I,J⟩:=s;obtain⟨j,m,a,h⟩:=h;have u:f.toList.drop i=[]:=by simp;lia
   rw[u] at a
   have v:c=decide (f.size<e.size):=by
    generalize o:e.toList.drop i=r at a;have x:=BB List.length o;simp only[Ky,Array.length_toList] at x
    cases a with
    |nil=>simp only[GX] at x;exact(D8 (by lia)).symm
    |lt=>simp only[EG] at x;exact(AY (by lia)).symm
   wp_walk using wpAny_loadPart' j,wpAny_loadPart' m
   have p:f[((i:Nat):Int).toNat]?=none:=by simp;lia
   rw[p]
   wp_walk using wpAny_loadPart' j,wpAny_loadPart' m
   show R (.ok (.ret (.bool (decide (f.size<e.size))))) _;rw[<-v];exact h
 |succ k K =>
   intro i F G Q q w A R s h;obtain⟨H,g,d,I,J⟩:=s;obtain⟨j,m,a,h⟩:=h;have z:i<f.size:=(by lia);have p:f[((i:Nat):Int).toNat]?=some f[i]:=(by simp[z]);have u:f.toList.drop i=f[i]::f.toList.drop (i+1):=(by simp[Kz,z]);rw[u] at a
   wp_walk using wpAny_loadPart' j,wpAny_loadPart' m
   by_cases B:i<e.size;have t:e[((i:Nat):Int).toNat]?=some e[i]:=(by simp[B]);have o:e.toList.drop i=e[i]::e.toList.drop (i+1):=(by simp[Kz,B]);have L:((i:Int)+1)=((i+1:Nat):Int):=by push_cast;rfl
   rw[o] at a;rw[p,t]
   cases a with
   |eq y M =>
     refine Ag (y q w _ _ ?_)
     wp_walk
     rw[L]
     exact⟨plainId_quiet plain_eq_loop _,codeAny_builtin entry_eq_loop (by
      rw[Around.under_plainId plain_eq_loop _]
      exact K (i+1) (by lia) (by lia) (by lia) q w A R _ ⟨j,m,M,h⟩)⟩
   |ne y N =>
     refine Ag (y q w _ _ ?_);have S:=N q w
     wp_walk using wpAny_loadPart' j,wpAny_loadPart' m
     rw[p,t]
     wp_walk using S
     exact h
   have t:e[((i:Nat):Int).toNat]?=none:=by simp;lia
   have o:e.toList.drop i=[]:=by simp;lia
   rw[o] at a
   have v:c=decide (f.size<e.size):=by
    cases a;exact(D8 (by lia)).symm
   rw[p,t]
   wp_walk using wpAny_loadPart' j,wpAny_loadPart' m
   show R (.ok (.ret (.bool (decide (f.size<e.size))))) _;rw[<-v];exact h
def Wa(l b:Addr)(f e:Array Value)(n a:Nat)(i o:Option Addr)(j p:Array (Option Value))(c:Bool) :
 Meets (Builtin.«list.__lt__» ⟨[.ref l,.ref b],[]⟩)
  (λA R s=>s.heap.get? l=some {cls:=.type "list",dict:=i,data:=.seq f n,slots:=j}/\s.heap.get? b=some {cls:=.type "list",dict:=o,data:=.seq e a,slots:=p} /\
   BN A.in1 s f.toList e.toList c/\R (.ok (.ret (.bool c))) s):=by
 intro r w A R s h;obtain⟨t,g,d,u,v⟩:=s;obtain⟨k,m,q,h⟩:=h;have x:=AutoSeq1.sub_list_list
 wp_walk using wpAny_loadPart' k,wpAny_loadPart' m
 exact⟨plainId_quiet plain_eq_loop _,codeAny_builtin entry_eq_loop (by
  rw[Around.under_plainId plain_eq_loop _]
  exact Zn l b f e n a i o j p c _ 0 rfl (CO _) (CO _) r w A R _ ⟨k,m,by simpa using q,h⟩)⟩
section
variable {A:Around} {s:Shared}
variable {l b:Addr}{f e:Array Value}
def B9.tuples{c:Bool}(k:IsTup s.heap l f)(m:IsTup s.heap b e)(o:BN A.in1 s f.toList e.toList c)(p:A.units<cLine):B9 A s (.ref l) (.ref b) c:=λz w E Q h=>by
 obtain⟨⟨y,q,B,r⟩,a,d,n,hd⟩:=id k;obtain⟨⟨C,u,data2,v⟩,g,i,t,j⟩:=id m;simp only at d hd i j;subst d hd i j
 exact richCompare_meets_room (op:=.Lt) ⟨_,a,rfl⟩ ⟨_,g,rfl⟩ PySem.F.slot_tuple_lt PySem.F.entry_tuple_lt (PySem.F.args_tuple_lt_2 _ _) (Zm l b f e n t q u r v c)
  ⟨a,g,o,show Value.bool c≠Value.notImplemented/\Q (.bool c) s from⟨(λx=>nomatch x),h⟩⟩ p
def B9.lists{c:Bool}(k:s.heap.IsList l f)(m:s.heap.IsList b e)(o:BN A.in1 s f.toList e.toList c)(p:A.units<cLine):B9 A s (.ref l) (.ref b) c:=λz w E Q h=>by
 obtain⟨⟨y,q,B,r⟩,a,d,n,hd⟩:=id k;obtain⟨⟨C,u,data2,v⟩,g,i,t,j⟩:=id m;simp only at d hd i j;subst d hd i j
 exact richCompare_meets_room (op:=.Lt) ⟨_,a,rfl⟩ ⟨_,g,rfl⟩ PySem.F.slot_list_lt PySem.F.entry_list_lt (PySem.F.args_list_lt_2 _ _) (Wa l b f e n t q u r v c)
  ⟨a,g,o,show Value.bool c≠Value.notImplemented/\Q (.bool c) s from⟨(λx=>nomatch x),h⟩⟩ p
def Wb{prog:Program}{w:World}{E:G'}{c:Bool}{Q:Bool->Shared->Prop}(j:s.heap.IsList l f)(k:s.heap.IsList b e)(m:BN A.in1 s f.toList e.toList c)(o:A.units<cLine)(h:Q c s) :
 wpAny (model prog w) A (oneLt' true (.ref l) (.ref b)) Q E s:=by
 obtain⟨⟨x,p,y,q⟩,a,d,n,hd⟩:=id j;obtain⟨⟨z,t,data2,u⟩,v,g,r,i⟩:=id k;simp only at d hd g i;subst d hd g i;rw[oneLt'_eq];simp only[if_true];refine Ag (wpAny_cRoomFor o ?_);refine Ag (wpAny_callSpecialIfBound?_slot (T:= "list") ⟨_,a,rfl⟩ PySem.F.slot_list_lt (call_meets PySem.F.slot_list_lt ⟨_,a,rfl⟩ PySem.F.entry_list_lt (PySem.F.args_list_lt_2 _ _) (Wa l b f e n r p t q u c) ⟨a,v,m,?_⟩));exact Gi h
end
def Fw (O:KeyOrd):List O.α->List O.α->Bool
 |[],[]=>false
 |[],_::_=>true
 |_::_,[]=>false
 |x::xs,y::ys=>O.blt x y || (!O.blt y x && Fw O xs ys)
def LX(O:KeyOrd)(x y:O.α)(xs ys:List O.α):Fw O (x::xs) (y::ys)=(O.blt x y || (!O.blt y x && Fw O xs ys)):=rfl
theorem Wc(O:KeyOrd):∀xs,Fw O xs xs=false
 |[]=>rfl
 |x::xs=>by rw[LX,O.irrefl,Wc O xs];rfl
theorem We(O:KeyOrd):∀xs ys zs,Fw O xs ys=true->Fw O ys zs=true->Fw O xs zs=true
 |[],[],_,h,_=>by cases h
 |[],_::_,[],_,k=>by cases k
 |[],_::_,_::_,_,_=>rfl
 |_::_,[],_,h,_=>by cases h
 |_::_,_::_,[],_,k=>by cases k
 |x::xs,y::ys,z::zs,a,b=>by
   rw[LX] at *;simp only[Bool.or_eq_true,Bool.and_eq_true,Bool.not_eq_true'] at a b ⊢
   rcases a with a|⟨a,c⟩<;>rcases b with b|⟨b,d⟩;exact .inl (O.trans _ _ _ a b);exact .inl (KeyOrd.klt_of_klt_of_kle a b);exact .inl (KeyOrd.klt_of_kle_of_klt a b);exact .inr ⟨KeyOrd.kle_trans (O:=O) a b,We O xs ys zs c d⟩
theorem Wf(O:KeyOrd):∀xs ys zs,Fw O xs zs=true->Fw O xs ys=true\/Fw O ys zs=true
 |[],[],[],h=>by cases h
 |[],[],_::_,_=>.inr rfl
 |[],_::_,_,_=>.inl rfl
 |_::_,_,[],h=>by cases h
 |_::_,[],_::_,_=>.inr rfl
 | x :: xs,y :: ys,z :: zs,h=>by
   rw[LX] at *;rw[LX];simp only[Bool.or_eq_true,Bool.and_eq_true,Bool.not_eq_true'] at h ⊢
   rcases h with h|⟨h,k⟩;rcases O.negTrans _ y _ h with h|h;exact .inl (.inl h);exact .inr (.inl h)
   cases b:O.blt x y with
   |true=>exact .inl (.inl rfl)
   |false =>
     cases c:O.blt y z with
     |true=>exact .inr (.inl rfl)
     |false =>
       have d:O.kle y x:=b;have e:O.kle z y:=c;have a:O.kle x z:=h;have f:O.blt y x=false:=KeyOrd.kle_trans (O:=O) a e;have g:O.blt z y=false:=KeyOrd.kle_trans (O:=O) d a;rcases Wf O xs ys zs k with k|k;exact .inl (.inr ⟨f,k⟩);exact .inr (.inr ⟨g,k⟩)
theorem Wg(O:KeyOrd):∀xs ys,Fw O xs ys=false->Fw O ys xs=false->xs=ys
 |[],[],_,_=>rfl
 |[],_::_,h,_=>by cases h
 |_::_,[],_,k=>by cases k
 |x::xs,y::ys,a,b=>by
   rw[LX] at a b;simp only[Bool.or_eq_false_iff,Bool.and_eq_false_iff,Bool.not_eq_false'] at a b;have c:x=y:=O.total _ _ a.1 b.1;have d:xs=ys:=Wg O xs ys (by rcases a.2 with z|z;exact absurd (b.1.symm.trans z) (by simp);exact z) (by rcases b.2 with z|z;exact absurd (a.1.symm.trans z) (by simp);exact z);rw[c,d]
@[reducible] def Oq (O:KeyOrd):KeyOrd where
 α:=List O.α
 blt:=Fw O
 irrefl:=Wc O
 trans:=We O
 negTrans:=Wf O
 total:=Wg O
def Ng{P:KeyOrd}(x y:(BQ O P).α)(e:x.1=y.1):(BQ O P).blt x y=P.blt x.2 y.2:=by
 show(O.blt x.1 y.1 || (!O.blt y.1 x.1 && P.blt x.2 y.2))=_;rw[e,O.irrefl];rfl
def Nh{P:KeyOrd}(x y:(BQ O P).α)(e:x.1≠y.1):(BQ O P).blt x y=O.blt x.1 y.1:=by
 show(O.blt x.1 y.1 || (!O.blt y.1 x.1 && P.blt x.2 y.2))=_
 cases a:O.blt x.1 y.1 with
 |true=>rfl
 |false =>
   cases b:O.blt y.1 x.1 with
   |true=>rfl
   |false=>exact absurd (O.total _ _ a b) e
def Zo(x:O.α)(xs ys:List O.α):Fw O (x::xs) (x::ys)=Fw O xs ys:=by
 rw[LX,O.irrefl];rfl
def Zp{x y:O.α}(xs ys:List O.α)(e:x≠y):Fw O (x::xs) (y::ys)=O.blt x y:=by
 rw[LX]
 cases a:O.blt x y with
 |true=>rfl
 |false =>
   cases b:O.blt y x with
   |true=>rfl
   |false=>exact absurd (O.total _ _ a b) e
mutual
theorem Dk.mono {n m:Nat}{d e:Dt} (c:Dk n d e) (h:n<=m):Dk m d e:=by
 cases c with
 | non=>exact .non
 | bl a b=>exact .bl a b
 | int a b=>exact .int a b
 | str a b=>exact .str a b
 | tup t=>cases m with
   | zero=>exact absurd h (Nat.not_succ_le_zero _)
   | succ m=>exact .tup (Bx.mono t (Nat.le_of_succ_le_succ h))
 | lst t=>cases m with
   | zero=>exact absurd h (Nat.not_succ_le_zero _)
   | succ m=>exact .lst (Bx.mono t (Nat.le_of_succ_le_succ h))
 | apart a=>cases m with
   | zero=>exact absurd h (Nat.not_succ_le_zero _)
   | succ m=>exact .apart a
theorem Bx.mono {n m:Nat}{a es:List Dt} (c:Bx n a es) (h:n<=m):Bx m a es:=by
 cases c with
 | nil=>exact .nil _
 | nil'=>exact .nil' _
 | cons c t=>exact .cons (Dk.mono c h) (Bx.mono t h)
end
structure Enc where
 O:KeyOrd
 D:O.α->Dt
 dflt:O.α
 dep:Nat
 cmp:∀a b,Dk dep (D a) (D b)
 inj:∀a b,D a=D b->a=b
 lt:∀{X:Cx}{pins:B'}{σ:St}{H:Hp}{s:Shared},Inv X pins σ H s->∀{a b:O.α}{v u:V}{x y:Value}{A:Around},Ap X.K H v (D a)->Ap X.K H u (D b)->RelV v x->RelV u y->A.units+dep<cLine->B9 A s x y (O.blt a b)
section
variable {X:Cx} {pins:B'} {σ:St} {H:Hp} {s:Shared}
def Enc.eq(c:Enc)(I:Inv X pins σ H s){a b:c.O.α}{u:V}{x y:Value}{A:Around}(hv:Ap X.K H v (c.D a))(d:Ap X.K H u (c.D b))(e:RelV v x)(f:RelV u y)(g:A.units+c.dep<cLine):EqAt A s x y (dec (a=b)):=by
 have:=V1 (A:=A) I (c.cmp a b) hv d e f g
 rwa [KP (p:=c.D a=c.D b) (q:=a=b) ⟨c.inj a b,λz=>by rw[z]⟩] at this
def Enc.lex(c:Enc)(I:Inv X pins σ H s){a b:c.O.α}{u:V}{x y:Value}{A:Around}{vs ws:List Value}{e f:Bool}(hv:Ap X.K H v (c.D a))(h:Ap X.K H u (c.D b))(i:RelV v x)(j:RelV u y)(k:A.units+c.dep<cLine)(l:a=b->BN A s vs ws e/\f=e)(m:a≠b->f=c.O.blt a b):BN A s (x::vs) (y::ws) f:=by
 have d:=c.eq (A:=A) I hv h i j k;by_cases g:a=b;rw[Fa g] at d;obtain⟨t,rfl⟩:=l g;exact .eq d t;rw[Go g] at d;rw[m g];exact .ne d (c.lt I hv h i j k)
end
@[reducible] def F8:Enc where
 O:=JC
 D:=Dt.int
 dflt:=(0:Int)
 dep:=0
 cmp a b:=.int a b
 inj a b h:=Dt.int.inj h
 lt {X pins σ H s} I {a b v u x y A} hv hu rx ry _:=by
  cases hv;cases hu;obtain⟨t,rfl⟩:=rx;obtain⟨t',rfl⟩:=ry;exact λprog w E Q h=>(PySem.P.lt_int h:wpAny (model prog w) _ (compareOp .Lt _ _) Q E _)
@[reducible] def Tp:Enc where
 O:=C6
 D:=Dt.str
 dflt:=(default:Str)
 dep:=0
 cmp a b:=.str a b
 inj a b h:=Dt.str.inj h
 lt {X pins σ H s} I {a b v u x y A} hv hu rx ry _:=by
  cases hv;cases hu;obtain⟨t,rfl⟩:=rx;obtain⟨t',rfl⟩:=ry;exact λprog w E Q h=>(PySem.P.lt_str h:wpAny (model prog w) _ (compareOp .Lt _ _) Q E _)
section
variable {X:Cx} {pins:B'} {σ:St} {H:Hp} {s:Shared}
def Enc.lexL(c:Enc)(I:Inv X pins σ H s){A:Around}(j:A.units+c.dep<cLine):∀{as bs:List c.O.α}{vs us:List V}{xs ys:List Value},Ai X.K H vs (as.map c.D)->Ai X.K H us (bs.map c.D)->Ay vs xs->Ay us ys->BN A s xs ys (Fw c.O as bs):=by
 intro as
 induction as with
 |nil =>
   intro bs vs us xs ys g d i f;cases g;cases i
   cases bs with
   |nil=>cases d;cases f;exact .nil
   |cons b bs=>cases d;cases f;exact .lt _ _
 |cons a as k =>
   intro bs vs us xs ys g d i f
   cases g with
   |cons h t=>cases i with
     |cons r q=>cases bs with
       |nil=>cases d;cases f;exact .gt _ _
       |cons b bs=>cases d with
         |cons l m=>cases f with
           |cons n o=>exact c.lex I h l r n j (λe=>⟨k t m q o,by subst e;exact Zo a as bs⟩) (λe=>Zp as bs e)
end
theorem Wh(c:Enc):∀{a b:List c.O.α},a.map c.D=b.map c.D->a=b
 |[],[],_=>rfl
 |[],_::_,h=>by cases h
 |_::_,[],h=>by cases h
 |x::a,y::b,h=>by
   rw[Ew,Ew] at h;injection h with d e;rw[c.inj x y d,Wh c e]
@[reducible] def EU (c:Enc):Enc where
 O:=Oq c.O
 D l:=Dt.lst (l.map c.D)
 dflt:=([]:List c.O.α)
 dep:=c.dep+1
 cmp a b:=.lst (Bx.of λd hd e he=>by
  obtain⟨x,_,rfl⟩:=AN.mp hd;obtain⟨y,_,rfl⟩:=AN.mp he
  exact c.cmp x y)
 inj a b h:=Wh c (Dt.lst.inj h)
 lt {X pins σ H s} I {a b v u x y A} hv hu rx ry hA:=by
  cases hv with
  |lst h t =>
    cases hu with
    |lst h' t' =>
      cases rx;cases ry;obtain⟨its,r,p,_⟩:=I.list h;obtain⟨its',r',p',_⟩:=I.list h';exact B9.lists p.isList p'.isList (c.lexL (A:=A.in1) I (by rw[Hs];lia) t t' r r') (by lia)
def LY{K:Aj}{d e:Dt}(h:Ai K H vs [d,e]):∃a b,vs=[a,b]/\Ap K H a d/\Ap K H b e:=by
 cases h with
 |cons c t=>cases t with
   |cons f t=>cases t;exact⟨_,_,rfl,c,f⟩
def Ot{K:Aj}{d e f:Dt}(h:Ai K H vs [d,e,f]):∃a b c,vs=[a,b,c]/\Ap K H a d/\Ap K H b e/\Ap K H c f:=by
 cases h with
 |cons g t=>obtain⟨a,b,rfl,i,j⟩:=LY t;exact⟨_,_,_,rfl,g,i,j⟩
def HZ{x y z:V}{us:List Value}(r:Ay [x,y,z] us):∃u w v,us=[u,w,v]/\RelV x u/\RelV y w/\RelV z v:=by
 cases r with
 |cons c d=>obtain⟨a,b,rfl,e,f⟩:=Jn d;exact⟨_,_,_,rfl,c,e,f⟩
@[reducible] def LZ (c d:Enc):Enc where
 O:=BQ c.O d.O
 D p:=Dt.tup [c.D p.1,d.D p.2]
 dflt:=(c.dflt,d.dflt)
 dep:=max c.dep d.dep+1
 cmp a b:=.tup (.cons ((c.cmp a.1 b.1).mono (Nat.le_max_left _ _)) (.cons ((d.cmp a.2 b.2).mono (Nat.le_max_right _ _)) (.nil _)))
 inj a b h:=by
  injection h with h;injection h with h1 h2;injection h2 with h2 _;exact Prod.ext (c.inj _ _ h1) (d.inj _ _ h2)
 lt {X pins σ H s} I {a b v u x y A} hv hu rx ry hA:=by
  have m1:=Nat.le_max_left c.dep d.dep;have m2:=Nat.le_max_right c.dep d.dep
  cases hv with
  |tup h t =>
    cases hu with
    |tup h' t' =>
      cases rx;cases ry;obtain⟨its,r,p,_⟩:=I.tuple h;obtain⟨its',r',p',_⟩:=I.tuple h';obtain⟨v1,v2,rfl,t1,t2⟩:=LY t;obtain⟨u1,u2,rfl,s1,s2⟩:=LY t';obtain⟨x1,x2,rfl,r1,r2⟩:=Jn r;obtain⟨y1,y2,rfl,q1,q2⟩:=Jn r';refine B9.tuples p p' (c.lex (A:=A.in1) I t1 s1 r1 q1 (by rw[Hs];lia) (λe=>⟨d.lex (A:=A.in1) I t2 s2 r2 q2 (by rw[Hs];lia) (λe'=>⟨.nil,?_⟩) λe'=>rfl,Ng a b e⟩) λe=>Nh a b e) (by lia);rw[e',d.O.irrefl]
@[reducible] def KR (c d e:Enc):Enc where
 O:=BQ c.O (BQ d.O e.O)
 D p:=Dt.tup [c.D p.1,d.D p.2.1,e.D p.2.2]
 dflt:=(c.dflt,d.dflt,e.dflt)
 dep:=max c.dep (max d.dep e.dep)+1
 cmp a b:=.tup (.cons ((c.cmp a.1 b.1).mono (Nat.le_max_left _ _)) (.cons ((d.cmp a.2.1 b.2.1).mono (by lia)) (.cons ((e.cmp a.2.2 b.2.2).mono (by lia)) (.nil _))))
 inj a b h:=by
  injection h with h;injection h with h1 h2;injection h2 with h2 h3;injection h3 with h3 _;exact Prod.ext (c.inj _ _ h1) (Prod.ext (d.inj _ _ h2) (e.inj _ _ h3))
 lt {X pins σ H s} I {a b v u x y A} hv hu rx ry hA:=by
  have m1:=Nat.le_max_left c.dep (max d.dep e.dep);have m2:=Nat.le_max_right c.dep (max d.dep e.dep);have m3:=Nat.le_max_left d.dep e.dep;have m4:=Nat.le_max_right d.dep e.dep
  cases hv with
  |tup h t =>
    cases hu with
    |tup h' t' =>
      cases rx;cases ry;obtain⟨its,r,p,_⟩:=I.tuple h;obtain⟨its',r',p',_⟩:=I.tuple h';obtain⟨v1,v2,v3,rfl,t1,t2,t3⟩:=Ot t;obtain⟨u1,u2,u3,rfl,s1,s2,s3⟩:=Ot t';obtain⟨x1,x2,x3,rfl,r1,r2,r3⟩:=HZ r;obtain⟨y1,y2,y3,rfl,q1,q2,q3⟩:=HZ r';refine B9.tuples p p' (c.lex (A:=A.in1) I t1 s1 r1 q1 (by rw[Hs];lia) (λg=>⟨d.lex (A:=A.in1) I t2 s2 r2 q2 (by rw[Hs];lia) (λg'=>⟨e.lex (A:=A.in1) I t3 s3 r3 q3 (by rw[Hs];lia) (λg''=>⟨.nil,?_⟩) λζ=>rfl,Ng a.2 b.2 g'⟩) λg'=>Nh a.2 b.2 g',Ng a b g⟩) λg=>Nh a b g) (by lia);rw[g'',e.O.irrefl]
section
variable {X:Cx}
abbrev Eb (c:Enc):Type:=V×c.O.α
def P0 (X:Cx) (c:Enc):List V->Hp->VK->Prop:=λvs H Q=>∃(l:Addr)(zs:List (Eb c)),vs=[.ref l]/\Af X.K H l (zs.map (·.1))/\zs.length<64 /\
 (∀z∈zs,Ap X.K H z.1 (c.D z.2))/\∀(D:Addr)(zs':List (Eb c)),zs'.Perm zs->(zs'.map (·.2)).Pairwise c.O.kle->H D=none->Q (.ref D) (upd H D (.lst (zs'.map (·.1))))
theorem Tq(c:Enc)(κ:SortKind)
 (aj:∀(pins:B')(σ:St)(H:Hp)(s:Shared)(zs:List (Eb c))(g:List Value)(Q:SortKind->Shared->Prop),Inv X pins σ H s->Ay (zs.map (·.1)) g->(∀z∈zs,Ap X.K H z.1 (c.D z.2))->2<=g.length->Q κ s->wpAny (model X.prog X.w) X.A.in1.in1 (keyKind' g.toArray) Q (λζ ζ=>False) s)
 (ai:∀(pins:B')(σ:St)(H:Hp)(s:Shared)(z m:Eb c)(x y:Value)(C:Bool->Shared->Prop),Inv X pins σ H s->Ap X.K H z.1 (c.D z.2)->Ap X.K H m.1 (c.D m.2)->RelV z.1 x->RelV m.1 y->C (c.O.blt z.2 m.2) s->wpAny (model X.prog X.w) X.A.in1.in1 (keyLt' κ x y) C (λζ ζ=>False) s) :
 Bo X (.builtin "sorted") (P0 X c):=by
 intro pins s σ H vs us Q I r h;obtain⟨l,zs,rfl,L,an,v,q⟩:=h;obtain⟨u,rfl,M⟩:=F3 r;obtain rfl:u=Value.ref l:=M;obtain⟨g,p,N,_⟩:=I.list L;have J:zs.length=g.length:=by have:=p.length;rwa [Ak] at this
 let b:Eb c:=(V.non,c.dflt)
 have t:∀i,i<zs.length->RelV (zs.getD i b).1 (g.getD i Value.none)/\Ap X.K H (zs.getD i b).1 (c.D (zs.getD i b).2):=λi d=>by
  have:=Om p i V.non Value.none (by rw[Ak];exact d)
  have e:(zs.map (·.1)).getD i V.non=(zs.getD i b).1:=by
   rw[BW,AX,BW,AA d];rfl
  rw[e] at this;refine⟨this,v _ ?_⟩;rw[BW,AA d];exact DX d
 refine Ti (O:=c.O) (key:=λi=>(zs.getD i b).2) (κ:=κ) (vs:=g) N.isList (by lia) (λo w k P R=>?_) (λw k i j C d hj S=>?_) λD w n f Z A G ae T=>?_;exact aj pins σ H _ zs g P (I.kept (t':=s.toks) k) p v o R;obtain⟨U,W⟩:=t i (by lia);obtain⟨Y,b2⟩:=t j (by lia);unfold PySem.W.kas_ask;exact ai pins σ H _ _ _ _ _ C (I.kept (t':=s.toks) k) W b2 U Y S
 have af:∀i∈f,i<zs.length:=λi d=>by
  have:=G.mem_iff.mp d;rw[J];simpa using this
 have ak:(List.range zs.length).map (λi=>zs.getD i b)=zs:=by
  apply List.ext_getElem?;intro k;by_cases B:k<zs.length;simp[B,BW];simp[B]
 have K:(f.map λi=>zs.getD i b).Perm zs:=by
  have:=G.map (λi=>zs.getD i b)
  rwa [<-J,ak] at this
 have hv:Ay ((f.map λi=>zs.getD i b).map (·.1)) (f.map λi=>g.getD i Value.none):=by
  rw[EE];exact PX f λi d=>(t i (af i d)).1
 have ag:((f.map λi=>zs.getD i b).map (·.2)).Pairwise c.O.kle:=by
  refine PV (λζ ζ ζ=>KeyOrd.kle_trans) _ λi a al E o=>?_;rw[EE,AX,E8] at E o;obtain⟨x,e1,rfl⟩:=E;obtain⟨y,F,rfl⟩:=o;obtain⟨ah,_⟩:=Bh.mp F;have:=ae i ah;have aa:f.getD i 0=x:=by rw[BW,e1];rfl
  have ab:f.getD (i+1) 0=y:=by rw[BW,F];rfl
  rw[aa,ab] at this;exact this
 exact⟨.ref D,upd H D (.lst ((f.map λi=>zs.getD i b).map (·.1))),I.laidN (t':=s.toks) Z A ⟨by rw[Ak,K.length_eq];exact CQ (BL (by lia)),_,n,hv,T⟩,rfl,q D _ K ag (I.freshN A)⟩
def Tr{pins:B'}{s:Shared}{M:Model}(I:Inv X pins σ H s){a:List Dt}{x:Value}(h:Ap X.K H v (.lst a))(r:RelV v x):PySem.W.Looks M s.heap (typeOf x) (.type "list"):=by
 cases h with
 |lst h t =>
   cases r;obtain⟨d,_,p,_⟩:=I.list h;obtain⟨o,b,c,_⟩:=p.isList;rw[<-c];exact(PySem.W.Looks.ld b).andThen .now
def Zq(c:Enc)(J:X.A.units+64<cLine)(hd:c.dep<=50):Bo X (.builtin "sorted") (P0 X (EU c)):=by
 refine Tq (EU c) oneType' (λG σ H s f E Q I b g j k=>?_) λG σ H s z l x y C I h a r m n=>?_;refine PySem.W.kas_kind (T:=.type "list") j (λv o=>?_) (by decide) (by decide) k;obtain⟨i,d⟩:=List.getElem?_of_mem o;have K:=(Bh.mp d).1;have q:=b.length;rw[Ak] at q;obtain⟨x,e,w⟩:=b.get (i:=i) (x:=(f[i]'(by lia)).1) (by rw[AX,AA (by lia)];rfl);rw[d] at e;cases e;exact Tr I (g _ (DX (by lia))) w;rw[keyLt'_oneType];obtain⟨v,as⟩:=z;obtain⟨u,bs⟩:=l
 cases h with
 |lst h t =>
   cases a with
   |lst a A =>
     cases r;cases m;obtain⟨E,B,p,_⟩:=I.list h;obtain⟨L,F,D,_⟩:=I.list a;exact Wb p.isList D.isList (c.lexL I (by show _+1+1+1+_<_;lia) t A B F) (by show _+1+1<_;lia) n
theorem Ts(c:Enc){pins:B'}{σ:St}{H:Hp}{s:Shared}(I:Inv X pins σ H s){g:c.O.α->List Dt}:∀{zs:List (V×c.O.α)}{f:List Value}{k:c.O.α->List Dt},Ay (zs.map (·.1)) f->(∀z∈zs,∃b,k z.2=Dt.lst b::g z.2/\Ap X.K H z.1 (.tup (k z.2))) ->
 ∃fs,PySem.W.KatTups s.heap f fs/\fs.length=zs.length/\∀v∈fs,∃(u:V)(b:List Dt),Ap X.K H u (.lst b)/\RelV u v
 |[],_,_,.nil,_=>⟨[],.nil,rfl,λζ x=>by cases x⟩
 | z :: zs,_,k,.cons r i,h=>by
   obtain⟨fs,j,l,m⟩:=Ts c I (zs:=zs) i λy p=>h y (DW _ p);obtain⟨b,e,hd⟩:=h z B2;rw[e] at hd;obtain⟨v,a⟩:=z;dsimp only at r hd
   cases hd with
   | tup q t =>
     cases r;obtain⟨f,A,⟨o,B,C,n,D⟩,_⟩:=I.tuple q
     cases t with
     |cons E G =>
       cases A with
       |cons F J =>
         refine⟨_::fs,.cons B C D rfl j,by simp[l],λw d=>?_⟩;rcases Cc.mp d with e|d;exact⟨_,b,E,e▸F⟩;exact m w d
def Tt{A:Around}{s:Shared}{prog:Program}{w:World}{E:G'}{x y:Value}{b:Bool}{Q:Bool->Shared->Prop}(h:B9 A s x y b)(q:Q b s):wpAny (model prog w) A (oneLt' false x y) Q E s:=
 PySem.W.kat_one _ _ (h prog w E _ q)
def H0(c:Enc){pins:B'}{s:Shared}(I:Inv X pins σ H s){A:Around}{as bs:List c.O.α}{u:V}{x y:Value}{prog:Program}{w:World}{E:G'}{Q:Bool->Shared->Prop}(h:Ap X.K H v ((EU c).D as))(h':Ap X.K H u ((EU c).D bs))(r:RelV v x)(a:RelV u y)(g:A.units+(c.dep+1)<cLine)(q:Q (Fw c.O as bs) s):wpAny (model prog w) A (oneLt' true x y) Q E s:=by
 cases h with
 |lst h t =>
   cases h' with
   |lst h' b =>
     cases r;cases a;obtain⟨i,d,p,_⟩:=I.list h;obtain⟨j,f,e,_⟩:=I.list h';exact Wb p.isList e.isList (c.lexL I (by rw[Hs];lia) t b d f) (by lia) q
def Zr (c d:Enc) (hu:X.A.units + 64 < cLine) (h1:c.dep<=50) (h2:d.dep<=50):Bo X (.builtin "sorted") (P0 X (LZ (EU c) d)):=by
 refine Tq (LZ (EU c) d) (tuples' true) (λah σ H s zs Z ai I o M hl N=>?_) λah σ H s z O x aj C I h w r y a=>?_;obtain⟨fs,P,k2,Q⟩:=Ts (LZ (EU c) d) I (k:=λp=>[(EU c).D p.1,d.D p.2]) (g:=λp=>[d.D p.2]) o λz aa=>⟨_,rfl,M z aa⟩;have ab:=o.length;rw[Ak] at ab;refine PySem.W.kat_kind (T:=.type "list") P (by lia) (λv R=>?_) (by decide) N;obtain⟨u,ds,S,U⟩:=Q v R;exact Tr I S U;obtain⟨v,p⟩:=z;obtain⟨u,q⟩:=O;dsimp only at h w r y
 change C ((LZ (EU c) d).O.blt p q) s at a
 have j:X.A.in1.in1.units=X.A.units+1+1:=rfl
 cases h with
 | tup V t =>
   cases w with
   | tup ae b =>
     cases r;cases y;obtain⟨Z,e,⟨ox,af,_,n,W⟩,_⟩:=I.tuple V;obtain⟨ak,f,⟨oy,ag,_,m,Y⟩,_⟩:=I.tuple ae
     cases t with
     | cons B t=>cases t with
       | cons D t=>cases t; cases b with
         | cons E b=>cases b with
           | cons F b=>cases b; cases e with
             |cons G e=>cases e with
               |cons J e=>cases e; cases f with
                 |cons K f=>cases f with
                   |cons L f =>
                     cases f;refine PySem.W.kat_lt af W ag Y (PySem.W.kat_cons ((EU c).eq (A:=X.A.in1.in1) I B E G K (by rw[j];show _+(c.dep+1)<_;lia) _ _ _ _ ?_));by_cases i:p.1=q.1;rw[Fa i]
                     rw[show(LZ (EU c) d).O.blt p q=d.O.blt p.2 q.2 from Ng p q i] at a;refine PySem.W.kat_yes (PySem.W.kat_cons (d.eq (A:=X.A.in1.in1) I D F J L (by rw[j];lia) _ _ _ _ ?_))
                     by_cases l:p.2=q.2;rw[Fa l];refine PySem.W.kat_yes (PySem.W.kat_nil ?_);rw[l,d.O.irrefl] at a;exact a;rw[Go l];exact PySem.W.kat_no (Tt (d.lt I D F J L (by rw[j];lia)) a);rw[Go i]
                     rw[show(LZ (EU c) d).O.blt p q=Fw c.O p.1 q.1 from Nh p q i] at a;exact PySem.W.kat_no (H0 c I B E G K (by rw[j];lia) a)
def Zs (c d e:Enc) (hu:X.A.units + 64 < cLine) (h1:c.dep<=50) (h2:d.dep<=50) (h3:e.dep<=50):Bo X (.builtin "sorted") (P0 X (KR (EU c) d e)):=by
 refine Tq (KR (EU c) d e) (tuples' true) (λai σ H s zs aa aj I y S hl U=>?_) λai σ H s z V x ak C I h B r D a=>?_;obtain⟨fs,W,k2,Y⟩:=Ts (KR (EU c) d e) I (k:=λp=>[(EU c).D p.1,d.D p.2.1,e.D p.2.2]) (g:=λp=>[d.D p.2.1,e.D p.2.2]) y λz ab=>⟨_,rfl,S z ab⟩;have ae:=y.length;rw[Ak] at ae;refine PySem.W.kat_kind (T:=.type "list") W (by lia) (λv Z=>?_) (by decide) U;obtain⟨u,ds,a1,a2⟩:=Y v Z;exact Tr I a1 a2;obtain⟨v,p⟩:=z;obtain⟨u,q⟩:=V;dsimp only at h B r D
 change C ((KR (EU c) d e).O.blt p q) s at a
 have j:X.A.in1.in1.units=X.A.units+1+1:=rfl
 cases h with
 | tup hs t =>
   cases B with
   | tup af b =>
     cases r;cases D;obtain⟨aa,f,⟨ox,ag,_,n,dx⟩,_⟩:=I.tuple hs;obtain⟨al,i,⟨oy,ah,_,m,dy⟩,_⟩:=I.tuple af
     cases t with
     | cons E t=>cases t with
       | cons F t=>cases t with
         | cons G t=>cases t; cases b with
           | cons J b=>cases b with
             | cons K b=>cases b with
               | cons L b=>cases b; cases f with
                 | cons M f=>cases f with
                   | cons N f=>cases f with
                     |cons O f=>cases f; cases i with
                       |cons P i=>cases i with
                         |cons Q i=>cases i with
                           |cons R i =>
                             cases i;refine PySem.W.kat_lt ag dx ah dy (PySem.W.kat_cons ((EU c).eq (A:=X.A.in1.in1) I E J M P (by rw[j];show _+(c.dep+1)<_;lia) _ _ _ _ ?_));by_cases l:p.1=q.1;rw[Fa l]
                             rw[show(KR (EU c) d e).O.blt p q=(BQ d.O e.O).blt p.2 q.2 from Ng p q l] at a;refine PySem.W.kat_yes (PySem.W.kat_cons (d.eq (A:=X.A.in1.in1) I F K N Q (by rw[j];lia) _ _ _ _ ?_))
                             by_cases o:p.2.1=q.2.1;rw[Fa o]
                             rw[show(BQ d.O e.O).blt p.2 q.2=e.O.blt p.2.2 q.2.2 from Ng p.2 q.2 o] at a;refine PySem.W.kat_yes (PySem.W.kat_cons (e.eq (A:=X.A.in1.in1) I G L O R (by rw[j];lia) _ _ _ _ ?_))
                             by_cases w:p.2.2=q.2.2;rw[Fa w];refine PySem.W.kat_yes (PySem.W.kat_nil ?_);rw[w,e.O.irrefl] at a;exact a;rw[Go w];exact PySem.W.kat_no (Tt (e.lt I G L O R (by rw[j];lia)) a);rw[Go o]
                             rw[show(BQ d.O e.O).blt p.2 q.2=d.O.blt p.2.1 q.2.1 from Nh p.2 q.2 o] at a;exact PySem.W.kat_no (Tt (d.lt I F K N Q (by rw[j];lia)) a)
                             rw[Go l]
                             rw[show(KR (EU c) d e).O.blt p q=Fw c.O p.1 q.1 from Nh p q l] at a;exact PySem.W.kat_no (H0 c I E J M P (by rw[j];lia) a)
end
def EV:List (Str×Int)->Str->Option Int
 |[],_=>none
 |(y,n)::r,x=>if y=x then some n else EV r x
def D0:Option Int->V
 |some n=>.int n
 |none=>.non
theorem Tu:∀{gs:List (Str×Int)}{i:Nat}{p:Str×Int}{x:Str},gs[i]?=some p->p.1=x->(∀q∈gs.take i,q.1≠x)->EV gs x=some p.2
 |[],_,_,_,h,_,_=>by simp at h
 |q::r,0,p,x,h,e,_=>by
   simp at h;subst h;obtain⟨y,n⟩:=q;exact Ar e
 |q::r,i+1,p,x,h,e,k=>by
   obtain⟨y,n⟩:=q;have a:y≠x:=k (y,n) (by simp);show(if y=x then some n else EV r x)=_;rw[Ao a];exact Tu (i:=i) (by simpa using h) e λq b=>k q (by simp[b])
theorem Tv:∀{gs:List (Str×Int)}{x:Str},(∀q∈gs,q.1≠x)->EV gs x=none
 |[],_,_=>rfl
 |(y,n)::r,x,k=>by
   show(if y=x then some n else EV r x)=_;rw[Ao (k (y,n) (by simp))];exact Tv λq a=>k q (by simp[a])
theorem Tx:∀{gs:List (Str×Int)}{x:Str}{n:Int},EV gs x=some n->(x,n)∈gs
 |[],_,_,h=>by cases h
 |(y,m)::r,x,n,h=>by
   have h':(if y=x then some m else EV r x)=some n:=h
   by_cases e:y=x;rw[Ar e] at h';rw[<-e,<-BJ h'];exact B2;rw[Ao e] at h';exact DW _ (Tx h')
abbrev Aq:Type:=Int×Str×Int
abbrev Gz (m:Aq):List V:=[.int m.1,.str m.2.1,.int m.2.2]
abbrev AO:Type:=List Aq×Int×Int
structure Wd where
 ss:List Bg
 gs:List (Str×Int)
 as:List (C')
 sts:List Ce
abbrev Gn:Type:=Aq×(Str×Int)×Int
def F9 (W:Wd) (sc:Int) (go:List (Str×Int)) (p:CA) (i:Nat):List Gn:=match EV go p.1 with
 |some a=>[((sc,("step" : Str),(i:Int)),ES W.gs W.as p,a)]
 |none=>[]
def Fy (W:Wd) (sc:Int) (go:List (Str×Int)):List CA->Nat->List Gn
 |[],_=>[]
 |p::r,i=>F9 W sc go p i++Fy W sc go r (i+1)
def By (W:Wd) (sc:Int):List CA:=match W.ss[sc.toNat]? with
 |some s=>s.1
 |none=>[]
def Dv (W:Wd) (st:Int):List (Str×Int):=match W.sts[st.toNat]? with
 |some s=>s.1
 |none=>[]
def H1 (W:Wd) (sc st:Int):List Gn:=Fy W sc (Dv W st) (By W sc) 0
theorem Wi(W:Wd)(a:Int)(go:List (Str×Int))(p:CA):∀(l:List CA)(i:Nat),Fy W a go (l++[p]) i=Fy W a go l i++F9 W a go p (i+l.length)
 |[],i=>by simp[Fy]
 |q::l,i=>by
   show F9 W a go q i++Fy W a go (l++[p]) (i+1)=(F9 W a go q i++Fy W a go l (i+1))++_;rw[Wi W a go p l (i+1),FX,EG,show i+1+l.length=i+(l.length+1) by lia]
variable {W:Wd}{sc:Int}{r:Gn}
def Fz{go:List (Str×Int)}{p:CA}:r∈F9 W sc go p i↔∃a,EV go p.1=some a/\r=((sc,("step" : Str),(i:Int)),ES W.gs W.as p,a):=by
 unfold F9
 cases e:EV go p.1 with
 |none=>simp
 |some a=>simp
theorem Cf{W:Wd}{sc:Int}{go:List (Str×Int)}{r:Gn}:∀{l:List CA}{i:Nat},r∈Fy W sc go l i↔∃(j:Nat)(p:CA)(a:Int),l[j]?=some p/\EV go p.1=some a/\r=((sc,("step" : Str),((i+j:Nat):Int)),ES W.gs W.as p,a)
 |[],i=>by simp[Fy]
 | q :: l,i=>by
   show r∈F9 W sc go q i++Fy W sc go l (i+1)↔_;rw[BI,Fz,Cf (l:=l) (i:=i+1)];constructor;rintro(⟨a,b,c⟩|⟨j,p,a,b,c,d⟩);exact⟨0,q,a,rfl,b,by rw[c];rfl⟩;exact⟨j+1,p,a,by simpa using b,c,by rw[d,show i+1+j=i+(j+1) by lia]⟩;rintro⟨j,p,a,b,c,d⟩
   cases j with
   |zero =>
     simp at b;subst b;exact .inl ⟨a,c,by rw[d];rfl⟩
   |succ j=>exact .inr ⟨j,p,a,by simpa using b,c,by rw[d,show i+1+j=i+(j+1) by lia]⟩
theorem Wj(W:Wd)(sc:Int)(go:List (Str×Int)):∀(l:List CA)(i:Nat),(Fy W sc go l i).Pairwise (λr b=>r.1≠b.1)
 |[],i=>List.Pairwise.nil
 |q::l,i=>by
   show(F9 W sc go q i++Fy W sc go l (i+1)).Pairwise _;refine List.pairwise_append.mpr ⟨?_,Wj W sc go l (i+1),λr c b d e=>?_⟩;unfold F9;split;exact List.pairwise_singleton _ _;exact List.Pairwise.nil;obtain⟨a,_,rfl⟩:=Fz.mp c;obtain⟨j,p,f,_,_,rfl⟩:=Cf.mp d;have:=BB (λm:Aq=>m.2.2) e;simp only at this;lia
theorem L0(W:Wd)(sc:Int)(go:List (Str×Int)):∀(l:List CA)(i:Nat),(Fy W sc go l i).length<=l.length
 |[],i=>AI _
 |q::l,i=>by
   show(F9 W sc go q i++Fy W sc go l (i+1)).length<=_;have a:(F9 W sc go q i).length<=1:=by unfold F9;split<;>simp
   have b:=L0 W sc go l (i+1);rw[AQ,EG];lia
def Zt{go:List (Str×Int)}{l:List CA}{b:Gn}(h:r∈Fy W sc go l i)(h':b∈Fy W sc go l i)(e:r.1=b.1):r=b:=by
 obtain⟨j,p,a,f,g,rfl⟩:=Cf.mp h;obtain⟨k,o,q,c,d,rfl⟩:=Cf.mp h';have:=BB (λm:Aq=>m.2.2) e;simp only at this;have n:j=k:=(by lia);subst n;rw[f] at c;cases c;rw[g] at d;cases d;rfl
def AM (b:AO):List Int:=b.1.map (·.1)++[b.2.1]
def kid (b:AO) (r:Gn):Option AO:=if r.2.1.1=("to" : Str)/\r.2.1.2∉AM b then some (b.1++[r.1],r.2.1.2,r.2.2) else none
def C8 (W:Wd) (b:AO):List AO:=(H1 W b.2.1 b.2.2).filterMap (kid b)
variable {b:AO}
set_option tactic.hygienic true in
def Bv{c:AO}:c∈C8 W b↔∃r∈H1 W b.2.1 b.2.2,r.2.1.1=("to" : Str)/\r.2.1.2∉AM b/\c=(b.1++[r.1],r.2.1.2,r.2.2):=by
 unfold C8 kid;rw[List.mem_filterMap];constructor;rintro⟨r,a,e⟩;split at e;rename_i h;exact⟨r,a,h.1,h.2,(BJ e).symm⟩;cases e;rintro⟨r,a,d,f,e⟩;exact⟨r,a,by rw[Ar ⟨d,f⟩,e]⟩
def Wk(W:Wd)(b:AO):(C8 W b).length<=(By W b.2.1).length:=EN (List.length_filterMap_le _ _) (L0 _ _ _ _ _)
def JN(W:Wd)(b:AO):(C8 W b).Nodup:=by
 refine List.Pairwise.filterMap (kid b) (λr g f c a h d e=>?_) (Wj W b.2.1 (Dv W b.2.2) (By W b.2.1) 0);unfold kid at a d;split at a;split at d;cases a;cases d;have:=BB Prod.fst e;simp only at this;have:=(List.append_inj' this rfl).2;exact f (by simpa using this);cases d;cases a
inductive BO (W:Wd) (sc st:Int):AO->Prop where
 |root:BO W sc st ([],sc,st)
 |kid {b c:AO} (h:BO W sc st b) (k:c∈C8 W b):BO W sc st c
structure Ck (W:Wd):Prop where
 s5:W.ss.length<=100
 st:∀s∈W.ss,s.1.length<=8
 kst:∀s∈W.ss,∀p∈s.1,F6 W.ss.length W.as.length p
 kth:∀p∈W.gs,F5 W.ss.length W.as.length p
 an:∀p,some p∈W.as->p.1=("thing" : Str)->0<=p.2/\p.2<W.gs.length
 go:∀s∈W.sts,∀p∈s.1,0<=p.2/\p.2<W.sts.length
 few:∀(sc st:Int)(F:List AO),(0<=sc/\sc<W.ss.length)->(0<=st/\st<W.sts.length)->F.Nodup->(∀b∈F,BO W sc st b)->F.length<=62
def Ck.net(h:Ck W):GJ W.gs W.as:=⟨λp b e=>by
 rcases h.kth p b with⟨a,_⟩|⟨a,_⟩|⟨_,c⟩;rw[e] at a;exact absurd a (by decide +kernel);rw[e] at a;exact absurd a (by decide +kernel)
 exact c,h.an⟩
def Ck.by_(h:Ck W)(a:s∈W.ss){p:CA}(b:p∈s.1)(c:p.2.1≠("to" : Str)):0<=p.2.2/\p.2.2<W.as.length:=by
 rcases h.kst s a p b with⟨e,_⟩|⟨_,e⟩;exact absurd e c;exact e
def Gp:(("no" : Str),(0:Int)).1≠("to" : Str):=by decide +kernel
def P1:("open" : Str)≠("to" : Str):=by decide +kernel
def Wl(h:Ck W){k:Str×Int}(c:k∈W.gs)(b:k.1=("part" : Str)):0<=k.2/\k.2<W.ss.length:=by
 rcases h.kth k c with⟨a,_⟩|⟨_,d⟩|⟨a,_⟩;rw[b] at a;exact absurd a (by decide +kernel);exact d;rw[b] at a;exact absurd a (by decide +kernel)
variable {g:Str×Int}
set_option tactic.hygienic true in
def Zu(h:Ck W){q:Int}(e:ER W.gs W.as q=g)(a:g.1=("to" : Str)):0<=g.2/\g.2<W.ss.length:=by
 unfold ER at e;split at e;split at e;split at e;rename_i k b;split at e;rename_i c;subst e;exact Wl (k:=k) h (Bc b) c;subst e;exact absurd a Gp;subst e;exact absurd a Gp;subst e;exact absurd a Gp;subst e;exact absurd a P1;subst e;exact absurd a Gp
set_option tactic.hygienic true in
def P2(h:Ck W)(b:p∈W.gs)(e:Ei W.gs W.as p=g)(a:g.1=("to" : Str)):0<=g.2/\g.2<W.ss.length:=by
 unfold Ei at e;split at e;rename_i c;subst e;exact Wl (k:=p) h b c;split at e;exact Zu h e a;subst e;exact absurd a Gp
set_option tactic.hygienic true in
def Zv(h:Ck W)(c:s∈W.ss){p:CA}(d:p∈s.1)(e:ES W.gs W.as p=g)(a:g.1=("to" : Str)):0<=g.2/\g.2<W.ss.length:=by
 unfold ES at e;split at e;rename_i j;subst e;rcases h.kst s c p d with⟨_,f⟩|⟨b,_⟩;exact f;rw[j] at b;exact absurd b (by decide +kernel);split at e;split at e;split at e;rename_i k i;exact P2 h (Bc i) e a;subst e;exact absurd a Gp;subst e;exact absurd a Gp;subst e;exact absurd a P1;subst e;exact absurd a Gp
structure BX (W:Wd) (b:AO):Prop where
 nd:(AM b).Nodup
 rng:∀x∈AM b,0<=x/\x<W.ss.length
 st:0<=b.2.2/\b.2.2<W.sts.length
set_option tactic.hygienic true in
def Wm{p:CA}(h:p∈By W sc):∃s∈W.ss,p∈s.1:=by
 unfold By at h;split at h;rename_i s a;exact⟨s,Bc a,h⟩;cases h
variable {st:Int}
set_option tactic.hygienic true in
def Wn(h:p∈Dv W st):∃s∈W.sts,p∈s.1:=by
 unfold Dv at h;split at h;rename_i s a;exact⟨s,Bc a,h⟩;cases h
def Ou(h:r∈H1 W sc st):∃(j:Nat)(p:CA)(a:Int),(By W sc)[j]?=some p/\EV (Dv W st) p.1=some a/\r=((sc,("step" : Str),(j:Int)),ES W.gs W.as p,a):=by
 obtain⟨j,p,a,b,c,d⟩:=Cf.mp h;exact⟨j,p,a,b,c,by rw[d,Nat.zero_add]⟩
def Wo(h:r∈H1 W b.2.1 b.2.2):AM (b.1++[r.1],r.2.1.2,r.2.2)=AM b++[r.2.1.2]:=by
 obtain⟨j,p,a,_,_,rfl⟩:=Ou h;unfold AM
 simp
def BX.kid(ok:Ck W){c:AO}(h:BX W b)(k:c∈C8 W b):BX W c:=by
 obtain⟨r,e,g,i,rfl⟩:=Bv.mp k;have f:=Wo e;obtain⟨j,p,a,l,m,rfl⟩:=Ou e;obtain⟨s,n,o⟩:=Wm (Bc l);refine⟨?_,?_,?_⟩;rw[f,List.nodup_append]
 exact⟨h.nd,by simp,λx d y q=>by
  rw[A7.mp q]
  exact λz=>i (z▸d)⟩
 rw[f];intro x d;rcases BI.mp d with d|d;exact h.rng x d;rw[A7.mp d];exact Zv ok n o rfl g;obtain⟨t,u,v⟩:=Wn (Tx m);exact ok.go t u _ v
def BO.ok{W:Wd}(ok:Ck W){sc st:Int}(d:0<=sc/\sc<W.ss.length)(e:0<=st/\st<W.sts.length){b:AO}(h:BO W sc st b):BX W b:=by
 induction h with
 |root=>exact⟨by simp[AM],λx a=>by simp[AM] at a;rw[a];exact d,e⟩
 |kid _ k c=>exact c.kid ok k
def BO.uniq(h:BO W sc st b):∀{c:AO},BO W sc st c->b.1=c.1->b=c:=by
 induction h with
 |root =>
   intro c a e
   cases a with
   |root=>rfl
   |kid _ k =>
     obtain⟨r,_,_,_,rfl⟩:=Bv.mp k;simp at e
 |@kid o p q k d =>
   intro c a e;obtain⟨r,f,s,t,rfl⟩:=Bv.mp k
   cases a with
   |root=>simp at e
   |@kid u _ m g =>
     obtain⟨v,n,w,x,rfl⟩:=Bv.mp g;simp only at e;obtain⟨i,j⟩:=List.append_inj' e rfl;have l:=d m i;subst l;have:=Zt f n (by simpa using j);subst this;rfl
theorem KS:∀(n:Nat)(l:List Int),l.Nodup->(∀x∈l,0<=x/\x<(n:Int))->l.length<=n
 |0,[],_,_=>AI _
 |0,x::l,_,h=>by have:=h x B2;lia
 |n+1,l,b,h=>by
   have e:(l.erase (n:Int)).Nodup:=b.erase _
   have c:∀x∈l.erase (n:Int),0<=x/\x<(n:Int):=λx d=>by
    obtain⟨f,a⟩:=(b.mem_erase_iff).mp d;have:=h x a;lia
   have:=KS n _ e c
   have g:l.length<=(l.erase (n:Int)).length+1:=by
    by_cases a:(n:Int)∈l;rw[List.length_erase_of_mem a];lia;rw[List.erase_of_not_mem a];lia
   lia
set_option tactic.hygienic true in
def P4(ok:Ck W)(sc:Int):(By W sc).length<=8:=by
 unfold By;split;rename_i s a;exact ok.st s (Bc a);exact CO _
structure G8 (W:Wd) (sc st:Int) (F:List AO) (p:Nat):Prop where
 root:([],sc,st)∈F
 is:∀b∈F,BO W sc st b
 nd:F.Nodup
 done:∀(j:Nat)(b:AO),j<p->F[j]?=some b->∀c∈C8 W b,c∈F
 src:∀c∈F,c=([],sc,st)\/∃(j:Nat)(b:AO),j<p/\F[j]?=some b/\c∈C8 W b
 le:p<=F.length
def G8.start(W:Wd)(sc st:Int):G8 W sc st [([],sc,st)] 0 where
 root:=B2
 is b a:=by rw[A7.mp a];exact .root
 nd:=by simp
 done j b e:=by lia
 src c d:=.inl (A7.mp d)
 le:=CO _
def G8.turn{F:List AO}{p:Nat}(h:G8 W sc st F p)(g:F[p]?=some b):G8 W sc st (F++C8 W b) (p+1):=by
 have x:p<F.length:=(Bh.mp g).1;have y:=Bc g;have q:=h.is b y;have o:∀(j:Nat),j<F.length->(F++C8 W b)[j]?=F[j]?:=λj f=>Ft f
 have one:∀(j:Nat)(c:AO),j<p+1->(F++C8 W b)[j]?=some c->(j<p/\F[j]?=some c)\/c=b:=λj c f e=>by
  rw[o j (by lia)] at e;by_cases z:j<p;exact .inl ⟨z,e⟩;have:j=p:=(by lia);subst this;rw[g] at e;exact .inr (BJ e).symm
 refine⟨GW _ h.root,λc a=>?_,?_,λj c f e d hd=>?_,λc a=>?_,by rw[AQ];lia⟩;rcases BI.mp a with a|a;exact h.is c a;exact .kid q a;refine List.nodup_append.mpr ⟨h.nd,JN W b,λc a d hd e=>?_⟩;subst e;obtain⟨r,C,_,_,l⟩:=Bv.mp hd;rcases h.src c a with m|⟨j,i,f,k,n⟩;rw[m] at l;have:=BB Prod.fst l;simp at this;obtain⟨D,H,_,_,A⟩:=Bv.mp n
 have s:i.1=b.1:=by
  have:=BB Prod.fst (A.symm.trans l);simp only at this;exact(List.append_inj' this rfl).1
 have t:=(h.is i (Bc k)).uniq q s;subst t;obtain⟨E,u⟩:=Bh.mp k;obtain⟨G,v⟩:=Bh.mp g;have:=(List.getElem_inj h.nd).mp (u.trans v.symm);lia;rcases one j c f e with⟨B,w⟩|rfl;exact GW _ (h.done j c B w d hd);exact Ev _ hd;rcases BI.mp a with a|a;rcases h.src c a with m|⟨j,i,f,k,n⟩;exact .inl m;exact .inr ⟨j,i,by lia,by rw[o j (by lia)];exact k,n⟩;exact .inr ⟨p,b,by lia,by rw[o p x];exact g,a⟩
def G8.few{W:Wd}(ok:Ck W){sc st:Int}(a:0<=sc/\sc<W.ss.length)(b:0<=st/\st<W.sts.length){F:List AO}{p:Nat}(h:G8 W sc st F p):F.length<=62:=ok.few sc st F a b h.nd h.is
abbrev L1:Enc:=KR F8 Tp F8
abbrev Ec:Enc:=KR (EU L1) F8 F8
structure C9 (W:Wd) (sc st:Int) (bs:List AO):Prop where
 mem:∀b,b∈bs↔BO W sc st b
 nd:bs.Nodup
 srt:bs.Pairwise Ec.O.kle
 few:bs.length<=62
def C9.uniq{l m:List AO}(h:C9 W sc st l)(k:C9 W sc st m):l=m:=
 Nf (O:=Ec.O) ((List.perm_ext_iff_of_nodup h.nd k.nd).mpr λb=>(h.mem b).trans (k.mem b).symm) h.srt k.srt
def G8.all(ok:Ck W)(g:0<=sc/\sc<W.ss.length)(i:0<=st/\st<W.sts.length){F l:List AO}(h:G8 W sc st F F.length)(a:l.Perm F)(d:l.Pairwise Ec.O.kle):C9 W sc st l:=by
 refine⟨λb=>?_,a.nodup_iff.mpr h.nd,d,by rw[a.length_eq];exact h.few ok g i⟩;rw[a.mem_iff];refine⟨h.is b,λe=>?_⟩
 induction e with
 |root=>exact h.root
 |kid _ k f =>
   obtain⟨j,c⟩:=List.getElem?_of_mem f;exact h.done j _ (Bh.mp c).1 c _ k
def Dl (F:Addr->Prop) (H:Hp) (t:Addr) (b:AO):Prop:=∃(l:Addr)(ms:List Addr),H t=some (.tup [.ref l,.int b.2.1,.int b.2.2])/\H l=some (.lst (ms.map V.ref))/\RT Gz H ms b.1/\F l
def Dl.same{F:Addr->Prop}{H H':Hp}{t:Addr}{b:AO}(e:Ac H H')(h:Dl F H t b):Dl F H' t b:=by
 obtain⟨l,a,c,d,f,g⟩:=h;exact⟨l,a,e _ _ c,e _ _ d,f.same e,g⟩
def Dl.mono{G:Addr->Prop}{t:Addr}(e:∀x,F x->G x)(h:Dl F H t b):Dl G H t b:=by
 obtain⟨l,a,c,d,f,g⟩:=h;exact⟨l,a,c,d,f,e _ g⟩
def Dl.keeps{M F:Addr->Prop}{H H':Hp}{t:Addr}{b:AO}(k:Keeps M H H')(c:∀x,F x->¬M x)(h:Dl F H t b):Dl F H' t b:=by
 obtain⟨l,d,e,f,g,a⟩:=h;exact⟨l,d,k.tup e,k.at_ _ _ f (c _ a),g.keeps k,a⟩
abbrev IU (m:Aq):Dt:=.tup [.int m.1,.str m.2.1,.int m.2.2]
def Ov{K:Aj}(r:Aq)(t:Addr)(h:H t=some (.tup (Gz r))):Ap K H (.ref t) (IU r):=.tup (Al.of h) (.cons (.int _) (.cons (.str _) (.cons (.int _) .nil)))
def Dl.dt{K:Aj}{t:Addr}(h:Dl F H t b):Ap K H (.ref t) (Ec.D b):=by
 obtain⟨l,e,a,c,d,f⟩:=h;exact .tup (Al.of a) (.cons (.lst (Af.of c) (d.dts Ov)) (.cons (.int _) (.cons (.int _) .nil)))
def KU (H:Hp) (t:Addr) (r:Gn):Prop:=∃m,H t=some (.tup [.ref m,.str r.2.1.1,.int r.2.1.2,.int r.2.2])/\H m=some (.tup (Gz r.1))
def KU.same{t:Addr}(e:Ac H H')(h:KU H t r):KU H' t r:=by
 obtain⟨m,a,b⟩:=h;exact⟨m,e _ _ a,e _ _ b⟩
def KU.keeps{t:Addr}(k:Keeps M H H')(h:KU H t r):KU H' t r:=by
 obtain⟨m,a,b⟩:=h;exact⟨m,k.tup a,k.tup b⟩
structure A1 (K:Aj) (H:Hp) (nt A t:Addr) (W:Wd):Prop where
 net:∃(S T R:Addr)(us Gs Es ts qt:List Addr)(qs:List Qu),H nt=some (.tup [.ref S,.ref T,.ref R])/\F7 H S T R us Gs Es ts qt W.ss W.gs qs
 ans:HW K H A W.as
 tab:∃(a o:Addr)(inn:V),Al K H t [.ref a,inn,.ref o]/\G6 K H a W.sts
def A1.same{K:Aj}{H H':Hp}{b A t:Addr}{W:Wd}(e:Ac H H')(h:A1 K H b A t W):A1 K H' b A t W:=by
 obtain⟨S,T,R,us,Gs,Es,ts,c,qs,d,f⟩:=h.net;obtain⟨a,o,k,g,vs,i,j⟩:=h.tab;exact⟨⟨S,T,R,us,Gs,Es,ts,c,qs,e _ _ d,f.same e⟩,h.ans.same e,⟨a,o,k,e.seqT g,vs,e.seq i,j.same e⟩⟩
def Dl.mono'{G:Addr->Prop}{t:Addr}(e:∀x o,H x=some o->F x->G x)(h:Dl F H t b):Dl G H t b:=by
 obtain⟨l,c,d,a,f,g⟩:=h;exact⟨l,c,d,a,f,e _ _ a g⟩
theorem Wp{H:Hp}:∀{ts:List Addr}{ps:A'},Cd H ts ps->∃zs:List (Row Fl Fl),zs.map (·.1)=ts.map V.ref/\zs.map (·.2)=ps/\∀z∈zs,∃t,z.1=.ref t/\H t=some (.tup [.str z.2.1,.str z.2.2])
 |[],[],_=>⟨[],rfl,rfl,λz hz=>by cases hz⟩
 |[],_::_,h=>by have:=h.len;simp at this
 |_::_,[],h=>by have:=h.len;simp at this
 |a::ts,p::ps,h=>by
   obtain⟨zs,b,c,d⟩:=Wp (ts:=ts) (ps:=ps) ⟨by simpa using h.len,λn t p f g=>h.at_ (n+1) t p (by simpa using f) (by simpa using g)⟩;refine⟨(V.ref a,p)::zs,by rw[Ew,b];rfl,by rw[Ew,c],λz hz=>?_⟩;rcases Cc.mp hz with e|hz;rw[e];exact⟨a,rfl,h.at_ 0 a p rfl rfl⟩;exact d z hz
theorem Wq{H:Hp}:∀{zs:List (Row Fl Fl)},(∀z∈zs,∃t,z.1=.ref t/\H t=some (.tup [.str z.2.1,.str z.2.2]))->∃ts:List Addr,zs.map (·.1)=ts.map V.ref/\Cd H ts (zs.map (·.2))
 |[],_=>⟨[],rfl,Cd.nil⟩
 |z::zs,h=>by
   obtain⟨ts,d,c⟩:=Wq (zs:=zs) λy f=>h y (DW _ f);obtain⟨t,e,g⟩:=h z B2;refine⟨t::ts,by rw[Ew,d,e];rfl,by simp[c.len],λn u p a b=>?_⟩
   cases n with
   |zero=>simp at a b;subst a;subst b;exact g
   |succ n=>exact c.at_ n u p (by simpa using a) (by simpa using b)
def FO.caseT{K:Aj}{t:Addr}{n:Int}{ord:A'}(h:FO K F H t rs n ord):∃(a o:Addr)(e:V),Al K H t [.ref a,e,.ref o]/\G6 K H a rs:=by
 obtain⟨a,o,us,ts,b,_,_,_,c,d,_⟩:=h.ex;exact⟨a,o,_,Al.of b,d.stts c⟩
def GK{x:Int}{l:List Int}:Dt.int x∈l.map Dt.int↔x∈l:=⟨λh=>by
 obtain⟨y,a,z⟩:=AN.mp h
 rw[<-Dt.int.inj z];exact a,λh=>AN.mpr ⟨x,h,rfl⟩⟩
theorem Ni{K:Aj}{H:Hp}:∀(l:List Int),Ai K H (l.map V.int) (l.map Dt.int)
 |[]=>.nil
 |x::l=>.cons (.int x) (Ni l)
def Tz(xs:List α)(x:α):Bi (xs++[x]) (-1)=some x:=by
 have e:HG (xs++[x]).length (-1)=some xs.length:=by
  unfold HG;rw[Ao (by decide),Ar (by rw[AQ,Ef];lia),AQ,Ef];congr 1;lia
 unfold Bi;rw[e];show(xs++[x])[xs.length]?=some x
 simp
abbrev Ox (sts:List Ce) (inn:Int) (ord:A'):Dt:=.tup [.lst (sts.map JH),.int inn,.lst (ord.map Nc)]
def JO(s r:Ce):Dk 4 (JH s) (JH r):=by
 refine .tup (.cons (.lst (Bx.of λd hd e a=>?_)) (.cons (.lst (Bx.of λd hd e a=>?_)) (.nil _)));obtain⟨p,_,rfl⟩:=AN.mp hd;obtain⟨q,_,rfl⟩:=AN.mp a;exact To p q;obtain⟨p,_,rfl⟩:=AN.mp hd;obtain⟨q,_,rfl⟩:=AN.mp a;exact .str _ _
def Zw(s r:List Ce)(m n:Int)(o u:A'):Dk 6 (Ox s m o) (Ox r n u):=by
 refine .tup (.cons (.lst (Bx.of λd hd e a=>?_)) (.cons (.int _ _) (.cons (.lst (Bx.of λd hd e a=>?_)) (.nil _))));obtain⟨p,_,rfl⟩:=AN.mp hd;obtain⟨q,_,rfl⟩:=AN.mp a;exact JO p q;obtain⟨p,_,rfl⟩:=AN.mp hd;obtain⟨q,_,rfl⟩:=AN.mp a;exact .tup (.cons (.str _ _) (.cons (.str _ _) (.nil _)))
def FO.dt{K:Aj}{t:Addr}{b:List Ce}{c:Int}{ord:A'}(h:FO K F H t b c ord):Ap K H (.ref t) (Ox b c ord):=by
 obtain⟨a,o,us,ts,d,_,_,_,e,f,g,TO⟩:=h.ex;exact .tup (Al.of d) (.cons (.lst (Af.of e) f.dts) (.cons (.int _) (.cons (.lst (Af.of g) TO.dts) .nil)))
def Zx(x y:C'):Dk 2 (Du x) (Du y):=by
 cases x with
 |none=>cases y with
   |none=>exact .non
   |some q=>exact .apart rfl
 |some p=>cases y with
   |none=>exact .apart rfl
   |some q=>exact To p q
def Zy(l m:List (C')):Dk 3 (Dt.lst (l.map Du)) (Dt.lst (m.map Du)):=.lst (Bx.of λd hd e a=>by
 obtain⟨b,_,rfl⟩:=AN.mp hd;obtain⟨c,_,rfl⟩:=AN.mp a
 exact Zx b c)
abbrev Dc:Enc:=EU L1
def GL (W:Wd) (sc:Int):List DZ:=match W.ss[sc.toNat]? with
 |some s=>s.2
 |none=>[]
def IV (W:Wd) (st:Int):List Str:=match W.sts[st.toNat]? with
 |some s=>s.2
 |none=>[]
def GN (W:Wd) (b:AO) (x:Str) (q:DZ) (i:Nat):List (List Aq):=if q.2.1=x/\q.1∈IV W b.2.2 then[b.1++[(b.2.1,("told" : Str),(i:Int))]] else[]
def Fb (W:Wd) (b:AO) (x:Str):List DZ->Nat->List (List Aq)
 |[],_=>[]
 |q::r,i=>GN W b x q i++Fb W b x r (i+1)
def Fc (W:Wd) (x:Str) (bs:List AO):List (List Aq):=bs.flatMap λb=>Fb W b x (GL W b.2.1) 0
theorem Wr(W:Wd)(b:AO)(x:Str)(q:DZ):∀(l:List DZ)(i:Nat),Fb W b x (l++[q]) i=Fb W b x l i++GN W b x q (i+l.length)
 |[],i=>by simp[Fb]
 |p::l,i=>by
   show GN W b x p i++Fb W b x (l++[q]) (i+1)=(GN W b x p i++Fb W b x l (i+1))++_;rw[Wr W b x q l (i+1),FX,EG,show i+1+l.length=i+(l.length+1) by lia]
theorem Wu(W:Wd)(b:AO)(x:Str):∀(l:List DZ)(i:Nat),(Fb W b x l i).length<=l.length
 |[],i=>AI _
 |q::l,i=>by
   show(GN W b x q i++Fb W b x l (i+1)).length<=_;have a:(GN W b x q i).length<=1:=by unfold GN;split<;>simp
   have c:=Wu W b x l (i+1);rw[AQ,EG];lia
set_option tactic.hygienic true in
theorem Wv{W:Wd}{b:AO}{x:Str}{w:List Aq}:∀{l:List DZ}{i:Nat},w∈Fb W b x l i->∃(j:Nat)(q:DZ),l[j]?=some q/\q.2.1=x/\q.1∈IV W b.2.2/\w=b.1++[(b.2.1,("told" : Str),((i+j:Nat):Int))]
 |[],i,h=>by cases h
 |q::l,i,h=>by
   rcases BI.mp (show w∈GN W b x q i++Fb W b x l (i+1) from h) with h|h
   unfold GN at h;split at h;rename_i a;exact⟨0,q,rfl,a.1,a.2,A7.mp h⟩;cases h;obtain⟨j,c,d,e,f,g⟩:=Wv h;exact⟨j+1,c,by simpa using d,e,f,by rw[g,show i+1+j=i+(j+1) by lia]⟩
def Ww{bs:List AO}{w:List Aq}(h:w∈Fc W x bs):∃b∈bs,∃(j:Nat)(q:DZ),(GL W b.2.1)[j]?=some q/\q.2.1=x/\q.1∈IV W b.2.2/\w=b.1++[(b.2.1,("told" : Str),(j:Int))]:=by
 obtain⟨b,a,c⟩:=List.mem_flatMap.mp h;obtain⟨j,q,d,e,f,g⟩:=Wv c;exact⟨b,a,j,q,d,e,f,by rw[g,Nat.zero_add]⟩
theorem TD{α:Type}{f:AO->List α}{k:Nat}:∀(bs:List AO),(∀b,(f b).length<=k)->(bs.flatMap f).length<=bs.length*k
 |[],_=>by simp
 |b::bs,h=>by
   rw[List.flatMap_cons,AQ,EG,Nat.succ_mul];have:=h b;have:=TD bs h;lia
structure L3 (W:Wd) (x:Str) (bs:List AO) (ws:List (List Aq)):Prop where
 perm:ws.Perm (Fc W x bs)
 srt:ws.Pairwise Dc.O.kle
def L3.uniq{bs:List AO}{l m:List (List Aq)}(h:L3 W x bs l)(k:L3 W x bs m):l=m:=Nf (O:=Dc.O) (h.perm.trans k.perm.symm) h.srt k.srt
def Cn (F:Addr->Prop) (H:Hp) (l:Addr) (w:List Aq):Prop:=∃ms:List Addr,H l=some (.lst (ms.map V.ref))/\RT Gz H ms w/\F l
def Cn.same{F:Addr->Prop}{H H':Hp}{t:Addr}{b:List Aq}(e:Ac H H')(h:Cn F H t b):Cn F H' t b:=by
 obtain⟨a,c,d,f⟩:=h;exact⟨a,e _ _ c,d.same e,f⟩
def Cn.mono'{G:Addr->Prop}{t:Addr}{b:List Aq}(e:∀x o,H x=some o->F x->G x)(h:Cn F H t b):Cn G H t b:=by
 obtain⟨c,a,d,f⟩:=h;exact⟨c,a,d,e _ _ a f⟩
def Cn.keeps{M F:Addr->Prop}{H H':Hp}{t:Addr}{b:List Aq}(k:Keeps M H H')(c:∀x,F x->¬M x)(h:Cn F H t b):Cn F H' t b:=by
 obtain⟨d,e,f,a⟩:=h;exact⟨d,k.at_ _ _ e (c _ a),f.keeps k,a⟩
def Cn.dt{K:Aj}{t:Addr}{b:List Aq}(h:Cn F H t b):Ap K H (.ref t) (Dc.D b):=by
 obtain⟨d,a,c,_⟩:=h;exact .lst (Af.of a) (c.dts Ov)
def Wx{c:Enc}{zs:List (Addr×c.O.α)}{d:List (Eb c)}(a:d.Perm (zs.map λz=>((V.ref z.1,z.2):Eb c))) :
 ∃ws:List (Addr×c.O.α),d.map (·.1)=(ws.map λz=>V.ref z.1)/\d.map (·.2)=ws.map (·.2)/\(ws.map (·.2)).Perm (zs.map (·.2))/\∀z∈ws,z∈zs:=by
 have:∀{l:List (Eb c)},(∀y∈l,y∈zs.map λz=>((V.ref z.1,z.2):Eb c))->∃ws:List (Addr×c.O.α),l=ws.map λz=>(V.ref z.1,z.2):=by
  intro l
  induction l with
  |nil=>exact λζ=>⟨[],rfl⟩
  |cons y l f =>
    intro h;obtain⟨ws,rfl⟩:=f λz g=>h z (DW _ g);obtain⟨z,_,rfl⟩:=AN.mp (h y B2);exact⟨z::ws,rfl⟩
 obtain⟨ws,rfl⟩:=this λy b=>a.mem_iff.mp b;refine⟨ws,by rw[EE];rfl,by rw[EE];rfl,?_,λz k=>?_⟩;have:=a.map (·.2);rw[EE,EE] at this;exact this;have:=a.mem_iff.mp (AN.mpr ⟨z,k,rfl⟩);obtain⟨y,b,e⟩:=AN.mp this;injection e with i j;have:y=z:=Prod.ext (V.ref.inj i) j;rw[<-this];exact b
abbrev P5:Enc:=LZ (EU L1) F8
abbrev Ow:Type:=List Aq×Int
def ow (b:AO) (r:Gn):Option Ow:=if r.2.1.1=("open" : Str) then some (b.1++[r.1],r.2.1.2) else none
def G9 (W:Wd) (bs:List AO):List Ow:=bs.flatMap λb=>(H1 W b.2.1 b.2.2).filterMap (ow b)
set_option tactic.hygienic true in
def Zz{bs:List AO}{w:Ow}(h:w∈G9 W bs):∃b∈bs,∃(j:Nat)(p:CA)(a:Int),(By W b.2.1)[j]?=some p/\EV (Dv W b.2.2) p.1=some a/\(ES W.gs W.as p).1=("open" : Str)/\w=(b.1++[(b.2.1,("step" : Str),(j:Int))],(ES W.gs W.as p).2):=by
 obtain⟨b,c,d⟩:=List.mem_flatMap.mp h;obtain⟨r,f,e⟩:=List.mem_filterMap.mp d;obtain⟨j,p,a,g,i,rfl⟩:=Ou f;unfold ow at e;split at e;rename_i k;exact⟨b,c,j,p,a,g,i,k,(BJ e).symm⟩;cases e
structure Nj (W:Wd) (bs:List AO) (ws:List Ow):Prop where
 perm:ws.Perm (G9 W bs)
 srt:ws.Pairwise P5.O.kle
def Nj.uniq{bs:List AO}{l m:List Ow}(h:Nj W bs l)(k:Nj W bs m):l=m:=Nf (O:=P5.O) (h.perm.trans k.perm.symm) h.srt k.srt
def FA (F:Addr->Prop) (H:Hp) (t:Addr) (p:Ow):Prop:=∃(l:Addr)(ms:List Addr),H t=some (.tup [.ref l,.int p.2])/\H l=some (.lst (ms.map V.ref))/\RT Gz H ms p.1/\F l
def FA.same{F:Addr->Prop}{H H':Hp}{t:Addr}{b:Ow}(e:Ac H H')(h:FA F H t b):FA F H' t b:=by
 obtain⟨l,a,c,d,f,g⟩:=h;exact⟨l,a,e _ _ c,e _ _ d,f.same e,g⟩
def FA.mono'{G:Addr->Prop}{t:Addr}{b:Ow}(e:∀x o,H x=some o->F x->G x)(h:FA F H t b):FA G H t b:=by
 obtain⟨l,c,d,a,f,g⟩:=h;exact⟨l,c,d,a,f,e _ _ a g⟩
def FA.keeps{M F:Addr->Prop}{H H':Hp}{t:Addr}{b:Ow}(k:Keeps M H H')(c:∀x,F x->¬M x)(h:FA F H t b):FA F H' t b:=by
 obtain⟨l,d,e,f,g,a⟩:=h;exact⟨l,d,k.tup e,k.at_ _ _ f (c _ a),g.keeps k,a⟩
def FA.dt{K:Aj}{t:Addr}{b:Ow}(h:FA F H t b):Ap K H (.ref t) (P5.D b):=by
 obtain⟨l,e,a,c,d,_⟩:=h;exact .tup (Al.of a) (.cons (.lst (Af.of c) (d.dts Ov)) (.cons (.int _) .nil))
def ZA{bs:List AO}(h:bs[i]?=some b):G9 W (bs.take (i+1))=G9 W (bs.take i)++(H1 W b.2.1 b.2.2).filterMap (ow b):=by
 rw[D7,h];show(bs.take i++[b]).flatMap _=_;rw[List.flatMap_append];simp[G9]
def L4{β:Type}(f:α->Option β)(l:List α)(x:α):(l++[x]).filterMap f=l.filterMap f++(f x).toList:=by
 rw[List.filterMap_append];cases e:f x<;>simp[e]
def JP(h:r.2.1.1=("open" : Str)):ow b r=some (b.1++[r.1],r.2.1.2):=Ar h
def JQ(h:r.2.1.1≠("open" : Str)):ow b r=none:=Ao h
structure Bz (W:Wd):Prop where
 tl:∀s∈W.ss,∀p∈s.2,ET W.gs.length W.as.length p
 fnd:∀(x:Str)(sc st:Int)(bs:List AO),(0<=sc/\sc<W.ss.length)->(0<=st/\st<W.sts.length)->C9 W sc st bs->(Fc W x bs).length<=62
 owd:∀(sc st:Int)(bs:List AO),(0<=sc/\sc<W.ss.length)->(0<=st/\st<W.sts.length)->C9 W sc st bs->(G9 W bs).length<=62
def EH (ss:List Bg) (m:Aq):Str:=match ss[m.1.toNat]? with
 |some s=>if m.2.1=("step" : Str) then(match s.1[m.2.2.toNat]? with
   |some p=>p.1
   |none=>default) else(match s.2[m.2.2.toNat]? with
   |some p=>p.1
   |none=>default)
 |none=>default
def Ed (ss:List Bg) (m:Aq):Prop:=∃(n k:Nat)(s:Bg),m.1=(n:Int)/\m.2.2=(k:Int)/\ss[n]?=some s/\((m.2.1=("step" : Str)/\k<s.1.length)\/(m.2.1=("told" : Str)/\k<s.2.length))
def Wy{m:Aq}{p:CA}(a:m.1=(n:Int))(b:m.2.2=(k:Int))(c:ss[n]?=some s)(d:m.2.1=("step" : Str))(e:s.1[k]?=some p):EH ss m=p.1:=by
 unfold EH;rw[a,b,Bw,Bw,c];dsimp only;rw[Ar d,e]
def Wz{m:Aq}{p:DZ}(a:m.1=(n:Int))(b:m.2.2=(k:Int))(c:ss[n]?=some s)(d:m.2.1≠("step" : Str))(e:s.2[k]?=some p):EH ss m=p.1:=by
 unfold EH;rw[a,b,Bw,Bw,c];dsimp only;rw[Ao d,e]
def Oy:("told" : Str)≠("step" : Str):=by decide +kernel
def ZB:("step" : Str)≠("told" : Str):=by decide +kernel
open Classical in
noncomputable def CB (ss:List Bg) (ord:A'):List Aq->List Aq->Bool
 |m::ms,q::qs=>if m=q then CB ss ord ms qs else dec ((EH ss m,EH ss q)∈ord)
 |_,_=>false
def WA(ss:List Bg)(ord:A')(m:Aq)(a qs:List Aq):CB ss ord (m::a) (m::qs)=CB ss ord a qs:=by
 rw[CB];exact Ar rfl
def WB(ss:List Bg)(ord:A'){m q:Aq}(a qs:List Aq)(h:m≠q):CB ss ord (m::a) (q::qs)=dec ((EH ss m,EH ss q)∈ord):=by
 rw[CB];exact Ao h
theorem TF(ss:List Bg)(ord:A'):∀{l m:List Aq},l=[]\/m=[]->CB ss ord l m=false
 |[],_,_=>by rw[CB];intros;simp at *
 |_::_,[],_=>by rw[CB];intros;simp at *
 |_::_,_::_,h=>by simp at h
theorem TH(ss:List Bg)(ord:A'):∀{l m:List Aq}{i:Nat},(∀j,j<i->l[j]?=m[j]?)->i<=l.length->i<=m.length->CB ss ord l m=CB ss ord (l.drop i) (m.drop i)
 |_,_,0,_,_,_=>rfl
 |[],_,i+1,_,h,_=>by simp at h
 |_::_,[],i+1,_,_,h=>by simp at h
 |x::l,y::m,i+1,h,a,b=>by
   have e:x=y:=(by simpa using h 0 (by lia));subst e;rw[WA,List.drop_succ_cons,List.drop_succ_cons];exact TH ss ord (λj c=>by simpa using h (j+1) (by lia)) (by simpa using a) (by simpa using b)
def WC(ok:Ck W)(u:0<=sc/\sc<W.ss.length)(v:0<=st/\st<W.sts.length)(h:BO W sc st b):∀m∈b.1,Ed W.ss m:=by
 induction h with
 |root=>intro m c;cases c
 |@kid d x i k l =>
   obtain⟨r,o,_,_,rfl⟩:=Bv.mp k;intro m c;rcases BI.mp c with c|c;exact l m c;rw[A7.mp c];have q:=i.ok ok u v;have s:=q.rng d.2.1 (by unfold AM;simp);obtain⟨j,p,a,e,_,rfl⟩:=Ou o;obtain⟨n,f⟩:=Cz s.1;have w:n<W.ss.length:=(by lia);have g:=AA w;have t:By W d.2.1=W.ss[n].1:=by unfold By;rw[f,Bw,g]
   rw[t] at e;exact⟨n,j,_,f,rfl,g,.inl ⟨rfl,(Bh.mp e).1⟩⟩
def P6(ok:Ck W)(h:0<=sc/\sc<W.ss.length)(i:0<=st/\st<W.sts.length){bs:List AO}(k:C9 W sc st bs){w:List Aq}(l:w∈Fc W x bs):(∀m∈w,Ed W.ss m)/\w.length<=100:=by
 obtain⟨b,o,j,q,d,_,_,rfl⟩:=Ww l;have e:=(k.mem b).mp o;have c:=e.ok ok h i;have p:=c.rng b.2.1 (by unfold AM;simp);refine⟨λm a=>?_,?_⟩;rcases BI.mp a with a|a;exact WC ok h i e m a;rw[A7.mp a];obtain⟨n,f⟩:=Cz p.1;have s:n<W.ss.length:=(by lia);have g:=AA s;have r:GL W b.2.1=W.ss[n].2:=by unfold GL;rw[f,Bw,g]
 rw[r] at d;exact⟨n,j,_,f,rfl,g,.inr ⟨rfl,(Bh.mp d).1⟩⟩;have:=KS W.ss.length (AM b) c.nd c.rng;rw[show(AM b).length=b.1.length+1 by unfold AM;simp] at this;have:=ok.s5;rw[AQ,Ef];lia
def WD(ok:Ck W)(i:0<=sc/\sc<W.ss.length)(k:0<=st/\st<W.sts.length){bs:List AO}(l:C9 W sc st bs){w:Ow}(o:w∈G9 W bs):(∀m∈w.1,Ed W.ss m)/\w.1.length<=100:=by
 obtain⟨b,q,j,p,a,e,_,_,rfl⟩:=Zz o;have f:=(l.mem b).mp q;have d:=f.ok ok i k;have r:=d.rng b.2.1 (by unfold AM;simp);refine⟨λm c=>?_,?_⟩;rcases BI.mp c with c|c;exact WC ok i k f m c;rw[A7.mp c];obtain⟨n,g⟩:=Cz r.1;have t:n<W.ss.length:=(by lia);have h:=AA t;have s:By W b.2.1=W.ss[n].1:=by unfold By;rw[g,Bw,h]
 rw[s] at e;exact⟨n,j,_,g,rfl,h,.inl ⟨rfl,(Bh.mp e).1⟩⟩;have:=KS W.ss.length (AM b) d.nd d.rng;rw[show(AM b).length=b.1.length+1 by unfold AM;simp] at this;have:=ok.s5;show(b.1++[(b.2.1,("step" : Str),(j:Int))]).length<=100;rw[AQ,Ef];lia
def ZC(h:n<=40000):n<sizeLine:=Nat.lt_of_le_of_lt h (by decide)
def Hu (ss:List Bg) (w:List Aq):Prop:=(∀m∈w,Ed ss m)/\w.length<=100
end L2
namespace PySem
section
variable {prog:Program} {w:World} {K:Type} [DecidableEq K] {knd:HeapKind prog w K} {A:Around} {E:G'} {s:Shared}
def ZD{d a:Addr}{xs:List (K×Addr×Value)}{k:K}{v:Value}{Q:G'}(l:knd.room A)(i:knd.is s.heap k a)(r:s.heap.DictOfH knd d xs)
 (t:∀p,atKey xs k=some p->Q p.2 {s with toks:=s.toks+knd.draws k})
 (u:atKey xs k=none->∀h',h'.DictOfH knd d (storedH xs k a v)->Heap.SameBut d s.heap h'->Q v {s with heap:=h',toks:=s.toks+knd.draws k})
 (hsz:xs.length<=sizeLine:=by size_fits) :
 wpAny (model prog w) A (dictSetDefault d (.ref a) v) Q E s:=by
 obtain⟨o,D,z,c,B,hd,g,q,h⟩:=r;unfold dictSetDefault
 try with_reducible refine FZ ?_
 refine Ag (knd.pyHash l i ?_);refine Ag (wpAny_dictFind_heap (s:={s with toks:=s.toks+knd.draws k}) l i c hd g q h ?_ ?_);intro f;have C:k∉xs.map (·.1):=not_mem_keys_of_get f
 refine Ag (IH (Ag (wpAny_updateDictKeys (hz:=by have e:=size_of_entries g;lia) (s:={s with toks:=s.toks+knd.draws k}) c hd (Az (u (atKey_none_of_get f) _ ⟨_,_,z+1,Heap.get?_update_self _ c (Obj.isFreed_of_dict (Obj.data_mapDictKeys hd _)),
  B.mapDictKeys _,Obj.data_mapDictKeys hd _,?_,?_,?_⟩ (Heap.SameBut.update ..))))))
 rw[storedH_new (atKey_none_of_get f)];simp[g,entryOfKey];rw[storedH_new (atKey_none_of_get f)];intro x b;rcases BI.mp b with b|b;exact knd.keeps (q x b) c hd (Heap.SameBut.update ..);simp only[A7] at b;subst b;exact knd.keeps i c hd (Heap.SameBut.update ..);rw[storedH_new (atKey_none_of_get f)];rw[A6,List.nodup_append];refine⟨h,by simp,?_⟩;intro x b y m;simp only[Ew,NA,A7] at m;subst m;exact λe=>C (e▸b);intro j p n;refine Ag (wpAny_dictEntries (s:={s with toks:=s.toks+knd.draws k}) c hd ?_);rw[entry_at g j,n];exact Ag (IH (Az (t p (atKey_of_get h n))))
def ZE(d a:Addr)(hd:(d==sysModules)=false)(b:Value) :
 MeetsIn prog w (Builtin.«dict.setdefault» ⟨[.ref d,.ref a,b],[]⟩) (λA R s=>knd.room A.in1/\∃k xs,knd.is s.heap k a/\s.heap.DictOfH knd d xs/\xs.length<=sizeLine /\
  (∀p,atKey xs k=some p->R (.ok (.ret p.2)) {s with toks:=s.toks+knd.draws k}) /\
  (atKey xs k=none->∀h',h'.DictOfH knd d (storedH xs k a b)->Heap.SameBut d s.heap h'->R (.ok (.ret b)) {s with heap:=h',toks:=s.toks+knd.draws k})):=
 .of_wp λA R s l=>by
  obtain⟨e,k,xs,o,c,f,g,h⟩:=l;unfold Builtin.«dict.setdefault»;refine Ag ?_;unfold Builtin.Dict.keyAndDefault;refine Ag (wpAny_notOrdered_dict c.typeIs ?_);show wpAny _ _ (pure (d,Value.ref a,some b)) _ _ s;refine Az ?_;show wpAny _ _ (if(d==sysModules)=true then _ else(dictSetDefault d (.ref a) b >>= _)) _ _ s;rw[Ao (by rw[hd];exact CS)];exact Ag (ZD (hsz:=f) e o c (λp i=>Az ⟨p.2,rfl,g p i⟩) λj h' m n=>Az ⟨b,rfl,h j h' m n⟩)
end
section
variable {prog:Program} {w:World} {A:Around} {E:G'} {s:Shared}
variable {d:Addr}{es:Array DictEntry}{ep:Nat}
theorem WE{o:Obj}{Q:G'}(hd:(d==sysModules)=false)(a:s.heap.get? d=some o)(e:o.ExactDict)(c:o.data=.dict es ep)
 (f:Q (.ref s.heap.objs.size) {s with heap:=s.heap.push {cls:=.type "dict_keyiterator",data:=.fields #[.ref d,.int 0 0,.int es.size 0,.int ep 0]}}) :
 wpAny (model prog w) A (pyIter (.ref d)) Q E s:=by
 have b:s.TypeIs (.ref d) "dict" :=⟨o,a,e.1⟩;refine wpAny_pyIter_slot b F.slot_dict_iter (wpAny_call_entry F.slot_dict_iter b F.entry_dict_iter ?_ (F.args_dict_iter_1 _));unfold Builtin.«dict.__iter__»;refine Ag ?_;unfold Builtin.Dict.dictSlotNone;refine Ag (wpAny_notOrdered_dict b ?_);show wpAny _ _ (pure (Value.ref d)) _ _ s;refine Az ?_;show wpAny _ _ (Builtin.Dict.showsAll d >>= _) _ _ s;unfold Builtin.Dict.showsAll;rw[Ao (by rw[hd];exact CS)];refine Ag (Az ?_);refine Ag (wpAny_dictEntries a c ?_);refine Ag (wpAny_dictEpoch a c ?_);refine Ag (wpAny_newObj_type (Az ⟨_,rfl, "dict_keyiterator",_,⟨_,Co _ rfl,rfl⟩,F.slot_dict_keyiterator_next.lookup,?_⟩));simpa [rawInt] using f
theorem WF{a:Addr}{i:Nat}{e:Obj}{Q:Option Value->Shared->Prop}(b:s.heap.IsKeyIter a d i es.size ep)
 (f:s.heap.get? d=some e) (g:e.data=.dict es ep) (l:i<es.size)
 (j:∀h',h'.IsKeyIter a d (i+1) es.size ep->Heap.SameBut a s.heap h'->Q (some es[i].key) {s with heap:=h'}) :
 wpAny (model prog w) A (pyNext (.ref a)) Q E s:=by
 obtain⟨o,c,k,hd⟩:=id b;unfold pyNext
 refine Ag (wpAny_attempt (wpAny_callSpecial?_slot (name:=Str.ofString "__next__") b.typeIs F.slot_dict_keyiterator_next
  (wpAny_call_entry F.slot_dict_keyiterator_next b.typeIs F.entry_dict_keyiterator_next ?_ (F.args_dict_keyiterator_next_1 _))))
 refine Ag (Az ?_);refine Ag ?_;refine Ag ?_
 first|refine Ag (wpAny_typeNameOfWhole_keyiter b.typeIs (Az ?_))|refine Ag (wpAny_typeNameOf_keyiter b.typeIs (Az ?_))
 refine Ag (wpAny_fieldsOf c hd ?_);have m:Builtin.Dict_items.ownsTuple "dict_keyiterator" = false:=(by decide)
 simp only[m,FU,if_false];show wpAny _ _ (if(Value.ref d==Value.none)=true then _ else _) _ _ s;rw[Ao (show ¬((Value.ref d==Value.none)=true) from CS)];refine Ag (Az ?_);refine Ag (wpAny_dictEntries f g ?_);rw[Ao (by simp)];refine Ag (Az ?_);refine Ag (wpAny_dictEpoch f g ?_);rw[Ao (by simp)];refine Az ?_;simp only[show ¬((i:Int)<0) from by lia,if_false,Bw,Array.getElem?_eq_getElem l];refine Ag ?_
 first|refine Ag (wpAny_typeNameOfWhole_keyiter b.typeIs (Az ?_))|refine Ag (wpAny_typeNameOf_keyiter b.typeIs (Az ?_))
 refine Ag (wpAny_isOneOf_keyiter b.typeIs ?_);show wpAny _ _ (setField (.ref a) 1 (rawInt ((i:Int)+1)) >>= _) _ _ s;refine Ag (wpAny_setField c hd (by simp) ?_)
 have h:(s.heap.update a (Obj.mapFields (·.setIfInBounds 1 (rawInt ((i:Int)+1))))).IsKeyIter a d (i+1) es.size ep:=
  ⟨_,Heap.get?_update_self _ c (Obj.isFreed_of_fields (Obj.data_mapFields hd _)),(Obj.cls_mapFields ..).trans k,by rw[Obj.data_mapFields hd];simp[rawInt]⟩
 refine Ag (FZ ?_);refine Ag (wpAny_isOneOf_keyiter (s:={s with heap:=s.heap.update a (Obj.mapFields (·.setIfInBounds 1 (rawInt ((i:Int)+1))))}) h.typeIs ?_);show wpAny _ _ (pure es[i].key) _ _ _;exact Az (Az ⟨_,rfl,Az (j _ h (Heap.SameBut.update ..))⟩)
theorem WG{e:Addr}{i:Nat}{f:Obj}{Q:Option Value->Shared->Prop}(k:A.handled=none)(c:s.heap.IsKeyIter e d i es.size ep)
 (h:s.heap.get? d=some f) (j:f.data=.dict es ep) (n:es.size<=i)
 (l:∀h',Heap.ExtBut e s.heap h'->Q none {s with heap:=h'}):wpAny (model prog w) A (pyNext (.ref e)) Q E s:=by
 obtain⟨o,g,q,hd⟩:=id c;unfold pyNext
 refine Ag (wpAny_attempt (wpAny_callSpecial?_slot (name:=Str.ofString "__next__") c.typeIs F.slot_dict_keyiterator_next
  (wpAny_call_entry F.slot_dict_keyiterator_next c.typeIs F.entry_dict_keyiterator_next ?_ (F.args_dict_keyiterator_next_1 _))))
 refine Ag (Az ?_);refine Ag ?_;refine Ag ?_
 first|refine Ag (wpAny_typeNameOfWhole_keyiter c.typeIs (Az ?_))|refine Ag (wpAny_typeNameOf_keyiter c.typeIs (Az ?_))
 refine Ag (wpAny_fieldsOf g hd ?_);have p:Builtin.Dict_items.ownsTuple "dict_keyiterator" = false:=(by decide)
 simp only[p,FU,if_false];show wpAny _ _ (if(Value.ref d==Value.none)=true then _ else _) _ _ s;rw[Ao (show ¬((Value.ref d==Value.none)=true) from CS)];refine Ag (Az ?_);refine Ag (wpAny_dictEntries h j ?_);rw[Ao (by simp)];refine Ag (Az ?_);refine Ag (wpAny_dictEpoch h j ?_);rw[Ao (by simp)];refine Az ?_;simp only[show ¬((i:Int)<0) from by lia,if_false,Bw,Array.getElem?_eq_none n];refine Ag ?_
 first|refine Ag (wpAny_typeNameOfWhole_keyiter c.typeIs (Az ?_))|refine Ag (wpAny_typeNameOf_keyiter c.typeIs (Az ?_))
 show wpAny _ _ (setField (.ref e) 0 .none >>= _) _ _ s;refine Ag (wpAny_setField g hd (by simp) ?_);show wpAny _ _ (newExc (.type "StopIteration") [] >>= _) _ _ _
 refine Ag ?_;simp only[newExc,newTuple];refine Ag (wpAny_newObj_type ?_ (by size_fits));refine Ag (m:=firstArgMember _ _) (wpAny_of_eq (a:=Value.none) (by first|rfl|(simp only[firstArgMember];rfl)) ?_);refine wpAny_newObj_type ?_ (by size_fits);simp only[raiseNew];refine Ag (wpAny_handled ?_);rw[show A.in1.handled=none from k];refine Ag (Az (wpAny_throw ?_))
 refine Ag (wpAny_isInstance (T:= "StopIteration") (b:=true) ⟨_,Co _ rfl,rfl⟩ isSubtype_stop ?_);exact Az (l _ (((Heap.SameBut.update ..).extBut.push _).push _))
end
end PySem
namespace L2
open PySem PySem.Spec PyProof.Rows
section
variable {X:Cx}
def Oz:V->List V->Hp->VK->Prop:=λx vs H Q=>∃a kvs k b d,x=.ref a/\vs=[.ref b,d]/\H a=some (.dT kvs)/\H b=some (.tup (k.map kV))/\kvs.length<sizeLine/\(∀v,Ba kvs k=some v->Q v H)/\(Ba kvs k=none->Q d (upd H a (.dT (BC kvs k d))))
def ZF(A:X.A.units+1<cLine):KI X "dict.setdefault" Oz:=by
 intro Z s σ H x T v U Q I B C h;obtain⟨a,g,k,b,d,rfl,rfl,hd,l,V,D,E⟩:=h;cases B;obtain⟨u,r,rfl,F,m⟩:=Jn C;cases(show u=Value.ref b from F);obtain⟨z,n,o,j,p⟩:=HK I.hok hd
 have i:o.length<=sizeLine:=by rw[<-Paired.length j];exact z
 have f:=j.val k
 refine call_meetsIn PySem.F.slot_dict_setdefault p.typeIs PySem.F.entry_dict_setdefault (PySem.F.args_dict_setdefault_3 _ _ _) (ZE (knd:=tupleKind (Ff X.prog X.w)) a b n r)
  ⟨tupleKind_room_in1 A,k,o,LD I.hok l,p,i,λy G=>?_,λJ W S K=>?_⟩
 rw[G] at f
 cases e:Ba g k with
 |none=>rw[e] at f;exact False.elim f
 |some v0 =>
   rw[e] at f;exact⟨v0,H,I.tok _,f,D v0 e⟩
 rw[J] at f
 cases e:Ba g k with
 |some v0=>rw[e] at f;exact False.elim f
 |none =>
   have i:(BC g k d).length<=sizeLine:=by have:=PH g k d;lia
   obtain⟨q,L,M,t,N,O,P,_,R⟩:=S;refine⟨d,_,PJ (ob:=.dT (BC g k d)) I (by rw[hd];exact True.intro) K ⟨q,t⟩ ⟨i,n,_,(j.put k l m).keeps λc Y w=>?_,q,L,M,t,N,O,P,R⟩,m,E e⟩;rw[AE (MZ w hd (λz=>nomatch z))];exact w
def P7 (H U Y:Hp):Prop:=∀b,Y b=U b\/H b=none/\∃kvs o,U b=some (.dT kvs)/\Y b=some (.frz o (.dT kvs))
def Inv.frz{pins:B'}{s:Shared}{σ:St}{H Y:Hp}(I:Inv X pins σ H s)(h:∀b,Y b=H b\/∃kvs o,s.heap.get? b=some o/\H b=some (.dT kvs)/\Y b=some (.frz o (.dT kvs))):Inv X pins σ Y s:=by
 have same:∀b u,H b=some u->(∀kvs,u≠.dT kvs)->Y b=some u:=λb u e n=>by
  rcases h b with z|⟨kvs,o,_,z,_⟩;rw[z];exact e;rw[e] at z;cases z;exact absurd rfl (n kvs)
 refine I.step (g':=s.gens) (t':=s.toks) (d':=s.drawn) (h':=s.heap) (ch:=[]) (λb d=>nomatch d) (λb o ζ ζ ζ z ζ=>z) (λb o ζ ζ ζ z ζ=>⟨o.slots,z⟩) (λb o ζ ζ n=>?_) (λb o ζ z=>⟨o,z⟩)
  (λb f z=>same b _ z λζ q=>nomatch q) (λb o u z=>same b _ z λζ q=>nomatch q) (λb k z=>⟨#[],by rw[same b _ z λζ q=>nomatch q];simp⟩) (λm i=>i) (λb u z=>?_) I.bare
 rcases h b with z|⟨kvs,o,_,z,_⟩;rw[z];exact n;rw[n] at z;cases z;have a:∀{v:HO},H b=some v->AF X.prog X.w Y s.heap b v:=λ{v}e=>(I.hok b v e).stay (λζ ζ ζ q=>q) (λc q=>same c _ q λζ q=>nomatch q) λc f q=>same c _ q λζ q=>nomatch q;rcases h b with y|⟨kvs,o,g,y,j⟩;rw[y] at z;exact a z;rw[j] at z;cases z;exact⟨g,a y⟩
def TJ (t:TE):TE:=λσ H Q=>t σ H λv U=>∀Y,P7 H U Y->(∀b kvs,H b=none->U b=some (.dT kvs)->∃o,Y b=some (.frz o (.dT kvs)))->Q v Y
set_option tactic.hygienic true in
def H2{e:Expr}{t:TE}(m:PE X e t):PE X e (TJ t):=by
 intro r s σ H Q I h;refine AV (m r s σ H _ I h) λu i⟨x,U,k,n,p⟩=>?_
 classical
 let Y:Hp:=λb=>if H b=none then(match U b,i.heap.get? b with
  |some (.dT a),some o=>some (.frz o (.dT a))
  |z,_=>z) else U b
 have j:∀b,Y b=U b\/H b=none /\ ∃a o,i.heap.get? b=some o/\U b=some (.dT a)/\Y b=some (.frz o (.dT a)):=λb=>by
  by_cases c:H b=none
  have e:Y b=(match U b,i.heap.get? b with
   |some (.dT a),some o=>some (.frz o (.dT a))
   |z,_=>z):=Ar c
  by_cases hd:∃a o,U b=some (.dT a)/\i.heap.get? b=some o;obtain⟨a,o,d,f⟩:=hd;rw[d,f] at e;exact .inr ⟨c,a,o,f,d,e⟩;refine .inl ?_;rw[e];split;rename_i a o d f;exact absurd ⟨a,o,d,f⟩ hd;rfl;exact .inl (Ao c)
 refine⟨x,Y,k.frz λb=>(j b).imp id λ⟨_,z⟩=>z,n,p Y (λb=>(j b).imp id λ⟨c,a,o,_,d,f⟩=>⟨c,a,o,d,f⟩) λb a c z=>?_⟩;rcases j b with y|⟨_,v,o,_,l,q⟩;exfalso
 obtain⟨_,_,_,_,o,w,A,g,_⟩:=(show AF X.prog X.w U i.heap b (.dT a) from k.hok b _ z)
 have e:Y b=some (.frz o (.dT a)):=by
  show(if H b=none then _ else _)=_;rw[Ar c,z,g]
 rw[e,z] at y;cases y;rw[z] at l;cases l;exact⟨o,q⟩
def TL (a:Addr) (o:Obj) (kvs:List (List A8×V)):It:=
 ⟨λi H=>H a=some (.frz o (.dT kvs))/\i<kvs.length,λi H x H'=>H'=H/\∃k v b,kvs[i]?=some (k,v)/\x=.ref b/\H b=some (.tup (k.map kV)),λi H=>H a=some (.frz o (.dT kvs))/\kvs.length<=i⟩
def Ia{α β:Type}{F:α->β->Prop}{l:List α}{m:List β}(h:Paired F l m):∀{i:Nat}(a:i<l.length),∃y,m[i]?=some y/\F l[i] y:=by
 induction h with
 |nil=>intro i a;exact absurd a (Nat.not_lt_zero _)
 |cons r t b =>
   intro i a
   cases i with
   |zero=>exact⟨_,rfl,r⟩
   |succ i=>exact b (i:=i) (by simpa using a)
def ZG{P:Program}{w:World}{K:Aj}{S:Expr}{a j:Addr}{o:Obj}{kvs:List (List A8×V)}{es:Array DictEntry}{ep:Nat}(hd:o.data=.dict es ep) :
 FN P w K S (TL a o kvs) [j] j (λi h=>h.IsKeyIter j a i es.size ep) where
 mem:=by simp
 obj:=λi h f b l=>by
  have e:b=j:=(by simpa using l);subst e;obtain⟨o,e,c,d⟩:=f;exact⟨o,e,λah z=>by rw[d] at z;cases z⟩
 keep:=λi h p f k=>f.at λo e=>k j (by simp) o e
 item:=by
  intro X t u v N i R s σ H E I r f x;subst t u v;obtain⟨A,B⟩:=x;obtain⟨m,z,y,T,M,U,ab,ae,g,W,n,C,Y⟩:=(show AF X.prog X.w H s.heap a (.frz o (.dT kvs)) from I.hok a _ A);rw[m] at g;cases g;rw[hd] at n;cases n;obtain⟨q,Z,e1,e2,e3⟩:=Ia M B;have O:=entry_at (knd:=tupleKind (Ff X.prog X.w)) C i;rw[Z] at O;obtain⟨af,ag⟩:=Array.getElem?_eq_some_iff.mp O;obtain⟨D,F,aa,G,J,L⟩:=r j (by simp);refine WF f m hd af λp Q sb=>?_;have I1:Inv X R σ H {s with heap:=p}:=I.turned (t':=s.toks) (λb o l e=>(sb.2 b l).trans e) D F G J L;obtain⟨oi,e,c,d⟩:=id Q;refine⟨_,rfl,Py (s:={s with heap:=p}) e c d (by decide) ⟨.ref q.2.1,H,I1,?_,⟨rfl,kvs[i].1,kvs[i].2,q.2.1,by simp[B],rfl,e2⟩,Q,λb l=>(r b l).1⟩⟩;rw[ag];rfl
 done:=by
  intro X t u v N i R s σ H E I r f x;subst t u v;obtain⟨A,B⟩:=x;obtain⟨m,z,y,T,M,U,ab,ae,g,W,n,C,Y⟩:=(show AF X.prog X.w H s.heap a (.frz o (.dT kvs)) from I.hok a _ A);rw[m] at g;cases g;rw[hd] at n;cases n;have ai:=size_of_entries C;have hl:=Paired.length M;obtain⟨D,F,aa,G,J,L⟩:=r j (by simp);exact WG (I.ok.hd N) f m hd (by lia) λp eb=>⟨rfl,I.turned (t':=s.toks) (λb o l e=>eb b o l e) D F G J L⟩
 self:=λζ ζ ζ ζ ζ f h=>wpAny_pyIter_keyiter f h
def OA (tl:TE):TI:=λσ H R=>tl σ H λx U=>∃a kvs,x=.ref a/\Rd U a (.dT kvs)/\∀o,(U a=some (.dT kvs)\/U a=some (.frz o (.dT kvs)))->R (TL a o kvs) (upd U a (.frz o (.dT kvs)))
def JR{r l:Expr}{k:TE}(t:PE X l k):PI X r l (OA k):=by
 intro p s σ H R I h;refine AV (t p s σ H _ I h) λv c⟨x,U,i,u,w⟩=>?_;obtain⟨a,d,e,m,q⟩:=w;subst e;cases u;obtain⟨_,y,C,_,o,D,E,g,A,n,_⟩:=(show AF X.prog X.w U c.heap a (.dT d) from HJ i.hok m)
 have f:U a=some (.dT d)\/U a=some (.frz o (.dT d)):=by
  rcases m with z|⟨B,z⟩;exact .inl z
  have:=(show AF X.prog X.w U c.heap a (.frz B (.dT d)) from i.hok a _ z).1
  rw[g] at this;cases this;exact .inr z
 have j:Inv X p σ (upd U a (.frz o (.dT d))) c:=i.frz λb=>by
  by_cases e:b=a;subst e;rcases f with z|z;exact .inr ⟨d,o,g,z,Aa⟩;exact .inl (Aa.trans z.symm);exact .inl (AE e)
 refine WE y g A n ?_;refine⟨c.heap.objs.size,[c.heap.objs.size],_,_,_,rfl,j.kept (t':=c.toks) λb o e=>Bn _ e,ZG n,⟨_,Co _ rfl,rfl,rfl⟩,λb f=>?_,q o f⟩;have e:b=c.heap.objs.size:=(by simpa using f);subst e;exact j.fpOk (AI _) (j.hok.fresh (AI _))
def ZH{a:Addr}{o:Obj}{kvs:List (List A8×V)}{g:TG}{tb:TS}{D:Ends}{σ:St}{H:Hp}(Pv:Nat->St->Hp->Prop)(e:Pv 0 σ H)(d:∀i σ H,i<=kvs.length->Pv i σ H->H a=some (.frz o (.dT kvs)))
 (f:∀i k v b σ H,kvs[i]?=some (k,v)->H b=some (.tup (k.map kV))->Pv i σ H->g (.ref b) σ H λσ2 Y=>tb {D with nx:=Pv (i+1),ct:=Pv (i+1),bk:=D.nx} σ2 Y) (hd:∀σ H,Pv kvs.length σ H->D.nx σ H):F2 (TL a o kvs) g tb D σ H:=NU kvs.length Pv e (λi σ H p c=>⟨d i σ H (CQ c) p,c⟩) (λσ H p=>⟨d _ σ H (AI _) p,AI _⟩) (λi x σ H l p c y=>by obtain⟨rfl,k,v,b,h,rfl,j⟩:=y;exact f i k v b σ _ h j p) hd
end
end L2
namespace PySem
section
variable {prog:Program} {w:World} {A:Around} {E:G'} {s:Shared}
theorem ZI{a:Addr}{o:Obj}{xs:Array Value}{k:Nat}{Q:Option Value->Shared->Prop}
 (f:s.heap.get? a=some o) (i:o.cls=.type "list") (p:o.data=.seq xs k) (hd:o.dict=none) (q:A.handled=none)
 (h:∀h' j,(∀b o,s.heap.get? b=some o->h'.get? b=some o)->Q none {s with heap:=h',toks:=j}):wpAny (model prog w) A (getAttr? (.ref a) "keys") Q E s:=by
 obtain⟨c,dct,H,r⟩:=o;simp only at i p hd;subst i p hd;obtain⟨t,g,d,j,u⟩:=s;have l:∀m,(⟨t,g,d,m,u⟩:Shared).TypeIs (.ref a) "list" :=λζ=>⟨_,f,rfl⟩;have x:=sub_AttributeError;have y:=F.slot_list_getattribute.lookup;have z:=F.slot_list_getattribute.bind (.ref a);have B:=am_list_getattr_none;have v:typeLookup (.type "list") "keys" = pure none:=by rw[typeLookup_type,builtinLookup_eq_fast];kernel_rfl
 unfold getAttr? getAttrBy? getAttrBy
 repeat (any_goals (first|assumption|exact l _|((with_reducible show wpAny _ _ (call (Value.builtin "list.__getattribute__") _ _) _ _ _);refine call_meets F.slot_list_getattribute (l _) am_entry_list_getattribute (F.args_list_getattribute_2 _ _) (meets_getattribute_miss_list a xs k r "keys" _ v (by decide) (by size_fits)) ⟨f,q,λh' m e n=>?_⟩)|wp_step))
 obtain⟨C,D,G⟩:=n.there;show wpAny _ _ (getattributeRaised _ _ _ _ _ _ _) _ _ _;unfold getattributeRaised
 repeat (any_goals (first|assumption|wp_step))
 exact h _ _ n.keeps
namespace F
def args_minD(a v:Value):argsOk "min" ⟨[a],[(Str.ofString "default",v)]⟩:=by unfold argsOk;kernel_rfl
def entry_upd_loop:entryFor table "dict.update.loop" = some Builtin.«dict.update.loop»:=entryFor_of_tree (by kernel_rfl)
def plain_upd_loop:plainId "dict.update.loop" = true:=by decide +kernel
end F
variable {R:Result->Shared->Prop} {I:Addr} {fp r:List Addr} {n:Nat} {P:Nat->Value->Prop} {St:Nat->Heap->Prop}
def P8:(toString "min" ++ toString ".loop" : String) = "min.loop" :=by decide
theorem TM(W:Walks prog w A.in1 I fp r n P St)(d:Nat->Nat->Bool)(G:CmpOf prog w A.in1 .Lt P d)(S:Addr)(m:S∉fp)(u:List (Str×Value)) :
 ∀(k j:Nat)(s:Shared)(a:Value)(c:Nat),n=j+1+k->St (j+1) s.heap->P (argBest d j) a->s.heap.get? S=some {cls:=.type "list",data:=.seq #[a,a] c} ->
 (∀v h' p,P (argBest d (n-1)) v->(∀b o,b∉r->b≠S->s.heap.get? b=some o->h'.get? b=some o)->R (.ok (.ret v)) {s with heap:=h',toks:=p}) ->
 codeAny (model prog w) A (.builtin "min.loop" ⟨[.ref I,.none,.ref S],u⟩) R s
 |0,j,s,a,c,H,z,t,l,q=>by
   subst H;refine codeAny_builtin F.entry_min_loop ?_;rw[Around.under_plainId F.plain_min_loop _];show wpAny _ A.in1 (seqItems? (.ref S) >>= _) _ _ s;refine Ag (GG l rfl ?_);show wpAny _ A.in1 (tryCatch (pyNext (.ref I)) _ >>= _) _ _ s;refine Ag (wpAny_tryCatch (W.done s _ _ z λh' p g=>?_));show wpAny _ A.in1 (updateSeq S (λζ=>#[]) >>= _) _ _ _;refine Ag (wpAny_updateSeq (g S _ (λh=>m (W.sub _ h)) l) rfl (Ag (wpAny_letGo (Az (q a _ p t λb o f i e=>?_)))));exact(Heap.get?_update_other _ _ (Ne.symm i)).trans (g b o f e)
 | k + 1,j,s,a,c,H,z,t,l,q=>by
   refine codeAny_builtin F.entry_min_loop ?_;rw[Around.under_plainId F.plain_min_loop _];show wpAny _ A.in1 (seqItems? (.ref S) >>= _) _ _ s;refine Ag (GG l rfl ?_);show wpAny _ A.in1 (tryCatch (pyNext (.ref I)) _ >>= _) _ _ s;refine Ag (wpAny_tryCatch (W.item (j+1) s _ _ (by lia) z λv h' p J L g=>?_));have B:=g S _ (λh=>m (W.sub _ h)) l;show wpAny _ A.in1 (tryCatch (holding [v,v] (richCompare .Lt v a >>= _)) _ >>= _) _ _ _;refine Ag (wpAny_tryCatch (FZ (Ag (G (j+1) (argBest d j) v a _ _ _ J t (Ag (FZ (Gi (Ag (wpAny_letGo (Az ?_))))))))))
   cases K:d (j+1) (argBest d j) with
   |true =>
     simp only[if_true];refine Ag (wpAny_updateSeq B rfl (Ag (wpAny_letGo ?_)));rw[P8];refine Az ⟨plainId_quiet F.plain_min_loop _,TM W d G S m u k (j+1) _ v _ (by lia) (W.frame _ _ _ L λb M o e=>?_) (by simp only[argBest,K,if_true];exact J) (Heap.get?_update_self _ B rfl) λx y C D E=>?_⟩;exact(Heap.get?_update_other _ _ (λh:S=b=>m (by rw[h];exact M))).trans e;exact q x y C D λb o f i e=>E b o f i ((Heap.get?_update_other _ _ (Ne.symm i)).trans (g b o f e))
   |false =>
     simp only[FU,if_false];refine Ag (wpAny_letGo ?_);rw[P8]
     exact Az ⟨plainId_quiet F.plain_min_loop _,TM W d G S m u k (j+1) _ a c (by lia) L (by simp only[argBest,K,FU,if_false];exact t) B λx y C D E =>
      q x y C D λb o f i e=>E b o f i (g b o f e)⟩
theorem ZJ{x d:Value}{Q:G'}
 (h:wpAny (model prog w) A.in1 (pyIter x) (λm c=>∃I fp r n P St f,m=.ref I/\Walks prog w A.in1 I fp r n P St/\St 0 c.heap/\(∀b∈fp,b<c.heap.objs.size)/\CmpOf prog w A.in1 .Lt P f /\
  ∀v h' g,(if n=0 then v=d else P (argBest f (n-1)) v)->(∀b o,b∉r->c.heap.get? b=some o->h'.get? b=some o)->Q v {c with heap:=h',toks:=g}) E s) :
 wpAny (model prog w) A (call (.builtin "min") [x] [(Str.ofString "default",d)]) Q E s:=by
 refine wpAny_call (codeAny_call_builtin F.plain_min F.entry_min (wpAny_of_eq (a:=()) (by
  have k:=F.args_minD x d;simp only[checkBuiltinCall,F.kind_min];unfold argsOk at k
  cases R:Manifest.signature? "min" with
  |none=>rfl
  |some U=>rw[R] at k;exact k) ?_))
 show wpAny _ A.in1 (Builtin.Builtins.bindParams "min" ["key", "default"] 0 ⟨[],[(Str.ofString "default",d)]⟩ >>= _) _ _ s
 refine Ag (wpAny_of_eq (show Builtin.Builtins.bindParams "min" ["key", "default"] 0 ⟨[],[(Str.ofString "default",d)]⟩=pure [none,some d] from rfl) ?_)
 refine Ag (Az ?_);refine Ag (F1 h (λm c z=>?_) λζ ζ e=>e);obtain⟨I,fp,r,n,P,St,f,rfl,W,H,J,S,p⟩:=z;refine Ag (wpAny_newObj_type ?_);have l:c.heap.objs.size∉fp:=λB=>GY _ (J _ B);have K:c.heap.objs.size∉r:=λh=>l (W.sub _ h);rw[P8];have q:(c.heap.push {cls:=.type "list",data:=.seq #[]}).get? c.heap.objs.size=some {cls:=.type "list",data:=.seq #[]}:=Co _ rfl;have y:=W.frame _ _ (c.heap.push {cls:=.type "list",data:=.seq #[]}) H λb ζ o e=>Bn _ e;refine Az ⟨plainId_quiet F.plain_min_loop _,codeAny_builtin F.entry_min_loop ?_⟩;rw[Around.under_plainId F.plain_min_loop _];show wpAny _ A.in1 (seqItems? (.ref c.heap.objs.size) >>= _) _ _ _;refine Ag (GG q rfl ?_);show wpAny _ A.in1 (tryCatch (pyNext (.ref I)) _ >>= _) _ _ _
 cases n with
 |zero =>
   refine Ag (wpAny_tryCatch (W.done _ _ _ y λh' g i=>?_));exact Ag (IH (Az (p d _ g (by rw[Ar rfl]) λb o j e=>i b o j (Bn _ e))))
 |succ n =>
   refine Ag (wpAny_tryCatch (W.item 0 _ _ _ (Nat.succ_pos _) y λv h' g C T i=>?_));have u:=i _ _ K q;show wpAny _ A.in1 (updateSeq c.heap.objs.size (λζ=>#[v,v]) >>= _) _ _ _;refine Ag (wpAny_updateSeq u rfl ?_);rw[P8];refine Az ⟨plainId_quiet F.plain_min_loop _,TM W f S _ l _ n 0 _ v _ (by lia) (W.frame _ _ _ T λb L o e=>?_) C (Heap.get?_update_self _ u rfl) λD G M N O=>?_⟩;exact(Heap.get?_update_other _ _ (λh:c.heap.objs.size=b=>l (by rw[h];exact L))).trans e;refine p D G M (by rw[Ao (Nat.succ_ne_zero n)];exact N) λb o j e=>?_;have t:b≠c.heap.objs.size:=CF (Bj e);exact O b o j t ((Heap.get?_update_other _ _ (Ne.symm t)).trans (i b o j (Bn _ e)))
end
end PySem
namespace L2
open PySem PySem.Spec PyProof.Rows
section
variable {X:Cx}
def P9:List Int->V
 |[]=>.non
 |n::ns=>.int (ns.foldl min n)
theorem WH(f:Nat->Int):∀n,f (argBest (λi j=>decide (f i<f j)) n)=((List.range n).map λi=>f (i+1)).foldl min (f 0)
 |0=>rfl
 |n+1=>by
   have a:=WH f n;rw[List.range_succ,A6,KA];show f (if _ then _ else _)=min _ (f (n+1));rw[<-a]
   by_cases h:f (n+1)<f (argBest (λi j=>decide (f i<f j)) n);rw[Ar (AY h)];lia;rw[Ao (by simpa using h)];lia
def ZK(n:Int)(ns:List Int):((List.range ns.length).map λi=>(n::ns).getD (i+1) 0)=ns:=by
 apply List.ext_getElem?;intro i;rw[AX];by_cases h:i<ns.length;rw[List.getElem?_range h,Option.map_some,BW,List.getElem?_cons_succ,AA h];rfl;rw[Hk (by simpa using h),Hk (by lia)];rfl
def OB (ta:TA):TE:=λσ H Q=>ta σ H λvs U=>∃p ns,vs=[.ref p]/\U p=some (.lst (ns.map V.int))/\Q (P9 ns) U
def JS{e:Expr}{r:TA}{p L B J:Pos}{j:Nat}(C:X.calm=true)(D:Gl X "min")(E:X.mg "min" = none)(F:PA X [e] r)
 (f:backTo L (starEach [e] X.env)=(false,eval e X.env)::backTo L (starEach [] X.env):=by rfl) (R:(backTo L (starEach [e] X.env)).any (·.1)=false:=by rfl) :
 PE X (.Call (.Name "min" p) [e] [⟨some "default",.Constant .none j B,J⟩] L) (OB r):=by
 intro T s σ H Q I h;refine wpAny_Call_Name_kw (Jf I D E (u:=.builtin "min") (by decide +kernel) (callWith_kw (AV (F L T s σ H _ I h) λY c⟨Z,U,k,G,K⟩=>kws_cons (Constant_none (kws_nil ?_))) f R))
 obtain⟨l,a,rfl,M,q⟩:=K;obtain⟨u,rfl,N⟩:=F3 G;cases N;obtain⟨z,g,n,w,e⟩:=(show AF X.prog X.w U c.heap l (.lst (a.map V.int)) from k.hok l _ M);have x:=Yq w;have y:c.heap.IsList l g.toArray:=⟨_,e,rfl,n,rfl⟩
 have W:g.length=a.length:=by have:=w.length;rw[Ak] at this;exact this.symm
 refine ZJ (wpAny_pyIter_list y ⟨_,[c.heap.objs.size,l],[c.heap.objs.size],_,λi v=>g.toArray[i]?=some v,λi h=>h.IsListIter c.heap.objs.size l i/\h.IsList l g.toArray,λi j=>decide (a.getD i 0<a.getD j 0),rfl,Walks.list (A:=X.A.in1) (k.ok.hd C) c.heap.objs.size l (CF (Bj e)) g.toArray,
  ⟨⟨_,Co _ rfl,rfl,rfl⟩,y.push _⟩,λb f=>?_,CmpOf.ints_lt (λi=>a.getD i 0) (λi v d=>x.int_at i v (by simpa using d)),λv O tk d P=>?_⟩)
 show b<(c.heap.push _).objs.size;rw[Heap.size_push];rcases Cc.mp f with rfl|f;exact Po _;rw[A7.mp f];exact Nat.lt_succ_of_lt (Bj e);have S:∀b o,c.heap.get? b=some o->O.get? b=some o:=λb o z=>P b o (by simpa using CF (Bj z)) (Bn _ z);refine⟨P9 a,U,k.kept S,?_,q⟩;rw[Cw,W] at d
 cases a with
 |nil=>exact d
 |cons m a =>
   rw[EG,Ao (Nat.succ_ne_zero _),Nat.add_sub_cancel] at d;obtain⟨t,rfl⟩:=x.int_at (argBest (λi j=>decide ((m::a).getD i 0<(m::a).getD j 0)) a.length) v (by rw[<-List.getElem?_toArray];exact d);refine⟨t,?_⟩;rw[WH λi=>(m::a).getD i 0,ZK];rfl
def KW (acc:List (List A8×V)) (ps:List (List A8×V)):List (List A8×V):=ps.foldl (λa kv=>BC a kv.1 kv.2) acc
def FC (H:Hp) (xs:List V) (ps:List (List A8×V)):Prop:=Paired (λx(p:List A8×V)=>∃t b,x=.ref t/\H t=some (.tup [.ref b,p.2])/\H b=some (.tup (p.1.map kV))) xs ps
def ZL{pins:B'}{σ:St}{A:Around}{R:Result->Shared->Prop}{H:Hp}{p l f:Addr}(hu:A.units+1<cLine)(hh:A.in1.handled=none)(k:H p=none)(F:f≠p) :
 ∀(xs:List V)(ps:List (List A8×V))(d:List V)(acc:List (List A8×V))(s:Shared),FC H xs ps->H l=some (.lst (d++xs))->acc.length+xs.length<=sizeLine->Inv X pins σ (upd H p (.dT acc)) s ->
 s.heap.IsListIter f l d.length->Dq X pins H f->(∀Z,Inv X pins σ (upd H p (.dT (KW acc ps))) Z->R (.ok (.ret .none)) Z)->∀n:Int,
 codeAny (model X.prog X.w) A (.builtin "dict.update.loop" ⟨[.ref p,.ref f,rawInt n,.none],[]⟩) R s:=by
 intro xs ps d acc s hx
 induction hx generalizing d acc s with
 |nil =>
   intro g K I u m v n;have G:upd H p (.dT acc) l=some (.lst (d++[])):=(AE (AU g k)).trans g;obtain⟨w,y,aa,B,C,D⟩:=m;have J:upd H p (.dT acc) f=none:=(AE F).trans w;obtain⟨z,U,c,E,e⟩:=(show AF X.prog X.w _ s.heap l (.lst (d++[])) from I.hok l _ G);have an:=E.length;rw[EK] at an;refine codeAny_builtin PySem.F.entry_upd_loop ?_;rw[Around.under_plainId PySem.F.plain_upd_loop _];show wpAny _ A.in1 (pyNext (.ref f) >>= _) _ _ s;refine Ag (wpAny_pyNext_list_end hh u ⟨_,e,rfl,c,rfl⟩ (by simp;lia) λj eb=>?_);exact Ag (Az (Az (v _ (I.turned (t':=s.toks) (λb o h e=>eb b o h e) J y B C D))))
 |@cons x q xs ps hq tl ih =>
   intro g K I u m v n;obtain⟨t,b,rfl,L,h⟩:=hq;have G:upd H p (.dT acc) l=some (.lst (d++.ref t::xs)):=(AE (AU g k)).trans g;have af:upd H p (.dT acc) t=some (.tup [.ref b,q.2]):=(AE (AU L k)).trans L;have W:upd H p (.dT acc) b=some (.tup (q.1.map kV)):=(AE (AU h k)).trans h;obtain⟨w,y,aa,B,C,D⟩:=id m;have J:upd H p (.dT acc) f=none:=(AE F).trans w;obtain⟨z,U,c,E,e⟩:=(show AF X.prog X.w _ s.heap l (.lst (d++.ref t::xs)) from I.hok l _ G);obtain⟨ao,ag,ru⟩:=E.get (i:=d.length) (x:=.ref t) (by simp);cases ru;refine codeAny_builtin PySem.F.entry_upd_loop ?_;rw[Around.under_plainId PySem.F.plain_upd_loop _];show wpAny _ A.in1 (pyNext (.ref f) >>= _) _ _ s;refine Ag (wpAny_pyNext_list_item u (⟨_,e,rfl,c,rfl⟩:s.heap.IsList l U.toArray) (x:=.ref t) (by simpa using ag) λj ah sb=>?_);have r:Inv X pins σ (upd H p (.dT acc)) {s with heap:=j}:=I.turned (t':=s.toks) (λb o h e=>(sb.2 b h).trans e) J y B C D;obtain⟨_,ts,rt,ot,M,ct,nt,dt⟩:=(show AF X.prog X.w _ j t (.tup [.ref b,q.2]) from r.hok t _ af);obtain⟨u1,N,rfl,r1,r2⟩:=Jn rt;cases(show u1=Value.ref b from r1);obtain⟨zd,hm,es,Y,dd⟩:=HK r.hok (Aa (H:=H) (a:=p) (o:=.dT acc))
   have ai:es.length<=sizeLine:=by rw[<-Paired.length Y];exact zd
   have aq:(BC acc q.1 q.2).length<=acc.length+1:=PH acc q.1 q.2;rw[EG] at K;refine Ag (FZ (Ag (wpAny_tryCatch ?_)));show wpAny _ A.in1 (Builtin.Dict.pairItems (.ref t)) _ _ _;unfold Builtin.Dict.pairItems;refine Ag (Pp (s:={s with heap:=j}) (T:= "tuple") ⟨ot,M,ct⟩ ?_);rw[Ar (by decide)];refine Ag (GG (s:={s with heap:=j}) M dt (Az ?_));show wpAny _ A.in1 (holding [Value.ref b,N] (dictSet p (.ref b) N)) _ _ _;refine FZ (wpAny_dictSet_heap (hsz:=ai) (knd:=tupleKind (Ff X.prog X.w)) (tupleKind_room_in1 hu) (LD r.hok W) dd λh2 aj O=>?_);obtain⟨P,ak,al,Q,ab,ae,g4,_,g5⟩:=aj
   have I2:Inv X pins σ (upd H p (.dT (BC acc q.1 q.2))) {s with heap:=h2,toks:=s.toks+(tupleKind (Ff X.prog X.w)).draws q.1}:=by
    have:=PJ (t':=s.toks+(tupleKind (Ff X.prog X.w)).draws q.1) (ob:=.dT (BC acc q.1 q.2)) r (by rw[Aa];exact True.intro) O ⟨P,Q⟩ ⟨by lia,hm,_,(Y.put q.1 W r2).keeps λc ys S=>?_,P,ak,al,Q,ab,ae,g4,g5⟩;rw[Jd] at this;exact this;rw[AE (MZ S Aa (λz=>nomatch z))];exact S
   refine Az ⟨plainId_quiet PySem.F.plain_upd_loop _,?_⟩;have:=ih (d++[.ref t]) (BC acc q.1 q.2) _ (by rw[FX];exact g) (by lia) I2 (by rw[AQ];exact ah.at λo e=>(O.2 f F).trans e) m v (n+1);exact this
def JT:List V->Hp->VK->Prop:=λvs H Q=>∃l xs ps,vs=[.ref l]/\H l=some (.lst xs)/\xs.length<sizeLine/\FC H xs ps/\∀p,H p=none->Q (.ref p) (upd H p (.dT (KW [] ps)))
def ZM(k:X.calm=true)(B:X.A.units+2<cLine):Bo X (.type "dict") JT:=by
 intro pins s σ H L M Q I r h;obtain⟨l,m,C,rfl,n,N,D,q⟩:=h;obtain⟨u,rfl,E⟩:=F3 r;cases E;have p:H s.heap.objs.size=none:=I.hok.fresh (AI _);refine callType_codes (Q₁:=λx t=>x=.ref s.heap.objs.size/\t={s with heap:=s.heap.push {cls:=.type "dict",data:=.dict #[]}}) PySem.F.kt_called_dict (PySem.F.kt_typeCall_dict_1 _) PySem.F.entry_dict_init (kt_code_dict_new _ ⟨rfl,rfl⟩) ?_;rintro x t ⟨rfl,rfl⟩;have F:=I.laid (a:=s.heap.objs.size) (o:=.dT []) (t':=s.toks) (h':=s.heap.push {cls:=.type "dict",data:=.dict #[]}) (λζ ζ q=>Bn _ q) (AI _) (VM s.heap I.big)
 obtain⟨z,P,c,O,e⟩:=(show AF X.prog X.w _ s.heap l (.lst m) from I.hok l _ n)
 have f:=Bn {cls:=.type "dict",data:=.dict #[]} e;have v:Shared.TypeIs {s with heap:=s.heap.push {cls:=.type "dict",data:=.dict #[]}} (.ref s.heap.objs.size) "dict" :=⟨_,Co _ rfl,rfl⟩;refine⟨v,PySem.F.args_dict_init_2 _ _,?_⟩;unfold Builtin.«dict.__init__»;refine Ag ?_;unfold Builtin.Dict.selfAndRest;refine Ag (wpAny_notOrdered_dict v ?_);show wpAny _ _ (pure (s.heap.objs.size,[Value.ref l])) _ _ _;refine Az ?_;show wpAny _ _ (Builtin.Dict.updateFrom "dict.__init__" s.heap.objs.size (.ref l) [] .none) _ _ _;unfold Builtin.Dict.updateFrom;refine Ag (Pp (T:= "list") ⟨_,f,rfl⟩ ?_)
 rw[Ar (by decide)];refine Ag (ZI f rfl rfl rfl (I.ok.hd k) λd g w=>?_);rw[Ar (show(none:Option Value).isNone=true from rfl)];have i:=F.kept (t':=g) w;refine Ag (IH (Ag (wpAny_pyIter_list (s:={s with heap:=d,toks:=g}) ⟨_,w _ _ f,rfl,c,rfl⟩ ?_)))
 have G:=i.kept (t':=g) (h':=d.push {cls:=.type "list_iterator",data:=.fields #[.ref l,.int 0 0]}) λb o e=>Bn _ e;obtain⟨j,J⟩:=i.fpOk (AI d.objs.size) (i.hok.fresh (AI _));have y:d.objs.size≠s.heap.objs.size:=λz=>by rw[z,Aa] at j;cases j
 refine Az ⟨plainId_quiet PySem.F.plain_upd_loop _,ZL (A:=X.A.in1) (X:=X) (pins:=pins) (σ:=σ) (l:=l) (H:=H) B (I.ok.hd k) p y m C [] [] _ D n (by rw[GX];lia) G ⟨_,Co _ rfl,rfl,rfl⟩ ⟨(AE y).symm.trans j,J⟩ (λZ K=>⟨rfl,.ref _,_,K,rfl,q _ p⟩) 0⟩
end
open Ord
def ZN{bs:List Bool}:(List.range bs.length).any (λi=>bs.getD i false)=bs.any id:=by
 rw[Bool.eq_iff_iff,Jb,Jb];constructor;rintro⟨i,a,h⟩;have c:=List.mem_range.mp a;rw[BW,AA c] at h;exact⟨_,DX c,h⟩;rintro⟨b,d,h⟩;obtain⟨i,a,e⟩:=Pk.mp d;refine⟨i,List.mem_range.mpr a,?_⟩;rw[BW,AA a,e];exact h
def TN (K:Aj):List V->Hp->VK->Prop:=λvs H Q=>∃(a:Addr)(bs:List Bool),vs=[.ref a]/\Af K H a (bs.map V.bl)/\Q (.bl (bs.any id)) H
def ZO{X:Cx}(g:X.calm=true):Bo X (.builtin "any") (TN X.K):=by
 intro C s σ H t w Q I r h;obtain⟨a,bs,rfl,j,q⟩:=h;obtain⟨u,rfl,k⟩:=F3 r;obtain rfl:u=Value.ref a:=k;obtain⟨c,d,p,x⟩:=I.list j;have f:=d.length;rw[Ak] at f;have n:a<s.heap.objs.size:=by obtain⟨_,e,_⟩:=p.isList;exact Bj e
 refine call_any_walk (wpAny_pyIter_list p.isList ?_);refine⟨s.heap.objs.size,[s.heap.objs.size,a],[s.heap.objs.size],c.toArray.size,(λi v=>c.toArray[i]?=some v),(λi h=>h.IsListIter s.heap.objs.size a i/\h.IsList a c.toArray),(λi=>bs.getD i false),rfl,Walks.list (A:=X.A.in1) (I.ok.hd g) s.heap.objs.size a (CF n) c.toArray,⟨⟨_,Co _ rfl,rfl,rfl⟩,p.isList.push _⟩,VO d,λy B l=>?_⟩;refine⟨.bl (bs.any id),H,I.kept λb o e=>l b o (λz=>?_) (Bn _ e),?_,q⟩;have m:b=s.heap.objs.size:=(by simpa using z);exact absurd (Bj e) (by rw[m];exact GY _);have e:c.toArray.size=bs.length:=(by rw[Cw,f]);show Value.bool _=Value.bool _;rw[e,ZN]
section
variable {prog:Program} {w:World} {A:Around} {E:G'} {s:Shared}
end
section
variable {X:Cx}
end
end L2
namespace TreeM
def TQ{β:Type}{P:List β->Prop}(nil:P [])(snoc:∀l x,P l->P (l++[x]))(l:List β):P l:=by
 have:∀l:List β,P l.reverse:=λl=>by
  induction l with
  |nil=>exact nil
  |cons x l a=>rw[List.reverse_cons];exact snoc _ _ a
 rw[<-List.reverse_reverse l];exact this _
variable {α:Type} [DecidableEq α]
abbrev Ws (α:Type):=List (Nat×List α)
def GA (p:List α) (w:List α):Option α:=if p <+: w then w[p.length]? else none
def keysAt (ws:Ws α) (p:List α):List (α×Nat):=ws.foldl (λks kw=>match GA p kw.2 with
 |some m=>if m∈ks.map (·.1) then ks else ks++[(m,kw.1)]
 |none=>ks) []
theorem KX(ws:Ws α)(k:Nat)(w p:List α):keysAt (ws++[(k,w)]) p=match GA p w with
 |some m=>if m∈(keysAt ws p).map (·.1) then keysAt ws p else keysAt ws p++[(m,k)]
 |none=>keysAt ws p:=by
 unfold keysAt;rw[KA];rfl
def JU(p:List α):GA p p=none:=by
 unfold GA;rw[Ar (List.prefix_refl p)];exact Hk (AI _)
def ZP(p:List α)(m:α):GA p (p++[m])=some m:=by
 unfold GA;rw[Ar (MW p [m]),FL (AI _),Nat.sub_self];rfl
variable {p:List α}{m:α}
def ZQ{q:List α}(h:p≠q):GA p (q++[m])=GA p q:=by
 unfold GA;by_cases a:p <+: q;rw[Ar a,Ar (a.trans (MW q [m]))]
 have l:p.length<q.length:=by
  rcases Nat.lt_or_ge p.length q.length with x|x;exact x;exact absurd (a.eq_of_length_le x) h
 exact Ft l;rw[Ao a];by_cases b:p <+: q++[m];rw[Ar b];rcases List.prefix_concat_iff.mp b with e|e;rw[e];exact Hk (AI _);exact absurd e a;rw[Ao b]
def ZR(ws:Ws α)(k:Nat)(p:List α):keysAt (ws++[(k,[])]) p=keysAt ws p:=by
 rw[KX]
 have:GA p ([]:List α)=none:=by
  unfold GA;by_cases a:p <+: [];rw[Ar a];rfl;rw[Ao a]
 rw[this]
variable {ws:Ws α}
def TR{k:Nat}{q:List α}(h:p≠q):keysAt (ws++[(k,q++[m])]) p=keysAt (ws++[(k,q)]) p:=by
 rw[KX,KX,ZQ h]
def WI(ws:Ws α)(k:Nat)(q:List α)(m:α):keysAt (ws++[(k,q++[m])]) q =
 if m∈(keysAt (ws++[(k,q)]) q).map (·.1) then keysAt (ws++[(k,q)]) q else keysAt (ws++[(k,q)]) q++[(m,k)]:=by
 rw[KX,KX,ZP,JU]
def Ga{w:List α}:GA p w=some m↔p++[m] <+: w:=by
 unfold GA;by_cases a:p <+: w;rw[Ar a];obtain⟨t,rfl⟩:=a;rw[FL (AI _),Nat.sub_self]
 cases t with
 |nil =>
   refine⟨λe=>(nomatch e),λe=>?_⟩;have:=e.length_le;rw[EK,AQ] at this;exact absurd this (by show ¬p.length+1<=p.length;lia)
 |cons x t =>
   refine⟨λe=>?_,λe=>?_⟩;cases e;exact⟨t,by simp⟩;obtain⟨u,e⟩:=e;rw[FX] at e;have:=List.append_cancel_left e;simp at this;rw[this.1];rfl
 rw[Ao a];exact⟨λe=>(nomatch e),λe=>absurd ((MW p [m]).trans e) a⟩
def keysAt_mem:m∈(keysAt ws p).map (·.1)↔∃a∈ws,p++[m] <+: a.2:=by
 induction ws using TQ with
 |nil=>exact⟨λh=>(nomatch h),λ⟨_,h,_⟩=>(nomatch h)⟩
 |snoc ws a c =>
   obtain⟨k,w⟩:=a;rw[KX]
   have both:(∃a∈ws++[(k,w)],p++[m] <+: a.2)↔(∃a∈ws,p++[m] <+: a.2)\/p++[m] <+: w:=by
    constructor;rintro⟨x,b,e⟩;rcases BI.mp b with y|y;exact .inl ⟨x,y,e⟩;rw[A7.mp y] at e;exact .inr e;rintro(⟨x,b,e⟩|e);exact⟨x,GW _ b,e⟩;exact⟨_,Ev _ (A7.mpr rfl),e⟩
   rw[both,<-c,<-Ga]
   cases b:GA p w with
   |none=>exact⟨.inl,λz=>z.elim id λe=>(nomatch e)⟩
   |some x =>
     dsimp only;by_cases d:x∈(keysAt ws p).map (·.1);rw[Ar d];exact⟨.inl,λz=>z.elim id λe=>by cases e;exact d⟩;rw[Ao d,A6,BI];refine or_congr Iff.rfl ?_;simp[eq_comm]
def WJ{k:Nat}(l:(ws.map (·.1)).Pairwise (· < ·))(h:(m,k)∈keysAt ws p):(∃w,(k,w)∈ws/\p++[m] <+: w)/\∀j w,(j,w)∈ws->p++[m] <+: w->k<=j:=by
 induction ws using TQ with
 |nil=>cases h
 |snoc ws o q =>
   obtain⟨n,v⟩:=o;rw[A6,List.pairwise_append] at l;obtain⟨r,-,s⟩:=l;have z:∀j w,(j,w)∈ws->j<n:=λj w e=>s j (AN.mpr ⟨_,e,rfl⟩) n (A7.mpr rfl);rw[KX] at h
   have i:(m,k)∈keysAt ws p->(∃w,(k,w)∈ws++[(n,v)]/\p++[m] <+: w)/\∀j w,(j,w)∈ws++[(n,v)]->p++[m] <+: w->k<=j:=λt=>by
    obtain⟨⟨w,a,b⟩,c⟩:=q r t;refine⟨⟨w,GW _ a,b⟩,λj u e f=>?_⟩;rcases BI.mp e with y|y;exact c j u y f;cases A7.mp y;exact CQ (z _ _ a)
   cases g:GA p v with
   |none=>rw[g] at h;exact i h
   |some x =>
     rw[g] at h;dsimp only at h;by_cases d:x∈(keysAt ws p).map (·.1);rw[Ar d] at h;exact i h;rw[Ao d] at h;rcases BI.mp h with y|y;exact i y;cases A7.mp y;refine⟨⟨v,Ev _ (A7.mpr rfl),Ga.mp g⟩,λj u e f=>?_⟩;rcases BI.mp e with y|y;exact absurd (keysAt_mem.mpr ⟨_,y,f⟩) d;cases A7.mp y;exact AI _
section
variable (bet:α->α->Bool)
def AL:List α->List α->Bool
 |x::s,m::t=>if x=m then AL s t else bet x m
 |_,_=>false
def gat (ws:Ws α):List α->List α->List Nat
 |_,[]=>[]
 |a,m::t=>((keysAt ws a).filter λxk=>bet xk.1 m).map (·.2)++gat ws (a++[m]) t
end
variable {bet:α->α->Bool}
def L5{a b:List α}{x:α}{t:List α}(h:a++[x] <+: b)(c:x≠m):AL bet b (a++m::t)=bet x m:=by
 obtain⟨u,rfl⟩:=h
 induction a with
 |nil=>show(if x=m then _ else bet x m)=_;rw[Ao c]
 |cons y a d=>show(if y=y then _ else _)=_;rw[Ar rfl];exact d
theorem WK{ws:Ws α}(g:(ws.map (·.1)).Pairwise (· < ·))(irr:∀m,bet m m=false):∀(b a:List α)(k:Nat),k∈gat bet ws a b->∃w,(k,w)∈ws/\AL bet w (a++b)=true
 |[],_,_,h=>nomatch h
 |m::t,a,k,h=>by
   rcases BI.mp h with y|y;obtain⟨⟨x,j⟩,z,rfl⟩:=AN.mp y;obtain⟨i,d⟩:=Ny.mp z;obtain⟨⟨w,f,c⟩,-⟩:=WJ g i;refine⟨w,f,?_⟩;rw[L5 c (λe=>?_)];exact d;rw[e,irr] at d;cases d;obtain⟨w,f,c⟩:=WK g irr t (a++[m]) k y;refine⟨w,f,?_⟩;rw[FX] at c;exact c
theorem WL:∀{b w:List α},AL bet w b=true->∃a x m t,b=a++m::t/\a++[x] <+: w/\x≠m/\bet x m=true
 |m::t,x::s,h=>by
   by_cases e:x=m;subst e;have h':AL bet s t=true:=(by simpa [AL] using h);obtain⟨a,y,n,u,rfl,c,d,f⟩:=WL h';exact⟨x::a,y,n,u,rfl,List.cons_prefix_cons.mpr ⟨rfl,c⟩,d,f⟩;have h':bet x m=true:=(by simpa [AL,e] using h);exact⟨[],x,m,t,rfl,List.cons_prefix_cons.mpr ⟨rfl,List.nil_prefix⟩,e,h'⟩
 |[],[],h=>nomatch h
 |[],_::_,h=>nomatch h
 |_::_,[],h=>nomatch h
theorem WM{ws:Ws α}:∀{a b c:List α}{m x:α}{t:List α}{k:Nat},(x,k)∈keysAt ws (c++a)->bet x m=true->b=a++m::t->k∈gat bet ws c b
 |[],b,c,m,x,t,k,d,e,f=>by
   subst f;rw[EK] at d;exact GW _ (AN.mpr ⟨_,Ny.mpr ⟨d,e⟩,rfl⟩)
 |y::a,b,c,m,x,t,k,d,e,f=>by
   subst f;refine Ev _ (WM (a:=a) (m:=m) (x:=x) (t:=t) ?_ e rfl);rw[FX];exact d
def ZS(i:(ws.map (·.1)).Pairwise (· < ·)){b w:List α}{j:Nat}(h:(j,w)∈ws)(l:AL bet w b=true):∃k∈gat bet ws [] b,k<=j:=by
 obtain⟨a,x,m,t,e,d,-,n⟩:=WL l;obtain⟨⟨y,k⟩,f,g⟩:=AN.mp (keysAt_mem.mpr ⟨_,h,d⟩);dsimp only at g;subst g;exact⟨k,WM (a:=a) (c:=[]) f n e,(WJ i f).2 j w h d⟩
end TreeM
namespace L2
open PySem PySem.Spec PyProof.Rows Ord TreeM
variable {A:Around}{k:Nat}
def L6(a:B3 k A):A.units+2<cLine:=Nat.lt_of_le_of_lt (Nat.add_le_add_left (by decide:2<=64) _) a.units
abbrev Gq (m:Aq):List A8:=[.inl m.1,.inr m.2.1,.inl m.2.2]
def ZT{a b:Aq}(h:Gq a=Gq b):a=b:=by
 obtain⟨c,d,e⟩:=a;obtain⟨f,g,i⟩:=b;simp only[Gq,List.cons.injEq,Sum.inl.injEq,Sum.inr.injEq,and_true] at h;rw[h.1,h.2.1,h.2.2]
def Ee (ws:Ws Aq) (c:List Aq->Aq->Addr) (p:List Aq):List (List A8×V):=(keysAt ws p).map λmk=>(Gq mk.1,V.ref (c p mk.1))
theorem WN{c:Aq->Addr}{m:Aq}:∀{ks:List (Aq×Nat)},Ba (ks.map λmk=>(Gq mk.1,V.ref (c mk.1))) (Gq m)=if m∈ks.map (·.1) then some (.ref (c m)) else none
 |[]=>rfl
 | (x,k) :: ks=>by
   rw[Ew];by_cases h:x=m;subst h;rw[Ho rfl,Ar (by simp)];rw[Hq (λz=>h (ZT z)),WN]
   have:(m∈List.map (·.1) ((x,k)::ks))↔m∈ks.map (·.1):=by
    rw[Ew,Cc];exact⟨λz=>z.elim (λe=>absurd e.symm h) id,.inr⟩
   by_cases a:m∈ks.map (·.1);rw[Ar a,Ar (this.mpr a)];rw[Ao a,Ao (λz=>a (this.mp z))]
variable {ws:Ws Aq}{c:List Aq->Aq->Addr}{p:List Aq}{m:Aq}
def OC:Ba (Ee ws c p) (Gq m)=if m∈(keysAt ws p).map (·.1) then some (.ref (c p m)) else none:=WN (c:=c p)
def Ez (ws:Ws Aq) (p:List Aq):Prop:=p=[]\/∃kw∈ws,p <+: kw.2
def WO(h:¬Ez ws p):keysAt ws p=[]:=by
 cases e:keysAt ws p with
 |nil=>rfl
 |cons x l =>
   exfalso;obtain⟨a,b,c⟩:=keysAt_mem.mp (show x.1∈(keysAt ws p).map (·.1) by rw[e];simp);exact h (.inr ⟨a,b,(MW p _).trans c⟩)
def FP:Ez ws (p++[m])↔m∈(keysAt ws p).map (·.1):=by
 rw[keysAt_mem];exact⟨λh=>h.elim (λe=>absurd e (by simp)) id,.inr⟩
structure Bk (φ:Hp->Addr->List (List A8×V)->Prop) (H:Hp) (ws:Ws Aq) (d:List Aq->Addr) (c:List Aq->Aq->Addr):Prop where
 dct:∀p,Ez ws p->φ H (d p) (Ee ws c p)
 tup:∀p m k,(m,k)∈keysAt ws p->H (c p m)=some (.tup [.int (k:Int),.ref (d (p++[m]))])
 inj:∀p q,Ez ws p->Ez ws q->d p=d q->p=q
abbrev dW:Hp->Addr->List (List A8×V)->Prop:=λH a kvs=>H a=some (.dT kvs)
abbrev dF:Hp->Addr->List (List A8×V)->Prop:=λH a kvs=>∃o,H a=some (.frz o (.dT kvs))
variable {H H':Hp}{d:List Aq->Addr}
def Bk.same(e:Ac H H')(h:Bk dF H ws d c):Bk dF H' ws d c:=
 ⟨λp a=>let ⟨o,x⟩:=h.dct p a;⟨o,e _ _ x⟩,λp m k b=>e _ _ (h.tup p m k b),h.inj⟩
def Bk.sameW(e:Ac H H')(h:Bk dW H ws d c):Bk dW H' ws d c:=
 ⟨λp a=>e _ _ (h.dct p a),λp m k b=>e _ _ (h.tup p m k b),h.inj⟩
variable {n:Nat}{g:List Aq}
def Qa(d:m∈(keysAt (ws++[(n,g)]) g).map (·.1)):Ez (ws++[(n,g++[m])]) p↔Ez (ws++[(n,g)]) p:=by
 constructor;rintro(h|⟨b,c,a⟩);exact .inl h;rcases BI.mp c with y|y;exact .inr ⟨b,GW _ y,a⟩;rw[A7.mp y] at a;rcases List.prefix_concat_iff.mp a with e|e;rw[e];exact FP.mpr d;exact .inr ⟨_,Ev _ (A7.mpr rfl),e⟩;rintro(h|⟨b,c,a⟩);exact .inl h;rcases BI.mp c with y|y;exact .inr ⟨b,GW _ y,a⟩;rw[A7.mp y] at a;exact .inr ⟨_,Ev _ (A7.mpr rfl),a.trans (MW g [m])⟩
def Bk.stay{φ:Hp->Addr->List (List A8×V)->Prop}(h:Bk φ H (ws++[(n,g)]) d c)(a:m∈(keysAt (ws++[(n,g)]) g).map (·.1)):Bk φ H (ws++[(n,g++[m])]) d c:=by
 have f:∀p,keysAt (ws++[(n,g++[m])]) p=keysAt (ws++[(n,g)]) p:=λp=>by
  by_cases e:p=g;subst e;rw[WI,Ar a];exact TR e
 refine⟨λp b=>?_,λp x k i=>h.tup p x k (by rw[<-f];exact i),λp q b j=>h.inj p q ((Qa a).mp b) ((Qa a).mp j)⟩;have:=h.dct p ((Qa a).mp b);unfold Ee at this ⊢;rw[f];exact this
variable {v:V}
def ZU{kvs:List (List A8×V)}{k:List A8}(h:Ba kvs k=none):BC kvs k v=kvs++[(k,v)]:=by
 unfold BC;rw[Ao (by rw[N6,h];simp)]
variable {e T:Addr}
def Bk.grow{u:Hp}(h:Bk dW H (ws++[(n,g)]) d c)(j:m∉(keysAt (ws++[(n,g)]) g).map (·.1))
 (G:H e=none) (I:∀p,Ez (ws++[(n,g)]) p->u (d p)=none) (U:u e=none) (s:Ac H H') (J:H' e=some (.dT [])) (C:H' T=some (.tup [.int (n:Int),.ref e])) :
 ∃d' K,Bk dW (upd H' (d g) (.dT (BC (Ee (ws++[(n,g)]) c g) (Gq m) (.ref T)))) (ws++[(n,g++[m])]) d' K/\d' (g++[m])=e/\(∀p,Ez (ws++[(n,g++[m])]) p->u (d' p)=none)/\d' []=d []:=by
 have r:Ez (ws++[(n,g)]) g:=.inr ⟨_,Ev _ (A7.mpr rfl),List.prefix_refl g⟩;have L:Ba (Ee (ws++[(n,g)]) c g) (Gq m)=none:=(by rw[OC,Ao j])
 have w:∀{p},Ez (ws++[(n,g++[m])]) p->p=g++[m]\/p≠g++[m]/\Ez (ws++[(n,g)]) p:=λ{p}a=>by
  by_cases e:p=g++[m];exact .inl e;refine .inr ⟨e,?_⟩;rcases a with z|⟨M,N,A⟩;exact .inl z;rcases BI.mp N with y|y;exact .inr ⟨M,GW _ y,A⟩;rw[A7.mp y] at A;rcases List.prefix_concat_iff.mp A with z|z;exact absurd z e;exact .inr ⟨_,Ev _ (A7.mpr rfl),z⟩
 have B:∀p,Ez (ws++[(n,g)]) p->d p≠e:=λp a z=>by have this:H (d p)=some _:=h.dct p a;rw[z,G] at this;cases this
 have W:T≠d g:=λz=>by
  have:=s _ _ (h.dct g r);rw[<-z,C] at this;cases this
 have O:¬Ez (ws++[(n,g)]) (g++[m]):=λz=>j (FP.mp z)
 have P:keysAt (ws++[(n,g++[m])]) (g++[m])=[]:=by
  rw[TR (by simp)];exact WO O
 have D:∀p,p≠g->keysAt (ws++[(n,g++[m])]) p=keysAt (ws++[(n,g)]) p:=λp a=>TR a;have F:keysAt (ws++[(n,g++[m])]) g=keysAt (ws++[(n,g)]) g++[(m,n)]:=(by rw[WI,Ao j])
 refine⟨λp=>if p=g++[m] then e else d p,λp x=>if p=g/\x=m then T else c p x,⟨λp a=>?_,λp x k o=>?_,λp q a Q X=>?_⟩,Ar rfl,λp a=>?_,Ao (by simp)⟩
 show upd _ _ _ (if p=g++[m] then e else d p)=some _
 rcases w a with z|⟨z,f⟩;subst z;rw[Ar rfl,AE (Ne.symm (B g r)),J];unfold Ee;rw[P];rfl;rw[Ao z];by_cases b:p=g;subst b;rw[Aa,ZU L];unfold Ee;rw[F,A6]
 have:∀l:List (Aq×Nat),m∉l.map (·.1)->(l.map λmk=>(Gq mk.1,V.ref (c p mk.1)))=l.map λmk=>(Gq mk.1,V.ref (if p=p/\mk.1=m then T else c p mk.1)):=λl R=>List.map_congr_left λmk Y=>by
  rw[Ao (λz=>R (AN.mpr ⟨mk,Y,z.2⟩))]
 rw[this _ j,Ew,NA];dsimp only;rw[Ar ⟨rfl,rfl⟩];rw[AE (λS=>b (h.inj p g f r S))];have:=s _ _ (h.dct p f);unfold Ee at this ⊢;rw[D p b,this]
 congr 2
 exact List.map_congr_left λmk ζ=>by
  show _=(Gq mk.1,V.ref (if p=g/\mk.1=m then T else c p mk.1));rw[Ao (λz=>b z.1)]
 show upd _ _ _ (if p=g/\x=m then T else c p x)=some (.tup [_,.ref (if p++[x]=g++[m] then e else d (p++[x]))])
 by_cases b:p=g;subst b;rw[F] at o;by_cases v:x=m;subst v;rw[Ar ⟨rfl,rfl⟩,Ar rfl,AE W,C];rcases BI.mp o with y|y;exact absurd (AN.mpr ⟨_,y,rfl⟩) j;cases A7.mp y;rfl;rcases BI.mp o with y|y;rw[Ao (λz=>v z.2),Ao (λz=>v (by simpa using z))];have t:=h.tup p x k y;rw[AE (λz=>by have this:H (d p)=some _:=h.dct p r;rw[<-z,t] at this;cases this)];exact s _ _ t;cases A7.mp y;exact absurd rfl v;rw[D p b] at o
 rw[Ao (λz=>b z.1),Ao (show ¬(p++[x]=g++[m]) from λz=>b (List.append_inj_left' z rfl))];have t:=h.tup p x k o;rw[AE (λz=>by have this:H (d g)=some _:=h.dct g r;rw[<-z,t] at this;cases this)];exact s _ _ t
 have i:(if p=g++[m] then e else d p)=(if q=g++[m] then e else d q):=X
 rcases w a with z|⟨z,f⟩<;>rcases w Q with y|⟨y,E⟩;rw[z,y];rw[Ar z,Ao y] at i;exact absurd i.symm (B q E);rw[Ao z,Ar y] at i;exact absurd i (B p f);rw[Ao z,Ao y] at i;exact h.inj p q f E i
 show u (if p=g++[m] then e else d p)=none
 rcases w a with z|⟨z,f⟩;rw[Ar z];exact U;rw[Ao z];exact I p f
def WP(ws:Ws Aq)(n:Nat)(p:List Aq):keysAt (ws++[(n,[])]) p=keysAt ws p:=ZR ws n p
def Bk.begin{φ:Hp->Addr->List (List A8×V)->Prop}(h:Bk φ H ws d c):Bk φ H (ws++[(n,[])]) d c:=by
 have i:∀{p},Ez (ws++[(n,[])]) p->Ez ws p:=λ{p}a=>by
  rcases a with z|⟨e,f,b⟩;exact .inl z;rcases BI.mp f with y|y;exact .inr ⟨e,y,b⟩;rw[A7.mp y] at b;exact .inl (List.prefix_nil.mp b)
 refine⟨λp a=>?_,λp m k g=>h.tup p m k (by rw[<-WP];exact g),λp q a j=>h.inj p q (i a) (i j)⟩;have:=h.dct p (i a);unfold Ee at this ⊢;rw[WP];exact this
def Bk.frz{H U Y:Hp}{ws:Ws Aq}{d:List Aq->Addr}{c:List Aq->Aq->Addr}(h:Bk dW U ws d c)(e:∀p,Ez ws p->H (d p)=none)(f:P7 H U Y)(g:∀b kvs,H b=none->U b=some (.dT kvs)->∃o,Y b=some (.frz o (.dT kvs))):Bk dF Y ws d c:=by
 refine⟨λp a=>g _ _ (e p a) (h.dct p a),λp m k i=>?_,h.inj⟩;have t:=h.tup p m k i;rcases f (c p m) with z|⟨_,kvs,o,z,_⟩;rw[z];exact t;rw[t] at z;cases z
variable {U:Hp}
def P7.same{Y:Hp}(s:Ac H U)(f:P7 H U Y):Ac H Y:=λb o e=>by
 rcases f b with z|⟨z,_⟩;rw[z];exact s _ _ e;rw[e] at z;cases z
def TU(ws:Ws Aq)(p:List Aq):(keysAt ws p).length<=ws.length:=by
 induction ws using TQ with
 |nil=>exact AI _
 |snoc ws a b =>
   obtain⟨k,w⟩:=a;rw[KX,AQ];split;split;lia;rw[AQ];simp;exact b;lia
abbrev FQ (p:Str×Str):List A8:=[.inr p.1,.inr p.2]
def FC.tups(e:∀b xs,H b=some (.tup xs)->H' b=some (.tup xs)):∀{xs:List V}{ps:List (List A8×V)},FC H xs ps->FC H' xs ps:=λh =>
 Paired.mapP h λ_ _⟨t,b,a,c,d⟩=>⟨t,b,a,e _ _ c,e _ _ d⟩
theorem WQ{k:List A8}:∀{ps acc:List (List A8×V)},(Ba (KW acc ps) k).isSome=true↔(Ba acc k).isSome=true\/k∈ps.map (·.1)
 |[],acc=>by simp[KW]
 |p::ps,acc=>by
   show(Ba (KW (BC acc p.1 p.2) ps) k).isSome=true↔_;rw[WQ,YC,Ew,Cc];by_cases h:k=p.1;rw[Ar h];simp[h];rw[Ao h];simp[h]
def Ib (H:Hp) (p:Addr) (ord:A'):Prop:=∃kvs,H p=some (.dT kvs)/\∀a b,(Ba kvs (FQ (a,b))).isSome=dec ((a,b)∈ord)
variable {ord:A'}
def Ib.same{p:Addr}(e:Ac H H')(h:Ib H p ord):Ib H' p ord:=let ⟨k,a,b⟩:=h;⟨k,e _ _ a,b⟩
def ZV(a b:Str):(Ba (KW [] (ord.map λp=>(FQ p,V.bl true))) (FQ (a,b))).isSome=dec ((a,b)∈ord):=by
 have:(Ba (KW [] (ord.map λp=>(FQ p,V.bl true))) (FQ (a,b))).isSome=true ↔ (a,b)∈ord:=by
  rw[WQ];constructor;rintro(h|h);simp[Ba] at h;rw[EE] at h;obtain⟨q,c,e⟩:=AN.mp h;obtain⟨d,f⟩:=q;simp at e;rw[<-e.1,<-e.2];exact c;intro h;refine .inr ?_;rw[EE];exact AN.mpr ⟨_,h,rfl⟩
 by_cases h:(a,b)∈ord;rw[Fa h];exact this.mpr h;rw[Go h]
 cases e:(Ba (KW [] (ord.map λp=>(FQ p,V.bl true))) (FQ (a,b))).isSome with
 |false=>rfl
 |true=>exact absurd (this.mp e) h
def Be (l:List (List Aq)):Ws Aq:=l.zipIdx.map λp=>(p.2,p.1)
def ZW(l:List (List Aq))(w:List Aq):Be (l++[w])=Be l++[(l.length,w)]:=by
 unfold Be;rw[List.zipIdx_append,A6]
 simp
variable {l:List (List Aq)}{i:Nat}{w:List Aq}
def ZX(h:l[i]?=some w):Be (l.take (i+1))=Be (l.take i)++[(i,w)]:=by
 have a:=(Bh.mp h).1;rw[D7,h];show Be (l.take i++[w])=_;rw[ZW,EJ,Nat.min_eq_left (CQ a)]
def WR(l:List (List Aq)):((Be l).map (·.1)).Pairwise (· < ·):=by
 have:(Be l).map (·.1)=List.range l.length:=by
  unfold Be;rw[EE,List.range_eq_range'];exact List.zipIdx_map_snd 0 l
 rw[this];exact List.pairwise_lt_range
def Dw:(k,w)∈Be l↔l[k]?=some w:=by
 unfold Be;rw[AN];constructor;rintro⟨⟨a,b⟩,h,e⟩;cases e;exact List.mem_zipIdx_iff_getElem?.mp h;intro h;exact⟨(w,k),List.mem_zipIdx_iff_getElem?.mpr h,rfl⟩
noncomputable def Cg (ss:List Bg) (ord:A') (x m:Aq):Bool:=dec ((EH ss x,EH ss m)∈ord)
variable {ss:List Bg}
def ZY(h:∀x,(x,x)∉ord)(m:Aq):Cg ss ord m m=false:=Go (h _)
theorem TV(ss:List Bg)(ord:A'):∀(a b:List Aq),AL (Cg ss ord) a b=CB ss ord a b
 |x::s,m::t=>by
   show(if x=m then _ else Cg ss ord x m)=_
   by_cases e:x=m;subst e;rw[Ar rfl,WA];exact TV ss ord s t;rw[Ao e,WB ss ord s t e];rfl
 |[],m=>by rw[TF ss ord (.inl rfl)];rfl
 |_::_,[]=>by rw[TF ss ord (.inr rfl)];rfl
def JV(h:∀x,(x,x)∉ord):gat (Cg ss ord) (Be l) [] w=[]↔∀v∈l,CB ss ord v w=false:=by
 constructor;intro e v b;obtain⟨k,d⟩:=List.mem_iff_getElem?.mp b
 cases a:CB ss ord v w with
 |false=>rfl
 |true =>
   obtain⟨j,c,_⟩:=ZS (WR l) (Dw.mpr d) (by rw[TV];exact a);rw[e] at c;cases c
 intro f
 cases e:gat (Cg ss ord) (Be l) [] w with
 |nil=>rfl
 |cons k g =>
   exfalso;obtain⟨v,b,a⟩:=WK (WR l) (ZY h) w [] k (by rw[e];simp);rw[List.nil_append,TV] at a;rw[f v (List.mem_iff_getElem?.mpr ⟨k,Dw.mp b⟩)] at a;cases a
noncomputable def Dx (ss:List Bg) (ord:A') (all l:List (List Aq)):List (List Aq):=l.filter λw=>!all.any λv=>CB ss ord v w
def TW{all:List (List Aq)}(h:l[i]?=some w):Dx ss ord all (l.take (i+1))=if(all.any λv=>CB ss ord v w)=true then Dx ss ord all (l.take i) else Dx ss ord all (l.take i)++[w]:=by
 unfold Dx;rw[D7,h,NB];show _++List.filter _ [w]=_;rw[MV]
 cases all.any λv=>CB ss ord v w with
 |true=>rw[Ar rfl];simp
 |false=>simp
def TX{all:List (List Aq)}:(Dx ss ord all l).length<=l.length:=Pl _ _
def CP{ks:List Nat}:P9 (ks.map λk:Nat=>(k:Int))=.non↔ks=[]:=by
 cases ks with
 |nil=>exact⟨λζ=>rfl,λζ=>rfl⟩
 |cons k ks=>exact⟨λh=>(nomatch h),λh=>(nomatch h)⟩
def Qb(h:∀x,(x,x)∉ord):gat (Cg ss ord) (Be l) [] w=[]↔(l.any λv=>CB ss ord v w)=false:=by
 rw[JV h,List.any_eq_false];exact⟨λz v a=>by rw[z v a];simp,λz v a=>by have:=z v a;simpa using this⟩
section
variable {prog:Program} {w:World} {A:Around} {E:G'} {s:Shared}
theorem Qc{j p:Addr}{vs:Array Value}{y:Value}{Q:G'}(c:s.heap.IsTupleIter j p k)(d:s.heap.IsTuple p vs)(e:vs[k]?=some y)
 (q:∀g,g.IsTupleIter j p (k+1)->Heap.SameBut j s.heap g->Q y {s with heap:=g}):wpAny (model prog w) A (Builtin.SmallTypes.nextOf (.ref j)) Q E s:=by
 obtain⟨l,b,f,a⟩:=id c;obtain⟨m,h,_,_,i⟩:=d;unfold Builtin.SmallTypes.nextOf;refine Ag (wpAny_callSpecial?_slot (name:=Str.ofString "__next__") c.typeIs F.slot_tuple_iterator_next (wpAny_call_entry F.slot_tuple_iterator_next c.typeIs F.entry_tuple_iterator_next ?_ (F.args_tuple_iterator_next_1 _)))
 show wpAny _ _ (field (.ref j) 0 >>= _) _ _ s;refine Ag (wpAny_field b a (x:=.ref p) rfl ?_);show wpAny _ _ (if(Value.ref p==Value.none)=true then _ else _) _ _ s;rw[Ao (show ¬((Value.ref p==Value.none)=true) from CS)];show wpAny _ _ (field (.ref j) 1 >>= _) _ _ s;refine Ag (wpAny_field b a (x:=.int k 0) rfl ?_);show wpAny _ _ (seqItems? (.ref p) >>= _) _ _ s;refine Ag (GG h i ?_);simp only[Bw,e];refine Ag (wpAny_setField b a (by simp) (Az ⟨y,rfl,Az (q _ ⟨_,Heap.get?_update_self _ b (Obj.isFreed_of_fields (Obj.data_mapFields a _)),(Obj.cls_mapFields ..).trans f,by rw[Obj.data_mapFields a];simp[rawInt]⟩ (Heap.SameBut.update ..))⟩))
theorem TY{j p:Addr}{vs:Array Value}{Q:G'}(e:A.handled=none)(b:s.heap.IsTupleIter j p k)(f:s.heap.IsTuple p vs)(h:vs[k]?=none)
 (q:∀g x,Heap.ExtBut j s.heap g->(∃o,g.get? x=some o/\o.cls=.type "StopIteration")->E (.ref x) {s with heap:=g}):wpAny (model prog w) A (Builtin.SmallTypes.nextOf (.ref j)) Q E s:=by
 obtain⟨n,c,r,d⟩:=id b;obtain⟨t,i,_,_,l⟩:=f;unfold Builtin.SmallTypes.nextOf;refine Ag (wpAny_callSpecial?_slot (name:=Str.ofString "__next__") b.typeIs F.slot_tuple_iterator_next (wpAny_call_entry F.slot_tuple_iterator_next b.typeIs F.entry_tuple_iterator_next ?_ (F.args_tuple_iterator_next_1 _)))
 show wpAny _ _ (field (.ref j) 0 >>= _) _ _ s;refine Ag (wpAny_field c d (x:=.ref p) rfl ?_);show wpAny _ _ (if(Value.ref p==Value.none)=true then _ else _) _ _ s;rw[Ao (show ¬((Value.ref p==Value.none)=true) from CS)];show wpAny _ _ (field (.ref j) 1 >>= _) _ _ s;refine Ag (wpAny_field c d (x:=.int k 0) rfl ?_);show wpAny _ _ (seqItems? (.ref p) >>= _) _ _ s;refine Ag (GG i l ?_);simp only[Bw,h];refine Ag (IH (Ag (wpAny_setField c d (by simp) ?_)))
 show wpAny _ _ (newExc (.type "StopIteration") [] >>= _) _ _ _
 refine Ag ?_;simp only[newExc,newTuple];refine Ag (wpAny_newObj_type (Ag (m:=firstArgMember _ _) (wpAny_of_eq (a:=Value.none) (by first|rfl|(simp only[firstArgMember];rfl)) (wpAny_newObj_type ?_ (by size_fits)))) (by size_fits));simp only[raiseNew];refine Ag (wpAny_handled ?_)
 first|rw[show A.in1.handled=none from e]|rw[e]
 exact Ag (Az (wpAny_throw (q _ _ (((Heap.SameBut.update ..).extBut.push _).push _) ⟨_,Co _ rfl,rfl⟩)))
end
variable {prog:Program}
def Ic{w:World}(c:A.handled=none)(j p:Addr)(d:p≠j)(vs:Array Value):Draws prog w A j [j,p] vs.size (λi v=>vs[i]?=some v) (λi h=>h.IsTupleIter j p i/\h.IsTuple p vs) where
 live _ _ st:=let ⟨o,e,_⟩:=st.1;⟨o,e⟩
 frame _ _ _ st k:=by
  obtain⟨⟨o,f,l⟩,u,m,n⟩:=st;exact⟨⟨o,k j (by simp) _ f,l⟩,u,k p (by simp) _ m,n⟩
 item i s Q E a st q:=Qc st.1 st.2 (y:=vs[i]) (by simp[a]) λg r b=>q _ g s.toks (by simp[a]) ⟨r,st.2.extBut b.extBut d⟩ b
 done s Q E st q:=TY c st.1 st.2 (by simp) q
set_option tactic.hygienic true in
def ZZ(p:Addr)(vs:Array Value)(n:Nat)(dct:Option Addr)(e:Array (Option Value)) :
 Meets (Builtin.«enumerate.__new__» ⟨[.type "enumerate",.ref p],[]⟩) (λζ R s=>s.heap.get? p=some {cls:=.type "tuple",dict:=dct,data:=.seq vs n,slots:=e}/\R (.ok (.ret (.ref (s.heap.push {cls:=.type "tuple_iterator",data:=.fields #[.ref p,.int 0 0]}).objs.size))) {s with heap:=(s.heap.push {cls:=.type "tuple_iterator",data:=.fields #[.ref p,.int 0 0]}).push {cls:=.type "enumerate",data:=.fields #[.none,.bool false,.ref s.heap.objs.size,rawInt 0,.none,.none]}}):=
 .of_wp λprog w A R s h=>by
  obtain⟨f,g,d,i,j⟩:=s;obtain⟨a,h⟩:=h;have l:=sub_enumerate;have b:Heap.IsTuple (Shared.heap ⟨f,g,d,i,j⟩) p vs:=⟨_,a,rfl,n,rfl⟩
  wp_walk using AutoSeq1.wpAny_loadPart' a
  refine wpAny_stack_any λk=>Az ?_;split;rename_i c _ _ _ _ _;cases(c==Value.type "enumerate")<;>(wp_walk using AutoSeq1.wpAny_loadPart' a,wpAny_pyIter_tuple b;exact⟨_,rfl,h⟩)
  wp_walk using AutoSeq1.wpAny_loadPart' a,wpAny_pyIter_tuple b
  exact⟨_,rfl,h⟩
variable {E Q:G'}{s:Shared}
theorem Z0{w:World}{p:Addr}{vs:Array Value}(i:s.heap.IsTuple p vs)
 (h:∀g,IsEnum g (s.heap.objs.size+1) s.heap.objs.size 0 .none->g.IsTupleIter s.heap.objs.size p 0->g.objs.size=s.heap.objs.size+2->(∀b o,s.heap.get? b=some o->g.get? b=some o)->Q (.ref (s.heap.objs.size+1)) {s with heap:=g}) :
 wpAny (model prog w) A (call (.type "enumerate") [.ref p]) Q E s:=by
 obtain⟨⟨c,dct,dt,j⟩,k,a,n,hd⟩:=i
 replace a:c=.type "tuple" :=a
 replace hd:dt=.seq vs n:=hd
 subst a hd;refine callType_new F.called_enumerate (by decide) (F.typeCall_enumerate_1 _) (F.newCall_enumerate_1 _) (λl=>F.args_object_init_2 l _) F.entry_enumerate_new (ZZ p vs n dct j) ⟨k,?_⟩;have d:(s.heap.push {cls:=.type "tuple_iterator",data:=.fields #[.ref p,.int 0 0]}).objs.size=s.heap.objs.size+1:=Heap.size_push ..;show _/\_;rw[d]
 have f:IsEnum ((s.heap.push {cls:=.type "tuple_iterator",data:=.fields #[.ref p,.int 0 0]}).push {cls:=.type "enumerate",data:=.fields #[.none,.bool false,.ref s.heap.objs.size,rawInt 0,.none,.none]}) (s.heap.objs.size+1) s.heap.objs.size 0 .none:=by
  have e:=Co (s.heap.push {cls:=.type "tuple_iterator",data:=.fields #[.ref p,.int 0 0]}) (o:={cls:=.type "enumerate",data:=.fields #[.none,.bool false,.ref s.heap.objs.size,rawInt 0,.none,.none]}) rfl
  rwa [d] at e
 exact⟨⟨_,f,rfl⟩,h _ f ⟨_,Bn _ (Co _ rfl),rfl,rfl⟩ (by rw[Heap.size_push,d]) λb o x=>Bn _ (Bn _ x)⟩
section
variable {X:Cx}
def JW (K:Aj):V->List V->Hp->VK->Prop:=λx vs H Q=>∃(n:Nat)(d:Dt)(ds:List Dt)(a:Addr)(us:List V)(y:V),x=.ref a/\vs=[y]/\Af K H a us/\Ai K H us ds/\Ap K H y d/\(∀e∈ds,Dk n e d)/\n<=60/\Q (.int (ds.countP λe=>dec (e=d):Nat)) H
theorem WS{pins:B'}{σ:St}{H:Hp}{s:Shared}(I:Inv X pins σ H s){d:Dt}:∀{vs:List V}{c:List Value}{a:List Dt},Ay vs c->Ai X.K H vs a->c.countP (λy=>dec (∃u,RelV u y/\Ap X.K H u d))=a.countP λe=>dec (e=d)
 |_,_,_,.nil,.nil=>rfl
 |_,_,_,.cons b r,.cons te t=>by
   rw[List.countP_cons,List.countP_cons,WS I r t];congr 1
   have e:dec (∃u,RelV u _/\Ap X.K H u d)=dec (_=d):=KP ⟨λ⟨i,g,h⟩=>by
    have f:=b.inj g;subst f
    exact Ap.inj I te h,λz=>⟨_,b,z▸te⟩⟩
   rw[e]
theorem Z1(C:X.A.units+64<cLine):KI X "list.count" (JW X.K):=by
 intro L s σ H x E v G Q I i j h;obtain⟨n,d,k,a,ws,y,rfl,rfl,l,t,D,o,J,q⟩:=h;cases i;obtain⟨u,rfl,w⟩:=F3 j;obtain⟨b,r,p,_⟩:=I.list l;obtain⟨z,K⟩:=Tc (A:=X.A.in1) I r t o D w (by rw[Hs];lia);obtain⟨⟨c,dct,dt,B⟩,g,f,m,hd⟩:=p.isList
 replace f:c=.type "list" :=f
 replace hd:dt=.seq b.toArray m:=hd
 subst f hd;refine call_meets F.slot_list_count ⟨_,g,rfl⟩ F.entry_list_count (F.args_list_count_2 _ _) (PySem.SeqAt.list_countAt a b.toArray m dct B u (λy=>dec (∃u,RelV u y/\Ap X.K H u d))) ⟨g,z,?_⟩;refine⟨.int (k.countP λe=>dec (e=d):Nat),H,I.tok _,?_,q⟩;rw[show b.toArray.toList=b from rfl,WS I r t];exact⟨_,rfl⟩
end
section
variable {prog:Program} {w:World} {A:Around} {E:G'} {s:Shared}
def Z2{z a o i j p q:Addr}{m:Nat}{xs ys:Array Value}{x y u v:Value}(D:ZipApart z a o i j p q)(B:IsZip s.heap z a o .none)(ea:IsPair s.heap a (.ref i) (.ref j))(eo:IsPair s.heap o u v)
 (ei:s.heap.IsTupleIter i p k) (ej:s.heap.IsTupleIter j q m) (tp:s.heap.IsTuple p xs) (tq:s.heap.IsTuple q ys) (hx:xs[k]?=some x) (hy:ys[m]?=some y)
 (ah:∀g,IsZip g z a o (rawInt s.heap.objs.size)->IsPair g o x y->g.IsTupleIter i p (k+1)->g.IsTupleIter j q (m+1)->IsPair g s.heap.objs.size x y->g.objs.size=s.heap.objs.size+1->(∀c d,c≠z->c≠o->c≠i->c≠j->s.heap.get? c=some d->g.get? c=some d)->Q (.ref s.heap.objs.size) {s with heap:=g}) :
 wpAny (model prog w) A (Builtin.«zip.__next__» ⟨[.ref z],[]⟩) (λf t=>∃v,f=.done (.ret v)/\Q v t) E s:=by
 show wpAny _ _ (field (.ref z) 2 >>= _) _ _ _;refine Ag (wpAny_field B rfl (x:=.bool false) rfl ?_);show wpAny _ _ (field (.ref z) 3 >>= _) _ _ _;refine Ag (wpAny_field B rfl (x:=.ref a) rfl (Ag (GG ea rfl ?_)));show wpAny _ _ (Builtin.SmallTypes.ownedTupleIsFree (.ref z) >>= _) _ _ _;refine Ag ?_;unfold Builtin.SmallTypes.ownedTupleIsFree;refine Ag (wpAny_field B rfl (x:=.none) rfl (Az ?_));simp only[if_true];refine Ag (IH (Ag (wpAny_field B rfl (x:=.ref o) rfl (Ag (wpAny_setField_rec B (by simp) λaa M h=>?_)))))
 replace M:IsZip aa z a o .ellipsis:=M
 refine Ag ?_;simp only[List.zipIdx_cons,List.zipIdx_nil,List.forIn_cons,List.forIn_nil];refine Ag (Ag (wpAny_onRaise ?_));show wpAny _ _ (Builtin.SmallTypes.nextOf (.ref i) >>= _) _ _ _;refine Ag (Qc (ei.extBut h.extBut D.i1z) (tp.extBut h.extBut D.l1z) hx λab i2 l=>Az ?_);have U:IsPair ab o u v:=l.extBut _ _ D.TOi1 (h.extBut _ _ D.TOz eo);refine Ag (GG U rfl (Ag (wpAny_updateSeq_pair U λae N r=>Ag (wpAny_letGo (Az ?_)))))
 replace N:IsPair ae o x v:=N
 refine Ag (Ag (wpAny_onRaise ?_));show wpAny _ _ (Builtin.SmallTypes.nextOf (.ref j) >>= _) _ _ _;refine Ag (Qc (((ej.extBut h.extBut D.i2z).extBut l.extBut D.i12.symm).extBut r.extBut D.TOi2.symm) (((tq.extBut h.extBut D.l2z).extBut l.extBut D.l2i1).extBut r.extBut D.l2TO) hy λg4 j4 C=>Az ?_);have V:IsPair g4 o x v:=C.extBut _ _ D.TOi2 N;refine Ag (GG V rfl (Ag (wpAny_updateSeq_pair V λb H F=>Ag (wpAny_letGo (Az (Az ?_))))))
 replace H:IsPair b o x y:=H
 refine Ag (GG H rfl (Ag (wpAny_newTuple ?_)));have sz:b.objs.size=s.heap.objs.size:=(by rw[F.1,C.1,r.1,l.1,h.1]);have W:IsZip b z a o .ellipsis:=F.extBut _ _ D.TOz.symm (C.extBut _ _ D.i2z.symm (r.extBut _ _ D.TOz.symm (l.extBut _ _ D.i1z.symm M)));have k5:∀c d,c≠z->c≠o->c≠i->c≠j->s.heap.get? c=some d->b.get? c=some d:=λc d I J O P e=>F.extBut _ _ J (C.extBut _ _ P (r.extBut _ _ J (l.extBut _ _ O (h.extBut _ _ I e))));have i5:b.IsTupleIter i p (k+1):=((i2.extBut r.extBut D.TOi1.symm).extBut C.extBut D.i12).extBut F.extBut D.TOi1.symm;have j5:b.IsTupleIter j q (m+1):=j4.extBut F.extBut D.TOi2.symm;have X:z<b.objs.size:=Bj W;show wpAny _ _ (Builtin.SmallTypes.ownedTupleHandOut (.ref z) (.ref b.objs.size) >>= _) _ _ _;refine Ag ?_;unfold Builtin.SmallTypes.ownedTupleHandOut;have z6:IsZip (b.push {cls:=.type "tuple",data:=.seq #[x,y]}) z a o .ellipsis:=Bn _ W;refine Ag (wpAny_setField_rec z6 (by simp) λg7 R S=>?_)
 replace R:IsZip g7 z a o (rawInt b.objs.size):=R
 refine wpAny_setField_rec R (by simp) λG K T=>?_
 replace K:IsZip G z a o (rawInt b.objs.size):=K
 have L:∀c d,c≠z->b.get? c=some d->G.get? c=some d:=λc d n e=>T.extBut _ _ n (S.extBut _ _ n (Bn _ e));have Y:IsPair G b.objs.size x y:=T.extBut _ _ (Nat.ne_of_gt X) (S.extBut _ _ (Nat.ne_of_gt X) (Co _ rfl));have Z:G.objs.size=b.objs.size+1:=(by rw[T.1,S.1,Heap.size_push]);rw[sz] at K Y Z;refine Az ⟨_,rfl,?_⟩;show Q (.ref b.objs.size) _;rw[sz];obtain⟨oi,e1,e2⟩:=i5;obtain⟨oj,af,ag⟩:=j5;exact ah G K (L _ _ D.TOz H) ⟨oi,L _ _ D.i1z e1,e2⟩ ⟨oj,L _ _ D.i2z af,ag⟩ Y Z λc d I J O P e=>L c d I (k5 c d I J O P e)
def Z3{z a o i j p q:Addr}{m:Nat}{xs ys:Array Value}{u v:Value}{Q:PySem.Fin->Shared->Prop}(J:A.handled=none)(D:ZipApart z a o i j p q)(r:IsZip s.heap z a o .none)(U:IsPair s.heap a (.ref i) (.ref j))(V:IsPair s.heap o u v)
 (K:s.heap.IsTupleIter i p k) (W:s.heap.IsTupleIter j q m) (L:s.heap.IsTuple p xs) (X:s.heap.IsTuple q ys) (aa:xs[k]?=none\/ys[m]?=none)
 (T:∀g e,(∀c d,c≠z->c≠o->c≠i->c≠j->s.heap.get? c=some d->g.get? c=some d)->(∃d,g.get? e=some d/\d.cls=.type "StopIteration")->E (.ref e) {s with heap:=g}) :
 wpAny (model prog w) A (Builtin.«zip.__next__» ⟨[.ref z],[]⟩) Q E s:=by
 show wpAny _ _ (field (.ref z) 2 >>= _) _ _ _;refine Ag (wpAny_field r rfl (x:=.bool false) rfl ?_);show wpAny _ _ (field (.ref z) 3 >>= _) _ _ _;refine Ag (wpAny_field r rfl (x:=.ref a) rfl (Ag (GG U rfl ?_)));show wpAny _ _ (Builtin.SmallTypes.ownedTupleIsFree (.ref z) >>= _) _ _ _;refine Ag ?_;unfold Builtin.SmallTypes.ownedTupleIsFree;refine Ag (wpAny_field r rfl (x:=.none) rfl (Az ?_));simp only[if_true];refine Ag (IH (Ag (wpAny_field r rfl (x:=.ref o) rfl (Ag (wpAny_setField_rec r (by simp) λY C b=>?_)))))
 replace C:IsZip Y z a o .ellipsis:=C
 refine Ag ?_;simp only[List.zipIdx_cons,List.zipIdx_nil,List.forIn_cons,List.forIn_nil];refine Ag (Ag (wpAny_onRaise ?_));show wpAny _ _ (Builtin.SmallTypes.nextOf (.ref i) >>= _) _ _ _
 cases F:xs[k]? with
 |none =>
   refine Ag (TY J (K.extBut b.extBut D.i1z) (L.extBut b.extBut D.l1z) F λG e f H=>?_);obtain⟨d,l,y⟩:=H;have M:IsZip G z a o .ellipsis:=f _ _ D.i1z.symm C;have ne:e≠z:=λt=>by subst t;rw[M] at l;cases l;simp at y
   exact wpAny_setField_rec M (by simp) λN ζ n=>T N e (λc d B ζ I ζ t=>n.extBut _ _ B (f _ _ I (b.extBut _ _ B t))) ⟨d,n.extBut _ _ ne l,y⟩
 |some x =>
   have Z:ys[m]?=none:=by
    rcases aa with h|h;rw[F] at h;cases h;exact h
   refine Ag (Qc (K.extBut b.extBut D.i1z) (L.extBut b.extBut D.l1z) F λG i2 f=>Az ?_);have O:IsPair G o u v:=f.extBut _ _ D.TOi1 (b.extBut _ _ D.TOz V);refine Ag (GG O rfl (Ag (wpAny_updateSeq_pair O λN o3 n=>Ag (wpAny_letGo (Az ?_)))));refine Ag (Ag (wpAny_onRaise ?_));show wpAny _ _ (Builtin.SmallTypes.nextOf (.ref j) >>= _) _ _ _;refine Ag (TY J (((W.extBut b.extBut D.i2z).extBut f.extBut D.i12.symm).extBut n.extBut D.TOi2.symm) (((X.extBut b.extBut D.l2z).extBut f.extBut D.l2i1).extBut n.extBut D.l2TO) Z λg4 e P H=>?_);obtain⟨d,l,y⟩:=H;have R:IsZip g4 z a o .ellipsis:=P _ _ D.i2z.symm (n.extBut _ _ D.TOz.symm (f.extBut _ _ D.i1z.symm C));have ne:e≠z:=λt=>by subst t;rw[R] at l;cases l;simp at y
   exact wpAny_setField_rec R (by simp) λg5 ζ S=>T g5 e (λc d B n2 I n4 t=>S.extBut _ _ B (P _ _ n4 (n.extBut _ _ n2 (f.extBut _ _ I (b.extBut _ _ B t))))) ⟨d,S.extBut _ _ ne l,y⟩
end
abbrev Qd (h:Heap) (p:Addr):Heap:=h.push {cls:=.type "tuple_iterator",data:=.fields #[.ref p,.int 0 0]}
abbrev Qe (h:Heap) (p q:Addr):Heap:=(Qd h p).push {cls:=.type "tuple_iterator",data:=.fields #[.ref q,.int 0 0]}
abbrev Qf (h:Heap) (p q:Addr):Heap:=(Qe h p q).push {cls:=.type "tuple",data:=.seq #[.ref h.objs.size,.ref (Qd h p).objs.size]}
abbrev Qg (h:Heap) (p q:Addr):Heap:=(Qf h p q).push {cls:=.type "tuple",data:=.seq #[.none,.none]}
abbrev L7 (h:Heap) (p q:Addr):Heap:=(Qg h p q).push {cls:=.type "zip",data:=.fields #[.none,.bool false,.bool false,.ref (Qe h p q).objs.size,.ref (Qf h p q).objs.size]}
def Z4(p q:Addr)(xs ys:Array Value):Meets (Builtin.«zip.__new__» ⟨[.type "zip",.ref p,.ref q],[]⟩) (λζ R s=>s.heap.IsTuple p xs/\s.heap.IsTuple q ys/\R (.ok (.ret (.ref (Qg s.heap p q).objs.size))) {s with heap:=L7 s.heap p q}):=
 .of_wp λprog w A R s h=>by
  obtain⟨a,g,d,b,c⟩:=s;obtain⟨e,f,h⟩:=h;have k:=sub_zip;have i:Heap.IsTuple (Shared.heap ⟨a,g,d,b,c⟩) p xs:=e;have j:Heap.IsTuple (Shared.heap ⟨a.push {cls:=.type "tuple_iterator",data:=.fields #[.ref p,.int 0 0]},g,d,b,c⟩) q ys:=Heap.IsTuple.push f _
  wp_walk using wpAny_pyIter_tuple i,wpAny_pyIter_tuple j
  exact⟨_,rfl,h⟩
theorem Z5{w:World}{p q:Addr}{xs ys:Array Value}(m:s.heap.IsTuple p xs)(n:s.heap.IsTuple q ys)
 (h:∀g,IsZip g (s.heap.objs.size+4) (s.heap.objs.size+2) (s.heap.objs.size+3) .none->IsPair g (s.heap.objs.size+2) (.ref s.heap.objs.size) (.ref (s.heap.objs.size+1))->IsPair g (s.heap.objs.size+3) .none .none->g.IsTupleIter s.heap.objs.size p 0->g.IsTupleIter (s.heap.objs.size+1) q 0->g.objs.size=s.heap.objs.size+5->(∀c o,s.heap.get? c=some o->g.get? c=some o)->Q (.ref (s.heap.objs.size+4)) {s with heap:=g}) :
 wpAny (model prog w) A (call (.type "zip") [.ref p,.ref q]) Q E s:=by
 refine callType_new F.called_zip (by decide) (F.typeCall_zip_2 _ _) (F.newCall_zip_2 _ _) (λu=>F.args_object_init_3 u _ _) F.entry_zip_new (Z4 p q xs ys) ⟨m,n,?_⟩;have a:(Qd s.heap p).objs.size=s.heap.objs.size+1:=Heap.size_push ..;have b:(Qe s.heap p q).objs.size=s.heap.objs.size+2:=(by rw[Heap.size_push,a]);have d:(Qf s.heap p q).objs.size=s.heap.objs.size+3:=(by rw[Heap.size_push,b]);have f:(Qg s.heap p q).objs.size=s.heap.objs.size+4:=(by rw[Heap.size_push,d]);have r:(L7 s.heap p q).objs.size=s.heap.objs.size+5:=(by rw[Heap.size_push,f]);have i:(L7 s.heap p q).get? (Qg s.heap p q).objs.size=some _:=Co _ rfl;have j:(L7 s.heap p q).get? (Qf s.heap p q).objs.size=some _:=Bn _ (Co _ rfl);have k:(L7 s.heap p q).get? (Qe s.heap p q).objs.size=some _:=Bn _ (Bn _ (Co _ rfl));have l:(L7 s.heap p q).get? (Qd s.heap p).objs.size=some _:=Bn _ (Bn _ (Bn _ (Co _ rfl)));have t:(L7 s.heap p q).get? s.heap.objs.size=some _:=Bn _ (Bn _ (Bn _ (Bn _ (Co _ rfl))));show _/\_;rw[b,d,f] at i;rw[a,b] at k;rw[d] at j;rw[a] at l;rw[f];exact⟨⟨_,i,rfl⟩,h _ i k j ⟨_,t,rfl,rfl⟩ ⟨_,l,rfl,rfl⟩ r λc o e=>Bn _ (Bn _ (Bn _ (Bn _ (Bn _ e))))⟩
section
variable {X:Cx} {pins:B'} {σ:St} {H:Hp} {s:Shared} {h':Heap} {t':Nat} {fp:List Addr}
def Inv.turnL(I:Inv X pins σ H s)(d:∀b∈fp,Dq X pins H b)(keep:∀b o,b∉fp->s.heap.get? b=some o->h'.get? b=some o):Inv X pins σ H {s with heap:=h',toks:=t'}:=by
 have g:∀b u,H b=some u->b∉fp:=λb u e z=>by rw[(d b z).1] at e;cases e
 refine I.step (g':=s.gens) (d':=s.drawn) (ch:=fp) (λb a=>⟨(d b a).2.2.2.1,(d b a).2.1,(d b a).2.2.2.2⟩) (λb o ζ ζ a e ζ=>keep b o a e) (λb o ζ ζ a e ζ=>⟨o.slots,keep b o a e⟩) (λζ ζ ζ ζ n=>n) (λb o a e=>⟨o,keep b o a e⟩) (λζ ζ e=>e) (λζ ζ ζ e=>e) (λb l e=>⟨#[],by rw[e];simp⟩)
  (λm h=>?_) (λb u e=>(I.hok b u e).stay (λc v f q=>keep c v ?_ q) (λζ q=>q) λζ ζ q=>q) I.bare
 obtain⟨o,i,j,k,r⟩:=h;exact⟨o,i,j,keep _ o (λz=>(d _ z).2.1 rfl) k,r⟩;rcases f with rfl|f;exact g _ _ e;exact g _ _ f
def Inv.turnP{a c:Value}{x y:V}(I:Inv X pins σ H s)(d:∀b∈fp,Dq X pins H b)(keep:∀b o,b∉fp->s.heap.get? b=some o->h'.get? b=some o)(ob:∀b∈fp,∃o,s.heap.get? b=some o/\∀v,o.data≠.cell v)
 (f:h'.get? s.heap.objs.size=some {cls:=.type "tuple",data:=.seq #[a,c]}) (i:RelV x a) (j:RelV y c) :
 Inv X pins σ (upd H s.heap.objs.size (.tup [x,y])) {s with heap:=h',toks:=t'}/\H s.heap.objs.size=none/\∀b∈fp,upd H s.heap.objs.size (.tup [x,y]) b=none:=by
 have h:H s.heap.objs.size=none:=I.hok.fresh (AI _);refine⟨(I.turnL (t':=t') d keep).track (I.fpOk (AI _) h) ⟨_,f⟩ ⟨by show 2<=sizeLine;decide,[a,c],.cons i (.cons j .nil),⟨_,f,rfl,_,rfl⟩⟩,h,λb g=>?_⟩;obtain⟨o,e,_⟩:=ob b g;rw[AE (CF (Bj e))];exact(d b g).1
def Inv.newFp(I:Inv X pins σ H s)(a:∀b∈fp,s.heap.objs.size<=b):∀b∈fp,Dq X pins H b:=λb z=>I.fpOk (a b z) (I.hok.fresh (a b z))
end
structure TZ where
 sq:Aj->Hp->Addr->List V->Prop
 ent:Aj->Hp->Addr->List V->Prop
 it:Heap->Addr->Addr->Nat->Prop
 is:Heap->Addr->Array Value->Prop
 obj:∀{h:Heap}{i l:Addr}{n:Nat},it h i l n->∃o,h.get? i=some o/\∀v,o.data≠.cell v
 keep:∀{h h':Heap}{i l:Addr}{n:Nat},it h i l n->(∀o,h.get? i=some o->h'.get? i=some o)->it h' i l n
 get:∀{X:Cx}{pins:B'}{σ:St}{H:Hp}{s:Shared}{l:Addr}{xs:List V},Inv X pins σ H s->sq X.K H l xs->∃its:List Value,Ay xs its/\is s.heap l its.toArray/\l<s.heap.objs.size
 uniq:∀{X:Cx}{pins:B'}{σ:St}{H:Hp}{s:Shared}{l:Addr}{xs ys:List V},Inv X pins σ H s->sq X.K H l xs->sq X.K H l ys->xs=ys
 entS:∀{K:Aj}{H:Hp}{l:Addr}{xs:List V},ent K H l xs->sq K H l xs
 zitem:∀{prog:Program}{w:World}{A:Around}{E:G'}{s:Shared}{z a o i j p q:Addr}{k m:Nat}{xs ys:Array Value}{x y u v:Value}{Q:Option Value->Shared->Prop},ZipApart z a o i j p q->IsZip s.heap z a o .none->IsPair s.heap a (.ref i) (.ref j)->IsPair s.heap o u v->it s.heap i p k->it s.heap j q m->is s.heap p xs->is s.heap q ys->xs[k]?=some x->ys[m]?=some y ->
  (∀g,IsZip g z a o (rawInt s.heap.objs.size)->IsPair g o x y->it g i p (k+1)->it g j q (m+1)->IsPair g s.heap.objs.size x y->g.objs.size=s.heap.objs.size+1->(∀c d,c≠z->c≠o->c≠i->c≠j->s.heap.get? c=some d->g.get? c=some d)->Q (some (.ref s.heap.objs.size)) {s with heap:=g})->wpAny (model prog w) A (pyNext (.ref z)) Q E s
 zend:∀{prog:Program}{w:World}{A:Around}{E:G'}{s:Shared}{z a o i j p q:Addr}{k m:Nat}{xs ys:Array Value}{u v:Value}{Q:Option Value->Shared->Prop},A.handled=none->ZipApart z a o i j p q->IsZip s.heap z a o .none->IsPair s.heap a (.ref i) (.ref j)->IsPair s.heap o u v->it s.heap i p k->it s.heap j q m->is s.heap p xs->is s.heap q ys->xs[k]?=none\/ys[m]?=none ->
  (∀g,(∀c d,c≠z->c≠o->c≠i->c≠j->s.heap.get? c=some d->g.get? c=some d)->Q none {s with heap:=g})->wpAny (model prog w) A (pyNext (.ref z)) Q E s
 zcall:∀{prog:Program}{w:World}{A:Around}{E:G'}{s:Shared}{p q:Addr}{xs ys:Array Value}{Q:G'},is s.heap p xs->is s.heap q ys ->
  (∀g,IsZip g (s.heap.objs.size+4) (s.heap.objs.size+2) (s.heap.objs.size+3) .none->IsPair g (s.heap.objs.size+2) (.ref s.heap.objs.size) (.ref (s.heap.objs.size+1))->IsPair g (s.heap.objs.size+3) .none .none->it g s.heap.objs.size p 0->it g (s.heap.objs.size+1) q 0->g.objs.size=s.heap.objs.size+5->(∀c o,s.heap.get? c=some o->g.get? c=some o)->Q (.ref (s.heap.objs.size+4)) {s with heap:=g})->wpAny (model prog w) A (call (.type "zip") [.ref p,.ref q]) Q E s
 eitem:∀{prog:Program}{w:World}{A:Around}{E:G'}{s:Shared}{e j l:Addr}{i:Nat}{xs:Array Value}{x old:Value}{Q:Option Value->Shared->Prop},A.handled=none->e≠j->e≠l->l≠j->IsEnum s.heap e j i old->it s.heap j l i->is s.heap l xs->xs[i]?=some x ->
  (∀g tk,IsEnumOut g e j ((i:Int)+1) x s.heap.objs.size->it g j l (i+1)->g.get? s.heap.objs.size=some {cls:=.type "tuple",data:=.seq #[.int i tk,x]}->(∀b o,b≠e->b≠j->s.heap.get? b=some o->g.get? b=some o)->Q (some (.ref s.heap.objs.size)) {s with heap:=g,toks:=tk+1})->wpAny (model prog w) A (pyNext (.ref e)) Q E s
 eend:∀{prog:Program}{w:World}{A:Around}{E:G'}{s:Shared}{e j l:Addr}{xs:Array Value}{old:Value}{Q:Option Value->Shared->Prop},A.handled=none->l≠j->IsEnum s.heap e j xs.size old->it s.heap j l xs.size->is s.heap l xs->(∀g,Heap.ExtBut j s.heap g->Q none {s with heap:=g})->wpAny (model prog w) A (pyNext (.ref e)) Q E s
 ecall:∀{X:Cx}{pins:B'}{σ:St}{H:Hp}{s:Shared}{A:Around}{E:G'}{l:Addr}{xs:List V}{Q:G'},Inv X pins σ H s->ent X.K H l xs ->
  (∀g,IsEnum g (s.heap.objs.size+1) s.heap.objs.size 0 .none->it g s.heap.objs.size l 0->g.objs.size=s.heap.objs.size+2->(∀b o,s.heap.get? b=some o->g.get? b=some o)->Q (.ref (s.heap.objs.size+1)) {s with heap:=g})->wpAny (model X.prog X.w) A (call (.type "enumerate") [.ref l]) Q E s
def LK:TZ where
 sq:=Af
 ent:=λζ H l xs=>H l=some (.lst xs)
 it:=Heap.IsListIter
 is:=Heap.IsList
 obj:=λ⟨o,e,_,d⟩=>⟨o,e,λv q=>by rw[d] at q;cases q⟩
 keep:=λh k=>h.at k
 get:=λI h=>let ⟨its,r,p,_⟩:=I.list h;⟨its,r,p.isList,let ⟨_,e,_⟩:=p.isList;Bj e⟩
 uniq:=λI h h'=>I.list_inj h h'
 entS:=Af.of
 zitem:=wpAny_pyNext_zip_item
 zend:=wpAny_pyNext_zip_end
 zcall:=call_zip_2
 eitem:=λζ n1 ζ ζ he hi hl hx q=>wpAny_pyNext_enum_item he hi hl hx n1 λg a b c ζ k=>q g _ a b c k
 eend:=λhh ζ he hi hl q=>wpAny_pyNext_enum_end hh he hi hl (by simp) q
 ecall:=λI hq q=>let ⟨_,_,_,_,e⟩:=I.hok _ _ hq;call_enumerate_1 e q
def TK:TZ where
 sq:=Al
 ent:=Al
 it:=Heap.IsTupleIter
 is:=Heap.IsTuple
 obj:=λ⟨o,e,_,d⟩=>⟨o,e,λv q=>by rw[d] at q;cases q⟩
 keep:=λ⟨o,e,r⟩k=>⟨o,k o e,r⟩
 get:=λI h=>let ⟨its,r,p,_⟩:=I.tuple h;⟨its,r,p,let ⟨_,e,_⟩:=p;Bj e⟩
 uniq:=λI h h'=>I.tuple_inj h h'
 entS:=id
 zitem:=λ{_ _ _ _ s z _ _ _ _ _ _ _ _ _ _ _ _ _ _ _}D ez ea eo ei ej tp tq hx hy fin=>by
  have tz:s.TypeIs (.ref z) "zip" :=⟨_,ez,rfl⟩;unfold pyNext;exact Ag (wpAny_attempt (wpAny_callSpecial?_slot (name:=Str.ofString "__next__") tz F.slot_zip_next (wpAny_call_entry F.slot_zip_next tz F.entry_zip_next (Z2 D ez ea eo ei ej tp tq hx hy λg a1 a2 a3 a4 a5 a6 a7=>Az (fin g a1 a2 a3 a4 a5 a6 a7)) (F.args_zip_next_1 _))))
 zend:=λ{_ _ _ _ s z _ _ _ _ _ _ _ _ _ _ _ _ _}hh D ez ea eo ei ej tp tq hend fin=>by
  have tz:s.TypeIs (.ref z) "zip" :=⟨_,ez,rfl⟩;unfold pyNext;refine Ag (wpAny_attempt (wpAny_callSpecial?_slot (name:=Str.ofString "__next__") tz F.slot_zip_next (wpAny_call_entry F.slot_zip_next tz F.entry_zip_next (Z3 hh D ez ea eo ei ej tp tq hend λg e hk he=>?_) (F.args_zip_next_1 _))));obtain⟨d,h1,h2⟩:=he;exact Ag (wpAny_isInstance (T:= "StopIteration") (b:=true) ⟨d,h1,h2⟩ isSubtype_stop (Az (fin _ hk)))
 zcall:=Z5
 eitem:=λ{_ _ A _ _ e j l i xs x _ _}hh n1 n2 n3 he hi hl hx q=>by
  refine wpAny_pyNext_enum_itemD (Ic (A:=A.in1) hh j l n3 xs) he ⟨hi,hl⟩ (Array.getElem?_eq_some_iff.mp hx).1 n1 (by simp;exact⟨n1,n2⟩) λy g tk hy a b c ζ k=>?_;rw[hx] at hy;cases hy;exact q g tk a b.1 c k
 eend:=λ{_ _ A _ _ _ j l xs _ _}hh n3 he hi hl q=>wpAny_pyNext_enum_endD (Ic (A:=A.in1) hh j l n3 xs) he ⟨hi,hl⟩ q
 ecall:=λI hq q=>let ⟨_,_,p,_⟩:=I.tuple hq;Z0 p q
section
variable (k:TZ)
def Ie (K:Aj) (C f:Addr):It:=
 ⟨λi H=>∃xs ys x y,k.sq K H C xs/\k.sq K H f ys/\xs[i]?=some x/\ys[i]?=some y,
  λi H v H'=>∃T x y,H T=none/\v=.ref T/\H'=upd H T (.tup [x,y])/\(∀xs,k.sq K H C xs->xs[i]?=some x)/\∀ys,k.sq K H f ys->ys[i]?=some y,
  λi H=>∃xs ys,k.sq K H C xs/\k.sq K H f ys/\(xs.length<=i\/ys.length<=i)⟩
def OD (z TI TO i1 i2 C f:Addr) (i:Nat) (h:Heap):Prop:=IsZip h z TI TO .none/\IsPair h TI (.ref i1) (.ref i2)/\(∃a b,IsPair h TO a b)/\k.it h i1 C i/\k.it h i2 f i
def L8 (K:Aj) (l:Addr):It:=
 ⟨λi H=>∃xs x,k.sq K H l xs/\xs[i]?=some x,
  λi H v H'=>∃T x,H T=none/\v=.ref T/\H'=upd H T (.tup [.int i,x])/\∀xs,k.sq K H l xs->xs[i]?=some x,
  λi H=>∃xs,k.sq K H l xs/\xs.length=i⟩
def OE (e it l:Addr) (i:Nat) (h:Heap):Prop:=(∃old,IsEnum h e it i old)/\k.it h it l i
variable {k}
variable {C f:Addr}
def WT{z TI TO d e:Addr}{h:Heap}(st:OD k z TI TO d e C f i h):∀b∈[z,TI,TO,d,e],∃o,h.get? b=some o/\∀v,o.data≠.cell v:=λb g=>by
 obtain⟨j,n,⟨a,c,p⟩,l,m⟩:=st;simp at g;rcases g with rfl|rfl|rfl|rfl|rfl;exact⟨_,j,λv q=>by cases q⟩;exact⟨_,n,λv q=>by cases q⟩;exact⟨_,p,λv q=>by cases q⟩;exact k.obj l;exact k.obj m
def WU{a l:Addr}{h:Heap}(st:OE k e a l i h):∀b∈[e,a],∃o,h.get? b=some o/\∀v,o.data≠.cell v:=λb c=>by
 obtain⟨⟨g,d⟩,f⟩:=st;simp at c;rcases c with rfl|rfl;exact⟨_,d,λv q=>by cases q⟩;exact k.obj f
variable {P:Program} {w:World} {K:Aj} {es:List Expr} {Z:Nat} {L:Pos}
def Z6{z TI TO r t:Addr}(D:ZipApart z TI TO r t C f):FN P w K (.Tuple es Z L) (Ie k K C f) [z,TI,TO,r,t] z (OD k z TI TO r t C f) where
 mem:=by simp
 obj:=λζ ζ g b d=>WT g b d
 keep:=λi h h' g Z=>by
  obtain⟨j,l,⟨a,c,q⟩,n,p⟩:=g;exact⟨Z z (by simp) _ j,Z TI (by simp) _ l,⟨a,c,Z TO (by simp) _ q⟩,k.keep n λo e=>Z r (by simp) o e,k.keep p λo e=>Z t (by simp) o e⟩
 item:=by
  intro X B F G T i ai s σ H E I M g N;subst B F G;obtain⟨xs,ys,x,y,v,A,U,V⟩:=N;have ob:=WT g;obtain⟨j,l,⟨a,c,q⟩,n,p⟩:=g;obtain⟨aj,Q,O,_⟩:=k.get I v;obtain⟨ak,R,J,_⟩:=k.get I A;obtain⟨W,aa,ab⟩:=Q.get U;obtain⟨Y,ae,af⟩:=R.get V;refine k.zitem D j l q n p O J (x:=W) (y:=Y) (by simpa using aa) (by simpa using ae) λh' a1 a2 a3 a4 a5 a6 u=>?_;refine⟨_,rfl,wpAny_letOwnedTupleGo_zip (s:={s with heap:=h'}) a1 λag al m=>?_⟩;obtain⟨I2,ah,fr⟩:=I.turnP (t':=s.toks) (h':=ag) M (λb o d e=>by simp at d;exact(m.2 b d.1).trans (u b o d.1 d.2.2.1 d.2.2.2.1 d.2.2.2.2 e)) ob ((m.2 _ (Nat.ne_of_gt (Bj j))).trans a5) ab af
  exact⟨.ref s.heap.objs.size,_,I2,rfl,⟨s.heap.objs.size,x,y,ah,rfl,rfl,λzs S=>by rw[k.uniq I S v];exact U,λzs S=>by rw[k.uniq I S A];exact V⟩,
   ⟨al,m.extBut _ _ D.TIz (u _ _ D.TIz D.TITO D.TIi1 D.TIi2 l),⟨W,Y,m.extBut _ _ D.TOz a2⟩,k.keep a3 λo e=>m.extBut _ _ D.i1z e,k.keep a4 λo e=>m.extBut _ _ D.i2z e⟩,fr⟩
 done:=by
  intro X B F G T i ai s σ H E I M g N;subst B F G;obtain⟨xs,ys,v,A,aq⟩:=N;obtain⟨j,l,⟨a,c,q⟩,n,p⟩:=g;obtain⟨aj,Q,O,_⟩:=k.get I v;obtain⟨ak,R,J,_⟩:=k.get I A;have an:=Q.length;have ao:=R.length;exact k.zend (I.ok.hd T) D j l q n p O J (by simp;lia) λh' u=>⟨rfl,I.turnL (t':=s.toks) M λb o d e=>by simp at d;exact u b o d.1 d.2.2.1 d.2.2.2.1 d.2.2.2.2 e⟩
 self:=λζ ζ ζ ζ ζ g h=>wpAny_pyIter_zip g.1 h
def Z7{g l:Addr}(G:e≠g)(W:e≠l)(J:l≠g):FN P w K (.Tuple es Z L) (L8 k K l) [e,g] e (OE k e g l) where
 mem:=by simp
 obj:=λζ ζ a b c=>WU a b c
 keep:=λi h h' a Z=>by
  obtain⟨⟨j,d⟩,f⟩:=a;exact⟨⟨j,Z e (by simp) _ d⟩,k.keep f λo x=>Z g (by simp) o x⟩
 item:=by
  intro X n p q r i ag s σ H E I t a u;subst n p q;obtain⟨B,x,m,C⟩:=u;have N:=WU a;obtain⟨⟨j,d⟩,f⟩:=a;obtain⟨M,z,v,_⟩:=k.get I m;obtain⟨D,Y,aa⟩:=z.get C;refine k.eitem (I.ok.hd r) G W J d f v (x:=D) (by simpa using Y) λh' F O Q R S=>?_;refine⟨_,rfl,wpAny_letOwnedTupleGo_enum (s:={s with heap:=h',toks:=F+1}) O λab ah A=>?_⟩;obtain⟨T,ae,U⟩:=I.turnP (t':=F+1) (h':=ab) (x:=.int i) (y:=x) t (λb o c e=>by simp at c;exact(A.2 b c.1).trans (S b o c.1 c.2 e)) N ((A.2 _ (Nat.ne_of_gt (Bj d))).trans R) ⟨_,rfl⟩ aa;exact⟨.ref s.heap.objs.size,_,T,rfl,⟨s.heap.objs.size,x,ae,rfl,rfl,λzs af=>by rw[k.uniq I af m];exact C⟩,⟨⟨D,by simpa using ah⟩,k.keep Q λo e=>A.extBut _ _ (Ne.symm G) e⟩,U⟩
 done:=by
  intro X n p q r i ag s σ H E I t a u;subst n p q;obtain⟨B,m,rfl⟩:=u;obtain⟨⟨j,d⟩,f⟩:=a;obtain⟨M,z,v,_⟩:=k.get I m;rw[show B.length=M.toArray.size by rw[z.length];simp] at d f;exact k.eend (I.ok.hd r) J d f v λh' V=>⟨rfl,I.turnL (t':=s.toks) t λb o c e=>by simp at c;exact V b o c.2 e⟩
 self:=λζ ζ ζ ζ ζ a h=>by
  obtain⟨⟨j,d⟩,_⟩:=a;exact wpAny_pyIter_enum d h
variable (k)
def L9 (K:Aj) (ta:TA):TI:=λσ H R=>ta σ H λvs U=>∃l,vs=[.ref l]/\(∃xs,k.ent K U l xs)/\R (L8 k K l) U
variable {X:Cx}
def Qh{j:Pos}{a:Expr}{d:TA}{p:Pos}(i:Gl X "enumerate")(m:X.mg "enumerate" = none)(n:PA X [a] d)(o:starEach [a] X.env=[(false,eval a X.env)]:=by rfl) :
 PI X (.Tuple es Z j) (.Call (.Name "enumerate" p) [a] [] L) (L9 k X.K d):=by
 intro A s σ H R I h;refine Call_ (Jf I i m (u:=.type "enumerate") (by decide +kernel) (PyProof.Rows.callWith_type1 (AV (n L A s σ H _ I h) λB b⟨C,U,c,r,t⟩=>?_) (by rw[o];rfl) (by rfl)));obtain⟨l,rfl,⟨D,e⟩,q⟩:=t;obtain⟨v,rfl,z⟩:=F3 r;obtain rfl:v=Value.ref l:=z;obtain⟨_,_,_,f⟩:=k.get c (k.entS e);refine k.ecall c e λw g x E y=>?_;refine wpAny_pyIter_enum (s:={b with heap:=w}) g ?_;exact⟨_,[b.heap.objs.size+1,b.heap.objs.size],_,_,U,rfl,c.kept (t':=b.toks) y,Z7 (Nat.succ_ne_self _) (Nat.ne_of_gt (Nat.lt_succ_of_lt f)) (CF f),⟨⟨_,g⟩,x⟩,c.newFp (by simp),q⟩
variable {k}
def WV{pins:B'}{σ:St}{a:Shared}{c:Expr}{R:It->Hp->Prop}(e:∃es Z L,c=.Tuple es Z L)(b:Inv X pins σ U a)(g:∃xs,k.sq X.K U C xs)(h:∃ys,k.sq X.K U f ys)(q:R (Ie k X.K C f) U) :
 wpAny (model X.prog X.w) X.A (call (.type "zip") [.ref C,.ref f]) (λv i=>wpAny (model X.prog X.w) X.A (pyIter v) (Sr X pins σ c R) E i) E a:=by
 obtain⟨es,Z,L,rfl⟩:=e;obtain⟨xs,p⟩:=g;obtain⟨ys,r⟩:=h;obtain⟨_,_,j,l⟩:=k.get b p;obtain⟨_,_,J,m⟩:=k.get b r;refine k.zcall j J λn d t u w x y o=>?_;refine wpAny_pyIter_zip (s:={a with heap:=n}) d ?_;exact⟨_,[a.heap.objs.size+4,a.heap.objs.size+2,a.heap.objs.size+3,a.heap.objs.size,a.heap.objs.size+1],_,_,U,rfl,b.kept (t':=a.toks) o,Z6 (zipApart_new l m),⟨d,t,⟨_,_,u⟩,w,x⟩,b.newFp (by simp),q⟩
def OF (K:Aj) (ta:TA):TI:=λσ H R=>ta σ H λvs U=>∃C f,vs=[.ref C,.ref f]/\(((∃xs,Af K U C xs)/\(∃ys,Af K U f ys)/\R (Ie LK K C f) U)\/((∃xs,Al K U C xs)/\(∃ys,Al K U f ys)/\R (Ie TK K C f) U))
def JX{j:Pos}{a b:Expr}{e:TA}{p:Pos}(l:Gl X "zip")(m:X.mg "zip" = none)(n:PA X [a,b] e)(o:starEach [a,b] X.env=[(false,eval a X.env),(false,eval b X.env)]:=by rfl)(i:starEach [b] X.env=[(false,eval b X.env)]:=by rfl) :
 PI X (.Tuple es Z j) (.Call (.Name "zip" p) [a,b] [] L) (OF X.K e):=by
 intro A s σ H R I h;refine Call_ (Jf I l m (u:=.type "zip") (by decide +kernel) (PyProof.Rows.callWith_type1 (AV (n L A s σ H _ I h) λB D⟨E,U,g,r,t⟩=>?_) (by rw[o,i]) (by rw[i];rfl)));obtain⟨C,f,rfl,v⟩:=t;obtain⟨w,x,rfl,y,z⟩:=Jn r;obtain rfl:w=Value.ref C:=y;obtain rfl:x=Value.ref f:=z;rcases v with⟨c,d,q⟩|⟨c,d,q⟩;exact WV (k:=LK) ⟨_,_,_,rfl⟩ g c d q;exact WV (k:=TK) ⟨_,_,_,rfl⟩ g c d q
variable {g:TG} {tb:TS} {D:Ends} {σ:St} {H:Hp}
variable (k)
def Qi{xs ys:List V}(Pv:Nat->St->Hp->Prop)(b:Pv 0 σ H)(a:∀i σ H,Pv i σ H->k.sq K H C xs/\k.sq K H f ys)
 (c:∀i x y T σ H,xs[i]?=some x->ys[i]?=some y->H T=none->Pv i σ H->g (.ref T) σ (upd H T (.tup [x,y])) λσ2 Y=>tb {D with nx:=Pv (i+1),ct:=Pv (i+1),bk:=D.nx} σ2 Y) (hd:∀σ H,Pv (min xs.length ys.length) σ H->D.nx σ H):F2 (Ie k K C f) g tb D σ H:=by
 refine NU (min xs.length ys.length) Pv b (λi σ H p d=>?_) (λσ H p=>⟨xs,ys,(a _ σ H p).1,(a _ σ H p).2,by lia⟩) (λi v σ H H' p d y=>?_) hd;have e:i<xs.length:=(by lia);have h:i<ys.length:=(by lia);exact⟨xs,ys,xs[i],ys[i],(a i σ H p).1,(a i σ H p).2,by simp[e],by simp[h]⟩;obtain⟨T,x,j,l,rfl,rfl,m,n⟩:=y;exact c i x j T σ H (m xs (a i σ H p).1) (n ys (a i σ H p).2) l p
def Qj{l:Addr}{xs:List V}(Pv:Nat->St->Hp->Prop)(c:Pv 0 σ H)(a:∀i σ H,Pv i σ H->k.sq K H l xs)
 (d:∀i x T σ H,xs[i]?=some x->H T=none->Pv i σ H->g (.ref T) σ (upd H T (.tup [.int i,x])) λσ2 Y=>tb {D with nx:=Pv (i+1),ct:=Pv (i+1),bk:=D.nx} σ2 Y) (hd:∀σ H,Pv xs.length σ H->D.nx σ H):F2 (L8 k K l) g tb D σ H:=by
 refine NU xs.length Pv c (λi σ H p b=>⟨xs,xs[i],a i σ H p,by simp[b]⟩) (λσ H p=>⟨xs,a _ σ H p,rfl⟩) (λi v σ H H' p b y=>?_) hd;obtain⟨T,x,e,rfl,rfl,f⟩:=y;exact d i x T σ H (f xs (a i σ H p)) e p
end
mutual
inductive Bs (F:Addr->Prop) (H:Hp):V->Dt->Prop where
 | non:Bs F H .non .non
 | bl (b:Bool):Bs F H (.bl b) (.bl b)
 | int (i:Int):Bs F H (.int i) (.int i)
 | str (x:Str):Bs F H (.str x) (.str x)
 | tup {a:Addr} {vs:List V} {ds:List Dt} (h:H a=some (.tup vs)) (t:AG F H vs ds):Bs F H (.ref a) (.tup ds)
 | lst {a:Addr} {vs:List V} {ds:List Dt} (h:H a=some (.lst vs)) (f:F a) (t:AG F H vs ds):Bs F H (.ref a) (.lst ds)
inductive AG (F:Addr->Prop) (H:Hp):List V->List Dt->Prop where
 | nil:AG F H [] []
 | cons {v:V} {d:Dt} {vs:List V} {ds:List Dt} (h:Bs F H v d) (t:AG F H vs ds):AG F H (v :: vs) (d :: ds)
end
mutual
theorem Bs.go {F G:Addr->Prop}{H H':Hp} (e:∀ a vs,H a=some (.tup vs)->H' a=some (.tup vs)) (l:∀ a vs,H a=some (.lst vs)->F a->H' a=some (.lst vs)/\G a) {v:V} {d:Dt} (h:Bs F H v d):Bs G H' v d:=by
 cases h with
 | non=>exact .non
 | bl b=>exact .bl b
 | int i=>exact .int i
 | str x=>exact .str x
 | tup h t=>exact .tup (e _ _ h) (AG.go e l t)
 | lst h f t=>exact .lst (l _ _ h f).1 (l _ _ h f).2 (AG.go e l t)
theorem AG.go {F G:Addr->Prop}{H H':Hp} (e:∀ a vs,H a=some (.tup vs)->H' a=some (.tup vs)) (l:∀ a vs,H a=some (.lst vs)->F a->H' a=some (.lst vs)/\G a) {vs:List V} {b:List Dt} (h:AG F H vs b):AG G H' vs b:=by
 cases h with
 | nil=>exact .nil
 | cons h t=>exact .cons (Bs.go e l h) (AG.go e l t)
end
mutual
theorem Bs.dt {K:Aj}{F:Addr->Prop}{H:Hp}{v:V}{d:Dt} (h:Bs F H v d):Ap K H v d:=by
 cases h with
 | non=>exact .non
 | bl b=>exact .bl b
 | int i=>exact .int i
 | str x=>exact .str x
 | tup h t=>exact .tup (Al.of h) (AG.dts t)
 | lst h f t=>exact .lst (Af.of h) (AG.dts t)
theorem AG.dts {K:Aj}{F:Addr->Prop}{H:Hp}{vs:List V}{a:List Dt} (h:AG F H vs a):Ai K H vs a:=by
 cases h with
 | nil=>exact .nil
 | cons h t=>exact .cons (Bs.dt h) (AG.dts t)
end
section
variable {F G M:Addr->Prop} {H H':Hp} {v:V} {d:Dt} {vs us:List V} {ds es:List Dt}
def Bs.same(s:Ac H H')(h:Bs F H v d):Bs F H' v d:=h.go (λζ ζ q=>s _ _ q) λζ ζ q f=>⟨s _ _ q,f⟩
def AG.same(s:Ac H H')(h:AG F H vs ds):AG F H' vs ds:=h.go (λζ ζ q=>s _ _ q) λζ ζ q f=>⟨s _ _ q,f⟩
def Bs.keeps(k:Keeps M H H')(a:∀x,F x->¬M x)(h:Bs F H v d):Bs F H' v d:=h.go (λζ ζ q=>k.tup q) λζ ζ q f=>⟨k.at_ _ _ q (a _ f),f⟩
def AG.keeps(k:Keeps M H H')(a:∀x,F x->¬M x)(h:AG F H vs ds):AG F H' vs ds:=h.go (λζ ζ q=>k.tup q) λζ ζ q f=>⟨k.at_ _ _ q (a _ f),f⟩
def Bs.mono(e:∀x o,H x=some o->F x->G x)(h:Bs F H v d):Bs G H v d:=h.go (λζ ζ q=>q) λζ ζ q f=>⟨q,e _ _ q f⟩
def AG.mono(e:∀x o,H x=some o->F x->G x)(h:AG F H vs ds):AG G H vs ds:=h.go (λζ ζ q=>q) λζ ζ q f=>⟨q,e _ _ q f⟩
theorem AG.length:∀{vs:List V}{ds:List Dt},AG F H vs ds->vs.length=ds.length
 |_,_,.nil=>rfl
 |_,_,.cons _ t=>by rw[EG,EG,AG.length t]
theorem AG.snoc:∀{vs:List V}{ds:List Dt},AG F H vs ds->Bs F H v d->AG F H (vs++[v]) (ds++[d])
 |_,_,.nil,h=>.cons h .nil
 |_,_,.cons a t,h=>.cons a (AG.snoc t h)
theorem AG.get:∀{vs:List V}{ds:List Dt}{i:Nat}{v:V},AG F H vs ds->vs[i]?=some v->∃d,ds[i]?=some d/\Bs F H v d
 |_,_,i,v,.nil,e=>by simp at e
 |_,_,0,v,.cons a t,e=>by simp at e;subst e;exact⟨_,rfl,a⟩
 |_,_,i+1,v,.cons a t,e=>by
   obtain⟨d,b,c⟩:=AG.get (i:=i) t (by simpa using e);exact⟨d,by simpa using b,c⟩
theorem AG.of_all{α:Type}{f:α->V}{g:α->Dt}:∀{l:List α},(∀x∈l,Bs F H (f x) (g x))->AG F H (l.map f) (l.map g)
 |[],_=>.nil
 |x::l,h=>.cons (h x B2) (AG.of_all λy a=>h y (DW _ a))
end
theorem T1{α:Type}{f:α->List V}{D:α->Dt}{F:Addr->Prop}{H:Hp}(d:∀(r:α)(t:Addr),H t=some (.tup (f r))->Bs F H (.ref t) (D r)):∀{ts:List Addr}{c:List α},RT f H ts c->AG F H (ts.map V.ref) (c.map D)
 |[],[],_=>.nil
 |[],_::_,h=>by have:=h.len;simp at this
 |_::_,[],h=>by have:=h.len;simp at this
 |t::ts,r::c,h=>.cons (d r t (h.at_ 0 t r rfl rfl)) (T1 d ⟨by simpa using h.len,λn a b e g=>h.at_ (n+1) a b (by simpa using e) (by simpa using g)⟩)
variable {F:Addr->Prop}
def Ig(r:Aq)(t:Addr)(h:H t=some (.tup (Gz r))):Bs F H (.ref t) (IU r):=.tup h (.cons (.int _) (.cons (.str _) (.cons (.int _) .nil)))
def Cn.own{t:Addr}(h:Cn F H t w):Bs F H (.ref t) (Dc.D w):=by
 obtain⟨d,a,b,c⟩:=h;exact .lst a c (T1 Ig b)
variable {b:AO}
def Dl.own{t:Addr}(h:Dl F H t b):Bs F H (.ref t) (Ec.D b):=by
 obtain⟨l,f,a,c,d,e⟩:=h;exact .tup a (.cons (.lst c e (T1 Ig d)) (.cons (.int _) (.cons (.int _) .nil)))
def Ih (ss:List Bg) (m:Aq):DZ:=match ss[m.1.toNat]? with
 |some s=>(match s.2[m.2.2.toNat]? with
   |some p=>p
   |none=>default)
 |none=>default
def T4{s:Bg}{p:DZ}(a:m.1=(n:Int))(b:m.2.2=(k:Int))(c:ss[n]?=some s)(d:s.2[k]?=some p):Ih ss m=p:=by
 unfold Ih;rw[a,b,Bw,Bw,c];dsimp only;rw[d]
def CC (ss:List Bg) (w:List Aq):DZ:=match w.getLast? with
 |some m=>Ih ss m
 |none=>default
def CH (ss:List Bg) (w:List Aq):Prop:=∃(v:List Aq)(m:Aq),w=v++[m]/\Ed ss m/\m.2.1=("told" : Str)
def Ma(ss:List Bg)(v:List Aq)(m:Aq):CC ss (v++[m])=Ih ss m:=by
 unfold CC;rw[List.getLast?_concat]
def GO (W:Wd) (w:List Aq):Option Int:=if(CC W.ss w).2.2.1=("by" : Str)/\W.as[(CC W.ss w).2.2.2.toNat]?=some none then some (CC W.ss w).2.2.2 else none
def FV (W:Wd):List (List Aq)->Option Ow
 |[]=>none
 |w::ws=>match GO W w with
   |some q=>some (w,q)
   |none=>FV W ws
def BM (W:Wd) (w:List Aq):Option Int:=if(CC W.ss w).2.2.1=("thing" : Str) then some (CC W.ss w).2.2.2 else match W.as[(CC W.ss w).2.2.2.toNat]? with
 |some (some p)=>if p.1=("thing" : Str) then some p.2 else none
 |_=>none
noncomputable def FW (ss:List Bg) (ord:A') (ws:List (List Aq)):List Ow->Option Ow
 |[]=>none
 |o::os=>if(ws.any λv=>CB ss ord v o.1)=true then FW ss ord ws os else some o
abbrev Wt:Type:=Int×List Aq×Int
abbrev KY:Option Wt->Dt
 |none=>.non
 |some p=>.tup [.int p.1,Dc.D p.2.1,.int p.2.2]
noncomputable def GP (W:Wd) (ord:A') (ws:List (List Aq)) (os:List Ow):Option Ow:=match FW W.ss ord ws os with
 |some o=>some o
 |none=>FV W (Dx W.ss ord ws ws)
def B4 (W:Wd) (seen:List (List Aq)) (at_:Int):Str×Int:=if ∀w∈seen,BM W w=none then("none",at_) else match seen with
 |[]=>("none",at_)
 |w::_=>(match BM W w with
   |some n=>if ∀v∈seen,BM W v=some n then("thing",n) else("torn",at_)
   |none=>("torn",at_))
noncomputable def Cv (W:Wd) (ord:A') (ws:List (List Aq)) (os:List Ow) (at_:Int):C'×Option Wt:=match GP W ord ws os with
 |some o=>(none,some (at_,o.1,o.2))
 |none=>(some (B4 W (Dx W.ss ord ws ws) at_),none)
variable {W:Wd}{os:List Ow}{at_:Int}{o:Ow}
def WW{ws:List (List Aq)}(h:GP W ord ws os=some o):Cv W ord ws os at_=(none,some (at_,o.1,o.2)):=by unfold Cv;rw[h]
def Qk{ws:List (List Aq)}(h:GP W ord ws os=none):Cv W ord ws os at_=(some (B4 W (Dx W.ss ord ws ws) at_),none):=by unfold Cv;rw[h]
def Z8{ws:List (List Aq)}(h:GP W ord ws os=none):FV W (Dx W.ss ord ws ws)=none:=by
 unfold GP at h
 cases e:FW W.ss ord ws os with
 |some o=>rw[e] at h;cases h
 |none=>rw[e] at h;exact h
def OG{a:List (List Aq)}(h:∀w∈a,BM W w=none):B4 W a at_=(("none" : Str),at_):=Ar h
def Ql{r:List (List Aq)}(h:¬∀v∈w::r,BM W v=none)(k:¬∀v∈w::r,BM W v=BM W w):B4 W (w::r) at_=(("torn" : Str),at_):=by
 unfold B4;rw[Ao h];dsimp only
 cases e:BM W w with
 |none=>rfl
 |some n =>
   rw[e] at k;exact Ao k
def Qm{r:List (List Aq)}(h:¬∀v∈w::r,BM W v=none)(k:∀v∈w::r,BM W v=BM W w):∃n,BM W w=some n/\B4 W (w::r) at_=(("thing" : Str),n):=by
 cases e:BM W w with
 |none=>exact absurd (λv a=>by rw[k v a,e]) h
 |some n =>
   refine⟨n,rfl,?_⟩;unfold B4;rw[Ao h];dsimp only;rw[e];exact Ar λv a=>by rw[k v a,e]
def WX{a b:Option Int}(h:D0 a=D0 b):a=b:=by
 cases a<;>cases b<;>first|rfl|(cases h;rfl)|cases h
def JY{a:Option Int}:D0 a=.non↔a=none:=⟨λh=>WX (b:=none) h,λh=>by rw[h];rfl⟩
def Z9(a b:Option Int):Lv (D0 a) (D0 b)=true:=by cases a<;>cases b<;>rfl
def Gb:(((l.map λw=>D0 (BM W w)).map λv=>decide (v=V.non)).all id=true)↔∀w∈l,BM W w=none:=by
 simp only[List.all_map,List.all_eq_true,Function.comp,id,decide_eq_true_eq,JY]
def Ii:(((l.map λw=>D0 (BM W w)).map λv=>!decide (v=D0 (BM W w))).any id=true)↔¬∀v∈l,BM W v=BM W w:=by
 simp only[List.any_map,Jb,Function.comp,id,Bool.not_eq_true',decide_eq_false_iff_not];refine⟨λ⟨v,a,b⟩h=>b (by rw[h v a]),λh=>?_⟩;refine Classical.byContradiction λn=>h λv c=>?_;exact Classical.byContradiction λm=>n ⟨v,c,λz=>m (WX z)⟩
abbrev Lk:Type:=List AO×List (List Aq)×List (List Aq)
abbrev Mb (l:Lk):Dt:=.tup [.lst (l.1.map Ec.D),.lst (l.2.1.map Dc.D),.lst (l.2.2.map Dc.D)]
structure EW (W:Wd) (ord:A') (sc st:Int) (x:Str) (l:Lk) (os:List Ow):Prop where
 b:C9 W sc st l.1
 f:L3 W x l.1 l.2.1
 s:l.2.2=Dx W.ss ord l.2.1 l.2.1
 o:Nj W l.1 os
abbrev B5 (W:Wd) (n:Int):Str×Int:=match W.gs[n.toNat]? with
 |some p=>Ei W.gs W.as p
 |none=>("no",0)
inductive LU (W:Wd) (inn:Int) (ord:A'):Int->Int->List Str->Int->C'->Option Wt->List Lk->List Int->Prop where
 |stop {sc st:Int} {x:Str} {r:List Str} {at_:Int} {l:Lk} {os:List Ow} {a:C'} {w:Option Wt} (h:EW W ord sc st x l os) (e:Cv W ord l.2.1 os at_=(a,w)) (n:(∀k,a≠some (("thing" : Str),k))\/r=[]):LU W inn ord sc st (x::r) at_ a w [l] []
 |opn {sc st:Int} {x y:Str} {r:List Str} {at_:Int} {l:Lk} {os:List Ow} {n q:Int} {w:Option Wt} (h:EW W ord sc st x l os) (e:Cv W ord l.2.1 os at_=(some (("thing" : Str),n),w)) (i:B5 W n=(("open" : Str),q)):LU W inn ord sc st (x::y::r) at_ none (some (at_,[],q)) [l] [n]
 |no {sc st:Int} {x y:Str} {r:List Str} {at_:Int} {l:Lk} {os:List Ow} {n q:Int} {w:Option Wt} (h:EW W ord sc st x l os) (e:Cv W ord l.2.1 os at_=(some (("thing" : Str),n),w)) (i:B5 W n=(("no" : Str),q)):LU W inn ord sc st (x::y::r) at_ (some ("none",at_+1)) none [l] [n]
 |go {sc st:Int} {x y:Str} {r:List Str} {at_:Int} {l:Lk} {os:List Ow} {n q:Int} {w w':Option Wt} {a:C'} {ls:List Lk} {ts:List Int} (h:EW W ord sc st x l os) (e:Cv W ord l.2.1 os at_=(some (("thing" : Str),n),w)) (i:B5 W n=(("to" : Str),q)) (k:LU W inn ord q inn (y::r) (at_+1) a w' ls ts):LU W inn ord sc st (x::y::r) at_ a w' (l::ls) (n::ts)
variable {sc st:Int}{x:Str}
def T6(ok:Ck W)(e:0<=sc/\sc<W.ss.length)(f:0<=st/\st<W.sts.length){bs:List AO}(c:C9 W sc st bs)(a:w∈Fc W x bs):CH W.ss w:=by
 have d:=(P6 ok e f c a).1;obtain⟨b,g,j,q,h,_,_,rfl⟩:=Ww a;exact⟨b.1,_,rfl,d _ (by simp),rfl⟩
def WY{all:List (List Aq)}(h:w∈Dx ss ord all l):w∈l:=(Ny.mp h).1
def Nk(c:Bz W)(h:CH W.ss w):ET W.gs.length W.as.length (CC W.ss w):=by
 obtain⟨v,m,rfl,⟨n,k,s,d,f,a,g⟩,i⟩:=h;rcases g with⟨e,_⟩|⟨_,b⟩;exact absurd (i.symm.trans e) Oy;rw[Ma,T4 d f a (AA b)];exact c.tl s (Bc a) _ (DX b)
def Qn{l:Addr}{v:List Aq}(h:Cn F H l (v++[m])):∃(a:List Addr)(t:Addr),H l=some (.lst (a.map V.ref))/\Bi (a.map V.ref) (-1)=some (.ref t)/\H t=some (.tup (Gz m)):=by
 obtain⟨a,f,b,_⟩:=h;have g:=b.len;rw[AQ,Ef] at g;have d:v.length<a.length:=(by lia);have i:=AA d;refine⟨a,a[v.length],f,?_,b.at_ v.length _ m i (by simp)⟩
 have e:a.map V.ref=(a.take v.length).map V.ref++[V.ref a[v.length]]:=by
  have:a=a.take v.length++[a[v.length]]:=by
   have c:=List.take_append_drop v.length a;rw[Kz d,List.drop_eq_nil_of_le (by lia)] at c;exact c.symm
  conv=>lhs;rw[this]
  rw[A6];rfl
 rw[e];exact Tz _ _
def T8 (F:Addr->Prop) (H:Hp) (v:V):Option Ow->Prop
 |none=>v=.non
 |some o=>∃p l,v=.ref p/\H p=some (.tup [.ref l,.int o.2])/\Cn F H l o.1
def FA.way{t:Addr}{p:Ow}(h:FA F H t p):∃l,H t=some (.tup [.ref l,.int p.2])/\Cn F H l p.1:=by
 obtain⟨l,a,b,c,d,e⟩:=h;exact⟨l,b,a,c,d,e⟩
variable {α:Type}
def KZ{l:List α}{x:α}(h:l[i]?=some x):l.drop i=x::l.drop (i+1):=by
 obtain⟨a,rfl⟩:=Bh.mp h;exact Kz a
def WZ{ws:List (List Aq)}(h:(ws.any λv=>CB ss ord v o.1)=false):FW ss ord ws (o::os)=some o:=by
 unfold FW;rw[h,Ao CS]
def W0{ws:List (List Aq)}(h:(ws.any λv=>CB ss ord v o.1)=true):FW ss ord ws (o::os)=FW ss ord ws os:=by
 conv=>lhs;unfold FW
 rw[h,Ar rfl]
variable {q:Int}
def Ua{ws:List (List Aq)}(h:GO W w=some q):FV W (w::ws)=some (w,q):=by
 unfold FV;rw[h]
def Qo{ws:List (List Aq)}(h:GO W w=none):FV W (w::ws)=FV W ws:=by
 conv=>lhs;unfold FV
 rw[h]
theorem Ub{W:Wd}:∀{ws:List (List Aq)},FV W ws=none->∀w∈ws,GO W w=none
 |[],_,w,h=>by cases h
 | x :: ws,e,w,h=>by
   cases ex:GO W x with
   |some q=>rw[Ua ex] at e;cases e
   |none =>
     rw[Qo ex] at e;rcases Cc.mp h with rfl|h;exact ex;exact Ub e w h
def Bs.two{m:Addr}{d e:Dt}(h:Bs F H (.ref m) (.tup [d,e])):∃x y,H m=some (.tup [x,y])/\Bs F H x d/\Bs F H y e:=by
 cases h with
 | tup h t =>
   cases t with
   |cons a t =>
     cases t with
     |cons b t =>
       cases t with
       |nil=>exact⟨_,_,h,a,b⟩
def Bs.ansN(h:Bs F H v (Du none)):v=.non:=by cases h;rfl
def Bs.ansS{p:Str×Int}(h:Bs F H v (Du (some p))):∃t,v=.ref t/\H t=some (.tup [.str p.1,.int p.2]):=by
 have c:Bs F H v (.tup [.str p.1,.int p.2]):=h
 cases v with
 |ref m =>
   obtain⟨x,y,e,a,b⟩:=c.two;cases a;cases b;exact⟨m,rfl,e⟩
 |_=>cases c
def Nl:("none" : Str)≠("thing" : Str):=by decide +kernel
def Qp:("torn" : Str)≠("thing" : Str):=by decide +kernel
set_option tactic.hygienic true in
def dA{a:List (List Aq)}{n:Int}(h:B4 W a at_=(("thing" : Str),n)):∃w∈a,BM W w=some n:=by
 unfold B4 at h;split at h;exact absurd (BB Prod.fst h) Nl;split at h;exact absurd (BB Prod.fst h) Nl;rename_i w r _;split at h;rename_i m b;split at h;refine⟨w,B2,?_⟩;have e:m=n:=BB Prod.snd h;rw[b,e];exact absurd (BB Prod.fst h) Qp;exact absurd (BB Prod.fst h) Qp
set_option tactic.hygienic true in
def dB(ok:Ck W)(b:Bz W)(c:CH W.ss w){n:Int}(h:BM W w=some n):0<=n/\n<W.gs.length:=by
 have d:=Nk b c;unfold BM at h;split at h;rename_i f;have e:=BJ h;rcases d with⟨_,g⟩|⟨a,_⟩;rw[<-e];exact g;rw[f] at a;exact absurd a (by decide +kernel);split at h;rename_i p i;split at h;rename_i j;rw[<-BJ h];exact ok.an p (Bc i) j;cases h;cases h
def OH(ok:Ck W)(a:Bz W){ws:List (List Aq)}{n:Int}{w:Option Wt}(b:∀w∈ws,CH W.ss w)(h:Cv W ord ws os at_=(some (("thing" : Str),n),w)):0<=n/\n<W.gs.length:=by
 unfold Cv at h;split at h;cases BB Prod.fst h;obtain⟨w,c,d⟩:=dA (BJ (BB Prod.fst h));exact dB ok a (b w (WY c)) d
def dC(b:List (Str×Int))(a:List (C'))(q:Int):(ER b a q).1=("to" : Str)\/(ER b a q).1=("open" : Str)\/(ER b a q).1=("no" : Str):=by
 unfold ER;split;split;split;split;exact .inl rfl;exact .inr (.inr rfl);exact .inr (.inr rfl);exact .inr (.inr rfl);exact .inr (.inl rfl);exact .inr (.inr rfl)
def W1(b:List (Str×Int))(a:List (C'))(p:Str×Int):(Ei b a p).1=("to" : Str)\/(Ei b a p).1=("open" : Str)\/(Ei b a p).1=("no" : Str):=by
 unfold Ei;split;exact .inl rfl;split;exact dC b a p.2;exact .inr (.inr rfl)
structure LC (K:Aj) (F:Addr->Prop) (H:Hp) (nt A t:Addr) (W:Wd) (qs:List Qu) (inn:Int) (ord:A'):Prop where
 net:∃(S T R:Addr)(us Gs Es ts qt:List Addr),H nt=some (.tup [.ref S,.ref T,.ref R])/\F7 H S T R us Gs Es ts qt W.ss W.gs qs
 ans:HW K H A W.as
 tab:FO K F H t W.sts inn ord
structure OI (W:Wd) (qs:List Qu) (inn:Int) (ord:A'):Prop where
 ok:Ck W
 sm:Bz W
 ol:ord.length<=40
 irr:∀x,(x,x)∉ord
 inn:0<=inn/\inn<W.sts.length
 q:∀q∈qs,(0<=q.1/\q.1<W.ss.length)/\(0<=q.2.1/\q.2.1<W.sts.length)/\1<=q.2.2.length/\q.2.2.length<=8
variable {inn:Int}
def LC.caseH{K:Aj}{a A t:Addr}{d:List Qu}(h:LC K F H a A t W d inn ord):A1 K H a A t W:=by
 obtain⟨⟨S,T,R,e,f,g,i,j,k,l⟩,b,c⟩:=h;exact⟨⟨S,T,R,e,f,g,i,j,d,k,l⟩,b,c.caseT⟩
variable {a:C'}{ls:List Lk}{ts:List Int}
def Mc{p:List Str}{w:Option Wt}(h:LU W inn ord sc st p at_ a w ls ts):ls.length<=p.length:=by
 induction h with
 |stop=>simp
 |opn=>simp
 |no=>simp
 |go _ _ _ _ b=>simpa using b
def Dn:Nat->Dt->Prop
 |0,_=>False
 |_+1,.non=>True
 |_+1,.bl _=>False
 |_+1,.int _=>True
 |_+1,.str _=>True
 |n+1,.tup l=>∀d∈l,Dn n d
 |n+1,.lst l=>∀d∈l,Dn n d
structure FR (W:Wd):Prop where
 st:∀s∈W.ss,s.1.length<=8
 kst:∀s∈W.ss,∀p∈s.1,F6 W.ss.length W.as.length p
 kth:∀p∈W.gs,F5 W.ss.length W.as.length p
 an:∀p,some p∈W.as->p.1=("thing" : Str)->0<=p.2/\p.2<W.gs.length
 go:∀s∈W.sts,∀p∈s.1,0<=p.2/\p.2<W.sts.length
def W2(h:FR W){k:Str×Int}(c:k∈W.gs)(b:k.1=("part" : Str)):0<=k.2/\k.2<W.ss.length:=by
 rcases h.kth k c with⟨a,_⟩|⟨_,d⟩|⟨a,_⟩;rw[b] at a;exact absurd a (by decide +kernel);exact d;rw[b] at a;exact absurd a (by decide +kernel)
set_option tactic.hygienic true in
def dD(h:FR W){g:Str×Int}(e:ER W.gs W.as q=g)(a:g.1=("to" : Str)):0<=g.2/\g.2<W.ss.length:=by
 unfold ER at e;split at e;split at e;split at e;rename_i k b;split at e;rename_i c;subst e;exact W2 (k:=k) h (Bc b) c;subst e;exact absurd a Gp;subst e;exact absurd a Gp;subst e;exact absurd a Gp;subst e;exact absurd a P1;subst e;exact absurd a Gp
set_option tactic.hygienic true in
def dE(h:FR W){p:Str×Int}(b:p∈W.gs){g:Str×Int}(e:Ei W.gs W.as p=g)(a:g.1=("to" : Str)):0<=g.2/\g.2<W.ss.length:=by
 unfold Ei at e;split at e;rename_i c;subst e;exact W2 (k:=p) h b c;split at e;exact dD h e a;subst e;exact absurd a Gp
set_option tactic.hygienic true in
def dG(h:FR W){s:Bg}(c:s∈W.ss){p:CA}(d:p∈s.1){g:Str×Int}(e:ES W.gs W.as p=g)(a:g.1=("to" : Str)):0<=g.2/\g.2<W.ss.length:=by
 unfold ES at e;split at e;rename_i j;subst e;rcases h.kst s c p d with⟨_,f⟩|⟨b,_⟩;exact f;rw[j] at b;exact absurd b (by decide +kernel);split at e;split at e;split at e;rename_i k i;exact dE h (Bc i) e a;subst e;exact absurd a Gp;subst e;exact absurd a Gp;subst e;exact absurd a P1;subst e;exact absurd a Gp
def BX.kid0(ok:FR W){c:AO}(h:BX W b)(k:c∈C8 W b):BX W c:=by
 obtain⟨r,e,g,i,rfl⟩:=Bv.mp k;have f:=Wo e;obtain⟨j,p,a,l,m,rfl⟩:=Ou e;obtain⟨s,n,o⟩:=Wm (Bc l);refine⟨?_,?_,?_⟩;rw[f,List.nodup_append]
 exact⟨h.nd,by simp,λx d y q=>by
  rw[A7.mp q]
  exact λz=>i (z▸d)⟩
 rw[f];intro x d;rcases BI.mp d with d|d;exact h.rng x d;rw[A7.mp d];exact dG ok n o rfl g;obtain⟨t,u,v⟩:=Wn (Tx m);exact ok.go t u _ v
def BO.ok0(ok:FR W)(d:0<=sc/\sc<W.ss.length)(e:0<=st/\st<W.sts.length)(h:BO W sc st b):BX W b:=by
 induction h with
 |root=>exact⟨by simp[AM],λx a=>by simp[AM] at a;rw[a];exact d,e⟩
 |kid _ k c=>exact c.kid0 ok k
def Fm (W:Wd) (sc st:Int):Nat->List AO
 |0=>[([],sc,st)]
 |d+1=>(Fm W sc st d).flatMap (C8 W)
def dH(h:BO W sc st b):b∈Fm W sc st b.1.length:=by
 induction h with
 |root=>exact B2
 |@kid a c h k d =>
   obtain⟨r,_,_,_,rfl⟩:=Bv.mp k;show _∈Fm W sc st (a.1++[r.1]).length;rw[AQ,Ef];exact List.mem_flatMap.mpr ⟨a,d,k⟩
variable {B:Nat}
set_option tactic.hygienic true in
def W3(h:∀s∈W.ss,s.1.length<=B)(sc:Int):(By W sc).length<=B:=by
 unfold By;split;rename_i s a;exact h s (Bc a);exact CO _
theorem W4{W:Wd}{B:Nat}(h:∀s∈W.ss,s.1.length<=B)(sc st:Int):∀d,(Fm W sc st d).length<=B ^ d
 |0=>by show 1<=_;rw[Nat.pow_zero];exact AI _
 |d+1=>by
   have a:((Fm W sc st d).flatMap (C8 W)).length<=(Fm W sc st d).length*B:=TD _ λb=>EN (Wk W b) (W3 h _);have c:=Nat.mul_le_mul_right B (W4 h sc st d);rw[Nat.pow_succ];exact EN a c
def JZ (B:Nat):Nat->Nat
 |0=>0
 |n+1=>JZ B n+B ^ n
theorem W5{α:Type} [DecidableEq α]:∀{F l:List α},F.Nodup->(∀x∈F,x∈l)->F.length<=l.length
 |[],_,_,_=>CO _
 |x::F,l,c,h=>by
   have a:=h x B2;obtain⟨d,f⟩:=Gh.mp c
   have:=W5 (l:=l.erase x) f λy b=>by
    have g:y≠x:=λe=>d (e▸b);exact(List.mem_erase_of_ne g).mpr (h y (DW _ b))
   rw[List.length_erase_of_mem a] at this;have i:0<l.length:=List.length_pos_of_mem a;rw[EG];lia
theorem W6{W:Wd}{B:Nat}(h:∀s∈W.ss,s.1.length<=B)(sc st:Int):∀n,((List.range n).flatMap (Fm W sc st)).length<=JZ B n
 |0=>AI _
 |n+1=>by
   rw[List.range_succ,List.flatMap_append,AQ];have a:=W6 h sc st n;have b:=W4 h sc st n;have c:([n].flatMap (Fm W sc st)).length=(Fm W sc st n).length:=(by simp);show _<=JZ B n+B ^ n;lia
def Ij(ok:FR W)(h:∀s∈W.ss,s.1.length<=B)(sc st:Int)(F:List AO)(g:0<=sc/\sc<W.ss.length)(i:0<=st/\st<W.sts.length)(e:F.Nodup)(a:∀b∈F,BO W sc st b):F.length<=JZ B W.ss.length:=by
 refine EN (W5 (l:=(List.range W.ss.length).flatMap (Fm W sc st)) e λb c=>?_) (W6 h sc st _);have d:=(a b c).ok0 ok g i;have f:=KS W.ss.length (AM b) d.nd d.rng;rw[show(AM b).length=b.1.length+1 by unfold AM;simp] at f;exact List.mem_flatMap.mpr ⟨b.1.length,List.mem_range.mpr (by lia),dH (a b c)⟩
theorem Uc{α:Type}{f:AO->List α}{k:Nat}:∀(bs:List AO),(∀b∈bs,(f b).length<=k)->(bs.flatMap f).length<=bs.length*k
 |[],_=>by simp
 |b::bs,h=>by
   rw[List.flatMap_cons,AQ,EG,Nat.succ_mul];have:=h b B2;have:=Uc bs λc a=>h c (DW _ a);lia
set_option tactic.hygienic true in
def dI(ok:FR W)(h:∀s∈W.ss,s.1.length<=B)(e:W.ss.length<=100)(i:JZ B W.ss.length*max 2 B<=62)(k:∀s∈W.ss,s.2.length<=2)(l:∀s∈W.ss,∀p∈s.2,ET W.gs.length W.as.length p):Ck W/\Bz W:=by
 have q:JZ B W.ss.length*2<=62:=EN (Nat.mul_le_mul_left _ (Nat.le_max_left _ _)) i;have r:JZ B W.ss.length*B<=62:=EN (Nat.mul_le_mul_left _ (Nat.le_max_right _ _)) i;have j:∀(sc st:Int)(bs:List AO),(0<=sc/\sc<W.ss.length)->(0<=st/\st<W.sts.length)->C9 W sc st bs->bs.length<=JZ B W.ss.length:=λsc st bs a c d=>Ij ok h sc st bs a c d.nd λb f=>(d.mem b).mp f;refine⟨⟨e,ok.st,ok.kst,ok.kth,ok.an,ok.go,λsc st F a c m n=>?_⟩,⟨l,λx sc st bs a c d=>?_,λsc st bs a c d=>?_⟩⟩;have:=Ij ok h sc st F a c m n;lia;have g:=j sc st bs a c d
 have o:(Fc W x bs).length<=bs.length*2:=Uc _ λb f=>EN (Wu W b x _ 0) (by
  unfold GL;split;rename_i s e;exact k s (Bc e)
  exact CO _)
 have:=Nat.mul_le_mul_right 2 g;lia;have g:=j sc st bs a c d;have o:(G9 W bs).length<=bs.length*B:=Uc _ λb f=>EN (List.length_filterMap_le _ _) (EN (L0 _ _ _ _ _) (W3 h _));have:=Nat.mul_le_mul_right B g;lia
def Qq{l m:Lk}{a:List Ow}(h:EW W ord sc st x l os)(k:EW W ord sc st x m a):l=m/\os=a:=by
 have b:=h.b.uniq k.b;have c:=h.f;have d:=h.o;rw[b] at c d;have e:=c.uniq k.f;have f:l.2.2=m.2.2:=(by rw[h.s,k.s,e]);exact⟨Prod.ext b (Prod.ext e f),d.uniq k.o⟩
def LU.inv{r:List Str}{w:Option Wt}(k:LU W inn ord sc st (x::r) at_ a w ls ts):∃l os,EW W ord sc st x l os /\
 (∀b d,Cv W ord l.2.1 os at_=(b,d)->((∀k,b≠some (("thing" : Str),k))\/r=[])->b=a/\d=w/\ls=[l]/\ts=[]) /\
 ∀n d,Cv W ord l.2.1 os at_=(some (("thing" : Str),n),d)->r≠[]->∀s q,B5 W n=(s,q)->(s=("open" : Str)->a=none/\w=some (at_,[],q)/\ls=[l]/\ts=[n])/\(s=("no" : Str)->a=some (("none" : Str),at_+1)/\w=none/\ls=[l]/\ts=[n])/\(s=("to" : Str)->∃p t,LU W inn ord q inn r (at_+1) a w p t/\ls=l::p/\ts=n::t):=by
 have g:("open" : Str)≠("no" : Str):=(by decide +kernel);have j:("open" : Str)≠("to" : Str):=(by decide +kernel);have o:("no" : Str)≠("to" : Str):=(by decide +kernel)
 cases k with
 |stop h e n=>exact⟨_,_,h,λb d c ζ=>(by rw[e] at c;cases c;exact⟨rfl,rfl,rfl,rfl⟩),λm d c u=>(by rw[e] at c;cases c;exact(n.elim (λn=>n _ rfl) u).elim)⟩
 |opn h e i=>exact⟨_,_,h,λb d c n=>(by rw[e] at c;cases c;exact(n.elim (λn=>n _ rfl) nofun).elim),λm d c ζ s q f=>(by rw[e] at c;cases c;rw[i] at f;cases f;exact⟨λζ=>⟨rfl,rfl,rfl,rfl⟩,λz=>absurd z g,λz=>absurd z j⟩)⟩
 |no h e i=>exact⟨_,_,h,λb d c n=>(by rw[e] at c;cases c;exact(n.elim (λn=>n _ rfl) nofun).elim),λm d c ζ s q f=>(by rw[e] at c;cases c;rw[i] at f;cases f;exact⟨λz=>absurd z.symm g,λζ=>⟨rfl,rfl,rfl,rfl⟩,λz=>absurd z o⟩)⟩
 |go h e i k=>exact⟨_,_,h,λb d c n=>(by rw[e] at c;cases c;exact(n.elim (λn=>n _ rfl) nofun).elim),λm d c ζ s q f=>(by rw[e] at c;cases c;rw[i] at f;cases f;exact⟨λz=>absurd z.symm j,λz=>absurd z.symm o,λζ=>⟨_,_,k,rfl,rfl⟩⟩)⟩
def Ud{p:List Str}{w:Option Wt}(h:LU W inn ord sc st p at_ a w ls ts):∀{d:C'}{f:Option Wt}{g:List Lk}{j:List Int},LU W inn ord sc st p at_ d f g j->a=d/\w=f/\ls=g/\ts=j:=by
 induction h with
 |stop h e n =>
   intro d f g j k;obtain⟨l,os,b,c,_⟩:=k.inv;obtain⟨rfl,rfl⟩:=Qq h b;obtain⟨rfl,rfl,rfl,rfl⟩:=c _ _ e n;exact⟨rfl,rfl,rfl,rfl⟩
 |opn h e i =>
   intro d f g j k;obtain⟨l,os,b,_,c⟩:=k.inv;obtain⟨rfl,rfl⟩:=Qq h b;obtain⟨rfl,rfl,rfl,rfl⟩:=(c _ _ e nofun _ _ i).1 rfl;exact⟨rfl,rfl,rfl,rfl⟩
 |no h e i =>
   intro d f g j k;obtain⟨l,os,b,_,c⟩:=k.inv;obtain⟨rfl,rfl⟩:=Qq h b;obtain⟨rfl,rfl,rfl,rfl⟩:=(c _ _ e nofun _ _ i).2.1 rfl;exact⟨rfl,rfl,rfl,rfl⟩
 |go h e i u m =>
   intro d f g j k;obtain⟨l,os,b,_,c⟩:=k.inv;obtain⟨rfl,rfl⟩:=Qq h b;obtain⟨_,_,o,rfl,rfl⟩:=(c _ _ e nofun _ _ i).2.2 rfl;obtain⟨q,r,s,t⟩:=m o;exact⟨q,r,by rw[s],by rw[t]⟩
section
variable {ss:List Bg} {ord:A'}
end
section
variable {ths:List (Str×Int)} {as f:List (C')}
end
section
variable {W:Wd} {f:List (C')} {sc st:Int}
end
section
variable {W:Wd} {sc st:Int}
end
section
variable {W:Wd} {f:List (C')} {ord:A'} {sc st:Int}
def Md(ok:Ck W){n:Int}(b:0<=n/\n<W.gs.length)(h:B5 W n=(("to" : Str),q)):0<=q/\q<W.ss.length:=by
 obtain⟨j,c⟩:=Cz b.1;have a:j<W.gs.length:=(by lia);have d:B5 W n=Ei W.gs W.as W.gs[j]:=by unfold B5;rw[c,Bw,AA a]
 rw[d] at h;have:=P2 ok (DX a) rfl (BB Prod.fst h);rw[BB Prod.snd h] at this;exact this
def Qr(ok:Ck W)(c:0<=sc/\sc<W.ss.length)(d:0<=st/\st<W.sts.length){l:Lk}(a:EW W ord sc st x l os):∀w∈l.2.1,CH W.ss w:=λw b=>T6 ok c d a.b (a.f.perm.mem_iff.mp b)
end
section
variable {ths:List (Str×Int)} {as:List (C')}
end
section
variable {W:Wd} {ord:A'} {sc st:Int}
end
def GB (xs:Array Nat):Prop:=xs.toList.Pairwise (· < ·)
variable {xs:Array Nat}
def GB.lt(h:GB xs){a b:Nat}(e:a<b)(c:b<xs.size):xs.getD a 0<xs.getD b 0:=by
 have d:a<xs.size:=(by lia);have:=(List.pairwise_iff_getElem.mp h) a b (by simpa using d) (by simpa using c) e;rw[Array.getD_eq_getD_getElem?,Array.getD_eq_getD_getElem?,Array.getElem?_eq_getElem d,Array.getElem?_eq_getElem c];simpa using this
def GB.le(h:GB xs){a b:Nat}(d:a<=b)(c:b<xs.size):xs.getD a 0<=xs.getD b 0:=by
 rcases Nat.lt_or_eq_of_le d with e|e;exact CQ (h.lt e c);rw[e];exact AI _
def J1{d:Nat}(h:i<xs.size):xs.getD i d=xs.getD i 0:=by
 rw[Array.getD_eq_getD_getElem?,Array.getD_eq_getD_getElem?,Array.getElem?_eq_getElem h];rfl
theorem Ue{xs:Array Nat}(e:GB xs)(j:Nat):∀(b lo a:Nat),a<=xs.size->lo<=a->a-lo<=b->(∀i,i<lo->xs.getD i 0<j)->(∀i,a<=i->i<xs.size->j<=xs.getD i 0) ->
 SetTable.below.go xs j b lo a<=xs.size/\(∀i,i<SetTable.below.go xs j b lo a->xs.getD i 0<j)/\∀i,SetTable.below.go xs j b lo a<=i->i<xs.size->j<=xs.getD i 0
 |0,lo,a,f,m,n,g,h=>by
   have:lo=a:=(by lia);subst this;exact⟨f,g,h⟩
 |b+1,lo,a,f,m,n,g,h=>by
   unfold SetTable.below.go;by_cases c:lo<a;rw[Ar c];dsimp only;have k:(lo+a)/2<xs.size:=(by lia);rw[J1 k];by_cases d:xs.getD ((lo+a)/2) 0<j;rw[Ar d];exact Ue e j b _ a f (by lia) (by lia) (λi l=>Nat.lt_of_le_of_lt (e.le (by lia) k) d) h;rw[Ao d];exact Ue e j b lo _ (by lia) (by lia) (by lia) g (λi l o=>EN (Nat.le_of_not_lt d) (e.le l o));rw[Ao c];have:lo=a:=(by lia);subst this;exact⟨f,g,h⟩
def Uf(a:GB xs)(j:Nat):SetTable.below xs j<=xs.size/\(∀i,i<SetTable.below xs j->xs.getD i 0<j)/\∀i,SetTable.below xs j<=i->i<xs.size->j<=xs.getD i 0:=
 Ue a j xs.size 0 xs.size (AI _) (CO _) (by lia) (λi h=>by lia) (λi b c=>by lia)
def dJ(a:GB xs):SetTable.below xs 0=0:=by
 obtain⟨_,b,_⟩:=Uf a 0
 cases e:SetTable.below xs 0 with
 |zero=>rfl
 |succ n=>have:=b 0 (by lia);lia
variable {j:Nat}
def dL(a:GB xs)(h:xs[i]?=some j):SetTable.below xs (j+1)=i+1:=by
 obtain⟨f,b,d⟩:=Uf a (j+1);have e:i<xs.size:=(Array.getElem?_eq_some_iff.mp h).1;have g:xs.getD i 0=j:=by rw[Array.getD_eq_getD_getElem?,h];rfl
 rcases Nat.lt_trichotomy (SetTable.below xs (j+1)) (i+1) with c|c|c;have:=d i (by lia) e;lia;exact c;have k:=b (i+1) c;have l:xs.getD i 0<xs.getD (i+1) 0:=a.lt (Po i) (show i+1<xs.size by lia);lia
def dM(xs:Array α)(p:Nat)(x:α)(a:p<=xs.size):(SetTable.insertAt xs p x).toList=xs.toList.take p++[x]++xs.toList.drop p:=by
 unfold SetTable.insertAt;simp[Array.toList_extract];exact List.take_of_length_le (by simp)
def dN(e:GB xs)(n:xs[SetTable.below xs j]?≠some j):GB (SetTable.insertAt xs (SetTable.below xs j) j):=by
 obtain⟨o,f,q⟩:=Uf e j;generalize SetTable.below xs j=p at o f q n;unfold GB;rw[dM xs p j o]
 have g:∀{i:Nat}(c:i<xs.toList.length),xs.toList[i]=xs.getD i 0:=λ{i}c=>by
  have m:i<xs.size:=(by simpa using c);rw[Array.getD_eq_getD_getElem?,Array.getElem?_eq_getElem m];simp
 refine List.pairwise_append.mpr ⟨List.pairwise_append.mpr ⟨e.sublist (List.take_sublist _ _),List.pairwise_singleton _ _,λa d b h=>?_⟩,e.sublist (List.drop_sublist _ _),λa d b h=>?_⟩;rw[A7.mp h];obtain⟨i,c,rfl⟩:=List.getElem_of_mem d;rw[EJ] at c;rw[List.getElem_take,g (by lia)];exact f i (by lia);obtain⟨i,c,rfl⟩:=List.getElem_of_mem h;rw[Ky] at c;rw[List.getElem_drop,g (by lia)];have m:p+i<xs.size:=by simp at c;lia
 have s:j<xs.getD p 0:=by
  have l:p<xs.size:=(by lia);have:=q p (AI _) l;have ne:xs.getD p 0≠j:=λz=>n (by rw[Array.getElem?_eq_getElem l];rw[Array.getD_eq_getD_getElem?,Array.getElem?_eq_getElem l] at z;exact BB some z);lia
 have t:=e.le (show p<=p+i by lia) m;rcases BI.mp d with d|d;obtain⟨k,r,rfl⟩:=List.getElem_of_mem d;rw[EJ] at r;rw[List.getElem_take,g (by lia)];have:=f k (by lia);lia;rw[A7.mp d];lia
structure GQ (led:Bool) (t:SetTable):Prop where
 ris:GB t.place
 dum:t.dummies=#[]
 led:t.led=led
theorem W7{t:SetTable}{hashAt:Nat->Int}{h:Int}(hd:t.dummies=#[]):∀(a:Nat)(p:SetTable.Probe){j:Nat}{d:Option Nat},p.dummy=none->SetTable.probe.go t hashAt h a p=some (.empty j d)->t.slot j=.empty/\d=none
 |0,p,j,d,_,e=>by cases e
 |a+1,p,j,d,b,e=>by
   unfold SetTable.probe.go at e
   have l:∀q:SetTable.Probe,q.dummy=none->(t.advance q).dummy=none:=λq f=>by
    unfold SetTable.advance;split;exact f;exact f
   cases c:t.slot p.j with
   |empty=>rw[c] at e;cases e;exact⟨c,b⟩
   |dummy =>
     exfalso;have k:SetTable.has t.dummies p.j=false:=by rw[hd];unfold SetTable.has;simp
     unfold SetTable.slot at c;dsimp only at c;rw[k] at c;by_cases g:(t.place[SetTable.below t.place p.j]?==some p.j)=true;rw[Ar g] at c;cases c;rw[Ao g] at c;cases c
   |live i =>
     rw[c] at e;dsimp only at e;split at e;cases e;exact W7 hd a _ (l p b) e
def dO{t:SetTable}(h:t.slot j=.empty):t.place[SetTable.below t.place j]?≠some j:=λe=>by
 unfold SetTable.slot at h;simp only[e] at h;simp at h
variable {led:Bool}
def Qs{t:SetTable}(h:GQ led t)(n:Nat):GQ led (t.standIn n):=⟨by
 show GB (Array.range n);unfold GB;rw[Array.toList_range]
 exact List.pairwise_lt_range,rfl,h.led⟩
def Me{t:SetTable}(h:GQ led t)(a:t.slot j=.empty):GQ led (t.put j).1:=by
 refine⟨dN h.ris (dO a),?_,h.led⟩;show(if SetTable.has t.dummies j then SetTable.eraseAt t.dummies (SetTable.below t.dummies j) else t.dummies)=#[];rw[h.dum]
 have:SetTable.has #[] j=false:=by unfold SetTable.has;simp
 rw[this];rfl
def dP {t:SetTable} (h:GQ led t) (es:Array (Int × Value)) (k:Int) (x:Value):GQ led (layNew t es k x).2.1:=by
 unfold layNew
 cases e:t.freeSlot k with
 |none=>exact Qs h _
 | some r =>
   obtain⟨i,l⟩:=r;dsimp only
   have b:t.slot i=.empty:=by
    unfold SetTable.freeSlot at e
    cases c:t.probe (λζ=>k+1) k (t.probeStart k) with
    |none=>rw[c] at e;cases e
    |some m =>
      rw[c] at e
      cases m with
      |candidate=>cases e
      |empty j d =>
        obtain⟨f,g⟩:=W7 h.dum _ _ rfl c;subst g;cases e;exact f
   have a:=Me h b;unfold SetTable.orStandIn;split;exact a;exact Qs a _
def J2{e l k:Nat}{plain:Bool}{f:Array Int}{r:SetTable×Array Nat}(h:SetTable.laid e l k led plain f=some r):GQ led r.1:=by
 unfold SetTable.laid at h
 cases c:SetTable.layClean e f with
 |none=>rw[c] at h;cases h
 |some owner =>
   rw[c] at h;cases h;refine⟨?_,rfl,rfl⟩;unfold GB;dsimp only
   have:(List.map (λx=>x.1) (List.filterMap (λj=>Option.map (λx=>(j,x)) (owner.getD j none)) (List.range (e+1)))).Pairwise (· < ·):=by
    rw[List.pairwise_map];refine List.Pairwise.filterMap _ (λa b i c g d hd=>?_) (List.pairwise_lt_range (n:=e+1));obtain⟨x,_,rfl⟩:=E8.mp g;obtain⟨y,_,rfl⟩:=E8.mp hd;exact i
   exact this
def dQ{t:SetTable}(h:GQ led t)(es:Array (Int×Value))(a:Nat):GQ led (relayAll t es a).2.1:=by
 unfold relayAll
 cases c:t.relaid (es.map (·.1)) a with
 |none=>exact Qs h _
 |some r =>
   obtain⟨b,order⟩:=r;dsimp only;split;have:=J2 c;rw[h.led] at this;exact this;exact Qs h _
section
variable {prog:Program} {w:World} {α:Type} [DecidableEq α] [BEq α] [LawfulBEq α]
def B6 (knd:KeyKind prog w α) (f:Bool) (hp:Heap) (D:Addr) (M:α->Bool) (n:Nat):Prop:=
 ∃(ob:Obj)(es:Array (Int×Value))(ep:Nat)(tb:SetTable),hp.get? D=some ob/\ob.ExactSet/\ob.data=.set es ep tb/\ElemsOf knd es.toList/\(∀y,M y=true↔∃e∈es.toList,knd.is y e.2=true)/\es.size<scanBound/\tb.fits es.size=true/\es.size=n/\GQ f tb
variable {knd:KeyKind prog w α} {f:Bool} {A:Around} {E:G'} {s:Shared} {D:Addr}
variable {M:α->Bool}
def B6.keep{a b:Heap}(x:B6 knd f a D M n)(k:∀ob,a.get? D=some ob->b.get? D=some ob):B6 knd f b D M n:=by
 obtain⟨ob,c,d,e,g,x⟩:=x;exact⟨ob,c,d,e,k _ g,x⟩
def B6.cong{a:Heap}{b:α->Bool}{c:Nat}(x:B6 knd f a D M n)(d:∀y,b y=M y)(e:c=n):B6 knd f a D b c:=by
 obtain⟨g,h,i,j,k,l,m,o,p,q,r,s,t⟩:=x;exact⟨g,h,i,j,k,l,m,o,λy=>by rw[d];exact p y,q,r,by rw[e];exact s,t⟩
variable {tb:SetTable}
def Mf(x:GQ f tb):GQ f {tb with plain:=false}:=⟨x.ris,x.dum,x.led⟩
def W8{ob:Obj}{es a:Array (Int×Value)}{ep:Nat}{b:SetTable}(i:s.heap.get? D=some ob)(d:ob.ExactSet)(j:ob.data=.set es ep tb)(k:ElemsOf knd a.toList)(l:∀y,M y=true↔∃e∈a.toList,knd.is y e.2=true)(g:a.size<scanBound)(m:b.fits a.size=true)(o:GQ f b){Q:Unit->Shared->Prop}
 (q:∀c,Heap.SameBut D s.heap c->(∃h,c.get? D=some h/\h.ExactSet/\h.data=.set a (ep+1) b)->B6 knd f c D M a.size->Q () {s with heap:=c}):wpAny (model prog w) A (storeSet D a b) Q E s:=by
 obtain⟨n,_⟩:=SetOf_store (knd:=knd) i d j k l g m;exact wpAny_storeSet_of i j (q _ (Heap.SameBut.update ..) ⟨_,n,d,rfl⟩ ⟨_,a,ep+1,b,n,d,rfl,k,l,g,m,rfl,o⟩) (fits_of_scanBound g)
def W9{l:Array (Int×Value)}{m:List (Int×Value)}(p:l.toList.Perm m):l.size=m.length:=by rw[<-Array.length_toList,p.length_eq]
def Ug(b:Bool){u:Shared}{Q:Unit->Shared->Prop}(q:Q () u):wpAny (model prog w) A (match b with|true=>rule "set.scan.the-table-gave-way"|false=>pure ()) Q E u:=by
 cases b;exact Az q;exact IH q
def Xa{ob:Obj}{es c:Array (Int×Value)}{ep:Nat}{d:SetTable}(v:s.heap.get? D=some ob)(x:ob.ExactSet)(z:ob.data=.set es ep tb)(j:ElemsOf knd c.toList)(k:∀y,M y=true↔∃e∈c.toList,knd.is y e.2=true)(l:c.size<scanBound)(B:d.fits c.size=true)(m:GQ f d){C:Bool}{Q:Option Bool->Shared->Prop}
 {g:Bool->Sem Unit} (F:∀(b:Bool)(u:Shared)(n:Unit->Shared->Prop),n () u->wpAny (model prog w) A (g b) n E u)
 (q:∀h,Heap.SameBut D s.heap h->B6 knd f h D M c.size->Q (some true) {s with heap:=h}) :
 wpAny (model prog w) A (storeSet D c d >>= λζ=>if(!C && d.tooFull)=true then g (relayAll d c (SetTable.grown c.size)).2.2 >>= λζ=>storeSet D (relayAll d c (SetTable.grown c.size)).1 (relayAll d c (SetTable.grown c.size)).2.1 >>= λζ=>pure (some true) else pure (some true)) Q E s:=by
 refine Ag (W8 v x z j k l B m λh o⟨T,G,H,I⟩J=>?_);split;have i:=relayAll_perm d c (SetTable.grown c.size);have p:=relayAll_fits d c (SetTable.grown c.size);have r:=dQ m c (SetTable.grown c.size);generalize relayAll d c (SetTable.grown c.size)=K at i p r;obtain⟨L,R,S⟩:=K;have t:L.size=c.size:=(W9 i).trans (Array.length_toList ..);refine Ag (F _ _ _ (Ag ?_));refine W8 (s:={s with heap:=h}) G H I (j.perm i) (λy=>(k y).trans ⟨λ⟨e,a,b⟩=>⟨e,i.mem_iff.mpr a,b⟩,λ⟨e,a,b⟩=>⟨e,i.mem_iff.mp a,b⟩⟩) (by rw[t];exact l) p r λN O ζ P=>?_;exact Az (q N (o.trans O) (P.cong (λζ=>rfl) t.symm));exact Az (q h o J)
def J3{y:α}{x:Value}{Q:Bool->Shared->Prop}(B:knd.is y x=true)(C:x.scannable=true)(T:B6 knd f s.heap D M n)(aa:n+1<scanBound)
 (q:∀a,Heap.SameBut D s.heap a->B6 knd f a D (λz=>M z || decide (z=y)) (if M y then n else n+1)->Q (!M y) {s with heap:=a}):wpAny (model prog w) A (setAddHashed D x (knd.hash y)) Q E s:=by
 obtain⟨U,d,V,tb,h,F,i,r,t,I,G,J,K⟩:=T;unfold setAddHashed setAddHashedIn;refine FZ (Ag (wpAny_setState_of h i G ?_));dsimp only;rw[byScan_of C I r,Ar rfl];unfold setAddByScan;refine Ag (Ag (IH (Ag (wpAny_setScan_of B h i G r ?_))))
 cases fd:List.findIdx? (λe=>knd.is y e.2) d.toList with
 |some j =>
   obtain⟨W,X,_⟩:=List.findIdx?_eq_some_iff_getElem.mp fd;have k:M y=true:=(t y).mpr ⟨_,DX W,X⟩;dsimp only;refine Az (Az ?_)
   have R:=q s.heap (Heap.SameBut.refl ..) ⟨U,d,V,tb,h,F,i,r,λz=>by
    rw[<-t z,Bool.or_eq_true,decide_eq_true_eq];refine⟨λc=>?_,.inl⟩;rcases c with c|c;exact c;rw[c];exact k,I,G,by rw[k];exact J,K⟩
   rw[k] at R;exact R
 |none =>
   have k:M y=false:=by
    cases c:M y with
    |false=>rfl
    |true =>
      obtain⟨e,Y,Z⟩:=(t y).mp c;have:=List.findIdx?_eq_none_iff.mp fd e Y;rw[Z] at this;cases this
   dsimp only;have g:=layNew_perm tb d (knd.hash y) x;have l:=layNew_fits tb d (knd.hash y) x;have m:=dP K d (knd.hash y) x;generalize layNew tb d (knd.hash y) x=ly at g l m;obtain⟨v,t1,wd,gv⟩:=ly;dsimp only at g l m;rw[Array.toList_push] at g;have L:v.size=n+1:=by rw[W9 g,AQ,Array.length_toList,J];rfl
   have N:ElemsOf knd v.toList:=(r.push B C).perm g;have O:=mem_push_iff B t g;have P:v.size<scanBound:=by rw[L];exact aa
   have S:∀a,Heap.SameBut D s.heap a->B6 knd f a D (λz=>M z || decide (z=y)) v.size->Q true {s with heap:=a}:=λa o p=>by
    have:=q a o;rw[k] at this;exact this (p.cong (λζ=>rfl) L.symm)
   refine Ag (Ug _ ?_);split;rw[hashByValue_scannable 8 C];refine Ag (Az ?_);refine Xa h F i N O P (by split;exact l;exact SetTable.fits_plain_off l) (by split;exact m;exact Mf m) (λb u Q' H=>Ug b H) λa o p=>?_;exact Az (S a o p);refine Ag (Az ?_);rw[Ar rfl];exact Xa h F i N O P l m (λb u Q' H=>Ug b H) λa o p=>Az (S a o p)
end
abbrev BY (w:World):Bool:=!(w.params.followText "set-order")
abbrev Ik (b:Bool):Obj:={cls:=.type "set",dict:=none,data:=.set #[] 0 (.fresh 0 0 b)}
section
variable {prog:Program} {w:World} {A:Around} {E:G'} {s:Shared}
theorem J4(x:Value)(q:Q (.ref s.heap.objs.size) {s with heap:=s.heap.push (Ik (BY w))}) :
 codeAny (model prog w) A (.call (.builtin "set.__new__") ⟨[.type "set",x],[]⟩) (wants Q E) s:=by
 refine codeAny_of_tree ?_;show wpAny _ A.in1 (checkBuiltinCall "set.__new__" ⟨[.type "set",x],[]⟩ >>= λζ=>again (.builtin "set.__new__" ⟨[.type "set",x],[]⟩)) _ _ s;refine Ag (wpAny_of_eq (F.newCall_set_1 x) (Az ⟨plainId_quiet F.plain_set_new _,codeAny_builtin F.entry_set_new ?_⟩));rw[Around.under_plainId F.plain_set_new _];have a:=sub_set_self;unfold Builtin.«set.__new__» Builtin.Frozenset.newClass
 cases s with
 |mk b g d c os =>
   dsimp only at q ⊢
   wp_walk
   refine wpAny_askSetting (Az ?_);dsimp only;simp only[newObj];exact Ag (wpAny_alloc (Az (Az q)))
end
def B7 (f:Nat->Int) (i:Nat):List Int:=((List.range i).map f).foldl step_dedup []
def OJ(f:Nat->Int)(i:Nat):B7 f (i+1)=step_dedup (B7 f i) (f i):=by
 unfold B7;rw[List.range_succ,A6,KA];rfl
def Il(l:List Int)(x:Int):(step_dedup l x).length=if l.any (·==x) then l.length else l.length+1:=by
 unfold step_dedup;split<;>simp
def Im(l:List Int)(x y:Int):(step_dedup l x).any (·==y)=(l.any (·==y) || decide (y=x)):=by
 unfold step_dedup;by_cases h:l.any (·==x)=true;rw[Ar h];by_cases e:y=x;subst e;rw[h];rfl;rw[D8 e,Bool.or_false];rw[Ao h,List.any_append];congr 1;by_cases e:y=x;subst e;simp;rw[D8 e]
 simp
 exact λz=>e z.symm
theorem Xb(f:Nat->Int):∀i,(B7 f i).length<=i
 |0=>AI _
 |i+1=>by
   have:=Xb f i;rw[OJ,Il];split<;>lia
theorem Xc(f:Nat->Int):∀(i:Nat)(y:Int),(B7 f i).any (·==y)=true↔∃j,j<i/\f j=y
 |0,y=>by
   constructor;intro h;cases h;rintro⟨j,h,_⟩;lia
 |i+1,y=>by
   rw[OJ,Im,Bool.or_eq_true,Xc f i y,decide_eq_true_iff];constructor;rintro(⟨j,h,e⟩|e);exact⟨j,by lia,e⟩;exact⟨i,by lia,e.symm⟩;rintro⟨j,h,e⟩;by_cases a:j=i;subst a;exact .inr e.symm;exact .inl ⟨j,by lia,e⟩
section
variable {prog:Program} {w:World} {A:Around} {R:Result->Shared->Prop} {It:Addr} {fp r:List Addr} {G:Array GenState->Array GenState->Prop} {n:Nat} {Pn:Nat->Value->Prop} {Sn:Nat->Shared->Prop}
theorem dR(c:WalksS prog w A.in1 It fp r G n Pn Sn)(D:Addr)(l:D∉fp)(f:Nat->Int)(u:∀i v,Pn i v->∃t,v=.int (f i) t)(Q:n+1<scanBound) :
 ∀(k i:Nat)(s:Shared),n-i=k->i<=n->Sn i s->B6 (intKind prog w) (BY w) s.heap D (λy=>(B7 f i).any (·==y)) (B7 f i).length ->
  (∀Z,Moved (D::r) G s Z->B6 (intKind prog w) (BY w) Z.heap D (λy=>(B7 f n).any (·==y)) (B7 f n).length->R (.ok (.ret .none)) Z) ->
  codeAny (model prog w) A (.builtin "set.update.loop" ⟨[.ref D,.ref It],[]⟩) R s:=by
 have p:D∉r:=λz=>l (c.sub _ z);have sub:∀b∈r,b∈D::r:=λb z=>DW _ z;intro k
 induction k with
 |zero =>
   intro i s x B st g j;obtain rfl:i=n:=by lia
   refine codeAny_builtin F.entry_set_update_loop ?_;rw[Around.under_plainId F.plain_set_update_loop _];show wpAny _ A.in1 (pyNext (.ref It) >>= _) _ _ s;refine Ag (c.done s _ _ st λa d=>?_);show wpAny _ A.in1 (ret Value.none) _ _ a;refine Az (j a (d.mono sub) ?_);exact g.keep λC e=>d.heap D _ p e
 |succ k E =>
   intro i s x B st g j;have lt:i<n:=(by lia);refine codeAny_builtin F.entry_set_update_loop ?_;rw[Around.under_plainId F.plain_set_update_loop _];show wpAny _ A.in1 (pyNext (.ref It) >>= _) _ _ s;refine Ag (c.item i s _ _ lt st λv a pv J d=>?_);obtain⟨t,rfl⟩:=u i v pv;have K:B6 (intKind prog w) (BY w) a.heap D (λy=>(B7 f i).any (·==y)) (B7 f i).length:=g.keep λC e=>d.heap D _ p e;show wpAny _ A.in1 (holding [Value.int (f i) t] (setAdd D (.int (f i) t)) >>= _) _ _ a;refine Ag (FZ ?_);unfold setAdd;refine FZ ?_;have q:(intKind prog w).is (f i) (.int (f i) t)=true:=intKind_is _ _ _ _;refine Ag ((intKind prog w).pyHash (k:=f i) q ?_);have P:(B7 f i).length+1<scanBound:=by have:=Xb f i;lia
   refine J3 (knd:=intKind prog w) (s:={a with toks:=a.toks+1}) q rfl K P λH m L=>?_
   have M:B6 (intKind prog w) (BY w) H D (λy=>(B7 f (i+1)).any (·==y)) (B7 f (i+1)).length:=
    L.cong (λy=>by rw[OJ,Im]) (by rw[OJ,Il])
   refine Az ⟨plainId_quiet F.plain_set_update_loop _,E (i+1) _ (by lia) lt (c.frame _ a _ _ J (Nat.le_succ _) λb h o e=>?_) M λI N O=>?_⟩;rw[m.2 b λz:b=D=>l (by rw[<-z];exact h)];exact e;refine j I (Moved.trans c.gtrans ((d.mono sub).then_heap (Nat.le_succ _) λb o h e=>?_) N) O;rw[m.2 b λz:b=D=>h (by rw[z];exact B2)];exact e
end
section
variable {prog:Program} {w:World} {A:Around} {E:G'} {s:Shared}
set_option maxRecDepth 100000 in
set_option maxHeartbeats 3200000 in
theorem dS {l:Addr} {a:Array Value} {f:Nat->Int} {Q:G'} (K:A.handled=none) (L:s.heap.IsList l a) (M:∀ (i:Nat) (v:Value),a[i]? = some v -> ∃ t,v=.int (f i) t) (d:a.size + 1 < scanBound)
 (h:∀(h':Heap)(g:Nat),B6 (intKind prog w) (BY w) h' s.heap.objs.size (λy=>(B7 f a.size).any (·==y)) (B7 f a.size).length ->
  (∀b o,b<s.heap.objs.size->s.heap.get? b=some o->h'.get? b=some o)->Q (.ref s.heap.objs.size) {s with heap:=h',toks:=g}) :
 wpAny (model prog w) A (call (.type "set") [.ref l]) Q E s:=by
 obtain⟨c,tl,aq⟩:=F.called_set.mro;have aw:=F.called_set.made;have ar:=F.called_set.sub;refine wpAny_call (codeAny_of_tree ?_);show wpAny _ _ (callAny (.type "set") _) _ _ _;refine Az ⟨Code.quiet_builtin _ (by decide +kernel),codeAny_builtin F.entry_type_call ?_⟩;rw[Around.under_plain (weight_type_call_type "set" [.ref l] []) rfl];have h1:=F.called_set.notType;have h2:=F.called_set.canCreate;have aj:=F.typeCall_set_1 (.ref l)
 repeat (any_goals (first|assumption|wp_step))
 refine codeAny_mono (J4 (.ref l) (E:=E) (Q:=λp q=>p=.ref s.heap.objs.size/\q={s with heap:=s.heap.push (Ik (BY w))}) ⟨rfl,rfl⟩) λr q k=>?_
 cases r with
 |error e=>exact k
 | ok N =>
   cases N with
   | ret p =>
     obtain⟨rfl,rfl⟩:=k;have u:(s.heap.push (Ik (BY w))).get? s.heap.objs.size=some (Ik (BY w)):=Co _ rfl;have O:Shared.TypeIs {s with heap:=s.heap.push (Ik (BY w))} (.ref s.heap.objs.size) "set" :=⟨_,u,rfl⟩;have ak:=F.called_set.init.lookup;have al:=F.called_set.init.bind (.ref s.heap.objs.size)
     repeat (any_goals (first|assumption|wp_step))
     refine codeAny_mono (codeAny_call_builtin (R:=wants (λr x=>r=.none/\∃h' g,x={s with heap:=h',toks:=g}/\B6 (intKind prog w) (BY w) h' s.heap.objs.size (λy=>(B7 f a.size).any (·==y)) (B7 f a.size).length /\
      (∀b o,b<s.heap.objs.size->s.heap.get? b=some o->h'.get? b=some o)) E) F.called_set.init.plain F.entry_set_init (check_set_init_1 O ?_)) λP x m=>?_
     . obtain⟨⟨oc,S,an,X⟩,D,G,B,H⟩:=L
       simp only at G H;subst G;subst H;have ai:(s.heap.push (Ik (BY w))).get? l=some {cls:=.type "list",dict:=S,data:=.seq a B,slots:=X}:=Bn _ D;have au:=F.sub_list_set;have av:=F.sub_list_frozenset;have ao:(Value.type "list" == Value.type "dict")=false:=(by decide);have I:(s.heap.push (Ik (BY w))).IsList l a:=⟨_,ai,rfl,B,rfl⟩;unfold Builtin.«set.__init__» noKeywords Builtin.Frozenset.updateFrom;generalize Y:pyIter=PI
       wp_walk
       subst Y;refine wpAny_pyIter_list I (Ag (wpAny_runValue ?_));have J:l<s.heap.objs.size:=Bj D;have Z:A.in1.in1.in1.handled=none:=(by simp[K])
       have aa:l≠(s.heap.push (Ik (BY w))).objs.size:=by
        rw[Heap.size_push];exact CF (Nat.lt_succ_of_lt J)
       have ab:s.heap.objs.size∉[(s.heap.push (Ik (BY w))).objs.size,l]:=by
        rw[Heap.size_push];intro z;rcases Cc.mp z with z|z;exact absurd z (CF (Po _));exact absurd (A7.mp z) (Nat.ne_of_gt J)
       refine dR ((Walks.list Z _ l aa a).toS) s.heap.objs.size ab f M d (a.size-0) 0 _ (by lia) (CO _) ⟨⟨_,Co _ rfl,rfl,rfl⟩,(I.push _)⟩ ?hS0 ?hR
       case hS0 =>
        have T:((s.heap.push (Ik (BY w))).push {cls:=.type "list_iterator",data:=.fields #[.ref l,.int 0 0]}).get? s.heap.objs.size=some (Ik (BY w)):=Bn _ u;exact⟨_,#[],0,_,T,⟨rfl,rfl,rfl⟩,rfl,(λe U=>by simp at U),(λy=>by simp[B7]),by decide,rfl,rfl,⟨List.Pairwise.nil,rfl,rfl⟩⟩
       case hR =>
        rintro⟨h',V,W,ae,af⟩ j n;obtain rfl:V=s.gens:=j.gens;obtain rfl:W=s.drawn:=j.drawn;obtain rfl:af=s.os:=j.os;show wpAny _ _ _ _ _ _;refine Az ?_;show wpAny _ _ (ret Value.none) _ _ _;refine Az ⟨rfl,h',ae,rfl,n,λb o d e=>?_⟩;refine j.heap b o (λz=>?_) (Bn _ (Bn _ e));rcases Cc.mp z with z|z;exact absurd z (CF d);have C:=A7.mp z;rw[Heap.size_push] at C;exact absurd C (CF (Nat.lt_succ_of_lt d))
     . cases P with
       |error e=>exact m
       |ok ag =>
         cases ag with
         |ret r =>
           obtain⟨rfl,h',g,rfl,n,ah⟩:=m
           repeat (any_goals (first|assumption|wp_step))
           exact h _ _ n ah
         |_=>exact m.elim
   |_=>exact k.elim
end
def dU:entryFor table "set.__iter__" = some Builtin.«frozenset.__iter__»:=entryFor_alias (id':= "frozenset.__iter__") (by kernel_rfl) rfl (by decide +kernel) (by kernel_rfl)
def BG:Slot "set_iterator" "__next__" "set_iterator.__next__" :=.of (owner:= "set_iterator") (n:= "__next__") (by rw[typeLookup_type,builtinLookup_eq_fast];kernel_rfl) (by decide +kernel) (by decide +kernel) (by decide +kernel) (by first|exact .inl (by decide +kernel)|exact .inr (by decide +kernel)) (by rw[isSubtype_type];kernel_rfl)
def Qt:entryFor table "set_iterator.__next__" = some Builtin.«set_iterator.__next__»:=entryFor_of_tree (by kernel_rfl)
def Xd:Manifest.owners.lookup (String.ofList ['r','o','t','a','r','e','t','i','_','t','e','s'].reverse)=some Manifest.sig_set_iterator:=by kernel_rfl
def Qv(a:Value):argsOk "set_iterator.__next__" ⟨[a],[]⟩:=by
 unfold argsOk;rw[signature?_of (id:= "set_iterator.__next__") (n:=['_','_','t','x','e','n','_','_']) (o:=['r','o','t','a','r','e','t','i','_','t','e','s']) (by kernel_rfl) Xd];kernel_rfl
abbrev EX (f:Value) (i n ep:Nat) (D:Addr):Obj:={cls:=.type "set_iterator",data:=.fields #[f,rawInt i,.ref D,rawInt n,rawInt ep]}
structure FD (hp:Heap) (D:Addr) (es:Array (Int×Value)) (ep:Nat) (tb:SetTable):Prop where
 ex:∃ob,hp.get? D=some ob/\ob.ExactSet/\ob.data=.set es ep tb
 fit:tb.fits es.size=true
section
variable {prog:Program} {w:World} {A:Around} {E:G'} {s:Shared} {It D:Addr} {es:Array (Int×Value)} {ep:Nat} {tb:SetTable}
def FD.entries(x:FD s.heap D es ep tb){Q:Array (Int×Value)->Shared->Prop}(q:Q es s):wpAny (model prog w) A (setEntries D) Q E s:=by
 obtain⟨b,a,_,c⟩:=x.ex;exact wpAny_setEntries_of a c x.fit q
def FD.state(x:FD s.heap D es ep tb){Q:(Array (Int×Value)×Nat×SetTable)->Shared->Prop}(q:Q (es,ep,tb) s):wpAny (model prog w) A (setState D) Q E s:=by
 obtain⟨b,a,_,c⟩:=x.ex;exact wpAny_setState_of a c x.fit q
def FD.keep{c d:Heap}(x:FD c D es ep tb)(k:∀ob,c.get? D=some ob->d.get? D=some ob):FD d D es ep tb:=by
 obtain⟨ob,a,b⟩:=x.ex;exact⟨⟨ob,k _ a,b⟩,x.fit⟩
def dV{d a:Nat}{v:Value}{Q:Option Value->Shared->Prop}(b:s.heap.get? It=some (EX (rawInt d) i es.size ep D))(h:FD s.heap D es ep tb)
 (j:∀(B:Around)(k:G')(e:Option (Value×Nat)->Shared->Prop),e (some (v,a)) s->wpAny (model prog w) B (setNext D d i ep) e k s)
 (q:∀c,c.get? It=some (EX (rawInt a) (i+1) es.size ep D)->Heap.SameBut It s.heap c->Q (some v) {s with heap:=c}):wpAny (model prog w) A (pyNext (.ref It)) Q E s:=by
 have f:s.TypeIs (.ref It) "set_iterator" :=⟨_,b,rfl⟩;unfold pyNext;refine Ag (wpAny_attempt (wpAny_callSpecial?_slot (name:=Str.ofString "__next__") f BG (wpAny_call_entry BG f Qt ?_ (Qv _))));unfold Builtin.«set_iterator.__next__» slotArgs;simp only[List.isEmpty_nil,Bool.not_true,FU,↓reduceIte,GX,bne_self_eq_false];refine Ag (Az ?_);refine Ag (wpAny_fieldsOf b rfl ?_);show wpAny _ _ (setEntries D >>= _) _ _ s;refine Ag (h.entries ?_);rw[Ao (by simp)];refine Ag (j _ _ _ ?_);show wpAny _ _ (setField (Value.ref It) 0 (rawInt a) >>= _) _ _ s;refine Ag (wpAny_setField b rfl (by simp) ?_);have g:(s.heap.update It (Obj.mapFields (·.setIfInBounds 0 (rawInt a)))).get? It=some (EX (rawInt a) i es.size ep D):=Heap.get?_update_self _ b rfl;refine Ag (wpAny_setField g rfl (by simp) ?_);have l:=Heap.get?_update_self (Obj.mapFields (·.setIfInBounds 1 (rawInt ((i:Int)+1)))) g rfl;exact Az ⟨_,rfl,Az (q _ l ((Heap.SameBut.update ..).trans (Heap.SameBut.update ..)))⟩
def Xe{vs:Array Value}{ob:Obj}{Q:Option Value->Shared->Prop}(d:A.handled=none)(f:s.heap.get? It=some ob)(hd:ob.data=.fields vs)(hz:2<vs.size)
 (q:∀c,Heap.ExtBut It s.heap c->Q none {s with heap:=c}):wpAny (model prog w) A.in1 (setField (Value.ref It) 2 Value.none >>= λζ=>newExc (Value.type "StopIteration") [] >>= λe=>raiseNew (α:=Fin) e) (λg Z=>∃v,g=Fin.done (Flow.ret v)/\wpAny (model prog w) A (pure (some v)) Q E Z)
  (λe Z=>wpAny (model prog w) A (isInstance e (Value.type "StopIteration") >>= λb=>if b=true then pure none else throw e) Q E Z) s:=by
 refine Ag (wpAny_setField f hd hz ?_);refine Ag ?_;simp only[newExc,newTuple];refine Ag (wpAny_newObj_type ?_ (by size_fits));refine Ag (m:=firstArgMember _ _) (wpAny_of_eq (a:=Value.none) (by first|rfl|(simp only[firstArgMember];rfl)) ?_);refine wpAny_newObj_type ?_ (by size_fits);simp only[raiseNew];refine Ag (wpAny_handled ?_);rw[show A.in1.handled=none from d];refine Ag (Az (wpAny_throw ?_))
 refine Ag (wpAny_isInstance (T:= "StopIteration") (b:=true) ⟨_,Co _ rfl,rfl⟩ isSubtype_stop ?_);exact Az (q _ (((Heap.SameBut.update ..).extBut.push _).push _))
def dX{b:Nat}{Q:Option Value->Shared->Prop}(f:A.handled=none)(a:s.heap.get? It=some (EX (rawInt b) i es.size ep D))(g:FD s.heap D es ep tb)
 (h:∀(B:Around)(j:G')(c:Option (Value×Nat)->Shared->Prop),c none s->wpAny (model prog w) B (setNext D b i ep) c j s)
 (q:∀d,Heap.ExtBut It s.heap d->Q none {s with heap:=d}):wpAny (model prog w) A (pyNext (.ref It)) Q E s:=by
 have e:s.TypeIs (.ref It) "set_iterator" :=⟨_,a,rfl⟩;unfold pyNext;refine Ag (wpAny_attempt (wpAny_callSpecial?_slot (name:=Str.ofString "__next__") e BG (wpAny_call_entry BG e Qt ?_ (Qv _))));unfold Builtin.«set_iterator.__next__» slotArgs;simp only[List.isEmpty_nil,Bool.not_true,FU,↓reduceIte,GX,bne_self_eq_false];refine Ag (Az ?_);refine Ag (wpAny_fieldsOf a rfl ?_);show wpAny _ _ (setEntries D >>= _) _ _ s;refine Ag (g.entries ?_);rw[Ao (by simp)];refine Ag (h _ _ _ ?_);exact Xe f a rfl (by simp) q
def dY{ps:Array Value}{p:Nat}{t:Tok}{v:Value}{hv:Int}{Q:Option Value->Shared->Prop}(b:s.heap.get? It=some (EX (.ref T) i es.size ep D))(c:FD s.heap D es ep tb)(g:s.heap.IsTuple T ps)(a:ps[i]?=some (.int p t))(hv:es[p]?=some (hv,v))
 (q:∀a,a.get? It=some (EX (.ref T) (i+1) es.size ep D)->Heap.SameBut It s.heap a->Q (some v) {s with heap:=a}):wpAny (model prog w) A (pyNext (.ref It)) Q E s:=by
 have d:s.TypeIs (.ref It) "set_iterator" :=⟨_,b,rfl⟩;obtain⟨h,e,j,k,dt⟩:=g;unfold pyNext;refine Ag (wpAny_attempt (wpAny_callSpecial?_slot (name:=Str.ofString "__next__") d BG (wpAny_call_entry BG d Qt ?_ (Qv _))));unfold Builtin.«set_iterator.__next__» slotArgs;simp only[List.isEmpty_nil,Bool.not_true,FU,↓reduceIte,GX,bne_self_eq_false];refine Ag (Az ?_);refine Ag (wpAny_fieldsOf b rfl ?_);show wpAny _ _ (setEntries D >>= _) _ _ s;refine Ag (c.entries ?_);rw[Ao (by simp)];show wpAny _ _ (seqItems? (.ref T) >>= _) _ _ s;refine Ag (GG e dt ?_)
 show wpAny _ _ (match ps[i]? with|some (Value.int place tok)=>_|some val=>_|none=>_) _ _ s
 rw[a];show wpAny _ _ (setNextDrawn D p ep >>= _) _ _ s;refine Ag ?_;unfold setNextDrawn;refine Ag (c.state ?_);dsimp only;rw[Ao (by simp)];rw[hv];refine Az ?_;show wpAny _ _ (setField (Value.ref It) 1 (rawInt ((i:Int)+1)) >>= _) _ _ s;refine Ag (wpAny_setField b rfl (by simp) ?_);have f:=Heap.get?_update_self (Obj.mapFields (·.setIfInBounds 1 (rawInt ((i:Int)+1)))) b rfl;exact Az ⟨_,rfl,Az (q _ f (Heap.SameBut.update ..))⟩
def dZ{ps:Array Value}{Q:Option Value->Shared->Prop}(d:A.handled=none)(b:s.heap.get? It=some (EX (.ref T) i es.size ep D))(e:FD s.heap D es ep tb)(h:s.heap.IsTuple T ps)(a:ps[i]?=none)
 (q:∀a,Heap.ExtBut It s.heap a->Q none {s with heap:=a}):wpAny (model prog w) A (pyNext (.ref It)) Q E s:=by
 have c:s.TypeIs (.ref It) "set_iterator" :=⟨_,b,rfl⟩;obtain⟨j,f,k,l,dt⟩:=h;unfold pyNext;refine Ag (wpAny_attempt (wpAny_callSpecial?_slot (name:=Str.ofString "__next__") c BG (wpAny_call_entry BG c Qt ?_ (Qv _))));unfold Builtin.«set_iterator.__next__» slotArgs;simp only[List.isEmpty_nil,Bool.not_true,FU,↓reduceIte,GX,bne_self_eq_false];refine Ag (Az ?_);refine Ag (wpAny_fieldsOf b rfl ?_);show wpAny _ _ (setEntries D >>= _) _ _ s;refine Ag (e.entries ?_);rw[Ao (by simp)];show wpAny _ _ (seqItems? (.ref T) >>= _) _ _ s;refine Ag (GG f dt ?_)
 show wpAny _ _ (match ps[i]? with|some (Value.int place tok)=>_|some val=>_|none=>_) _ _ s
 rw[a];show wpAny _ _ (setField (Value.ref It) 0 (rawInt 0) >>= _) _ _ s;refine Ag (wpAny_setField b rfl (by simp) ?_);have g:=Heap.get?_update_self (Obj.mapFields (·.setIfInBounds 0 (rawInt 0))) b rfl;exact Xe d g rfl (by simp) λa ex=>q a ((Heap.SameBut.update ..).extBut.trans ex)
def Io{v:Value}{n:Int}(h:(intKind prog w).is n v=true):∃t,v=.int n t:=by
 have a:Value.isInt n v=true:=h;cases v<;>simp[Value.isInt] at a;subst a;exact⟨_,rfl⟩
theorem Uh{α:Type}:∀{l:List α}{i:Nat}(h:i<l.length),(l[i]::l.eraseIdx i).Perm l
 |x::l,0,_=>List.Perm.refl _
 |x::l,i+1,h=>(List.Perm.swap x _ _).trans (List.Perm.cons x (Uh (l:=l) (i:=i) (by simpa using h)))
theorem Xf{α:Type}(nx:Nat->Nat):∀(a k:Nat)(left:List α)(out:Array α),left.length=a->(pickOrder.go nx a k left out).toList.Perm (out.toList++left)
 |0,k,left,out,h=>by
   rw[List.length_eq_zero_iff.mp h];unfold pickOrder.go
   simp
 |a+1,k,left,out,h=>by
   have b:nx k%left.length<left.length:=Nat.mod_lt _ (by lia);unfold pickOrder.go;rw[AA b];dsimp only;refine(Xf nx a (k+1) _ _ (by rw[List.length_eraseIdx,Ar b];lia)).trans ?_;rw[Array.toList_push,FX];refine List.Perm.append_left _ ?_;exact Uh b
def d3{c:Source}{Q:Nat->Shared->Prop}(a:n≠0)(q:∀i b,i<n->Q i {s with drawn:=b}):wpAny (model prog w) A (choose c n) Q E s:=
 λζ ζ ζ=>⟨a,q _ _ (Nat.mod_lt _ (Nat.pos_of_ne_zero a))⟩
theorem Xg{α:Type}:∀(n:Nat)(xs:List α){A:Around}{E:G'}{s:Shared}{Q:List α->Shared->Prop},xs.length=n->(∀ys b,ys.Perm xs->Q ys {s with drawn:=b})->wpAny (model prog w) A (drawOrder n xs) Q E s
 |0,xs,A,E,s,Q,h,q=>by
   have e:=List.length_eq_zero_iff.mp h;subst e;unfold drawOrder;exact Az (q [] s.drawn (List.Perm.refl _))
 |n+1,[],A,E,s,Q,h,q=>by cases h
 |n+1,x::xs,A,E,s,Q,h,q=>by
   unfold drawOrder;refine Ag (d3 (by simp) λi b a=>?_);rw[AA a];dsimp only;refine Ag (Xg n _ (by rw[List.length_eraseIdx,Ar a];lia) λys d c=>?_);exact Az (q _ d ((List.Perm.cons _ c).trans (Uh a)))
end
def Xh:Slot "set_iterator" "__iter__" "set_iterator.__iter__" :=.of (owner:= "set_iterator") (n:= "__iter__") (by rw[typeLookup_type,builtinLookup_eq_fast];kernel_rfl) (by decide +kernel) (by decide +kernel) (by decide +kernel) (by first|exact .inl (by decide +kernel)|exact .inr (by decide +kernel)) (by rw[isSubtype_type];kernel_rfl)
def d4:entryFor table "set_iterator.__iter__" = some Builtin.«dict_keyiterator.__iter__»:=entryFor_alias (id':= "dict_keyiterator.__iter__") (by kernel_rfl) rfl (by decide +kernel) (by kernel_rfl)
def d5(a:Value):argsOk "set_iterator.__iter__" ⟨[a],[]⟩:=by
 unfold argsOk;rw[signature?_of (id:= "set_iterator.__iter__") (n:=['_','_','r','e','t','i','_','_']) (o:=['r','o','t','a','r','e','t','i','_','t','e','s']) (by kernel_rfl) Xd];kernel_rfl
section
variable {prog:Program} {w:World} {A:Around} {E:G'} {s:Shared} {It D:Addr} {es:Array (Int×Value)} {ep:Nat} {tb:SetTable}
def Xi{f:Value}(b:s.heap.get? It=some (EX f i n ep D))(q:Q (.ref It) s):wpAny (model prog w) A (pyIter (.ref It)) Q E s:=by
 have a:s.TypeIs (.ref It) "set_iterator" :=⟨_,b,rfl⟩;refine wpAny_pyIter_slot a Xh (wpAny_call_entry Xh a d4 ?_ (d5 _));show wpAny _ _ (ret (.ref It)) _ _ s;exact Az ⟨_,rfl, "set_iterator",_,a,BG.lookup,q⟩
def Mg{b:Addr}(h:b∈[It]):b∈[It,D]:=by rw[A7.mp h];exact B2
def Xj(p:A.handled=none)(r:It≠D)(f:Nat->Nat)(vs:List Value)(H:vs.length=es.size)
 (t:∀(i:Nat)(v:Value)(s:Shared)(B:Around)(d:G')(c:Option (Value×Nat)->Shared->Prop),vs[i]?=some v->FD s.heap D es ep tb->c (some (v,f (i+1))) s->wpAny (model prog w) B (setNext D (f i) i ep) c d s)
 (u:∀(s:Shared)(B:Around)(d:G')(c:Option (Value×Nat)->Shared->Prop),FD s.heap D es ep tb->c none s->wpAny (model prog w) B (setNext D (f es.size) es.size ep) c d s) :
 Walks prog w A It [It,D] [It] es.size (λi v=>vs[i]?=some v) (λi h=>h.get? It=some (EX (rawInt (f i)) i es.size ep D)/\FD h D es ep tb) where
 sub:=λb y=>Mg y
 frame:=λi h I⟨a,b⟩k=>⟨k It B2 _ a,b.keep λC e=>k D (by simp) _ e⟩
 item:=λi s Q E J⟨a,b⟩q=>by
  have G:i<vs.length:=(by lia);have m:=AA G;refine dV (v:=vs[i]) a b (λB d c g=>t i _ s B d c m b g) λj F n=>?_;have:=q vs[i] j s.toks m ⟨F,b.keep λC e=>(n.2 D (Ne.symm r)).trans e⟩ λx o l e=>(n.2 x (λz=>l (by rw[z];exact B2))).trans e;exact this
 done:=λs Q E⟨a,b⟩q=>dX p a b (λB d c g=>u s B d c b g) λj ex=>q j s.toks λx o l e=>ex x o (λz=>l (by rw[z];exact B2)) e
 self:=λi s Q E⟨a,_⟩q=>Xi a q
def d6(l:A.handled=none)(m:It≠D)(n:It≠T)(ps:List Nat)(vs:List Value)(G:vs.length=es.size)(hv:∀(i:Nat)(v:Value),vs[i]?=some v->∃(p:Nat)(x:Int),ps[i]?=some p/\es[p]?=some (x,v))(d:ps.length=es.size) :
 Walks prog w A It [It,D,T] [It] es.size (λi v=>vs[i]?=some v) (λi h=>h.get? It=some (EX (.ref T) i es.size ep D)/\FD h D es ep tb/\h.IsTuple T (ps.map λp:Nat=>rawInt (p:Int)).toArray) where
 sub:=λb r=>by rw[A7.mp r];exact B2
 frame:=λi h H⟨a,b,c⟩k=>⟨k It B2 _ a,b.keep λu e=>k D (by simp) _ e,let ⟨o,e,x⟩:=c;⟨o,k T (by simp) _ e,x⟩⟩
 item:=λi s Q E I⟨a,b,c⟩q=>by
  have F:i<vs.length:=(by lia);have j:=AA F;obtain⟨p,x,y,B⟩:=hv i _ j;refine dY (v:=vs[i]) (hv:=x) (t:=0) a b c (by simp[y,rawInt]) B λd C f=>?_;exact q vs[i] d s.toks j ⟨C,b.keep λu e=>(f.2 D (Ne.symm m)).trans e,let ⟨o,e,x⟩:=c;⟨o,(f.2 T (Ne.symm n)).trans e,x⟩⟩ λx o g e=>(f.2 x (λz=>g (by rw[z];exact B2))).trans e
 done:=λs Q E⟨a,b,c⟩q=>dZ l a b c (by simp[d]) λd ex=>q d s.toks λx o g e=>ex x o (λz=>g (by rw[z];exact B2)) e
 self:=λi s Q E⟨a,_⟩q=>Xi a q
structure FE (prog:Program) (w:World) (A:Around) (h0 hp:Heap) (D It:Addr) (ks:List Int):Prop where
 walk:∃(fp:List Addr)(St:Nat->Heap->Prop),Walks prog w A It fp [It] ks.length (λi v=>∃t,v=.int (ks.getD i 0) t) St/\St 0 hp/\∀b∈fp,b=D\/h0.objs.size<=b
 keep:∀b o,h0.get? b=some o->hp.get? b=some o
 new:h0.objs.size<=It
def Walks.weaker{a r:List Addr}{P b:Nat->Value->Prop}{St:Nat->Heap->Prop}(W:Walks prog w A It a r n P St)(h:∀i v,P i v->b i v):Walks prog w A It a r n b St where
 sub:=W.sub
 frame:=W.frame
 item:=λi s Q E c st q=>W.item i s Q E c st λv d e pv=>q v d e (h i v pv)
 done:=W.done
 self:=W.self
def Ui{M:Int->Bool}{vs:List Value}(s:ElemsOf (intKind prog w) es.toList)(u:∀y,M y=true↔∃e∈es.toList,(intKind prog w).is y e.2=true)(f:vs.Perm (es.toList.map (·.2))):∃ks:List Int,ks.length=vs.length/\(∀(i:Nat)(v:Value),vs[i]?=some v->∃t,v=.int (ks.getD i 0) t)/\∀y,M y=true↔y∈ks:=by
 have z:∀v∈vs,∃n t,v=Value.int n t:=λv g=>by
  obtain⟨e,c,rfl⟩:=AN.mp (f.mem_iff.mp g);obtain⟨⟨k,A,_⟩,_⟩:=s e c;obtain⟨t,j⟩:=Io A;exact⟨k,t,j⟩
 have B:∀l:List Value,(∀v∈l,∃n t,v=Value.int n t)->∃ks:List Int,ks.length=l.length/\∀(i:Nat)(v:Value),l[i]?=some v->∃t,v=.int (ks.getD i 0) t:=λl=>by
  induction l with
  |nil=>exact λζ=>⟨[],rfl,λi v h=>by cases h⟩
  |cons x l C =>
    intro q;obtain⟨ks,a,b⟩:=C λv g=>q v (DW _ g);obtain⟨n,t,e⟩:=q x B2;refine⟨n::ks,by simp[a],λi v h=>?_⟩
    cases i with
    |zero=>simp at h;subst h;exact⟨t,e⟩
    |succ i=>simpa using b i v (by simpa using h)
 obtain⟨ks,a,b⟩:=B vs z;refine⟨ks,a,b,λy=>?_⟩;rw[u y];constructor;rintro⟨e,c,m⟩;obtain⟨t,j⟩:=Io m;have D:e.2∈vs:=f.mem_iff.mpr (AN.mpr ⟨e,c,rfl⟩);obtain⟨i,o,p⟩:=List.getElem_of_mem D;obtain⟨G,d⟩:=b i _ (AA o);rw[p,j] at d;have E:y=ks.getD i 0:=(by injection d);rw[E,BW,AA (show i<ks.length by lia)];exact DX _;intro m;obtain⟨i,o,p⟩:=List.getElem_of_mem m;have r:i<vs.length:=(by lia);obtain⟨t,d⟩:=b i _ (AA r);obtain⟨e,c,F⟩:=AN.mp (f.mem_iff.mp (DX r));refine⟨e,c,?_⟩;rw[F,d,BW,AA o];show(intKind prog w).is y (.int ks[i] t)=true;rw[p];exact intKind_is _ _ _ _
def d7{ks:List Int}:∀{vs:List Value},vs.length=ks.length->(∀(i:Nat)(v:Value),vs[i]?=some v->∃t,v=.int (ks.getD i 0) t)->IntsAre vs ks:=by
 induction ks with
 |nil=>intro vs a _;cases vs with
   |nil=>exact .nil
   |cons _ _=>simp at a
 |cons x r b =>
   intro vs a h
   cases vs with
   |nil=>simp at a
   |cons v vs =>
     obtain⟨t,e⟩:=h 0 v rfl;obtain rfl:v=.int x t:=e;exact .cons _ _ (b (by simpa using a) λi u c=>h (i+1) u (by simpa using c))
def FE.of{a c:Heap}{d:List Addr}{m:Nat}{vs:List Value}{St:Nat->Heap->Prop}{ks:List Int}(W:Walks prog w A It d [It] m (λi v=>vs[i]?=some v) St)(e:ks.length=m)(f:∀(i:Nat)(v:Value),vs[i]?=some v->∃t,v=.int (ks.getD i 0) t)(st:St 0 c)(lt:∀b∈d,b=D\/a.objs.size<=b)(g:∀b o,a.get? b=some o->c.get? b=some o)(h:a.objs.size<=It):FE prog w A a c D It ks:=
 ⟨⟨d,St,by rw[e];exact Walks.weaker W f,st,lt⟩,g,h⟩
def Uj{f:Value}(b:FD s.heap D es ep tb)(q:Q (.ref s.heap.objs.size) {s with heap:=s.heap.push (EX f 0 es.size ep D)}) :
 wpAny (model prog w) A (setEpoch D >>= λe=>newFields "set_iterator" [f,rawInt 0,Value.ref D,rawInt ↑es.size,rawInt ↑e] >>= λv=>ret v) (λg Z=>∃v,g=Fin.done (Flow.ret v)/\∃d r,Z.TypeIs v d/\typeLookup (Value.type d) (Str.ofString "__next__")=pure (some r)/\Q v Z) E s:=by
 obtain⟨h,a,_,c⟩:=b.ex;refine Ag (wpAny_setEpoch_of a c b.fit ?_);refine Ag (wpAny_newObj_type (Az ⟨_,rfl, "set_iterator",_,⟨_,Co _ rfl,rfl⟩,BG.lookup,?_⟩));exact q
def Xk{nx:Nat->Nat}{a:Nat}{v:Option (Value×Nat)}(d:w.params.followText "set-order" = true)(f:w.params.setOrder D ep=nx)(hv:((pickOrder nx es)[i]?).map (λe=>(e.2,a))=v)(b:FD s.heap D es ep tb){Q:Option (Value×Nat)->Shared->Prop}(q:Q v s):wpAny (model prog w) A (setNext D a i ep) Q E s:=by
 unfold setNext;refine Ag (b.state ?_);dsimp only;unfold setsByText;refine Ag (Ag (wpAny_askSetting (Az ?_)));have c:(model prog w).w.params.followText "set-order" = true:=d;dsimp only;rw[c,Ar rfl];rw[Ao (by simp)];refine Ag ?_;unfold setWalk setsByText;refine Ag (b.state ?_);dsimp only;refine Ag (Ag (wpAny_askSetting (Az ?_)));dsimp only;rw[c,Ar rfl];refine Ag (wpAny_askSetting ?_);refine Az ?_;have g:(model prog w).w.params.setOrder D ep=nx:=f;dsimp only;rw[g,hv];exact Az q
def Xl{a:Nat}{v:Option (Value×Nat)}(c:w.params.followText "set-order" = false)(d:(!tb.plain && decide (es.size > 1))=false)(e:tb.led=true)(hv:(∃h x j,es[SetTable.below tb.place a]?=some (h,x)/\tb.place[SetTable.below tb.place a]?=some j/\v=some (x,j+1))\/(es[SetTable.below tb.place a]?=none/\v=none))(f:FD s.heap D es ep tb){Q:Option (Value×Nat)->Shared->Prop}(q:Q v s):wpAny (model prog w) A (setNext D a i ep) Q E s:=by
 unfold setNext;refine Ag (f.state ?_);dsimp only;unfold setsByText;refine Ag (Ag (wpAny_askSetting (Az ?_)));have k:(model prog w).w.params.followText "set-order" = false:=c
 dsimp only;rw[k,Ao CS];refine wpAny_ite_split (λh=>absurd (show(!tb.plain && decide (es.size > 1))=true from h) (by rw[d];exact CS)) (λζ=>?_);refine Ag ?_;show wpAny _ _ (if(!tb.led && !es.isEmpty)=true then _ else _) _ _ _;rw[e];simp only[Bool.not_true,Bool.false_and,FU,↓reduceIte];refine Az ?_
 rcases hv with⟨h,x,j,b,g,rfl⟩|⟨b,rfl⟩;rw[b,g];exact Az q;rw[b];exact Az q
theorem d8 {M:Int->Bool}(J:A.handled=none) (hS:B6 (intKind prog w) (BY w) s.heap D M n)
 (q:∀(It:Addr)(r:Heap)(K:Drawn)(ks:List Int),ks.length=n->(∀y,M y=true↔y∈ks)->FE prog w A s.heap r D It ks->Q (.ref It) {s with heap:=r,drawn:=K}):wpAny (model prog w) A (pyIter (.ref D)) Q E s:=by
 obtain⟨t,es,ep,tb,L,Y,x3,N,O,x6,x7,P,R⟩:=hS;have k:FD s.heap D es ep tb:=⟨⟨t,L,Y,x3⟩,x7⟩;have hT:s.TypeIs (.ref D) "set" :=⟨t,L,Y.1⟩;have aa:D<s.heap.objs.size:=Bj L;refine wpAny_pyIter_slot hT F.slot_set_iter (wpAny_call_entry F.slot_set_iter hT dU ?_ (F.args_set_iter_1 _));unfold Builtin.«frozenset.__iter__» Builtin.Frozenset.slot0 slotArgs;simp only[List.isEmpty_nil,Bool.not_true,FU,↓reduceIte,bind_assoc,GX,bne_self_eq_false];unfold Builtin.Frozenset.addrOf Builtin.Frozenset.sizeOf;refine Ag (Az ?_);dsimp only;refine Ag (Az ?_);refine Ag (Ag (k.entries (Az ?_)));unfold setDrawn setsByText;refine Ag (Ag (k.state ?_));dsimp only;refine Ag (Ag (wpAny_askSetting (Az ?_)));refine Az ?_;dsimp only;have n0:s.heap.objs.size≠D:=Nat.ne_of_gt aa
 have ab:∀{b:Addr},b∈[s.heap.objs.size,D]->b=D\/s.heap.objs.size<=b:=λ{b}a=>by
  rcases Cc.mp a with rfl|a;exact .inr (AI _);exact .inl (A7.mp a)
 cases G:(model prog w).w.params.followText "set-order" with
 |true =>
   simp only[Bool.not_true,Bool.false_and,FU,↓reduceIte];refine Ag (Az ?_);refine Uj k ?_
   have S:((pickOrder (w.params.setOrder D ep) es).toList).Perm es.toList:=by
    have:=Xf (w.params.setOrder D ep) es.size 0 es.toList #[] (by simp);show(pickOrder.go (w.params.setOrder D ep) es.size 0 es.toList #[]).toList.Perm es.toList;simpa using this
   obtain⟨ks,f,u,z⟩:=Ui N O (S.map (·.2));have c:((pickOrder (w.params.setOrder D ep) es).toList.map (·.2)).length=es.size:=by rw[Ak,S.length_eq];simp
   have W:=Xj (prog:=prog) (w:=w) (A:=A) (It:=s.heap.objs.size) (D:=D) (es:=es) (ep:=ep) (tb:=tb) J n0 (λζ=>0) _ c
    (λi v Z B U V g l m=>Xk (nx:=w.params.setOrder D ep) G rfl (by
     rw[AX] at g;obtain⟨e,d,rfl⟩:=E8.mp g
     rw[<-Array.getElem?_toList,d];rfl) l m)
    (λZ B U V l m=>Xk (nx:=w.params.setOrder D ep) G rfl (by
     have hz:(pickOrder (w.params.setOrder D ep) es).toList.length=es.size:=by rw[S.length_eq];simp
     rw[<-Array.getElem?_toList,Hk (by lia)];rfl) l m)
   refine q _ _ s.drawn ks (by rw[f,c,P]) z (FE.of W (f.trans c) u ⟨Co _ rfl,k.keep λt e=>Bn _ e⟩ (λb a=>ab a) (λb o e=>Bn _ e) (AI _))
 |false =>
   have ae:tb.led=true:=by
    rw[R.led];unfold BY;have:w.params.followText "set-order" = false:=G;rw[this];rfl
   simp only[Bool.not_false,Bool.true_and]
   cases I:(!tb.plain && decide (es.size > 1)) with
   |true =>
     refine wpAny_ite_split (λζ=>?_) (λh=>absurd (show(!tb.plain && decide (es.size > 1))=true from I) h);refine Ag (Xg es.size _ List.length_range λj K r=>?_)
     have X:j.length=es.size:=by rw[r.length_eq];exact List.length_range
     refine Ag (wpAny_newObj_type ?_ (by show(List.map (λi:Nat=>rawInt (i:Int)) j).toArray.size<=sizeLine;rw[Cw,Ak,X];exact fits_of_scanBound x6));have af:FD (s.heap.push {cls:=.type "tuple",data:=.seq (j.map λi:Nat=>rawInt (i:Int)).toArray}) D es ep tb:=k.keep λt e=>Bn _ e;refine Uj af ?_;have ah:∀p∈j,p<es.size:=λp h=>List.mem_range.mp (r.mem_iff.mp h)
     have vp:(j.map λp=>(es.getD p (0,.none)).2).Perm (es.toList.map (·.2)):=by
      have d:es.toList.map (·.2)=(List.range es.size).map λp=>(es.getD p (0,.none)).2:=by
       refine List.ext_getElem (by simp) λi h1 h2=>?_;simp at h1;simp[h1]
      rw[d];exact r.map _
     obtain⟨ks,f,u,z⟩:=Ui N O vp;have c:(j.map λp=>(es.getD p (0,.none)).2).length=es.size:=(by rw[Ak,X])
     have W:=d6 (prog:=prog) (w:=w) (A:=A) (It:=(s.heap.push {cls:=.type "tuple",data:=.seq (j.map λi:Nat=>rawInt (i:Int)).toArray}).objs.size) (D:=D) (T:=s.heap.objs.size) (es:=es) (ep:=ep) (tb:=tb) J (by rw[Heap.size_push];exact Nat.ne_of_gt (Nat.lt_succ_of_lt aa)) (by rw[Heap.size_push];exact Nat.succ_ne_self _) j _ c (λi v g=>by
      rw[AX] at g;obtain⟨p,d,rfl⟩:=E8.mp g;have ai:=ah p (Bc d);refine⟨p,(es.getD p (0,.none)).1,d,?_⟩
      simp[ai]) X
     refine q _ _ K ks (by rw[f,c,P]) z (FE.of W (f.trans c) u ⟨Co _ rfl,af.keep λt e=>Bn _ e,⟨_,Bn _ (Co _ rfl),rfl,_,rfl⟩⟩ (λb a=>?_) (λb o e=>Bn _ (Bn _ e)) (by rw[Heap.size_push];exact Nat.le_succ _));rcases Cc.mp a with rfl|a;rw[Heap.size_push];exact .inr (Nat.le_succ _);rcases Cc.mp a with rfl|a;exact .inl rfl;rw[A7.mp a];exact .inr (AI _)
   |false =>
     refine wpAny_ite_split (λh=>absurd (show(!tb.plain && decide (es.size > 1))=true from h) (by rw[I];exact CS)) (λζ=>?_);refine Ag (Az ?_);refine Uj k ?_;obtain⟨ks,f,u,z⟩:=Ui N O (List.Perm.refl _)
     have c:(es.toList.map (·.2)).length=es.size:=by simp
     have C:tb.place.size=es.size:=by
      have:=x7;unfold SetTable.fits at this;simp at this;exact this.1
     have ag:∀i,i<=tb.place.size->SetTable.below tb.place (if i=0 then 0 else tb.place.getD (i-1) 0+1)=i:=λi H=>by
      cases i with
      |zero=>exact dJ R.ris
      |succ i =>
        have aj:i<tb.place.size:=H;simp only[Nat.add_eq_zero_iff,Nat.one_ne_zero,and_false,↓reduceIte,Nat.add_sub_cancel];refine dL R.ris ?_;rw[Array.getD_eq_getD_getElem?,Array.getElem?_eq_getElem aj];rfl
     have W:=Xj (prog:=prog) (w:=w) (A:=A) (It:=s.heap.objs.size) (D:=D) (es:=es) (ep:=ep) (tb:=tb) J n0 (λi=>if i=0 then 0 else tb.place.getD (i-1) 0+1) _ c
      (λi v Z B U V g l m=>Xl G I ae (.inl (by
       rw[AX] at g;obtain⟨⟨h,x⟩,d,rfl⟩:=E8.mp g;rw[Array.getElem?_toList] at d;have H:i<tb.place.size:=by rw[C];exact(Array.getElem?_eq_some_iff.mp d).1
       have a:=ag i (CQ H);refine⟨h,x,tb.place.getD i 0,by rw[a];exact d,?_,by simp⟩
       rw[a,Array.getD_eq_getD_getElem?,Array.getElem?_eq_getElem H];rfl)) l m)
      (λZ B U V l m=>Xl G I ae (.inr ⟨by
       rw[ag es.size (Nat.le_of_eq C.symm)];simp,rfl⟩) l m)
     refine q _ _ s.drawn ks (by rw[f,c,P]) z (FE.of W (f.trans c) u ⟨Co _ rfl,k.keep λt e=>Bn _ e⟩ (λb a=>ab a) (λb o e=>Bn _ e) (AI _))
end
section
variable {prog:Program} {w:World} {A:Around} {E:G'} {s:Shared} {D:Addr}
theorem d9(a:s.TypeIs (.ref D) "set"){Q:Bool->Shared->Prop}(q:∀b,Q b s):wpAny (model prog w) A (Builtin.List.listLengthHint (.ref D)) Q E s:=by
 unfold Builtin.List.listLengthHint;refine Ag (wpAny_specialOf a F.slot_set_len.lookup ?_);generalize AL:("set.__len__" : String)=c
 wp_delta
 rw[show splitId c=some ("set", "__len__") by subst AL;decide +kernel];subst AL;refine Ag (wpAny_isInstance (T:= "set") (b:=true) a (by rw[isSubtype_type];kernel_rfl) (wpAny_ite_split (λh=>absurd h (by decide)) λζ=>?_));refine wpAny_ite_split (λζ=>Ag (Pp a (Az (q _)))) λh=>absurd (by decide +kernel) h
theorem J5{M:Int->Bool}{R:Result->Shared->Prop}(N:A.handled=none)(r:B6 (intKind prog w) (BY w) s.heap D M n){S:Addr}(u:S≠D)(res:Value)(x:s.heap.get? S=some {cls:=.type "list",data:=.seq #[]})(O:n<=sizeLine)
 (q:∀h' g P acc c(ks:List Int),(∀b o,b≠S->s.heap.get? b=some o->h'.get? b=some o)->h'.get? S=some {cls:=.type "list",dict:=none,data:=.seq acc c,slots:=#[]}->ItemsOf (λi v=>∃t,v=.int (ks.getD i 0) t) acc ks.length->ks.length=n->(∀y,M y=true↔y∈ks)->R (.ok (.ret res)) {s with heap:=h',drawn:=g,toks:=P}) :
 wpAny (model prog w) A.in1 (Builtin.List.listExtendWith (.ref S) (.ref D) res)
  (λab Z=>match ab with|.done f=>R (.ok f) Z|.again B=>B.quiet=true/\codeAny (model prog w) A B R Z) (λe Z=>R (.error e) Z) s:=by
 have C:s.TypeIs (.ref D) "set" :=by obtain⟨k,_,_,_,a,b,_⟩:=r;exact⟨k,a,b.1⟩
 have ae:S<s.heap.objs.size:=Bj x;unfold Builtin.List.listExtendWith;refine Ag (Pp C ?_);rw[Ao (by simp[Builtin.List.listSameRef,u])];refine Ag (d8 (A:=A.in1) N r λIt l g ks E Q T=>?_);obtain⟨⟨U,St,W,st,af⟩,j,V⟩:=T;have m:=j _ _ x;have G:S∉U:=λz=>(af S z).elim u λy=>absurd ae (Nat.not_lt_of_le y)
 have K:∀(h:Heap)(p:Nat),St 0 h->(∀b o,b≠S->s.heap.get? b=some o->h.get? b=some o)->h.get? S=some {cls:=.type "list",data:=.seq #[] p} ->
  codeAny (model prog w) A (.builtin "list.extend.loop" ⟨[.ref S,.ref It,res],[]⟩) R {s with heap:=h,drawn:=g}:=λh p ag X Y=>by
  refine codeAny_extend_loopS W.toS (by rw[E];exact O) S G res ks.length 0 _ #[] p rfl (CO _) ag Y (ItemsOf.nil _) λZ acc c H e1 ah=>?_;rw[Moved.eq_with H];refine q Z.heap g Z.toks acc c ks (λb o I e=>H.heap b o (λz=>?_) (X b o I e)) e1 ah E Q;rcases Cc.mp z with y|y;exact I y;have:=Bj e;rw[A7.mp y] at this;exact absurd this (Nat.not_lt_of_le V)
 have quiet:(Code.builtin "list.extend.loop" ⟨[.ref S,.ref It,res],[]⟩).quiet=true:=plainId_quiet F.plain_extend_loop _;refine Ag (FZ (d9 (s:={s with heap:=l,drawn:=g}) (by obtain⟨k,a,b⟩:=C;exact⟨k,j _ _ a,b⟩) λb=>?_));refine wpAny_ite_split (λζ=>?_) λζ=>Az ⟨quiet,K _ 0 st (λb o ζ e=>j b o e) m⟩;refine Ag (IH (Ag ?_));show wpAny _ _ (updateSeq S (·.push .none) >>= λζ=>updateSeq S (·.pop)) _ _ _;refine Ag (wpAny_updateSeq m rfl ?_);have J:=Heap.get?_update_self (Obj.mapSeq (·.push Value.none)) m rfl;refine wpAny_updateSeq (hz:=by seq_fits) J rfl ?_;have aa:=Heap.get?_update_self (Obj.mapSeq (·.pop)) J rfl;have L:∀b,b≠S->((l.update S (Obj.mapSeq (·.push Value.none))).update S (Obj.mapSeq (·.pop))).get? b=l.get? b:=λb d=>(Heap.get?_update_other _ _ (Ne.symm d)).trans (Heap.get?_update_other _ _ (Ne.symm d));exact Az ⟨quiet,K _ _ (W.frame 0 _ _ st λb d o e=>(L b λz=>G (z▸d)).trans e) (λb o d e=>(L b d).trans (j b o e)) aa⟩
theorem eA{M:Int->Bool}{Q:List Value->Shared->Prop}(u:A.handled=none)(t:B6 (intKind prog w) (BY w) s.heap D M n)(z:n<=sizeLine)
 (q:∀h' d g acc(ks:List Int),(∀b o,s.heap.get? b=some o->h'.get? b=some o)->IntsAre acc ks->ks.length=n->(∀y,M y=true↔y∈ks)->Q acc {s with heap:=h',drawn:=d,toks:=g}):wpAny (model prog w) A (collect (.ref D)) Q E s:=by
 have H:D<s.heap.objs.size:=by obtain⟨B,_,_,_,a,_⟩:=t;exact Bj a
 unfold collect;refine Ag (wpAny_runValue (codeAny_builtin entry_proto_collect' ?_));rw[Around.under_plainId F.plain_proto_collect _];show wpAny _ A.in1 (newList [] >>= λl=>again (.builtin "list.__iadd__" ⟨[l,.ref D],[]⟩)) _ _ s;refine Ag (wpAny_newObj_type (Az ⟨plainId_quiet F.plain_list_iadd _,codeAny_builtin entry_list_iadd' ?_⟩));rw[Around.under_plainId F.plain_list_iadd _];show wpAny _ A.in1 (Builtin.List.listExtendWith (.ref s.heap.objs.size) (.ref D) (.ref s.heap.objs.size)) _ _ _
 refine F1 (J5 (A:=A) (s:={s with heap:=s.heap.push {cls:=.type "list",data:=.seq ([]:List Value).toArray}}) (S:=s.heap.objs.size)
  (R:=λr Z=>∃h' d g acc c,∃ks:List Int,r=.ok (.ret (.ref s.heap.objs.size))/\Z={s with heap:=h',drawn:=d,toks:=g}/\(∀b o,s.heap.get? b=some o->h'.get? b=some o)/\h'.get? s.heap.objs.size=some {cls:=.type "list",dict:=none,data:=.seq acc c,slots:=#[]}/\IntsAre acc.toList ks/\ks.length=n/\∀y,M y=true↔y∈ks)
  u (t.keep λB e=>Bn _ e) (Nat.ne_of_gt H) _ (Co _ rfl) z λh' d g acc c ks j k h m p=>⟨h',d,g,acc,c,ks,rfl,rfl,λb o e=>j b o (CF (Bj e)) (Bn _ e),k,?_,m,p⟩) (λI Z x=>?_) λe Z x=>?_
 exact d7 (by rw[Array.length_toList,h.1]) λi v C=>h.2 i v (by rw[<-Array.getElem?_toList];exact C)
 . cases I with
   |done f =>
     obtain⟨h',d,g,acc,c,ks,e,rfl,j,k,h,m,p⟩:=x;cases e;show wpAny _ A (load s.heap.objs.size >>= _) _ _ _;exact Ag (wpAny_load k (Az (q h' d g acc.toList ks j h m p)))
   |again J =>
     refine⟨x.1,codeAny_mono x.2 λr K y=>?_⟩;obtain⟨h',d,g,acc,c,ks,rfl,rfl,j,k,h,m,p⟩:=y;show wpAny _ A (load s.heap.objs.size >>= _) _ _ _;exact Ag (wpAny_load k (Az (q h' d g acc.toList ks j h m p)))
 obtain⟨_,_,_,_,_,_,G,_⟩:=x;cases G
end
def Mh{l:List Int}:∀{m:List Int},l.Nodup->(∀x∈l,x∈m)->m.length<=l.length->m.Nodup:=by
 induction l with
 |nil=>intro m _ _ h;rw[List.length_eq_zero_iff.mp (Nat.le_zero.mp h)];exact List.nodup_nil
 |cons a l g =>
   intro m d f i;obtain⟨j,k⟩:=Gh.mp d;have c:=List.perm_cons_erase (f a B2)
   have n:(m.erase a).length<=l.length:=by
    have:=c.length_eq;simp at this i;lia
   have sub:∀x∈l,x∈m.erase a:=λx b=>by
    have:=c.mem_iff.mp (f x (DW _ b));rcases Cc.mp this with e|e;exact absurd (e▸b) j;exact e
   refine c.nodup_iff.mpr (Gh.mpr ⟨λo=>?_,g k sub n⟩)
   have:(a::l).length<=(m.erase a).length:=Ord.nodup_sub_length d λx b=>by
    rcases Cc.mp b with e|e;rw[e];exact o;exact sub x e
   simp at this;lia
def J6{l:List Int}(h:l.Pairwise (·<=·))(c:l.Nodup):l.Pairwise (· < ·):=(h.and c).imp λ{a b}⟨x,y⟩=>by lia
set_option tactic.hygienic true in
def OK{l:List Int}{x:Int}(h:l.Nodup):(step_dedup l x).Nodup:=by
 unfold step_dedup;split;exact h;rename_i c;refine List.nodup_append.mpr ⟨h,List.pairwise_singleton _ _,λa d b f e=>c ?_⟩;rw[A7.mp f] at e;rw[Jb];exact⟨a,d,by rw[e];simp⟩
theorem Xm(f:Nat->Int):∀i,(B7 f i).Nodup
 |0=>List.nodup_nil
 |i+1=>by rw[OJ];exact OK (Xm f i)
def Ha (P:Program) (w:World) (a:Addr) (ns:List Int):HO:=.ext λh=>∃ds:List Int,ds.Nodup/\(∀y,y∈ds↔y∈ns)/\B6 (intKind P w) (BY w) h a (λy=>ds.any (·==y)) ds.length
section
variable {prog:Program} {w:World} {A:Around} {E:G'} {s:Shared} {D:Addr}
def eF{M:Int->Bool}(r:A.handled=none)(t:B6 (intKind prog w) (BY w) s.heap D M n)(C:n<64)
 (q:∀(R:Addr)h' c d k out(ks:List Int),(∀b o,s.heap.get? b=some o->h'.get? b=some o)->(∀b o,s.heap.get? b=some o->b≠R)->h'.get? R=some {cls:=.type "list",data:=.seq out k}->IntsAre out.toList ks->ks.length=n->(∀y,M y=true↔y∈ks)->ks.Pairwise (·<=·)->Q (.ref R) {s with heap:=h',drawn:=c,toks:=d}) :
 wpAny (model prog w) A (call (.builtin "sorted") [.ref D]) Q E s:=by
 refine Calls.call_function_entry kind_sorted plain_sorted entry_sorted (args_sorted1 _) ?_;unfold Builtin.«sorted»;refine Ag (m:=checkCount "sorted" 1 1 _) (Az ?_);refine Ag (eA (A:=A.in1) r t (CQ (BL (by lia))) λf c d a ks g i j u=>?_);have v:a.length<64:=by rw[i.length,j];exact C
 refine Ag (wpAny_newList ?_ (CQ (BL (by lia))));have h:(f.push {cls:=.type "list",data:=.seq a.toArray}).get? f.objs.size=some (seqObj "list" a.toArray 0):=Co _ rfl;refine Ag (FZ (wpAny_call_entry slot_list_sort ⟨_,h,rfl⟩ entry_list_sort (list_sort_tree h i v λout F x l z=>⟨_,rfl,?_⟩) (args_list_sort _)));obtain⟨k,B⟩:=sortedHeap_at (vs:=a) (out:=out) h;refine Az ⟨_,rfl,q f.objs.size _ c d k out F (λb o e=>?_) (λb o e=>CF (Bj (g b o e))) B x (by rw[l.length_eq,j]) (λy=>by rw[u,l.mem_iff]) z⟩;have p:=Bj (g b o e);rw[sortedHeap_old (CF p) (by rw[Heap.size_push];exact Nat.lt_succ_of_lt p)];exact Bn _ (g b o e)
end
section
variable {X:Cx} {pins:B'} {σ:L2.St} {H:Hp} {s:Shared}
def Inv.drew(I:Inv X pins σ H s)(a:Drawn):Inv X pins σ H {s with drawn:=a}:=
 I.step (h':=s.heap) (H':=H) (g':=s.gens) (t':=s.toks) (d':=a) (ch:=[]) (λζ z=>nomatch z) (λζ ζ ζ ζ ζ e ζ=>e) (λζ o ζ ζ ζ e ζ=>⟨o.slots,e⟩) (λζ ζ ζ ζ n=>n) (λζ o ζ e=>⟨o,e⟩) (λζ ζ e=>e) (λζ ζ ζ e=>e) (λζ b e=>⟨#[],by rw[e];simp⟩) (λζ h=>h) I.hok I.bare
def OL (P:Program) (w:World) (K:Aj):List V->Hp->VK->Prop:=λvs H Q=>∃(p:Addr)(ns:List Int),vs=[.ref p]/\Af K H p (ns.map V.int)/\ns.length<=4000/\∀q,H q=none->Q (.ref q) (upd H q (Ha P w q ns))
def eH{ns:List Int}{a:List Value}(r:Ay (ns.map V.int) a):∀(i:Nat)(v:Value),a.toArray[i]?=some v->∃t,v=.int (ns.getD i 0) t:=λi v e=>by
 have d:a[i]?=some v:=(by simpa using e);have f:=r.length;rw[Ak] at f;have b:i<ns.length:=by have:=(Bh.mp d).1;lia
 obtain⟨u,c,g⟩:=r.get (i:=i) (x:=.int ns[i]) (by rw[AX,AA b];rfl);rw[d] at c;cases c;rw[BW,AA b];exact g
def Uk(v:X.calm=true):Bo X (.type "set") (OL X.prog X.w X.K):=by
 intro pins s σ H M N Q I r h;obtain⟨p,c,rfl,w,O,q⟩:=h;obtain⟨u,rfl,z⟩:=F3 r;obtain rfl:u=Value.ref p:=z;obtain⟨g,l,A,_⟩:=I.list w;have m:=l.length;rw[Ak] at m;have t:g.toArray.size=c.length:=(by rw[Cw,m]);refine dS (f:=λi=>c.getD i 0) (I.ok.hd v) A.isList (eH l) (by rw[t];unfold scanBound;lia) λB C n k=>?_;have Z:∀b u,s.heap.get? b=some u->B.get? b=some u:=λb u e=>k b u (Bj e) e;refine⟨.ref s.heap.objs.size,upd H s.heap.objs.size (Ha X.prog X.w s.heap.objs.size c),I.laid (t':=C) Z (AI _) ?_,rfl,q _ I.fresh⟩;refine⟨⟨_,Xm _ _,λy=>?_,n⟩,?_,λP R⟨D,E,F,G⟩J=>⟨D,E,F,G.keep λK e=>J K e⟩⟩;have:=Xc (λi=>c.getD i 0) g.toArray.size y;rw[Jb] at this;have e:(∃x,x∈B7 (λi=>c.getD i 0) g.toArray.size/\(x==y)=true)↔y∈B7 (λi=>c.getD i 0) g.toArray.size:=⟨λ⟨x,a,b⟩=>by rw[<-eq_of_beq b];exact a,λa=>⟨y,a,by simp⟩⟩;rw[<-e,this,t];constructor;rintro⟨j,d,rfl⟩;rw[BW,AA d];exact DX d;intro L;obtain⟨j,d,e⟩:=List.getElem_of_mem L;exact⟨j,d,by rw[BW,AA d];exact e⟩;obtain⟨o,_,_,_,e,_⟩:=n;exact⟨o,e⟩
def Mi (P:Program) (w:World):List V->Hp->VK->Prop:=λvs H Q=>∃(d:Addr)(ns:List Int),vs=[.ref d]/\H d=some (Ha P w d ns)/\(∀ds:List Int,ds.Nodup->(∀y∈ds,y∈ns)->ds.length<64)/\∀D(ms:List Int),ms.Pairwise (· < ·)->(∀y,y∈ms↔y∈ns)->H D=none->Q (.ref D) (upd H D (.lst (ms.map V.int)))
def Ul(n:X.calm=true):Bo X (.builtin "sorted") (Mi X.prog X.w):=by
 intro pins s σ H J K Q I r h;obtain⟨d,L,rfl,hd,E,q⟩:=h;obtain⟨u,rfl,o⟩:=F3 r;obtain rfl:u=Value.ref d:=o;obtain⟨⟨f,g,i,p⟩,_,_⟩:=I.hok d _ hd;have t:=E f g λy e=>(i y).mp e;refine eF (I.ok.hd n) p t λR M v w k F c Z j z A l B C=>?_
 have m:∀y,y∈c↔y∈f:=λy=>by
  rw[<-B y,Jb];exact⟨λ⟨x,a,b⟩=>by rw[<-eq_of_beq b];exact a,λa=>⟨y,a,by simp⟩⟩
 have D:c.Nodup:=Mh g (λy e=>(m y).mpr e) (Nat.le_of_eq l);have G:(c.map V.int).length<=sizeLine:=by rw[Ak,l];exact CQ (BL (by lia))
 exact⟨.ref R,upd H R (.lst (c.map V.int)),(I.drew v).laidN (t':=w) Z j ⟨G,F.toList,k,SX A,by rw[Array.toArray_toList];exact z⟩,rfl,q R c (J6 C D) (λy=>(m y).trans (i y)) (I.freshN j)⟩
end
def Ej (gs:List (Str×Int)) (n:Int):List Int:=match gs[n.toNat]? with
 |some p=>if p.1=("sort" : Str) then[p.2] else[]
 |none=>[]
def Fn (gs:List (Str×Int)) (as:List (C')) (q:Int):List Int:=match as[q.toNat]? with
 |some (some w)=>if w.1=("thing" : Str) then Ej gs w.2 else[]
 |_=>[]
def Do (W:Wd) (st:Int) (p:CA):List Int:=if p.2.1=("by" : Str)/\(EV (Dv W st) p.1).isSome=true then p.2.2::Fn W.gs W.as p.2.2 else[]
def AJ (W:Wd) (b:AO):List Int:=(By W b.2.1).flatMap (Do W b.2.2)
def EI (ss:List Bg) (w:List Aq):List Int:=if(CC ss w).2.2.1=("by" : Str) then[(CC ss w).2.2.2] else[]
def FS (W:Wd) (l:Lk):List Int:=l.1.flatMap (AJ W)++l.2.1.flatMap (EI W.ss)
def CI (W:Wd) (ls:List Lk) (ts:List Int):List Int:=ls.flatMap (FS W)++ts.flatMap (Ej W.gs)
section
variable {ths:List (Str×Int)} {as f:List (C')}
end
section
variable {W:Wd} {f:List (C')} {ord:A'} {sc st:Int}
end
section
variable {X:Cx}
end
section
variable {W:Wd} {qs:List Qu} {inn:Int} {ord:A'} {n:Nat} {as f:List Ansr} {ts:List Int}
end
def qA (gs:List (Str×Int)):C'->List Int
 |some w=>if w.1=("thing" : Str) then Ej gs w.2 else[]
 |none=>[]
def Xn{gs:List (Str×Int)}{a:List (C')}{o:C'}(h:a[k]?=some o):Fn gs a (k:Int)=qA gs o:=by
 unfold Fn;rw[Bw,h];cases o<;>rfl
section
variable {F:Addr->Prop} {H:Hp} {v:V} {d e f:Dt}
def Qw{i:Int}(h:Bs F H v (.int i)):v=.int i:=by cases h;rfl
def Mj(h:Bs F H v (.str x)):v=.str x:=by cases h;rfl
def OM(h:Bs F H v (.tup [d,e,f])):∃t x y z,v=.ref t/\H t=some (.tup [x,y,z])/\Bs F H x d/\Bs F H y e/\Bs F H z f:=by
 cases h with
 | tup h t =>
   cases t with
   |cons a t =>
     cases t with
     |cons b t =>
       cases t with
       |cons c t =>
         cases t with
         |nil=>exact⟨_,_,_,_,rfl,h,a,b,c⟩
def Qx{b:List Dt}(h:Bs F H v (.lst b)):∃a vs,v=.ref a/\H a=some (.lst vs)/\AG F H vs b:=by
 cases h with
 |lst h f t=>exact⟨_,_,rfl,h,t⟩
def Ip(h:Bs F H v (Ec.D b)):∃t x,v=.ref t/\H t=some (.tup [x,.int b.2.1,.int b.2.2]):=by
 obtain⟨t,x,y,z,c,a,_,d,e⟩:=OM (show Bs F H v (.tup [Dc.D b.1,.int b.2.1,.int b.2.2]) from h);rw[Qw d,Qw e] at a;exact⟨t,x,c,a⟩
def ON(h:Bs F H v (IU m)):∃t,v=.ref t/\H t=some (.tup (Gz m)):=by
 obtain⟨t,x,y,z,b,a,c,d,e⟩:=OM h;rw[Qw c,Mj d,Qw e] at a;exact⟨t,b,a⟩
theorem AG.app_inv:∀{es b:List Dt}{vs:List V},AG F H vs (es++b)->∃xs ys,vs=xs++ys/\AG F H ys b
 |[],_,vs,h=>⟨[],vs,rfl,h⟩
 |_::es,_,_,.cons a t=>by
   obtain⟨xs,ys,e,h⟩:=AG.app_inv (es:=es) t;exact⟨_::xs,ys,by rw[e];rfl,h⟩
def J7(h:Bs F H v (Dc.D (w++[m]))):∃a vs t,v=.ref a/\H a=some (.lst vs)/\Bi vs (-1)=some (.ref t)/\H t=some (.tup (Gz m)):=by
 obtain⟨a,vs,c,d,b⟩:=Qx (show Bs F H v (.lst ((w++[m]).map IU)) from h);rw[A6] at b;obtain⟨xs,g,rfl,e⟩:=b.app_inv
 cases e with
 |cons a t =>
   cases t with
   |nil =>
     obtain⟨t,rfl,f⟩:=ON a;exact⟨_,_,t,c,d,Tz _ _,f⟩
def Nm{f:α->Dt}{l:List α}{vs:List V}(h:AG F H vs (l.map f))(hv:vs[i]?=some v):∃b,l[i]?=some b/\Bs F H v (f b):=by
 obtain⟨d,a,c⟩:=h.get hv;rw[AX] at a;obtain⟨b,e,rfl⟩:=E8.mp a;exact⟨b,e,c⟩
end
def Iq(h:n<=9000):n<sizeLine:=Nat.lt_of_le_of_lt h (by decide)
theorem IW{α β:Type}{f:α->List β}{n:Nat}:∀{l:List α},(∀a∈l,(f a).length<=n)->(l.flatMap f).length<=n*l.length
 |[],_=>CO _
 |a::l,h=>by
   have d:=h a B2;have e:=IW λb c=>h b (DW _ c);rw[List.flatMap_cons,AQ,EG,Nat.mul_succ];lia
def K0{β:Type}{f:α->List β}{l:List α}{a:α}(h:l[i]?=some a):(l.take (i+1)).flatMap f=(l.take i).flatMap f++f a:=by
 rw[D7,h];show(l.take i++[a]).flatMap f=_;rw[List.flatMap_append]
 simp
def Mk{β:Type}{f:α->List β}{l:List α}(i:Nat):((l.take i).flatMap f).length<=(l.flatMap f).length:=by
 have:l.flatMap f=(l.take i).flatMap f++(l.drop i).flatMap f:=(by rw[<-List.flatMap_append,List.take_append_drop]);rw[this,AQ];lia
def OO(gs:List (Str×Int))(n:Int):(Ej gs n).length<=1:=by
 unfold Ej;split;split<;>simp
 simp
def Ml(gs:List (Str×Int))(o:C'):(qA gs o).length<=1:=by
 unfold qA;split;split;exact OO _ _
 simp
 simp
def eI(gs:List (Str×Int))(a:List (C'))(q:Int):(Fn gs a q).length<=1:=by
 unfold Fn;split;split;exact OO _ _
 simp
 simp
def eJ(W:Wd)(st:Int)(p:CA):(Do W st p).length<=2:=by
 unfold Do;have:=eI W.gs W.as p.2.2;split;rw[EG];lia
 simp
def Um(ss:List Bg)(w:List Aq):(EI ss w).length<=1:=by
 unfold EI;split<;>simp
def eK{b:Int}{p:CA}(a:p∈By W b):∃s∈W.ss,p∈s.1:=by
 unfold By at a
 cases e:W.ss[b.toNat]? with
 |none=>rw[e] at a;cases a
 |some s=>rw[e] at a;exact⟨s,Bc e,a⟩
def Uo(a:∀s∈W.ss,s.1.length<=3)(b:AO):(AJ W b).length<=6:=by
 unfold AJ;have c:=IW (f:=Do W b.2.2) (n:=2) (l:=By W b.2.1) λp ζ=>eJ W b.2.2 p
 have d:(By W b.2.1).length<=3:=by
  unfold By
  cases e:W.ss[b.2.1.toNat]? with
  |none=>exact CO _
  |some s=>exact a s (Bc e)
 lia
structure Ir (W:Wd) (l:Lk):Prop where
 b:l.1.length<=62
 f:l.2.1.length<=62
 bo:∀b∈l.1,BX W b
 en:∀w∈l.2.1,CH W.ss w
def Qy(ok:Ck W)(d:Bz W){l:Lk}(a:0<=sc/\sc<W.ss.length)(c:0<=st/\st<W.sts.length)(h:EW W ord sc st x l os):Ir W l:=by
 refine⟨h.b.few,?_,λb e=>((h.b.mem b).mp e).ok ok a c,Qr ok a c h⟩;have f:=h.f.perm.length_eq;have g:=d.fnd x sc st _ a c h.b;lia
def OP(ok:Ck W)(f:Bz W)(r:0<=inn/\inn<W.sts.length){p:List Str}{w:Option Wt}(k:LU W inn ord sc st p at_ a w ls ts) :
 0<=sc/\sc<W.ss.length->0<=st/\st<W.sts.length->(∀l∈ls,Ir W l)/\(∀n∈ts,0<=n/\n<W.gs.length)/\ts.length<=ls.length:=by
 induction k with
 |stop h e n=>exact λb c=>⟨λl d=>by rw[A7.mp d];exact Qy ok f b c h,(λζ z=>by cases z),CO _⟩
 |opn h e i=>exact λb c=>⟨λl d=>by rw[A7.mp d];exact Qy ok f b c h,λn g=>by rw[A7.mp g];exact OH ok f (Qr ok b c h) e,AI _⟩
 |no h e i=>exact λb c=>⟨λl d=>by rw[A7.mp d];exact Qy ok f b c h,λn g=>by rw[A7.mp g];exact OH ok f (Qr ok b c h) e,AI _⟩
 |go h e i s m =>
   intro b c;have g:=OH ok f (Qr ok b c h) e;obtain⟨o,q,t⟩:=m (Md ok g i) r;refine⟨λl d=>?_,λn j=>?_,by rw[EG,EG];lia⟩;rcases Cc.mp d with rfl|d;exact Qy ok f b c h;exact o l d;rcases Cc.mp j with rfl|j;exact g;exact q n j
def eQ(g:∀s∈W.ss,s.1.length<=3)(e:∀l∈ls,Ir W l)(i:ls.length<=8)(j:ts.length<=8):(CI W ls ts).length<=4000:=by
 unfold CI;rw[AQ]
 have k:=IW (f:=FS W) (n:=434) (l:=ls) λl h=>by
  unfold FS;rw[AQ];have a:=IW (f:=AJ W) (n:=6) (l:=l.1) λb ζ=>Uo g b;have b:=IW (f:=EI W.ss) (n:=1) (l:=l.2.1) λw ζ=>Um W.ss w;have c:=(e l h).b;have d:=(e l h).f;lia
 have m:=IW (f:=Ej W.gs) (n:=1) (l:=ts) λn ζ=>OO W.gs n;lia
set_option tactic.hygienic true in
def Xo(ok:Ck W){n:Int}(h:q∈Ej W.gs n):0<=q/\q<W.as.length:=by
 unfold Ej at h
 cases e:W.gs[n.toNat]? with
 |none=>rw[e] at h;cases h
 |some p =>
   rw[e] at h;dsimp only at h;split at h;rename_i a;rw[A7.mp h];exact ok.net.q p (Bc e) a;cases h
set_option tactic.hygienic true in
def Qz(ok:Ck W)(f:Bz W)(g:∀l∈ls,Ir W l)(h:q∈CI W ls ts):0<=q/\q<W.as.length:=by
 unfold CI at h;rcases BI.mp h with h|h;obtain⟨l,i,c⟩:=List.mem_flatMap.mp h;unfold FS at c;rcases BI.mp c with c|c;obtain⟨b,_,d⟩:=List.mem_flatMap.mp c;unfold AJ at d;obtain⟨p,j,a⟩:=List.mem_flatMap.mp d;obtain⟨s,k,m⟩:=eK j;unfold Do at a;split at a;rename_i o;rcases Cc.mp a with rfl|a;exact ok.by_ k m λz=>by rw[o.1] at z;exact absurd z (by decide +kernel)
 unfold Fn at a;split at a;split at a;exact Xo ok a;cases a;cases a;cases a;obtain⟨w,r,d⟩:=List.mem_flatMap.mp c;unfold EI at d;split at d;rename_i t;rw[A7.mp d];rcases Nk f ((g l i).en w r) with⟨e,_⟩|⟨_,e⟩;rw[t] at e;exact absurd e (by decide +kernel);exact e;cases d;obtain⟨n,_,c⟩:=List.mem_flatMap.mp h;exact Xo ok c
def QA:∀{a:List Int},a.Nodup->(∀y∈a,0<=y/\y<(n:Int))->a.length<=n:=λhd h=>KS n _ hd h
section
variable {K:Aj} {F:Addr->Prop} {H H':Hp} {nt A t:Addr} {W:Wd} {qs:List Qu} {inn:Int} {ord:A'} {as:List Ansr}
variable {H'':Hp} {kvs kvs':List (A8×V)} {ds:List Int} {fs:List (Int×(Str×Int))} {k:Nat} {q:Qu}
end
def AL{G:Prop}(h:∀N:Prop,(G->N)->N):G:=h G λz=>z
variable {σ:St}
def Hb{g:TG}{t:TS}{D:Ends}(h:let N:=D.nx;let C:=D.ct;g v σ H λσ2 Y=>t {D with nx:=N,ct:=C} σ2 Y):g v σ H (λσ2 Y=>t D σ2 Y):=h
section
variable {W:Wd} {qs:List Qu} {inn:Int} {ord:A'} {H H':Hp} {kvs kvs':List (A8×V)} {n:Nat} {as:List Ansr} {ts:List Int} {due:List Int} {fs:Fnds} {X:Addr->Prop}
end
def Up (K:Aj):List V->Hp->VK->Prop:=λvs H Q=>∃(a:Addr)(ns:List Int),vs=[.ref a]/\Af K H a (ns.map V.int)/\Q (.int ns.sum) H
theorem Xp(ns:List Int):∀n,n<=ns.length->preSum (λi=>ns.getD i 0) n=(ns.take n).sum
 |0,_=>by simp[preSum]
 |n+1,h=>by
   have a:=Xp ns n (by lia)
   have e:(ns.take (n+1))=ns.take n++[ns.getD n 0]:=by
    rw[D7,AA (by lia),BW,AA (by lia)];rfl
   rw[e,List.sum_append];show preSum _ n+ns.getD n 0=_;rw[a];simp
def Xq{X:Cx}(w:X.calm=true):Bo X (.builtin "sum") (Up X.K):=by
 intro N s σ H G J Q I r h;obtain⟨a,c,rfl,y,q⟩:=h;obtain⟨u,rfl,f⟩:=F3 r;obtain rfl:u=Value.ref a:=f;obtain⟨d,j,p,K⟩:=I.list y;have k:=j.length;rw[Ak] at k;have m:a<s.heap.objs.size:=by obtain⟨_,e,_⟩:=p.isList;exact Bj e
 refine call_sum_walkG (wpAny_pyIter_list p.isList ?_);refine⟨s.heap.objs.size,[s.heap.objs.size,a],[s.heap.objs.size],d.toArray.size,(λi v=>d.toArray[i]?=some v),(λi h=>h.IsListIter s.heap.objs.size a i/\h.IsList a d.toArray),(λi=>c.getD i 0),rfl,Walks.list (A:=X.A.in1) (I.ok.hd w) s.heap.objs.size a (CF m) d.toArray,⟨⟨_,Co _ rfl,rfl,rfl⟩,p.isList.push _⟩,(λb g=>?_),(λi v B=>?_),λL M C D=>?_⟩;rw[Heap.size_push];rcases Cc.mp g with rfl|g;exact Po _;rw[A7.mp g];exact Nat.lt_succ_of_lt m;have n:d[i]?=some v:=(by simpa using B);have E:i<c.length:=by have:=(Bh.mp n).1;lia
 obtain⟨u,l,t,f⟩:=j.get (i:=i) (x:=V.int (c.getD i 0)) (by rw[AX,BW,AA E];rfl);rw[n] at l;cases l;exact⟨t,f⟩;have e:d.toArray.size=c.length:=(by rw[Cw,k]);refine⟨.int c.sum,H,I.kept λb o e=>D b o (λz=>?_) (Bn _ e),?_,q⟩;have F:b=s.heap.objs.size:=(by simpa using z);exact absurd (Bj e) (by rw[F];exact GY _);refine⟨C,?_⟩;rw[e,Xp c _ (AI _),Cr]
section
variable {X:Cx}
def Inv.frzK{pins:B'}{a:Addr}{o:Obj}{kvs:List (A8×V)}(I:Inv X pins σ H s)(g:s.heap.get? a=some o)(e:H a=some (.dK kvs)):Inv X pins σ (upd H a (.frz o (.dK kvs))) s:=by
 have same:∀b u,H b=some u->(∀kvs,u≠.dK kvs)->(upd H a (.frz o (.dK kvs))) b=some u:=λb u z n=>by
  rw[AE λy=>by rw[y,e] at z;cases z;exact absurd rfl (n kvs)];exact z
 refine I.step (g':=s.gens) (t':=s.toks) (d':=s.drawn) (h':=s.heap) (ch:=[]) (λb d=>nomatch d) (λb o ζ ζ ζ z ζ=>z) (λb o ζ ζ ζ z ζ=>⟨o.slots,z⟩) (λb o ζ ζ n=>?_) (λb o ζ z=>⟨o,z⟩)
  (λb xs z=>same b _ z λζ q=>nomatch q) (λb o u z=>same b _ z λζ q=>nomatch q) (λb h z=>⟨#[],by rw[same b _ z λζ q=>nomatch q];simp⟩) (λm f=>f) (λb u z=>?_) I.bare
 rw[AE λy=>by rw[y,e] at n;cases n];exact n;have st:∀{v:HO},H b=some v->AF X.prog X.w (upd H a (.frz o (.dK kvs))) s.heap b v:=λ{v}e=>(I.hok b v e).stay (λζ ζ ζ q=>q) (λc q=>same c _ q λζ q=>nomatch q) λc xs q=>same c _ q λζ q=>nomatch q;by_cases y:b=a;rw[y,Aa] at z;cases z;rw[y] at st ⊢;exact⟨g,st e⟩;rw[AE y] at z;exact st z
def Uq (a:Addr) (o:Obj) (kvs:List (A8×V)):It:=
 ⟨λi H=>H a=some (.frz o (.dK kvs))/\i<kvs.length,λi H x H'=>H'=H/\∃k v,kvs[i]?=some (k,v)/\x=kV k,λi H=>H a=some (.frz o (.dK kvs))/\kvs.length<=i⟩
def Mm{P:Program}{w:World}{es:List DictEntry}{vs:List (A8×Value)}(h:Pairs (Ff P w) es vs):∀{i:Nat}{q:A8×Value},vs[i]?=some q->∃e,es[i]?=some e/\Le q.1 e.key=true:=by
 induction h with
 |nil=>intro i q e;cases e
 |cons a c _ b =>
   intro i q e
   cases i with
   |zero=>cases e;exact⟨_,rfl,a⟩
   |succ i=>exact b (i:=i) e
def eR{P:Program}{w:World}{K:Aj}{Y:Expr}{a f:Addr}{o:Obj}{kvs:List (A8×V)}{es:Array DictEntry}{ep:Nat}(hd:o.data=.dict es ep) :
 FN P w K Y (Uq a o kvs) [f] f (λi h=>h.IsKeyIter f a i es.size ep) where
 mem:=by simp
 obj:=λi h st b l=>by
  have e:b=f:=(by simpa using l);subst e;obtain⟨o,e,c,d⟩:=st;exact⟨o,e,λv z=>by rw[d] at z;cases z⟩
 keep:=λi h p st k=>st.at λo e=>k f (by simp) o e
 item:=by
  intro X u x A S i W s σ H E I r st B;subst u x A;obtain⟨C,D⟩:=B;obtain⟨m,z,y,Z,R,o',ab,ae,g,c1,n,c3,F,c5⟩:=(show AF X.prog X.w H s.heap a (.frz o (.dK kvs)) from I.hok a _ C);rw[m] at g;cases g;rw[hd] at n;cases n;obtain⟨q,hx,e1,e2⟩:=Ia R D;obtain⟨en,T,hk⟩:=Mm F hx;rw[Array.getElem?_toList] at T;obtain⟨af,ag⟩:=Array.getElem?_eq_some_iff.mp T;obtain⟨G,J,aa,L,M,N⟩:=r f (by simp);refine WF st m hd af λp U sb=>?_;have I1:Inv X W σ H {s with heap:=p}:=I.turned (t':=s.toks) (λb o l e=>(sb.2 b l).trans e) G J L M N;obtain⟨oi,e,c,d⟩:=id U;refine⟨_,rfl,Py (s:={s with heap:=p}) e c d (by decide) ⟨kV kvs[i].1,H,I1,?_,⟨rfl,kvs[i].1,kvs[i].2,by simp[D],rfl⟩,U,λb l=>(r b l).1⟩⟩;rw[ag,e1]
  rcases IJ hk with⟨j,t,O,Q⟩|⟨j,t,O,Q⟩;rw[O,Q];exact⟨_,rfl⟩;rw[O,Q];exact⟨_,rfl⟩
 done:=by
  intro X u x A S i W s σ H E I r st B;subst u x A;obtain⟨C,D⟩:=B;obtain⟨m,z,y,Z,R,o',ab,ae,g,c1,n,c3,F,c5⟩:=(show AF X.prog X.w H s.heap a (.frz o (.dK kvs)) from I.hok a _ C);rw[m] at g;cases g;rw[hd] at n;cases n;have ah:=F.length;rw[Array.length_toList] at ah;have hl:=Paired.length R;obtain⟨G,J,aa,L,M,N⟩:=r f (by simp);exact WG (I.ok.hd S) st m hd (by lia) λp eb=>⟨rfl,I.turned (t':=s.toks) (λb o l e=>eb b o l e) G J L M N⟩
 self:=λζ ζ ζ ζ ζ st h=>wpAny_pyIter_keyiter st h
def Mn (tl:TE):TI:=λσ H R=>tl σ H λx U=>∃a kvs,x=.ref a/\U a=some (.dK kvs)/\∀o,R (Uq a o kvs) (upd U a (.frz o (.dK kvs)))
def Xr{m l:Expr}{f:TE}(n:PE X l f):PI X m l (Mn f):=by
 intro z s σ H R I h;refine AV (n z s σ H _ I h) λv c⟨x,U,i,p,r⟩=>?_;obtain⟨a,y,e,j,q⟩:=r;subst e;cases p;obtain⟨_,t,A,_,o,B,C,g,u,k,_⟩:=(show AF X.prog X.w U c.heap a (.dK y) from i.hok a _ j);have d:=i.frzK g j;refine WE t g u k ?_;refine⟨c.heap.objs.size,[c.heap.objs.size],_,_,_,rfl,d.kept (t':=c.toks) λb o e=>Bn _ e,eR k,⟨_,Co _ rfl,rfl,rfl⟩,λb w=>?_,q o⟩
 have e:b=c.heap.objs.size:=(by simpa using w);subst e;exact d.fpOk (AI _) (d.hok.fresh (AI _))
end
def Ur{a:Addr}{o:Obj}{kvs:List (A8×V)}{f:List Nat}{g:TG}{te:TE}{Q:Addr->Hp->Prop}(Pv:Addr->Nat->List V->Hp->Prop)
 (h:∀D,U D=none->Pv D 0 [] (upd U D (.lst []))) (c:∀D i ys Y,Pv D i ys Y->Y a=some (.frz o (.dK kvs)))
 (j:∀D i p ys Y(R:VK),U D=none->kvs[i]?=some p->Pv D i ys Y->(∀y b,b D=some (.lst ys)->ys.length<sizeLine->Pv D (i+1) (ys++[y]) (upd b D (.lst (ys++[y])))->R y b)->g (kV p.1) (F4 k f σ) Y λσ4 l=>te σ4 l R)
 (hd:∀D ys Y,U D=none->Pv D kvs.length ys Y->Q D Y):KN (Uq a o kvs) k f g HN te σ U Q:=Og kvs.length Pv h (λD i ys Y p d=>⟨c D i ys Y p,d⟩) (λD ys Y p=>⟨c D _ ys Y p,AI _⟩) (λD i ys Y x n R q m d p y k r=>by obtain⟨rfl,Z,v,e,rfl⟩:=y;exact j D i (Z,v) ys _ R m e p k) hd
def Mo(h:n.testBit k=false):n ||| 2 ^ k=n+2 ^ k:=by
 have e:n/2 ^ k%2=0:=by
  rw[Nat.testBit_eq_decide_div_mod_eq] at h;have:=of_decide_eq_false h;lia
 have c:=Nat.mod_lt n (Nat.two_pow_pos k);have a:=Nat.div_add_mod n (2 ^ k);have p:2 ^ (k+1)=2 ^ k*2:=Nat.pow_succ _ _;obtain⟨q,d⟩:∃q,n/2 ^ k=2*q:=⟨n/2 ^ k/2,by lia⟩;rw[d,<-Nat.mul_assoc,<-p] at a;generalize n%2 ^ k=b at c a;rw[<-a,Nat.two_pow_add_eq_or_of_lt (by lia),Nat.or_assoc,Nat.or_two_pow_eq_add_of_lt c,<-Nat.two_pow_add_eq_or_of_lt (by lia),<-Nat.two_pow_add_eq_or_of_lt (by lia)];lia
def Mp (n k:Nat):Nat:=n ||| 2 ^ k
theorem Xs(j:Nat):∀(l:List Nat)(n:Nat),(l.foldl Mp n).testBit j=true↔n.testBit j=true\/j∈l
 |[],n=>by simp
 |k::l,n=>by
   rw[List.foldl_cons,Xs j l];unfold Mp;rw[Nat.testBit_or,Nat.testBit_two_pow,Bool.or_eq_true,decide_eq_true_iff,Cc,or_assoc];exact or_congr Iff.rfl (or_congr ⟨Eq.symm,Eq.symm⟩ Iff.rfl)
theorem Us(j:Nat):∀l:List Nat,l.Nodup->((l.map λk=>2 ^ k).sum.testBit j=true↔j∈l)
 |[],_=>by simp
 |k::l,b=>by
   obtain⟨c,a⟩:=Gh.mp b;have d:(l.map λk=>2 ^ k).sum.testBit k=false:=Bool.eq_false_iff.mpr λz=>c ((Us k l a).mp z);rw[Ew,List.sum_cons,Nat.add_comm,<-Mo d,Nat.testBit_or,Nat.testBit_two_pow,Bool.or_eq_true,decide_eq_true_iff,Us j l a,Cc];exact⟨λz=>z.elim .inr λe=>.inl e.symm,λz=>z.elim (λe=>.inr e.symm) .inl⟩
def eU(a b:Nat):Builtin.bitOr a b=((a ||| b:Nat):Int):=by
 have c:∀x:Int,Builtin.bitNot (Builtin.bitNot x)=x:=λx=>by unfold Builtin.bitNot;lia
 have d:∀x:Nat,decide (0<=Builtin.bitNot (x:Int))=false:=λx=>D8 (by unfold Builtin.bitNot;lia);unfold Builtin.bitOr Builtin.bitAnd;rw[d,d];dsimp only;rw[c,c,c];rfl
def OQ (n:Int) (b:AO):Int:=Builtin.bitOr n (1*2 ^ b.2.1.toNat)
def K1 (n:Int) (l:Lk):Int:=l.1.foldl OQ n
def J8 (ls:List Lk):List Nat:=ls.flatMap λl=>l.1.map λb=>b.2.1.toNat
def J9(n:Nat)(b:AO):OQ (n:Int) b=((Mp n b.2.1.toNat:Nat):Int):=by
 unfold OQ Mp;rw[Int.one_mul,show(2:Int) ^ b.2.1.toNat=((2 ^ b.2.1.toNat:Nat):Int) by push_cast;rfl,eU]
theorem Xu:∀(l:List AO)(n:Nat),l.foldl OQ (n:Int)=(((l.map λb=>b.2.1.toNat).foldl Mp n:Nat):Int)
 |[],n=>rfl
 |b::l,n=>by rw[List.foldl_cons,J9,Xu l];rfl
theorem Xv:∀(ls:List Lk)(n:Nat),ls.foldl K1 (n:Int)=(((J8 ls).foldl Mp n:Nat):Int)
 |[],n=>rfl
 |l::ls,n=>by
   rw[List.foldl_cons,show K1 (n:Int) l=_ from Xu l.1 n,Xv ls];unfold J8;rw[List.flatMap_cons,KA]
def Ut{ks:List Nat}(a:ks.Nodup)(h:∀j,j∈ks↔j∈J8 ls):(ks.map λk=>(1:Int)*2 ^ k).sum=ls.foldl K1 0:=by
 have e:(J8 ls).foldl Mp 0=(ks.map λk=>2 ^ k).sum:=Nat.eq_of_testBit_eq λj=>by
  rw[Bool.eq_iff_iff,Xs,Us j ks a,h j]
  simp
 have:=Xv ls 0
 rw[e] at this;rw[show(0:Int)=((0:Nat):Int) from rfl,this];clear this e h a
 induction ks with
 |nil=>rfl
 |cons k ks b=>rw[Ew,List.sum_cons,Ew,List.sum_cons,b,Int.one_mul];push_cast;rfl
end L2
abbrev L2.SF (n:List (PySem.Str×PySem.NameKind)):PySem.Scope:={kind:=.function,names:=n,isGenerator:=false,isCoroutine:=false,more:=[]}
def L2.new_at{H:L2.Hp}{a:PySem.Addr}{o:L2.HO}(h:H a=none):∃H':L2.Hp,H'=L2.upd H a o/\L2.Ac H H'/\H' a=some o:=⟨_,rfl,L2.AW h,L2.Aa⟩
variable {α β:Type}{i:Nat}
def L2.getm{f:α->β}{l:List α}{x:β}(h:(l.map f)[i]?=some x):∃z,l[i]?=some z/\f z=x:=by
 rw[AX] at h;exact E8.mp h
namespace K36
open PySem PySem.Spec PyProof.Rows L2 Ord
local macro_rules | `(tactic| trivial) => `(tactic| exact ⟨rfl, rfl, rfl, by decide +kernel, rfl, by decide +kernel, by decide +kernel⟩)
local macro_rules | `(tactic| trivial) => `(tactic| exact ⟨rfl, by decide +kernel, by decide +kernel, by decide +kernel, rfl, by decide +kernel, by decide +kernel⟩)
local macro_rules | `(tactic| rfl') => `(tactic| try dsimp only[AC,Cx.nox,Cx.wish])
def IX:Ae ["_law_cell", "_law_many", "_law_letters", "_law_long", "_law_at", "_law_some", "_law_k", "_law_name", "_law_j", "_law_sign"] ["_law_cell", "_law_many"] (AS Rj):=by trivial
def eV:Ae ["_law_script", "_law_k"] ["_law_script", "_law_k"] (AS Rk):=by trivial
def QB:Ae ["_law_number", "_law_many", "_law_some", "_law_k"] ["_law_number", "_law_many"] (AS Rl):=by trivial
def Mq:Ae ["_law_cell", "_law_labels", "_law_one", "_law_other", "_law_some", "_law_j", "_law_k"] ["_law_cell", "_law_labels"] (AS Rm):=by trivial
def Mr:Ae ["_law_cells", "_law_labels", "_law_states", "_law_cell", "_law_ranks_here", "_law_goes", "_law_ends", "_law_k"] ["_law_cells", "_law_labels"] (AS Rn):=by trivial
def Uu:Ae ["_law_cell", "_law_many", "_law_states", "_law_names_here", "_law_mixed", "_law_path"] ["_law_cell", "_law_many", "_law_states", "_law_names_here"] (AS Ro):=by trivial
def Xw:Ae ["_law_cell", "_law_many", "_law_asked_here", "_law_number"] ["_law_cell", "_law_many", "_law_asked_here"] (AS Rp):=by trivial
def Uv:Ae ["_law_cell", "_law_labels", "_law_many", "_law_asked_here", "_law_label_here", "_law_number"] ["_law_cell", "_law_labels", "_law_many", "_law_asked_here"] (AS Rq):=by trivial
def QC:Ae ["_law_cell", "_law_labels", "_law_names_here", "_law_things", "_law_asked_here", "_law_label_here", "_law_number", "_law_name"] ["_law_cell", "_law_labels", "_law_names_here", "_law_things", "_law_asked_here"] (AS Rr):=by trivial
def Nn:Ae ["_law_cells", "_law_labels", "_law_names_here", "_law_many", "_law_sizes", "_law_scopes_here", "_law_most", "_law_cell", "_law_at", "_law_number"] ["_law_cells", "_law_labels", "_law_names_here", "_law_many", "_law_sizes"] (AS Pq):=by trivial
def Cp:Ax (AS Pq) ["_law_cells", "_law_labels", "_law_names_here", "_law_many", "_law_sizes", "_law_scopes_here", "_law_most", "_law_cell", "_law_at", "_law_number"] (SF [(".0",.local),("_law_k",.local)]) ["_law_k"] 1 []:=by trivial
def Hv:Ae ["_law_script", "_law_names_here", "_law_labels", "_law_table_here", "_law_head", "_law_many", "_law_cells", "_law_things", "_law_questions", "_law_asked_here", "_law_cell", "_law_scopes_here"] ["_law_script"] (AS NC):=by trivial
def CU:Ax (AS NC) ["_law_script", "_law_names_here", "_law_labels", "_law_table_here", "_law_head", "_law_many", "_law_cells", "_law_things", "_law_questions", "_law_asked_here", "_law_cell", "_law_scopes_here"] (SF [ (".0",.local),("_law_k",.local),("_law_cell_at",.globalImplicit),("_law_script",.free)]) ["_law_k", "_law_script"] 1 [0]:=by trivial
def CV:Ax (AS NC) ["_law_script", "_law_names_here", "_law_labels", "_law_table_here", "_law_head", "_law_many", "_law_cells", "_law_things", "_law_questions", "_law_asked_here", "_law_cell", "_law_scopes_here"] (SF [(".0",.local),("_law_cell",.local)]) ["_law_cell"] 1 []:=by trivial
def No:Ae ["_law_cell", "_law_net", "_law_number", "_law_some", "_law_question_here", "_law_at"] ["_law_cell", "_law_net"] (AS Rs):=by trivial
def QD:Ae ["table", "state", "label", "goes", "known", "number"] ["table", "state", "label"] (AS Rt):=by trivial
def QE:Ae ["net", "answers", "question", "answer", "kind", "number"] ["net", "answers", "question"] (AS Ru):=by trivial
def Uw:Ae ["net", "answers", "thing", "kind", "number"] ["net", "answers", "thing"] (AS Rv):=by trivial
def OR:Ae ["net", "answers", "step", "label", "kind", "number", "answer"] ["net", "answers", "step"] (AS Rx):=by trivial
def Ms:Ae ["net", "answers", "table", "scope", "state", "gone", "index", "step", "after", "kind", "number"] ["net", "answers", "table", "scope", "state"] (AS Ry):=by trivial
def IY:Ae ["net", "answers", "table", "beginning", "marks", "last", "then", "come_to", "longer", "mark", "kind", "number", "after"] ["net", "answers", "table", "beginning"] (AS Pr):=by trivial
def BH:Ax (AS Pr) ["net", "answers", "table", "beginning", "marks", "last", "then", "come_to", "longer", "mark", "kind", "number", "after"] (SF [(".0",.local),("mark",.local)]) ["mark"] 1 []:=by trivial
def QF:Ae ["net", "answers", "table", "scope", "state", "found", "place"] ["net", "answers", "table", "scope", "state"] (AS Rz):=by trivial
def Ux:Ae ["_law_table_here", "_law_state", "_law_label_here", "_law_one", "_law_then"] ["_law_table_here", "_law_state", "_law_label_here"] (AS RA):=by trivial
def eW:Ae ["_law_net", "_law_thing_here"] ["_law_net", "_law_thing_here"] (AS RB):=by trivial
def IZ:Ae ["_law_net", "_law_table_here", "_law_answers_here", "_law_rows", "_law_some", "_law_marks", "_law_here", "_law_then", "_law_label_here", "_law_kind", "_law_number", "_law_answer"] ["_law_net", "_law_table_here", "_law_answers_here", "_law_rows"] (AS RC):=by trivial
def Xx:Ae ["table", "state", "label", "ends"] ["table", "state", "label"] (AS RD):=by trivial
def Mt:Ae ["net", "table", "begun", "name", "ways", "marks", "last", "then", "index", "telling"] ["net", "table", "begun", "name"] (AS RE):=by trivial
def eX:Ae ["net", "answers", "table", "scope", "state", "name"] ["net", "answers", "table", "scope", "state", "name"] (AS RF):=by trivial
def eY:Ae ["_law_net", "_law_mark"] ["_law_net", "_law_mark"] (AS RG):=by trivial
def Xy:Ae ["_law_net", "_law_mark", "_law_scope"] ["_law_net", "_law_mark"] (AS RH):=by trivial
def Uy:Ae ["_law_net", "_law_table_here", "_law_one", "_law_other", "_law_a", "_law_b"] ["_law_net", "_law_table_here", "_law_one", "_law_other"] (AS RI):=by trivial
def Xz:Ae ["_law_net", "_law_table_here", "_law_ways", "_law_way", "_law_one"] ["_law_net", "_law_table_here", "_law_ways", "_law_way"] (AS RJ):=by trivial
def XA:Ae ["_law_answers_here", "_law_telling_here", "_law_answer"] ["_law_answers_here", "_law_telling_here"] (AS RK):=by trivial
def Mu:Ae ["_law_net", "_law_table_here", "_law_answers_here", "_law_ways", "_law_dues", "_law_way", "_law_question_here", "_law_shown", "_law_meant_here", "_law_one"] ["_law_net", "_law_table_here", "_law_answers_here", "_law_ways", "_law_dues"] (AS ND):=by trivial
def Dy:Ax (AS ND) ["_law_net", "_law_table_here", "_law_answers_here", "_law_ways", "_law_dues", "_law_way", "_law_question_here", "_law_shown", "_law_meant_here", "_law_one"] (SF [ (".0",.local),("_law_way",.local),("_law_hidden",.globalImplicit),("_law_net",.free),("_law_table_here",.free),("_law_ways",.free)]) ["_law_way", "_law_net", "_law_table_here", "_law_ways"] 1 [0,1,3]:=by trivial
def Dz:Ax (AS ND) ["_law_net", "_law_table_here", "_law_answers_here", "_law_ways", "_law_dues", "_law_way", "_law_question_here", "_law_shown", "_law_meant_here", "_law_one"] (SF [ (".0",.local),("_law_way",.local),("_law_meant",.globalImplicit),("_law_told",.globalImplicit),("_law_answers_here",.free),("_law_net",.free)]) ["_law_way", "_law_answers_here", "_law_net"] 1 [2,0]:=by trivial
def Ka:Ae ["net", "answers", "table", "begun", "ways", "marks", "last", "then", "mark", "kind", "number", "after"] ["net", "answers", "table", "begun"] (AS RL):=by trivial
def e7:Ae ["net", "answers", "table", "scope", "state"] ["net", "answers", "table", "scope", "state"] (AS RM):=by trivial
def QG:Ae ["_law_net", "_law_answers_here", "_law_thing_here", "_law_kind", "_law_number", "_law_answer"] ["_law_net", "_law_answers_here", "_law_thing_here"] (AS RN):=by trivial
def FF:Ae ["_law_net", "_law_table_here", "_law_answers_here", "_law_question_here", "_law_scope", "_law_state", "_law_path", "_law_come", "_law_some", "_law_at", "_law_rows", "_law_marks", "_law_here", "_law_then", "_law_ways", "_law_tellings", "_law_end_here", "_law_word"] ["_law_net", "_law_table_here", "_law_answers_here", "_law_question_here"] (AS Ld):=by trivial
def DA:Ax (AS Ld) ["_law_net", "_law_table_here", "_law_answers_here", "_law_question_here", "_law_scope", "_law_state", "_law_path", "_law_come", "_law_some", "_law_at", "_law_rows", "_law_marks", "_law_here", "_law_then", "_law_ways", "_law_tellings", "_law_end_here", "_law_word"] (SF [ (".0",.local),("_law_way",.local),("_law_told",.globalImplicit),("_law_net",.free)]) ["_law_way", "_law_net"] 1 [0]:=by trivial
def DB:Ax (AS Ld) ["_law_net", "_law_table_here", "_law_answers_here", "_law_question_here", "_law_scope", "_law_state", "_law_path", "_law_come", "_law_some", "_law_at", "_law_rows", "_law_marks", "_law_here", "_law_then", "_law_ways", "_law_tellings", "_law_end_here", "_law_word"] (SF [ (".0",.local),("_law_telling_here",.local)]) ["_law_telling_here"] 1 []:=by trivial
def DC:Ax (AS Ld) ["_law_net", "_law_table_here", "_law_answers_here", "_law_question_here", "_law_scope", "_law_state", "_law_path", "_law_come", "_law_some", "_law_at", "_law_rows", "_law_marks", "_law_here", "_law_then", "_law_ways", "_law_tellings", "_law_end_here", "_law_word"] (SF [(".0",.local),("_law_here",.local)]) ["_law_here"] 1 []:=by trivial
def DD:Ax (AS Ld) ["_law_net", "_law_table_here", "_law_answers_here", "_law_question_here", "_law_scope", "_law_state", "_law_path", "_law_come", "_law_some", "_law_at", "_law_rows", "_law_marks", "_law_here", "_law_then", "_law_ways", "_law_tellings", "_law_end_here", "_law_word"] (SF [(".0",.local),("_law_here",.local)]) ["_law_here"] 1 []:=by trivial
def Uz:Ae ["_law_found", "_law_due_here", "_law_one", "_law_other"] ["_law_found", "_law_due_here"] (AS NE):=by trivial
def e8:Ae ["table"] ["table"] (AS Ps):=by trivial
def Ch:Ax (AS Ps) ["table"] (SF [(".0",.local),("pair",.local)]) ["pair"] 1 []:=by trivial
def Mv:Ae ["ways", "tree", "number", "way", "branch", "mark"] ["ways"] (AS RO):=by trivial
def Np:Ae ["net", "mark", "scope", "kind", "index", "steps", "tellings"] ["net", "mark"] (AS RP):=by trivial
def Mw:Ae ["net", "better", "tree", "way", "numbers", "branch", "mark", "label", "beside"] ["net", "better", "tree", "way"] (AS RQ):=by trivial
def UA:Ae ["net", "table", "ways", "better", "tree"] ["net", "table", "ways"] (AS Pt):=by trivial
def CW:Ax (AS Pt) ["net", "table", "ways", "better", "tree"] (SF [ (".0",.local),("way",.local),("first_hider",.globalImplicit),("list",.globalImplicit),("better",.free),("net",.free),("tree",.free)]) ["way", "net", "better", "tree"] 1 [0,3,4]:=by trivial
def XB:Ae ["net", "table", "begun", "name", "found"] ["net", "table", "begun", "name"] (AS RS):=by trivial
def OS:Ae ["net", "table", "found", "owed", "better", "tree", "way", "question"] ["net", "table", "found", "owed"] (AS RU):=by trivial
def OT:Ae ["net", "mark", "scope", "kind", "index", "tellings"] ["net", "mark"] (AS RV):=by trivial
def Nq:Ae ["net", "answers", "seen", "way", "label", "name", "kind", "number"] ["net", "answers", "seen"] (AS RW):=by trivial
def Mx:Ae ["net", "answers", "way", "label", "name", "kind", "number"] ["net", "answers", "way"] (AS RX):=by trivial
def Kb:Ae ["net", "answers", "table", "owed", "look", "at", "begun", "found", "seen", "waiting", "way", "question", "meanings"] ["net", "answers", "table", "owed", "look", "at"] (AS MY):=by trivial
def GR:Ax (AS MY) ["net", "answers", "table", "owed", "look", "at", "begun", "found", "seen", "waiting", "way", "question", "meanings"] (SF [ (".0",.local),("way",.local),("meaning",.globalImplicit),("answers",.free),("net",.free)]) ["way", "net", "answers"] 1 [0,1]:=by trivial
def GS:Ax (AS MY) ["net", "answers", "table", "owed", "look", "at", "begun", "found", "seen", "waiting", "way", "question", "meanings"] (SF [(".0",.local),("thing",.local)]) ["thing"] 1 []:=by trivial
def GU:Ax (AS MY) ["net", "answers", "table", "owed", "look", "at", "begun", "found", "seen", "waiting", "way", "question", "meanings"] (SF [ (".0",.local),("thing",.local),("meanings",.free)]) ["thing", "meanings"] 1 [12]:=by trivial
def GC:Ae ["net", "answers", "table", "asked", "scope", "state", "path", "looks", "things", "at", "name", "begun", "answer", "wait", "kind", "number"] ["net", "answers", "table", "asked"] (AS RY):=by trivial
def Kc:Ae ["looks", "scopes", "begun", "found", "seen", "marks", "last", "then"] ["looks"] (AS RZ):=by trivial
def OU:Ae ["net", "answers", "table", "question", "answer", "wait", "looks", "things"] ["net", "answers", "table", "question"] (AS R1):=by trivial
def UB:Ae ["net", "thing", "kind", "number"] ["net", "thing"] (AS R3):=by trivial
def e9:Ae ["net", "answer"] ["net", "answer"] (AS R6):=by trivial
def K2:Ae ["net", "answers", "table", "begun", "questions", "marks", "last", "then", "label", "kind", "number"] ["net", "answers", "table", "begun"] (AS R7):=by trivial
def My:Ae ["net", "found", "questions", "way", "label", "name", "kind", "number"] ["net", "found"] (AS R8):=by trivial
def Nr:Ae ["net", "answers", "table", "looks", "things", "questions", "begun", "found", "seen", "thing"] ["net", "answers", "table", "looks", "things"] (AS R9):=by trivial
def OV:Ae ["net", "answers", "table", "question", "answer", "wait", "looks", "things"] ["net", "answers", "table", "question"] (AS Sa):=by trivial
def I0:Ae ["_law_script", "_law_net", "_law_table_here", "_law_handed", "_law_answers_here", "_law_lent", "_law_question_here", "_law_bits", "_law_some", "_law_told_here"] ["_law_script"] (AS KD):=by trivial
structure Bt (mg:Str->Option Value):Prop where
 b_all:mg "all" = none
 b_any:mg "any" = none
 b_bool:mg "bool" = none
 b_dict:mg "dict" = none
 b_enumerate:mg "enumerate" = none
 b_int:mg "int" = none
 b_isinstance:mg "isinstance" = none
 b_len:mg "len" = none
 b_list:mg "list" = none
 b_min:mg "min" = none
 b_range:mg "range" = none
 b_set:mg "set" = none
 b_sorted:mg "sorted" = none
 b_str:mg "str" = none
 b_sum:mg "sum" = none
 b_tuple:mg "tuple" = none
 b_zip:mg "zip" = none
 c_MOST_BEGINNINGS:∃t,mg "MOST_BEGINNINGS" = some (.int 200 t)
variable {us:List Value}
def Iu(h:us.length=1):∃a,us=[a]:=by
 cases us with
 |nil=>cases h
 |cons a t=>exact⟨a,by rw[List.length_eq_zero_iff.mp (Nat.succ.inj h)]⟩
def Iv(h:us.length=2):∃a b,us=[a,b]:=by
 cases us with
 |nil=>cases h
 |cons a t =>
   obtain⟨b,rfl⟩:=Iu (Nat.succ.inj h);exact⟨a,b,rfl⟩
def K3(h:us.length=3):∃a b c,us=[a,b,c]:=by
 cases us with
 |nil=>cases h
 |cons a t =>
   obtain⟨b,c,rfl⟩:=Iv (Nat.succ.inj h);exact⟨a,b,c,rfl⟩
def K4(h:us.length=4):∃a b c d,us=[a,b,c,d]:=by
 cases us with
 |nil=>cases h
 |cons a t =>
   obtain⟨b,c,d,rfl⟩:=K3 (Nat.succ.inj h);exact⟨a,b,c,d,rfl⟩
def K5(h:us.length=5):∃a b c d e,us=[a,b,c,d,e]:=by
 cases us with
 |nil=>cases h
 |cons a t =>
   obtain⟨b,c,d,e,rfl⟩:=K4 (Nat.succ.inj h);exact⟨a,b,c,d,e,rfl⟩
def K6(h:us.length=6):∃a b c d e f,us=[a,b,c,d,e,f]:=by
 cases us with
 |nil=>cases h
 |cons a t =>
   obtain⟨b,c,d,e,f,rfl⟩:=K5 (Nat.succ.inj h);exact⟨a,b,c,d,e,f,rfl⟩
open PySem PySem.Spec PyProof.Rows L2 in
def BE{P:Program}{w:World}{K:Aj}{g:Str->Option Value}{l:Heap}{x e:Str}{st:Stmt}{f:Addr}{i:FuncData}{N ps:List Str}{k:Nat}{sp:Sp}(F:Bm K x e st f i)(m:g x=some (.ref f))(S:Ae N ps (AS st))(len:∀vs H Q E,sp vs H Q E->vs.length=ps.length)
  (u:∀(d:Value)(A:Around)(v:List Env)(s:Shared)(H:Hp)(vs:List V)(Q:VK)(E:XK),B3 k (A.deeper (envOfC e (AS st) s.heap.objs.size f d))->sp vs H Q E -> ∃t,Gv (AC IQ P w K g l N e (AS st) f d A v s H E).nox (II st) t/\t {nx:=λζ H'=>Q .non H',rt:=Q} (start N vs) H)
  (n:∀(kV r o:Value)(p:Option Addr)(d ct:Value)(us:List Value),us.length=ps.length->bindArgs (PySem.W.fnOf x e (KC st) (II st) (AS st) .none kV r o p d ct) ⟨us,[]⟩=pure (ps.zip us):=by intro _ _ _ _ _ _ us a;first|(obtain⟨_,rfl⟩:=Iu a;rfl)|(obtain⟨_,_,rfl⟩:=Iv a;rfl)|(obtain⟨_,_,_,rfl⟩:=K3 a;rfl)|(obtain⟨_,_,_,_,rfl⟩:=K4 a;rfl)|(obtain⟨_,_,_,_,_,rfl⟩:=K5 a;rfl)|(obtain⟨_,_,_,_,_,_,rfl⟩:=K6 a;rfl)):Br P w K g l x (k+1) ps sp:=⟨f,i,F.ok S len u,m,F.kp,F.binds n⟩
def OW(h:us.length=7):∃a b c d e f g,us=[a,b,c,d,e,f,g]:=by
 cases us with
 |nil=>cases h
 |cons a t =>
   obtain⟨b,c,d,e,f,g,rfl⟩:=K6 (Nat.succ.inj h);exact⟨a,b,c,d,e,f,g,rfl⟩
def XC(h:us.length=8):∃a b c d e f g i,us=[a,b,c,d,e,f,g,i]:=by
 cases us with
 |nil=>cases h
 |cons a t =>
   obtain⟨b,c,d,e,f,g,i,rfl⟩:=OW (Nat.succ.inj h);exact⟨a,b,c,d,e,f,g,i,rfl⟩
section
set_option maxHeartbeats 4000000
seal L2.PE L2.PA L2.PS L2.Gv L2.PT L2.PW L2.PC L2.PG L2.NN L2.PI L2.PF L2.Ji L2.Dr L2.PB L2.Bo L2.KI L2.IP L2.SJ L2.PO
variable {P:Program} {w:World} {K:Aj} {mg:Str->Option Value} {base:Heap} {f:Addr} {fd:FuncData}
def XD:(("abcdefghijklmnopqrstuvwxyz" : Str)).cps.toList.length=26:=by decide +kernel
def QH(w:Str)(c:Nat):(w++(⟨#[c]⟩:Str)).length=w.length+1:=by
 show(w.cps++#[c]).size=w.cps.size+1
 simp
def Mz:∀n,n<26->(("abcdefghijklmnopqrstuvwxyz" : Str)).cps.toList[n]?=some (97+n):=by decide +kernel
def XE(n:Int):Bi (("abcdefghijklmnopqrstuvwxyz" : Str)).cps.toList (n%26)=some (97+(n%26).toNat):=by
 have a:=Fe n (by decide:(26:Int)≠0);have c:=Fu n (by decide:(0:Int)<26);obtain⟨k,b⟩:=Cz a;rw[b,Bw];exact Bu (Mz k (by lia))
def fA(w:Str)(c:Nat):(w++(⟨#[c]⟩:Str)).cps.toList=w.cps.toList++[c]:=by
 show(w.cps++#[c]).toList=_
 simp
abbrev Hd (n:Int):Str:=⟨#[97+(n%26).toNat]⟩
def MA (c:Int) (k j:Nat):Int:=c/(64+3*(j:Int))+(j:Int)*(c/64%2)+(k:Int)*(if(j:Int)=c/8%(1+c%8) then 1 else 0)
def Fd (c:Int) (k:Nat):Nat->Str
 |0 => ""
 |j+1=>Fd c k j++Hd (MA c k j)
def Gr (c:Int) (m:Nat):List Str:=(List.range m).map λk=>Fd c k (1+c%8).toNat
def He (c:Int) (m:Nat):List Str:=if c/128%3=1/\1+c%8<8 then(Gr c m).set 1 (Fd c 0 (1+c%8).toNat++Hd (c/384)) else Gr c m
theorem Kd(c:Int)(k:Nat):∀j,(Fd c k j).length=j
 |0=>show("" : Str).length=0 by decide +kernel
 |j+1=>by
   show(Fd c k j++Hd (MA c k j)).length=j+1;rw[QH,Kd c k j]
theorem UC(c:Int)(k:Nat){a:Nat}:∀{j:Nat},a<j->(Fd c k j).cps.toList[a]?=some (97+(MA c k a%26).toNat)
 |0,h=>absurd h (Nat.not_lt_zero _)
 |j+1,h=>by
   show(Fd c k j++Hd (MA c k j)).cps.toList[a]?=_;rw[fA];have b:(Fd c k j).cps.toList.length=j:=by rw[Array.length_toList];exact Kd c k j
   by_cases d:a<j;rw[Ft (by rw[b];exact d)];exact UC c k d;have e:a=j:=(by lia);subst e;rw[FL (by rw[b];exact AI _),b,Nat.sub_self];rfl
def OX(c:Int)(m:Nat):(Gr c m).length=m:=by unfold Gr;rw[Ak,List.length_range]
def Nt(c:Int)(m:Nat):(He c m).length=m:=by
 unfold He;split;rw[Hj,OX];exact OX c m
variable {c:Int}
def MB{j:Nat}(l:i<26)(m:j<26)(h:Fd c i (1+c%8).toNat=Fd c j (1+c%8).toNat):i=j:=by
 have g:=Fe (c/8) (show(1+c%8)≠0 by lia);have n:=Fu (c/8) (show 0<1+c%8 by lia);obtain⟨a,k⟩:=Cz g;have f:a<(1+c%8).toNat:=(by lia);have e:=UC c i f;rw[h,UC c j f] at e;have d:=BJ e;unfold MA at d;rw[Ar k.symm] at d;generalize c/(64+3*(a:Int))+(a:Int)*(c/64%2)=b at d;lia
variable {m:Nat}
def Iw(d:m<=26):(Gr c m).Nodup:=by
 unfold Gr;refine List.pairwise_iff_getElem.mpr λi j a b f e=>?_;rw[Ak,List.length_range] at a b;rw[List.getElem_map,List.getElem_map,List.getElem_range,List.getElem_range] at e;have:=MB (by lia) (by lia) e;lia
def fB:∀y∈Gr c m,y.length=(1+c%8).toNat:=λy a=>by
 obtain⟨k,_,rfl⟩:=AN.mp a;exact Kd _ _ _
def fC(a:m<=26):(He c m).Nodup:=by
 unfold He;split;refine List.pairwise_iff_getElem.mpr λi j f g h e=>?_;rw[Hj,OX] at f g;have d:∀(k:Nat)(b:k<(Gr c m).length),(Gr c m)[k].length=(1+c%8).toNat:=λk b=>fB _ (DX b);rw[List.getElem_set,List.getElem_set] at e;split at e;rw[Ao (by lia)] at e;have:=BB Str.length e;rw[QH,Kd,d] at this;lia;split at e;have:=BB Str.length e;rw[QH,Kd,d] at this;lia;exact absurd e ((List.pairwise_iff_getElem.mp (Iw (c:=c) a)) i j _ _ h);exact Iw a
variable {k:Nat}
def fD:(Fd c k (1+c%8).toNat).length<=8:=by rw[Kd];lia
set_option tactic.hygienic true in
def K7:∀x∈He c m,x.length<=8:=by
 intro x a;unfold He at a
 have b:∀y∈Gr c m,y.length<=8:=λy d=>by
  obtain⟨k,_,rfl⟩:=AN.mp d;exact fD
 split at a;rename_i e;rcases List.mem_or_eq_of_mem_set a with h|rfl;exact b x h;rw[QH,Kd];lia;exact b x a
inductive DE (K:Aj) (vs:List V) (H:Hp) (Q:VK):Prop where
 |mk (c:Int) (m:Nat) (h0:vs=[.int c,.int m]) (h1:2<=m) (h2:m<=26) (h3:∀(L:Addr)(H':Hp),H L=none->Ac H H'->H' L=some (.lst ((He c m).map V.str))->Q (.ref L) H'):DE K vs H Q
def fE (K:Aj):Sp:=λvs H Q ζ=>DE K vs H Q
abbrev UD(P w K mg base):=Br P w K mg base "_law_names" 1 ["_law_cell", "_law_many"] (fE K)
theorem fF(B:Bt mg)(F:Bm K "_law_names" "_law_names" Rj f fd)(M:mg "_law_names" = some (.ref f)):UD P w K mg base:=by
 refine BE F M IX (λN H Q E h=>?_) (λae A ag s H N Q E hr h=>?_);obtain⟨c,m,rfl,_⟩:=h;rfl
 . obtain⟨c,m,rfl,m0,m9,q⟩:=h
   refine⟨_,(Am (AK (i:=2) IX.nd Bb)
    (Am (AK (i:=3) IX.nd (AB Hz Ah (AB Bq (pv 0) Ah)))
    (Am (AK (i:=4) IX.nd (AB Bq (AB Fg (pv 0) Ah) (pv 3)))
    (Am (AK (i:=5) IX.nd (Cb Ad))
    (Am (Ca B8 rfl (Jk rfl B.b_range (Ab (pv 1) Ad)) (Aw (i:=6) IX.nd) (Am (AK (i:=7) IX.nd Bb)
     (Am (Ca B8 rfl (Jk rfl B.b_range (Ab (pv 3) Ad)) (Aw (i:=8) IX.nd) (Am (AK (i:=9) IX.nd (AB Hz (AB Fg (pv 0) (AB Hz Ah (AB E9 Ah (pv 8)))) (AB E9 (pv 8) (AB Bq (AB Fg (pv 0) Ah) Ah))))
      (Au (AK (i:=7) IX.nd (AB Vv (pv 7) (As At (pv 2) (AB Bq (AB Hz (pv 9) (AB E9 (pv 6) (HF Sy B.b_int (Ab (IM BV (pv 8) (pv 4) (A9 _)) Ad)))) Ah)))))))
     (Au (Dp (Dj Dd EL EM EQ (pv 5) (Ab (pv 7) Ad)))))))
    (Am (A5 (PW.pt (Gx (Bl BV (AB Bq (AB Fg (pv 0) Ah) Ah) Ah (A9 _)) (Gw (Bl GI (pv 3) Ah (A9 _))))) (Au (D9 (AB Vv (As At (pv 5) Ah) (As At (pv 2) (AB Bq (AB Fg (pv 0) Ah) Ah))) (Hy (pv 5) Ah Yu))) A4)
    (Au (AH (pv 5))))))))),?_⟩
   rfl';refine S6 ?_;cbv;refine⟨(by show(0:Int)<8;decide),?_⟩;cbv;have z0:1<=1+c%8/\1+c%8<=8:=(by lia);refine⟨⟨by decide,by decide⟩,(by show 0<1+c%8;lia),?_⟩;cbv;refine⟨by decide,λL t=>?_⟩;obtain⟨aa,T,O,U⟩:=new_at (o:=.lst []) t;rw[<-T];refine⟨by lia,by lia,KH (lo:=0) (n:=m) (λi σ g=>∃u v a d,σ=[some (.int c),some (.int m),some (.str "abcdefghijklmnopqrstuvwxyz"),some (.int (1+c%8)),some (.int (c/8%(1+c%8))),some (.ref L),u,v,a,d]/\Ac H g/\g L=some (.lst ((Gr c i).map V.str))) ⟨none,none,none,none,rfl,O,U⟩ ?_ ?_⟩;rotate_left
   . refine λσ Y G=>AL λR r=>?_
     obtain⟨u,v,a,d,rfl,p,l⟩:=G;refine r ?_;clear r;cbv;refine IR (λσ' g=>σ'=[some (.int c),some (.int m),some (.str "abcdefghijklmnopqrstuvwxyz"),some (.int (1+c%8)),some (.int (c/8%(1+c%8))),some (.ref L),u,v,a,d]/\Ac H g/\g L=some (.lst ((He c m).map V.str))) ?_ (λab x=>?_)
     case refine_2 =>
      refine⟨⟨by decide,by decide⟩,(by show(0:Int)<3;decide),rfl,rfl,An (λy=>?_) (λy=>Bp ?_)⟩;rotate_left;have I:¬c/128%3=1:=λe=>y (AY (by show V.int (c/128%3)=V.int 1;rw[e]));refine x _ _ ⟨rfl,p,?_⟩;unfold He;rw[Ao λz=>I z.1];exact l;have I:c/128%3=1:=V.int.inj (A3 y);refine⟨rfl,An (λC=>?_) (λC=>?_)⟩;rotate_left;have J:¬1+c%8<8:=λe=>C (AY e);refine x _ _ ⟨rfl,p,?_⟩;unfold He;rw[Ao λz=>J z.2];exact l;have J:1+c%8<8:=A3 C;have hl:(Gr c m).length=m:=OX c m
      have W:(Gr c m)[0]?=some (Fd c 0 (1+c%8).toNat):=by
       unfold Gr;rw[AX,List.getElem?_range (by lia)];rfl
      have X:Bi ((Gr c m).map V.str) 0=some (V.str (Fd c 0 (1+c%8).toNat)):=Bu (j:=0) (by rw[AX,W];rfl);refine Or.inl ⟨_,.str (Fd c 0 (1+c%8).toNat),Af.of l,X,⟨by decide,by decide⟩,(by show(0:Int)<26;decide),Or.inr (Or.inr ⟨_,_,_,rfl,rfl,by decide +kernel,XE (c/384),Fd c 0 (1+c%8).toNat,_,rfl,rfl,?_,L,_,_,1,rfl,rfl,l,?_,?_⟩)⟩;show(Fd c 0 (1+c%8).toNat).length+1<=sizeLine;rw[Kd];exact CQ (BL (by lia));exact LN (k:=1) (by decide) (by rw[Ak];lia);refine x _ _ ⟨rfl,λb o e=>?_,?_⟩;rw[AE (AU e t)];exact p _ _ e;unfold He;rw[Aa,Ar ⟨I,J⟩,List.map_set]
     rintro σ' D ⟨rfl,S,Z⟩;exact q L D t S Z
   refine λi σ Y hi G=>AL λR r=>?_;obtain⟨u,v,a,d,rfl,p,l⟩:=G;refine r ?_;clear r;refine S6 ?_;cbv;refine⟨by lia,by lia,KH (lo:=0) (n:=(1+c%8).toNat) (λj σ g=>∃(a d:Option V),σ=[some (.int c),some (.int m),some (.str "abcdefghijklmnopqrstuvwxyz"),some (.int (1+c%8)),some (.int (c/8%(1+c%8))),some (.ref L),some (.int (0+(i:Int))),some (.str (Fd c i j)),a,d]/\g=Y) ⟨_,_,rfl,rfl⟩ ?_ ?_⟩;rotate_left;rintro σ D ⟨a,d,rfl,rfl⟩;refine⟨Or.inl ⟨rfl,_,Af.of l⟩,_,l,by rw[Ak,OX];exact BL (by lia),?_⟩;refine⟨_,_,_,_,rfl,λb o e=>?_,?_⟩;rw[AE (AU e t)];exact p _ _ e;rw[Aa];unfold Gr;rw[List.range_succ,A6,A6];rfl;rintro j σ D hj ⟨a,d,rfl,rfl⟩;have af:j<8:=(by lia);refine⟨Or.inl ⟨by lia,by lia⟩,⟨by lia,by lia⟩,⟨by decide,by decide⟩,(by show(0:Int)<2;decide),Or.inl ⟨by lia,by lia⟩,?_⟩;refine⟨rfl,Or.inr ⟨_,rfl,Or.inl ⟨by lia,by lia⟩,(by show(0:Int)<26;decide),Or.inr (Or.inr ⟨_,_,_,rfl,rfl,by decide +kernel,XE _,Fd c i j,_,rfl,rfl,?_,?_⟩)⟩⟩;show(Fd c i j).length+1<=sizeLine;rw[Kd];exact CQ (BL (by lia));refine⟨some (.int (0+(j:Int))),some (.int (c/(64+3*(0+(j:Int)))+(0+(j:Int))*(c/64%2))),?_,rfl⟩
   have e:Fd c i (j+1)=Fd c i j++Hd (c/(64+3*(0+(j:Int)))+(0+(j:Int))*(c/64%2)+(0+(i:Int))*(if decide (V.int (0+(j:Int))=V.int (c/8%(1+c%8)))=true then 1 else 0)):=by
    show Fd c i j++Hd (MA c i j)=_;unfold MA;simp only[Int.zero_add,decide_eq_true_eq,V.int.injEq]
   rw[e];rfl
variable {ns:List Int}
def fG{k:Int}(b:0<=k)(c:k<ns.length):Bi (ns.map V.int) k=some (V.int (Fk ns k)):=by
 obtain⟨n,rfl⟩:=Cz b;have a:n<ns.length:=(by lia);refine Bu ?_;rw[AX,AA a];show some (V.int ns[n])=some (V.int ((ns[((n:Int)).toNat]?).getD 0));rw[Bw,AA a];rfl
def fH{k:Int}(a:0<=k)(b:¬k<ns.length):Fk ns k=0:=by
 unfold Fk;rw[Hk (by lia)];rfl
def fI (K:Aj):Sp:=λvs H Q ζ=>∃a ns k,vs=[.ref a,.int k]/\0<=k/\Af K H a (ns.map V.int)/\Q (.int (Fk ns k)) H
abbrev OY(P w K mg base):=Br P w K mg base "_law_cell_at" 1 ["_law_script", "_law_k"] (fI K)
theorem fJ(B:Bt mg)(F:Bm K "_law_cell_at" "_law_cell_at" Rk f fd)(g:mg "_law_cell_at" = some (.ref f)):OY P w K mg base:=by
 refine BE F g eV (λi H Q E h=>?_) (λl A m s H i Q E j h=>?_);obtain⟨a,ns,k,rfl,_⟩:=h;rfl;obtain⟨a,ns,k,rfl,d,e,q⟩:=h
 refine⟨_,(Am (A5 (Bl GI (pv 1) (BP Ey B.b_len (Ab (pv 0) Ad)) (A9 _)) (Au (AH (As At (pv 0) (pv 1)))) A4)
  (Au (AH Ah))),?_⟩
 rfl';refine⟨_,Or.inl ⟨_,e,rfl⟩,rfl,?_⟩;rw[Ak];refine An (λb=>?_) (λc=>?_);have b:=A3 b;exact Or.inl ⟨_,_,e,fG d b,q⟩;have c:¬k<(ns.length:Int):=λz=>c (AY z);show Q (.int 0) H;rw[fH d c] at q;exact q
def OZ (n:Int):Nat->Int
 |0=>n
 |k+1=>OZ n k/5
def Hf (n:Int) (m:Nat):List Int:=(List.range m).map λk=>OZ n k%5
def QI(n:Int)(m:Nat):(Hf n m).length=m:=by unfold Hf;rw[Ak,List.length_range]
def fK(n:Int)(m:Nat):Hf n (m+1)=Hf n m++[OZ n m%5]:=by unfold Hf;rw[List.range_succ,A6];rfl
def UE(n:Int)(h:k<m):(Hf n m)[k]?=some (OZ n k%5):=by unfold Hf;rw[AX,List.getElem?_range h];rfl
inductive DF (K:Aj) (vs:List V) (H:Hp) (Q:VK):Prop where
 |mk (n:Int) (m:Nat) (h0:vs=[.int n,.int m]) (h1:m<=100) (h2:∀(D:Addr)(H':Hp),H D=none->Ac H H'->H' D=some (.lst ((Hf n m).map V.int))->Q (.ref D) H'):DF K vs H Q
def fL (K:Aj):Sp:=λvs H Q ζ=>DF K vs H Q
abbrev QJ(P w K mg base):=Br P w K mg base "_law_ranks" 1 ["_law_number", "_law_many"] (fL K)
theorem fM(B:Bt mg)(F:Bm K "_law_ranks" "_law_ranks" Rl f fd)(j:mg "_law_ranks" = some (.ref f)):QJ P w K mg base:=by
 refine BE F j QB (λl H Q E h=>?_) (λx A y s H l Q E u h=>?_);obtain⟨n,m,rfl,_⟩:=h;rfl
 . obtain⟨n,m,rfl,j,q⟩:=h
   refine⟨_,(Am (AK (i:=2) QB.nd (Cb Ad))
    (Am (Ca B8 rfl (Jk rfl B.b_range (Ab (pv 1) Ad)) (Aw (i:=3) QB.nd) (Am (Dp (Dj Dd EL EM EQ (pv 2) (Ab (AB Bq (pv 0) Ah) Ad)))
     (Au (AK (i:=0) QB.nd (AB Fg (pv 0) Ah)))))
    (Au (AH (pv 2))))),?_⟩
   rfl';refine⟨by decide,λD c=>?_⟩;obtain⟨U,r,p,t⟩:=new_at (o:=.lst []) c;rw[<-r];refine⟨by lia,by lia,KH (lo:=0) (n:=m) (λi σ k=>∃d,σ=[some (.int (OZ n i)),some (.int m),some (.ref D),d]/\Ac H k/\k D=some (.lst ((Hf n i).map V.int))) ⟨none,rfl,p,t⟩ ?_ ?_⟩;rotate_left;rintro σ Y ⟨d,rfl,g,a⟩;exact q D Y c g a;rintro i σ Y v ⟨d,rfl,g,a⟩;refine⟨Or.inl ⟨rfl,_,Af.of a⟩,(by show(0:Int)<5;decide),_,a,by rw[Ak,QI];exact BL (by lia),?_⟩;refine⟨⟨by decide,by decide⟩,?_⟩;refine⟨_,rfl,λb o e=>?_,?_⟩;rw[AE (AU e c)];exact g _ _ e;rw[Aa,fK,A6];rfl
def EY (ls:List Str) (one oth:List Int) (j k:Nat):A':=if one.getD j 0<one.getD k 0/\oth.getD j 0<oth.getD k 0 then[(ls.getD j default,ls.getD k default)] else[]
def Gc (ls:List Str) (one oth:List Int) (j n:Nat):A':=(List.range n).flatMap (EY ls one oth j)
def Fo (ls:List Str) (one oth:List Int) (n:Nat):A':=(List.range n).flatMap λj=>Gc ls one oth j ls.length
def QK(ls:List Str)(one a:List Int)(j n:Nat):Gc ls one a j (n+1)=Gc ls one a j n++EY ls one a j n:=by unfold Gc;rw[List.range_succ,List.flatMap_append];simp
def XF(ls:List Str)(one a:List Int)(n:Nat):Fo ls one a (n+1)=Fo ls one a n++Gc ls one a n ls.length:=by unfold Fo;rw[List.range_succ,List.flatMap_append];simp
def fN(ls:List Str)(one a:List Int)(j k:Nat):(EY ls one a j k).length<=1:=by unfold EY;split<;>simp
theorem UF(ls:List Str)(one a:List Int)(j:Nat):∀n,(Gc ls one a j n).length<=n
 |0=>AI _
 |n+1=>by
   rw[QK,AQ];have:=UF ls one a j n;have:=fN ls one a j n;lia
theorem QL(ls:List Str)(one a:List Int):∀n,(Fo ls one a n).length<=n*ls.length
 |0=>by simp[Fo]
 |n+1=>by
   rw[XF,AQ,Nat.succ_mul];have:=QL ls one a n;have:=UF ls one a n ls.length;lia
def GD (c:Int) (m:Nat):List Int:=Hf (c*48271%2147483647) m
def Gd (c:Int) (m:Nat):List Int:=if c%2=1 then Hf (c*69621%2147483629) m else GD c m
def XG(c:Int)(m:Nat):(GD c m).length=m:=QI _ _
def Ke(c:Int)(m:Nat):(Gd c m).length=m:=by unfold Gd;split;exact QI _ _;exact XG _ _
structure EZ (c:Int) (ls:List Str) (ord:A'):Prop where
 perm:ord.Perm (Fo ls (GD c ls.length) (Gd c ls.length) ls.length)
 srt:ord.Pairwise (BQ C6 C6).kle
variable {ls:List Str}{o:A'}
def EZ.uniq{u:A'}(h:EZ c ls o)(k:EZ c ls u):o=u:=Nf (O:=BQ C6 C6) (h.perm.trans k.perm.symm) h.srt k.srt
def EZ.len(h:EZ c ls o)(a:ls.length<=6):o.length<=36:=by
 have b:=h.perm.length_eq;have d:=QL ls (GD c ls.length) (Gd c ls.length) ls.length;have e:ls.length*ls.length<=6*6:=Nat.mul_le_mul a a;lia
set_option tactic.hygienic true in
def EZ.irr(h:EZ c ls o)(g:ls.Nodup)(x:Str):(x,x)∉o:=λi=>by
 have l:=h.perm.mem_iff.mp i;obtain⟨j,b,m⟩:=List.mem_flatMap.mp l;obtain⟨k,d,a⟩:=List.mem_flatMap.mp m;rw[List.mem_range] at b d;unfold EY at a;split at a;rename_i p;have e:=A7.mp a;have n:x=ls.getD j default:=BB Prod.fst e;have f:x=ls.getD k default:=BB Prod.snd e;rw[n,BW,BW,AA b,AA d] at f
 have:=(List.getElem_inj g).mp (show ls[j]=ls[k] from f)
 subst this;exact absurd p.1 (Int.lt_irrefl _);cases a
variable {x:Str}
set_option tactic.hygienic true in
def Ix{one d:List Int}{y:Str}(h:(x,y)∈Fo ls one d ls.length):∃j k,ls[j]?=some x/\ls[k]?=some y/\one.getD j 0<one.getD k 0/\d.getD j 0<d.getD k 0:=by
 obtain⟨j,b,i⟩:=List.mem_flatMap.mp h;obtain⟨k,c,a⟩:=List.mem_flatMap.mp i;rw[List.mem_range] at b c;unfold EY at a;split at a;rename_i l;have e:=A7.mp a;have f:x=ls.getD j default:=BB Prod.fst e;have g:y=ls.getD k default:=BB Prod.snd e;rw[BW,AA b] at f;rw[BW,AA c] at g;refine⟨j,k,?_,?_,l⟩;rw[AA b,f];rfl;rw[AA c,g];rfl;cases a
def MC{one a:List Int}{y:Str}{j:Nat}(b:ls[j]?=some x)(c:ls[k]?=some y)(h:one.getD j 0<one.getD k 0/\a.getD j 0<a.getD k 0):(x,y)∈Fo ls one a ls.length:=by
 refine List.mem_flatMap.mpr ⟨j,List.mem_range.mpr (Bh.mp b).1,List.mem_flatMap.mpr ⟨k,List.mem_range.mpr (Bh.mp c).1,?_⟩⟩;unfold EY;rw[Ar h,BW,BW,b,c];exact A7.mpr rfl
def EZ.tr(h:EZ c ls o)(b:ls.Nodup)(x y z:Str)(d:(x,y)∈o)(e:(y,z)∈o):(x,z)∈o:=by
 obtain⟨j,k,f,a,n,p⟩:=Ix (h.perm.mem_iff.mp d);obtain⟨g,l,i,m,q,r⟩:=Ix (h.perm.mem_iff.mp e);have:k=g:=(List.getElem?_inj (Bh.mp a).1 b).mp (a.trans i.symm);subst this;exact h.perm.mem_iff.mpr (MC f m ⟨by lia,by lia⟩)
def K8{xs:List Int}{v:Int}(h:xs[i]?=some v):xs.getD i 0=v:=by rw[BW,h];rfl
variable {xs:List Str}
def XH{v:Str}(h:xs[i]?=some v):xs.getD i default=v:=by rw[BW,h];rfl
inductive DG (K:Aj) (vs:List V) (H:Hp) (Q:VK):Prop where
 |mk (c:Int) (l:Addr) (ls:List Str) (h0:vs=[.int c,.ref l]) (h1:Af K H l (ls.map V.str)) (h2:ls.length<=6) (h3:∀(D:Addr)(ts:List Addr)(ord:A')(H':Hp),H D=none->Ac H H'->H' D=some (.lst (ts.map V.ref))->Cd H' ts ord->EZ c ls ord->Q (.ref D) H'):DG K vs H Q
def fO (K:Aj):Sp:=λvs H Q ζ=>DG K vs H Q
abbrev UG(P w K mg base):=Br P w K mg base "_law_order" 2 ["_law_cell", "_law_labels"] (fO K)
theorem fP(B:Bt mg)(ag:QJ P w K mg base)(F:Bm K "_law_order" "_law_order" Rm f fd)(hm:mg "_law_order" = some (.ref f)):UG P w K mg base:=by
 refine BE F hm Mq (λvs H a0 a3 h=>?_) (λaL aF aO aG H vs a0 a3 hr h=>?_);obtain⟨c,l,ls,rfl,_⟩:=h;rfl
 . obtain⟨c,l,ls,rfl,E,U,a4⟩:=h
   refine⟨_,(Am (AK (i:=2) Mq.nd (AR ag (Ab (AB Bq (AB E9 (pv 0) Ah) Ah) (Ab (BP Ey B.b_len (Ab (pv 1) Ad)) Ad))))
    (Am (AK (i:=3) Mq.nd (HF SN B.b_list (Ab (pv 2) Ad)))
    (Am (A5 (Bl BV (AB Bq (pv 0) Ah) Ah (A9 _)) (Au (AK (i:=3) Mq.nd (AR ag (Ab (AB Bq (AB E9 (pv 0) Ah) Ah) (Ab (BP Ey B.b_len (Ab (pv 1) Ad)) Ad))))) A4)
    (Am (AK (i:=4) Mq.nd (Cb Ad))
    (Am (Ca B8 rfl (Jk rfl B.b_range (Ab (BP Ey B.b_len (Ab (pv 1) Ad)) Ad)) (Aw (i:=5) Mq.nd) (Au (Ca B8 rfl (Jk rfl B.b_range (Ab (BP Ey B.b_len (Ab (pv 1) Ad)) Ad)) (Aw (i:=6) Mq.nd) (Au (A5 (PW.pt (Gx (Bl GI (As At (pv 2) (pv 5)) (As At (pv 2) (pv 6)) (A9 _)) (Gw (Bl GI (As At (pv 3) (pv 5)) (As At (pv 3) (pv 6)) (A9 _))))) (Au (Dp (Dj Dd EL EM EQ (pv 4) (Ab (Bd (Ab (As At (pv 1) (pv 5)) (Ab (As At (pv 1) (pv 6)) Ad))) Ad)))) A4)))))
    (Au (AH (BP (V5 Fl Fl) B.b_sorted (Ab (pv 4) Ad))))))))),?_⟩
   rfl';refine⟨Or.inr ⟨by decide,by decide⟩,(by show(0:Int)<2147483647;decide),_,Or.inl ⟨_,E,rfl⟩,_,_,rfl,by rw[Ak];lia,λy aH a8 s1 G=>?_⟩;rw[Ak] at G;refine A0 ?_;cbv;refine⟨y,_,rfl,Or.inl (Af.of G),λA2 ah=>?_⟩;obtain⟨aI,a9,J,e2⟩:=new_at (o:=.lst ((Hf (c*48271%2147483647) ls.length).map V.int)) ah;rw[<-a9];refine A0 ?_;cbv;have T:=s1.trans J;refine IR (λσ' b=>∃g,σ'=[some (.int c),some (.ref l),some (.ref y),some (.ref g),none,none,none]/\Ac H b/\b y=some (.lst ((GD c ls.length).map V.int))/\b g=some (.lst ((Gd c ls.length).map V.int))) ?_ (λaJ hN=>?_);rotate_left;refine⟨(by show(0:Int)<2;decide),rfl,rfl,An (λp=>?_) (λp=>?_)⟩;have aa:c%2=1:=V.int.inj (A3 p);refine⟨Or.inr ⟨by decide,by decide⟩,(by show(0:Int)<2147483629;decide),_,Or.inl ⟨_,T.seq E,rfl⟩,_,_,rfl,by rw[Ak];lia,λg H3 aM I e3=>?_⟩;rw[Ak] at e3;refine hN _ _ ⟨g,rfl,T.trans I,I _ _ (J _ _ G),?_⟩;unfold Gd;rw[Ar aa];exact e3;have aa:¬c%2=1:=λe=>p (AY (by show V.int (c%2)=V.int 1;rw[e]));refine hN _ _ ⟨A2,rfl,T,J _ _ G,?_⟩;unfold Gd;rw[Ao aa];exact e2;rintro σ' H3 ⟨g,rfl,I,ai,aj⟩;clear G e2 s1 J T a8 ah;refine⟨by decide,λD L=>?_⟩;obtain⟨W,aA,X,ak⟩:=new_at (o:=.lst []) L;rw[<-aA];refine A0 ?_;cbv;have ab:=I.trans X;have al:=I.free L;have l1:=XG c ls.length;have l2:=Ke c ls.length
   refine⟨_,Or.inl ⟨_,ab.seq E,rfl⟩,by lia,by rw[Ak];lia,KH (lo:=0) (n:=(ls.map V.str).length) (λj σ b=>∃Y r a,σ=[some (.int c),some (.ref l),some (.ref y),some (.ref g),some (.ref D),Y,r]/\Keeps (·=D) W b/\b D=some (.lst (a.map V.ref))/\Cd b a (Fo ls (GD c ls.length) (Gd c ls.length) j))
    ⟨none,none,[],rfl,Keeps.refl λx o m e=>by rw[m,ak] at e;exact⟨_,(BJ e).symm⟩,ak,Cd.nil⟩ ?_ ?_⟩
   rotate_left;refine λσ Z u=>AL λNz d=>?_;obtain⟨Y,r,a,rfl,M,ae,N⟩:=u;refine d ?_;clear d;rw[Ak] at N;obtain⟨zs,z1,z2,z3⟩:=Wp N
   have lz:zs.length<=36:=by
    have p:=BB List.length z2;rw[Ak] at p;have O:=QL ls (GD c ls.length) (Gd c ls.length) ls.length;have Q:ls.length*ls.length<=6*6:=Nat.mul_le_mul U U;lia
   refine⟨D,zs,rfl,Af.of (by rw[z1];exact ae),by lia,λz hz=>?_,λO2 af hp hw an=>?_⟩;obtain⟨t,a1,a2⟩:=z3 z hz;exact⟨t,a1,Al.of a2⟩;have ao:Ac H Z:=λaK o e=>M.at_ _ _ (ab _ _ e) (AU e al);have s6:=AW (o:=.lst (af.map (·.1))) an;obtain⟨aB,t1,t2⟩:=Wq (H:=Z) (zs:=af) λz hz=>z3 z (hp.mem_iff.mp hz);refine a4 O2 aB (af.map (·.2)) _ (ao.free an) (ao.trans s6) (by rw[Aa,t1]) (t2.same s6) ⟨?_,hw⟩;rw[<-z2];exact hp.map _;refine λj σ Z R u=>AL λNz d=>?_;obtain⟨Y,r,a,rfl,M,ae,N⟩:=u;refine d ?_;clear d;refine Hb ?_;intro Nx Cy;rw[Ak] at R;refine A0 ?_;cbv;have aq:∀{b:Hp},Keeps (·=D) W b->Ac H b:=λk x o e=>k.at_ _ _ (ab _ _ e) (AU e al);have aC:y≠D:=AU ai L;have aD:g≠D:=AU aj L
   refine⟨_,Or.inl ⟨_,(aq M).seq E,rfl⟩,by lia,by rw[Ak];lia,KH (lo:=0) (n:=(ls.map V.str).length) (λk σ b=>∃r a,σ=[some (.int c),some (.ref l),some (.ref y),some (.ref g),some (.ref D),some (.int (0+(j:Int))),r]/\Keeps (·=D) W b/\b D=some (.lst (a.map V.ref))/\Cd b a (Fo ls (GD c ls.length) (Gd c ls.length) j++Gc ls (GD c ls.length) (Gd c ls.length) j k))
    ⟨_,a,rfl,M,ae,by unfold Gc;simpa using N⟩ ?_ ?_⟩
   rotate_left;refine λσ H6 u=>AL λNz d=>?_;obtain⟨r,a,rfl,q,C,s⟩:=u;refine d ?_;clear d;rw[Ak] at s;exact⟨_,_,a,rfl,q,C,by rw[XF];exact s⟩;refine λk σ H6 S u=>AL λNz d=>?_;obtain⟨r,a,rfl,q,C,s⟩:=u;refine d ?_;clear d;refine Hb ?_;intro Nx Cy;rw[Ak] at S;refine A0 ?_;cbv
   have aN:a.length<=100:=by
    rw[s.len,AQ];have O:=QL ls (GD c ls.length) (Gd c ls.length) j;have Q:j*ls.length<=6*6:=Nat.mul_le_mul (by lia) U;have h4:=UF ls (GD c ls.length) (Gd c ls.length) j k;lia
   have ar:=q.at_ _ _ (X _ _ ai) aC;have au:=q.at_ _ _ (X _ _ aj) aD;have av:∀n,n<ls.length->∃v,(GD c ls.length)[n]?=some v/\Bi ((GD c ls.length).map V.int) (0+(n:Int))=some (.int v):=λn A=>⟨_,AA (by lia),by rw[Int.zero_add];exact Bu (by rw[AX,AA (by lia)];rfl)⟩;have aw:∀n,n<ls.length->∃v,(Gd c ls.length)[n]?=some v/\Bi ((Gd c ls.length).map V.int) (0+(n:Int))=some (.int v):=λn A=>⟨_,AA (by lia),by rw[Int.zero_add];exact Bu (by rw[AX,AA (by lia)];rfl)⟩;have ax:∀n,n<ls.length->∃v,ls[n]?=some v/\Bi (ls.map V.str) (0+(n:Int))=some (.str v):=λn A=>⟨_,AA A,by rw[Int.zero_add];exact Bu (by rw[AX,AA A];rfl)⟩;obtain⟨a1,p,a5⟩:=av j R;obtain⟨a2,O,a6⟩:=av k S;obtain⟨b1,Q,a7⟩:=aw j R;obtain⟨b2,h4,g4⟩:=aw k S;obtain⟨x1,h5,g5⟩:=ax j R;obtain⟨x2,h6,g6⟩:=ax k S
   have skip:¬(a1<a2/\b1<b2)->EY ls (GD c ls.length) (Gd c ls.length) j k=[]:=λA=>by
    unfold EY;rw[K8 p,K8 O,K8 Q,K8 h4,Ao A]
   refine Or.inl ⟨_,_,Af.of ar,a5,Or.inl ⟨_,_,Af.of ar,a6,rfl,An (λc1=>?_) (λc1=>Bp ?_)⟩⟩;rotate_left;refine⟨_,a,rfl,q,C,?_⟩;rw[QK,skip λz=>c1 (AY z.1),EK];exact s;refine Or.inl ⟨_,_,Af.of au,a7,Or.inl ⟨_,_,Af.of au,g4,rfl,An (λc2=>?_) (λc2=>?_)⟩⟩;rotate_left;refine⟨_,a,rfl,q,C,?_⟩;rw[QK,skip λz=>c2 (AY z.2),EK];exact s;have ay:=(aq q).seq E;refine⟨Or.inl ⟨rfl,_,Af.of C⟩,Or.inl ⟨_,.str x1,ay,g5,Or.inl ⟨_,.str x2,ay,g6,BK,λt ht=>?_⟩⟩⟩;obtain⟨H7,aE,s7,et⟩:=new_at (o:=.tup [.str x1,.str x2]) ht;rw[<-aE];have az:=s7 _ _ C;have k7:Keeps (·=D) H7 (upd H7 D (.lst (a.map V.ref++[.ref t]))):=Keeps.one az;refine⟨_,az,by rw[Ak];exact BL (by lia),?_⟩;refine⟨_,a++[t],rfl,(q.same s7).set rfl,by rw[Aa,A6];rfl,?_⟩
   have eP:EY ls (GD c ls.length) (Gd c ls.length) j k=[(x1,x2)]:=by
    unfold EY;rw[K8 p,K8 O,K8 Q,K8 h4,Ar ⟨A3 c1,A3 c2⟩,XH h5,XH h6]
   rw[QK,eP,<-FX];exact k7.tups ((s.same s7).snoc et)
def Ge (c:Int):List Int:=Hf (c*864691128455135233%2305843009213693951) 20
def Iy (ls:List Str) (n c:Int):Nat->List (Str×Int)
 |0=>[]
 |k+1=>Iy ls n c k++if 0<(Ge c).getD k 0 then[(ls.getD k default,(Ge c).getD (5+k) 0%n)] else[]
def I7 (ls:List Str) (c:Int):Nat->List Str
 |0=>[]
 |k+1=>I7 ls c k++if 0<(Ge c).getD (10+k) 0 then[ls.getD k default] else[]
theorem UH(ls:List Str)(n c:Int):∀k,(Iy ls n c k).length<=k
 |0=>AI _
 |k+1=>by
   have:=UH ls n c k;rw[Iy,AQ];split;rw[Ef];lia;rw[GX];lia
theorem UI(ls:List Str)(c:Int):∀k,(I7 ls c k).length<=k
 |0=>AI _
 |k+1=>by
   have:=UI ls c k;rw[I7,AQ];split;rw[Ef];lia;rw[GX];lia
theorem XI{ls:List Str}{n c:Int}(b:0<n):∀k,∀p∈Iy ls n c k,0<=p.2/\p.2<n
 |0,p,a=>by cases a
 |k+1,p,a=>by
   rw[Iy] at a;rcases BI.mp a with a|a;exact XI b k p a;split at a;rw[A7.mp a];exact⟨Fe _ (by lia),Fu _ b⟩;cases a
structure O0 (ls:List Str) (n c:Int) (s:Ce):Prop where
 pg:s.1.Perm (Iy ls n c 5)
 og:s.1.Pairwise (BQ C6 JC).kle
 pe:s.2.Perm (I7 ls c 5)
 oe:s.2.Pairwise C6.kle
variable {s:Ce}
def O0.uniq{n:Int}{u:Ce}(h:O0 ls n c s)(k:O0 ls n c u):s=u:=
 Prod.ext (Nf (O:=BQ C6 JC) (h.pg.trans k.pg.symm) h.og k.og) (Nf (O:=C6) (h.pe.trans k.pe.symm) h.oe k.oe)
structure O1 (cs:List Int) (ls:List Str) (sts:List Ce) (inn:Int) (ord:A'):Prop where
 len:sts.length=(1+cs.getD 0 0%3).toNat
 at_:∀(i:Nat)(s:Ce),sts[i]?=some s->O0 ls (1+cs.getD 0 0%3) (cs.getD (1+i) 0) s
 inn:inn=cs.getD 0 0/3%(1+cs.getD 0 0%3)
 ord:EZ (cs.getD 4 0) ls ord
def O1.uniq{c:List Int}{ls:List Str}{a:List Ce}{f:Int}{ord:A'}{b:List Ce}{g:Int}{j:A'}(h:O1 c ls a f ord)(k:O1 c ls b g j):a=b/\f=g/\ord=j:=by
 refine⟨List.ext_getElem? λi=>?_,h.inn.trans k.inn.symm,h.ord.uniq k.ord⟩;have l:=h.len.trans k.len.symm
 cases e:a[i]? with
 |none =>
   rw[List.getElem?_eq_none_iff] at e;exact(List.getElem?_eq_none_iff.mpr (by lia)).symm
 |some s =>
   have d:i<b.length:=by have:=(Bh.mp e).1;lia
   rw[AA d,(h.at_ i s e).uniq (k.at_ i _ (AA d))]
def O3{xs:List Int}{n:Nat}(h:n<xs.length):Bi (xs.map V.int) (n:Int)=some (.int (xs.getD n 0)):=by
 rw[BW,AA h];exact Bu (by rw[AX,AA h];rfl)
def fQ{n:Nat}(h:n<xs.length):Bi (xs.map V.str) (n:Int)=some (.str (xs.getD n default)):=by
 rw[BW,AA h];exact Bu (by rw[AX,AA h];rfl)
def Kf(c:Int):(Ge c).length=20:=QI _ _
inductive DH (K:Aj) (vs:List V) (H:Hp) (Q:VK):Prop where
 |mk (C L:Addr) (cs:List Int) (ls:List Str) (h0:vs=[.ref C,.ref L]) (h1:Af K H C (cs.map V.int)) (h2:cs.length=5) (h3:Af K H L (ls.map V.str)) (h4:ls.length=5) (h5:∀(t:Addr)(sts:List Ce)(inn:Int)(ord:A')(H':Hp),Ac H H'->FO K (λζ=>True) H' t sts inn ord->O1 cs ls sts inn ord->Q (.ref t) H'):DH K vs H Q
def fR (K:Aj):Sp:=λvs H Q ζ=>DH K vs H Q
abbrev UJ(P w K mg base):=Br P w K mg base "_law_table" 3 ["_law_cells", "_law_labels"] (fR K)
theorem fS (B:Bt mg) (aR:QJ P w K mg base) (aS:UG P w K mg base) (F:Bm K "_law_table" "_law_table" Rn f fd) (hm:mg "_law_table" = some (.ref f)):UJ P w K mg base:=by
 refine BE F hm Mr (λvs a6 aO aP h=>?_) (λbx bu b4 s a6 vs aO aP hr h=>?_);obtain⟨C,L,a,ls,rfl,_⟩:=h;rfl
 . obtain⟨C,L,a,ls,rfl,U,c5,hL,l5,aQ⟩:=h
   have z0:=Fe (a.getD 0 0) (by decide:(3:Int)≠0);have z1:=Fu (a.getD 0 0) (by decide:(0:Int)<3);obtain⟨m,ao⟩:∃m:Nat,(m:Int)=1+a.getD 0 0%3:=⟨(1+a.getD 0 0%3).toNat,by lia⟩;have m0:1<=m/\m<=3:=(by lia);have aq:Bi (a.map V.int) ((0:Nat):Int)=some (.int (a.getD 0 0)):=O3 (by lia)
   refine⟨_,(Am (AK (i:=2) Mr.nd (Cb Ad))
    (Am (Ca B8 rfl (Ct (VC VE (pv 0) (SI Ah) (SI (AB Hz Ah (AB Bq (As At (pv 0) Ah) Ah))))) (Aw (i:=3) Mr.nd) (Am (AK (i:=4) Mr.nd (AR aR (Ab (AB Bq (AB E9 (pv 3) Ah) Ah) (Ab Ah Ad))))
     (Am (AK (i:=5) Mr.nd (Cb Ad))
     (Am (AK (i:=6) Mr.nd (Cb Ad))
     (Am (Ca B8 rfl (Jk rfl B.b_range (Ab Ah Ad)) (Aw (i:=7) Mr.nd) (Am (A5 (Bl HC (As At (pv 4) (pv 7)) Ah (A9 _)) (Au (Dp (Dj Dd EL EM EQ (pv 5) (Ab (Bd (Ab (As At (pv 1) (pv 7)) (Ab (AB Bq (As At (pv 4) (AB Hz Ah (pv 7))) (AB Hz Ah (AB Bq (As At (pv 0) Ah) Ah))) Ad))) Ad)))) A4)
      (Au (A5 (Bl HC (As At (pv 4) (AB Hz Ah (pv 7))) Ah (A9 _)) (Au (Dp (Dj Dd EL EM EQ (pv 6) (Ab (As At (pv 1) (pv 7)) Ad)))) A4))))
     (Au (Dp (Dj Dd EL EM EQ (pv 2) (Ab (Bd (Ab (BP (V5 Fl JD) B.b_sorted (Ab (pv 5) Ad)) (Ab (BP Zc B.b_sorted (Ab (pv 6) Ad)) Ad))) Ad)))))))))
    (Au (AH (Bd (Ab (pv 2) (Ab (AB Bq (AB Fg (As At (pv 0) Ah) Ah) (BP Ey B.b_len (Ab (pv 2) Ad))) (Ab (AR aS (Ab (As At (pv 0) Ah) (Ab (pv 1) Ad))) Ad)))))))),?_⟩
   rfl';refine⟨by decide,λD a9=>?_⟩;obtain⟨bv,aT,s2,aA⟩:=new_at (o:=.lst []) a9;rw[<-aT];refine A0 ?_;cbv
   have bq:Fh (a.map V.int) (some 1) (some (2+a.getD 0 0%3))=((a.drop 1).take m).map V.int:=by
    rw[show(2+a.getD 0 0%3:Int)=((m+1:Nat):Int) by lia];exact(YW _ 1 (m+1) (by lia)).trans (by rw[show m+1-1=m by lia,<-List.map_drop,<-List.map_take])
   refine⟨_,rfl,Or.inl ⟨_,.int (a.getD 0 0),s2.seq U,aq,(by show(0:Int)<3;decide),_,rfl,C,_,rfl,s2.seq U,λp0 h0=>?_⟩⟩;rw[bq];obtain⟨H3,aU,s3,aB⟩:=new_at (o:=.lst (((a.drop 1).take m).map V.int)) h0;rw[<-aU];have aC:=s3 _ _ aA;have aV:p0≠D:=λz=>by rw[z,aA] at h0;cases h0
   have aW:=s2.trans s3;have a8:∀{b:Hp},Keeps (·=D) H3 b->Ac a6 b:=λk x o e=>k.at_ _ _ (aW _ _ e) (AU e a9);have aX:((a.drop 1).take m).length=m:=by rw[EJ,Ky];lia
   refine⟨⟨_,Af.of aB⟩,Eg (xs:=((a.drop 1).take m).map V.int) (λi σ b=>∃u3 u4 u5 u6 W us A,σ=[some (.ref C),some (.ref L),some (.ref D),u3,u4,u5,u6,W]/\Keeps (·=D) H3 b/\b D=some (.lst (us.map V.ref))/\AZ K (λζ=>True) b D us A/\A.length=i/\∀(j:Nat)(s:Ce),A[j]?=some s->O0 ls (m:Int) (a.getD (1+j) 0) s)
    ⟨none,none,none,none,none,[],[],rfl,Keeps.refl λx o m e=>by rw[m,aC] at e;exact⟨_,(BJ e).symm⟩,aC,AZ.nil,rfl,λj s h=>by simp at h⟩ (λi σ b ζ aY=>by obtain⟨_,_,_,_,_,_,_,_,k,_⟩:=aY;exact Af.of (k.at_ _ _ aB aV)) ?_ ?_⟩
   . refine λi y σ H4 hy E=>AL λNz g=>?_
     obtain⟨u3,u4,u5,u6,W,us,A,rfl,Y,aa,ab,M,ar⟩:=E;refine g ?_;clear g;refine Hb ?_;intro Nx Cy;obtain⟨c,hc,rfl⟩:=getm hy;have aZ:i<m:=by have:=(Bh.mp hc).1;lia
     have ec:a.getD (1+i) 0=c:=by
      rw[List.getElem?_take_of_lt aZ,List.getElem?_drop] at hc;rw[BW,hc];rfl
     refine A0 ?_;cbv;have N:=a8 Y;refine⟨Or.inr ⟨by decide,by decide⟩,(by show(0:Int)<2305843009213693951;decide),_,20,rfl,by decide,λX H5 hX Z Q=>?_⟩;have Q:H5 X=some (.lst ((Ge c).map V.int)):=Q;refine A0 ?_;cbv;refine⟨by decide,λq au=>?_⟩;obtain⟨H6,ba,R,aD⟩:=new_at (o:=.lst []) au;rw[<-ba];refine A0 ?_;cbv;refine⟨by decide,λE0 av=>?_⟩;have s7:=AW (o:=.lst []) av;have aw:(upd H6 E0 (.lst [])) E0=some (.lst []):=Aa;have ax:=s7 _ _ aD;generalize upd H6 E0 (.lst [])=H7 at s7 aw ax ⊢;refine A0 ?_;cbv;have bb:=R.trans s7;have aE:H5 E0=none:=R.free av;have aF:q≠E0:=AU aD av;have bz:X≠q:=AU Q au;have b0:X≠E0:=AU Q aE;have ay:∀{b:Hp},Keeps (λx=>x=q\/x=E0) H7 b->Ac H5 b:=λk x o e=>k.at_ _ _ (bb _ _ e) λz=>z.elim (AU e au) (AU e aE)
     have bc:∀x o,(x=q\/x=E0)->H7 x=some o->∃xs,o=HO.lst xs:=λx o m e=>by
      rcases m with rfl|rfl;rw[ax] at e;exact⟨_,(BJ e).symm⟩;rw[aw] at e;exact⟨_,(BJ e).symm⟩
     refine⟨by decide,by decide,KH (lo:=0) (n:=5) (λj σ b=>∃W l,σ=[some (.ref C),some (.ref L),some (.ref D),some (.int c),some (.ref X),some (.ref q),some (.ref E0),W]/\Keeps (λx=>x=q\/x=E0) H7 b/\b q=some (.lst (l.map V.ref))/\GT b l (Iy ls (m:Int) c j)/\b E0=some (.lst ((I7 ls c j).map V.str)))
      ⟨_,[],rfl,⟨λx o e ζ=>e,bc⟩,ax,GT.nil,aw⟩ ?_ ?_⟩
     . refine λj σ H8 I E=>AL λNz g=>?_
       obtain⟨bd,l,rfl,k8,ae,S,ah⟩:=E;refine g ?_;clear g;refine Hb ?_;intro Nx Cy;refine A0 ?_;cbv;have ai:=ay k8;have aG:=N.trans (Z.trans ai);have aH:=ai _ _ Q;have lr:=Kf c;have a1:Bi ((Ge c).map V.int) (0+(j:Int))=some (.int ((Ge c).getD j 0)):=by rw[Int.zero_add];exact O3 (by lia)
       have a2:Bi ((Ge c).map V.int) (5+(0+(j:Int)))=some (.int ((Ge c).getD (5+j) 0)):=by
        rw[show(5+(0+(j:Int)))=((5+j:Nat):Int) by lia];exact O3 (by lia)
       have a3:Bi ((Ge c).map V.int) (10+(0+(j:Int)))=some (.int ((Ge c).getD (10+j) 0)):=by
        rw[show(10+(0+(j:Int)))=((10+j:Nat):Int) by lia];exact O3 (by lia)
       have al:Bi (ls.map V.str) (0+(j:Int))=some (.str (ls.getD j default)):=by rw[Int.zero_add];exact fQ (by lia)
       have lG:=UH ls (m:Int) c j;have lE:=UI ls c j;have be:(l.map V.ref).length<sizeLine:=by rw[Ak,S.len];exact BL (by lia)
       have bf:((I7 ls c j).map V.str).length<sizeLine:=by rw[Ak];exact BL (by lia)
       refine IR (λσ' b=>∃l,σ'=[some (.ref C),some (.ref L),some (.ref D),some (.int c),some (.ref X),some (.ref q),some (.ref E0),some (.int (0+(j:Int)))]/\Keeps (λx=>x=q\/x=E0) H7 b/\b q=some (.lst (l.map V.ref))/\GT b l (Iy ls (m:Int) c (j+1))/\b E0=some (.lst ((I7 ls c j).map V.str))) ?_ (λbw hN=>?_);refine λσ' H9 E=>AL λNz g=>?_;obtain⟨l,rfl,k9,H,T9,aj⟩:=E;refine g ?_;clear g;have aI:=ay k9;refine Or.inl ⟨_,_,Af.of (aI _ _ Q),a3,rfl,An (λd=>?_) (λd=>?_)⟩;have J:0<(Ge c).getD (10+j) 0:=A3 d;refine⟨Or.inl ⟨rfl,_,Af.of aj⟩,Or.inl ⟨_,_,(N.trans (Z.trans aI)).seq hL,al,_,aj,bf,?_⟩⟩;refine⟨_,l,rfl,k9.set (.inr rfl),by rw[AE aF];exact H,T9.updL aj,?_⟩;rw[Aa,I7,Ar J,A6];rfl;have J:¬0<(Ge c).getD (10+j) 0:=λz=>d (AY z);refine⟨_,l,rfl,k9,H,T9,?_⟩;rw[I7,Ao J,EK];exact aj;refine Or.inl ⟨_,_,Af.of aH,a1,rfl,An (λd=>?_) (λd=>?_)⟩;rotate_left;have J:¬0<(Ge c).getD j 0:=λz=>d (AY z);refine hN _ _ ⟨l,rfl,k8,ae,?_,ah⟩;rw[Iy,Ao J,EK];exact S;have J:0<(Ge c).getD j 0:=A3 d;refine⟨Or.inl ⟨rfl,_,Af.of ae⟩,Or.inl ⟨_,_,aG.seq hL,al,Or.inl ⟨_,_,Af.of aH,a2,Or.inl ⟨_,.int (a.getD 0 0),aG.seq U,aq,(by show(0:Int)<3;decide),(by show 0<1+a.getD 0 0%3;lia),BK,λt ht=>?_⟩⟩⟩⟩;cbv;rw[<-ao];obtain⟨H9,bg,v,et⟩:=new_at (o:=.tup [.str (ls.getD j default),.int ((Ge c).getD (5+j) 0%m)]) ht;rw[<-bg];have H:=v _ _ ae;refine⟨_,H,be,?_⟩;refine hN _ _ ⟨l++[t],rfl,(k8.same v).set (.inl rfl),by rw[Aa,A6];rfl,?_,by rw[AE (Ne.symm aF)];exact v _ _ ah⟩;rw[Iy,Ar J];exact((S.same v).snoc (p:=(ls.getD j default,(Ge c).getD (5+j) 0%m)) et).updL H
     refine λσ H8 E=>AL λNz g=>?_;obtain⟨bd,l,rfl,k8,ae,S,ah⟩:=E;refine g ?_;clear g;have ai:=ay k8;have az:=Z.trans ai;have bh:Keeps (·=D) H3 H8:=⟨λx o e n=>az _ _ (Y.at_ x o e n),Y.ls⟩;have ak:=az _ _ aa;have lG:=UH ls (m:Int) c 5;have lE:=UI ls c 5;obtain⟨zs,z1,z2,z3⟩:=Tj (K:=K) S.len S.at_;have b1:zs.length=(Iy ls (m:Int) c 5).length:=(by rw[<-z2,Ak]);refine⟨Or.inl ⟨rfl,_,Af.of ak⟩,q,zs,rfl,Af.of (by rw[z1];exact ae),by lia,z3,λG u hp hw hG=>?_⟩;have v:=AW (o:=.lst (u.map (·.1))) hG;have H:(upd H8 G (.lst (u.map (·.1)))) G=some (.lst (u.map (·.1))):=Aa
     have aJ:∀z∈u,PY K (upd H8 G (.lst (u.map (·.1)))) z:=λz hz=>by
      obtain⟨t,a1,a2⟩:=z3 z (hp.mem_iff.mp hz);exact⟨t,a1,v.seqT a2⟩
     generalize upd H8 G (.lst (u.map (·.1)))=H9 at v H aJ ⊢;refine⟨E0,I7 ls c 5,rfl,Af.of (v _ _ ah),by lia,λT O bi bj a0=>?_⟩;have af:=AW (o:=.lst (O.map V.str)) a0;have aM:(upd H9 T (.lst (O.map V.str))) T=some (.lst (O.map V.str)):=Aa
     have z4:∀z∈u,PY K (upd H9 T (.lst (O.map V.str))) z:=λz hz=>by
      obtain⟨t,a1,a2⟩:=aJ z hz;exact⟨t,a1,af.seqT a2⟩
     generalize upd H9 T (.lst (O.map V.str))=b2 at af aM z4 ⊢;refine⟨BK,λa7 hu=>?_⟩;obtain⟨bk,br,ag,eu⟩:=new_at (o:=.tup [.ref G,.ref T]) hu;rw[<-br];have a5:=(v.trans af).trans ag;have aN:=a5 _ _ ak;have nG:G≠D:=λy=>by rw[y,ak] at hG;cases hG
     have nE:T≠D:=λy=>by rw[y,v _ _ ak] at a0;cases a0
     have gG:C7 K bk G (u.map (·.2)):=⟨_,Af.of ((af.trans ag) _ _ H),(Tk u z4).same ag⟩;refine⟨_,aN,by rw[Ak,ab.len,M];exact BL (by lia),?_⟩;have bs:=((ab.same (az.trans a5)).snoc (r:=(u.map (·.2),O)) eu gG ((af.trans ag) _ _ H) (ag _ _ aM) nG nE True.intro True.intro).updL (o:=.lst (us.map V.ref++[.ref a7])) aN;refine⟨_,_,_,_,_,us++[a7],A++[(u.map (·.2),O)],rfl,(bh.same a5).set rfl,by rw[Aa,A6];rfl,bs,by rw[AQ,M];rfl,λj s I=>?_⟩;rcases Nat.lt_or_ge j A.length with bl|b3;rw[Ft bl] at I;exact ar j s I
     have aK:j=A.length:=by
      have:=(Bh.mp I).1;rw[AQ,Ef] at this;lia
     rw[aK,List.getElem?_concat_length] at I;rw[<-BJ I,aK,M,ec];exact⟨by rw[<-z2];exact hp.map _,hw,bi,bj⟩
   refine λσ H4 E=>AL λNz g=>?_;obtain⟨u3,u4,u5,u6,W,us,A,rfl,Y,aa,ab,M,ar⟩:=E;refine g ?_;clear g;rw[Ak,aX] at M;have N:=a8 Y;have bm:Bi (a.map V.int) ((4:Nat):Int)=some (.int (a.getD 4 0)):=O3 (by lia);have aL:(us.map V.ref).length=m:=(by rw[Ak,ab.len,M]);refine Or.inl ⟨_,.int (a.getD 0 0),N.seq U,aq,⟨by decide,by decide⟩,_,Or.inl ⟨_,Af.of aa,rfl⟩,(by rw[aL];lia),Or.inl ⟨_,.int (a.getD 4 0),N.seq U,bm,_,L,ls,rfl,N.seq hL,by lia,λan bn bo H5 hO Z eO TO bt=>?_⟩⟩;rw[aL];refine⟨JI,λt ht=>?_⟩;have R:=AW (o:=.tup [.ref D,.int (a.getD 0 0/3%m),.ref an]) ht;have bp:D≠an:=λy=>by rw[<-y,aa] at hO;cases hO
   have a4:=Z.trans R;refine aQ t A (a.getD 0 0/3%m) bo _ (N.trans a4) ⟨D,an,us,bn,Aa,True.intro,True.intro,bp,a4 _ _ aa,ab.same a4,R _ _ eO,TO.same R⟩ ⟨by rw[M];lia,λj s I=>by rw[<-ao];exact ar j s I,by rw[ao],bt⟩
abbrev GV (c:Int):Int:=c*48271%65521
def GF (ns:List Str) (c:Int):List Str:=[ns.getD (GV c%3).toNat default]++if GV c/3%2=1 then[ns.getD (GV c/6%3).toNat default] else[]
def K9 (ns:List Str) (c:Int):List Str:=GF ns c++if GV c/18%4=3 then[ns.getD (GV c/72%3).toNat default] else[]
def DI (ns:List Str) (m s c:Int):Qu:=(c*16807%65519%m,c*69621%65497%s,K9 ns c)
def Kg(ns:List Str)(c:Int):1<=(K9 ns c).length/\(K9 ns c).length<=3:=by
 unfold K9 GF;split<;>split<;>simp
def UK{i:Int}(b:0<=i)(c:i<xs.length):Bi (xs.map V.str) i=some (.str (xs.getD i.toNat default)):=by
 obtain⟨n,rfl⟩:=Cz b;have a:n<xs.length:=(by lia);rw[Bw,BW,AA a];exact Bu (by rw[AX,AA a];rfl)
def Kh:([]:List V).length+1+1+1<=sizeLine:=by decide
def Hg(x:Int):0<=x%3/\x%3<3:=⟨Fe _ (by decide),Fu _ (by decide)⟩
inductive Cq (K:Aj) (vs:List V) (H:Hp) (Q:VK):Prop where
 |mk (c:Int) (N:Addr) (ns:List Str) (m s:Nat) (h0:vs=[.int c,.int m,.int s,.ref N]) (h1:Af K H N (ns.map V.str)) (h2:ns.length=3) (h3:1<=m) (h4:1<=s) (h5:∀(p u:Addr)(H':Hp),Ac H H'->H' p=some (.tup [.int (DI ns m s c).1,.int (DI ns m s c).2.1,.ref u])->H' u=some (.tup ((DI ns m s c).2.2.map V.str))->Q (.ref p) H'):Cq K vs H Q
def fT (K:Aj):Sp:=λvs H Q ζ=>Cq K vs H Q
abbrev UL(P w K mg base):=Br P w K mg base "_law_question" 1 ["_law_cell", "_law_many", "_law_states", "_law_names_here"] (fT K)
theorem fU(B:Bt mg)(F:Bm K "_law_question" "_law_question" Ro f fd)(z:mg "_law_question" = some (.ref f)):UL P w K mg base:=by
 refine BE F z Uu (λC H Q E h=>?_) (λaa A ab s H C Q E T h=>?_);obtain⟨c,N,ns,m,Z,rfl,_⟩:=h;rfl
 . obtain⟨c,N,ns,m,Z,rfl,j,W,X,h2,q⟩:=h
   refine⟨_,(Am (AK (i:=4) Uu.nd (AB Bq (AB E9 (pv 0) Ah) Ah))
    (Am (AK (i:=5) Uu.nd (Cb (Ab (As At (pv 3) (AB Bq (pv 4) Ah)) Ad)))
    (Am (A5 (Bl BV (AB Bq (AB Fg (pv 4) Ah) Ah) Ah (A9 _)) (Au (Dp (Dj Dd EL EM EQ (pv 5) (Ab (As At (pv 3) (AB Bq (AB Fg (pv 4) Ah) Ah)) Ad)))) A4)
    (Am (A5 (Bl BV (AB Bq (AB Fg (pv 4) Ah) Ah) Ah (A9 _)) (Au (Dp (Dj Dd EL EM EQ (pv 5) (Ab (As At (pv 3) (AB Bq (AB Fg (pv 4) Ah) Ah)) Ad)))) A4)
    (Au (AH (Bd (Ab (AB Bq (AB Bq (AB E9 (pv 0) Ah) Ah) (pv 1)) (Ab (AB Bq (AB Bq (AB E9 (pv 0) Ah) Ah) (pv 2)) (Ab (HF Yx B.b_tuple (Ab (pv 5) Ad)) Ad)))))))))),?_⟩
   rfl';refine⟨Or.inr ⟨by decide,by decide⟩,(by show(0:Int)<65521;decide),?_⟩;refine A0 ?_;cbv;refine⟨(by show(0:Int)<3;decide),Or.inl ⟨_,_,j,UK (Hg _).1 (by have:=(Hg (c*48271%65521)).2;lia),IS,λP t=>?_⟩⟩;obtain⟨U,O,k,l⟩:=new_at (o:=.lst [.str (ns.getD (GV c%3).toNat default)]) t;rw[<-O];refine A0 ?_;cbv;have y:∀x o,H x=some o->x≠P:=λx o e=>AU e t;refine IR (λσ' d=>σ'=[some (.int c),some (.int m),some (.int Z),some (.ref N),some (.int (GV c)),some (.ref P)]/\Ac H d/\d P=some (.lst ((GF ns c).map V.str))) ?_ (λD g=>?_);rotate_left;refine⟨⟨by decide,by decide⟩,(by show(0:Int)<2;decide),rfl,rfl,An (λa=>?_) (λa=>?_)⟩;have b:GV c/3%2=1:=V.int.inj (A3 a);refine⟨Or.inl ⟨rfl,_,Af.of l⟩,⟨by decide,by decide⟩,(by show(0:Int)<3;decide),Or.inl ⟨_,_,k.seq j,UK (Hg _).1 (by have:=(Hg (c*48271%65521/6)).2;lia),_,l,BL (by show 1<=1000;decide),g _ _ ⟨rfl,λx o e=>?_,?_⟩⟩⟩;rw[AE (y x o e)];exact k _ _ e;rw[Aa];unfold GF;rw[Ar b];rfl;have b:¬GV c/3%2=1:=λe=>a (AY (by show V.int (GV c/3%2)=V.int 1;rw[e]));refine g _ _ ⟨rfl,k,?_⟩;unfold GF;rw[Ao b];exact l;rintro σ' Y ⟨rfl,n,r⟩;refine IR (λσ' d=>σ'=[some (.int c),some (.int m),some (.int Z),some (.ref N),some (.int (GV c)),some (.ref P)]/\Ac H d/\d P=some (.lst ((K9 ns c).map V.str))) ?_ (λD g=>?_);rotate_left;have l2:(GF ns c).length<=2:=by unfold GF;split<;>simp
   refine⟨⟨by decide,by decide⟩,(by show(0:Int)<4;decide),rfl,rfl,An (λa=>?_) (λa=>?_)⟩;have b:GV c/18%4=3:=V.int.inj (A3 a);refine⟨Or.inl ⟨rfl,_,Af.of r⟩,⟨by decide,by decide⟩,(by show(0:Int)<3;decide),Or.inl ⟨_,_,n.seq j,UK (Hg _).1 (by have:=(Hg (c*48271%65521/72)).2;lia),_,r,BL (by rw[Ak];lia),g _ _ ⟨rfl,λx o e=>?_,?_⟩⟩⟩;rw[AE (y x o e)];exact n _ _ e;rw[Aa];unfold K9;rw[Ar b,A6];rfl;have b:¬GV c/18%4=3:=λe=>a (AY (by show V.int (GV c/18%4)=V.int 3;rw[e]));refine g _ _ ⟨rfl,n,?_⟩;unfold K9;rw[Ao b,EK];exact r;rintro σ' H3 ⟨rfl,G,R⟩;refine⟨Or.inr ⟨by decide,by decide⟩,(by show(0:Int)<65519;decide),(by show(0:Int)<m;lia),Or.inr ⟨by decide,by decide⟩,(by show(0:Int)<65497;decide),(by show(0:Int)<Z;lia),P,_,rfl,Or.inl ⟨Af.of R,λu I=>?_⟩⟩;obtain⟨H4,S,J,L⟩:=new_at (o:=.tup ((K9 ns c).map V.str)) I;rw[<-S];refine⟨Kh,λp M=>?_⟩;have v:=AW (o:=.tup [.int (c*16807%65519%m),.int (c*69621%65497%Z),.ref u]) M;exact q p u _ ((G.trans J).trans v) Aa (v _ _ L)
def MD (m a c:Int):Str×Int:=if c*69621%65497%4=0 then("plain",0) else if c*69621%65497%4=1 then("sort",c*48271%65521%a) else("part",c*48271%65521%m)
variable {a:Nat}
def ME(b:1<=m)(d:1<=a)(c:Int):F5 m a (MD m a c):=by
 unfold MD F5;split;exact .inl ⟨rfl,rfl⟩;split;exact .inr (.inr ⟨rfl,Fe _ (by lia),Fu _ (by lia)⟩);exact .inr (.inl ⟨rfl,Fe _ (by lia),Fu _ (by lia)⟩)
inductive DJ (K:Aj) (vs:List V) (H:Hp) (Q:VK):Prop where
 |mk (c:Int) (m a:Nat) (h0:vs=[.int c,.int m,.int a]) (h1:1<=m) (h2:1<=a) (h3:∀(p:Addr)(H':Hp),H p=none->Ac H H'->H' p=some (.tup [.str (MD m a c).1,.int (MD m a c).2])->Q (.ref p) H'):DJ K vs H Q
def fV (K:Aj):Sp:=λvs H Q ζ=>DJ K vs H Q
abbrev UM(P w K mg base):=Br P w K mg base "_law_thing" 1 ["_law_cell", "_law_many", "_law_asked_here"] (fV K)
def fW(B:Bt mg)(F:Bm K "_law_thing" "_law_thing" Rp f fd)(o:mg "_law_thing" = some (.ref f)):UM P w K mg base:=by
 refine BE F o Xw (λr H Q E h=>?_) (λy A z s H r Q E u h=>?_);obtain⟨c,m,a,rfl,_⟩:=h;rfl;obtain⟨c,m,a,rfl,v,x,q⟩:=h
 refine⟨_,(Am (AK (i:=3) Xw.nd (AB Bq (AB E9 (pv 0) Ah) Ah))
  (Am (A5 (Bl BV (AB Bq (pv 3) Ah) Ah (A9 _)) (Au (AH (Bd (Ab Bb (Ab Ah Ad))))) A4)
  (Am (A5 (Bl BV (AB Bq (pv 3) Ah) Ah (A9 _)) (Au (AH (Bd (Ab Bb (Ab (AB Bq (AB Bq (AB E9 (pv 0) Ah) Ah) (pv 2)) Ad))))) A4)
  (Au (AH (Bd (Ab Bb (Ab (AB Bq (AB Bq (AB E9 (pv 0) Ah) Ah) (pv 1)) Ad)))))))),?_⟩
 rfl';refine⟨Or.inr ⟨by decide,by decide⟩,(by show(0:Int)<65497;decide),?_⟩;have j:∀k,MD m a c=k->∀p,H p=none->Q (.ref p) (upd H p (.tup [.str k.1,.int k.2])):=λk t p n=>q p _ n (AW n) (by rw[Aa,<-t]);refine⟨(by show(0:Int)<4;decide),rfl,rfl,An (λd=>?_) (λd=>?_)⟩;have b:c*69621%65497%4=0:=V.int.inj (A3 d);exact⟨BK,j (("plain" : Str),0) (Ar b)⟩;have b:¬c*69621%65497%4=0:=λe=>d (AY (by show V.int (c*69621%65497%4)=V.int 0;rw[e]));refine⟨(by show(0:Int)<4;decide),rfl,rfl,An (λg=>?_) (λg=>?_)⟩;have l:c*69621%65497%4=1:=V.int.inj (A3 g);exact⟨Or.inr ⟨by decide,by decide⟩,(by show(0:Int)<65521;decide),(by show(0:Int)<a;lia),BK,j (("sort" : Str),c*48271%65521%a) ((Ao b).trans (Ar l))⟩;have l:¬c*69621%65497%4=1:=λe=>g (AY (by show V.int (c*69621%65497%4)=V.int 1;rw[e]));exact⟨Or.inr ⟨by decide,by decide⟩,(by show(0:Int)<65521;decide),(by show(0:Int)<m;lia),BK,j (("part" : Str),c*48271%65521%m) ((Ao b).trans (Ao l))⟩
def MF (m a c:Int):Str×Int:=if c*69621%65497%2=0 then("by",c*16807%65519%a) else("to",c*16807%65519%m)
def QM (ls:List Str) (m a c:Int):CA:=(ls.getD (c*48271%65521%5).toNat default,MF m a c)
def MG(b:1<=m)(d:1<=a)(ls:List Str)(c:Int):F6 m a (QM ls m a c):=by
 unfold QM F6 MF;dsimp only;split;exact .inr ⟨rfl,Fe _ (by lia),Fu _ (by lia)⟩;exact .inl ⟨rfl,Fe _ (by lia),Fu _ (by lia)⟩
def fX{i:Int}(b:0<=i)(c:i<xs.length):Bi (xs.map V.str) i=some (.str (xs.getD i.toNat default)):=by
 obtain⟨n,rfl⟩:=Cz b;have a:n<xs.length:=(by lia);rw[Bw,BW,AA a];exact Bu (by rw[AX,AA a];rfl)
def XJ:([]:List V).length+1+1+1<=sizeLine:=by decide
inductive Ek (K:Aj) (vs:List V) (H:Hp) (Q:VK):Prop where
 |mk (c:Int) (L:Addr) (ls:List Str) (m a:Nat) (h0:vs=[.int c,.ref L,.int m,.int a]) (h1:Af K H L (ls.map V.str)) (h2:ls.length=5) (h3:1<=m) (h4:1<=a) (h5:∀(p:Addr)(H':Hp),H p=none->Ac H H'->H' p=some (.tup (G7 (QM ls m a c)))->Q (.ref p) H'):Ek K vs H Q
def fY (K:Aj):Sp:=λvs H Q ζ=>Ek K vs H Q
abbrev UN(P w K mg base):=Br P w K mg base "_law_step" 1 ["_law_cell", "_law_labels", "_law_many", "_law_asked_here"] (fY K)
def fZ(B:Bt mg)(F:Bm K "_law_step" "_law_step" Rq f fd)(l:mg "_law_step" = some (.ref f)):UN P w K mg base:=by
 refine BE F l Uv (λn H Q E h=>?_) (λC A D s H n Q E u h=>?_);obtain⟨c,L,ls,m,a,rfl,_⟩:=h;rfl;obtain⟨c,L,ls,m,a,rfl,o,v,x,y,q⟩:=h;have r:=Fe (c*48271%65521) (by decide:(5:Int)≠0);have z:=Fu (c*48271%65521) (by decide:(0:Int)<5)
 refine⟨_,(Am (AK (i:=4) Uv.nd (As At (pv 1) (AB Bq (AB Bq (AB E9 (pv 0) Ah) Ah) Ah)))
  (Am (AK (i:=5) Uv.nd (AB Bq (AB E9 (pv 0) Ah) Ah))
  (Am (A5 (Bl BV (AB Bq (pv 5) Ah) Ah (A9 _)) (Au (AH (Bd (Ab (pv 4) (Ab Bb (Ab (AB Bq (AB Bq (AB E9 (pv 0) Ah) Ah) (pv 3)) Ad)))))) A4)
  (Au (AH (Bd (Ab (pv 4) (Ab Bb (Ab (AB Bq (AB Bq (AB E9 (pv 0) Ah) Ah) (pv 2)) Ad))))))))),?_⟩
 rfl';refine⟨Or.inr ⟨by decide,by decide⟩,(by show(0:Int)<65521;decide),(by show(0:Int)<5;decide),Or.inl ⟨_,_,o,fX r (by lia),?_⟩⟩;refine⟨Or.inr ⟨by decide,by decide⟩,(by show(0:Int)<65497;decide),?_⟩;have j:∀k,MF m a c=k->∀p,H p=none->Q (.ref p) (upd H p (.tup [.str (ls.getD (c*48271%65521%5).toNat default),.str k.1,.int k.2])):=λk t p g=>q p _ g (AW g) (by rw[Aa,<-t];rfl);refine⟨(by show(0:Int)<2;decide),rfl,rfl,An (λb=>?_) (λb=>?_)⟩;have d:c*69621%65497%2=0:=V.int.inj (A3 b);exact⟨Or.inr ⟨by decide,by decide⟩,(by show(0:Int)<65519;decide),(by show(0:Int)<a;lia),XJ,j (("by" : Str),c*16807%65519%a) (Ar d)⟩;have d:¬c*69621%65497%2=0:=λe=>b (AY (by show V.int (c*69621%65497%2)=V.int 0;rw[e]));exact⟨Or.inr ⟨by decide,by decide⟩,(by show(0:Int)<65519;decide),(by show(0:Int)<m;lia),XJ,j (("to" : Str),c*16807%65519%m) (Ao d)⟩
def MH (t a c:Int):Str×Int:=if c*69621%65497%3=0 then("by",c*16807%65519%a) else("thing",c*16807%65519%t)
def QN (ns ls:List Str) (t a c:Int):DZ:=(ls.getD (c*48271%65521%5).toNat default,ns.getD (c*69621%65497/3%3).toNat default,MH t a c)
def MI{t:Nat}(b:1<=t)(d:1<=a)(ns ls:List Str)(c:Int):ET t a (QN ns ls t a c):=by
 unfold QN ET MH;dsimp only;split;exact .inr ⟨rfl,Fe _ (by lia),Fu _ (by lia)⟩;exact .inl ⟨rfl,Fe _ (by lia),Fu _ (by lia)⟩
def XM{i:Int}(b:0<=i)(c:i<xs.length):Bi (xs.map V.str) i=some (.str (xs.getD i.toNat default)):=by
 obtain⟨n,rfl⟩:=Cz b;have a:n<xs.length:=(by lia);rw[Bw,BW,AA a];exact Bu (by rw[AX,AA a];rfl)
def Iz:([]:List V).length+1+1+1+1<=sizeLine:=by decide
inductive CJ (K:Aj) (vs:List V) (H:Hp) (Q:VK):Prop where
 |mk (c:Int) (L N:Addr) (ls ns:List Str) (t a:Nat) (h0:vs=[.int c,.ref L,.ref N,.int t,.int a]) (h1:Af K H L (ls.map V.str)) (h2:ls.length=5) (h3:Af K H N (ns.map V.str)) (h4:ns.length=3) (h5:1<=t) (h6:1<=a) (h7:∀(p:Addr)(H':Hp),H p=none->Ac H H'->H' p=some (.tup (Ea (QN ns ls t a c)))->Q (.ref p) H'):CJ K vs H Q
def f0 (K:Aj):Sp:=λvs H Q ζ=>CJ K vs H Q
abbrev UO(P w K mg base):=Br P w K mg base "_law_telling" 1 ["_law_cell", "_law_labels", "_law_names_here", "_law_things", "_law_asked_here"] (f0 K)
def f5(B:Bt mg)(F:Bm K "_law_telling" "_law_telling" Rr f fd)(l:mg "_law_telling" = some (.ref f)):UO P w K mg base:=by
 refine BE F l QC (λm H Q E h=>?_) (λJ A M s H m Q E x h=>?_);obtain⟨c,L,N,ls,ns,t,a,rfl,_⟩:=h;rfl;obtain⟨c,L,N,ls,ns,t,a,rfl,n,y,o,z,C,D,q⟩:=h;have r:=Fe (c*48271%65521) (by decide:(5:Int)≠0);have G:=Fu (c*48271%65521) (by decide:(0:Int)<5);have u:=Fe (c*69621%65497/3) (by decide:(3:Int)≠0);have I:=Fu (c*69621%65497/3) (by decide:(0:Int)<3)
 refine⟨_,(Am (AK (i:=5) QC.nd (As At (pv 1) (AB Bq (AB Bq (AB E9 (pv 0) Ah) Ah) Ah)))
  (Am (AK (i:=6) QC.nd (AB Bq (AB E9 (pv 0) Ah) Ah))
  (Am (AK (i:=7) QC.nd (As At (pv 2) (AB Bq (AB Fg (pv 6) Ah) Ah)))
  (Am (A5 (Bl BV (AB Bq (pv 6) Ah) Ah (A9 _)) (Au (AH (Bd (Ab (pv 5) (Ab (pv 7) (Ab Bb (Ab (AB Bq (AB Bq (AB E9 (pv 0) Ah) Ah) (pv 4)) Ad))))))) A4)
  (Au (AH (Bd (Ab (pv 5) (Ab (pv 7) (Ab Bb (Ab (AB Bq (AB Bq (AB E9 (pv 0) Ah) Ah) (pv 3)) Ad))))))))))),?_⟩
 rfl';refine⟨Or.inr ⟨by decide,by decide⟩,(by show(0:Int)<65521;decide),(by show(0:Int)<5;decide),Or.inl ⟨_,_,n,XM r (by lia),?_⟩⟩;refine⟨Or.inr ⟨by decide,by decide⟩,(by show(0:Int)<65497;decide),?_⟩;refine⟨⟨by decide,by decide⟩,(by show(0:Int)<3;decide),Or.inl ⟨_,_,o,XM u (by lia),?_⟩⟩;have j:∀k,MH t a c=k->∀p,H p=none->Q (.ref p) (upd H p (.tup [.str (ls.getD (c*48271%65521%5).toNat default),.str (ns.getD (c*69621%65497/3%3).toNat default),.str k.1,.int k.2])):=λk v p g=>q p _ g (AW g) (by rw[Aa,<-v];rfl);refine⟨(by show(0:Int)<3;decide),rfl,rfl,An (λb=>?_) (λb=>?_)⟩;have d:c*69621%65497%3=0:=V.int.inj (A3 b);exact⟨Or.inr ⟨by decide,by decide⟩,(by show(0:Int)<65519;decide),(by show(0:Int)<a;lia),Iz,j (("by" : Str),c*16807%65519%a) (Ar d)⟩;have d:¬c*69621%65497%3=0:=λe=>b (AY (by show V.int (c*69621%65497%3)=V.int 0;rw[e]));exact⟨Or.inr ⟨by decide,by decide⟩,(by show(0:Int)<65519;decide),(by show(0:Int)<t;lia),Iz,j (("thing" : Str),c*16807%65519%t) (Ao d)⟩
def Fp (m:Nat):Nat:=if m<4 then 3 else 2
abbrev BZ (m:Nat) (c:Int):Int:=c/8*48271%65539%m
abbrev Fq (ss:List Bg) (i:Int):Bg:=ss.getD i.toNat ([],[])
def Ja (ls:List Str) (m a:Nat) (ss:List Bg) (c:Int):List Bg:=if c%8<3/\(Fq ss (BZ m c)).1.length<Fp m then ss.set (BZ m c).toNat ((Fq ss (BZ m c)).1++[QM ls m a (c/8)],(Fq ss (BZ m c)).2) else ss
def Nu (ls ns:List Str) (m t a:Nat) (ss:List Bg) (c:Int):List Bg:=if(2<c%8/\c%8<6)/\(Fq ss (BZ m c)).2.length<2 then ss.set (BZ m c).toNat ((Fq ss (BZ m c)).1,(Fq ss (BZ m c)).2++[QN ns ls t a (c/8)]) else ss
def QO (ls ns:List Str) (m t a:Nat) (ss:List Bg) (c:Int):List Bg:=Nu ls ns m t a (Ja ls m a ss c) c
def EA (ls ns:List Str) (m t a:Nat) (cs:List Int) (i:Nat):List Bg:=(cs.take i).foldl (QO ls ns m t a) (List.replicate m ([],[]))
def Ki(ls:List Str)(m a:Nat)(ss:List Bg)(c:Int):(Ja ls m a ss c).length=ss.length:=by unfold Ja;split;exact Hj;rfl
def QP(ls ns:List Str)(m t a:Nat)(ss:List Bg)(c:Int):(Nu ls ns m t a ss c).length=ss.length:=by unfold Nu;split;exact Hj;rfl
def XN{ns:List Str}{t:Nat}{b:List Int}(h:b[i]?=some c):EA ls ns m t a b (i+1)=QO ls ns m t a (EA ls ns m t a b i) c:=by
 unfold EA;rw[D7,h,KA];rfl
structure Hh (m t a:Nat) (ss:List Bg):Prop where
 len:ss.length=m
 st:∀s∈ss,s.1.length<=Fp m
 tl:∀s∈ss,s.2.length<=2
 kst:∀s∈ss,∀p∈s.1,F6 m a p
 ktl:∀s∈ss,∀p∈s.2,ET t a p
variable {ss:List Bg}
def XO{t:Nat}(h:Hh m t a ss)(i:Int):(Fq ss i).1.length<=Fp m/\(Fq ss i).2.length<=2/\(∀p∈(Fq ss i).1,F6 m a p)/\∀p∈(Fq ss i).2,ET t a p:=by
 unfold Fq;rw[BW]
 cases e:ss[i.toNat]? with
 |none=>exact⟨CO _,CO _,λp b=>(by cases b),λp b=>(by cases b)⟩
 |some s =>
   have:=Bc e;exact⟨h.st s this,h.tl s this,h.kst s this,h.ktl s this⟩
def Hh.setA{t:Nat}(h:Hh m t a ss){s:Bg}(c:s.1.length<=Fp m)(d:s.2.length<=2)(e:∀p∈s.1,F6 m a p)(f:∀p∈s.2,ET t a p):Hh m t a (ss.set i s):=by
 refine⟨by rw[Hj];exact h.len,λu b=>?_,λu b=>?_,λu b=>?_,λu b=>?_⟩<;>rcases List.mem_or_eq_of_mem_set b with b|rfl;exact h.st u b;exact c;exact h.tl u b;exact d;exact h.kst u b;exact e;exact h.ktl u b;exact f
set_option tactic.hygienic true in
theorem QQ{ls ns:List Str}{m t a:Nat}(n:1<=m)(o:1<=t)(k:1<=a)(f:List Int):∀i,Hh m t a (EA ls ns m t a f i)
 |0=>by
   have e:∀s∈List.replicate m (([],[]):Bg),s=([],[]):=λs d=>(List.mem_replicate.mp d).2;exact⟨List.length_replicate,(λs d=>by rw[e s d];exact CO _),(λs d=>by rw[e s d];exact CO _),(λs d p b=>by rw[e s d] at b;cases b),(λs d p b=>by rw[e s d] at b;cases b)⟩
 | i + 1=>by
   have j:=QQ (ls:=ls) (ns:=ns) n o k f i
   cases e:f[i]? with
   |none =>
     have q:EA ls ns m t a f (i+1)=EA ls ns m t a f i:=by unfold EA;rw[D7,e];simp
     rw[q];exact j
   |some c =>
     rw[XN e];generalize EA ls ns m t a f i=ss at j
     have l:Hh m t a (Ja ls m a ss c):=by
      have g:=XO j (BZ m c);unfold Ja;split;rename_i h;refine j.setA (by rw[AQ,Ef];exact h.2) g.2.1 (λp b=>?_) g.2.2.2;rcases BI.mp b with b|b;exact g.2.2.1 p b;rw[A7.mp b];exact MG n k _ _;exact j
     unfold QO Nu;have g:=XO l (BZ m c);split;rename_i h;refine l.setA g.1 (by rw[AQ,Ef];exact h.2) g.2.2.1 (λp b=>?_);rcases BI.mp b with b|b;exact g.2.2.2 p b;rw[A7.mp b];exact MI o k _ _ _;exact l
def f6(a b:V):Bi [a,b] 0=some a:=Bu (j:=0) rfl
def f7(a b:V):Bi [a,b] 1=some b:=Bu (j:=1) rfl
inductive CY (K:Aj) (vs:List V) (H:Hp) (Q:VK):Prop where
 |mk (C L N Z:Addr) (cs:List Int) (ls ns:List Str) (m t a:Nat) (h0:vs=[.ref C,.ref L,.ref N,.int m,.ref Z]) (h1:Af K H C (cs.map V.int)) (h2:cs.length<=63) (h3:Af K H L (ls.map V.str)) (h4:ls.length=5) (h5:Af K H N (ns.map V.str)) (h6:ns.length=3) (h7:Al K H Z [.int t,.int a]) (h8:1<=m) (h9:m<=5) (h10:1<=t) (h11:1<=a) (h12:∀(S:Addr)(us Gs Es:List Addr)(H':Hp),Ac H H'->CG H' S us Gs Es (EA ls ns m t a cs cs.length)->Q (.ref S) H'):CY K vs H Q
def f8 (K:Aj):Sp:=λvs H Q ζ=>CY K vs H Q
abbrev UP(P w K mg base):=Br P w K mg base "_law_scopes" 2 ["_law_cells", "_law_labels", "_law_names_here", "_law_many", "_law_sizes"] (f8 K)
theorem f9(B:Bt mg)(a9:UN P w K mg base)(aA:UO P w K mg base)(F:Bm K "_law_scopes" "_law_scopes" Pq f fd)(hm:mg "_law_scopes" = some (.ref f)):UP P w K mg base:=by
 refine BE F hm Nn (λvs H a6 a7 h=>?_) (λaV aS aY s H vs a6 a7 hr h=>?_);obtain⟨af,L,ab,ag,T,ls,ns,m,t,a,rfl,_⟩:=h;rfl
 . obtain⟨af,L,ab,ag,T,ls,ns,m,t,a,rfl,hC,lc,hL,ll,hN,ln,hZ,m1,m5,E,a1,a8⟩:=h
   refine⟨_,(Am (PQ (i:=5) Nn.nd rfl (Or.inl rfl) rfl Cp (Jk rfl B.b_range (Ab (pv 3) Ad)) (λζ ζ ζ ζ ζ=>(Aw (i:=0) Cp.nd)) (λζ ζ ζ ζ ζ=>HP) (λζ ζ ζ ζ ζ=>(Bd (Ab (Cb Ad) (Ab (Cb Ad) Ad)))))
    (Am (AK (i:=6) Nn.nd (As At (Cb (Ab Ah (Ab Ah Ad))) (HF Sy B.b_int (Ab (IM GI (pv 3) Ah (A9 _)) Ad))))
    (Am (Ca B8 rfl (Ct (pv 0)) (Aw (i:=7) Nn.nd) (Am (AK (i:=8) Nn.nd (AB Bq (AB Bq (AB E9 (AB Fg (pv 7) Ah) Ah) Ah) (pv 3)))
     (Am (AK (i:=9) Nn.nd (AB Fg (pv 7) Ah))
     (Am (A5 (PW.pt (Gx (Bl GI (AB Bq (pv 7) Ah) Ah (A9 _)) (Gw (Bl GI (BP Ey B.b_len (Ab (As At (As At (pv 5) (pv 8)) Ah) Ad)) (pv 6) (A9 _))))) (Au (Dp (Dj Dd EL EM EQ (As At (As At (pv 5) (pv 8)) Ah) (Ab (AR a9 (Ab (pv 9) (Ab (pv 1) (Ab (pv 3) (Ab (As At (pv 4) Ah) Ad))))) Ad)))) A4)
     (Au (A5 (PW.pt (Gx (Yo GI GI Ah (AB Bq (pv 7) Ah) Ah) (Gw (Bl GI (BP Ey B.b_len (Ab (As At (As At (pv 5) (pv 8)) Ah) Ad)) Ah (A9 _))))) (Au (Dp (Dj Dd EL EM EQ (As At (As At (pv 5) (pv 8)) Ah) (Ab (AR aA (Ab (pv 9) (Ab (pv 1) (Ab (pv 2) (Ab (As At (pv 4) Ah) (Ab (As At (pv 4) Ah) Ad)))))) Ad)))) A4))))))
    (Au (AH (pv 5)))))),?_⟩
   try dsimp only[AC,Cx.nox,Cx.wish]
   refine⟨by lia,by lia,V8 (n:=m) (λD i ys r=>∃us d g:List Addr,ys=us.map V.ref/\Ac H r/\CG r D us d g (List.replicate i (([],[]):Bg))/\(D::(d++g)).Nodup/\∀x∈d++g,H x=none)
    (λD hD=>⟨[],[],[],rfl,AW hD,CG.nil Aa,by simp,λx O=>by simp at O⟩) (λD i ys H7 RR hD hi hv k=>?_) (λS ys H7 aW hv=>?_)⟩
   refine AL λU b=>?_;obtain⟨us,d,g,rfl,l,SC,W,ae⟩:=hv;refine b ?_;clear b;have ay:=SC.lu;rw[List.length_replicate] at ay;refine⟨by decide,λG Q=>?_⟩;obtain⟨H8,aB,E,eG⟩:=new_at (o:=.lst []) Q;rw[<-aB];refine⟨by decide,λj A=>?_⟩;obtain⟨H9,aC,p,aD⟩:=new_at (o:=.lst []) A;rw[<-aC];refine⟨BK,λu hu=>?_⟩;obtain⟨aE,aR,t3,eu⟩:=new_at (o:=.tup [.ref G,.ref j]) hu;rw[<-aR];have az:=(E.trans p).trans t3;have aF:=p.trans t3;have a0:=SC.same az;have al:=SC.alive
   have nG:G∉D::(d++g):=λy=>by
    rcases Cc.mp y with y|y;rw[y,SC.top] at Q;cases Q;obtain⟨xs,e⟩:=al G y;rw[e] at Q;cases Q
   have nE:j∉D::(d++g):=λy=>by
    rcases Cc.mp y with y|y;rw[y,E _ _ SC.top] at A;cases A;obtain⟨xs,e⟩:=al j y;rw[E _ _ e] at A;cases A
   have aG:G≠j:=λy=>by rw[<-y,eG] at A;cases A
   have aH:Ht aE u G j ([],[]):=⟨eu,⟨[],aF _ _ eG,RT.nil⟩,⟨[],t3 _ _ aD,RT.nil⟩⟩;have aI:=a0.snoc aH (λz=>nG (z▸B2)) (λz=>nE (z▸B2)) (λx O z=>(Gh.mp W).1 (z▸O));refine k _ _ a0.top (by rw[Ak,ay];exact BL (by lia)) ⟨us++[u],d++[G],g++[j],by rw[A6];rfl,λaT o e=>?_,?_,Zh W nG nE aG,λx O=>?_⟩;rw[AE (AU e hD)];exact az _ _ (l _ _ e);rw[List.replicate_succ'];exact aI
   have:x∈d++g\/x=G\/x=j:=by
    simp only[BI,A7] at O ⊢;rcases O with(h|h)|(h|h);exact .inl (.inl h);exact .inr (.inl h);exact .inl (.inr h);exact .inr (.inr h)
   rcases this with h|h|h;exact ae x h;rw[h];exact l.free Q;rw[h];exact(l.trans E).free A;refine AL λU b=>?_;obtain⟨us,d,g,rfl,s4,aJ,W,ae⟩:=hv;refine b ?_;clear b;cbv;refine⟨BK,λaU hl=>?_⟩;obtain⟨H5,aK,s5,el⟩:=new_at (o:=.lst [.int 2,.int 3]) hl;rw[<-aK]
   have aL:Bi [V.int 2,V.int 3] (if decide ((m:Int)<4)=true then 1 else 0)=some (.int (Fp m)):=by
    unfold Fp;by_cases h:m<4;rw[Ar (AY (by lia)),Ar h];exact f7 _ _;rw[Ao (by rw[D8 (by lia)];exact CS),Ao h];exact f6 _ _
   refine Or.inr ⟨_,rfl,Or.inl ⟨_,.int (Fp m),Af.of el,aL,?_⟩⟩;refine A0 ?_;cbv;have a2:=s4.trans s5;refine⟨⟨_,a2.seq hC⟩,Eg (xs:=T.map V.int) (λi σ r=>∃u7 u8 u9,σ=[some (.ref af),some (.ref L),some (.ref ab),some (.int m),some (.ref ag),some (.ref S),some (.int (Fp m)),u7,u8,u9]/\Ac H r/\CG r S us d g (EA ls ns m t a T i)) ⟨none,none,none,rfl,a2,aJ.same s5⟩ (λi σ r ζ aM=>by obtain⟨_,_,_,_,s,_⟩:=aM;exact s.seq hC) ?_ ?_⟩;rotate_left;refine λσ H6 ak=>AL λU b=>?_;obtain⟨u7,u8,u9,rfl,I,q⟩:=ak;refine b ?_;clear b;rw[Ak] at q;exact a8 S us d g _ I q;refine λi y σ H6 hy ak=>AL λU b=>?_;obtain⟨u7,u8,u9,rfl,I,q⟩:=ak;refine b ?_;clear b;obtain⟨c,hc,rfl⟩:=getm hy;have a3:=QQ (ls:=ls) (ns:=ns) m1 E a1 T i;rw[XN hc];generalize EA ls ns m t a T i=ss at q a3;refine A0 ?_;cbv;refine⟨⟨by decide,by decide⟩,Or.inr ⟨by decide,by decide⟩,(by show(0:Int)<65539;decide),(by show(0:Int)<m;lia),?_⟩;refine A0 ?_;cbv;refine⟨⟨by decide,by decide⟩,?_⟩;refine A0 ?_;cbv;have r0:0<=BZ m c:=Fe _ (by lia);have r1:BZ m c<m:=Fu _ (by lia);obtain⟨n,R⟩:=Cz r0;have aN:=a3.len;have an:n<ss.length:=(by lia);have a4:Fq ss (BZ m c)=ss[n]:=by unfold Fq;rw[R,Bw,BW,AA an];rfl
   have aX:Fp m<=3:=by unfold Fp;split<;>lia
   refine IR (λσ' r=>σ'=[some (.ref af),some (.ref L),some (.ref ab),some (.int m),some (.ref ag),some (.ref S),some (.int (Fp m)),some (.int c),some (.int (BZ m c)),some (.int (c/8))]/\Ac H r/\CG r S us d g (Ja ls m a ss c)) ?_ (λNX ao=>?_);rotate_left
   . refine AL λU b=>?_
     obtain⟨u,G,j,ah,ai,aj,g4,⟨X,⟨tG,J,Y⟩,_⟩⟩:=q.get an;refine b ?_;clear b;have aa:Bi (us.map V.ref) (BZ m c)=some (.ref u):=by rw[R];exact Bu (by rw[AX,ah];rfl)
     have aq:(tG.map V.ref).length=(Fq ss (BZ m c)).1.length:=(by rw[Ak,Y.len,a4]);have no:¬(c%8<3/\(Fq ss (BZ m c)).1.length<Fp m)->Ja ls m a ss c=ss:=λz=>Ao z;refine⟨(by show(0:Int)<8;decide),rfl,An (λM=>?_) (λM=>?_)⟩;rotate_left;refine ao _ _ ⟨rfl,I,?_⟩;rw[no λz=>M (AY z.1)];exact q;have ar:c%8<3:=A3 M;refine Or.inl ⟨_,.ref u,Af.of q.top,aa,Or.inr (Or.inl ⟨_,.ref G,Al.of X,rfl,_,Or.inl ⟨_,Af.of J,rfl⟩,rfl,An (λN=>?_) (λN=>?_)⟩)⟩;rotate_left;refine ao _ _ ⟨rfl,I,?_⟩;rw[no λz=>N (AY (by rw[aq];exact Int.ofNat_lt.mpr z.2))];exact q
     have au:(Fq ss (BZ m c)).1.length<Fp m:=by
      have:=A3 N;rw[aq] at this;exact Int.ofNat_lt.mp this
     refine Or.inl ⟨_,.ref u,Af.of q.top,aa,Or.inr (Or.inl ⟨_,.ref G,Al.of X,rfl,Or.inl ⟨rfl,_,Af.of J⟩,Or.inr (Or.inl ⟨_,.int a,I.seqT hZ,rfl,c/8,L,ls,m,a,rfl,I.seq hL,ll,m1,a1,λtp H8 aO p av=>?_⟩)⟩)⟩;have Z:=p _ _ J;have mG:G∈d++g:=GW _ (Bc ai);refine⟨_,Z,by rw[aq];exact BL (by lia),ao _ _ ⟨rfl,λx o e=>?_,?_⟩⟩;rw[AE (AU e (ae G mG))];exact p _ _ (I _ _ e);have:=(q.same p).step W an ai Z (Y.same p) av;unfold Ja;rw[Ar ⟨ar,au⟩,a4,R,Bw];exact this
   rintro σ' H7 ⟨rfl,l,C⟩;have aP:(Ja ls m a ss c).length=m:=by rw[Ki];exact aN
   show _;unfold QO;generalize Ja ls m a ss c=v at C aP;have ax:n<v.length:=(by lia);have a5:Fq v (BZ m c)=v[n]:=by unfold Fq;rw[R,Bw,BW,AA ax];rfl
   refine AL λU b=>?_;obtain⟨u,G,j,ah,ai,aj,g4,⟨X,_,⟨tE,J,Y⟩⟩⟩:=C.get ax;refine b ?_;clear b;have aa:Bi (us.map V.ref) (BZ m c)=some (.ref u):=by rw[R];exact Bu (by rw[AX,ah];rfl)
   have aw:(tE.map V.ref).length=(Fq v (BZ m c)).2.length:=(by rw[Ak,Y.len,a5]);have no:¬((2<c%8/\c%8<6)/\(Fq v (BZ m c)).2.length<2)->Nu ls ns m t a v c=v:=λz=>Ao z;refine⟨(by show(0:Int)<8;decide),_,rfl,An (λd0=>?_) (λd0=>?_)⟩;rotate_left;refine⟨rfl,Bp (Bp ⟨_,_,_,rfl,l,?_⟩)⟩;rw[no λz=>d0 (AY z.1.1)];exact C;have aQ:2<c%8:=A3 d0;refine⟨rfl,An (λM=>?_) (λM=>?_)⟩;rotate_left;refine⟨_,_,_,rfl,l,?_⟩;rw[no λz=>M (AY z.1.2)];exact C;have ar:c%8<6:=A3 M;refine Or.inl ⟨_,.ref u,Af.of C.top,aa,Or.inr (Or.inl ⟨_,.ref j,Al.of X,rfl,_,Or.inl ⟨_,Af.of J,rfl⟩,rfl,An (λN=>?_) (λN=>?_)⟩)⟩;rotate_left;refine⟨_,_,_,rfl,l,?_⟩;rw[no λz=>N (AY (by rw[aw];exact Int.ofNat_lt.mpr z.2))];exact C
   have au:(Fq v (BZ m c)).2.length<2:=by
    have:=A3 N;rw[aw] at this;exact Int.ofNat_lt.mp this
   refine Or.inl ⟨_,.ref u,Af.of C.top,aa,Or.inr (Or.inl ⟨_,.ref j,Al.of X,rfl,Or.inl ⟨rfl,_,Af.of J⟩,Or.inr (Or.inl ⟨_,.int t,l.seqT hZ,rfl,Or.inr (Or.inl ⟨_,.int a,l.seqT hZ,rfl,c/8,L,ab,ls,ns,t,a,rfl,l.seq hL,ll,l.seq hN,ln,E,a1,λtp H8 aO p av=>?_⟩)⟩)⟩)⟩;have Z:=p _ _ J;have mE:j∈d++g:=Ev _ (Bc aj);refine⟨_,Z,by rw[aw];exact BL (by lia),⟨_,_,_,rfl,λx o e=>?_,?_⟩⟩;rw[AE (AU e (ae j mE))];exact p _ _ (l _ _ e);have:=(C.same p).tell W ax aj Z (Y.same p) av;unfold Nu;rw[Ar ⟨⟨aQ,ar⟩,au⟩,a5,R,Bw];exact this
abbrev EB (ns:List Int):List Str:=He (Fk ns 0) 3
abbrev MJ (ns:List Int):List Str:=He (Fk ns 1) 5
def IA (ns:List Int) (n:Nat):List Int:=(List.range n).map λk:Nat=>Fk ns (2+(k:Int))
abbrev MK (ns:List Int):Int:=Fk ns 7
abbrev BF (ns:List Int):Nat:=(1+MK ns%5).toNat
abbrev Ci (ns:List Int):List Int:=ns.drop 9
def Fs (cs:List Int):Nat:=(cs.filter λc=>decide (c%8=7)).length
def BR (ns:List Int):Nat:=1+min 5 (Fs (Ci ns))
abbrev DK (ns:List Int):Nat:=(1+Fk ns 2%3).toNat
def La (m a:Nat) (l:List (Str×Int)) (c:Int):List (Str×Int):=if c%8=6/\l.length<6 then l++[MD m a (c/8)] else l
def B0 (ns:List Int) (i:Nat):List (Str×Int):=((Ci ns).take i).foldl (La (BF ns) (BR ns)) [("part",MK ns/5%BF ns)]
def Kj (nm:List Str) (m s:Nat) (l:List Qu) (c:Int):List Qu:=if c%8=7/\l.length<6 then l++[DI nm m s (c/8)] else l
def FT (ns:List Int) (i:Nat):List Qu:=((Ci ns).take i).foldl (Kj (EB ns) (BF ns) (DK ns)) [DI (EB ns) (BF ns) (DK ns) (MK ns/25)]
def O4(ns:List Int):1<=BF ns/\BF ns<=5:=by unfold BF;lia
def UQ(ns:List Int):1<=DK ns/\DK ns<=3:=by unfold DK;lia
def QR(ns:List Int):1<=BR ns/\BR ns<=6:=by unfold BR;lia
def XQ(h:(Ci ns)[i]?=some c):B0 ns (i+1)=La (BF ns) (BR ns) (B0 ns i) c:=by
 unfold B0;rw[D7,h,KA];rfl
def XR(h:(Ci ns)[i]?=some c):FT ns (i+1)=Kj (EB ns) (BF ns) (DK ns) (FT ns i) c:=by
 unfold FT;rw[D7,h,KA];rfl
set_option tactic.hygienic true in
def O5(ns:List Int)(i:Nat):1<=(B0 ns i).length/\(B0 ns i).length<=6:=by
 unfold B0;generalize (Ci ns).take i=l
 have:∀(l:List Int)(g:List (Str × Int)),1<=g.length/\g.length<=6->1<=(l.foldl (La (BF ns) (BR ns)) g).length/\(l.foldl (La (BF ns) (BR ns)) g).length<=6:=by
  intro l
  induction l with
  |nil=>exact λg h=>h
  |cons c l a =>
    intro g h;refine a _ ?_;unfold La;split;rename_i k;rw[AQ,Ef];lia;exact h
 exact this l _ ⟨AI _,(by show 1<=6;decide)⟩
def Kk(ns:List Int)(i:Nat):∀p∈B0 ns i,F5 (BF ns) (BR ns) p:=by
 unfold B0;generalize (Ci ns).take i=l;have b:=O4 ns;have d:=QR ns
 have:∀(l:List Int)(g:List (Str × Int)),(∀p∈g,F5 (BF ns) (BR ns) p) -> ∀p∈l.foldl (La (BF ns) (BR ns)) g,F5 (BF ns) (BR ns) p:=by
  intro l
  induction l with
  |nil=>exact λg h=>h
  |cons c l e =>
    intro g h;refine e _ ?_;unfold La;split;intro p a;rcases BI.mp a with a|a;exact h p a;rw[A7.mp a];exact ME b.1 d.1 _;exact h
 refine this l _ λp a=>?_;rw[A7.mp a];exact .inr (.inl ⟨rfl,Fe _ (by lia),Fu _ (by lia)⟩)
def XS(ns:List Int)(i:Nat):(FT ns i).length=1+min 5 (Fs ((Ci ns).take i)):=by
 unfold FT;generalize (Ci ns).take i=l
 have:∀(l:List Int)(g:List Qu),g.length<=6->(l.foldl (Kj (EB ns) (BF ns) (DK ns)) g).length=min 6 (g.length+Fs l):=by
  intro l
  induction l with
  |nil=>intro g h;show g.length=min 6 (g.length+0);lia
  |cons c l d =>
    intro g h;show(l.foldl _ (Kj (EB ns) (BF ns) (DK ns) g c)).length=_
    have e:Fs (c::l)=(if c%8=7 then 1 else 0)+Fs l:=by
     unfold Fs;rw[MV];by_cases a:c%8=7;rw[Ar (AY a),Ar a,EG];lia;rw[Ao (by rw[D8 a];exact CS),Ao a];lia
    rw[e];by_cases k:c%8=7/\g.length<6;have b:Kj (EB ns) (BF ns) (DK ns) g c=g++[DI (EB ns) (BF ns) (DK ns) (c/8)]:=Ar k;rw[b,d _ (by rw[AQ,Ef];lia),AQ,Ef,Ar k.1];lia;have b:Kj (EB ns) (BF ns) (DK ns) g c=g:=Ao k;rw[b,d g h];by_cases a:c%8=7;have:¬g.length<6:=λz=>k ⟨a,z⟩;lia;rw[Ao a];lia
 rw[this l _ (by show 1<=6;decide)];show min 6 (1+Fs l)=_;lia
def XT(ns:List Int):(FT ns (Ci ns).length).length=BR ns:=by rw[XS,Cr];rfl
def IB(ns:List Int)(i:Nat):∀q∈FT ns i,(0<=q.1/\q.1<BF ns)/\(0<=q.2.1/\q.2.1<DK ns)/\1<=q.2.2.length/\q.2.2.length<=8:=by
 unfold FT;generalize (Ci ns).take i=l;have d:=O4 ns;have e:=UQ ns
 have one:∀c,(0<=(DI (EB ns) (BF ns) (DK ns) c).1/\(DI (EB ns) (BF ns) (DK ns) c).1<BF ns)/\(0<=(DI (EB ns) (BF ns) (DK ns) c).2.1/\(DI (EB ns) (BF ns) (DK ns) c).2.1<DK ns)/\1<=(DI (EB ns) (BF ns) (DK ns) c).2.2.length/\(DI (EB ns) (BF ns) (DK ns) c).2.2.length<=8:=λc=>by
  have:=Kg (EB ns) c;exact⟨⟨Fe _ (by lia),Fu _ (by lia)⟩,⟨Fe _ (by lia),Fu _ (by lia)⟩,this.1,EN this.2 (by decide)⟩
 have:∀(l:List Int)(g:List Qu),(∀q∈g,(0<=q.1/\q.1<BF ns)/\(0<=q.2.1/\q.2.1<DK ns)/\1<=q.2.2.length/\q.2.2.length<=8) -> ∀q∈l.foldl (Kj (EB ns) (BF ns) (DK ns)) g,(0<=q.1/\q.1<BF ns)/\(0<=q.2.1/\q.2.1<DK ns)/\1<=q.2.2.length/\q.2.2.length<=8:=by
  intro l
  induction l with
  |nil=>exact λg h=>h
  |cons c l b =>
    intro g h;refine b _ ?_;unfold Kj;split;intro p a;rcases BI.mp a with a|a;exact h p a;rw[A7.mp a];exact one _;exact h
 refine this l _ λp a=>?_;rw[A7.mp a];exact one _
structure O6 (ns:List Int) (ss:List Bg) (gs:List (Str×Int)) (qs:List Qu) (sts:List Ce) (inn:Int) (ord:A'):Prop where
 ss:ss=EA (MJ ns) (EB ns) (BF ns) (B0 ns (Ci ns).length).length (BR ns) (Ci ns) (Ci ns).length
 gs:gs=B0 ns (Ci ns).length
 qs:qs=FT ns (Ci ns).length
 tb:O1 (IA ns 5) (MJ ns) sts inn ord
def O6.uniq{ns:List Int}{ss e:List Bg}{gs f:List (Str×Int)}{d g:List Qu}{i l:List Ce}{j m:Int}{ord n:A'}(h:O6 ns ss gs d i j ord)(k:O6 ns e f g l m n):ss=e/\gs=f/\d=g/\i=l/\j=m/\ord=n:=by
 obtain⟨a,b,c⟩:=h.tb.uniq k.tb;exact⟨h.ss.trans k.ss.symm,h.gs.trans k.gs.symm,h.qs.trans k.qs.symm,a,b,c⟩
def gA(ns:List Int)(n:Nat):IA ns (n+1)=IA ns n++[Fk ns (2+(n:Int))]:=by unfold IA;rw[List.range_succ,A6];rfl
def XU(ns:List Int)(n:Nat):(IA ns n).length=n:=by unfold IA;rw[Ak,List.length_range]
def QS(ns:List Int):(IA ns 5).getD 0 0=Fk ns 2:=rfl
variable {ord:A'}
def O7{gs:List (Str×Int)}{j:List Qu}{g:List Ce}{t:Int}(h:O6 ns ss gs j g t ord){b:List (C')}(k:b.length=j.length)(u:∀p,some p∈b->p.1=("thing" : Str)->0<=p.2/\p.2<gs.length):OI ⟨ss,gs,b,g⟩ j t ord:=by
 have l:=O4 ns;have v:=QR ns;have w:=O5 ns (Ci ns).length;have I:=UQ ns;have eq:j.length=BR ns:=(by rw[h.qs,XT]);have x:gs.length=(B0 ns (Ci ns).length).length:=(by rw[h.gs]);have a:=QQ (ls:=MJ ns) (ns:=EB ns) l.1 w.1 v.1 (Ci ns) (Ci ns).length;rw[<-h.ss,<-x] at a;have ls:g.length=DK ns:=(by rw[h.tb.len,QS]);have o:(0:Int)<1+Fk ns 2%3:=(by lia);have r:(DK ns:Int)=1+Fk ns 2%3:=by unfold DK;lia
 have y:FR ⟨ss,gs,b,g⟩:=by
  refine⟨λs d=>?_,λs d p f=>?_,λp f=>?_,u,λs d p f=>?_⟩;have:=a.st s d;have:Fp (BF ns)<=3:=by unfold Fp;split<;>lia
  lia;show F6 ss.length b.length p;rw[a.len,k,eq];exact a.kst s d p f;show F5 ss.length b.length p;rw[a.len,k,eq];exact Kk ns _ p (h.gs▸f);obtain⟨i,z,e⟩:=List.getElem_of_mem d;have A:=h.tb.at_ i s (by rw[AA z,e]);have:=XI (ls:=MJ ns) (c:=(IA ns 5).getD (1+i) 0) (n:=1+(IA ns 5).getD 0 0%3) (by rw[QS];exact o) 5 p (A.pg.mem_iff.mp f);rw[QS] at this;show 0<=p.2/\p.2<(g.length:Int);rw[ls,r];exact this
 have C:∀s∈ss,s.1.length<=Fp (BF ns):=a.st
 have D:JZ (Fp (BF ns)) ss.length*max 2 (Fp (BF ns))<=62:=by
  rw[a.len];generalize BF ns=m at l;have:m=1\/m=2\/m=3\/m=4\/m=5:=(by lia);rcases this with e|e|e|e|e<;>subst e<;>decide
 obtain⟨ok,E⟩:=dI y (B:=Fp (BF ns)) C (by show ss.length<=100;rw[a.len];lia) D a.tl (λs d p f=>by
  show ET gs.length b.length p
  rw[k,eq];exact a.ktl s d p f)
 refine⟨ok,E,?_,h.tb.ord.irr (fC (by decide)),?_,λq F=>?_⟩;have:=h.tb.ord.len (by rw[Nt];decide);lia;rw[h.tb.inn,QS];show 0<=_/\_<(g.length:Int);have G:=Fe (Fk ns 2/3) (show 1+Fk ns 2%3≠0 by lia);have H:=Fu (Fk ns 2/3) o;rw[ls,r];exact⟨G,H⟩;have:=IB ns _ q (h.qs▸F);show(0<=q.1/\q.1<(ss.length:Int))/\(0<=q.2.1/\q.2.1<(g.length:Int))/\_;rw[a.len,ls];exact this
inductive El (K:Aj) (vs:List V) (H:Hp) (Q:VK):Prop where
 |mk (a:Addr) (ns:List Int) (h0:vs=[.ref a]) (h1:Af K H a (ns.map V.int)) (h2:ns.length<=63) (h3:∀(r nt t S T R:Addr)(us Gs Es ts qt:List Addr)(ss:List Bg)(gs:List (Str×Int))(qs:List Qu)(sts:List Ce)(inn:Int)(ord:A')(H':Hp),Ac H H'->H' r=some (.tup [.ref nt,.ref t])->H' nt=some (.tup [.ref S,.ref T,.ref R])->F7 H' S T R us Gs Es ts qt ss gs qs->FO K (λζ=>True) H' t sts inn ord->O6 ns ss gs qs sts inn ord->Q (.ref r) H'):El K vs H Q
def gB (K:Aj):Sp:=λvs H Q ζ=>El K vs H Q
abbrev QU(P w K mg base):=Br P w K mg base "_law_made" 4 ["_law_script"] (gB K)
theorem gC (B:Bt mg) (aB:UD P w K mg base) (ah:OY P w K mg base) (bh:UJ P w K mg base) (aC:UL P w K mg base) (bi:UM P w K mg base) (bj:UP P w K mg base) (F:Bm K "_law_made" "_law_made" NC f fd) (hm:mg "_law_made" = some (.ref f)):QU P w K mg base:=by
 refine BE F hm Hv (λvs aq ba bb ar=>?_) (λbH bF bT s aq vs ba bb hr ar=>?_);obtain⟨a,ns,rfl,_⟩:=ar;rfl
 . obtain⟨a,ns,rfl,S,bR,q⟩:=ar
   have U:=O4 ns;have z2:=QR ns;have z3:=UQ ns
   refine⟨_,(Am (AK (i:=1) Hv.nd (AR aB (Ab (AR ah (Ab (pv 0) (Ab Ah Ad))) (Ab Ah Ad))))
    (Am (AK (i:=2) Hv.nd (AR aB (Ab (AR ah (Ab (pv 0) (Ab Ah Ad))) (Ab Ah Ad))))
    (Am (AK (i:=3) Hv.nd (AR bh (Ab (HQ rfl CU (Yl rfl B.b_range (Ab Ah (Ab Ah Ad))) (λζ ζ ζ ζ ζ=>(Aw (i:=0) CU.nd)) (λζ ζ ζ ζ ζ=>HP) (λζ ζ ζ ζ ζ=>(AR ah (Ab (pv 1) (Ab (pv 0) Ad))))) (Ab (pv 2) Ad))))
    (Am (AK (i:=4) Hv.nd (AR ah (Ab (pv 0) (Ab Ah Ad))))
    (Am (AK (i:=5) Hv.nd (AB Hz Ah (AB Bq (pv 4) Ah)))
    (Am (AK (i:=6) Hv.nd (VC VE (pv 0) (SI Ah) Jr))
    (Am (AK (i:=7) Hv.nd (Cb (Ab (Bd (Ab Bb (Ab (AB Bq (AB Fg (pv 4) Ah) (pv 5)) Ad))) Ad)))
    (Am (AK (i:=8) Hv.nd (Cb (Ab (AR aC (Ab (AB Fg (pv 4) Ah) (Ab (pv 5) (Ab (BP Ey B.b_len (Ab (As At (pv 3) Ah) Ad)) (Ab (pv 1) Ad))))) Ad)))
    (Am (AK (i:=9) Hv.nd (AB Hz Ah (BP (Vw rfl) B.b_min (Ab Ah (Ab (BP Ey B.b_len (Ab (HQ rfl CV (Ct (pv 6)) (λζ ζ ζ ζ ζ=>(Aw (i:=0) CV.nd)) (λζ ζ ζ ζ ζ=>(PP (Bl BV (AB Bq (pv 0) Ah) Ah (A9 _)))) (λζ ζ ζ ζ ζ=>(pv 0))) Ad)) Ad)))))
    (Am (Ca B8 rfl (Ct (pv 6)) (Aw (i:=10) Hv.nd) (Am (A5 (PW.pt (Gx (Bl BV (AB Bq (pv 10) Ah) Ah (A9 _)) (Gw (Bl GI (BP Ey B.b_len (Ab (pv 7) Ad)) Ah (A9 _))))) (Au (Dp (Dj Dd EL EM EQ (pv 7) (Ab (AR bi (Ab (AB Fg (pv 10) Ah) (Ab (pv 5) (Ab (pv 9) Ad)))) Ad)))) A4)
     (Au (A5 (PW.pt (Gx (Bl BV (AB Bq (pv 10) Ah) Ah (A9 _)) (Gw (Bl GI (BP Ey B.b_len (Ab (pv 8) Ad)) Ah (A9 _))))) (Au (Dp (Dj Dd EL EM EQ (pv 8) (Ab (AR aC (Ab (AB Fg (pv 10) Ah) (Ab (pv 5) (Ab (BP Ey B.b_len (Ab (As At (pv 3) Ah) Ad)) (Ab (pv 1) Ad))))) Ad)))) A4))))
    (Am (AK (i:=11) Hv.nd (AR bj (Ab (pv 6) (Ab (pv 2) (Ab (pv 1) (Ab (pv 5) (Ab (Bd (Ab (BP Ey B.b_len (Ab (pv 7) Ad)) (Ab (pv 9) Ad))) Ad)))))))
    (Au (AH (Bd (Ab (Bd (Ab (pv 11) (Ab (pv 7) (Ab (pv 8) Ad)))) (Ab (pv 3) Ad)))))))))))))))),?_⟩
   rfl';refine⟨a,ns,0,rfl,by decide,S,_,3,rfl,by decide,by decide,λN bG hN s1 eN=>?_⟩;refine A0 ?_;cbv;refine⟨a,ns,1,rfl,by decide,s1.seq S,_,5,rfl,by decide,by decide,λag bc hL s2 eL=>?_⟩;have aD:=s1.trans s2;have bk:=s2 _ _ eN;refine A0 ?_;cbv
   refine⟨_,_,rfl,⟨by decide,by decide,by decide,by decide⟩,V8 (lo:=2) (n:=5) (λD i A b=>Ac bc b/\b D=some (.lst A)/\A=(IA ns i).map V.int)
    (λD E=>⟨AW E,Aa,rfl⟩) (λD i A H3 RR E hi G k=>?_) (λTC A H3 bI G=>?_)⟩
   obtain⟨M,eD,rfl⟩:=G;refine⟨a,ns,2+(i:Int),rfl,by lia,(aD.trans M).seq S,?_⟩;refine k _ _ eD (by rw[Ak,XU];exact BL (by lia)) ⟨λbd o e=>?_,Aa,?_⟩;rw[AE (AU e E)];exact M _ _ e;rw[gA,A6];rfl;obtain⟨M,bl,rfl⟩:=G;have bm:=aD.trans M;have aE:=M _ _ eL;have aw:=M _ _ bk;refine⟨TC,ag,IA ns 5,MJ ns,rfl,Af.of bl,XU ns 5,Af.of aE,Nt _ _,λt bn bo ord H4 W TB aF=>?_⟩;have ai:=bm.trans W;refine A0 ?_;cbv;refine⟨a,ns,7,rfl,by decide,ai.seq S,?_⟩;refine A0 ?_;cbv;refine⟨(by show(0:Int)<5;decide),?_⟩;dsimp only[IL,IK];rw[show(1+Fk ns 7%5:Int)=(BF ns:Int) by unfold BF MK;lia];refine A0 ?_;cbv
   refine⟨_,rfl,a,_,rfl,ai.seq S,λX h0=>?_⟩;rw[show Fh (ns.map V.int) (some 9) none=(Ci ns).map V.int from(YV _ 9).trans (List.map_drop).symm];obtain⟨H5,bp,s5,ax⟩:=new_at (o:=.lst ((Ci ns).map V.int)) h0;rw[<-bp];refine A0 ?_;cbv
   have aG:=ai.trans s5;have bq:(Ci ns).length<=63:=by rw[Ky];lia
   refine⟨⟨by decide,by decide⟩,(by show(0:Int)<BF ns;lia),BK,λp1 br=>?_⟩;obtain⟨H6,bs,s6,bt⟩:=new_at (o:=.tup [.str "part",.int (MK ns/5%BF ns)]) br;rw[<-bs];refine⟨IS,λT Y=>?_⟩;obtain⟨H7,bu,s7,aH⟩:=new_at (o:=.lst [.ref p1]) Y;rw[<-bu];refine A0 ?_;cbv;have aj:=s6.trans s7;have aI:=aG.trans aj;refine AL λNz u=>?_;obtain⟨a9,tO,tu,bJ,et,_,_,_,aJ,SR,_⟩:=TB.ex;refine u ?_;clear u;have aK:(tu.map V.ref).length=DK ns:=by rw[Ak,SR.len,aF.len];rfl
   have aa:=s5.trans aj;refine⟨⟨by decide,by decide⟩,Or.inr (Or.inl ⟨_,.ref a9,Al.of (aa _ _ et),rfl,_,Or.inl ⟨_,Af.of (aa _ _ aJ),rfl⟩,_,N,EB ns,BF ns,(tu.map V.ref).length,rfl,Af.of ((W.trans aa) _ _ aw),Nt _ _,U.1,by lia,λpq pu H8 Z aL aM=>?_⟩)⟩;rw[aK] at aL aM;refine⟨IS,λR H=>?_⟩;obtain⟨H9,bv,s9,bw⟩:=new_at (o:=.lst [.ref pq]) H;rw[<-bv];refine A0 ?_;cbv;have ab:=Z.trans s9;have a7:=(aj.trans ab) _ _ ax
   refine⟨⟨_,Af.of a7⟩,PZ (xs:=(Ci ns).map V.int) (λD i A b=>Ac H9 b/\b D=some (.lst A)/\A=(((Ci ns).take i).filter λc=>decide (c%8=7)).map V.int)
    (λD E=>⟨AW E,Aa,rfl⟩) (λD i A b ay=>by obtain⟨s,_⟩:=ay;exact Af.of (s _ _ a7)) (λD au be A ak RR R0 E hy G k k0=>?_) (λCD A ak bK G=>?_)⟩
   obtain⟨v,eD,rfl⟩:=G;obtain⟨c,C,rfl⟩:=getm hy;have bL:au<(Ci ns).length:=(Bh.mp C).1;refine⟨(by show(0:Int)<8;decide),rfl,rfl,An (λav=>?_) (λav=>?_)⟩;have d':c%8=7:=V.int.inj (A3 av);refine k _ _ eD ?_ ⟨λbd o e=>?_,Aa,?_⟩;have h1:(((Ci ns).take au).filter λc=>decide (c%8=7)).length<=((Ci ns).take au).length:=Pl _ _;rw[EJ] at h1;rw[Ak];exact BL (by lia);rw[AE (AU e E)];exact v _ _ e;rw[D7,C,NB,A6];congr 1;show _=(List.filter _ [c]).map V.int;rw[MV,Ar (AY d')];rfl;have d':¬c%8=7:=λz=>av (AY (by show V.int (c%8)=V.int 7;rw[z]));refine k0 _ ⟨v,eD,?_⟩;rw[D7,C,NB,A6];show _=_++(List.filter _ [c]).map V.int;rw[MV,Ao (by rw[D8 d'];exact CS)];exact(EK _).symm;obtain⟨v,aN,rfl⟩:=G;rw[Ak,Cr] at aN;have bx:(((Ci ns).filter λc=>decide (c%8=7)).map V.int).length=Fs (Ci ns):=Ak _;refine⟨_,Or.inl ⟨_,Af.of aN,rfl⟩,_,_,rfl,?_⟩;rw[bx];dsimp only[IL,IK]
   rw[show(1+(if((Fs (Ci ns):Nat):Int)<5 then((Fs (Ci ns):Nat):Int) else 5):Int)=(BR ns:Int) by unfold BR;split<;>lia]
   refine A0 ?_;cbv;have aR:=(ab.trans v) _ _ aH;have aS:=v _ _ bw;have bM:aq T=none:=(aG.trans s6).free Y;have bN:aq R=none:=(aI.trans Z).free H;have aO:T≠R:=λz=>by rw[<-z,Z _ _ aH] at H;cases H
   have a8:=v _ _ a7;have aT:X≠T:=λz=>by rw[<-z,s6 _ _ ax] at Y;cases Y
   have aU:X≠R:=λz=>by rw[<-z,(aj.trans Z) _ _ ax] at H;cases H
   have bS:=aI.trans (ab.trans v);have b9:=aa.trans (ab.trans v);have bz:H4 T=none:=(s5.trans s6).free Y;have b0:H4 R=none:=(aa.trans Z).free H;have az:∀{b:Hp},Keeps (λx=>x=T\/x=R) ak b->Ac H4 b:=λk x o e=>k.at_ _ _ (b9 _ _ e) λz=>z.elim (AU e bz) (AU e b0)
   refine⟨⟨_,Af.of a8⟩,Eg (xs:=(Ci ns).map V.int) (λi σ b=>∃a0 d g,σ=[some (.ref a),some (.ref N),some (.ref ag),some (.ref t),some (.int (Fk ns 7)),some (.int (BF ns)),some (.ref X),some (.ref T),some (.ref R),some (.int (BR ns)),a0,none]/\Keeps (λx=>x=T\/x=R) ak b/\b T=some (.lst (d.map V.ref))/\GT b d (B0 ns i)/\b R=some (.lst (g.map V.ref))/\QT b g (FT ns i))
    ⟨none,[p1],[pq],rfl,Keeps.refl λx o m e=>?_,aR,?_,aS,?_⟩ (λi σ b ζ ay=>by obtain⟨_,_,_,_,k,_⟩:=ay;exact Af.of (k.at_ _ _ a8 λz=>z.elim aT aU)) ?_ ?_⟩
   rcases m with m|m;rw[m,aR] at e;exact⟨_,(BJ e).symm⟩;rw[m,aS] at e;exact⟨_,(BJ e).symm⟩;exact GT.nil.snoc (p:=(("part" : Str),MK ns/5%BF ns)) ((s7.trans (ab.trans v)) _ _ bt);exact QT.nil.snoc (q:=DI (EB ns) (BF ns) (DK ns) (MK ns/25)) ((s9.trans v) _ _ aL) ((s9.trans v) _ _ aM)
   . refine λi be σ b1 hy ae=>AL λNz u=>?_
     obtain⟨a0,d,g,rfl,L,h,j,l,y⟩:=ae;refine u ?_;clear u;refine Hb ?_;intro Nx Cy;obtain⟨c,C,rfl⟩:=getm hy;refine A0 ?_;cbv;have ao:=az L;have af:(d.map V.ref).length=(B0 ns i).length:=(by rw[Ak,j.len]);have a1:(g.map V.ref).length=(FT ns i).length:=(by rw[Ak,y.len]);have b6:=(O5 ns i).2;have q6:(FT ns i).length<=6:=by rw[XS];lia
     refine IR (λσ' b=>∃d,σ'=[some (.ref a),some (.ref N),some (.ref ag),some (.ref t),some (.int (Fk ns 7)),some (.int (BF ns)),some (.ref X),some (.ref T),some (.ref R),some (.int (BR ns)),some (.int c),none]/\Keeps (λx=>x=T\/x=R) ak b/\b T=some (.lst (d.map V.ref))/\GT b d (B0 ns (i+1))/\b R=some (.lst (g.map V.ref))/\QT b g (FT ns i)) ?_ (λNX a2=>?_);rotate_left
     . have no:¬(c%8=6/\(B0 ns i).length<6)->B0 ns (i+1)=B0 ns i:=λz=>by rw[XQ C];exact Ao z
       refine⟨(by show(0:Int)<8;decide),rfl,rfl,An (λI=>?_) (λI=>?_)⟩;rotate_left;refine a2 _ _ ⟨d,rfl,L,h,?_,l,y⟩;rw[no λz=>I (AY (by show V.int (c%8)=V.int 6;rw[z.1]))];exact j;have a3:c%8=6:=V.int.inj (A3 I);refine⟨_,Or.inl ⟨_,Af.of h,rfl⟩,rfl,An (λJ=>?_) (λJ=>?_)⟩;rotate_left;refine a2 _ _ ⟨d,rfl,L,h,?_,l,y⟩;rw[no λz=>J (AY (by rw[af];exact Int.ofNat_lt.mpr z.2))];exact j
       have a4:(B0 ns i).length<6:=by
        have:=A3 J;rw[af] at this;exact Int.ofNat_lt.mp this
       refine⟨Or.inl ⟨rfl,_,Af.of h⟩,⟨by decide,by decide⟩,c/8,BF ns,BR ns,rfl,U.1,z2.1,λtp al bO r b2=>?_⟩;have aV:=r _ _ h;have kT:Keeps (·=T) al (upd al T (.lst (d.map V.ref++[.ref tp]))):=Keeps.one aV;refine⟨_,aV,by rw[af];exact BL (by lia),a2 _ _ ⟨d++[tp],rfl,(L.same r).set (.inl rfl),by rw[Aa,A6];rfl,?_,kT.at_ _ _ (r _ _ l) (Ne.symm aO),(y.same r).keeps kT⟩⟩;rw[XQ C,show La (BF ns) (BR ns) (B0 ns i) c=B0 ns i++[MD (BF ns) (BR ns) (c/8)] from Ar ⟨a3,a4⟩];exact((j.same r).snoc b2).keeps kT
     refine λσ' al ae=>AL λNz u=>?_;obtain⟨d,rfl,an,h,j,l,y⟩:=ae;refine u ?_;clear u;have O:=az an;have no:¬(c%8=7/\(FT ns i).length<6)->FT ns (i+1)=FT ns i:=λz=>by rw[XR C];exact Ao z
     refine⟨(by show(0:Int)<8;decide),rfl,rfl,An (λI=>?_) (λI=>?_)⟩;rotate_left;refine⟨_,d,g,rfl,an,h,j,l,?_⟩;rw[no λz=>I (AY (by show V.int (c%8)=V.int 7;rw[z.1]))];exact y;have a3:c%8=7:=V.int.inj (A3 I);refine⟨_,Or.inl ⟨_,Af.of l,rfl⟩,rfl,An (λJ=>?_) (λJ=>?_)⟩;rotate_left;refine⟨_,d,g,rfl,an,h,j,l,?_⟩;rw[no λz=>J (AY (by rw[a1];exact Int.ofNat_lt.mpr z.2))];exact y
     have a4:(FT ns i).length<6:=by
      have:=A3 J;rw[a1] at this;exact Int.ofNat_lt.mp this
     refine⟨Or.inl ⟨rfl,_,Af.of l⟩,⟨by decide,by decide⟩,Or.inr (Or.inl ⟨_,.ref a9,Al.of (O _ _ et),rfl,_,Or.inl ⟨_,Af.of (O _ _ aJ),rfl⟩,c/8,N,EB ns,BF ns,(tu.map V.ref).length,rfl,Af.of ((W.trans O) _ _ aw),Nt _ _,U.1,by lia,λaP bP a5 r aW aX=>?_⟩)⟩;rw[aK] at aW aX;have aY:=r _ _ l;have kR:Keeps (·=R) a5 (upd a5 R (.lst (g.map V.ref++[.ref aP]))):=Keeps.one aY;refine⟨_,aY,by rw[a1];exact BL (by lia),⟨_,d,g++[aP],rfl,(an.same r).set (.inr rfl),kR.at_ _ _ (r _ _ h) aO,(j.same r).keeps kR,by rw[Aa,A6];rfl,?_⟩⟩;rw[XR C,show Kj (EB ns) (BF ns) (DK ns) (FT ns i) c=FT ns i++[DI (EB ns) (BF ns) (DK ns) (c/8)] from Ar ⟨a3,a4⟩];exact((y.same r).snoc aW aX).keeps kR
   refine λσ b1 ae=>AL λNz u=>?_;obtain⟨a0,d,g,rfl,L,h,j,l,y⟩:=ae;refine u ?_;clear u;rw[Ak] at j y;have ao:=az L;have bA:=ai.trans ao;have b3:=O5 ns (Ci ns).length;have af:(d.map V.ref).length=(B0 ns (Ci ns).length).length:=(by rw[Ak,j.len]);have bB:=L.at_ _ _ a8 λz=>z.elim aT aU;refine⟨_,Or.inl ⟨_,Af.of h,rfl⟩,BK,λbf hZ=>?_⟩;rw[af];obtain⟨al,bC,a6,eZ⟩:=new_at (o:=.tup [.int (B0 ns (Ci ns).length).length,.int (BR ns)]) hZ;rw[<-bC];have O:=ao.trans a6;refine⟨X,ag,N,bf,Ci ns,MJ ns,EB ns,BF ns,(B0 ns (Ci ns).length).length,BR ns,rfl,Af.of (a6 _ _ bB),bq,Af.of ((W.trans O) _ _ aE),Nt _ _,Af.of ((W.trans O) _ _ aw),Nt _ _,Al.of eZ,U.1,U.2,b3.1,z2.1,λaA us Gs Es a5 b4 SC=>?_⟩;refine A0 ?_;cbv;have bE:=a6.trans b4;refine⟨JI,λnt b5=>?_⟩;obtain⟨bQ,bD,b7,b8⟩:=new_at (o:=.tup [.ref aA,.ref T,.ref R]) b5;rw[<-bD];refine⟨BK,λbg hr=>?_⟩;have aQ:=AW (o:=.tup [.ref nt,.ref t]) hr;have aZ:=b7.trans aQ;have Q:=bE.trans aZ;exact q bg nt t aA T R us Gs Es d g _ _ _ bn bo ord _ (bA.trans Q) Aa (aQ _ _ b8) ⟨SC.same aZ,Q _ _ h,j.same Q,Q _ _ l,y.same Q⟩ (TB.same (ao.trans Q)) ⟨rfl,rfl,rfl,aF⟩
def O8 (n:Int):Nat->Int
 |0=>n
 |k+1=>O8 n k/999
abbrev gD (x:Int):Int:=if 4<x then 4 else x
def O9 (n:Int) (pl th:Nat):C':=if n%9<2 then none else if n%9=2 then some ("none",n/9%pl) else if n%9=3 then some ("torn",n/9%pl) else some ("thing",n/9%th)
def ML (n:Int) (qs:List Qu) (th k:Nat):List (C'):=(List.range k).map λj=>O9 (O8 n j) ((qs.getD j default).2.2.length) th
def Kl (c:Int) (qs:List Qu) (th:Nat):List (C'):=ML (c*864691128455135233%2305843009213693951) qs th qs.length
def gE(n:Int)(a:List Qu)(th k:Nat):ML n a th (k+1)=ML n a th k++[O9 (O8 n k) ((a.getD k default).2.2.length) th]:=by unfold ML;rw[List.range_succ,A6];rfl
def XV(n:Int)(a:List Qu)(th k:Nat):(ML n a th k).length=k:=by unfold ML;rw[Ak,List.length_range]
def gF(c:Int)(a:List Qu)(th:Nat):(Kl c a th).length=a.length:=XV _ _ _ _
variable {p:Str×Int}
def Km{b:List Qu}{th:Nat}(d:1<=th)(h:some p∈Kl c b th)(e:p.1=("thing" : Str)):0<=p.2/\p.2<th:=by
 obtain⟨j,_,a⟩:=AN.mp h;unfold O9 at a;split at a;cases a;split at a;cases a;exact absurd e Nl;split at a;cases a;exact absurd e Qp;cases a;exact⟨Fe _ (by lia),Fu _ (by lia)⟩
inductive CK (K:Aj) (vs:List V) (H:Hp) (Q:VK):Prop where
 |mk (c:Int) (nt S T R:Addr) (ts qt:List Addr) (qs:List Qu) (h0:vs=[.int c,.ref nt]) (h1:Al K H nt [.ref S,.ref T,.ref R]) (h2:H T=some (.lst (ts.map V.ref))) (h3:1<=ts.length) (h4:H R=some (.lst (qt.map V.ref))) (h5:QT H qt qs) (h6:qs.length<=100) (h7:(∀q∈qs,1<=q.2.2.length)) (h8:∀(D:Addr)(vs':List V)(H':Hp),H D=none->Ac H H'->H' D=some (.lst vs')->AG (λζ=>False) H' vs' ((Kl c qs ts.length).map Du)->Q (.ref D) H'):CK K vs H Q
def gH (K:Aj):Sp:=λvs H Q ζ=>CK K vs H Q
abbrev QV(P w K mg base):=Br P w K mg base "_law_answers" 1 ["_law_cell", "_law_net"] (gH K)
theorem gI(B:Bt mg)(F:Bm K "_law_answers" "_law_answers" Rs f fd)(hm:mg "_law_answers" = some (.ref f)):QV P w K mg base:=by
 refine BE F hm No (λvs H ai aj h=>?_) (λa9 a4 aB s H vs ai aj hr h=>?_);obtain⟨c,W,ak,T,R,m,X,b,rfl,_⟩:=h;rfl
 . obtain⟨c,W,ak,T,R,m,X,b,rfl,Y,eT,lT,Z,t,aA,ao,al⟩:=h
   refine⟨_,(Am (AK (i:=2) No.nd (AB Bq (AB E9 (pv 0) Ah) Ah))
    (Am (AK (i:=3) No.nd (Cb Ad))
    (Am (Ca B8 rfl (Ct (As At (pv 1) Ah)) (Aw (i:=4) No.nd) (Am (AK (i:=5) No.nd (AB Bq (AB Fg (pv 2) Ah) (BP Ey B.b_len (Ab (As At (pv 4) Ah) Ad))))
     (Am (Dp (Dj Dd EL EM EQ (pv 3) (Ab (As At (Cb (Ab GH (Ab GH (Ab (Bd (Ab Bb (Ab (pv 5) Ad))) (Ab (Bd (Ab Bb (Ab (pv 5) Ad))) (Ab (Bd (Ab Bb (Ab (AB Bq (AB Fg (pv 2) Ah) (BP Ey B.b_len (Ab (As At (pv 1) Ah) Ad))) Ad))) Ad)))))) (BP (Vw rfl) B.b_min (Ab (AB Bq (pv 2) Ah) (Ab Ah Ad)))) Ad)))
     (Au (AK (i:=2) No.nd (AB Fg (pv 2) Ah))))))
    (Au (AH (pv 3)))))),?_⟩
   rfl';refine⟨Or.inr ⟨by decide,by decide⟩,(by show(0:Int)<2305843009213693951;decide),?_⟩;refine⟨by decide,λD u=>?_⟩;obtain⟨a5,aq,y,eD⟩:=new_at (o:=.lst []) u;rw[<-aq];refine Or.inr (Or.inl ⟨_,.ref R,y.seqT Y,rfl,⟨_,Af.of (y _ _ Z)⟩,Eg (xs:=X.map V.ref) (λi σ p=>∃z A a,σ=[some (.int c),some (.ref W),some (.int (O8 (c*864691128455135233%2305843009213693951) i)),some (.ref D),z,A]/\Ac H p/\p D=some (.lst a)/\AG (λζ=>False) p a ((ML (c*864691128455135233%2305843009213693951) b m.length i).map Du)) ⟨none,none,[],rfl,y,eD,.nil⟩ (λi σ p ζ ar=>by obtain⟨_,_,_,_,s,_⟩:=ar;exact Af.of (s _ _ Z)) ?_ ?_⟩);rotate_left;refine λσ an Q=>AL λNz l=>?_;obtain⟨z,A,a,rfl,d,r,g⟩:=Q;refine l ?_;clear l;rw[Ak,t.len] at g;exact al D a _ u d r g;refine λi a6 σ an hy Q=>AL λNz l=>?_;obtain⟨z,A,a,rfl,d,r,g⟩:=Q;refine l ?_;clear l;obtain⟨tq,aa,rfl⟩:=getm hy;have ab:i<b.length:=by rw[<-t.len];exact(Bh.mp aa).1
   have S:=AA ab;obtain⟨pu,ae,af⟩:=t.at_ i _ _ aa S;have au:=ao _ (DX ab);have eg:b.getD i default=b[i]:=by rw[BW,S];rfl
   generalize b[i]=k at ae af au S eg;generalize hn:O8 (c*864691128455135233%2305843009213693951) i=n at *;have ag:(k.2.2.map V.str).length=k.2.2.length:=Ak _;refine⟨⟨by decide,by decide⟩,Or.inr (Or.inl ⟨_,.ref pu,Al.of (d _ _ ae),rfl,_,Or.inr ⟨_,Al.of (d _ _ af),rfl⟩,(by rw[ag];lia),?_⟩)⟩;rw[ag];refine⟨Or.inl ⟨rfl,_,Af.of r⟩,BK,λC av=>?_⟩
   obtain⟨H3,aw,t1,e1⟩:=new_at (o:=.tup [.str "none",.int (n/9%k.2.2.length)]) av;rw[<-aw];refine⟨BK,λJ ax=>?_⟩;obtain⟨H4,ay,E,e2⟩:=new_at (o:=.tup [.str "torn",.int (n/9%k.2.2.length)]) ax;rw[<-ay];have s4:=d.trans (t1.trans E);refine⟨⟨by decide,by decide⟩,Or.inr (Or.inl ⟨_,.ref T,s4.seqT Y,rfl,_,Or.inl ⟨_,Af.of (s4 _ _ eT),rfl⟩,(by rw[Ak];lia),BK,λG az=>?_⟩)⟩;rw[Ak];obtain⟨H5,a0,I,e3⟩:=new_at (o:=.tup [.str "thing",.int (n/9%m.length)]) az;rw[<-a0];refine⟨(by show 5<=sizeLine;decide),λa7 hl=>?_⟩;obtain⟨L,a1,q,el⟩:=new_at (o:=.lst [.non,.non,.ref C,.ref J,.ref G]) hl;rw[<-a1];have m0:=Fe n (by decide:(9:Int)≠0)
   have hk:∃v,Bi [V.non,.non,.ref C,.ref J,.ref G] (if 4<n%9 then 4 else n%9)=some v/\Bs (λζ=>False) L v (Du (O9 n k.2.2.length m.length)):=by
    unfold O9;by_cases k1:n%9<2;rw[Ao (by lia),Ar k1];rcases(show n%9=0\/n%9=1 by lia) with e|e;exact⟨.non,by rw[e];exact Bu (j:=0) rfl,.non⟩;exact⟨.non,by rw[e];exact Bu (j:=1) rfl,.non⟩;rw[Ao k1];by_cases M:n%9=2;rw[Ao (by lia),Ar M];exact⟨.ref C,by rw[M];exact Bu (j:=2) rfl,.tup ((E.trans (I.trans q)) _ _ e1) (.cons (.str _) (.cons (.int _) .nil))⟩;rw[Ao M];by_cases N:n%9=3;rw[Ao (by lia),Ar N];exact⟨.ref J,by rw[N];exact Bu (j:=3) rfl,.tup ((I.trans q) _ _ e2) (.cons (.str _) (.cons (.int _) .nil))⟩;rw[Ao N]
    have k4:(if 4<n%9 then 4 else n%9)=4:=by split<;>lia
    rw[k4];exact⟨.ref G,Bu (j:=4) rfl,.tup (q _ _ e3) (.cons (.str _) (.cons (.int _) .nil))⟩
   obtain⟨v,a2,a3⟩:=hk;have U:=(t1.trans E).trans (I.trans q);have ah:=U _ _ r;have lv:a.length=i:=(by rw[g.length,Ak,XV]);refine⟨(by show(0:Int)<9;decide),_,_,rfl,Or.inl ⟨_,v,Af.of el,a2,_,ah,BL (by lia),?_⟩⟩;have kD:Keeps (·=D) L (upd L D (.lst (a++[v]))):=Keeps.one ah;refine⟨⟨by decide,by decide⟩,?_⟩;refine⟨_,_,a++[v],(by rw[<-hn];rfl),λa8 o e=>?_,Aa,?_⟩;rw[AE (AU e u)];exact U _ _ (d _ _ e);rw[gE,hn,eg,A6];exact((g.same U).keeps kD λx O=>O.elim).snoc (a3.keeps kD λx O=>O.elim)
inductive DL (K:Aj) (vs:List V) (H:Hp) (Q:VK):Prop where
 |mk (t a o:Addr) (inn:V) (ss:List Ce) (n:Int) (k:Nat) (s:Ce) (x:Str) (h0:vs=[.ref t,.int n,.str x]) (h1:n=k) (h2:Al K H t [.ref a,inn,.ref o]) (h3:G6 K H a ss) (h4:ss[k]?=some s) (h5:Q (D0 (EV s.1 x)) H):DL K vs H Q
def gJ (K:Aj):Sp:=λvs H Q ζ=>DL K vs H Q
abbrev QW(P w K mg base):=Br P w K mg base "next_state" 1 ["table", "state", "label"] (gJ K)
theorem gK(B:Bt mg)(F:Bm K "next_state" "next_state" Rt f fd)(D:mg "next_state" = some (.ref f)):QW P w K mg base:=by
 refine BE F D QD (λl H Q E h=>?_) (λae A af s H l Q E hr h=>?_);obtain⟨t,a,o,T,ss,n,k,s,x,rfl,_⟩:=h;rfl;obtain⟨t,a,o,T,ss,n,k,s,x,rfl,rfl,G,⟨l,I,J⟩,L,q⟩:=h;obtain⟨aa,M,U⟩:=J.get' (i:=k) (d:=JH s) (by rw[AX,L];rfl);obtain⟨N,g,e,rfl,W,⟨O,u,C⟩,he⟩:=HV U;have X:=C.len_map
 refine⟨_,(Am (AK (i:=3) QD.nd (As At (As At (As At (pv 0) Ah) (pv 1)) Ah))
  (Am (Ca B8 rfl (Ct (pv 3)) (BU (n:=2) rfl (AD (Aw (i:=4) QD.nd) (AD (Aw (i:=5) QD.nd) BS))) (Au (A5 (Bl BV (pv 4) (pv 2) (A9 _)) (Au (AH (pv 5))) A4)))
  (Au (AH GH)))),?_⟩
 rfl';refine Or.inr (Or.inl ⟨_,.ref a,G,rfl,?_⟩);refine Or.inl ⟨l,.ref N,I,Bu M,?_⟩;refine Or.inr (Or.inl ⟨_,.ref g,W,rfl,?_⟩);refine⟨⟨_,u⟩,Eg (xs:=O) (λi σ v=>∃m r,σ=[some (.ref t),some (.int k),some (.str x),some (.ref g),m,r]/\v=H/\∀q∈s.1.take i,q.1≠x) ⟨none,none,rfl,rfl,λq b=>by simp at b⟩ (λi σ v ζ Z=>by obtain⟨_,_,_,e,_⟩:=Z;exact by rw[e];exact u) ?_ ?_⟩;rintro i ab σ Y R ⟨m,r,rfl,rfl,j⟩;obtain⟨p,t',y,rfl,S⟩:=C.goes_get R;refine⟨_,S,rfl,?_⟩;refine⟨rfl,rfl,?_⟩;refine An (λc=>?_) (λc=>?_);have c:p.1=x:=V.str.inj (A3 c);rw[Tu y c j] at q;exact q;have c:p.1≠x:=λz=>c (AY (by rw[z]));refine⟨_,_,rfl,rfl,λq b=>?_⟩;rw[D7,y] at b;rcases BI.mp b with b|b;exact j q b;rw[A7.mp b];exact c;rintro σ Y ⟨m,r,rfl,rfl,j⟩;rw[X,Cr] at j;rw[Tv j] at q;exact q
inductive Cj (K:Aj) (vs:List V) (H:Hp) (Q:VK):Prop where
 |mk (t S T R A:Addr) (ths:List (Str×Int)) (as:List (C')) (n:Int) (k:Nat) (h0:vs=[.ref t,.ref A,.int n]) (h1:n=k) (h2:k<as.length) (h3:Al K H t [.ref S,.ref T,.ref R]) (h4:C7 K H T ths) (h5:HW K H A as) (h6:GJ ths as) (h7:∀(r:Addr)(H':Hp),H r=none->Ac H H'->H' r=some (.tup [.str (ER ths as n).1,.int (ER ths as n).2])->Q (.ref r) H'):Cj K vs H Q
def gL (K:Aj):Sp:=λvs H Q ζ=>Cj K vs H Q
abbrev UR(P w K mg base):=Br P w K mg base "inside_of_sort" 1 ["net", "answers", "question"] (gL K)
def gM(B:Bt mg)(F:Bm K "inside_of_sort" "inside_of_sort" Ru f fd)(c:mg "inside_of_sort" = some (.ref f)):UR P w K mg base:=by
 refine BE F c QE (λg H Q E h=>?_) (λaa A ab s H g Q E a h=>?_);obtain⟨t,S,T,R,A,e,x,n,k,rfl,_⟩:=h;rfl;obtain⟨t,S,T,R,A,e,x,n,k,rfl,rfl,y,C,D,G,ok,q⟩:=h;obtain⟨g,v,N,I,L⟩:=G.get y
 refine⟨_,(Am (AK (i:=3) QE.nd (As At (pv 1) (pv 2)))
  (Am (A5 (Gj (G4 (pv 3))) (Au (AH (Bd (Ab Bb (Ab (pv 2) Ad))))) A4)
  (Am (A5 (Bl BV (As At (pv 3) Ah) Bb (A9 _)) (Am (D9 (As At (As At (pv 0) Ah) (As At (pv 3) Ah)) (BU (n:=2) rfl (AD (Aw (i:=4) QE.nd) (AD (Aw (i:=5) QE.nd) BS))))
   (Au (A5 (Bl BV (pv 4) Bb (A9 _)) (Au (AH (Bd (Ab Bb (Ab (pv 5) Ad))))) A4))) A4)
  (Au (AH (Bd (Ab Bb (Ab Ah Ad)))))))),?_⟩
 rfl';refine Or.inl ⟨g,v,N,Bu I,?_⟩;rcases L with⟨b,rfl⟩|⟨p,Z,b,rfl,u⟩;refine⟨rfl,An (λζ=>?_) (λh=>absurd (AY rfl) h)⟩;refine⟨BK,λr a=>?_⟩;rw[Zd b] at q;exact q r _ a (AW a) Aa;refine⟨rfl,An (λh=>absurd (A3 h) (by simp)) (λζ=>?_)⟩;refine Or.inr (Or.inl ⟨_,.str p.1,u,rfl,rfl,rfl,An (λh=>?_) (λh=>?_)⟩);have d:p.1=("thing" : Str):=V.str.inj (A3 h);obtain⟨M,p1⟩:=ok.t p (Bc b) d;obtain⟨m,c⟩:=Cz M;have O:m<e.length:=(by lia);have j:=AA O;obtain⟨J,o,U,W,X⟩:=D.get j;have Y:Bi J p.2=some (.ref o):=by rw[c];exact Bu W
 refine Or.inr (Or.inl ⟨_,.ref T,C,rfl,Or.inr (Or.inl ⟨_,.int p.2,u,rfl,Or.inl ⟨J,.ref o,U,Y,?_⟩⟩)⟩);refine⟨_,X,rfl,?_⟩;refine⟨rfl,rfl,An (λh=>?_) (λh=>?_)⟩;have l:e[m].1=("part" : Str):=V.str.inj (A3 h);refine⟨BK,λr a=>?_⟩;rw[Zf b d c j l] at q;exact q r _ a (AW a) Aa;have l:e[m].1≠("part" : Str):=λz=>h (AY (by rw[z]));refine⟨BK,λr a=>?_⟩;rw[Zg b d c j l] at q;exact q r _ a (AW a) Aa;have d:p.1≠("thing" : Str):=λz=>h (AY (by rw[z]));refine⟨BK,λr a=>?_⟩;rw[Ze b d] at q;exact q r _ a (AW a) Aa
inductive Gf (K:Aj) (vs:List V) (H:Hp) (Q:VK):Prop where
 |mk (t S T R A:Addr) (ths:List (Str×Int)) (as:List (C')) (n:Int) (k:Nat) (p:Str×Int) (h0:vs=[.ref t,.ref A,.int n]) (h1:n=k) (h2:ths[k]?=some p) (h3:Al K H t [.ref S,.ref T,.ref R]) (h4:C7 K H T ths) (h5:HW K H A as) (h6:GJ ths as) (h7:∀(r:Addr)(H':Hp),H r=none->Ac H H'->H' r=some (.tup [.str (Ei ths as p).1,.int (Ei ths as p).2])->Q (.ref r) H'):Gf K vs H Q
def gN (K:Aj):Sp:=λvs H Q ζ=>Gf K vs H Q
abbrev QX(P w K mg base):=Br P w K mg base "inside" 2 ["net", "answers", "thing"] (gN K)
def gO(B:Bt mg)(C:UR P w K mg base)(F:Bm K "inside" "inside" Rv f fd)(g:mg "inside" = some (.ref f)):QX P w K mg base:=by
 refine BE F g Uw (λu H Q E h=>?_) (λM A N s H u Q E a h=>?_);obtain⟨t,S,T,R,A,c,b,n,k,p,rfl,_⟩:=h;rfl;obtain⟨t,S,T,R,A,c,b,n,k,p,rfl,rfl,j,l,o,v,ok,q⟩:=h;obtain⟨J,x,D,G,I⟩:=o.get j
 refine⟨_,(Am (D9 (As At (As At (pv 0) Ah) (pv 2)) (BU (n:=2) rfl (AD (Aw (i:=3) Uw.nd) (AD (Aw (i:=4) Uw.nd) BS))))
  (Am (A5 (Bl BV (pv 3) Bb (A9 _)) (Au (AH (Bd (Ab Bb (Ab (pv 4) Ad))))) A4)
  (Am (A5 (Bl BV (pv 3) Bb (A9 _)) (Au (AH (AR C (Ab (pv 0) (Ab (pv 1) (Ab (pv 4) Ad)))))) A4)
  (Au (AH (Bd (Ab Bb (Ab Ah Ad)))))))),?_⟩
 rfl';refine Or.inr (Or.inl ⟨_,.ref T,l,rfl,Or.inl ⟨J,.ref x,D,Bu G,?_⟩⟩);refine⟨_,I,rfl,?_⟩;refine⟨rfl,rfl,An (λh=>?_) (λh=>?_)⟩;have d:p.1=("part" : Str):=V.str.inj (A3 h);refine⟨BK,λr a=>?_⟩
 rw[show Ei c b p=(("to" : Str),p.2) from Ar d] at q
 exact q r _ a (AW a) Aa;have d:p.1≠("part" : Str):=λz=>h (AY (by rw[z]));refine⟨rfl,rfl,An (λh=>?_) (λh=>?_)⟩;have e:p.1=("sort" : Str):=V.str.inj (A3 h)
 obtain⟨y,L⟩:=ok.q p (Bc j) e;obtain⟨m,g⟩:=Cz y;rw[show Ei c b p=ER c b p.2 from(Ao d).trans (Ar e)] at q;exact⟨t,S,T,R,A,c,b,p.2,m,rfl,g,by lia,l,o,v,ok,q⟩
 have e:p.1≠("sort" : Str):=λz=>h (AY (by rw[z]));refine⟨BK,λr a=>?_⟩
 rw[show Ei c b p=(("no" : Str),0) from(Ao d).trans (Ao e)] at q
 exact q r _ a (AW a) Aa
inductive IC (K:Aj) (vs:List V) (H:Hp) (Q:VK):Prop where
 |mk (t S T R A st:Addr) (ths:List (Str×Int)) (as:List (C')) (p:CA) (h0:vs=[.ref t,.ref A,.ref st]) (h1:Al K H t [.ref S,.ref T,.ref R]) (h2:C7 K H T ths) (h3:HW K H A as) (h4:GJ ths as) (h5:Al K H st (G7 p)) (h6:(p.2.1≠("to" : Str)->0<=p.2.2/\p.2.2<as.length)) (h7:∀(r:Addr)(H':Hp),H r=none->Ac H H'->H' r=some (.tup [.str (ES ths as p).1,.int (ES ths as p).2])->Q (.ref r) H'):IC K vs H Q
def Kn (K:Aj):Sp:=λvs H Q ζ=>IC K vs H Q
abbrev US(P w K mg base):=Br P w K mg base "goal" 3 ["net", "answers", "step"] (Kn K)
def gP(B:Bt mg)(U:QX P w K mg base)(F:Bm K "goal" "goal" Rx f fd)(e:mg "goal" = some (.ref f)):US P w K mg base:=by
 refine BE F e OR (λg H Q E h=>?_) (λaa A ab s H g Q E a h=>?_);obtain⟨t,S,T,R,A,D,o,u,p,rfl,_⟩:=h;rfl;obtain⟨t,S,T,R,A,D,o,u,p,rfl,G,I,x,ok,W,J,q⟩:=h
 refine⟨_,(Am (D9 (pv 2) (BU (n:=3) rfl (AD (Aw (i:=3) OR.nd) (AD (Aw (i:=4) OR.nd) (AD (Aw (i:=5) OR.nd) BS)))))
  (Am (A5 (Bl BV (pv 4) Bb (A9 _)) (Au (AH (Bd (Ab Bb (Ab (pv 5) Ad))))) A4)
  (Am (AK (i:=6) OR.nd (As At (pv 1) (pv 5)))
  (Am (A5 (Gj (G4 (pv 6))) (Au (AH (Bd (Ab Bb (Ab (pv 5) Ad))))) A4)
  (Am (A5 (Bl BV (As At (pv 6) Ah) Bb (A9 _)) (Au (AH (AR U (Ab (pv 0) (Ab (pv 1) (Ab (As At (pv 6) Ah) Ad)))))) A4)
  (Au (AH (Bd (Ab Bb (Ab Ah Ad)))))))))),?_⟩
 rfl';refine⟨_,W,rfl,?_⟩;refine⟨rfl,rfl,An (λh=>?_) (λh=>?_)⟩;have b:p.2.1=("to" : Str):=V.str.inj (A3 h);refine⟨BK,λr a=>?_⟩;rw[Zi b] at q;exact q r _ a (AW a) Aa;have b:p.2.1≠("to" : Str):=λz=>h (AY (by rw[z]));obtain⟨L,Z⟩:=J b;obtain⟨n,j⟩:=Cz L;obtain⟨g,v,X,M,N⟩:=x.get (k:=n) (by lia);have Y:Bi g p.2.2=some v:=by rw[j];exact Bu M
 refine Or.inl ⟨g,v,X,Y,?_⟩;rcases N with⟨d,rfl⟩|⟨c,ta,d,rfl,y⟩;refine⟨rfl,An (λζ=>?_) (λh=>absurd (AY rfl) h)⟩;refine⟨BK,λr a=>?_⟩;rw[Zj b j d] at q;exact q r _ a (AW a) Aa;refine⟨rfl,An (λh=>absurd (A3 h) (by simp)) (λζ=>?_)⟩;refine Or.inr (Or.inl ⟨_,.str c.1,y,rfl,rfl,rfl,An (λh=>?_) (λh=>?_)⟩);have l:c.1=("thing" : Str):=V.str.inj (A3 h);obtain⟨O,q1⟩:=ok.t c (Bc d) l;obtain⟨m,e⟩:=Cz O;have C:=AA (show m<o.length by lia);rw[Zl b j d l e C] at q;exact Or.inr (Or.inl ⟨_,.int c.2,y,rfl,t,S,T,R,A,o,u,c.2,m,_,rfl,e,C,G,I,x,ok,q⟩);have l:c.1≠("thing" : Str):=λz=>h (AY (by rw[z]));refine⟨BK,λr a=>?_⟩;rw[Zk b j d l] at q;exact q r _ a (AW a) Aa
def Ko:([]:List V).length+1+1+1+1<=sizeLine:=by decide
variable {W:Wd}
def gQ(h:W.sts[k]?=some s):Dv W (k:Int)=s.1:=by unfold Dv;rw[Bw,h]
def gR{s:Bg}(h:W.ss[k]?=some s):By W (k:Int)=s.1:=by unfold By;rw[Bw,h]
def gS{b:Int}{go:List (Str×Int)}{p:CA}{a:Int}(h:EV go p.1=some a):F9 W b go p i=[((b,("step" : Str),(i:Int)),ES W.gs W.as p,a)]:=by unfold F9;rw[h]
def gT{a:Int}{go:List (Str×Int)}{p:CA}(h:EV go p.1=none):F9 W a go p i=[]:=by unfold F9;rw[h]
inductive DM (K:Aj) (vs:List V) (H:Hp) (Q:VK):Prop where
 |mk (nt A t:Addr) (W:Wd) (sc st:Int) (h0:vs=[.ref nt,.ref A,.ref t,.int sc,.int st]) (h1:A1 K H nt A t W) (h2:Ck W) (h3:(0<=sc/\sc<W.ss.length)) (h4:(0<=st/\st<W.sts.length)) (h5:∀(D:Addr)(zs:List (Addr×Gn))(H':Hp),H D=none->Ac H H'->H' D=some (.lst (zs.map λz=>V.ref z.1))->(∀z∈zs,KU H' z.1 z.2)->zs.map (·.2)=H1 W sc st->Q (.ref D) H'):DM K vs H Q
def gU (K:Aj):Sp:=λvs H Q ζ=>DM K vs H Q
abbrev QY(P w K mg base):=Br P w K mg base "steps_gone" 4 ["net", "answers", "table", "scope", "state"] (gU K)
theorem gW(B:Bt mg)(a1:QW P w K mg base)(a2:US P w K mg base)(F:Bm K "steps_gone" "steps_gone" Ry f fd)(d:mg "steps_gone" = some (.ref f)):QY P w K mg base:=by
 refine BE F d Ms (λvs aa ao aq h=>?_) (λaO A aQ s aa vs ao aq hr h=>?_);obtain⟨E,A,t,W,sc,ay,rfl,_⟩:=h;rfl
 . obtain⟨E,A,t,W,sc,ay,rfl,G,ok,a3,a4,ar⟩:=h
   obtain⟨ab,au,av,us,Gs,Es,ts,qt,qs,eN,y⟩:=G.net;obtain⟨a,o,a5,b1,aw,b2,b3⟩:=G.tab;obtain⟨n,hn⟩:=Cz a3.1;obtain⟨k,hk⟩:=Cz a4.1;subst hn hk;have T:n<W.ss.length:=(by lia);have a6:k<W.sts.length:=(by lia);obtain⟨ae,ag,E1,az,aM,aN,g4,⟨c0,⟨tG,c1,H⟩,_⟩⟩:=y.sc.get T;have ai:=AA a6;have l:=gR g4;have eG:=gQ ai;have a7:Bi (us.map V.ref) (n:Int)=some (.ref ae):=Bu (by rw[AX,az];rfl);have aP:=ok.st _ (DX T)
   refine⟨_,(Am (AK (i:=5) Ms.nd (Cb Ad))
    (Am (Ca B8 rfl (Qh LK rfl B.b_enumerate (Ab (As At (As At (As At (pv 0) Ah) (pv 3)) Ah) Ad)) (BU (n:=2) rfl (AD (Aw (i:=6) Ms.nd) (AD (Aw (i:=7) Ms.nd) BS))) (Am (AK (i:=8) Ms.nd (AR a1 (Ab (pv 2) (Ab (pv 4) (Ab (As At (pv 7) Ah) Ad)))))
     (Au (A5 (Gj (NH (pv 8))) (Am (D9 (AR a2 (Ab (pv 0) (Ab (pv 1) (Ab (pv 7) Ad)))) (BU (n:=2) rfl (AD (Aw (i:=9) Ms.nd) (AD (Aw (i:=10) Ms.nd) BS))))
      (Au (Dp (Dj Dd EL EM EQ (pv 5) (Ab (Bd (Ab (Bd (Ab (pv 3) (Ab Bb (Ab (pv 6) Ad)))) (Ab (pv 9) (Ab (pv 10) (Ab (pv 8) Ad))))) Ad))))) A4))))
    (Au (AH (pv 5))))),?_⟩
   rfl';refine⟨by decide,λD I=>?_⟩;obtain⟨aJ,a8,q,a9⟩:=new_at (o:=.lst []) I;rw[<-a8];refine Or.inr (Or.inl ⟨_,.ref ab,Al.of (q _ _ eN),rfl,Or.inl ⟨_,.ref ae,Af.of (q _ _ y.sc.top),a7,Or.inr (Or.inl ⟨_,.ref ag,Al.of (q _ _ c0),rfl,ag,rfl,⟨_,q _ _ c1⟩,?_⟩)⟩⟩)
   refine Qj LK (xs:=tG.map V.ref) (λi σ C=>∃J L M N U c,σ=[some (.ref E),some (.ref A),some (.ref t),some (.int n),some (.int k),some (.ref D),J,L,M,N,U]/\Ac aa C/\C D=some (.lst (c.map λz:Addr×Gn=>V.ref z.1))/\(∀z∈c,KU C z.1 z.2)/\c.map (·.2)=Fy W n (Dv W k) ((By W n).take i) 0)
    ⟨none,none,none,none,none,[],rfl,q,a9,λz g=>by simp at g,by rw[EF];rfl⟩ (λi σ C aA=>by obtain⟨_,_,_,_,_,_,_,s,_⟩:=aA;exact Af.of (s _ _ c1)) ?_ ?_
   rotate_left;refine λσ ah X=>AL λNz u=>?_;obtain⟨J,L,M,N,U,c,rfl,O,v,g,d⟩:=X;refine u ?_;clear u;refine ar D c ah I O v g ?_;rw[d,Ak,H.len,l,Cr];unfold H1;rw[l];refine λi x T' σ ah hx aB X=>AL λNz u=>?_;obtain⟨J,L,M,N,U,c,rfl,O,v,g,d⟩:=X;refine u ?_;clear u;obtain⟨Q,aj,rfl⟩:=getm hx;have ak:i<W.ss[n].1.length:=by rw[<-H.len];exact(Bh.mp aj).1
   have R:=AA ak;have Y:=H.at_ i Q _ aj R;have mp:=DX ak;generalize W.ss[n].1[i]=p at R Y mp;obtain⟨H3,aC,j,aD⟩:=new_at (o:=.tup [.int i,.ref Q]) aB;rw[<-aC];have b:=O.trans j
   have al:Fy W n (Dv W k) ((By W n).take (i+1)) 0=Fy W n (Dv W k) ((By W n).take i) 0++F9 W n (Dv W k) p i:=by
    rw[D7,l,R];show Fy W n (Dv W k) (W.ss[n].1.take i++[p]) 0=_;rw[Wi,EJ,Nat.zero_add,Nat.min_eq_left (by lia)]
   refine⟨_,Al.of aD,rfl,?_⟩;refine Or.inr (Or.inl ⟨_,.str p.1,Al.of (b _ _ Y),rfl,t,a,o,a5,W.sts,k,k,_,p.1,rfl,rfl,b.seqT b1,⟨aw,b.seq b2,b3.same b⟩,ai,?_⟩);rw[<-eG]
   cases eg:EV (Dv W k) p.1 with
   |none =>
     refine⟨rfl,An (λh=>absurd h (by simp[D0])) (λζ=>?_)⟩;refine⟨_,_,_,_,_,c,rfl,b,j _ _ v,λz h=>(g z h).same j,?_⟩;rw[al,gT eg,EK,d]
   |some af =>
     refine⟨rfl,An (λζ=>?_) (λh=>absurd (by simp[D0]) h)⟩;refine⟨E,ab,au,av,A,Q,W.gs,W.as,p,rfl,Al.of (b _ _ eN),⟨_,Af.of (b _ _ y.et),(y.tg.same b).dts⟩,G.ans.same b,ok.net,Al.of (b _ _ Y),λe=>ok.by_ (DX T) mp e,λaK H4 hr s4 er=>?_⟩;refine⟨_,Al.of er,rfl,?_⟩;have aE:=s4 _ _ (j _ _ v);refine⟨Or.inl ⟨rfl,_,Af.of aE⟩,JI,λm aF=>?_⟩;obtain⟨H5,aG,s5,a0⟩:=new_at (o:=.tup [.int n,.str "step",.int i]) aF;rw[<-aG];refine⟨Ko,λz aH=>?_⟩;obtain⟨H6,aI,s6,ez⟩:=new_at (o:=.tup [.ref m,.str (ES W.gs W.as p).1,.int (ES W.gs W.as p).2,D0 (some af)]) aH;rw[<-aI];have Z:=(s4.trans s5).trans s6;have an:=Z _ _ (j _ _ v);have S:Keeps (·=D) H6 (upd H6 D (.lst (c.map (λz=>V.ref z.1)++[.ref z]))):=Keeps.one an
     have lz:c.length<=8:=by
      have e1:=BB List.length d;have e2:=L0 W n (Dv W k) ((By W n).take i) 0;rw[EJ,l] at e2;rw[Ak] at e1;rw[l] at e1;lia
     refine⟨_,an,by rw[Ak];exact BL (by lia),?_⟩;refine⟨_,_,_,_,_,c++[(z,(((n:Int),("step" : Str),(i:Int)),ES W.gs W.as p,af))],rfl,λaL o e=>?_,by rw[Aa,A6];rfl,λax r=>?_,?_⟩;rw[AE (AU e I)];exact Z _ _ (b _ _ e);rcases BI.mp r with r|r;exact((g ax r).same (j.trans Z)).keeps S;rw[A7.mp r];exact⟨m,S.tup ez,S.tup (s6 _ _ a0)⟩;rw[al,gS eg,A6,d];rfl
variable {b:AO}
def gX{r:Gn}(a:r.2.1.1=("to" : Str))(c:r.2.1.2∉AM b):kid b r=some (b.1++[r.1],r.2.1.2,r.2.2):=Ar ⟨a,c⟩
def gY{r:Gn}(h:¬(r.2.1.1=("to" : Str)/\r.2.1.2∉AM b)):kid b r=none:=Ao h
def Kp(f:α->Option β)(l:List α)(x:α):(l++[x]).filterMap f=l.filterMap f++(f x).toList:=by
 rw[List.filterMap_append];cases e:f x<;>simp[e]
def gZ(b:AO):(AM b).length=b.1.length+1:=by unfold AM;simp
inductive B1 (K:Aj) (vs:List V) (H:Hp) (Q:VK):Prop where
 |mk (nt A t bt:Addr) (W:Wd) (b:AO) (h0:vs=[.ref nt,.ref A,.ref t,.ref bt]) (h1:A1 K H nt A t W) (h2:Ck W) (h3:BX W b) (h4:(∃F,Dl F H bt b)) (h5:∀(D:Addr)(zs:List (Addr×AO))(H':Hp),H D=none->Ac H H'->H' D=some (.lst (zs.map λz=>V.ref z.1))->(∀z∈zs,Dl (λl=>H l=none/\l≠D) H' z.1 z.2)->zs.map (·.2)=C8 W b->Q (.ref D) H'):B1 K vs H Q
def g0 (K:Aj):Sp:=λvs H Q ζ=>B1 K vs H Q
abbrev UT(P w K mg base):=Br P w K mg base "longer_by_a_step" 5 ["net", "answers", "table", "beginning"] (g0 K)
def g8(B:Bt mg)(a3:QY P w K mg base)(F:Bm K "longer_by_a_step" "longer_by_a_step" Pr f fd)(d:mg "longer_by_a_step" = some (.ref f)):UT P w K mg base:=by
 refine BE F d IY (λvs H ay az h=>?_) (λaL A aP s H vs ay az hr h=>?_);obtain⟨nt,A,t,bt,W,b,rfl,_⟩:=h;rfl
 . obtain⟨nt,A,t,bt,W,b,rfl,hC,ok,U,⟨F,l,g,E,q,j,_⟩,a0⟩:=h
   have aM:g.length<=100:=by
    have:=KS W.ss.length (AM b) U.nd U.rng;rw[gZ] at this;have:=ok.s5;rw[j.len];lia
   have a4:=U.rng b.2.1 (by unfold AM;simp)
   refine⟨_,(Am (D9 (pv 3) (BU (n:=3) rfl (AD (Aw (i:=4) IY.nd) (AD (Aw (i:=5) IY.nd) (AD (Aw (i:=6) IY.nd) BS)))))
    (Am (AK (i:=7) IY.nd (AB KJ (HQ (te:=Hl (LA K) (Cs 0) (tC (.int ((0:Nat):Int)))) rfl BH (Ct (pv 4)) (λζ ζ ζ ζ ζ=>(Aw (i:=0) BH.nd)) (λζ ζ ζ ζ ζ=>HP) (λζ ζ ζ ζ ζ=>(As At (pv 0) Ah))) (Cb (Ab (pv 5) Ad))))
    (Am (AK (i:=8) IY.nd (Cb Ad))
    (Am (Ca B8 rfl (Ct (AR a3 (Ab (pv 0) (Ab (pv 1) (Ab (pv 2) (Ab (pv 5) (Ab (pv 6) Ad))))))) (BU (n:=4) rfl (AD (Aw (i:=9) IY.nd) (AD (Aw (i:=10) IY.nd) (AD (Aw (i:=11) IY.nd) (AD (Aw (i:=12) IY.nd) BS))))) (Au (A5 (PW.pt (Gx (Bl BV (pv 10) Bb (A9 _)) (Gw (Bl (Y3 hr.units) (pv 11) (pv 7) (by with_unfolding_all rfl))))) (Au (Dp (Dj Dd EL EM EQ (pv 8) (Ab (Bd (Ab (AB KJ (pv 4) (Cb (Ab (pv 9) Ad))) (Ab (pv 11) (Ab (pv 12) Ad)))) Ad)))) A4)))
    (Au (AH (pv 8))))))),?_⟩
   rfl';refine⟨_,Al.of E,rfl,?_⟩
   refine⟨⟨_,Af.of q⟩,Oj (xs:=g.map V.ref) (λD i J p=>Ac H p/\p D=some (.lst J)/\J=(b.1.take i).map λm=>V.int m.1)
    (λD r=>⟨AW r,Aa,by rw[EF];rfl⟩) (λD i J p ag=>by obtain⟨s,_⟩:=ag;exact Af.of (s _ _ q)) (λD i x J af RR r M hv k=>?_) (λa1 J aI aN hv=>?_)⟩
   obtain⟨N,eD,rfl⟩:=hv;obtain⟨tm,aq,rfl⟩:=getm M;have a5:i<b.1.length:=by rw[<-j.len];exact(Bh.mp aq).1
   have d:=AA a5;have a6:=j.at_ i tm _ aq d;have aa:b.1.take (i+1)=b.1.take i++[b.1[i]]:=by rw[D7,d];rfl
   have a7:=j.len;refine Or.inr (Or.inl ⟨_,.int b.1[i].1,Al.of (N _ _ a6),rfl,?_⟩);refine k _ _ eD (by rw[Ak,EJ];exact BL (by lia)) ⟨λx o e=>?_,Aa,by rw[aa,A6];rfl⟩;rw[AE (AU e r)];exact N _ _ e;obtain⟨s1,eC,rfl⟩:=hv;rw[Ak,j.len,Cr] at eC;refine⟨IS,λC2 a8=>?_⟩;obtain⟨af,a9,N,aA⟩:=new_at (o:=.lst [.int b.2.1]) a8;rw[<-a9];have a7:=j.len;refine⟨a1,C2,_,_,rfl,rfl,N _ _ eC,aA,?_,λB hB=>?_⟩;rw[Ak];exact CQ (BL (by show b.1.length+1<=1000;lia));have s3:=AW (o:=.lst ((b.1.map λm=>V.int m.1)++[.int b.2.1])) hB
   have X:(upd af B (.lst ((b.1.map λm=>V.int m.1)++[.int b.2.1]))) B=some (.lst ((AM b).map V.int)):=by
    rw[Aa];unfold AM
    simp
   generalize upd af B (.lst ((b.1.map λm=>V.int m.1)++[.int b.2.1]))=H3 at s3 X ⊢;have ar:=(s1.trans N).trans s3;refine⟨by decide,λD r=>?_⟩;have ab:H D=none:=ar.free r;obtain⟨H4,aB,s4,ah⟩:=new_at (o:=.lst []) r;rw[<-aB];have au:=ar.trans s4;refine⟨nt,A,t,W,b.2.1,b.2.2,rfl,hC.same au,ok,a4,U.st,λaJ u H5 hG Y eG aC av=>⟨⟨_,Af.of eG⟩,?_⟩⟩;have ae:=au.trans Y
   have aO:u.length<=8:=by
    have E:=BB List.length av;have q:=L0 W b.2.1 (Dv W b.2.2) (By W b.2.1) 0;have j:=P4 ok b.2.1;rw[Ak] at E;unfold H1 at E;lia
   refine Eg (xs:=u.map λz=>V.ref z.1) (λi σ p=>∃u9 ai aj ak a,σ=[some (.ref nt),some (.ref A),some (.ref t),some (.ref bt),some (.ref l),some (.int b.2.1),some (.int b.2.2),some (.ref B),some (.ref D),u9,ai,aj,ak]/\Keeps (·=D) H5 p/\p D=some (.lst (a.map λz:Addr×AO=>V.ref z.1))/\(∀z∈a,Dl (λl=>H l=none/\l≠D) p z.1 z.2)/\a.map (·.2)=((u.map (·.2)).take i).filterMap (kid b))
    ⟨none,none,none,none,[],rfl,Keeps.refl λx o m e=>by rw[m,Y _ _ ah] at e;exact⟨_,(BJ e).symm⟩,Y _ _ ah,λz v=>by simp at v,by rw[EF];rfl⟩ (λi σ p ζ ag=>by obtain⟨_,_,_,_,_,_,k,_⟩:=ag;exact Af.of (k.at_ _ _ eG λz=>by rw[z,ah] at hG;cases hG)) ?_ ?_
   rotate_left;refine λσ H6 I=>AL λNz S=>?_;obtain⟨u9,ai,aj,ak,a,rfl,c,C,v,d⟩:=I;refine S ?_;clear S;refine a0 D a H6 ab (λx o e=>?_) C v ?_;exact c.at_ _ _ (ae _ _ e) (AU e ab);rw[d,Ak,<-Ak (f:=(·.2)),Cr,av];rfl;refine λi x σ H6 M I=>AL λNz S=>?_;obtain⟨u9,ai,aj,ak,a,rfl,c,C,v,d⟩:=I;refine S ?_;clear S;refine Hb ?_;intro Nx Cy;obtain⟨z,I,rfl⟩:=getm M;obtain⟨m,al,an⟩:=aC z (Bc I);have al:=c.tup al;have an:=c.tup an
   have aa:((u.map (·.2)).take (i+1)).filterMap (kid b)=((u.map (·.2)).take i).filterMap (kid b)++(kid b z.2).toList:=by
    rw[D7,AX,I];exact Kp _ _ _
   have lz:a.length<=8:=by
    have E:=BB List.length d;have q:=List.length_filterMap_le (kid b) ((u.map (·.2)).take i);rw[EJ,Ak] at q;rw[Ak] at E;lia
   refine⟨_,Al.of al,rfl,?_⟩
   have skip:¬(z.2.2.1.1=("to" : Str)/\z.2.2.1.2∉AM b)->a.map (·.2)=((u.map (·.2)).take (i+1)).filterMap (kid b):=λhn=>by
    rw[aa,gY hn,d];simp
   have aD:=c.at_ _ _ ((s4.trans Y) _ _ X) (λz=>by rw[z,r] at X;cases X);refine⟨rfl,rfl,An (λO=>?_) (λO=>Bp ?_)⟩;rotate_left;exact⟨_,_,_,_,a,rfl,c,C,v,skip λh=>O (AY (by rw[h.1]))⟩;have O:z.2.2.1.1=("to" : Str):=V.str.inj (A3 O);refine⟨2,.int z.2.2.1.2,(AM b).map Dt.int,B,_,λaK hd=>?_,by decide,.int _,rfl,Af.of aD,Ni _,rfl,An (λG=>?_) (λG=>?_)⟩;obtain⟨y,_,rfl⟩:=AN.mp hd;exact .int _ _;rotate_left;refine⟨_,_,_,_,a,rfl,c,C,v,skip λh=>G ?_⟩;rw[Go λz=>h.2 (GK.mp z)];rfl
   have G:z.2.2.1.2∉AM b:=λz=>by
    rw[Fa (GK.mpr z)] at G;cases G
   have aE:=c.at_ _ _ (ae _ _ q) (AU q ab);refine⟨Or.inl ⟨rfl,_,Af.of C⟩,IS,λa2 hM=>?_⟩;obtain⟨H7,aF,Z,eM⟩:=new_at (o:=.lst [.ref m]) hM;rw[<-aF];refine⟨l,a2,_,_,rfl,rfl,Z _ _ aE,eM,by rw[Ak];exact CQ (BL (by show g.length+1<=1000;lia)),λL hL=>?_⟩
   have aG:H L=none:=by
    have h6:=Z.free hL
    cases e:H L with
    |none=>rfl
    |some o=>rw[c.at_ _ _ (ae _ _ e) (AU e ab)] at h6;cases h6
   have aw:L≠D:=λy=>by rw[y,Z _ _ C] at hL;cases hL
   have s8:=AW (o:=.lst (g.map V.ref++[.ref m])) hL;have eL:(upd H7 L (.lst (g.map V.ref++[.ref m]))) L=some (.lst ((g++[m]).map V.ref)):=by rw[Aa,A6];rfl
   generalize upd H7 L (.lst (g.map V.ref++[.ref m]))=H8 at s8 eL ⊢;refine⟨JI,λao hr=>?_⟩;obtain⟨H9,aH,s9,er⟩:=new_at (o:=.tup [.ref L,.int z.2.2.1.2,.int z.2.2.2]) hr;rw[<-aH];have T:=(Z.trans s8).trans s9;have ax:=T _ _ C;have Q:Keeps (·=D) H9 (upd H9 D (.lst (a.map (λz=>V.ref z.1)++[.ref ao]))):=Keeps.one ax;refine⟨_,ax,by rw[Ak];exact BL (by lia),?_⟩;refine⟨_,_,_,_,a++[(ao,(b.1++[z.2.1],z.2.2.1.2,z.2.2.2))],rfl,⟨λx o e n=>?_,c.ls⟩,by rw[Aa,A6];rfl,λy R=>?_,?_⟩;rw[AE n];exact T _ _ (c.at_ x o e n);rcases BI.mp R with R|R;exact((v y R).same T).keeps Q λx M=>M.2;rw[A7.mp R];refine⟨L,g++[m],Q.tup er,Q.at_ _ _ (s9 _ _ eL) aw,?_,aG,aw⟩;refine RT.snoc ?_ (Q.tup ((T) _ _ an));exact((j.same ae).keeps c |>.same T).keeps Q;rw[aa,gX O G,A6,d];rfl
inductive DN (K:Aj) (vs:List V) (H:Hp) (Q:VK):Prop where
 |mk (nt A t:Addr) (W:Wd) (sc st:Int) (h0:vs=[.ref nt,.ref A,.ref t,.int sc,.int st]) (h1:A1 K H nt A t W) (h2:Ck W) (h3:(0<=sc/\sc<W.ss.length)) (h4:(0<=st/\st<W.sts.length)) (h5:∀(D:Addr)(zs:List (Addr×AO))(H':Hp),H D=none->Ac H H'->H' D=some (.lst (zs.map λz=>V.ref z.1))->(∀z∈zs,Dl (λl=>H l=none/\l≠D) H' z.1 z.2)->C9 W sc st (zs.map (·.2))->Q (.ref D) H'):DN K vs H Q
def g9 (K:Aj):Sp:=λvs H Q ζ=>DN K vs H Q
abbrev Nv(P w K mg base):=Br P w K mg base "beginnings" 6 ["net", "answers", "table", "scope", "state"] (g9 K)
theorem hE(B:Bt mg)(aq:UT P w K mg base)(F:Bm K "beginnings" "beginnings" Rz f fd)(hm:mg "beginnings" = some (.ref f)):Nv P w K mg base:=by
 refine BE F hm QF (λvs H al an h=>?_) (λaC A aE s H vs al an Y h=>?_);obtain⟨L,A,t,W,g,j,rfl,_⟩:=h;rfl
 . obtain⟨L,A,t,W,g,j,rfl,hC,ok,Q,R,ao⟩:=h
   refine⟨_,(Am (AK (i:=5) QF.nd (Cb (Ab (Bd (Ab (Cb Ad) (Ab (pv 3) (Ab (pv 4) Ad)))) Ad)))
    (Am (AK (i:=6) QF.nd Ah)
    (Am (Yi B8 (Bl GI (pv 6) (BP Ey B.b_len (Ab (pv 5) Ad)) (A9 _)) (Am (Dp (Dj Dd PySem.F.slot_list_extend PySem.F.type_list_extend Oh (pv 5) (Ab (AR aq (Ab (pv 0) (Ab (pv 1) (Ab (pv 2) (Ab (As At (pv 5) (pv 6)) Ad))))) Ad)))
     (Am (A5 (Bl HC (BP Ey B.b_len (Ab (pv 5) Ad)) (Jg (v:=.int 200) rfl (Classical.choose_spec B.c_MOST_BEGINNINGS) ⟨_,rfl⟩) (A9 _)) (Au Yg) A4)
     (Au (JJ (i:=6) QF.nd rfl (Or.inl rfl) Ah Jm)))))
    (Au (AH (BP (Zs L1 F8 F8 Y.units (by decide) (by decide) (by decide)) B.b_sorted (Ab (pv 5) Ad))))))),?_⟩
   rfl';refine⟨by decide,λl hl=>?_⟩;obtain⟨a8,ar,s1,el⟩:=new_at (o:=.lst []) hl;rw[<-ar];refine⟨JI,λaf Y=>?_⟩;obtain⟨a9,au,Z,er⟩:=new_at (o:=.tup [.ref l,.int g,.int j]) Y;rw[<-au];refine⟨IS,λD hD=>?_⟩;have ag:=s1.trans Z;have av:H D=none:=ag.free hD;have aw:l≠D:=AU (Z _ _ el) hD;obtain⟨H3,ax,s3,ay⟩:=new_at (o:=.lst [.ref af]) hD;rw[<-ax];have az:=ag.trans s3;refine A0 ?_;cbv;refine S6 ?_;cbv;refine IR (λσ' d=>∃(u6:V)(a:List (Addr×AO)),σ'=[some (.ref L),some (.ref A),some (.ref t),some (.int g),some (.int j),some (.ref D),some u6]/\Ac H d/\d D=some (.lst (a.map λz=>V.ref z.1))/\(∀z∈a,Dl (λl=>H l=none/\l≠D) d z.1 z.2)/\G8 W g j (a.map λz:Addr×AO=>z.2) (a.map λz:Addr×AO=>z.2).length) ?_ (λaA hN=>?_);refine λσ' H4 S=>AL λNz C=>?_;obtain⟨u6,a,rfl,I,E,k,u⟩:=S;refine C ?_;clear C;have hf:=u.few ok Q R;rw[Ak] at hf;refine⟨D,a.map λz=>(V.ref z.1,z.2),rfl,?_,by rw[Ak];lia,λy M=>?_,λD2 G hp hs U=>?_⟩;rw[EE];exact Af.of E;obtain⟨z,T,rfl⟩:=AN.mp M;exact(k z T).dt;have n:=AW (o:=.lst (G.map (·.1))) U
   obtain⟨c,rfl⟩:∃c:List (Addr×AO),G=c.map λz=>(V.ref z.1,z.2):=by
    have:∀{l:List (Eb Ec)},(∀y∈l,y∈a.map λz=>((V.ref z.1,z.2):Eb Ec))->∃c:List (Addr×AO),l=c.map λz=>(V.ref z.1,z.2):=by
     intro l
     induction l with
     |nil=>exact λζ=>⟨[],rfl⟩
     |cons y l ih =>
       intro h;obtain⟨c,rfl⟩:=ih λz k=>h z (DW _ k);obtain⟨z,_,rfl⟩:=AN.mp (h y B2);exact⟨z::c,rfl⟩
    exact this λy M=>hp.mem_iff.mp M
   have N:(c.map λz=>((V.ref z.1,z.2):Eb Ec)).map (·.2)=c.map (·.2):=by rw[EE];rfl
   have O:(c.map λz=>((V.ref z.1,z.2):Eb Ec)).map (·.1)=c.map λz=>V.ref z.1:=by rw[EE];rfl
   have a0:(c.map (·.2)).Perm (a.map (·.2)):=by
    have:=hp.map (·.2)
    rwa [N,EE] at this
   rw[N] at hs;rw[O] at n ⊢
   have nm:∀z∈c,z∈a:=λz T=>by
    have:=hp.mem_iff.mp (AN.mpr ⟨z,T,rfl⟩);obtain⟨y,M,e⟩:=AN.mp this;injection e with O N;have:y=z:=Prod.ext (V.ref.inj O) N;rw[<-this];exact M
   refine ao D2 c _ (I.free U) (I.trans n) Aa (λz T=>?_) (u.all ok Q R a0 hs);refine((k z (nm z T)).mono' ?_).same n;intro x o ex q;exact⟨q.1,λy=>by rw[y,U] at ex;cases ex⟩;refine⟨λm σ d=>∃(p:Nat)(a:List (Addr×AO)),σ=[some (.ref L),some (.ref A),some (.ref t),some (.int g),some (.int j),some (.ref D),some (.int p)]/\Ac H d/\d D=some (.lst (a.map λz=>V.ref z.1))/\(∀z∈a,Dl (λl=>H l=none/\l≠D) d z.1 z.2)/\G8 W g j (a.map λz:Addr×AO=>z.2) p/\m=62-p,⟨_,0,[(af,([],g,j))],rfl,az,ay,λz k=>?_,G8.start W g j,rfl⟩,?_⟩;rw[A7.mp k];exact⟨l,[],s3 _ _ er,(Z.trans s3) _ _ el,RT.nil,hl,aw⟩;refine λm σ H4 S=>AL λNz C=>?_;obtain⟨p,a,rfl,I,E,k,u,aB⟩:=S;refine C ?_;clear C;have hf:=u.few ok Q R;have a1:=u.le;rw[Ak] at hf a1;refine⟨_,Or.inl ⟨_,Af.of E,rfl⟩,rfl,?_⟩;by_cases ah:p<a.length;rotate_left;have ep:p=a.length:=(by lia);rw[D8 (by rw[Ak];lia)];refine Bp (hN _ _ ⟨_,a,rfl,I,E,k,?_⟩);rw[Ak,<-ep];exact u;rw[AY (by rw[Ak];lia)];refine Cu ?_;have ai:=AA ah;have aj:(a.map (·.2))[p]?=some a[p].2:=by rw[AX,ai];rfl
   have aa:=u.turn aj;have ib:=(u.is _ (Bc aj)).ok ok Q R;refine⟨λσ' d=>∃(G:List (Addr×AO)),σ'=[some (.ref L),some (.ref A),some (.ref t),some (.int g),some (.int j),some (.ref D),some (.int ((p+1:Nat):Int))]/\Ac H d/\d D=some (.lst (G.map λz=>V.ref z.1))/\(∀z∈G,Dl (λl=>H l=none/\l≠D) d z.1 z.2)/\G8 W g j (G.map λz:Addr×AO=>z.2) (p+1),?_,?_⟩;refine λσ' d S=>AL λNz C=>?_;obtain⟨G,rfl,n,X,a2,a3⟩:=S;refine C ?_;clear C;exact⟨_,by lia,p+1,G,rfl,n,X,a2,a3,rfl⟩;have a4:Bi (a.map λz=>V.ref z.1) (p:Int)=some (.ref a[p].1):=Bu (by rw[AX,ai];rfl);refine⟨Or.inl ⟨rfl,_,Af.of E⟩,Or.inl ⟨_,.ref a[p].1,Af.of E,a4,L,A,t,a[p].1,W,a[p].2,rfl,hC.same I,ok,ib,⟨_,k _ (DX ah)⟩,λD2 r J U n a5 a6 ab=>?_⟩⟩
   have aD:r.length<=8:=by
    have O:=BB List.length ab;have N:=Wk W a[p].2;have e3:=P4 ok a[p].2.2.1;rw[Ak] at O;lia
   have X:=n _ _ E;have k5:Keeps (·=D) J (upd J D (.lst (a.map (λz=>V.ref z.1)++r.map λz=>V.ref z.1))):=Keeps.one X;refine⟨D,D2,_,_,rfl,rfl,X,a5,by rw[Ak,Ak];exact CQ (BL (by lia)),?_⟩;have a7:=aa.few ok Q R;rw[<-ab,<-A6,Ak] at a7;rw[<-ab,<-A6] at aa;have ae:(upd J D (.lst (a.map (λz=>V.ref z.1)++r.map λz=>V.ref z.1))) D=some (.lst ((a++r).map λz=>V.ref z.1)):=(by rw[Aa,A6])
   have sn:Ac H (upd J D (.lst (a.map (λz=>V.ref z.1)++r.map λz=>V.ref z.1))):=λb o e=>by
    rw[AE (AU e av)];exact n _ _ (I _ _ e)
   have ak:∀z∈a++r,Dl (λl=>H l=none/\l≠D) (upd J D (.lst (a.map (λz=>V.ref z.1)++r.map λz=>V.ref z.1))) z.1 z.2:=λz h=>by
    rcases BI.mp h with h|h;exact((k z h).same n).keeps k5 λx q=>q.2;refine((a6 z h).mono λx q=>⟨I.free q.1,?_⟩).keeps k5 λx q=>q.2;intro y;rw[y,E] at q;cases q.1
   generalize upd J D (.lst (a.map (λz=>V.ref z.1)++r.map λz=>V.ref z.1))=H6 at ae sn ak ⊢;refine⟨_,Or.inl ⟨_,Af.of ae,rfl⟩,rfl,?_⟩;rw[D8 (by rw[Ak];lia)];refine Bp ?_;refine⟨_,rfl,a++r,?_,sn,ae,ak,aa⟩
   simp
inductive Em (K:Aj) (vs:List V) (H:Hp) (Q:VK):Prop where
 |mk (t a o:Addr) (inn:V) (ss:List Ce) (n:Int) (k:Nat) (s:Ce) (x:Str) (h0:vs=[.ref t,.int n,.str x]) (h1:n=k) (h2:Al K H t [.ref a,inn,.ref o]) (h3:G6 K H a ss) (h4:ss[k]?=some s) (h5:Q (D0 (EV s.1 x)) H):Em K vs H Q
def hH (K:Aj):Sp:=λvs H Q ζ=>Em K vs H Q
abbrev UU(P w K mg base):=Br P w K mg base "_law_next" 1 ["_law_table_here", "_law_state", "_law_label_here"] (hH K)
theorem hJ(B:Bt mg)(F:Bm K "_law_next" "_law_next" RA f fd)(D:mg "_law_next" = some (.ref f)):UU P w K mg base:=by
 refine BE F D Ux (λl H Q E h=>?_) (λae A af s H l Q E hr h=>?_);obtain⟨t,a,o,T,ss,n,k,s,x,rfl,_⟩:=h;rfl;obtain⟨t,a,o,T,ss,n,k,s,x,rfl,rfl,G,⟨l,I,J⟩,L,q⟩:=h;obtain⟨aa,M,U⟩:=J.get' (i:=k) (d:=JH s) (by rw[AX,L];rfl);obtain⟨N,g,e,rfl,W,⟨O,u,C⟩,he⟩:=HV U;have X:=C.len_map
 refine⟨_,(Am (Ca B8 rfl (Ct (As At (As At (As At (pv 0) Ah) (pv 1)) Ah)) (BU (n:=2) rfl (AD (Aw (i:=3) Ux.nd) (AD (Aw (i:=4) Ux.nd) BS))) (Au (A5 (Bl BV (pv 3) (pv 2) (A9 _)) (Au (AH (pv 4))) A4)))
  (Au (AH GH))),?_⟩
 rfl';refine(Or.inr (Or.inl ⟨_,.ref a,G,rfl,?_⟩));refine(Or.inl ⟨l,.ref N,I,Bu M,?_⟩);refine Or.inr (Or.inl ⟨_,.ref g,W,rfl,?_⟩);refine⟨⟨_,u⟩,Eg (xs:=O) (λi σ v=>∃m r,σ=[some (.ref t),some (.int k),some (.str x),m,r]/\v=H/\∀q∈s.1.take i,q.1≠x) ⟨none,none,rfl,rfl,λq b=>by simp at b⟩ (λi σ v ζ Z=>by obtain⟨_,_,_,e,_⟩:=Z;exact by rw[e];exact u) ?_ ?_⟩;rintro i ab σ Y R ⟨m,r,rfl,rfl,j⟩;obtain⟨p,t',y,rfl,S⟩:=C.goes_get R;refine⟨_,S,rfl,?_⟩;refine⟨rfl,rfl,?_⟩;refine An (λc=>?_) (λc=>?_);have c:p.1=x:=V.str.inj (A3 c);rw[Tu y c j] at q;exact q;have c:p.1≠x:=λz=>c (AY (by rw[z]));refine⟨_,_,rfl,rfl,λq b=>?_⟩;rw[D7,y] at b;rcases BI.mp b with b|b;exact j q b;rw[A7.mp b];exact c;rintro σ Y ⟨m,r,rfl,rfl,j⟩;rw[X,Cr] at j;rw[Tv j] at q;exact q
inductive En (K:Aj) (vs:List V) (H:Hp) (Q:VK):Prop where
 |mk (nt A t:Addr) (W:Wd) (n:Int) (h0:vs=[.ref nt,.int n]) (h1:A1 K H nt A t W) (h2:(0<=n/\n<W.gs.length)) (h3:∀(D:Addr)(H':Hp),H D=none->Ac H H'->H' D=some (.lst ((Ej W.gs n).map V.int))->Q (.ref D) H'):En K vs H Q
def hQ (K:Aj):Sp:=λvs H Q ζ=>En K vs H Q
abbrev QZ(P w K mg base):=Br P w K mg base "_law_sort" 1 ["_law_net", "_law_thing_here"] (hQ K)
def hU(B:Bt mg)(F:Bm K "_law_sort" "_law_sort" RB f fd)(b:mg "_law_sort" = some (.ref f)):QZ P w K mg base:=by
 refine BE F b eW (λu H Q E h=>?_) (λL A M s H u Q E z h=>?_);obtain⟨v,A,t,W,n,rfl,_⟩:=h;rfl;obtain⟨v,A,t,W,n,rfl,x,y,q⟩:=h;obtain⟨S,T,R,us,C,G,c,I,J,k,d⟩:=x.net;obtain⟨m,b⟩:=Cz y.1;have j:m<W.gs.length:=(by lia);have r:m<c.length:=by rw[d.tg.len];exact j
 have l:W.gs[n.toNat]?=some W.gs[m]:=by rw[b,Bw];exact AA j
 have g:=d.tg.at_ m _ _ (AA r) (AA j);have i:Bi (c.map V.ref) n=some (.ref c[m]):=by rw[b];exact Bu (by rw[AX,AA r];rfl)
 generalize W.gs[m]=p at l g;generalize c[m]=o at i g
 have eq:Ej W.gs n=if p.1=("sort" : Str) then[p.2] else[]:=by unfold Ej;rw[l]
 refine⟨_,(Am (A5 (Bl BV (As At (As At (As At (pv 0) Ah) (pv 1)) Ah) Bb (A9 _)) (Au (AH (Cb (Ab (As At (As At (As At (pv 0) Ah) (pv 1)) Ah) Ad)))) A4)
  (Au (AH (Cb Ad)))),?_⟩
 rfl';refine Or.inr (Or.inl ⟨_,.ref T,Al.of k,rfl,Or.inl ⟨_,.ref o,Af.of d.et,i,Or.inr (Or.inl ⟨_,.str p.1,Al.of g,rfl,rfl,rfl,An (λh=>?_) (λh=>?_)⟩)⟩⟩);have e:p.1=("sort" : Str):=V.str.inj (A3 h);refine Or.inr (Or.inl ⟨_,.ref T,Al.of k,rfl,Or.inl ⟨_,.ref o,Af.of d.et,i,Or.inr (Or.inl ⟨_,.int p.2,Al.of g,rfl,IS,λD a=>q D _ a (AW a) ?_⟩)⟩⟩);rw[Aa,eq,Ar e];rfl;have e:p.1≠("sort" : Str):=λe=>h (AY (by rw[e]));refine⟨by decide,λD a=>q D _ a (AW a) ?_⟩;rw[Aa,eq,Ao e];rfl
def hV{s:Bg}(h:W.ss[k]?=some s):By W (k:Int)=s.1:=by unfold By;rw[Bw,h]
def hW(h:W.sts[k]?=some s):Dv W (k:Int)=s.1:=by unfold Dv;rw[Bw,h]
inductive DO (K:Aj) (vs:List V) (H:Hp) (Q:VK):Prop where
 |mk (nt A t P:Addr) (W:Wd) (G:Addr->Prop) (zs:List (Addr×AO)) (h0:vs=[.ref nt,.ref t,.ref A,.ref P]) (h1:A1 K H nt A t W) (h2:Ck W) (h3:H P=some (.lst (zs.map λz=>V.ref z.1))) (h4:(∀z∈zs,Dl G H z.1 z.2)) (h5:(∀z∈zs,BX W z.2)) (h6:((zs.map (·.2)).flatMap (AJ W)).length<=4000) (h7:∀(D:Addr)(H':Hp),H D=none->Ac H H'->H' D=some (.lst (((zs.map (·.2)).flatMap (AJ W)).map V.int))->Q (.ref D) H'):DO K vs H Q
def iA (K:Aj):Sp:=λvs H Q ζ=>DO K vs H Q
abbrev UV(P w K mg base):=Br P w K mg base "_law_asked" 2 ["_law_net", "_law_table_here", "_law_answers_here", "_law_rows"] (iA K)
def iB(B:Bt mg)(aB:UU P w K mg base)(aC:QZ P w K mg base)(F:Bm K "_law_asked" "_law_asked" RC f fd)(O:mg "_law_asked" = some (.ref f)):UV P w K mg base:=by
 refine BE F O IZ (λvs H a4 a5 h=>?_) (λaY A bc s H vs a4 a5 hr h=>?_);obtain⟨Q,A,t,P,W,ah,Z,rfl,_⟩:=h;rfl
 . obtain⟨Q,A,t,P,W,G0,Z,rfl,R,ok,eP,hb,aD,hl,ai⟩:=h
   obtain⟨a6,aT,aU,us,Gs,Es,ts,qt,qs,eN,N3⟩:=R.net;obtain⟨a,o,aE,b1,a7,b2,b3⟩:=R.tab;obtain⟨bs,aa⟩:∃bs,bs=Z.map (·.2):=⟨_,rfl⟩;rw[<-aa] at hl ai
   refine⟨_,(Am (AK (i:=4) IZ.nd (Cb Ad))
    (Am (Ca B8 rfl (Ct (pv 3)) (BU (n:=3) rfl (AD (Aw (i:=5) IZ.nd) (AD (Aw (i:=6) IZ.nd) (AD (Aw (i:=7) IZ.nd) BS)))) (Au (Ca B8 rfl (Ct (As At (As At (As At (pv 0) Ah) (pv 6)) Ah)) (BU (n:=3) rfl (AD (Aw (i:=8) IZ.nd) (AD (Aw (i:=9) IZ.nd) (AD (Aw (i:=10) IZ.nd) BS)))) (Au (A5 (PW.pt (Gx (Bl BV (pv 9) Bb (A9 _)) (Gw (Gj (NH (AR aB (Ab (pv 1) (Ab (pv 7) (Ab (pv 8) Ad))))))))) (Am (Dp (Dj Dd EL EM EQ (pv 4) (Ab (pv 10) Ad)))
          (Am (AK (i:=11) IZ.nd (As At (pv 2) (pv 10)))
          (Au (A5 (PW.pt (Gx (Gj (NH (pv 11))) (Gw (Bl BV (As At (pv 11) Ah) Bb (A9 _))))) (Au (AK (i:=4) IZ.nd (AB KJ (pv 4) (AR aC (Ab (pv 0) (Ab (As At (pv 11) Ah) Ad)))))) A4)))) A4)))))
    (Au (AH (pv 4))))),?_⟩
   rfl';refine⟨by decide,λD c=>?_⟩;obtain⟨aV,aF,s1,aG⟩:=new_at (o:=.lst []) c;rw[<-aF]
   refine⟨⟨_,Af.of (s1 _ _ eP)⟩,Eg (xs:=Z.map λz=>V.ref z.1) (λi σ g=>∃D u5 u6 u7 v y C E,σ=[some (.ref Q),some (.ref t),some (.ref A),some (.ref P),some (.ref D),u5,u6,u7,v,y,C,E]/\H D=none/\Ac H g/\g D=some (.lst (((bs.take i).flatMap (AJ W)).map V.int)))
    ⟨D,none,none,none,none,none,none,none,rfl,c,s1,by rw[aG,EF];rfl⟩ (λi σ g ζ ab=>by obtain⟨_,_,_,_,_,_,_,_,_,_,s,_⟩:=ab;exact Af.of (s _ _ eP)) ?_ ?_⟩
   rotate_left;refine λσ a8 G=>AL λS d=>?_;obtain⟨D,u5,u6,u7,v,y,C,E,rfl,c,r,U⟩:=G;refine d ?_;clear d;rw[Ak,<-Ak (f:=λz:Addr×AO=>z.2),<-aa,Cr] at U;exact ai D _ c r U;refine λi x σ a8 hx G=>AL λS d=>?_;obtain⟨D,u5,u6,u7,v,y,C,E,rfl,c,r,U⟩:=G;refine d ?_;clear d;obtain⟨z,ak,rfl⟩:=getm hx;have al:bs[i]?=some z.2:=by rw[aa,AX,ak];rfl
   have mz:=Bc ak;have ae:=aD z mz;obtain⟨l0,aZ,an,_⟩:=(hb z mz).same r;generalize z.2=b at al ae an;have aH:=ae.rng b.2.1 (by unfold AM;simp);have aI:=ae.st;obtain⟨n,hn⟩:=Cz aH.1;obtain⟨k,hk⟩:=Cz aI.1;have ao:n<W.ss.length:=(by lia);have aJ:k<W.sts.length:=(by lia);refine AL λS d=>?_;obtain⟨aj,ah,E1,aA,aW,aX,g4,⟨c0,⟨tG,c1,c2⟩,_⟩⟩:=N3.sc.get ao;refine d ?_;clear d;have aq:=AA aJ;have eS:By W b.2.1=W.ss[n].1:=by rw[hn];exact hV g4
   have eG:Dv W b.2.2=W.sts[k].1:=by rw[hk];exact hW aq
   have aK:Bi (us.map V.ref) b.2.1=some (.ref aj):=by rw[hn];exact Bu (by rw[AX,aA];rfl)
   have ar:=K0 (f:=AJ W) al;have aR:=Mk (f:=AJ W) (l:=bs) (i+1);rw[ar,AQ] at aR;refine⟨_,Al.of an,rfl,?_⟩;refine Or.inr (Or.inl ⟨_,.ref a6,Al.of (r _ _ eN),rfl,Or.inl ⟨_,.ref aj,Af.of (r _ _ N3.sc.top),aK,Or.inr (Or.inl ⟨_,.ref ah,Al.of (r _ _ c0),rfl,⟨_,Af.of (r _ _ c1)⟩,?_⟩)⟩⟩)
   refine Eg (xs:=tG.map V.ref) (λj σ g=>∃D v y C E,σ=[some (.ref Q),some (.ref t),some (.ref A),some (.ref P),some (.ref D),some (.ref l0),some (.int b.2.1),some (.int b.2.2),v,y,C,E]/\H D=none/\Ac H g/\g D=some (.lst (((bs.take i).flatMap (AJ W)++((By W b.2.1).take j).flatMap (Do W b.2.2)).map V.int)))
    ⟨_,_,_,_,_,rfl,c,r,by rw[U,EF];simp⟩ (λj σ g ζ ab=>by obtain⟨_,_,_,_,_,_,_,s,_⟩:=ab;exact Af.of (s _ _ c1)) ?_ ?_
   rotate_left;refine λσ L G=>AL λS d=>?_;obtain⟨D,v,y,C,E,rfl,c,q,M⟩:=G;refine d ?_;clear d;refine⟨_,_,_,_,_,_,_,_,rfl,c,q,?_⟩;rw[M,ar,Ak,c2.len,eS,Cr,<-eS];rfl;refine λj a9 σ L hy G=>AL λS d=>?_;obtain⟨D,v,y,C,E,rfl,c,q,M⟩:=G;refine d ?_;clear d;obtain⟨tp,au,rfl⟩:=getm hy;have aw:j<W.ss[n].1.length:=by rw[<-c2.len];exact(Bh.mp au).1
   have hp:=AA aw;have ax:=c2.at_ j tp _ au hp;have mp:=DX aw;generalize W.ss[n].1[j]=p at hp ax mp;have ag:=K0 (f:=Do W b.2.2) (show(By W b.2.1)[j]?=some p by rw[eS];exact hp);have ay:=Mk (f:=Do W b.2.2) (l:=By W b.2.1) (j+1);rw[ag,AQ] at ay;have ba:(AJ W b).length=((By W b.2.1).flatMap (Do W b.2.2)).length:=rfl
   have skip:¬(p.2.1=("by" : Str)/\(EV (Dv W b.2.2) p.1).isSome=true)->L D=some (.lst (((bs.take i).flatMap (AJ W)++((By W b.2.1).take (j+1)).flatMap (Do W b.2.2)).map V.int)):=λaL=>by
    have:Do W b.2.2 p=[]:=Ao aL;rw[M,ag,this,EK]
   refine⟨_,Al.of (q _ _ ax),rfl,?_⟩;refine⟨rfl,rfl,An (λI=>?_) (λI=>Bp ?_)⟩;rotate_left;exact⟨_,_,_,_,_,rfl,c,q,skip λh=>I (AY (by rw[h.1]))⟩;have I:p.2.1=("by" : Str):=V.str.inj (A3 I);refine⟨t,a,o,aE,W.sts,b.2.2,k,_,p.1,rfl,hk,q.seqT b1,⟨a7,q.seq b2,b3.same q⟩,aq,?_⟩;rw[<-eG]
   cases eg:EV (Dv W b.2.2) p.1 with
   |none =>
     refine⟨rfl,An (λh=>absurd h (by simp[D0])) (λζ=>?_)⟩;exact⟨_,_,_,_,_,rfl,c,q,skip λh=>by rw[eg] at h;cases h.2⟩
   |some af =>
     refine⟨rfl,An (λζ=>?_) (λh=>absurd (by simp[D0]) h)⟩;have az:Do W b.2.2 p=p.2.2::Fn W.gs W.as p.2.2:=Ar ⟨I,by rw[eg];rfl⟩;have aM:=ok.by_ (DX ao) mp λz=>by rw[I] at z;exact absurd z (by decide +kernel)
     obtain⟨m,O⟩:=Cz aM.1;have X:m<W.as.length:=(by lia);have aN:=Xn (gs:=W.gs) (AA X);rw[az,EG] at ay;have J:Ac H (upd L D (.lst (((bs.take i).flatMap (AJ W)++((By W b.2.1).take j).flatMap (Do W b.2.2)).map V.int++[.int p.2.2]))):=λa9 o e=>by rw[AE (AU e c)];exact q _ _ e
     have Y:(upd L D (.lst (((bs.take i).flatMap (AJ W)++((By W b.2.1).take j).flatMap (Do W b.2.2)).map V.int++[.int p.2.2]))) D=some (.lst (((bs.take i).flatMap (AJ W)++((By W b.2.1).take j).flatMap (Do W b.2.2)).map V.int++[.int p.2.2])):=Aa;refine⟨Or.inl ⟨rfl,_,Af.of M⟩,_,M,by rw[Ak,AQ];exact Iq (by lia),?_⟩;generalize upd L D (.lst (((bs.take i).flatMap (AJ W)++((By W b.2.1).take j).flatMap (Do W b.2.2)).map V.int++[.int p.2.2]))=H4 at J Y ⊢;obtain⟨a0,av,aO,aP,hc⟩:=(R.same J).ans.get X;have aS:Bi a0 p.2.2=some av:=by rw[O];exact Bu aP
     have lst:∀ms:List Int,Fn W.gs W.as p.2.2=ms->∀(D':Addr)(g:Hp),g D'=some (.lst (((bs.take i).flatMap (AJ W)++((By W b.2.1).take j).flatMap (Do W b.2.2)).map V.int++[.int p.2.2]++ms.map V.int))->g D'=some (.lst (((bs.take i).flatMap (AJ W)++((By W b.2.1).take (j+1)).flatMap (Do W b.2.2)).map V.int)):=λms e D' g h=>by
      rw[h,ag,az,e]
      simp
     have N:Fn W.gs W.as p.2.2=qA W.gs W.as[m]:=by rw[O];exact aN
     rw[AA X] at hc;refine Or.inl ⟨a0,av,aO,aS,?_⟩;rcases hc with⟨T,rfl⟩|⟨u,ta,T,rfl,a1⟩;rw[BJ T] at N;refine⟨rfl,An (λh=>absurd h (by simp)) (λζ=>Bp ?_)⟩;exact⟨_,_,_,_,_,rfl,c,J,lst [] N _ _ (by rw[Y];simp)⟩;rw[BJ T] at N;refine⟨rfl,An (λζ=>?_) (λh=>absurd (by simp) h)⟩;refine Or.inr (Or.inl ⟨_,.str u.1,a1,rfl,rfl,rfl,An (λh=>?_) (λh=>?_)⟩);rotate_left;have e:u.1≠("thing" : Str):=λe=>h (AY (by rw[e]));exact⟨_,_,_,_,_,rfl,c,J,lst [] (N.trans (Ao e)) _ _ (by rw[Y];simp)⟩;have e:u.1=("thing" : Str):=V.str.inj (A3 h);refine Or.inr (Or.inl ⟨_,.int u.2,a1,rfl,Q,A,t,W,u.2,rfl,R.same J,ok.net.t u (by rw[<-BJ T];exact DX X) e,λD2 H5 bb s5 aQ=>?_⟩);refine⟨D,D2,_,_,rfl,rfl,s5 _ _ Y,aQ,?_,λD6 a2=>?_⟩;have:=OO W.gs u.2;rw[AQ,Ak,Ak,AQ,Ef];exact CQ (Iq (by lia));have s6:=AW (o:=.lst (((bs.take i).flatMap (AJ W)++((By W b.2.1).take j).flatMap (Do W b.2.2)).map V.int++[.int p.2.2]++(Ej W.gs u.2).map V.int)) a2;have a3:=J.trans s5;exact⟨D6,_,_,_,_,rfl,a3.free a2,a3.trans s6,lst _ (N.trans (Ar e)) _ _ Aa⟩
inductive FG (K:Aj) (vs:List V) (H:Hp) (Q:VK):Prop where
 |mk (t a o:Addr) (inn:V) (ss:List Ce) (n:Int) (k:Nat) (s:Ce) (x:Str) (h0:vs=[.ref t,.int n,.str x]) (h1:n=k) (h2:Al K H t [.ref a,inn,.ref o]) (h3:G6 K H a ss) (h4:ss[k]?=some s) (h5:Q (.bl (dec (x∈s.2))) H):FG K vs H Q
def iC (K:Aj):Sp:=λvs H Q ζ=>FG K vs H Q
abbrev UW(P w K mg base):=Br P w K mg base "has_end" 1 ["table", "state", "label"] (iC K)
def iD(B:Bt mg)(F:Bm K "has_end" "has_end" RD f fd)(c:mg "has_end" = some (.ref f)):UW P w K mg base:=by
 refine BE F c Xx (λb H Q E h=>?_) (λO A R s H b Q E j h=>?_);obtain⟨t,a,o,J,ss,n,k,s,x,rfl,_⟩:=h;rfl;obtain⟨t,a,o,J,ss,n,k,s,x,rfl,rfl,l,⟨b,m,p⟩,r,q⟩:=h;obtain⟨v,u,L⟩:=p.get' (i:=k) (d:=JH s) (by rw[AX,r];rfl);obtain⟨C,g,e,rfl,M,N,D⟩:=HV L
 refine⟨_,(Am (AK (i:=3) Xx.nd (As At (As At (As At (pv 0) Ah) (pv 1)) Ah))
  (Au (AH (IM (HS j.units) (pv 2) (pv 3) (by with_unfolding_all rfl))))),?_⟩
 rfl';refine Or.inr (Or.inl ⟨_,.ref a,l,rfl,?_⟩);refine Or.inl ⟨b,.ref C,m,Bu u,?_⟩;refine Or.inr (Or.inl ⟨_,.ref e,M,rfl,?_⟩);refine⟨2,.str x,s.2.map Dt.str,e,_,λd hd=>?_,by decide,.str x,rfl,D,Ai.strs _,?_⟩;obtain⟨y,_,rfl⟩:=AN.mp hd;exact .str _ _
 have G:dec (Dt.str x∈s.2.map Dt.str)=dec (x∈s.2):=KP ⟨λh=>by
  obtain⟨y,I,z⟩:=AN.mp h
  rw[<-Dt.str.inj z];exact I,λh=>AN.mpr ⟨x,h,rfl⟩⟩
 rw[G];exact q
def Kq(h:W.sts[k]?=some s):IV W (k:Int)=s.2:=by unfold IV;rw[Bw,h]
def iE{s:Bg}(h:W.ss[k]?=some s):GL W (k:Int)=s.2:=by unfold GL;rw[Bw,h]
def MM{q:DZ}(a:q.2.1=x)(c:q.1∈IV W b.2.2):GN W b x q i=[b.1++[(b.2.1,("told" : Str),(i:Int))]]:=Ar ⟨a,c⟩
def Kr{q:DZ}(h:¬(q.2.1=x/\q.1∈IV W b.2.2)):GN W b x q i=[]:=Ao h
def XW{bs:List AO}(h:bs[i]?=some b):Fc W x (bs.take (i+1))=Fc W x (bs.take i)++Fb W b x (GL W b.2.1) 0:=by
 rw[D7,h];show(bs.take i++[b]).flatMap _=_;rw[List.flatMap_append];simp[Fc]
def Pa{bs:List AO}(i:Nat):(Fc W x (bs.take i)).length<=(Fc W x bs).length:=by
 have:Fc W x bs=Fc W x (bs.take i)++Fc W x (bs.drop i):=by
  unfold Fc;rw[<-List.flatMap_append,List.take_append_drop]
 rw[this,AQ];lia
theorem XX(W:Wd)(b:AO)(x:Str):∀(l:List DZ)(j i:Nat),(Fb W b x (l.take j) i).length<=(Fb W b x l i).length
 |[],j,i=>by rw[List.take_nil];exact AI _
 |q::l,0,i=>CO _
 |q::l,j+1,i=>by
   show(GN W b x q i++Fb W b x (l.take j) (i+1)).length<=(GN W b x q i++Fb W b x l (i+1)).length;rw[AQ,AQ];have:=XX W b x l j (i+1);lia
inductive CL (K:Aj) (vs:List V) (H:Hp) (Q:VK):Prop where
 |mk (nt A t D:Addr) (x:Str) (F:Addr->Prop) (W:Wd) (zs:List (Addr×AO)) (h0:vs=[.ref nt,.ref t,.ref D,.str x]) (h1:A1 K H nt A t W) (h2:Ck W) (h3:H D=some (.lst (zs.map λz=>V.ref z.1))) (h4:(∀z∈zs,Dl F H z.1 z.2)) (h5:(∀z∈zs,BX W z.2)) (h6:(Fc W x (zs.map (·.2))).length<=62) (h7:∀(D2:Addr)(ws:List (Addr×List Aq))(H':Hp),H D2=none->Ac H H'->H' D2=some (.lst (ws.map λz=>V.ref z.1))->(∀z∈ws,Cn (λl=>H l=none/\l≠D2) H' z.1 z.2)->L3 W x (zs.map (·.2)) (ws.map (·.2))->Q (.ref D2) H'):CL K vs H Q
def iF (K:Aj):Sp:=λvs H Q ζ=>CL K vs H Q
abbrev Q0(P w K mg base):=Br P w K mg base "found_behind" 2 ["net", "table", "begun", "name"] (iF K)
theorem iG(B:Bt mg)(aD:UW P w K mg base)(F:Bm K "found_behind" "found_behind" RE f fd)(u:mg "found_behind" = some (.ref f)):Q0 P w K mg base:=by
 refine BE F u Mt (λvs H a2 a3 h=>?_) (λbc an bg s H vs a2 a3 hr h=>?_);obtain⟨nt,an,t,D,x,F,W,v,rfl,_⟩:=h;rfl
 . obtain⟨nt,an,t,D,x,F,W,v,rfl,hC,ok,eD,hz,aE,bd,a4⟩:=h
   obtain⟨a5,aX,aY,us,Gs,Es,ts,qt,qs,eN,N3⟩:=hC.net;obtain⟨a,o,aF,b1,a6,b2,b3⟩:=hC.tab
   refine⟨_,(Am (AK (i:=4) Mt.nd (Cb Ad))
    (Am (Ca B8 rfl (Ct (pv 2)) (BU (n:=3) rfl (AD (Aw (i:=5) Mt.nd) (AD (Aw (i:=6) Mt.nd) (AD (Aw (i:=7) Mt.nd) BS)))) (Au (Ca B8 rfl (Qh LK rfl B.b_enumerate (Ab (As At (As At (As At (pv 0) Ah) (pv 6)) Ah) Ad)) (BU (n:=2) rfl (AD (Aw (i:=8) Mt.nd) (AD (Aw (i:=9) Mt.nd) BS))) (Au (A5 (PW.pt (Gx (Bl BV (As At (pv 9) Ah) (pv 3) (A9 _)) (Gw (Gk (AR aD (Ab (pv 1) (Ab (pv 7) (Ab (As At (pv 9) Ah) Ad)))))))) (Au (Dp (Dj Dd EL EM EQ (pv 4) (Ab (AB KJ (pv 5) (Cb (Ab (Bd (Ab (pv 6) (Ab Bb (Ab (pv 8) Ad)))) Ad))) Ad)))) A4)))))
    (Au (AH (BP (Zq L1 hr.units (by decide)) B.b_sorted (Ab (pv 4) Ad)))))),?_⟩
   rfl';refine⟨by decide,λP hP=>?_⟩;obtain⟨U,aG,s1,aq⟩:=new_at (o:=.lst []) hP;rw[<-aG];have be:D≠P:=AU eD hP;have Q:∀{g:Hp},Keeps (·=P) U g->Ac H g:=λk x o e=>k.at_ _ _ (s1 _ _ e) (AU e hP)
   refine⟨⟨_,Af.of (s1 _ _ eD)⟩,Eg (xs:=v.map λz=>V.ref z.1) (λi σ g=>∃u5 u6 u7 A C b,σ=[some (.ref nt),some (.ref t),some (.ref D),some (.str x),some (.ref P),u5,u6,u7,A,C]/\Keeps (·=P) U g/\g P=some (.lst (b.map λz:Addr×List Aq=>V.ref z.1))/\(∀z∈b,Cn (λl=>H l=none/\l≠P) g z.1 z.2)/\b.map (·.2)=Fc W x ((v.map (·.2)).take i))
    ⟨none,none,none,none,none,[],rfl,Keeps.refl λx o m e=>by rw[m,aq] at e;exact⟨_,(BJ e).symm⟩,aq,λz hz=>by simp at hz,by rw[EF];rfl⟩ (λi σ g ζ af=>by obtain⟨_,_,_,_,_,_,_,k,_⟩:=af;exact Af.of (Q k _ _ eD)) ?_ ?_⟩
   rotate_left;refine λσ a7 G=>AL λM d=>?_;obtain⟨u5,u6,u7,A,C,b,rfl,T,ag,X,u⟩:=G;refine d ?_;clear d;rw[Ak,<-Ak (f:=(·.2)),Cr] at u;have lw:b.length<=62:=by have:=BB List.length u;rw[Ak] at this;lia
   refine⟨P,b.map λz=>(V.ref z.1,z.2),rfl,?_,by rw[Ak];lia,λy q=>?_,λD2 aH N hs ah=>?_⟩;rw[EE];exact Af.of ag;obtain⟨z,ai,rfl⟩:=AN.mp q;exact(X z ai).dt;obtain⟨vs,r1,r2,r3,r4⟩:=Wx (c:=Dc) N;have s3:=AW (o:=.lst (aH.map (·.1))) ah;rw[r1] at s3 ⊢;rw[r2] at hs;have r:=Q T;refine a4 D2 vs _ (r.free ah) (r.trans s3) Aa (λz ai=>?_) ⟨by rw[<-u];exact r3,hs⟩;refine((X z (r4 z ai)).mono' ?_).same s3;intro x o ex hx;exact⟨hx.1,λy=>by rw[y,ah] at ex;cases ex⟩;refine λi y σ a7 q G=>AL λM d=>?_;obtain⟨u5,u6,u7,A,C,b,rfl,T,ag,X,u⟩:=G;refine d ?_;clear d;obtain⟨z,ar,rfl⟩:=getm q;have mz:=Bc ar;have aa:=aE z mz;have r:=Q T;refine AL λM d=>?_;obtain⟨l,E,a9,aA,e3,_⟩:=hz z mz;refine d ?_;clear d;have e1:=r _ _ a9;have aI:=aa.rng z.2.2.1 (by unfold AM;simp);have aJ:=aa.st;obtain⟨n,Y⟩:=Cz aI.1;obtain⟨k,hk⟩:=Cz aJ.1;have aK:n<W.ss.length:=(by lia);have aL:k<W.sts.length:=(by lia);refine AL λM d=>?_;obtain⟨ao,aZ,E1,aB,ba,bb,g4,⟨c0,_,⟨tE,c1,c2⟩⟩⟩:=N3.sc.get aK;refine d ?_;clear d;have au:=AA aL;have eT:GL W z.2.2.1=W.ss[n].2:=by rw[Y];exact iE g4
   have eE:IV W z.2.2.2=W.sts[k].2:=by rw[hk];exact Kq au
   have aM:Bi (us.map V.ref) z.2.2.1=some (.ref ao):=by rw[Y];exact Bu (by rw[AX,aB];rfl)
   have av:(v.map (·.2))[i]?=some z.2:=by rw[AX,ar];rfl
   have bf:E.length<=100:=by
    have:=KS W.ss.length (AM z.2) aa.nd aa.rng;rw[show(AM z.2).length=z.2.1.length+1 by unfold AM;simp] at this;have:=ok.s5;rw[e3.len];lia
   have aN:=Pa (W:=W) (x:=x) (bs:=v.map (·.2)) (i+1);rw[XW av,AQ] at aN;refine⟨_,Al.of e1,rfl,?_⟩;refine Or.inr (Or.inl ⟨_,.ref a5,Al.of (r _ _ eN),rfl,Or.inl ⟨_,.ref ao,Af.of (r _ _ N3.sc.top),aM,Or.inr (Or.inl ⟨_,.ref E1,Al.of (r _ _ c0),rfl,E1,rfl,⟨_,r _ _ c1⟩,?_⟩)⟩⟩)
   refine Qj LK (xs:=tE.map V.ref) (λj σ g=>∃A C b,σ=[some (.ref nt),some (.ref t),some (.ref D),some (.str x),some (.ref P),some (.ref l),some (.int z.2.2.1),some (.int z.2.2.2),A,C]/\Keeps (·=P) U g/\g P=some (.lst (b.map λz:Addr×List Aq=>V.ref z.1))/\(∀z∈b,Cn (λl=>H l=none/\l≠P) g z.1 z.2)/\b.map (·.2)=Fc W x ((v.map (·.2)).take i)++Fb W z.2 x ((GL W z.2.2.1).take j) 0)
    ⟨_,_,b,rfl,T,ag,X,by rw[u,EF];simp[Fb]⟩ (λj σ g af=>by obtain⟨_,_,_,_,k,_⟩:=af;exact Af.of (Q k _ _ c1)) ?_ ?_
   rotate_left;refine λσ H3 G=>AL λM d=>?_;obtain⟨A,C,b,rfl,Z,aj,ak,R⟩:=G;refine d ?_;clear d;refine⟨_,_,_,_,_,b,rfl,Z,aj,ak,?_⟩;rw[XW av,R,Ak,c2.len,eT,Cr];refine λj y T' σ H3 q aO G=>AL λM d=>?_;obtain⟨A,C,b,rfl,Z,aj,ak,R⟩:=G;refine d ?_;clear d;obtain⟨tp,aw,rfl⟩:=getm q;have aP:j<W.ss[n].2.length:=by rw[<-c2.len];exact(Bh.mp aw).1
   have N:=AA aP;have ax:=c2.at_ j tp _ aw N;generalize W.ss[n].2[j]=p at N ax;obtain⟨H4,aQ,s4,aR⟩:=new_at (o:=.tup [.int j,.ref tp]) aO;rw[<-aQ];have aS:=Q Z;have I:=aS.trans s4;have k4:Keeps (·=P) U H4:=Z.same s4;have S:=s4 _ _ aj;have al:∀z∈b,Cn (λl=>H l=none/\l≠P) H4 z.1 z.2:=λz h=>(ak z h).same s4;have a1:=Al.of (K:=K) (I _ _ ax)
   have ay:Fb W z.2 x ((GL W z.2.2.1).take (j+1)) 0=Fb W z.2 x ((GL W z.2.2.1).take j) 0++GN W z.2 x p j:=by
    rw[D7,eT,N];show Fb W z.2 x (W.ss[n].2.take j++[p]) 0=_;rw[Wr,EJ,Nat.zero_add,Nat.min_eq_left (by lia)]
   have skip:¬(p.2.1=x/\p.1∈IV W z.2.2.2)->b.map (·.2)=Fc W x ((v.map (·.2)).take i)++Fb W z.2 x ((GL W z.2.2.1).take (j+1)) 0:=λY=>by
    rw[ay,Kr Y,EK,R]
   have lw:b.length<100:=by
    have:=BB List.length R;rw[Ak,AQ] at this;have J:=XX W z.2 x (GL W z.2.2.1) j 0;lia
   refine⟨_,Al.of aR,rfl,?_⟩;refine Or.inr (Or.inl ⟨_,.str p.2.1,a1,rfl,rfl,rfl,An (λJ=>?_) (λJ=>Bp ?_)⟩);rotate_left;exact⟨_,_,b,rfl,k4,S,al,skip λh=>J (AY (by rw[h.1]))⟩;have J:p.2.1=x:=V.str.inj (A3 J);refine Or.inr (Or.inl ⟨_,.str p.1,a1,rfl,t,a,o,aF,W.sts,z.2.2.2,k,_,p.1,rfl,hk,I.seqT b1,⟨a6,I.seq b2,b3.same I⟩,au,rfl,An (λO=>?_) (λO=>?_)⟩);rotate_left;exact⟨_,_,b,rfl,k4,S,al,skip λh=>O (Fa (by rw[<-eE];exact h.2))⟩;have O:p.1∈IV W z.2.2.2:=by rw[eE];exact Ds.mp O
   refine⟨Or.inl ⟨rfl,_,Af.of S⟩,JI,λm aT=>?_⟩;obtain⟨H5,aU,s5,aC⟩:=new_at (o:=.tup [.int z.2.2.1,.str "told",.int j]) aT;rw[<-aU];refine⟨IS,λa8 hM=>?_⟩;obtain⟨H6,aV,s6,eM⟩:=new_at (o:=.lst [.ref m]) hM;rw[<-aV];have ab:=s5.trans s6;refine⟨l,a8,_,_,rfl,rfl,ab _ _ (I _ _ aA),eM,by rw[Ak];exact CQ (BL (by show E.length+1<=1000;lia)),λL hL=>?_⟩;have aW:H L=none:=(I.trans ab).free hL;have az:L≠P:=λy=>by rw[y,ab _ _ S] at hL;cases hL
   have s7:=AW (o:=.lst (E.map V.ref++[.ref m])) hL;have eL:(upd H6 L (.lst (E.map V.ref++[.ref m]))) L=some (.lst ((E++[m]).map V.ref)):=by rw[Aa,A6];rfl
   generalize upd H6 L (.lst (E.map V.ref++[.ref m]))=H7 at s7 eL ⊢;have ae:=ab.trans s7;have a0:=ae _ _ S;have k7:Keeps (·=P) H7 (upd H7 P (.lst (b.map (λz=>V.ref z.1)++[.ref L]))):=Keeps.one a0;refine⟨_,a0,by rw[Ak];exact BL (by lia),?_⟩;refine⟨_,_,b++[(L,z.2.1++[(z.2.2.1,("told" : Str),(j:Int))])],rfl,(k4.same ae).set rfl,by rw[Aa,A6];rfl,λy q=>?_,?_⟩;rcases BI.mp q with q|q;exact((al y q).same ae).keeps k7 λx hx=>hx.2;rw[A7.mp q];refine⟨E++[m],k7.at_ _ _ eL az,?_,aW,az⟩;exact RT.snoc ((e3.same (I.trans ae)).keeps k7) (k7.tup ((s6.trans s7) _ _ aC));rw[ay,MM J O,A6,R,FX];rfl
inductive DP (K:Aj) (vs:List V) (H:Hp) (Q:VK):Prop where
 |mk (nt A t:Addr) (x:Str) (W:Wd) (sc st:Int) (h0:vs=[.ref nt,.ref A,.ref t,.int sc,.int st,.str x]) (h1:A1 K H nt A t W) (h2:Ck W) (h3:Bz W) (h4:(0<=sc/\sc<W.ss.length)) (h5:(0<=st/\st<W.sts.length)) (h6:∀(D2:Addr)(bs:List AO)(ws:List (Addr×List Aq))(H':Hp),H D2=none->Ac H H'->H' D2=some (.lst (ws.map λz=>V.ref z.1))->(∀z∈ws,Cn (λl=>H l=none/\l≠D2) H' z.1 z.2)->C9 W sc st bs->L3 W x bs (ws.map (·.2))->Q (.ref D2) H'):DP K vs H Q
def iH (K:Aj):Sp:=λvs H Q ζ=>DP K vs H Q
abbrev UX(P w K mg base):=Br P w K mg base "found_ways" 7 ["net", "answers", "table", "scope", "state", "name"] (iH K)
def iI(B:Bt mg)(J:Q0 P w K mg base)(L:Nv P w K mg base)(F:Bm K "found_ways" "found_ways" RF f fd)(l:mg "found_ways" = some (.ref f)):UX P w K mg base:=by
 refine BE F l eX (λm H Q E h=>?_) (λT A V s H m Q E R h=>?_);obtain⟨b,A,t,x,W,c,d,rfl,_⟩:=h;rfl;obtain⟨b,A,t,x,W,c,d,rfl,j,ok,n,g,i,q⟩:=h;refine⟨_,(Au (AH (AR J (Ab (pv 0) (Ab (pv 2) (Ab (AR L (Ab (pv 0) (Ab (pv 1) (Ab (pv 2) (Ab (pv 3) (Ab (pv 4) Ad)))))) (Ab (pv 5) Ad))))))),?_⟩;rfl';refine⟨b,A,t,W,c,d,rfl,j,ok,g,i,λD p U S a r u e=>?_⟩;refine⟨b,A,t,D,x,_,W,p,rfl,j.same a,ok,r,u,λz M=>((e.mem _).mp (AN.mpr ⟨z,M,rfl⟩)).ok ok g i,n.fnd x c d _ g i e,λv y Y N C O G I=>?_⟩;exact q v _ y Y (a.free N) (a.trans C) O (λz h=>(G z h).mono' λx o ζ k=>⟨a.free k.1,k.2⟩) e I
inductive Eo (K:Aj) (vs:List V) (H:Hp) (Q:VK):Prop where
 |mk (nt S T R mk:Addr) (us Gs Es:List Addr) (ss:List Bg) (m:Aq) (h0:vs=[.ref nt,.ref mk]) (h1:Al K H nt [.ref S,.ref T,.ref R]) (h2:CG H S us Gs Es ss) (h3:Al K H mk (Gz m)) (h4:Ed ss m) (h5:m.2.1=("told" : Str)) (h6:∀tp:Addr,H tp=some (.tup (Ea (Ih ss m)))->Q (.ref tp) H):Eo K vs H Q
def UY (K:Aj):Sp:=λvs H Q ζ=>Eo K vs H Q
abbrev Q1(P w K mg base):=Br P w K mg base "_law_told" 1 ["_law_net", "_law_mark"] (UY K)
def iJ(B:Bt mg)(F:Bm K "_law_told" "_law_told" RG f fd)(a:mg "_law_told" = some (.ref f)):Q1 P w K mg base:=by
 refine BE F a eY (λt H Q E h=>?_) (λae A af s H t Q E Y h=>?_);obtain⟨v,S,T,R,mk,us,x,y,ss,m,rfl,_⟩:=h;rfl;obtain⟨v,S,T,R,mk,us,x,y,ss,m,rfl,z,i,a,⟨n,k,Z,j,l,d,C⟩,D,q⟩:=h;have O:n<ss.length:=(Bh.mp d).1;obtain⟨u,G,I,J,aa,ab,o,⟨L,_,⟨b,M,c⟩⟩⟩:=i.get O;rw[d] at o;have N:=BJ o;rw[<-N] at c;have U:Bi (us.map V.ref) m.1=some (.ref u):=by rw[j];exact Bu (by rw[AX,J];rfl)
 have g:k<Z.2.length:=by
  rcases C with⟨e,_⟩|⟨_,e⟩;exact absurd (D.symm.trans e) Oy;exact e
 have p:=AA g;have r:b[k]?=some (b[k]'(by rw[c.len];exact g)):=AA _;have W:=c.at_ _ _ _ r p;have X:Bi (b.map V.ref) m.2.2=some (.ref (b[k]'(by rw[c.len];exact g))):=by rw[l];exact Bu (by rw[AX,r];rfl)
 refine⟨_,(Au (AH (As At (As At (As At (As At (pv 0) Ah) (As At (pv 1) Ah)) Ah) (As At (pv 1) Ah)))),?_⟩;rfl';refine(Or.inr (Or.inl ⟨_,.ref S,z,rfl,Or.inr (Or.inl ⟨_,.int m.1,a,rfl,Or.inl ⟨_,.ref u,Af.of i.top,U,Or.inr (Or.inl ⟨_,.ref I,Al.of L,rfl,Or.inr (Or.inl ⟨_,.int m.2.2,a,rfl,Or.inl ⟨_,_,Af.of M,X,q _ ?_⟩⟩)⟩)⟩⟩)⟩));rw[T4 j l d p];exact W
inductive DQ (K:Aj) (vs:List V) (H:Hp) (Q:VK):Prop where
 |mk (nt S T R mk:Addr) (us Gs Es:List Addr) (ss:List Bg) (m:Aq) (h0:vs=[.ref nt,.ref mk]) (h1:Al K H nt [.ref S,.ref T,.ref R]) (h2:CG H S us Gs Es ss) (h3:Al K H mk (Gz m)) (h4:Ed ss m) (h5:Q (.str (EH ss m)) H):DQ K vs H Q
def iK (K:Aj):Sp:=λvs H Q ζ=>DQ K vs H Q
abbrev UZ(P w K mg base):=Br P w K mg base "_law_label" 1 ["_law_net", "_law_mark"] (iK K)
theorem iL(B:Bt mg)(F:Bm K "_law_label" "_law_label" RH f fd)(b:mg "_law_label" = some (.ref f)):UZ P w K mg base:=by
 refine BE F b Xy (λD H Q E h=>?_) (λah ae ai s H D Q E hr h=>?_);obtain⟨I,S,T,R,mk,us,J,L,ss,m,rfl,_⟩:=h;rfl;obtain⟨I,S,T,R,mk,us,J,L,ss,m,rfl,M,y,b,⟨n,k,Z,t,g,j,N⟩,q⟩:=h;have aa:n<ss.length:=(Bh.mp j).1;obtain⟨u,G,O,U,af,ag,A,⟨C,⟨l,W,o⟩,⟨p,X,r⟩⟩⟩:=y.get aa;rw[j] at A;have Y:=BJ A;rw[<-Y] at o r;have ab:Bi (us.map V.ref) m.1=some (.ref u):=by rw[t];exact Bu (by rw[AX,U];rfl)
 refine⟨_,(Am (AK (i:=2) Xy.nd (As At (As At (pv 0) Ah) (As At (pv 1) Ah)))
  (Au (AH (As At (As At (As At (pv 2) (HF Sy B.b_int (Ab (IM BV (As At (pv 1) Ah) Bb (A9 _)) Ad))) (As At (pv 1) Ah)) Ah)))),?_⟩
 rfl';refine(Or.inr (Or.inl ⟨_,.ref S,M,rfl,Or.inr (Or.inl ⟨_,.int m.1,b,rfl,Or.inl ⟨_,.ref u,Af.of y.top,ab,?_⟩⟩)⟩));refine(Or.inr (Or.inl ⟨_,.str m.2.1,b,rfl,rfl,Or.inr ⟨_,rfl,?_⟩⟩));rcases N with⟨c,a⟩|⟨c,a⟩;have d:=AA a;rw[Wy t g j c d] at q;have e:l[k]?=some (l[k]'(by rw[o.len];exact a)):=AA _;have v:=o.at_ _ _ _ e d;have x:Bi (l.map V.ref) m.2.2=some (.ref (l[k]'(by rw[o.len];exact a))):=by rw[g];exact Bu (by rw[AX,e];rfl)
 rw[D8 (show ¬V.str m.2.1=V.str "told" from λz=>ZB (c.symm.trans (V.str.inj z)))]
 exact Or.inr (Or.inl ⟨_,.ref G,Al.of C,rfl,Or.inr (Or.inl ⟨_,.int m.2.2,b,rfl,Or.inl ⟨_,_,Af.of W,x,Or.inr (Or.inl ⟨_,.str Z.1[k].1,Al.of v,rfl,q⟩)⟩⟩)⟩);have d:=AA a;rw[Wz t g j (λz=>Oy (c.symm.trans z)) d] at q;have e:p[k]?=some (p[k]'(by rw[r.len];exact a)):=AA _;have v:=r.at_ _ _ _ e d;have x:Bi (p.map V.ref) m.2.2=some (.ref (p[k]'(by rw[r.len];exact a))):=by rw[g];exact Bu (by rw[AX,e];rfl)
 rw[AY (show V.str m.2.1=V.str "told" by rw[c])];exact Or.inr (Or.inl ⟨_,.ref O,Al.of C,rfl,Or.inr (Or.inl ⟨_,.int m.2.2,b,rfl,Or.inl ⟨_,_,Af.of X,x,Or.inr (Or.inl ⟨_,.str Z.2[k].1,Al.of v,rfl,q⟩)⟩⟩)⟩)
def Ks(a b:Aq):Dk 2 (IU a) (IU b):=.tup (.cons (.int _ _) (.cons (.str _ _) (.cons (.int _ _) (.nil _))))
def iM{a b:Aq}(h:IU a=IU b):a=b:=L1.inj a b h
def MN{a b:Str}:dec (Nc (a,b)∈ord.map Nc)=dec ((a,b)∈ord):=KP ⟨λh=>by
 obtain⟨⟨x,y⟩,f,e⟩:=AN.mp h;injection e with e;injection e with d c;injection c with c _;have d:x=a:=Dt.str.inj d;have c:y=b:=Dt.str.inj c;rw[<-d,<-c]
 exact f,λh=>AN.mpr ⟨_,h,rfl⟩⟩
inductive DR (K:Aj) (vs:List V) (H:Hp) (Q:VK):Prop where
 |mk (nt S T R t a b:Addr) (us Gs Es:List Addr) (ss:List Bg) (F G1 G2:Addr->Prop) (sts:List Ce) (inn:Int) (ord:A') (w1 w2:List Aq) (h0:vs=[.ref nt,.ref t,.ref a,.ref b]) (h1:H nt=some (.tup [.ref S,.ref T,.ref R])) (h2:CG H S us Gs Es ss) (h3:FO K F H t sts inn ord) (h4:Cn G1 H a w1) (h5:Cn G2 H b w2) (h6:Hu ss w1) (h7:Hu ss w2) (h8:∀H',Ac H H'->Q (.bl (CB ss ord w1 w2)) H'):DR K vs H Q
def iN (K:Aj):Sp:=λvs H Q ζ=>DR K vs H Q
abbrev U0(P w K mg base):=Br P w K mg base "_law_hides" 2 ["_law_net", "_law_table_here", "_law_one", "_law_other"] (iN K)
theorem iO(B:Bt mg)(ae:UZ P w K mg base)(F:Bm K "_law_hides" "_law_hides" RI f fd)(hm:mg "_law_hides" = some (.ref f)):U0 P w K mg base:=by
 refine BE F hm Uy (λvs H ah ai h=>?_) (λa1 ay a4 s H vs ah ai L h=>?_);obtain⟨k,S,T,R,t,a,b,us,r,u,ss,F,G1,G2,aj,ak,ord,c,d,rfl,_⟩:=h;rfl
 . obtain⟨k,S,T,R,t,a,b,us,r,u,ss,F,G1,G2,aj,ak,ord,c,d,rfl,M,SC,TB,⟨ma,N,v,_⟩,⟨mb,O,y,_⟩,al,an,q⟩:=h
   obtain⟨ta,o,a2,a3,et,_,_,_,_,_,eo,TO⟩:=TB.ex
   refine⟨_,(Am (Ca B8 rfl (HM rfl B.b_zip (Ab (pv 2) (Ab (pv 3) Ad))) (BU (n:=2) rfl (AD (Aw (i:=4) Uy.nd) (AD (Aw (i:=5) Uy.nd) BS))) (Au (A5 (Bl (LP L.units) (pv 4) (pv 5) (A9 _)) (Au (AH (IM (HS L.units) (Bd (Ab (AR ae (Ab (pv 0) (Ab (pv 4) Ad))) (Ab (AR ae (Ab (pv 0) (Ab (pv 5) Ad))) Ad))) (As At (pv 1) Ah) (by with_unfolding_all rfl)))) A4)))
    (Au (AH G3))),?_⟩
   rfl';refine⟨a,b,rfl,⟨_,Af.of N⟩,⟨_,Af.of O⟩,Qi LK (xs:=ma.map V.ref) (ys:=mb.map V.ref) (λi σ Q=>∃A C:Option V,σ=[some (.ref k),some (.ref t),some (.ref a),some (.ref b),A,C]/\Ac H Q/\∀j,j<i->c[j]?=d[j]?) ⟨none,none,rfl,Ac.refl _,λj hj=>by lia⟩ (λi σ Q ao=>by obtain⟨_,_,_,s,_⟩:=ao;exact⟨Af.of (s _ _ N),Af.of (s _ _ O)⟩) ?_ ?_⟩;rotate_left;rintro σ Y ⟨A,C,rfl,D,g⟩;rw[Ak,Ak,v.len,y.len] at g
   rw[TH ss ord g (by lia) (by lia),TF ss ord (by
    rcases Nat.le_total c.length d.length with h|h;exact .inl (List.drop_eq_nil_of_le (by lia))
    exact .inr (List.drop_eq_nil_of_le (by lia)))] at q
   exact q Y D;rintro i x az T' σ Y U W aq ⟨A,C,rfl,D,g⟩;rw[AX] at U W;obtain⟨E,af,rfl⟩:=E8.mp U;obtain⟨G,ag,rfl⟩:=E8.mp W;have I:i<c.length:=by rw[<-v.len];exact(Bh.mp af).1
   have J:i<d.length:=by rw[<-y.len];exact(Bh.mp ag).1
   have X:=AA I;have Z:=AA J;have aa:=v.at_ i E _ af X;have ab:=y.at_ i G _ ag Z;have o1:=al.1 _ (DX I);have o2:=an.1 _ (DX J);obtain⟨H3,ar,s3,au⟩:=new_at (o:=.tup [.ref E,.ref G]) aq;rw[<-ar];have e:=D.trans s3;refine⟨_,Al.of au,rfl,?_⟩;refine⟨2,IU c[i],IU d[i],Ks _ _,by decide,Ov _ _ (e _ _ aa),Ov _ _ (e _ _ ab),rfl,?_⟩;by_cases l:c[i]=d[i];rw[Fa (by rw[l])];refine Bp ⟨_,_,rfl,e,λj hj=>?_⟩;by_cases av:j<i;exact g j av;have:j=i:=(by lia);subst this;rw[X,Z,l];rw[Go (λz=>l (iM z))];refine Cu ?_
   have hd:CB ss ord c d=dec ((EH ss c[i],EH ss d[i])∈ord):=by
    rw[TH ss ord g (by lia) (by lia),Kz I,Kz J];exact WB ss ord _ _ l
   refine⟨k,S,T,R,E,us,r,u,ss,c[i],rfl,Al.of (e _ _ M),SC.same e,Al.of (e _ _ aa),o1,k,S,T,R,G,us,r,u,ss,d[i],rfl,Al.of (e _ _ M),SC.same e,Al.of (e _ _ ab),o2,BK,λp hp=>?_⟩;obtain⟨H4,aw,s4,ep⟩:=new_at (o:=.tup [.str (EH ss c[i]),.str (EH ss d[i])]) hp;rw[<-aw];have m:=e.trans s4;refine(Or.inr (Or.inl ⟨_,.ref o,Al.of (m _ _ et),rfl,2,Nc (EH ss c[i],EH ss d[i]),ord.map Nc,o,_,λa0 ax=>?_,by decide,.tup (Al.of ep) (.cons (.str _) (.cons (.str _) .nil)),rfl,Af.of (m _ _ eo),(TO.same m).dts,?_⟩));obtain⟨z,_,rfl⟩:=AN.mp ax;exact .tup (.cons (.str _ _) (.cons (.str _ _) (.nil _)));rw[MN,<-hd];exact q H4 m
inductive CZ (K:Aj) (vs:List V) (H:Hp) (Q:VK):Prop where
 |mk (nt S T R t D l:Addr) (us Gs Es:List Addr) (ss:List Bg) (F G1 G2:Addr->Prop) (sts:List Ce) (inn:Int) (ord:A') (zs:List (Addr×List Aq)) (w:List Aq) (h0:vs=[.ref nt,.ref t,.ref D,.ref l]) (h1:H nt=some (.tup [.ref S,.ref T,.ref R])) (h2:CG H S us Gs Es ss) (h3:FO K F H t sts inn ord) (h4:H D=some (.lst (zs.map λz=>V.ref z.1))) (h5:(∀z∈zs,Cn G1 H z.1 z.2)) (h6:(∀z∈zs,Hu ss z.2)) (h7:Cn G2 H l w) (h8:Hu ss w) (h9:∀H',Ac H H'->Q (.bl ((zs.map (·.2)).any λv=>CB ss ord v w)) H'):CZ K vs H Q
def XY (K:Aj):Sp:=λvs H Q ζ=>CZ K vs H Q
abbrev U1(P w K mg base):=Br P w K mg base "_law_hidden" 3 ["_law_net", "_law_table_here", "_law_ways", "_law_way"] (XY K)
def iP(B:Bt mg)(Y:U0 P w K mg base)(F:Bm K "_law_hidden" "_law_hidden" RJ f fd)(G:mg "_law_hidden" = some (.ref f)):U1 P w K mg base:=by
 refine BE F G Xz (λI H Q E h=>?_) (λae aa af s H I Q E hr h=>?_);obtain⟨e,S,T,R,t,D,l,us,k,m,ss,F,n,o,A,C,ord,b,w,rfl,_⟩:=h;rfl
 . obtain⟨e,S,T,R,t,D,l,us,k,m,ss,F,n,o,A,C,ord,b,w,rfl,J,SC,L,p,M,N,O,W,q⟩:=h
   refine⟨_,(Am (Ca B8 rfl (Ct (pv 2)) (Aw (i:=4) Xz.nd) (Au (A5 (Gk (AR Y (Ab (pv 0) (Ab (pv 1) (Ab (pv 4) (Ab (pv 3) Ad)))))) (Au (AH G3)) A4)))
    (Au (AH G3))),?_⟩
   rfl';refine⟨⟨_,Af.of p⟩,Eg (xs:=b.map λz=>V.ref z.1) (λi σ r=>∃g,σ=[some (.ref e),some (.ref t),some (.ref D),some (.ref l),g]/\Ac H r/\(((b.take i).map (·.2)).any λv=>CB ss ord v w)=false) ⟨none,rfl,Ac.refl _,rfl⟩ (λi σ r ζ Z=>by obtain⟨_,_,s,_⟩:=Z;exact Af.of (s _ _ p)) ?_ ?_⟩;rotate_left;rintro σ U ⟨g,rfl,a,d⟩;rw[Ak,Cr] at d;have:=q _ a;rw[d] at this;exact this;rintro i x σ U X ⟨g,rfl,a,d⟩;obtain⟨z,u,rfl⟩:=getm X;have j:=Bc u;refine⟨e,S,T,R,t,z.1,l,us,k,m,ss,F,n,o,A,C,ord,z.2,w,rfl,a _ _ J,SC.same a,L.same a,(M z j).same a,O.same a,N z j,W,λab y=>⟨rfl,An (λc=>?_) (λc=>?_)⟩⟩;have:=q _ (a.trans y)
   rw[show((b.map (·.2)).any λv=>CB ss ord v w)=true from Jb.mpr ⟨z.2,AN.mpr ⟨z,j,rfl⟩,c⟩] at this;exact this
   refine⟨_,rfl,a.trans y,?_⟩;rw[D7,u,A6,List.any_append,d];simpa using c
def Hi (as:List (C')) (p:DZ):Str×Int:=if p.2.2.1=("thing" : Str) then("thing",p.2.2.2) else match as[p.2.2.2.toNat]? with
 |some (some a)=>if a.1=("thing" : Str) then a else("none",0)
 |some none=>("open",p.2.2.2)
 |none=>("none",0)
def iQ(p:DZ):Bi (Ea p) ((2:Nat):Int)=some (.str p.2.2.1):=Bu (j:=2) rfl
def U2(p:DZ):Bi (Ea p) ((3:Nat):Int)=some (.int p.2.2.2):=Bu (j:=3) rfl
inductive DS (K:Aj) (vs:List V) (H:Hp) (Q:VK):Prop where
 |mk (A tp:Addr) (as:List (C')) (th:Nat) (p:DZ) (h0:vs=[.ref A,.ref tp]) (h1:HW K H A as) (h2:Al K H tp (Ea p)) (h3:ET th as.length p) (h4:∀(t:Addr)(H':Hp),Ac H H'->Al K H' t [.str (Hi as p).1,.int (Hi as p).2]->Q (.ref t) H'):DS K vs H Q
def XZ (K:Aj):Sp:=λvs H Q ζ=>DS K vs H Q
abbrev U3(P w K mg base):=Br P w K mg base "_law_meant" 1 ["_law_answers_here", "_law_telling_here"] (XZ K)
def iR(B:Bt mg)(F:Bm K "_law_meant" "_law_meant" RK f fd)(z:mg "_law_meant" = some (.ref f)):U3 P w K mg base:=by
 refine BE F z XA (λC H Q E h=>?_) (λX A Y s H C Q E U h=>?_);obtain⟨A,D,u,G,p,rfl,_⟩:=h;rfl;obtain⟨A,D,u,G,p,rfl,I,j,J,q⟩:=h
 refine⟨_,(Am (A5 (Bl BV (As At (pv 1) Ah) Bb (A9 _)) (Au (AH (Bd (Ab Bb (Ab (As At (pv 1) Ah) Ad))))) A4)
  (Am (AK (i:=2) XA.nd (As At (pv 0) (As At (pv 1) Ah)))
  (Am (A5 (Gj (G4 (pv 2))) (Au (AH (Bd (Ab Bb (Ab (As At (pv 1) Ah) Ad))))) A4)
  (Am (A5 (Bl BV (As At (pv 2) Ah) Bb (A9 _)) (Au (AH (pv 2))) A4)
  (Au (AH (Bd (Ab Bb (Ab Ah Ad))))))))),?_⟩
 rfl';refine(Or.inr (Or.inl ⟨_,.str p.2.2.1,j,iQ p,rfl,rfl,An (λm=>?_) (λm=>?_)⟩));have b:p.2.2.1=("thing" : Str):=V.str.inj (A3 m);refine(Or.inr (Or.inl ⟨_,.int p.2.2.2,j,U2 p,BK,λt c=>?_⟩));have d:=AW (o:=.tup [.str "thing",.int p.2.2.2]) c;refine q t _ d (Al.of ?_);unfold Hi;rw[Ar b];exact Aa;have b:¬p.2.2.1=("thing" : Str):=λe=>m (AY (by rw[e]));rcases J with⟨e,_⟩|⟨_,L,W⟩;exact absurd e b;obtain⟨k,g⟩:=Cz L;have R:k<u.length:=(by lia);obtain⟨x,v,S,M,N⟩:=I.get R;have T:Bi x p.2.2.2=some v:=by rw[g];exact Bu M
 refine(Or.inr (Or.inl ⟨_,.int p.2.2.2,j,U2 p,Or.inl ⟨x,v,S,T,?_⟩⟩));rcases N with⟨l,rfl⟩|⟨a,O,l,rfl,y⟩;refine⟨rfl,An (λζ=>?_) (λh=>absurd (AY rfl) h)⟩;refine(Or.inr (Or.inl ⟨_,.int p.2.2.2,j,U2 p,BK,λt c=>?_⟩));have d:=AW (o:=.tup [.str "open",.int p.2.2.2]) c;refine q t _ d (Al.of ?_);unfold Hi;rw[Ao b,g,Bw,l];rw[<-g];exact Aa;refine⟨rfl,An (λh=>absurd (A3 h) (by simp)) (λζ=>?_)⟩;refine(Or.inr (Or.inl ⟨_,.str a.1,y,rfl,rfl,rfl,An (λn=>?_) (λn=>?_)⟩));have r:a.1=("thing" : Str):=V.str.inj (A3 n);refine q O _ (Ac.refl _) ?_;unfold Hi;rw[Ao b,g,Bw,l];dsimp only;rw[Ar r];exact y;have r:¬a.1=("thing" : Str):=λe=>n (AY (by rw[e]));refine⟨BK,λt c=>?_⟩;have d:=AW (o:=.tup [.str "none",.int 0]) c;refine q t _ d (Al.of ?_);unfold Hi;rw[Ao b,g,Bw,l];dsimp only;rw[Ao r];exact Aa
def X0:("thing" : Str)≠("by" : Str):=by decide +kernel
def U4:("thing" : Str)≠("open" : Str):=by decide +kernel
def X1:("none" : Str)≠("open" : Str):=by decide +kernel
def Pb:Option Int->Str×Int
 |some n=>("thing",n)
 |none=>("none",0)
def iS{a b:Option Int}(h:Pb a=Pb b):a=b:=by
 cases a with
 |none =>
   cases b with
   |none=>rfl
   |some n=>exact absurd (BB Prod.fst h) Nl
 |some m =>
   cases b with
   |none=>exact absurd (BB Prod.fst h).symm Nl
   |some n=>exact BB some (BB Prod.snd h)
def iT{w:List Aq}{p:DZ}{th:Int}(e:CC W.ss w=p)(f:ET th W.as.length p):((Hi W.as p).1=("open" : Str)/\GO W w=some (Hi W.as p).2)\/(¬(Hi W.as p).1=("open" : Str)/\GO W w=none/\Hi W.as p=Pb (BM W w)):=by
 unfold GO BM Hi;rw[e];rcases f with⟨b,_⟩|⟨b,h,i⟩;right;rw[Ar b,Ao (λz=>X0 (b.symm.trans z.1)),Ar b];exact⟨U4,rfl,rfl⟩;have d:¬p.2.2.1=("thing" : Str):=λz=>X0 (z.symm.trans b);rw[Ao d,Ao d]
 cases g:W.as[p.2.2.2.toNat]? with
 |none=>rw[List.getElem?_eq_none_iff] at g;lia
 |some o =>
   cases o with
   |none =>
     left;rw[Ar ⟨b,rfl⟩];exact⟨rfl,rfl⟩
   |some a =>
     right;rw[Ao (λz=>by cases z.2)];dsimp only;by_cases c:a.1=("thing" : Str);rw[Ar c,Ar c];exact⟨λz=>U4 (c.symm.trans z),rfl,Prod.ext c rfl⟩;rw[Ao c,Ao c];exact⟨X1,rfl,rfl⟩
def Bf (W:Wd) (w:List Aq):Str×Int:=Hi W.as (CC W.ss w)
def ID(a:Bz W){w:List Aq}(h:CH W.ss w):((Bf W w).1=("open" : Str)/\GO W w=some (Bf W w).2)\/(¬(Bf W w).1=("open" : Str)/\GO W w=none/\Bf W w=Pb (BM W w)):=iT (th:=W.gs.length) rfl (Nk a h)
noncomputable def EC (W:Wd) (ord:A') (ws:List (List Aq)) (os:List Ow):Str×Int×List Aq:=match GP W ord ws os with
 |some o=>("open",o.2,o.1)
 |none=>((B4 W (Dx W.ss ord ws ws) 0).1,(B4 W (Dx W.ss ord ws ws) 0).2,[])
variable {ws:List (List Aq)}{os:List Ow}
def iU{o:Ow}(h:FW W.ss ord ws os=some o):EC W ord ws os=(("open" : Str),o.2,o.1):=by unfold EC GP;rw[h]
def iV{o:Ow}(h:FW W.ss ord ws os=none)(k:FV W (Dx W.ss ord ws ws)=some o):EC W ord ws os=(("open" : Str),o.2,o.1):=by unfold EC GP;rw[h];dsimp only;rw[k]
def U5(h:FW W.ss ord ws os=none)(k:FV W (Dx W.ss ord ws ws)=none)(e:B4 W (Dx W.ss ord ws ws) 0=p):EC W ord ws os=(p.1,p.2,[]):=by unfold EC GP;rw[h];dsimp only;rw[k];dsimp only;rw[e]
def Kt(g:Bz W){w:List Aq}{r:List (List Aq)}(i:∀v∈w::r,CH W.ss v)(j:FV W (w::r)=none):B4 W (w::r) 0=if ∀v∈w::r,Bf W v=Bf W w then Bf W w else(("torn" : Str),0):=by
 have b:∀v∈w::r,Bf W v=Pb (BM W v):=λv a=>by
  rcases ID g (i v a) with⟨_,d⟩|⟨_,_,k⟩;rw[Ub j v a] at d;cases d;exact k
 have f:(∀v∈w::r,Bf W v=Bf W w)↔∀v∈w::r,BM W v=BM W w:=by
  constructor;intro h v a;have:=h v a;rw[b v a,b w B2] at this;exact iS this;intro h v a;rw[b v a,b w B2,h v a]
 by_cases c:∀v∈w::r,BM W v=none;rw[OG c,Ar (f.mpr λv a=>(c v a).trans (c _ B2).symm),b w B2,c w B2];rfl;by_cases e:∀v∈w::r,BM W v=BM W w;obtain⟨n,l,d⟩:=Qm (at_:=0) c e;rw[Ar (f.mpr e),b w B2,l,d];rfl;rw[Ao (λz=>e (f.mp z)),Ql c e]
def iW{q:Str×Int}(h:DY p=DY q):p=q:=by
 have e:[Dt.str p.1,Dt.int p.2]=[Dt.str q.1,Dt.int q.2]:=Dt.tup.inj h;exact Prod.ext (Dt.str.inj (List.cons.inj e).1) (Dt.int.inj (List.cons.inj (List.cons.inj e).2).1)
variable {H:Hp}
def MO{t:Addr}(h:Al K H t [.str p.1,.int p.2]):Ap K H (.ref t) (DY p):=.tup h (.cons (.str _) (.cons (.int _) .nil))
variable {d:Dt}
def E2{l:List Dt}:(decide (((l.countP λe=>dec (e=d):Nat):Int)<(l.length:Nat)))=false↔∀e∈l,e=d:=by
 have c:=List.countP_le_length (p:=λe=>dec (e=d)) (l:=l);rw[decide_eq_false_iff_not];constructor;intro h e a;have b:l.countP (λe=>dec (e=d))=l.length:=(by lia);exact Ds.mp (List.countP_eq_length.mp b e a);intro h;have b:l.countP (λe=>dec (e=d))=l.length:=List.countP_eq_length.mpr λe a=>Fa (h e a);lia
def Pc:([]:List V).length+1+1+1<=sizeLine:=by decide
def Q2:∀{K:Aj}{H:Hp}{vs:List V}{c:List Dt}{v:V}{d:Dt},Ai K H vs c->Ap K H v d->Ai K H (vs++[v]) (c++[d]):=λa b=>Ai.append a (.cons b .nil)
def Gy(a:List (List Aq))(at_:Int):((B4 W a 0).1=("thing" : Str)/\B4 W a at_=B4 W a 0)\/(((B4 W a 0).1=("none" : Str)\/(B4 W a 0).1=("torn" : Str))/\B4 W a at_=((B4 W a 0).1,at_)):=by
 by_cases c:∀w∈a,BM W w=none;rw[OG c,OG c];exact .inr ⟨.inl rfl,rfl⟩
 cases a with
 |nil=>exact absurd (λw e=>by cases e) c
 |cons w r =>
   by_cases b:∀v∈w::r,BM W v=BM W w;obtain⟨n,f,g⟩:=Qm (at_:=0) c b;obtain⟨m,d,h⟩:=Qm (at_:=at_) c b;rw[f] at d;rw[g,h,BJ d];exact .inl ⟨rfl,rfl⟩;rw[Ql c b,Ql c b];exact .inr ⟨.inr rfl,rfl⟩
def iX:("torn" : Str)≠("open" : Str):=by decide +kernel
def Ku{e:Str×Int×List Aq}(h:EC W ord ws os=e)(at_:Int):(e.1=("open" : Str)/\Cv W ord ws os at_=(none,some (at_,e.2.2,e.2.1)))\/(e.1=("thing" : Str)/\Cv W ord ws os at_=(some (("thing" : Str),e.2.1),none))\/(e.1≠("open" : Str)/\e.1≠("thing" : Str)/\Cv W ord ws os at_=(some (e.1,at_),none)):=by
 subst h
 cases b:GP W ord ws os with
 |some o =>
   left;have c:EC W ord ws os=(("open" : Str),o.2,o.1):=by unfold EC;rw[b]
   rw[c,WW b];exact⟨rfl,rfl⟩
 |none =>
   right;have c:EC W ord ws os=((B4 W (Dx W.ss ord ws ws) 0).1,(B4 W (Dx W.ss ord ws ws) 0).2,[]):=by unfold EC;rw[b]
   rw[c,Qk b];rcases Gy (W:=W) (Dx W.ss ord ws ws) at_ with⟨a,d⟩|⟨a,d⟩;left;refine⟨a,?_⟩;rw[d,<-a];right;rw[d];rcases a with a|a;exact⟨λz=>X1 (a.symm.trans z),λz=>Nl (a.symm.trans z),rfl⟩;exact⟨λz=>iX (a.symm.trans z),λz=>Qp (a.symm.trans z),rfl⟩
inductive E3 (K:Aj) (vs:List V) (H:Hp) (Q:VK):Prop where
 |mk (nt A t D E:Addr) (F G1 G2:Addr->Prop) (W:Wd) (inn:Int) (ord:A') (zs:List (Addr×List Aq)) (os:List (Addr×Ow)) (h0:vs=[.ref nt,.ref t,.ref A,.ref D,.ref E]) (h1:A1 K H nt A t W) (h2:FO K F H t W.sts inn ord) (h3:Bz W) (h4:H D=some (.lst (zs.map λz=>V.ref z.1))) (h5:(∀z∈zs,Cn G1 H z.1 z.2)) (h6:(∀z∈zs,Hu W.ss z.2)) (h7:(∀z∈zs,CH W.ss z.2)) (h8:zs.length<=62) (h9:H E=some (.lst (os.map λz=>V.ref z.1))) (h10:(∀z∈os,FA G2 H z.1 z.2)) (h11:(∀z∈os,Hu W.ss z.2.1)) (h12:∀(p l:Addr)(e:Str×Int×List Aq)(H':Hp),Ac H H'->EC W ord (zs.map (·.2)) (os.map (·.2))=e->H' p=some (.tup [.str e.1,.int e.2.1,.ref l])->Ap K H' (.ref l) (Dc.D e.2.2)->Q (.ref p) H'):E3 K vs H Q
def iY (K:Aj):Sp:=λvs H Q ζ=>E3 K vs H Q
abbrev U6(P w K mg base):=Br P w K mg base "_law_end" 4 ["_law_net", "_law_table_here", "_law_answers_here", "_law_ways", "_law_dues"] (iY K)
theorem iZ(B:Bt mg)(aD:U1 P w K mg base)(aP:U3 P w K mg base)(aQ:Q1 P w K mg base)(F:Bm K "_law_end" "_law_end" ND f fd)(M:mg "_law_end" = some (.ref f)):U6 P w K mg base:=by
 refine BE F M Mu (λvs H aL aM ay=>?_) (λbi af bm s H vs aL aM hr ay=>?_);obtain⟨nt,af,t,ag,E',F,G1,G2,W,a4,ord,a,os,rfl,_⟩:=ay;rfl;obtain⟨nt,af,t,ag,E',F',G1,G2,W,a4,ord,a,os,rfl,hC,TB,sm,eD,R,oz,ez,lz,eE,ho,oo,ah⟩:=ay;obtain⟨⟨az,a0,a1,us,Gs,Es,ts,qt,qs,eN,N3⟩,hA,_⟩:=hC
 refine⟨_,(Am (Ca B8 rfl (Ct (pv 4)) (BU (n:=2) rfl (AD (Aw (i:=5) Mu.nd) (AD (Aw (i:=6) Mu.nd) BS))) (Au (A5 (KG (Gk (AR aD (Ab (pv 0) (Ab (pv 1) (Ab (pv 3) (Ab (pv 5) Ad))))))) (Au (AH (Bd (Ab Bb (Ab (pv 6) (Ab (pv 5) Ad)))))) A4)))
  (Am (PQ (i:=7) Mu.nd rfl (Or.inl rfl) (te:=Cs 0) (tc:=NI (tB (M8 (XY K) [] E0 (Hm (Cs 1) (Hm (Cs 2) (Hm (Cs 3) (Hm (Cs 0) G5))))))) rfl Dy (Ct (pv 3)) (λζ ζ ζ ζ ζ=>(Aw (i:=0) Dy.nd)) (λζ ζ ζ ζ ζ=>(PP (KG (Gk (AR aD (Ab (pv 1) (Ab (pv 2) (Ab (pv 3) (Ab (pv 0) Ad))))))))) (λζ ζ ζ ζ ζ=>(pv 0)))
  (Am (PQ (i:=8) Mu.nd rfl (Or.inl rfl) (te:=M8 (XZ K) [] E0 (Hm (Cs 1) (Hm (M8 (UY K) [] E0 (Hm (Cs 2) (Hm (Hl (LA K) (Cs 0) (Su (rU λi=>.int (-i)) (tC (.int ((1:Nat):Int))))) G5))) G5))) rfl Dz (Ct (pv 7)) (λζ ζ ζ ζ ζ=>(Aw (i:=0) Dz.nd)) (λζ ζ ζ ζ ζ=>HP) (λζ ζ ζ ζ ζ=>(AR aP (Ab (pv 1) (Ab (AR aQ (Ab (pv 2) (Ab (As At (pv 0) (M5 M6 Ah)) Ad))) Ad)))))
  (Am (Ca B8 rfl (HM rfl B.b_zip (Ab (pv 7) (Ab (pv 8) Ad))) (BU (n:=2) rfl (AD (Aw (i:=5) Mu.nd) (AD (Aw (i:=9) Mu.nd) BS))) (Au (A5 (Bl BV (As At (pv 9) Ah) Bb (A9 _)) (Au (AH (Bd (Ab Bb (Ab (As At (pv 9) Ah) (Ab (pv 5) Ad)))))) A4)))
  (Am (A5 (Bl (Ta hr.units) (pv 8) (Cb Ad) (A9 _)) (Au (AH (Bd (Ab Bb (Ab Ah (Ab (Cb Ad) Ad)))))) A4)
  (Am (A5 (Bl GI (Dj Dd PySem.F.slot_list_count PySem.F.type_list_count (Z1 hr.units) (pv 8) (Ab (As At (pv 8) Ah) Ad)) (BP Ey B.b_len (Ab (pv 8) Ad)) (A9 _)) (Au (AH (Bd (Ab Bb (Ab Ah (Ab (Cb Ad) Ad)))))) A4)
  (Au (AH (Bd (Ab (As At (As At (pv 8) Ah) Ah) (Ab (As At (As At (pv 8) Ah) Ah) (Ab (Cb Ad) Ad)))))))))))),?_⟩
 rfl';refine⟨⟨_,Af.of eE⟩,Eg (xs:=os.map λz=>V.ref z.1) (λi σ h=>∃u5 u6,σ=[some (.ref nt),some (.ref t),some (.ref af),some (.ref ag),some (.ref E'),u5,u6,none,none,none]/\Ac H h/\FW W.ss ord (a.map (·.2)) (os.map (·.2))=FW W.ss ord (a.map (·.2)) ((os.map (·.2)).drop i)) ⟨none,none,rfl,Ac.refl _,rfl⟩ (λi σ h ζ Z=>by obtain⟨_,_,_,s,_⟩:=Z;exact Af.of (s _ _ eE)) ?_ ?_⟩;rintro i y σ aC g ⟨u5,u6,rfl,q,j⟩;obtain⟨z,aE,rfl⟩:=getm g;have m:=Bc aE;obtain⟨l,el,hl⟩:=(ho z m).way;rw[KZ (x:=z.2) (by rw[AX,aE];rfl)] at j;refine⟨_,Al.of (q _ _ el),rfl,?_⟩;cbv;refine⟨nt,az,a0,a1,t,ag,l,us,Gs,Es,W.ss,F',G1,G2,W.sts,a4,ord,a,z.2.1,rfl,q _ _ eN,N3.sc.same q,TB.same q,q _ _ eD,(λy g=>(R y g).same q),oz,hl.same q,oo z m,λa2 L=>⟨rfl,An (λc=>?_) (λc=>?_)⟩⟩
 have S:((a.map (·.2)).any λv=>CB W.ss ord v z.2.1)=false:=by
  rw[Bool.not_eq_true'] at c;exact c
 refine⟨Pc,λp D=>?_⟩;have u:=AW (o:=.tup [.str "open",.int z.2.2,.ref l]) D;have ai:=q.trans L;exact ah p l _ _ (ai.trans u) (iU (j.trans (WZ S))) Aa ((hl.same (ai.trans u)).dt)
 have S:((a.map (·.2)).any λv=>CB W.ss ord v z.2.1)=true:=by
  cases e:((a.map (·.2)).any λv=>CB W.ss ord v z.2.1) with
  |true=>rfl
  |false=>rw[e] at c;exact absurd rfl c
 exact⟨_,_,rfl,q.trans L,j.trans (W0 S)⟩;rintro σ aC ⟨u5,u6,rfl,q,j⟩
 have aw:FW W.ss ord (a.map (·.2)) (os.map (·.2))=none:=by
  rw[Ak] at j;rw[j,List.drop_eq_nil_of_le (by rw[Ak];exact AI _)];rfl
 clear j;have a5:=q _ _ eD
 refine⟨⟨_,Af.of a5⟩,PZ (xs:=a.map λz=>V.ref z.1) (λE i ys h=>∃sub:List (Addr×List Aq),ys=sub.map (λz=>V.ref z.1)/\sub.map (·.2)=Dx W.ss ord (a.map (·.2)) ((a.map (·.2)).take i)/\(∀z∈sub,z∈a)/\Ac aC h/\h E=some (.lst ys))
  (λE aa=>⟨[],rfl,rfl,(λz R=>by cases R),AW aa,Aa⟩) (λE i ys h Z=>by obtain⟨_,_,_,_,s,_⟩:=Z;exact Af.of (s _ _ a5)) (λE av y ys a2 RR R0 aa g G k k0=>?_) (λSH ys a2 bj G=>?_)⟩
 refine AL λNz aj=>?_;obtain⟨sub,rfl,C,M,L,ax⟩:=G;refine aj ?_;clear aj;obtain⟨z,J,rfl⟩:=getm g;have m:=Bc J;have ak:=q.trans L;have T:=TW (ss:=W.ss) (ord:=ord) (all:=a.map (·.2)) (l:=a.map (·.2)) (i:=av) (w:=z.2) (by rw[AX,J];rfl);refine⟨nt,az,a0,a1,t,ag,z.1,us,Gs,Es,W.ss,F',G1,G1,W.sts,a4,ord,a,z.2,rfl,ak _ _ eN,N3.sc.same ak,TB.same ak,L _ _ a5,(λy g=>(R y g).same ak),oz,(R z m).same ak,oz z m,λH3 u=>⟨rfl,An (λc=>?_) (λc=>?_)⟩⟩;have S:((a.map (·.2)).any λv=>CB W.ss ord v z.2)=false:=by rw[Bool.not_eq_true'] at c;exact c
 rw[S,Ao CS] at T;have aR:=u _ _ ax;refine k _ _ aR ?_ ⟨sub++[z],by rw[A6];rfl,by rw[A6,C,T];rfl,λy g=>?_,λb o e=>?_,Aa⟩;have U:=BB List.length C;have X:=TX (ss:=W.ss) (ord:=ord) (all:=a.map (·.2)) (l:=(a.map (·.2)).take av);rw[Ak] at U;rw[EJ,Ak] at X;rw[Ak];exact BL (by lia);rcases BI.mp g with g|g;exact M y g;rw[A7.mp g];exact m;rw[AE (AU e aa)];exact u _ _ (L _ _ e)
 have S:((a.map (·.2)).any λv=>CB W.ss ord v z.2)=true:=by
  cases e:((a.map (·.2)).any λv=>CB W.ss ord v z.2) with
  |true=>rfl
  |false=>rw[e] at c;exact absurd rfl c
 rw[S,Ar rfl] at T;exact k0 _ ⟨sub,rfl,by rw[C,T],M,L.trans u,u _ _ ax⟩
 refine AL λNz aj=>?_;obtain⟨sub,rfl,C,M,L,a6⟩:=G;refine aj ?_;clear aj;rw[Ak,show a.length=(a.map (·.2)).length from(Ak _).symm,Cr] at C;have ai:=q.trans L
 have bl:sub.length<=62:=by
  have U:=BB List.length C;have X:=TX (ss:=W.ss) (ord:=ord) (all:=a.map (·.2)) (l:=a.map (·.2));rw[Ak] at U;rw[Ak] at X;lia
 cbv
 refine⟨⟨_,Af.of a6⟩,Oj (xs:=sub.map λz=>V.ref z.1) (λE i ys h=>Ac a2 h/\h E=some (.lst ys)/\Ai K h ys (((sub.take i).map λz=>Bf W z.2).map DY)/\ys.length=i)
  (λE aa=>⟨AW aa,Aa,.nil,rfl⟩) (λE i ys h Z=>by obtain⟨s,_⟩:=Z;exact Af.of (s _ _ a6)) (λE av y ys H3 RR aa g G k=>?_) (λa3 ys H3 hM G=>?_)⟩
 obtain⟨u,ax,al,ly⟩:=G;obtain⟨z,J,rfl⟩:=getm g;have m:=M z (Bc J);have bk:av<sub.length:=(Bh.mp J).1;have ab:=ai.trans u;obtain⟨bh,m0,ev,aS,aN⟩:=ez z m;have hw:=(R z m).same ab;rw[ev] at hw;obtain⟨ms,tm,el,aT,aU⟩:=Qn hw;refine(Or.inl ⟨_,.ref tm,Af.of el,aT,nt,az,a0,a1,tm,us,Gs,Es,W.ss,m0,rfl,Al.of (ab _ _ eN),N3.sc.same ab,Al.of aU,aS,aN,λtp aV=>⟨af,tp,W.as,W.gs.length,Ih W.ss m0,rfl,hA.same ab,Al.of aV,?_,λtg H4 I aW=>?_⟩⟩);have:=Nk sm (ez z m);rw[ev,Ma] at this;exact this;have aF:=I _ _ ax;have kD:Keeps (·=E) H4 (upd H4 E (.lst (ys++[.ref tg]))):=Keeps.one aF;refine k _ _ aF (by rw[ly];exact BL (by lia)) ⟨λb o e=>?_,Aa,?_,by rw[AQ,ly];rfl⟩;rw[AE (AU e aa)];exact I _ _ (u _ _ e);rw[D7,J,A6,A6];refine Ai.append (kD.gos (al.same I)) (.cons (MO ?_) .nil);have aO:Bf W z.2=Hi W.as (Ih W.ss m0):=by unfold Bf;rw[ev,Ma]
 show Al K _ tg [.str (Bf W z.2).1,.int (Bf W z.2).2];rw[aO];exact kD.seqT aW;obtain⟨u,eM,al,ly⟩:=G;rw[Ak] at ly;rw[Ak,Cr] at al;have ab:=ai.trans u;have aJ:=u _ _ a6;cbv;have aX:(sub.map (·.2)).length=sub.length:=Ak _;refine⟨SH,a3,rfl,⟨_,Af.of aJ⟩,⟨_,Af.of eM⟩,Qi LK (xs:=sub.map λz=>V.ref z.1) (ys:=ys) (λi σ h=>∃u5 u9,σ=[some (.ref nt),some (.ref t),some (.ref af),some (.ref ag),some (.ref E'),u5,u6,some (.ref SH),some (.ref a3),u9]/\Ac H3 h/\FV W (sub.map (·.2))=FV W ((sub.map (·.2)).drop i)) ⟨_,none,rfl,Ac.refl _,rfl⟩ (λi σ h Z=>by obtain⟨_,_,_,s,_⟩:=Z;exact⟨Af.of (s _ _ aJ),Af.of (s _ _ eM)⟩) ?_ ?_⟩;rintro i x y T' σ H4 hx g aY ⟨aZ,u9,rfl,I,j⟩;obtain⟨z,J,rfl⟩:=getm hx;have m:=M z (Bc J);obtain⟨d,hd,ba⟩:=al.get g;rw[AX,AX,J] at hd;have bb:DY (Bf W z.2)=d:=BJ hd;subst bb;obtain⟨tg,rfl,T⟩:=LR (ba.same I);rw[KZ (x:=z.2) (by rw[AX,J];rfl)] at j;obtain⟨H5,a7,N,eT⟩:=new_at (o:=.tup [.ref z.1,.ref tg]) aY;rw[<-a7];refine⟨_,Al.of eT,rfl,?_⟩;refine(Or.inr (Or.inl ⟨_,.str (Bf W z.2).1,N.seqT T,rfl,rfl,rfl,An (λc=>?_) (λc=>?_)⟩));have e1:(Bf W z.2).1=("open" : Str):=V.str.inj (A3 c);refine(Or.inr (Or.inl ⟨_,.int (Bf W z.2).2,N.seqT T,rfl,Pc,λp D=>?_⟩));have Y:=AW (o:=.tup [.str "open",.int (Bf W z.2).2,.ref z.1]) D;have aG:=(ab.trans (I.trans N)).trans Y
 have ho:GO W z.2=some (Bf W z.2).2:=by
  rcases ID sm (ez z m) with⟨_,X⟩|⟨U,_⟩;exact X;exact absurd e1 U
 refine ah p z.1 _ _ aG (iV aw (o:=(z.2,(Bf W z.2).2)) ?_) Aa ((R z m).same aG).dt;rw[<-C,j];exact Ua ho;have e1:¬(Bf W z.2).1=("open" : Str):=λe=>c (AY (by rw[e]))
 have ho:GO W z.2=none:=by
  rcases ID sm (ez z m) with⟨U,_⟩|⟨_,X,_⟩;exact absurd U e1;exact X
 exact⟨_,_,rfl,I.trans N,j.trans (Qo ho)⟩;rintro σ H4 ⟨aZ,u9,rfl,I,j⟩;rw[Ak,ly,Nat.min_self,List.drop_eq_nil_of_le (by rw[aX];exact AI _)] at j;have an:FV W (Dx W.ss ord (a.map (·.2)) (a.map (·.2)))=none:=by rw[<-C,j];rfl
 have bc:=I _ _ eM;have bg:=al.same I;have bd:=ab.trans I;refine⟨CO _,λl hl=>?_⟩;obtain⟨H5,a7,N,el⟩:=new_at (o:=.lst []) hl;rw[<-a7];have a8:=bd.trans N;have ae:=N _ _ bc;have aA:=bg.same N;refine⟨1,.lst ((sub.map λz:Addr×List Aq=>Bf W z.2).map DY),.lst [],.lst (.nil' _),by decide,.lst (Af.of ae) aA,.lst (Af.of el) .nil,rfl,An (λc=>?_) (λc=>?_)⟩;have e1:(sub.map λz:Addr×List Aq=>Bf W z.2).map DY=[]:=Dt.lst.inj (Ds.mp c);have e2:sub=[]:=List.map_eq_nil_iff.mp (List.map_eq_nil_iff.mp e1);refine⟨CO _,λO ao=>?_⟩;obtain⟨H6,aq,Y,ar⟩:=new_at (o:=.lst []) ao;rw[<-aq];refine⟨Pc,λp D=>?_⟩;have Q:=AW (o:=.tup [.str "none",.int 0,.ref O]) D;refine ah p O _ _ (a8.trans (Y.trans Q)) (U5 (p:=(("none" : Str),0)) aw an ?_) Aa (.lst (Af.of (Q _ _ ar)) .nil);rw[<-C,e2];exact OG λw hw=>by cases hw
 cases sub with
 |nil=>exact absurd (Fa rfl) c
 |cons A r0 =>
   have be:∀v∈((A::r0).map (·.2)),CH W.ss v:=λv G=>by
    obtain⟨z,au,rfl⟩:=AN.mp G;exact ez z (M z au)
   have aK:=Kt sm (w:=A.2) (r:=r0.map λz:Addr×List Aq=>z.2) be (by rw[<-C] at an;exact an);obtain⟨y0,bf,aH⟩:=aA.get' (i:=0) (d:=DY (Bf W A.2)) rfl;obtain⟨t0,rfl,aI⟩:=LR aH;have a9:Bi ys ((0:Nat):Int)=some (.ref t0):=Bu bf;refine⟨Or.inl ⟨rfl,_,Af.of ae⟩,Or.inl ⟨_,.ref t0,Af.of ae,a9,2,DY (Bf W A.2),_,a3,ys,.ref t0,rfl,rfl,Af.of ae,aA,aH,λe he=>?_,by decide,_,Or.inl ⟨_,Af.of ae,rfl⟩,rfl,?_⟩⟩;obtain⟨p,_,rfl⟩:=AN.mp he;exact To p _;have ll:ys.length=(((A::r0).map λz:Addr×List Aq=>Bf W z.2).map DY).length:=by rw[Ak,Ak];exact ly
   rw[ll];refine An (λc2=>?_) (λc2=>?_);refine⟨CO _,λO ao=>?_⟩;obtain⟨H6,aq,Y,ar⟩:=new_at (o:=.lst []) ao;rw[<-aq];refine⟨Pc,λp D=>?_⟩;have Q:=AW (o:=.tup [.str "torn",.int 0,.ref O]) D;refine ah p O _ _ (a8.trans (Y.trans Q)) (U5 (p:=(("torn" : Str),0)) aw an ?_) Aa (.lst (Af.of (Q _ _ ar)) .nil);rw[<-C];refine aK.trans (Ao λaB=>?_)
   have:=E2.mpr (show ∀e∈((A::r0).map λz:Addr×List Aq=>Bf W z.2).map DY,e=DY (Bf W A.2) from λe he=>by
    obtain⟨p,D,rfl⟩:=AN.mp he;obtain⟨z,au,rfl⟩:=AN.mp D
    rw[aB z.2 (AN.mpr ⟨z,au,rfl⟩)])
   rw[this] at c2;cases c2;refine(Or.inl ⟨_,.ref t0,Af.of ae,a9,Or.inr (Or.inl ⟨_,.str (Bf W A.2).1,aI,rfl,Or.inl ⟨_,.ref t0,Af.of ae,a9,Or.inr (Or.inl ⟨_,.int (Bf W A.2).2,aI,rfl,CO _,λO ao=>?_⟩)⟩⟩)⟩)
   obtain⟨H6,aq,Y,ar⟩:=new_at (o:=.lst []) ao;rw[<-aq];refine⟨Pc,λp D=>?_⟩;have Q:=AW (o:=.tup [.str (Bf W A.2).1,.int (Bf W A.2).2,.ref O]) D;refine ah p O _ _ (a8.trans (Y.trans Q)) (U5 (p:=Bf W A.2) aw an ?_) Aa (.lst (Af.of (Q _ _ ar)) .nil);rw[<-C];refine aK.trans (Ar λv G=>?_);obtain⟨z,au,rfl⟩:=AN.mp (show v∈(A::r0).map (λz:Addr×List Aq=>z.2) from G);have aB:=E2.mp (Bool.eq_false_iff.mpr c2);exact iW (aB _ (AN.mpr ⟨_,AN.mpr ⟨z,au,rfl⟩,rfl⟩))
inductive C0 (K:Aj) (vs:List V) (H:Hp) (Q:VK):Prop where
 |mk (nt A t D:Addr) (F:Addr->Prop) (W:Wd) (zs:List (Addr×AO)) (h0:vs=[.ref nt,.ref A,.ref t,.ref D]) (h1:A1 K H nt A t W) (h2:Ck W) (h3:H D=some (.lst (zs.map λz=>V.ref z.1))) (h4:(∀z∈zs,Dl F H z.1 z.2)) (h5:(∀z∈zs,BX W z.2)) (h6:zs.length<=62) (h7:(G9 W (zs.map (·.2))).length<=62) (h8:∀(D2:Addr)(ws:List (Addr×Ow))(H':Hp),H D2=none->Ac H H'->H' D2=some (.lst (ws.map λz=>V.ref z.1))->(∀z∈ws,FA (λl=>H l=none/\l≠D2) H' z.1 z.2)->Nj W (zs.map (·.2)) (ws.map (·.2))->Q (.ref D2) H'):C0 K vs H Q
def i0 (K:Aj):Sp:=λvs H Q ζ=>C0 K vs H Q
abbrev Q3(P w K mg base):=Br P w K mg base "owed_behind" 5 ["net", "answers", "table", "begun"] (i0 K)
theorem i3(B:Bt mg)(a7:QY P w K mg base)(F:Bm K "owed_behind" "owed_behind" RL f fd)(C:mg "owed_behind" = some (.ref f)):Q3 P w K mg base:=by
 refine BE F C Ka (λa H a1 a2 h=>?_) (λaL A aU s H a a1 a2 hr h=>?_);obtain⟨Y,A,t,af,F,W,D,rfl,_⟩:=h;rfl
 . obtain⟨Y,A,t,af,F,W,D,rfl,hC,ok,eD,hz,a8,aM,aN,a3⟩:=h
   refine⟨_,(Am (AK (i:=4) Ka.nd (Cb Ad))
    (Am (Ca B8 rfl (Ct (pv 3)) (BU (n:=3) rfl (AD (Aw (i:=5) Ka.nd) (AD (Aw (i:=6) Ka.nd) (AD (Aw (i:=7) Ka.nd) BS)))) (Au (Ca B8 rfl (Ct (AR a7 (Ab (pv 0) (Ab (pv 1) (Ab (pv 2) (Ab (pv 6) (Ab (pv 7) Ad))))))) (BU (n:=4) rfl (AD (Aw (i:=8) Ka.nd) (AD (Aw (i:=9) Ka.nd) (AD (Aw (i:=10) Ka.nd) (AD (Aw (i:=11) Ka.nd) BS))))) (Au (A5 (Bl BV (pv 9) Bb (A9 _)) (Au (Dp (Dj Dd EL EM EQ (pv 4) (Ab (Bd (Ab (AB KJ (pv 5) (Cb (Ab (pv 8) Ad))) (Ab (pv 10) Ad))) Ad)))) A4)))))
    (Au (AH (BP (Zr L1 F8 hr.units (by decide) (by decide)) B.b_sorted (Ab (pv 4) Ad)))))),?_⟩
   rfl';refine⟨by decide,λP Z=>?_⟩;obtain⟨aq,a9,s1,aw⟩:=new_at (o:=.lst []) Z;rw[<-a9];have ag:∀{p:Hp},Keeps (·=P) aq p->Ac H p:=λk x o e=>k.at_ _ _ (s1 _ _ e) (AU e Z)
   refine⟨⟨_,Af.of (s1 _ _ eD)⟩,Eg (xs:=D.map λz=>V.ref z.1) (λi σ p=>∃u5 u6 u7 I J M N ws,σ=[some (.ref Y),some (.ref A),some (.ref t),some (.ref af),some (.ref P),u5,u6,u7,I,J,M,N]/\Keeps (·=P) aq p/\p P=some (.lst (ws.map λz:Addr×Ow=>V.ref z.1))/\(∀z∈ws,FA (λl=>H l=none/\l≠P) p z.1 z.2)/\ws.map (·.2)=G9 W ((D.map (·.2)).take i))
    ⟨none,none,none,none,none,none,none,[],rfl,Keeps.refl λx o m e=>by rw[m,aw] at e;exact⟨_,(BJ e).symm⟩,aw,λz hz=>by simp at hz,by rw[EF];rfl⟩ (λi σ p ζ ah=>by obtain⟨_,_,_,_,_,_,_,_,_,k,_⟩:=ah;exact Af.of (ag k _ _ eD)) ?_ ?_⟩
   rotate_left;refine λσ ar O=>AL λNz d=>?_;obtain⟨u5,u6,u7,I,J,M,N,ws,rfl,S,U,hw,C⟩:=O;refine d ?_;clear d;rw[Ak,<-Ak (f:=(·.2)),Cr] at C;have lw:ws.length<=62:=by have:=BB List.length C;rw[Ak] at this;lia
   refine⟨P,ws.map λz=>(V.ref z.1,z.2),rfl,?_,by rw[Ak];lia,λy r=>?_,λD2 aA hp hs ai=>?_⟩;rw[EE];exact Af.of U;obtain⟨z,aj,rfl⟩:=AN.mp r;exact(hw z aj).dt;obtain⟨a,r1,r2,r3,r4⟩:=Wx (c:=P5) hp;have q:=AW (o:=.lst (aA.map (·.1))) ai;rw[r1] at q ⊢;rw[r2] at hs;have G:=ag S;refine a3 D2 a _ (G.free ai) (G.trans q) Aa (λz aj=>?_) ⟨by rw[<-C];exact r3,hs⟩;refine((hw z (r4 z aj)).mono' ?_).same q;intro x o ex hx;exact⟨hx.1,λy=>by rw[y,ai] at ex;cases ex⟩;refine λi y σ ar r O=>AL λNz d=>?_;obtain⟨u5,u6,u7,I,J,M,N,ws,rfl,S,U,hw,C⟩:=O;refine d ?_;clear d;obtain⟨z,ak,rfl⟩:=getm r;have aO:i<D.length:=(Bh.mp ak).1;have mz:=Bc ak;have aa:=a8 z mz;have G:=ag S;refine AL λNz d=>?_;obtain⟨l,u,a6,av,e3,_⟩:=hz z mz;refine d ?_;clear d;have e1:=G _ _ a6;have aB:=aa.rng z.2.2.1 (by unfold AM;simp);have aC:(D.map (·.2))[i]?=some z.2:=by rw[AX,ak];rfl
   have aP:u.length<=100:=by
    have:=KS W.ss.length (AM z.2) aa.nd aa.rng;rw[show(AM z.2).length=z.2.1.length+1 by unfold AM;simp] at this;have:=ok.s5;rw[e3.len];lia
   have aD:ws.length<=8*i:=by
    have E:=BB List.length C;rw[Ak] at E;have h2:=TD (f:=λb=>(H1 W b.2.1 b.2.2).filterMap (ow b)) (k:=8) ((D.map (·.2)).take i) λb=>EN (List.length_filterMap_le _ _) (EN (L0 W b.2.1 (Dv W b.2.2) (By W b.2.1) 0) (P4 ok b.2.1));rw[EJ,Ak] at h2;unfold G9 at E;have h3:min i D.length=i:=(by lia);rw[h3] at h2;lia
   refine⟨_,Al.of e1,rfl,?_⟩;refine⟨Y,A,t,W,z.2.2.1,z.2.2.2,rfl,hC.same G,ok,aB,aa.st,λa4 Q H3 hG q eG aE ax=>⟨⟨_,Af.of eG⟩,?_⟩⟩;have aF:a4≠P:=λy=>by rw[y,U] at hG;cases hG
   have aQ:Q.length<=8:=by
    have e1:=BB List.length ax;have e2:=L0 W z.2.2.1 (Dv W z.2.2.2) (By W z.2.2.1) 0;have e3:=P4 ok z.2.2.1;rw[Ak] at e1;unfold H1 at e1;lia
   refine Eg (xs:=Q.map λz=>V.ref z.1) (λj σ p=>∃I J M N a,σ=[some (.ref Y),some (.ref A),some (.ref t),some (.ref af),some (.ref P),some (.ref l),some (.int z.2.2.1),some (.int z.2.2.2),I,J,M,N]/\Keeps (·=P) H3 p/\p P=some (.lst (a.map λz:Addr×Ow=>V.ref z.1))/\(∀z∈a,FA (λl=>H l=none/\l≠P) p z.1 z.2)/\a.map (·.2)=G9 W ((D.map (·.2)).take i)++((Q.map (·.2)).take j).filterMap (ow z.2)/\a.length<=8*i+j)
    ⟨_,_,_,_,ws,rfl,Keeps.refl λx o m e=>by rw[m,q _ _ U] at e;exact⟨_,(BJ e).symm⟩,q _ _ U,λz h=>(hw z h).same q,by rw[C,EF];simp,aD⟩ (λj σ p ζ ah=>by obtain⟨_,_,_,_,_,_,k,_⟩:=ah;exact Af.of (k.at_ _ _ eG aF)) ?_ ?_
   rotate_left;refine λσ H4 O=>AL λNz d=>?_;obtain⟨I,J,M,N,a,rfl,v,R,ab,ae,_⟩:=O;refine d ?_;clear d;refine⟨_,_,_,_,_,_,_,a,rfl,⟨λx o e n=>v.at_ _ _ (q _ _ (S.at_ x o e n)) n,S.ls⟩,R,ab,?_⟩;rw[ZA aC,ae,Ak,<-Ak (f:=(·.2)),Cr,ax];refine λj y σ H4 r O=>AL λNz d=>?_;obtain⟨I,J,M,N,a,rfl,v,R,ab,ae,aR⟩:=O;refine d ?_;clear d;obtain⟨g,al,rfl⟩:=getm r;have aS:j<Q.length:=(Bh.mp al).1;obtain⟨m,an,ao⟩:=aE g (Bc al);have an:=v.tup an;have ao:=v.tup ao
   have ay:((Q.map (·.2)).take (j+1)).filterMap (ow z.2)=((Q.map (·.2)).take j).filterMap (ow z.2)++(ow z.2 g.2).toList:=by
    rw[D7,AX,al];exact L4 _ _ _
   refine⟨_,Al.of an,rfl,?_⟩;refine⟨rfl,rfl,An (λE=>?_) (λE=>?_)⟩;rotate_left;refine⟨_,_,_,_,a,rfl,v,R,ab,?_,by lia⟩;rw[ay,JQ (λe=>E (AY (by rw[e]))),ae];simp;have E:g.2.2.1.1=("open" : Str):=V.str.inj (A3 E);have aT:Ac ar H3:=q;have aG:H4 l=some (.lst (u.map V.ref)):=v.at_ _ _ (q _ _ (G _ _ av)) (AU av Z);have aH:RT Gz H4 u z.2.1:=(e3.same (G.trans q)).keeps v;refine⟨Or.inl ⟨rfl,_,Af.of R⟩,IS,λa5 hM=>?_⟩;obtain⟨H5,aI,s5,eM⟩:=new_at (o:=.lst [.ref m]) hM;rw[<-aI];refine⟨l,a5,_,_,rfl,rfl,s5 _ _ aG,eM,by rw[Ak];exact CQ (BL (by show u.length+1<=1000;lia)),λL hL=>?_⟩
   have aJ:H L=none:=by
    have h4:=s5.free hL
    cases e:H L with
    |none=>rfl
    |some o=>rw[v.at_ _ _ (q _ _ (G _ _ e)) (AU e Z)] at h4;cases h4
   have az:L≠P:=λy=>by rw[y,s5 _ _ R] at hL;cases hL
   have s6:=AW (o:=.lst (u.map V.ref++[.ref m])) hL;have eL:(upd H5 L (.lst (u.map V.ref++[.ref m]))) L=some (.lst ((u++[m]).map V.ref)):=by rw[Aa,A6];rfl
   generalize upd H5 L (.lst (u.map V.ref++[.ref m]))=H6 at s6 eL ⊢;refine⟨BK,λau hr=>?_⟩;obtain⟨H7,aK,s7,er⟩:=new_at (o:=.tup [.ref L,.int g.2.2.1.2]) hr;rw[<-aK];have X:=(s5.trans s6).trans s7;have a0:=X _ _ R;have T:Keeps (·=P) H7 (upd H7 P (.lst (a.map (λz=>V.ref z.1)++[.ref au]))):=Keeps.one a0;refine⟨_,a0,by rw[Ak];exact BL (by lia),?_⟩;refine⟨_,_,_,_,a++[(au,(z.2.1++[g.2.1],g.2.2.1.2))],rfl,(v.same X).set rfl,by rw[Aa,A6];rfl,λy r=>?_,?_,by rw[AQ,Ef];lia⟩;rcases BI.mp r with r|r;exact((ab y r).same X).keeps T λx hx=>hx.2;rw[A7.mp r];refine⟨L,u++[m],T.tup er,T.at_ _ _ (s7 _ _ eL) az,?_,aJ,az⟩;exact RT.snoc ((aH.same X).keeps T) (T.tup (X _ _ ao));rw[ay,JP E,A6,ae,FX];rfl
inductive Ep (K:Aj) (vs:List V) (H:Hp) (Q:VK):Prop where
 |mk (nt A t:Addr) (W:Wd) (sc st:Int) (h0:vs=[.ref nt,.ref A,.ref t,.int sc,.int st]) (h1:A1 K H nt A t W) (h2:Ck W) (h3:Bz W) (h4:(0<=sc/\sc<W.ss.length)) (h5:(0<=st/\st<W.sts.length)) (h6:∀(D2:Addr)(bs:List AO)(ws:List (Addr×Ow))(H':Hp),H D2=none->Ac H H'->H' D2=some (.lst (ws.map λz=>V.ref z.1))->(∀z∈ws,FA (λl=>H l=none/\l≠D2) H' z.1 z.2)->C9 W sc st bs->Nj W bs (ws.map (·.2))->Q (.ref D2) H'):Ep K vs H Q
def i4 (K:Aj):Sp:=λvs H Q ζ=>Ep K vs H Q
abbrev U7(P w K mg base):=Br P w K mg base "owed_ways" 7 ["net", "answers", "table", "scope", "state"] (i4 K)
def i6(B:Bt mg)(J:Q3 P w K mg base)(L:Nv P w K mg base)(F:Bm K "owed_ways" "owed_ways" RM f fd)(m:mg "owed_ways" = some (.ref f)):U7 P w K mg base:=by
 refine BE F m e7 (λn H Q E h=>?_) (λT A V s H n Q E R h=>?_);obtain⟨c,A,t,W,d,e,rfl,_⟩:=h;rfl;obtain⟨c,A,t,W,d,e,rfl,j,ok,p,g,i,q⟩:=h;refine⟨_,(Au (AH (AR J (Ab (pv 0) (Ab (pv 1) (Ab (pv 2) (Ab (AR L (Ab (pv 0) (Ab (pv 1) (Ab (pv 2) (Ab (pv 3) (Ab (pv 4) Ad)))))) Ad))))))),?_⟩;rfl';refine⟨c,A,t,W,d,e,rfl,j,ok,g,i,λD r U S a u v b=>?_⟩;have k:=b.few;rw[Ak] at k;refine⟨c,A,t,D,_,W,r,rfl,j.same a,ok,u,v,λz M=>((b.mem _).mp (AN.mpr ⟨z,M,rfl⟩)).ok ok g i,k,p.owd d e _ g i b,λy ws Y N C O G I=>?_⟩;exact q y _ ws Y (a.free N) (a.trans C) O (λz h=>(G z h).mono' λx o ζ l=>⟨a.free l.1,l.2⟩) b I
def MP:("part" : Str)≠("plain" : Str):=by decide +kernel
def Nw:("sort" : Str)≠("part" : Str):=by decide +kernel
def MQ:("sort" : Str)≠("plain" : Str):=by decide +kernel
def MR:("plain" : Str)≠("part" : Str):=by decide +kernel
def i7:("plain" : Str)≠("sort" : Str):=by decide +kernel
inductive C3 (K:Aj) (vs:List V) (H:Hp) (Q:VK):Prop where
 |mk (nt A t:Addr) (W:Wd) (n:Int) (h0:vs=[.ref nt,.ref A,.int n]) (h1:A1 K H nt A t W) (h2:Ck W) (h3:(0<=n/\n<W.gs.length)) (h4:∀(p:Addr)(H':Hp),Ac H H'->H' p=some (.tup [.str (B5 W n).1,.int (B5 W n).2])->Q (.ref p) H'):C3 K vs H Q
def i8 (K:Aj):Sp:=λvs H Q ζ=>C3 K vs H Q
abbrev U8(P w K mg base):=Br P w K mg base "_law_inside" 1 ["_law_net", "_law_answers_here", "_law_thing_here"] (i8 K)
def i9(B:Bt mg)(F:Bm K "_law_inside" "_law_inside" RN f fd)(hm:mg "_law_inside" = some (.ref f)):U8 P w K mg base:=by
 refine BE F hm QG (λvs H Q af h=>?_) (λav A aw s H vs Q af hr h=>?_);obtain⟨nt,A,t,W,n,rfl,_⟩:=h;rfl
 . obtain⟨nt,A,t,W,n,rfl,hC,ok,hn,q⟩:=h
   obtain⟨⟨ar,T,au,us,Gs,Es,d,qt,qs,o,c⟩,hA,_⟩:=hC;obtain⟨k,rfl⟩:=Cz hn.1;have r:k<W.gs.length:=(by lia);have u:=AA r;have ai:k<d.length:=by rw[c.tg.len];exact r
   have x:=AA ai;have S:=DX r;have ei:B5 W (k:Int)=Ei W.gs W.as W.gs[k]:=by unfold B5;rw[Bw,u]
   rw[ei] at q;generalize W.gs[k]=b at u S q;generalize d[k]=U at x;have aj:=c.tg.at_ k _ _ x u;have ak:Bi (d.map V.ref) (k:Int)=some (.ref U):=Bu (by rw[AX,x];rfl);have j:∀g,Ei W.gs W.as b=g->∀p,H p=none->Q (.ref p) (upd H p (.tup [.str g.1,.int g.2])):=λg eg p hp=>q p _ (AW hp) (by rw[Aa,<-eg])
   refine⟨_,(Am (D9 (As At (As At (pv 0) Ah) (pv 2)) (BU (n:=2) rfl (AD (Aw (i:=3) QG.nd) (AD (Aw (i:=4) QG.nd) BS))))
    (Am (A5 (Bl BV (pv 3) Bb (A9 _)) (Au (AH (Bd (Ab Bb (Ab (pv 4) Ad))))) A4)
    (Am (A5 (Bl BV (pv 3) Bb (A9 _)) (Au (AH (Bd (Ab Bb (Ab Ah Ad))))) A4)
    (Am (AK (i:=5) QG.nd (As At (pv 1) (pv 4)))
    (Am (A5 (Gj (G4 (pv 5))) (Au (AH (Bd (Ab Bb (Ab (pv 4) Ad))))) A4)
    (Am (A5 (PW.pt (Gx (Bl BV (As At (pv 5) Ah) Bb (A9 _)) (Gw (Bl BV (As At (As At (As At (pv 0) Ah) (As At (pv 5) Ah)) Ah) Bb (A9 _))))) (Au (AH (Bd (Ab Bb (Ab (As At (As At (As At (pv 0) Ah) (As At (pv 5) Ah)) Ah) Ad))))) A4)
    (Au (AH (Bd (Ab Bb (Ab Ah Ad))))))))))),?_⟩
   rfl';refine(Or.inr (Or.inl ⟨_,.ref T,Al.of o,rfl,Or.inl ⟨_,.ref U,Af.of c.et,ak,_,Al.of aj,rfl,?_⟩⟩));cbv;refine⟨rfl,rfl,An (λy=>?_) (λy=>?_)⟩;have l:b.1=("part" : Str):=V.str.inj (A3 y);exact⟨BK,j (("to" : Str),b.2) (Ar l)⟩;have l:¬b.1=("part" : Str):=λe=>y (AY (by rw[e]));refine⟨rfl,rfl,An (λz=>?_) (λz=>?_)⟩;have C:b.1=("plain" : Str):=V.str.inj (A3 z);exact⟨BK,j (("no" : Str),0) ((Ao l).trans (Ao λag=>i7 (C.symm.trans ag)))⟩;have C:¬b.1=("plain" : Str):=λe=>z (AY (by rw[e]))
   obtain⟨e3,r0,r1⟩:b.1=("sort" : Str)/\0<=b.2/\b.2<W.as.length:=by
    rcases ok.kth b S with⟨e,_⟩|⟨e,_⟩|e;exact absurd e C;exact absurd e l;exact e
   have O:Ei W.gs W.as b=ER W.gs W.as b.2:=(Ao l).trans (Ar e3);obtain⟨ah,D⟩:=Cz r0;have al:ah<W.as.length:=(by lia);obtain⟨X,v,an,hv,hc⟩:=hA.get al;have aq:Bi X b.2=some v:=by rw[D];exact Bu hv
   refine(Or.inl ⟨X,v,an,aq,?_⟩);rcases hc with⟨f1,rfl⟩|⟨a,ta,f1,rfl,M⟩;refine⟨rfl,An (λζ=>?_) (λh=>absurd (AY rfl) h)⟩;refine⟨BK,j (("open" : Str),b.2) (O.trans ?_)⟩;unfold ER;rw[D,Bw,f1];refine⟨rfl,An (λh=>absurd (A3 h) (by simp)) (λζ=>?_)⟩
   have Y:Ei W.gs W.as b=if a.1=("thing" : Str) then(match W.gs[a.2.toNat]? with
    |some k=>if k.1=("part" : Str) then((("to" : Str),k.2):Str×Int) else(("no" : Str),(0:Int))
    |none=>((("no" : Str),(0:Int)):Str×Int)) else((("no" : Str),(0:Int)):Str×Int):=by
    rw[O];unfold ER;rw[D,Bw,f1];all_goals rfl
   refine(Or.inr (Or.inl ⟨_,.str a.1,M,rfl,rfl,rfl,An (λE=>?_) (λE=>?_)⟩));have m:a.1=("thing" : Str):=V.str.inj (A3 E);obtain⟨x0,x1⟩:=ok.an a (Bc f1) m;obtain⟨i,R⟩:=Cz x0;have Z:i<W.gs.length:=(by lia);have G:=AA Z;have ao:i<d.length:=by rw[c.tg.len];exact Z
   have I:=AA ao;generalize W.gs[i]=pi at G;generalize d[i]=N at I;have aa:=c.tg.at_ i _ _ I G;have ae:Bi (d.map V.ref) a.2=some (.ref N):=by rw[R];exact Bu (by rw[AX,I];rfl)
   have ab:Ei W.gs W.as b=if pi.1=("part" : Str) then((("to" : Str),pi.2):Str×Int) else(("no" : Str),(0:Int)):=by
    rw[Y,Ar m,R,Bw,G]
   refine(Or.inr (Or.inl ⟨_,.ref T,Al.of o,rfl,Or.inr (Or.inl ⟨_,.int a.2,M,rfl,Or.inl ⟨_,.ref N,Af.of c.et,ae,Or.inr (Or.inl ⟨_,.str pi.1,Al.of aa,rfl,rfl,rfl,An (λJ=>?_) (λJ=>?_)⟩)⟩⟩)⟩));have L:pi.1=("part" : Str):=V.str.inj (A3 J);refine(Or.inr (Or.inl ⟨_,.ref T,Al.of o,rfl,Or.inr (Or.inl ⟨_,.int a.2,M,rfl,Or.inl ⟨_,.ref N,Af.of c.et,ae,Or.inr (Or.inl ⟨_,.int pi.2,Al.of aa,rfl,BK,j (("to" : Str),pi.2) (ab.trans (Ar L))⟩)⟩⟩)⟩));have L:¬pi.1=("part" : Str):=λe=>J (AY (by rw[e]));exact⟨BK,j (("no" : Str),0) (ab.trans (Ao L))⟩;have m:¬a.1=("thing" : Str):=λe=>E (AY (by rw[e]));exact⟨BK,j (("no" : Str),0) (Y.trans (Ao m))⟩
def ED (ks:List Nat):List (A8×V):=ks.map λk:Nat=>((.inl (k:Int):A8),V.bl true)
def MS{ks:List Nat}(k:Nat):BC (ED ks) (.inl (k:Int)) (.bl true)=ED (if k∈ks then ks else ks++[k]):=by
 unfold BC;by_cases h:k∈ks;have a:((ED ks).any λb=>decide (b.1=(.inl (k:Int):A8)))=true:=Jb.mpr ⟨((.inl (k:Int):A8),V.bl true),AN.mpr ⟨k,h,rfl⟩,AY rfl⟩
 rw[Ar h,Ar a];unfold ED;rw[EE];refine List.map_congr_left λj ζ=>?_;show(if(Sum.inl (j:Int):A8)=.inl (k:Int) then _ else _)=_
 split;rfl;rfl;rw[Ao h,Ao λz=>?_];unfold ED;rw[A6];rfl;obtain⟨p,c,e⟩:=Jb.mp z;obtain⟨j,d,rfl⟩:=AN.mp c;have f:(Sum.inl (j:Int):A8)=.inl (k:Int):=A3 e;have:(j:Int)=k:=Sum.inl.inj f;exact h (by rw[<-show j=k by lia];exact d)
def Q4{ks:List Nat}(a:ks.Nodup)(h:∀j∈ks,j<100):ks.length<=100:=by
 have:=a.length_le_of_subset (l₂:=List.range 100) λj b=>List.mem_range.mpr (h j b)
 rwa [List.length_range] at this
structure Cm (W:Wd) (ls:List Lk) (ts:List Int) (ks:List Nat) (sm:List Int):Prop where
 nd:ks.Nodup
 lt:∀j∈ks,j<100
 ks:∀j,j∈ks↔j∈J8 ls
 sm:∀y,y∈sm↔y∈CI W ls ts
def jA(ls:List Lk)(l:Lk):J8 (ls++[l])=J8 ls++l.1.map λb=>b.2.1.toNat:=by
 unfold J8;rw[List.flatMap_append,List.flatMap_cons,List.flatMap_nil,EK]
def jB(ls:List Lk)(ts:List Int)(l:Lk)(t':List Int)(y:Int):y∈CI W (ls++[l]) (ts++t')↔y∈CI W ls ts\/y∈l.1.flatMap (AJ W)\/y∈l.2.1.flatMap (EI W.ss)\/y∈t'.flatMap (Ej W.gs):=by
 unfold CI;rw[List.flatMap_append,List.flatMap_append,List.flatMap_cons,List.flatMap_nil,EK];unfold FS;simp only[BI];constructor;rintro((h|h|h)|h|h);exact .inl (.inl h);exact .inr (.inl h);exact .inr (.inr (.inl h));exact .inl (.inr h);exact .inr (.inr (.inr h));rintro((h|h)|h|h|h);exact .inl (.inl h);exact .inr (.inl h);exact .inl (.inr (.inl h));exact .inl (.inr (.inr h));exact .inr (.inr h)
inductive E4 (K:Aj) (vs:List V) (H:Hp) (Q:VK):Prop where
 |mk (nt A t:Addr) (F:Addr->Prop) (W:Wd) (qs:List Qu) (inn:Int) (ord:A') (k:Nat) (q:Qu) (h0:vs=[.ref nt,.ref t,.ref A,.int k]) (h1:qs[k]?=some q) (h2:LC K F H nt A t W qs inn ord) (h3:OI W qs inn ord) (h4:(∀s∈W.ss,s.1.length<=3)) (h5:W.as.length<=40) (h6:∀(r D:Addr)(us:List Int)(a:C')(w:Option Wt)(ls:List Lk)(ts:List Int)(H':Hp),Ac H H'->LU W inn ord q.1 q.2.1 q.2.2 0 a w ls ts->H' r=some (.tup [.int (ls.foldl K1 0),.ref D])->H' D=some (.lst (us.map V.int))->(∀q,q∈us↔q∈CI W ls ts)->us.Pairwise (· < ·)->Q (.ref r) H'):E4 K vs H Q
def jC (K:Aj):Sp:=λvs H Q ζ=>E4 K vs H Q
abbrev Q5(P w K mg base):=Br P w K mg base "_law_due" 8 ["_law_net", "_law_table_here", "_law_answers_here", "_law_question_here"] (jC K)
set_option tactic.hygienic true in
theorem jD(B:Bt mg)(bX:Nv P w K mg base)(bY:UV P w K mg base)(bZ:UX P w K mg base)(ca:Q1 P w K mg base)(cb:U6 P w K mg base)(cc:U7 P w K mg base)(cd:QZ P w K mg base)(cf:U8 P w K mg base)(F:Bm K "_law_due" "_law_due" Ld f fd)(C:mg "_law_due" = some (.ref f)):Q5 P w K mg base:=by
 refine BE F C FF (λvs H bU bV h=>?_) (λcO A dk s H vs bU bV hr h=>?_);obtain⟨R,A,t,F,W,qs,ab,ord,k,q,rfl,_⟩:=h;rfl
 . obtain⟨R,A,t,F',W,qs,ab,ord,k,q,rfl,aN,hC,lo,h3,cP,qk⟩:=h
   obtain⟨⟨bu,bv,aM,us,Gs,Es,ts,qt,eN,N3⟩,hA,TB⟩:=hC;have hC:LC K F' H R A t W qs ab ord:=⟨⟨bu,bv,aM,us,Gs,Es,ts,qt,eN,N3⟩,hA,TB⟩;obtain⟨aC,aD,cM,g4⟩:=lo.q q (Bc aN);have cg:k<qt.length:=by rw[N3.tq.len];exact(Bh.mp aN).1
   have aO:=AA cg;generalize qt[k]=tq at aO;obtain⟨pu,ch,aP⟩:=N3.tq.at_ k tq q aO aN;have cC:Bi (qt.map V.ref) (k:Int)=some (.ref tq):=Bu (by rw[AX,aO];rfl)
   refine⟨_,(Am (D9 (As At (As At (pv 0) Ah) (pv 3)) (BU (n:=3) rfl (AD (Aw (i:=4) FF.nd) (AD (Aw (i:=5) FF.nd) (AD (Aw (i:=6) FF.nd) BS)))))
    (Am (AK (i:=7) FF.nd YH)
    (Am (AK (i:=8) FF.nd (Cb Ad))
    (Am (Ca B8 rfl (Jk rfl B.b_range (Ab (BP Ey B.b_len (Ab (pv 6) Ad)) Ad)) (Aw (i:=9) FF.nd) (Am (AK (i:=10) FF.nd (AR bX (Ab (pv 0) (Ab (pv 2) (Ab (pv 1) (Ab (pv 4) (Ab (pv 5) Ad)))))))
     (Am (Ca B8 rfl (Ct (pv 10)) (BU (n:=3) rfl (AD (Aw (i:=11) FF.nd) (AD (Aw (i:=12) FF.nd) (AD (Aw (i:=13) FF.nd) BS)))) (Au (D9 G3 (Hy (pv 7) (pv 12) (Y0 (Od hr))))))
     (Am (AK (i:=8) FF.nd (AB KJ (pv 8) (AR bY (Ab (pv 0) (Ab (pv 1) (Ab (pv 2) (Ab (pv 10) Ad)))))))
     (Am (AK (i:=14) FF.nd (AR bZ (Ab (pv 0) (Ab (pv 2) (Ab (pv 1) (Ab (pv 4) (Ab (pv 5) (Ab (As At (pv 6) (pv 9)) Ad))))))))
     (Am (PQ (i:=15) FF.nd rfl (Or.inl rfl) (te:=M8 (UY K) [] E0 (Hm (Cs 1) (Hm (Hl (LA K) (Cs 0) (Su (rU λi=>.int (-i)) (tC (.int ((1:Nat):Int))))) G5))) rfl DA (Ct (pv 14)) (λζ ζ ζ ζ ζ=>(Aw (i:=0) DA.nd)) (λζ ζ ζ ζ ζ=>HP) (λζ ζ ζ ζ ζ=>(AR ca (Ab (pv 1) (Ab (As At (pv 0) (M5 M6 Ah)) Ad)))))
     (Am (AK (i:=8) FF.nd (AB KJ (pv 8) (HQ (te:=Hl (LA K) (Cs 0) (tC (.int ((3:Nat):Int)))) (tc:=HD (Hl Vq (Hl (LA K) (Cs 0) (tC (.int ((2:Nat):Int)))) (tC (.str "by")))) rfl DB (Ct (pv 15)) (λζ ζ ζ ζ ζ=>(Aw (i:=0) DB.nd)) (λζ ζ ζ ζ ζ=>(PP (Bl BV (As At (pv 0) Ah) Bb (A9 _)))) (λζ ζ ζ ζ ζ=>(As At (pv 0) Ah)))))
     (Am (AK (i:=16) FF.nd (AR cb (Ab (pv 0) (Ab (pv 1) (Ab (pv 2) (Ab (pv 14) (Ab (AR cc (Ab (pv 0) (Ab (pv 2) (Ab (pv 1) (Ab (pv 4) (Ab (pv 5) Ad)))))) Ad)))))))
     (Am (A5 (PW.pt (Pw (Bl M7 (As At (pv 16) Ah) Bb (A9 _)) (Sg (Bl BV (pv 9) (AB HA (BP Ey B.b_len (Ab (pv 6) Ad)) Ah) (A9 _))))) (Au (AH (Bd (Ab (BP (Xq rfl) B.b_sum (Ab (HQ rfl DC (Xr (pv 7)) (λζ ζ ζ ζ ζ=>(Aw (i:=0) DC.nd)) (λζ ζ ζ ζ ζ=>HP) (λζ ζ ζ ζ ζ=>(AB Sx Ah (pv 0)))) Ad)) (Ab (BP (Ul rfl) B.b_sorted (Ab (HF (Uk rfl) B.b_set (Ab (pv 8) Ad)) Ad)) Ad))))) A4)
     (Am (AK (i:=8) FF.nd (AB KJ (pv 8) (AR cd (Ab (pv 0) (Ab (As At (pv 16) Ah) Ad)))))
     (Am (D9 (AR cf (Ab (pv 0) (Ab (pv 2) (Ab (As At (pv 16) Ah) Ad)))) (BU (n:=2) rfl (AD (Aw (i:=17) FF.nd) (AD (Aw (i:=4) FF.nd) BS))))
     (Am (A5 (Bl M7 (pv 17) Bb (A9 _)) (Au (AH (Bd (Ab (BP (Xq rfl) B.b_sum (Ab (HQ rfl DD (Xr (pv 7)) (λζ ζ ζ ζ ζ=>(Aw (i:=0) DD.nd)) (λζ ζ ζ ζ ζ=>HP) (λζ ζ ζ ζ ζ=>(AB Sx Ah (pv 0)))) Ad)) (Ab (BP (Ul rfl) B.b_sorted (Ab (HF (Uk rfl) B.b_set (Ab (pv 8) Ad)) Ad)) Ad))))) A4)
     (Au (AK (i:=5) FF.nd (As At (pv 1) Ah)))))))))))))))
    (Au (AH GH)))))),?_⟩
   rfl';refine Or.inr (Or.inl ⟨_,.ref aM,Al.of eN,rfl,Or.inl ⟨_,.ref tq,Af.of N3.er,cC,_,Al.of ch,rfl,?_⟩⟩);have bw:(q.2.2.map V.str).length=q.2.2.length:=Ak _;refine λD a3=>?_;have s1:=AW (o:=.dK []) a3;have bR:(upd H D (.dK [])) D=some (.dK (ED [])):=by rw[Aa];rfl
   generalize upd H D (.dK [])=bx at s1 bR ⊢;refine⟨by decide,λQ aQ=>?_⟩;have s2:=AW (o:=.lst []) aQ;have bS:(upd bx Q (.lst [])) Q=some (.lst (([]:List Int).map V.int)):=Aa;generalize upd bx Q (.lst [])=cJ at s2 bS ⊢;have bz:=s1.trans s2
   refine⟨_,Or.inr ⟨_,Al.of (bz _ _ aP),rfl⟩,(by lia),(by lia),KH (lo:=0) (n:=(((q.2.2.map V.str).length:Nat):Int).toNat) (λi σ d=>∃(S T:Int)(Q:Addr)(ks:List Nat)(N:List Int)(ae:List Lk)(aq:List Int)(u9 aR ar au av aE aF aG aH:Option V),σ=[some (.ref R),some (.ref t),some (.ref A),some (.int k),some (.int S),some (.int T),some (.ref pu),some (.ref D),some (.ref Q),u9,aR,ar,au,av,aE,aF,aG,aH]/\Ac H d/\d D=some (.dK (ED ks))/\H Q=none/\d Q=some (.lst (N.map V.int))/\i<q.2.2.length/\(0<=S/\S<W.ss.length)/\(0<=T/\T<W.sts.length)/\Cm W ae aq ks N/\N.length<=i*440/\∀a w ls ts,LU W ab ord S T (q.2.2.drop i) i a w ls ts->LU W ab ord q.1 q.2.1 q.2.2 0 a w (ae++ls) (aq++ts))
    ⟨q.1,q.2.1,Q,[],[],[],[],none,none,none,none,none,none,none,none,none,rfl,bz,s2 _ _ bR,s1.free aQ,bS,by lia,aC,aD,⟨List.nodup_nil,(λj h=>by cases h),λj=>Iff.rfl,λy=>Iff.rfl⟩,CO _,λa w ls ts h=>h⟩ ?_ ?_⟩
   rotate_left;refine λσ H3 aw=>AL λNz L=>?_;obtain⟨S,T,Q,ks,N,ae,aq,u9,aR,ar,au,av,aE,aF,aG,aH,rfl,s3,_,_,_,hi,_⟩:=aw;refine L ?_;clear L;lia;refine λi σ H3 hi aw=>AL λNz L=>?_;obtain⟨S,T,Q,ks,N,ae,aq,u9,aR,ar,au,av,aE,aF,aG,aH,rfl,s3,aA,aQ,bn,cj,af,ag,cm,cQ,an⟩:=aw;refine L ?_;clear L;rw[Int.zero_add];have aS:=AA cj;generalize q.2.2[i]=x at aS;rw[KZ aS] at an;have cD:Bi (q.2.2.map V.str) (i:Int)=some (.str x):=Bu (by rw[AX,aS];rfl);have s5:=lo.ok.s5;refine⟨R,A,t,W,S,T,rfl,hC.caseH.same s3,lo.ok,af,ag,λRw G H4 aT s4 aU E hB=>?_⟩;have b0:∀z∈G,BX W z.2:=λz E=>((hB.mem z.2).mp (AN.mpr ⟨z,E,rfl⟩)).ok lo.ok af ag;have ck:Q≠D:=λz=>by rw[z,aA] at bn;cases bn
   have df:=s3.free aT;have b1:Rw≠D:=λz=>by rw[z,aA] at aT;cases aT
   refine⟨⟨_,Af.of aU⟩,Eg (xs:=G.map λz=>V.ref z.1) (λj σ d=>∃(r:List Nat)(ar au av:Option V),σ=[some (.ref R),some (.ref t),some (.ref A),some (.int k),some (.int S),some (.int T),some (.ref pu),some (.ref D),some (.ref Q),some (.int i),some (.ref Rw),ar,au,av,aE,aF,aG,aH]/\(∀x o,H4 x=some o->x≠D->d x=some o)/\d D=some (.dK (ED r))/\r.Nodup/\(∀j∈r,j<100)/\∀y,y∈r↔y∈J8 ae\/y∈((G.map (·.2)).take j).map λb=>b.2.1.toNat)
    ⟨ks,_,_,_,rfl,λx o e ζ=>e,s4 _ _ aA,cm.nd,cm.lt,λy=>by rw[cm.ks y,EF];simp⟩ (λj σ d ζ a4=>by obtain⟨_,_,_,_,_,b,_⟩:=a4;exact Af.of (b _ _ aU b1)) ?_ ?_⟩
   refine λj y σ H5 J aw=>AL λNz L=>?_;obtain⟨r,ar,au,av,rfl,b5,bo,ah,X,aI⟩:=aw;refine L ?_;clear L;obtain⟨z,aa,rfl⟩:=getm J;have mz:=Bc aa;obtain⟨l0,cR,aV,_⟩:=E z mz;have cl:=(b0 z mz).rng z.2.2.1 (by unfold AM;simp);obtain⟨m,C⟩:=Cz cl.1;have cn:z.1≠D:=λy=>by rw[y,s4 _ _ aA] at aV;cases aV
   have cS:=Q4 ah X;refine⟨_,Al.of (b5 _ _ aV cn),rfl,D,_,rfl,.inl ⟨ED r,.inl (m:Int),bo,BB V.int C,by unfold ED;rw[Ak];exact BL (by lia),rfl⟩,?_⟩;rw[MS];refine⟨_,some (.ref l0),some (.int z.2.2.1),some (.int z.2.2.2),rfl,λx o e n=>by rw[AE n];exact b5 _ _ e n,Aa,?_,λy J=>?_,λy=>?_⟩;split;exact ah;rename_i hn;exact List.nodup_append.mpr ⟨ah,Gh.mpr ⟨nofun,List.nodup_nil⟩,λa ha b hb=>by rw[A7.mp hb];exact λz=>hn (z▸ha)⟩;split at J;exact X y J;rcases BI.mp J with J|J;exact X y J;rw[A7.mp J];lia;rw[List.take_add_one,AX,aa,A6,BI,<-or_assoc,<-aI y];have e1:(z.2.2.1).toNat=m:=(by lia);show _↔_\/y∈[(z.2.2.1).toNat];rw[e1,A7];split;rename_i hn;exact⟨.inl,λh=>h.elim id λe=>e▸hn⟩;rw[BI,A7];refine λσ H5 aw=>AL λNz L=>?_;obtain⟨r,ar,au,av,rfl,b5,bo,ah,X,aI⟩:=aw;refine L ?_;clear L;rw[Ak,<-Ak (f:=λz:Addr×AO=>z.2),Cr] at aI;have aW:Ac H H5:=λx o e=>b5 _ _ (s4 _ _ (s3 _ _ e)) (λz=>by rw[z,a3] at e;cases e);have cE:=b5 _ _ (s4 _ _ bn) ck;have cF:=b5 _ _ aU b1
   have aX:∀{x:Addr}{o:HO},H4 x=some o->(∀kv,o≠.dK kv)->H5 x=some o:=λ{x o}e n=>b5 x o e λz=>by
    rw[z,s4 _ _ aA] at e;exact n _ (BJ e).symm
   have cp:∀z∈G,Dl (λl=>H3 l=none/\l≠Rw) H5 z.1 z.2:=λz cq=>by
    refine AL λNz L=>?_;obtain⟨l,U,e1,e2,e3,e4⟩:=E z cq;refine L ?_;clear L;exact⟨l,U,aX e1 nofun,aX e2 nofun,⟨e3.len,λn t m h1 h2=>aX (e3.at_ n t m h1 h2) nofun⟩,e4⟩
   have few:=hB.few;have b2:=IW (f:=AJ W) (n:=6) (l:=G.map (·.2)) λb ζ=>Uo h3 b;refine⟨R,A,t,Rw,W,_,G,rfl,hC.caseH.same aW,lo.ok,cF,cp,b0,by lia,λDa H6 cT s6 cs=>?_⟩;refine⟨Q,Da,_,_,rfl,rfl,s6 _ _ cE,cs,by rw[Ak,Ak];exact CQ (Iq (by lia)),λD6 b3=>?_⟩;have s7:=AW (o:=.lst (N.map V.int++((G.map (·.2)).flatMap (AJ W)).map V.int)) b3;have b4:(upd H6 D6 (.lst (N.map V.int++((G.map (·.2)).flatMap (AJ W)).map V.int))) D6=some (.lst ((N++(G.map (·.2)).flatMap (AJ W)).map V.int)):=(by rw[Aa,A6]);generalize upd H6 D6 (.lst (N.map V.int++((G.map (·.2)).flatMap (AJ W)).map V.int))=H7 at s7 b4 ⊢;have b6:=s6.trans s7;have aY:=aW.trans b6;have dg:H D6=none:=(aW.trans s6).free b3;have cG:=b6 _ _ bo;clear b2;refine Or.inr (Or.inl ⟨_,.str x,Al.of (aY _ _ aP),cD,R,A,t,x,W,S,T,rfl,hC.caseH.same aY,lo.ok,lo.sm,af,ag,λD1 bs ws H8 cU s8 aZ hw ax hF=>?_⟩);have ba:=ax.uniq hB;subst ba;have b7:=aY.trans s8;have b8:∀z∈ws,z.2∈Fc W x (G.map (·.2)):=λz E=>hF.perm.mem_iff.mp (AN.mpr ⟨z,E,rfl⟩);have ez:∀z∈ws,CH W.ss z.2:=λz E=>T6 lo.ok af ag ax (b8 z E)
   have ct:ws.length<=62:=by
    have h1:=hF.perm.length_eq;rw[Ak] at h1;have h2:=lo.sm.fnd x S T _ af ag ax;lia
   refine⟨⟨_,Af.of aZ⟩,Oj (xs:=ws.map λz=>V.ref z.1) (λv j u d=>∃ay:List Addr,u=ay.map V.ref/\Ac H8 d/\d v=some (.lst u)/\RT Ea d ay ((ws.take j).map λz=>CC W.ss z.2))
    (λv g=>⟨[],rfl,AW g,Aa,RT.nil⟩) (λv j u d a4=>by obtain⟨_,_,s,_⟩:=a4;exact Af.of (s _ _ aZ)) (λv j y u H9 RR g J I k=>?_) (λTl u H9 cV I=>?_)⟩
   obtain⟨ay,rfl,s9,Y,rt⟩:=I;obtain⟨z,aa,rfl⟩:=getm J;have mz:=Bc aa;have ai:j<ws.length:=(Bh.mp aa).1;have aJ:=b7.trans s9;obtain⟨cN,m0,ev,cu,bW⟩:=ez z mz;have b9:=(hw z mz).same s9;rw[ev] at b9;obtain⟨U,tm,el,cv,cw⟩:=Qn b9;have lt:=rt.len;rw[Ak,EJ] at lt;refine Or.inl ⟨_,.ref tm,Af.of el,cv,R,bu,bv,aM,tm,us,Gs,Es,W.ss,m0,rfl,Al.of (aJ _ _ eN),N3.sc.same aJ,Al.of cw,cu,bW,λtp aK=>?_⟩
   have cx:RT Ea H9 (ay++[tp]) ((ws.take (j+1)).map λz=>CC W.ss z.2):=by
    rw[List.take_add_one,aa,A6];refine rt.snoc ?_;show H9 tp=some (.tup (Ea (CC W.ss z.2)));rw[ev,Ma];exact aK
   refine k _ _ Y (by rw[Ak];exact BL (by lia)) ⟨ay++[tp],by rw[A6];rfl,λb o e=>?_,Aa,cx.keeps (Keeps.one Y)⟩;rw[AE (AU e g)];exact s9 _ _ e;obtain⟨ay,rfl,s9,bA,rt⟩:=I;rw[Ak,Cr] at rt;have bb:=rt.len;rw[Ak] at bb;have aJ:=b7.trans s9
   refine⟨⟨_,Af.of bA⟩,PZ (xs:=ay.map V.ref) (λv j u d=>u=((ws.take j).flatMap λz=>EI W.ss z.2).map V.int/\Ac H9 d/\d v=some (.lst u))
    (λv g=>⟨rfl,AW g,Aa⟩) (λv j u d a4=>by obtain⟨_,s,_⟩:=a4;exact Af.of (s _ _ bA)) (λv j y u bc RR R0 g J I k k0=>?_) (λDb u bc cW I=>?_)⟩
   obtain⟨rfl,az,Y⟩:=I;obtain⟨tp,bB,rfl⟩:=getm J;have ai:j<ws.length:=by rw[<-bb];exact(Bh.mp bB).1
   have aa:=AA ai;generalize ws[j]=z at aa;have aK:=az _ _ (rt.at_ j tp (CC W.ss z.2) bB (by rw[AX,aa];rfl));have bC:=K0 (f:=λz:Addr×List Aq=>EI W.ss z.2) aa;have l1:=IW (f:=λz:Addr×List Aq=>EI W.ss z.2) (n:=1) (l:=ws.take j) λz ζ=>Um W.ss z.2;rw[EJ] at l1;refine Or.inr (Or.inl ⟨_,.str (CC W.ss z.2).2.2.1,Al.of aK,rfl,rfl,rfl,An (λc=>?_) (λc=>?_)⟩);have e1:(CC W.ss z.2).2.2.1=("by" : Str):=V.str.inj (A3 c)
   refine Or.inr (Or.inl ⟨_,.int (CC W.ss z.2).2.2.2,Al.of aK,rfl,k _ _ Y (by rw[Ak];exact BL (by lia)) ⟨?_,λb o e=>by rw[AE (AU e g)];exact az _ _ e,Aa⟩⟩);rw[bC,show EI W.ss z.2=[(CC W.ss z.2).2.2.2] from Ar e1,A6];rfl
   have e1:¬(CC W.ss z.2).2.2.1=("by" : Str):=λe=>c (AY (by rw[e]))
   exact k0 _ ⟨by rw[bC,show EI W.ss z.2=[] from Ao e1,EK],az,Y⟩
   obtain⟨rfl,az,bD⟩:=I;rw[Ak,bb,Cr] at bD;have bE:=aJ.trans az;have cy:=(s8.trans s9).trans az;have l2:=IW (f:=λz:Addr×List Aq=>EI W.ss z.2) (n:=1) (l:=ws) λz ζ=>Um W.ss z.2;have b2:=IW (f:=AJ W) (n:=6) (l:=G.map (·.2)) λb ζ=>Uo h3 b;have dh:(N++(G.map (·.2)).flatMap (AJ W)).length<=i*440+372:=by rw[AQ];lia
   refine⟨D6,Db,_,_,rfl,rfl,cy _ _ b4,bD,by rw[Ak,Ak];exact CQ (Iq (by lia)),λDe bF=>?_⟩;have bd:=AW (o:=.lst ((N++(G.map (·.2)).flatMap (AJ W)).map V.int++(ws.flatMap λz=>EI W.ss z.2).map V.int)) bF;obtain⟨M,bp⟩:∃M,M=N++(G.map (·.2)).flatMap (AJ W)++ws.flatMap λz=>EI W.ss z.2:=⟨_,rfl⟩;have bG:(upd bc De (.lst ((N++(G.map (·.2)).flatMap (AJ W)).map V.int++(ws.flatMap λz=>EI W.ss z.2).map V.int))) De=some (.lst (M.map V.int)):=(by rw[Aa,<-A6,bp]);generalize upd bc De (.lst ((N++(G.map (·.2)).flatMap (AJ W)).map V.int++(ws.flatMap λz=>EI W.ss z.2).map V.int))=cX at bd bG ⊢;have di:M.length<=i*440+434:=by rw[bp,AQ];lia
   have dj:H De=none:=bE.free bF;have bH:=bE.trans bd;have cz:=(s9.trans az).trans bd;refine⟨R,A,t,W,S,T,rfl,hC.caseH.same bH,lo.ok,lo.sm,af,ag,λD2 cY os cZ da be c2 ho c5 hO=>?_⟩;have ba:=ax.uniq c5;subst ba;have c6:∀z∈os,z.2∈G9 W (G.map (·.2)):=λz E=>hO.perm.mem_iff.mp (AN.mpr ⟨z,E,rfl⟩);have bf:=cz.trans be;have bg:=bH.trans be;refine⟨R,A,t,D1,D2,F',_,_,W,ab,ord,ws,os,rfl,hC.caseH.same bg,TB.same bg,lo.sm,bf _ _ aZ,(λz E=>(hw z E).same bf),(λz E=>P6 lo.ok af ag ax (b8 z E)),ez,ct,c2,ho,(λz E=>WD lo.ok af ag ax (c6 z E)),λp l e bI bh he ep hl=>?_⟩;have a1:=bg.trans bh;have aB:=((bf.trans bh) _ _ (s8 _ _ cG));have a0:=(be.trans bh) _ _ bG;have ao:EW W ord S T x (G.map (·.2),ws.map (·.2),Dx W.ss ord (ws.map (·.2)) (ws.map (·.2))) (os.map (·.2)):=⟨ax,hF,rfl,hO⟩;have bT:=Ku he (i:Int);generalize Dx W.ss ord (ws.map (·.2)) (ws.map (·.2))=sn at ao
   have bJ:∀t':List Int,Cm W (ae++[(G.map (·.2),ws.map (·.2),sn)]) (aq++t') r (M++t'.flatMap (Ej W.gs)):=λt'=>⟨ah,X,λj=>by rw[jA,BI];exact aI j,λy=>by
    rw[jB,bp];simp only[BI,cm.sm y,List.flatMap_map];constructor;rintro(((h|h)|h)|h);exact .inl h;exact .inr (.inl h);exact .inr (.inr (.inl h));exact .inr (.inr (.inr h));rintro(h|h|h|h);exact .inl (.inl (.inl h));exact .inl (.inl (.inr h));exact .inl (.inr h)
    exact .inr h⟩
   have c0:=bJ [];rw[List.flatMap_nil,EK M] at c0
   have stop:(e.1≠("thing" : Str)\/(i:Int)=(q.2.2.length:Int)-1)->∃a w,LU W ab ord q.1 q.2.1 q.2.2 0 a w (ae++[(G.map (·.2),ws.map (·.2),sn)]) (aq++[]):=λh=>by
    rcases bT with⟨h1,h2⟩|⟨h1,h2⟩|⟨h1,h2,h4⟩;exact⟨_,_,an _ _ _ _ (.stop ao h2 (.inl λk z=>by cases z))⟩;rcases h with h|h;exact absurd h1 h;exact⟨_,_,an _ _ _ _ (.stop ao h2 (.inr (List.drop_eq_nil_of_le (by lia))))⟩;exact⟨_,_,an _ _ _ _ (.stop ao h4 (.inl λk z=>h2 (BB Prod.fst (BJ z))))⟩
   refine Or.inr (Or.inl ⟨_,.str e.1,Al.of ep,rfl,rfl,rfl,An (λc1=>Cu ?_) (λc1=>?_)⟩)
   . have e2:¬e.1=("thing" : Str):=λz=>by rw[z] at c1;simp at c1
     obtain⟨a',w',Z⟩:=stop (.inl e2)
     refine⟨D,ED r,rfl,aB,λo=>Ur (kvs:=ED r) (λv j u d=>u=((r.take j).map λk:Nat=>(1:Int)*2 ^ k).map V.int/\(∀x o,bI x=some o->x≠D->d x=some o)/\d D=some (.frz o (.dK (ED r)))/\d v=some (.lst u))
      (λv g=>⟨rfl,λx o e n=>by rw[AE (AU (by rw[AE n];exact e) g),AE n];exact e,by rw[AE (AU Aa g),Aa],Aa⟩) (λv j u d p=>p.2.2.1) (λv j p u Hc RR g hp I k=>?_) (λDm u Hc bK I=>?_)⟩
     obtain⟨rfl,O,ec,Y⟩:=I;unfold ED at hp;obtain⟨m,C,rfl⟩:=getm hp;have ai:=(Bh.mp C).1;have:=X m (Bc C);have aj:v≠D:=λz=>by rw[z,Aa] at g;cases g
     refine⟨⟨by show(0:Int)<=(m:Int);lia,by show(m:Int)<=1000000;lia,by decide⟩,k _ _ Y (by rw[Ak,Ak,EJ];have:=Q4 ah X;exact BL (by lia)) ⟨?_,λx o e n=>?_,?_,Aa⟩⟩;rw[List.take_add_one,C,A6,A6];rfl;rw[AE (λz=>by rw[z] at e;rw[AE aj,e] at g;cases g)];exact O _ _ e n;rw[AE (Ne.symm aj)];exact ec
     obtain⟨rfl,O,ec,ak⟩:=I;rw[show(ED r).length=r.length from Ak _,Cr] at ak;have a5:Ac H Hc:=λx o e=>O _ _ (a1 _ _ e) (λz=>by rw[z,a3] at e;cases e);have a6:=O _ _ a0 (λz=>by rw[z,aB] at a0;cases a0);refine⟨Dm,_,rfl,Af.of ak,De,M,rfl,Af.of a6,by lia,λz E=>⟨z,M,rfl,Aa,λds hd hs=>?_,λDf U a7 C a8=>⟨BK,λa2 hr=>?_⟩⟩⟩
     obtain⟨a9,_⟩:=OP lo.ok lo.sm lo.inn Z aC aD
     have:=QA (n:=40) hd λy J=>by
      have:=Qz lo.ok lo.sm a9 ((c0.sm y).mp (hs y J));lia
     lia;have sz:=AW (o:=Ha P w z M) E;have sf:=AW (o:=.lst (U.map V.int)) a8;have sr:=AW (o:=.tup [.int (r.map λk:Nat=>(1:Int)*2 ^ k).sum,.ref Df]) hr;refine qk a2 Df U _ _ _ _ _ (((a5.trans sz).trans sf).trans sr) Z ?_ (sr _ _ Aa) (λy=>(C y).trans (c0.sm y)) a7;rw[Aa,Ut c0.nd c0.ks]
   have e2:e.1=("thing" : Str):=Classical.byContradiction λz=>c1 (by
    show(!decide (V.str e.1=V.str "thing"))=true
    rw[D8 (λy=>z (V.str.inj y))];rfl)
   refine⟨_,Or.inr ⟨_,Al.of (a1 _ _ aP),rfl⟩,rfl,rfl,An (λc3=>?_) (λc3=>?_)⟩
   . have e3:(i:Int)=((q.2.2.map V.str).length:Int)-1:=V.int.inj (A3 c3)
     obtain⟨a',w',Z⟩:=stop (.inr (by rw[<-bw];exact e3))
     refine⟨D,ED r,rfl,aB,λo=>Ur (kvs:=ED r) (λv j u d=>u=((r.take j).map λk:Nat=>(1:Int)*2 ^ k).map V.int/\(∀x o,bI x=some o->x≠D->d x=some o)/\d D=some (.frz o (.dK (ED r)))/\d v=some (.lst u))
      (λv g=>⟨rfl,λx o e n=>by rw[AE (AU (by rw[AE n];exact e) g),AE n];exact e,by rw[AE (AU Aa g),Aa],Aa⟩) (λv j u d p=>p.2.2.1) (λv j p u Hc RR g hp I k=>?_) (λDm u Hc bK I=>?_)⟩
     obtain⟨rfl,O,ec,Y⟩:=I;unfold ED at hp;obtain⟨m,C,rfl⟩:=getm hp;have ai:=(Bh.mp C).1;have:=X m (Bc C);have aj:v≠D:=λz=>by rw[z,Aa] at g;cases g
     refine⟨⟨by show(0:Int)<=(m:Int);lia,by show(m:Int)<=1000000;lia,by decide⟩,k _ _ Y (by rw[Ak,Ak,EJ];have:=Q4 ah X;exact BL (by lia)) ⟨?_,λx o e n=>?_,?_,Aa⟩⟩;rw[List.take_add_one,C,A6,A6];rfl;rw[AE (λz=>by rw[z] at e;rw[AE aj,e] at g;cases g)];exact O _ _ e n;rw[AE (Ne.symm aj)];exact ec
     obtain⟨rfl,O,ec,ak⟩:=I;rw[show(ED r).length=r.length from Ak _,Cr] at ak;have a5:Ac H Hc:=λx o e=>O _ _ (a1 _ _ e) (λz=>by rw[z,a3] at e;cases e);have a6:=O _ _ a0 (λz=>by rw[z,aB] at a0;cases a0);refine⟨Dm,_,rfl,Af.of ak,De,M,rfl,Af.of a6,by lia,λz E=>⟨z,M,rfl,Aa,λds hd hs=>?_,λDf U a7 C a8=>⟨BK,λa2 hr=>?_⟩⟩⟩
     obtain⟨a9,_⟩:=OP lo.ok lo.sm lo.inn Z aC aD
     have:=QA (n:=40) hd λy J=>by
      have:=Qz lo.ok lo.sm a9 ((c0.sm y).mp (hs y J));lia
     lia;have sz:=AW (o:=Ha P w z M) E;have sf:=AW (o:=.lst (U.map V.int)) a8;have sr:=AW (o:=.tup [.int (r.map λk:Nat=>(1:Int)*2 ^ k).sum,.ref Df]) hr;refine qk a2 Df U _ _ _ _ _ (((a5.trans sz).trans sf).trans sr) Z ?_ (sr _ _ Aa) (λy=>(C y).trans (c0.sm y)) a7;rw[Aa,Ut c0.nd c0.ks]
   have e3:¬(i:Int)=(q.2.2.length:Int)-1:=λz=>c3 (AY (by
    show V.int (i:Int)=V.int (((q.2.2.map V.str).length:Int)-1)
    rw[bw,z]))
   have bL:i+1<q.2.2.length:=(by lia);have bi:=AA bL;generalize q.2.2[i+1]=y at bi;rw[KZ bi] at an
   have C:Cv W ord (ws.map (·.2)) (os.map (·.2)) (i:Int)=(some (("thing" : Str),e.2.1),none):=by
    rcases bT with⟨h,_⟩|⟨_,h⟩|⟨_,h,_⟩;exact absurd (e2.symm.trans h) U4;exact h;exact absurd e2 h
   have bj:=OH lo.ok lo.sm (ws:=ws.map (·.2)) (λcK I=>by
    obtain⟨z,E,rfl⟩:=AN.mp I
    exact ez z E) C
   refine Or.inr (Or.inl ⟨_,.int e.2.1,Al.of ep,rfl,R,A,t,W,e.2.1,rfl,hC.caseH.same a1,bj,λDg bM db bk c7=>?_⟩);have dc:=OO W.gs e.2.1;refine⟨De,Dg,_,_,rfl,rfl,bk _ _ a0,c7,by rw[Ak,Ak];exact CQ (Iq (by lia)),λDh bN=>?_⟩;have bO:=AW (o:=.lst (M.map V.int++(Ej W.gs e.2.1).map V.int)) bN;obtain⟨al,bq⟩:∃al,al=M++Ej W.gs e.2.1:=⟨_,rfl⟩;have bP:(upd bM Dh (.lst (M.map V.int++(Ej W.gs e.2.1).map V.int))) Dh=some (.lst (al.map V.int)):=(by rw[Aa,bq,A6]);generalize upd bM Dh (.lst (M.map V.int++(Ej W.gs e.2.1).map V.int))=dd at bO bP ⊢;have cH:al.length<=(i+1)*440:=by rw[bq,AQ];lia
   have br:=bk.trans bO;have bQ:=a1.trans br;have cI:H Dh=none:=(a1.trans bk).free bN;have cB:=bJ [e.2.1];rw[List.flatMap_cons,List.flatMap_nil,EK,<-bq] at cB;refine Or.inr (Or.inl ⟨_,.int e.2.1,Al.of (br _ _ ep),rfl,R,A,t,W,e.2.1,rfl,hC.caseH.same bQ,lo.ok,bj,λpt c8 bl c9=>?_⟩);refine⟨_,Al.of c9,rfl,?_⟩;have bm:=bQ.trans bl;have bt:=(br.trans bl) _ _ aB;have aL:=bl _ _ bP;obtain⟨j,hj⟩:=Cz bj.1;have ai:j<W.gs.length:=(by lia);have ei:B5 W e.2.1=Ei W.gs W.as W.gs[j]:=by unfold B5;rw[hj,Bw,AA ai]
   refine⟨rfl,rfl,An (λc4=>?_) (λc4=>?_)⟩;have e4:¬(B5 W e.2.1).1=("to" : Str):=λz=>by rw[z] at c4;simp at c4
   obtain⟨a',w',Z⟩:∃a w,LU W ab ord q.1 q.2.1 q.2.2 0 a w (ae++[(G.map (·.2),ws.map (·.2),sn)]) (aq++[e.2.1]):=by
    rcases W1 W.gs W.as W.gs[j] with h|h|h<;>rw[<-ei] at h;exact absurd h e4;exact⟨_,_,an _ _ _ _ (.opn (q:=(B5 W e.2.1).2) ao C (Prod.ext h rfl))⟩;exact⟨_,_,an _ _ _ _ (.no (q:=(B5 W e.2.1).2) ao C (Prod.ext h rfl))⟩
   refine⟨D,ED r,rfl,bt,λo=>Ur (kvs:=ED r) (λv j u d=>u=((r.take j).map λk:Nat=>(1:Int)*2 ^ k).map V.int/\(∀x o,c8 x=some o->x≠D->d x=some o)/\d D=some (.frz o (.dK (ED r)))/\d v=some (.lst u))
    (λv g=>⟨rfl,λx o e n=>by rw[AE (AU (by rw[AE n];exact e) g),AE n];exact e,by rw[AE (AU Aa g),Aa],Aa⟩) (λv j u d p=>p.2.2.1) (λv j p u Hc RR g hp I k=>?_) (λDm u Hc bK I=>?_)⟩
   obtain⟨rfl,O,ec,Y⟩:=I;unfold ED at hp;obtain⟨m,C,rfl⟩:=getm hp;have ai:=(Bh.mp C).1;have:=X m (Bc C);have aj:v≠D:=λz=>by rw[z,Aa] at g;cases g
   refine⟨⟨by show(0:Int)<=(m:Int);lia,by show(m:Int)<=1000000;lia,by decide⟩,k _ _ Y (by rw[Ak,Ak,EJ];have:=Q4 ah X;exact BL (by lia)) ⟨?_,λx o e n=>?_,?_,Aa⟩⟩;rw[List.take_add_one,C,A6,A6];rfl;rw[AE (λz=>by rw[z] at e;rw[AE aj,e] at g;cases g)];exact O _ _ e n;rw[AE (Ne.symm aj)];exact ec
   obtain⟨rfl,O,ec,ak⟩:=I;rw[show(ED r).length=r.length from Ak _,Cr] at ak;have a5:Ac H Hc:=λx o e=>O _ _ (bm _ _ e) (λz=>by rw[z,a3] at e;cases e);have a6:=O _ _ aL (λz=>by rw[z,bt] at aL;cases aL);refine⟨Dm,_,rfl,Af.of ak,Dh,al,rfl,Af.of a6,by lia,λz E=>⟨z,al,rfl,Aa,λds hd hs=>?_,λDf U a7 C a8=>⟨BK,λa2 hr=>?_⟩⟩⟩
   obtain⟨a9,_⟩:=OP lo.ok lo.sm lo.inn Z aC aD
   have:=QA (n:=40) hd λy J=>by
    have:=Qz lo.ok lo.sm a9 ((cB.sm y).mp (hs y J));lia
   lia;have sz:=AW (o:=Ha P w z al) E;have sf:=AW (o:=.lst (U.map V.int)) a8;have sr:=AW (o:=.tup [.int (r.map λk:Nat=>(1:Int)*2 ^ k).sum,.ref Df]) hr;refine qk a2 Df U _ _ _ _ _ (((a5.trans sz).trans sf).trans sr) Z ?_ (sr _ _ Aa) (λy=>(C y).trans (cB.sm y)) a7;rw[Aa,Ut cB.nd cB.ks]
   have e6:(B5 W e.2.1).1=("to" : Str):=Classical.byContradiction λz=>c4 (by
    show(!decide (V.str (B5 W e.2.1).1=V.str "to"))=true
    rw[D8 (λy=>z (V.str.inj y))];rfl)
   have cA:0<=(B5 W e.2.1).2/\(B5 W e.2.1).2<W.ss.length:=by
    rw[ei] at e6 ⊢;exact P2 lo.ok (DX ai) rfl e6
   refine AL λNz L=>?_;obtain⟨ta,cL,tu,de,et,_⟩:=TB.ex;refine L ?_;clear L;refine Or.inr (Or.inl ⟨_,.int ab,Al.of (bm _ _ et),rfl,?_⟩);refine⟨(B5 W e.2.1).2,ab,Dh,r,al,_,_,_,_,_,_,_,_,_,_,_,rfl,bm,bt,cI,aL,bL,cA,lo.inn,cB,cH,λa w ls ts Z=>?_⟩;rw[KZ bi] at Z;rw[FX,FX];exact an _ _ _ _ (.go ao C (Prod.ext e6 rfl) Z)
variable {v:V}
def X2{b:List Dt}(h:Ap K H v (.lst b)):∃a vs,v=.ref a/\Af K H a vs/\Ai K H vs b:=by cases h with|lst h t=>exact⟨_,_,rfl,h,t⟩
def X3{b:List Dt}(h:Ap K H v (.tup b)):∃a vs,v=.ref a/\Al K H a vs/\Ai K H vs b:=by cases h with|tup h t=>exact⟨_,_,rfl,h,t⟩
def Pd:Dt->Ty
 |.non=>.non
 |.bl _=>.bool
 |.int _=>.int
 |.str _=>.str
 |.tup _=>.tup
 |.lst _=>.lst
def Q6(h:Ap K H v d):Jx K H v (Pd d):=by
 cases h with
 |non=>exact .non
 |bl b=>exact .bl b
 |int i=>exact .int i
 |str x=>exact .str x
 |tup h t=>exact .tup h
 |lst h t=>exact .lst h
def Kv(h:Ap K H v d):v=.non↔d=.non:=by
 cases h<;>simp
def Q7 (K:Aj) (n:Nat):Sp:=λvs H Q ζ=>∃(x y:V)(d e:Dt),vs=[x,y]/\Ap K H x d/\Ap K H y e/\Dn n d/\Dn n e/\∀(b:Bool)(H':Hp),Ac H H'->(b=true↔d=e)->Q (.bl b) H'
abbrev jE (K:Aj):Sp:=Q7 K 8
theorem jF(B:Bt mg)(n:Nat)(aj:Br P w K mg base "_law_same" (0+n) ["_law_found", "_law_due_here"] (Q7 K n))(F:Bm K "_law_same" "_law_same" NE f fd):EO P w K mg base IQ (0+n+1) f fd ["_law_found", "_law_due_here"] (Q7 K (n+1)):=by
 refine F.ok Uz (λvs H ag ah h=>?_) (λal ak an s H vs ag ah hr h=>?_);obtain⟨x,y,d,af,rfl,_⟩:=h;rfl;obtain⟨x,y,d,af,rfl,g,G,hd,W,q⟩:=h
 refine⟨_,(Am (A5 (Gj (G4 (pv 1))) (Au (AH (Hx (G4 (pv 0))))) A4)
  (Am (A5 (Gk (BP Jy B.b_isinstance (Ab (pv 1) (Ab (Jz "str" rfl B.b_str (by decide +kernel)) Ad)))) (Au (AH (Px (BP Jy B.b_isinstance (Ab (pv 0) (Ab (Jz "str" rfl B.b_str (by decide +kernel)) Ad))) (Sh (IM BV (pv 0) (pv 1) (A9 _)))))) A4)
  (Am (A5 (Gk (BP Jy B.b_isinstance (Ab (pv 1) (Ab (Jz "int" rfl B.b_int (by decide +kernel)) Ad)))) (Au (AH (Px (BP Jy B.b_isinstance (Ab (pv 0) (Ab (Jz "int" rfl B.b_int (by decide +kernel)) Ad))) (Px (Ll (BP Jy B.b_isinstance (Ab (pv 0) (Ab (Jz "bool" rfl B.b_bool (by decide +kernel)) Ad)))) (Sh (IM BV (pv 0) (pv 1) (A9 _))))))) A4)
  (Am (A5 (PW.pt (Gx (Gk (BP Jy B.b_isinstance (Ab (pv 1) (Ab (Jz "list" rfl B.b_list (by decide +kernel)) Ad)))) (Gw (KG (Gk (BP Jy B.b_isinstance (Ab (pv 0) (Ab (Jz "list" rfl B.b_list (by decide +kernel)) Ad)))))))) (Au (AH G3)) A4)
  (Am (A5 (PW.pt (Gx (Gk (BP Jy B.b_isinstance (Ab (pv 1) (Ab (Jz "tuple" rfl B.b_tuple (by decide +kernel)) Ad)))) (Gw (KG (Gk (BP Jy B.b_isinstance (Ab (pv 0) (Ab (Jz "tuple" rfl B.b_tuple (by decide +kernel)) Ad)))))))) (Au (AH G3)) A4)
  (Am (A5 (Bl M7 (BP Ey B.b_len (Ab (pv 0) Ad)) (BP Ey B.b_len (Ab (pv 1) Ad)) (A9 _)) (Au (AH G3)) A4)
  (Am (Ca B8 rfl (JX rfl B.b_zip (Ab (pv 0) (Ab (pv 1) Ad))) (BU (n:=2) rfl (AD (Aw (i:=2) Uz.nd) (AD (Aw (i:=3) Uz.nd) BS))) (Au (A5 (KG (Gk (AR aj (Ab (pv 2) (Ab (pv 3) Ad)) (hr.mono (by lia))))) (Au (AH G3)) A4)))
  (Au (AH G3))))))))),?_⟩
 try dsimp only[AC,Cx.nox,Cx.wish]
 cases af with
 |non =>
   cases G;refine⟨rfl,An (λζ=>?_) (λh=>absurd (AY rfl) h)⟩;exact q _ _ (Ac.refl _) ((decide_eq_true_iff).trans (Kv g))
 |bl b=>exact False.elim W
 |int s =>
   cases G;refine⟨rfl,An (λh=>absurd (A3 h) (by simp)) (λζ=>?_)⟩;refine⟨_,.str,.int,rfl,.int s,rfl,Bp ?_⟩;refine⟨_,.int,.int,rfl,.int s,rfl,Cu ?_⟩;refine⟨_,.int,Pd d,rfl,Q6 g,_,rfl,?_⟩
   cases d with
   |bl _=>exact False.elim hd
   |int Z =>
     cases g;refine Cu ⟨_,.bool,.int,rfl,.int _,_,rfl,_,rfl,Cu ⟨rfl,?_⟩⟩;refine q _ _ (Ac.refl _) ⟨λz=>?_,λz=>?_⟩;rw[V.int.inj (A3 z)];cases z;exact AY rfl
   |_=>exact Bp (q false _ (Ac.refl _) ⟨λz=>(by cases z),λz=>(by cases z)⟩)
 |str s =>
   cases G;refine⟨rfl,An (λh=>absurd (A3 h) (by simp)) (λζ=>?_)⟩;refine⟨_,.str,.str,rfl,.str s,rfl,Cu ?_⟩;refine⟨_,.str,Pd d,rfl,Q6 g,_,rfl,?_⟩
   cases d with
   |bl _=>exact False.elim hd
   |str Z =>
     cases g;refine Cu ⟨rfl,?_⟩;refine q _ _ (Ac.refl _) ⟨λz=>?_,λz=>?_⟩;rw[V.str.inj (A3 z)];cases z;exact AY rfl
   |_=>exact Bp (q false _ (Ac.refl _) ⟨λz=>(by cases z),λz=>(by cases z)⟩)
 | lst k =>
   obtain⟨b,ws,rfl,e,I⟩:=X2 G;have p:=I.length;refine⟨rfl,An (λh=>absurd (A3 h) (by simp)) (λζ=>?_)⟩;refine⟨_,.str,.lst,rfl,.lst e,rfl,Bp ?_⟩;refine⟨_,.int,.lst,rfl,.lst e,rfl,Bp ?_⟩;refine⟨_,.lst,.lst,rfl,.lst e,rfl,Cu ⟨_,.lst,Pd d,rfl,Q6 g,rfl,?_⟩⟩
   cases d with
   |lst r =>
     obtain⟨a,us,rfl,t,J⟩:=X2 g;have u:=J.length;refine Bp ⟨_,.tup,.lst,rfl,.lst e,rfl,Bp (Bp ?_)⟩;refine⟨_,Or.inl ⟨_,t,rfl⟩,_,Or.inl ⟨_,e,rfl⟩,rfl,rfl,An (λh=>?_) (λh=>?_)⟩;refine q false _ (Ac.refl _) ⟨λz=>(by cases z),λz=>?_⟩;cases z;rw[u,p] at h;simp at h
     have X:r.length=k.length:=by
      rw[u,p] at h;simp at h;lia
     refine⟨a,b,rfl,Or.inl ⟨⟨_,t⟩,⟨_,e⟩,Qi LK (xs:=us) (ys:=ws) (λi σ L=>∃v A,σ=[some (.ref a),some (.ref b),v,A]/\Ac H L/\∀j:Nat,j<i->r[j]?=k[j]?) ⟨none,none,rfl,Ac.refl _,λj M=>absurd M (Nat.not_lt_zero _)⟩ (λi σ L aa=>by obtain⟨_,_,_,s,_⟩:=aa;exact⟨s.seq t,s.seq e⟩) ?_ ?_⟩⟩;rintro i x y T σ U ab ae Y ⟨v,A,rfl,C,D⟩;obtain⟨N,l,t1⟩:=J.get ab;obtain⟨O,E,t2⟩:=I.get ae;have Q:=AW (o:=.tup [x,y]) Y;refine⟨_,Al.of Aa,rfl,?_⟩;generalize upd U T (.tup [x,y])=ai at Q ⊢;have m:=C.trans Q;refine⟨x,y,N,O,rfl,t1.same m,t2.same m,hd N (Bc l),W O (Bc E),λbb H3 R S=>⟨rfl,?_⟩⟩
     cases bb with
     |false =>
       refine Cu (q false _ (m.trans R) ⟨λz=>(by cases z),λz=>?_⟩);have e1:r=k:=by cases z;rfl
       rw[e1,E] at l;have:=S.mpr (BJ l).symm;cases this
     |true =>
       refine Bp ⟨_,_,rfl,m.trans R,λj M=>?_⟩;by_cases c:j=i;rw[c,l,E,S.mp rfl];exact D j (by lia)
     rintro σ U ⟨v,A,rfl,C,D⟩;refine q true _ C ⟨λζ=>?_,λζ=>rfl⟩;congr 1;refine List.ext_getElem? λj=>?_;by_cases c:j<k.length
     exact D j (by simp only[p,u,X,Nat.min_self] at *;lia)
     rw[Hk (by lia),Hk (by lia)]
   |bl _=>exact False.elim hd
   |_=>exact Cu (q false _ (Ac.refl _) ⟨λz=>(by cases z),λz=>(by cases z)⟩)
 | tup k =>
   obtain⟨b,ws,rfl,e,I⟩:=X3 G;have p:=I.length;refine⟨rfl,An (λh=>absurd (A3 h) (by simp)) (λζ=>?_)⟩;refine⟨_,.str,.tup,rfl,.tup e,rfl,Bp ?_⟩;refine⟨_,.int,.tup,rfl,.tup e,rfl,Bp ?_⟩;refine⟨_,.lst,.tup,rfl,.tup e,rfl,Bp (Bp ?_)⟩;refine⟨_,.tup,.tup,rfl,.tup e,rfl,Cu ⟨_,.tup,Pd d,rfl,Q6 g,rfl,?_⟩⟩
   cases d with
   |tup r =>
     obtain⟨a,us,rfl,t,J⟩:=X3 g;have u:=J.length;refine Bp ?_;refine⟨_,Or.inr ⟨_,t,rfl⟩,_,Or.inr ⟨_,e,rfl⟩,rfl,rfl,An (λh=>?_) (λh=>?_)⟩;refine q false _ (Ac.refl _) ⟨λz=>(by cases z),λz=>?_⟩;cases z;rw[u,p] at h;simp at h
     have X:r.length=k.length:=by
      rw[u,p] at h;simp at h;lia
     refine⟨a,b,rfl,Or.inr ⟨⟨_,t⟩,⟨_,e⟩,Qi TK (xs:=us) (ys:=ws) (λi σ L=>∃v A,σ=[some (.ref a),some (.ref b),v,A]/\Ac H L/\∀j:Nat,j<i->r[j]?=k[j]?) ⟨none,none,rfl,Ac.refl _,λj M=>absurd M (Nat.not_lt_zero _)⟩ (λi σ L aa=>by obtain⟨_,_,_,s,_⟩:=aa;exact⟨s.seqT t,s.seqT e⟩) ?_ ?_⟩⟩;rintro i x y T σ U ab ae Y ⟨v,A,rfl,C,D⟩;obtain⟨N,l,t1⟩:=J.get ab;obtain⟨O,E,t2⟩:=I.get ae;have Q:=AW (o:=.tup [x,y]) Y;refine⟨_,Al.of Aa,rfl,?_⟩;generalize upd U T (.tup [x,y])=ai at Q ⊢;have m:=C.trans Q;refine⟨x,y,N,O,rfl,t1.same m,t2.same m,hd N (Bc l),W O (Bc E),λbb H3 R S=>⟨rfl,?_⟩⟩
     cases bb with
     |false =>
       refine Cu (q false _ (m.trans R) ⟨λz=>(by cases z),λz=>?_⟩);have e1:r=k:=by cases z;rfl
       rw[e1,E] at l;have:=S.mpr (BJ l).symm;cases this
     |true =>
       refine Bp ⟨_,_,rfl,m.trans R,λj M=>?_⟩;by_cases c:j=i;rw[c,l,E,S.mp rfl];exact D j (by lia)
     rintro σ U ⟨v,A,rfl,C,D⟩;refine q true _ C ⟨λζ=>?_,λζ=>rfl⟩;congr 1;refine List.ext_getElem? λj=>?_;by_cases c:j<k.length
     exact D j (by simp only[p,u,X,Nat.min_self] at *;lia)
     rw[Hk (by lia),Hk (by lia)]
   |bl _=>exact False.elim hd
   |_=>exact Cu (q false _ (Ac.refl _) ⟨λz=>(by cases z),λz=>(by cases z)⟩)
def jG(B:Bt mg)(F:Bm K "_law_same" "_law_same" NE f fd)(a:mg "_law_same" = some (.ref f))(n:Nat):Br P w K mg base "_law_same" (0+n) ["_law_found", "_law_due_here"] (Q7 K n):=by
 have b:Binds K fd ["_law_found", "_law_due_here"] []:=F.binds λζ ζ ζ ζ ζ ζ us c=>(by obtain⟨g,i,rfl⟩:=Iv c;rfl)
 induction n with
 |zero=>exact⟨f,fd,⟨λd H Q E h=>(by obtain⟨_,_,_,_,_,_,_,h,_⟩:=h;exact False.elim h),λA k s H j us d Q E ζ ζ ζ ζ h=>(by obtain⟨_,_,_,_,_,_,_,h,_⟩:=h;exact False.elim h)⟩,a,F.kp,b⟩
 |succ n e=>exact⟨f,fd,jF B n e F,a,F.kp,b⟩
abbrev Q8(P w K mg base):=Br P w K mg base "_law_same" 8 ["_law_found", "_law_due_here"] (jE K)
def jH(B:Bt mg)(F:Bm K "_law_same" "_law_same" NE f fd)(a:mg "_law_same" = some (.ref f)):Q8 P w K mg base:=
 jG B F a 8
inductive CM (K:Aj) (vs:List V) (H:Hp) (Q:VK):Prop where
 |mk (t:Addr) (F:Addr->Prop) (sts:List Ce) (inn:Int) (ord:A') (h0:vs=[.ref t]) (h1:FO K F H t sts inn ord) (h2:ord.length<=40) (h3:∀(p:Addr)(H':Hp),H p=none->Ac H H'->Ib H' p ord->Q (.ref p) H'):CM K vs H Q
def jI (K:Aj):Sp:=λvs H Q ζ=>CM K vs H Q
abbrev Q9(P w K mg base):=Br P w K mg base "better_pairs" 1 ["table"] (jI K)
theorem jJ(B:Bt mg)(F:Bm K "better_pairs" "better_pairs" Ps f fd)(I:mg "better_pairs" = some (.ref f)):Q9 P w K mg base:=by
 refine BE F I e8 (λJ H Q E h=>?_) (λaj af al s H J Q E L h=>?_);obtain⟨t,F,U,W,ord,rfl,_⟩:=h;rfl;obtain⟨t,F,U,W,ord,rfl,M,ai,q⟩:=h;obtain⟨ta,o,ak,X,N,_,_,_,_,_,v,TO⟩:=M.ex;refine⟨_,(Au (AH (HF (ZM rfl (L6 L)) B.b_dict (Ab (HQ rfl Ch (Ct (As At (pv 0) Ah)) (λζ ζ ζ ζ ζ=>(Aw (i:=0) Ch.nd)) (λζ ζ ζ ζ ζ=>HP) (λζ ζ ζ ζ ζ=>(Bd (Ab (pv 0) (Ab G3 Ad))))) Ad)))),?_⟩;rfl'
 refine Or.inr (Or.inl ⟨_,.ref o,Al.of N,rfl,⟨_,Af.of v⟩,Oj (xs:=X.map V.ref) (λP i a g=>Ac H g/\g P=some (.lst a)/\a.length=i/\FC g a ((ord.take i).map λp=>(FQ p,V.bl true)))
  (λP j=>⟨AW j,Aa,rfl,.nil⟩) (λP i a g Z=>by obtain⟨s,_⟩:=Z;exact Af.of (s _ _ v)) (λP i ag a Y RR j O n k=>?_) (λP a Y j n=>?_)⟩)
 obtain⟨c,r,d,m⟩:=n;obtain⟨x,C,rfl⟩:=getm O;have aa:i<ord.length:=by rw[<-TO.len];exact(Bh.mp C).1
 have D:=AA aa;have ab:=c _ _ (TO.at_ i _ _ C D);refine⟨BK,λT R=>?_⟩;obtain⟨y,ae,l,S⟩:=new_at (o:=.tup [.ref x,.bl true]) R;rw[<-ae];have G:=l _ _ r
 have u:∀b xs,y b=some (.tup xs)->(upd y P (.lst (a++[.ref T]))) b=some (.tup xs):=λb xs e=>by
  rw[AE (MZ e G (λz=>nomatch z))];exact e
 refine k _ _ G (by rw[d];exact BL (by lia)) ⟨λb ah e=>?_,Aa,by rw[AQ,d];rfl,?_⟩;rw[AE (AU e j)];exact l _ _ (c _ _ e);rw[D7,D,A6];exact Paired.snoc ((m.tups λb xs e=>l _ _ e).tups u) ⟨T,x,rfl,u _ _ S,u _ _ (l _ _ ab)⟩;obtain⟨c,r,d,m⟩:=n;rw[Ak,TO.len,Cr] at m;rw[Ak,TO.len] at d;refine⟨P,a,_,rfl,r,by rw[d];exact BL (by lia),m,λp A=>?_⟩;exact q p _ (c.free A) (c.trans (AW A)) ⟨_,Aa,ZV⟩
inductive FH (K:Aj) (vs:List V) (H:Hp) (Q:VK):Prop where
 |mk (D:Addr) (F:Addr->Prop) (zs:List (Addr×List Aq)) (h0:vs=[.ref D]) (h1:H D=some (.lst (zs.map λz=>V.ref z.1))) (h2:(∀z∈zs,Cn F H z.1 z.2)) (h3:zs.length<=100) (h4:∀(d:List Aq->Addr)(c:List Aq->Aq->Addr)(H':Hp),Ac H H'->Bk dW H' (Be (zs.map (·.2))) d c->(∀p,Ez (Be (zs.map (·.2))) p->H (d p)=none)->Q (.ref (d [])) H'):FH K vs H Q
def jK (K:Aj):Sp:=λvs H Q ζ=>FH K vs H Q
abbrev Ra(P w K mg base):=Br P w K mg base "tree_of" 1 ["ways"] (jK K)
theorem jL(B:Bt mg)(F:Bm K "tree_of" "tree_of" RO f fd)(q:mg "tree_of" = some (.ref f)):Ra P w K mg base:=by
 refine BE F q Mv (λvs H ao aq h=>?_) (λaA a7 aD s H vs ao aq hr h=>?_);obtain⟨D,F,l,rfl,_⟩:=h;rfl
 . obtain⟨D,F,l,rfl,eD,hz,lz,ar⟩:=h
   refine⟨_,(Am (AK (i:=1) Mv.nd SW)
    (Am (Ca B8 rfl (Qh LK rfl B.b_enumerate (Ab (pv 0) Ad)) (BU (n:=2) rfl (AD (Aw (i:=2) Mv.nd) (AD (Aw (i:=3) Mv.nd) BS))) (Am (AK (i:=4) Mv.nd (pv 1))
     (Au (Ca B8 rfl (Ct (pv 3)) (Aw (i:=5) Mv.nd) (Au (AK (i:=4) Mv.nd (As At (Dj PySem.F.plainAttrs_dict PySem.F.slot_dict_setdefault PySem.F.type_dict_setdefault (ZF (Od hr)) (pv 4) (Ab (pv 5) (Ab (Bd (Ab (pv 2) (Ab SW Ad))) Ad))) Ah)))))))
    (Au (AH (pv 1))))),?_⟩
   rfl';refine λt ht=>?_;obtain⟨au,av,s1,et⟩:=new_at (o:=.dT []) ht;rw[<-av]
   refine⟨D,rfl,⟨_,s1 _ _ eD⟩,Qj LK (xs:=l.map λz=>V.ref z.1) (λi σ C=>∃(Y Z u4 E:Option V)(d:List Aq->Addr)(c:List Aq->Aq->Addr),σ=[some (.ref D),some (.ref t),Y,Z,u4,E]/\Ac H C/\d []=t/\Bk dW C (Be ((l.map (·.2)).take i)) d c/\∀p,Ez (Be ((l.map (·.2)).take i)) p->H (d p)=none)
    ⟨none,none,none,none,λζ=>t,λζ ζ=>t,rfl,s1,rfl,?_,λp A=>ht⟩ (λi σ C aa=>by obtain⟨_,_,_,_,_,_,_,s,_⟩:=aa;exact Af.of (s _ _ eD)) ?_ ?_⟩
   have nil:∀p,Ez (Be ((l.map (·.2)).take 0)) p->p=[]:=λp A=>by
    rcases A with h|⟨kw,h,_⟩;exact h;rw[EF] at h;cases h
   refine⟨λp A=>?_,λp m k q=>?_,λp p' A aw ζ=>(nil p A).trans (nil p' aw).symm⟩;show au t=some (.dT (Ee _ _ p));rw[et,EF];rfl;rw[EF] at q;cases q;rotate_left;refine λσ ag L=>AL λR r=>?_;obtain⟨Y,Z,u4,E,d,c,rfl,s2,rfl,S,T⟩:=L;refine r ?_;clear r;rw[Ak,<-Ak (f:=(·.2)),Cr] at S T;exact ar d c ag s2 S T;refine λi y a8 σ ag hy hT L=>AL λR r=>?_;obtain⟨Y,Z,u4,E,d,c,rfl,s2,hd,S,T⟩:=L;refine r ?_;clear r;refine Hb ?_;intro Nx Cy;obtain⟨z,ab,rfl⟩:=getm hy;have mz:=Bc ab;have aB:=(Bh.mp ab).1;have ax:(l.map (·.2))[i]?=some z.2:=by rw[AX,ab];rfl
   obtain⟨H3,ay,s3,eT⟩:=new_at (o:=.tup [.int (i:Int),.ref z.1]) hT;rw[<-ay];have aj:=s2.trans s3;obtain⟨ms,ah,f3,_⟩:=(hz z mz).same aj;refine⟨_,Al.of eT,rfl,?_⟩
   refine⟨⟨_,Af.of ah⟩,Eg (xs:=ms.map V.ref) (λj σ C=>∃(E:Option V)(d:List Aq->Addr)(c:List Aq->Aq->Addr),σ=[some (.ref D),some (.ref t),some (.int (i:Int)),some (.ref z.1),some (.ref (d (z.2.take j))),E]/\Ac H C/\RT Gz C ms z.2/\C z.1=some (.lst (ms.map V.ref))/\d []=t/\Bk dW C (Be ((l.map (·.2)).take i)++[(i,z.2.take j)]) d c/\∀p,Ez (Be ((l.map (·.2)).take i)++[(i,z.2.take j)]) p->H (d p)=none)
    ⟨E,d,c,by rw[EF,hd];rfl,aj,f3,ah,hd,by rw[EF];exact(S.sameW s3).begin,λp A=>T p ?_⟩ (λj σ C ζ aa=>by obtain⟨_,_,_,_,_,_,e,_⟩:=aa;exact Af.of e) ?_ ?_⟩
   rw[EF] at A;rcases A with h|⟨kw,h1,N⟩;exact .inl h;rcases BI.mp h1 with y|y;exact .inr ⟨kw,y,N⟩;rw[A7.mp y] at N;exact .inl (List.prefix_nil.mp N);rotate_left;refine λσ H4 L=>AL λR r=>?_;obtain⟨E,d,c,rfl,O,_,_,W,G,M⟩:=L;refine r ?_;clear r;rw[Ak,f3.len,Cr,<-ZX ax] at G M;exact⟨_,_,_,_,d,c,rfl,O,W,G,M⟩;refine λj y σ H4 hy L=>AL λR r=>?_;obtain⟨E,d,c,rfl,O,U,e4,W,G,M⟩:=L;refine r ?_;clear r;refine Hb ?_;intro Nx Cy;obtain⟨mk,ak,rfl⟩:=getm hy;have hj:j<z.2.length:=by rw[<-f3.len];exact(Bh.mp ak).1
   have ae:=AA hj;have ai:=U.at_ j _ _ ak ae;have I:z.2.take (j+1)=z.2.take j++[z.2[j]]:=by rw[D7,ae];rfl
   generalize z.2[j]=m at ae ai I;generalize hg:z.2.take j=g at G M I ⊢;have al:Ez (Be ((l.map (·.2)).take i)++[(i,g)]) g:=.inr ⟨_,Ev _ (A7.mpr rfl),List.prefix_refl g⟩;have eB:=G.dct g al;have a9:=TU (Be ((l.map (·.2)).take i)++[(i,g)]) g
   have aC:(Be ((l.map (·.2)).take i)++[(i,g)]).length<=101:=by
    unfold Be;rw[AQ,Ak,List.length_zipIdx,EJ,Ak,Ef];lia
   have lr:(Ee (Be ((l.map (·.2)).take i)++[(i,g)]) c g).length<sizeLine:=by unfold Ee;rw[Ak];exact BL (by lia)
   refine⟨Or.inr (Or.inr (Or.inl ⟨rfl,Or.inr ⟨_,eB⟩⟩)),λe he=>?_⟩;have s5:=AW (o:=.dT []) he;have ee:(upd H4 e (.dT [])) e=some (.dT []):=Aa;have an:=he;generalize upd H4 e (.dT [])=H5 at s5 ee ⊢;refine⟨BK,λT5 az=>?_⟩;obtain⟨H6,a0,s6,X⟩:=new_at (o:=.tup [.int (i:Int),.ref e]) az;rw[<-a0];have u:=s5.trans s6;refine⟨d g,_,Gq m,mk,.ref T5,rfl,rfl,u _ _ eB,u _ _ ai,lr,λv J=>?_,λJ=>?_⟩;rw[OC] at J;by_cases q:m∈(TreeM.keysAt (Be ((l.map (·.2)).take i)++[(i,g)]) g).map (·.1);rw[Ar q] at J;cases J;obtain⟨⟨m',k⟩,hk,rfl⟩:=AN.mp q;have a1:=G.tup g m' k hk;refine Or.inr (Or.inl ⟨_,.ref (d (g++[m'])),Al.of (u _ _ a1),rfl,?_⟩);refine⟨some (.ref mk),d,c,by rw[I];rfl,O.trans u,U.same u,u _ _ e4,W,by rw[I];exact(G.sameW u).stay q,λp A=>M p ((Qa q).mp (by rw[I] at A;exact A))⟩;rw[Ao q] at J;cases J;have q:m∉(TreeM.keysAt (Be ((l.map (·.2)).take i)++[(i,g)]) g).map (·.1):=λq=>by rw[OC,Ar q] at J;cases J
   refine AL λR r=>?_;obtain⟨d',c',T7,a2,a3,a4⟩:=G.grow q an M (O.free an) u (s6 _ _ ee) X;refine r ?_;clear r;have a5:∀{b o},H b=some o->b≠d g:=λ{b o}Q z=>by rw[z,M g al] at Q;cases Q
   have s7:Ac H (upd H6 (d g) (.dT (BC (Ee (Be ((l.map (·.2)).take i)++[(i,g)]) c g) (Gq m) (.ref T5)))):=λb o Q=>by
    rw[AE (a5 Q)];exact u _ _ (O _ _ Q)
   have af:=u _ _ eB;have a6:T5≠d g:=λy=>by rw[y,af] at X;cases X
   refine Or.inr (Or.inl ⟨_,.ref e,Al.of (by rw[AE a6];exact X),rfl,?_⟩);refine⟨some (.ref mk),d',c',by rw[I,a2];rfl,s7,⟨U.len,λn a b h1 N=>?_⟩,?_,a4.trans W,by rw[I];exact T7,by rw[I];exact a3⟩;have x:=u _ _ (U.at_ n a b h1 N);rw[AE (MZ x af (λz=>nomatch z))];exact x;have x:=u _ _ e4;rw[AE (MZ x af (λz=>nomatch z))];exact x
inductive E5 (K:Aj) (vs:List V) (H:Hp) (Q:VK):Prop where
 |mk (nt S T R mk:Addr) (us Gs Es:List Addr) (ss:List Bg) (m:Aq) (h0:vs=[.ref nt,.ref mk]) (h1:Al K H nt [.ref S,.ref T,.ref R]) (h2:CG H S us Gs Es ss) (h3:Al K H mk (Gz m)) (h4:Ed ss m) (h5:Q (.str (EH ss m)) H):E5 K vs H Q
def jM (K:Aj):Sp:=λvs H Q ζ=>E5 K vs H Q
abbrev U9(P w K mg base):=Br P w K mg base "label_at" 1 ["net", "mark"] (jM K)
def jN(B:Bt mg)(F:Bm K "label_at" "label_at" RP f fd)(t:mg "label_at" = some (.ref f)):U9 P w K mg base:=by
 refine BE F t Np (λG H Q E h=>?_) (λah ab ai s H G Q E hr h=>?_);obtain⟨I,S,T,R,mk,us,J,L,ss,m,rfl,_⟩:=h;rfl;obtain⟨I,S,T,R,mk,us,J,L,ss,m,rfl,M,A,t,⟨n,k,Z,v,g,j,C⟩,q⟩:=h;have Y:n<ss.length:=(Bh.mp j).1;obtain⟨u,ae,E1,N,af,ag,D,⟨O,⟨l,U,o⟩,⟨p,W,r⟩⟩⟩:=A.get Y;rw[j] at D;have X:=BJ D;rw[<-X] at o r;have aa:Bi (us.map V.ref) m.1=some (.ref u):=by rw[v];exact Bu (by rw[AX,N];rfl)
 refine⟨_,(Am (D9 (pv 1) (BU (n:=3) rfl (AD (Aw (i:=2) Np.nd) (AD (Aw (i:=3) Np.nd) (AD (Aw (i:=4) Np.nd) BS)))))
  (Am (D9 (As At (As At (pv 0) Ah) (pv 2)) (BU (n:=2) rfl (AD (Aw (i:=5) Np.nd) (AD (Aw (i:=6) Np.nd) BS))))
  (Am (A5 (Bl BV (pv 3) Bb (A9 _)) (Au (AH (As At (As At (pv 5) (pv 4)) Ah))) A4)
  (Au (AH (As At (As At (pv 6) (pv 4)) Ah)))))),?_⟩
 rfl';refine⟨_,t,rfl,?_⟩;refine Or.inr (Or.inl ⟨_,.ref S,M,rfl,Or.inl ⟨_,.ref u,Af.of A.top,aa,?_⟩⟩);refine⟨_,Al.of O,rfl,?_⟩;refine⟨rfl,rfl,An (λh=>?_) (λh=>?_)⟩;have b:m.2.1=("step" : Str):=V.str.inj (A3 h);rcases C with⟨_,a⟩|⟨e,_⟩;have c:=AA a;rw[Wy v g j b c] at q;have d:l[k]?=some (l[k]'(by rw[o.len];exact a)):=AA _;have x:=o.at_ _ _ _ d c;have y:Bi (l.map V.ref) m.2.2=some (.ref (l[k]'(by rw[o.len];exact a))):=by rw[g];exact Bu (by rw[AX,d];rfl)
 exact Or.inl ⟨_,_,Af.of U,y,Or.inr (Or.inl ⟨_,.str Z.1[k].1,Al.of x,rfl,q⟩)⟩;exact absurd (e.symm.trans b) Oy;have b:m.2.1≠("step" : Str):=λz=>h (AY (by rw[z]));rcases C with⟨e,_⟩|⟨_,a⟩;exact absurd e b;have c:=AA a;rw[Wz v g j b c] at q;have d:p[k]?=some (p[k]'(by rw[r.len];exact a)):=AA _;have x:=r.at_ _ _ _ d c;have y:Bi (p.map V.ref) m.2.2=some (.ref (p[k]'(by rw[r.len];exact a))):=by rw[g];exact Bu (by rw[AX,d];rfl)
 exact Or.inl ⟨_,_,Af.of W,y,Or.inr (Or.inl ⟨_,.str Z.2[k].1,Al.of x,rfl,q⟩)⟩
def X4{bet:Aq->Aq->Bool}{ws:TreeM.Ws Aq}{a:List Aq}{m:Aq}{t:List Aq}:TreeM.gat bet ws a (m::t)=((TreeM.keysAt ws a).filter λb=>bet b.1 m).map (·.2)++TreeM.gat bet ws (a++[m]) t:=rfl
theorem X5{bet:Aq->Aq->Bool}{ws:TreeM.Ws Aq}:∀{b a:List Aq},(TreeM.gat bet ws a b).length<=b.length*ws.length
 |[],_=>CO _
 |m::t,a=>by
   rw[X4,AQ,Ak,EG];have d:=Pl (λc:Aq×Nat=>bet c.1 m) (TreeM.keysAt ws a);have e:=TU ws a;have f:=X5 (bet:=bet) (ws:=ws) (b:=t) (a:=a++[m]);rw[Nat.add_mul,Nat.one_mul];lia
inductive C4 (K:Aj) (vs:List V) (H:Hp) (Q:VK):Prop where
 |mk (nt S T R bp l:Addr) (us Gs Es:List Addr) (ss:List Bg) (ord:A') (ws:TreeM.Ws Aq) (d:List Aq->Addr) (c:List Aq->Aq->Addr) (F:Addr->Prop) (w:List Aq) (h0:vs=[.ref nt,.ref bp,.ref (d []),.ref l]) (h1:H nt=some (.tup [.ref S,.ref T,.ref R])) (h2:CG H S us Gs Es ss) (h3:Ib H bp ord) (h4:Bk dF H ws d c) (h5:ws.length<=100) (h6:(∀kw∈ws,∀m∈kw.2,Ed ss m)) (h7:Cn F H l w) (h8:Hu ss w) (h9:∀H',Ac H H'->Q (P9 ((TreeM.gat (Cg ss ord) ws [] w).map λk:Nat=>(k:Int))) H'):C4 K vs H Q
def jO (K:Aj):Sp:=λvs H Q ζ=>C4 K vs H Q
abbrev Rb(P w K mg base):=Br P w K mg base "first_hider" 2 ["net", "better", "tree", "way"] (jO K)
theorem jP(B:Bt mg)(ar:U9 P w K mg base)(F:Bm K "first_hider" "first_hider" RQ f fd)(C:mg "first_hider" = some (.ref f)):Rb P w K mg base:=by
 refine BE F C Mw (λvs H a4 a5 h=>?_) (λaP aM aT s H vs a4 a5 hr h=>?_);obtain⟨M,S,aa,ab,Q,l,us,Gs,Es,ss,ord,ws,d,c,F,w,rfl,_⟩:=h;rfl
 . obtain⟨M,S,aa,ab,Q,l,us,Gs,Es,ss,ord,ws,d,c,F,w,rfl,eN,SC,BD,TT,a8,a9,⟨ms,el,rl,_⟩,ok,a6⟩:=h
   obtain⟨kb,eb,hb⟩:=BD
   refine⟨_,(Am (AK (i:=4) Mw.nd (Cb Ad))
    (Am (AK (i:=5) Mw.nd (pv 2))
    (Am (Ca B8 rfl (Ct (pv 3)) (Aw (i:=6) Mw.nd) (Am (AK (i:=7) Mw.nd (AR ar (Ab (pv 0) (Ab (pv 6) Ad))))
     (Am (Ca B8 rfl (JR (pv 5)) (Aw (i:=8) Mw.nd) (Au (A5 (Bl (YY (Od hr)) (Bd (Ab (AR ar (Ab (pv 0) (Ab (pv 8) Ad))) (Ab (pv 7) Ad))) (pv 1) (by with_unfolding_all rfl)) (Au (Dp (Dj Dd EL EM EQ (pv 4) (Ab (As At (Jv (Od hr) (pv 5) (pv 8) (λζ ζ=>rfl)) Ah) Ad)))) A4)))
     (Au (AK (i:=5) Mw.nd (As At (YI (Od hr) (pv 5) (pv 6) (Bd (Ab Ah (Ab SW Ad))) ⟨rfl,rfl,rfl,rfl⟩) Ah))))))
    (Au (AH (JS rfl (by rfl) B.b_min (Ab (pv 4) Ad))))))),?_⟩
   rfl';refine⟨by decide,λN X=>?_⟩;obtain⟨aN,aA,s1,aB⟩:=new_at (o:=.lst []) X;rw[<-aA];refine A0 ?_;cbv;refine A0 ?_;cbv
   refine⟨⟨_,Af.of (s1 _ _ el)⟩,Eg (xs:=ms.map V.ref) (λj σ n=>∃(a:Addr)(u6 u7 D:Option V)(ns:List Nat),σ=[some (.ref M),some (.ref Q),some (.ref (d [])),some (.ref l),some (.ref N),some (.ref a),u6,u7,D]/\Ac H n/\n N=some (.lst ((ns.map λk:Nat=>(k:Int)).map V.int))/\ns++TreeM.gat (Cg ss ord) ws (w.take j) (w.drop j)=TreeM.gat (Cg ss ord) ws [] w/\a≠N/\((Ez ws (w.take j)/\a=d (w.take j))\/(¬Ez ws (w.take j)/\H a=none/\Rd n a (.dT []))))
    ⟨d [],none,none,none,[],rfl,s1,aB,rfl,?_,.inl ⟨.inl rfl,rfl⟩⟩ (λj σ n ζ ag=>by obtain⟨_,_,_,_,_,_,s,_⟩:=ag;exact Af.of (s _ _ el)) ?_ ?_⟩
   obtain⟨o,x⟩:=TT.dct [] (.inl rfl);exact AU x X;rotate_left;refine λσ Y ah=>AL λNz T=>?_;obtain⟨a,u6,u7,D,ns,rfl,A,ai,t,_⟩:=ah;refine T ?_;clear T;rw[Ak,rl.len,List.drop_length] at t;have t:ns=_:=(EK ns).symm.trans t;subst t;exact⟨N,_,rfl,ai,a6 Y A⟩;refine λj aO σ Y hy ah=>AL λNz T=>?_;obtain⟨a,u6,u7,D,ns,rfl,A,ai,t,au,aj⟩:=ah;refine T ?_;clear T;refine Hb ?_;intro Nx Cy;obtain⟨mk,av,rfl⟩:=getm hy;have hj:j<w.length:=by rw[<-rl.len];exact(Bh.mp av).1
   have ak:=AA hj;have af:=rl.at_ j _ _ av ak;have aw:=ok.1 _ (DX hj);have E:w.take (j+1)=w.take j++[w[j]]:=by rw[D7,ak];rfl
   have dk:w.drop j=w[j]::w.drop (j+1):=Kz hj;rw[dk,X4] at t;generalize w[j]=m at ak af E aw t;generalize aQ:w.take j=g at E t aj ⊢;refine⟨M,S,aa,ab,mk,us,Gs,Es,ss,m,rfl,Al.of (A _ _ eN),SC.same A,Al.of (A _ _ af),aw,?_⟩;refine A0 ?_;cbv
   have aC:Rd Y a (.dT (Ee ws c g)):=by
    rcases aj with⟨u,q⟩|⟨u,_,q⟩;obtain⟨o,x⟩:=TT.dct g u;rw[q];exact .inr ⟨o,A _ _ x⟩;unfold Ee;rw[WO u];exact q
   refine IR (λσ' n=>∃(D:Option V),σ'=[some (.ref M),some (.ref Q),some (.ref (d [])),some (.ref l),some (.ref N),some (.ref a),some (.ref mk),some (.str (EH ss m)),D]/\Ac H n/\n N=some (.lst (((ns++((TreeM.keysAt ws g).filter λG=>Cg ss ord G.1 m).map (·.2)).map λk:Nat=>(k:Int)).map V.int))/\Rd n a (.dT (Ee ws c g))) ?_ (λN' aD=>?_)
   case refine_2 =>
    refine⟨a,_,rfl,aC,λo I=>?_⟩
    have R:Ac H (upd Y a (.frz o (.dT (Ee ws c g)))):=λb a7 e=>by
     by_cases ax:b=a;subst ax;rw[Aa];rcases aj with⟨u,q⟩|⟨_,q,_⟩;obtain⟨o',x⟩:=TT.dct g u;rw[<-q] at x;have x2:=A _ _ x;rcases I with I|I;rw[x2] at I;cases I;rw[x2] at I;cases I;rw[x] at e;exact e;rw[e] at q;cases q;rw[AE ax];exact A _ _ e
    have O:(upd Y a (.frz o (.dT (Ee ws c g)))) N=_:=(AE (Ne.symm au)).trans ai;have ay:(upd Y a (.frz o (.dT (Ee ws c g)))) a=some (.frz o (.dT (Ee ws c g))):=Aa;generalize upd Y a (.frz o (.dT (Ee ws c g)))=H3 at R O ay ⊢
    refine ZH (λi σ n=>∃(D:Option V),σ=[some (.ref M),some (.ref Q),some (.ref (d [])),some (.ref l),some (.ref N),some (.ref a),some (.ref mk),some (.str (EH ss m)),D]/\Ac H n/\n N=some (.lst (((ns++(((TreeM.keysAt ws g).take i).filter λG=>Cg ss ord G.1 m).map (·.2)).map λk:Nat=>(k:Int)).map V.int))/\n a=some (.frz o (.dT (Ee ws c g))))
     ⟨_,rfl,R,by rw[EF];show H3 N=some (.lst (((ns++[]).map _).map _));rw[EK];exact O,ay⟩ (λi σ n ζ ag=>by obtain⟨_,_,_,_,e⟩:=ag;exact e) ?_ ?_
    rotate_left;rintro σ H4 ⟨al,rfl,J,L,U⟩;unfold Ee at L;rw[Ak,Cr] at L;exact aD _ _ ⟨al,rfl,J,L,.inr ⟨o,U⟩⟩;rintro i k v b σ H4 hi az ⟨al,rfl,J,L,U⟩;unfold Ee at hi;rw[AX] at hi;obtain⟨⟨x,ae⟩,hx,e⟩:=E8.mp hi;have e1:=BB Prod.fst e;have e2:=BB Prod.snd e;dsimp only at e1 e2;subst e1 e2;have mx:=Bc hx;have an:x∈(TreeM.keysAt ws g).map (·.1):=AN.mpr ⟨_,mx,rfl⟩
    have aE:Ed ss x:=by
     obtain⟨kw,u,q⟩:=TreeM.keysAt_mem.mp an;exact a9 kw u x (q.subset (by simp))
    have aF:=TT.tup g x ae mx
    have aR:Ez ws g:=by
     obtain⟨kw,u,q⟩:=TreeM.keysAt_mem.mp an;exact .inr ⟨kw,u,(MW g _).trans q⟩
    have a0:(TreeM.keysAt ws g).take (i+1)=(TreeM.keysAt ws g).take i++[(x,ae)]:=by rw[D7,hx];rfl
    refine⟨M,S,aa,ab,b,us,Gs,Es,ss,x,rfl,Al.of (J _ _ eN),SC.same J,Al.of az,aE,?_⟩;refine⟨BK,λp hp=>?_⟩;obtain⟨H5,ao,r,ep⟩:=new_at (o:=.tup [.str (EH ss x),.str (EH ss m)]) hp;rw[<-ao];have y:=J.trans r;refine⟨Q,_,rfl,Fi.t (k:=FQ (EH ss x,EH ss m)) (y _ _ eb) ep,rfl,?_⟩;rw[hb];refine An (λh=>?_) (λh=>?_);have aq:Cg ss ord x m=true:=(by simpa [Cg] using h);refine⟨Or.inl ⟨rfl,_,Af.of (r _ _ L)⟩,a,.ref (c g x),rfl,?_,Or.inr (Or.inl ⟨_,.int (ae:Int),Al.of (y _ _ aF),rfl,_,r _ _ L,?_,?_⟩)⟩;refine .inr ⟨_,Gq x,b,.inr ⟨o,r _ _ U⟩,rfl,r _ _ az,?_⟩;rw[OC,Ar an];rw[Ak,Ak,AQ,Ak];have u:=Pl (λG:Aq×Nat=>Cg ss ord G.1 m) ((TreeM.keysAt ws g).take i);have q:=TU ws g;have h3:(((TreeM.keysAt ws g).take i)).length<=(TreeM.keysAt ws g).length:=by rw[EJ];lia
    have h4:=BB List.length t;have h5:=X5 (bet:=Cg ss ord) (ws:=ws) (b:=w) (a:=[]);have h6:w.length*ws.length<=100*100:=Nat.mul_le_mul ok.2 a8;rw[AQ] at h4;exact ZC (by lia);refine⟨_,rfl,λb' a7 e=>?_,?_,?_⟩;rw[AE (AU e X)];exact y _ _ e;rw[Aa,a0,NB,MV,Ar aq]
    simp
    rw[AE au];exact r _ _ U;have aq:¬Cg ss ord x m=true:=(by simpa [Cg] using h);refine⟨_,rfl,y,?_,r _ _ U⟩;rw[a0,NB,MV,Ao aq];simpa using r _ _ L
   rintro σ' H3 ⟨al,rfl,R,O,a3⟩;have aS:((Ee ws c g).map (·.1)).length=(Ee ws c g).length:=Ak _;refine⟨a,rfl,.inr ⟨_,a3⟩,λe Z=>?_⟩;obtain⟨H4,aG,J,ee⟩:=new_at (o:=.dT []) Z;rw[<-aG];refine⟨BK,λT5 aH=>?_⟩;obtain⟨H5,ao,r,aI⟩:=new_at (o:=.tup [.int 0,.ref e]) aH;rw[<-ao];have W:=J.trans r;have y:=R.trans W;have aL:Rd H5 a (.dT (Ee ws c g)):=a3.elim (λz=>.inl (W _ _ z)) λ⟨o,z⟩=>.inr ⟨o,W _ _ z⟩;have aJ:e≠N:=λz=>by rw[z,O] at Z;cases Z
   refine⟨_,.inr ⟨_,Gq m,mk,aL,rfl,y _ _ af,rfl⟩,?_⟩;rw[OC];have a1:(ns++((TreeM.keysAt ws g).filter λG=>Cg ss ord G.1 m).map (·.2))++TreeM.gat (Cg ss ord) ws (g++[m]) (w.drop (j+1))=TreeM.gat (Cg ss ord) ws [] w:=by rw[FX];exact t
   by_cases C:m∈(TreeM.keysAt ws g).map (·.1);rw[Ar C];obtain⟨⟨m',k⟩,hk,rfl⟩:=AN.mp C;have aK:=TT.tup g m' k hk;have a2:=FP.mpr C;refine Or.inr (Or.inl ⟨_,.ref (d (g++[m'])),Al.of (y _ _ aK),rfl,?_⟩);refine⟨_,_,_,_,_,rfl,y,W _ _ O,by rw[E];exact a1,?_,.inl ⟨by rw[E];exact a2,by rw[E]⟩⟩;obtain⟨o,x⟩:=TT.dct _ a2;exact AU x X;rw[Ao C];refine Or.inr (Or.inl ⟨_,.ref e,Al.of aI,rfl,?_⟩);exact⟨_,_,_,_,_,rfl,y,W _ _ O,by rw[E];exact a1,aJ,.inr ⟨λz=>C (FP.mp (by rw[E] at z;exact z)),R.free Z,.inl (r _ _ ee)⟩⟩
inductive Er (K:Aj) (vs:List V) (H:Hp) (Q:VK):Prop where
 |mk (nt S T R t D:Addr) (us Gs Es:List Addr) (ss:List Bg) (F G:Addr->Prop) (sts:List Ce) (inn:Int) (ord:A') (zs:List (Addr×List Aq)) (h0:vs=[.ref nt,.ref t,.ref D]) (h1:H nt=some (.tup [.ref S,.ref T,.ref R])) (h2:CG H S us Gs Es ss) (h3:FO K F H t sts inn ord) (h4:ord.length<=40) (h5:(∀x,(x,x)∉ord)) (h6:H D=some (.lst (zs.map λz=>V.ref z.1))) (h7:(∀z∈zs,Cn G H z.1 z.2)) (h8:(∀z∈zs,Hu ss z.2)) (h9:zs.length<=100) (h10:∀(P:Addr)(ys:List (Addr×List Aq))(H':Hp),H P=none->Ac H H'->H' P=some (.lst (ys.map λz=>V.ref z.1))->(∀z∈ys,Cn (λl=>H l=none/\l≠P) H' z.1 z.2)->ys.map (·.2)=Dx ss ord (zs.map (·.2)) (zs.map (·.2))->Q (.ref P) H'):Er K vs H Q
def jQ (K:Aj):Sp:=λvs H Q ζ=>Er K vs H Q
abbrev Va(P w K mg base):=Br P w K mg base "seen_ways" 3 ["net", "table", "ways"] (jQ K)
theorem jR(B:Bt mg)(ax:Q9 P w K mg base)(ay:Ra P w K mg base)(az:Rb P w K mg base)(F:Bm K "seen_ways" "seen_ways" Pt f fd)(L:mg "seen_ways" = some (.ref f)):Va P w K mg base:=by
 refine BE F L UA (λa H aq ar h=>?_) (λa9 a6 aC s H a aq ar hr h=>?_);obtain⟨nt,S,aa,ab,t,ae,us,Gs,Es,ss,F,G,ag,ah,ord,g,rfl,_⟩:=h;rfl;obtain⟨nt,S,aa,ab,t,ae,us,Gs,Es,ss,F,G,ag,ah,ord,g,rfl,eN,SC,TB,av,irr,M,p,ai,lz,au⟩:=h
 refine⟨_,(Am (AK (i:=3) UA.nd (AR ax (Ab (pv 1) Ad)))
  (Am (AK (i:=4) UA.nd (H2 (AR ay (Ab (pv 2) Ad))))
  (Au (AH (HQ (te:=SG (JM K) (Hm (Cs 0) G5)) rfl CW (Ct (pv 2)) (λζ ζ ζ ζ ζ=>(Aw (i:=0) CW.nd)) (λζ ζ ζ ζ ζ=>(PP (Gj (G4 (AR az (Ab (pv 1) (Ab (pv 2) (Ab (pv 3) (Ab (pv 0) Ad))))))))) (λζ ζ ζ ζ ζ=>(HF SN B.b_list (Ab (pv 0) Ad)))))))),?_⟩
 rfl';refine⟨t,F,ag,ah,ord,rfl,TB,av,λbp a7 aA N BD=>?_⟩;refine⟨ae,G,g,rfl,N _ _ M,λz h=>(p z h).same N,lz,λd c a8 s2 T2 aj H3 q f4=>?_⟩;have s3:=q.same s2;have T3:=T2.frz aj q f4;have a0:=BD.same s3;clear T2 aj q f4 s2 BD;have n:=N.trans s3;have lw:(Be (g.map (·.2))).length<=100:=by unfold Be;rw[Ak,List.length_zipIdx,Ak];exact lz
 have a1:∀kw∈Be (g.map (·.2)),∀m∈kw.2,Ed ss m:=λkw a2 m L=>by
  obtain⟨z,h1,h2⟩:=AN.mp (Bc (Dw.mp a2));exact(ai z h1).1 m (by rw[h2];exact L)
 refine⟨⟨_,Af.of (n _ _ M)⟩,PZ (xs:=g.map λz=>V.ref z.1) (λP i r C=>∃a:List (Addr×List Aq),r=(a.map λz=>V.ref z.1)/\Ac H3 C/\C P=some (.lst r)/\(∀z∈a,Cn (λl=>H l=none/\l≠P) C z.1 z.2)/\a.map (·.2)=Dx ss ord (g.map (·.2)) ((g.map (·.2)).take i)/\a.length<=i)
  (λP u=>⟨[],rfl,AW u,Aa,λz p=>by simp at p,by rw[EF];rfl,AI _⟩) (λP i r C a3=>by obtain⟨_,_,s,_⟩:=a3;exact Af.of (s _ _ (n _ _ M))) (λP i af r H4 RR R0 u hy O k k0=>?_) (λP r H4 u O=>?_)⟩
 refine AL λNz y=>?_;obtain⟨a,rfl,j,Q,J,A,lv⟩:=O;refine y ?_;clear y;obtain⟨z,U,rfl⟩:=getm hy;have aB:i<g.length:=(Bh.mp U).1;have R:=Bc U;have ak:(g.map (·.2))[i]?=some z.2:=by rw[AX,U];rfl
 have W:=n.trans j;refine⟨nt,S,aa,ab,bp,z.1,us,Gs,Es,ss,ord,_,d,c,G,z.2,rfl,W _ _ eN,SC.same W,a0.same j,T3.same j,lw,a1,(p z R).same W,ai z R,λH5 D=>?_⟩;have X:=j.trans D;have al:=n.trans X;have Y:=D _ _ Q;refine⟨rfl,An (λh=>?_) (λh=>?_)⟩;have Z:=(Qb irr).mp (CP.mp (A3 h));obtain⟨ms,aw,q,_⟩:=(p z R).same al;refine⟨z.1,_,rfl,Or.inl (Af.of aw),λl E=>?_⟩;obtain⟨H6,a4,I,el⟩:=new_at (o:=.lst (ms.map V.ref)) E;rw[<-a4];have an:=I _ _ Y;have ao:l≠P:=λaf=>by rw[af,Y] at E;cases E
 have T:Keeps (·=P) H6 (upd H6 P (.lst (a.map (λz=>V.ref z.1)++[.ref l]))):=Keeps.one an;refine k _ _ an (by rw[Ak];exact BL (by lia)) ⟨a++[(l,z.2)],by rw[A6];rfl,λb o e=>?_,Aa,λw a5=>?_,?_,by rw[AQ,Ef];lia⟩;rw[AE (AU e u)];exact I _ _ (X _ _ e);rcases BI.mp a5 with h|h;exact((J w h).same (D.trans I)).keeps T λx hx=>hx.2;rw[A7.mp h];exact⟨ms,T.at_ _ _ el ao,(q.same I).keeps T,al.free E,ao⟩;rw[TW ak,Ao (by rw[Z];exact CS),A6,A];rfl
 have Z:((g.map (·.2)).any λv=>CB ss ord v z.2)=true:=by
  cases e:(g.map (·.2)).any λv=>CB ss ord v z.2 with
  |true=>rfl
  |false=>exact absurd (AY (CP.mpr ((Qb irr).mpr e))) h
 exact k0 _ ⟨a,rfl,X,Y,λw hw=>(J w hw).same D,by rw[TW ak,Ar Z];exact A,by lia⟩;refine AL λNz y=>?_;obtain⟨a,rfl,j,Q,J,A,lv⟩:=O;refine y ?_;clear y;rw[Ak,<-Ak (f:=(·.2)),Cr] at A;exact au P a H4 ((n).free u) (n.trans j) Q J A
inductive E6 (K:Aj) (vs:List V) (H:Hp) (Q:VK):Prop where
 |mk (nt A t D:Addr) (x:Str) (F G:Addr->Prop) (W:Wd) (inn:Int) (ord:A') (sc st:Int) (zs:List (Addr×AO)) (h0:vs=[.ref nt,.ref t,.ref D,.str x]) (h1:A1 K H nt A t W) (h2:FO K F H t W.sts inn ord) (h3:Ck W) (h4:Bz W) (h5:ord.length<=40) (h6:(∀x,(x,x)∉ord)) (h7:(0<=sc/\sc<W.ss.length)) (h8:(0<=st/\st<W.sts.length)) (h9:H D=some (.lst (zs.map λz=>V.ref z.1))) (h10:(∀z∈zs,Dl G H z.1 z.2)) (h11:C9 W sc st (zs.map (·.2))) (h12:∀(r D2 P:Addr)(ws ys:List (Addr×List Aq))(H':Hp),Ac H H'->H' r=some (.tup [.ref D,.ref D2,.ref P])->H D2=none->H' D2=some (.lst (ws.map λz=>V.ref z.1))->(∀z∈ws,Cn (λl=>H l=none) H' z.1 z.2)->L3 W x (zs.map (·.2)) (ws.map (·.2))->H P=none->H' P=some (.lst (ys.map λz=>V.ref z.1))->(∀z∈ys,Cn (λl=>H l=none) H' z.1 z.2)->ys.map (·.2)=Dx W.ss ord (ws.map (·.2)) (ws.map (·.2))->Q (.ref r) H'):E6 K vs H Q
def jS (K:Aj):Sp:=λvs H Q ζ=>E6 K vs H Q
abbrev Vb(P w K mg base):=Br P w K mg base "look_for" 4 ["net", "table", "begun", "name"] (jS K)
def jT(B:Bt mg)(aa:Q0 P w K mg base)(ab:Va P w K mg base)(F:Bm K "look_for" "look_for" RS f fd)(M:mg "look_for" = some (.ref f)):Vb P w K mg base:=by
 refine BE F M XB (λN H Q E h=>?_) (λak A al s H N Q E v h=>?_);obtain⟨g,A,t,D,x,F,G,W,J,ord,j,k,l,rfl,_⟩:=h;rfl;obtain⟨g,A,t,D,x,F,G,W,J,ord,j,k,l,rfl,y,O,ok,C,U,irr,d,e,V,X,c,q⟩:=h;obtain⟨S,T,R,us,Y,Z,ts,qt,qs,eN,N3⟩:=y.net
 refine⟨_,(Am (AK (i:=4) XB.nd (AR aa (Ab (pv 0) (Ab (pv 1) (Ab (pv 2) (Ab (pv 3) Ad))))))
  (Au (AH (Bd (Ab (pv 2) (Ab (pv 4) (Ab (AR ab (Ab (pv 0) (Ab (pv 1) (Ab (pv 4) Ad)))) Ad))))))),?_⟩
 rfl';refine⟨g,A,t,D,x,G,W,l,rfl,y,ok,V,X,λz ae=>((c.mem _).mp (AN.mpr ⟨z,ae,rfl⟩)).ok ok d e,C.fnd x j k _ d e c,λm ws ai af a L I n=>?_⟩;have ag:∀z∈ws,z.2∈Fc W x (l.map (·.2)):=λz h=>n.perm.mem_iff.mp (AN.mpr ⟨z,h,rfl⟩)
 have lw:ws.length<=100:=by
  have h1:=n.perm.length_eq;have h2:=C.fnd x j k _ d e c;rw[Ak] at h1;lia
 refine⟨g,S,T,R,t,m,us,Y,Z,W.ss,F,_,W.sts,J,ord,ws,rfl,a _ _ eN,N3.sc.same a,O.same a,U,irr,L,I,λz h=>P6 ok d e c (ag z h),lw,λP ys aj hP p eP hy ah=>?_⟩;refine⟨JI,λr v=>?_⟩;have b:=AW (o:=.tup [.ref D,.ref m,.ref P]) v;refine q r m P ws ys _ ((a.trans p).trans b) Aa af (b _ _ (p _ _ L)) (λz h=>(((I z h).mono' λζ ζ ζ u=>u.1).same p).same b) n (a.free hP) (b _ _ eP) (λz h=>((hy z h).mono' λx o ζ u=>a.free u.1).same b) ah
inductive DT (K:Aj) (vs:List V) (H:Hp) (Q:VK):Prop where
 |mk (nt S T R t D O:Addr) (us Gs Es:List Addr) (ss:List Bg) (F G:Addr->Prop) (sts:List Ce) (inn:Int) (ord:A') (ws:List (Addr×List Aq)) (os:List (Addr×Ow)) (h0:vs=[.ref nt,.ref t,.ref D,.ref O]) (h1:H nt=some (.tup [.ref S,.ref T,.ref R])) (h2:CG H S us Gs Es ss) (h3:FO K F H t sts inn ord) (h4:ord.length<=40) (h5:(∀x,(x,x)∉ord)) (h6:H D=some (.lst (ws.map λz=>V.ref z.1))) (h7:(∀z∈ws,Cn G H z.1 z.2)) (h8:(∀z∈ws,Hu ss z.2)) (h9:ws.length<=100) (h10:H O=some (.lst (os.map λz=>V.ref z.1))) (h11:(∀z∈os,FA G H z.1 z.2)) (h12:(∀z∈os,Hu ss z.2.1)) (h13:∀(v:V)(H':Hp),Ac H H'->T8 G H' v (FW ss ord (ws.map (·.2)) (os.map (·.2)))->Q v H'):DT K vs H Q
def jU (K:Aj):Sp:=λvs H Q ζ=>DT K vs H Q
abbrev Vc(P w K mg base):=Br P w K mg base "first_owed" 3 ["net", "table", "found", "owed"] (jU K)
def jV(B:Bt mg)(al:Q9 P w K mg base)(an:Ra P w K mg base)(ao:Rb P w K mg base)(F:Bm K "first_owed" "first_owed" RU f fd)(j:mg "first_owed" = some (.ref f)):Vc P w K mg base:=by
 refine BE F j OS (λvs H ai aj h=>?_) (λa1 ay a3 s H vs ai aj hr h=>?_);obtain⟨k,S,T,R,t,D,O,us,I,J,ss,F,G,aa,ab,ord,ws,os,rfl,_⟩:=h;rfl
 . obtain⟨k,S,T,R,t,D,O,us,I,J,ss,F,G,aa,ab,ord,ws,os,rfl,eN,SC,TB,ak,irr,eD,hw,aq,ae,L,ho,ar,q⟩:=h
   refine⟨_,(Am (AK (i:=4) OS.nd (AR al (Ab (pv 1) Ad)))
    (Am (AK (i:=5) OS.nd (H2 (AR an (Ab (pv 2) Ad))))
    (Am (Ca B8 rfl (Ct (pv 3)) (BU (n:=2) rfl (AD (Aw (i:=6) OS.nd) (AD (Aw (i:=7) OS.nd) BS))) (Au (A5 (Gj (G4 (AR ao (Ab (pv 0) (Ab (pv 4) (Ab (pv 5) (Ab (pv 6) Ad))))))) (Au (AH (Bd (Ab (pv 6) (Ab (pv 7) Ad))))) A4)))
    (Au (AH GH))))),?_⟩
   rfl';refine⟨t,F,aa,ab,ord,rfl,TB,ak,λM az a2 r N=>?_⟩;refine⟨D,G,ws,rfl,r _ _ eD,λz h=>(hw z h).same r,ae,λd c a0 Q U af H3 u W=>?_⟩;have X:=u.same Q;have T3:=U.frz af u W;have au:=N.same X;clear U af u W Q N;have g:=r.trans X;have lw:(Be (ws.map (·.2))).length<=100:=by unfold Be;rw[Ak,List.length_zipIdx,Ak];exact ae
   have av:∀Y∈Be (ws.map (·.2)),∀m∈Y.2,Ed ss m:=λY aw m j=>by
    obtain⟨z,h1,h2⟩:=AN.mp (Bc (Dw.mp aw));exact(aq z h1).1 m (by rw[h2];exact j)
   refine⟨⟨_,Af.of (g _ _ L)⟩,Eg (xs:=os.map λz=>V.ref z.1) (λi σ Z=>∃y A,σ=[some (.ref k),some (.ref t),some (.ref D),some (.ref O),some (.ref M),some (.ref (d [])),y,A]/\Ac H3 Z/\FW ss ord (ws.map (·.2)) (os.map (·.2))=FW ss ord (ws.map (·.2)) ((os.map (·.2)).drop i))
    ⟨none,none,rfl,λζ ζ e=>e,rfl⟩ (λi σ Z ζ ax=>by obtain⟨_,_,_,s,_⟩:=ax;exact Af.of (s _ _ (g _ _ L))) ?_ ?_⟩
   rotate_left;rintro σ H4 ⟨y,A,rfl,a,b⟩;rw[Ak,<-Ak (f:=(·.2)),List.drop_length] at b;refine q _ _ (g.trans a) ?_;rw[b];rfl;rintro i x σ H4 hx ⟨y,A,rfl,a,b⟩;obtain⟨z,ag,rfl⟩:=getm hx;have mz:=Bc ag;have C:=g.trans a;obtain⟨l,e1,wl⟩:=((ho z mz).same C).way;have hd:=KZ (l:=os.map (·.2)) (i:=i) (x:=z.2) (by rw[AX,ag];rfl);rw[hd] at b;refine⟨_,Al.of e1,rfl,?_⟩;refine⟨k,S,T,R,M,l,us,I,J,ss,ord,_,d,c,G,z.2.1,rfl,C _ _ eN,SC.same C,au.same a,T3.same a,lw,av,wl,ar z mz,λH5 s5=>?_⟩;have ah:=a.trans s5;refine⟨rfl,An (λh=>?_) (λh=>?_)⟩;have E:=(Qb irr).mp (CP.mp (A3 h));refine⟨BK,λp hp=>?_⟩;have s6:=AW (o:=.tup [.ref l,.int z.2.2]) hp;refine q _ _ ((g.trans ah).trans s6) ?_;rw[b,WZ E];exact⟨p,l,rfl,Aa,(wl.same s5).same s6⟩
   have E:((ws.map (·.2)).any λv=>CB ss ord v z.2.1)=true:=by
    cases e:(ws.map (·.2)).any λv=>CB ss ord v z.2.1 with
    |true=>rfl
    |false=>exact absurd (AY (CP.mpr ((Qb irr).mpr e))) h
   exact⟨_,_,rfl,ah,by rw[b,W0 E]⟩
inductive DU (K:Aj) (vs:List V) (H:Hp) (Q:VK):Prop where
 |mk (nt S T R mk:Addr) (us Gs Es:List Addr) (ss:List Bg) (m:Aq) (h0:vs=[.ref nt,.ref mk]) (h1:Al K H nt [.ref S,.ref T,.ref R]) (h2:CG H S us Gs Es ss) (h3:Al K H mk (Gz m)) (h4:Ed ss m) (h5:m.2.1=("told" : Str)) (h6:∀t,H t=some (.tup (Ea (Ih ss m)))->Q (.ref t) H):DU K vs H Q
def jW (K:Aj):Sp:=λvs H Q ζ=>DU K vs H Q
abbrev Pe(P w K mg base):=Br P w K mg base "telling_at" 1 ["net", "mark"] (jW K)
def jX(B:Bt mg)(F:Bm K "telling_at" "telling_at" RV f fd)(c:mg "telling_at" = some (.ref f)):Pe P w K mg base:=by
 refine BE F c OT (λv H Q E h=>?_) (λaf A ag s H v Q E hr h=>?_);obtain⟨x,S,T,R,mk,us,y,z,ss,m,rfl,_⟩:=h;rfl;obtain⟨x,S,T,R,mk,us,y,z,ss,m,rfl,C,j,c,⟨n,k,Z,l,o,d,D⟩,X,q⟩:=h;have U:n<ss.length:=(Bh.mp d).1;obtain⟨u,aa,G,I,ab,ae,p,⟨J,⟨tG,b1,L⟩,⟨a,M,b⟩⟩⟩:=j.get U;rw[d] at p;have N:=BJ p;rw[<-N] at L b;have W:Bi (us.map V.ref) m.1=some (.ref u):=by rw[l];exact Bu (by rw[AX,I];rfl)
 refine⟨_,(Am (D9 (pv 1) (BU (n:=3) rfl (AD (Aw (i:=2) OT.nd) (AD (Aw (i:=3) OT.nd) (AD (Aw (i:=4) OT.nd) BS)))))
  (Am (AK (i:=5) OT.nd (As At (As At (As At (pv 0) Ah) (pv 2)) Ah))
  (Au (AH (As At (pv 5) (pv 4)))))),?_⟩
 rfl';refine⟨_,c,rfl,?_⟩;refine Or.inr (Or.inl ⟨_,.ref S,C,rfl,Or.inl ⟨_,.ref u,Af.of j.top,W,Or.inr (Or.inl ⟨_,.ref G,Al.of J,rfl,?_⟩)⟩⟩);rcases D with⟨e,_⟩|⟨_,g⟩;exact absurd (X.symm.trans e) Oy;have r:=AA g;rw[T4 l o d r] at q;have t:a[k]?=some (a[k]'(by rw[b.len];exact g)):=AA _;have O:=b.at_ _ _ _ t r;have Y:Bi (a.map V.ref) m.2.2=some (.ref (a[k]'(by rw[b.len];exact g))):=by rw[o];exact Bu (by rw[AX,t];rfl)
 exact Or.inl ⟨_,_,Af.of M,Y,q _ O⟩
inductive DV (K:Aj) (vs:List V) (H:Hp) (Q:VK):Prop where
 |mk (nt A t P:Addr) (G:Addr->Prop) (W:Wd) (ys:List (Addr×List Aq)) (h0:vs=[.ref nt,.ref A,.ref P]) (h1:A1 K H nt A t W) (h2:Bz W) (h3:H P=some (.lst (ys.map λz=>V.ref z.1))) (h4:(∀z∈ys,Cn G H z.1 z.2)) (h5:(∀z∈ys,CH W.ss z.2)) (h6:∀(v:V)(H':Hp),Ac H H'->T8 G H' v (FV W (ys.map (·.2)))->Q v H'):DV K vs H Q
def jY (K:Aj):Sp:=λvs H Q ζ=>DV K vs H Q
abbrev Vd(P w K mg base):=Br P w K mg base "first_open" 2 ["net", "answers", "seen"] (jY K)
def jZ(B:Bt mg)(an:Pe P w K mg base)(F:Bm K "first_open" "first_open" RW f fd)(hm:mg "first_open" = some (.ref f)):Vd P w K mg base:=by
 refine BE F hm Nq (λvs H ab ae h=>?_) (λao A ar s H vs ab ae hr h=>?_);obtain⟨g,A,t,P,af,W,c,rfl,_⟩:=h;rfl
 . obtain⟨g,A,t,P,af,W,c,rfl,L,sm,M,hy,S,q⟩:=h
   obtain⟨ag,ah,ai,us,Gs,Es,ts,qt,qs,eN,N3⟩:=L.net
   refine⟨_,(Am (Ca B8 rfl (Ct (pv 2)) (Aw (i:=3) Nq.nd) (Am (D9 (AR an (Ab (pv 0) (Ab (As At (pv 3) (M5 M6 Ah)) Ad))) (BU (n:=4) rfl (AD (Aw (i:=4) Nq.nd) (AD (Aw (i:=5) Nq.nd) (AD (Aw (i:=6) Nq.nd) (AD (Aw (i:=7) Nq.nd) BS))))))
    (Au (A5 (PW.pt (Gx (Bl BV (pv 6) Bb (A9 _)) (Gw (Gj (G4 (As At (pv 1) (pv 7))))))) (Au (AH (Bd (Ab (pv 3) (Ab (pv 7) Ad))))) A4))))
    (Au (AH GH))),?_⟩
   try dsimp only[AC,Cx.nox,Cx.wish]
   refine⟨⟨_,Af.of M⟩,Eg (xs:=c.map λz=>V.ref z.1) (λi σ N=>∃j r u y C,σ=[some (.ref g),some (.ref A),some (.ref P),j,r,u,y,C]/\Ac H N/\FV W (c.map (·.2))=FV W ((c.map (·.2)).drop i))
    ⟨none,none,none,none,none,rfl,λζ ζ e=>e,rfl⟩ (λi σ N ζ ak=>by obtain⟨_,_,_,_,_,_,s,_⟩:=ak;exact Af.of (s _ _ M)) ?_ ?_⟩
   rotate_left;refine λσ H4 I=>AL λNz d=>?_;obtain⟨j,r,u,y,C,rfl,a,b⟩:=I;refine d ?_;clear d;rw[Ak,<-Ak (f:=(·.2)),List.drop_length] at b;refine q _ _ a ?_;rw[b];rfl;refine λi x σ H4 hx I=>AL λNz d=>?_;obtain⟨j,r,u,y,C,rfl,a,b⟩:=I;refine d ?_;clear d;obtain⟨z,T,rfl⟩:=getm hx;have D:=Bc T;have hd:=KZ (l:=c.map (·.2)) (i:=i) (x:=z.2) (by rw[AX,T];rfl);rw[hd] at b;have tk:=Nk sm (S z D);have O:=(hy z D).same a;obtain⟨vv,m,Q,mo,aj⟩:=S z D;have U:=O;rw[Q] at U;obtain⟨ms,mk,l1,l2,l3⟩:=Qn U;refine Or.inl ⟨_,.ref mk,Af.of l1,l2,g,ag,ah,ai,mk,us,Gs,Es,W.ss,m,rfl,Al.of (a _ _ eN),N3.sc.same a,Al.of l3,mo,aj,λtp X=>?_⟩;have et:Ih W.ss m=CC W.ss z.2:=(by rw[Q,Ma]);rw[et] at X;refine⟨_,Al.of X,rfl,?_⟩;refine⟨rfl,rfl,An (λh=>?_) (λh=>?_)⟩;rotate_left;have hn:(CC W.ss z.2).2.2.1≠("by" : Str):=λe=>h (AY (by rw[e]));refine Bp ?_;refine⟨_,_,_,_,_,rfl,a,?_⟩;rw[b,Qo (Ao λe=>hn e.1)];have Y:(CC W.ss z.2).2.2.1=("by" : Str):=V.str.inj (A3 h);rcases tk with⟨e,_⟩|⟨_,k0,k1⟩;rw[Y] at e;exact absurd e (by decide +kernel);obtain⟨k,E⟩:=Cz k0;have al:k<W.as.length:=(by lia);obtain⟨J,v,Z,hv,hc⟩:=(L.ans.same a).get al;have aa:Bi J (CC W.ss z.2).2.2.2=some v:=by rw[E];exact Bu hv
   rcases hc with⟨G,rfl⟩|⟨p,ta,G,rfl,aq⟩;refine Or.inl ⟨J,_,Z,aa,rfl,An (λζ=>?_) (λh=>absurd (AY rfl) h)⟩;refine⟨BK,λp hp=>?_⟩;have R:=AW (o:=.tup [.ref z.1,.int (CC W.ss z.2).2.2.2]) hp;refine q _ _ (a.trans R) ?_;rw[b,Ua (q:=(CC W.ss z.2).2.2.2) (Ar ⟨Y,by rw[E,Bw];exact G⟩)];exact⟨p,z.1,rfl,Aa,O.same R⟩;refine Or.inl ⟨J,_,Z,aa,rfl,An (λh=>absurd (A3 h) (by simp)) (λζ=>?_)⟩;refine⟨_,_,_,_,_,rfl,a,?_⟩;rw[b,Qo (Ao λe=>by have:=e.2;rw[E,Bw,G] at this;cases this)]
inductive FI (K:Aj) (vs:List V) (H:Hp) (Q:VK):Prop where
 |mk (nt A t l:Addr) (G:Addr->Prop) (W:Wd) (w:List Aq) (h0:vs=[.ref nt,.ref A,.ref l]) (h1:A1 K H nt A t W) (h2:Bz W) (h3:Cn G H l w) (h4:CH W.ss w) (h5:GO W w=none) (h6:Q (D0 (BM W w)) H):FI K vs H Q
def j0 (K:Aj):Sp:=λvs H Q ζ=>FI K vs H Q
abbrev Ve(P w K mg base):=Br P w K mg base "meaning" 2 ["net", "answers", "way"] (j0 K)
def j1(B:Bt mg)(ah:Pe P w K mg base)(F:Bm K "meaning" "meaning" RX f fd)(D:mg "meaning" = some (.ref f)):Ve P w K mg base:=by
 refine BE F D Mx (λI H Q E h=>?_) (λai A aj s H I Q E hr h=>?_);obtain⟨g,A,t,l,G,W,w,rfl,_⟩:=h;rfl;obtain⟨g,A,t,l,G,W,w,rfl,j,J,o,r,d,q⟩:=h;obtain⟨S,T,R,us,L,M,ts,qt,qs,N,O⟩:=j.net;have U:=Nk J r;obtain⟨vv,m,u,X,Y⟩:=r;have Z:Ih W.ss m=CC W.ss w:=(by rw[u,Ma]);rw[u] at o;obtain⟨ms,mk,l1,l2,l3⟩:=Qn o
 refine⟨_,(Am (D9 (AR ah (Ab (pv 0) (Ab (As At (pv 2) (M5 M6 Ah)) Ad))) (BU (n:=4) rfl (AD (Aw (i:=3) Mx.nd) (AD (Aw (i:=4) Mx.nd) (AD (Aw (i:=5) Mx.nd) (AD (Aw (i:=6) Mx.nd) BS))))))
  (Am (A5 (Bl BV (pv 5) Bb (A9 _)) (Au (AH (pv 6))) A4)
  (Am (D9 (As At (pv 1) (pv 6)) (BU (n:=2) rfl (AD (Aw (i:=5) Mx.nd) (AD (Aw (i:=6) Mx.nd) BS))))
  (Am (A5 (Bl BV (pv 5) Bb (A9 _)) (Au (AH (pv 6))) A4)
  (Au (AH GH)))))),?_⟩
 rfl';refine Or.inl ⟨_,.ref mk,Af.of l1,l2,g,S,T,R,mk,us,L,M,W.ss,m,rfl,Al.of N,O.sc,Al.of l3,X,Y,λtp z=>?_⟩;rw[Z] at z;refine⟨_,Al.of z,rfl,?_⟩;refine⟨rfl,rfl,An (λh=>?_) (λh=>?_)⟩;have ht:(CC W.ss w).2.2.1=("thing" : Str):=V.str.inj (A3 h)
 rw[show BM W w=some (CC W.ss w).2.2.2 from Ar ht] at q;exact q
 have x:(CC W.ss w).2.2.1≠("thing" : Str):=λe=>h (AY (by rw[e]));rcases U with⟨e,_⟩|⟨aa,k0,k1⟩;exact absurd e x;obtain⟨k,a⟩:=Cz k0;have ab:k<W.as.length:=(by lia);obtain⟨C,v,ae,hv,hc⟩:=j.ans.get ab;have af:Bi C (CC W.ss w).2.2.2=some v:=by rw[a];exact Bu hv
 rcases hc with⟨b,rfl⟩|⟨p,ta,b,rfl,ag⟩;unfold GO at d;rw[Ar ⟨aa,by rw[a,Bw];exact b⟩] at d;cases d
 have y:BM W w=if p.1=("thing" : Str) then some p.2 else none:=by
  unfold BM;rw[Ao x,a,Bw,b]
 refine Or.inl ⟨C,_,ae,af,?_⟩;refine⟨_,ag,rfl,?_⟩;refine⟨rfl,rfl,An (λh=>?_) (λh=>?_)⟩;have c:p.1=("thing" : Str):=V.str.inj (A3 h);rw[y,Ar c] at q;exact q;have c:p.1≠("thing" : Str):=λe=>h (AY (by rw[e]));rw[y,Ao c] at q;exact q
inductive Lb (K:Aj) (vs:List V) (H:Hp) (Q:VK):Prop where
 |mk (nt A t O r D D2 P:Addr) (F G:Addr->Prop) (W:Wd) (inn:Int) (ord:A') (ws ys:List (Addr×List Aq)) (os:List (Addr×Ow)) (at_:Int) (h0:vs=[.ref nt,.ref A,.ref t,.ref O,.ref r,.int at_]) (h1:A1 K H nt A t W) (h2:FO K F H t W.sts inn ord) (h3:Bz W) (h4:ord.length<=40) (h5:(∀x,(x,x)∉ord)) (h6:H r=some (.tup [.ref D,.ref D2,.ref P])) (h7:H D2=some (.lst (ws.map λz=>V.ref z.1))) (h8:(∀z∈ws,Cn G H z.1 z.2)) (h9:(∀z∈ws,Hu W.ss z.2)) (h10:ws.length<=100) (h11:(∀z∈ws,CH W.ss z.2)) (h12:H P=some (.lst (ys.map λz=>V.ref z.1))) (h13:(∀z∈ys,Cn G H z.1 z.2)) (h14:ys.map (·.2)=Dx W.ss ord (ws.map (·.2)) (ws.map (·.2))) (h15:H O=some (.lst (os.map λz=>V.ref z.1))) (h16:(∀z∈os,FA G H z.1 z.2)) (h17:(∀z∈os,Hu W.ss z.2.1)) (h18:∀(v:Addr)(a:C')(w:Option Wt)(H':Hp),Ac H H'->Cv W ord (ws.map (·.2)) (os.map (·.2)) at_=(a,w)->Bs G H' (.ref v) (.tup [Du a,KY w])->Q (.ref v) H'):Lb K vs H Q
def MT (K:Aj):Sp:=λvs H Q ζ=>Lb K vs H Q
abbrev IE(P w K mg base):=Br P w K mg base "met" 4 ["net", "answers", "table", "owed", "look", "at"] (MT K)
theorem j2(B:Bt mg)(aF:Vc P w K mg base)(aG:Vd P w K mg base)(aH:Ve P w K mg base)(F:Bm K "met" "met" MY f fd)(hm:mg "met" = some (.ref f)):IE P w K mg base:=by
 refine BE F hm Kb (λj H au av h=>?_) (λaK A aM s H j au av hr h=>?_);obtain⟨S,A,t,af,ai,aj,D2,P,F,G,W,al,ord,ws,m,os,at_,rfl,_⟩:=h;rfl
 . obtain⟨S,A,t,af,ai,aj,D2,P,F,G,W,al,ord,ws,m,os,at_,rfl,hC,TB,sm,a0,irr,er,a2,hw,a3,lw,a4,eP,hy,O,eO,ho,a5,q⟩:=h
   obtain⟨aw,ax,ay,us,Gs,Es,ts,qt,qs,eN,N3⟩:=hC.net
   have an:∀z∈m,CH W.ss z.2:=λz h=>by
    have d:z.2∈m.map (·.2):=AN.mpr ⟨z,h,rfl⟩;rw[O] at d;obtain⟨aa,r,h3⟩:=AN.mp (WY d);rw[<-h3];exact a4 aa r
   have ly:m.length<=100:=by
    have d:=BB List.length O;have r:=TX (ss:=W.ss) (ord:=ord) (all:=ws.map (·.2)) (l:=ws.map (·.2));rw[Ak] at d r;lia
   refine⟨_,(Am (D9 (pv 4) (BU (n:=3) rfl (AD (Aw (i:=6) Kb.nd) (AD (Aw (i:=7) Kb.nd) (AD (Aw (i:=8) Kb.nd) BS)))))
    (Am (AK (i:=9) Kb.nd (AR aF (Ab (pv 0) (Ab (pv 2) (Ab (pv 7) (Ab (pv 3) Ad))))))
    (Am (A5 (Gj (G4 (pv 9))) (Au (AK (i:=9) Kb.nd (AR aG (Ab (pv 0) (Ab (pv 1) (Ab (pv 8) Ad)))))) A4)
    (Am (A5 (Gj (NH (pv 9))) (Am (D9 (pv 9) (BU (n:=2) rfl (AD (Aw (i:=10) Kb.nd) (AD (Aw (i:=11) Kb.nd) BS))))
     (Au (AH (Bd (Ab GH (Ab (Bd (Ab (pv 5) (Ab (pv 10) (Ab (pv 11) Ad)))) Ad)))))) A4)
    (Am (AK (i:=12) Kb.nd (HQ rfl GR (Ct (pv 8)) (λζ ζ ζ ζ ζ=>(Aw (i:=0) GR.nd)) (λζ ζ ζ ζ ζ=>HP) (λζ ζ ζ ζ ζ=>(AR aH (Ab (pv 1) (Ab (pv 2) (Ab (pv 0) Ad)))))))
    (Am (A5 (Gk (BP (YO rfl) B.b_all (Ab (HQ rfl GS (Ct (pv 12)) (λζ ζ ζ ζ ζ=>(Aw (i:=0) GS.nd)) (λζ ζ ζ ζ ζ=>HP) (λζ ζ ζ ζ ζ=>(Hx (G4 (pv 0))))) Ad))) (Au (AH (Bd (Ab (Bd (Ab Bb (Ab (pv 5) Ad))) (Ab GH Ad))))) A4)
    (Am (A5 (Gk (BP (ZO rfl) B.b_any (Ab (HQ (te:=Hl Vr (Cs 0) (Hl (LA K) (Cs 1) (tC (.int ((0:Nat):Int))))) rfl GU (Ct (pv 12)) (λζ ζ ζ ζ ζ=>(Aw (i:=0) GU.nd)) (λζ ζ ζ ζ ζ=>HP) (λζ ζ ζ ζ ζ=>(IM M7 (pv 0) (As At (pv 1) Ah) (A9 _)))) Ad))) (Au (AH (Bd (Ab (Bd (Ab Bb (Ab (pv 5) Ad))) (Ab GH Ad))))) A4)
    (Au (AH (Bd (Ab (Bd (Ab Bb (Ab (As At (pv 12) Ah) Ad))) (Ab GH Ad)))))))))))),?_⟩
   rfl';refine⟨_,Al.of er,rfl,?_⟩;refine⟨S,aw,ax,ay,t,D2,af,us,Gs,Es,W.ss,F,G,W.sts,al,ord,ws,os,rfl,eN,N3.sc,TB,a0,irr,a2,hw,a3,lw,eO,ho,a5,λa1 aI T ab=>?_⟩;refine A0 ?_;cbv;refine IR (λσ' I=>∃v,σ'=[some (.ref S),some (.ref A),some (.ref t),some (.ref af),some (.ref ai),some (.int at_),some (.ref aj),some (.ref D2),some (.ref P),some v,none,none,none]/\Ac H I/\T8 G I v (GP W ord (ws.map (·.2)) (os.map (·.2)))) ?_ (λaJ hN=>?_);rotate_left
   cases e:FW W.ss ord (ws.map (·.2)) (os.map (·.2)) with
   |none =>
     rw[e] at ab;obtain rfl:a1=.non:=ab;refine⟨rfl,An (λζ=>?_) (λh=>absurd (AY rfl) h)⟩;refine⟨S,A,t,P,G,W,m,rfl,hC.same T,sm,T _ _ eP,λz h=>(hy z h).same T,an,λv2 ak u ao=>?_⟩;refine hN _ _ ⟨v2,rfl,T.trans u,?_⟩;unfold GP;rw[e];rw[O] at ao;exact ao
   |some o =>
     rw[e] at ab;obtain⟨p,l,rfl,d,r⟩:=ab;refine⟨rfl,An (λh=>absurd (A3 h) (by simp)) (λζ=>?_)⟩;refine hN _ _ ⟨_,rfl,T,?_⟩;unfold GP;rw[e];exact⟨p,l,rfl,d,r⟩
   rintro σ' ak ⟨v,rfl,u,g⟩
   cases e:GP W ord (ws.map (·.2)) (os.map (·.2)) with
   |some o =>
     rw[e] at g;obtain⟨p,l,rfl,d,r⟩:=g;refine⟨rfl,An (λζ=>?_) (λh=>absurd rfl h)⟩;refine⟨_,Al.of d,rfl,?_⟩;refine⟨JI,λJ D=>?_⟩;obtain⟨H3,a6,x,e3⟩:=new_at (o:=.tup [.int at_,.ref l,.int o.2]) D;rw[<-a6];refine⟨BK,λy E=>?_⟩;have a:=AW (o:=.tup [.non,.ref J]) E;exact q y _ _ _ ((u.trans x).trans a) (WW e) (.tup Aa (.cons .non (.cons (.tup (a _ _ e3) (.cons (.int _) (.cons ((r.same x).same a).own (.cons (.int _) .nil)))) .nil)))
   |none =>
     rw[e] at g;obtain rfl:v=.non:=g;refine⟨rfl,An (λh=>absurd h (by decide)) (λζ=>?_)⟩;have a7:=Ub (Z8 e)
     refine⟨⟨_,Af.of (u _ _ eP)⟩,Oj (xs:=m.map λz=>V.ref z.1) (λM i j I=>Ac ak I/\I M=some (.lst j)/\j=((m.map (·.2)).take i).map λw=>D0 (BM W w))
      (λM hM=>⟨AW hM,Aa,by rw[EF];rfl⟩) (λM i j I a8=>by obtain⟨s,_⟩:=a8;exact Af.of (s _ _ (u _ _ eP))) (λM i aa j H3 RR hM a9 g k=>?_) (λM j H3 hM g=>?_)⟩
     obtain⟨x,L,rfl⟩:=g;obtain⟨z,aq,rfl⟩:=getm a9;have mz:=Bc aq;have Q:=u.trans x;have mo:z.2∈Dx W.ss ord (ws.map (·.2)) (ws.map (·.2)):=by rw[<-O];exact AN.mpr ⟨z,mz,rfl⟩
     refine⟨S,A,t,z.1,G,W,z.2,rfl,hC.same Q,sm,(hy z mz).same Q,an z mz,a7 _ mo,?_⟩;refine k _ _ L ?_ ⟨λb o e=>?_,Aa,?_⟩;rw[Ak,EJ,Ak];exact BL (by lia);rw[AE (AU e hM)];exact x _ _ e;rw[D7,AX,aq,A6];rfl
     obtain⟨x,L,rfl⟩:=g;rw[Ak,<-Ak (f:=(·.2)),Cr,O] at L;generalize ag:Dx W.ss ord (ws.map (·.2)) (ws.map (·.2))=c at *
     have ls:c.length<=100:=by rw[<-O,Ak];exact ly
     have Q:=u.trans x;refine A0 ?_;cbv;refine⟨⟨_,Af.of L⟩,VX (xs:=c.map λw=>D0 (BM W w)) (λv=>V.bl (decide (v=V.non))) (by rw[Ak];exact CQ (BL (by lia))) (Af.of L) (λaz aa H4 D4 R4 aL a aA k4=>(k4 _ (Ac.refl _))) (λH4 D4 a aA e4=>?_)⟩;refine⟨D4,(c.map λw=>D0 (BM W w)).map λv=>decide (v=V.non),rfl,Af.of (by rw[e4,EE (f:=λv=>decide (v=V.non))];rfl),rfl,An (λh=>?_) (λh=>?_)⟩;refine⟨BK,λJ D=>?_⟩;obtain⟨H5,aB,C,e5⟩:=new_at (o:=.tup [.str "none",.int at_]) D;rw[<-aB];refine⟨BK,λy E=>?_⟩;have N:=AW (o:=.tup [.ref J,.non]) E;refine q y (some ("none",at_)) none _ (((Q.trans a).trans C).trans N) ?_ (.tup Aa (.cons (.tup (N _ _ e5) (.cons (.str _) (.cons (.int _) .nil))) (.cons .non .nil)));rw[Qk e,ag,OG (Gb.mp h)];have U:¬∀w∈c,BM W w=none:=λz=>h (Gb.mpr z)
     cases R:c with
     |nil=>rw[R] at U;exact absurd (λw hw=>by cases hw) U
     |cons X r0 =>
       have ae:=a _ _ L;have h0:Bi (c.map λw=>D0 (BM W w)) ((0:Nat):Int)=some (D0 (BM W X)):=Bu (by rw[R];rfl);refine⟨⟨_,Af.of ae⟩,VX (xs:=c.map λw=>D0 (BM W w)) (λv=>V.bl (!decide (v=D0 (BM W X)))) (by rw[Ak];exact CQ (BL (by lia))) (Af.of ae) (λaz aa H5 D5 R5 aC C aD k5=>?_) (λH5 D5 C aD e5=>?_)⟩;obtain⟨w,_,rfl⟩:=getm aC;exact Or.inl ⟨_,_,Af.of (C _ _ ae),h0,Z9 _ _,k5 _ (Ac.refl _)⟩;refine⟨D5,(c.map λw=>D0 (BM W w)).map λv=>!decide (v=D0 (BM W X)),rfl,Af.of (by rw[e5,EE (f:=λv=>!decide (v=D0 (BM W X)))];rfl),rfl,An (λh5=>?_) (λh5=>?_)⟩;refine⟨BK,λJ D=>?_⟩;obtain⟨H6,ah,N,e6⟩:=new_at (o:=.tup [.str "torn",.int at_]) D;rw[<-ah];refine⟨BK,λy E=>?_⟩;have Y:=AW (o:=.tup [.ref J,.non]) E;refine q y (some ("torn",at_)) none _ ((((Q.trans a).trans C).trans N).trans Y) ?_ (.tup Aa (.cons (.tup (Y _ _ e6) (.cons (.str _) (.cons (.int _) .nil))) (.cons .non .nil)));have Z:=Ii.mp h5;rw[R] at U Z;rw[Qk e,ag,R,Ql U Z];have Z:∀v∈c,BM W v=BM W X:=Classical.byContradiction λz=>h5 (Ii.mpr z);have ar:=U;rw[R] at ar Z;obtain⟨n,en,ea⟩:=Qm (at_:=at_) ar Z;have aE:=C _ _ ae;rw[en] at h0;refine Or.inl ⟨_,.int n,Af.of aE,h0,BK,λJ D=>?_⟩;obtain⟨H6,ah,N,e6⟩:=new_at (o:=.tup [.str "thing",.int n]) D;rw[<-ah];refine⟨BK,λy E=>?_⟩;have Y:=AW (o:=.tup [.ref J,.non]) E;refine q y (some ("thing",n)) none _ ((((Q.trans a).trans C).trans N).trans Y) ?_ (.tup Aa (.cons (.tup (Y _ _ e6) (.cons (.str _) (.cons (.int _) .nil))) (.cons .non .nil)));rw[Qk e,ag,R,ea]
def both{A G:Prop}(k:A->G)(a:A):G:=k a
def Pf:([]:List V).length+1+1+1+1<=sizeLine:=by decide
inductive FJ (K:Aj) (vs:List V) (H:Hp) (Q:VK):Prop where
 |mk (nt A t ask u:Addr) (F:Addr->Prop) (W:Wd) (inn:Int) (ord:A') (q:Qu) (h0:vs=[.ref nt,.ref A,.ref t,.ref ask]) (h1:A1 K H nt A t W) (h2:FO K F H t W.sts inn ord) (h3:Ck W) (h4:Bz W) (h5:ord.length<=40) (h6:(∀x,(x,x)∉ord)) (h7:(0<=inn/\inn<W.sts.length)) (h8:H ask=some (.tup [.int q.1,.int q.2.1,.ref u])) (h9:H u=some (.tup (q.2.2.map V.str))) (h10:(0<=q.1/\q.1<W.ss.length)) (h11:(0<=q.2.1/\q.2.1<W.sts.length)) (h12:1<=q.2.2.length) (h13:q.2.2.length<=8) (h14:∀(r L T:Addr)(av wv:V)(lv:List V)(a:C')(w:Option Wt)(ls:List Lk)(ts:List Int)(H':Hp),Ac H H'->H' r=some (.tup [av,wv,.ref L,.ref T])->H L=none->H' L=some (.lst lv)->H' T=some (.lst (ts.map V.int))->Bs (λx=>H x=none) H' av (Du a)->Bs (λx=>H x=none) H' wv (KY w)->AG (λx=>H x=none/\x≠L) H' lv (ls.map Mb)->LU W inn ord q.1 q.2.1 q.2.2 0 a w ls ts->Q (.ref r) H'):FJ K vs H Q
def j3 (K:Aj):Sp:=λvs H Q ζ=>FJ K vs H Q
abbrev Rc(P w K mg base):=Br P w K mg base "look_up" 7 ["net", "answers", "table", "asked"] (j3 K)
theorem j6(B:Bt mg)(b6:Nv P w K mg base)(bW:Vb P w K mg base)(bX:IE P w K mg base)(b7:Q3 P w K mg base)(b8:QX P w K mg base)(F:Bm K "look_up" "look_up" RY f fd)(hm:mg "look_up" = some (.ref f)):Rc P w K mg base:=by
 refine BE F hm GC (λvs H aN bv h=>?_) (λcj A cv s H vs aN bv hr h=>?_);obtain⟨X,A,t,aQ,az,F,W,Z,ord,q,rfl,_⟩:=h;rfl
 . obtain⟨X,A,t,aQ,az,F,W,Z,ord,q,rfl,hC,TB,ok,sm,aP,irr,bY,eq,eu,b9,bA,ck,cl,qk⟩:=h
   obtain⟨bw,Tn,bx,us,Gs,Es,cm,qt,qs,eN,N3⟩:=hC.net
   refine⟨_,(Am (D9 (pv 3) (BU (n:=3) rfl (AD (Aw (i:=4) GC.nd) (AD (Aw (i:=5) GC.nd) (AD (Aw (i:=6) GC.nd) BS)))))
    (Am (AK (i:=7) GC.nd (Cb Ad))
    (Am (AK (i:=8) GC.nd (Cb Ad))
    (Au (Ca B8 rfl (Qh TK rfl B.b_enumerate (Ab (pv 6) Ad)) (BU (n:=2) rfl (AD (Aw (i:=9) GC.nd) (AD (Aw (i:=10) GC.nd) BS))) (Am (AK (i:=11) GC.nd (AR b6 (Ab (pv 0) (Ab (pv 1) (Ab (pv 2) (Ab (pv 4) (Ab (pv 5) Ad)))))))
     (Am (Dp (Dj Dd EL EM EQ (pv 7) (Ab (AR bW (Ab (pv 0) (Ab (pv 2) (Ab (pv 11) (Ab (pv 10) Ad))))) Ad)))
     (Am (D9 (AR bX (Ab (pv 0) (Ab (pv 1) (Ab (pv 2) (Ab (AR b7 (Ab (pv 0) (Ab (pv 1) (Ab (pv 2) (Ab (pv 11) Ad))))) (Ab (As At (pv 7) (M5 M6 Ah)) (Ab (pv 9) Ad))))))) (BU (n:=2) rfl (AD (Aw (i:=12) GC.nd) (AD (Aw (i:=13) GC.nd) BS))))
     (Am (A5 (PW.pt (Pw (Gj (G4 (pv 12))) (Pw (Bl M7 (As At (pv 12) Ah) Bb (A9 _)) (Sg (Bl BV (pv 9) (AB HA (BP Ey B.b_len (Ab (pv 6) Ad)) Ah) (A9 _)))))) (Au (AH (Bd (Ab (pv 12) (Ab (pv 13) (Ab (pv 7) (Ab (pv 8) Ad))))))) A4)
     (Am (Dp (Dj Dd EL EM EQ (pv 8) (Ab (As At (pv 12) Ah) Ad)))
     (Am (D9 (AR b8 (Ab (pv 0) (Ab (pv 1) (Ab (As At (pv 12) Ah) Ad)))) (BU (n:=2) rfl (AD (Aw (i:=14) GC.nd) (AD (Aw (i:=15) GC.nd) BS))))
     (Am (A5 (Bl BV (pv 14) Bb (A9 _)) (Au (AH (Bd (Ab GH (Ab (Bd (Ab (pv 9) (Ab (Cb Ad) (Ab (pv 15) Ad)))) (Ab (pv 7) (Ab (pv 8) Ad))))))) A4)
     (Am (A5 (Bl BV (pv 14) Bb (A9 _)) (Au (AH (Bd (Ab (Bd (Ab Bb (Ab (AB Hz (pv 9) Ah) Ad))) (Ab GH (Ab (pv 7) (Ab (pv 8) Ad))))))) A4)
     (Am (AK (i:=4) GC.nd (pv 15))
     (Au (AK (i:=5) GC.nd (As At (pv 2) Ah))))))))))))))))),?_⟩
   rfl';refine⟨_,Al.of eq,rfl,?_⟩;refine⟨by decide,λL hL=>?_⟩;obtain⟨aO,bB,s1,a0⟩:=new_at (o:=.lst []) hL;rw[<-bB];refine A0 ?_;cbv;refine⟨by decide,λT hT=>?_⟩;have s2:=AW (o:=.lst []) hT;have aR:(upd aO T (.lst [])) T=some (.lst []):=Aa;have aS:=s2 _ _ a0;generalize upd aO T (.lst [])=ch at s2 aR aS ⊢;have aT:L≠T:=λz=>by rw[z,hT] at a0;cases a0
   have bC:H T=none:=s1.free hT;refine A0 ?_;cbv
   refine⟨az,rfl,⟨_,Al.of ((s1.trans s2) _ _ eu)⟩,Qj TK (xs:=q.2.2.map V.str) (λi σ H'=>∃(C D:Int)(u9 aU aV aW aX aY aZ:Option V)(d:List V)(ls:List Lk)(j:List Int),σ=[some (.ref X),some (.ref A),some (.ref t),some (.ref aQ),some (.int C),some (.int D),some (.ref az),some (.ref L),some (.ref T),u9,aU,aV,aW,aX,aY,aZ]/\Ac H H'/\H' L=some (.lst d)/\H' T=some (.lst (j.map V.int))/\AG (λx=>H x=none/\x≠L/\x≠T) H' d (ls.map Mb)/\d.length=i/\j.length=i/\i<q.2.2.length/\(0<=C/\C<W.ss.length)/\(0<=D/\D<W.sts.length)/\∀a w aj ak,LU W Z ord C D (q.2.2.drop i) i a w aj ak->LU W Z ord q.1 q.2.1 q.2.2 0 a w (ls++aj) (j++ak))
    ⟨_,_,none,none,none,none,none,none,none,[],[],[],rfl,s1.trans s2,aS,aR,.nil,rfl,rfl,by lia,b9,bA,λa w aj ak z=>z⟩ (λi σ H' bD=>by obtain⟨_,_,_,_,_,_,_,_,_,_,_,_,_,s,_⟩:=bD;exact Al.of (s _ _ eu)) ?_ ?_⟩
   rotate_left;refine λσ H' a1=>AL λNz Q=>?_;obtain⟨_,_,_,_,_,_,_,_,_,_,_,_,_,_,_,_,_,_,_,hi,_⟩:=a1;refine Q ?_;clear Q;rw[Ak] at hi;exact absurd hi (GY _);refine λi xv Te σ H3 hx bE a1=>AL λNz Q=>?_;obtain⟨C,D,u9,aU,aV,aW,aX,aY,aZ,d,ls,j,rfl,s3,bF,bG,bH,bI,bJ,hi,R,S,ax⟩:=a1;refine Q ?_;clear Q;refine Hb ?_;intro Nx Cy;obtain⟨x,bK,rfl⟩:=getm hx;have af:=KZ bK;obtain⟨H4,bL,s4,bM⟩:=new_at (o:=.tup [.int i,.str x]) bE;rw[<-bL];have al:=s3.trans s4;have an:=s4 _ _ bF;have a2:=s4 _ _ bG;refine⟨_,Al.of bM,rfl,?_⟩;refine⟨X,A,t,W,C,D,rfl,hC.same al,ok,R,S,λai e H5 hD s5 eD hz E=>?_⟩;refine A0 ?_;cbv;have aa:=al.trans s5;have U:=s5 _ _ an;have ag:=s5 _ _ a2;have Fv:∀{Hn:Hp}{x:Addr},Ac H Hn->Hn L=some (.lst d)->Hn T=some (.lst (j.map V.int))->Hn x=none->H x=none/\x≠L/\x≠T:=λ{Hn x}s Y e2 h=>⟨s.free h,λz=>(by rw[z,Y] at h;cases h),λz=>(by rw[z,e2] at h;cases h)⟩;refine⟨Or.inl ⟨rfl,_,Af.of U⟩,X,A,t,ai,x,F,_,W,Z,ord,C,D,e,rfl,hC.same aa,TB.same aa,ok,sm,aP,irr,R,S,eD,hz,E,λr D2 P ws l H6 s6 er a3 ba hw hF hP eP c bb=>?_⟩;have bN:=aa.trans s6;have bc:=s6 _ _ U;have bO:=s6 _ _ ag;have u:Keeps (·=L) H6 (upd H6 L (.lst (d++[.ref r]))):=Keeps.one bc;have ao:Ac H (upd H6 L (.lst (d++[.ref r]))):=λb o ae=>by rw[AE (AU ae hL)];exact bN _ _ ae
   have a4:(upd H6 L (.lst (d++[.ref r]))) L=some (.lst (d++[.ref r])):=Aa;refine⟨_,bc,BL (by lia),?_⟩;generalize upd H6 L (.lst (d++[.ref r]))=N at u ao a4 ⊢;have nD:ai≠L:=λz=>by rw[z,an] at hD;cases hD
   have bP:D2≠L:=λz=>by rw[z,U] at a3;cases a3
   have nP:P≠L:=λz=>by rw[z,U] at hP;cases hP
   have bd:=u.at_ _ _ bO (Ne.symm aT);have a5:=u.tup er;have a6:=u.at_ _ _ (s6 _ _ eD) nD;have aI:=u.at_ _ _ ba bP;have a7:=u.at_ _ _ eP nP;have a8:∀z∈e,Dl (λx=>H x=none/\x≠L/\x≠T) N z.1 z.2:=λz h=>(((hz z h).mono' λy o ζ c=>Fv al an a2 c.1).same s6).keeps u λy c=>c.2.1;have a9:∀z∈ws,Cn (λx=>H x=none/\x≠L/\x≠T) N z.1 z.2:=λz h=>((hw z h).mono' λy o ζ c=>Fv aa U ag c).keeps u λy c=>c.2.1;have aA:∀z∈l,Cn (λx=>H x=none/\x≠L/\x≠T) N z.1 z.2:=λz h=>((c z h).mono' λy o ζ c=>Fv aa U ag c).keeps u λy c=>c.2.1;have bq:AG (λx=>H x=none/\x≠L/\x≠T) N d (ls.map Mb):=(((bH.same s4).same s5).same s6).keeps u λy c=>c.2.1;have cn:=E;have be:=E.few;rw[Ak] at be;refine⟨X,A,t,ai,_,W,e,rfl,hC.same ao,ok,a6,a8,λz bQ=>((E.mem _).mp (AN.mpr ⟨z,bQ,rfl⟩)).ok ok R S,be,sm.owd C D _ R S E,λbz os H8 hO G eO ho bf=>?_⟩;have aB:=ao.trans G;have bg:=G _ _ a4;have bR:=G _ _ bd;have bh:∀z∈ws,z.2∈Fc W x (e.map (·.2)):=λz h=>hF.perm.mem_iff.mp (AN.mpr ⟨z,h,rfl⟩)
   have lw:ws.length<=100:=by
    have h1:=hF.perm.length_eq;have h2:=sm.fnd x C D _ R S E;rw[Ak] at h1;lia
   have bi:∀z∈ws,CH W.ss z.2:=λz h=>T6 ok R S E (bh z h);have bZ:∀{x:Addr},N x=none->H x=none/\x≠L/\x≠T:=λ{x}h=>⟨ao.free h,λz=>(by rw[z,a4] at h;cases h),λz=>(by rw[z,bd] at h;cases h)⟩;refine Or.inl ⟨_,.ref r,Af.of bg,Tz _ _,X,A,t,bz,r,ai,D2,P,F,(λx=>H x=none/\x≠L/\x≠T),W,Z,ord,ws,l,os,(i:Int),rfl,hC.same aB,TB.same aB,sm,aP,irr,G _ _ a5,G _ _ aI,λz h=>(a9 z h).same G,λz h=>P6 ok R S E (bh z h),lw,bi,G _ _ a7,λz h=>(aA z h).same G,bb,eO,λz h=>(ho z h).mono' λy o ζ c=>bZ c.1,λz h=>WD ok R S E (bf.perm.mem_iff.mp (AN.mpr ⟨z,h,rfl⟩)),λm a w I s9 br hm=>?_⟩;have aC:=aB.trans s9;have bj:=s9 _ _ bg;have aq:=s9 _ _ bR;obtain⟨av,wv,b0,ha,bS⟩:=hm.two;have LK:EW W ord C D x (e.map (·.2),ws.map (·.2),l.map (·.2)) (os.map (·.2)):=⟨E,hF,bb,bf⟩
   have bk:Bs (λx=>H x=none/\x≠L/\x≠T) I (.ref r) (Mb (e.map (·.2),ws.map (·.2),l.map (·.2))):=by
    have b1:=Fv al an a2 hD;have b2:=Fv aa U ag a3;have b3:=Fv aa U ag hP
    have b4:AG (λx=>H x=none/\x≠L/\x≠T) N (e.map λz=>V.ref z.1) ((e.map (·.2)).map Ec.D):=by
     rw[EE];exact AG.of_all λz h=>(a8 z h).own
    have b5:AG (λx=>H x=none/\x≠L/\x≠T) N (ws.map λz=>V.ref z.1) ((ws.map (·.2)).map Dc.D):=by
     rw[EE];exact AG.of_all λz h=>(a9 z h).own
    have f3:AG (λx=>H x=none/\x≠L/\x≠T) N (l.map λz=>V.ref z.1) ((l.map (·.2)).map Dc.D):=by
     rw[EE];exact AG.of_all λz h=>(aA z h).own
    exact((Bs.tup a5 (.cons (.lst a6 b1 b4) (.cons (.lst aI b2 b5) (.cons (.lst a7 b3 f3) .nil)))).same G).same s9
   have bs:AG (λx=>H x=none/\x≠L/\x≠T) I (d++[.ref r]) ((ls++[(e.map (·.2),ws.map (·.2),l.map (·.2))]).map Mb):=by
    rw[A6];exact((bq.same G).same s9).snoc bk
   clear a9 aA a8 bq bk hw c hz ho eD ba eP er a6 aI a7 a5 u;refine⟨_,Al.of b0,rfl,?_⟩
   have ar:((∀k,a≠some (("thing" : Str),k))\/q.2.2.drop (i+1)=[])->∀O,I O=none->aN (.ref O) (upd I O (.tup [av,wv,.ref L,.ref T])):=λcd O bT=>by
    have g:=AW (o:=.tup [av,wv,.ref L,.ref T]) bT;refine qk O L T av wv (d++[.ref r]) a w _ j _ (aC.trans g) Aa hL (g _ _ bj) (g _ _ aq) ((ha.mono λζ ζ ζ h=>h.1).same g) ((bS.mono λζ ζ ζ h=>h.1).same g) ((bs.mono λζ ζ ζ h=>⟨h.1,h.2.1⟩).same g) ?_;have:=ax a w [(e.map (·.2),ws.map (·.2),l.map (·.2))] [] (by rw[af];exact .stop LK br cd);rw[EK] at this;exact this
   cases a with
   |none =>
     obtain rfl:=ha.ansN;exact⟨rfl,An (λζ=>Cu ⟨Pf,ar (.inl λk z=>(by cases z))⟩) (λh=>absurd (AY rfl) h)⟩
   |some p =>
     obtain⟨pa,rfl,aD⟩:=ha.ansS;refine⟨rfl,An (λh=>absurd (A3 h) (by simp)) (λζ=>?_)⟩;refine Or.inr (Or.inl ⟨_,.str p.1,Al.of aD,rfl,rfl,rfl,An (λh=>?_) (λh=>?_)⟩);refine Cu ⟨Pf,ar (.inl λk z=>?_)⟩;have:p.1=("thing" : Str):=BB Prod.fst (BJ z);rw[this] at h;simp at h
     have hp:p.1=("thing" : Str):=Classical.byContradiction λz=>h (by
      have:decide (V.str p.1=V.str "thing")=false:=D8 λy=>z (V.str.inj y)
      rw[this];rfl)
     have ay:Cv W ord (ws.map (·.2)) (os.map (·.2)) i=(some (("thing" : Str),p.2),w):=(by rw[br,<-hp]);refine⟨_,Or.inr ⟨_,Al.of (aC _ _ eu),rfl⟩,rfl,rfl,An (λh2=>?_) (λh2=>?_)⟩;have e2:(i:Int)=((q.2.2.map V.str).length:Nat)-1:=V.int.inj (A3 h2);rw[Ak] at e2;exact⟨Pf,ar (.inr (List.drop_eq_nil_of_le (by lia)))⟩
     have bl:i+1<q.2.2.length:=by
      refine Classical.byContradiction λz=>h2 (AY ?_);rw[Ak];congr 1;lia
     clear ar;have rng:=OH ok sm (λv hv=>by obtain⟨z,h1,rfl⟩:=AN.mp hv;exact bi z h1) ay;obtain⟨n,hn⟩:=Cz rng.1;have bm:n<W.gs.length:=(by lia);have hg:=AA bm;have au:Keeps (·=T) I (upd I T (.lst (j.map V.int++[.int p.2]))):=Keeps.one aq;have g:Ac H (upd I T (.lst (j.map V.int++[.int p.2]))):=λb o ae=>by rw[AE (AU ae bC)];exact aC _ _ ae
     have bt:(upd I T (.lst (j.map V.int++[.int p.2]))) T=some (.lst ((j++[p.2]).map V.int)):=by rw[Aa,A6];rfl
     refine⟨Or.inl ⟨rfl,_,Af.of aq⟩,Or.inr (Or.inl ⟨_,.int p.2,Al.of aD,rfl,_,aq,by rw[Ak];exact BL (by lia),?_⟩)⟩;generalize upd I T (.lst (j.map V.int++[.int p.2]))=cp at au g bt ⊢;have ca:=au.at_ _ _ bj aT;have cf:=au.tup aD;have cg:=bs.keeps au λy c=>c.2.2;have cb:=hC.same g;refine Or.inr (Or.inl ⟨_,.int p.2,Al.of cf,rfl,X,bw,Tn,bx,A,W.gs,W.as,p.2,n,W.gs[n],rfl,hn,hg,Al.of (g _ _ eN),⟨_,Af.of (g _ _ N3.et),(N3.tg.same g).dts⟩,cb.ans,ok.net,λb cq hb aw eb=>?_⟩);have ah:=g.trans aw;have aJ:=aw _ _ ca;have aK:=aw _ _ bt;have aM:=cg.same aw
     have ei:B5 W p.2=Ei W.gs W.as W.gs[n]:=by
      show(match W.gs[p.2.toNat]? with|some p=>Ei W.gs W.as p|none=>("no",0))=_
      rw[hn,Bw,hg]
     obtain⟨y2,O,bu⟩:∃y2 O,q.2.2.drop (i+1)=y2::O:=⟨_,_,Kz bl⟩;rw[bu] at af;refine⟨_,Al.of eb,rfl,?_⟩;generalize bn:Ei W.gs W.as W.gs[n]=J at *;refine⟨rfl,rfl,An (λh3=>?_) (λh3=>?_)⟩
     have e3:J.1=("open" : Str):=V.str.inj (A3 h3);refine⟨by decide,λe0 bo=>?_⟩;obtain⟨bU,aL,aE,bV⟩:=new_at (o:=.lst []) bo;rw[<-aL];refine⟨JI,λY aF=>?_⟩;obtain⟨cs,cc,bp,aG⟩:=new_at (o:=.tup [.int i,.ref e0,.int J.2]) aF;rw[<-cc];refine⟨Pf,λr3 aH=>?_⟩;have ab:=AW (o:=.tup [.non,.ref Y,.ref L,.ref T]) aH;have M:=(aE.trans bp).trans ab;refine qk r3 L T .non (.ref Y) (d++[.ref r]) none (some ((i:Int),[],J.2)) _ _ _ (ah.trans M) Aa hL (M _ _ aJ) (M _ _ aK) .non (.tup (ab _ _ aG) (.cons (.int _) (.cons (.lst ((bp.trans ab) _ _ bV) (ah.free bo) .nil) (.cons (.int _) .nil)))) ((aM.mono λζ ζ ζ h=>⟨h.1,h.2.1⟩).same M) ?_;exact ax none (some ((i:Int),[],J.2)) [(e.map (·.2),ws.map (·.2),l.map (·.2))] [p.2] (by rw[af];exact .opn LK ay (ei.trans (Prod.ext e3 rfl)));have e3:J.1≠("open" : Str):=λz=>h3 (AY (by rw[z]));refine⟨rfl,rfl,An (λh4=>?_) (λh4=>?_)⟩;have e4:J.1=("no" : Str):=V.str.inj (A3 h4);refine⟨BK,λY aF=>?_⟩;obtain⟨bU,aL,aE,aG⟩:=new_at (o:=.tup [.str "none",.int ((i:Int)+1)]) aF;rw[<-aL];refine⟨Pf,λr3 aH=>?_⟩;have ab:=AW (o:=.tup [.ref Y,.non,.ref L,.ref T]) aH;have M:=aE.trans ab;refine qk r3 L T (.ref Y) .non (d++[.ref r]) (some (("none" : Str),(i:Int)+1)) none _ _ _ (ah.trans M) Aa hL (M _ _ aJ) (M _ _ aK) (.tup (ab _ _ aG) (.cons (.str _) (.cons (.int _) .nil))) .non ((aM.mono λζ ζ ζ h=>⟨h.1,h.2.1⟩).same M) ?_;exact ax (some (("none" : Str),(i:Int)+1)) none [(e.map (·.2),ws.map (·.2),l.map (·.2))] [p.2] (by rw[af];exact .no LK ay (ei.trans (Prod.ext e4 rfl)));have e4:J.1≠("no" : Str):=λz=>h4 (AY (by rw[z]))
     have e5:J.1=("to" : Str):=by
      have:=W1 W.gs W.as W.gs[n];rw[bn] at this;rcases this with h|h|h;exact h;exact absurd h e3;exact absurd h e4
     have rg:=P2 ok (DX bm) bn e5;refine AL λNz Q=>?_;obtain⟨ta,o,ct,cu,et,_⟩:=TB.ex;refine Q ?_;clear Q;refine A0 ?_;cbv;refine Or.inr (Or.inl ⟨_,.int Z,Al.of (ah _ _ et),rfl,?_⟩);refine⟨J.2,Z,_,_,_,_,_,_,_,d++[.ref r],ls++[(e.map (·.2),ws.map (·.2),l.map (·.2))],j++[p.2],rfl,ah,aJ,aK,aM,by simp[bI],by simp[bJ],bl,rg,bY,λa w aj ak z=>?_⟩;rw[FX,FX];refine ax a w _ _ ?_;rw[af];rw[bu] at z;exact .go LK ay (ei.trans (Prod.ext e5 rfl)) z
def X6{f:β->α->β}{n:β}{l:List α}{x:α}(h:l[i]?=some x):(l.take (i+1)).foldl f n=f ((l.take i).foldl f n) x:=by
 rw[List.take_add_one,h,KA];rfl
inductive Et (K:Aj) (vs:List V) (H:Hp) (Q:VK):Prop where
 |mk (L:Addr) (F:Addr->Prop) (lv:List V) (ls:List Lk) (h0:vs=[.ref L]) (h1:H L=some (.lst lv)) (h2:AG F H lv (ls.map Mb)) (h3:(∀l∈ls,∀b∈l.1,0<=b.2.1/\b.2.1<100)) (h4:Q (.int (ls.foldl K1 0)) H):Et K vs H Q
def j7 (K:Aj):Sp:=λvs H Q ζ=>Et K vs H Q
abbrev Vf(P w K mg base):=Br P w K mg base "scopes_of" 1 ["looks"] (j7 K)
def j8(B:Bt mg)(F:Bm K "scopes_of" "scopes_of" RZ f fd)(S:mg "scopes_of" = some (.ref f)):Vf P w K mg base:=by
 refine BE F S Kc (λT H Q E h=>?_) (λan aj ao s H T Q E hr h=>?_);obtain⟨L,F,m,ls,rfl,_⟩:=h;rfl
 . obtain⟨L,F,m,ls,rfl,v,I,aa,q⟩:=h
   have ab:m.length=ls.length:=by rw[I.length,Ak]
   refine⟨_,(Am (AK (i:=1) Kc.nd Ah)
    (Am (Ca B8 rfl (Ct (pv 0)) (BU (n:=3) rfl (AD (Aw (i:=2) Kc.nd) (AD (Aw (i:=3) Kc.nd) (AD (Aw (i:=4) Kc.nd) BS)))) (Au (Ca B8 rfl (Ct (pv 2)) (BU (n:=3) rfl (AD (Aw (i:=5) Kc.nd) (AD (Aw (i:=6) Kc.nd) (AD (Aw (i:=7) Kc.nd) BS)))) (Au (AK (i:=1) Kc.nd (AB NW (pv 1) (AB Sx Ah (pv 6))))))))
    (Au (AH (pv 1))))),?_⟩
   rfl';refine⟨⟨_,Af.of v⟩,Eg (xs:=m) (λi σ k=>∃o p r c d g,σ=[some (.ref L),some (.int ((ls.take i).foldl K1 0)),o,p,r,c,d,g]/\k=H) ⟨none,none,none,none,none,none,rfl,rfl⟩ (λi σ k ζ t=>by obtain⟨_,_,_,_,_,_,_,e⟩:=t;exact by rw[e];exact Af.of v) ?_ ?_⟩;rotate_left;refine λσ Y u=>AL λy a=>?_;obtain⟨o,p,r,c,d,g,rfl,rfl⟩:=u;refine a ?_;clear a;rw[ab,Cr];exact q;refine λi x σ Y U u=>AL λy a=>?_;obtain⟨o,p,r,c,d,g,rfl,rfl⟩:=u;refine a ?_;clear a;obtain⟨l,J,ae⟩:=Nm I U;have af:=aa l (Bc J);refine AL λy a=>?_;obtain⟨ak,x1,z,A,rfl,V,W,h2,_⟩:=OM ae;refine a ?_;clear a;obtain⟨P,C,rfl,D,G⟩:=Qx W;have ag:C.length=l.1.length:=(by rw[G.length,Ak]);refine⟨_,Al.of V,rfl,?_⟩;refine⟨⟨_,Af.of D⟩,Eg (xs:=C) (λj σ k=>∃c d g,σ=[some (.ref L),some (.int ((l.1.take j).foldl OQ ((ls.take i).foldl K1 0))),some (.ref P),some z,some A,c,d,g]/\k=Y) ⟨c,d,g,rfl,rfl⟩ (λi σ k ζ t=>by obtain⟨_,_,_,_,e⟩:=t;exact by rw[e];exact Af.of D) ?_ ?_⟩;rintro j al σ X Z ⟨M,N,O,rfl,rfl⟩;obtain⟨b,R,ah⟩:=Nm G Z;obtain⟨tb,x0,rfl,ai⟩:=Ip ah;have hz:=af b (Bc R);refine⟨_,Al.of ai,rfl,⟨hz.1,by lia,by decide⟩,?_⟩;refine⟨some x0,some (.int b.2.1),some (.int b.2.2),?_,rfl⟩;rw[X6 R];rfl;rintro σ X ⟨M,N,O,rfl,rfl⟩;refine⟨some (.ref P),some z,some A,M,N,O,?_,rfl⟩;rw[ag,Cr,X6 J];rfl
inductive Gg (K:Aj) (vs:List V) (H:Hp) (Q:VK):Prop where
 |mk (nt A t:Addr) (F:Addr->Prop) (W:Wd) (qs:List Qu) (inn:Int) (ord:A') (n:Int) (k:Nat) (q:Qu) (h0:vs=[.ref nt,.ref A,.ref t,.int n]) (h1:n=k) (h2:qs[k]?=some q) (h3:LC K F H nt A t W qs inn ord) (h4:OI W qs inn ord) (h5:∀(a:C')(w:Option Wt)(ls:List Lk)(ts:List Int)(H':Hp),Ac H H'->LU W inn ord q.1 q.2.1 q.2.2 0 a w ls ts->Q (.int (ls.foldl K1 0)) H'):Gg K vs H Q
def j9 (K:Aj):Sp:=λvs H Q ζ=>Gg K vs H Q
abbrev Re(P w K mg base):=Br P w K mg base "walked" 8 ["net", "answers", "table", "question"] (j9 K)
def kA(B:Bt mg)(ag:Rc P w K mg base)(ah:Vf P w K mg base)(F:Bm K "walked" "walked" R1 f fd)(z:mg "walked" = some (.ref f)):Re P w K mg base:=by
 refine BE F z OU (λC H Q E h=>?_) (λal A an s H C Q E hr h=>?_);obtain⟨j,A,t,F,W,m,v,ord,n,k,q,rfl,_⟩:=h;rfl;obtain⟨j,A,t,F,W,m,v,ord,n,k,q,rfl,rfl,d,e,ok,D⟩:=h;obtain⟨ai,T,R,us,Gs,Es,o,c,G,g⟩:=e.net;have Z:k<m.length:=(Bh.mp d).1;have aa:k<c.length:=by rw[g.tq.len];exact Z
 have x:=AA aa;obtain⟨u,eq,I⟩:=g.tq.at_ k _ q x d;have ab:Bi (c.map V.ref) (k:Int)=some (.ref c[k]):=Bu (by rw[AX,x];rfl);obtain⟨p,r,J,M⟩:=ok.q q (Bc d)
 refine⟨_,(Am (D9 (AR ag (Ab (pv 0) (Ab (pv 1) (Ab (pv 2) (Ab (As At (As At (pv 0) Ah) (pv 3)) Ad))))) (BU (n:=4) rfl (AD (Aw (i:=4) OU.nd) (AD (Aw (i:=5) OU.nd) (AD (Aw (i:=6) OU.nd) (AD (Aw (i:=7) OU.nd) BS))))))
  (Au (AH (AR ah (Ab (pv 6) Ad))))),?_⟩
 rfl';refine Or.inr (Or.inl ⟨_,.ref R,Al.of G,rfl,Or.inl ⟨_,.ref c[k],Af.of g.er,ab,j,A,t,c[k],u,F,W,v,ord,q,rfl,e.caseH,e.tab,ok.ok,ok.sm,ok.ol,ok.irr,ok.inn,eq,I,p,r,J,M,λaj L T av wv N a w ls o ak O S hL U eT ha hw ae y=>?_⟩⟩);refine⟨_,Al.of S,rfl,?_⟩;obtain⟨af,_⟩:=OP ok.ok ok.sm ok.inn y p r;refine⟨L,_,N,ls,rfl,U,ae,λl X b Y=>?_,D a w ls o _ O y⟩;have:=((af l X).bo b Y).rng b.2.1 (by unfold AM;simp);have:=ok.ok.s5;lia
inductive FK (K:Aj) (vs:List V) (H:Hp) (Q:VK):Prop where
 |mk (nt A t:Addr) (W:Wd) (n:Int) (h0:vs=[.ref nt,.int n]) (h1:A1 K H nt A t W) (h2:(0<=n/\n<W.gs.length)) (h3:∀(D:Addr)(H':Hp),H D=none->Ac H H'->H' D=some (.lst ((Ej W.gs n).map V.int))->Q (.ref D) H'):FK K vs H Q
def kB (K:Aj):Sp:=λvs H Q ζ=>FK K vs H Q
abbrev Rf(P w K mg base):=Br P w K mg base "of_sort" 1 ["net", "thing"] (kB K)
def kC(B:Bt mg)(F:Bm K "of_sort" "of_sort" R3 f fd)(b:mg "of_sort" = some (.ref f)):Rf P w K mg base:=by
 refine BE F b UB (λr H Q E h=>?_) (λM A N s H r Q E C h=>?_);obtain⟨u,A,t,W,n,rfl,_⟩:=h;rfl;obtain⟨u,A,t,W,n,rfl,v,x,q⟩:=h;obtain⟨S,T,R,us,G,I,c,J,L,y,d⟩:=v.net;obtain⟨m,b⟩:=Cz x.1;have j:m<W.gs.length:=(by lia);have o:m<c.length:=by rw[d.tg.len];exact j
 have k:W.gs[n.toNat]?=some W.gs[m]:=by rw[b,Bw];exact AA j
 have g:=d.tg.at_ m _ _ (AA o) (AA j);have l:Bi (c.map V.ref) n=some (.ref c[m]):=by rw[b];exact Bu (by rw[AX,AA o];rfl)
 generalize W.gs[m]=p at k g;generalize c[m]=z at l g
 have eq:Ej W.gs n=if p.1=("sort" : Str) then[p.2] else[]:=by unfold Ej;rw[k]
 refine⟨_,(Am (D9 (As At (As At (pv 0) Ah) (pv 1)) (BU (n:=2) rfl (AD (Aw (i:=2) UB.nd) (AD (Aw (i:=3) UB.nd) BS))))
  (Am (A5 (Bl BV (pv 2) Bb (A9 _)) (Au (AH (Cb (Ab (pv 3) Ad)))) A4)
  (Au (AH (Cb Ad))))),?_⟩
 rfl';refine Or.inr (Or.inl ⟨_,.ref T,Al.of y,rfl,Or.inl ⟨_,.ref z,Af.of d.et,l,?_⟩⟩);refine⟨_,Al.of g,rfl,?_⟩;refine⟨rfl,rfl,An (λh=>?_) (λh=>?_)⟩;have e:p.1=("sort" : Str):=V.str.inj (A3 h);refine⟨IS,λD a=>q D _ a (AW a) ?_⟩;rw[Aa,eq,Ar e];rfl;have e:p.1≠("sort" : Str):=λe=>h (AY (by rw[e]));refine⟨by decide,λD a=>q D _ a (AW a) ?_⟩;rw[Aa,eq,Ao e];rfl
inductive Eu (K:Aj) (vs:List V) (H:Hp) (Q:VK):Prop where
 |mk (nt A t:Addr) (W:Wd) (v:V) (o:C') (h0:vs=[.ref nt,v]) (h1:A1 K H nt A t W) (h2:((o=none/\v=.non)\/∃p ta,o=some p/\v=.ref ta/\Al K H ta [.str p.1,.int p.2])) (h3:(∀p,o=some p->p.1=("thing" : Str)->0<=p.2/\p.2<W.gs.length)) (h4:∀(D:Addr)(H':Hp),H D=none->Ac H H'->H' D=some (.lst ((qA W.gs o).map V.int))->Q (.ref D) H'):Eu K vs H Q
def kE (K:Aj):Sp:=λvs H Q ζ=>Eu K vs H Q
abbrev Vg(P w K mg base):=Br P w K mg base "of_answer" 2 ["net", "answer"] (kE K)
def kF(B:Bt mg)(r:Rf P w K mg base)(F:Bm K "of_answer" "of_answer" R6 f fd)(i:mg "of_answer" = some (.ref f)):Vg P w K mg base:=by
 refine BE F i e9 (λj H Q E h=>?_) (λC A G s H j Q E u h=>?_);obtain⟨b,A,t,W,v,o,rfl,_⟩:=h;rfl;obtain⟨b,A,t,W,v,o,rfl,k,l,n,q⟩:=h;have d:qA W.gs o=[]->∀D,H D=none->Q (.ref D) (upd H D (.lst [])):=λe D a=>q D _ a (AW a) (by rw[Aa,e];rfl)
 refine⟨_,(Am (A5 (PW.pt (Pw (Gj (G4 (pv 1))) (Sg (Bl M7 (As At (pv 1) Ah) Bb (A9 _))))) (Au (AH (Cb Ad))) A4)
  (Au (AH (AR r (Ab (pv 0) (Ab (As At (pv 1) Ah) Ad)))))),?_⟩
 rfl';rcases l with⟨rfl,rfl⟩|⟨p,x,rfl,rfl,g⟩;exact⟨rfl,An (λζ=>Cu ⟨by decide,d rfl⟩) (λh=>absurd (AY rfl) h)⟩;refine⟨rfl,An (λh=>absurd (A3 h) (by simp)) (λζ=>?_)⟩;refine Or.inr (Or.inl ⟨_,.str p.1,g,rfl,rfl,rfl,An (λh=>?_) (λh=>?_)⟩);refine⟨by decide,d ?_⟩;refine Ao λe=>?_;rw[e] at h;simp at h
 have c:p.1=("thing" : Str):=Classical.byContradiction λz=>h (by
  have:decide (V.str p.1=V.str "thing")=false:=D8 λy=>z (V.str.inj y)
  rw[this];rfl)
 refine Or.inr (Or.inl ⟨_,.int p.2,g,rfl,b,A,t,W,p.2,rfl,k,n p rfl c,λD m a s e=>q D m a s ?_⟩);rw[e]
 show some (HO.lst ((Ej W.gs p.2).map V.int))=some (HO.lst ((if p.1=("thing" : Str) then Ej W.gs p.2 else[]).map V.int))
 rw[Ar c]
def kG{s:Bg}(h:W.ss[k]?=some s):By W (k:Int)=s.1:=by unfold By;rw[Bw,h]
def Kw(h:W.sts[k]?=some s):Dv W (k:Int)=s.1:=by unfold Dv;rw[Bw,h]
inductive E7 (K:Aj) (vs:List V) (H:Hp) (Q:VK):Prop where
 |mk (nt A t:Addr) (W:Wd) (v:V) (F:Addr->Prop) (bs:List AO) (h0:vs=[.ref nt,.ref A,.ref t,v]) (h1:A1 K H nt A t W) (h2:Ck W) (h3:Bs F H v (.lst (bs.map Ec.D))) (h4:(∀b∈bs,BX W b)) (h5:(bs.flatMap (AJ W)).length<=4000) (h6:∀(D:Addr)(H':Hp),H D=none->Ac H H'->H' D=some (.lst ((bs.flatMap (AJ W)).map V.int))->Q (.ref D) H'):E7 K vs H Q
def kH (K:Aj):Sp:=λvs H Q ζ=>E7 K vs H Q
abbrev Vh(P w K mg base):=Br P w K mg base "of_steps" 3 ["net", "answers", "table", "begun"] (kH K)
def kI(B:Bt mg)(a8:QW P w K mg base)(aO:Vg P w K mg base)(F:Bm K "of_steps" "of_steps" R7 f fd)(E:mg "of_steps" = some (.ref f)):Vh P w K mg base:=by
 refine BE F E K2 (λvs H a0 a1 h=>?_) (λaW A aZ s H vs a0 a1 hr h=>?_);obtain⟨L,A,t,W,v,F,bs,rfl,_⟩:=h;rfl
 . obtain⟨L,A,t,W,v,F,bs,rfl,M,ok,hv,a9,hl,a2⟩:=h
   obtain⟨a3,aR,aS,us,Gs,Es,ts,qt,qs,eN,N3⟩:=M.net;obtain⟨a,o,aA,b1,a4,b2,b3⟩:=M.tab;obtain⟨P,bv,rfl,eP,hb⟩:=Qx hv
   refine⟨_,(Am (AK (i:=4) K2.nd (Cb Ad))
    (Am (Ca B8 rfl (Ct (pv 3)) (BU (n:=3) rfl (AD (Aw (i:=5) K2.nd) (AD (Aw (i:=6) K2.nd) (AD (Aw (i:=7) K2.nd) BS)))) (Au (Ca B8 rfl (Ct (As At (As At (As At (pv 0) Ah) (pv 6)) Ah)) (BU (n:=3) rfl (AD (Aw (i:=8) K2.nd) (AD (Aw (i:=9) K2.nd) (AD (Aw (i:=10) K2.nd) BS)))) (Au (A5 (PW.pt (Gx (Bl BV (pv 9) Bb (A9 _)) (Gw (Gj (NH (AR a8 (Ab (pv 2) (Ab (pv 7) (Ab (pv 8) Ad))))))))) (Am (Dp (Dj Dd EL EM EQ (pv 4) (Ab (pv 10) Ad)))
          (Au (Dp (Dj Dd PySem.F.slot_list_extend PySem.F.type_list_extend Oh (pv 4) (Ab (AR aO (Ab (pv 0) (Ab (As At (pv 1) (pv 10)) Ad))) Ad))))) A4)))))
    (Au (AH (pv 4))))),?_⟩
   rfl';refine⟨by decide,λD N=>?_⟩;obtain⟨aT,aB,s1,aC⟩:=new_at (o:=.lst []) N;rw[<-aB]
   refine⟨⟨_,Af.of (s1 _ _ eP)⟩,Eg (xs:=bv) (λi σ q=>∃T U X r u y,σ=[some (.ref L),some (.ref A),some (.ref t),some (.ref P),some (.ref D),T,U,X,r,u,y]/\Ac H q/\q D=some (.lst (((bs.take i).flatMap (AJ W)).map V.int)))
    ⟨none,none,none,none,none,none,rfl,s1,by rw[aC,EF];rfl⟩ (λi σ q ζ aa=>by obtain⟨_,_,_,_,_,_,_,s,_⟩:=aa;exact Af.of (s _ _ eP)) ?_ ?_⟩
   rotate_left;refine λσ a5 z=>AL λO c=>?_;obtain⟨T,U,X,r,u,y,rfl,g,Q⟩:=z;refine c ?_;clear c;rw[hb.length,Ak,Cr] at Q;exact a2 D _ N g Q;refine λi x σ a5 hx z=>AL λO c=>?_;obtain⟨T,U,X,r,u,y,rfl,g,Q⟩:=z;refine c ?_;clear c;refine Hb ?_;intro Nx Cy;obtain⟨b,ak,aD⟩:=Nm (hb.same g) hx;have al:=a9 b (Bc ak);obtain⟨tb,x0,rfl,aE⟩:=Ip aD;have aF:=al.rng b.2.1 (by unfold AM;simp);have aG:=al.st;obtain⟨n,hn⟩:=Cz aF.1;obtain⟨k,hk⟩:=Cz aG.1;have an:n<W.ss.length:=(by lia);have aH:k<W.sts.length:=(by lia);refine AL λO c=>?_;obtain⟨ah,a6,E1,a7,aU,aV,g4,⟨c0,⟨tG,c1,Y⟩,_⟩⟩:=N3.sc.get an;refine c ?_;clear c;have ao:=AA aH;have Z:By W b.2.1=W.ss[n].1:=by rw[hn];exact kG g4
   have eG:Dv W b.2.2=W.sts[k].1:=by rw[hk];exact Kw ao
   have aI:Bi (us.map V.ref) b.2.1=some (.ref ah):=by rw[hn];exact Bu (by rw[AX,a7];rfl)
   have aq:=K0 (f:=AJ W) ak;have aP:=Mk (f:=AJ W) (l:=bs) (i+1);rw[aq,AQ] at aP;refine⟨_,Al.of aE,rfl,?_⟩;refine Or.inr (Or.inl ⟨_,.ref a3,Al.of (g _ _ eN),rfl,Or.inl ⟨_,.ref ah,Af.of (g _ _ N3.sc.top),aI,Or.inr (Or.inl ⟨_,.ref a6,Al.of (g _ _ c0),rfl,⟨_,Af.of (g _ _ c1)⟩,?_⟩)⟩⟩)
   refine Eg (xs:=tG.map V.ref) (λj σ q=>∃r u y,σ=[some (.ref L),some (.ref A),some (.ref t),some (.ref P),some (.ref D),some x0,some (.int b.2.1),some (.int b.2.2),r,u,y]/\Ac H q/\q D=some (.lst (((bs.take i).flatMap (AJ W)++((By W b.2.1).take j).flatMap (Do W b.2.2)).map V.int)))
    ⟨_,_,_,rfl,g,by rw[Q,EF];simp⟩ (λj σ q ζ aa=>by obtain⟨_,_,_,_,s,_⟩:=aa;exact Af.of (s _ _ c1)) ?_ ?_
   rotate_left;refine λσ G z=>AL λO c=>?_;obtain⟨r,u,y,rfl,d,J⟩:=z;refine c ?_;clear c;refine⟨_,_,_,_,_,_,rfl,d,?_⟩;rw[J,aq,Ak,Y.len,Z,Cr,<-Z];rfl;refine λj ai σ G hy z=>AL λO c=>?_;obtain⟨r,u,y,rfl,d,J⟩:=z;refine c ?_;clear c;refine Hb ?_;intro Nx Cy;obtain⟨tp,ar,rfl⟩:=getm hy;have au:j<W.ss[n].1.length:=by rw[<-Y.len];exact(Bh.mp ar).1
   have hp:=AA au;have aw:=Y.at_ j tp _ ar hp;have mp:=DX au;generalize W.ss[n].1[j]=p at hp aw mp;have ab:=K0 (f:=Do W b.2.2) (show(By W b.2.1)[j]?=some p by rw[Z];exact hp);have ae:=Mk (f:=Do W b.2.2) (l:=By W b.2.1) (j+1);rw[ab,AQ] at ae;have aX:(AJ W b).length=((By W b.2.1).flatMap (Do W b.2.2)).length:=rfl
   have skip:¬(p.2.1=("by" : Str)/\(EV (Dv W b.2.2) p.1).isSome=true)->G D=some (.lst (((bs.take i).flatMap (AJ W)++((By W b.2.1).take (j+1)).flatMap (Do W b.2.2)).map V.int)):=λaJ=>by
    have:Do W b.2.2 p=[]:=Ao aJ;rw[J,ab,this,EK]
   refine⟨_,Al.of (d _ _ aw),rfl,?_⟩;refine⟨rfl,rfl,An (λC=>?_) (λC=>Bp ?_)⟩;rotate_left;exact⟨_,_,_,rfl,d,skip λh=>C (AY (by rw[h.1]))⟩;have C:p.2.1=("by" : Str):=V.str.inj (A3 C);refine⟨t,a,o,aA,W.sts,b.2.2,k,_,p.1,rfl,hk,d.seqT b1,⟨a4,d.seq b2,b3.same d⟩,ao,?_⟩;rw[<-eG]
   cases eg:EV (Dv W b.2.2) p.1 with
   |none =>
     refine⟨rfl,An (λh=>absurd h (by simp[D0])) (λζ=>?_)⟩;exact⟨_,_,_,rfl,d,skip λh=>by rw[eg] at h;cases h.2⟩
   |some af =>
     refine⟨rfl,An (λζ=>?_) (λh=>absurd (by simp[D0]) h)⟩;have ax:Do W b.2.2 p=p.2.2::Fn W.gs W.as p.2.2:=Ar ⟨C,by rw[eg];rfl⟩;have aK:=ok.by_ (DX an) mp λaj=>by rw[C] at aj;exact absurd aj (by decide +kernel)
     obtain⟨m,E⟩:=Cz aK.1;have R:m<W.as.length:=(by lia);have ay:=Xn (gs:=W.gs) (AA R);rw[ax,EG] at ae;have S:Ac H (upd G D (.lst (((bs.take i).flatMap (AJ W)++((By W b.2.1).take j).flatMap (Do W b.2.2)).map V.int++[.int p.2.2]))):=λai o e=>by rw[AE (AU e N)];exact d _ _ e
     have ag:(upd G D (.lst (((bs.take i).flatMap (AJ W)++((By W b.2.1).take j).flatMap (Do W b.2.2)).map V.int++[.int p.2.2]))) D=some (.lst (((bs.take i).flatMap (AJ W)++((By W b.2.1).take j).flatMap (Do W b.2.2)).map V.int++[.int p.2.2])):=Aa;refine⟨Or.inl ⟨rfl,_,Af.of J⟩,_,J,by rw[Ak,AQ];exact Iq (by lia),?_⟩;generalize upd G D (.lst (((bs.take i).flatMap (AJ W)++((By W b.2.1).take j).flatMap (Do W b.2.2)).map V.int++[.int p.2.2]))=H4 at S ag ⊢;obtain⟨az,av,aL,aM,hc⟩:=(M.same S).ans.get R;have aQ:Bi az p.2.2=some av:=by rw[E];exact Bu aM
     refine⟨Or.inl ⟨rfl,_,Af.of ag⟩,Or.inl ⟨az,av,aL,aQ,L,A,t,W,av,W.as[m],rfl,M.same S,?_,λpp e I=>ok.net.t pp (by rw[<-e];exact DX R) I,λD2 H5 aY s5 aN=>?_⟩⟩;rw[AA R] at hc;rcases hc with⟨e1,I⟩|⟨pp,ta,e1,I,e3⟩;exact .inl ⟨BJ e1,I⟩;exact .inr ⟨pp,ta,BJ e1,I,e3⟩;refine⟨D,D2,_,_,rfl,rfl,s5 _ _ ag,aN,?_,?_⟩;have:=Ml W.gs W.as[m];rw[E,ay] at ae;rw[AQ,Ak,Ak,AQ,Ef];exact CQ (Iq (by lia));refine⟨_,_,_,rfl,λai o e=>?_,?_⟩;rw[AE (AU e N)];exact s5 _ _ (S _ _ e);rw[Aa,ab,ax,E,ay]
     simp
inductive C5 (K:Aj) (vs:List V) (H:Hp) (Q:VK):Prop where
 |mk (nt A t:Addr) (W:Wd) (v:V) (F:Addr->Prop) (ws:List (List Aq)) (h0:vs=[.ref nt,v]) (h1:A1 K H nt A t W) (h2:Bs F H v (.lst (ws.map Dc.D))) (h3:(∀w∈ws,CH W.ss w)) (h4:(ws.flatMap (EI W.ss)).length<=4000) (h5:∀(D:Addr)(H':Hp),H D=none->Ac H H'->H' D=some (.lst ((ws.flatMap (EI W.ss)).map V.int))->Q (.ref D) H'):C5 K vs H Q
def kJ (K:Aj):Sp:=λvs H Q ζ=>C5 K vs H Q
abbrev Vi(P w K mg base):=Br P w K mg base "of_tellings" 2 ["net", "found"] (kJ K)
def kK(B:Bt mg)(ag:Pe P w K mg base)(F:Bm K "of_tellings" "of_tellings" R8 f fd)(hm:mg "of_tellings" = some (.ref f)):Vi P w K mg base:=by
 refine BE F hm My (λvs H Q E h=>?_) (λai A ak s H vs Q E hr h=>?_);obtain⟨g,A,t,W,v,F,ws,rfl,_⟩:=h;rfl
 . obtain⟨g,A,t,W,v,F,ws,rfl,hC,hv,he,hl,q⟩:=h
   obtain⟨S,T,R,us,Gs,Es,ts,qt,qs,eN,N3⟩:=hC.net;obtain⟨P,wv,rfl,I,J⟩:=Qx hv
   refine⟨_,(Am (AK (i:=2) My.nd (Cb Ad))
    (Am (Ca B8 rfl (Ct (pv 1)) (Aw (i:=3) My.nd) (Am (D9 (AR ag (Ab (pv 0) (Ab (As At (pv 3) (M5 M6 Ah)) Ad))) (BU (n:=4) rfl (AD (Aw (i:=4) My.nd) (AD (Aw (i:=5) My.nd) (AD (Aw (i:=6) My.nd) (AD (Aw (i:=7) My.nd) BS))))))
     (Au (A5 (Bl BV (pv 6) Bb (A9 _)) (Au (Dp (Dj Dd EL EM EQ (pv 2) (Ab (pv 7) Ad)))) A4))))
    (Au (AH (pv 2))))),?_⟩
   rfl';refine⟨by decide,λD j=>?_⟩;obtain⟨ah,ab,L,ae⟩:=new_at (o:=.lst []) j;rw[<-ab]
   refine⟨⟨_,Af.of (L _ _ I)⟩,Eg (xs:=wv) (λi σ k=>∃p r u y z,σ=[some (.ref g),some (.ref P),some (.ref D),p,r,u,y,z]/\Ac H k/\k D=some (.lst (((ws.take i).flatMap (EI W.ss)).map V.int)))
    ⟨none,none,none,none,none,rfl,L,by rw[ae,EF];rfl⟩ (λi σ k ζ af=>by obtain⟨_,_,_,_,_,_,s,_⟩:=af;exact Af.of (s _ _ I)) ?_ ?_⟩
   rotate_left;refine λσ Y G=>AL λM a=>?_;obtain⟨p,r,u,y,z,rfl,c,d⟩:=G;refine a ?_;clear a;rw[J.length,Ak,Cr] at d;exact q D _ j c d;refine λi x σ Y hx G=>AL λM a=>?_;obtain⟨p,r,u,y,z,rfl,c,d⟩:=G;refine a ?_;clear a;obtain⟨w,N,O⟩:=Nm (J.same c) hx;have ew:=he w (Bc N);obtain⟨vv,m,U,mo,aa⟩:=ew;rw[U] at O;refine AL λM a=>?_;obtain⟨l,ms,mk,rfl,l1,l2,l3⟩:=J7 O;refine a ?_;clear a;have et:Ih W.ss m=CC W.ss w:=(by rw[U,Ma]);have aj:=Mk (f:=EI W.ss) (l:=ws) i;have X:=K0 (f:=EI W.ss) N;refine Or.inl ⟨_,.ref mk,Af.of l1,l2,g,S,T,R,mk,us,Gs,Es,W.ss,m,rfl,Al.of (c _ _ eN),N3.sc.same c,Al.of l3,mo,aa,λtp Z=>?_⟩;rw[et] at Z;refine⟨_,Al.of Z,rfl,?_⟩;refine⟨rfl,rfl,An (λh=>?_) (λh=>?_)⟩;have C:(CC W.ss w).2.2.1=("by" : Str):=V.str.inj (A3 h);refine⟨Or.inl ⟨rfl,_,Af.of d⟩,_,d,by rw[Ak];exact Iq (by lia),?_⟩;refine⟨_,_,_,_,_,rfl,λb o e=>?_,?_⟩;rw[AE (AU e j)];exact c _ _ e;rw[Aa,X,A6];unfold EI;rw[Ar C];rfl;have C:(CC W.ss w).2.2.1≠("by" : Str):=λe=>h (AY (by rw[e]));refine⟨_,_,_,_,_,rfl,c,?_⟩;rw[d,X];have:EI W.ss w=[]:=Ao C;rw[this,EK]
inductive CN (K:Aj) (vs:List V) (H:Hp) (Q:VK):Prop where
 |mk (nt A t L T:Addr) (F:Addr->Prop) (W:Wd) (lv:List V) (ls:List Lk) (ts:List Int) (h0:vs=[.ref nt,.ref A,.ref t,.ref L,.ref T]) (h1:A1 K H nt A t W) (h2:Ck W) (h3:H L=some (.lst lv)) (h4:AG F H lv (ls.map Mb)) (h5:(∀l∈ls,Ir W l)) (h6:H T=some (.lst (ts.map V.int))) (h7:(∀n∈ts,0<=n/\n<W.gs.length)) (h8:(CI W ls ts).length<=4000) (h9:(∀q∈CI W ls ts,0<=q/\q<((40:Nat):Int))) (h10:∀(D:Addr)(us:List Int)(H':Hp),H D=none->Ac H H'->H' D=some (.lst (us.map V.int))->(∀q,q∈us↔q∈CI W ls ts)->us.Pairwise (· < ·)->Q (.ref D) H'):CN K vs H Q
def kL (K:Aj):Sp:=λvs H Q ζ=>CN K vs H Q
abbrev Vj(P w K mg base):=Br P w K mg base "questions_of" 4 ["net", "answers", "table", "looks", "things"] (kL K)
theorem kM(B:Bt mg)(a1:Vh P w K mg base)(a2:Vi P w K mg base)(a3:Rf P w K mg base)(F:Bm K "questions_of" "questions_of" R9 f fd)(O:mg "questions_of" = some (.ref f)):Vj P w K mg base:=by
 refine BE F O Nr (λvs H ah ai h=>?_) (λa5 A a9 s H vs ah ai hr h=>?_);obtain⟨k,A,t,L,T,F,W,lv,ls,m,rfl,_⟩:=h;rfl;obtain⟨k,A,t,L,T,F,W,lv,ls,m,rfl,Q,ok,eL,S,ao,eT,aq,N,ar,aj⟩:=h;have a6:(ls.flatMap (FS W)).length<=4000:=by unfold CI at N;rw[AQ] at N;lia
 refine⟨_,(Am (AK (i:=5) Nr.nd (Cb Ad))
  (Am (Ca B8 rfl (Ct (pv 3)) (BU (n:=3) rfl (AD (Aw (i:=6) Nr.nd) (AD (Aw (i:=7) Nr.nd) (AD (Aw (i:=8) Nr.nd) BS)))) (Am (Dp (Dj Dd PySem.F.slot_list_extend PySem.F.type_list_extend Oh (pv 5) (Ab (AR a1 (Ab (pv 0) (Ab (pv 1) (Ab (pv 2) (Ab (pv 6) Ad))))) Ad)))
   (Au (Dp (Dj Dd PySem.F.slot_list_extend PySem.F.type_list_extend Oh (pv 5) (Ab (AR a2 (Ab (pv 0) (Ab (pv 7) Ad))) Ad))))))
  (Am (Ca B8 rfl (Ct (pv 4)) (Aw (i:=9) Nr.nd) (Au (Dp (Dj Dd PySem.F.slot_list_extend PySem.F.type_list_extend Oh (pv 5) (Ab (AR a3 (Ab (pv 0) (Ab (pv 9) Ad))) Ad)))))
  (Au (AH (BP (Ul rfl) B.b_sorted (Ab (HF (Uk rfl) B.b_set (Ab (pv 5) Ad)) Ad))))))),?_⟩
 rfl';refine⟨by decide,λD hD=>?_⟩;obtain⟨a4,au,s1,av⟩:=new_at (o:=.lst []) hD;rw[<-au];have R:∀{a:Hp}{zs:List V},Ac H a->Ac H (upd a D (.lst zs)):=λs b o e=>by rw[AE (AU e hD)];exact s _ _ e
 refine⟨⟨_,Af.of (s1 _ _ eL)⟩,Eg (xs:=lv) (λi σ a=>∃E G I p,σ=[some (.ref k),some (.ref A),some (.ref t),some (.ref L),some (.ref T),some (.ref D),E,G,I,p]/\Ac H a/\a D=some (.lst (((ls.take i).flatMap (FS W)).map V.int)))
  ⟨none,none,none,none,rfl,s1,by rw[av,EF];rfl⟩ (λi σ a ζ U=>by obtain⟨_,_,_,_,_,s,_⟩:=U;exact Af.of (s _ _ eL)) ?_ ?_⟩
 refine λi x σ ak J X=>AL λNz d=>?_;obtain⟨E,G,I,p,rfl,q,u⟩:=X;refine d ?_;clear d;obtain⟨l,Y,aw⟩:=Nm (S.same q) J;have aa:=ao l (Bc Y);refine AL λNz d=>?_;obtain⟨al,x1,x2,x3,rfl,er,h1,h2,_⟩:=OM aw;refine d ?_;clear d;have z:=K0 (f:=FS W) Y;have Z:=Mk (f:=FS W) (l:=ls) (i+1);rw[z,AQ] at Z;have hq:(FS W l).length=(l.1.flatMap (AJ W)).length+(l.2.1.flatMap (EI W.ss)).length:=by unfold FS;rw[AQ]
 refine⟨_,Al.of er,rfl,?_⟩;refine⟨Or.inl ⟨rfl,_,Af.of u⟩,k,A,t,W,x1,F,l.1,rfl,Q.same q,ok,h1,aa.bo,by lia,λv r M c j=>?_⟩;refine⟨D,v,_,_,rfl,rfl,c _ _ u,j,by rw[Ak,Ak];exact CQ (Iq (by lia)),?_⟩;have g:=R (zs:=((ls.take i).flatMap (FS W)).map V.int++(l.1.flatMap (AJ W)).map V.int) (q.trans c);have C:(upd r D (.lst (((ls.take i).flatMap (FS W)).map V.int++(l.1.flatMap (AJ W)).map V.int))) D=some (.lst (((ls.take i).flatMap (FS W)).map V.int++(l.1.flatMap (AJ W)).map V.int)):=Aa
 have ab:Bs F (upd r D (.lst (((ls.take i).flatMap (FS W)).map V.int++(l.1.flatMap (AJ W)).map V.int))) x2 (.lst (l.2.1.map Dc.D)):=by
  obtain⟨r',y1,y2,y3,e',ae,_,ax,_⟩:=OM ((Nm (S.same g) J).elim λl' h=>by
   have:l'=l:=BJ (h.1.symm.trans Y)
   rw[this] at h;exact h.2)
  have:al=r':=V.ref.inj e';subst this;have ay:=(Keeps.one (H:=r) (o:=.lst (((ls.take i).flatMap (FS W)).map V.int++(l.1.flatMap (AJ W)).map V.int)) (c _ _ u)).tup (c _ _ er);rw[ay] at ae;have e2:=HO.tup.inj (BJ ae);cases e2;exact ax
 generalize upd r D (.lst (((ls.take i).flatMap (FS W)).map V.int++(l.1.flatMap (AJ W)).map V.int))=H4 at g C ab ⊢;refine⟨Or.inl ⟨rfl,_,Af.of C⟩,k,A,t,W,x2,F,l.2.1,rfl,Q.same g,ab,aa.en,by lia,λD3 H5 a7 s5 az=>?_⟩;refine⟨D,D3,_,_,rfl,rfl,s5 _ _ C,az,by rw[AQ,Ak,Ak,Ak];exact CQ (Iq (by lia)),?_⟩;refine⟨_,_,_,_,rfl,R (g.trans s5),?_⟩;rw[Aa,z];unfold FS;rw[A6,A6,FX];refine λσ ak X=>AL λNz d=>?_;obtain⟨E,G,I,p,rfl,q,u⟩:=X;refine d ?_;clear d;rw[S.length,Ak,Cr] at u
 refine⟨⟨_,Af.of (q _ _ eT)⟩,Eg (xs:=m.map V.int) (λi σ a=>∃p,σ=[some (.ref k),some (.ref A),some (.ref t),some (.ref L),some (.ref T),some (.ref D),E,G,I,p]/\Ac H a/\a D=some (.lst ((ls.flatMap (FS W)++(m.take i).flatMap (Ej W.gs)).map V.int)))
  ⟨_,rfl,q,by rw[u,EF];simp⟩ (λi σ a ζ U=>by obtain⟨_,_,s,_⟩:=U;exact Af.of (s _ _ eT)) ?_ ?_⟩
 rintro i x σ r J ⟨p,rfl,c,j⟩;obtain⟨n,af,rfl⟩:=getm J;have z:=K0 (f:=Ej W.gs) af;have Z:=Mk (f:=Ej W.gs) (l:=m) (i+1);rw[z,AQ] at Z;have ag:=N;unfold CI at ag;rw[AQ] at ag;refine⟨Or.inl ⟨rfl,_,Af.of j⟩,k,A,t,W,n,rfl,Q.same c,aq n (Bc af),λv H4 M g C=>?_⟩;refine⟨D,v,_,_,rfl,rfl,g _ _ j,C,by rw[Ak,Ak,AQ];exact CQ (Iq (by lia)),?_⟩;refine⟨_,rfl,R (c.trans g),?_⟩;rw[Aa,z]
 simp
 rintro σ r ⟨a8,rfl,c,j⟩;rw[Ak,Cr] at j;refine⟨D,CI W ls m,rfl,Af.of j,N,λan hz=>?_⟩;refine⟨an,CI W ls m,rfl,Aa,λds hd hs=>?_,λv ms a0 O M=>?_⟩;have:=QA hd λy hy=>ar y (hs y hy);lia;exact aj v ms _ (c.free ((AW hz).free M)) ((c.trans (AW hz)).trans (AW M)) Aa O a0
inductive IF (K:Aj) (vs:List V) (H:Hp) (Q:VK):Prop where
 |mk (nt A t:Addr) (F:Addr->Prop) (W:Wd) (qs:List Qu) (inn:Int) (ord:A') (n:Int) (k:Nat) (q:Qu) (h0:vs=[.ref nt,.ref A,.ref t,.int n]) (h1:n=k) (h2:qs[k]?=some q) (h3:LC K F H nt A t W qs inn ord) (h4:OI W qs inn ord) (h5:(∀s∈W.ss,s.1.length<=3)) (h6:W.as.length<=40) (h7:∀(D:Addr)(us:List Int)(a:C')(w:Option Wt)(ls:List Lk)(ts:List Int)(H':Hp),H D=none->Ac H H'->LU W inn ord q.1 q.2.1 q.2.2 0 a w ls ts->H' D=some (.lst (us.map V.int))->(∀q,q∈us↔q∈CI W ls ts)->us.Pairwise (· < ·)->Q (.ref D) H'):IF K vs H Q
def Kx (K:Aj):Sp:=λvs H Q ζ=>IF K vs H Q
abbrev Rg(P w K mg base):=Br P w K mg base "used" 8 ["net", "answers", "table", "question"] (Kx K)
def kN(B:Bt mg)(ag:Rc P w K mg base)(ah:Vj P w K mg base)(F:Bm K "used" "used" Sa f fd)(d:mg "used" = some (.ref f)):Rg P w K mg base:=by
 refine BE F d OV (λC H Q E h=>?_) (λao A ar s H C Q E hr h=>?_);obtain⟨e,A,t,F,W,r,y,ord,n,k,q,rfl,_⟩:=h;rfl;obtain⟨e,A,t,F,W,r,y,ord,n,k,q,rfl,rfl,g,c,ok,G,hA,I⟩:=h;obtain⟨ai,T,R,us,Gs,Es,j,b,J,l⟩:=c.net;have aa:k<r.length:=(Bh.mp g).1;have ab:k<b.length:=by rw[l.tq.len];exact aa
 have z:=AA ab;obtain⟨u,eq,M⟩:=l.tq.at_ k _ q z g;have ae:Bi (b.map V.ref) (k:Int)=some (.ref b[k]):=Bu (by rw[AX,z];rfl);obtain⟨v,x,N,O⟩:=ok.q q (Bc g)
 refine⟨_,(Am (D9 (AR ag (Ab (pv 0) (Ab (pv 1) (Ab (pv 2) (Ab (As At (As At (pv 0) Ah) (pv 3)) Ad))))) (BU (n:=4) rfl (AD (Aw (i:=4) OV.nd) (AD (Aw (i:=5) OV.nd) (AD (Aw (i:=6) OV.nd) (AD (Aw (i:=7) OV.nd) BS))))))
  (Au (AH (AR ah (Ab (pv 0) (Ab (pv 1) (Ab (pv 2) (Ab (pv 6) (Ab (pv 7) Ad))))))))),?_⟩
 rfl';refine Or.inr (Or.inl ⟨_,.ref R,Al.of J,rfl,Or.inl ⟨_,.ref b[k],Af.of l.er,ae,e,A,t,b[k],u,F,W,y,ord,q,rfl,c.caseH,c.tab,ok.ok,ok.sm,ok.ol,ok.irr,ok.inn,eq,M,v,x,N,O,λaj L T av wv S a w ls j ak m U hL X Y ha hw af o=>?_⟩⟩);refine⟨_,Al.of U,rfl,?_⟩;obtain⟨p,Z,aq⟩:=OP ok.ok ok.sm ok.inn o v x;have l8:=Mc o;refine⟨e,A,t,L,T,_,W,S,ls,j,rfl,c.caseH.same m,ok.ok,X,af,p,Y,Z,eQ G p (by lia) (by lia),λal hy=>?_,λD us an hD s2 eD d hp=>I D us a w ls j _ (m.free hD) (m.trans s2) o eD d hp⟩;have:=Qz ok.ok ok.sm p hy;lia
theorem Vk:∀{l m:List Int},l.Pairwise (· < ·)->m.Pairwise (· < ·)->(∀y,y∈l ↔ y∈m)->l=m
 |[],[],_,_,_=>rfl
 |[],b::m,_,_,h=>by have:=(h b).mpr B2;cases this
 |a::l,[],_,_,h=>by have:=(h a).mp B2;cases this
 |a::l,b::m,p,q,h=>by
   obtain⟨c,J⟩:=List.pairwise_cons.mp p;obtain⟨d,f⟩:=List.pairwise_cons.mp q
   have e:a=b:=by
    rcases Cc.mp ((h a).mp B2) with z|z;exact z;rcases Cc.mp ((h b).mpr B2) with y|y;exact y.symm;have g:=d a z;have i:=c b y;lia
   subst e;rw[Vk J f λy=>⟨λz=>?_,λz=>?_⟩];rcases Cc.mp ((h y).mp (DW _ z)) with e|e;have:=c y z;lia;exact e;rcases Cc.mp ((h y).mpr (DW _ z)) with e|e;have:=d y z;lia;exact e
def Rh(ws:List Int):Dn 8 (.lst (ws.map Dt.int)):=λd hd=>by
 obtain⟨o,_,rfl⟩:=AN.mp hd;exact True.intro
inductive Lc (K:Aj) (vs:List V) (H:Hp) (Q:VK):Prop where
 |mk (a:Addr) (ns:List Int) (h0:vs=[.ref a]) (h1:Af K H a (ns.map V.int)) (h2:ns.length<=63) (h3:∀H',Q (.bl true) H'):Lc K vs H Q
def Pg (K:Aj):Sp:=λvs H Q ζ=>Lc K vs H Q
theorem IG(B:Bt mg)(a9:QU P w K mg base)(ba:QV P w K mg base)(aG:OY P w K mg base)(bb:Q5 P w K mg base)(aa:Q8 P w K mg base)(bc:Re P w K mg base)(aA:Rg P w K mg base)(F:Bm K "law" "law" KD f fd):EO P w K mg base IQ 9 f fd ["_law_script"] (Pg K):=by
 refine F.ok I0 (λvs H aE aF h=>?_) (λbn A b9 s H vs aE aF hr h=>?_);obtain⟨a,ns,rfl,_⟩:=h;rfl;obtain⟨a,ns,rfl,Z,aB,kq⟩:=h
 refine⟨_,(Am (D9 (AR a9 (Ab (pv 0) Ad)) (BU (n:=2) rfl (AD (Aw (i:=1) I0.nd) (AD (Aw (i:=2) I0.nd) BS))))
  (Am (AK (i:=3) I0.nd (AR a9 (Ab (pv 0) Ad)))
  (Am (AK (i:=4) I0.nd (AR ba (Ab (AR aG (Ab (pv 0) (Ab Ah Ad))) (Ab (pv 1) Ad))))
  (Am (AK (i:=5) I0.nd (HF SN B.b_list (Ab (pv 4) Ad)))
  (Am (Ca B8 rfl (Jk rfl B.b_range (Ab (BP Ey B.b_len (Ab (pv 4) Ad)) Ad)) (Aw (i:=6) I0.nd) (Am (D9 (AR bb (Ab (pv 1) (Ab (pv 2) (Ab (pv 4) (Ab (pv 6) Ad))))) (BU (n:=2) rfl (AD (Aw (i:=7) I0.nd) (AD (Aw (i:=8) I0.nd) BS))))
   (Am (A5 (KG (Gk (AR aa (Ab (AR bc (Ab (As At (pv 3) Ah) (Ab (pv 5) (Ab (As At (pv 3) Ah) (Ab (pv 6) Ad))))) (Ab (pv 7) Ad))))) (Au (AH G3)) A4)
   (Am (AK (i:=9) I0.nd (AR aA (Ab (As At (pv 3) Ah) (Ab (pv 5) (Ab (As At (pv 3) Ah) (Ab (pv 6) Ad))))))
   (Am (A5 (KG (Gk (AR aa (Ab (pv 9) (Ab (pv 8) Ad))))) (Au (AH G3)) A4)
   (Am (Dp (LB Dd PySem.F.slot_list_clear PySem.F.type_list_clear YX (pv 9)))
   (Au (A5 (KG (Gk (AR aa (Ab (AR aA (Ab (As At (pv 3) Ah) (Ab (pv 5) (Ab (As At (pv 3) Ah) (Ab (pv 6) Ad))))) (Ab (pv 8) Ad))))) (Au (AH G3)) A4))))))))
  (Au (AH (Px (IM (Ta hr.units) (pv 3) (Bd (Ab (pv 1) (Ab (pv 2) Ad))) (A9 _)) (Sh (IM (Ta hr.units) (pv 5) (pv 4) (A9 _))))))))))),?_⟩
 rfl';refine⟨a,ns,rfl,Z,aB,λbj v t an ao aq us Gs Es R qt ss g c j l ord bk s1 er eN E TB G=>?_⟩;refine⟨_,Al.of er,rfl,?_⟩;refine⟨a,ns,rfl,s1.seq Z,aB,λr2 C z S2 T2 R2 aH aI aJ aK aL bo bp bq b6 b7 b8 bl I W ar au av aM=>?_⟩;refine AL λNz u=>?_;obtain⟨e1,e2,e3,e4,e5,e6⟩:=G.uniq aM;refine u ?_;clear u;subst e1 e2 e3 e4 e5 e6;have aN:=s1.trans I;have aO:R.length=g.length:=E.tg.len;have br:1<=g.length/\g.length<=6:=by rw[G.gs];exact O5 ns _
 have bs:c.length=BR ns:=(by rw[G.qs,XT]);have zA:=QR ns;have aP:∀q∈c,1<=q.2.2.length:=λq hq=>(IB ns _ q (G.qs▸hq)).2.2.1;refine⟨a,ns,8,rfl,by decide,aN.seq Z,Fk ns 8,v,an,ao,aq,R,qt,c,rfl,Al.of (I _ _ eN),I _ _ E.et,by lia,I _ _ E.er,E.tq.same I,by lia,aP,λA J H3 hA s3 S L=>?_⟩;have aQ:=I.trans s3;obtain⟨d,ab⟩:∃d,d=Kl (Fk ns 8) c R.length:=⟨_,rfl⟩;have la:d.length=c.length:=by rw[ab];exact gF _ _ _
 have lo:OI ⟨ss,g,d,j⟩ c l ord:=O7 G la λp T e=>by rw[<-aO];rw[ab] at T;exact Km (by lia) T e
 rw[<-ab] at L;have lv:J.length=c.length:=(by rw[L.length,Ak,la]);refine⟨A,J,rfl,Or.inl (Af.of S),λLT aR=>?_⟩;obtain⟨H4,aS,r,aw⟩:=new_at (o:=.lst J) aR;rw[<-aS];have X:=aQ.trans r;have D:=s3.trans r;have C1:∀{k:Hp},Ac H4 k->LC K (λζ=>True) k v A t ⟨ss,g,d,j⟩ c l ord:=λ{k}s=>⟨⟨an,ao,aq,us,Gs,Es,R,qt,(X.trans s) _ _ eN,E.same (X.trans s)⟩,⟨J,Af.of ((r.trans s) _ _ S),(L.same (r.trans s)).dts⟩,TB.same (X.trans s)⟩;have C2:∀{k:Hp},Ac H4 k->LC K (λζ=>True) k C LT z ⟨ss,g,d,j⟩ c l ord:=λ{k}s=>⟨⟨S2,T2,R2,aH,aI,aJ,aK,aL,(D.trans s) _ _ ar,au.same (D.trans s)⟩,⟨J,Af.of (s _ _ aw),(L.same (r.trans s)).dts⟩,av.same (D.trans s)⟩
 have h3:∀s∈ss,s.1.length<=3:=λs hs=>by
  have z1:=O4 ns;have z3:=O5 ns (Ci ns).length;have sk:=QQ (ls:=MJ ns) (ns:=EB ns) z1.1 z3.1 zA.1 (Ci ns) (Ci ns).length;rw[<-G.ss] at sk;have:=sk.st s hs;have:Fp (BF ns)<=3:=by unfold Fp;split<;>lia
  lia
 have ae:(⟨ss,g,d,j⟩:Wd).as.length<=40:=by show d.length<=40;lia
 refine⟨_,Or.inl ⟨_,Af.of (r _ _ S),rfl⟩,by lia,by lia,KH (lo:=0) (n:=((J.length:Nat):Int).toNat) (λi σ k=>∃u6 u7 u8 u9,σ=[some (.ref a),some (.ref v),some (.ref t),some (.ref r2),some (.ref A),some (.ref LT),u6,u7,u8,u9]/\Ac H4 k) ⟨none,none,none,none,rfl,Ac.refl _⟩ ?_ ?_⟩;refine λi σ H5 hi af=>AL λNz u=>?_;obtain⟨u6,u7,u8,u9,rfl,U⟩:=af;refine u ?_;clear u;refine Hb ?_;intro Nx Cy;rw[Int.zero_add];have hk:i<c.length:=(by lia);have N:=AA hk;generalize c[i]=q at N;refine⟨v,A,t,λζ=>True,⟨ss,g,d,j⟩,c,l,ord,i,q,rfl,N,C1 U,lo,h3,ae,λr5 bm V a1 w1 bt bu H6 s6 ag aT eD hm ax=>?_⟩;refine⟨_,Al.of aT,rfl,?_⟩;have m:=U.trans s6;have ay:=(D.trans m) _ _ W;refine Or.inr (Or.inl ⟨_,.ref C,Al.of ay,rfl,Or.inr (Or.inl ⟨_,.ref z,Al.of ay,rfl,C,LT,z,λζ=>True,⟨ss,g,d,j⟩,c,l,ord,(i:Int),i,q,rfl,rfl,N,C2 m,lo,λa2 w2 bv bw H7 s7 bd=>?_⟩)⟩);obtain⟨_,_,O,Q⟩:=Ud ag bd;subst O Q;refine⟨_,_,.int _,.int _,rfl,.int _,.int _,True.intro,True.intro,λb H8 s8 M=>?_⟩;rw[M.mpr rfl];refine⟨rfl,Bp ?_⟩;have ah:=s7.trans s8;have ai:=m.trans ah;have az:=(D.trans ai) _ _ W;refine Or.inr (Or.inl ⟨_,.ref C,Al.of az,rfl,Or.inr (Or.inl ⟨_,.ref z,Al.of az,rfl,C,LT,z,λζ=>True,⟨ss,g,d,j⟩,c,l,ord,(i:Int),i,q,rfl,rfl,N,C2 ai,lo,h3,ae,λD2 uB a3 w3 bx bz H9 aU s9 be a0 aV bf=>?_⟩)⟩);obtain⟨_,_,O,Q⟩:=Ud ag be;subst O Q;obtain rfl:=Vk ax bf λy=>(hm y).trans (aV y).symm;have aW:=(ah.trans s9) _ _ eD;refine⟨_,_,.lst (V.map Dt.int),.lst (V.map Dt.int),rfl,.lst (Af.of a0) (Ni _),.lst (Af.of aW) (Ni _),Rh _,Rh _,λb a5 a6 M=>?_⟩;rw[M.mpr rfl];refine⟨rfl,Bp ?_⟩;have aC:=a6 _ _ a0;refine⟨Or.inl ⟨rfl,_,Af.of aC⟩,D2,_,rfl,rfl,aC,?_⟩;have ak:Ac H8 (upd a5 D2 (.lst [])):=λx o e=>by rw[AE (AU e aU)];exact a6 _ _ (s9 _ _ e)
 generalize upd a5 D2 (.lst [])=b0 at ak ⊢;have al:=ai.trans ak;have aD:=(D.trans al) _ _ W;refine Or.inr (Or.inl ⟨_,.ref C,Al.of aD,rfl,Or.inr (Or.inl ⟨_,.ref z,Al.of aD,rfl,C,LT,z,λζ=>True,⟨ss,g,d,j⟩,c,l,ord,(i:Int),i,q,rfl,rfl,N,C2 al,lo,h3,ae,λD3 uC a4 w4 b1 b2 b3 b4 a7 bg aX aY bh=>?_⟩)⟩);obtain⟨_,_,O,Q⟩:=Ud ag bg;subst O Q;obtain rfl:=Vk ax bh λy=>(hm y).trans (aY y).symm;have bi:=((ah.trans ak).trans a7) _ _ eD;refine⟨_,_,.lst (V.map Dt.int),.lst (V.map Dt.int),rfl,.lst (Af.of aX) (Ni _),.lst (Af.of bi) (Ni _),Rh _,Rh _,λb b5 aZ M=>?_⟩;rw[M.mpr rfl];exact⟨rfl,Bp ⟨_,_,_,_,rfl,(al.trans a7).trans aZ⟩⟩;refine λσ H5 af=>AL λNz u=>?_;obtain⟨u6,u7,u8,u9,rfl,U⟩:=af;refine u ?_;clear u;refine⟨BK,λp T=>?_⟩;have s6:=AW (o:=.tup [.ref v,.ref t]) T;have m:=U.trans s6;have aj:=X.trans m;have Y:=D.trans m;have d1:Ap K (upd H5 p (.tup [.ref v,.ref t])) (.ref p) (.tup [HY ss g c,Ox j l ord]):=.tup (Al.of Aa) (.cons ((E.same aj).dt (aj _ _ eN)) (.cons (TB.same aj).dt .nil));have d2:Ap K (upd H5 p (.tup [.ref v,.ref t])) (.ref r2) (.tup [HY ss g c,Ox j l ord]):=.tup (Al.of (Y _ _ W)) (.cons ((au.same Y).dt (Y _ _ ar)) (.cons (av.same Y).dt .nil));refine⟨7,_,_,.tup (.cons (JL _ _ _ _ _ _) (.cons (Zw _ _ _ _ _ _) (.nil _))),by decide,d2,d1,?_⟩;rw[Fa rfl];have a8:=(L.same (r.trans m)).dts (K:=K);refine⟨_,rfl,Cu ⟨3,_,_,Zy d d,by decide,.lst (Af.of (m _ _ aw)) a8,.lst (Af.of ((r.trans m) _ _ S)) a8,?_⟩⟩;rw[Fa rfl];exact kq _
abbrev Ph(P w K mg base):=Br P w K mg base "law" 9 ["_law_script"] (Pg K)
def Pj(B:Bt mg)(e:QU P w K mg base)(g:QV P w K mg base)(c:OY P w K mg base)(h:Q5 P w K mg base)(d:Q8 P w K mg base)(i:Re P w K mg base)(j:Rg P w K mg base)(F:Bm K "law" "law" KD f fd)(a:mg "law" = some (.ref f)):Ph P w K mg base:=
 ⟨f,fd,IG B e g c h d i j F,a,F.kp,F.binds λζ ζ ζ ζ ζ ζ us b=>(by obtain⟨k,rfl⟩:=Iu b;rfl)⟩
end
abbrev Fin (K:Aj) (mg:Str->Option Value) (x:Str) (st:Stmt):Prop:=∃f fd,Bm K x x st f fd/\mg x=some (.ref f)
def BA{K:Aj}{h:Heap}{b:Str->Option Value}(X:K.In h)(G:h.Ns mainGlobals b){x:Str}{st:Stmt}(q:Fx K x st):Fin K b x st:=by
 obtain⟨f,d,e,g,m,kV,n,i,o,j,a,l,c,k⟩:=q;exact⟨f,_,HL l c k,PySem.W.mg_of X G a⟩
def all_mk{l:PySem.W.OpenLaw}{w:World}{K:Aj}{h:Heap}{a:Str->Option Value}{f:Addr}(X:K.In h)(G:h.Ns mainGlobals a)(aa:a "law" = some (.ref f))(q:KE K)
 : ∃g:FuncData,(∀(s:Shared)(v:Value),BindsTo s g ⟨[v],[]⟩ [("_law_script",v)])/\∀b:Heap,K.In b->b.Ns mainGlobals a->EO l.prog w K a b IQ 9 f g ["_law_script"] (Pg K):=by
 obtain⟨c5,c6,c7,bH,c8,bI,bJ,bK,bL,bM,ab,ae,af,ag⟩:=q.q56;have e:=aa.symm.trans (PySem.W.mg_of X G ab);cases e;have B:Bt a:=⟨F0 X G q.z_all,F0 X G q.z_any,F0 X G q.z_bool,F0 X G q.z_dict,F0 X G q.z_enumerate,F0 X G q.z_int,F0 X G q.z_isinstance,F0 X G q.z_len,F0 X G q.z_list,F0 X G q.z_min,F0 X G q.z_range,F0 X G q.z_set,F0 X G q.z_sorted,F0 X G q.z_str,F0 X G q.z_sum,F0 X G q.z_tuple,F0 X G q.z_zip,q.y_MOST_BEGINNINGS.imp λζ y=>PySem.W.mg_of X G y⟩;obtain⟨_,_,D,E⟩:=BA X G q.q0;obtain⟨_,_,F,H⟩:=BA X G q.q1;obtain⟨_,_,I,J⟩:=BA X G q.q2;obtain⟨_,_,L,M⟩:=BA X G q.q3;obtain⟨_,_,N,O⟩:=BA X G q.q4;obtain⟨_,_,P,Q⟩:=BA X G q.q5;obtain⟨_,_,R,S⟩:=BA X G q.q6;obtain⟨_,_,T,U⟩:=BA X G q.q7;obtain⟨_,_,V,W⟩:=BA X G q.q8;obtain⟨_,_,Y,Z⟩:=BA X G q.q9;obtain⟨_,_,ah,ai⟩:=BA X G q.q10;obtain⟨_,_,aj,ak⟩:=BA X G q.q11;obtain⟨_,_,al,an⟩:=BA X G q.q12;obtain⟨_,_,ao,aq⟩:=BA X G q.q13;obtain⟨_,_,ar,au⟩:=BA X G q.q14;obtain⟨_,_,av,aw⟩:=BA X G q.q15;obtain⟨_,_,ax,ay⟩:=BA X G q.q16;obtain⟨_,_,az,a0⟩:=BA X G q.q17;obtain⟨_,_,a1,a2⟩:=BA X G q.q18;obtain⟨_,_,a3,a4⟩:=BA X G q.q19;obtain⟨_,_,a5,a6⟩:=BA X G q.q20;obtain⟨_,_,a7,a8⟩:=BA X G q.q21;obtain⟨_,_,a9,aA⟩:=BA X G q.q22;obtain⟨_,_,aB,aC⟩:=BA X G q.q23;obtain⟨_,_,aD,aE⟩:=BA X G q.q24;obtain⟨_,_,aF,aG⟩:=BA X G q.q25;obtain⟨_,_,aH,aI⟩:=BA X G q.q26;obtain⟨_,_,aJ,aK⟩:=BA X G q.q27;obtain⟨_,_,aL,aM⟩:=BA X G q.q28;obtain⟨_,_,aN,aO⟩:=BA X G q.q29;obtain⟨_,_,aP,aQ⟩:=BA X G q.q30;obtain⟨_,_,aR,aS⟩:=BA X G q.q31;obtain⟨_,_,aT,aU⟩:=BA X G q.q32;obtain⟨_,_,aV,aW⟩:=BA X G q.q33;obtain⟨_,_,aX,aY⟩:=BA X G q.q34;obtain⟨_,_,aZ,ba⟩:=BA X G q.q35;obtain⟨_,_,bb,bc⟩:=BA X G q.q36;obtain⟨_,_,bd,be⟩:=BA X G q.q37;obtain⟨_,_,bf,bg⟩:=BA X G q.q38;obtain⟨_,_,bh,bi⟩:=BA X G q.q39;obtain⟨_,_,bj,bk⟩:=BA X G q.q40;obtain⟨_,_,bl,bm⟩:=BA X G q.q41;obtain⟨_,_,bn,bo⟩:=BA X G q.q42;obtain⟨_,_,bp,bq⟩:=BA X G q.q43;obtain⟨_,_,br,bs⟩:=BA X G q.q44;obtain⟨_,_,bt,bu⟩:=BA X G q.q45;obtain⟨_,_,bv,bw⟩:=BA X G q.q46;obtain⟨_,_,bx,bz⟩:=BA X G q.q47;obtain⟨_,_,b0,b1⟩:=BA X G q.q48;obtain⟨_,_,b2,b3⟩:=BA X G q.q49;obtain⟨_,_,b4,b5⟩:=BA X G q.q50;obtain⟨_,_,b6,b7⟩:=BA X G q.q51;obtain⟨_,_,b8,b9⟩:=BA X G q.q52;obtain⟨_,_,bA,bB⟩:=BA X G q.q53;obtain⟨_,_,bC,bD⟩:=BA X G q.q54;obtain⟨_,_,bE,bF⟩:=BA X G q.q55;have bG:=HL (st:=KD) ae af ag;refine⟨PySem.W.fnOf "law" "law" (KC KD) (II KD) (AS KD) .none bI bJ bK bH bL bM,λs v=>.of_eq rfl,λb ζ ζ=>?_⟩;have bN:UD l.prog w K a b:=fF B D E;have i:OY l.prog w K a b:=fJ B F H;have j:QJ l.prog w K a b:=fM B I J;have bO:UG l.prog w K a b:=fP B j L M;have bP:UJ l.prog w K a b:=fS B j bO N O;have bQ:UL l.prog w K a b:=fU B P Q;have bR:UM l.prog w K a b:=fW B R S;have bS:UN l.prog w K a b:=fZ B T U;have bT:UO l.prog w K a b:=f5 B V W;have bU:UP l.prog w K a b:=f9 B bS bT Y Z;have bV:QU l.prog w K a b:=gC B bN i bP bQ bR bU ah ai;have bW:QV l.prog w K a b:=gI B aj ak;have k:QW l.prog w K a b:=gK B al an;have bX:UR l.prog w K a b:=gM B ao aq;have m:QX l.prog w K a b:=gO B bX ar au;have bY:US l.prog w K a b:=gP B m av aw;have n:QY l.prog w K a b:=gW B k bY ax ay;have bZ:UT l.prog w K a b:=g8 B n az a0;have c:Nv l.prog w K a b:=hE B bZ a1 a2;have ca:UU l.prog w K a b:=hJ B a3 a4;have o:QZ l.prog w K a b:=hU B a5 a6;have cb:UV l.prog w K a b:=iB B ca o a7 a8;have cc:UW l.prog w K a b:=iD B a9 aA;have p:Q0 l.prog w K a b:=iG B cc aB aC;have cd:UX l.prog w K a b:=iI B p c aD aE;have r:Q1 l.prog w K a b:=iJ B aF aG;have cf:UZ l.prog w K a b:=iL B aH aI;have cg:U0 l.prog w K a b:=iO B cf aJ aK;have ch:U1 l.prog w K a b:=iP B cg aL aM;have cj:U3 l.prog w K a b:=iR B aN aO;have ck:U6 l.prog w K a b:=iZ B ch cj r aP aQ;have t:Q3 l.prog w K a b:=i3 B n aR aS;have cl:U7 l.prog w K a b:=i6 B t c aT aU;have cm:U8 l.prog w K a b:=i9 B aV aW;have cn:Q5 l.prog w K a b:=jD B c cb cd r ck cl o cm aX aY;have cp:Q8 l.prog w K a b:=jH B aZ ba;have u:Q9 l.prog w K a b:=jJ B bb bc;have x:Ra l.prog w K a b:=jL B bd be;have cq:U9 l.prog w K a b:=jN B bf bg;have z:Rb l.prog w K a b:=jP B cq bh bi;have cs:Va l.prog w K a b:=jR B u x z bj bk;have ct:Vb l.prog w K a b:=jT B p cs bl bm;have cu:Vc l.prog w K a b:=jV B u x z bn bo;have d:Pe l.prog w K a b:=jX B bp bq;have cv:Vd l.prog w K a b:=jZ B d br bs;have cw:Ve l.prog w K a b:=j1 B d bt bu;have cx:IE l.prog w K a b:=j2 B cu cv cw bv bw;have A:Rc l.prog w K a b:=j6 B c ct cx t m bx bz;have cy:Vf l.prog w K a b:=j8 B b0 b1;have cz:Re l.prog w K a b:=kA B A cy b2 b3;have C:Rf l.prog w K a b:=kC B b4 b5;have c0:Vg l.prog w K a b:=kF B C b6 b7;have c1:Vh l.prog w K a b:=kI B k c0 b8 b9;have c2:Vi l.prog w K a b:=kK B d bA bB;have c3:Vj l.prog w K a b:=kM B c1 c2 C bC bD;have c4:Rg l.prog w K a b:=kN B A c3 bE bF;exact IG B bV bW i cn cp cz c4 bG
def walk{l:PySem.W.OpenLaw}{q:Program}{loose:List Str}{XP:(Str->Option Value)->Heap->Prop}{YP:World->Heap->Prop}{d:DefRec}{K:Params->Aj}(i:l.most=some 63)(r:d.params.defaults=[])
 (j:∀(w:World)(h:Heap),YP w h->(K w.params).In h)
 (F:∀(w:World)(b:Str->Option Value)(e:Addr)(h:Heap),(K w.params).In h->h.Ns mainGlobals b->b d.name=some (.ref e) ->
  ∃g:FuncData,(∀(s:Shared)(u:Value),BindsTo s g ⟨[u],[]⟩ [("_law_script",u)])/\∀c:Heap,(K w.params).In c->c.Ns mainGlobals b->EO l.prog w (K w.params) b c IQ 9 e g ["_law_script"] (Pg (K w.params))) :
 PySem.W.WalkO q loose XP YP l.row.toRowW d [] (λf vs=>PySem.call f vs):=
 L2.Jw (n:=63) (k:=9) (x:= "_law_script") (CX:=λζ=>IQ) (sp:=λw=>Pg (K w.params)) i (by decide) r ⟨rfl,by decide,by decide⟩ j F (λζ ζ a m o ζ p=>⟨a,m,rfl,p,o,λζ=>rfl⟩) λζ ζ ζ ζ ζ z=>z
end K36
open PySem PySem.W PyProof.Rows in
theorem PySem.Challenge.cw_namepaths_k36_walked_and_used_holds : PySem.Challenge.rw_namepaths_k36_walked_and_used.Holds :=
 K36.hd λK q YP d h1 h2 hY=>K36.walk (l:=PySem.Challenge.rw_namepaths_k36_walked_and_used) rfl h1 hY λw mg fa h X G hm=>K36.all_mk X G (h2▸hm) (q w)
